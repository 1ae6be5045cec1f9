import PyProof.Rows.All
import Wide.All
import OpenK.AllK
import Wide.FinOn
import Lean
import PyProof.EqAt
import PyProof.EqKinds
import PyProof.TupleCall
import KE.IntBitsLaws
import PyProof.NeKinds
import KE.KIsAll
import PyProof.ExcAttrAll.ValueError
import KE.RegKIsAll
import OpenK.KOwn
import PyProof.ConsumeWalk
import PyProof.SumWalkG
import PyProof.Rows.SeqCalls
import PyProof.Rows.SeqGen
import PyProof.ZipIter
import PyProof.Rows.ZipGen
import PyProof.Rows.FactsT2
import PyProof.WalkInts
import PyProof.SeqI3
import PyProof.AutoSeq1
import PyProof.WalksEnum
import PyProof.EnumMake
import PyProof.ListRange
import PyProof.ExcInit
import PyProof.InstStoreFacts
import PyProof.Rows.SortShell
import KE.KRevIter
import PyProof.ListNew
import PyProof.CollectIter
import KE.KLam
import KE.KMinKey
import KE.KEqDict
import PyProof.StrCalls2
import PyProof.Rows.StrNews2
import PyProof.SliceStr2
import KE.KIntText
import KE.IntTextLaws
import PyProof.Rows.StrSplitJoin
import PyProof.FitsReplace
import PyProof.StrWalks
import OpenK.ZGo
import PySem.Challenge.RW_hideworth_k81_webs_read
set_option Elab.async false
set_option linter.all false
set_option maxRecDepth 100000
namespace L2
open PySem PySem.Spec PyProof.Rows
abbrev Key:=Sum Int Str
def znk:Key→Value→Bool
 | .inl k,v=>Value.isInt k v
 | .inr x,v=>Value.isStrOf x v
def keyH (w:World):Key→Int
 | .inl k=>hashInt k
 | .inr x=>hashStr w x
theorem zb5:∀ {k:Key} {v:Value},znk k v=true→(∃ i t,k=Sum.inl i∧v=Value.int i t)∨(∃ x t,k=Sum.inr x∧v=Value.str x t)
 | .inl i,v,h=>by
  obtain ⟨t,e⟩:=Value.isInt_shape (k:=i) (v:=v) h
  exact .inl ⟨i,t,rfl,e⟩
 | .inr x,v,h=>by
  obtain ⟨t,e⟩:=Value.isStrOf_shape (x:=x) (v:=v) h
  exact .inr ⟨x,t,rfl,e⟩
theorem zou (i:Int) (t:Tok):znk (.inl i) (.int i t)=true:=by simp [znk,Value.isInt]
theorem znU (x:Str) (t:Tok):znk (.inr x) (.str x t)=true:=by simp [znk,Value.isStrOf]
theorem zuH (a b:Int):decide ((Sum.inl a:Key)=Sum.inl b)=(a == b):=by
 by_cases e:a=b
 ·subst e;simp
 ·have h:¬ (Sum.inl a:Key)=Sum.inl b:=fun q=>e (Sum.inl.inj q)
  rw [decide_eq_false h]
  exact (beq_eq_false_iff_ne.mpr e).symm
theorem zt1 (a b:Str):decide ((Sum.inr a:Key)=Sum.inr b)=decide (a=b):=by
 by_cases e:a=b
 ·subst e;simp
 ·have h:¬ (Sum.inr a:Key)=Sum.inr b:=fun q=>e (Sum.inr.inj q)
  rw [decide_eq_false h,decide_eq_false e]
theorem zud (a:Int) (b:Str):decide ((Sum.inl a:Key)=Sum.inr b)=false:=decide_eq_false (fun q=>nomatch q)
theorem zuK (a:Str) (b:Int):decide ((Sum.inr a:Key)=Sum.inl b)=false:=decide_eq_false (fun q=>nomatch q)
def zcw (prog:Program) (w:World):PySem.KeyKind prog w Key where
 is:=znk
 hash:=keyH w
 inj:=fun v a b ha hb=>by
  rcases zb5 ha with ⟨i,t,rfl,rfl⟩ | ⟨x,t,rfl,rfl⟩
  ·rcases zb5 hb with ⟨j,u,rfl,e⟩ | ⟨y,u,rfl,e⟩
   ·injection e with e1 _;rw [e1]
   ·exact nomatch e
  ·rcases zb5 hb with ⟨j,u,rfl,e⟩ | ⟨y,u,rfl,e⟩
   ·exact nomatch e
   ·injection e with e1 _;rw [e1]
 byValue:=fun k v h=>by
  rcases zb5 h with ⟨i,t,rfl,rfl⟩ | ⟨x,t,rfl,rfl⟩ <;> rfl
 pyHash:=fun hv h=>by
  rcases zb5 hv with ⟨i,t,rfl,rfl⟩ | ⟨x,t,rfl,rfl⟩
  ·exact wpAny_pyHash_int h
  ·exact wpAny_pyHash_str h
 eqBool:=fun hu hv h=>by
  rcases zb5 hu with ⟨i,t,rfl,rfl⟩ | ⟨x,t,rfl,rfl⟩
  ·rcases zb5 hv with ⟨j,u,rfl,rfl⟩ | ⟨y,u,rfl,rfl⟩
   ·rw [zuH] at h;exact wpAny_eqBool_int h
   ·rw [zud] at h;exact SeqAt.EqAt.int_str i t y u _ _ _ _ h
  ·rcases zb5 hv with ⟨j,u,rfl,rfl⟩ | ⟨y,u,rfl,rfl⟩
   ·rw [zuK] at h;exact SeqAt.EqAt.str_int x t j u _ _ _ _ h
   ·rw [zt1] at h;exact wpAny_eqBool_str h
 «strs»:=fun k x t v h=>by
  rcases zb5 h with ⟨i,u,rfl,e⟩ | ⟨y,u,rfl,e⟩
  ·exact nomatch e
  ·injection e with e1 _
   subst e1
   cases v <;> rfl
theorem zkV (prog:Program) (w:World) (i:Int) (t:Tok):(zcw prog w).is (.inl i) (.int i t)=true:=zou i t
theorem zk0 (prog:Program) (w:World) (x:Str) (t:Tok):(zcw prog w).is (.inr x) (.str x t)=true:=znU x t
end L2
namespace L2
open PySem PySem.Spec PyProof.Rows
inductive V where
 | non | bl (b:Bool) | int (i:Int) | str (x:Str) | byt (b:Array UInt8) | flt (b:UInt64) | ref (a:Addr) | ty (n:String)
 deriving DecidableEq
def zcA:V→Value→Prop
 | .non,u=>u=Value.none
 | .bl b,u=>u=Value.bool b
 | .int i,u=>∃ t,u=Value.int i t
 | .str x,u=>∃ t,u=Value.str x t
 | .byt b,u=>∃ t,u=Value.bytes b t
 | .flt b,u=>∃ t,u=Value.float b t
 | .ref a,u=>u=Value.ref a
 | .ty n,u=>u=Value.type n
abbrev zcc:List V→List Value→Prop:=Paired zcA
theorem zcc.length {xs:List V} {us:List Value} (r:zcc xs us):xs.length=us.length:=Paired.length r
theorem zcc.get:∀ {xs:List V} {us:List Value} {i:Nat} {x:V},zcc xs us→xs[i]?=some x→∃ u,us[i]?=some u∧zcA x u
 | _,_,_,_,.nil,e=>by simp at e
 | _,_,0,_,.cons r _,e=>by simp at e;subst e;exact ⟨_,rfl,r⟩
 | _,_,i+1,x,.cons _ t,e=>by
  obtain ⟨u,h1,h2⟩:=zcc.get (i:=i) (x:=x) t (by simpa using e)
  exact ⟨u,by simpa using h1,h2⟩
theorem zcc.append:∀ {xs ys:List V} {us ws:List Value},zcc xs us→zcc ys ws→zcc (xs++ys) (us++ws)
 | _,_,_,_,.nil,s=>s
 | _,_,_,_,.cons r t,s=>.cons r (zcc.append t s)
theorem zcc.take:∀ {xs:List V} {us:List Value} (n:Nat),zcc xs us→zcc (xs.take n) (us.take n)
 | _,_,0,_=>.nil
 | _,_,_+1,.nil=>.nil
 | _,_,n+1,.cons r t=>.cons r (zcc.take n t)
theorem zcc.drop:∀ {xs:List V} {us:List Value} (n:Nat),zcc xs us→zcc (xs.drop n) (us.drop n)
 | _,_,0,r=>r
 | _,_,_+1,.nil=>.nil
 | _,_,n+1,.cons _ t=>zcc.drop n t
def zo3:Option V→Option Value→Prop
 | some v,some u=>zcA v u
 | none,none=>True
 | _,_=>False
def KV {κ:Type}:List (κ×V)→List (κ×Value)→Prop:=Paired fun (p:κ×V) (q:κ×Value)=>p.1=q.1∧zcA p.2 q.2
def kV:Key→V
 | .inl i=>.int i
 | .inr x=>.str x
inductive HO where
  | lst (xs:List V)
  | tup (xs:List V)
  | dK (kvs:List (Key×V)) | dT (kvs:List (List Key×V))
  | set (S:Int→Bool) (n:Nat)
  | ins (C dx:Addr) (fs:List (Str×V))
  | own (x:Addr)
  | xd (fs:List (Str×V))
  | met (f x:Addr)
  | rng (lo hi:Int)
  | frz (o:Obj) (u:HO)
  | tbl (ps:Array Value)
  | ext (φ:Heap→Prop)
abbrev Hp:=Addr→Option HO
def upd (H:Hp) (a:Addr) (o:HO):Hp:=fun b=>if b=a then some o else H b
theorem zaf {H:Hp} {a:Addr} {o:HO}:upd H a o a=some o:=by unfold upd;rw [if_pos rfl]
theorem zax {H:Hp} {a b:Addr} {o:HO} (h:b≠a):upd H a o b=H b:=by unfold upd;rw [if_neg h]
theorem zk7 {H:Hp} {a:Addr} {o u:HO}:upd (upd H a o) a u=upd H a u:=by
 funext b;unfold upd;split <;> rfl
theorem ne_of {H:Hp} {a b:Addr} {o u:HO} (h:H a=some o) (h':H b=some u) (d:o≠u):a≠b:=by
 intro e;subst e;rw [h] at h';exact d (Option.some.inj h')
theorem zaE {H:Hp} {a b:Addr} {o:HO} (h:H a=some o) (h':H b=none):a≠b:=by
 intro e;subst e;rw [h] at h';cases h'
section
variable (P:Program) (w:World)
def zbO (H:Hp) (h:Heap) (a:Addr):HO→Prop
 | .lst xs=>xs.length≤sizeLine∧∃ (its:List Value) (n:Nat),zcc xs its∧h.get? a=some { cls:=.type "list",data:=.seq its.toArray n }
 | .tup xs=>xs.length≤sizeLine∧∃ its:List Value,zcc xs its∧IsTup h a its.toArray
 | .dK kvs=>kvs.length≤sizeLine∧(a == sysModules)=false∧∃ vs,KV kvs vs∧h.DictOf (zcw P w) a vs
 | .dT kvs=>kvs.length≤sizeLine∧(a == sysModules)=false∧∃ xs:List (List Key×Addr×Value),
   Paired (fun (p:List Key×V) (q:List Key×Addr×Value)=>p.1=q.1∧H q.2.1=some (.tup (p.1.map kV))∧zcA p.2 q.2.2) kvs xs ∧
   ∃ o es ep,h.get? a=some o∧o.ExactDict∧o.data=.dict es ep∧es.toList=xs.map (entryOfKey (tupleKind (zcw P w)))∧(xs.map (·.1)).Nodup
 | .set S n=>h.SetOf (intKind P w) a S n
 | .ins C dx fs=>H dx=some (.own a)∧fs.length≤1000∧dx≠a∧h.get? a=some (PySem.W.instObj C dx) ∧
   ∃ mA,h.Ns1 dx mA∧(∀ f,zo3 (fs.lookup f) (mA f))∧PySem.Within mA (fs.map (·.1))
 | .own _=>∃ o,h.get? a=some o
 | .xd fs=>∃ mA,h.Ns1 a mA∧∀ f,zo3 (fs.lookup f) (mA f)
 | .rng lo hi=>∃ t u v,h.get? a=some { cls:=.type "range",data:=.fields #[.int lo t,.int hi u,.int 1 v] }
 | .frz o u=>h.get? a=some o∧zbO H h a u
 | .tbl ps=>h.get? a=some { cls:=.none,data:=.fields ps }
 | .met f x=>h.get? a=some (PySem.W.methodObj (.ref f) (.ref x))
 | .ext φ=>φ h∧(∃ o,h.get? a=some o)∧∀ h1 h2:Heap,φ h1→(∀ o,h1.get? a=some o→h2.get? a=some o)→φ h2
def HOk (H:Hp) (h:Heap):Prop:=∀ a o,H a=some o→zbO P w H h a o
end
section
variable {P:Program} {w:World} {H H':Hp} {h h':Heap} {a:Addr} {o:HO}
theorem zbO.lt (x:zbO P w H h a o):a<h.objs.size:=by
 cases o with
 | lst xs=>obtain ⟨_,_,_,_,e⟩:=x;exact Heap.lt_size e
 | tup xs=>obtain ⟨_,_,_,p⟩:=x;exact p.lt
 | dK kvs=>obtain ⟨_,_,_,_,o,_,_,e,_⟩:=x;exact Heap.lt_size e
 | dT kvs=>obtain ⟨_,_,_,_,o,_,_,e,_⟩:=x;exact Heap.lt_size e
 | set S n=>obtain ⟨o,_,_,_,e,_⟩:=x;exact Heap.lt_size e
 | ins C dx fs=>obtain ⟨_,_,_,e,_⟩:=x;exact Heap.lt_size e
 | own y=>obtain ⟨_,e⟩:=x;exact Heap.lt_size e
 | xd fs=>obtain ⟨_,⟨_,_,_,e,_⟩,_⟩:=x;exact Heap.lt_size e
 | rng lo hi=>obtain ⟨_,_,_,e⟩:=x;exact Heap.lt_size e
 | frz ob u=>obtain ⟨e,_⟩:=x;exact Heap.lt_size e
 | tbl ps=>exact Heap.lt_size (show h.get? a=some _ from x)
 | met f y=>exact Heap.lt_size (show h.get? a=some _ from x)
 | ext φ=>obtain ⟨_,⟨_,e⟩,_⟩:=x;exact Heap.lt_size e
theorem Paired.mapP {α β:Type} {F G:α→β→Prop}:∀ {l₁:List α} {l₂:List β},Paired F l₁ l₂→(∀ a b,F a b→G a b)→Paired G l₁ l₂
 | _,_,.nil,_=>.nil
 | _,_,.cons r t,f=>.cons (f _ _ r) (Paired.mapP t f)
theorem zbO.stay (x:zbO P w H h a o) (k:∀ b u,(b=a∨H b=some (.own a))→h.get? b=some u→h'.get? b=some u)
  (ho:∀ b,H b=some (.own a)→H' b=some (.own a)) (ht:∀ b xs,H b=some (.tup xs)→H' b=some (.tup xs)):zbO P w H' h' a o:=by
 induction o with
 | lst xs=>obtain ⟨z,its,n,r,e⟩:=x;exact ⟨z,its,n,r,k _ _ (.inl rfl) e⟩
 | tup xs=>obtain ⟨z,its,r,ob,e,c⟩:=x;exact ⟨z,its,r,ob,k _ _ (.inl rfl) e,c⟩
 | dK kvs=>obtain ⟨z,y,vs,r,ob,es,ep,e,c⟩:=x;exact ⟨z,y,vs,r,ob,es,ep,k _ _ (.inl rfl) e,c⟩
 | dT kvs =>
  obtain ⟨z,y,xs,r,ob,es,ep,e,c⟩:=x
  exact ⟨z,y,xs,Paired.mapP r fun p q z=>⟨z.1,ht _ _ z.2.1,z.2.2⟩,ob,es,ep,k _ _ (.inl rfl) e,c⟩
 | set S n=>obtain ⟨ob,es,ep,t,e,c⟩:=x;exact ⟨ob,es,ep,t,k _ _ (.inl rfl) e,c⟩
 | ins C dx fs =>
  obtain ⟨d,z,ne,e,mA,⟨od,es,ep,e2,c⟩,r⟩:=x
  exact ⟨ho _ d,z,ne,k _ _ (.inl rfl) e,mA,⟨od,es,ep,k _ _ (.inr d) e2,c⟩,r⟩
 | own y=>obtain ⟨ob,e⟩:=x;exact ⟨ob,k _ _ (.inl rfl) e⟩
 | xd fs=>obtain ⟨mA,⟨od,es,ep,e,c⟩,r⟩:=x;exact ⟨mA,⟨od,es,ep,k _ _ (.inl rfl) e,c⟩,r⟩
 | rng lo hi=>obtain ⟨t,u,v,e⟩:=x;exact ⟨t,u,v,k _ _ (.inl rfl) e⟩
 | frz ob u ih=>obtain ⟨e,q⟩:=x;exact ⟨k _ _ (.inl rfl) e,ih q⟩
 | tbl ps =>
  have e:h.get? a=some { cls:=.none,data:=.fields ps }:=x
  show h'.get? a=some { cls:=.none,data:=.fields ps }
  exact k a _ (.inl rfl) e
 | met f y =>
  have e:h.get? a=some (PySem.W.methodObj (.ref f) (.ref y)):=x
  show h'.get? a=some (PySem.W.methodObj (.ref f) (.ref y))
  exact k a _ (.inl rfl) e
 | ext φ=>obtain ⟨p,⟨o,e⟩,st⟩:=x;exact ⟨st _ _ p fun o q=>k _ _ (.inl rfl) q,⟨o,k _ _ (.inl rfl) e⟩,st⟩
theorem HOk.lt (x:HOk P w H h) (e:H a=some o):a<h.objs.size:=(x a o e).lt
theorem HOk.fresh (x:HOk P w H h) (e:h.objs.size≤a):H a=none:=by
 cases q:H a with
 | none=>rfl
 | some u=>exact absurd (Nat.lt_of_lt_of_le (x.lt q) e) (Nat.lt_irrefl _)
theorem HOk.kept (x:HOk P w H h) (k:∀ b u,h.get? b=some u→h'.get? b=some u):HOk P w H h':=fun a o e =>
 (x a o e).stay (fun b u _ q=>k b u q) (fun _ q=>q) fun _ _ q=>q
theorem HOk.laid (x:HOk P w H h) (k:∀ b u,h.get? b=some u→h'.get? b=some u) (hp:h.objs.size≤a) (new:zbO P w (upd H a o) h' a o):HOk P w (upd H a o) h':=fun b u e=>by
 have hn:=x.fresh hp
 by_cases hb:b=a
 ·subst hb;rw [zaf] at e;cases e;exact new
 ·rw [zax hb] at e
  exact (x b u e).stay (fun c v _ q=>k c v q) (fun c q=>by rw [zax (zaE q hn)];exact q) fun c xs q=>by rw [zax (zaE q hn)];exact q
end
def Rd (H:Hp) (a:Addr) (u:HO):Prop:=H a=some u∨∃ o,H a=some (.frz o u)
theorem Rd.ok {P:Program} {w:World} {H:Hp} {h:Heap} {a:Addr} {u:HO} (r:Rd H a u) (x:HOk P w H h):zbO P w H h a u:=by
 rcases r with r | ⟨o,r⟩
 ·exact x a u r
 ·obtain ⟨_,q⟩:=x a _ r
  exact q
def Mut:Option HO→Prop
 | some (.lst _)=>True
 | some (.dK _)=>True
 | some (.dT _)=>True
 | some (.set _ _)=>True
 | some (.ins _ _ _)=>True
 | some (.ext _)=>True
 | _=>False
section
variable {P:Program} {w:World} {H:Hp} {h h':Heap} {x e:Addr} {o':HO}
theorem HOk.write (ok:HOk P w H h) (mu:Mut (H x)) (he:e=x∨H e=some (.own x)) (k:∀ b u,b≠e→h.get? b=some u→h'.get? b=some u) (heo:∃ u,h'.get? e=some u)
  (new:zbO P w (upd H x o') h' x o'):HOk P w (upd H x o') h':=fun b u q=>by
 have nown:∀ c y,H c=some (.own y)→c≠x:=fun c y r z=>by subst z;rw [r] at mu;exact mu
 have ntup:∀ c xs,H c=some (.tup xs)→c≠x:=fun c xs r z=>by subst z;rw [r] at mu;exact mu
 by_cases hb:b=x
 ·subst hb;rw [zaf] at q;cases q;exact new
 ·rw [zax hb] at q
  by_cases hbe:b=e
  ·have q':H b=some (.own x):=by
    rcases he with z | z
    ·exact absurd (hbe.trans z) hb
    ·rw [hbe];exact z
   rw [q] at q';cases q'
   obtain ⟨v,hv⟩:=heo
   exact ⟨v,by rw [hbe];exact hv⟩
  ·refine (ok b u q).stay (fun c v hc r=>k c v ?_ r) (fun c r=>by rw [zax (nown c b r)];exact r) fun c xs r=>by rw [zax (ntup c xs r)];exact r
   rcases hc with rfl | hc
   ·exact hbe
   ·rintro rfl
    rcases he with z | z
    ·exact nown c b hc z
    ·rw [hc] at z;cases z;exact hb rfl
end
structure Un (fs ex:List Addr) (H H':Hp) (h h':Heap):Prop where
 keep:∀ b o,h.get? b=some o→H b=none→b∉fs→b∉ex→h'.get? b=some o
 slot:∀ b o,h.get? b=some o→H b=none→b∈fs→b∉ex→∃ sl,h'.get? b=some { o with slots:=sl }
 free:∀ b o,h.get? b=some o→H b=none→b∉ex→H' b=none
 there:∀ b o,h.get? b=some o→b∉ex→∃ o',h'.get? b=some o'
 tups:∀ b xs,H b=some (.tup xs)→H' b=some (.tup xs)
 frzs:∀ b o u,H b=some (.frz o u)→H' b=some (.frz o u)
 tbls:∀ b ps,H b=some (.tbl ps)→∃ more,H' b=some (.tbl (ps++more))
section
variable {fs fs' ex ex':List Addr} {H H1 H2:Hp} {h h1 h2 h':Heap} {a x e:Addr} {o:HO}
theorem Un.any (u:Un fs ex H H1 h h1) {b:Addr} {ob:Obj} (q:h.get? b=some ob) (n:H b=none) (hx:b∉ex):∃ sl,h1.get? b=some { ob with slots:=sl }:=by
 by_cases hb:b∈fs
 ·exact u.slot b ob q n hb hx
 ·exact ⟨ob.slots,u.keep b ob q n hb hx⟩
theorem Un.kept (k:∀ b u,h.get? b=some u→h'.get? b=some u):Un fs ex H H h h' :=
 ⟨fun b ob q _ _ _=>k b ob q,fun b ob q _ _ _=>⟨ob.slots,k b ob q⟩,fun _ _ _ n _=>n,fun b ob q _=>⟨ob,k b ob q⟩,fun _ _ q=>q,fun _ _ _ q=>q,fun _ ps q=>⟨#[],by rw [q];simp⟩⟩
theorem Un.refl:Un fs ex H H h h:=Un.kept fun _ _ q=>q
theorem Un.laid (k:∀ b u,h.get? b=some u→h'.get? b=some u) (hp:h.objs.size≤a) (hn:H a=none):Un fs ex H (upd H a o) h h' where
 keep:=fun b u q _ _ _=>k b u q
 slot:=fun b u q _ _ _=>⟨u.slots,k b u q⟩
 free:=fun b u q n _=>by rw [zax (Nat.ne_of_lt (Nat.lt_of_lt_of_le (Heap.lt_size q) hp))];exact n
 there:=fun b u q _=>⟨u,k b u q⟩
 tups:=fun b xs q=>by rw [zax (zaE q hn)];exact q
 frzs:=fun b u xs q=>by rw [zax (zaE q hn)];exact q
 tbls:=fun b ps q=>⟨#[],by rw [zax (zaE q hn),q];simp⟩
theorem Un.write (mu:Mut (H x)) (he:e=x∨H e=some (.own x)) (k:∀ b u,b≠e→h.get? b=some u→h'.get? b=some u) (heo:∃ u,h'.get? e=some u):Un fs ex H (upd H x o) h h':=by
 have hx:∀ b,H b=none→b≠x:=fun b n z=>by subst z;rw [n] at mu;exact mu
 have hb:∀ b,H b=none→b≠e:=fun b n z=>by
  subst z
  rcases he with r | r
  ·exact hx b n r
  ·rw [n] at r;cases r
 have hm:∀ b u,H b=some u→¬ Mut (some u)→b≠x:=fun b u q nm z=>by subst z;rw [q] at mu;exact nm mu
 refine ⟨fun b u q n _ _=>k b u (hb b n) q,fun b u q n _ _=>⟨u.slots,k b u (hb b n) q⟩,fun b u q n _=>by rw [zax (hx b n)];exact n,fun b u q _=>?_,
  fun b xs q=>by rw [zax (hm b _ q fun z=>z)];exact q,fun b u xs q=>by rw [zax (hm b _ q fun z=>z)];exact q,fun b ps q=>⟨#[],by rw [zax (hm b _ q fun z=>z),q];simp⟩⟩
 by_cases hbe:b=e
 ·subst hbe;exact heo
 ·exact ⟨u,k b u hbe q⟩
end
def trk (h:Heap) (H:Hp):List Addr:=(List.range h.objs.size).filter fun a=>(H a).isSome
def zob (h:Heap) (H:Hp):Heap:=PySem.W.hideAll h (trk h H)
theorem zoz (h:Heap) (H:Hp):(zob h H).objs.size=h.objs.size:=PySem.W.hideAll_size _ _
theorem zp4 {h:Heap} {H:Hp} {b:Addr} {o:Obj} (e:h.get? b=some o) (n:H b=none):(zob h H).get? b=some o :=
 PySem.W.hideAll_get _ e fun hm=>by
  have q:(H b).isSome=true:=(List.mem_filter.mp hm).2
  rw [n] at q;simp at q
theorem zsh {h:Heap} {H:Hp} {b:Addr} {o:Obj} (e:(zob h H).get? b=some o):h.get? b=some o∧H b=none:=by
 have e':h.get? b=some o:=PySem.W.of_hideAll (trk h H) e
 refine ⟨e',?_⟩
 cases q:H b with
 | none=>rfl
 | some x =>
  have hm:b∈trk h H:=List.mem_filter.mpr ⟨List.mem_range.mpr (Heap.lt_size e'),by simp [q]⟩
  have z:(zob h H).get? b=none:=PySem.W.hideAll_none (trk h H) hm
  rw [z] at e;cases e
def zsV (g h:Heap) (L:Addr):List (Addr×Obj):=(List.range h.objs.size).filterMap fun a=>if a=L∨(g.get? a).isSome=true then none else (h.get? a).map fun o=>(a,o)
def zkR (g h:Heap) (L d:Addr):List (Addr×Obj):=(zsV g h L).filter fun p=>decide (p.1≠d)
end L2
namespace L2
open PySem PySem.Spec PyProof.Rows
structure Mod (K:PySem.W.Frag) (mg:Str→Option Value) (base:Heap):Prop where
 kin:K.In base
 glob:base.Ns mainGlobals mg
 blt:∃ mb,base.Ns builtinsNs mb∧∀ x:Str,x≠"__name__"→mb x=bootBuiltins x
 nolimit:base.NoLimit
structure Cx where
 prog:Program
 w:World
 K:PySem.W.Frag
 mg:Str→Option Value
 base:Heap
 A:Around
 N:List Str
 s₀:Shared
 H₀:Hp
 env:Env
 outer:List Env
 stack:List Env
 ex:List Addr
 fn:Str→Bool
 calm:Bool
 pn:List (Addr×Obj)
 xe:Value→Shared→Prop
def frs (l:List Env):List Addr:=l.filterMap (·.frame)
abbrev Cx.fs (X:Cx):List Addr:=frs X.outer
def Vis (sc:Scope) (x:Str):Prop:=sc.names.lookup x=some .local∨sc.names.lookup x=some .cell∨sc.names.lookup x=some .free
def Loc (sc:Scope) (x:Str):Prop:=sc.names.lookup x=some .local∨sc.names.lookup x=some .cell
def Look (env:Env) (h:Heap) (m:Str→Option Value) (x:Str) (u:Value):Prop :=
 (env.kindOf x=some .local∧m x=some u)∨((env.kindOf x=some .cell∨env.kindOf x=some .free)∧∃ c,env.cells.lookup x=some c∧h.IsCell c (some u))
structure Cx.Ok (X:Cx):Prop where
 mod:Mod X.K X.mg X.base
 kind:X.env.scope.kind=.function
 glob:X.env.globals=mainGlobals
 blt:X.env.builtins=builtinsNs
 above:X.s₀.heap.objs.size≤X.env.locals
 inj:∀ x y c,X.env.cells.lookup x=some c→X.env.cells.lookup y=some c→x=y
 has:∀ x,(X.env.kindOf x=some .cell∨X.env.kindOf x=some .free)→∃ c,X.env.cells.lookup x=some c
 cab:∀ x c,X.fn x=true→X.env.cells.lookup x=some c→X.s₀.heap.objs.size≤c
 hd:X.calm=true→X.A.handled=none
 frames:X.A.frames=some X.stack
 stk:X.stack=X.outer∨(X.stack=X.env::X.outer∧X.env.frame=some X.env.locals)
 exf:∀ b∈X.ex,b≠X.env.locals∧∀ x c,X.env.cells.lookup x=some c→c≠b
 bs:∀ b o,X.base.get? b=some o→X.s₀.heap.get? b=some o∧X.H₀ b=none
 bsz:X.base.objs.size≤X.s₀.heap.objs.size
 noex:∀ b o,X.base.get? b=some o→b∉X.ex
 exfs:∀ b∈X.ex,b∉X.fs
 funs:X.s₀.heap.FunFrames X.base X.outer
 frf:∀ b∈X.fs,X.H₀ b=none
structure Inv (X:Cx) (pins:List (Addr×Obj)) (σ:List (Option V)) (H:Hp) (s:Shared):Prop where
 ok:X.Ok
 os:s.os=X.s₀.os
 bare:AllBare s.gens
 base:Un X.fs X.ex X.H₀ H X.s₀.heap s.heap
 loc:∃ m,s.heap.Ns X.env.locals m∧∀ (i:Nat) (x:Str) (v:V),X.N[i]?=some x→σ[i]?=some (some v)→Vis X.env.scope x→∃ u,zcA v u∧Look X.env s.heap m x u
 cell:∀ x c,X.env.cells.lookup x=some c→∃ v,s.heap.IsCell c v
 free:H X.env.locals=none
 freeC:∀ x c,X.env.cells.lookup x=some c→H c=none
 pin:∀ p∈X.pn++pins,s.heap.get? p.1=some p.2∧H p.1=none∧p.1≠X.env.locals∧p.1∉X.fs∧∀ v,p.2.data≠.cell v
 hok:HOk X.prog X.w H s.heap
 len:σ.length=X.N.length
section
variable {X:Cx} {pins:List (Addr×Obj)} {σ:List (Option V)} {H H':Hp} {s:Shared} {h':Heap}
theorem Cx.Ok.nofr (ok:X.Ok) {b:Addr} {o:Obj} (e:X.base.get? b=some o):b∉X.fs:=fun hb=>by
 have:=(ok.funs.mem hb).1
 rw [e] at this;cases this
theorem Inv.bs (I:Inv X pins σ H s):∀ b o,X.base.get? b=some o→s.heap.get? b=some o∧H b=none:=fun b o e =>
 ⟨I.base.keep b o (I.ok.bs b o e).1 (I.ok.bs b o e).2 (I.ok.nofr e) (I.ok.noex b o e),I.base.free b o (I.ok.bs b o e).1 (I.ok.bs b o e).2 (I.ok.noex b o e)⟩
theorem Inv.bk (I:Inv X pins σ H s):∀ b o,X.base.get? b=some o→s.heap.get? b=some o:=fun b o e=>(I.bs b o e).1
theorem Inv.mod (I:Inv X pins σ H s):Mod X.K X.mg X.base:=I.ok.mod
theorem Inv.kIn (I:Inv X pins σ H s):X.K.In s.heap:=I.ok.mod.kin.keeps I.bk
theorem Inv.lt (I:Inv X pins σ H s):X.env.locals<s.heap.objs.size:=let ⟨_,hn,_⟩:=I.loc;hn.lt
theorem Inv.sz (I:Inv X pins σ H s):X.s₀.heap.objs.size≤s.heap.objs.size:=Nat.le_trans I.ok.above (Nat.le_of_lt I.lt)
theorem Inv.nofs (I:Inv X pins σ H s) {a:Addr} (h:s.heap.objs.size≤a):a∉X.fs:=fun hb=>by
 obtain ⟨_,o,ho,_⟩:=I.ok.funs.mem hb
 exact absurd (Nat.lt_of_lt_of_le (Heap.lt_size ho) (Nat.le_trans I.sz h)) (Nat.lt_irrefl _)
theorem Inv.cne (I:Inv X pins σ H s):∀ x c,X.env.cells.lookup x=some c→c≠X.env.locals:=fun x c e z=>by
 obtain ⟨v,o,ho,hd⟩:=I.cell x c e
 obtain ⟨m,⟨o',es,ep,ho',hd',_⟩,_⟩:=I.loc
 rw [z,ho'] at ho;cases ho;rw [hd'] at hd;cases hd
theorem Inv.funs (I:Inv X pins σ H s):s.heap.FunFrames X.base X.outer:=by
 have all:∀ (l:List Env),(∀ b∈frs l,b∈X.fs)→X.s₀.heap.FunFrames X.base l→s.heap.FunFrames X.base l:=by
  intro l
  induction l with
  | nil=>intro _ _;trivial
  | cons env r ih =>
   intro hs hl
   obtain ⟨hk,⟨L,o,hf,hn,ho,hd⟩,hr⟩:=hl
   have hL:L∈X.fs:=hs L (by unfold frs;rw [List.filterMap_cons,hf];exact List.mem_cons_self)
   obtain ⟨sl,e⟩:=I.base.slot L o ho (I.ok.frf L hL) hL fun z=>I.ok.exfs L z hL
   exact ⟨hk,⟨L,_,hf,hn,e,hd⟩,ih (fun b hb=>hs b (by unfold frs;rw [List.filterMap_cons,hf];exact List.mem_cons_of_mem _ hb)) hr⟩
 exact all X.outer (fun _ hb=>hb) I.ok.funs
theorem Inv.stack (I:Inv X pins σ H s):s.heap.FunFrames X.base X.stack:=by
 rcases I.ok.stk with e | ⟨e,hf⟩
 ·rw [e];exact I.funs
 ·rw [e]
  obtain ⟨m,hn,_⟩:=I.loc
  refine .cons (by rw [I.ok.kind];decide) hf hn ?_ I.funs
  exact Heap.get?_none_of_le (Nat.le_trans I.ok.bsz I.ok.above)
theorem Inv.stkSub (I:Inv X pins σ H s):∀ b∈frs X.stack,b∈X.env.locals::X.fs:=fun b hb=>by
 rcases I.ok.stk with e | ⟨e,hf⟩
 ·rw [e] at hb;exact List.mem_cons_of_mem _ hb
 ·rw [e] at hb
  unfold frs at hb
  rw [List.filterMap_cons,hf] at hb
  exact hb
theorem Inv.stkFree (I:Inv X pins σ H s):∀ b∈frs X.stack,H b=none:=fun b hb=>by
 rcases List.mem_cons.mp (I.stkSub b hb) with e | hb
 ·rw [e];exact I.free
 ·obtain ⟨_,o,ho,_⟩:=I.ok.funs.mem hb
  exact I.base.free b o ho (I.ok.frf b hb) fun z=>I.ok.exfs b z hb
theorem Inv.step {g':Array GenState} {t':Nat} {d':Drawn} {ch:List Addr} (I:Inv X pins σ H s)
  (hch:∀ b∈ch,(b∈X.ex∨X.s₀.heap.objs.size≤b)∧b≠X.env.locals∧(∀ x c,X.env.cells.lookup x=some c→c≠b)∧∀ p∈X.pn++pins,p.1≠b)
  (keep:∀ b o,b≠X.env.locals→b∉X.fs→b∉ch→s.heap.get? b=some o→H b=none→h'.get? b=some o)
  (slot:∀ b o,b≠X.env.locals→b∈X.fs→b∉ch→s.heap.get? b=some o→H b=none→∃ sl,h'.get? b=some { o with slots:=sl }) (free:∀ b o,b∉ch→s.heap.get? b=some o→H b=none→H' b=none)
  (there:∀ b o,b∉ch→s.heap.get? b=some o→∃ o',h'.get? b=some o')
  (tups:∀ b xs,H b=some (.tup xs)→H' b=some (.tup xs)) (frzs:∀ b o u,H b=some (.frz o u)→H' b=some (.frz o u)) (tbls:∀ b ps,H b=some (.tbl ps)→∃ more,H' b=some (.tbl (ps++more)))
  (ns:∀ m,s.heap.Ns X.env.locals m→h'.Ns X.env.locals m) (hok:HOk X.prog X.w H' h') (hg:AllBare g') :
  Inv X pins σ H' { s with heap:=h',gens:=g',drawn:=d',toks:=t' }:=by
 have neL:∀ b o,X.s₀.heap.get? b=some o→b≠X.env.locals:=fun b o e=>Nat.ne_of_lt (Nat.lt_of_lt_of_le (Heap.lt_size e) I.ok.above)
 have neC:∀ b o,X.s₀.heap.get? b=some o→b∉X.ex→b∉ch:=fun b o e hx hb=>by
  rcases (hch b hb).1 with z | z
  ·exact hx z
  ·exact absurd (Nat.lt_of_lt_of_le (Heap.lt_size e) z) (Nat.lt_irrefl _)
 have cellK:∀ x c,X.env.cells.lookup x=some c→∀ v,s.heap.IsCell c v→h'.IsCell c v:=fun x c e v ⟨o,ho,hd⟩=>by
  have nch:c∉ch:=fun z=>(hch c z).2.2.1 x c e rfl
  by_cases hc:c∈X.fs
  ·obtain ⟨sl,q⟩:=slot c o (I.cne x c e) hc nch ho (I.freeC x c e)
   exact ⟨_,q,hd⟩
  ·exact ⟨o,keep c o (I.cne x c e) hc nch ho (I.freeC x c e),hd⟩
 refine ⟨I.ok,I.os,hg,⟨fun b o e n hb hx=>?_,fun b o e n hb hx=>?_,fun b o e n hx=>?_,fun b o e hx=>?_,fun b xs e=>tups b xs (I.base.tups b xs e),fun b o xs e=>frzs b o xs (I.base.frzs b o xs e),fun b ps e=>?_⟩,?_,fun x c e=>?_,?_,fun x c e=>?_,fun p hp=>?_,hok,I.len⟩
 ·exact keep b o (neL b o e) hb (neC b o e hx) (I.base.keep b o e n hb hx) (I.base.free b o e n hx)
 ·obtain ⟨sl,e1⟩:=I.base.slot b o e n hb hx
  obtain ⟨sl',e2⟩:=slot b _ (neL b o e) hb (neC b o e hx) e1 (I.base.free b o e n hx)
  exact ⟨sl',e2⟩
 ·obtain ⟨o',e1⟩:=I.base.there b o e hx
  exact free b o' (neC b o e hx) e1 (I.base.free b o e n hx)
 ·obtain ⟨o',e1⟩:=I.base.there b o e hx
  exact there b o' (neC b o e hx) e1
 ·obtain ⟨m1,e1⟩:=I.base.tbls b ps e
  obtain ⟨m2,e2⟩:=tbls b _ e1
  exact ⟨m1++m2,by rw [e2,Array.append_assoc]⟩
 ·obtain ⟨m,hn,hl⟩:=I.loc
  refine ⟨m,ns m hn,fun i x v e1 e2 e3=>?_⟩
  obtain ⟨u,r,l⟩:=hl i x v e1 e2 e3
  refine ⟨u,r,?_⟩
  rcases l with l | ⟨k,c,e,z⟩
  ·exact .inl l
  ·exact .inr ⟨k,c,e,cellK x c e _ z⟩
 ·obtain ⟨v,z⟩:=I.cell x c e
  exact ⟨v,cellK x c e v z⟩
 ·obtain ⟨m,⟨o,_,_,ho,_⟩,_⟩:=I.loc
  exact free _ o (fun z=>(hch _ z).2.1 rfl) ho I.free
 ·obtain ⟨v,o,ho,hd⟩:=I.cell x c e
  exact free c o (fun z=>(hch c z).2.2.1 x c e rfl) ho (I.freeC x c e)
 ·obtain ⟨e,n,ne,nf,d⟩:=I.pin p hp
  have nch:p.1∉ch:=fun z=>(hch p.1 z).2.2.2 p hp rfl
  exact ⟨keep p.1 p.2 ne nf nch e n,free p.1 p.2 nch e n,ne,nf,d⟩
theorem Inv.un {t':Nat} (I:Inv X pins σ H s) (u:Un X.fs [] H H' s.heap h') (hok:HOk X.prog X.w H' h'):Inv X pins σ H' { s with heap:=h',toks:=t' }:=by
 obtain ⟨m,⟨o,es,ep,ho,r⟩,_⟩:=id I.loc
 obtain ⟨sl,hL⟩:=u.any ho I.free (by simp)
 exact I.step (g':=s.gens) (d':=s.drawn) (ch:=[]) (fun _ z=>nomatch z) (fun b o _ hb _ e n=>u.keep b o e n hb (by simp)) (fun b o _ hb _ e n=>u.slot b o e n hb (by simp)) (fun b o _ e n=>u.free b o e n (by simp)) (fun b o _ e=>u.there b o e (by simp)) u.tups u.frzs u.tbls (fun m' hm=>by
  obtain ⟨o',es',ep',ho',r'⟩:=hm
  rw [ho] at ho';cases ho'
  exact ⟨_,es',ep',hL,r'⟩) hok I.bare
theorem Inv.call {g':Array GenState} {t':Nat} {d':Drawn} {ch:List Addr} (I:Inv X pins σ H s) (u:Un (frs X.stack) ch H H' s.heap h') (hok:HOk X.prog X.w H' h') (hg:AllBare g')
  (hch:∀ b∈ch,(b∈X.ex∨X.s₀.heap.objs.size≤b)∧b≠X.env.locals∧(∀ x c,X.env.cells.lookup x=some c→c≠b)∧∀ p∈X.pn++pins,p.1≠b) :
  Inv X pins σ H' { s with heap:=h',gens:=g',drawn:=d',toks:=t' }:=by
 obtain ⟨m,⟨o,es,ep,ho,r⟩,_⟩:=id I.loc
 obtain ⟨sl,hL⟩:=u.any ho I.free fun z=>(hch _ z).2.1 rfl
 exact I.step (ch:=ch) hch (fun b o hL hb hc e n=>u.keep b o e n (fun z=>(List.mem_cons.mp (I.stkSub b z)).elim hL hb) hc) (fun b o _ _ hc e n=>u.any e n hc) (fun b o hc e n=>u.free b o e n hc) (fun b o hc e=>u.there b o e hc) u.tups u.frzs u.tbls (fun m' hm=>by
  obtain ⟨o',es',ep',ho',r'⟩:=hm
  rw [ho] at ho';cases ho'
  exact ⟨_,es',ep',hL,r'⟩) hok hg
theorem Inv.turned {t':Nat} {it:Addr} (I:Inv X pins σ H s) (k:∀ b o,b≠it→s.heap.get? b=some o→h'.get? b=some o) (hn:H it=none) (hL:it≠X.env.locals)
  (h1:it∈X.ex∨X.s₀.heap.objs.size≤it) (h2:∀ x c,X.env.cells.lookup x=some c→c≠it) (h3:∀ p∈X.pn++pins,p.1≠it):Inv X pins σ H { s with heap:=h',toks:=t' }:=by
 have nit:∀ b u,H b=some u→b≠it:=fun b u e z=>by rw [z,hn] at e;cases e
 refine I.step (g':=s.gens) (d':=s.drawn) (ch:=[it]) (fun b hb=>?_) (fun b o _ _ hc e _=>k b o (fun z=>hc (by simp [z])) e) (fun b o _ _ hc e _=>⟨o.slots,k b o (fun z=>hc (by simp [z])) e⟩) (fun _ _ _ _ n=>n)
  (fun b o hc e=>⟨o,k b o (fun z=>hc (by simp [z])) e⟩) (fun _ _ e=>e) (fun _ _ _ e=>e) (fun b ps e=>⟨#[],by rw [e];simp⟩) (fun m hm=>?_) (fun b u e=>?_) I.bare
 ·have e:b=it:=by simpa using hb
  subst e
  exact ⟨h1,hL,h2,h3⟩
 ·obtain ⟨o,es,ep,ho,r⟩:=hm
  exact ⟨o,es,ep,k _ o (Ne.symm hL) ho,r⟩
 ·refine (I.hok b u e).stay (fun c v hc q=>k c v ?_ q) (fun _ q=>q) fun _ _ q=>q
  rcases hc with z | z
  ·rw [z];exact nit b u e
  ·exact nit c _ z
theorem Inv.tok (I:Inv X pins σ H s) (t:Nat):Inv X pins σ H { s with toks:=t }:=I.un (h':=s.heap) (t':=t) Un.refl I.hok
theorem Inv.kept {t':Nat} (I:Inv X pins σ H s) (k:∀ b u,s.heap.get? b=some u→h'.get? b=some u):Inv X pins σ H { s with heap:=h',toks:=t' }:=I.un (Un.kept k) (I.hok.kept k)
theorem Inv.laid {a:Addr} {o:HO} {t':Nat} (I:Inv X pins σ H s) (k:∀ b u,s.heap.get? b=some u→h'.get? b=some u) (hp:s.heap.objs.size≤a) (new:zbO X.prog X.w (upd H a o) h' a o) :
  Inv X pins σ (upd H a o) { s with heap:=h',toks:=t' }:=I.un (Un.laid k hp (I.hok.fresh hp)) (I.hok.laid k hp new)
theorem Inv.write {x e:Addr} {o:HO} {t':Nat} (I:Inv X pins σ H s) (mu:Mut (H x)) (he:e=x∨H e=some (.own x)) (k:∀ b u,b≠e→s.heap.get? b=some u→h'.get? b=some u) (heo:∃ u,h'.get? e=some u)
  (new:zbO X.prog X.w (upd H x o) h' x o):Inv X pins σ (upd H x o) { s with heap:=h',toks:=t' }:=I.un (Un.write mu he k heo) (I.hok.write mu he k heo new)
theorem Inv.pins_of {pins':List (Addr×Obj)} (I:Inv X pins σ H s) (h:∀ p∈pins',s.heap.get? p.1=some p.2∧H p.1=none∧p.1≠X.env.locals∧p.1∉X.fs∧∀ v,p.2.data≠.cell v):Inv X pins' σ H s :=
 ⟨I.ok,I.os,I.bare,I.base,I.loc,I.cell,I.free,I.freeC,fun p hp=>(List.mem_append.mp hp).elim (fun z=>I.pin p (List.mem_append_left _ z)) (h p),I.hok,I.len⟩
theorem zi9 {N:List Str} (hN:N.Nodup) {i j:Nat} {x:Str} (a:N[i]?=some x) (b:N[j]?=some x):i=j:=by
 obtain ⟨h1,e1⟩:=List.getElem?_eq_some_iff.mp a
 obtain ⟨h2,e2⟩:=List.getElem?_eq_some_iff.mp b
 exact (List.getElem_inj hN).mp (e1.trans e2.symm)
theorem zkt {M:Model} {A:Around} {E:Value→Shared→Prop} {i:Nat} {x:Str} {v:V} {u:Value} {Q:Unit→Shared→Prop} (I:Inv X pins σ H s) (hN:X.N.Nodup) (hi:X.N[i]?=some x) (hx:Loc X.env.scope x) (r:zcA v u)
  (h:∀ s',Inv X pins (σ.set i (some v)) H s'→(∃ a,Heap.SameBut a s.heap s'.heap∧(a=X.env.locals∨X.env.cells.lookup x=some a))→Q () s') (hf:X.fn x=true∨X.env.scope.names.lookup x=some .local:=by first | exact .inl rfl | exact .inr rfl | assumption):wpAny M A (storeName X.env x u) Q E s:=by
 obtain ⟨m,hn,hl⟩:=id I.loc
 have hcls:(X.env.scope.kind == .class || (X.env.scope.kind == .module&&X.env.locals != X.env.globals))=false:=by rw [I.ok.kind];rfl
 have hiσ:i<σ.length:=by rw [I.len];exact (List.getElem?_eq_some_iff.mp hi).1
 have cne:=I.cne
 have tracked:∀ {a:Addr} {h':Heap},(∃ o,s.heap.get? a=some o∧H a=none)→Heap.SameBut a s.heap h'→HOk X.prog X.w H h':=fun {a h'} ha hs b ob e=>by
  obtain ⟨_,_,hfree⟩:=ha
  refine (I.hok b ob e).stay (fun c w' hc q=>(hs.2 c ?_).trans q) (fun _ q=>q) fun _ _ q=>q
  rintro rfl
  rcases hc with rfl | hc
  ·rw [hfree] at e;cases e
  ·rw [hfree] at hc;cases hc
 rcases hx with hk | hk
 ·refine wpAny_storeName_local hk hn (fun h' hn' hs=>?_) hcls
  obtain ⟨oL,_,_,hoL,_⟩:=id hn
  refine h _ ⟨I.ok,I.os,I.bare,⟨fun b o e n hb hx=>?_,fun b o e n hb hx=>?_,I.base.free,fun b o e hx=>?_,I.base.tups,I.base.frzs,I.base.tbls⟩,⟨_,hn',fun j y v' e1 e2 e3=>?_⟩,fun y c e=>?_,I.free,I.freeC,fun p hp=>?_,tracked ⟨oL,hoL,I.free⟩ hs,by simpa using I.len⟩ ⟨_,hs,.inl rfl⟩
  ·exact (hs.2 b (Nat.ne_of_lt (Nat.lt_of_lt_of_le (Heap.lt_size e) I.ok.above))).trans (I.base.keep b o e n hb hx)
  ·obtain ⟨sl,e1⟩:=I.base.slot b o e n hb hx
   exact ⟨sl,(hs.2 b (Nat.ne_of_lt (Nat.lt_of_lt_of_le (Heap.lt_size e) I.ok.above))).trans e1⟩
  ·obtain ⟨o',e1⟩:=I.base.there b o e hx
   exact ⟨o',(hs.2 b (Nat.ne_of_lt (Nat.lt_of_lt_of_le (Heap.lt_size e) I.ok.above))).trans e1⟩
  ·by_cases hj:j=i
   ·subst hj
    rw [hi] at e1;cases e1
    rw [List.getElem?_set_self hiσ] at e2
    cases e2
    exact ⟨u,r,.inl ⟨hk,by simp⟩⟩
   ·rw [List.getElem?_set_ne (Ne.symm hj)] at e2
    obtain ⟨u',r',q⟩:=hl j y v' e1 e2 e3
    refine ⟨u',r',?_⟩
    rcases q with ⟨k,e⟩ | ⟨k,c,e,z⟩
    ·refine .inl ⟨k,?_⟩
     have:y≠x:=fun e=>hj (zi9 hN e1 (e ▸ hi))
     simp [this,e]
    ·exact .inr ⟨k,c,e,z.sameBut hs (cne y c e)⟩
  ·obtain ⟨w',z⟩:=I.cell y c e
   exact ⟨w',z.sameBut hs (cne y c e)⟩
  ·obtain ⟨e,n,ne,nf,d⟩:=I.pin p hp
   exact ⟨(hs.2 p.1 ne).trans e,n,ne,nf,d⟩
 ·have hfn:X.fn x=true:=by
   rcases hf with z | z
   ·exact z
   ·rw [z] at hk;cases hk
  obtain ⟨c,hc⟩:=I.ok.has x (.inl hk)
  obtain ⟨w',z⟩:=I.cell x c hc
  refine wpAny_storeName_cell I.ok.kind hk hc z (fun h' hc' hs=>?_)
  obtain ⟨oc,hoc,hocd⟩:=id z
  refine h { s with heap:=h' } ⟨I.ok,I.os,I.bare,⟨fun b o e n hb hx=>?_,fun b o e n hb hx=>?_,I.base.free,fun b o e hx=>?_,I.base.tups,I.base.frzs,I.base.tbls⟩,⟨m,hn.sameBut hs (Ne.symm (cne x c hc)),fun j y v' e1 e2 e3=>?_⟩,fun y c' e=>?_,I.free,I.freeC,fun p hp=>?_,tracked ⟨oc,hoc,I.freeC x c hc⟩ hs,by simpa using I.len⟩ ⟨c,hs,.inr hc⟩
  ·exact (hs.2 b (Nat.ne_of_lt (Nat.lt_of_lt_of_le (Heap.lt_size e) (I.ok.cab x c hfn hc)))).trans (I.base.keep b o e n hb hx)
  ·obtain ⟨sl,e1⟩:=I.base.slot b o e n hb hx
   exact ⟨sl,(hs.2 b (Nat.ne_of_lt (Nat.lt_of_lt_of_le (Heap.lt_size e) (I.ok.cab x c hfn hc)))).trans e1⟩
  ·obtain ⟨o',e1⟩:=I.base.there b o e hx
   exact ⟨o',(hs.2 b (Nat.ne_of_lt (Nat.lt_of_lt_of_le (Heap.lt_size e) (I.ok.cab x c hfn hc)))).trans e1⟩
  ·by_cases hj:j=i
   ·subst hj
    rw [hi] at e1;cases e1
    rw [List.getElem?_set_self hiσ] at e2
    cases e2
    exact ⟨u,r,.inr ⟨.inl hk,c,hc,hc'⟩⟩
   ·rw [List.getElem?_set_ne (Ne.symm hj)] at e2
    obtain ⟨u',r',q⟩:=hl j y v' e1 e2 e3
    refine ⟨u',r',?_⟩
    rcases q with q | ⟨k,c',e,z'⟩
    ·exact .inl q
    ·refine .inr ⟨k,c',e,z'.sameBut hs ?_⟩
     rintro rfl
     exact hj (zi9 hN e1 (I.ok.inj _ _ _ e hc ▸ hi))
  ·by_cases hcc:c'=c
   ·subst hcc;exact ⟨_,hc'⟩
   ·obtain ⟨w2,z2⟩:=I.cell y c' e
    exact ⟨w2,z2.sameBut hs hcc⟩
  ·obtain ⟨e,n,ne,nf,d⟩:=I.pin p hp
   refine ⟨(hs.2 p.1 ?_).trans e,n,ne,nf,d⟩
   intro q
   rw [q,hoc] at e
   have q':oc=p.2:=Option.some.inj e
   exact d w' (by rw [← q'];exact hocd)
theorem zfP {M:Model} {A:Around} {E:Value→Shared→Prop} {i:Nat} {x:Str} {v:V} {u:Value} {Q:Unit→Shared→Prop} (I:Inv X pins σ H s) (hN:X.N.Nodup) (hi:X.N[i]?=some x) (hx:Loc X.env.scope x) (r:zcA v u)
  (h:∀ s',Inv X pins (σ.set i (some v)) H s'→Q () s') (hf:X.fn x=true∨X.env.scope.names.lookup x=some .local:=by first | exact .inl rfl | exact .inr rfl | assumption):wpAny M A (storeName X.env x u) Q E s :=
 zkt I hN hi hx r (fun s' I' _=>h s' I') hf
theorem Inv.call' {s':Shared} {ch:List Addr} (I:Inv X pins σ H s) (ho:s'.os=s.os) (u:Un (frs X.stack) ch H H' s.heap s'.heap) (hok:HOk X.prog X.w H' s'.heap) (hg:AllBare s'.gens)
  (hch:∀ b∈ch,(b∈X.ex∨X.s₀.heap.objs.size≤b)∧b≠X.env.locals∧(∀ x c,X.env.cells.lookup x=some c→c≠b)∧∀ p∈X.pn++pins,p.1≠b):Inv X pins σ H' s':=by
 obtain ⟨h',g',d',t',o'⟩:=s'
 have e:o'=s.os:=ho
 subst e
 exact I.call (g':=g') (t':=t') (d':=d') u hok hg hch
end
abbrev XK:=Value→Option Addr→Hp→Prop
abbrev St:=List (Option V)
abbrev VK:=V→Hp→Prop
abbrev TE:=St→Hp→VK→Prop
abbrev TT:=St→Hp→(Bool→Hp→Prop)→Prop
abbrev TA:=St→Hp→(List V→Hp→Prop)→Prop
structure zb1 where
 nx:St→Hp→Prop
 rt:VK
 bk:St→Hp→Prop:=fun _ _=>False
 ct:St→Hp→Prop:=fun _ _=>False
abbrev TS:=zb1→St→Hp→Prop
def EP (X:Cx) (pins:List (Addr×Obj)) (σ:St) (Q:VK) (u:Value) (s':Shared):Prop:=∃ v H',Inv X pins σ H' s'∧zcA v u∧Q v H'
def TP (X:Cx) (pins:List (Addr×Obj)) (σ:St) (Q:Bool→Hp→Prop) (b:Bool) (s':Shared):Prop:=∃ H',Inv X pins σ H' s'∧Q b H'
def AP (X:Cx) (pins:List (Addr×Obj)) (σ:St) (Q:List V→Hp→Prop) (us:List Value) (s':Shared):Prop:=∃ vs H',Inv X pins σ H' s'∧zcc vs us∧Q vs H'
def SP (X:Cx) (pins:List (Addr×Obj)) (D:zb1) (f:Flow) (s':Shared):Prop :=
 match f with
 | .next=>∃ σ' H',Inv X pins σ' H' s'∧D.nx σ' H'
 | .brk=>∃ σ' H',Inv X pins σ' H' s'∧D.bk σ' H'
 | .cont=>∃ σ' H',Inv X pins σ' H' s'∧D.ct σ' H'
 | .ret u=>∃ v σ' H',Inv X pins σ' H' s'∧zcA v u∧D.rt v H'
def PE (X:Cx) (e:Expr) (t:TE):Prop :=
 ∀ (pins:List (Addr×Obj)) (s:Shared) (σ:St) (H:Hp) (Q:VK),Inv X pins σ H s→t σ H Q→wpAny (model X.prog X.w) X.A (eval e X.env) (EP X pins σ Q) X.xe s
def PT (X:Cx) (e:Expr) (t:TT):Prop :=
 ∀ (pins:List (Addr×Obj)) (s:Shared) (σ:St) (H:Hp) (Q:Bool→Hp→Prop),Inv X pins σ H s→t σ H Q→wpAny (model X.prog X.w) X.A (isTrue e X.env (eval e X.env)) (TP X pins σ Q) X.xe s
def PW (X:Cx) (e:Expr) (t:TT):Prop :=
 ∀ (whole:Sem Value) (pins:List (Addr×Obj)) (s:Shared) (σ:St) (H:Hp) (Q:Bool→Hp→Prop),Inv X pins σ H s→t σ H Q→wpAny (model X.prog X.w) X.A (isTrue e X.env whole) (TP X pins σ Q) X.xe s
theorem PW.pt {X:Cx} {e:Expr} {t:TT} (h:PW X e t):PT X e t:=h _
def PA (X:Cx) (es:List Expr) (t:TA):Prop :=
 ∀ (pos:Pos) (pins:List (Addr×Obj)) (s:Shared) (σ:St) (H:Hp) (Q:List V→Hp→Prop),Inv X pins σ H s→t σ H Q→wpAny (model X.prog X.w) X.A (spliced (backTo pos (starEach es X.env))) (AP X pins σ Q) X.xe s
def PS (X:Cx) (st:Stmt) (t:TS):Prop :=
 ∀ (pins:List (Addr×Obj)) (s:Shared) (σ:St) (H:Hp) (D:zb1),Inv X pins σ H s→t D σ H→wpAny (model X.prog X.w) X.A (exec st X.env) (SP X pins D) X.xe s
def PSs (X:Cx) (st:List Stmt) (t:TS):Prop :=
 ∀ (pins:List (Addr×Obj)) (s:Shared) (σ:St) (H:Hp) (D:zb1),Inv X pins σ H s→t D σ H→wpAny (model X.prog X.w) X.A (execs st X.env) (SP X pins D) X.xe s
theorem thn {α:Type} {t:Sem α} {Q Q':α→Shared→Prop} {M:Model} {A:Around} {E:Value→Shared→Prop} {s:Shared} (h:wpAny M A t Q E s) (hQ:∀ a s,Q a s→Q' a s):wpAny M A t Q' E s:=wpAny_mono h hQ fun _ _ x=>x
end L2
namespace L2
open PySem PySem.Spec PyProof.Rows
section
variable {X:Cx}
def zac (i:Nat):TE:=fun σ H Q=>∃ v,σ[i]?=some (some v)∧Q v H
def tC (v:V):TE:=fun _ H Q=>Q v H
theorem zri {i:Nat} {x:Str} {pos:Pos} (hN:X.N[i]?=some x) (hv:Vis X.env.scope x) (hd:(x == ("__debug__":Str))=false:=by decide) (hcd:(x == ("__classdict__":Str))=false:=by decide):PE X (.Name x pos) (zac i):=by
 intro pins s σ H Q I h
 obtain ⟨v,e,h⟩:=h
 obtain ⟨m,hn,hl⟩:=I.loc
 obtain ⟨u,r,l⟩:=hl i x v hN e hv
 have fin:EP X pins σ Q u s:=⟨v,H,I,r,h⟩
 rcases l with ⟨hk,hm⟩ | ⟨hk,c,hc,hcell⟩
 ·exact wpAny_Name (wpAny_loadName_local I.ok.kind hk hn hm fin) hd
 ·rcases hk with hk | hk
  ·exact wpAny_Name (wpAny_loadName_cell I.ok.kind hk hc hcell fin) hd
  ·exact wpAny_Name (wpAny_loadName_free I.ok.kind hk hc hcell fin hcd) hd
theorem zah {i j pos}:PE X (.Constant (.int i) j pos) (tC (.int i)):=fun _ _ _ H _ I h=>wpAny_Constant_int ⟨.int i,H,I.tok _,⟨_,rfl⟩,h⟩
theorem zhM {b j pos}:PE X (.Constant (.bool b) j pos) (tC (.bl b)):=fun _ _ _ H _ I h=>Constant_bool ⟨.bl b,H,I,rfl,h⟩
theorem zb2 {j pos}:PE X (.Constant .none j pos) (tC .non):=fun _ _ _ H _ I h=>Constant_none ⟨.non,H,I,rfl,h⟩
theorem za6 {x j pos}:PE X (.Constant (.str x) j pos) (tC (.str x)):=fun _ _ _ H _ I h=>Calls.Constant_str ⟨.str x,H,I.tok _,⟨_,rfl⟩,h⟩
def Gl (X:Cx) (x:Str):Prop:=X.env.kindOf x=some .globalImplicit
theorem zd0 {E:Value→Shared→Prop} {pins:List (Addr×Obj)} {s:Shared} {σ:St} {H:Hp} {x:Str} {u:Value} {pos:Pos} {Q:Value→Shared→Prop} (I:Inv X pins σ H s) (hg:Gl X x) (hm:X.mg x=some u) (h:Q u s)
  (hd:(x == ("__debug__":Str))=false:=by decide):wpAny (model X.prog X.w) X.A (eval (.Name x pos) X.env) Q E s :=
 Calls.Name_function_global I.ok.kind hg (Calls.loadGlobal_global (by rw [I.ok.glob];exact I.mod.glob.keeps I.bk) hm h) hd
theorem zgz {E:Value→Shared→Prop} {pins:List (Addr×Obj)} {s:Shared} {σ:St} {H:Hp} {x:Str} {u:Value} {pos:Pos} {Q:Value→Shared→Prop} (I:Inv X pins σ H s) (hg:Gl X x) (hm:X.mg x=none) (hv:bootBuiltins x=some u) (h:Q u s)
  (hn:x≠"__name__":=by decide) (hd:(x == ("__debug__":Str))=false:=by decide):wpAny (model X.prog X.w) X.A (eval (.Name x pos) X.env) Q E s:=by
 obtain ⟨mb,h1,h2⟩:=I.mod.blt
 exact Calls.Name_function_global I.ok.kind hg (Calls.loadGlobal_builtin (by rw [I.ok.glob];exact I.mod.glob.keeps I.bk) hm (by rw [I.ok.blt];exact h1.keeps I.bk) ((h2 x hn).trans hv) h) hd
theorem zbG {x:Str} {v:V} {u:Value} {pos:Pos} (hg:Gl X x) (hm:X.mg x=some u) (r:zcA v u) (hd:(x == ("__debug__":Str))=false:=by decide):PE X (.Name x pos) (tC v) :=
 fun _ _ _ H _ I h=>zd0 I hg hm ⟨v,H,I,r,h⟩ hd
theorem zbM {x:Str} {v:V} {u:Value} {pos:Pos} (hg:Gl X x) (hm:X.mg x=none) (hv:bootBuiltins x=some u) (r:zcA v u) (hn:x≠"__name__":=by decide) (hd:(x == ("__debug__":Str))=false:=by decide):PE X (.Name x pos) (tC v) :=
 fun _ _ _ H _ I h=>zgz I hg hm hv ⟨v,H,I,r,h⟩ hn hd
variable {a b:Expr} {ta tb:TE} {pos:Pos}
def PC (X:Cx) (op:CmpOp) (a b:Expr) (t:TE):Prop :=
 ∀ (pins:List (Addr×Obj)) (s:Shared) (σ:St) (H:Hp) (Q:VK),Inv X pins σ H s→t σ H Q →
  wpAny (model X.prog X.w) X.A (eval a X.env) (fun v s₁=>wpAny (model X.prog X.w) X.A (eval b X.env) (fun u s₂=>wpAny (model X.prog X.w) X.A (compareOp op v u) (EP X pins σ Q) X.xe s₂) X.xe s₁) X.xe s
def tB (t:TE):TT:=fun σ H Q=>t σ H fun x H1=>∃ c,x=.bl c∧Q c H1
theorem zq5 {op:CmpOp} {t:TE} (h:PC X op a b t) (h1:behindInMarks op b=false:=by first | exact nobehind _ (by decide) (by decide) | rfl):PT X (.Compare a [op] [b] pos) (tB t):=by
 intro pins s σ H Q I hw
 refine wpAny_isTrue_Compare1 (thn (h pins s σ H _ I hw) fun v s1 h1=>thn h1 fun u s2 h2=>thn h2 fun c s3 hQ'=>?_) h1
 obtain ⟨x,H1,I1,r1,q1⟩:=hQ'
 obtain ⟨d,rfl,q⟩:=q1
 cases r1
 exact wpAny_truthy_bool ⟨H1,I1,q⟩
theorem zdm {e:Expr} {t:TE} (h:PE X e t) (he:∀ whole,isTrue e X.env whole=(do let v ← whole;standAt e.pos;holding [v] (truthy v)):=by intro _;rfl):PT X e (tB t):=by
 intro pins s σ H Q I hw
 refine isTrue_plain (thn (h pins s σ H _ I hw) fun v s1 hQ'=>?_) (he _)
 obtain ⟨x,H1,I1,r1,q1⟩:=hQ'
 obtain ⟨d,rfl,q⟩:=q1
 cases r1
 exact wpAny_truthy_bool ⟨H1,I1,q⟩
variable {tA tB':TT} {zkR:List Expr}
def zqb (t u:TT):TT:=fun σ H Q=>t σ H fun c H1=>if c=true then u σ H1 Q else Q false H1
def tOr (t u:TT):TT:=fun σ H Q=>t σ H fun c H1=>if c=true then Q true H1 else u σ H1 Q
def zgH (t:TT):TT:=fun σ H Q=>t σ H fun c H1=>Q (!c) H1
theorem ziN (ha:PT X a tA):PW X (.BoolOp .And [a] pos) tA:=by
 intro wh pins s σ H Q I h
 refine isTrue_and (thn (ha pins s σ H Q I h) fun c s1 e=>?_)
 cases c with
 | true=>exact isTrue_and_nil e
 | false=>exact e
theorem zcZ (ha:PT X a tA):PW X (.BoolOp .Or [a] pos) tA:=by
 intro wh pins s σ H Q I h
 refine isTrue_or (thn (ha pins s σ H Q I h) fun c s1 e=>?_)
 cases c with
 | false=>exact isTrue_or_nil e
 | true=>exact e
theorem zmm (ha:PT X a tA) (hb:PW X (.BoolOp .And (b::zkR) pos) tB'):PW X (.BoolOp .And (a::b::zkR) pos) (zqb tA tB'):=by
 intro wh pins s σ H Q I h
 refine isTrue_and (thn (ha pins s σ H _ I h) fun c s1 hQ'=>?_)
 obtain ⟨H1,I1,q1⟩:=hQ'
 cases c with
 | true=>exact hb wh pins s1 σ H1 Q I1 q1
 | false=>exact ⟨H1,I1,q1⟩
theorem zcL (ha:PT X a tA) (hb:PW X (.BoolOp .Or (b::zkR) pos) tB'):PW X (.BoolOp .Or (a::b::zkR) pos) (tOr tA tB'):=by
 intro wh pins s σ H Q I h
 refine isTrue_or (thn (ha pins s σ H _ I h) fun c s1 hQ'=>?_)
 obtain ⟨H1,I1,q1⟩:=hQ'
 cases c with
 | true=>exact ⟨H1,I1,q1⟩
 | false=>exact hb wh pins s1 σ H1 Q I1 q1
theorem zd4 (ha:PT X a tA):PT X (.UnaryOp .Not a pos) (zgH tA):=by
 intro pins s σ H Q I h
 exact isTrue_not (ha pins s σ H (fun c H1=>Q (!c) H1) I h)
def zcV (ta tb:TE):TE:=fun σ H Q=>ta σ H fun x H1=>∃ c,x=.bl c∧if c=true then tb σ H1 Q else Q (.bl false) H1
def zmP (ta:TE):TE:=fun σ H Q=>ta σ H fun x H1=>∃ c,x=.bl c∧Q (.bl (!c)) H1
theorem ze4 {op} {t:TE} (h:PE X a t):PE X (.BoolOp op [a] pos) t:=fun pins s σ H Q I hw=>BoolOp_one (h pins s σ H Q I hw)
theorem zdr (ha:PE X a ta) (hb:PE X (.BoolOp .And (b::zkR) pos) tb):PE X (.BoolOp .And (a::b::zkR) pos) (zcV ta tb):=by
 intro pins s σ H Q I h
 refine BoolOp_and (thn (ha pins s σ H _ I h) fun v s1 hQ'=>?_)
 obtain ⟨x,H1,I1,r1,q1⟩:=hQ'
 obtain ⟨c,rfl,q1⟩:=q1
 cases r1
 refine wpAny_truthy_bool ?_
 cases c with
 | true=>exact hb pins s1 σ H1 Q I1 q1
 | false=>exact ⟨.bl false,H1,I1,rfl,q1⟩
theorem znX (ha:PE X a ta):PE X (.UnaryOp .Not a pos) (zmP ta):=by
 intro pins s σ H Q I h
 refine UnaryOp_ (thn (ha pins s σ H _ I h) fun v s1 hQ'=>?_)
 obtain ⟨x,H1,I1,r1,q1⟩:=hQ'
 obtain ⟨c,rfl,q1⟩:=q1
 cases r1
 exact not_of (wpAny_truthy_bool ⟨.bl (!c),H1,I1,rfl,q1⟩)
def tIf (t:TT) (ta tb:TE):TE:=fun σ H Q=>t σ H fun c H1=>if c=true then ta σ H1 Q else tb σ H1 Q
theorem zgS {c:Expr} (hc:PT X c tA) (ha:PE X a ta) (hb:PE X b tb):PE X (.IfExp c a b pos) (tIf tA ta tb):=by
 intro pins s σ H Q I h
 refine wpAny_IfExp (thn (hc pins s σ H _ I h) fun d s1 hQ'=>?_)
 obtain ⟨H1,I1,q1⟩:=hQ'
 cases d with
 | true=>exact ha pins s1 σ H1 Q I1 q1
 | false=>exact hb pins s1 σ H1 Q I1 q1
end
end L2
namespace L2
open PySem PySem.Spec PyProof.Rows
def SqL (K:PySem.W.Frag) (H:Hp) (a:Addr) (xs:List V):Prop :=
 Rd H a (.lst xs) ∨
  ∃ (o:Obj) (its:Array Value) (n:Nat),K.lookup a=some o∧o.cls=.type "list"∧o.dict=none∧o.data=.seq its n∧its.size≤sizeLine∧zcc xs its.toList
def SqT (K:PySem.W.Frag) (H:Hp) (a:Addr) (xs:List V):Prop :=
 Rd H a (.tup xs) ∨
  ∃ (o:Obj) (its:Array Value) (n:Nat),K.lookup a=some o∧o.cls=.type "tuple"∧o.data=.seq its n∧its.size≤sizeLine∧zcc xs its.toList
def absV:Value→Option V
 | .none=>some .non
 | .bool b=>some (.bl b)
 | .int i _=>some (.int i)
 | .str x _=>some (.str x)
 | .bytes b _=>some (.byt b)
 | .float b _=>some (.flt b)
 | .ref a=>some (.ref a)
 | .type n=>some (.ty n)
 | _=>none
theorem zcA.abs {x:V} {u:Value} (r:zcA x u):absV u=some x:=by
 cases x with
 | non=>cases r;rfl
 | bl _=>cases r;rfl
 | int _=>obtain ⟨t,rfl⟩:=r;rfl
 | str _=>obtain ⟨t,rfl⟩:=r;rfl
 | byt _=>obtain ⟨t,rfl⟩:=r;rfl
 | flt _=>obtain ⟨t,rfl⟩:=r;rfl
 | ref _=>cases r;rfl
 | ty _=>cases r;rfl
theorem zcA.inj {x y:V} {u:Value} (r:zcA x u) (q:zcA y u):x=y:=Option.some.inj (r.abs.symm.trans q.abs)
theorem zcc.inj:∀ {xs ys:List V} {us:List Value},zcc xs us→zcc ys us→xs=ys
 | _,_,_,.nil,.nil=>rfl
 | _,_,_,.cons r t,.cons r' t'=>by rw [r.inj r',zcc.inj t t']
section
variable {X:Cx} {pins:List (Addr×Obj)} {σ:St} {H:Hp} {s:Shared} {a:Addr} {xs ys:List V}
theorem SqL.of {K:PySem.W.Frag} (h:H a=some (.lst xs)):SqL K H a xs:=.inl (.inl h)
theorem SqT.of {K:PySem.W.Frag} (h:H a=some (.tup xs)):SqT K H a xs:=.inl (.inl h)
theorem Inv.list (I:Inv X pins σ H s) (h:SqL X.K H a xs):∃ its:List Value,zcc xs its∧PlainL s.heap a its.toArray∧xs.length≤sizeLine:=by
 rcases h with h | ⟨o,its,n,hk,hc,hd,hs,hz,r⟩
 ·obtain ⟨z,its,n,r,e⟩:=h.ok I.hok
  exact ⟨its,r,⟨_,n,e,rfl,rfl,rfl⟩,z⟩
 ·refine ⟨its.toList,r,⟨o,n,I.kIn a o hk,hc,hd,by simpa using hs⟩,?_⟩
  have e:=r.length
  simp only [Array.length_toList] at e
  (first|lia|omega)
theorem Inv.tuple (I:Inv X pins σ H s) (h:SqT X.K H a xs):∃ its:List Value,zcc xs its∧IsTup s.heap a its.toArray∧xs.length≤sizeLine:=by
 rcases h with h | ⟨o,its,n,hk,hc,hs,hz,r⟩
 ·obtain ⟨z,its,r,p⟩:=h.ok I.hok
  exact ⟨its,r,p,z⟩
 ·refine ⟨its.toList,r,⟨o,I.kIn a o hk,hc,n,by simpa using hs⟩,?_⟩
  have e:=r.length
  simp only [Array.length_toList] at e
  (first|lia|omega)
theorem Inv.list_inj (I:Inv X pins σ H s) (h:SqL X.K H a xs) (h':SqL X.K H a ys):xs=ys:=by
 obtain ⟨its,r,⟨o,n,e,_,_,d⟩,_⟩:=I.list h
 obtain ⟨its',r',⟨o',n',e',_,_,d'⟩,_⟩:=I.list h'
 rw [e] at e';cases e'
 rw [d] at d'
 injection d' with d1 _
 have:its=its':=by simpa using congrArg Array.toList d1
 subst this
 exact r.inj r'
theorem Inv.tuple_inj (I:Inv X pins σ H s) (h:SqT X.K H a xs) (h':SqT X.K H a ys):xs=ys:=by
 obtain ⟨its,r,⟨o,e,_,n,d⟩,_⟩:=I.tuple h
 obtain ⟨its',r',⟨o',e',_,n',d'⟩,_⟩:=I.tuple h'
 rw [e] at e';cases e'
 rw [d] at d'
 injection d' with d1 _
 have:its=its':=by simpa using congrArg Array.toList d1
 subst this
 exact r.inj r'
end
abbrev Cx.wish (X:Cx) (E:Value→Shared→Prop):Cx:={ X with xe:=E }
abbrev Cx.nox (X:Cx):Cx:=X.wish fun _ _=>False
theorem Cx.Ok.wish {X:Cx} (ok:X.Ok) (E:Value→Shared→Prop):(X.wish E).Ok :=
 ⟨ok.mod,ok.kind,ok.glob,ok.blt,ok.above,ok.inj,ok.has,ok.cab,ok.hd,ok.frames,ok.stk,ok.exf,ok.bs,ok.bsz,ok.noex,ok.exfs,ok.funs,ok.frf⟩
theorem Cx.Ok.unwish {X:Cx} {E:Value→Shared→Prop} (ok:(X.wish E).Ok):X.Ok :=
 ⟨ok.mod,ok.kind,ok.glob,ok.blt,ok.above,ok.inj,ok.has,ok.cab,ok.hd,ok.frames,ok.stk,ok.exf,ok.bs,ok.bsz,ok.noex,ok.exfs,ok.funs,ok.frf⟩
section
variable {X:Cx} {pins:List (Addr×Obj)} {σ:St} {H:Hp} {s:Shared} {E:Value→Shared→Prop}
theorem Inv.wish (I:Inv X pins σ H s) (E:Value→Shared→Prop):Inv (X.wish E) pins σ H s:=⟨I.ok.wish E,I.os,I.bare,I.base,I.loc,I.cell,I.free,I.freeC,I.pin,I.hok,I.len⟩
theorem Inv.unwish (I:Inv (X.wish E) pins σ H s):Inv X pins σ H s:=⟨I.ok.unwish,I.os,I.bare,I.base,I.loc,I.cell,I.free,I.freeC,I.pin,I.hok,I.len⟩
theorem SP.unwish {D:zb1} {f:Flow} {s':Shared} (h:SP (X.wish E) pins D f s'):SP X pins D f s':=by
 cases f with
 | next=>obtain ⟨σ',H',I,q⟩:=h;exact ⟨σ',H',I.unwish,q⟩
 | brk=>obtain ⟨σ',H',I,q⟩:=h;exact ⟨σ',H',I.unwish,q⟩
 | cont=>obtain ⟨σ',H',I,q⟩:=h;exact ⟨σ',H',I.unwish,q⟩
 | ret u=>obtain ⟨v,σ',H',I,r,q⟩:=h;exact ⟨v,σ',H',I.unwish,r,q⟩
theorem PSs.nox {st:List Stmt} {t:TS} (h:PSs X.nox st t):PSs X st t:=fun pins s σ H D I hw =>
 wpAny_mono (h pins s σ H D (I.wish _) hw) (fun _ _ q=>q.unwish) fun _ _ z=>False.elim z
end
section
variable {X:Cx} {st:Stmt} {zkR:List Stmt} {t u:TS} {e:Expr} {te:TE} {pos:Pos}
def za0:TS:=fun D σ H=>D.nx σ H
def zaW (t u:TS):TS:=fun D σ H=>t { D with nx:=u D } σ H
theorem zaV:PSs X [] za0:=fun _ _ σ H _ I h=>wpAny_execs_nil ⟨σ,H,I,h⟩
theorem zag (h1:PS X st t) (h2:PSs X zkR u):PSs X (st::zkR) (zaW t u):=by
 intro pins s σ H D I h
 refine wpAny_execs_cons (thn (h1 pins s σ H { D with nx:=u D } I h) fun f s1 q=>?_)
 cases f with
 | next =>
  obtain ⟨σ',H',I',q⟩:=q
  exact h2 pins s1 σ' H' D I' q
 | ret v=>exact q
 | brk=>exact q
 | cont=>exact q
theorem zat (h1:PS X st t):PSs X [st] t:=by
 intro pins s σ H D I h
 refine wpAny_execs_cons (thn (h1 pins s σ H D I h) fun f s1 q=>?_)
 cases f with
 | next=>exact wpAny_execs_nil q
 | ret v=>exact q
 | brk=>exact q
 | cont=>exact q
def zs8:TS:=fun D σ H=>D.ct σ H
theorem zk8:PS X (.Continue pos) zs8:=fun _ _ σ H _ I h=>wpAny_Continue ⟨σ,H,I,h⟩
theorem Inv.quiet {pins:List (Addr×Obj)} {σ:St} {H:Hp} {s:Shared} (I:Inv X pins σ H s):interactive X.env=false:=by simp [interactive,I.ok.kind]
def zer (te:TE):TS:=fun D σ H=>te σ H fun _ H1=>D.nx σ H1
theorem zdx (he:PE X e te) (hs:swapsWith e none pos.line X.env=pure false:=by rfl):PS X (.Expr e pos) (zer te):=by
 intro pins s σ H D I h
 exact wpAny_Expr_any (thn (he pins s σ H _ I h) fun v s1 ⟨x,H1,I1,r1,q1⟩=>⟨σ,H1,I1,q1⟩) I.quiet hs
def zbK (te:TE):TS:=fun D σ H=>te σ H D.rt
theorem zaY (he:PE X e te):PS X (.Return (some e) pos) (zbK te):=by
 intro pins s σ H D I h
 exact wpAny_Return_some (thn (he pins s σ H _ I h) fun v s1 ⟨x,H1,I1,r1,q1⟩=>⟨x,σ,H1,I1,r1,q1⟩)
def zbX (c:TT) (t u:TS):TS:=fun D σ H=>c σ H fun b H1=>if b=true then t D σ H1 else u D σ H1
theorem zbN {c:Expr} {a b:List Stmt} {tc:TT} (hc:PT X c tc) (ha:PSs X a t) (hb:PSs X b u):PS X (.If c a b pos) (zbX tc t u):=by
 intro pins s σ H D I h
 refine wpAny_If (thn (hc pins s σ H _ I h) fun d s1 hQ'=>?_)
 obtain ⟨H1,I1,q1⟩:=hQ'
 cases d with
 | true=>exact ha pins s1 σ H1 D I1 q1
 | false=>exact hb pins s1 σ H1 D I1 q1
end
abbrev TG:=V→St→Hp→(St→Hp→Prop)→Prop
abbrev TGs:=List V→St→Hp→(St→Hp→Prop)→Prop
def PG (X:Cx) (target:Expr) (t:TG):Prop :=
 ∀ (pins:List (Addr×Obj)) (s:Shared) (σ:St) (H:Hp) (v:V) (u:Value) (Q:St→Hp→Prop),Inv X pins σ H s→zcA v u→t v σ H Q →
  wpAny (model X.prog X.w) X.A (assign target X.env u) (fun _ s'=>∃ σ' H',Inv X pins σ' H' s'∧Q σ' H') X.xe s
def PGs (X:Cx) (ts:List Expr) (t:TGs):Prop :=
 ∀ (pins:List (Addr×Obj)) (s:Shared) (σ:St) (H:Hp) (vs:List V) (us:List Value) (Q:St→Hp→Prop),Inv X pins σ H s→zcc vs us→t vs σ H Q →
  wpAny (model X.prog X.w) X.A (assignInOrder ((assignEach ts X.env).map (·.2)) us) (fun _ s'=>∃ σ' H',Inv X pins σ' H' s'∧Q σ' H') X.xe s
section
variable {X:Cx} {pos:Pos}
def zai (i:Nat):TG:=fun v σ H Q=>Q (σ.set i (some v)) H
theorem zaO {i:Nat} {x:Str} (hN:X.N.Nodup) (hi:X.N[i]?=some x) (hx:Loc X.env.scope x) (hf:X.fn x=true∨X.env.scope.names.lookup x=some .local:=by first | exact .inl rfl | exact .inr rfl | assumption):PG X (.Name x pos) (zai i):=by
 intro pins s σ H v u Q I r h
 exact wpAny_assign_Name (zfP I hN hi hx r (fun s' I'=>⟨_,H,I',h⟩) hf)
def zgK:TGs:=fun vs σ H Q=>vs=[]∧Q σ H
def zbn (t:TG) (u:TGs):TGs:=fun vs σ H Q=>∃ v r,vs=v::r∧t v σ H fun σ' H'=>u r σ' H' Q
theorem zcT:PGs X [] zgK:=by
 intro pins s σ H vs us Q I r h
 obtain ⟨e,h⟩:=h
 subst e
 cases r
 exact assignInOrder_nil ⟨σ,H,I,h⟩
theorem zaZ {e:Expr} {es:List Expr} {t:TG} {u:TGs} (h1:PG X e t) (h2:PGs X es u)
  (hs:(assignEach (e::es) X.env).map (·.2)=assign e X.env::(assignEach es X.env).map (·.2):=by rfl):PGs X (e::es) (zbn t u):=by
 intro pins s σ H vs us Q I r h
 obtain ⟨v,vr,e1,h⟩:=h
 subst e1
 cases r with
 | cons r rr =>
  rw [hs]
  refine assignInOrder_cons (thn (h1 pins s σ H _ _ _ I r h) fun _ s1 hQ'=>?_)
  obtain ⟨σ1,H1,I1,q1⟩:=hQ'
  exact h2 pins s1 σ1 H1 _ _ Q I1 rr q1
def zhj (K:PySem.W.Frag) (n:Nat) (t:TGs):TG:=fun v σ H Q=>∃ a xs,v=.ref a∧SqT K H a xs∧xs.length=n∧t xs σ H Q
theorem zd3 {es:List Expr} {k:Nat} {t:TGs} {n:Nat} (hc:X.calm=true) (h:PGs X es t)
  (hn:(assignEach es X.env).length=n:=by rfl) (hst:(assignEach es X.env).findIdx? (·.1)=none:=by rfl):PG X (.Tuple es k pos) (zhj X.K n t):=by
 intro pins s σ H v u Q I r hw
 obtain ⟨a,xs,e1,hq,hl,hw⟩:=hw
 subst e1
 cases r
 obtain ⟨its,rv,ht,hz⟩:=I.tuple hq
 refine assign_Tuple_tuple (I.ok.hd hc) ht (by simp [hn,← hl,rv.length]) hst fun h' hx=>?_
 have I1:Inv X pins σ H { s with heap:=h' }:=I.kept (t':=s.toks) fun b o e=>hx b o (Nat.ne_of_lt (Heap.lt_size e)) e
 exact h pins _ σ H xs _ Q I1 (by simpa using rv) hw
def zbr (te:TE) (g:TG):TS:=fun D σ H=>te σ H fun x H1=>g x σ H1 D.nx
theorem zg6 {tg e:Expr} {te:TE} {g:TG} (he:PE X e te) (hg:PG X tg g) (hs:swapsWithSole [tg] e pos.line X.env=pure false:=by rfl) (hw:swappedStores [tg] e X.env=pure none:=by rfl)
  (h1:(assignEach [tg] X.env).map (·.2)=[assign tg X.env]:=by rfl):PS X (.Assign [tg] e pos) (zbr te g):=by
 intro pins s σ H D I h
 refine wpAny_Assign_stores (thn (he pins s σ H _ I h) fun v s1 hQ'=>?_) hs hw
 obtain ⟨x,H1,I1,r1,q1⟩:=hQ'
 rw [h1]
 exact thn (hg pins s1 σ H1 x v _ I1 r1 q1) fun _ s2 q=>q
theorem zaP {i:Nat} {x:Str} {e:Expr} {te:TE} {pos':Pos} (hN:X.N.Nodup) (hi:X.N[i]?=some x) (hx:Loc X.env.scope x) (he:PE X e te) (hs:swapsWith e (some (.Name x pos')) pos.line X.env=pure false:=by rfl) (hf:X.fn x=true∨X.env.scope.names.lookup x=some .local:=by first | exact .inl rfl | exact .inr rfl | assumption) :
  PS X (.Assign [.Name x pos'] e pos) (zbr te (zai i)):=by
 intro pins s σ H D I h
 refine wpAny_Assign_Name (thn (he pins s σ H _ I h) fun v s1 hQ'=>?_) hs
 obtain ⟨y,H1,I1,r1,q1⟩:=hQ'
 exact zfP I1 hN hi hx r1 (fun s2 I2=>⟨_,H1,I2,q1⟩) hf
def tPar (i j:Nat) (ta:TA):TS:=fun D σ H=>ta σ H fun vs H1=>∃ v w,vs=[v,w]∧D.nx ((σ.set i (some v)).set j (some w)) H1
theorem zuQ {i j:Nat} {x y:Str} {a b:Expr} {ta:TA} {px py pt:Pos} {kt k2 pt2} (hc:X.calm=true) (hN:X.N.Nodup) (hi:X.N[i]?=some x) (hj:X.N[j]?=some y) (hij:i≠j)
  (hx:X.env.scope.names.lookup x=some .local) (hy:X.env.scope.names.lookup y=some .local) (ha:PA X [a,b] ta)
  (hw:swappedStores [.Tuple [.Name x px,.Name y py] kt pt] (.Tuple [a,b] k2 pt2) X.env=pure (some [x,y]))
  (hs:swapsWithSole [.Tuple [.Name x px,.Name y py] kt pt] (.Tuple [a,b] k2 pt2) pos.line X.env=pure false:=by rfl) :
  PS X (.Assign [.Tuple [.Name x px,.Name y py] kt pt] (.Tuple [a,b] k2 pt2) pos) (tPar i j ta):=by
 intro pins s σ H D I h
 rw [exec_Assign_arm]
 refine wpAny_bind (wpAny_standAt ?_)
 rw [hs]
 refine wpAny_bind (wpAny_pure ?_)
 rw [if_neg (by decide)]
 refine wpAny_bind (Tuple_ (thn (ha _ pins s σ H _ I h) fun us s1 hQ'=>?_))
 obtain ⟨vs,H1,I1,r1,q1⟩:=hQ'
 obtain ⟨v,w,e1,q1⟩:=q1
 subst e1
 obtain ⟨u1,u2,rfl,rv,rw'⟩:∃ u1 u2,us=[u1,u2]∧zcA v u1∧zcA w u2:=by
  cases r1 with
  | cons p q =>
   cases q with
   | cons p' q' =>
    cases q'
    exact ⟨_,_,rfl,p,p'⟩
 refine wpAny_newObj_type ?_ (by show 2≤sizeLine;decide)
 have I2:Inv X pins σ H1 { s1 with heap:=s1.heap.push { cls:=.type "tuple",data:=.seq [u1,u2].toArray } }:=I1.kept (t':=s1.toks) fun b o e=>Heap.get?_push_of_some _ e
 rw [hw]
 refine wpAny_bind (wpAny_pure ?_)
 show wpAny (model X.prog X.w) X.A (do rule "assign.swapped-stores";let items ← unpackItems (.ref s1.heap.objs.size) 2 none;assignInOrder [fun v=>bindName X.env y v,fun v=>bindName X.env x v] items.reverse;pure Flow.next) _ _ _
 refine wpAny_bind (wpAny_rule (wpAny_bind (unpackItems_tuple (items:=#[u1,u2]) (I.ok.hd hc) (IsTup.new s1.heap _) fun h' hx'=>?_)))
 have I3:=I2.kept (h':=h') (t':=s1.toks) fun b o e=>hx' b o (Nat.ne_of_lt (Heap.lt_size e)) e
 show wpAny _ _ (assignInOrder [fun v=>bindName X.env y v,fun v=>bindName X.env x v] [u2,u1] >>= fun _=>pure Flow.next) _ _ _
 refine wpAny_bind (assignInOrder_cons (wpAny_bindName (zfP I3 hN hj (.inl hy) rw' (fun s2 I4=>?_) (.inr hy))))
 refine assignInOrder_cons (wpAny_bindName (zfP I4 hN hi (.inl hx) rv (fun s3 I5=>assignInOrder_nil (wpAny_pure ?_)) (.inr hx)))
 rw [List.set_comm _ _ (Ne.symm hij)] at I5
 exact ⟨_,H1,I5,q1⟩
end
section
variable {X:Cx} {pos:Pos}
def znY (c:TT) (tb:TS):TS:=fun D σ H=>∃ W:Nat→St→Hp→Prop,(∃ m,W m σ H)∧∀ m σ H,W m σ H →
 c σ H fun b H1=>if b=true then ∃ N:St→Hp→Prop,(∀ σ' H',N σ' H'→∃ m',m'<m∧W m' σ' H')∧tb { D with nx:=N,ct:=N,bk:=D.nx } σ H1 else D.nx σ H1
theorem zqS {c:Expr} {body:List Stmt} {tc:TT} {tb:TS} (hp:PassesOwn (model X.prog X.w) X.A X.env X.xe) (hc:PT X c tc) (hb:PSs X body tb):PS X (.While c body [] pos) (znY tc tb):=by
 intro pins s σ H D I h
 obtain ⟨W,⟨m0,w0⟩,turn⟩:=h
 refine wpAny_While (codeAny_whileLoop (fun n s'=>∃ σ' H',Inv X pins σ' H' s'∧W n σ' H') ?_ m0 ⟨σ,H,I,w0⟩)
 rintro n s1 ⟨σ1,H1,I1,w1⟩
 refine wpAny_passesOwn hp (thn (hc pins s1 σ1 H1 _ I1 (turn n σ1 H1 w1)) fun b s2 hQ'=>?_)
 obtain ⟨H2,I2,q2⟩:=hQ'
 cases b with
 | true =>
  obtain ⟨N,hN,q2⟩:=q2
  rw [if_pos rfl]
  refine wpAny_passesOwn hp (thn (hb pins s2 σ1 H2 _ I2 q2) fun f s3 q3=>?_)
  cases f with
  | next =>
   obtain ⟨σ3,H3,I3,n3⟩:=q3
   obtain ⟨m',hm,w3⟩:=hN σ3 H3 n3
   exact ⟨m',hm,σ3,H3,I3,w3⟩
  | cont =>
   obtain ⟨σ3,H3,I3,n3⟩:=q3
   obtain ⟨m',hm,w3⟩:=hN σ3 H3 n3
   exact ⟨m',hm,σ3,H3,I3,w3⟩
  | brk=>exact q3
  | ret v=>exact q3
 | false =>
  rw [if_neg Bool.false_ne_true]
  exact wpAny_execs_nil ⟨σ1,H2,I2,q2⟩
end
structure It where
 go:Nat→Hp→Prop
 yld:Nat→Hp→V→Hp→Prop
 stop:Nat→Hp→Prop
def zla (X:Cx) (pins:List (Addr×Obj)) (H:Hp) (b:Addr):Prop :=
 H b=none∧b≠X.env.locals∧b∉X.fs∧(b∈X.ex∨X.s₀.heap.objs.size≤b)∧(∀ x c,X.env.cells.lookup x=some c→c≠b)∧∀ p∈X.pn++pins,p.1≠b
theorem Inv.fpOk {X:Cx} {pins:List (Addr×Obj)} {σ:St} {H H':Hp} {s:Shared} {b:Addr} (I:Inv X pins σ H s) (hb:s.heap.objs.size≤b) (hn:H' b=none):zla X pins H' b:=by
 refine ⟨hn,Nat.ne_of_gt (Nat.lt_of_lt_of_le I.lt hb),I.nofs hb,.inr (Nat.le_trans I.sz hb),fun x c e z=>?_,fun p hp z=>?_⟩
 ·obtain ⟨v,q⟩:=I.cell x c e
  exact absurd (Nat.lt_of_lt_of_le q.lt (by rw [z];exact hb)) (Nat.lt_irrefl _)
 ·exact absurd (Nat.lt_of_lt_of_le (Heap.lt_size (I.pin p hp).1) (by rw [z];exact hb)) (Nat.lt_irrefl _)
structure zs9 (P:Program) (w:World) (K:PySem.W.Frag) (tg:Expr) (J:It) (fp:List Addr) (it:Addr) (tn:Nat→Heap→Prop):Prop where
 mem:it∈fp
 obj:∀ i h,tn i h→∀ b∈fp,∃ o,h.get? b=some o∧∀ v,o.data≠.cell v
 keep:∀ i h h',tn i h→(∀ b∈fp,∀ o,h.get? b=some o→h'.get? b=some o)→tn i h'
 item:∀ (X:Cx),X.prog=P→X.w=w→X.K=K→X.calm=true→∀ (i:Nat) (pins:List (Addr×Obj)) (s:Shared) (σ:St) (H:Hp) (E:Value→Shared→Prop),Inv X pins σ H s→(∀ b∈fp,zla X pins H b)→tn i s.heap→J.go i H →
  wpAny (model P w) X.A (pyNext (.ref it)) (fun r s1=>∃ u,r=some u ∧
   wpAny (model P w) X.A (letOwnedTupleGo tg (.ref it) u) (fun _ s2=>∃ x H',Inv X pins σ H' s2∧zcA x u∧J.yld i H x H'∧tn (i+1) s2.heap∧∀ b∈fp,H' b=none) E s1) E s
 done:∀ (X:Cx),X.prog=P→X.w=w→X.K=K→X.calm=true→∀ (i:Nat) (pins:List (Addr×Obj)) (s:Shared) (σ:St) (H:Hp) (E:Value→Shared→Prop),Inv X pins σ H s→(∀ b∈fp,zla X pins H b)→tn i s.heap→J.stop i H →
  wpAny (model P w) X.A (pyNext (.ref it)) (fun r s1=>r=none∧Inv X pins σ H s1) E s
 self:∀ (A:Around) (i:Nat) (s:Shared) (Q:Value→Shared→Prop) (E:Value→Shared→Prop),tn i s.heap→Q (.ref it) s→wpAny (model P w) A (pyIter (.ref it)) Q E s
abbrev TI:=St→Hp→(It→Hp→Prop)→Prop
def PIE (X:Cx) (pins:List (Addr×Obj)) (σ:St) (tg:Expr) (R:It→Hp→Prop) (itv:Value) (s2:Shared):Prop :=
 ∃ (it:Addr) (fp:List Addr) (tn:Nat→Heap→Prop) (J:It) (H':Hp),itv=.ref it∧Inv X pins σ H' s2∧zs9 X.prog X.w X.K tg J fp it tn∧tn 0 s2.heap∧(∀ b∈fp,zla X pins H' b)∧R J H'
def PI (X:Cx) (tg iter:Expr) (wi:TI):Prop :=
 ∀ (pins:List (Addr×Obj)) (s:Shared) (σ:St) (H:Hp) (R:It→Hp→Prop),Inv X pins σ H s→wi σ H R →
  wpAny (model X.prog X.w) X.A (eval iter X.env) (fun v s1=>wpAny (model X.prog X.w) X.A (pyIter v) (PIE X pins σ tg R) X.xe s1) X.xe s
theorem zsW {M:Model} {A:Around} {E:Value→Shared→Prop} {s:Shared} {tg:Expr} {it:Addr} {u:Value} {o:Obj} {n:String} {vs:Array Value} {Q:Unit→Shared→Prop} (ho:s.heap.get? it=some o) (hc:o.cls=.type n) (hd:o.data=.fields vs)
  (hn:["enumerate","zip","dict_itemiterator","dict_reverseitemiterator","odict_iterator","itertools.zip_longest","itertools.pairwise"].contains n=false) (hQ:Q () s):wpAny M A (letOwnedTupleGo tg (.ref it) u) Q E s:=by
 unfold letOwnedTupleGo
 cases tg <;> first
  | exact wpAny_pure hQ
  | (cases u <;> first
    | exact wpAny_pure hQ
    | (refine wpAny_bind (wpAny_load ho ?_)
       rw [hc,hd]
       show wpAny M A (if (["enumerate","zip","dict_itemiterator","dict_reverseitemiterator","odict_iterator","itertools.zip_longest","itertools.pairwise"].contains n&&vs[0]? == some (rawInt _))=true then _ else _) Q E s
       rw [if_neg (by intro h;rw [hn,Bool.false_and] at h;cases h)]
       exact wpAny_pure hQ))
def Itl (K:PySem.W.Frag) (a:Addr):It :=
 ⟨fun i H=>∃ xs x,SqL K H a xs∧xs[i]?=some x,fun i H x H'=>H'=H∧∀ xs,SqL K H a xs→xs[i]?=some x,fun i H=>∃ xs,SqL K H a xs∧xs.length≤i⟩
def Itr (lo:Int) (n:Nat):It:=⟨fun i _=>i<n,fun i H x H'=>H'=H∧x=.int (lo+i),fun i _=>n≤i⟩
theorem zpa {P:Program} {w:World} {K:PySem.W.Frag} {tg:Expr} (a it:Addr):zs9 P w K tg (Itl K a) [it] it (fun i h=>h.IsListIter it a i) where
 mem:=by simp
 obj:=fun i h st b hb=>by
  have e:b=it:=by simpa using hb
  subst e
  obtain ⟨o,e,c,d⟩:=st
  exact ⟨o,e,fun v z=>by rw [d] at z;cases z⟩
 keep:=fun i h h' st k=>st.at fun o e=>k it (by simp) o e
 item:=by
  intro X hP hw hK hc i pins s σ H E I hf st hg
  subst hP hw hK
  obtain ⟨xs,x,hq,hx⟩:=hg
  obtain ⟨its,rv,p,hz⟩:=I.list hq
  obtain ⟨u,hu,ru⟩:=rv.get hx
  obtain ⟨f0,f1,f2,f3,f4,f5⟩:=hf it (by simp)
  refine wpAny_pyNext_list_item st p.isList (x:=u) (by simpa using hu) fun h' st' sb=>?_
  have I1:Inv X pins σ H { s with heap:=h' }:=I.turned (t':=s.toks) (fun b o hb e=>(sb.2 b hb).trans e) f0 f1 f3 f4 f5
  obtain ⟨o,e,c,d⟩:=id st'
  exact ⟨u,rfl,zsW (s:={ s with heap:=h' }) e c d (by decide) ⟨x,H,I1,ru,⟨rfl,fun ys hy=>by rw [I.list_inj hy hq];exact hx⟩,st',fun b hb=>(hf b hb).1⟩⟩
 done:=by
  intro X hP hw hK hc i pins s σ H E I hf st hg
  subst hP hw hK
  obtain ⟨xs,hq,hx⟩:=hg
  obtain ⟨its,rv,p,hz⟩:=I.list hq
  obtain ⟨f0,f1,f2,f3,f4,f5⟩:=hf it (by simp)
  have hl:=rv.length
  exact wpAny_pyNext_list_end (I.ok.hd hc) st p.isList (by simp;(first|lia|omega)) fun h' eb=>⟨rfl,I.turned (t':=s.toks) (fun b o hb e=>eb b o hb e) f0 f1 f3 f4 f5⟩
 self:=fun _ _ _ _ _ st h=>wpAny_pyIter_listiter st h
theorem zmv {P:Program} {w:World} {K:PySem.W.Frag} {tg:Expr} (it:Addr) (lo:Int) (n:Nat):zs9 P w K tg (Itr lo n) [it] it (fun i h=>IsRangeIter h it (lo+(i:Nat)*1) ((n:Int) - (i:Nat)) 1) where
 mem:=by simp
 obj:=fun i h st b hb=>by
  have e:b=it:=by simpa using hb
  subst e
  exact ⟨_,st,fun v z=>by
   have z':Data.fields _=Data.cell v:=z
   cases z'⟩
 keep:=fun i h h' st k=>k it (by simp) _ st
 item:=by
  intro X hP hw hK hc i pins s σ H E I hf st hg
  subst hP hw hK
  obtain ⟨f0,f1,f2,f3,f4,f5⟩:=hf it (by simp)
  have W:=Walks.range (prog:=X.prog) (w:=X.w) (I.ok.hd hc) it lo 1 n
  refine W.item i s _ _ hg st fun v h' tk hv st' kk=>?_
  obtain ⟨t,rfl⟩:=hv
  have I1:Inv X pins σ H { s with heap:=h',toks:=tk }:=I.turned (fun b o hb e=>kk b o (by simpa using hb) e) f0 f1 f3 f4 f5
  refine ⟨_,rfl,zsW (s:={ s with heap:=h',toks:=tk }) (n:="range_iterator") st' rfl rfl (by decide) ⟨.int (lo+i),H,I1,⟨t,?_⟩,⟨rfl,rfl⟩,st',fun b hb=>(hf b hb).1⟩⟩
  rw [Int.mul_one]
 done:=by
  intro X hP hw hK hc i pins s σ H E I hf st hg
  subst hP hw hK
  obtain ⟨f0,f1,f2,f3,f4,f5⟩:=hf it (by simp)
  exact wpAny_pyNext_range_end (I.ok.hd hc) st (by have:n≤i:=hg;(first|lia|omega)) fun h' eb=>⟨rfl,I.turned (t':=s.toks) (fun b o hb e=>eb b o hb e) f0 f1 f3 f4 f5⟩
 self:=fun _ _ _ _ _ st h=>wpAny_pyIter_rangeiter st h
end L2
namespace L2
open PySem PySem.Spec PyProof.Rows
section
variable {X:Cx} {tg:Expr}
def zhL (K:PySem.W.Frag) (tl:TE):TI:=fun σ H R=>tl σ H fun x H1=>∃ a,x=.ref a∧(∃ xs,SqL K H1 a xs)∧R (Itl K a) H1
theorem zgZ {l:Expr} {tl:TE} (hl:PE X l tl):PI X tg l (zhL X.K tl):=by
 intro pins s σ H R I h
 refine thn (hl pins s σ H _ I h) fun v s1 hQ'=>?_
 obtain ⟨x,H1,I1,r1,q1⟩:=hQ'
 obtain ⟨a,e,⟨xs,hq⟩,q⟩:=q1
 subst e
 cases r1
 obtain ⟨its,rv,p,hz⟩:=I1.list hq
 refine wpAny_pyIter_list p.isList ?_
 refine ⟨s1.heap.objs.size,[s1.heap.objs.size],_,_,H1,rfl,I1.kept (t':=s1.toks) fun b o e=>Heap.get?_push_of_some _ e,zpa a _,⟨_,Heap.get?_push_size _ rfl,rfl,rfl⟩,fun b hb=>?_,q⟩
 have e:b=s1.heap.objs.size:=by simpa using hb
 subst e
 exact I1.fpOk (Nat.le_refl _) (I1.hok.fresh (Nat.le_refl _))
theorem zlX {pins:List (Addr×Obj)} {σ:St} {H:Hp} {s:Shared} {R:It→Hp→Prop} {E:Value→Shared→Prop} {lo hi:Int} {t u v:Tok} {tk:Nat} (I:Inv X pins σ H s) (h1:-(2 ^ 62)≤lo) (h2:lo<2 ^ 62) (h3:-(2 ^ 62)≤hi) (h4:hi<2 ^ 62)
  (q:R (Itr lo (hi - lo).toNat) H):wpAny (model X.prog X.w) X.A (pyIter (.ref s.heap.objs.size)) (PIE X pins σ tg R) E { s with heap:=s.heap.push { cls:=.type "range",data:=.fields #[.int lo t,.int hi u,.int 1 v] },toks:=tk }:=by
 refine wpAny_pyIter_range (IsRange.new ..) (small_one h1 h2 h3 h4) ?_
 have I1:Inv X pins σ H { s with heap:=s.heap.push { cls:=.type "range",data:=.fields #[.int lo t,.int hi u,.int 1 v] },toks:=tk }:=I.kept fun b o e=>Heap.get?_push_of_some _ e
 refine ⟨(s.heap.push { cls:=.type "range",data:=.fields #[.int lo t,.int hi u,.int 1 v] }).objs.size,[(s.heap.push { cls:=.type "range",data:=.fields #[.int lo t,.int hi u,.int 1 v] }).objs.size],_,_,H,rfl,
  I1.kept (t':=tk) fun b o e=>Heap.get?_push_of_some _ e,zmv _ lo (hi - lo).toNat,?_,fun b hb=>?_,q⟩
 ·have e1:lo+((0:Nat):Int)*1=lo:=by simp
  have e2:(((hi - lo).toNat:Nat):Int) - ((0:Nat):Int)=Builtin.Range.rangeSize lo hi 1:=by rw [rangeSize_one];split <;> (first|lia|omega)
  show IsRangeIter _ _ (lo+((0:Nat):Int)*1) ((((hi - lo).toNat:Nat):Int) - ((0:Nat):Int)) 1
  rw [e1,e2]
  exact Heap.get?_push_size _ rfl
 ·have e:b=(s.heap.push { cls:=.type "range",data:=.fields #[.int lo t,.int hi u,.int 1 v] }).objs.size:=by simpa using hb
  subst e
  exact I1.fpOk (Nat.le_refl _) (I1.hok.fresh (Nat.le_refl _))
def zfC (ta:TA):TI:=fun σ H R=>ta σ H fun vs H1=>∃ j:Int,vs=[.int j]∧-(2 ^ 62)≤j∧j<2 ^ 62∧R (Itr 0 j.toNat) H1
def zpS (ta:TA):TI:=fun σ H R=>ta σ H fun vs H1=>∃ i j:Int,vs=[.int i,.int j]∧(-(2 ^ 62)≤i∧i<2 ^ 62∧-(2 ^ 62)≤j∧j<2 ^ 62)∧R (Itr i (j - i).toNat) H1
theorem zc3 {a:Expr} {ta:TA} {p pos:Pos} (hg:Gl X "range") (hm:X.mg "range"=none) (ha:PA X [a] ta) (hs:starEach [a] X.env=[(false,eval a X.env)]:=by rfl):PI X tg (.Call (.Name "range" p) [a] [] pos) (zfC ta):=by
 intro pins s σ H R I h
 refine Call_ (zgz I hg hm boot_range (PyProof.Rows.callWith_type1 (thn (ha pos pins s σ H _ I h) fun us s1 hQ'=>?_) hs rfl))
 obtain ⟨vs,H1,I1,r1,q1⟩:=hQ'
 obtain ⟨j,e,q1,q2,q⟩:=q1
 subst e
 cases r1 with
 | cons r rr =>
  cases rr
  obtain ⟨t,rfl⟩:=r
  exact call_range_1 (zlX I1 (by (first|lia|omega)) (by (first|lia|omega)) q1 q2 (by simpa using q))
theorem zoR {a b:Expr} {ta:TA} {p pos:Pos} (hg:Gl X "range") (hm:X.mg "range"=none) (ha:PA X [a,b] ta) (hs:starEach [a,b] X.env=[(false,eval a X.env),(false,eval b X.env)]:=by rfl) (hs2:starEach [b] X.env=[(false,eval b X.env)]:=by rfl) :
  PI X tg (.Call (.Name "range" p) [a,b] [] pos) (zpS ta):=by
 intro pins s σ H R I h
 refine Call_ (zgz I hg hm boot_range (PyProof.Rows.callWith_type1 (thn (ha pos pins s σ H _ I h) fun us s1 hQ'=>?_) (by rw [hs,hs2]) (by rw [hs2];rfl)))
 obtain ⟨vs,H1,I1,r1,q1⟩:=hQ'
 obtain ⟨i,j,e,⟨q1,q2,q3,q4⟩,q⟩:=q1
 subst e
 cases r1 with
 | cons r rr =>
  cases rr with
  | cons r' rr =>
   cases rr
   obtain ⟨t,rfl⟩:=r
   obtain ⟨t',rfl⟩:=r'
   exact call_range_2 (zlX I1 q1 q2 q3 q4 q)
def zgJ (wi:TI) (g:TG) (tb:TS):TS:=fun D σ H=>wi σ H fun J H1=>∃ W:Nat→Nat→St→Hp→Prop,(∃ m,W 0 m σ H1)∧∀ i m σ H,W i m σ H →
 (J.stop i H∧D.nx σ H)∨(J.go i H∧∃ N:St→Hp→Prop,(∀ σ' H',N σ' H'→∃ m',m'<m∧W (i+1) m' σ' H')∧∀ x H',J.yld i H x H'→g x σ H' fun σ2 H2=>tb { D with nx:=N,ct:=N,bk:=D.nx } σ2 H2)
def zkx (fp:List Addr) (h:Heap):List (Addr×Obj):=fp.filterMap fun b=>(h.get? b).map fun o=>(b,o)
theorem zeP {fp:List Addr} {h:Heap} {b:Addr} {o:Obj} (hb:b∈fp) (e:h.get? b=some o):(b,o)∈zkx fp h:=List.mem_filterMap.mpr ⟨b,hb,by rw [e];rfl⟩
theorem zoH {fp:List Addr} {h:Heap} {p:Addr×Obj} (hp:p∈zkx fp h):p.1∈fp∧h.get? p.1=some p.2:=by
 obtain ⟨b,hb,e⟩:=List.mem_filterMap.mp hp
 cases q:h.get? b with
 | none=>rw [q] at e;cases e
 | some o =>
  rw [q] at e
  have e':(b,o)=p:=Option.some.inj e
  subst e'
  exact ⟨hb,q⟩
theorem Inv.pinned {pins:List (Addr×Obj)} {σ:St} {H:Hp} {s:Shared} {fp:List Addr} (I:Inv X pins σ H s) (hf:∀ b∈fp,zla X pins H b) (ho:∀ b∈fp,∃ o,s.heap.get? b=some o∧∀ v,o.data≠.cell v):Inv X (pins++zkx fp s.heap) σ H s :=
 I.pins_of fun p hp=>(List.mem_append.mp hp).elim (fun z=>I.pin p (List.mem_append_right _ z)) fun z=>by
  obtain ⟨hb,e⟩:=zoH z
  obtain ⟨f0,f1,f2,_⟩:=hf p.1 hb
  obtain ⟨o,e',d⟩:=ho p.1 hb
  rw [e] at e';cases e'
  exact ⟨e,f0,f1,f2,d⟩
theorem Inv.unpinned {pins pl:List (Addr×Obj)} {σ:St} {H:Hp} {s:Shared} (I:Inv X (pins++pl) σ H s):Inv X pins σ H s:=I.pins_of fun p hp=>I.pin p (List.mem_append_right _ (List.mem_append_left _ hp))
theorem zds {iter:Expr} {body:List Stmt} {wi:TI} {g:TG} {tb:TS} {pos:Pos} (hp:PassesOwn (model X.prog X.w) X.A X.env X.xe) (hc:X.calm=true) (hi:PI X tg iter wi) (hg:PG X tg g) (hb:PSs X body tb)
  (hs:∀ x,foldedSetIterable iter X.env x=pure x:=by intro _;rfl):PS X (.For tg iter body [] pos) (zgJ wi g tb):=by
 intro pins s σ H D I h
 refine wpAny_For (thn (hi pins s σ H _ I h) fun v s1 h1=>thn h1 fun itv s2 h2=>?_) hs
 obtain ⟨it,fp,tn,J,H2,e,I2,T,st2,f2,W,⟨m0,w0⟩,turn⟩:=h2
 subst e
 have stat:∀ {H':Hp},(∀ b∈fp,H' b=none)→∀ b∈fp,zla X pins H' b:=fun hn b hb=>⟨hn b hb,(f2 b hb).2⟩
 refine codeAny_forLoop_any (fun n s'=>∃ i σ' H',Inv X pins σ' H' s'∧tn i s'.heap∧(∀ b∈fp,H' b=none)∧W i n σ' H') ?_ m0 ⟨0,σ,H2,I2,st2,fun b hb=>(f2 b hb).1,w0⟩
 rintro n s3 ⟨i,σ3,H3,I3,st3,fr3,w3⟩
 rcases turn i n σ3 H3 w3 with ⟨stop,qn⟩ | ⟨go,N,hN,step⟩
 ·refine wpAny_passesOwn hp (thn (T.done X rfl rfl rfl hc i pins s3 σ3 H3 X.xe I3 (stat fr3) st3 stop) fun r s4 hQ'=>?_)
  obtain ⟨hr,I4⟩:=hQ'
  subst hr
  exact wpAny_execs_nil ⟨σ3,H3,I4,qn⟩
 ·refine wpAny_passesOwn hp (thn (T.item X rfl rfl rfl hc i pins s3 σ3 H3 X.xe I3 (stat fr3) st3 go) fun r s4 hQ'=>?_)
  obtain ⟨u,hr,h4⟩:=hQ'
  subst hr
  refine wpAny_passesOwn hp (thn h4 fun _ s5 hQ'=>?_)
  obtain ⟨x,H5,I5,r5,y5,st5,fr5⟩:=hQ'
  have I5':=I5.pinned (stat fr5) (T.obj _ _ st5)
  refine wpAny_passesOwn hp (thn (hg _ s5 σ3 H5 x u _ I5' r5 (step x H5 y5)) fun _ s6 hQ'=>?_)
  obtain ⟨σ6,H6,I6,q6⟩:=hQ'
  refine wpAny_passesOwn hp (thn (hb _ s6 σ6 H6 _ I6 q6) fun f s7 q7=>?_)
  have again:∀ {σ7:St} {H7:Hp},Inv X (pins++zkx fp s5.heap) σ7 H7 s7→N σ7 H7→∃ m,m<n∧∃ i σ' H',Inv X pins σ' H' s7∧tn i s7.heap∧(∀ b∈fp,H' b=none)∧W i m σ' H':=fun {σ7 H7} I7 n7=>by
   obtain ⟨m',hm,w7⟩:=hN σ7 H7 n7
   refine ⟨m',hm,i+1,σ7,H7,I7.unpinned,T.keep _ _ _ st5 fun b hb o e=>(I7.pin (b,o) (List.mem_append_right _ (List.mem_append_right _ (zeP hb e)))).1,fun b hb=>?_,w7⟩
   obtain ⟨o,e,d⟩:=T.obj _ _ st5 b hb
   exact (I7.pin (b,o) (List.mem_append_right _ (List.mem_append_right _ (zeP hb e)))).2.1
  cases f with
  | next=>obtain ⟨σ7,H7,I7,n7⟩:=q7;exact again I7 n7
  | cont=>obtain ⟨σ7,H7,I7,n7⟩:=q7;exact again I7 n7
  | brk=>obtain ⟨σ7,H7,I7,q7⟩:=q7;exact ⟨σ7,H7,I7.unpinned,q7⟩
  | ret v=>obtain ⟨x7,σ7,H7,I7,r7,q7⟩:=q7;exact ⟨x7,σ7,H7,I7.unpinned,r7,q7⟩
end
theorem zpO {K:PySem.W.Frag} {a:Addr} {xs:List V} {g:TG} {tb:TS} {D:zb1} {σ:St} {H:Hp} (Pv:Nat→St→Hp→Prop) (h0:Pv 0 σ H) (hl:∀ i σ H,i≤xs.length→Pv i σ H→SqL K H a xs)
  (hs:∀ i x σ H,xs[i]?=some x→Pv i σ H→g x σ H fun σ2 H2=>tb { D with nx:=Pv (i+1),ct:=Pv (i+1),bk:=D.nx } σ2 H2) (hd:∀ σ H,Pv xs.length σ H→D.nx σ H) :
  ∃ W:Nat→Nat→St→Hp→Prop,(∃ m,W 0 m σ H)∧∀ i m σ H,W i m σ H →
   ((Itl K a).stop i H∧D.nx σ H)∨((Itl K a).go i H∧∃ N:St→Hp→Prop,(∀ σ' H',N σ' H'→∃ m',m'<m∧W (i+1) m' σ' H')∧∀ x H',(Itl K a).yld i H x H'→g x σ H' fun σ2 H2=>tb { D with nx:=N,ct:=N,bk:=D.nx } σ2 H2):=by
 refine ⟨fun i m σ H=>m=xs.length - i∧i≤xs.length∧Pv i σ H,⟨xs.length,by simp,Nat.zero_le _,h0⟩,?_⟩
 rintro i m σ H ⟨rfl,hi,p⟩
 have q:=hl i σ H hi p
 by_cases hlt:i<xs.length
 ·refine .inr ⟨⟨xs,xs[i],q,by simp [hlt]⟩,Pv (i+1),fun σ' H' p'=>⟨xs.length - (i+1),by (first|lia|omega),rfl,hlt,p'⟩,fun x H' y=>?_⟩
  obtain ⟨e,y⟩:=y
  subst e
  exact hs i x σ _ (y xs q) p
 ·have e:i=xs.length:=by (first|lia|omega)
  subst e
  exact .inl ⟨⟨xs,q,Nat.le_refl _⟩,hd σ H p⟩
theorem zo7 {lo:Int} {n:Nat} {g:TG} {tb:TS} {D:zb1} {σ:St} {H:Hp} (Pv:Nat→St→Hp→Prop) (h0:Pv 0 σ H)
  (hs:∀ i σ H,i<n→Pv i σ H→g (.int (lo+i)) σ H fun σ2 H2=>tb { D with nx:=Pv (i+1),ct:=Pv (i+1),bk:=D.nx } σ2 H2) (hd:∀ σ H,Pv n σ H→D.nx σ H) :
  ∃ W:Nat→Nat→St→Hp→Prop,(∃ m,W 0 m σ H)∧∀ i m σ H,W i m σ H →
   ((Itr lo n).stop i H∧D.nx σ H)∨((Itr lo n).go i H∧∃ N:St→Hp→Prop,(∀ σ' H',N σ' H'→∃ m',m'<m∧W (i+1) m' σ' H')∧∀ x H',(Itr lo n).yld i H x H'→g x σ H' fun σ2 H2=>tb { D with nx:=N,ct:=N,bk:=D.nx } σ2 H2):=by
 refine ⟨fun i m σ H=>m=n - i∧i≤n∧Pv i σ H,⟨n,by simp,Nat.zero_le _,h0⟩,?_⟩
 rintro i m σ H ⟨rfl,hi,p⟩
 by_cases hlt:i<n
 ·refine .inr ⟨hlt,Pv (i+1),fun σ' H' p'=>⟨n - (i+1),by (first|lia|omega),rfl,hlt,p'⟩,fun x H' y=>?_⟩
  obtain ⟨e,y⟩:=y
  subst e y
  exact hs i σ _ hlt p
 ·have e:i=n:=by (first|lia|omega)
  subst e
  exact .inl ⟨Nat.le_refl _,hd σ H p⟩
end L2
namespace L2
open PySem PySem.Spec PyProof.Rows
abbrev R2:=V→V→Hp→VK→Prop
def OpR (X:Cx) (f:Value→Value→Sem Value) (r:R2):Prop :=
 ∀ (pins:List (Addr×Obj)) (s:Shared) (σ:St) (H:Hp) (x y:V) (v u:Value) (Q:VK),Inv X pins σ H s→zcA x v→zcA y u→r x y H Q →
  wpAny (model X.prog X.w) X.A (f v u) (EP X pins σ Q) X.xe s
def UnR (X:Cx) (f:Value→Sem Value) (r:V→Hp→VK→Prop):Prop :=
 ∀ (pins:List (Addr×Obj)) (s:Shared) (σ:St) (H:Hp) (x:V) (v:Value) (Q:VK),Inv X pins σ H s→zcA x v→r x H Q →
  wpAny (model X.prog X.w) X.A (f v) (EP X pins σ Q) X.xe s
def zes (X:Cx) (f:Value) (r:List V→Hp→VK→Prop):Prop :=
 ∀ (pins:List (Addr×Obj)) (s:Shared) (σ:St) (H:Hp) (xs:List V) (us:List Value) (Q:VK),Inv X pins σ H s→zcc xs us→r xs H Q →
  wpAny (model X.prog X.w) X.A (call f us) (EP X pins σ Q) X.xe s
def TruR (X:Cx) (r:V→Hp→(Bool→Hp→Prop)→Prop):Prop :=
 ∀ (pins:List (Addr×Obj)) (s:Shared) (σ:St) (H:Hp) (x:V) (v:Value) (Q:Bool→Hp→Prop),Inv X pins σ H s→zcA x v→r x H Q →
  wpAny (model X.prog X.w) X.A (truthy v) (TP X pins σ Q) X.xe s
def tOp (r:R2) (ta tb:TE):TE:=fun σ H Q=>ta σ H fun x H1=>tb σ H1 fun y H2=>r x y H2 Q
def tUn (r:V→Hp→VK→Prop) (ta:TE):TE:=fun σ H Q=>ta σ H fun x H1=>r x H1 Q
def rI (C:Int→Int→Prop) (g:Int→Int→V):R2:=fun x y H Q=>∃ i j,x=.int i∧y=.int j∧C i j∧Q (g i j) H
def rI0 (g:Int→Int→V):R2:=fun x y H Q=>∃ i j,x=.int i∧y=.int j∧Q (g i j) H
def rU (g:Int→V):V→Hp→VK→Prop:=fun x H Q=>∃ i,x=.int i∧Q (g i) H
section
variable {X:Cx} {a b c:Expr} {ta tb tc:TE} {pos:Pos}
theorem binT (ha:PE X a ta) (hb:PE X b tb) {pins:List (Addr×Obj)} {s:Shared} {σ:St} {H:Hp} {R:V→V→Hp→Prop} (I:Inv X pins σ H s)
  (h:ta σ H fun x H1=>tb σ H1 fun y H2=>R x y H2) {Q:Value→Shared→Prop} {f:Value→Value→Sem Value}
  (hf:∀ v u s2 x y H2,Inv X pins σ H2 s2→zcA x v→zcA y u→R x y H2→wpAny (model X.prog X.w) X.A (f v u) Q X.xe s2) :
  wpAny (model X.prog X.w) X.A (eval a X.env) (fun v s₁=>wpAny (model X.prog X.w) X.A (eval b X.env) (fun u s₂=>wpAny (model X.prog X.w) X.A (f v u) Q X.xe s₂) X.xe s₁) X.xe s:=by
 refine thn (ha pins s σ H _ I h) fun v s1 hQ'=>?_
 obtain ⟨x,H1,I1,r1,q1⟩:=hQ'
 refine thn (hb pins s1 σ H1 _ I1 q1) fun u s2 hQ'=>?_
 obtain ⟨y,H2,I2,r2,q2⟩:=hQ'
 exact hf v u s2 x y H2 I2 r1 r2 q2
theorem zaC {op:Operator} {r:R2} (ho:OpR X (binaryOp op) r) (ha:PE X a ta) (hb:PE X b tb):PE X (.BinOp a op b pos) (tOp r ta tb):=by
 intro pins s σ H Q I h
 exact wpAny_BinOp (binT ha hb I h fun v u s2 x y H2 I2 rx ry q=>ho pins s2 σ H2 x y v u Q I2 rx ry q)
theorem zjE {op:UnaryOp} {r:V→Hp→VK→Prop} (ho:UnR X (unaryOp op) r) (ha:PE X a ta):PE X (.UnaryOp op a pos) (tUn r ta):=by
 intro pins s σ H Q I h
 exact UnaryOp_ (thn (ha pins s σ H _ I h) fun v s1 ⟨x,H1,I1,r1,q1⟩=>ho pins s1 σ H1 x v Q I1 r1 q1)
theorem opI {f:Value→Value→Sem Value} {C:Int→Int→Prop} {g:Int→Int→Int}
  (rule:∀ (i j:Int) (t u:Tok) (s:Shared) (Q:Value→Shared→Prop) (E:Value→Shared→Prop),C i j→Q (.int (g i j) s.toks) { s with toks:=s.toks+1 }→wpAny (model X.prog X.w) X.A (f (.int i t) (.int j u)) Q E s) :
  OpR X f (rI C fun i j=>.int (g i j)):=by
 intro pins s σ H x y v u Q I rx ry h
 obtain ⟨i,j,rfl,rfl,hc,q⟩:=h
 obtain ⟨t,rfl⟩:=rx
 obtain ⟨t',rfl⟩:=ry
 exact rule i j t t' s _ _ hc ⟨.int (g i j),H,I.tok _,⟨_,rfl⟩,q⟩
theorem opI0 {f:Value→Value→Sem Value} {g:Int→Int→Int}
  (rule:∀ (i j:Int) (t u:Tok) (s:Shared) (Q:Value→Shared→Prop) (E:Value→Shared→Prop),Q (.int (g i j) s.toks) { s with toks:=s.toks+1 }→wpAny (model X.prog X.w) X.A (f (.int i t) (.int j u)) Q E s) :
  OpR X f (rI0 fun i j=>.int (g i j)):=by
 intro pins s σ H x y v u Q I rx ry h
 obtain ⟨i,j,rfl,rfl,q⟩:=h
 obtain ⟨t,rfl⟩:=rx
 obtain ⟨t',rfl⟩:=ry
 exact rule i j t t' s _ _ ⟨.int (g i j),H,I.tok _,⟨_,rfl⟩,q⟩
theorem opB0 {f:Value→Value→Sem Value} {g:Int→Int→Bool}
  (rule:∀ (i j:Int) (t u:Tok) (s:Shared) (Q:Value→Shared→Prop) (E:Value→Shared→Prop),Q (.bool (g i j)) s→wpAny (model X.prog X.w) X.A (f (.int i t) (.int j u)) Q E s) :
  OpR X f (rI0 fun i j=>.bl (g i j)):=by
 intro pins s σ H x y v u Q I rx ry h
 obtain ⟨i,j,rfl,rfl,q⟩:=h
 obtain ⟨t,rfl⟩:=rx
 obtain ⟨t',rfl⟩:=ry
 exact rule i j t t' s _ _ ⟨.bl (g i j),H,I,rfl,q⟩
def zlG (i j:Int):Prop:=0≤j∧j≤1000000∧i.natAbs<2 ^ 64
theorem zb3:OpR X (binaryOp .Add) (rI0 fun i j=>.int (i+j)):=opI0 fun _ _ _ _ _ _ _ q=>add_int q
theorem zg8:OpR X (binaryOp .Sub) (rI0 fun i j=>.int (i - j)):=opI0 fun _ _ _ _ _ _ _ q=>sub_int q
theorem zbJ:OpR X (binaryOp .Mod) (rI (fun _ j=>0<j) fun i j=>.int (i % j)):=opI fun i j _ _ _ _ _ hc q=>by
 have h1:(0:Int)<j:=hc
 exact mod_int' (by (first|lia|omega)) (by rw [Int.fmod_eq_emod_of_nonneg i (by (first|lia|omega))];exact q)
theorem zha:OpR X (binaryOp .Pow) (rI zlG fun i j=>.int (i ^ j.toNat)):=opI fun _ _ _ _ _ _ _ hc q=>pow_int_small hc.1 hc.2.1 hc.2.2 q
theorem unI {f:Value→Sem Value} {g:Int→Int}
  (rule:∀ (i:Int) (t:Tok) (s:Shared) (Q:Value→Shared→Prop) (E:Value→Shared→Prop),Q (.int (g i) s.toks) { s with toks:=s.toks+1 }→wpAny (model X.prog X.w) X.A (f (.int i t)) Q E s) :
  UnR X f (rU fun i=>.int (g i)):=by
 intro pins s σ H x v Q I rx h
 obtain ⟨i,rfl,q⟩:=h
 obtain ⟨t,rfl⟩:=rx
 exact rule i t s _ _ ⟨.int (g i),H,I.tok _,⟨_,rfl⟩,q⟩
theorem zgG:UnR X (unaryOp .USub) (rU fun i=>.int (-i)):=unI fun _ _ _ _ _ q=>neg_int q
end
def scal:V→V→Bool
 | .non,.non=>true | .non,.int _=>true | .int _,.non=>true | .non,.bl _=>true | .bl _,.non=>true | .non,.str _=>true | .str _,.non=>true
 | .int _,.int _=>true | .bl _,.bl _=>true | .str _,.str _=>true | .byt _,.byt _=>true
 | .int _,.str _=>true | .str _,.int _=>true | .bl _,.str _=>true | .str _,.bl _=>true
 | _,_=>false
def rEq:R2:=fun x y H Q=>scal x y=true∧Q (.bl (decide (x=y))) H
def rNe:R2:=fun x y H Q=>scal x y=true∧Q (.bl (!decide (x=y))) H
theorem zoy {i j:Int}:decide (V.int i=V.int j)=(i == j):=by
 rw [Bool.eq_iff_iff]
 simp
theorem zrf {i j:Bool}:decide (V.bl i=V.bl j)=(i == j):=by
 rw [Bool.eq_iff_iff]
 simp
theorem zoC {i j:Str}:decide (V.str i=V.str j)=(i == j):=by
 rw [Bool.eq_iff_iff]
 simp
theorem zoF {i j:Array UInt8}:decide (V.byt i=V.byt j)=(i.toList == j.toList):=by
 rw [Bool.eq_iff_iff]
 cases i
 cases j
 simp
section
variable {X:Cx} {a b c:Expr} {ta tb tc:TE} {pos:Pos}
theorem zbA {pins:List (Addr×Obj)} {σ:St} {H:Hp} {s:Shared} {Q:VK} {k k':Bool} (I:Inv X pins σ H s) (q:Q (.bl k) H) (e:k=k'):EP X pins σ Q (.bool k') s:=by
 subst e
 exact ⟨.bl k,H,I,rfl,q⟩
theorem zdg:OpR X (compareOp .Eq) rEq:=by
 intro pins s σ H x y v u Q I rx ry h
 obtain ⟨hs,q⟩:=h
 cases x with
 | non =>
  cases rx
  cases y with
  | non=>cases ry;exact PySem.EqNone.eq_none_none (zbA I q (by simp))
  | bl j=>cases ry;exact PySem.EqNone.eq_none_bool (zbA I q (by simp))
  | int j=>obtain ⟨t',rfl⟩:=ry;exact PySem.EqNone.eq_none_int (zbA I q (by simp))
  | str j=>obtain ⟨t',rfl⟩:=ry;exact PySem.EqNone.eq_none_str (zbA I q (by simp))
  | _=>exact absurd (show false=true from hs) Bool.false_ne_true
 | bl i =>
  cases rx
  cases y with
  | non=>cases ry;exact PySem.EqNone.eq_bool_none (zbA I q (by simp))
  | bl j=>cases ry;exact eq_bool (zbA I q zrf)
  | str j=>obtain ⟨t',rfl⟩:=ry;exact PySem.EqMixed.eq_bool_str (zbA I q (by simp))
  | _=>exact absurd (show false=true from hs) Bool.false_ne_true
 | int i =>
  obtain ⟨t,rfl⟩:=rx
  cases y with
  | non=>cases ry;exact PySem.EqNone.eq_int_none (zbA I q (by simp))
  | int j=>obtain ⟨t',rfl⟩:=ry;exact eq_int (zbA I q zoy)
  | str j=>obtain ⟨t',rfl⟩:=ry;exact PySem.EqMixed.eq_int_str (zbA I q (by simp))
  | _=>exact absurd (show false=true from hs) Bool.false_ne_true
 | str i =>
  obtain ⟨t,rfl⟩:=rx
  cases y with
  | non=>cases ry;exact PySem.EqNone.eq_str_none (zbA I q (by simp))
  | bl j=>cases ry;exact PySem.EqMixed.eq_str_bool (zbA I q (by simp))
  | int j=>obtain ⟨t',rfl⟩:=ry;exact PySem.EqMixed.eq_str_int (zbA I q (by simp))
  | str j=>obtain ⟨t',rfl⟩:=ry;exact eq_str (zbA I q zoC)
  | _=>exact absurd (show false=true from hs) Bool.false_ne_true
 | byt i =>
  obtain ⟨t,rfl⟩:=rx
  cases y with
  | byt j=>obtain ⟨t',rfl⟩:=ry;exact PySem.W.eq_bytes (zbA I q zoF)
  | _=>exact absurd (show false=true from hs) Bool.false_ne_true
 | _=>cases y <;> exact absurd (show false=true from hs) Bool.false_ne_true
theorem zd8:OpR X (compareOp .NotEq) rNe:=by
 intro pins s σ H x y v u Q I rx ry h
 obtain ⟨hs,q⟩:=h
 cases x with
 | non =>
  cases rx
  cases y with
  | non=>cases ry;exact PySem.EqNone.ne_none_none (zbA I q (by simp))
  | bl j=>cases ry;exact PySem.EqNone.ne_none_bool (zbA I q (by simp))
  | int j=>obtain ⟨t',rfl⟩:=ry;exact PySem.EqNone.ne_none_int (zbA I q (by simp))
  | str j=>obtain ⟨t',rfl⟩:=ry;exact PySem.EqNone.ne_none_str (zbA I q (by simp))
  | _=>exact absurd (show false=true from hs) Bool.false_ne_true
 | bl i =>
  cases rx
  cases y with
  | non=>cases ry;exact PySem.EqNone.ne_bool_none (zbA I q (by simp))
  | bl j=>cases ry;exact ne_bool (zbA I q (congrArg not zrf))
  | str j=>obtain ⟨t',rfl⟩:=ry;exact PySem.EqMixed.ne_bool_str (zbA I q (by simp))
  | _=>exact absurd (show false=true from hs) Bool.false_ne_true
 | int i =>
  obtain ⟨t,rfl⟩:=rx
  cases y with
  | non=>cases ry;exact PySem.EqNone.ne_int_none (zbA I q (by simp))
  | int j=>obtain ⟨t',rfl⟩:=ry;exact ne_int (zbA I q (congrArg not zoy))
  | str j=>obtain ⟨t',rfl⟩:=ry;exact PySem.EqMixed.ne_int_str (zbA I q (by simp))
  | _=>exact absurd (show false=true from hs) Bool.false_ne_true
 | str i =>
  obtain ⟨t,rfl⟩:=rx
  cases y with
  | non=>cases ry;exact PySem.EqNone.ne_str_none (zbA I q (by simp))
  | bl j=>cases ry;exact PySem.EqMixed.ne_str_bool (zbA I q (by simp))
  | int j=>obtain ⟨t',rfl⟩:=ry;exact PySem.EqMixed.ne_str_int (zbA I q (by simp))
  | str j=>obtain ⟨t',rfl⟩:=ry;exact ne_str (zbA I q (congrArg not zoC))
  | _=>exact absurd (show false=true from hs) Bool.false_ne_true
 | byt i =>
  obtain ⟨t,rfl⟩:=rx
  cases y with
  | byt j=>obtain ⟨t',rfl⟩:=ry;exact PySem.W.ne_bytes (zbA I q (congrArg not zoF))
  | _=>exact absurd (show false=true from hs) Bool.false_ne_true
 | _=>cases y <;> exact absurd (show false=true from hs) Bool.false_ne_true
theorem ziO:OpR X (compareOp .Lt) (rI0 fun i j=>.bl (decide (i<j))):=opB0 fun _ _ _ _ _ _ _ q=>lt_int q
theorem zmL:OpR X (compareOp .LtE) (rI0 fun i j=>.bl (decide (i≤j))):=opB0 fun _ _ _ _ _ _ _ q=>le_int q
theorem zlf:OpR X (compareOp .Gt) (rI0 fun i j=>.bl (decide (j<i))):=opB0 fun _ _ _ _ _ _ _ q=>gt_int q
theorem zpJ:OpR X (compareOp .GtE) (rI0 fun i j=>.bl (decide (j≤i))):=opB0 fun _ _ _ _ _ _ _ q=>ge_int q
theorem zod:OpR X (compareOp .In) (fun x y H Q=>∃ i j,x=.str i∧y=.str j∧Q (.bl (!(Builtin.Str.occurrences j i 0 j.length 1).isEmpty)) H):=by
 intro pins s σ H x y v u Q I rx ry h
 obtain ⟨i,j,rfl,rfl,q⟩:=h
 obtain ⟨t,rfl⟩:=rx
 obtain ⟨t',rfl⟩:=ry
 exact in_str (zbA I q rfl)
theorem zhb:OpR X (compareOp .Is) (fun x y H Q=>y=.non∧Q (.bl (decide (x=.non))) H):=by
 intro pins s σ H x y v u Q I rx ry h
 obtain ⟨rfl,q⟩:=h
 cases ry
 refine is_none_gen (zbA I q ?_)
 cases x <;> first
  | (cases rx;rfl)
  | (obtain ⟨t,rfl⟩:=rx;rfl)
theorem zrU:OpR X (compareOp .IsNot) (fun x y H Q=>y=.non∧Q (.bl (!decide (x=.non))) H):=by
 intro pins s σ H x y v u Q I rx ry h
 obtain ⟨rfl,q⟩:=h
 cases ry
 refine isnot_none_gen (zbA I q ?_)
 cases x <;> first
  | (cases rx;rfl)
  | (obtain ⟨t,rfl⟩:=rx;rfl)
theorem zjC:OpR X (compareOp .NotIn) (fun x y H Q=>∃ i j,x=.str i∧y=.str j∧Q (.bl (!(!(Builtin.Str.occurrences j i 0 j.length 1).isEmpty))) H):=by
 intro pins s σ H x y v u Q I rx ry h
 obtain ⟨i,j,rfl,rfl,q⟩:=h
 obtain ⟨t,rfl⟩:=rx
 obtain ⟨t',rfl⟩:=ry
 exact notIn_str (zbA I q rfl)
theorem zaF (b:Expr) {op:CmpOp} (h:op≠.In:=by decide) (h2:op≠.NotIn:=by decide):behindInMarks op b=false:=by
 have e1:(op == CmpOp.In)=false:=by cases op <;> first | rfl | exact absurd rfl h
 have e2:(op == CmpOp.NotIn)=false:=by cases op <;> first | rfl | exact absurd rfl h2
 cases b <;> simp [behindInMarks,e1,e2]
theorem zcG {op:CmpOp} {r:R2} (ho:OpR X (compareOp op) r) (ha:PE X a ta) (hb:PE X b tb) (hm:behindInMarks op b=false):PE X (.Compare a [op] [b] pos) (tOp r ta tb):=by
 intro pins s σ H Q I h
 exact wpAny_Compare1 (binT ha hb I h fun v u s2 x y H2 I2 rx ry q=>ho pins s2 σ H2 x y v u Q I2 rx ry q) hm
def zaA (t:TE):TT:=fun σ H Q=>t σ H fun x H'=>∃ k,x=.bl k∧Q k H'
theorem zay {op:CmpOp} {r:R2} (ho:OpR X (compareOp op) r) (ha:PE X a ta) (hb:PE X b tb) (hm:behindInMarks op b=false):PT X (.Compare a [op] [b] pos) (zaA (tOp r ta tb)):=by
 intro pins s σ H Q I h
 refine wpAny_isTrue_Compare1 (thn (ha pins s σ H _ I h) fun v s1 ⟨x,H1,I1,r1,q1⟩=>thn (hb pins s1 σ H1 _ I1 q1) fun u s2 ⟨y,H2,I2,r2,q2⟩ =>
  thn (ho pins s2 σ H2 x y v u _ I2 r1 r2 q2) fun c s3 ⟨z,H3,I3,r3,k,e,q3⟩=>?_) hm
 subst e
 cases r3
 exact wpAny_truthy_bool ⟨H3,I3,q3⟩
def zgB (r r':R2) (ta tb tc:TE):TE:=fun σ H Q=>ta σ H fun x H1=>tb σ H1 fun y H2=>r x y H2 fun z H3=>∃ k,z=.bl k ∧
 (if k=true then tc σ H3 fun w' H4=>r' y w' H4 Q else Q (.bl false) H3)
theorem zpQ {op op':CmpOp} {r r':R2} (ho:OpR X (compareOp op) r) (ho':OpR X (compareOp op') r') (ha:PE X a ta) (hb:PE X b tb) (hc:PE X c tc)
  (hm:lastMarks [op,op'] [b,c]=false:=by with_unfolding_all rfl):PE X (.Compare a [op,op'] [b,c] pos) (zgB r r' ta tb tc):=by
 intro pins s σ H Q I h
 refine Compare_chain (thn (ha pins s σ H _ I h) fun v s1 ⟨x,H1,I1,r1,q1⟩=>chain_link (thn (hb pins s1 σ H1 _ I1 q1) fun u s2 ⟨y,H2,I2,r2,q2⟩ =>
  thn (ho pins s2 σ H2 x y v u _ I2 r1 r2 q2) fun d s3 ⟨z,H3,I3,r3,k,e,q3⟩=>?_)) hm
 subst e
 cases r3
 refine wpAny_truthy_bool ?_
 cases k with
 | false=>exact ite_ff ⟨.bl false,H3,I3,rfl,q3⟩
 | true=>exact ite_tt (chain_last (thn (hc pins s3 σ H3 _ I3 q3) fun w' s4 ⟨z',H4,I4,r4,q4⟩=>ho' pins s4 σ H4 y z' u w' Q I4 r2 r4 q4))
theorem zlT {op op':CmpOp} {r r':R2} (ho:OpR X (compareOp op) r) (ho':OpR X (compareOp op') r') (ha:PE X a ta) (hb:PE X b tb) (hc:PE X c tc)
  (hm:lastMarks [op,op'] [b,c]=false:=by with_unfolding_all rfl):PT X (.Compare a [op,op'] [b,c] pos) (zaA (zgB r r' ta tb tc)):=by
 intro pins s σ H Q I h
 refine isTrue_chain (thn (ha pins s σ H _ I h) fun v s1 ⟨x,H1,I1,r1,q1⟩=>test_link (thn (hb pins s1 σ H1 _ I1 q1) fun u s2 ⟨y,H2,I2,r2,q2⟩ =>
  thn (ho pins s2 σ H2 x y v u _ I2 r1 r2 q2) fun d s3 ⟨z,H3,I3,r3,k,e,q3⟩=>?_)) hm
 subst e
 cases r3
 refine wpAny_truthy_bool ?_
 cases k with
 | false =>
  obtain ⟨k',e',q'⟩:=q3
  cases e'
  exact ite_ff ⟨H3,I3,q'⟩
 | true =>
  refine ite_tt (test_last (thn (hc pins s3 σ H3 _ I3 q3) fun w' s4 ⟨z',H4,I4,r4,q4⟩=>thn (ho' pins s4 σ H4 y z' u w' _ I4 r2 r4 q4) fun d' s5 hQ'=>?_))
  obtain ⟨z2,H5,I5,r5,k2,e2,q5⟩:=hQ'
  subst e2
  cases r5
  exact wpAny_truthy_bool ⟨H5,I5,q5⟩
def zts (K:PySem.W.Frag) (x:V) (H:Hp) (k:Bool):Prop :=
 match x with
 | .non=>k=false
 | .bl b=>k=b
 | .int i=>k=(i != 0)
 | .str y=>y.length≤sizeLine∧k=((y.length:Int) != 0)
 | .byt y=>y.size≤sizeLine∧k=((y.size:Int) != 0)
 | .ref p=>(∃ xs,SqL K H p xs∧k=!xs.isEmpty)∨(∃ xs,SqT K H p xs∧k=!xs.isEmpty)∨∃ kvs,H p=some (.dK kvs)∧k=!kvs.isEmpty
 | _=>False
theorem zmM {κ:Type} {kvs:List (κ×V)} {vs:List (κ×Value)} (r:KV kvs vs):(!vs.isEmpty)=!kvs.isEmpty:=by
 cases r <;> rfl
theorem zh9 {xs:List V} {its:List Value} (r:zcc xs its):(!its.toArray.isEmpty)=!xs.isEmpty:=by
 cases r <;> simp
theorem zii:(sizeLine:Nat)<2 ^ 63:=by rw [sizeLine_eq];decide
theorem zt3:TruR X (fun x H Q=>∃ k,zts X.K x H k∧Q k H):=by
 intro pins s σ H x v Q I rx h
 obtain ⟨k,e,q⟩:=h
 have hl:=zii
 have hs:sizeLine=16777216:=sizeLine_eq
 cases x with
 | non =>
  cases rx
  have e':k=false:=e
  subst e'
  exact truthy_none ⟨H,I,q⟩
 | bl b =>
  cases rx
  have e':k=b:=e
  subst e'
  exact wpAny_truthy_bool ⟨H,I,q⟩
 | int i =>
  obtain ⟨t,rfl⟩:=rx
  have e':k=(i != 0):=e
  subst e'
  exact PySem.P.truthy_int ⟨H,I,q⟩
 | str y =>
  obtain ⟨t,rfl⟩:=rx
  obtain ⟨hy,e'⟩:y.length≤sizeLine∧k=((y.length:Int) != 0):=e
  subst e'
  exact PySem.P.truthy_str (by (first|lia|omega)) ⟨H,I.tok _,q⟩
 | byt y =>
  obtain ⟨t,rfl⟩:=rx
  obtain ⟨hy,e'⟩:y.size≤sizeLine∧k=((y.size:Int) != 0):=e
  subst e'
  exact PySem.W.truthy_bytes (by (first|lia|omega)) ⟨H,I.tok _,q⟩
 | ref p =>
  cases rx
  have e':(∃ xs,SqL X.K H p xs∧k=!xs.isEmpty)∨(∃ xs,SqT X.K H p xs∧k=!xs.isEmpty)∨∃ kvs,H p=some (.dK kvs)∧k=!kvs.isEmpty:=e
  rcases e' with ⟨xs,hx,e'⟩ | ⟨xs,hx,e'⟩ | ⟨kvs,hx,e'⟩
  ·subst e'
   obtain ⟨its,r,pl,hz⟩:=I.list hx
   have hlen:=r.length
   exact wpAny_truthy_list pl.isList (by simp only [List.size_toArray];(first|lia|omega)) ⟨H,I.tok _,by rw [zh9 r];exact q⟩
  ·subst e'
   obtain ⟨its,r,pl,hz⟩:=I.tuple hx
   have hlen:=r.length
   exact truthy_tuple pl (by simp only [List.size_toArray];(first|lia|omega)) ⟨H,I.tok _,by rw [zh9 r];exact q⟩
  ·subst e'
   obtain ⟨hz,hS,vs,r,m⟩:kvs.length≤sizeLine∧(p == sysModules)=false∧∃ vs,KV kvs vs∧s.heap.DictOf (zcw X.prog X.w) p vs:=I.hok p _ hx
   have hlen:kvs.length=vs.length:=Paired.length r
   exact wpAny_truthy_dict hS m (by (first|lia|omega)) ⟨H,I.tok _,by rw [zmM r];exact q⟩
 | _=>exact (show False from e).elim
theorem zlZ (ha:PE X a ta) (he:∀ whole,isTrue a X.env whole=(do let v ← whole;standAt a.pos;holding [v] (truthy v))) :
  PT X a (fun σ H Q=>ta σ H fun x H'=>∃ k,zts X.K x H' k∧Q k H'):=by
 intro pins s σ H Q I h
 exact isTrue_plain (thn (ha pins s σ H _ I h) fun v s1 ⟨x,H1,I1,r1,q1⟩=>zt3 pins s1 σ H1 x v Q I1 r1 q1) (he _)
theorem zmW:OpR X (binaryOp .Add) (fun x y H Q=>∃ i j,x=.str i∧y=.str j∧i.length+j.length≤sizeLine∧Q (.str (i++j)) H):=by
 intro pins s σ H x y v u Q I rx ry h
 obtain ⟨i,j,rfl,rfl,hz,q⟩:=h
 obtain ⟨t,rfl⟩:=rx
 obtain ⟨t',rfl⟩:=ry
 exact add_str (fun t' tk=>⟨.str (i++j),H,I.tok _,⟨_,rfl⟩,q⟩) hz
theorem zfQ {x:V} {us:List Value} (r:zcc [x] us):∃ u,us=[u]∧zcA x u:=by
 cases r with
 | cons r1 r2=>cases r2;exact ⟨_,rfl,r1⟩
theorem zlJ {x y:V} {us:List Value} (r:zcc [x,y] us):∃ u w',us=[u,w']∧zcA x u∧zcA y w':=by
 cases r with
 | cons r1 r2 =>
  cases r2 with
  | cons r3 r4=>cases r4;exact ⟨_,_,rfl,r1,r3⟩
theorem zo6 (hc:X.calm=true):zes X (.builtin "max") (fun xs H Q=>∃ i j,xs=[.int i,.int j]∧Q (.int (if j > i then j else i)) H):=by
 intro pins s σ H xs us Q I r h
 obtain ⟨i,j,rfl,q⟩:=h
 obtain ⟨u,w',rfl,⟨t,rfl⟩,⟨t',rfl⟩⟩:=zlJ r
 refine max_two_ints (I.ok.hd hc) fun h' tk k=>⟨_,H,I.kept k,?_,q⟩
 by_cases hj:j > i
 ·rw [if_pos hj,if_pos hj];exact ⟨_,rfl⟩
 ·rw [if_neg hj,if_neg hj];exact ⟨_,rfl⟩
theorem zjr (hc:X.calm=true):zes X (.builtin "min") (fun xs H Q=>∃ i j,xs=[.int i,.int j]∧Q (.int (if j<i then j else i)) H):=by
 intro pins s σ H xs us Q I r h
 obtain ⟨i,j,rfl,q⟩:=h
 obtain ⟨u,w',rfl,⟨t,rfl⟩,⟨t',rfl⟩⟩:=zlJ r
 refine min_two_ints (I.ok.hd hc) fun h' tk k=>⟨_,H,I.kept k,?_,q⟩
 by_cases hj:j<i
 ·rw [if_pos hj,if_pos hj];exact ⟨_,rfl⟩
 ·rw [if_neg hj,if_neg hj];exact ⟨_,rfl⟩
theorem zgX:zes X (.type "int") (fun xs H Q=>(∃ i,xs=[.int i]∧Q (.int i) H)∨∃ k,xs=[.bl k]∧Q (.int (if k then 1 else 0)) H):=by
 intro pins s σ H xs us Q I r h
 rcases h with ⟨i,rfl,q⟩ | ⟨k,rfl,q⟩
 ·obtain ⟨u,rfl,t,rfl⟩:=zfQ r
  exact call_int_int ⟨.int i,H,I,⟨_,rfl⟩,q⟩
 ·obtain ⟨u,rfl,r1⟩:=zfQ r
  cases r1
  exact call_int_bool ⟨.int (if k then 1 else 0),H,I.tok _,⟨_,rfl⟩,q⟩
theorem zjU:zes X (.type "str") (fun xs H Q=>∃ i,xs=[.int i]∧i.natAbs.log2<1920∧Q (.str (toString i)) H):=by
 intro pins s σ H xs us Q I r h
 obtain ⟨i,rfl,hz,q⟩:=h
 obtain ⟨u,rfl,t,rfl⟩:=zfQ r
 exact PySem.P.str_of_int hz ⟨.str _,H,I.tok _,⟨_,rfl⟩,q⟩
def LenV (K:PySem.W.Frag) (x:V) (H:Hp) (n:Nat):Prop :=
 match x with
 | .str y=>y.length≤sizeLine∧n=y.length
 | .byt y=>y.size≤sizeLine∧n=y.size
 | .ref p=>(∃ xs,SqL K H p xs∧n=xs.length)∨∃ xs,SqT K H p xs∧n=xs.length
 | _=>False
theorem zqB:zes X (.builtin "len") (fun xs H Q=>∃ x n,xs=[x]∧LenV X.K x H n∧Q (.int n) H):=by
 intro pins s σ H xs us Q I r h
 obtain ⟨x,n,rfl,e,q⟩:=h
 obtain ⟨u,rfl,rx⟩:=zfQ r
 have hl:=zii
 have hs:sizeLine=16777216:=sizeLine_eq
 cases x with
 | str y =>
  obtain ⟨t,rfl⟩:=rx
  obtain ⟨hy,e'⟩:y.length≤sizeLine∧n=y.length:=e
  subst e'
  exact len_str (by (first|lia|omega)) ⟨.int _,H,I.tok _,⟨_,rfl⟩,q⟩
 | byt y =>
  obtain ⟨t,rfl⟩:=rx
  obtain ⟨hy,e'⟩:y.size≤sizeLine∧n=y.size:=e
  subst e'
  exact PySem.W.len_bytes (by (first|lia|omega)) ⟨.int _,H,I.tok _,⟨_,rfl⟩,q⟩
 | ref p =>
  cases rx
  have e':(∃ xs,SqL X.K H p xs∧n=xs.length)∨∃ xs,SqT X.K H p xs∧n=xs.length:=e
  rcases e' with ⟨xs,hx,e'⟩ | ⟨xs,hx,e'⟩
  ·subst e'
   obtain ⟨its,r',pl,hz⟩:=I.list hx
   have hlen:=r'.length
   exact Calls.call_len_list pl.isList (by simp only [List.size_toArray];(first|lia|omega)) ⟨.int xs.length,H,I.tok _,⟨_,by simp only [List.size_toArray];rw [hlen]⟩,q⟩
  ·subst e'
   obtain ⟨its,r',pl,hz⟩:=I.tuple hx
   have hlen:=r'.length
   exact len_tuple pl (by simp only [List.size_toArray];(first|lia|omega)) ⟨.int xs.length,H,I.tok _,⟨_,by simp only [List.size_toArray];rw [hlen]⟩,q⟩
 | _=>exact (show False from e).elim
end
end L2
namespace L2
open PySem PySem.Spec PyProof.Rows
structure ObjM (h:Heap) (x dx C:Addr) (mA:Str→Option Value):Prop where
 obj:h.get? x=some (PySem.W.instObj C dx)
 ns:h.Ns1 dx mA
 ne:dx≠x
theorem zjA {h:Heap} {dx:Addr} {mA:Str→Option Value} (n:h.Ns1 dx mA):∃ od,h.get? dx=some od∧∀ name,PySem.W.lookIn name od=some (mA name):=by
 obtain ⟨o,es,ep,ho,hd,hk,_,hm⟩:=n
 refine ⟨o,ho,fun name=>?_⟩
 have e:=hm name
 unfold nsFind findBy at e
 rw [← Array.find?_toList] at e
 unfold PySem.W.lookIn
 rw [hd]
 dsimp only
 split
 ·rename_i y q
  rw [q] at e
  exact congrArg some e
 ·rename_i q
  rw [q] at e
  have a:es.toList.any (·.refKey)=false:=by
   rw [List.any_eq_false]
   intro y hy
   obtain ⟨z,t,hkey⟩:=hk y (Array.mem_toList_iff.mp hy)
   simp [DictEntry.refKey,hkey]
  have a':¬ es.toList.any (·.refKey)=true:=by rw [a];exact Bool.false_ne_true
  rw [if_neg a']
  exact congrArg some e
theorem ObjM.look {h:Heap} {x dx C:Addr} {mA:Str→Option Value} (I:ObjM h x dx C mA):∃ od,PySem.W.InstAt h x (PySem.W.instObj C dx) C (some od)∧∀ name,PySem.W.lookIn name od=some (mA name) :=
 let ⟨od,ho,hl⟩:=zjA I.ns
 ⟨od,⟨I.obj,rfl,rfl,ho⟩,hl⟩
section
variable {prog:Program} {w:World} {A:Around} {E:Value→Shared→Prop} {s:Shared} {K:PySem.W.Frag} {x dx C f:Addr} {mA:Str→Option Value} {name:Str} {v:Value}
end
theorem zo3.some_of {v:V} {o:Option Value} (r:zo3 (some v) o):∃ u,o=some u∧zcA v u:=by
 cases o with
 | none=>exact (show False from r).elim
 | some u=>exact ⟨u,rfl,r⟩
theorem znE {v:V} {u:Value} (r:zcA v u):PySem.W.handedIn u=true:=by
 cases v with
 | non=>cases (show u=Value.none from r);rfl
 | bl b=>cases (show u=Value.bool b from r);rfl
 | int i=>obtain ⟨t,e⟩:=(show ∃ t,u=Value.int i t from r);cases e;rfl
 | str x=>obtain ⟨t,e⟩:=(show ∃ t,u=Value.str x t from r);cases e;rfl
 | byt b=>obtain ⟨t,e⟩:=(show ∃ t,u=Value.bytes b t from r);cases e;rfl
 | flt b=>obtain ⟨t,e⟩:=(show ∃ t,u=Value.float b t from r);cases e;rfl
 | ref a=>cases (show u=Value.ref a from r);rfl
 | ty n=>cases (show u=Value.type n from r);rfl
section
variable {P:Program} {w:World} {H H':Hp} {h h':Heap} {a C dx:Addr} {fs fs':List (Str×V)}
theorem zr0 (hok:HOk P w H h) (e:H a=some (.ins C dx fs)):∃ mA,ObjM h a dx C mA∧(∀ f,zo3 (fs.lookup f) (mA f))∧PySem.Within mA (fs.map (·.1))∧fs.length≤1000∧H dx=some (.own a):=by
 obtain ⟨d,z,ne,ob,mA,n,r,q⟩:=(show zbO P w H h a (.ins C dx fs) from hok a _ e)
 exact ⟨mA,⟨ob,n,ne⟩,r,q,z,d⟩
end
structure Cls (K:PySem.W.Frag) (C:Addr):Prop where
 pg:PySem.W.plainGet K C Str.empty=true
 hd:PySem.W.hasDictIn K C=true
 po:PySem.W.plainOver K C=true
 sa:PySem.W.findIn K (.ref C) "__setattr__"=some (some (.builtin "object.__setattr__"))
theorem Cls.get {K:PySem.W.Frag} {C:Addr} (c:Cls K C) (f:Str):PySem.W.plainGet K C f=true:=c.pg
section
variable {X:Cx} {pins:List (Addr×Obj)} {σ:St} {H:Hp} {s:Shared} {a C dx:Addr} {fs:List (Str×V)} {f:Str} {v:V} {A:Around} {E:Value→Shared→Prop}
theorem zsL {prog:Program} {w:World} {env:Env} {e:Expr} {f:Str} {pos:Pos} {s:Shared} {Q:Value→Shared→Prop} (hb:attributeBase e f env (eval e env)=eval e env)
  (h:wpAny (model prog w) A (eval e env) (fun o s₁=>wpAny (model prog w) A (getAttr o f true) Q E s₁) E s):wpAny (model prog w) A (eval (.Attribute e f pos) env) Q E s :=
 Attribute_any_ h (by rw [arm_eval_Attribute,hb])
end
section
variable {X:Cx} {o e value:Expr} {f:Str} {pos pos' tpos:Pos} {ta tv:TE}
end
section
variable {X:Cx} {pins:List (Addr×Obj)} {σ:St} {H:Hp} {s:Shared} {A:Around} {E:Value→Shared→Prop} {Q:Value→Shared→Prop} {c:Value} {b:Bool}
inductive zl9 (K:PySem.W.Frag) (H:Hp):V→Value→Prop where
 | non:zl9 K H .non (.type "NoneType")
 | bl (x:Bool):zl9 K H (.bl x) (.type "bool")
 | int (i:Int):zl9 K H (.int i) (.type "int")
 | str (x:Str):zl9 K H (.str x) (.type "str")
 | flt (x:UInt64):zl9 K H (.flt x) (.type "float")
 | lst {a:Addr} {xs:List V} (e:H a=some (.lst xs)):zl9 K H (.ref a) (.type "list")
 | frz {a:Addr} {o:Obj} {xs:List V} (e:H a=some (.frz o (.lst xs))):zl9 K H (.ref a) (.type "list")
 | tup {a:Addr} {xs:List V} (e:H a=some (.tup xs)):zl9 K H (.ref a) (.type "tuple")
 | dK {a:Addr} {kvs:List (Key×V)} (e:H a=some (.dK kvs)):zl9 K H (.ref a) (.type "dict")
 | dT {a:Addr} {kvs:List (List Key×V)} (e:H a=some (.dT kvs)):zl9 K H (.ref a) (.type "dict")
 | ins {a C dx:Addr} {fs:List (Str×V)} (e:H a=some (.ins C dx fs)) (cl:Cls K C) (ha:PySem.W.findIn K (.ref C) "__class__"=some (some (.builtin "object.__class__")))
   (hn:PySem.W.specialIn K (.builtin "object.__class__") "__get__"=some (some (.builtin "getset_descriptor.__get__"))) (htk:PySem.W.takesIn K (.builtin "object.__class__")=some true)
   (hm:PySem.W.mroIn K C (.type "object")=some true):zl9 K H (.ref a) (.ref C)
theorem zox {x:V} {u t:Value} (I:Inv X pins σ H s) (rx:zcA x u) (ty:zl9 X.K H x t) (e:PySem.W.kitOne X.K t c=some b) (h:∀ tk,Q (.bool b) { s with toks:=tk }) :
  wpAny (model X.prog X.w) A (call (.builtin "isinstance") [u,c]) Q E s:=by
 cases ty with
 | non=>cases (show u=Value.none from rx);exact PySem.W.kia_one PySem.W.kitx_none I.kIn True.intro e (fun z=>nomatch z) h
 | bl y=>cases (show u=Value.bool y from rx);exact PySem.W.kia_one PySem.W.kitx_bool I.kIn True.intro e (fun z=>nomatch z) h
 | int i=>obtain ⟨t,q⟩:=(show ∃ t,u=Value.int i t from rx);cases q;exact PySem.W.kia_one PySem.W.kitx_int I.kIn True.intro e (fun z=>nomatch z) h
 | str y=>obtain ⟨t,q⟩:=(show ∃ t,u=Value.str y t from rx);cases q;exact PySem.W.kia_one PySem.W.kitx_str I.kIn True.intro e (fun z=>nomatch z) h
 | flt y=>obtain ⟨t,q⟩:=(show ∃ t,u=Value.float y t from rx);cases q;exact PySem.W.kia_one PySem.W.kitx_float I.kIn True.intro e (fun z=>nomatch z) h
 | @lst a xs ea =>
  cases (show u=Value.ref a from rx)
  obtain ⟨_,_,n,_,h1⟩:=(show zbO X.prog X.w H s.heap a (.lst xs) from I.hok a _ ea)
  exact PySem.W.kia_one PySem.W.kitx_list I.kIn ⟨_,h1,rfl⟩ e (fun z=>nomatch z) h
 | @frz a ob xs ea =>
  cases (show u=Value.ref a from rx)
  obtain ⟨_,_,_,n,_,h1⟩:=(show zbO X.prog X.w H s.heap a (.frz ob (.lst xs)) from I.hok a _ ea)
  exact PySem.W.kia_one PySem.W.kitx_list I.kIn ⟨_,h1,rfl⟩ e (fun z=>nomatch z) h
 | @tup a xs ea =>
  cases (show u=Value.ref a from rx)
  obtain ⟨_,_,_,p⟩:=(show zbO X.prog X.w H s.heap a (.tup xs) from I.hok a _ ea)
  obtain ⟨o,h1,h2,_⟩:=p
  exact PySem.W.kia_one PySem.W.kitx_tuple I.kIn ⟨o,h1,h2⟩ e (fun z=>nomatch z) h
 | @dK a kvs ea =>
  cases (show u=Value.ref a from rx)
  obtain ⟨_,_,vs,_,p⟩:=(show zbO X.prog X.w H s.heap a (.dK kvs) from I.hok a _ ea)
  obtain ⟨o,es,ep,h1,h2,_⟩:=p
  exact PySem.W.kia_one PySem.W.kitx_dict I.kIn ⟨o,h1,h2.1⟩ e (fun z=>nomatch z) h
 | @dT a kvs ea =>
  cases (show u=Value.ref a from rx)
  obtain ⟨_,_,xs,_,o,es,ep,h1,h2,_⟩:=(show zbO X.prog X.w H s.heap a (.dT kvs) from I.hok a _ ea)
  exact PySem.W.kia_one PySem.W.kitx_dict I.kIn ⟨o,h1,h2.1⟩ e (fun z=>nomatch z) h
 | @ins a C dx fs ea cl ha hn htk hm =>
  cases (show u=Value.ref a from rx)
  obtain ⟨mA,O,_⟩:=zr0 I.hok ea
  obtain ⟨od,J,_⟩:=O.look
  exact PySem.W.kia_one (PySem.W.kitx_own (cl.get _) cl.hd ha hn htk hm) I.kIn J e (fun z=>nomatch z) h
end
end L2
namespace L2
open PySem PySem.Spec PyProof.Rows
structure zeS (k:Nat) (A:Around):Prop where
 hd:A.handled=none
 dp:A.depth+3*k+5<recursionLimit
 un:A.units+16*k+200<cLine
theorem zeS.mono {j k:Nat} {A:Around} (r:zeS k A) (h:j≤k):zeS j A:=⟨r.hd,by have:=r.dp;(first|lia|omega),by have:=r.un;(first|lia|omega)⟩
theorem zeS.deeper {k:Nat} {A:Around} (r:zeS (k+1) A) (env:Env):zeS k (A.deeper env) :=
 ⟨r.hd,by have:=r.dp;show A.depth+1+3*k+5<_;(first|lia|omega),by have:=r.un;show A.units+3+16*k+200<_;(first|lia|omega)⟩
theorem zif {A:Around} {C:Addr} {us:List Value} {kw:List (Str×Value)}:(A.under (.builtin "type.__call__" ⟨.ref C::us,kw⟩)).depth=A.depth+1:=by
 first | rfl | simp [Around.under,Code.weight,Code.isCreation,Code.isGuard,Code.isCaller,Code.frames,Code.isFrame,guardIds]
theorem zic {A:Around} {C:Addr} {us:List Value} {kw:List (Str×Value)}:(A.under (.builtin "type.__call__" ⟨.ref C::us,kw⟩)).units=A.units+1:=by
 first | rfl | simp [Around.under,Code.cUnits,Code.frames,Code.isFrame]
theorem zeS.make {k:Nat} {A:Around} (r:zeS (k+1) A) (C:Addr) (us:List Value) (kw:List (Str×Value)):zeS k (A.under (.builtin "type.__call__" ⟨.ref C::us,kw⟩)) :=
 ⟨r.hd,by have:=r.dp;rw [zif];(first|lia|omega),by have:=r.un;rw [zic];(first|lia|omega)⟩
theorem zeS.depth {k:Nat} {A:Around} (r:zeS k A):A.depth<recursionLimit:=by have:=r.dp;(first|lia|omega)
theorem zeS.units {k:Nat} {A:Around} (r:zeS k A):A.units+64<cLine:=by have:=r.un;(first|lia|omega)
def zas:TA:=fun _ H Q=>Q [] H
def zab (ta:TE) (tr:TA):TA:=fun σ H Q=>ta σ H fun x H1=>tr σ H1 fun xs H2=>Q (x::xs) H2
section
variable {X:Cx} {e:Expr} {es:List Expr} {te:TE} {t:TA} {pos:Pos}
theorem zae:PA X [] zas:=fun _ _ _ _ H Q I h=>Calls.spliced_nil ⟨[],H,I,.nil,h⟩
theorem zaa (ha:PE X e te) (hr:PA X es t) (hs:starEach (e::es) X.env=(false,eval e X.env)::starEach es X.env:=by rfl):PA X (e::es) (zab te t):=by
 intro pos pins s σ H Q I h
 rw [hs]
 show wpAny _ _ (spliced ((false,eval e X.env)::backTo pos (starEach es X.env))) _ _ s
 refine Calls.spliced_cons (thn (ha pins s σ H _ I h) fun u s1 hQ'=>?_)
 obtain ⟨x,H1,I1,r1,q1⟩:=hQ'
 exact thn (hr pos pins s1 σ H1 _ I1 q1) fun us s2 ⟨xs,H2,I2,r2,q2⟩=>⟨x::xs,H2,I2,.cons r1 r2,q2⟩
def zf1 (t:TA):TE:=fun σ H Q=>t σ H fun xs H1=>xs.length≤sizeLine∧∀ p,H1 p=none→Q (.ref p) (upd H1 p (.tup xs))
def zdB (t:TA):TE:=fun σ H Q=>t σ H fun xs H1=>xs.length≤sizeLine∧∀ p,H1 p=none→Q (.ref p) (upd H1 p (.lst xs))
theorem zdp {x1} (h:PA X es t):PE X (.Tuple es x1 pos) (zf1 t):=by
 intro pins s σ H Q I hq
 refine wpAny_Tuple_spliced (thn (h pos pins s σ H _ I hq) fun us s1 ⟨xs,H1,I1,r,z,q⟩=>⟨by rw [← r.length];exact z,?_⟩)
 have hf:H1 s1.heap.objs.size=none:=I1.hok.fresh (Nat.le_refl _)
 refine ⟨.ref s1.heap.objs.size,upd H1 s1.heap.objs.size (.tup xs),I1.laid (t':=s1.toks) (fun b u e=>Heap.get?_push_of_some _ e) (Nat.le_refl _) ?_,rfl,q _ hf⟩
 exact ⟨z,us,r,⟨_,Heap.get?_push_size _ rfl,rfl,_,rfl⟩⟩
theorem zcj (h:PA X es t):PE X (.List es pos) (zdB t):=by
 intro pins s σ H Q I hq
 refine wpAny_List_spliced (thn (h pos pins s σ H _ I hq) fun us s1 ⟨xs,H1,I1,r,z,q⟩=>⟨by rw [← r.length];exact z,?_⟩)
 have hf:H1 s1.heap.objs.size=none:=I1.hok.fresh (Nat.le_refl _)
 refine ⟨.ref s1.heap.objs.size,upd H1 s1.heap.objs.size (.lst xs),I1.laid (t':=s1.toks) (fun b u e=>Heap.get?_push_of_some _ e) (Nat.le_refl _) ?_,rfl,q _ hf⟩
 exact ⟨z,us,0,r,Heap.get?_push_size _ rfl⟩
end
abbrev Sp:=List V→Hp→VK→XK→Prop
abbrev CXT:=List Env→Hp→Shared→XK→Value→Shared→Prop
structure zpl (P:Program) (w:World) (K:PySem.W.Frag) (mg:Str→Option Value) (base:Heap) (A:Around) (outer:List Env) (s:Shared) (H:Hp):Prop where
 frames:A.frames=some outer
 mod:Mod K mg base
 bs:∀ b o,base.get? b=some o→s.heap.get? b=some o∧H b=none
 bsz:base.objs.size≤s.heap.objs.size
 funs:s.heap.FunFrames base outer
 frf:∀ b∈frs outer,H b=none
 hok:HOk P w H s.heap
 bare:AllBare s.gens
def CE (outer:List Env) (P:Program) (w:World) (H:Hp) (s:Shared) (Q:VK) (u:Value) (s':Shared):Prop :=
 ∃ v H',s'.os=s.os∧AllBare s'.gens∧Un (frs outer) [] H H' s.heap s'.heap∧HOk P w H' s'.heap∧zcA v u∧Q v H'
def CR (CX:CXT) (outer:List Env) (P:Program) (w:World) (H:Hp) (s:Shared) (Q:VK) (E:XK) (r:Result) (s':Shared):Prop :=
 match r with
 | .ok (.ret u)=>CE outer P w H s Q u s'
 | .ok _=>False
 | .error e=>CX outer H s E e s'
structure zdD (P:Program) (w:World) (K:PySem.W.Frag) (mg:Str→Option Value) (base:Heap) (CX:CXT) (k:Nat) (f:Addr) (fd:FuncData) (ps:List Str) (sp:Sp):Prop where
 len:∀ vs H Q E,sp vs H Q E→vs.length=ps.length
 run:∀ (A:Around) (outer:List Env) (s:Shared) (H:Hp) (args:Args) (us:List Value) (vs:List V) (Q:VK) (E:XK),zeS k A→zpl P w K mg base A outer s H→BindsTo s fd args (ps.zip us)→zcc vs us→sp vs H Q E →
  codeAny (model P w) A (.call (.ref f) args) (CR CX outer P w H s Q E) s
theorem zpl.make {P:Program} {w:World} {K:PySem.W.Frag} {mg:Str→Option Value} {base:Heap} {A:Around} {outer:List Env} {s:Shared} {H:Hp} (e:zpl P w K mg base A outer s H) (C:Addr) (us:List Value) (kw:List (Str×Value)) :
  zpl P w K mg base (A.under (.builtin "type.__call__" ⟨.ref C::us,kw⟩)) outer s H:=⟨by first | exact e.frames | (simpa [Around.under,Code.envs,Code.isFrame,pushEnvs] using e.frames),e.mod,e.bs,e.bsz,e.funs,e.frf,e.hok,e.bare⟩
section
variable {X:Cx} {pins:List (Addr×Obj)} {σ:St} {H:Hp} {s s':Shared}
theorem Inv.env0 (I:Inv X pins σ H s):zpl X.prog X.w X.K X.mg X.base X.A X.stack s H :=
 ⟨I.ok.frames,I.ok.mod,I.bs,Nat.le_trans I.ok.bsz I.sz,I.stack,I.stkFree,I.hok,I.bare⟩
theorem Inv.after {Q:VK} {u:Value} (I:Inv X pins σ H s) (h:CE X.stack X.prog X.w H s Q u s'):EP X pins σ Q u s':=by
 obtain ⟨v,H',os,bare,un,hok,r,q⟩:=h
 obtain ⟨hh,g,d,t,os'⟩:=s'
 obtain rfl:os'=s.os:=os
 exact ⟨v,H',I.call (h':=hh) (g':=g) (d':=d) (t':=t) (ch:=[]) un hok bare (fun b z=>absurd z (by simp)),r,q⟩
end
def za9 (sp:Sp) (dvs:List V) (E:XK) (t:TA):TE:=fun σ H Q=>t σ H fun vs H1=>sp (vs++dvs) H1 Q E
def zci (K:PySem.W.Frag) (fd:FuncData) (ps:List Str) (ds:List Value):Prop :=
 ∀ (s:Shared) (us:List Value),K.In s.heap→(us++ds).length=ps.length→BindsTo s fd ⟨us,[]⟩ (ps.zip (us++ds))
theorem zci.all {K:PySem.W.Frag} {fd:FuncData} {ps:List Str} (h:∀ us:List Value,us.length=ps.length→bindArgs fd ⟨us,[]⟩=pure (ps.zip us)):zci K fd ps []:=fun s us _ hl=>by
 rw [List.append_nil] at hl ⊢
 exact .of_eq (h us hl)
def zhx (CX:CXT) (X:Cx) (E:XK):Prop:=∀ (pins:List (Addr×Obj)) (σ:St) (H:Hp) (s:Shared) (e:Value) (s':Shared),Inv X pins σ H s→CX X.stack H s E e s'→X.xe e s'
section
variable {X:Cx} {CX:CXT} {k:Nat} {f C:Addr} {fd:FuncData} {ps:List Str} {sp:Sp} {dvs:List V} {ds:List Value} {E:XK} {x m:Str} {p pos apos:Pos} {e o:Expr} {es:List Expr} {ta:TE} {t:TA}
theorem zuW {pins:List (Addr×Obj)} {σ:St} {H:Hp} {s:Shared} {Q:VK} {us:List Value} {vs:List V} (F:zdD X.prog X.w X.K X.mg X.base CX k f fd ps sp) (hr:zeS k X.A) (hb:zci X.K fd ps ds) (hd:zcc dvs ds) (hx:zhx CX X E)
  (I:Inv X pins σ H s) (r:zcc vs us) (h:sp (vs++dvs) H Q E):wpAny (model X.prog X.w) X.A (call (.ref f) us) (EP X pins σ Q) X.xe s:=by
 have r2:zcc (vs++dvs) (us++ds):=r.append hd
 have hl:(us++ds).length=ps.length:=by rw [← r2.length];exact F.len _ _ _ _ h
 refine wpAny_call (codeAny_mono (F.run X.A X.stack s H ⟨us,[]⟩ (us++ds) (vs++dvs) Q E hr I.env0 (hb s us I.kIn hl) r2 h) fun r s' hq=>?_)
 cases r with
 | error e=>exact hx pins σ H s e s' I hq
 | ok fl =>
  cases fl with
  | ret u=>exact I.after hq
  | next=>exact False.elim hq
  | brk=>exact False.elim hq
  | cont=>exact False.elim hq
theorem za5 (F:zdD X.prog X.w X.K X.mg X.base CX k f fd ps sp) (hr:zeS k X.A) (hg:Gl X x) (hm:X.mg x=some (.ref f)) (hk:PySem.W.keepIn X.K (.ref f)=true) (hb:zci X.K fd ps ds) (hd:zcc dvs ds) (hx:zhx CX X E)
  (ha:PA X (e::es) t) (hdb:(x == ("__debug__":Str))=false:=by decide) (he:starEach (e::es) X.env=(false,eval e X.env)::starEach es X.env:=by rfl) (hpl:(backTo pos (starEach es X.env)).any (·.1)=false:=by rfl) :
  PE X (.Call (.Name x p) (e::es) [] pos) (za9 sp dvs E t):=by
 intro pins s σ H Q I h
 refine wpAny_Call_Name_kw (zd0 I hg hm ?_ hdb)
 refine PySem.W.callWith_K (h₀:=X.base) I.ok.mod.kin hk (thn (ha pos pins s σ H _ I h) fun us s1 ⟨vs,H1,I1,r,q⟩=>⟨I1.kIn,?_⟩) he hpl
 exact zuW F hr hb hd hx I1 r q
end
section
variable {X:Cx} {CX:CXT} {k:Nat} {f C:Addr} {fd:FuncData} {ps ks:List Str} {sp:Sp} {E:XK} {x m:Str} {p pos apos kpos:Pos} {e o:Expr} {es:List Expr} {kws:List Keyword} {te ta:TE} {t tk:TA} {nm:Option Str}
variable {g:List Value→List Value→List Value} {gV:List V→List V→List V}
end
structure za7 (N P:List Str) (sc:Scope):Prop where
 kind:sc.kind=.function
 co:sc.isCoroutine=false
 gen:sc.isGenerator=false
 nd:N.Nodup
 pre:N.take P.length=P
 par:∀ x∈P,sc.names.lookup x=some .local∨sc.names.lookup x=some .cell
 nofree:∀ y∈sc.names,y.2≠.free
theorem zkz {kindOf:Str→Option NameKind} {x:Str}:∀ {binds:List (Str×Value)} {m:Str→Option Value},(∀ v,(x,v)∉binds)→bindL kindOf binds m x=m x
 | [],_,_=>rfl
 | (n,v)::r,m,h=>by
  unfold bindL
  rw [zkz fun w hw=>h w (List.mem_cons_of_mem _ hw)]
  split
  ·have:x≠n:=by rintro rfl;exact h v List.mem_cons_self
   simp [this]
  ·rfl
theorem zku {kindOf:Str→Option NameKind} {x:Str}:∀ {binds:List (Str×Value)} {m:Str→Option Value},(∀ v,(x,v)∉binds)→bindC kindOf binds m x=m x
 | [],_,_=>rfl
 | (n,v)::r,m,h=>by
  unfold bindC
  rw [zku fun w hw=>h w (List.mem_cons_of_mem _ hw)]
  split
  ·rfl
  ·have:x≠n:=by rintro rfl;exact h v List.mem_cons_self
   simp [this]
theorem zjW {kindOf:Str→Option NameKind} {x:Str} {v:Value}:∀ {P:List Str} {vs:List Value} {i:Nat} {m:Str→Option Value},P.Nodup→P[i]?=some x→vs[i]?=some v→kindOf x=some .local →
  bindL kindOf (P.zip vs) m x=some v
 | [],_,_,_,_,h,_,_=>by simp at h
 | _::_,[],_,_,_,_,h,_=>by simp at h
 | p::P,w::vs,0,m,nd,h1,h2,hk=>by
  simp at h1 h2;subst h1;subst h2
  show bindL kindOf ((p,w)::P.zip vs) m p=_
  unfold bindL
  rw [zkz fun v hv=>(List.nodup_cons.mp nd).1 (List.of_mem_zip hv).1,if_pos hk]
  simp
 | p::P,w::vs,i+1,m,nd,h1,h2,hk=>by
  show bindL kindOf ((p,w)::P.zip vs) m x=_
  unfold bindL
  exact zjW (i:=i) (List.nodup_cons.mp nd).2 (by simpa using h1) (by simpa using h2) hk
theorem zkc {kindOf:Str→Option NameKind} {x:Str} {v:Value}:∀ {P:List Str} {vs:List Value} {i:Nat} {m:Str→Option Value},P.Nodup→P[i]?=some x→vs[i]?=some v→kindOf x≠some .local →
  bindC kindOf (P.zip vs) m x=some v
 | [],_,_,_,_,h,_,_=>by simp at h
 | _::_,[],_,_,_,_,h,_=>by simp at h
 | p::P,w::vs,0,m,nd,h1,h2,hk=>by
  simp at h1 h2;subst h1;subst h2
  show bindC kindOf ((p,w)::P.zip vs) m p=_
  unfold bindC
  rw [zku fun v hv=>(List.nodup_cons.mp nd).1 (List.of_mem_zip hv).1,if_neg hk]
  simp
 | p::P,w::vs,i+1,m,nd,h1,h2,hk=>by
  show bindC kindOf ((p,w)::P.zip vs) m x=_
  unfold bindC
  exact zkc (i:=i) (List.nodup_cons.mp nd).2 (by simpa using h1) (by simpa using h2) hk
def zbY (N:List Str) (vs:List V):St:=vs.map some++List.replicate (N.length - vs.length) none
def zkT (CX:CXT) (P:Program) (w:World) (K:PySem.W.Frag) (mg:Str→Option Value) (base:Heap) (N:List Str) (qual:Str) (scope:Scope) (f:Addr) (cd:Value) (A:Around) (outer:List Env) (s:Shared) (H:Hp) (E:XK):Cx where
 prog:=P
 w:=w
 K:=K
 mg:=mg
 base:=base
 A:=A.deeper (envOfC qual scope s.heap.objs.size f cd)
 N:=N
 s₀:=s
 H₀:=H
 env:=envOfC qual scope s.heap.objs.size f cd
 outer:=outer
 stack:=envOfC qual scope s.heap.objs.size f cd::outer
 ex:=[]
 calm:=true
 fn:=fun _=>true
 pn:=[]
 xe:=fun e s'=>wpAny (model P w) (A.deeper (envOfC qual scope s.heap.objs.size f cd)) (leaving (envOfC qual scope s.heap.objs.size f cd) e) (fun _ s''=>CX outer H s E e s'') (fun e' s''=>CX outer H s E e' s'') s'
theorem zlU {sc:Scope} {n:Nat} {x:Str} (h:sc.names.lookup x=some .cell):∃ c,(cellsFrom n sc.names []).lookup x=some c:=by
 have q:=PySem.W.cellsFrom_some sc.names n [] (.inl h)
 exact Option.isSome_iff_exists.mp q
theorem zjO {CX:CXT} {P:Program} {w:World} {K:PySem.W.Frag} {mg:Str→Option Value} {base:Heap} {N ps:List Str} {qual:Str} {scope:Scope} {f:Addr} {cd:Value} {A:Around} {outer:List Env} {s s1:Shared} {H:Hp} {E:XK} {us:List Value} {vs:List V}
  (S:za7 N ps scope) (hd:A.handled=none) (e0:zpl P w K mg base A outer s H) (hl:vs.length=ps.length) (r:zcc vs us)
  (x:InCallC s s.heap.objs.size (bindL (envOfC qual scope s.heap.objs.size f cd).kindOf (ps.zip us) fun _=>none) (cellsFrom (s.heap.objs.size+1) scope.names []) (bindC (envOfC qual scope s.heap.objs.size f cd).kindOf (ps.zip us) fun _=>none) s1) :
  Inv (zkT CX P w K mg base N qual scope f cd A outer s H E) [] (zbY N vs) H s1:=by
 have hpl:ps.length≤N.length:=by have:=congrArg List.length S.pre;rw [List.length_take] at this;(first|lia|omega)
 obtain ⟨h1,tk,rfl,hk⟩:=x.done
 have noA:∀ b:Addr,b∉(zkT CX P w K mg base N qual scope f cd A outer s H E).ex:=fun b z=>absurd (show b∈([]:List Addr) from z) (by simp)
 refine ⟨⟨e0.mod,S.kind,rfl,rfl,Nat.le_refl _,fun y z c h1 h2=>?_,fun y hy=>?_,fun y c _ h=>?_,fun _=>hd,Around.frames_deeper e0.frames,.inr ⟨rfl,rfl⟩,fun b z=>absurd z (noA b),e0.bs,e0.bsz,fun b _ _=>noA b,fun b z=>absurd z (noA b),e0.funs,e0.frf⟩,
  rfl,e0.bare,Un.kept hk,⟨_,x.toInCall.ns,fun i y v h1 h2 h3=>?_⟩,fun y c h=>⟨_,x.cell y c h⟩,e0.hok.fresh (Nat.le_refl _),fun y c h=>?_,fun p hp=>absurd (show p∈([]:List (Addr×Obj)) from hp) (by simp),e0.hok.kept hk,?_⟩
 ·exact name_of_addr x.apart (PySem.mem_of_lookup h1) (PySem.mem_of_lookup h2)
 ·have hy:scope.names.lookup y=some .cell∨scope.names.lookup y=some .free:=hy
  rcases hy with hy | hy
  ·exact zlU hy
  ·exact absurd rfl (S.nofree _ (PySem.mem_of_lookup hy))
 ·exact Nat.le_of_lt (x.above y c (PySem.mem_of_lookup h))
 ·have hi:i<vs.length:=by
   unfold zbY at h2
   by_cases hi:i<vs.length
   ·exact hi
   ·rw [List.getElem?_append_right (by simpa using hi)] at h2
    rw [List.getElem?_replicate] at h2
    split at h2 <;> cases h2
  have ha:vs[i]?=some v:=by
   unfold zbY at h2
   rw [List.getElem?_append_left (by simpa using hi),List.getElem?_map] at h2
   cases e:vs[i]? with
   | none=>rw [e] at h2;cases h2
   | some a=>rw [e] at h2;cases h2;rfl
  obtain ⟨u,hu,rv⟩:=r.get ha
  have hp:ps[i]?=some y:=by
   rw [← S.pre,List.getElem?_take_of_lt (by (first|lia|omega))];exact h1
  have ndP:ps.Nodup:=by rw [← S.pre];exact S.nd.sublist (List.take_sublist _ _)
  refine ⟨u,rv,?_⟩
  rcases S.par y (List.mem_of_getElem? hp) with k | k
  ·exact .inl ⟨k,zjW ndP hp hu k⟩
  ·obtain ⟨c,e⟩:=zlU (n:=s.heap.objs.size+1) k
   refine .inr ⟨.inl k,c,e,?_⟩
   have q:=x.cell y c e
   rw [zkc ndP hp hu (by show scope.names.lookup y≠_;rw [k];decide)] at q
   exact q
 ·exact e0.hok.fresh (Nat.le_of_lt (x.above y c (PySem.mem_of_lookup h)))
 ·unfold zbY
  show _=N.length
  rw [List.length_append,List.length_map,List.length_replicate]
  (first|lia|omega)
theorem zpZ {CX:CXT} {P:Program} {w:World} {K:PySem.W.Frag} {mg:Str→Option Value} {base:Heap} {k:Nat} {f:Addr} {name qual:Str} {params:Arguments} {body:List Stmt} {scope:Scope} {dV kV doc pm cdv ct oc:Value} {an od:Option Addr}
  {osl:Array (Option Value)} {N ps:List Str} {sp:Sp} (lk:K.lookup f=some ⟨oc,od,.func (PySem.W.fnOf name qual params body scope dV kV doc pm an cdv ct),osl⟩) (hcd:PySem.W.codeIn K cdv qual=true) (S:za7 N ps scope)
  (len:∀ vs H Q E,sp vs H Q E→vs.length=ps.length)
  (hbody:∀ (A:Around) (outer:List Env) (s:Shared) (H:Hp) (vs:List V) (Q:VK) (E:XK),zeS k (A.deeper (envOfC qual scope s.heap.objs.size f cdv))→sp vs H Q E →
   ∃ t,PSs (zkT CX P w K mg base N qual scope f cdv A outer s H E) body t∧t { nx:=fun _ H'=>Q .non H',rt:=Q } (zbY N vs) H) :
  zdD P w K mg base CX (k+1) f (PySem.W.fnOf name qual params body scope dV kV doc pm an cdv ct) ps sp:=by
 refine ⟨len,fun A outer s H args us vs Q E hr e0 hb r hsp=>?_⟩
 have hl:=len _ _ _ _ hsp
 have KX:K.In s.heap:=e0.mod.kin.keeps fun b o e=>(e0.bs b o e).1
 have lim:s.heap.NoLimit:=e0.mod.nolimit.keeps fun b o e=>(e0.bs b o e).1
 have hkind:∀ y∈ps.zip us,scope.names.lookup y.1=some .local∨(scope.names.lookup y.1=some .cell∧((cellsFrom (s.heap.objs.size+1) scope.names []).lookup y.1).isSome=true):=fun ⟨n,v⟩ hy=>by
  rcases S.par n (List.of_mem_zip hy).1 with q | q
  ·exact .inl q
  ·exact .inr ⟨q,PySem.W.cellsFrom_some _ _ _ (.inl q)⟩
 refine codeAny_call_function hr.depth (KX _ _ lk) rfl S.co S.gen rfl (PySem.W.codeRec_of KX hcd) (hb _ _ _ _ ?_)
 refine wpAny_newFunctionEnv_cells S.kind hkind fun env he s1 x=>?_
 subst he
 refine ⟨lim.keeps x.toInCall.keep,codeAny_func ?_⟩
 obtain ⟨t,ht,hq⟩:=hbody A outer s H vs Q E (hr.deeper _) hsp
 have I:Inv (zkT CX P w K mg base N qual scope f cdv A outer s H E) [] (zbY N vs) H s1:=zjO S hr.hd e0 hl r x
 refine wpAny_mono (ht [] s1 (zbY N vs) H _ I hq) (fun fl s' hs=>?_) fun e s' hs=>hs
 have fin:∀ {σ':St} {H':Hp} {v:V} {u:Value},Inv (zkT CX P w K mg base N qual scope f cdv A outer s H E) [] σ' H' s'→zcA v u→Q v H'→CE outer P w H s Q u s' :=
  fun {σ' H' v u} J rv q=>⟨v,H',J.os,J.bare,J.base,J.hok,rv,q⟩
 cases fl with
 | ret u =>
  obtain ⟨v,σ',H',J,rv,q⟩:=hs
  exact fin J rv q
 | next =>
  obtain ⟨σ',H',J,q⟩:=hs
  exact fin (v:=V.non) (u:=Value.none) J rfl q
 | brk =>
  obtain ⟨_,_,_,q⟩:=hs
  exact False.elim q
 | cont =>
  obtain ⟨_,_,_,q⟩:=hs
  exact False.elim q
end L2
namespace L2
open PySem PySem.Spec PyProof.Rows
section
variable {X:Cx} {x:Str} {p pos:Pos} {e:Expr} {es:List Expr} {t:TA} {id T:String} {r:List V→Hp→VK→Prop}
def tCB (r:List V→Hp→VK→Prop) (t:TA):TE:=fun σ H Q=>t σ H fun vs H1=>r vs H1 Q
theorem zaj (hc:zes X (.builtin id) r) (hg:Gl X x) (hm:X.mg x=none) (hv:bootBuiltins x=some (.builtin id)) (ha:PA X (e::es) t) (hn:x≠"__name__":=by decide) (hdb:(x == ("__debug__":Str))=false:=by decide)
  (he:starEach (e::es) X.env=(false,eval e X.env)::starEach es X.env:=by rfl) (hpl:(backTo pos (starEach es X.env)).any (·.1)=false:=by rfl):PE X (.Call (.Name x p) (e::es) [] pos) (tCB r t):=by
 intro pins s σ H Q I h
 refine wpAny_Call_Name_kw (zgz I hg hm hv ?_ hn hdb)
 exact PyProof.Rows.callWith_builtin1 (thn (ha pos pins s σ H _ I h) fun us s1 ⟨vs,H1,I1,r1,q1⟩=>hc pins s1 σ H1 vs us Q I1 r1 q1) he hpl
theorem zcf (hc:zes X (.type T) r) (hg:Gl X x) (hm:X.mg x=none) (hv:bootBuiltins x=some (.type T)) (ha:PA X (e::es) t) (hn:x≠"__name__":=by decide) (hdb:(x == ("__debug__":Str))=false:=by decide)
  (he:starEach (e::es) X.env=(false,eval e X.env)::starEach es X.env:=by rfl) (hpl:(backTo pos (starEach es X.env)).any (·.1)=false:=by rfl):PE X (.Call (.Name x p) (e::es) [] pos) (tCB r t):=by
 intro pins s σ H Q I h
 refine wpAny_Call_Name_kw (zgz I hg hm hv ?_ hn hdb)
 exact PyProof.Rows.callWith_type1 (thn (ha pos pins s σ H _ I h) fun us s1 ⟨vs,H1,I1,r1,q1⟩=>hc pins s1 σ H1 vs us Q I1 r1 q1) he hpl
end
end L2
namespace HT
open PySem PyProof.Rows
section
open PySem.SeqAt
open PySem.AutoSeq1 (wpAny_loadPart')
open PySem.MeetsSeq PySem.MeetsSeq2 PySem.MeetsSeq3
end
section
variable {prog:Program} {w:World} {A:Around} {E:Value→Shared→Prop} {s:Shared}
theorem cat_tup {t b:Addr} {vs ws:List Value} {Q:Value→Shared→Prop} (ht:IsTup s.heap t vs.toArray) (hb:IsTup s.heap b ws.toArray) (hv:vs≠[])
  (h1:ws=[]→Q (.ref t) s) (h2:ws≠[]→Q (.ref s.heap.objs.size) { s with heap:=s.heap.push { cls:=.type "tuple",data:=.seq (vs++ws).toArray } })
  (hsz:vs.length+ws.length≤sizeLine):wpAny (model prog w) A (binaryOp .Add (.ref t) (.ref b)) Q E s:=by
 obtain ⟨⟨cls,dd,data,sl⟩,ho,hc,n,hd⟩:=id ht
 obtain ⟨⟨cls2,dd2,data2,sl2⟩,ho2,hc2,n2,hd2⟩:=id hb
 simp only at hc hd hc2 hd2
 subst hc hd hc2 hd2
 have e:vs.toArray++ws.toArray=(vs++ws).toArray:=by simp
 by_cases hw:ws=[]
 ·exact concat_meets ⟨_,ho,rfl⟩ ⟨_,ho2,rfl⟩ noFill_tuple_add seq_tuple_add PySem.F.slot_tuple_add PySem.F.entry_tuple_add (PySem.F.args_tuple_add_2 _ _)
   (tuple_addW1 t b vs.toArray ws.toArray n n2 dd dd2 sl sl2 (by simpa using hv) (by simp [hw])) ⟨ho,ho2,h1 hw⟩
 ·refine concat_meets ⟨_,ho,rfl⟩ ⟨_,ho2,rfl⟩ noFill_tuple_add seq_tuple_add PySem.F.slot_tuple_add PySem.F.entry_tuple_add (PySem.F.args_tuple_add_2 _ _)
   (tuple_addW2 t b vs.toArray ws.toArray n n2 dd dd2 sl sl2 (by simpa using hv) (by simpa using hw) (by rw [List.size_toArray,List.size_toArray];exact hsz)) ⟨ho,ho2,?_⟩
  rw [e]
  exact h2 hw
def sIx (n d:Nat):Option Int→Nat
 | none=>d
 | some v=>if v<0 then (v+(n:Int)).toNat else min v.toNat n
theorem sIx_none (n d:Nat):sIx n d none=d:=rfl
theorem sIx_nat (n d k:Nat):sIx n d (some (k:Int))=min k n:=by
 show (if (k:Int)<0 then ((k:Int)+(n:Int)).toNat else min (k:Int).toNat n)=min k n
 rw [if_neg (by (first|lia|omega)),Int.toNat_natCast]
theorem sIx_le (n d:Nat) (hd:d≤n) (o:Option Int):sIx n d o≤n:=by
 cases o with
 | none=>exact hd
 | some v =>
  show (if v<0 then (v+(n:Int)).toNat else min v.toNat n)≤n
  by_cases hv:v<0
  ·rw [if_pos hv];(first|lia|omega)
  ·rw [if_neg hv];exact Nat.min_le_right _ _
end
end HT
namespace L2
open PySem PySem.Spec PyProof.Rows
abbrev TO:=St→Hp→(Option Int→Hp→Prop)→Prop
def PO (X:Cx) (e:Option Expr) (t:TO):Prop :=
 ∀ (pins:List (Addr×Obj)) (s:Shared) (σ:St) (H:Hp) (Q:Option Int→Hp→Prop),Inv X pins σ H s→t σ H Q →
  wpAny (model X.prog X.w) X.A (evalPart e X.env) (fun u s'=>∃ o H',Inv X pins σ H' s'∧IsPart u o∧Q o H') X.xe s
def zbE:TO:=fun _ H Q=>Q none H
def zcO (t:TE):TO:=fun σ H Q=>t σ H fun x H1=>∃ i,x=.int i∧Q (some i) H1
section
variable {X:Cx} {e:Expr} {te:TE} {lo hi:Option Expr} {tl th:TO} {pos p2:Pos}
theorem zb8:PO X none zbE:=by
 intro pins s σ H Q I h
 rw [evalPart_none]
 exact wpAny_pure ⟨none,H,I,.none,h⟩
theorem zca (h:PE X e te):PO X (some e) (zcO te):=by
 intro pins s σ H Q I hw
 rw [evalPart_some]
 refine thn (h pins s σ H _ I hw) fun u s1 hQ'=>?_
 obtain ⟨x,H1,I1,r1,q1⟩:=hQ'
 obtain ⟨i,rfl,q⟩:=q1
 obtain ⟨t,rfl⟩:=r1
 exact ⟨some i,H1,I1,.int i t,q⟩
def SlR (X:Cx) (r:V→Option Int→Option Int→Hp→VK→Prop):Prop :=
 ∀ (pins:List (Addr×Obj)) (s:Shared) (σ:St) (H:Hp) (x:V) (v vl vu:Value) (lo hi:Option Int) (sl:Addr) (Q:VK),Inv X pins σ H s→zcA x v→s.heap.IsSliceOf sl vl vu .none→IsPart vl lo→IsPart vu hi→r x lo hi H Q →
  ∃ T id,typeLookup (.type T) "__getitem__"=pure (some (.builtin id))∧s.TypeIs v T∧wpAny (model X.prog X.w) X.A (getItem v (.ref sl)) (EP X pins σ Q) X.xe s
def tSl (r:V→Option Int→Option Int→Hp→VK→Prop) (te:TE) (tl th:TO):TE:=fun σ H Q=>te σ H fun x H1=>tl σ H1 fun l H2=>th σ H2 fun u H3=>r x l u H3 Q
theorem zbF {r:V→Option Int→Option Int→Hp→VK→Prop} (hr:SlR X r) (he:PE X e te) (hl:PO X lo tl) (hu:PO X hi th):PE X (.Subscript e (.Slice lo hi none p2) pos) (tSl r te tl th):=by
 intro pins s σ H Q I h
 refine Subscript_ (thn (he pins s σ H _ I h) fun v s1 hQ'=>?_)
 obtain ⟨x,H1,I1,r1,q1⟩:=hQ'
 refine wpAny_Slice (thn (hl pins s1 σ H1 _ I1 q1) fun vl s2 ⟨l,H2,I2,pl,q2⟩=>thn (hu pins s2 σ H2 _ I2 q2) fun vu s3 hQ'=>?_)
 obtain ⟨u,H3,I3,pu,q3⟩:=hQ'
 rw [evalPart_none]
 refine wpAny_pure ?_
 have I4:Inv X pins σ H3 { s3 with heap:=s3.heap.push { cls:=.type "slice",data:=.fields #[vl,vu,.none] } }:=I3.kept (t':=s3.toks) fun b ob q=>Heap.get?_push_of_some _ q
 obtain ⟨T,id,hT,ht,hg⟩:=hr pins { s3 with heap:=s3.heap.push { cls:=.type "slice",data:=.fields #[vl,vu,.none] } } σ H3 x v vl vu l u s3.heap.objs.size Q I4 r1 (Heap.IsSliceOf.new ..) pl pu q3
 show wpAny (model X.prog X.w) X.A (subscriptTail e (.Slice lo hi none p2) v (.ref s3.heap.objs.size)) (EP X pins σ Q) X.xe { s3 with heap:=s3.heap.push { cls:=.type "slice",data:=.fields #[vl,vu,.none] } }
 exact tail_any (ops:=[.ref s3.heap.objs.size,v]) ht hT hg (by with_unfolding_all rfl)
def zmA (xs:List V) (lo hi:Option Int):List V:=(xs.drop (HT.sIx xs.length 0 lo)).take (HT.sIx xs.length xs.length hi - HT.sIx xs.length 0 lo)
theorem zlq (xs:List V) (lo hi:Option Int):(zmA xs lo hi).length≤xs.length:=by
 unfold zmA
 rw [List.length_take,List.length_drop]
 (first|lia|omega)
def zpP (K:PySem.W.Frag):R2:=fun x y H Q=>∃ a b xs ys,x=.ref a∧y=.ref b∧SqT K H a xs∧SqT K H b ys∧xs≠[]∧xs.length+ys.length≤sizeLine ∧
 (ys=[]→Q (.ref a) H)∧(ys≠[]→∀ p,H p=none→Q (.ref p) (upd H p (.tup (xs++ys))))
theorem zcc.nil_iff {xs:List V} {us:List Value} (r:zcc xs us):us=[]↔xs=[]:=by
 cases r with
 | nil=>simp
 | cons _ _=>simp
theorem zr9:OpR X (binaryOp .Add) (zpP X.K):=by
 intro pins s σ H x y v u Q I rx ry h
 obtain ⟨a,b,xs,ys,rfl,rfl,ha,hb,hx,hz,q1,q2⟩:=h
 cases rx
 cases ry
 obtain ⟨its,r1,p1,_⟩:=I.tuple ha
 obtain ⟨its2,r2,p2,_⟩:=I.tuple hb
 refine HT.cat_tup p1 p2 (fun z=>hx (r1.nil_iff.mp z)) (fun z=>⟨.ref a,H,I,rfl,q1 (r2.nil_iff.mp z)⟩) (fun z=>?_) (by rw [← r1.length,← r2.length];exact hz)
 refine ⟨.ref s.heap.objs.size,_,I.laid (t':=s.toks) (o:=.tup (xs++ys)) (fun b ob q=>Heap.get?_push_of_some _ q) (Nat.le_refl _) ?_,rfl,q2 (fun w=>z (r2.nil_iff.mpr w)) _ (I.hok.fresh (Nat.le_refl _))⟩
 exact ⟨by rw [List.length_append];exact hz,_,r1.append r2,IsTup.new _ _⟩
end
end L2
namespace L2
open PySem PySem.Spec PyProof.Rows
def ixN (n:Nat) (i:Int):Option Nat:=if 0≤i then (if i<n then some i.toNat else none) else if -(n:Int)≤i then some (i+n).toNat else none
def atI {α:Type} (xs:List α) (i:Int):Option α:=(ixN xs.length i).bind fun j=>xs[j]?
theorem zs6 {n:Nat} {i:Int} {j:Nat} (h:ixN n i=some j):seqIndex? i n=some j∧j<n∧-(n:Int)≤i∧i<n:=by
 unfold ixN at h
 by_cases h0:0≤i
 ·rw [if_pos h0] at h
  by_cases h1:i<n
  ·rw [if_pos h1] at h
   have e:i.toNat=j:=Option.some.inj h
   exact ⟨by rw [seqIndex_of h0 h1,e],by (first|lia|omega),by (first|lia|omega),h1⟩
  ·rw [if_neg h1] at h;cases h
 ·rw [if_neg h0] at h
  by_cases h1:-(n:Int)≤i
  ·rw [if_pos h1] at h
   have e:(i+n).toNat=j:=Option.some.inj h
   exact ⟨by rw [seqIndex_neg (by (first|lia|omega)) h1,e],by (first|lia|omega),h1,by (first|lia|omega)⟩
  ·rw [if_neg h1] at h;cases h
theorem zkX {α:Type} {xs:List α} {i:Int} {v:α} (h:atI xs i=some v):∃ j,seqIndex? i xs.length=some j∧xs[j]?=some v∧j<xs.length∧-(xs.length:Int)≤i∧i<xs.length:=by
 unfold atI at h
 cases e:ixN xs.length i with
 | none=>rw [e] at h;cases h
 | some j =>
  rw [e] at h
  obtain ⟨h1,h2,h3,h4⟩:=zs6 e
  exact ⟨j,h1,h,h2,h3,h4⟩
theorem zbH {α:Type} {xs:List α} {j:Nat} {v:α} (h:xs[j]?=some v):atI xs (j:Int)=some v:=by
 have hj:j<xs.length:=(List.getElem?_eq_some_iff.mp h).1
 have e:ixN xs.length (j:Int)=some j:=by
  unfold ixN
  rw [if_pos (by (first|lia|omega)),if_pos (by (first|lia|omega))];simp
 unfold atI;rw [e];exact h
theorem zqN {α:Type} (xs:List α) (v:α):atI (xs++[v]) (-1)=some v:=by
 have hl:(xs++[v]).length=xs.length+1:=by simp
 have e:ixN (xs++[v]).length (-1)=some xs.length:=by
  unfold ixN
  rw [hl,if_neg (by decide),if_pos (by (first|lia|omega))]
  congr 1
  (first|lia|omega)
 unfold atI
 rw [e]
 show (xs++[v])[xs.length]?=some v
 simp
def zsE (b:Expr):Prop:=∀ o i,subscripted b false o i=operate [o,i] (getItem o i)
def IxR (X:Cx) (r:R2):Prop :=
 ∀ (value slice:Expr) (pins:List (Addr×Obj)) (s:Shared) (σ:St) (H:Hp) (x y:V) (v u:Value) (Q:VK),Inv X pins σ H s→zcA x v→zcA y u→r x y H Q →
  subscripted slice false v u=operate [v,u] (getItem v u)→wpAny (model X.prog X.w) X.A (subscriptTail value slice v u) (EP X pins σ Q) X.xe s
def MtR (X:Cx) (id:String) (r:V→List V→Hp→VK→Prop):Prop :=
 ∀ (pins:List (Addr×Obj)) (s:Shared) (σ:St) (H:Hp) (x:V) (xs:List V) (v:Value) (us:List Value) (Q:VK),Inv X pins σ H s→zcA x v→zcc xs us→r x xs H Q →
  wpAny (model X.prog X.w) X.A (call (.builtin id) (v::us)) (EP X pins σ Q) X.xe s
section
variable {X:Cx} {a b:Expr} {ta tb:TE} {pos:Pos}
theorem zcd {r:R2} (hr:IxR X r) (ha:PE X a ta) (hb:PE X b tb) (hs:zsE b):PE X (.Subscript a b pos) (tOp r ta tb):=by
 intro pins s σ H Q I h
 exact Subscript_ (binT ha hb I h fun v u s2 x y H2 I2 rx ry q=>hr a b pins s2 σ H2 x y v u Q I2 rx ry q (hs _ _))
def zcR (K:PySem.W.Frag):R2:=fun x y H Q=>∃ p xs i v,x=.ref p∧y=.int i∧SqL K H p xs∧atI xs i=some v∧Q v H
def zpf (K:PySem.W.Frag):R2:=fun x y H Q=>∃ p xs i v,x=.ref p∧y=.int i∧SqT K H p xs∧atI xs i=some v∧Q v H
def zuB:R2:=fun x y H Q=>∃ z i c,x=.str z∧y=.int i∧z.length≤sizeLine∧atI z.cps.toList i=some c∧Q (.str ⟨#[c]⟩) H
theorem zba:IxR X (zcR X.K):=by
 intro value slice pins s σ H x y v u Q I rx ry h hs
 obtain ⟨p,xs,i,z,rfl,rfl,hq,he,q⟩:=h
 cases rx
 obtain ⟨t,rfl⟩:=ry
 obtain ⟨its,r,pl,hz⟩:=I.list hq
 obtain ⟨j,h1,h2,h3,h4,h5⟩:=zkX he
 obtain ⟨w,ew,rw'⟩:=r.get h2
 have hl:=r.length
 have hn:=zii
 have fin:EP X pins σ Q w s:=⟨z,H,I,rw',q⟩
 by_cases h0:0≤i
 ·have hj:i.toNat=j:=by
   rw [seqIndex_of h0 h5] at h1
   exact Option.some.inj h1
  exact item_listR pl.isList h0 (by (first|lia|omega)) (by rw [hj];simpa using ew) fin hs
 ·have hj:(i+(its.toArray.size:Int)).toNat=j:=by
   rw [seqIndex_neg (by (first|lia|omega)) h4] at h1
   rw [List.size_toArray,← hl]
   exact Option.some.inj h1
  exact subscriptTail_builtinR (x:=w) pl.isList.typeIs slot_list_getitem.lookup
   (wpAny_getItem_list_neg (Q:=fun r s'=>r=w∧EP X pins σ Q r s') pl.isList (by (first|lia|omega)) (by rw [List.size_toArray] <;> (first|lia|omega)) (by (first|lia|omega)) (by rw [hj];simpa using ew) ⟨rfl,fin⟩) hs
theorem zma:IxR X (zpf X.K):=by
 intro value slice pins s σ H x y v u Q I rx ry h hs
 obtain ⟨p,xs,i,z,rfl,rfl,hq,he,q⟩:=h
 cases rx
 obtain ⟨t,rfl⟩:=ry
 obtain ⟨its,r,pl,hz⟩:=I.tuple hq
 obtain ⟨j,h1,h2,h3,h4,h5⟩:=zkX he
 obtain ⟨w,ew,rw'⟩:=r.get h2
 have hl:=r.length
 have hn:=zii
 have fin:EP X pins σ Q w s:=⟨z,H,I,rw',q⟩
 exact subscriptTail_builtinR (x:=w) pl.typeIs slot_tuple_getitem.lookup
  (getItem_tuple (j:=j) (Q:=fun r s'=>r=w∧EP X pins σ Q r s') pl (by (first|lia|omega)) (by (first|lia|omega)) (by rw [List.size_toArray,← hl];exact h1) (by simpa using ew) ⟨rfl,fin⟩) hs
theorem zq7:IxR X zuB:=by
 intro value slice pins s σ H x y v u Q I rx ry h hs
 obtain ⟨z,i,c,rfl,rfl,hz,he,q⟩:=h
 obtain ⟨t,rfl⟩:=rx
 obtain ⟨t',rfl⟩:=ry
 obtain ⟨j,h1,h2,h3,h4,h5⟩:=zkX he
 have hl:z.cps.toList.length=z.length:=by simp [Str.length]
 rw [hl] at h1 h4 h5
 have hn:=zii
 exact tail_any (typeIs_str s z t) slot_str_getitem.lookup (getItem_str (c:=c) (by
  have e1:decide (i< -(2 ^ 63:Int))=false:=decide_eq_false (by (first|lia|omega))
  have e2:decide (i≥2 ^ 63)=false:=decide_eq_false (by (first|lia|omega))
  rw [e1,e2,Bool.or_false]) (by rw [h1];simpa using h2) ⟨.str ⟨#[c]⟩,H,I.tok _,⟨_,rfl⟩,q⟩) hs
theorem zju (lo hi:Option Int) (n:Nat):(sliceBounds lo hi none n).1=((HT.sIx n 0 lo:Nat):Int)∧(sliceBounds lo hi none n).2.1=((HT.sIx n n hi:Nat):Int)∧(sliceBounds lo hi none n).2.2=1:=by
 refine ⟨?_,?_,rfl⟩
 ·cases lo with
  | none=>simp [sliceBounds,HT.sIx]
  | some i =>
   simp only [sliceBounds,HT.sIx,Option.getD_none,show (1:Int) > 0 by decide,if_true]
   by_cases h:i<0
   ·simp only [h,if_true] <;> (first|lia|omega)
   ·simp only [h,if_false] <;> (first|lia|omega)
 ·cases hi with
  | none=>simp [sliceBounds,HT.sIx]
  | some i =>
   simp only [sliceBounds,HT.sIx,Option.getD_none,show (1:Int) > 0 by decide,if_true]
   by_cases h:i<0
   ·simp only [h,if_true] <;> (first|lia|omega)
   ·simp only [h,if_false] <;> (first|lia|omega)
theorem zjg (its:List Value) (lo hi:Option Int):slicePick its.toArray lo hi none=((its.drop (HT.sIx its.length 0 lo)).take (HT.sIx its.length its.length hi - HT.sIx its.length 0 lo)).toArray:=by
 obtain ⟨h1,h2,h3⟩:=zju lo hi its.toArray.size
 unfold slicePick
 rw [h1,h2,h3]
 simp only [sliceRange_one,pick_run,List.size_toArray] <;> rfl
def zjv (K:PySem.W.Frag):V→Option Int→Option Int→Hp→VK→Prop:=fun x lo hi H Q=>∃ a xs,x=.ref a∧SqL K H a xs∧∀ p,H p=none→Q (.ref p) (upd H p (.lst (zmA xs lo hi)))
theorem zdc:SlR X (zjv X.K):=by
 intro pins s σ H x v vl vu lo hi sl Q I rx hs pl pu h
 obtain ⟨a,xs,rfl,hx,q⟩:=h
 cases rx
 obtain ⟨its,r,ht,hz⟩:=I.list hx
 have hlen:=r.length
 refine ⟨"list",_,slot_list_getitem.lookup,ht.isList.typeIs,?_⟩
 refine wpAny_getItem_list_slice ht.isList hs pl pu .none (by simp) ?_ (by rw [List.size_toArray] <;> (first|lia|omega))
 rw [zjg,← hlen]
 refine ⟨.ref s.heap.objs.size,_,I.laid (t':=s.toks) (o:=.lst (zmA xs lo hi)) (fun b ob q=>Heap.get?_push_of_some _ q) (Nat.le_refl _) ?_,rfl,q _ (I.hok.fresh (Nat.le_refl _))⟩
 exact ⟨Nat.le_trans (zlq xs lo hi) hz,_,0,(r.drop (HT.sIx xs.length 0 lo)).take (HT.sIx xs.length xs.length hi - HT.sIx xs.length 0 lo),Heap.get?_push_size _ rfl⟩
def zeE:V→Bool
 | .non=>true
 | .bl _=>true
 | .int _=>true
 | .str _=>true
 | _=>false
def eqV:V→V→Bool
 | .non,.non=>true
 | .bl a,.bl b=>a == b
 | .bl a,.int b=>(if a then 1 else 0) == b
 | .int a,.bl b=>a == (if b then 1 else 0)
 | .int a,.int b=>a == b
 | .str a,.str b=>a == b
 | _,_=>false
theorem zuO {A:Around} {s:Shared} {y x:V} {u v:Value} (ry:zcA y u) (rx:zcA x v) (fy:zeE y=true) (fx:zeE x=true):SeqAt.EqAt A s u v (eqV y x):=by
 cases y with
 | non =>
  cases ry
  cases x with
  | non=>cases rx;exact SeqAt.EqAt.same _
  | bl b=>cases rx;exact SeqAt.EqAt.none_bool b
  | int b=>obtain ⟨t,rfl⟩:=rx;exact SeqAt.EqAt.none_int b t
  | str b=>obtain ⟨t,rfl⟩:=rx;exact SeqAt.EqAt.none_str b t
  | _=>exact absurd (show false=true from fx) Bool.false_ne_true
 | bl a =>
  cases ry
  cases x with
  | non=>cases rx;exact SeqAt.EqAt.bool_none a
  | bl b=>cases rx;exact SeqAt.EqAt.bool_bool a b
  | int b=>obtain ⟨t,rfl⟩:=rx;exact SeqAt.EqAt.bool_int a b t
  | str b=>obtain ⟨t,rfl⟩:=rx;exact SeqAt.EqAt.bool_str a b t
  | _=>exact absurd (show false=true from fx) Bool.false_ne_true
 | int a =>
  obtain ⟨t',rfl⟩:=ry
  cases x with
  | non=>cases rx;exact SeqAt.EqAt.int_none a t'
  | bl b=>cases rx;exact SeqAt.EqAt.int_bool a t' b
  | int b=>obtain ⟨t,rfl⟩:=rx;exact SeqAt.EqAt.int_int a t' b t
  | str b=>obtain ⟨t,rfl⟩:=rx;exact SeqAt.EqAt.int_str a t' b t
  | _=>exact absurd (show false=true from fx) Bool.false_ne_true
 | str a =>
  obtain ⟨t',rfl⟩:=ry
  cases x with
  | non=>cases rx;exact SeqAt.EqAt.str_none a t'
  | bl b=>cases rx;exact SeqAt.EqAt.str_bool a t' b
  | int b=>obtain ⟨t,rfl⟩:=rx;exact SeqAt.EqAt.str_int a t' b t
  | str b=>obtain ⟨t,rfl⟩:=rx;exact SeqAt.EqAt.str_str a t' b t
  | _=>exact absurd (show false=true from fx) Bool.false_ne_true
 | _=>exact absurd (show false=true from fy) Bool.false_ne_true
def eqU (x:V) (u:Value):Bool:=match u with
 | .none=>eqV .non x
 | .bool b=>eqV (.bl b) x
 | .int i _=>eqV (.int i) x
 | .str z _=>eqV (.str z) x
 | _=>false
theorem zmd {x y:V} {u:Value} (r:zcA y u) (f:zeE y=true):eqU x u=eqV y x:=by
 cases y with
 | non=>cases r;rfl
 | bl b=>cases r;rfl
 | int i=>obtain ⟨t,rfl⟩:=r;rfl
 | str z=>obtain ⟨t,rfl⟩:=r;rfl
 | _=>exact absurd (show false=true from f) Bool.false_ne_true
theorem zlM {x:V}:∀ {xs:List V} {us:List Value},zcc xs us→xs.all zeE=true→us.any (eqU x)=xs.any fun y=>eqV y x
 | _,_,.nil,_=>rfl
 | y::xs,u::us,.cons r t,f=>by
  rw [List.all_cons,Bool.and_eq_true] at f
  rw [List.any_cons,List.any_cons,zmd r f.1,zlM t f.2]
theorem zfY {A:Around} {s:Shared} {x:V} {v:Value} (rx:zcA x v) (fx:zeE x=true):∀ {xs:List V} {us:List Value},zcc xs us→xs.all zeE=true→∀ u∈us,SeqAt.EqAt A s u v (eqU x u)
 | _,_,.nil,_=>fun u hu=>by cases hu
 | y::xs,u::us,.cons r t,f=>fun u' hu=>by
  rw [List.all_cons,Bool.and_eq_true] at f
  rcases List.mem_cons.mp hu with rfl | hu
  ·rw [zmd r f.1];exact zuO r rx f.1 fx
  ·exact zfY rx fx t f.2 u' hu
def inV (x:V) (xs:List V):Bool:=xs.any fun y=>eqV y x
def rIn (K:PySem.W.Frag) (neg:Bool):R2:=fun x y H Q=>∃ p xs,y=.ref p∧(SqL K H p xs∨SqT K H p xs)∧zeE x=true∧xs.all zeE=true∧Q (.bl (if neg then !inV x xs else inV x xs)) H
theorem zeF:OpR X (compareOp .In) (rIn X.K false):=by
 intro pins s σ H x y v u Q I rx ry h
 obtain ⟨p,xs,rfl,hq,fx,fs,q⟩:=h
 cases ry
 rcases hq with hq | hq
 ·obtain ⟨its,r,pl,hz⟩:=I.list hq
  refine SeqAt.in_listAt (eqU x) pl.isList (fun w hw=>zfY rx fx r fs w (by simpa using hw)) ⟨.bl _,H,I,rfl,?_⟩
  rw [show its.toArray.any (eqU x)=its.any (eqU x) by simp,zlM r fs]
  exact q
 ·obtain ⟨its,r,pl,hz⟩:=I.tuple hq
  refine SeqAt.in_tupleAt (eqU x) pl (fun w hw=>zfY rx fx r fs w (by simpa using hw)) ⟨.bl _,H,I,rfl,?_⟩
  rw [show its.toArray.any (eqU x)=its.any (eqU x) by simp,zlM r fs]
  exact q
theorem zaB:zes X (.builtin "len") (fun xs H Q=>∃ p ys,xs=[.ref p]∧(SqL X.K H p ys∨SqT X.K H p ys)∧Q (.int ys.length) H):=by
 intro pins s σ H xs us Q I r h
 obtain ⟨p,ys,rfl,hq,q⟩:=h
 obtain ⟨u,rfl,rx⟩:=zfQ r
 cases rx
 have hn:=zii
 rcases hq with hq | hq
 ·obtain ⟨its,r',pl,hz⟩:=I.list hq
  have hlen:=r'.length
  exact Calls.call_len_list pl.isList (by simp only [List.size_toArray] <;> (first|lia|omega)) ⟨.int ys.length,H,I.tok _,⟨s.toks+1,by rw [List.size_toArray,hlen]⟩,q⟩
 ·obtain ⟨its,r',pl,hz⟩:=I.tuple hq
  have hlen:=r'.length
  exact len_tuple pl (by simp only [List.size_toArray] <;> (first|lia|omega)) ⟨.int ys.length,H,I.tok _,⟨s.toks+1,by rw [List.size_toArray,hlen]⟩,q⟩
theorem zfF:zes X (.type "tuple") (fun xs H Q=>∃ p ys,xs=[.ref p]∧((SqL X.K H p ys∧∀ l,H l=none→Q (.ref l) (upd H l (.tup ys)))∨(SqT X.K H p ys∧Q (.ref p) H))):=by
 intro pins s σ H xs us Q I r h
 obtain ⟨p,ys,rfl,h⟩:=h
 obtain ⟨u,rfl,rx⟩:=zfQ r
 cases rx
 rcases h with ⟨hq,q⟩ | ⟨hq,q⟩
 ·obtain ⟨its,r',pl,hz⟩:=I.list hq
  have hlen:=r'.length
  refine call_tuple_list pl.isList (fun h' kp=>?_) (by simp only [List.size_toArray] <;> (first|lia|omega))
  have I1:Inv X pins σ H { s with heap:=h' }:=I.kept (t':=s.toks) kp
  have I2:Inv X pins σ (upd H h'.objs.size (.tup ys)) { s with heap:=h'.push { cls:=.type "tuple",data:=.seq its.toArray } } :=
   I1.laid (t':=s.toks) (fun b o e=>Heap.get?_push_of_some _ e) (Nat.le_refl _) (show zbO X.prog X.w _ _ _ (.tup ys) from ⟨hz,its,r',IsTup.new _ _⟩)
  exact ⟨.ref h'.objs.size,_,I2,rfl,q _ (I1.hok.fresh (Nat.le_refl _))⟩
 ·obtain ⟨its,r',pl,hz⟩:=I.tuple hq
  exact call_tuple_same pl ⟨.ref p,H,I,rfl,q⟩
def tyV (K:PySem.W.Frag) (T:String) (x:V) (H:Hp):Prop:=match x with
 | .str _=>T="str"
 | .int _=>T="int"
 | .ref p=>(T="list"∧∃ xs,SqL K H p xs)∨(T="tuple"∧∃ o,K.lookup p=some o∧o.cls=.type "tuple"∧o.dict=none) ∨
   (T="dict"∧((∃ kvs,H p=some (.dK kvs))∨∃ kvs,H p=some (.dT kvs)))∨(T="set"∧∃ S n,H p=some (.set S n))
 | _=>False
theorem zuV {pins:List (Addr×Obj)} {σ:St} {H:Hp} {s:Shared} {T:String} {x:V} {v:Value} (I:Inv X pins σ H s) (r:zcA x v) (ty:tyV X.K T x H) :
  s.TypeIs v T∧∀ a,v=.ref a→∃ ob,s.heap.get? a=some ob∧ob.dict=none:=by
 cases x with
 | str z =>
  obtain ⟨t,rfl⟩:=r
  cases (show T="str" from ty)
  exact ⟨typeIs_str s z t,fun _ e=>nomatch e⟩
 | int i =>
  obtain ⟨t,rfl⟩:=r
  cases (show T="int" from ty)
  exact ⟨typeIs_int s i t,fun _ e=>nomatch e⟩
 | ref p =>
  cases r
  rcases ty with ⟨rfl,xs,hq⟩ | ⟨rfl,o,hk,hc,hd⟩ | ⟨rfl,hk⟩ | ⟨rfl,S,n,hk⟩
  ·obtain ⟨its,_,pl,_⟩:=I.list hq
   refine ⟨pl.isList.typeIs,fun a e=>?_⟩
   cases e
   obtain ⟨o,n,e,c,hd,_⟩:=pl
   exact ⟨o,e,hd⟩
  ·refine ⟨⟨o,I.kIn p o hk,hc⟩,fun a e=>?_⟩
   cases e
   exact ⟨o,I.kIn _ o hk,hd⟩
  ·have z:∃ o,s.heap.get? p=some o∧o.ExactDict:=by
    rcases hk with ⟨kvs,hk⟩ | ⟨kvs,hk⟩
    ·obtain ⟨_,_,_,_,o,_,_,e,ex,_⟩:=I.hok p _ hk
     exact ⟨o,e,ex⟩
    ·obtain ⟨_,_,_,_,o,_,_,e,ex,_⟩:=I.hok p _ hk
     exact ⟨o,e,ex⟩
   obtain ⟨o,e,ex⟩:=z
   refine ⟨⟨o,e,ex.1⟩,fun a e2=>?_⟩
   cases e2
   exact ⟨o,e,ex.2.1⟩
  ·obtain ⟨o,_,_,_,e,ex,_⟩:=I.hok p _ hk
   refine ⟨⟨o,e,ex.1⟩,fun a e2=>?_⟩
   cases e2
   exact ⟨o,e,ex.2.1⟩
 | _=>exact False.elim ty
def tBM (K:PySem.W.Frag) (T:String) (r:V→List V→Hp→VK→Prop) (to:TE) (t:TA):TE:=fun σ H Q=>to σ H fun x H1=>tyV K T x H1∧t σ H1 fun xs H2=>r x xs H2 Q
variable {o e:Expr} {es:List Expr} {to:TE} {t:TA} {name:Str} {apos cpos:Pos} {T id:String} {r:V→List V→Hp→VK→Prop}
theorem zdG (pa:PlainAttrs T) (slot:Slot T name id) (hty:typeOf (.builtin id)=pure (.type "method_descriptor")) (hm:MtR X id r) (ho:PE X o to) (ha:PA X (e::es) t)
  (hbase:attributeBase o name X.env (eval o X.env)=eval o X.env:=by rfl)
  (hfew:((backTo cpos (starEach (e::es) X.env)).all (fun x=>!x.1)&&(backToKw cpos (keywordEach [] X.env)).all (fun x=>x.1.isSome)
   && decide ((e::es).length+([]:List Keyword).length+(if ([]:List Keyword).isEmpty then 0 else 1)<30))=true:=by rfl)
  (hline:(apos.endLine == cpos.line)=true:=by rfl) (hs:starEach (e::es) X.env=(false,eval e X.env)::starEach es X.env:=by rfl) (hplain:(backTo cpos (starEach es X.env)).any (·.1)=false:=by rfl) :
  PE X (.Call (.Attribute o name apos) (e::es) [] cpos) (tBM X.K T r to t):=by
 intro pins s σ H Q I h
 refine wpAny_Call_method_late hbase hfew hline rfl (thn (ho pins s σ H _ I h) fun v s1 hQ'=>?_)
 obtain ⟨x,H1,I1,r1,ty,q1⟩:=hQ'
 obtain ⟨h1,h2⟩:=zuV I1 r1 ty
 refine ⟨T,id,pa,slot,hty,h1,h2,?_⟩
 have hA:=ha cpos pins s1 σ H1 _ I1 q1
 rw [hs] at hA ⊢
 refine Calls.callWith_builtin (by show (false || (backTo cpos (starEach es X.env)).any (·.1))=false;rw [hplain] <;> rfl) (Calls.evalArgs_plain ?_)
 exact thn hA fun us s2 ⟨vs,H2,I2,r2,q2⟩=>hm pins s2 σ H2 x vs v us Q I2 r1 r2 q2
end
end L2
namespace L2
open PySem PySem.Spec PyProof.Rows
def MtM (X:Cx) (id:String) (r:V→List V→Hp→VK→Prop):Prop :=
 ∀ (pins:List (Addr×Obj)) (s:Shared) (σ:St) (H:Hp) (x:V) (xs:List V) (v:Value) (us:List Value) (Q:VK),Inv X pins σ H s→zcA x v→zcc xs us→r x xs H Q →
  wpAny (model X.prog X.w) X.A (call (.builtin id) (v::us)) (EP X pins σ Q) X.xe s
theorem zcc.one:∀ {x:V} {us:List Value},zcc [x] us→∃ u,us=[u]∧zcA x u
 | _,_,.cons r .nil=>⟨_,rfl,r⟩
theorem zcc.two:∀ {x y:V} {us:List Value},zcc [x,y] us→∃ u v,us=[u,v]∧zcA x u∧zcA y v
 | _,_,_,.cons r (.cons q .nil)=>⟨_,_,rfl,r,q⟩
theorem zcc.eraseIdx:∀ {xs:List V} {us:List Value} (i:Nat),zcc xs us→zcc (xs.eraseIdx i) (us.eraseIdx i)
 | _,_,_,.nil=>.nil
 | _,_,0,.cons _ t=>t
 | _,_,i+1,.cons r t=>.cons r (zcc.eraseIdx i t)
theorem zjY {α:Type}:∀ (l:List α) (i:Nat),(l.eraseIdx i).length≤l.length
 | [],_=>Nat.le_refl _
 | _::_,0=>Nat.le_succ _
 | _::r,i+1=>Nat.succ_le_succ (zjY r i)
section
variable {X:Cx} {pins:List (Addr×Obj)} {σ:St} {H:Hp} {s:Shared} {l b:Addr} {xs ys zs:List V}
theorem Inv.lset {its its':List Value} {n:Nat} {f:Array Value→Array Value} {t':Nat} (I:Inv X pins σ H s) (hH:H l=some (.lst xs))
  (e:s.heap.get? l=some { cls:=.type "list",data:=.seq its.toArray n }) (hf:f its.toArray=its'.toArray) (hv:zcc ys its') (hz:ys.length≤sizeLine) :
  Inv X pins σ (upd H l (.lst ys)) { s with heap:=s.heap.update l (Obj.mapSeq f),toks:=t' }:=by
 have q:=PySem.IsL.update e f
 rw [hf] at q
 refine I.write (x:=l) (e:=l) (by rw [hH];exact trivial) (.inl rfl) (fun b' u hb hu=>(Heap.get?_update_other s.heap (Obj.mapSeq f) (Ne.symm hb)).trans hu) ⟨_,q⟩ ?_
 exact ⟨hz,its',_,hv,q⟩
theorem Inv.lnew {its:List Value} {t':Nat} (I:Inv X pins σ H s) (hv:zcc ys its) (hz:ys.length≤sizeLine) :
  Inv X pins σ (upd H s.heap.objs.size (.lst ys)) { s with heap:=s.heap.push { cls:=.type "list",data:=.seq its.toArray },toks:=t' } :=
 I.laid (fun _ _ q=>Heap.get?_push_of_some _ q) (Nat.le_refl _) ⟨hz,its,0,hv,Heap.get?_push_size _ rfl⟩
theorem Inv.fresh (I:Inv X pins σ H s):H s.heap.objs.size=none:=I.hok.fresh (Nat.le_refl _)
theorem Inv.lstM (I:Inv X pins σ H s) (hH:H l=some (.lst xs)):xs.length≤sizeLine∧∃ (its:List Value) (n:Nat),zcc xs its∧xs.length=its.length∧s.heap.get? l=some { cls:=.type "list",data:=.seq its.toArray n }:=by
 obtain ⟨z,its,n,r,e⟩:=I.hok l _ hH
 exact ⟨z,its,n,r,r.length,e⟩
end
section
variable {X:Cx}
def zb9:V→List V→Hp→VK→Prop:=fun x vs H Q=>∃ l xs y,x=.ref l∧vs=[y]∧H l=some (.lst xs)∧xs.length<sizeLine∧Q .non (upd H l (.lst (xs++[y])))
theorem zet:MtM X "list.append" zb9:=by
 intro pins s σ H x vs v us Q I rx rv h
 obtain ⟨l,xs,y,rfl,rfl,hH,hz,q⟩:=h
 cases rx
 obtain ⟨u,rfl,ru⟩:=rv.one
 obtain ⟨z,its,n,r,hl,e⟩:=I.lstM hH
 refine call_meets F.slot_list_append ⟨_,e,rfl⟩ F.entry_list_append (F.args_list_append_2 _ _) (PySem.list_append l its.toArray n u (by rw [List.size_toArray];(first|lia|omega))) ⟨e,?_⟩
 refine ⟨.non,_,I.lset (its':=its++[u]) hH e (by simp) (r.append (.cons ru .nil)) ?_,rfl,q⟩
 rw [List.length_append,List.length_singleton]
 (first|lia|omega)
def zl7:V→List V→Hp→VK→Prop:=fun x vs H Q=>∃ l xs i k y,x=.ref l∧vs=[.int i]∧H l=some (.lst xs)∧-(2 ^ 63)≤i∧i<2 ^ 63∧seqIndex? i xs.length=some k∧xs[k]?=some y∧Q y (upd H l (.lst (xs.eraseIdx k)))
theorem zpY:MtM X "list.pop" zl7:=by
 intro pins s σ H x vs v us Q I rx rv h
 obtain ⟨l,xs,i,k,y,rfl,rfl,hH,h1,h2,hk,hy,q⟩:=h
 cases rx
 obtain ⟨u,rfl,ru⟩:=rv.one
 obtain ⟨t,rfl⟩:=ru
 obtain ⟨z,its,n,r,hl,e⟩:=I.lstM hH
 obtain ⟨w,hw,rw'⟩:=r.get hy
 refine call_meets F.slot_list_pop ⟨_,e,rfl⟩ F.entry_list_pop (F.args_list_pop_2 _ _)
  (MeetsSeq.list_pop_at l its.toArray n i t k w (fitsIndex_both h1 h2) (by rw [List.size_toArray,← hl];exact hk) (by rw [← Array.getElem?_toList];exact hw) (by rw [List.size_toArray];(first|lia|omega))) ⟨e,?_⟩
 refine ⟨y,_,I.lset (its':=its.eraseIdx k) hH e ?_ (r.eraseIdx k) ?_,rw',q⟩
 ·show its.toArray.eraseIdxIfInBounds k=(its.eraseIdx k).toArray
  rw [List.eraseIdxIfInBounds_toArray]
 ·have:=zjY xs k
  (first|lia|omega)
def zg1:R2:=fun x y H Q=>∃ l b xs zs,x=.ref l∧y=.ref b∧H l=some (.lst xs)∧H b=some (.lst zs)∧xs.length+zs.length≤sizeLine∧∀ p,H p=none→Q (.ref p) (upd H p (.lst (xs++zs)))
theorem zdt:OpR X (binaryOp .Add) zg1:=by
 intro pins s σ H x y v u Q I rx ry h
 obtain ⟨l,b,xs,zs,rfl,rfl,hH,hB,hz,q⟩:=h
 cases rx
 cases ry
 obtain ⟨z,its,n,r,hl,e⟩:=I.lstM hH
 obtain ⟨z2,its2,n2,r2,hl2,e2⟩:=I.lstM hB
 refine PySem.P.add_list e e2 ?_ (by rw [List.size_toArray,List.size_toArray];(first|lia|omega))
 have ea:its.toArray++its2.toArray=(its++its2).toArray:=by simp
 rw [ea]
 exact ⟨.ref _,_,I.lnew (t':=s.toks) (r.append r2) (by rw [List.length_append];(first|lia|omega)),rfl,q _ I.fresh⟩
end
section
variable {prog:Program} {w:World} {A:Around} {E:Value→Shared→Prop} {s:Shared}
end
section
variable {X:Cx}
end
end L2
namespace Att
open PySem PySem.W PySem.Calls PyProof.Rows
theorem zhl {P:Params} {h:Heap}:∀ (ns:List Int) (vs:List Value),WellAll P h vs (ns.map WData.int)→IntsAre vs ns:=by
 intro ns
 induction ns with
 | nil =>
  intro vs w
  rw [List.map_nil] at w
  cases w
  exact .nil
 | cons n ns ih =>
  intro vs w
  rw [List.map_cons] at w
  cases w with
  | cons a b =>
   cases a
   exact .cons _ _ (ih _ b)
theorem znV {l:OpenLaw} {n:Nat} (hn:l.most=some n) {P:Params} {h:Heap} {args:List WData} {vals:List Value}
  (hpre:l.row.toRowW.claim.pre args=true) (hwl:WellAll P h vals args) :
  ∃ a vs ns,vals=[Value.ref a]∧args=[WData.list (ns.map WData.int)]∧h.get? a=some { cls:=.type "list",data:=.seq vs.toArray }∧IntsAre vs ns∧ns.length≤n:=by
 have hsh:WShape.hasAll [] args [.list .int]=true:=(pre_splitW hpre).1
 have hc:l.pre.holds [] { args:=args }=true:=(pre_splitW hpre).2
 obtain ⟨d,r,rfl,h1,h2⟩:=hasAllW_cons hsh
 obtain rfl:=hasAllW_nil h2
 obtain ⟨xs,rfl,h3⟩:=hasW_list h1
 obtain ⟨ns,rfl⟩:=items_int h3
 have hlen:ns.length≤n:=by
  unfold OpenLaw.pre at hc
  have h4:(WTm.not (.lt (.lit (.int (n:Int))) (.len (.arg 0)))).holds [] { args:=[.list (ns.map .int)] }=true:=by
   have h4:=(holds_andW hc).1
   rw [hn] at h4
   exact h4
  have h5:=condW_of h4 (w_not (w_lt w_lit (w_len_list (w_arg rfl))))
  rw [List.length_map] at h5
  refine Nat.le_of_not_lt fun q=>?_
  have q':(n:Int)<((ns.length:Nat):Int):=by (first|lia|omega)
  first
   | (rw [decide_eq_true q'] at h5;exact absurd h5 (by decide))
   | (simp at h5;(first|lia|omega))
 cases hwl with
 | cons w1 w2 =>
  cases w2
  cases w1 with
  | list ho hall=>exact ⟨_,_,ns,rfl,rfl,ho,zhl ns _ hall,hlen⟩
theorem zoM (l:OpenLaw) (args:List WData):l.row.toRowW.claim.post args (.bool true) args=true :=
 postW_of (r:=l.row.toRowW) (X:=(true == true))
  (show WShape.has [] (.bool true) .bool=true by first | rfl | decide | simp [WShape.has,WShape.arms,WShape.armsAll])
  (show (WTm.eq .res (.lit (.bool true))).value [] { args:=args,res:=some (.bool true),after:=args }=some (.bool (true == true)) from w_eq_bool (w_res rfl) w_lit) rfl
section
variable {prog:Program} {w:World} {A:Around} {E:Value→Shared→Prop} {s:Shared} {K:Frag}
end
end Att
namespace L2
open PySem PySem.Spec PyProof.Rows
theorem zjy:∀ {vs:List Value} {ns:List Int},IntsAre vs ns→zcc (ns.map V.int) vs
 | _,_,.nil=>.nil
 | _,_,.cons n t h=>.cons ⟨t,rfl⟩ (zjy h)
end L2
namespace L2
open PySem PySem.Spec PyProof.Rows
end L2
namespace L2
open PySem PySem.Spec PyProof.Rows
def zdl (s:Stmt):Arguments:=match s with
 | .FunctionDef _ a _ _ _ _ _ _ _ _=>a
 | _=>{ posonlyargs:=[],args:=[],vararg:=none,kwonlyargs:=[],kw_defaults:=[],kwarg:=none,defaults:=[] }
def zcr (s:Stmt):List Stmt:=match s with
 | .FunctionDef _ _ b _ _ _ _ _ _ _=>b
 | _=>[]
def zav (s:Stmt):Scope:=match s with
 | .FunctionDef _ _ _ _ _ _ sc _ _ _=>sc
 | _=>{ kind:=.function,names:=[],isGenerator:=false,isCoroutine:=false }
abbrev CX0:CXT:=fun _ _ _ _ _ _=>False
abbrev E0:XK:=fun _ _ _=>False
theorem zbZ {X:Cx}:zhx CX0 X E0:=fun _ _ _ _ _ _ _ h=>h.elim
structure Fun (K:PySem.W.Frag) (x qual:Str) (st:Stmt) (f:Addr) (fd:FuncData):Prop where
 ex:∃ (oc:Value) (od:Option Addr) (kV doc pm:Value) (an:Option Addr) (cdv ct:Value) (osl:Array (Option Value)),
  fd=PySem.W.fnOf x qual (zdl st) (zcr st) (zav st) .none kV doc pm an cdv ct∧K.lookup f=some ⟨oc,od,.func fd,osl⟩∧PySem.W.codeIn K cdv qual=true
 kp:PySem.W.keepIn K (.ref f)=true
section
variable {P:Program} {w:World} {K:PySem.W.Frag} {mg:Str→Option Value} {base:Heap}
theorem Fun.ok {x qual:Str} {st:Stmt} {f:Addr} {fd:FuncData} {N ps:List Str} {k:Nat} {sp:Sp} (F:Fun K x qual st f fd) (S:za7 N ps (zav st)) (len:∀ vs H Q E,sp vs H Q E→vs.length=ps.length)
  (hbody:∀ (cdv:Value) (A:Around) (outer:List Env) (s:Shared) (H:Hp) (vs:List V) (Q:VK) (E:XK),zeS k (A.deeper (envOfC qual (zav st) s.heap.objs.size f cdv))→sp vs H Q E →
   ∃ t,PSs (zkT CX0 P w K mg base N qual (zav st) f cdv A outer s H E).nox (zcr st) t∧t { nx:=fun _ H'=>Q .non H',rt:=Q } (zbY N vs) H):zdD P w K mg base CX0 (k+1) f fd ps sp:=by
 obtain ⟨oc,od,kV,doc,pm,an,cdv,ct,osl,rfl,lk,hcd⟩:=F.ex
 refine zpZ lk hcd S len fun A outer s H vs Q E hr hsp=>?_
 obtain ⟨t,h,q⟩:=hbody cdv A outer s H vs Q E hr hsp
 exact ⟨t,h.nox,q⟩
theorem Fun.binds {x qual:Str} {st:Stmt} {f:Addr} {fd:FuncData} {ps:List Str} (F:Fun K x qual st f fd)
  (h:∀ (kV doc pm:Value) (an:Option Addr) (cdv ct:Value) (us:List Value),us.length=ps.length→bindArgs (PySem.W.fnOf x qual (zdl st) (zcr st) (zav st) .none kV doc pm an cdv ct) ⟨us,[]⟩=pure (ps.zip us)):zci K fd ps []:=by
 obtain ⟨oc,od,kV,doc,pm,an,cdv,ct,osl,rfl,lk,hcd⟩:=F.ex
 exact .all (h kV doc pm an cdv ct)
theorem zce {x qual:Str} {st:Stmt} {f:Addr} {oc:Value} {od an:Option Addr} {osl:Array (Option Value)} {kV doc pm cdv ct:Value} (l:K.lookup f=some ⟨oc,od,.func (PySem.W.fnOf x qual (zdl st) (zcr st) (zav st) .none kV doc pm an cdv ct),osl⟩)
  (c:PySem.W.codeIn K cdv qual=true) (k:PySem.W.keepIn K (.ref f)=true):Fun K x qual st f (PySem.W.fnOf x qual (zdl st) (zcr st) (zav st) .none kV doc pm an cdv ct):=⟨⟨oc,od,kV,doc,pm,an,cdv,ct,osl,rfl,l,c⟩,k⟩
end
theorem zqj {A:Around} {k:Nat} (hr:zeS k A):A.units+1<cLine:=Nat.lt_of_le_of_lt (Nat.add_le_add_left (by decide:1≤64) _) hr.units
theorem znw {n:Nat} (h:n≤1000):n<sizeLine:=Nat.lt_of_le_of_lt h (by decide)
section
variable {X:Cx}
theorem pv (i:Nat) {x:Str} {pos:Pos} (hN:X.N[i]?=some x:=by rfl) (hv:Vis X.env.scope x:=by first | exact Or.inl rfl | exact Or.inr (Or.inl rfl) | exact Or.inr (Or.inr rfl)) (hd:(x == ("__debug__":Str))=false:=by decide)
  (hcd:(x == ("__classdict__":Str))=false:=by decide):PE X (.Name x pos) (zac i):=zri hN hv hd hcd
end
theorem zrt {A B:Prop} (h:B):if false=true then A else B:=by
 rw [if_neg Bool.false_ne_true]
 exact h
theorem zp1 {A B:Prop} (h:A):if true=true then A else B:=by
 rw [if_pos rfl]
 exact h
theorem zdq {c A B:Prop} [Decidable c] (h1:c→A) (h2:¬ c→B):if c then A else B:=by
 by_cases h:c
 ·rw [if_pos h]
  exact h1 h
 ·rw [if_neg h]
  exact h2 h
def za3 (H H':Hp):Prop:=∀ b o,H b=some o→H' b=some o
theorem za3.refl (H:Hp):za3 H H:=fun _ _ h=>h
theorem za3.trans {H H1 H2:Hp} (a:za3 H H1) (b:za3 H1 H2):za3 H H2:=fun c o h=>b c o (a c o h)
theorem za3.free {H H':Hp} (e:za3 H H') {l:Addr} (h:H' l=Option.none):H l=Option.none:=by
 cases q:H l with
 | none=>rfl
 | some o =>
  rw [e l o q] at h
  cases h
theorem za3.seq {K:PySem.W.Frag} {H H':Hp} {a:Addr} {xs:List V} (e:za3 H H') (h:SqL K H a xs):SqL K H' a xs:=by
 rcases h with (h | ⟨o,h⟩) | h
 ·exact .inl (.inl (e _ _ h))
 ·exact .inl (.inr ⟨o,e _ _ h⟩)
 ·exact .inr h
end L2
namespace L2
open PySem PySem.Spec PyProof.Rows
section
variable {X:Cx}
theorem zcS:OpR X (binaryOp .FloorDiv) (rI (fun _ j=>0<j∧j.natAbs.log2<9000) fun i j=>.int (i / j)):=opI fun i j _ _ _ _ _ hc q=>by
 have h1:(0:Int)<j:=hc.1
 exact floordiv_int (by (first|lia|omega)) (by rw [Int.fdiv_eq_ediv_of_nonneg i (by (first|lia|omega))];exact q) (.inl (PyProof.noPylong_of_log2 hc.2))
theorem zhy:OpR X (binaryOp .Mult) (rI IntMulOk fun i j=>.int (i*j)):=opI fun _ _ _ _ _ _ _ hc q=>mul_int q hc
theorem mulR {i j:Int} (h1:-(2 ^ 64)<j) (h2:j<2 ^ 64):IntMulOk i j:=.of_right (intBits_le_64 h1 h2)
theorem mulL {i j:Int} (h1:-(2 ^ 64)<i) (h2:i<2 ^ 64):IntMulOk i j:=.of_left (intBits_le_64 h1 h2)
theorem zl6 {j:Int} (m:Nat) (h0:j≠0) (h:j.natAbs<2 ^ m) (hm:m≤9000:=by decide):j.natAbs.log2<9000 :=
 Nat.lt_of_lt_of_le ((Nat.log2_lt (by (first|lia|omega))).mpr h) hm
theorem zde:bootBuiltins "int"=some (.type "int"):=by decide +kernel
theorem zd9:bootBuiltins "bool"=some (.type "bool"):=by decide +kernel
theorem zeK:bootBuiltins "str"=some (.type "str"):=by decide +kernel
theorem zeh:bootBuiltins "list"=some (.type "list"):=by decide +kernel
theorem zhp:bootBuiltins "ValueError"=some (.type "ValueError"):=by decide +kernel
theorem zcU:bootBuiltins "tuple"=some (.type "tuple"):=by decide +kernel
theorem zgu (K:PySem.W.Frag):PySem.W.kitOne K (.type "int") (.type "bool")=some false:=by first | rfl | kernel_rfl
def zsJ (a:Addr) (c:Value) (h:Heap):Prop:=∃ oe vs,h.get? a=some oe∧oe.cls=c∧oe.data=.fields vs
def excO (a:Addr) (c:Value):HO:=.ext (zsJ a c)
structure zhX (K:PySem.W.Frag) (c:Value):Prop where
 kit:∀ a:Addr,PySem.W.KitX K (.ref a) c (zsJ a c)
inductive TyX (K:PySem.W.Frag) (H:Hp):V→Value→Prop where
 | of {x:V} {t:Value} (h:zl9 K H x t):TyX K H x t
 | exc {a:Addr} {c:Value} (h:H a=some (excO a c)) (k:zhX K c):TyX K H (.ref a) c
def clsV:V→Option Value
 | .ty n=>some (.type n)
 | .ref c=>some (.ref c)
 | _=>none
def zdF (K:PySem.W.Frag):List V→Hp→VK→Prop:=fun xs H Q=>∃ x c t cv b,xs=[x,c]∧clsV c=some cv∧TyX K H x t∧PySem.W.kitOne K t cv=some b∧Q (.bl b) H
def zl8 (sp:Sp) (dvs:List V) (E:St→XK) (t:TA):TE:=fun σ H Q=>t σ H fun vs H1=>sp (vs++dvs) H1 Q (E σ)
theorem zdO {K:PySem.W.Frag} {H:Hp} {Q:VK} {i:Int} (q:Q (.bl true) H):zdF K [.int i,.ty "int"] H Q:=⟨_,_,_,_,true,rfl,rfl,.of (.int i),rfl,q⟩
theorem zeB {K:PySem.W.Frag} {H:Hp} {Q:VK} {i:Int} (q:Q (.bl false) H):zdF K [.int i,.ty "bool"] H Q:=⟨_,_,_,_,false,rfl,rfl,.of (.int i),zgu K,q⟩
theorem zdo {K:PySem.W.Frag} {H:Hp} {Q:VK} {r:Addr} {xs:List V} (h:H r=some (.tup xs)) (q:Q (.bl true) H):zdF K [.ref r,.ty "tuple"] H Q:=⟨_,_,_,_,true,rfl,rfl,.of (.tup h),rfl,q⟩
theorem zlR {c:V} {u cv:Value} (r:zcA c u) (h:clsV c=some cv):u=cv:=by
 cases c with
 | ty n=>cases r;exact Option.some.inj h
 | ref a=>cases r;exact Option.some.inj h
 | _=>cases h
theorem zaX:zes X (.builtin "isinstance") (zdF X.K):=by
 intro pins s σ H xs us Q I r h
 obtain ⟨x,c,t,cv,b,rfl,hc,ty,e,q⟩:=h
 obtain ⟨u,w',rfl,rx,rw'⟩:=zlJ r
 obtain rfl:=zlR rw' hc
 cases ty with
 | of ty=>exact zox I rx ty e fun tk=>⟨.bl b,H,I.tok tk,rfl,q⟩
 | @exc a c h k =>
  cases (show u=Value.ref a from rx)
  obtain ⟨p,_,_⟩:=(show zbO X.prog X.w H s.heap a (excO a t) from I.hok a _ h)
  exact PySem.W.kia_one (k.kit a) I.kIn p e (fun z=>nomatch z) fun tk=>⟨.bl b,H,I.tok tk,rfl,q⟩
def zmf (K:PySem.W.Frag):V→List V→Hp→VK→Prop:=fun x vs H Q=>∃ l xs y,x=.ref l∧vs=[y]∧SqL K H l xs∧zeE y=true∧xs.all zeE=true∧Q (.int ((xs.countP fun z=>eqV z y:Nat):Int)) H
theorem zh7 {x:V}:∀ {xs:List V} {us:List Value},zcc xs us→xs.all zeE=true→us.countP (eqU x)=xs.countP fun y=>eqV y x
 | _,_,.nil,_=>rfl
 | y::xs,u::us,.cons r t,f=>by
  rw [List.all_cons,Bool.and_eq_true] at f
  rw [List.countP_cons,List.countP_cons,zmd r f.1,zh7 t f.2]
theorem zqq:MtR X "list.count" (zmf X.K):=by
 intro pins s σ H x vs v us Q I rx rv h
 obtain ⟨l,xs,y,rfl,rfl,hl,fy,fs,q⟩:=h
 cases rx
 obtain ⟨u,rfl,ru⟩:=rv.one
 obtain ⟨its,r,⟨⟨cls,dd,data,sl⟩,n,e,hc,hdn,hd⟩,_⟩:=I.list hl
 simp only at hc hd
 subst hc hd
 refine call_meets F.slot_list_count ⟨_,e,rfl⟩ F.entry_list_count (F.args_list_count_2 _ _) (SeqAt.list_countAt l its.toArray n dd sl u (eqU y)) ⟨e,fun w hw=>zfY ru fy r fs w (by simpa using hw),?_⟩
 refine ⟨.int _,H,I.tok _,⟨_,rfl⟩,?_⟩
 rw [List.toList_toArray,zh7 r fs]
 exact q
def zoW (K:PySem.W.Frag):V→List V→Hp→VK→Prop:=fun x vs H Q=>∃ l xs y j,x=.ref l∧vs=[y]∧SqL K H l xs∧zeE y=true∧xs.all zeE=true∧xs.findIdx? (fun z=>eqV z y)=some j∧j<1000000∧Q (.int (j:Nat)) H
theorem zho {x:V}:∀ {xs:List V} {us:List Value},zcc xs us→xs.all zeE=true→us.findIdx? (eqU x)=xs.findIdx? fun y=>eqV y x
 | _,_,.nil,_=>rfl
 | y::xs,u::us,.cons r t,f=>by
  rw [List.all_cons,Bool.and_eq_true] at f
  rw [List.findIdx?_cons,List.findIdx?_cons,zmd r f.1,zho t f.2]
theorem zqY:MtR X "list.index" (zoW X.K):=by
 intro pins s σ H x vs v us Q I rx rv h
 obtain ⟨l,xs,y,j,rfl,rfl,hl,fy,fs,hj,hs,q⟩:=h
 cases rx
 obtain ⟨u,rfl,ru⟩:=rv.one
 obtain ⟨its,r,⟨⟨cls,dd,data,sl⟩,n,e,hc,hdn,hd⟩,_⟩:=I.list hl
 simp only at hc hd
 subst hc hd
 rw [← zho r fs] at hj
 obtain ⟨hlt,h1,h2⟩:=List.findIdx?_eq_some_iff_getElem.mp hj
 refine call_meets F.slot_list_index ⟨_,e,rfl⟩ F.entry_list_index (F.args_list_index_2 _ _) (SeqAt.list_indexAt l its.toArray n dd sl u (eqU y) j (by simpa using hlt) (by (first|lia|omega)) (by simpa using h1) (fun m hm hmj=>by simpa using h2 m hmj)) ⟨e,fun w hw=>zfY ru fy r fs w (by simpa using hw),?_⟩
 exact ⟨.int _,H,I.tok _,⟨_,rfl⟩,q⟩
def ztF (K:PySem.W.Frag) (ta:TE):TT:=fun σ H Q=>ta σ H fun x H'=>∃ k,zts K x H' k∧Q k H'
def zdk (t:TS):TS:=fun D σ H=>∃ R:St→Hp→Prop,t { D with nx:=R } σ H∧∀ σ' H',R σ' H'→D.nx σ' H'
theorem zbz {st:Stmt} {t:TS} (h:PS X st t):PS X st (zdk t):=by
 intro pins s σ H D I hw
 obtain ⟨R,hw,hR⟩:=hw
 refine thn (h pins s σ H _ I hw) fun f s' q=>?_
 cases f with
 | next=>obtain ⟨σ',H',I',q⟩:=q;exact ⟨σ',H',I',hR _ _ q⟩
 | brk=>exact q
 | cont=>exact q
 | ret u=>exact q
end
theorem zaw {H:Hp} {p:Addr} (h:H p=none) (o:HO):za3 H (upd H p o):=fun b u q=>by rw [zax (zaE q h)];exact q
theorem za3.add {H0 H:Hp} {p:Addr} {o:HO} (s:za3 H0 H) (h:H p=none):za3 H0 (upd H p o):=s.trans (zaw h o)
theorem za3.put {H0 H:Hp} {p:Addr} {o:HO} (s:za3 H0 H) (h:H0 p=none):za3 H0 (upd H p o):=fun b u q=>by rw [zax (zaE q h)];exact s _ _ q
theorem zpX {K:PySem.W.Frag} {i:Int} {H:Hp} {k:Bool}:zts K (.int i) H k=(k=(i != 0)):=rfl
theorem zsG {K:PySem.W.Frag} {i:Bool} {H:Hp} {k:Bool}:zts K (.bl i) H k=(k=i):=rfl
theorem zqX (a b:Int):scal (.int a) (.int b)=true:=rfl
theorem zsO (a b:Bool):scal (.bl a) (.bl b)=true:=rfl
theorem zl1 {ns:List Int} {k:Int} (h0:0≤k) (h:k<(ns.length:Int)):∃ v:Int,atI (ns.map V.int) k=some (.int v)∧ns[k.toNat]?=some v:=by
 have hk:k.toNat<ns.length:=by (first|lia|omega)
 have ek:k=((k.toNat:Nat):Int):=by (first|lia|omega)
 have q:atI (ns.map V.int) ((k.toNat:Nat):Int)=some (.int ns[k.toNat]):=zbH (by rw [List.getElem?_map,List.getElem?_eq_getElem hk] <;> rfl)
 rw [← ek] at q
 exact ⟨ns[k.toNat],q,List.getElem?_eq_getElem hk⟩
def zmB (J:It) (g:TG) (tb:TS):TS:=fun D σ H=>∃ W:Nat→Nat→St→Hp→Prop,(∃ m,W 0 m σ H)∧∀ i m σ H,W i m σ H →
 (J.stop i H∧D.nx σ H)∨(J.go i H∧∃ N:St→Hp→Prop,(∀ σ' H',N σ' H'→∃ m',m'<m∧W (i+1) m' σ' H')∧∀ x H',J.yld i H x H'→g x σ H' fun σ2 H2=>tb { D with nx:=N,ct:=N,bk:=D.nx } σ2 H2)
theorem zs2 {wi:TI} {g:TG} {tb:TS} {D:zb1} {σ:St} {H:Hp}:zgJ wi g tb D σ H=wi σ H fun J H1=>zmB J g tb D σ H1:=rfl
theorem zcI {lo:Int} {n:Nat} {g:TG} {tb:TS} {D:zb1} {σ:St} {H:Hp} (Pv:Nat→St→Hp→Prop) (h0:Pv 0 σ H)
  (hs:∀ i σ H,i<n→Pv i σ H→g (.int (lo+i)) σ H fun σ2 H2=>tb { D with nx:=Pv (i+1),ct:=Pv (i+1),bk:=D.nx } σ2 H2) (hd:∀ σ H,Pv n σ H→D.nx σ H):zmB (Itr lo n) g tb D σ H:=zo7 Pv h0 hs hd
theorem zg0 {K:PySem.W.Frag} {a:Addr} {xs:List V} {g:TG} {tb:TS} {D:zb1} {σ:St} {H:Hp} (Pv:Nat→St→Hp→Prop) (h0:Pv 0 σ H) (hl:∀ i σ H,i≤xs.length→Pv i σ H→SqL K H a xs)
  (hs:∀ i x σ H,xs[i]?=some x→Pv i σ H→g x σ H fun σ2 H2=>tb { D with nx:=Pv (i+1),ct:=Pv (i+1),bk:=D.nx } σ2 H2) (hd:∀ σ H,Pv xs.length σ H→D.nx σ H):zmB (Itl K a) g tb D σ H:=zpO Pv h0 hl hs hd
end L2
namespace L2
open PySem PySem.Spec PyProof.Rows
section
variable {P:Program} {w:World}
structure zte (P:Program) (w:World) (outer:List Env) (H:Hp) (s:Shared) (E:XK) (ea:Addr) (s':Shared) (B:Heap) (cls a0:Value) (H':Hp):Prop where
 os:s'.os=s.os
 bare:AllBare s'.gens
 un:Un (frs outer) [] H H' s.heap s'.heap
 hokB:HOk P w H' B
 fly:Heap.FlyingW B outer ea cls a0 s'.heap
 cov:∀ b o,s.heap.get? b=some o→H b=none→b∉frs outer→B.get? b=some o
 covT:∀ b o,s.heap.get? b=some o→b∉frs outer→∃ o',B.get? b=some o'
 new:s.heap.get? ea=none
 free:H' ea=none
 want:E cls none H'
theorem zte.later {outer:List Env} {H H':Hp} {s s':Shared} {E:XK} {ea:Addr} {B h:Heap} {cls a0:Value} (x:zte P w outer H s E ea s' B cls a0 H') (st:B.StaysIn h) (sm:s'.heap.UpToSlots h)
  (ff:s'.heap.FunFrames B outer):Un (frs outer) [] H H' s.heap h∧HOk P w H' h:=by
 have slot:∀ b o,s'.heap.get? b=some o→b∈frs outer→∃ sl,h.get? b=some { o with slots:=sl }:=fun b o e hb=>by
  obtain ⟨_,o',e',nf⟩:=ff.mem hb
  rw [e] at e'
  cases e'
  exact sm b o e nf
 refine ⟨⟨fun b o e n hb _=>st b o (x.cov b o e n hb),fun b o e n hb hx=>?_,x.un.free,fun b o e hx=>?_,x.un.tups,x.un.frzs,x.un.tbls⟩,x.hokB.kept st⟩
 ·obtain ⟨sl,e1⟩:=x.un.slot b o e n hb hx
  obtain ⟨sl',e2⟩:=slot b _ e1 hb
  exact ⟨sl',e2⟩
 ·by_cases hb:b∈frs outer
  ·obtain ⟨o1,e1⟩:=x.un.there b o e hx
   obtain ⟨sl,e2⟩:=slot b o1 e1 hb
   exact ⟨_,e2⟩
  ·obtain ⟨o',e'⟩:=x.covT b o e hb
   exact ⟨o',st b o' e'⟩
end
section
variable {P:Program} {w:World} {K:PySem.W.Frag} {mg:Str→Option Value} {base:Heap} {N:List Str} {qual:Str} {scope:Scope} {f:Addr} {cd:Value} {A:Around} {outer:List Env} {s₀:Shared} {H₀:Hp} {E:XK}
end
section
variable {P:Program} {w:World} {K:PySem.W.Frag} {mg:Str→Option Value} {base:Heap} {N:List Str} {qual:Str} {scope:Scope} {f:Addr} {cd:Value} {A:Around} {outer:List Env} {s₀:Shared} {H₀:Hp} {E:XK}
end
abbrev zf3:List Value:=[.type "ValueError",.type "Exception",.type "BaseException",.type "object"]
def zrb (h:Heap) (C:Addr):Prop:=∃ bm N nm q bs hdct sn sub ab col dd k0 k1 k2 k3 k5 mN,h.get? C=some (excClassObj nm q C N bs bm hdct sn sub ab col dd k0 k1 k2 k3 k5 "ValueError.__new__")∧h.Ns N mN∧mN "__init__"=none∧OwnTail h zf3 bm
theorem znx {K:PySem.W.Frag} {h:Heap} {C:Addr} (X:K.In h) (q:PySem.W.excIn K C zf3 "ValueError.__new__"=true):zrb h C:=by
 unfold PySem.W.excIn at q
 split at q
 ·rename_i dd cd sl ho
  split at q
  ·rename_i C2 bm k0 k1 k2 k3 n k5 hm hs
   simp only [Bool.and_eq_true,beq_iff_eq,Bool.not_eq_true'] at q
   obtain ⟨⟨⟨⟨⟨r1,r2⟩,r3⟩,r4⟩,r5⟩,r6⟩:=q
   subst r1 r2
   obtain ⟨a1,a2,a3,a4,a5,a6,a7,a8,a9,a10,a11⟩:=cd
   dsimp only at hm r3 r5 r6
   subst hm r3
   have z:sl=#[k0,k1,k2,k3,some (.builtin "ValueError.__new__"),k5]:=by
    obtain ⟨l⟩:=sl
    exact congrArg Array.mk hs
   subst z
   exact ⟨bm,_,_,_,_,_,_,_,_,_,_,k0,k1,k2,k3,k5,_,X _ _ ho,.of_isNs (PySem.W.isNs_of_in X r5),PySem.W.nsMap_none_of_in X r5 r6,PySem.W.tail_of_in X r4⟩
  ·cases q
 ·cases q
section
variable {X:Cx} {CX:CXT} {k:Nat} {f:Addr} {fd:FuncData} {ps:List Str} {sp:Sp} {dvs:List V} {ds:List Value} {E:St→XK} {x:Str} {p pos:Pos} {e:Expr} {es:List Expr} {t:TA}
def zlE (CX:CXT) (X:Cx) (E:St→XK):Prop:=∀ (pins:List (Addr×Obj)) (σ:St) (H:Hp) (s:Shared) (e:Value) (s':Shared),Inv X pins σ H s→CX X.stack H s (E σ) e s'→X.xe e s'
theorem zmk (F:zdD X.prog X.w X.K X.mg X.base CX k f fd ps sp) (hr:zeS k X.A) (hg:Gl X x) (hm:X.mg x=some (.ref f)) (hk:PySem.W.keepIn X.K (.ref f)=true) (hb:zci X.K fd ps ds) (hd:zcc dvs ds) (hx:zlE CX X E)
  (ha:PA X (e::es) t) (hdb:(x == ("__debug__":Str))=false:=by decide) (he:starEach (e::es) X.env=(false,eval e X.env)::starEach es X.env:=by rfl) (hpl:(backTo pos (starEach es X.env)).any (·.1)=false:=by rfl) :
  PE X (.Call (.Name x p) (e::es) [] pos) (zl8 sp dvs E t):=by
 intro pins s σ H Q I h
 refine wpAny_Call_Name_kw (zd0 I hg hm ?_ hdb)
 refine PySem.W.callWith_K (h₀:=X.base) I.ok.mod.kin hk (thn (ha pos pins s σ H _ I h) fun us s1 ⟨vs,H1,I1,r,q⟩=>⟨I1.kIn,?_⟩) he hpl
 have r2:zcc (vs++dvs) (us++ds):=r.append hd
 have hl:(us++ds).length=ps.length:=by rw [← r2.length];exact F.len _ _ _ _ q
 refine wpAny_call (codeAny_mono (F.run X.A X.stack s1 H1 ⟨us,[]⟩ (us++ds) (vs++dvs) Q (E σ) hr I1.env0 (hb s1 us I1.kIn hl) r2 q) fun res s' hq=>?_)
 cases res with
 | error e=>exact hx pins σ H1 s1 e s' I1 hq
 | ok fl =>
  cases fl with
  | ret u=>exact I1.after hq
  | next=>exact False.elim hq
  | brk=>exact False.elim hq
  | cont=>exact False.elim hq
end
theorem Cx.Ok.pinned {X:Cx} (ok:X.Ok) (pn:List (Addr×Obj)) (xe:Value→Shared→Prop):Cx.Ok { X with pn:=pn,xe:=xe } :=
 ⟨ok.mod,ok.kind,ok.glob,ok.blt,ok.above,ok.inj,ok.has,ok.cab,ok.hd,ok.frames,ok.stk,ok.exf,ok.bs,ok.bsz,ok.noex,ok.exfs,ok.funs,ok.frf⟩
theorem Inv.ofTry {X:Cx} {pins pins':List (Addr×Obj)} {xe:Value→Shared→Prop} {σ:St} {H:Hp} {s:Shared} (I:Inv { X with pn:=X.pn++pins,xe:=xe } pins' σ H s) (ok:X.Ok):Inv X pins σ H s :=
 ⟨ok,I.os,I.bare,I.base,I.loc,I.cell,I.free,I.freeC,fun p hp=>I.pin p (List.mem_append_left _ hp),I.hok,I.len⟩
theorem Inv.track {X:Cx} {pins:List (Addr×Obj)} {σ:St} {H:Hp} {s:Shared} {a:Addr} {o:HO} (I:Inv X pins σ H s) (hn:H a=none) (h0:X.s₀.heap.get? a=none) (hL:a≠X.env.locals) (hc:∀ x c,X.env.cells.lookup x=some c→c≠a)
  (hp:∀ p∈X.pn++pins,p.1≠a) (new:zbO X.prog X.w (upd H a o) s.heap a o):Inv X pins σ (upd H a o) s:=by
 refine ⟨I.ok,I.os,I.bare,⟨I.base.keep,I.base.slot,fun b u q n hx=>?_,I.base.there,fun b xs q=>?_,fun b u xs q=>?_,fun b ps q=>?_⟩,I.loc,I.cell,?_,fun x c e=>?_,fun p q=>?_,fun b u e=>?_,I.len⟩
 ·have nb:b≠a:=fun z=>by rw [z,h0] at q;cases q
  rw [zax nb]
  exact I.base.free b u q n hx
 ·have q2:=I.base.tups b xs q
  rw [zax (zaE q2 hn)]
  exact q2
 ·have q2:=I.base.frzs b u xs q
  rw [zax (zaE q2 hn)]
  exact q2
 ·obtain ⟨m,q2⟩:=I.base.tbls b ps q
  exact ⟨m,by rw [zax (zaE q2 hn)];exact q2⟩
 ·rw [zax hL.symm]
  exact I.free
 ·rw [zax (hc x c e)]
  exact I.freeC x c e
 ·obtain ⟨e,n,r⟩:=I.pin p q
  exact ⟨e,by rw [zax (hp p q)];exact n,r⟩
 ·by_cases hb:b=a
  ·subst hb
   rw [zaf] at e
   cases e
   exact new
  ·rw [zax hb] at e
   exact (I.hok b u e).stay (fun c v _ q=>q) (fun c q=>by rw [zax (zaE q hn)];exact q) fun c xs q=>by rw [zax (zaE q hn)];exact q
theorem ziv {X:Cx} {pins:List (Addr×Obj)} {σ:St} {H:Hp} {s:Shared} {M:Model} {A:Around} {E:Value→Shared→Prop} {i:Nat} {n:Str} {pos:Pos} {Q:Unit→Shared→Prop} (I:Inv X pins σ H s) (hN:X.N.Nodup) (hi:X.N[i]?=some n)
  (hk:X.env.scope.names.lookup n=some .local) (h:∀ s',Inv X pins (σ.set i none) H s'→Q () s'):wpAny M A (do bindName X.env n .none;unbindBehindTheSuite X.env n pos) Q E s:=by
 obtain ⟨m,hn,hl⟩:=id I.loc
 have hcls:(X.env.scope.kind == .class || (X.env.scope.kind == .module&&X.env.locals != X.env.globals))=false:=by rw [I.ok.kind];rfl
 have hiσ:i<σ.length:=by rw [I.len];exact (List.getElem?_eq_some_iff.mp hi).1
 obtain ⟨oL,_,_,hoL,_⟩:=id hn
 refine wpAny_nameGoes_keeps hk hn hcls fun h' v hn' hs=>?_
 have below:∀ b o,X.s₀.heap.get? b=some o→b≠X.env.locals:=fun b o e=>Nat.ne_of_lt (Nat.lt_of_lt_of_le (Heap.lt_size e) I.ok.above)
 refine h _ ⟨I.ok,I.os,I.bare,⟨fun b o e n hb hx=>?_,fun b o e n hb hx=>?_,I.base.free,fun b o e hx=>?_,I.base.tups,I.base.frzs,I.base.tbls⟩,⟨_,hn',fun j y v' e1 e2 e3=>?_⟩,fun y c e=>?_,I.free,I.freeC,fun p hp=>?_,fun b ob e=>?_,by simpa using I.len⟩
 ·exact (hs.2 b (below b o e)).trans (I.base.keep b o e n hb hx)
 ·obtain ⟨sl,e1⟩:=I.base.slot b o e n hb hx
  exact ⟨sl,(hs.2 b (below b o e)).trans e1⟩
 ·obtain ⟨o',e1⟩:=I.base.there b o e hx
  exact ⟨o',(hs.2 b (below b o e)).trans e1⟩
 ·have hj:j≠i:=fun z=>by
   rw [z,List.getElem?_set_self hiσ] at e2
   cases e2
  rw [List.getElem?_set_ne (Ne.symm hj)] at e2
  obtain ⟨u',r',q⟩:=hl j y v' e1 e2 e3
  refine ⟨u',r',?_⟩
  rcases q with ⟨k,e⟩ | ⟨k,c,e,z⟩
  ·refine .inl ⟨k,?_⟩
   have:y≠n:=fun e=>hj (zi9 hN e1 (e ▸ hi))
   simp [this,e]
  ·exact .inr ⟨k,c,e,z.sameBut hs (I.cne y c e)⟩
 ·obtain ⟨w',z⟩:=I.cell y c e
  exact ⟨w',z.sameBut hs (I.cne y c e)⟩
 ·obtain ⟨e,n,ne,nf,d⟩:=I.pin p hp
  exact ⟨(hs.2 p.1 ne).trans e,n,ne,nf,d⟩
 ·refine (I.hok b ob e).stay (fun c w' hc q=>(hs.2 c ?_).trans q) (fun _ q=>q) fun _ _ q=>q
  rintro rfl
  rcases hc with rfl | hc
  ·rw [I.free] at e;cases e
  ·rw [I.free] at hc;cases hc
theorem zhQ {M:Model} {A:Around} {E:Value→Shared→Prop} {h:Heap} {g:Array GenState} {d:Drawn} {t:Nat} {os:OsState} {e D:Addr} {oe:Obj} {cls:Value} {Q:Bool→Shared→Prop} (he:h.get? e=some oe) (hcls:oe.cls=cls)
  (O:zrb h D) (L:PySem.W.Looks M h (isSubtype cls (.ref D)) true) (hq:Q true ⟨h,g,d,t,os⟩):wpAny M A (excMatches (.ref e) (.ref D)) Q E ⟨h,g,d,t,os⟩:=by
 obtain ⟨b1,b2,b3,b4,b5,b6,b7,b8,b9,b10,b11,b12,b13,b14,b15,b16,b17,hD,hN,hni,T⟩:=O
 have hcB:(Value.ref D::b1).contains (.type "BaseException")=true:=by rw [List.contains_cons,T.hasType PySem.F.excBase_ValueError.hasBase,Bool.or_true]
 have f:=tc_notTuple
 unfold excMatches
 repeat (first | (with_reducible refine wpAny_loadPart_at he ?_;rw [hcls]) | with_reducible refine wpAny_loadPart_at hD ?_ | (with_reducible refine wpAny_isSubtype_exc hD ?_;rw [hcB]) | (with_reducible refine L.at ?_) | wp_step)
 exact hq
def Cx.inExc (X:Cx) (ea:Addr):Cx:={ X with A:=X.A.mark (some (.ref ea)),calm:=false }
theorem Inv.toExc {X:Cx} {pins:List (Addr×Obj)} {σ:St} {H:Hp} {s:Shared} {ea:Addr} (I:Inv X pins σ H s) (hf:(X.A.mark (some (.ref ea))).frames=some X.stack):Inv (X.inExc ea) pins σ H s :=
 ⟨⟨I.ok.mod,I.ok.kind,I.ok.glob,I.ok.blt,I.ok.above,I.ok.inj,I.ok.has,I.ok.cab,(by intro z;cases z),hf,I.ok.stk,I.ok.exf,I.ok.bs,I.ok.bsz,I.ok.noex,I.ok.exfs,I.ok.funs,I.ok.frf⟩,I.os,I.bare,I.base,I.loc,I.cell,I.free,I.freeC,I.pin,I.hok,I.len⟩
theorem Inv.ofExc {X:Cx} {pins:List (Addr×Obj)} {σ:St} {H:Hp} {s:Shared} {ea:Addr} (I:Inv (X.inExc ea) pins σ H s) (ok:X.Ok):Inv X pins σ H s :=
 ⟨ok,I.os,I.bare,I.base,I.loc,I.cell,I.free,I.freeC,I.pin,I.hok,I.len⟩
structure zdb (K:PySem.W.Frag) (C:Addr):Prop where
 ga:PySem.W.findIn K (.ref C) "__getattribute__"=some (some (.builtin "BaseException.__getattribute__"))
 gn:PySem.W.findIn K (.ref C) "__getattr__"=some none
 cl:PySem.W.findIn K (.ref C) "__class__"=some (some (.builtin "object.__class__"))
 mb:PySem.W.mroIn K C (.type "BaseException")=some true
 mo:PySem.W.mroIn K C (.type "object")=some true
section
open Builtin Builtin.ObjectAttr Builtin.Getset_descriptor PySem.W
variable {K:PySem.W.Frag} {prog:Program} {w:World} {A:Around} {E:Value→Shared→Prop} {h:Heap} {g:Array GenState} {d:Drawn} {t:Nat} {os:OsState} {a C:Addr} {o:Obj}
theorem zmE:splitId "BaseException.__getattribute__"=some ("BaseException","__getattribute__"):=by decide +kernel
theorem zne:builtinKind "BaseException.__getattribute__"=some .slot:=by decide +kernel
theorem znb {R:Result→Shared→Prop} (X:K.In h) (Z:zdb K C) (hx:h.get? a=some o) (hc:o.cls=.ref C) (hq:R (.ok (.ret (.ref C))) ⟨h,g,d,t,os⟩) :
  codeAny (model prog w) A (.call (.builtin "getset_descriptor.__get__") ⟨[.builtin "object.__class__",.ref a,.ref C],[]⟩) R ⟨h,g,d,t,os⟩:=by
 have LT:PySem.W.Looks (model prog w) h (typeOf (.ref a)) (.ref C):=hc ▸ (PySem.W.Looks.ld hx).andThen .now
 have LM:=PySem.W.looks_mroIn (M:=model prog w) X Z.mo
 refine codeAny_call_builtin PySem.W.KF.slot_gs.plain PySem.W.KF.entry_gs (PySem.W.KF.slot_gs.check _ _ _ _ _ _ _ _ PySem.W.KF.type_class (PySem.W.KF.args_gs _ _ _) ?_)
 unfold Builtin.«getset_descriptor.__get__»
 unfold descrGet
 rw [PySem.W.dga_obj]
 refine wpAny_bind (wpAny_pure ?_)
 unfold descrGetter descrCheckInstance
 unfold descrNameAndClass isInstance
 simp only [PySem.W.KF.owner_class]
 repeat lk
 refine ⟨Code.quiet_builtin _ (by decide +kernel),codeAny_builtin PySem.W.KF.entry_class ?_⟩
 unfold Builtin.«object.__class__»
 unfold shownTypeOf
 repeat lk
 exact hq
theorem zkv {tk:Tok} {Q:Fin→Shared→Prop} (X:K.In h) (Z:zdb K C) (hx:h.get? a=some o) (hc:o.cls=.ref C) (hq:Q (.done (.ret (.ref C))) ⟨h,g,d,t,os⟩) :
  wpAny (model prog w) A (Builtin.«object.__getattribute__» ⟨[.ref a,.str "__class__" tk],[]⟩) Q E ⟨h,g,d,t,os⟩:=by
 have LC:=PySem.W.looks_findIn (M:=model prog w) X Z.cl
 have h5:(⟨h,g,d,t,os⟩:Shared).TypeIs (.builtin "object.__class__") "getset_descriptor":=F.typeOf_object_class
 have f5:=F.typeOf_object_class
 have f6:=F.slot_gs_get.lookup
 have f7:=F.slot_gs_set.lookup
 repeat (any_goals (first | assumption | (with_reducible refine wpAny_loadPart_at hx ?_;rw [hc]) | with_reducible refine LC.at ?_ | wp_step))
 refine znb X Z hx hc ?_
 repeat (any_goals (first | assumption | wp_step))
theorem zgy {M:Model} {v:Value} {Q:Unit→Shared→Prop} (X:K.In h) (Z:zdb K C) (hx:h.get? a=some o) (hc:o.cls=.ref C) (hq:Q () ⟨h,g,d,t,os⟩) :
  wpAny M A (checkBuiltinCall "BaseException.__getattribute__" ⟨[.ref a,v],[]⟩) Q E ⟨h,g,d,t,os⟩:=by
 have LM:=PySem.W.looks_mroIn (M:=M) X Z.mb
 have LT:PySem.W.Looks M h (typeOf (.ref a)) (.ref C):=hc ▸ (PySem.W.Looks.ld hx).andThen .now
 have ao:=F.args_bexc_ga (.ref a) v
 simp only [checkBuiltinCall,zne,zmE]
 refine wpAny_bind ?_
 unfold isInstance
 refine wpAny_bind (LT.at (LM.at ?_))
 repeat (any_goals (first | assumption | wp_step))
theorem zn9 {tk:Tok} {Q:Value→Shared→Prop} (X:K.In h) (Z:zdb K C) (FB:ExcAttrBase "ValueError" zf3) (hx:h.get? a=some o) (hc:o.cls=.ref C) (hq:Q (.ref C) ⟨h,g,d,t,os⟩) :
  wpAny (model prog w) A (getAttrBy (.ref a) (.str "__class__" tk) false) Q E ⟨h,g,d,t,os⟩:=by
 have LG:=PySem.W.looks_findIn (M:=model prog w) X Z.ga
 have LN:=PySem.W.looks_findIn (M:=model prog w) X Z.gn
 have f3:=FB.ga.bind (.ref a)
 have n2:(Value.builtin "BaseException.__getattribute__" == Value.builtin "object.__getattribute__")=false:=by decide +kernel
 have n1:(onTheHeap (Value.ref C)&&(Value.builtin "BaseException.__getattribute__" == Value.builtin "object.__getattribute__"))=false:=by rw [n2];rfl
 repeat (any_goals (first | assumption | (with_reducible refine wpAny_loadPart_at hx ?_;rw [hc]) | with_reducible refine LG.at ?_ | with_reducible refine LN.at ?_ | wp_step))
 refine codeAny_call_builtin FB.ga.plain F.entry_bexc_ga (zgy X Z hx hc (zkv X Z hx hc ?_))
 repeat (any_goals (first | assumption | wp_step))
theorem zlI {Q:Option Value→Shared→Prop} (X:K.In h) (Z:zdb K C) (FB:ExcAttrBase "ValueError" zf3) (hx:h.get? a=some o) (hc:o.cls=.ref C) (hq:Q (some (.ref C)) ⟨h,g,d,t+1,os⟩) :
  wpAny (model prog w) A (getAttr? (.ref a) "__class__") Q E ⟨h,g,d,t,os⟩:=by
 unfold getAttr? getAttrBy?
 repeat (any_goals (first | assumption | with_reducible apply zn9 X Z FB hx hc | wp_step))
end
end L2
namespace L2
open PySem PySem.Spec PyProof.Rows
theorem znQ {env:Env} {x:Str} {c:Addr} (h:env.cells.lookup x=some c):cellOf env x=pure c:=by
 unfold cellOf
 rw [h]
theorem zgl {env:Env}:∀ (l:List (Str×NameKind)) (cs:List (Str×Addr)),(∀ y∈l,y.2=.free→∃ c,env.cells.lookup y.1=some c)→(∀ x c,cs.lookup x=some c→env.cells.lookup x=some c) →
  ∃ cl,(forIn l cs fun (y:Str×NameKind) r=>(if (y.2 == .free)=true then do let c ← cellOf env y.1;pure (ForInStep.yield ((y.1,c)::r)) else pure (ForInStep.yield r):Sem (ForInStep (List (Str×Addr)))))=pure cl ∧
   (∀ x c,cl.lookup x=some c→env.cells.lookup x=some c)∧(∀ y∈l,y.2=.free→∃ c,cl.lookup y.1=some c)∧∀ x,(∃ c,cs.lookup x=some c)→∃ c,cl.lookup x=some c
 | [],cs,_,hc=>⟨cs,by simp,hc,by simp,fun _ h=>h⟩
 | y::l,cs,hf,hc=>by
  have hf':∀ z∈l,z.2=.free→∃ c,env.cells.lookup z.1=some c:=fun z hz=>hf z (List.mem_cons_of_mem _ hz)
  by_cases hy:y.2=.free
  ·obtain ⟨c,e⟩:=hf y List.mem_cons_self hy
   have hc':∀ x d,List.lookup x ((y.1,c)::cs)=some d→env.cells.lookup x=some d:=fun x d q=>by
    rw [List.lookup_cons] at q
    split at q
    ·rename_i b
     cases q
     rw [beq_iff_eq.mp b,e]
    ·exact hc x d q
   obtain ⟨cl,e1,e2,e3,e4⟩:=zgl l ((y.1,c)::cs) hf' hc'
   refine ⟨cl,?_,e2,fun z hz q=>?_,fun x ⟨d,q⟩=>e4 x ?_⟩
   ·rw [List.forIn_cons,if_pos (by rw [hy];rfl),znQ e]
    simpa using e1
   ·rcases List.mem_cons.mp hz with r | r
    ·exact e4 z.1 ⟨c,by rw [r,List.lookup_cons];simp⟩
    ·exact e3 z r q
   ·rw [List.lookup_cons]
    split
    ·exact ⟨_,rfl⟩
    ·exact ⟨d,q⟩
  ·obtain ⟨cl,e1,e2,e3,e4⟩:=zgl l cs hf' hc
   refine ⟨cl,?_,e2,fun z hz q=>?_,e4⟩
   ·rw [List.forIn_cons,if_neg (by simpa using hy)]
    simpa using e1
   ·rcases List.mem_cons.mp hz with r | r
    ·rw [r] at q;exact absurd q hy
    ·exact e3 z r q
theorem zm9 {scope:Scope} {env:Env} (h:∀ y∈scope.names,y.2=.free→∃ c,env.cells.lookup y.1=some c) :
  ∃ cl,closureFor scope env=pure cl∧(∀ x c,cl.lookup x=some c→env.cells.lookup x=some c)∧∀ y∈scope.names,y.2=.free→∃ c,cl.lookup y.1=some c:=by
 obtain ⟨cl,e1,e2,e3,_⟩:=zgl scope.names [] h (by simp)
 refine ⟨cl,?_,e2,e3⟩
 unfold closureFor
 simp only [bind_pure]
 exact e1
theorem zjB {P:Program} {w:World} {A:Around} {R:Result→Shared→Prop} {s:Shared} {elt target iter:Expr} {ifs:List Expr} {scope:Scope} {pos:Pos} {it acc:Value} {env:Env} {Z:Value→Shared→Prop} (J:Nat→Shared→Prop)
  (hZ:Z=notedBy (model P w) A env fun e s'=>R (.error e) s')
  (turn:∀ n s,J n s→wpAny (model P w) A (pyNext it) (fun r s1=>match r with
   | none=>R (.ok .next) s1
   | some v=>wpAny (model P w) A (letOwnedTupleGo target it v) (fun _ s2=>wpAny (model P w) A (assign target env v) (fun _ s3 =>
     wpAny (model P w) A (forIn ifs true fun c r=>if r=true then do let ok ← isTrue c env (eval c env);pure (ForInStep.yield ok) else pure (ForInStep.yield r)) (fun ok s4 =>
      if ok=true then wpAny (model P w) A (eval elt env) (fun x s5=>wpAny (model P w) A (call (.builtin "list.append") [acc,x]) (fun _ s6=>∃ m,m<n∧J m s6) Z s5) Z s4
      else ∃ m,m<n∧J m s4) Z s3) Z s2) Z s1) Z s)
  (n:Nat) (h:J n s):codeAny (model P w) A (.compLoop (.ListComp elt [⟨target,iter,ifs,0⟩] scope pos) 0 it acc env) R s:=by
 subst hZ
 refine codeAny_loop rfl J (fun n s hJ=>?_) n h
 show wpAny _ _ (Sem.onRaise (compTurn (.ListComp elt [⟨target,iter,ifs,0⟩] scope pos) 0 it acc env) fun x=>do noteFrame x env;theTreesLotGoes x) _ _ s
 refine wpAny_noted ?_
 rw [compTurn_list]
 refine wpAny_bind (wpAny_standAt (wpAny_bind (thn (turn n s hJ) fun r s1 h1=>?_)))
 cases r with
 | none=>exact wpAny_pure h1
 | some v =>
  refine wpAny_bind (thn h1 fun _ s2 h2=>wpAny_bind (thn h2 fun _ s3 h3=>wpAny_bind (thn h3 fun ok s4 h4=>?_)))
  cases ok with
  | false=>exact wpAny_pure ⟨rfl,h4⟩
  | true=>exact wpAny_bind (wpAny_bind (thn h4 fun x s5 h5=>wpAny_bind (thn h5 fun _ s6 h6=>wpAny_pure (wpAny_pure ⟨rfl,h6⟩))))
def PTs (X:Cx) (ifs:List Expr) (t:TT):Prop:=∀ (pins:List (Addr×Obj)) (s:Shared) (σ:St) (H:Hp) (Q:Bool→Hp→Prop),Inv X pins σ H s→t σ H Q →
 wpAny (model X.prog X.w) X.A (forIn ifs true fun c r=>if r=true then do let ok ← isTrue c X.env (eval c X.env);pure (ForInStep.yield ok) else pure (ForInStep.yield r)) (TP X pins σ Q) X.xe s
def zc9:TT:=fun _ H Q=>Q true H
theorem zi5 {X:Cx}:PTs X [] zc9:=fun _ _ _ H _ I h=>wpAny_tests_nil ⟨H,I,h⟩
theorem ztq {X:Cx} {c:Expr} {t:TT} (h:PT X c t):PTs X [c] t:=fun pins s σ H Q I q=>wpAny_tests_one (h pins s σ H Q I q)
def ztu (cap:List (Option Nat)) (σ:St):St:=cap.map fun o=>o.bind fun j=>(σ[j]?).join
def zgn (wi:TI) (g:TG) (tt:TT) (te:TE) (cap:List (Option Nat)):TE:=fun σ H Q=>wi σ H fun J H1=>∀ D,H1 D=none→∃ W:Nat→Nat→St→Hp→Prop,(∃ m,W 0 m (ztu cap σ) (upd H1 D (.lst [])))∧∀ i m σc Hc,W i m σc Hc →
 (J.stop i Hc∧Q (.ref D) Hc)∨(J.go i Hc∧∃ N:St→Hp→Prop,(∀ σ' H',N σ' H'→∃ m',m'<m∧W (i+1) m' σ' H')∧∀ x H',J.yld i Hc x H'→g x σc H' fun σ2 H2=>tt σ2 H2 fun b H3=>if b=true then te σ2 H3 fun y H4=>zb9 (.ref D) [y] H4 fun _ H5=>N σ2 H5 else N σ2 H3)
def Cx.blk (X:Cx) (Nc:List Str) (scope:Scope) (cl:List (Str×Addr)) (s:Shared) (H:Hp) (fp:List Addr):Cx:={ X with
 N:=Nc,s₀:=s,H₀:=H,env:=compEnvC scope cl s.heap.objs.size X.env,outer:=X.stack,stack:=X.stack,ex:=fp,fn:=fun _=>false,pn:=[],xe:=fun _ _=>False }
structure zmw (sc:Scope) (N Nc:List Str) (cap:List (Option Nat)) (scope:Scope):Prop where
 kind:scope.kind=.function
 nocell:∀ y∈scope.names,y.2≠.cell
 free:∀ y∈scope.names,y.2=.free→sc.names.lookup y.1=some .cell∨sc.names.lookup y.1=some .free
 once:∀ y∈scope.names,scope.names.lookup y.1=some y.2
 nd:Nc.Nodup
 len:cap.length=Nc.length
 cap:∀ (i:Nat) (y:Str) (j:Nat),Nc[i]?=some y→cap[i]?=some (some j)→N[j]?=some y∧scope.names.lookup y=some .free
def zrh (sc:Scope) (N Nc:List Str) (cap:List (Option Nat)) (scope:Scope):Bool :=
 scope.kind == .function&&scope.names.all (fun y=>y.2 != .cell&&scope.names.lookup y.1 == some y.2&&(y.2 != .free || sc.names.lookup y.1 == some .cell || sc.names.lookup y.1 == some .free))&&decide Nc.Nodup&&cap.length == Nc.length
  && (Nc.zip cap).all fun p=>p.2.all fun j=>N[j]? == some p.1&&scope.names.lookup p.1 == some .free
theorem zmw.of {sc:Scope} {N Nc:List Str} {cap:List (Option Nat)} {scope:Scope} (h:zrh sc N Nc cap scope=true):zmw sc N Nc cap scope:=by
 unfold zrh at h
 simp only [Bool.and_eq_true,beq_iff_eq,List.all_eq_true,bne_iff_ne,ne_eq,Bool.or_eq_true,decide_eq_true_eq] at h
 obtain ⟨⟨⟨⟨h1,h2⟩,h3⟩,h4⟩,h5⟩:=h
 refine ⟨h1,fun y hy=>(h2 y hy).1.1,fun y hy hf=>?_,fun y hy=>(h2 y hy).1.2,h3,h4,fun i y j e1 e2=>?_⟩
 ·rcases (h2 y hy).2 with (q | q) | q
  ·exact absurd hf q
  ·exact .inl q
  ·exact .inr q
 ·have m:(y,some j)∈Nc.zip cap:=by
   refine List.mem_of_getElem? (i:=i) ?_
   rw [List.getElem?_zip_eq_some]
   exact ⟨e1,e2⟩
  have z:=h5 _ m
  simpa using z
theorem zdE {env:Env} {x:Str}:∀ {names:List (Str×NameKind)} {k:NameKind},((names.map fun (n,k)=>if (k == NameKind.free&&env.scope.kind == .function&&env.kindOf n == some .cell) then (n,NameKind.cell) else (n,k)).lookup x=some k)→k≠.cell∧names.lookup x=some k∨(k=.cell∧(names.lookup x=some .cell∨names.lookup x=some .free))
 | [],_,h=>by simp at h
 | (n,q)::r,k,h=>by
  have ih:=@zdE env x r k
  rw [List.map_cons] at h
  dsimp only at h
  by_cases hx:(x == n)=true
  ·by_cases hc:(q == NameKind.free&&env.scope.kind == .function&&env.kindOf n == some .cell)=true
   ·rw [if_pos hc,List.lookup_cons,hx] at h
    cases h
    rw [Bool.and_eq_true,Bool.and_eq_true] at hc
    refine .inr ⟨rfl,.inr ?_⟩
    rw [List.lookup_cons,hx]
    exact congrArg some (beq_iff_eq.mp hc.1.1)
   ·rw [if_neg hc,List.lookup_cons,hx] at h
    cases h
    rw [List.lookup_cons,hx]
    by_cases z:q=.cell
    ·exact .inr ⟨z,.inl (congrArg some z)⟩
    ·exact .inl ⟨z,rfl⟩
  ·have hx':(x == n)=false:=by simpa using hx
   rw [List.lookup_cons,hx']
   refine ih ?_
   by_cases hc:(q == NameKind.free&&env.scope.kind == .function&&env.kindOf n == some .cell)=true
   ·rw [if_pos hc,List.lookup_cons,hx'] at h
    exact h
   ·rw [if_neg hc,List.lookup_cons,hx'] at h
    exact h
section
variable {X:Cx} {pins:List (Addr×Obj)} {σ:St} {H:Hp} {s:Shared}
theorem zry {Nc:List Str} {cap:List (Option Nat)} {scope:Scope} {cl:List (Str×Addr)} {fp:List Addr} {h1:Heap} {tk:Nat} {m1:Str→Option Value} (I:Inv X pins σ H s) (B:zmw X.env.scope X.N Nc cap scope)
  (hsub:∀ x c,cl.lookup x=some c→X.env.cells.lookup x=some c) (hfr:∀ y∈scope.names,y.2=.free→∃ c,cl.lookup y.1=some c) (hf:∀ b∈fp,zla X pins H b) (hin:∀ b∈fp,b<s.heap.objs.size)
  (hk:∀ b o,s.heap.get? b=some o→h1.get? b=some o) (hn:h1.Ns s.heap.objs.size m1):Inv (X.blk Nc scope cl s H fp) [] (ztu cap σ) H { s with heap:=h1,toks:=tk }:=by
 have ok:=I.ok
 have bsz:X.base.objs.size≤s.heap.objs.size:=Nat.le_trans ok.bsz I.sz
 refine ⟨⟨ok.mod,B.kind,ok.glob,ok.blt,Nat.le_refl _,fun x y c h1 h2=>ok.inj x y c (hsub x c h1) (hsub y c h2),fun x hx=>?_,(by intro x c z;cases z),ok.hd,ok.frames,.inl rfl,fun b hb=>⟨Nat.ne_of_lt (hin b hb),fun x c e=>(hf b hb).2.2.2.2.1 x c (hsub x c e)⟩,
  I.bs,bsz,fun b o e hb=>?_,fun b hb z=>?_,I.stack,I.stkFree⟩,rfl,I.bare,Un.kept hk,⟨m1,hn,fun i y v e1 e2 e3=>?_⟩,fun x c e=>?_,I.hok.fresh (Nat.le_refl _),fun x c e=>I.freeC x c (hsub x c e),(by intro p hp;cases hp),I.hok.kept hk,?_⟩
 ·have look:∀ k,(relabel scope X.env).names.lookup x=some k→k=.cell∨k=.free→∃ c,cl.lookup x=some c:=fun k q hk=>by
   rcases zdE q with ⟨n1,n2⟩ | ⟨_,n2 | n2⟩
   ·rcases hk with r | r
    ·exact absurd r n1
    ·exact hfr (x,k) (PySem.mem_of_lookup n2) r
   ·exact absurd rfl (B.nocell _ (PySem.mem_of_lookup n2))
   ·exact hfr (x,.free) (PySem.mem_of_lookup n2) rfl
  rcases hx with q | q
  ·exact look _ q (.inl rfl)
  ·exact look _ q (.inr rfl)
 ·rcases (hf b hb).2.2.2.1 with q | q
  ·exact ok.noex b o e q
  ·exact absurd (Nat.lt_of_lt_of_le (Heap.lt_size e) (Nat.le_trans ok.bsz q)) (Nat.lt_irrefl _)
 ·rcases List.mem_cons.mp (I.stkSub b z) with q | q
  ·exact (hf b hb).2.1 q
  ·exact (hf b hb).2.2.1 q
 ·have e2':(cap[i]?).map (fun o=>o.bind fun j=>(σ[j]?).join)=some (some v):=by rw [← List.getElem?_map];exact e2
  obtain ⟨o,ho,eo⟩:=Option.map_eq_some_iff.mp e2'
  obtain ⟨j,rfl,ej⟩:=Option.bind_eq_some_iff.mp eo
  have ej':σ[j]?=some (some v):=by
   cases q:σ[j]? with
   | none=>rw [q] at ej;cases ej
   | some z=>rw [q] at ej;cases ej;rfl
  obtain ⟨c1,c2⟩:=B.cap i y j e1 ho
  have vis:=B.free (y,.free) (PySem.mem_of_lookup c2) rfl
  obtain ⟨m,_,hl⟩:=I.loc
  obtain ⟨u,r,lk⟩:=hl j y v c1 ej' (.inr vis)
  obtain ⟨c',ec⟩:=hfr (y,.free) (PySem.mem_of_lookup c2) rfl
  have ec2:=hsub _ _ ec
  rcases lk with ⟨kl,_⟩ | ⟨_,c,e,z⟩
  ·have kl':X.env.scope.names.lookup y=some .local:=kl
   rcases vis with q | q
   ·have q':X.env.scope.names.lookup y=some .cell:=q
    rw [kl'] at q';cases q'
   ·have q':X.env.scope.names.lookup y=some .free:=q
    rw [kl'] at q';cases q'
  ·have ecc:X.env.cells.lookup y=some c':=ec2
   rw [e] at ecc
   cases ecc
   refine ⟨u,r,.inr ⟨?_,_,ec,?_⟩⟩
   ·rcases e3 with q | q | q
    ·rcases zdE q with ⟨_,n2⟩ | ⟨n1,_⟩
     ·rw [c2] at n2;cases n2
     ·cases n1
    ·exact .inl q
    ·exact .inr q
   ·obtain ⟨o,ho,hd⟩:=z
    exact ⟨o,hk _ _ ho,hd⟩
 ·obtain ⟨v,o,ho,hd⟩:=I.cell x c (hsub x c e)
  exact ⟨v,o,hk _ _ ho,hd⟩
 ·show (ztu cap σ).length=Nc.length
  rw [ztu,List.length_map,B.len]
theorem zog {Nc:List Str} {scope:Scope} {cl:List (Str×Addr)} {fp:List Addr} {σc:St} {Hc:Hp} {s':Shared} {h':Heap} (I:Inv X pins σ H s) (hf:∀ b∈fp,zla X pins H b) (J:Inv (X.blk Nc scope cl s H fp) [] σc Hc s')
  (hs:Heap.SameBut s.heap.objs.size s'.heap h'):Inv X pins σ Hc { s' with heap:=h' }:=by
 have ne:∀ b o,s.heap.get? b=some o→b≠s.heap.objs.size:=fun b o e=>Nat.ne_of_lt (Heap.lt_size e)
 have u:=J.base
 refine I.call' (ch:=fp) J.os ⟨fun b o e n hb hx=>(hs.2 b (ne b o e)).trans (u.keep b o e n hb hx),fun b o e n hb hx=>?_,u.free,fun b o e hx=>?_,u.tups,u.frzs,u.tbls⟩ (fun b ob e=>?_) J.bare fun b hb=>⟨(hf b hb).2.2.2.1,(hf b hb).2.1,(hf b hb).2.2.2.2.1,(hf b hb).2.2.2.2.2⟩
 ·obtain ⟨sl,q⟩:=u.slot b o e n hb hx
  exact ⟨sl,(hs.2 b (ne b o e)).trans q⟩
 ·obtain ⟨o',q⟩:=u.there b o e hx
  exact ⟨o',(hs.2 b (ne b o e)).trans q⟩
 ·have hC:Hc s.heap.objs.size=none:=J.free
  refine (J.hok b ob e).stay (fun c w' hc q=>(hs.2 c ?_).trans q) (fun _ q=>q) fun _ _ q=>q
  rintro rfl
  rcases hc with z | hc
  ·rw [← z,hC] at e;cases e
  ·rw [hC] at hc;cases hc
end
theorem Inv.turns {X:Cx} {pins:List (Addr×Obj)} {σ:St} {H:Hp} {s:Shared} {h':Heap} {t':Nat} {ch:List Addr} (I:Inv X pins σ H s) (k:∀ b o,b∉ch→s.heap.get? b=some o→h'.get? b=some o) (hf:∀ b∈ch,zla X pins H b):Inv X pins σ H { s with heap:=h',toks:=t' }:=by
 refine I.call (g':=s.gens) (d':=s.drawn) (ch:=ch) ⟨fun b o e _ _ hx=>k b o hx e,fun b o e _ _ hx=>⟨o.slots,k b o hx e⟩,fun _ _ _ n _=>n,fun b o e hx=>⟨o,k b o hx e⟩,fun _ _ q=>q,fun _ _ _ q=>q,fun _ ps q=>⟨#[],by rw [q];simp⟩⟩ (fun b u e=>?_) I.bare
  fun b hb=>⟨(hf b hb).2.2.2.1,(hf b hb).2.1,(hf b hb).2.2.2.2.1,(hf b hb).2.2.2.2.2⟩
 refine (I.hok b u e).stay (fun c v hc q=>k c v (fun z=>?_) q) (fun _ q=>q) fun _ _ q=>q
 have n:=(hf c z).1
 rcases hc with r | r
 ·rw [r,e] at n;cases n
 ·rw [r] at n;cases n
theorem zjD {X:Cx} {pins:List (Addr×Obj)} {s:Shared} {σ:St} {H:Hp} {Q:VK} {sc:Scope} {N Nc:List Str} {cap:List (Option Nat)} {elt tg iter:Expr} {ifs:List Expr} {scope:Scope} {pos pos':Pos} {wi:TI} {g:TG} {tt:TT} {te:TE} {use:Option (Value→Sem Unit)} {QQ:Value→Shared→Prop}
  (hc:X.calm=true) (hsc:X.env.scope=sc) (hN:X.N=N) (B:zmw sc N Nc cap scope) (hi:PI X tg iter wi)
  (hg:∀ cl s H fp,PG (X.blk Nc scope cl s H fp) tg g) (ht:∀ cl s H fp,PTs (X.blk Nc scope cl s H fp) ifs tt) (he:∀ cl s H fp,PE (X.blk Nc scope cl s H fp) elt te)
  (hs:∀ x,foldedSetIterable iter X.env x=pure x) (I:Inv X pins σ H s) (h:zgn wi g tt te cap σ H Q)
  (fin:∀ (s3:Shared) (H3:Hp) (cl:List (Str×Addr)) (fp:List Addr) (D:Addr) (σc:St) (Hc:Hp) (s6:Shared),Inv X pins σ H3 s3→(∀ b∈fp,zla X pins H3 b)→Inv (X.blk Nc scope cl s3 H3 fp) [] σc Hc s6→Q (.ref D) Hc→compPost (model X.prog X.w) X.A X.xe use QQ (.ref D) s3.heap.objs.size (.ok .next) s6) :
  wpAny (model X.prog X.w) X.A (comprehension (.ListComp elt [⟨tg,iter,ifs,0⟩] scope pos) scope X.env pos' (newList []) false (eval iter X.env) use) QQ X.xe s:=by
 subst hsc hN
 obtain ⟨cl,hclos,hsub,hfr⟩:=zm9 (scope:=scope) (env:=X.env) fun y hy hf=>I.ok.has y.1 (B.free y hy hf)
 refine wpAny_comprehension_free (use:=use) rfl hs hclos B.kind (fun y hy hl=>by rw [B.once y hy,hl]) (thn (hi pins s σ H _ I h) fun v s1 h1=>thn h1 fun itv s2 h2=>?_)
 obtain ⟨it,fp,tn,J,H2,rfl,I2,T,st2,f2,hw⟩:=h2
 refine wpAny_newObj_type ?_
 have hfree:H2 s2.heap.objs.size=none:=I2.hok.fresh (Nat.le_refl _)
 have I3:=I2.laid (t':=s2.toks) (o:=.lst []) (fun b u e=>Heap.get?_push_of_some { cls:=.type "list",dict:=none,data:=.seq ([]:List Value).toArray } e) (Nat.le_refl _) ⟨by decide,[],0,.nil,Heap.get?_push_size _ rfl⟩
 obtain ⟨W,⟨m0,w0⟩,turn⟩:=hw _ hfree
 have keep23:∀ b o,s2.heap.get? b=some o→(s2.heap.push { cls:=.type "list",dict:=none,data:=.seq ([]:List Value).toArray }).get? b=some o:=fun b o e=>Heap.get?_push_of_some _ e
 have hin:∀ b∈fp,b<s2.heap.objs.size:=fun b hb=>let ⟨o,e,_⟩:=T.obj 0 _ st2 b hb;Heap.lt_size e
 have f3:∀ b∈fp,zla X pins (upd H2 s2.heap.objs.size (.lst [])) b:=fun b hb=>⟨by rw [zax (Nat.ne_of_lt (hin b hb))];exact (f2 b hb).1,(f2 b hb).2⟩
 have st3:=T.keep 0 _ _ st2 fun b _ o e=>keep23 b o e
 have hin3:∀ b∈fp,b<(s2.heap.push { cls:=.type "list",dict:=none,data:=.seq ([]:List Value).toArray }).objs.size:=fun b hb=>let ⟨o,e,_⟩:=T.obj 0 _ st3 b hb;Heap.lt_size e
 clear keep23 hin
 generalize s2.heap.push { cls:=.type "list",dict:=none,data:=.seq ([]:List Value).toArray }=h3 at I3 st3 hin3 ⊢
 generalize upd H2 s2.heap.objs.size (.lst [])=H3 at I3 f3 w0
 generalize s2.heap.objs.size=D at hfree w0 turn ⊢
 refine wpAny_newFunctionEnv B.nocell (by intro y hy;cases hy) (fun h1 hns hsb=>?_) B.kind
 have keep:∀ b o,h3.get? b=some o→h1.get? b=some o:=fun b o e=>(hsb.2 b (Nat.ne_of_lt (Heap.lt_size e))).trans (Heap.get?_push_of_some _ e)
 have I4:=zry (tk:=s2.toks+([]:List (Str×Value)).length) I3 B hsub hfr f3 hin3 keep hns
 have st4:=T.keep 0 _ _ st3 fun b _ o e=>keep b o e
 have stat:∀ {H':Hp},(∀ b∈fp,H' b=none)→∀ b∈fp,zla (X.blk Nc scope cl { s2 with heap:=h3,toks:=s2.toks } H3 fp) [] H' b:=fun hn b hb =>
  ⟨hn b hb,Nat.ne_of_lt (hin3 b hb),fun z=>by
   rcases List.mem_cons.mp (I3.stkSub b z) with q | q
   ·exact (f3 b hb).2.1 q
   ·exact (f3 b hb).2.2.1 q,.inl hb,fun x c e=>(f3 b hb).2.2.2.2.1 x c (hsub x c e),by intro p hp;cases hp⟩
 have hcb:(X.blk Nc scope cl { s2 with heap:=h3,toks:=s2.toks } H3 fp).calm=true:=hc
 have loop:codeAny (model X.prog X.w) X.A (.compLoop (.ListComp elt [⟨tg,iter,ifs,0⟩] scope pos) 0 (.ref it) (.ref D) (compEnvC scope cl h3.objs.size X.env)) (compPost (model X.prog X.w) X.A X.xe use QQ (.ref D) h3.objs.size) { s2 with heap:=h1,toks:=s2.toks+([]:List (Str×Value)).length }:=by
  refine zjB (fun n s'=>∃ i σ' H',Inv (X.blk Nc scope cl { s2 with heap:=h3,toks:=s2.toks } H3 fp) [] σ' H' s'∧tn i s'.heap∧(∀ b∈fp,H' b=none)∧W i n σ' H') rfl ?_ m0 ⟨0,_,H3,I4,st4,fun b hb=>(f3 b hb).1,w0⟩
  rintro n s5 ⟨i,σ5,H5,I5,st5,fr5,w5⟩
  rcases turn i n σ5 H5 w5 with ⟨stop,qn⟩ | ⟨go,N',hN',step⟩
  ·refine thn (T.done (X.blk Nc scope cl { s2 with heap:=h3,toks:=s2.toks } H3 fp) rfl rfl rfl hcb i [] s5 σ5 H5 _ I5 (stat fr5) st5 stop) fun r s6 hQ'=>?_
   obtain ⟨hr,I6⟩:=hQ'
   subst hr
   exact fin { s2 with heap:=h3,toks:=s2.toks } H3 cl fp D σ5 H5 s6 I3 f3 I6 qn
  ·refine thn (T.item (X.blk Nc scope cl { s2 with heap:=h3,toks:=s2.toks } H3 fp) rfl rfl rfl hcb i [] s5 σ5 H5 _ I5 (stat fr5) st5 go) fun r s6 hQ'=>?_
   obtain ⟨u,hr,h6⟩:=hQ'
   subst hr
   refine thn h6 fun _ s7 hQ'=>?_
   obtain ⟨x,H7,I7,r7,y7,st7,fr7⟩:=hQ'
   have I7':=I7.pinned (stat fr7) (T.obj _ _ st7)
   refine wpAny_mono (hg cl _ H3 fp _ s7 σ5 H7 x u _ I7' r7 (step x H7 y7)) (fun _ s8 hQ'=>?_) fun _ _ z=>z.elim
   obtain ⟨σ8,H8,I8,q8⟩:=hQ'
   have again:∀ {H9:Hp} {s9:Shared} {m:Nat},Inv (X.blk Nc scope cl { s2 with heap:=h3,toks:=s2.toks } H3 fp) ([]++zkx fp s7.heap) σ8 H9 s9→m<n→W (i+1) m σ8 H9→∃ m,m<n∧∃ i σ' H',Inv (X.blk Nc scope cl { s2 with heap:=h3,toks:=s2.toks } H3 fp) [] σ' H' s9∧tn i s9.heap∧(∀ b∈fp,H' b=none)∧W i m σ' H':=fun {H9 s9 m} I9 hm w9=>by
    refine ⟨m,hm,i+1,σ8,H9,I9.unpinned,T.keep _ _ _ st7 fun b hb o e=>(I9.pin (b,o) (List.mem_append_right _ (List.mem_append_right _ (zeP hb e)))).1,fun b hb=>?_,w9⟩
    obtain ⟨o,e,d⟩:=T.obj _ _ st7 b hb
    exact (I9.pin (b,o) (List.mem_append_right _ (List.mem_append_right _ (zeP hb e)))).2.1
   refine wpAny_mono (ht cl _ H3 fp _ s8 σ8 H8 _ I8 q8) (fun b s9 hQ'=>?_) fun _ _ z=>z.elim
   obtain ⟨H9,I9,q9⟩:=hQ'
   cases b with
   | false =>
    rw [if_neg (by decide)] at q9
    obtain ⟨m',hm,w9⟩:=hN' _ _ q9
    exact again I9 hm w9
   | true =>
    rw [if_pos rfl] at q9
    refine wpAny_mono (he cl _ H3 fp _ s9 σ8 H9 _ I9 q9) (fun u s10 hQ'=>?_) fun _ _ z=>z.elim
    obtain ⟨y,H10,I10,r10,q10⟩:=hQ'
    refine wpAny_mono (zet (X:=X.blk Nc scope cl { s2 with heap:=h3,toks:=s2.toks } H3 fp) _ s10 σ8 H10 (.ref D) [y] (.ref D) [u] _ I10 rfl (.cons r10 .nil) q10) (fun _ s11 hQ'=>?_) fun _ _ z=>z.elim
    obtain ⟨_,H11,I11,_,q11⟩:=hQ'
    obtain ⟨m',hm,w11⟩:=hN' _ _ q11
    exact again I11 hm w11
 exact codeAny_compStart_list loop (T.self _ 0 _ _ _ st4 loop)
theorem zlK {X:Cx} {sc:Scope} {N Nc:List Str} {cap:List (Option Nat)} {elt tg iter:Expr} {ifs:List Expr} {scope:Scope} {pos:Pos} {wi:TI} {g:TG} {tt:TT} {te:TE} (hc:X.calm=true) (hsc:X.env.scope=sc) (hN:X.N=N) (B:zmw sc N Nc cap scope) (hi:PI X tg iter wi)
  (hg:∀ cl s H fp,PG (X.blk Nc scope cl s H fp) tg g) (ht:∀ cl s H fp,PTs (X.blk Nc scope cl s H fp) ifs tt) (he:∀ cl s H fp,PE (X.blk Nc scope cl s H fp) elt te)
  (hs:∀ x,foldedSetIterable iter X.env x=pure x:=by intro _;rfl):PE X (.ListComp elt [⟨tg,iter,ifs,0⟩] scope pos) (zgn wi g tt te cap):=by
 intro pins s σ H Q I h
 rw [eval_ListComp]
 refine zjD hc hsc hN B hi hg ht he hs I h fun s3 H3 cl fp D σc Hc s6 I3 f3 I6 q=>?_
 obtain ⟨m,hn,_⟩:=id I6.loc
 exact ⟨m,hn,fun h' hs'=>⟨.ref D,Hc,zog I3 f3 I6 hs',rfl,q⟩⟩
theorem zig {X:Cx} {i:Nat} {y:Str} {py spos:Pos} {sc:Scope} {N Nc:List Str} {cap:List (Option Nat)} {elt tg iter:Expr} {ifs:List Expr} {scope:Scope} {pos:Pos} {wi:TI} {g:TG} {tt:TT} {te:TE} (hnd:X.N.Nodup) (hix:X.N[i]?=some y) (hl:X.env.scope.names.lookup y=some .local)
  (hc:X.calm=true) (hsc:X.env.scope=sc) (hN:X.N=N) (B:zmw sc N Nc cap scope) (hi:PI X tg iter wi)
  (hg:∀ cl s H fp,PG (X.blk Nc scope cl s H fp) tg g) (ht:∀ cl s H fp,PTs (X.blk Nc scope cl s H fp) ifs tt) (he:∀ cl s H fp,PE (X.blk Nc scope cl s H fp) elt te)
  (hsw:swapsWith (.ListComp elt [⟨tg,iter,ifs,0⟩] scope pos) (some (.Name y py)) spos.line X.env=pure true:=by rfl)
  (hs:∀ x,foldedSetIterable iter X.env x=pure x:=by intro _;rfl):PS X (.Assign [.Name y py] (.ListComp elt [⟨tg,iter,ifs,0⟩] scope pos) spos) (zbr (zgn wi g tt te cap) (zai i)):=by
 intro pins s σ H D0 I h
 rw [exec_Assign_Name_used _ _ _ _ hsw]
 refine wpAny_bind (wpAny_standAt (wpAny_bind (wpAny_bind (thn (zjD (use:=some (assign (.Name y py) X.env)) (QQ:=fun _ s'=>SP X pins D0 .next s') hc hsc hN B hi hg ht he hs I h fun s3 H3 cl fp D σc Hc s6 I3 f3 I6 q=>?_) fun _ s' hq=>wpAny_pure (wpAny_pure hq)))))
 have I6x:Inv X pins σ Hc s6:=zog I3 f3 I6 (Heap.SameBut.refl ..)
 obtain ⟨m,hn,_⟩:=id I6.loc
 have hC:Hc s3.heap.objs.size=none:=I6.free
 have fpC:=I3.fpOk (b:=s3.heap.objs.size) (Nat.le_refl _) hC
 refine wpAny_assign_Name (zkt I6x hnd hix (.inl hl) (v:=.ref D) rfl (fun s7 I7 ch=>?_) (.inr hl))
 obtain ⟨a,same,ha⟩:=ch
 have nC:s3.heap.objs.size≠a:=by
  rcases ha with r | r
  ·rw [r];exact fpC.2.1
  ·exact (fpC.2.2.2.2.1 _ _ r).symm
 refine ⟨m,hn.sameBut same nC,fun h' hs'=>⟨_,_,I7.turns (t':=s7.toks) (ch:=[s3.heap.objs.size]) (fun b o hb e=>(hs'.2 b (by simpa using hb)).trans e) fun b hb=>?_,q⟩⟩
 have e:b=s3.heap.objs.size:=by simpa using hb
 rw [e]
 exact fpC
theorem znR {K:PySem.W.Frag} {a:Addr} {xs:List V} {g:TG} {tt:TT} {te:TE} {σ:St} {H:Hp} {D:Addr} {Q:VK} (Pv:Nat→List V→St→Hp→Prop) (h0:Pv 0 [] σ (upd H D (.lst []))) (hl:∀ i ys σ H,i≤xs.length→Pv i ys σ H→SqL K H a xs)
  (hs:∀ i x ys σ H,xs[i]?=some x→H D=some (.lst ys)→Pv i ys σ H→g x σ H fun σ2 H2=>tt σ2 H2 fun b H3=>if b=true then te σ2 H3 fun y H4=>zb9 (.ref D) [y] H4 fun _ H5=>∃ ys,H5 D=some (.lst ys)∧Pv (i+1) ys σ2 H5 else ∃ ys,H3 D=some (.lst ys)∧Pv (i+1) ys σ2 H3)
  (hd:∀ ys σ H,H D=some (.lst ys)→Pv xs.length ys σ H→Q (.ref D) H) :
  ∃ W:Nat→Nat→St→Hp→Prop,(∃ m,W 0 m σ (upd H D (.lst [])))∧∀ i m σc Hc,W i m σc Hc →
   ((Itl K a).stop i Hc∧Q (.ref D) Hc)∨((Itl K a).go i Hc∧∃ N:St→Hp→Prop,(∀ σ' H',N σ' H'→∃ m',m'<m∧W (i+1) m' σ' H')∧∀ x H',(Itl K a).yld i Hc x H'→g x σc H' fun σ2 H2=>tt σ2 H2 fun b H3=>if b=true then te σ2 H3 fun y H4=>zb9 (.ref D) [y] H4 fun _ H5=>N σ2 H5 else N σ2 H3):=by
 refine ⟨fun i m σ H=>m=xs.length - i∧i≤xs.length∧∃ ys,H D=some (.lst ys)∧Pv i ys σ H,⟨_,rfl,Nat.zero_le _,[],zaf,h0⟩,?_⟩
 rintro i m σ H ⟨rfl,hi,ys,hD,pv⟩
 have q:=hl i ys σ H hi pv
 by_cases hlt:i<xs.length
 ·refine .inr ⟨⟨xs,xs[i],q,by simp [hlt]⟩,fun σ H=>∃ ys,H D=some (.lst ys)∧Pv (i+1) ys σ H,fun σ' H' p'=>⟨_,by (first|lia|omega),rfl,hlt,p'⟩,fun x H' yl=>?_⟩
  obtain ⟨e,yl⟩:=yl
  subst e
  exact hs i x ys σ _ (yl xs q) hD pv
 ·have e:i=xs.length:=by (first|lia|omega)
  subst e
  exact .inl ⟨⟨xs,q,Nat.le_refl _⟩,hd ys σ H hD pv⟩
theorem zni {lo:Int} {n:Nat} {g:TG} {tt:TT} {te:TE} {σ:St} {H:Hp} {D:Addr} {Q:VK} (Pv:Nat→List V→St→Hp→Prop) (h0:Pv 0 [] σ (upd H D (.lst [])))
  (hs:∀ i ys σ H,i<n→H D=some (.lst ys)→Pv i ys σ H→g (.int (lo+i)) σ H fun σ2 H2=>tt σ2 H2 fun b H3=>if b=true then te σ2 H3 fun y H4=>zb9 (.ref D) [y] H4 fun _ H5=>∃ ys,H5 D=some (.lst ys)∧Pv (i+1) ys σ2 H5 else ∃ ys,H3 D=some (.lst ys)∧Pv (i+1) ys σ2 H3)
  (hd:∀ ys σ H,H D=some (.lst ys)→Pv n ys σ H→Q (.ref D) H) :
  ∃ W:Nat→Nat→St→Hp→Prop,(∃ m,W 0 m σ (upd H D (.lst [])))∧∀ i m σc Hc,W i m σc Hc →
   ((Itr lo n).stop i Hc∧Q (.ref D) Hc)∨((Itr lo n).go i Hc∧∃ N:St→Hp→Prop,(∀ σ' H',N σ' H'→∃ m',m'<m∧W (i+1) m' σ' H')∧∀ x H',(Itr lo n).yld i Hc x H'→g x σc H' fun σ2 H2=>tt σ2 H2 fun b H3=>if b=true then te σ2 H3 fun y H4=>zb9 (.ref D) [y] H4 fun _ H5=>N σ2 H5 else N σ2 H3):=by
 refine ⟨fun i m σ H=>m=n - i∧i≤n∧∃ ys,H D=some (.lst ys)∧Pv i ys σ H,⟨_,rfl,Nat.zero_le _,[],zaf,h0⟩,?_⟩
 rintro i m σ H ⟨rfl,hi,ys,hD,pv⟩
 by_cases hlt:i<n
 ·refine .inr ⟨hlt,fun σ H=>∃ ys,H D=some (.lst ys)∧Pv (i+1) ys σ H,fun σ' H' p'=>⟨_,by (first|lia|omega),rfl,hlt,p'⟩,fun x H' yl=>?_⟩
  obtain ⟨e,yl⟩:=yl
  subst e yl
  exact hs i ys σ _ hlt hD pv
 ·have e:i=n:=by (first|lia|omega)
  subst e
  exact .inl ⟨Nat.le_refl _,hd ys σ H hD pv⟩
end L2
namespace L2
open PySem PySem.Spec PyProof.Rows
theorem zn4 (bs:List Bool):(List.range bs.length).all (fun i=>bs.getD i false)=bs.all id:=by
 rw [Bool.eq_iff_iff,List.all_eq_true,List.all_eq_true]
 constructor
 ·intro h x hx
  obtain ⟨i,hi,e⟩:=List.getElem_of_mem hx
  have:=h i (List.mem_range.mpr hi)
  rw [List.getD_eq_getElem?_getD,List.getElem?_eq_getElem hi] at this
  rw [← e]
  exact this
 ·intro h i hi
  have hi:=List.mem_range.mp hi
  rw [List.getD_eq_getElem?_getD,List.getElem?_eq_getElem hi]
  exact h _ (List.getElem_mem hi)
def rAll (K:PySem.W.Frag):List V→Hp→VK→Prop:=fun xs H Q=>∃ (p:Addr) (bs:List Bool),xs=[.ref p]∧SqL K H p (bs.map V.bl)∧Q (.bl (bs.all id)) H
theorem zuv {bs:List Bool} {its:List Value} {i:Nat} {v:Value} (r:zcc (bs.map V.bl) its) (e:its.toArray[i]?=some v):v=.bool (bs.getD i false):=by
 have l:=r.length
 rw [List.length_map] at l
 have e':its[i]?=some v:=by simpa using e
 have hi:i<bs.length:=by rw [l];exact (List.getElem?_eq_some_iff.mp e').1
 obtain ⟨u,hu,ru⟩:=r.get (i:=i) (x:=.bl bs[i]) (by rw [List.getElem?_map,List.getElem?_eq_getElem hi];rfl)
 rw [e'] at hu
 cases hu
 cases ru
 rw [List.getD_eq_getElem?_getD,List.getElem?_eq_getElem hi]
 rfl
theorem zqp {P:Program} {w:World} {A:Around} {bs:List Bool} {its:List Value} (r:zcc (bs.map V.bl) its):TruthOf P w A (fun i v=>its.toArray[i]?=some v) fun i=>bs.getD i false:=fun i v s Q E hP hQ=>by
 rw [zuv r hP]
 exact wpAny_pure hQ
section
variable {X:Cx}
theorem zpW (hc:X.calm=true):zes X (.builtin "all") (rAll X.K):=by
 intro pins s σ H xs us Q I r h
 obtain ⟨p,bs,rfl,hl,q⟩:=h
 obtain ⟨u,rfl,ru⟩:=r.one
 cases ru
 obtain ⟨its,rv,pl,_⟩:=I.list hl
 have l:=rv.length
 rw [List.length_map] at l
 obtain ⟨o,n,e,_⟩:=id pl
 have hne:p≠s.heap.objs.size:=Nat.ne_of_lt (Heap.lt_size e)
 refine call_all_walk (wpAny_pyIter_list pl.isList ?_)
 refine ⟨s.heap.objs.size,_,_,_,_,_,fun i=>bs.getD i false,rfl,Walks.list (A:=X.A.in1) (I.ok.hd hc) _ p hne its.toArray,⟨⟨_,Heap.get?_push_size _ rfl,rfl,rfl⟩,?_⟩,zqp rv,fun h' tk hk=>⟨.bl _,H,I.kept fun b u eb=>?_,rfl,?_⟩⟩
 ·exact pl.isList.at fun o e=>Heap.get?_push_of_some _ e
 ·exact hk b u (fun z=>Nat.ne_of_lt (Heap.lt_size eb) (by simpa using z)) (Heap.get?_push_of_some _ eb)
 ·rw [List.size_toArray,← l,zn4]
  exact q
end
end L2
namespace L2
open PySem PySem.Spec PyProof.Rows
def Itz (K:PySem.W.Frag) (p q:Addr):It where
 go:=fun i H=>∃ xs ys a b,SqL K H p xs∧SqL K H q ys∧xs[i]?=some a∧ys[i]?=some b
 yld:=fun i H x H'=>∃ t a b,x=.ref t∧H t=none∧H'=upd H t (.tup [a,b])∧(∀ xs,SqL K H p xs→xs[i]?=some a)∧∀ ys,SqL K H q ys→ys[i]?=some b
 stop:=fun i H=>∃ xs ys,SqL K H p xs∧SqL K H q ys∧i=min xs.length ys.length
def tnZ (z TI TO i1 i2 p q:Addr) (i:Nat) (h:Heap):Prop:=IsZip h z TI TO .none∧IsPair h TI (.ref i1) (.ref i2)∧(∃ a b,IsPair h TO a b)∧h.IsListIter i1 p i∧h.IsListIter i2 q i
theorem zpR {z TI TO i1 i2 p q:Addr} {i:Nat} {h h':Heap} (st:tnZ z TI TO i1 i2 p q i h) (k:∀ b∈[z,TI,TO,i1,i2],∀ o,h.get? b=some o→h'.get? b=some o):tnZ z TI TO i1 i2 p q i h':=by
 obtain ⟨a1,a2,⟨x,y,a3⟩,a4,a5⟩:=st
 exact ⟨k z (by simp) _ a1,k TI (by simp) _ a2,⟨x,y,k TO (by simp) _ a3⟩,a4.at fun o e=>k i1 (by simp) o e,a5.at fun o e=>k i2 (by simp) o e⟩
theorem zbL {o:Obj} {vs:Array Value} (h:o.data=.fields vs):∀ v,o.data≠.cell v:=fun v z=>by rw [h] at z;cases z
theorem zpw {P:Program} {w:World} {K:PySem.W.Frag} {elts:List Expr} {k:Nat} {pos:Pos} {z TI TO i1 i2 p q:Addr} (D:ZipApart z TI TO i1 i2 p q):zs9 P w K (.Tuple elts k pos) (Itz K p q) [z,TI,TO,i1,i2] z (tnZ z TI TO i1 i2 p q) where
 mem:=by simp
 obj:=fun i h st b hb=>by
  obtain ⟨a1,a2,⟨x,y,a3⟩,⟨o4,a4,_,d4⟩,⟨o5,a5,_,d5⟩⟩:=st
  simp only [List.mem_cons,List.not_mem_nil,or_false] at hb
  rcases hb with rfl | rfl | rfl | rfl | rfl
  ·exact ⟨_,a1,zbL rfl⟩
  ·exact ⟨_,a2,fun v z=>nomatch (show Data.seq _ _=Data.cell v from z)⟩
  ·exact ⟨_,a3,fun v z=>nomatch (show Data.seq _ _=Data.cell v from z)⟩
  ·exact ⟨_,a4,zbL d4⟩
  ·exact ⟨_,a5,zbL d5⟩
 keep:=fun i h h' st kk=>zpR st kk
 item:=by
  intro X hP hw hK hc i pins s σ H E I hf st hg
  subst hP hw hK
  obtain ⟨xs,ys,a,b,hx,hy,ea,eb⟩:=hg
  obtain ⟨its1,r1,pl1,z1⟩:=I.list hx
  obtain ⟨its2,r2,pl2,z2⟩:=I.list hy
  obtain ⟨ua,eua,rua⟩:=r1.get ea
  obtain ⟨ub,eub,rub⟩:=r2.get eb
  obtain ⟨s1,s2,s3,s4,s5⟩:=st
  have W:=WalksT.zip2 (prog:=X.prog) (w:=X.w) (A:=X.A) (I.ok.hd hc) z TI TO i1 i2 p q D its1.toArray its2.toArray
  have hi:i<min its1.toArray.size its2.toArray.size:=by
   have h1:=(List.getElem?_eq_some_iff.mp eua).1
   have h2:=(List.getElem?_eq_some_iff.mp eub).1
   simp only [List.size_toArray]
   (first|lia|omega)
  refine W.item i s _ _ hi ⟨s1,s2,s3,s4,s5,pl1.isList,pl2.isList⟩ fun T vals h' tk hp hT hTup mid kk=>⟨_,rfl,?_⟩
  obtain ⟨u,v,e1,e2,rfl⟩:=hp
  have e1':u=ua:=by
   have:its1[i]?=some u:=by simpa using e1
   rw [eua] at this;cases this;rfl
  have e2':v=ub:=by
   have:its2[i]?=some v:=by simpa using e2
   rw [eub] at this;cases this;rfl
  subst e1' e2'
  refine W.go elts k pos i T { s with heap:=h',toks:=tk } _ _ mid fun h2 st2 kk2=>?_
  obtain ⟨t1,t2,t3,t4,t5,_,_⟩:=st2
  have sub:∀ b∈[z,TO,i1,i2],b∈[z,TI,TO,i1,i2]:=fun b hb=>by
   simp only [List.mem_cons,List.not_mem_nil,or_false] at hb ⊢
   rcases hb with h | h | h | h <;> simp [h]
  have I1:Inv X pins σ H { s with heap:=h2,toks:=tk }:=I.turns (ch:=[z,TO,i1,i2]) (fun b o hb e=>kk2 b o hb (kk b o hb e)) fun b hb=>hf b (sub b hb)
  have nT:H T=none:=I.hok.fresh hT
  have I2:=I1.track (a:=T) (o:=.tup [a,b]) nT (Heap.get?_none_of_le (Nat.le_trans I.sz hT)) (Nat.ne_of_gt (Nat.lt_of_lt_of_le I.lt hT)) (fun x c e=>by
   obtain ⟨v,q⟩:=I.cell x c e
   exact Nat.ne_of_lt (Nat.lt_of_lt_of_le q.lt hT)) (fun p hp=>Nat.ne_of_lt (Nat.lt_of_lt_of_le (Heap.lt_size (I.pin p hp).1) hT)) (by
   refine ⟨by show 2≤sizeLine;decide,[u,v],.cons rua (.cons rub .nil),?_⟩
   obtain ⟨o,ho,hcl,hd⟩:=hTup
   exact ⟨o,kk2 T o (W.apart i T h' mid) ho,hcl,hd⟩)
  refine ⟨.ref T,_,I2,rfl,⟨T,a,b,rfl,nT,rfl,fun xs' h'=>?_,fun ys' h'=>?_⟩,⟨t1,t2,t3,t4,t5⟩,fun b hb=>?_⟩
  ·rw [I.list_inj h' hx];exact ea
  ·rw [I.list_inj h' hy];exact eb
  ·have hb2:∃ o,s.heap.get? b=some o:=by
    obtain ⟨x3,y3,s3⟩:=s3
    obtain ⟨o4,s4,_⟩:=s4
    obtain ⟨o5,s5,_⟩:=s5
    simp only [List.mem_cons,List.not_mem_nil,or_false] at hb
    rcases hb with h | h | h | h | h <;> rw [h] <;> first | exact ⟨_,s1⟩ | exact ⟨_,s2⟩ | exact ⟨_,s3⟩ | exact ⟨_,s4⟩ | exact ⟨_,s5⟩
   obtain ⟨o,e⟩:=hb2
   rw [zax (Nat.ne_of_lt (Nat.lt_of_lt_of_le (Heap.lt_size e) hT))]
   exact (hf b hb).1
 done:=by
  intro X hP hw hK hc i pins s σ H E I hf st hg
  subst hP hw hK
  obtain ⟨xs,ys,hx,hy,rfl⟩:=hg
  obtain ⟨its1,r1,pl1,z1⟩:=I.list hx
  obtain ⟨its2,r2,pl2,z2⟩:=I.list hy
  obtain ⟨s1,s2,s3,s4,s5⟩:=st
  have W:=WalksT.zip2 (prog:=X.prog) (w:=X.w) (A:=X.A) (I.ok.hd hc) z TI TO i1 i2 p q D its1.toArray its2.toArray
  have sub:∀ b∈[z,TO,i1,i2],b∈[z,TI,TO,i1,i2]:=fun b hb=>by
   simp only [List.mem_cons,List.not_mem_nil,or_false] at hb ⊢
   rcases hb with h | h | h | h <;> simp [h]
  refine W.done s _ _ ?_ fun h' tk kk=>⟨rfl,I.turns (ch:=[z,TO,i1,i2]) (fun b o hb e=>kk b o hb e) fun b hb=>hf b (sub b hb)⟩
  rw [List.size_toArray,List.size_toArray,← r1.length,← r2.length]
  exact ⟨s1,s2,s3,s4,s5,pl1.isList,pl2.isList⟩
 self:=fun A i s Q E st h=>wpAny_pyIter_zip st.1 h
theorem zr8 {K:PySem.W.Frag} {p q:Addr} {xs ys:List V} {g:TG} {tb:TS} {D:zb1} {σ:St} {H:Hp} (Pv:Nat→St→Hp→Prop) (h0:Pv 0 σ H) (hl:∀ i σ H,i≤min xs.length ys.length→Pv i σ H→SqL K H p xs∧SqL K H q ys)
  (hs:∀ i x y t σ H,xs[i]?=some x→ys[i]?=some y→Pv i σ H→H t=none→g (.ref t) σ (upd H t (.tup [x,y])) fun σ2 H2=>tb { D with nx:=Pv (i+1),ct:=Pv (i+1),bk:=D.nx } σ2 H2) (hd:∀ σ H,Pv (min xs.length ys.length) σ H→D.nx σ H) :
  ∃ W:Nat→Nat→St→Hp→Prop,(∃ m,W 0 m σ H)∧∀ i m σ H,W i m σ H →
   ((Itz K p q).stop i H∧D.nx σ H)∨((Itz K p q).go i H∧∃ N:St→Hp→Prop,(∀ σ' H',N σ' H'→∃ m',m'<m∧W (i+1) m' σ' H')∧∀ x H',(Itz K p q).yld i H x H'→g x σ H' fun σ2 H2=>tb { D with nx:=N,ct:=N,bk:=D.nx } σ2 H2):=by
 refine ⟨fun i m σ H=>m=min xs.length ys.length - i∧i≤min xs.length ys.length∧Pv i σ H,⟨_,rfl,Nat.zero_le _,h0⟩,?_⟩
 rintro i m σ H ⟨rfl,hi,pv⟩
 obtain ⟨hx,hy⟩:=hl i σ H hi pv
 by_cases hlt:i<min xs.length ys.length
 ·have l1:i<xs.length:=by (first|lia|omega)
  have l2:i<ys.length:=by (first|lia|omega)
  refine .inr ⟨⟨xs,ys,xs[i],ys[i],hx,hy,by simp [l1],by simp [l2]⟩,Pv (i+1),fun σ' H' p'=>⟨_,by (first|lia|omega),rfl,hlt,p'⟩,fun x H' yl=>?_⟩
  obtain ⟨t,a,b,rfl,ht,rfl,e1,e2⟩:=yl
  exact hs i a b t σ H (e1 xs hx) (e2 ys hy) pv ht
 ·have e:i=min xs.length ys.length:=by (first|lia|omega)
  subst e
  exact .inl ⟨⟨xs,ys,hx,hy,rfl⟩,hd σ H pv⟩
end L2
namespace L2
open PySem PySem.Spec PyProof.Rows
inductive Tr where
 | int (i:Int)
 | bl (b:Bool)
 | str (x:Str)
 | non
 | lst (l:List Tr)
 | tup (l:List Tr)
section
variable {X:Cx} {pins:List (Addr×Obj)} {σ:St} {H:Hp} {s:Shared}
end
end L2
namespace L2
open PySem PySem.Spec PyProof.Rows
theorem zl3 {P:Program} {w:World} {A:Around} {E:Value→Shared→Prop} {I ax:Addr} {items:Array Value} (hh:A.handled=none) (hne:ax≠I):∀ (k i:Nat) (s:Shared) (Q:List Value→Shared→Prop),s.heap.IsListIter I ax i→s.heap.IsList ax items→i+k≤items.size →
  (∀ h' tk,h'.IsListIter I ax (i+k)→h'.IsList ax items→(∀ b o,b≠I→s.heap.get? b=some o→h'.get? b=some o)→Q ((items.toList.drop i).take k) { s with heap:=h',toks:=tk })→wpAny (model P w) A (draw (.ref I) k) Q E s
 | 0,i,s,Q,hit,hl,_,hQ=>by
  refine wpAny_pure (a:=[]) ?_
  have:=hQ s.heap s.toks hit hl fun _ _ _ e=>e
  simpa using this
 | k+1,i,s,Q,hit,hl,hle,hQ=>by
  have hi:i<items.size:=by (first|lia|omega)
  refine wpAny_bind (m:=pyNext (.ref I)) ((Walks.list (A:=A) hh I ax hne items).item i s _ _ hi ⟨hit,hl⟩ fun v h1 tk1 hv st kk=>?_)
  refine wpAny_bind (wpAny_holding (zl3 hh hne k (i+1) _ _ st.1 st.2 (by (first|lia|omega)) fun h2 tk2 hit2 hl2 kk2=>wpAny_pure ?_))
  have hv':items[i]=v:=by
   have:=(Array.getElem?_eq_some_iff.mp hv).2
   exact this
  have hd:items.toList.drop i=v::items.toList.drop (i+1):=by
   rw [← hv',List.drop_eq_getElem_cons (by simpa using hi)]
   simp
  have:=hQ h2 tk2 (by rw [show i+(k+1)=i+1+k by (first|lia|omega)];exact hit2) hl2 fun b o hb e=>kk2 b o hb (kk b o (by simpa using hb) e)
  rw [hd,List.take_succ_cons] at this
  exact this
theorem zmQ {P:Program} {w:World} {A:Around} {E:Value→Shared→Prop} {s:Shared} {t:Addr} {items:Array Value} {Q:List Value→Shared→Prop} (hh:A.handled=none) (ht:s.heap.IsList t items)
  (hQ:∀ h' tk,(∀ b o,s.heap.get? b=some o→h'.get? b=some o)→Q items.toList { s with heap:=h',toks:=tk }):wpAny (model P w) A (unpackItems (.ref t) items.size none) Q E s:=by
 obtain ⟨o,ho,hcl,hdt⟩:=id ht
 have hne:t≠s.heap.objs.size:=Nat.ne_of_lt (Heap.lt_size ho)
 have ty:s.TypeIs (.ref t) "list":=⟨o,ho,hcl⟩
 unfold unpackItems notIterableAtAll
 refine wpAny_bind (wpAny_bind (wpAny_specialOf ty F.slot_list_iter.lookup (wpAny_pure ?_)))
 simp only [Bool.false_eq_true,if_false]
 refine wpAny_bind (wpAny_holding (wpAny_pyIter_list ht ?_))
 have ht1:(s.heap.push { cls:=.type "list_iterator",data:=.fields #[.ref t,.int 0 0] }).IsList t items:=ht.at fun o e=>Heap.get?_push_of_some _ e
 refine wpAny_bind (wpAny_holding (zl3 hh hne items.size 0 _ _ ⟨_,Heap.get?_push_size _ rfl,rfl,rfl⟩ ht1 (by (first|lia|omega)) fun h1 tk1 hit1 hl1 kk1=>?_))
 have hall:List.take items.size (List.drop 0 items.toList)=items.toList:=by
  rw [List.drop_zero]
  exact List.take_of_length_le (by simp)
 rw [hall,if_neg (by simp)]
 rw [Nat.zero_add] at hit1
 refine wpAny_bind (wpAny_holding ((Walks.list (A:=A) hh _ t hne items).done _ _ _ ⟨hit1,hl1⟩ fun h2 tk2 kk2=>?_))
 simp only [Option.isSome_none,Bool.false_eq_true,if_false]
 refine wpAny_pure (hQ h2 tk2 fun b o e=>kk2 b o (fun z=>Nat.ne_of_lt (Heap.lt_size e) (by simpa using z)) (kk1 b o (Nat.ne_of_lt (Heap.lt_size e)) (Heap.get?_push_of_some _ e)))
def gLst (K:PySem.W.Frag) (n:Nat) (t:TGs):TG:=fun v σ H Q=>∃ a xs,v=.ref a∧SqL K H a xs∧xs.length=n∧t xs σ H Q
theorem zuj {X:Cx} {pos:Pos} {es:List Expr} {k:Nat} {t:TGs} {n:Nat} (hc:X.calm=true) (h:PGs X es t)
  (hn:(assignEach es X.env).length=n:=by rfl) (hst:(assignEach es X.env).findIdx? (·.1)=none:=by rfl):PG X (.Tuple es k pos) (gLst X.K n t):=by
 intro pins s σ H v u Q I r hw
 obtain ⟨a,xs,e1,hq,hl,hw⟩:=hw
 subst e1
 cases r
 obtain ⟨its,rv,pl,hz⟩:=I.list hq
 rw [assign_Tuple]
 refine wpAny_bind (wpAny_standAt ?_)
 unfold unpack
 have e:(assignEach es X.env).length=its.toArray.size:=by rw [hn,List.size_toArray,← rv.length,hl]
 rw [e,hst]
 refine wpAny_bind (wpAny_holding (zmQ (I.ok.hd hc) pl.isList fun h' tk hk=>?_))
 exact h pins _ σ H xs _ Q (I.kept hk) (by simpa using rv) hw
end L2
namespace L2
open PySem PySem.Spec PyProof.Rows
section
variable {X:Cx}
end
def zgs (J:It) (g:TG) (tt:TT) (te:TE) (D:Addr) (Q:VK) (σ:St) (H:Hp):Prop:=∃ W:Nat→Nat→St→Hp→Prop,(∃ m,W 0 m σ H)∧∀ i m σc Hc,W i m σc Hc →
 (J.stop i Hc∧Q (.ref D) Hc)∨(J.go i Hc∧∃ N:St→Hp→Prop,(∀ σ' H',N σ' H'→∃ m',m'<m∧W (i+1) m' σ' H')∧∀ x H',J.yld i Hc x H'→g x σc H' fun σ2 H2=>tt σ2 H2 fun b H3=>if b=true then te σ2 H3 fun y H4=>zb9 (.ref D) [y] H4 fun _ H5=>N σ2 H5 else N σ2 H3)
theorem zq1 {wi:TI} {g:TG} {tt:TT} {te:TE} {cap:List (Option Nat)} {σ:St} {H:Hp} {Q:VK}:zgn wi g tt te cap σ H Q=wi σ H fun J H1=>∀ D,H1 D=none→zgs J g tt te D Q (ztu cap σ) (upd H1 D (.lst [])):=rfl
theorem zm1 {K:PySem.W.Frag} {a:Addr} {xs:List V} {g:TG} {tt:TT} {te:TE} {σ:St} {H:Hp} {D:Addr} {Q:VK} (Pv:Nat→List V→St→Hp→Prop) (h0:Pv 0 [] σ (upd H D (.lst []))) (hl:∀ i ys σ H,i≤xs.length→Pv i ys σ H→SqL K H a xs)
  (hs:∀ i x ys σ H,xs[i]?=some x→H D=some (.lst ys)→Pv i ys σ H→g x σ H fun σ2 H2=>tt σ2 H2 fun b H3=>if b=true then te σ2 H3 fun y H4=>zb9 (.ref D) [y] H4 fun _ H5=>∃ ys,H5 D=some (.lst ys)∧Pv (i+1) ys σ2 H5 else ∃ ys,H3 D=some (.lst ys)∧Pv (i+1) ys σ2 H3)
  (hd:∀ ys σ H,H D=some (.lst ys)→Pv xs.length ys σ H→Q (.ref D) H):zgs (Itl K a) g tt te D Q σ (upd H D (.lst [])):=znR Pv h0 hl hs hd
theorem zlk {lo:Int} {n:Nat} {g:TG} {tt:TT} {te:TE} {σ:St} {H:Hp} {D:Addr} {Q:VK} (Pv:Nat→List V→St→Hp→Prop) (h0:Pv 0 [] σ (upd H D (.lst [])))
  (hs:∀ i ys σ H,i<n→H D=some (.lst ys)→Pv i ys σ H→g (.int (lo+i)) σ H fun σ2 H2=>tt σ2 H2 fun b H3=>if b=true then te σ2 H3 fun y H4=>zb9 (.ref D) [y] H4 fun _ H5=>∃ ys,H5 D=some (.lst ys)∧Pv (i+1) ys σ2 H5 else ∃ ys,H3 D=some (.lst ys)∧Pv (i+1) ys σ2 H3)
  (hd:∀ ys σ H,H D=some (.lst ys)→Pv n ys σ H→Q (.ref D) H):zgs (Itr lo n) g tt te D Q σ (upd H D (.lst [])):=zni Pv h0 hs hd
theorem zp2 {K:PySem.W.Frag} {p q:Addr} {xs ys:List V} {g:TG} {tb:TS} {D:zb1} {σ:St} {H:Hp} (Pv:Nat→St→Hp→Prop) (h0:Pv 0 σ H) (hl:∀ i σ H,i≤min xs.length ys.length→Pv i σ H→SqL K H p xs∧SqL K H q ys)
  (hs:∀ i x y t σ H,xs[i]?=some x→ys[i]?=some y→Pv i σ H→H t=none→g (.ref t) σ (upd H t (.tup [x,y])) fun σ2 H2=>tb { D with nx:=Pv (i+1),ct:=Pv (i+1),bk:=D.nx } σ2 H2) (hd:∀ σ H,Pv (min xs.length ys.length) σ H→D.nx σ H):zmB (Itz K p q) g tb D σ H:=zr8 Pv h0 hl hs hd
end L2
namespace L2
open PySem PySem.Spec PyProof.Rows
section
variable {X:Cx}
def zga:V→List V→Hp→VK→Prop:=fun x vs H Q=>∃ l xs k y,x=.ref l∧vs=[.int k,y]∧H l=some (.lst xs)∧0≤k∧k≤(xs.length:Int)∧xs.length<1000000∧Q .non (upd H l (.lst (xs.take k.toNat++y::xs.drop k.toNat)))
theorem zjt {xs:List V} {us:List Value} (r:zcc xs us):∀ n:Nat,zcc (xs.take n) (us.take n)∧zcc (xs.drop n) (us.drop n):=by
 induction r with
 | nil=>intro n;rw [List.take_nil,List.take_nil,List.drop_nil,List.drop_nil];exact ⟨.nil,.nil⟩
 | cons h t ih =>
  intro n
  cases n with
  | zero=>exact ⟨.nil,.cons h t⟩
  | succ n=>exact ⟨.cons h (ih n).1,(ih n).2⟩
theorem zj8:MtM X "list.insert" zga:=by
 intro pins s σ H x vs v us Q I rx rv h
 obtain ⟨l,xs,k,y,rfl,rfl,hH,k0,k1,hz,q⟩:=h
 cases rx
 obtain ⟨u,w,rfl,ru,rw'⟩:=zlJ rv
 obtain ⟨tk,rfl⟩:=ru
 obtain ⟨z,its,n,r,hl,e⟩:=I.lstM hH
 have lr:=r.length
 have fit:¬(!Builtin.List.listFitsIndex k)=true:=by
  have:Builtin.List.listFitsIndex k=true:=by
   unfold Builtin.List.listFitsIndex
   simp only [Bool.and_eq_true,decide_eq_true_eq]
   (first|lia|omega)
  rw [this]
  decide
 refine call_meets F.slot_list_insert ⟨_,e,rfl⟩ F.entry_list_insert (F.args_list_insert_3 _ _ _) (AutoSeq1.list_insert_list_int_val_1 l its.toArray n k tk w fit (by rw [List.size_toArray];(first|lia|omega))) ⟨e,?_⟩
 refine ⟨.non,_,I.lset (its':=its.take k.toNat++w::its.drop k.toNat) hH e ?_ ((zjt r _).1.append (.cons rw' (zjt r _).2)) ?_,rfl,q⟩
 ·have e1:(if k<0 then (k+(its.toArray.size:Int)).toNat else min k.toNat its.toArray.size)=k.toNat:=by
   rw [if_neg (by (first|lia|omega)),List.size_toArray,← lr]
   (first|lia|omega)
  simp only [e1]
  apply Array.toList_inj.mp
  simp
  exact List.take_of_length_le (by rw [List.length_drop];exact Nat.le_refl _)
 ·rw [List.length_append,List.length_cons,List.length_take,List.length_drop]
  have:(1000000:Nat)≤sizeLine:=by decide
  (first|lia|omega)
end
end L2
namespace L2
open PySem PySem.Spec PyProof.Rows
theorem zp8:bootBuiltins "enumerate"=some (.type "enumerate"):=by decide +kernel
def Ite (K:PySem.W.Frag) (p:Addr):It where
 go:=fun i H=>∃ xs a,SqL K H p xs∧xs[i]?=some a
 yld:=fun i H x H'=>∃ t a,x=.ref t∧H t=none∧H'=upd H t (.tup [.int (i:Int),a])∧∀ xs,SqL K H p xs→xs[i]?=some a
 stop:=fun i H=>∃ xs,SqL K H p xs∧i=xs.length
def tnE (e it p:Addr) (i:Nat) (h:Heap):Prop:=(∃ old,IsEnum h e it i old)∧h.IsListIter it p i
theorem zj7 {e it p:Addr} {i:Nat} {h:Heap} (st:tnE e it p i h):∀ b∈[e,it],∃ o,h.get? b=some o∧∀ v,o.data≠.cell v:=fun b hb=>by
 obtain ⟨⟨old,a1⟩,⟨o2,a2,_,d2⟩⟩:=st
 simp only [List.mem_cons,List.not_mem_nil,or_false] at hb
 rcases hb with rfl | rfl
 ·exact ⟨_,a1,zbL rfl⟩
 ·exact ⟨_,a2,zbL d2⟩
theorem zn1 {P:Program} {w:World} {K:PySem.W.Frag} {elts:List Expr} {k:Nat} {pos:Pos} {e it p:Addr} (d1:e≠it) (d2:p≠e) (d3:p≠it):zs9 P w K (.Tuple elts k pos) (Ite K p) [e,it] e (tnE e it p) where
 mem:=by simp
 obj:=fun i h st=>zj7 st
 keep:=fun i h h' st kk=>by
  obtain ⟨⟨old,a1⟩,a2⟩:=st
  exact ⟨⟨old,kk e (by simp) _ a1⟩,a2.at fun o x=>kk it (by simp) o x⟩
 item:=by
  intro X hP hw hK hc i pins s σ H E I hf st hg
  subst hP hw hK
  obtain ⟨xs,a,hx,ea⟩:=hg
  obtain ⟨its,r1,pl1,z1⟩:=I.list hx
  obtain ⟨ua,eua,rua⟩:=r1.get ea
  have there:=zj7 st
  obtain ⟨s1,s2⟩:=st
  have W:=WalksT.enumerate (prog:=X.prog) (w:=X.w) (A:=X.A) (I.ok.hd hc) e it p d1 d2 d3 its.toArray
  have hi:i<its.toArray.size:=by
   have h1:=(List.getElem?_eq_some_iff.mp eua).1
   rw [List.size_toArray]
   exact h1
  refine W.item i s _ _ hi ⟨s1,s2,pl1.isList⟩ fun T vals h' tk hp hT hTup mid kk=>⟨_,rfl,?_⟩
  obtain ⟨t,u,e1,rfl⟩:=hp
  have e1':u=ua:=by
   have:its[i]?=some u:=by simpa using e1
   rw [eua] at this;cases this;rfl
  subst e1'
  refine W.go elts k pos i T { s with heap:=h',toks:=tk } _ _ mid fun h2 st2 kk2=>?_
  obtain ⟨t1,t2,_⟩:=st2
  have I1:Inv X pins σ H { s with heap:=h2,toks:=tk }:=I.turns (ch:=[e,it]) (fun b o hb q=>kk2 b o hb (kk b o hb q)) fun b hb=>hf b hb
  have nT:H T=none:=I.hok.fresh hT
  have I2:=I1.track (a:=T) (o:=.tup [.int (i:Int),a]) nT (Heap.get?_none_of_le (Nat.le_trans I.sz hT)) (Nat.ne_of_gt (Nat.lt_of_lt_of_le I.lt hT)) (fun x c q=>by
   obtain ⟨v,z⟩:=I.cell x c q
   exact Nat.ne_of_lt (Nat.lt_of_lt_of_le z.lt hT)) (fun y hy=>Nat.ne_of_lt (Nat.lt_of_lt_of_le (Heap.lt_size (I.pin y hy).1) hT)) (by
   refine ⟨by show 2≤sizeLine;decide,[.int i t,u],.cons ⟨t,rfl⟩ (.cons rua .nil),?_⟩
   obtain ⟨o,ho,hcl,hd⟩:=hTup
   exact ⟨o,kk2 T o (W.apart i T h' mid) ho,hcl,hd⟩)
  refine ⟨.ref T,_,I2,rfl,⟨T,a,rfl,nT,rfl,fun xs' h'=>?_⟩,⟨t1,t2⟩,fun b hb=>?_⟩
  ·rw [I.list_inj h' hx];exact ea
  ·obtain ⟨o,q,_⟩:=there b hb
   rw [zax (Nat.ne_of_lt (Nat.lt_of_lt_of_le (Heap.lt_size q) hT))]
   exact (hf b hb).1
 done:=by
  intro X hP hw hK hc i pins s σ H E I hf st hg
  subst hP hw hK
  obtain ⟨xs,hx,rfl⟩:=hg
  obtain ⟨its,r1,pl1,z1⟩:=I.list hx
  obtain ⟨s1,s2⟩:=st
  have W:=WalksT.enumerate (prog:=X.prog) (w:=X.w) (A:=X.A) (I.ok.hd hc) e it p d1 d2 d3 its.toArray
  refine W.done s _ _ ?_ fun h' tk kk=>⟨rfl,I.turns (ch:=[e,it]) (fun b o hb q=>kk b o hb q) fun b hb=>hf b hb⟩
  rw [List.size_toArray,← r1.length]
  exact ⟨s1,s2,pl1.isList⟩
 self:=fun A i s Q E st h=>by
  obtain ⟨⟨old,a1⟩,_⟩:=st
  exact wpAny_pyIter_enum a1 h
def zo4 (K:PySem.W.Frag) (ta:TA):TI:=fun σ H R=>ta σ H fun vs H1=>∃ p,vs=[.ref p]∧(∃ xs,SqL K H1 p xs)∧R (Ite K p) H1
theorem zov {X:Cx} {a:Expr} {elts:List Expr} {k:Nat} {tp p pos:Pos} {ta:TA} (hg:Gl X "enumerate") (hm:X.mg "enumerate"=none) (ha:PA X [a] ta) (hs:starEach [a] X.env=[(false,eval a X.env)]:=by rfl) :
  PI X (.Tuple elts k tp) (.Call (.Name "enumerate" p) [a] [] pos) (zo4 X.K ta):=by
 intro pins s σ H R I h
 refine Call_ (zgz I hg hm zp8 (PyProof.Rows.callWith_type1 (thn (ha pos pins s σ H _ I h) fun us s1 hQ'=>?_) (by rw [hs];rfl) rfl))
 obtain ⟨vs,H1,I1,r1,q1⟩:=hQ'
 obtain ⟨p1,rfl,⟨xs,hx⟩,q⟩:=q1
 obtain ⟨u,rfl,ru⟩:=r1.one
 cases ru
 obtain ⟨its,_,pl1,_⟩:=I1.list hx
 have a1:p1<s1.heap.objs.size:=by obtain ⟨_,e,_⟩:=pl1.isList;exact Heap.lt_size e
 refine call_enumerate_list pl1.isList fun h' he hi hsz hk=>?_
 refine wpAny_pyIter_enum he ?_
 refine ⟨_,_,_,_,H1,rfl,I1.kept (t':=s1.toks) hk,zn1 (Nat.succ_ne_self _) (Nat.ne_of_lt (Nat.lt_succ_of_lt a1)) (Nat.ne_of_lt a1),⟨⟨_,he⟩,hi⟩,fun b hb=>?_,q⟩
 have hb':s1.heap.objs.size≤b:=by
  simp only [List.mem_cons,List.not_mem_nil,or_false] at hb
  rcases hb with h | h <;> rw [h] <;> first | exact Nat.le_refl _ | exact Nat.le_add_right _ _
 exact I1.fpOk hb' (I1.hok.fresh hb')
theorem zke {K:PySem.W.Frag} {p:Addr} {xs:List V} {g:TG} {tb:TS} {D:zb1} {σ:St} {H:Hp} (Pv:Nat→St→Hp→Prop) (h0:Pv 0 σ H) (hl:∀ i σ H,i≤xs.length→Pv i σ H→SqL K H p xs)
  (hs:∀ i x t σ H,xs[i]?=some x→Pv i σ H→H t=none→g (.ref t) σ (upd H t (.tup [.int (i:Int),x])) fun σ2 H2=>tb { D with nx:=Pv (i+1),ct:=Pv (i+1),bk:=D.nx } σ2 H2) (hd:∀ σ H,Pv xs.length σ H→D.nx σ H):zmB (Ite K p) g tb D σ H:=by
 refine ⟨fun i m σ H=>m=xs.length - i∧i≤xs.length∧Pv i σ H,⟨_,rfl,Nat.zero_le _,h0⟩,?_⟩
 rintro i m σ H ⟨rfl,hi,pv⟩
 have hx:=hl i σ H hi pv
 by_cases hlt:i<xs.length
 ·refine .inr ⟨⟨xs,xs[i],hx,by simp [hlt]⟩,Pv (i+1),fun σ' H' p'=>⟨_,by (first|lia|omega),rfl,hlt,p'⟩,fun x H' yl=>?_⟩
  obtain ⟨t,a,rfl,ht,rfl,e1⟩:=yl
  exact hs i a t σ H (e1 xs hx) pv ht
 ·have e:i=xs.length:=by (first|lia|omega)
  subst e
  exact .inl ⟨⟨xs,hx,rfl⟩,hd σ H pv⟩
end L2
namespace L2
open PySem PySem.Spec PyProof.Rows
section
variable {κ:Type} [DecidableEq κ]
def zfU (kvs:List (κ×V)) (k:κ):Option V:=(kvs.find? fun kv=>decide (kv.1=k)).map (·.2)
def zgq (kvs:List (κ×V)) (k:κ) (v:V):List (κ×V) :=
 if (kvs.any fun kv=>decide (kv.1=k))=true then kvs.map (fun kv=>if kv.1=k then (kv.1,v) else kv) else kvs++[(k,v)]
theorem zcC {p:κ×V} {r:List (κ×V)} {k:κ} (e:p.1=k):zfU (p::r) k=some p.2:=by simp [zfU,List.find?_cons,e]
theorem zcu {p:κ×V} {r:List (κ×V)} {k:κ} (e:¬ p.1=k):zfU (p::r) k=zfU r k:=by simp [zfU,List.find?_cons,e]
theorem zeN (k:κ):∀ kvs:List (κ×V),(kvs.any fun kv=>decide (kv.1=k))=(zfU kvs k).isSome
 | []=>rfl
 | p::r=>by
  rw [List.any_cons]
  by_cases e:p.1=k
  ·simp only [zcC e,decide_eq_true e,Bool.true_or,Option.isSome_some]
  ·rw [zcu e,decide_eq_false e,Bool.false_or];exact zeN k r
theorem zlV (k j:κ) (y:V):∀ kvs:List (κ×V),zfU (kvs.map fun kv=>if kv.1=k then (kv.1,y) else kv) j=(zfU kvs j).map fun x=>if j=k then y else x
 | []=>rfl
 | p::r=>by
  have ih:=zlV k j y r
  rw [List.map_cons]
  by_cases h:p.1=k
  ·rw [if_pos h]
   by_cases e:p.1=j
   ·rw [zcC (p:=(p.1,y)) e,zcC e,Option.map_some,if_pos (e.symm.trans h)]
   ·rw [zcu (p:=(p.1,y)) e,zcu e,ih]
  ·rw [if_neg h]
   by_cases e:p.1=j
   ·rw [zcC (p:=p) e,zcC e,Option.map_some,if_neg (fun z=>h (e.trans z))]
   ·rw [zcu (p:=p) e,zcu e,ih]
theorem zkg (k j:κ) (y:V):∀ kvs:List (κ×V),zfU kvs k=none→zfU (kvs++[(k,y)]) j=if j=k then some y else zfU kvs j
 | [],_=>by
  by_cases e:k=j
  ·rw [if_pos e.symm];exact zcC (p:=(k,y)) e
  ·rw [if_neg (fun z=>e z.symm)];exact zcu (p:=(k,y)) e
 | p::r,hn=>by
  rw [List.cons_append]
  have hk:¬ p.1=k:=fun z=>by rw [zcC z] at hn;cases hn
  rw [zcu hk] at hn
  have ih:=zkg k j y r hn
  by_cases e:p.1=j
  ·rw [zcC e,zcC e,if_neg (fun z=>hk (e.trans z))]
  ·rw [zcu e,zcu e,ih]
theorem zpD (kvs:List (κ×V)) (k j:κ) (y:V):zfU (zgq kvs k y) j=if j=k then some y else zfU kvs j:=by
 unfold zgq
 by_cases a:(kvs.any fun kv=>decide (kv.1=k))=true
 ·rw [if_pos a,zlV]
  rw [zeN] at a
  by_cases e:j=k
  ·obtain ⟨x,hx⟩:=Option.isSome_iff_exists.mp a
   rw [if_pos e,e,hx,Option.map_some,if_pos rfl]
  ·rw [if_neg e]
   cases zfU kvs j with
   | none=>rfl
   | some x=>rw [Option.map_some,if_neg e]
 ·rw [if_neg a]
  refine zkg k j y kvs ?_
  rw [zeN] at a
  cases q:zfU kvs k with
  | none=>rfl
  | some x=>rw [q] at a;exact (a rfl).elim
theorem zfi (kvs:List (κ×V)) (k:κ) (v:V):(zgq kvs k v).length≤kvs.length+1:=by
 unfold zgq
 split
 ·rw [List.length_map];(first|lia|omega)
 ·rw [List.length_append,List.length_cons,List.length_nil];(first|lia|omega)
theorem zpB {kvs:List (κ×V)} {k:κ} (v:V) (h:zfU kvs k=none):zgq kvs k v=kvs++[(k,v)]:=by
 unfold zgq
 rw [zeN,h]
 exact if_neg (by decide)
theorem zo3.isSome_eq {o:Option V} {u:Option Value} (r:zo3 o u):o.isSome=u.isSome:=by
 cases o with
 | none=>cases u with
  | none=>rfl
  | some _=>exact (show False from r).elim
 | some _=>cases u with
  | none=>exact (show False from r).elim
  | some _=>rfl
theorem KV.val {kvs:List (κ×V)} {vs:List (κ×Value)} (r:KV kvs vs) (k:κ):zo3 (zfU kvs k) (valueAt vs k):=by
 unfold KV at r
 induction r with
 | nil=>exact True.intro
 | @cons p q ps qs h t ih =>
  obtain ⟨h1,h2⟩:=h
  by_cases e:p.1=k
  ·have e':q.1=k:=h1.symm.trans e
   have b:valueAt (q::qs) k=some q.2:=by simp [valueAt,List.find?_cons,e']
   rw [zcC e,b];exact h2
  ·have e':¬ q.1=k:=fun z=>e (h1.trans z)
   have b:valueAt (q::qs) k=valueAt qs k:=by simp [valueAt,List.find?_cons,e']
   rw [zcu e,b];exact ih
theorem KV.any {kvs:List (κ×V)} {vs:List (κ×Value)} (r:KV kvs vs) (k:κ):(kvs.any fun kv=>decide (kv.1=k))=vs.any fun kv=>decide (kv.1=k):=by
 unfold KV at r
 induction r with
 | nil=>rfl
 | cons h t ih=>rw [List.any_cons,List.any_cons,ih,h.1]
theorem KV.repl {kvs:List (κ×V)} {vs:List (κ×Value)} (r:KV kvs vs) (k:κ) {y:V} {u:Value} (ry:zcA y u) :
  KV (kvs.map fun kv=>if kv.1=k then (kv.1,y) else kv) (vs.map fun kv=>if kv.1=k then (kv.1,u) else kv):=by
 unfold KV at r ⊢
 induction r with
 | nil=>exact .nil
 | @cons p q ps qs h t ih =>
  rw [List.map_cons,List.map_cons]
  refine .cons ?_ ih
  obtain ⟨h1,h2⟩:=h
  by_cases e:p.1=k
  ·rw [if_pos e,if_pos (h1.symm.trans e)];exact ⟨h1,ry⟩
  ·rw [if_neg e,if_neg (fun z=>e (h1.trans z))];exact ⟨h1,h2⟩
theorem KV.put {kvs:List (κ×V)} {vs:List (κ×Value)} (r:KV kvs vs) (k:κ) {y:V} {u:Value} (ry:zcA y u):KV (zgq kvs k y) (stored vs k u):=by
 unfold zgq stored
 rw [r.any k]
 by_cases e:(vs.any fun kv=>decide (kv.1=k))=true
 ·rw [if_pos e,if_pos e];exact r.repl k ry
 ·rw [if_neg e,if_neg e];exact Paired.snoc r ⟨rfl,ry⟩
theorem KV.length {kvs:List (κ×V)} {vs:List (κ×Value)} (r:KV kvs vs):kvs.length=vs.length:=Paired.length r
end
theorem zpu {P:Program} {w:World} {k:Key} {u:Value} (r:zcA (kV k) u):(zcw P w).is k u=true:=by
 cases k with
 | inl i=>obtain ⟨t,e⟩:=(show ∃ t,u=Value.int i t from r);subst e;exact zkV P w i t
 | inr x=>obtain ⟨t,e⟩:=(show ∃ t,u=Value.str x t from r);subst e;exact zk0 P w x t
theorem zka {P:Program} {w:World}:∀ {ks:List Key} {us:List Value},zcc (ks.map kV) us→ItemsAre (zcw P w) ks us
 | [],_,r=>by rw [List.map_nil] at r;cases r;exact .nil
 | k::ks,_,r=>by
  rw [List.map_cons] at r
  cases r with
  | cons h t=>exact .cons (zpu h) (zka t)
abbrev KT (H:Hp):List (List Key×V)→List (List Key×Addr×Value)→Prop:=Paired fun p q=>p.1=q.1∧H q.2.1=some (.tup (p.1.map kV))∧zcA p.2 q.2.2
theorem KT.val {H:Hp} {kvs:List (List Key×V)} {xs:List (List Key×Addr×Value)} (r:KT H kvs xs) (k:List Key):zo3 (zfU kvs k) ((atKey xs k).map (·.2)):=by
 induction r with
 | nil=>exact True.intro
 | @cons p q ps qs h t ih =>
  obtain ⟨h1,_,h2⟩:=h
  by_cases e:p.1=k
  ·have e':q.1=k:=h1.symm.trans e
   have b:atKey (q::qs) k=some q.2:=by simp [atKey,List.find?_cons,e']
   rw [zcC e,b];exact h2
  ·have e':¬ q.1=k:=fun z=>e (h1.trans z)
   have b:atKey (q::qs) k=atKey qs k:=by simp [atKey,List.find?_cons,e']
   rw [zcu e,b];exact ih
theorem KT.repl {H:Hp} {kvs:List (List Key×V)} {xs:List (List Key×Addr×Value)} (r:KT H kvs xs) (k:List Key) {y:V} {u:Value} (ry:zcA y u) :
  KT H (kvs.map fun kv=>if kv.1=k then (kv.1,y) else kv) (xs.map (putAt k u)):=by
 induction r with
 | nil=>exact .nil
 | @cons p q ps qs h t ih =>
  rw [List.map_cons,List.map_cons]
  refine .cons ?_ ih
  obtain ⟨h1,h2,h3⟩:=h
  unfold putAt
  by_cases e:p.1=k
  ·rw [if_pos e,if_pos (h1.symm.trans e)];exact ⟨h1,h2,ry⟩
  ·rw [if_neg e,if_neg (fun z=>e (h1.trans z))];exact ⟨h1,h2,h3⟩
theorem KT.put {H:Hp} {kvs:List (List Key×V)} {xs:List (List Key×Addr×Value)} (r:KT H kvs xs) (k:List Key) {b:Addr} {y:V} {u:Value} (hb:H b=some (.tup (k.map kV))) (ry:zcA y u) :
  KT H (zgq kvs k y) (storedH xs k b u):=by
 have e:(kvs.any fun kv=>decide (kv.1=k))=(atKey xs k).isSome:=by
  rw [zeN,(r.val k).isSome_eq,Option.isSome_map]
 unfold zgq storedH
 rw [e]
 by_cases q:(atKey xs k).isSome=true
 ·rw [if_pos q,if_pos q];exact r.repl k ry
 ·rw [if_neg q,if_neg q];exact Paired.snoc r ⟨rfl,hb,ry⟩
theorem KT.keeps {H H':Hp} {kvs:List (List Key×V)} {xs:List (List Key×Addr×Value)} (r:KT H kvs xs) (ht:∀ b ys,H b=some (.tup ys)→H' b=some (.tup ys)):KT H' kvs xs :=
 Paired.mapP r fun _ _ z=>⟨z.1,ht _ _ z.2.1,z.2.2⟩
section
variable {P:Program} {w:World} {H:Hp} {h:Heap} {a:Addr}
theorem zue {u:HO} (ok:HOk P w H h) (e:Rd H a u):zbO P w H h a u:=e.ok ok
theorem zsK {kvs:List (Key×V)} (ok:HOk P w H h) (e:Rd H a (.dK kvs)):kvs.length≤sizeLine∧(a == sysModules)=false∧∃ vs,KV kvs vs∧h.DictOf (zcw P w) a vs :=
 show zbO P w H h a (.dK kvs) from zue ok e
theorem ztA {kvs:List (Key×V)} (ok:HOk P w H h) (e:H a=some (.dK kvs)):kvs.length≤sizeLine∧(a == sysModules)=false∧∃ vs,KV kvs vs∧h.DictOf (zcw P w) a vs:=zsK ok (.inl e)
theorem zo2 {ks:List Key} (ok:HOk P w H h) (e:H a=some (.tup (ks.map kV))):(tupleKind (zcw P w)).is h ks a:=by
 obtain ⟨_,its,r,o,h1,h2,n,h3⟩:=(show zbO P w H h a (.tup (ks.map kV)) from ok a _ e)
 exact ⟨o,its.toArray,n,h1,h2,h3,by simpa using zka r⟩
theorem zun {kvs:List (List Key×V)} (ok:HOk P w H h) (e:Rd H a (.dT kvs)):kvs.length≤sizeLine∧(a == sysModules)=false ∧
  ∃ xs,KT H kvs xs∧h.DictOfH (tupleKind (zcw P w)) a xs:=by
 obtain ⟨z,y,xs,r,o,es,ep,h1,h2,h3,h4,h5⟩:=(show zbO P w H h a (.dT kvs) from zue ok e)
 refine ⟨z,y,xs,r,o,es,ep,h1,h2,h3,h4,fun x hx=>?_,h5⟩
 have all:∀ {l:List (List Key×V)} {m:List (List Key×Addr×Value)},KT H l m→∀ x∈m,(tupleKind (zcw P w)).is h x.1 x.2.1:=by
  intro l m q
  induction q with
  | nil=>intro x hx;exact nomatch hx
  | @cons p q ps qs hq t ih =>
   intro x hx
   rcases List.mem_cons.mp hx with e | hx
   ·subst e
    exact zo2 ok (by rw [← hq.1];exact hq.2.1)
   ·exact ih x hx
 exact all r x hx
theorem dt_of {kvs:List (List Key×V)} (ok:HOk P w H h) (e:H a=some (.dT kvs)):kvs.length≤sizeLine∧(a == sysModules)=false ∧
  ∃ xs,KT H kvs xs∧h.DictOfH (tupleKind (zcw P w)) a xs:=zun ok (.inl e)
end
def ztx (H:Hp) (a:Addr) (y:V) (r:Option V):Prop :=
 (∃ kvs k,Rd H a (.dK kvs)∧y=kV k∧r=zfU kvs k)∨∃ kvs k b,Rd H a (.dT kvs)∧y=.ref b∧H b=some (.tup (k.map kV))∧r=zfU kvs k
def zrq (H:Hp) (a:Addr) (y v:V) (H':Hp):Prop :=
 (∃ kvs k,H a=some (.dK kvs)∧y=kV k∧kvs.length<sizeLine∧H'=upd H a (.dK (zgq kvs k v))) ∨
 ∃ kvs k b,H a=some (.dT kvs)∧y=.ref b∧H b=some (.tup (k.map kV))∧kvs.length<sizeLine∧H'=upd H a (.dT (zgq kvs k v))
theorem ztx.k {H:Hp} {a:Addr} {kvs:List (Key×V)} {k:Key} (e:H a=some (.dK kvs)):ztx H a (kV k) (zfU kvs k):=.inl ⟨kvs,k,.inl e,rfl,rfl⟩
theorem zrq.k {H:Hp} {a:Addr} {kvs:List (Key×V)} {k:Key} {v:V} (e:H a=some (.dK kvs)) (hl:kvs.length<sizeLine):zrq H a (kV k) v (upd H a (.dK (zgq kvs k v))):=.inl ⟨kvs,k,e,rfl,hl,rfl⟩
section
variable {X:Cx} {pins:List (Addr×Obj)} {σ:St} {H:Hp} {s:Shared} {a:Addr} {y v:V} {u r:Value} {o:Option V} {A:Around} {E:Value→Shared→Prop}
theorem Inv.big (I:Inv X pins σ H s):sysModules<s.heap.objs.size:=by
 have h:mainGlobals<s.heap.objs.size:=(I.mod.glob.keeps I.bk).lt
 exact Nat.lt_trans (by decide) h
theorem d_in {Q:Value→Shared→Prop} (hu:A.units+1<cLine) (I:Inv X pins σ H s) (g:ztx H a y o) (ry:zcA y u) (h:∀ s',Inv X pins σ H s'→Q (.bool o.isSome) s') :
  wpAny (model X.prog X.w) A (compareOp .In u (.ref a)) Q E s:=by
 rcases g with ⟨kvs,k,e,ey,l⟩ | ⟨kvs,k,b,e,ey,eb,l⟩
 ·subst ey
  obtain ⟨z,hd,vs,rel,dd⟩:=zsK I.hok e
  refine wpAny_in_of (zpu ry) hd dd.mapOf ?_
  rw [← (rel.val k).isSome_eq,← l]
  exact h _ (I.tok _)
 ·subst ey
  cases (show u=Value.ref b from ry)
  obtain ⟨z,hd,xs,rel,dd⟩:=zun I.hok e
  refine wpAny_in_heap (tupleKind_room_in1 hu) (zo2 I.hok eb) hd dd ?_
  have q:=(rel.val k).isSome_eq
  rw [Option.isSome_map] at q
  rw [← q,← l]
  exact h _ (I.tok _)
theorem zlN {h':Heap} {t':Nat} {ob:HO} (I:Inv X pins σ H s) (mu:Mut (H a)) (hs:Heap.SameBut a s.heap h') (he:∃ q,h'.get? a=some q) (new:zbO X.prog X.w (upd H a ob) h' a ob) :
  Inv X pins σ (upd H a ob) { s with heap:=h',toks:=t' } :=
 I.write (x:=a) (e:=a) mu (.inl rfl) (fun b q hb z=>(hs.2 b hb).trans z) he new
theorem zq8 {P:Program} {w:World} {H':Hp} {h':Heap} {kvs:List (Key×V)} {vs:List (Key×Value)} (z:kvs.length≤sizeLine) (hd:(a == sysModules)=false) (rel:KV kvs vs) (dd:h'.DictOf (zcw P w) a vs) :
  zbO P w H' h' a (.dK kvs):=⟨z,hd,vs,rel,dd⟩
theorem zon {H':Hp} {Q:Unit→Shared→Prop} (hu:A.units+1<cLine) (I:Inv X pins σ H s) (g:zrq H a y v H') (ry:zcA y u) (rv:zcA v r) (h:∀ s',Inv X pins σ H' s'→Q () s') :
  wpAny (model X.prog X.w) A (setItem (.ref a) u r) Q E s:=by
 rcases g with ⟨kvs,k,e,ey,l,eH⟩ | ⟨kvs,k,b,e,ey,eb,l,eH⟩
 ·subst ey eH
  obtain ⟨z,hd,vs,rel,dd⟩:=ztA I.hok e
  have hz:vs.length≤sizeLine:=by rw [← rel.length];exact z
  have hl:(zgq kvs k v).length≤sizeLine:=by have:=zfi kvs k v;(first|lia|omega)
  refine wpAny_setItem_pairs (hsz:=hz) (zpu ry) dd fun h' dd' hs=>h _ ?_
  have he:∃ q,h'.get? a=some q:=let ⟨q,_,_,hq,_⟩:=dd';⟨q,hq⟩
  exact zlN I (by rw [e];exact True.intro) hs he (zq8 hl hd (rel.put k rv) dd')
 ·subst ey eH
  cases (show u=Value.ref b from ry)
  obtain ⟨z,hd,xs,rel,dd⟩:=dt_of I.hok e
  have hz:xs.length≤sizeLine:=by rw [← Paired.length rel];exact z
  have hl:(zgq kvs k v).length≤sizeLine:=by have:=zfi kvs k v;(first|lia|omega)
  refine wpAny_setItem_heap (hsz:=hz) (tupleKind_room_in1 hu) (zo2 I.hok eb) dd fun h' dd' hs=>h _ ?_
  obtain ⟨q,es,ep,hq,h2,h3,h4,_,h5⟩:=dd'
  refine zlN I (by rw [e];exact True.intro) hs ⟨q,hq⟩ ⟨hl,hd,_,(rel.put k eb rv).keeps fun c ys ec=>?_,q,es,ep,hq,h2,h3,h4,h5⟩
  rw [zax (ne_of ec e (fun z=>nomatch z))]
  exact ec
end
section
variable {X:Cx} {pins:List (Addr×Obj)} {σ:St} {H:Hp} {s:Shared} {a:Addr} {kvs:List (Key×V)} {k:Key} {u:Value} {A:Around} {E:Value→Shared→Prop}
theorem d_len {Q:Value→Shared→Prop} (I:Inv X pins σ H s) (e:Rd H a (.dK kvs)) (h:∀ t s',Inv X pins σ H s'→Q (.int kvs.length t) s'):wpAny (model X.prog X.w) A (call (.builtin "len") [.ref a]) Q E s:=by
 obtain ⟨z,hd,vs,rel,dd⟩:=zsK I.hok e
 refine call_len_dict hd dd (by rw [← rel.length];rw [sizeLine_eq] at z;(first|lia|omega)) ?_
 rw [← rel.length]
 exact h _ _ (I.tok _)
end
def ztt (ty td:TE):TE:=fun σ H Q=>ty σ H fun y H1=>td σ H1 fun x H2=>∃ a o,x=.ref a∧ztx H2 a y o∧Q (.bl o.isSome) H2
def zmz (td ty tv:TE):TS:=fun D σ H=>tv σ H fun v H1=>td σ H1 fun x H2=>ty σ H2 fun y H3=>∃ a H4,x=.ref a∧zrq H3 a y v H4∧D.nx σ H4
section
variable {X:Cx} {o i e value:Expr} {pos pos' tpos:Pos} {td ty tv:TE}
theorem zrn (hu:X.A.units+1<cLine) (hi:PE X i ty) (ho:PE X o td):PC X .In i o (ztt ty td):=by
 intro pins s σ H Q I h
 refine thn (hi pins s σ H _ I h) fun iv s1 ⟨y,H1,I1,ry,q1⟩=>thn (ho pins s1 σ H1 _ I1 q1) fun u s2 hQ'=>?_
 obtain ⟨x,H2,I2,rx,a,ov,ex,g,q2⟩:=hQ'
 subst ex
 obtain rfl:u=Value.ref a:=rx
 exact d_in hu I2 g ry fun s3 I3=>⟨.bl ov.isSome,H2,I3,rfl,q2⟩
theorem zoJ (hu:X.A.units+1<cLine) (ho:PE X o td) (hi:PE X i ty) (hv:PE X value tv) (hs:swapsWith value (some (.Subscript o i pos')) pos.line X.env=pure false) :
  PS X (.Assign [.Subscript o i pos'] value pos) (zmz td ty tv):=by
 intro pins s σ H D I h
 refine wpAny_Assign_Subscript (thn (hv pins s σ H _ I h) fun r s1 ⟨v,H1,I1,rv,q1⟩=>thn (ho pins s1 σ H1 _ I1 q1) fun u s2 ⟨x,H2,I2,rx,q2⟩=>thn (hi pins s2 σ H2 _ I2 q2) fun iv s3 hQ'=>?_) hs
 obtain ⟨y,H3,I3,ry,a,H4,ex,g,q3⟩:=hQ'
 subst ex
 obtain rfl:u=Value.ref a:=rx
 exact zon hu I3 g ry rv fun s4 I4=>⟨σ,H4,I4,q3⟩
end
theorem zpF {P:Program} {w:World} {H:Hp} (h:Heap) (hb:sysModules<h.objs.size):zbO P w H (h.push { cls:=.type "dict",data:=.dict #[] }) h.objs.size (.dK []) :=
 ⟨Nat.zero_le _,beq_eq_false_iff_ne.mpr (Ne.symm (Nat.ne_of_lt hb)),[],.nil,Heap.DictOf.new h⟩
section
variable {X:Cx} {pos:Pos}
end
def zml:List (TE×TE)→St→Hp→(List (V×V)→Hp→Prop)→Prop
 | [],_,H,Q=>Q [] H
 | (tk,tv)::r,σ,H,Q=>tk σ H fun x H1=>tv σ H1 fun y H2=>zml r σ H2 fun ps H3=>Q ((x,y)::ps) H3
abbrev VV:List (V×V)→List (Value×Value)→Prop:=Paired fun p q=>zcA p.1 q.1∧zcA p.2 q.2
def PPs (X:Cx) (pos:Pos) (keys:List (Option Expr)) (values:List Expr) (trs:List (TE×TE)):Prop :=
 ∀ (pins:List (Addr×Obj)) (s:Shared) (σ:St) (H:Hp) (Q:List (V×V)→Hp→Prop),Inv X pins σ H s→zml trs σ H Q →
  wpAny (model X.prog X.w) X.A (evalPairs (pairTrees keys values X.env pos)) (fun vs s'=>∃ ps H',Inv X pins σ H' s'∧VV ps vs∧Q ps H') X.xe s
theorem zsA {X:Cx} {pos:Pos}:PPs X pos [] [] []:=fun pins s σ H Q I h=>pairTrees_nil_walk ⟨[],H,I,.nil,h⟩
theorem zpv {X:Cx} {pos:Pos} {k v:Expr} {ks:List (Option Expr)} {vs:List Expr} {tk tv:TE} {trs:List (TE×TE)} (hk:PE X k tk) (hv:PE X v tv) (hr:PPs X pos ks vs trs) :
  PPs X pos (some k::ks) (v::vs) ((tk,tv)::trs):=fun pins s σ H Q I h =>
 pairTrees_cons_walk (thn (hk pins s σ H _ I h) fun u s1 ⟨x,H1,I1,rx,q1⟩=>thn (hv pins s1 σ H1 _ I1 q1) fun w2 s2 ⟨y,H2,I2,ry,q2⟩ =>
  thn (hr pins s2 σ H2 _ I2 q2) fun ws s3 ⟨ps,H3,I3,rel,q3⟩=>⟨(x,y)::ps,H3,I3,.cons ⟨rx,ry⟩ rel,q3⟩)
def zjF (kvs more:List (Key×V)):List (Key×V):=more.foldl (fun acc kv=>zgq acc kv.1 kv.2) kvs
theorem KV.merge:∀ {more:List (Key×V)} {rs:List (Key×Value)} {kvs:List (Key×V)} {vs:List (Key×Value)},KV more rs→KV kvs vs→KV (zjF kvs more) (merged vs rs):=by
 intro more rs kvs vs r
 unfold KV at r
 induction r generalizing kvs vs with
 | nil=>intro q;exact q
 | @cons p q ps qs h t ih =>
  intro r0
  have e:KV (zgq kvs p.1 p.2) (stored vs q.1 q.2):=by
   have:=r0.put p.1 h.2
   rw [← h.1];exact this
  exact ih e
theorem zfK:∀ (more kvs:List (Key×V)),(zjF kvs more).length≤kvs.length+more.length
 | [],kvs=>by show kvs.length≤kvs.length+0;(first|lia|omega)
 | p::r,kvs=>by
  have h1:=zfK r (zgq kvs p.1 p.2)
  have h2:=zfi kvs p.1 p.2
  show (zjF (zgq kvs p.1 p.2) r).length≤_
  rw [List.length_cons];(first|lia|omega)
theorem zhW {P:Program} {w:World}:∀ {kvs:List (Key×V)} {ws:List (Value×Value)},VV (kvs.map fun kv=>(kV kv.1,kv.2)) ws→∃ rs,Carries (zcw P w) ws rs∧KV kvs rs
 | [],_,r=>by rw [List.map_nil] at r;cases r;exact ⟨[],True.intro,.nil⟩
 | p::kvs,_,r=>by
  rw [List.map_cons] at r
  cases r with
  | @cons a b as bs h t =>
   obtain ⟨rs,c,q⟩:=zhW (P:=P) (w:=w) t
   obtain ⟨b1,b2⟩:=b
   exact ⟨(p.1,b2)::rs,⟨zpu h.1,rfl,c⟩,.cons ⟨rfl,h.2⟩ q⟩
def ztg (trs:List (TE×TE)):TE:=fun σ H Q=>∀ p,H p=none→zml trs σ (upd H p (.dK [])) fun ps H2=>H2 p=some (.dK [])∧∃ kvs:List (Key×V),ps=kvs.map (fun kv=>(kV kv.1,kv.2))∧kvs.length≤15∧Q (.ref p) (upd H2 p (.dK (zjF [] kvs)))
theorem zsx {X:Cx} {pos:Pos} {keys:List (Option Expr)} {values:List Expr} {trs:List (TE×TE)} (h:PPs X pos keys values trs) (hall:keys.all (·.isSome)=true) (hl:keys.length=values.length) (h0:keys≠[])
  (h15:keys.length≤15):PE X (.Dict keys values pos) (ztg trs):=by
 intro pins s σ H Q I q
 have hn:=I.hok.fresh (Nat.le_refl s.heap.objs.size)
 have I1:=I.laid (a:=s.heap.objs.size) (o:=.dK []) (h':=s.heap.push { cls:=.type "dict",data:=.dict #[] }) (t':=s.toks) (fun _ _ q=>Heap.get?_push_of_some _ q) (Nat.le_refl _) (zpF s.heap I.big)
 refine wpAny_Dict_walk (knd:=zcw X.prog X.w) hall hl h0 h15 (thn (h pins _ σ _ _ I1 (q _ hn)) fun ws s2 hQ'=>?_)
 obtain ⟨ps,H2,I2,rel,e,kvs,ep,lk,q2⟩:=hQ'
 subst ep
 obtain ⟨rs,c,rk⟩:=zhW (P:=X.prog) (w:=X.w) rel
 obtain ⟨z,hd,vs0,r0,dd⟩:=ztA I2.hok e
 cases r0
 refine ⟨rs,c,dd,fun h' dd' hs=>⟨.ref s.heap.objs.size,_,?_,rfl,q2⟩⟩
 have hz:(zjF [] kvs).length≤sizeLine:=by
  have h1:=zfK kvs []
  rw [List.length_nil] at h1
  rw [sizeLine_eq];(first|lia|omega)
 have he:∃ q,h'.get? s.heap.objs.size=some q:=let ⟨q,_,_,hq,_⟩:=dd';⟨q,hq⟩
 exact zlN I2 (by rw [e];exact True.intro) hs he (zq8 hz hd (rk.merge .nil) dd')
section
variable {X:Cx} {pins:List (Addr×Obj)} {σ:St} {H:Hp} {s:Shared} {a:Addr} {y d:V} {u r:Value} {o:Option V} {A:Around} {E:Value→Shared→Prop}
end
section
variable {X:Cx} {o e f:Expr} {apos cpos:Pos} {td ty tx:TE}
end
section
variable {X:Cx} {pins:List (Addr×Obj)} {σ:St} {H:Hp} {s:Shared} {a:Addr} {kvs:List (Key×V)} {A:Around} {E:Value→Shared→Prop}
end
section
variable {X:Cx} {pins:List (Addr×Obj)} {σ:St} {H:Hp} {s:Shared} {a:Addr} {y:V} {u:Value} {A:Around} {E:Value→Shared→Prop}
end
end L2
namespace L2
open PySem PySem.Spec PyProof.Rows
section
variable {X:Cx}
theorem zhg:zes X (.builtin "len") (fun xs H Q=>∃ a kvs,xs=[V.ref a]∧H a=some (.dK kvs)∧Q (.int kvs.length) H):=by
 intro pins s σ H xs us Q I r h
 obtain ⟨a,kvs,rfl,ha,q⟩:=h
 obtain ⟨u,rfl,ru⟩:=zfQ r
 cases ru
 exact d_len I (.inl ha) fun t s' I'=>⟨.int kvs.length,H,I',⟨t,rfl⟩,q⟩
end
end L2
namespace L2
open PySem PySem.Spec PyProof.Rows
def znh:List V→Hp→VK→Prop:=fun xs H Q=>∃ a kvs,xs=[V.ref a]∧H a=some (.dK kvs)∧Q (.int kvs.length) H
def zp9 (ta:TA):TE:=fun σ H Q=>ta σ H fun vs H1=>∃ i j:Int,vs=[.int i,.int j]∧(-(2 ^ 62)≤i∧i<2 ^ 62∧-(2 ^ 62)≤j∧j<2 ^ 62)∧∀ p,H1 p=none→Q (.ref p) (upd H1 p (.rng i j))
def zgQ:List V→Hp→VK→Prop:=fun xs H Q=>∃ (p:Addr) (i j:Int),xs=[.ref p]∧H p=some (.rng i j)∧(-(2 ^ 62)≤i∧i<2 ^ 62∧-(2 ^ 62)≤j∧j<2 ^ 62)∧j - i≤1000∧∀ l,H l=none→Q (.ref l) (upd H l (.lst ((List.range (j - i).toNat).map fun k:Nat=>V.int (i+(k:Int)))))
section
variable {X:Cx}
theorem zqT {pins:List (Addr×Obj)} {σ:St} {H:Hp} {s:Shared} {lo hi:Int} {t u v:Tok} {tk:Nat} {Q:VK} (I:Inv X pins σ H s) (q:∀ p,H p=none→Q (.ref p) (upd H p (.rng lo hi))) :
  EP X pins σ Q (.ref s.heap.objs.size) { s with heap:=s.heap.push { cls:=.type "range",data:=.fields #[.int lo t,.int hi u,.int 1 v] },toks:=tk } :=
 ⟨.ref s.heap.objs.size,_,I.laid (a:=s.heap.objs.size) (o:=.rng lo hi) (t':=tk) (fun _ _ q=>Heap.get?_push_of_some _ q) (Nat.le_refl _) (show zbO X.prog X.w _ _ _ (.rng lo hi) from ⟨t,u,v,Heap.get?_push_size _ rfl⟩),rfl,q _ (I.hok.fresh (Nat.le_refl _))⟩
theorem zsZ {a b:Expr} {ta:TA} {p pos:Pos} (hg:Gl X "range") (hm:X.mg "range"=none) (ha:PA X [a,b] ta) (hs:starEach [a,b] X.env=[(false,eval a X.env),(false,eval b X.env)]:=by rfl) (hs2:starEach [b] X.env=[(false,eval b X.env)]:=by rfl) :
  PE X (.Call (.Name "range" p) [a,b] [] pos) (zp9 ta):=by
 intro pins s σ H Q I h
 refine Call_ (zgz I hg hm boot_range (PyProof.Rows.callWith_type1 (thn (ha pos pins s σ H _ I h) fun us s1 hQ'=>?_) (by rw [hs,hs2]) (by rw [hs2];rfl)))
 obtain ⟨vs,H1,I1,r1,q1⟩:=hQ'
 obtain ⟨i,j,e,⟨q1,q2,q3,q4⟩,q⟩:=q1
 subst e
 cases r1 with
 | cons r rr =>
  cases rr with
  | cons r' rr =>
   cases rr
   obtain ⟨t,rfl⟩:=r
   obtain ⟨t',rfl⟩:=r'
   exact call_range_2 (zqT I1 q)
theorem zoG:∀ {xs:List V} {us:List Value},xs.length=us.length→(∀ (j:Nat) x u,xs[j]?=some x→us[j]?=some u→zcA x u)→zcc xs us
 | [],[],_,_=>.nil
 | [],_::_,h,_=>by simp at h
 | _::_,[],h,_=>by simp at h
 | x::xs,u::us,h,r=>.cons (r 0 x u rfl rfl) (zoG (by simpa using h) fun j y v e1 e2=>r (j+1) y v e1 e2)
theorem zm8 {lo:Int} {acc:Array Value} {n:Nat} (h:ItemsOf (fun i v=>∃ t,v=.int (lo+i*1) t) acc n):zcc ((List.range n).map fun k:Nat=>V.int (lo+(k:Int))) acc.toList:=by
 refine zoG (by rw [List.length_map,List.length_range,Array.length_toList,h.1]) fun j x u e1 e2=>?_
 rw [List.getElem?_map,Option.map_eq_some_iff] at e1
 obtain ⟨k,hk,rfl⟩:=e1
 obtain ⟨l1,l2⟩:=List.getElem?_eq_some_iff.mp hk
 rw [List.getElem_range] at l2
 subst l2
 obtain ⟨t,rfl⟩:=h.2 j u (by rw [← Array.getElem?_toList];exact e2)
 exact ⟨t,by rw [Int.mul_one]⟩
theorem zje (hc:X.calm=true):zes X (.type "list") zgQ:=by
 intro pins s σ H xs us Q I r h
 obtain ⟨p,i,j,rfl,hp,⟨h1,h2,h3,h4⟩,hl,q⟩:=h
 obtain ⟨u,rfl,rx⟩:=zfQ r
 cases rx
 obtain ⟨t,u,v,e⟩:=(show zbO X.prog X.w H s.heap p (.rng i j) from I.hok p _ hp)
 refine call_list_range (n:=(j - i).toNat) (I.ok.hd hc) e (small_one h1 h2 h3 h4) (by rw [rangeSize_one];split <;> (first|lia|omega)) (by (first|lia|omega)) fun h' tk acc c' kp e' it=>?_
 exact ⟨.ref s.heap.objs.size,_,I.laid (t':=tk) kp (Nat.le_refl _) (show zbO X.prog X.w _ h' _ (.lst _) from ⟨by simp [sizeLine_eq];(first|lia|omega),acc.toList,c',zm8 it,e'⟩),rfl,q _ (I.hok.fresh (Nat.le_refl _))⟩
end
end L2
namespace L2
open PySem PySem.Spec PyProof.Rows
theorem zdy (K:PySem.W.Frag):PySem.W.kitOne K (.type "list") (.type "tuple")=some false:=by first | rfl | kernel_rfl
theorem zeV (K:PySem.W.Frag):PySem.W.kitOne K (.type "tuple") (.type "list")=some false:=by first | rfl | kernel_rfl
theorem ziS (K:PySem.W.Frag):PySem.W.kitOne K (.type "int") (.type "tuple")=some false:=by first | rfl | kernel_rfl
theorem zjP (K:PySem.W.Frag):PySem.W.kitOne K (.type "int") (.type "list")=some false:=by first | rfl | kernel_rfl
theorem zjf (K:PySem.W.Frag):PySem.W.kitOne K (.type "str") (.type "tuple")=some false:=by first | rfl | kernel_rfl
theorem zkA (K:PySem.W.Frag):PySem.W.kitOne K (.type "str") (.type "list")=some false:=by first | rfl | kernel_rfl
theorem zkj (K:PySem.W.Frag):PySem.W.kitOne K (.type "str") (.type "bool")=some false:=by first | rfl | kernel_rfl
theorem zlp (K:PySem.W.Frag):PySem.W.kitOne K (.type "str") (.type "int")=some false:=by first | rfl | kernel_rfl
theorem zdw {K:PySem.W.Frag} {H:Hp} {Q:VK} {x:V} {t c:String} {b:Bool} (h:zl9 K H x (.type t)) (e:PySem.W.kitOne K (.type t) (.type c)=some b) (q:Q (.bl b) H):zdF K [x,.ty c] H Q:=⟨_,_,_,_,b,rfl,rfl,.of h,e,q⟩
end L2
namespace L2
open PySem PySem.Spec PyProof.Rows
def rNeE (K:PySem.W.Frag):R2:=fun x y H Q=>∃ a b xs,x=.ref a∧y=.ref b∧SqL K H a xs∧SqL K H b []∧Q (.bl (!xs.isEmpty)) H
section
variable {X:Cx}
theorem zuP (hu:X.A.units+64<cLine):OpR X (compareOp .NotEq) (rNeE X.K):=by
 intro pins s σ H x y v u Q I rx ry h
 obtain ⟨a,b,xs,rfl,rfl,ha,hb,q⟩:=h
 cases rx
 cases ry
 obtain ⟨us,r1,p1,_⟩:=I.list ha
 obtain ⟨vs,r2,p2,_⟩:=I.list hb
 cases r2
 cases xs with
 | nil =>
  cases r1
  have z:=SeqAt.RcNeAt.lists (A:=X.A) p1.isList p2.isList rfl (by (first|lia|omega)) (e:=fun _=>true) (fun j h1 h2=>absurd h1 (Nat.not_lt_zero _))
  exact z X.prog X.w X.xe _ ⟨.bl false,H,I,rfl,q⟩
 | cons y ys =>
  have z:=SeqAt.RcNeAt.lists_lengths (A:=X.A) p1.isList p2.isList (by rw [List.size_toArray,List.size_toArray,← r1.length];rfl) (by (first|lia|omega))
  exact z X.prog X.w X.xe _ ⟨.bl true,H,I,rfl,q⟩
end
end L2
namespace L2
open PySem
theorem zrW {v:V} {σ:List (Option V)} {H:Hp} {Q:VK}:zac 0 (some v::σ) H Q=Q v H:=by simp [zac]
theorem zs1 {x0:Option V} {v:V} {σ:List (Option V)} {H:Hp} {Q:VK}:zac 1 (x0::some v::σ) H Q=Q v H:=by simp [zac]
theorem zr1 {x0 x1:Option V} {v:V} {σ:List (Option V)} {H:Hp} {Q:VK}:zac 2 (x0::x1::some v::σ) H Q=Q v H:=by simp [zac]
theorem zrG {x0 x1 x2:Option V} {v:V} {σ:List (Option V)} {H:Hp} {Q:VK}:zac 3 (x0::x1::x2::some v::σ) H Q=Q v H:=by simp [zac]
theorem zr7 {x0 x1 x2 x3:Option V} {v:V} {σ:List (Option V)} {H:Hp} {Q:VK}:zac 4 (x0::x1::x2::x3::some v::σ) H Q=Q v H:=by simp [zac]
theorem zsf {x0 x1 x2 x3 x4:Option V} {v:V} {σ:List (Option V)} {H:Hp} {Q:VK}:zac 5 (x0::x1::x2::x3::x4::some v::σ) H Q=Q v H:=by simp [zac]
theorem zrI {x0 x1 x2 x3 x4 x5:Option V} {v:V} {σ:List (Option V)} {H:Hp} {Q:VK}:zac 6 (x0::x1::x2::x3::x4::x5::some v::σ) H Q=Q v H:=by simp [zac]
theorem ztk {x0 x1 x2 x3 x4 x5 x6:Option V} {v:V} {σ:List (Option V)} {H:Hp} {Q:VK}:zac 7 (x0::x1::x2::x3::x4::x5::x6::some v::σ) H Q=Q v H:=by simp [zac]
theorem zsg {x0 x1 x2 x3 x4 x5 x6 x7:Option V} {v:V} {σ:List (Option V)} {H:Hp} {Q:VK}:zac 8 (x0::x1::x2::x3::x4::x5::x6::x7::some v::σ) H Q=Q v H:=by simp [zac]
theorem zrH {x0 x1 x2 x3 x4 x5 x6 x7 x8:Option V} {v:V} {σ:List (Option V)} {H:Hp} {Q:VK}:zac 9 (x0::x1::x2::x3::x4::x5::x6::x7::x8::some v::σ) H Q=Q v H:=by simp [zac]
theorem zqn {x0 x1 x2 x3 x4 x5 x6 x7 x8 x9:Option V} {v:V} {σ:List (Option V)} {H:Hp} {Q:VK}:zac 10 (x0::x1::x2::x3::x4::x5::x6::x7::x8::x9::some v::σ) H Q=Q v H:=by simp [zac]
theorem zqI {x0 x1 x2 x3 x4 x5 x6 x7 x8 x9 x10:Option V} {v:V} {σ:List (Option V)} {H:Hp} {Q:VK}:zac 11 (x0::x1::x2::x3::x4::x5::x6::x7::x8::x9::x10::some v::σ) H Q=Q v H:=by simp [zac]
theorem zp0 {x0 x1 x2 x3 x4 x5 x6 x7 x8 x9 x10 x11:Option V} {v:V} {σ:List (Option V)} {H:Hp} {Q:VK}:zac 12 (x0::x1::x2::x3::x4::x5::x6::x7::x8::x9::x10::x11::some v::σ) H Q=Q v H:=by simp [zac]
theorem zqe {x0 x1 x2 x3 x4 x5 x6 x7 x8 x9 x10 x11 x12:Option V} {v:V} {σ:List (Option V)} {H:Hp} {Q:VK}:zac 13 (x0::x1::x2::x3::x4::x5::x6::x7::x8::x9::x10::x11::x12::some v::σ) H Q=Q v H:=by simp [zac]
theorem zp5 {x0 x1 x2 x3 x4 x5 x6 x7 x8 x9 x10 x11 x12 x13:Option V} {v:V} {σ:List (Option V)} {H:Hp} {Q:VK}:zac 14 (x0::x1::x2::x3::x4::x5::x6::x7::x8::x9::x10::x11::x12::x13::some v::σ) H Q=Q v H:=by simp [zac]
theorem zpL {x0 x1 x2 x3 x4 x5 x6 x7 x8 x9 x10 x11 x12 x13 x14:Option V} {v:V} {σ:List (Option V)} {H:Hp} {Q:VK}:zac 15 (x0::x1::x2::x3::x4::x5::x6::x7::x8::x9::x10::x11::x12::x13::x14::some v::σ) H Q=Q v H:=by simp [zac]
theorem zqV {x0:Option V} {v:V} {σ:List (Option V)} {H:Hp} {Q:St→Hp→Prop}:zai 0 v (x0::σ) H Q=Q (some v::σ) H:=rfl
theorem zpp {x0 x1:Option V} {v:V} {σ:List (Option V)} {H:Hp} {Q:St→Hp→Prop}:zai 1 v (x0::x1::σ) H Q=Q (x0::some v::σ) H:=rfl
theorem zqG {x0 x1 x2:Option V} {v:V} {σ:List (Option V)} {H:Hp} {Q:St→Hp→Prop}:zai 2 v (x0::x1::x2::σ) H Q=Q (x0::x1::some v::σ) H:=rfl
theorem zpq {x0 x1 x2 x3:Option V} {v:V} {σ:List (Option V)} {H:Hp} {Q:St→Hp→Prop}:zai 3 v (x0::x1::x2::x3::σ) H Q=Q (x0::x1::x2::some v::σ) H:=rfl
theorem zpo {x0 x1 x2 x3 x4:Option V} {v:V} {σ:List (Option V)} {H:Hp} {Q:St→Hp→Prop}:zai 4 v (x0::x1::x2::x3::x4::σ) H Q=Q (x0::x1::x2::x3::some v::σ) H:=rfl
theorem zqD {x0 x1 x2 x3 x4 x5:Option V} {v:V} {σ:List (Option V)} {H:Hp} {Q:St→Hp→Prop}:zai 5 v (x0::x1::x2::x3::x4::x5::σ) H Q=Q (x0::x1::x2::x3::x4::some v::σ) H:=rfl
theorem zqK {x0 x1 x2 x3 x4 x5 x6:Option V} {v:V} {σ:List (Option V)} {H:Hp} {Q:St→Hp→Prop}:zai 6 v (x0::x1::x2::x3::x4::x5::x6::σ) H Q=Q (x0::x1::x2::x3::x4::x5::some v::σ) H:=rfl
theorem zqy {x0 x1 x2 x3 x4 x5 x6 x7:Option V} {v:V} {σ:List (Option V)} {H:Hp} {Q:St→Hp→Prop}:zai 7 v (x0::x1::x2::x3::x4::x5::x6::x7::σ) H Q=Q (x0::x1::x2::x3::x4::x5::x6::some v::σ) H:=rfl
theorem zpV {x0 x1 x2 x3 x4 x5 x6 x7 x8:Option V} {v:V} {σ:List (Option V)} {H:Hp} {Q:St→Hp→Prop}:zai 8 v (x0::x1::x2::x3::x4::x5::x6::x7::x8::σ) H Q=Q (x0::x1::x2::x3::x4::x5::x6::x7::some v::σ) H:=rfl
theorem zp6 {x0 x1 x2 x3 x4 x5 x6 x7 x8 x9:Option V} {v:V} {σ:List (Option V)} {H:Hp} {Q:St→Hp→Prop}:zai 9 v (x0::x1::x2::x3::x4::x5::x6::x7::x8::x9::σ) H Q=Q (x0::x1::x2::x3::x4::x5::x6::x7::x8::some v::σ) H:=rfl
theorem zoZ {x0 x1 x2 x3 x4 x5 x6 x7 x8 x9 x10:Option V} {v:V} {σ:List (Option V)} {H:Hp} {Q:St→Hp→Prop}:zai 10 v (x0::x1::x2::x3::x4::x5::x6::x7::x8::x9::x10::σ) H Q=Q (x0::x1::x2::x3::x4::x5::x6::x7::x8::x9::some v::σ) H:=rfl
theorem zoT {x0 x1 x2 x3 x4 x5 x6 x7 x8 x9 x10 x11:Option V} {v:V} {σ:List (Option V)} {H:Hp} {Q:St→Hp→Prop}:zai 11 v (x0::x1::x2::x3::x4::x5::x6::x7::x8::x9::x10::x11::σ) H Q=Q (x0::x1::x2::x3::x4::x5::x6::x7::x8::x9::x10::some v::σ) H:=rfl
theorem znM {x0 x1 x2 x3 x4 x5 x6 x7 x8 x9 x10 x11 x12:Option V} {v:V} {σ:List (Option V)} {H:Hp} {Q:St→Hp→Prop}:zai 12 v (x0::x1::x2::x3::x4::x5::x6::x7::x8::x9::x10::x11::x12::σ) H Q=Q (x0::x1::x2::x3::x4::x5::x6::x7::x8::x9::x10::x11::some v::σ) H:=rfl
theorem zn8 {x0 x1 x2 x3 x4 x5 x6 x7 x8 x9 x10 x11 x12 x13:Option V} {v:V} {σ:List (Option V)} {H:Hp} {Q:St→Hp→Prop}:zai 13 v (x0::x1::x2::x3::x4::x5::x6::x7::x8::x9::x10::x11::x12::x13::σ) H Q=Q (x0::x1::x2::x3::x4::x5::x6::x7::x8::x9::x10::x11::x12::some v::σ) H:=rfl
theorem rI_c {C:Int→Int→Prop} {g:Int→Int→V} {a b:Int} {H:Hp} {Q:VK}:rI C g (.int a) (.int b) H Q=(C a b∧Q (g a b) H):=by simp [rI]
theorem rI0_c {g:Int→Int→V} {a b:Int} {H:Hp} {Q:VK}:rI0 g (.int a) (.int b) H Q=Q (g a b) H:=by simp [rI0]
theorem zt8 {K:PySem.W.Frag} {p:Addr} {i:Int} {H:Hp} {Q:VK}:zcR K (.ref p) (.int i) H Q=∃ xs,SqL K H p xs∧∃ v,atI xs i=some v∧Q v H:=by simp [zcR]
theorem zt0 {K:PySem.W.Frag} {p:Addr} {i:Int} {H:Hp} {Q:VK}:zpf K (.ref p) (.int i) H Q=∃ xs,SqT K H p xs∧∃ v,atI xs i=some v∧Q v H:=by simp [zpf]
theorem ex_bl {c:Bool} {Q:Bool→Prop}:(∃ k,V.bl c=V.bl k∧Q k)=Q c:=by simp
theorem zuM {c:Int} {Q:Int→Prop}:(∃ k,V.int c=V.int k∧Q k)=Q c:=by simp
theorem zuR {c:Addr} {Q:Addr→Prop}:(∃ k,V.ref c=V.ref k∧Q k)=Q c:=by simp
theorem ztH {c:Int} {Q:Int→Prop}:(∃ k,[V.int c]=[V.int k]∧Q k)=Q c:=by simp
theorem ztL {c:Addr} {Q:Addr→Prop}:(∃ k,[V.ref c]=[V.ref k]∧Q k)=Q c:=by simp
end L2
namespace Att
open PySem PySem.W PySem.Calls PyProof.Rows
theorem zht {x:Int}:∀ {ns:List Int},x∈ns→WData.weight (.int x)≤WData.weightAll (ns.map WData.int)
 | [],h=>absurd h (List.not_mem_nil)
 | y::ns,h=>by
  rw [List.map_cons,WData.weightAll]
  rcases List.mem_cons.mp h with e | e
  ·rw [← e]
   (first|lia|omega)
  ·have:=zht e
   (first|lia|omega)
theorem zsC {ns:List Int} (h:WData.layableAll [WData.list (ns.map WData.int)]=true):∀ x∈ns,x.natAbs<2 ^ 2 ^ 20:=by
 intro x hx
 have h1:(WData.list (ns.map WData.int)).layable=true:=(layW_cons h).1
 have h2:WData.weight (.list (ns.map WData.int))≤2 ^ 20:=by
  unfold WData.layable at h1
  rw [Bool.and_eq_true] at h1
  exact of_decide_eq_true h1.2
 rw [WData.weight] at h2
 have h3:=Nat.le_trans (zht hx) h2
 rw [WData.weight] at h3
 by_cases h0:x=0
 ·subst h0
  exact Nat.two_pow_pos _
 ·rw [if_neg (by simpa using h0)] at h3
  have hn:x.natAbs≠0:=fun e=>h0 (Int.natAbs_eq_zero.mp e)
  exact (Nat.log2_lt hn).mp h3
theorem attach_callL {l:OpenLaw} {n:Nat} {q:Program} {loose:List Str} {XP:(Str→Option Value)→Heap→Prop} {YP:World→Heap→Prop} {d:DefRec}
  (hn:l.most=some n) (hdf:d.params.defaults=[])
  (call:∀ (w:World) (s₀ s₁:Shared) (mg mb:Str→Option Value) (fa:Addr) (o:Obj) (pm cd doc:Value) (a:Addr) (vs:List Value) (ns:List Int),(∀ x∈ns,x.natAbs<2 ^ 2 ^ 20) →
   Ground q loose [] XP w s₀ mg mb s₁.heap→YP w s₁.heap →
   s₁.heap.get? fa=some o→o.data=.func (docDef d.name d.params d.body d.scope pm cd doc)→s₁.heap.CodeRec cd d.name→mg d.name=some (.ref fa) →
   s₁.heap.get? a=some { cls:=.type "list",data:=.seq vs.toArray }→IntsAre vs ns→ns.length≤n→s₁.gens=#[] →
   codeAny (model l.prog w) callerA (.call (.ref fa) ⟨[.ref a],[]⟩) (fun r s'=>r=.ok (.ret (.bool true))∧OldK s₁.heap s'.heap∧s'.os=s₁.os∧AllBare s'.gens) s₁) :
  WalkO q loose XP YP l.row.toRowW d [] (fun f vs=>PySem.call f vs):=by
 intro w s₀ s₁ mg mb G Y fa o pm cd doc dV kV ho hd hcd hD hmg hg args vals as hpre hlay hrd hwl hlo
 obtain rfl:dV=.none:=Dflts.none hD hdf
 obtain rfl:kV=.none:=Dflts.noKw hD
 obtain ⟨a,vs,ns,rfl,rfl,hobj,hints,hlen⟩:=znV hn hpre hwl
 refine enter_call (codeAny_mono (call w s₀ s₁ mg mb fa o pm cd doc a vs ns (zsC hlay) G Y ho (fd_plain hd) hcd hmg hobj hints hlen hg) fun r s' hq=>?_)
 obtain ⟨rfl,h2,h3,h4⟩:=hq
 exact ⟨.inl ⟨.bool true,.bool true,[],rfl,fun _=>rfl,.bool true,zoM l _,fun _=>⟨List.Pairwise.nil,fun _ hm=>(nomatch hm)⟩⟩,h2,h3,h4⟩
end Att
namespace L2
open PySem PySem.Spec PyProof.Rows
end L2
namespace L2
open PySem PySem.Spec PyProof.Rows
section
variable {α β:Type}
def Kd:Sem α→Prop
 | .pure _=>True
 | .raise _=>True
 | .unsupported _=>True
 | .finish _=>True
 | .rule _ k=>Kd (k ())
 | .at _ k=>Kd (k ())
 | .load _ _ k=>∀ o,Kd (k o)
 | .update _ _ f k=>(∀ o:Obj,(f o).dict=o.dict∧(f o).isFreed=o.isFreed)∧Kd (k ())
 | .alloc _ k=>∀ a,Kd (k a)
 | .loadIfAlive _ k=>∀ o,Kd (k o)
 | .point _ k=>Kd (k ())
 | .fresh k=>∀ n,Kd (k n)
 | .ask k=>∀ n,Kd (k n)
 | .handled _ k=>∀ n,Kd (k n)
 | .stack k=>∀ l,Kd (k l)
 | .thread k=>∀ n,Kd (k n)
 | _=>False
theorem za4 {f:α→Sem β} (hf:∀ x,Kd (f x)):∀ {t:Sem α},Kd t→Kd (t >>= f)
 | .pure a,_=>hf a
 | .raise _,_=>trivial
 | .unsupported _,_=>trivial
 | .finish _,_=>trivial
 | .rule _ k,h=>za4 hf (t:=k ()) h
 | .at _ k,h=>za4 hf (t:=k ()) h
 | .load _ _ k,h=>fun o=>za4 hf (t:=k o) (h o)
 | .update _ _ _ k,h=>⟨h.1,za4 hf (t:=k ()) h.2⟩
 | .alloc _ k,h=>fun o=>za4 hf (t:=k o) (h o)
 | .loadIfAlive _ k,h=>fun o=>za4 hf (t:=k o) (h o)
 | .point _ k,h=>za4 hf (t:=k ()) h
 | .fresh k,h=>fun o=>za4 hf (t:=k o) (h o)
 | .ask k,h=>fun o=>za4 hf (t:=k o) (h o)
 | .handled _ k,h=>fun o=>za4 hf (t:=k o) (h o)
 | .stack k,h=>fun o=>za4 hf (t:=k o) (h o)
 | .thread k,h=>fun o=>za4 hf (t:=k o) (h o)
 | .register ..,h=>h.elim
 | .choose ..,h=>h.elim
 | .os ..,h=>h.elim
 | .call ..,h=>h.elim
 | .newGen ..,h=>h.elim
 | .genState ..,h=>h.elim
 | .resume ..,h=>h.elim
 | .yield ..,h=>h.elim
 | .fork ..,h=>h.elim
 | .await ..,h=>h.elim
def zjL (e:Addr) (od:Option Addr) (h:Heap):Prop:=∃ o,h.get? e=some o∧o.dict=od
theorem zf9 {M:Model} {Γ:PySem.Ctx} {Q:α→Pos→Shared→Prop} {E:Value→Pos→Shared→Prop} {e:Addr} {od:Option Addr}:∀ {t:Sem α} {p:Pos} {s:Shared},Kd t→zjL e od s.heap→Sem.wp M Γ t Q E p s →
  Sem.wp M Γ t (fun a p s'=>Q a p s'∧zjL e od s'.heap) E p s
 | .pure _,_,_,_,d,h=>⟨h,d⟩
 | .raise _,_,_,_,_,h=>h
 | .unsupported _,_,_,_,_,h=>h
 | .finish _,_,_,_,_,h=>h
 | .rule _ k,_,_,c,d,h=>zf9 (t:=k ()) c d h
 | .at _ k,_,_,c,d,h=>zf9 (t:=k ()) c d h
 | .load _ _ k,_,_,c,d,⟨o,ho,h⟩=>⟨o,ho,zf9 (t:=k o) (c o) d h⟩
 | .update a _ f k,p,s,c,d,⟨hi,h⟩=>by
  refine ⟨hi,zf9 (t:=k ()) c.2 ?_ h⟩
  obtain ⟨o,ho,hd⟩:=d
  by_cases ea:a=e
  ·subst ea
   have nf:o.isFreed=false:=(Heap.get?_some_iff.mp ho).2
   exact ⟨f o,Heap.get?_update_self f ho (by rw [(c.1 o).2];exact nf),by rw [(c.1 o).1];exact hd⟩
  ·exact ⟨o,(Heap.get?_update_other _ f ea).trans ho,hd⟩
 | .alloc o k,p,s,c,⟨o',ho,hd⟩,h=>zf9 (t:=k _) (c _) ⟨o',Heap.get?_push_of_some _ ho,hd⟩ h
 | .loadIfAlive _ k,_,_,c,d,h=>zf9 (t:=k _) (c _) d h
 | .point _ k,_,_,c,d,h=>zf9 (t:=k ()) c d h
 | .fresh k,_,_,c,d,h=>zf9 (t:=k _) (c _) d h
 | .ask k,_,_,c,d,h=>zf9 (t:=k _) (c _) d h
 | .handled _ k,_,_,c,d,h=>zf9 (t:=k _) (c _) d h
 | .stack k,_,_,c,d,h=>zf9 (t:=k _) (c _) d h
 | .thread k,_,_,c,d,h=>zf9 (t:=k _) (c _) d h
 | .register ..,_,_,c,_,_=>c.elim
 | .choose ..,_,_,c,_,_=>c.elim
 | .os ..,_,_,c,_,_=>c.elim
 | .call ..,_,_,c,_,_=>c.elim
 | .newGen ..,_,_,c,_,_=>c.elim
 | .genState ..,_,_,c,_,_=>c.elim
 | .resume ..,_,_,c,_,_=>c.elim
 | .yield ..,_,_,c,_,_=>c.elim
 | .fork ..,_,_,c,_,_=>c.elim
 | .await ..,_,_,c,_,_=>c.elim
theorem zh4 {M:Model} {A:Around} {t:Sem α} {Q:α→Shared→Prop} {E:Value→Shared→Prop} {s:Shared} {e:Addr} {od:Option Addr} (c:Kd t) (d:zjL e od s.heap) (h:wpAny M A t (fun a s'=>zjL e od s'.heap→Q a s') E s):wpAny M A t Q E s:=fun Γ p hΓ =>
 Sem.wp_mono M Γ t (fun _ _ _ z=>z.1 z.2) (fun _ _ _ z=>z) p s (zf9 c d (h Γ p hΓ))
end
theorem zkp (f:Array Value→Array Value) (o:Obj):(Obj.mapFields f o).dict=o.dict∧(Obj.mapFields f o).isFreed=o.isFreed:=by
 obtain ⟨c,d,dat,sl⟩:=o
 cases dat <;> exact ⟨rfl,rfl⟩
theorem zb7 {α:Type} (a:α):Kd (pure a:Sem α):=trivial
theorem zeZ {α:Type} (w:String):Kd (unsupported w:Sem α):=trivial
theorem zld (a:Addr):Kd (load a):=fun _=>trivial
theorem zi8:Kd stack:=fun _=>trivial
theorem zqW (o:Obj):Kd (alloc o):=fun _=>trivial
theorem zrm {a:Addr} {f:Obj→Obj} (h:∀ o:Obj,(f o).dict=o.dict∧(f o).isFreed=o.isFreed):Kd (update a f):=⟨h,trivial⟩
theorem zj6 {α:Type} {c:Prop} [Decidable c] {a b:Sem α} (h1:Kd a) (h2:Kd b):Kd (if c then a else b):=by
 split
 ·exact h1
 ·exact h2
theorem zgT (v:Value) (i:Nat):Kd (field v i):=by
 unfold field fieldsOf
 refine za4 (fun x=>?_) ?_
 ·split
  ·exact zb7 _
  ·exact zeZ _
 ·split
  ·refine za4 (fun o=>?_) (zld _)
   split
   ·exact zb7 _
   ·exact zeZ _
  ·exact zeZ _
theorem zfq (v:Value) (i:Nat) (x:Value):Kd (setField v i x):=by
 unfold setField updateField
 split
 ·refine za4 (fun o=>?_) (zld _)
  split
  ·exact zj6 (zrm (zkp _)) (zeZ _)
  ·exact zeZ _
 ·exact zeZ _
theorem zkE (ty:String) (vs:List Value):Kd (newFields ty vs):=by
 unfold newFields newObj newObjAsIs
 simp only
 split
 ·exact zeZ _
 ·exact za4 (fun _=>zb7 _) (zqW _)
theorem ze3:∀ l:List Env,Kd (readyFrames l)
 | []=>trivial
 | env::outer=>by
  have ih:=ze3 outer
  unfold readyFrames
  split
  ·refine za4 (fun o=>?_) (zld _)
   refine zj6 (zb7 _) ?_
   refine za4 (fun im=>?_) ?_
   ·refine za4 (fun bk=>?_) ?_
    ·exact za4 (fun _=>ih) (zrm fun o=>⟨rfl,by obtain ⟨c,d,dat,sl⟩:=o;cases dat <;> rfl⟩)
    ·unfold keptBack underTheClaimsCaller
     split
     ·refine zj6 (zb7 _) ?_
      exact za4 (fun _=>zb7 _) (za4 (fun _=>zb7 _) zi8)
     ·exact zb7 _
   ·unfold behindIsImport
    refine zj6 (zb7 _) (zj6 (zb7 _) ?_)
    exact za4 (fun _=>zb7 _) (zgT _ _)
  ·exact zeZ _
theorem zmq (env:Env):Kd (PySem.frameOf env):=by
 unfold PySem.frameOf frameEnvs
 refine za4 (fun x=>?_) (za4 (fun _=>zb7 _) zi8)
 refine za4 (fun y=>?_) ?_
 ·split
  ·exact zb7 _
  ·exact zeZ _
 ·unfold frameObject
  split
  ·exact zb7 _
  ·exact za4 (fun _=>zb7 _) (ze3 _)
theorem zhq (f:Addr) (b:Bool):Kd (entryPlaceOf f b):=by
 unfold entryPlaceOf
 refine za4 (fun x=>?_) zi8
 split
 ·exact zb7 _
 ·exact zb7 _
theorem zgw (e:Value) (env:Env):Kd (noteFrame e env):=by
 unfold noteFrame EntryCells.newEntry
 split
 ·refine za4 (fun head=>?_) (zgT _ _)
  have zkR:∀ f:Addr,Kd (do let a ← PySem.frameOf env;let pl ← entryPlaceOf f (head != .none);let b ← newFields "traceback" ([head,a,.none,rawInt f,.none]++(if pl.isEmpty then List.replicate 6 .none else pl));setField e 1 b):=fun f =>
   za4 (fun _=>za4 (fun _=>za4 (fun _=>zfq _ _ _) (zkE _ _)) (zhq _ _)) (zmq _)
  refine zj6 ?_ (zkR _)
  refine za4 (fun x=>zj6 (zb7 _) ?_) (zgT _ _)
  exact za4 (fun _=>zkR _) (zfq _ _ _)
 ·exact zeZ _
theorem zeu (e:Value) (f:Option Addr):Kd (setFlight e f):=by
 unfold setFlight
 exact za4 (fun _=>zj6 (zfq _ _ _) (zb7 _)) (zgT _ _)
theorem zf4 (env:Env) (e:Value):Kd (leaving env e):=by
 unfold leaving
 exact za4 (fun _=>zeu _ _) (zgw _ _)
structure ExI (K:PySem.W.Frag) (C fI:Addr):Prop where
 lk:∃ nm q N bs bm sn sub ab col dd k0 k1 k2 k3 k5,K.lookup C=some (excClassObj nm q C N bs bm true sn sub ab col dd k0 k1 k2 k3 k5 "ValueError.__new__")∧PySem.W.tailIn K zf3 bm=true
 ini:PySem.W.findIn K (.ref C) "__init__"=some (some (.ref fI))
 fn:PySem.W.isFn K (.ref fI)=true
 kp:PySem.W.keepIn K (.ref C)=true
 mo:PySem.W.mroIn K C (.type "object")=some true
 sa:PySem.W.findIn K (.ref C) "__setattr__"=some (some (.builtin "object.__setattr__"))
section
variable {K:PySem.W.Frag} {prog:Program} {w:World} {A:Around} {E:Value→Shared→Prop} {h:Heap} {g:Array GenState} {d:Drawn} {t:Nat} {os:OsState} {C fI:Addr} {us:List Value}
theorem zrR {bm:List Value} {nm q:Str} {N:Addr} {bs:List Value} {hdct:Bool} {sn:List Str} {sub:List Value} {ab:Bool} {col:Option Bool} {dd:Option Addr} {k0 k1 k2 k3 k5:Option Value} {Q:Fin→Shared→Prop} (X:K.In h) (Z:ExI K C fI)
  (kC:h.get? C=some (excClassObj nm q C N bs bm hdct sn sub ab col dd k0 k1 k2 k3 k5 "ValueError.__new__")) (T:OwnTail h zf3 bm) (hl:us.length≤sizeLine)
  (hq:∀ h1 x,x=h.objs.size+1→Heap.MadeExcOf h h1 x (.ref C) us→wpAny (model prog w) A (call (.ref fI) (.ref x::us)) (fun r s'=>r=.none∧Q (.done (.ret (.ref x))) s') E ⟨h1,g,d,t,os⟩) :
  wpAny (model prog w) A (Builtin.«type.__call__» ⟨.ref C::us,[]⟩) Q E ⟨h,g,d,t,os⟩:=by
 have F:=PySem.F.excBase_ValueError
 repeat (first | (with_reducible refine wpAny_loadPart_at kC ?_) | (with_reducible refine wpAny_madeBy_exc kC ?_) | wp_step)
 refine codeAny_call_builtin_code (Code.quiet_builtin _ F.quiet) (wpAny_check_new_subT F T kC (codeAny_exc_new_subT F T kC ?_ hl))
 show wpAny _ _ _ _ _ _
 have st:∀ b o,h.get? b=some o→((h.push { cls:=.type "tuple",data:=.seq us.toArray }).push { cls:=.ref C,data:=.fields #[.ref h.objs.size,.none,.none,.none,.bool false,.none] }).get? b=some o :=
  fun b o e=>Heap.get?_push_of_some _ (Heap.get?_push_of_some _ e)
 have gx:((h.push { cls:=.type "tuple",data:=.seq us.toArray }).push { cls:=.ref C,data:=.fields #[.ref h.objs.size,.none,.none,.none,.bool false,.none] }).get? (h.objs.size+1) =
   some { cls:=.ref C,data:=.fields #[.ref h.objs.size,.none,.none,.none,.bool false,.none] }:=by heap_get
 have gt:((h.push { cls:=.type "tuple",data:=.seq us.toArray }).push { cls:=.ref C,data:=.fields #[.ref h.objs.size,.none,.none,.none,.bool false,.none] }).get? h.objs.size =
   some { cls:=.type "tuple",data:=.seq us.toArray }:=Heap.get?_push_of_some _ (Heap.get?_push_at rfl rfl)
 generalize ((h.push { cls:=.type "tuple",data:=.seq us.toArray }).push { cls:=.ref C,data:=.fields #[.ref h.objs.size,.none,.none,.none,.bool false,.none] })=h1 at st gx gt ⊢
 have X1:K.In h1:=fun a o e=>st a o (X a o e)
 have k1:=st _ _ kC
 have LI:=PySem.W.looks_findIn (M:=model prog w) X1 Z.ini
 have cC:(Value.ref C::bm).contains (.ref C)=true:=by simp
 unfold isInstance
 repeat (first | (with_reducible refine wpAny_loadPart_at gx ?_) | (with_reducible refine wpAny_isSubtype_exc k1 ?_;rw [cC]) | (with_reducible refine LI.at ?_) | wp_step)
 refine (PySem.W.bind_fn (M:=model prog w) X1 (.ref (h.objs.size+1)) (beq_iff_eq.mp Z.fn)).at ?_
 refine wpAny_bind (wpAny_mono (hq h1 (h.objs.size+1) rfl ⟨st,Heap.get?_none_of_le (Nat.le_succ _),h.objs.size,gx,Heap.get?_none_of_le (Nat.le_refl _),gt⟩) (fun r s' z=>?_) fun _ _ z=>z)
 obtain ⟨rfl,z⟩:=z
 refine wpAny_pure ?_
 wp_walk
 exact z
theorem zoi {Q:Value→Shared→Prop} (X:K.In h) (Z:ExI K C fI) (hl:us.length≤sizeLine)
  (hq:∀ h1 x,x=h.objs.size+1→Heap.MadeExcOf h h1 x (.ref C) us→wpAny (model prog w) (A.under (.builtin "type.__call__" ⟨.ref C::us,[]⟩)) (call (.ref fI) (.ref x::us)) (fun r s'=>r=.none∧Q (.ref x) s') E ⟨h1,g,d,t,os⟩) :
  wpAny (model prog w) A (call (.ref C) us) Q E ⟨h,g,d,t,os⟩:=by
 obtain ⟨nm,q,N,bs,bm,sn,sub,ab,col,dd,k0,k1,k2,k3,k5,lk,tl⟩:=Z.lk
 have kC:=X _ _ lk
 have l1:=tc_lookup
 have l2:=tc_bind (.ref C)
 have l3:(⟨h,g,d,t,os⟩:Shared).TypeIs (.ref C) "type":=⟨_,kC,rfl⟩
 refine wpAny_call (codeAny_of_tree ?_)
 show wpAny _ _ (callAny (.ref C) _) _ _ _
 repeat (any_goals (first | assumption | (with_reducible refine wpAny_loadPart_at kC ?_) | wp_step))
 refine ⟨rfl,codeAny_call_builtin_at (Code.quiet_builtin _ (by decide +kernel)) entry_typeCall (wpAny_check_type_call_sub kC ?_)⟩
 exact zrR X Z kC (PySem.W.tail_of_in X tl) hl hq
end
def znq (x:Addr) (C:Addr):HO:=.ext fun h=>∃ o t0,h.get? x=some o∧o.cls=.ref C∧o.dict=none∧o.data=.fields #[.ref t0,.none,.none,.none,.bool false,.none]
def znu (x:Addr) (C dx:Addr):HO:=.ext fun h=>∃ o t0,h.get? x=some o∧o.cls=.ref C∧o.dict=some dx∧o.data=.fields #[.ref t0,.none,.none,.none,.bool false,.none]
structure ExB (K:PySem.W.Frag) (D:Addr):Prop where
 sg:PySem.W.specialIn K (.ref D) "__getattribute__"=some (some (.builtin "type.__getattribute__"))
 rd:PySem.W.readsIn K D (.type "type")=true
 fc:PySem.W.findCls K (.ref D) (.type "type") "__init__"=some (.val (.builtin "ValueError.__init__"))
theorem zpA {H:Hp} {x:Addr} {o:HO} (h:H x=some o):upd H x o=H:=by
 funext b
 unfold upd
 split
 ·rename_i e
  rw [e,h]
 ·rfl
section
variable {X:Cx} {pins:List (Addr×Obj)} {σ:St} {H:Hp} {s:Shared}
theorem zoV {A:Around} {E:Value→Shared→Prop} {Q:Value→Shared→Prop} {x C:Addr} {us:List Value} (I:Inv X pins σ H s) (hx:H x=some (znq x C)) (Z:∃ fI,ExI X.K C fI) (hl:us.length≤sizeLine)
  (h:∀ s',Inv X pins σ H s'→Q .none s'):wpAny (model X.prog X.w) A (call (.builtin "ValueError.__init__") (.ref x::us)) Q E s:=by
 obtain ⟨fI,Z⟩:=Z
 obtain ⟨nm,q,N,bs,bm,sn,sub,ab,col,dd,k0,k1,k2,k3,k5,lk,tl⟩:=Z.lk
 have kC:=I.kIn _ _ lk
 have T:=PySem.W.tail_of_in I.kIn tl
 have F:=PySem.F.excBase_ValueError
 obtain ⟨⟨o,t0,ho,hc,hd,hdat⟩,_⟩:=(I.hok x _ hx:zbO X.prog X.w H s.heap x (znq x C))
 obtain ⟨hh,g,d,t,os⟩:=s
 obtain ⟨oc,od,odt,osl⟩:=o
 dsimp only at hc hd hdat
 subst hc hd hdat
 refine wpAny_call (codeAny_call_builtin F.init.plain F.initEntry (wpAny_check_init_subT F T kC ho rfl ?_))
 wp_walk
 have I1:Inv X pins σ H { heap:=hh.push { cls:=.type "tuple",data:=.seq us.toArray },gens:=g,drawn:=d,toks:=t,os:=os }:=I.kept (t':=t) fun b u e=>Heap.get?_push_of_some _ e
 have gx:(hh.push { cls:=.type "tuple",data:=.seq us.toArray }).get? x=some ⟨.ref C,none,.fields #[.ref t0,.none,.none,.none,.bool false,.none],osl⟩:=Heap.get?_push_of_some _ ho
 have gy:=Heap.get?_update_self (Obj.mapFields fun z=>z.setIfInBounds 0 (Value.ref hh.objs.size)) gx rfl
 have I2:=I1.write (x:=x) (e:=x) (o:=znq x C) (t':=t) (h':=(hh.push { cls:=.type "tuple",data:=.seq us.toArray }).update x (Obj.mapFields fun z=>z.setIfInBounds 0 (Value.ref hh.objs.size)))
  (by rw [hx];exact True.intro) (.inl rfl) (fun b u nb e=>(Heap.get?_update_other _ _ (Ne.symm nb)).trans e) ⟨_,gy⟩ ⟨⟨_,_,gy,rfl,rfl,rfl⟩,⟨_,gy⟩,fun _ _ ⟨o,t0,e,r⟩ k=>⟨o,t0,k o e,r⟩⟩
 rw [zpA hx] at I2
 exact h _ I2
end
theorem zkW {h:Heap} {self:Value} {what:Str} {l:List Value} (T:OwnTail h zf3 l) (hb:refuseLoop self what zf3=pure ()):refuseLoop self what l=pure ():=by
 induction T with
 | base=>exact hb
 | own _ _ _ _ ih=>rw [refuseLoop_ref,ih]
section
open Builtin Builtin.ObjectAttr
variable {K:PySem.W.Frag} {prog:Program} {w:World} {A:Around} {E:Value→Shared→Prop} {h:Heap} {g:Array GenState} {d:Drawn} {t:Nat} {os:OsState} {C fI x:Addr} {v:Value} {name:Str} {o:Obj}
theorem zsk {tk:Tok} {R:Result→Shared→Prop} (X:K.In h) (Z:ExI K C fI) (na:PySem.W.findIn K (.ref C) name=some none) (hx:h.get? x=some o) (hc:o.cls=.ref C) (hd:o.dict=none) {fs:Array Value} (hf:o.data=.fields fs)
  (hq:∀ h' tk',h'.get? x=some { o with dict:=some h.objs.size }→h'.Ns1 h.objs.size (fun y=>if y=name then some v else none)→(∀ b u,b≠x→h.get? b=some u→h'.get? b=some u)→R (.ok (.ret .none)) ⟨h',g,d,tk',os⟩) :
  codeAny (model prog w) A (.call (.builtin "object.__setattr__") ⟨[.ref x,.str name tk,v],[]⟩) R ⟨h,g,d,t,os⟩:=by
 obtain ⟨nm,q,N,bs,bm,sn,sub,ab,col,dd,k0,k1,k2,k3,k5,lk,tl⟩:=Z.lk
 have kC:=X _ _ lk
 have T:=PySem.W.tail_of_in X tl
 have S:=PySem.F.store_ValueError
 have LN:=PySem.W.looks_findIn (M:=model prog w) X na
 have pass:refuseLoop (.ref x) "__setattr__" (.ref C::bm)=pure ():=by
  rw [refuseLoop_ref]
  exact zkW T (S.passes _)
 have cO:(Value.ref C::bm).contains (.type "object")=true:=by rw [List.contains_cons,T.hasType S.hasOwner,Bool.or_true]
 have LT:PySem.W.Looks (model prog w) h (typeOf (.ref x)) (.ref C):=hc ▸ (PySem.W.Looks.ld hx).andThen .now
 have LS:PySem.W.Looks (model prog w) h (isInstance (.ref x) (.type "object")) true:=LT.andThen (PySem.W.looks_mroIn X Z.mo)
 refine codeAny_call_builtin S.slot.plain S.entry (@PySem.W.check_slot (model prog w) _ _ ⟨h,g,d,t,os⟩ "object.__setattr__" "object" "__setattr__" (.ref x) [.str name tk,v] [] _ S.kind S.split LS (S.args (.ref x) (.str name tk) v) ?_)
 unfold Builtin.«object.__setattr__»
 repeat (first | rw [refuse_eq] | rw [pass] | (with_reducible refine wpAny_loadPart_at hx ?_;rw [hc]) | (with_reducible refine wpAny_mroOf_exc kC ?_) | (with_reducible refine LN.at ?_) | wp_step)
 obtain ⟨oc,od,odt,osl⟩:=o
 dsimp only at hc hd hf
 subst hc hd hf
 dsimp only
 rw [if_neg (by simp [typeHasDict])]
 have gx:(h.push { cls:=.type "dict",data:=.dict #[] }).get? x=some ⟨.ref C,none,.fields fs,osl⟩:=Heap.get?_push_of_some _ hx
 have ns:x≠h.objs.size:=Nat.ne_of_lt (Heap.lt_size hx)
 refine wpAny_bind (wpAny_alloc' (wpAny_bind (wpAny_update' gx (wpAny_pure ?_))))
 have gy:=Heap.get?_update_self (fun o:Obj=>{ cls:=o.cls,dict:=some h.objs.size,data:=o.data,slots:=o.slots }) gx rfl
 have gd:((h.push { cls:=.type "dict",data:=.dict #[] }).update x fun o=>{ cls:=o.cls,dict:=some h.objs.size,data:=o.data,slots:=o.slots }).get? h.objs.size=some { cls:=.type "dict",data:=.dict #[] } :=
  (Heap.get?_update_other _ _ ns).trans (Heap.get?_push_at rfl rfl)
 have keep:∀ b u,b≠x→h.get? b=some u→((h.push { cls:=.type "dict",data:=.dict #[] }).update x fun o=>{ cls:=o.cls,dict:=some h.objs.size,data:=o.data,slots:=o.slots }).get? b=some u:=fun b u nb e =>
  (Heap.get?_update_other _ _ (Ne.symm nb)).trans (Heap.get?_push_of_some _ e)
 generalize ((h.push { cls:=.type "dict",data:=.dict #[] }).update x fun o=>{ cls:=o.cls,dict:=some h.objs.size,data:=o.data,slots:=o.slots })=h2 at gy gd keep ⊢
 have nn:h2.Ns h.objs.size (fun _=>none):=⟨_,#[],_,gd,rfl,fun e he=>absurd he (by simp),fun _=>rfl⟩
 show wpAny _ _ (storeInDict h.objs.size (.str name tk) name v) _ _ _
 unfold storeInDict newKeyGuard
 refine wpAny_bind (wpAny_pure (wpAny_bind (wpAny_nsSet1 (Heap.Ns1.of_empty nn) fun h3 n3 s3=>?_)))
 obtain ⟨oD,eD,pD,aD,bD,cD⟩:=n3.count (Within.cons name v Within.nil)
 refine wpAny_bind (wpAny_lookBehind aD (by rw [bD];exact pastItsLine_dict (Nat.le_trans cD (by rw [List.length_cons,List.length_nil,sizeLine_eq];(first|lia|omega)))) ?_)
 wp_walk
 exact hq h3 _ ((s3.2 x ns).trans gy) n3 fun b u nb e=>(s3.2 b (Nat.ne_of_lt (Heap.lt_size e))).trans (keep b u nb e)
end
def tBI (K:PySem.W.Frag) (t:TA):TE:=fun σ H Q=>t σ H fun vs H1=>∃ x v C,vs=[.ref x,v]∧H1 x=some (znq x C)∧(∃ fI,ExI K C fI)∧Q .non H1
def zrw (K:PySem.W.Frag) (to tv:TE) (f:Str):TS:=fun D σ H=>tv σ H fun v H1=>to σ H1 fun x H2=>∃ a C,x=.ref a∧H2 a=some (znq a C)∧(∃ fI,ExI K C fI)∧PySem.W.findIn K (.ref C) f=some none ∧
 ∀ dx,H2 dx=none→dx≠a→D.nx σ (upd (upd H2 a (znu a C dx)) dx (.xd [(f,v)]))
section
variable {X:Cx} {x:Str} {D:Addr} {np apos pos pos':Pos} {e o value:Expr} {es:List Expr} {t:TA} {to tv:TE} {f:Str}
theorem zfs {pl:Sem Bool} (hg:Gl X x) (hm:X.mg x=some (.ref D)) (B:ExB X.K D) (ha:PA X (e::es) t) (hdb:(x == ("__debug__":Str))=false:=by decide)
  (hst:starEach (e::es) X.env=(false,eval e X.env)::starEach es X.env:=by rfl) (hpl:(backTo pos (starEach es X.env)).any (·.1)=false:=by rfl)
  (ht:eval (.Call (.Attribute (.Name x np) "__init__" apos) (e::es) [] pos) X.env=(do
   let ov ← eval (.Name x np) X.env
   standAt apos.atName
   let (f,first) ← holding [ov] (getMethod ov "__init__" pl)
   callWith pos f first (backTo pos (starEach (e::es) X.env)) (backToKw pos (keywordEach [] X.env))):=by rfl) :
  PE X (.Call (.Attribute (.Name x np) "__init__" apos) (e::es) [] pos) (tBI X.K t):=by
 intro pins s σ H Q I h
 refine PySem.W.methodCall_KW (pl:=pl) (zd0 I hg hm ?_ hdb) ht
 refine PySem.W.method_cls I.kIn B.sg (PySem.W.cls_value I.kIn B.rd B.fc rfl ?_)
 have I1:=I.tok (s.toks+1)
 have hA:=ha pos pins _ σ H _ I1 h
 rw [hst] at hA ⊢
 refine Calls.callWith_builtin (by show (false || (backTo pos (starEach es X.env)).any (·.1))=false;rw [hpl] <;> rfl) (Calls.evalArgs_plain ?_)
 refine thn hA fun us s2 hQ'=>?_
 obtain ⟨vs,H2,I2,r2,y,v,C,e1,e2,Z,q⟩:=hQ'
 subst e1
 obtain ⟨u1,u2,rfl,r3,r4⟩:=r2.two
 cases r3
 exact zoV (us:=[u2]) I2 e2 Z (by show 1≤sizeLine;decide) fun s' I'=>⟨.non,H2,I',rfl,q⟩
theorem zlC (ho:PE X o to) (hv:PE X value tv) (hs:swapsWith value (some (.Attribute o f pos')) pos.line X.env=pure false):PS X (.Assign [.Attribute o f pos'] value pos) (zrw X.K to tv f):=by
 intro pins s σ H D I h
 refine plainObj_wpAny_Assign_Attribute (thn (hv pins s σ H _ I h) fun u s1 ⟨y,H1,I1,ry,q⟩=>thn (ho pins s1 σ H1 _ I1 q) fun ov s2 hQ'=>?_) hs
 obtain ⟨z,H2,I2,rx,a,C,ex,ea,⟨fI,Z⟩,na,q2⟩:=hQ'
 subst ex
 obtain rfl:ov=Value.ref a:=rx
 obtain ⟨⟨ox,t0,hx,hc,hd,hf⟩,_⟩:=(I2.hok a _ ea:zbO X.prog X.w H2 s2.heap a (znq a C))
 have J:PySem.W.InstAt s2.heap a ox C none:=⟨hx,hc,by unfold PySem.W.notCls;rw [hf],by rw [hd];exact True.intro⟩
 refine PySem.W.set_plain I2.kIn J Z.sa ?_
 obtain ⟨hh,g,d,tk,os⟩:=s2
 refine zsk I2.kIn Z na hx hc hd hf fun h3 tk3 gx n3 keep=>?_
 have fr:H2 hh.objs.size=none:=I2.hok.fresh (Nat.le_refl _)
 have ne:hh.objs.size≠a:=(Nat.ne_of_lt (Heap.lt_size hx)).symm
 have W:=I2.write (x:=a) (e:=a) (o:=znu a C hh.objs.size) (t':=tk3) (h':=h3) (by rw [ea];exact True.intro) (.inl rfl) (fun b v nb e=>keep b v nb e) ⟨_,gx⟩ ⟨⟨_,t0,gx,hc,rfl,hf⟩,⟨_,gx⟩,fun _ _ ⟨o,t0,e,r⟩ k=>⟨o,t0,k o e,r⟩⟩
 have fr2:upd H2 a (znu a C hh.objs.size) hh.objs.size=none:=by rw [zax ne];exact fr
 have V:=W.track (a:=hh.objs.size) (o:=.xd [(f,y)]) fr2 (Heap.get?_none_of_le I2.sz) (fun z=>?_) (fun y c e z=>?_) (fun p hp z=>?_) ⟨_,n3,fun k=>?_⟩
 ·exact ⟨σ,_,V,q2 _ fr ne⟩
 ·obtain ⟨m,⟨o,_,_,e,_⟩,_⟩:=I2.loc
  exact absurd z.symm (Nat.ne_of_lt (Heap.lt_size e))
 ·obtain ⟨v,o,e1,_⟩:=I2.cell y c e
  exact absurd z (Nat.ne_of_lt (Heap.lt_size e1))
 ·exact absurd z (Nat.ne_of_lt (Heap.lt_size (I2.pin p hp).1))
 ·show zo3 (List.lookup k [(f,y)]) (if k=f then some u else none)
  by_cases c:k=f
  ·subst c
   rw [if_pos rfl]
   simp only [List.lookup,beq_self_eq_true]
   exact ry
  ·rw [if_neg c]
   have:(k == f)=false:=beq_eq_false_iff_ne.mpr c
   simp only [List.lookup,this]
   exact trivial
end
section
variable {X:Cx} {CX:CXT} {k:Nat} {f C:Addr} {fd:FuncData} {ps:List Str} {sp:Sp} {E:XK} {x:Str} {p pos:Pos} {e:Expr} {es:List Expr} {t:TA}
theorem Inv.laidAt {pins:List (Addr×Obj)} {σ:St} {H:Hp} {s:Shared} {h':Heap} {a:Addr} {o:HO} (I:Inv X pins σ H s) (kp:∀ b u,s.heap.get? b=some u→h'.get? b=some u) (hp:s.heap.objs.size≤a) (new:zbO X.prog X.w (upd H a o) h' a o) :
  Inv X pins σ (upd H a o) { s with heap:=h' }:=I.laid (t':=s.toks) kp hp new
theorem znL {pins:List (Addr×Obj)} {σ:St} {H:Hp} {s:Shared} {Q:VK} {us:List Value} {vs:List V} (Z:ExI X.K C f) (F:zdD X.prog X.w X.K X.mg X.base CX k f fd ps sp) (hr:zeS (k+1) X.A) (hb:zci X.K fd ps []) (hx:zhx CX X E)
  (I:Inv X pins σ H s) (r:zcc vs us) (hl:us.length≤sizeLine) (h:∀ y,H y=none→X.s₀.heap.get? y=none→sp (.ref y::vs) (upd H y (znq y C)) (fun v H2=>v=.non∧Q (.ref y) H2) E) :
  wpAny (model X.prog X.w) X.A (call (.ref C) us) (EP X pins σ Q) X.xe s:=by
 obtain ⟨hh,g,d,tk,os⟩:=s
 refine zoi I.kIn Z hl fun h1 y ey M=>?_
 have hy:hh.objs.size≤y:=by rw [ey];exact Nat.le_succ _
 obtain ⟨t0,gy,_,_⟩:=M.there
 have I2:=I.laidAt (a:=y) (o:=znq y C) M.keeps hy ⟨⟨_,t0,gy,rfl,rfl,rfl⟩,⟨_,gy⟩,fun _ _ ⟨o,t0,e,r⟩ k=>⟨o,t0,k o e,r⟩⟩
 have hq:=h y (I.hok.fresh hy) (Heap.get?_none_of_le (Nat.le_trans I.sz hy))
 have r2:zcc (V.ref y::vs) (Value.ref y::us):=.cons rfl r
 have hl2:(Value.ref y::us++[]).length=ps.length:=by
  rw [List.append_nil,← r2.length]
  exact F.len _ _ _ _ hq
 have B:=hb _ (Value.ref y::us) I2.kIn hl2
 rw [List.append_nil] at B
 refine wpAny_call (codeAny_mono (F.run _ X.stack _ _ ⟨Value.ref y::us,[]⟩ (Value.ref y::us) _ _ E (hr.make C us []) (I2.env0.make C us []) B r2 hq) fun res s' hq'=>?_)
 cases res with
 | error e=>exact hx pins σ _ _ e s' I2 hq'
 | ok fl =>
  cases fl with
  | ret u =>
   obtain ⟨v,H',I3,rv,ev,q3⟩:=I2.after hq'
   subst ev
   exact ⟨rv,⟨V.ref y,H',I3,rfl,q3⟩⟩
  | next=>exact False.elim hq'
  | brk=>exact False.elim hq'
  | cont=>exact False.elim hq'
end
def CXV (P:Program) (w:World):CXT:=fun outer H s E e s'=>∃ (ea:Addr) (B:Heap) (cls a0:Value) (H':Hp) (od:Option Addr),e=.ref ea∧zte P w outer H s (fun c _ H'=>E c od H') ea s' B cls a0 H'∧zjL ea od s'.heap
def ziR (H:Hp) (x:Addr):Hp:=fun b=>if b=x then none else H b
theorem zc7 {H:Hp} {x b:Addr} (h:b≠x):ziR H x b=H b:=if_neg h
theorem zjJ {H:Hp} {x:Addr}:ziR H x x=none:=if_pos rfl
theorem zjX {H:Hp} {x b:Addr} {u:HO} (h:ziR H x b=some u):b≠x∧H b=some u:=by
 unfold ziR at h
 split at h
 ·cases h
 ·rename_i n
  exact ⟨n,h⟩
section
variable {P:Program} {w:World} {K:PySem.W.Frag} {mg:Str→Option Value} {base:Heap} {N:List Str} {qual:Str} {scope:Scope} {f:Addr} {cd:Value} {A:Around} {outer:List Env} {s₀:Shared} {H₀:Hp} {E:XK}
theorem passV:zhx (CXV P w) (zkT (CXV P w) P w K mg base N qual scope f cd A outer s₀ H₀ E) E:=by
 intro pins σ H s e s' I h
 obtain ⟨ea,B,cls,a0,H',od,rfl,x,dd⟩:=h
 have hfr:=I.ok.frames
 have ff:=x.fly.2.2.1
 refine zh4 (zf4 _ _) dd (wpAny_leaves_onW (base:=B) (L:=s₀.heap.objs.size) hfr rfl x.fly fun h' fl sm dd'=>?_)
 obtain ⟨un2,hok2⟩:=x.later fl.1 sm ff
 have neL:∀ b o,s₀.heap.get? b=some o→b≠s₀.heap.objs.size:=fun b o e=>Nat.ne_of_lt (Heap.lt_size e)
 have notin:∀ b o,s₀.heap.get? b=some o→b∉frs outer→b∉frs (envOfC qual scope s₀.heap.objs.size f cd::outer):=fun b o e hb z=>by
  rcases List.mem_cons.mp (I.stkSub b z) with q | q
  ·exact neL b o e q
  ·exact hb q
 have un:Un (frs outer) [] H₀ H' s₀.heap h':=by
  refine ⟨fun b o e n hb hx=>?_,fun b o e n hb hx=>?_,fun b o e n hx=>?_,fun b o e hx=>?_,fun b xs e=>x.un.tups b xs (I.base.tups b xs e),fun b o u e=>x.un.frzs b o u (I.base.frzs b o u e),fun b ps e=>?_⟩
  ·exact un2.keep b o (I.base.keep b o e n hb hx) (I.base.free b o e n hx) (notin b o e hb) (by simp)
  ·obtain ⟨sl,e1⟩:=I.base.slot b o e n hb hx
   obtain ⟨sl',e2⟩:=un2.any e1 (I.base.free b o e n hx) (by simp)
   exact ⟨sl',e2⟩
  ·obtain ⟨o',e1⟩:=I.base.there b o e hx
   exact x.un.free b o' e1 (I.base.free b o e n hx) (by simp)
  ·obtain ⟨o',e1⟩:=I.base.there b o e hx
   exact un2.there b o' e1 (by simp)
  ·obtain ⟨m1,e1⟩:=I.base.tbls b ps e
   obtain ⟨m2,e2⟩:=x.un.tbls b _ e1
   exact ⟨m1++m2,by rw [e2,Array.append_assoc]⟩
 refine ⟨ea,B,cls,a0,H',od,rfl,⟨x.os.trans I.os,x.bare,un,x.hokB,fl,fun b o e n hb=>?_,fun b o e hb=>?_,?_,x.free,x.want⟩,dd'⟩
 ·exact x.cov b o (I.base.keep b o e n hb (by intro z;cases z)) (I.base.free b o e n (by intro z;cases z)) (notin b o e hb)
 ·obtain ⟨o',e1⟩:=I.base.there b o e (by intro z;cases z)
  exact x.covT b o' e1 (notin b o e hb)
 ·cases q:s₀.heap.get? ea with
  | none=>rfl
  | some o =>
   obtain ⟨o',e1⟩:=I.base.there ea o q (by intro z;cases z)
   rw [x.new] at e1
   cases e1
end
def zlo (X:Cx) (E:XK):Prop:=∀ (pins:List (Addr×Obj)) (σ:St) (H:Hp) (s:Shared) (y C dx:Addr),Inv X pins σ H s→H y=some (znu y C dx)→X.s₀.heap.get? y=none→E (.ref C) (some dx) (ziR H y)→X.xe (.ref y) s
section
variable {P:Program} {w:World} {K:PySem.W.Frag} {mg:Str→Option Value} {base:Heap} {N:List Str} {qual:Str} {scope:Scope} {f:Addr} {cd:Value} {A:Around} {outer:List Env} {s₀:Shared} {H₀:Hp} {E:XK}
theorem zkU:zlo (zkT (CXV P w) P w K mg base N qual scope f cd A outer s₀ H₀ E) E:=by
 intro pins σ H s y C dx I hy n0 q
 replace n0:s₀.heap.get? y=none:=n0
 obtain ⟨⟨oy,t0,gy,cy,dy,fy⟩,_⟩:=(I.hok y _ hy:zbO _ _ H s.heap y (znu y C dx))
 have hfr:=I.ok.frames
 have hst:s.heap.FunFrames base (envOfC qual scope s₀.heap.objs.size f cd::outer):=I.stack
 have fresh:∀ b∈frs (envOfC qual scope s₀.heap.objs.size f cd::outer),H b=none:=I.stkFree
 have yf:y∉frs (envOfC qual scope s₀.heap.objs.size f cd::outer):=fun z=>by rw [fresh y z] at hy;cases hy
 have inB:∀ b o,s.heap.get? b=some o→b≠y→b∉frs (envOfC qual scope s₀.heap.objs.size f cd::outer)→(PySem.W.hideAll s.heap (y::frs (envOfC qual scope s₀.heap.objs.size f cd::outer))).get? b=some o:=fun b o e ny n =>
  PySem.W.hideAll_get _ e (fun z=>(List.mem_cons.mp z).elim ny n)
 have st0:(PySem.W.hideAll s.heap (y::frs (envOfC qual scope s₀.heap.objs.size f cd::outer))).StaysIn s.heap:=fun b o q=>PySem.W.of_hideAll _ q
 have hl:s.heap.FunFrames (PySem.W.hideAll s.heap (y::frs (envOfC qual scope s₀.heap.objs.size f cd::outer))) (envOfC qual scope s₀.heap.objs.size f cd::outer) :=
  PySem.W.funFrames_hide hst fun env he a ha=>List.mem_cons_of_mem _ (List.mem_filterMap.mpr ⟨env,he,ha⟩)
 have yB:(PySem.W.hideAll s.heap (y::frs (envOfC qual scope s₀.heap.objs.size f cd::outer))).get? y=none:=PySem.W.hideAll_none _ List.mem_cons_self
 generalize PySem.W.hideAll s.heap (y::frs (envOfC qual scope s₀.heap.objs.size f cd::outer))=B at inB st0 hl yB
 refine zh4 (zf4 _ _) ⟨oy,gy,dy⟩ (wpAny_leaving_firstW (base:=B) (L:=s₀.heap.objs.size) (a0:=.ref t0) hfr hl rfl gy st0 yB fy rfl rfl fun h2 lf d2=>?_)
 obtain ⟨x1,⟨_,_,x2⟩,x3,x4⟩:=lf
 have neL:∀ b o,s₀.heap.get? b=some o→b≠s₀.heap.objs.size:=fun b o e=>Nat.ne_of_lt (Heap.lt_size e)
 have ney:∀ b o,s₀.heap.get? b=some o→b≠y:=fun b o e z=>by rw [z,n0] at e;cases e
 have notin:∀ b o,s₀.heap.get? b=some o→b∉frs outer→b∉frs (envOfC qual scope s₀.heap.objs.size f cd::outer):=fun b o e hb z=>by
  rcases List.mem_cons.mp (I.stkSub b z) with q | q
  ·exact neL b o e q
  ·exact hb q
 have slot:∀ b o,s.heap.get? b=some o→b∈frs outer→∃ sl,h2.get? b=some { o with slots:=sl }:=fun b o e hb=>by
  obtain ⟨_,o',e',nf⟩:=hl.2.2.mem hb
  rw [e] at e'
  cases e'
  exact x4 b o e nf
 have hokB:HOk P w (ziR H y) B:=fun b u e=>by
  obtain ⟨nb,e'⟩:=zjX e
  refine (I.hok b u e').stay (fun c v hc q=>inB c v q (fun z=>?_) fun z=>?_) (fun c q=>?_) fun c xs q=>?_
  ·rcases hc with r | r
   ·exact nb (r.symm.trans z)
   ·rw [z,hy] at r
    cases r
  ·rcases hc with r | r
   ·rw [r] at z
    rw [fresh b z] at e'
    cases e'
   ·rw [fresh c z] at r
    cases r
  ·rw [zc7 fun z=>by rw [z,hy] at q;cases q]
   exact q
  ·rw [zc7 fun z=>by rw [z,hy] at q;cases q]
   exact q
 have un:Un (frs outer) [] H₀ (ziR H y) s₀.heap h2:=by
  refine ⟨fun b o e n hb hx=>?_,fun b o e n hb hx=>?_,fun b o e n hx=>?_,fun b o e hx=>?_,fun b xs e=>?_,fun b o u e=>?_,fun b ps e=>?_⟩
  ·exact x1 b o (inB b o (I.base.keep b o e n hb hx) (ney b o e) (notin b o e hb))
  ·obtain ⟨sl,e1⟩:=I.base.slot b o e n hb hx
   obtain ⟨sl',e2⟩:=slot b _ e1 hb
   exact ⟨sl',e2⟩
  ·rw [zc7 (ney b o e)]
   exact I.base.free b o e n hx
  ·obtain ⟨o',e1⟩:=I.base.there b o e hx
   by_cases hb:b∈frs outer
   ·obtain ⟨sl,e2⟩:=slot b o' e1 hb
    exact ⟨_,e2⟩
   ·exact ⟨o',x1 b o' (inB b o' e1 (ney b o e) (notin b o e hb))⟩
  ·have z:=I.base.tups b xs e
   rw [zc7 fun q=>by rw [q,hy] at z;cases z]
   exact z
  ·have z:=I.base.frzs b o u e
   rw [zc7 fun q=>by rw [q,hy] at z;cases z]
   exact z
  ·obtain ⟨m,z⟩:=I.base.tbls b ps e
   refine ⟨m,?_⟩
   rw [zc7 fun q=>by rw [q,hy] at z;cases z]
   exact z
 rw [cy] at x3
 refine ⟨y,B,.ref C,.ref t0,ziR H y,some dx,rfl,⟨I.os,I.bare,un,hokB,⟨x1,yB,x2,x3⟩,fun b o e n hb=>?_,fun b o e hb=>?_,n0,zjJ,q⟩,d2⟩
 ·exact inB b o (I.base.keep b o e n hb (by intro z;cases z)) (ney b o e) (notin b o e hb)
 ·obtain ⟨o',e1⟩:=I.base.there b o e (by intro z;cases z)
  exact ⟨o',inB b o' e1 (ney b o e) (notin b o e hb)⟩
end
section
variable {P:Program} {w:World} {K:PySem.W.Frag} {mg:Str→Option Value} {base:Heap} {N:List Str} {qual:Str} {scope:Scope} {f:Addr} {cd:Value} {A:Around} {outer:List Env} {s₀:Shared} {H₀:Hp} {E:XK}
end
section
variable {K:PySem.W.Frag} {prog:Program} {w:World} {A:Around} {E:Value→Shared→Prop} {s:Shared} {env:Env} {C fI:Addr}
theorem znH {xs:Sem Value} {Q:Flow→Shared→Prop} (Z:ExI K C fI) (hh:A.handled=none)
  (h:wpAny (model prog w) A xs (fun v s1=>∃ y o fs,v=.ref y∧K.In s1.heap∧s1.heap.get? y=some o∧o.cls=.ref C∧o.data=.fields fs∧fs[1]?=some .none∧E (.ref y) s1) E s):wpAny (model prog w) A (raiseStmt env (some xs) none) Q E s:=by
 obtain ⟨nm,q,N,bs,bm,sn,sub,ab,col,dd,k0,k1,k2,k3,k5,lk,tl⟩:=Z.lk
 unfold raiseStmt
 refine wpAny_bind (wpAny_mono h (fun v s1 z=>?_) fun _ _ z=>z)
 obtain ⟨y,o,fs,rfl,X,gy,cy,fy,f1,hE⟩:=z
 obtain ⟨hp,g,d,tk,os⟩:=s1
 have kC:=X _ _ lk
 have T:=PySem.W.tail_of_in X tl
 have cB:(Value.ref C::bm).contains (.type "BaseException")=true:=by rw [List.contains_cons,T.hasType PySem.F.excBase_ValueError.hasBase,Bool.or_true]
 obtain ⟨oc,od,odt,osl⟩:=o
 dsimp only at cy fy
 subst cy fy
 repeat (first | (with_reducible refine wpAny_loadPart_at gy ?_) | (with_reducible refine wpAny_loadPart_at kC ?_) | (with_reducible refine wpAny_isSubtype_exc kC ?_;rw [cB]) | wp_step)
 rw [f1]
 refine wpAny_pure ?_
 rw [if_neg (by decide)]
 exact wpAny_pure (wpAny_raiseNew_none hh hE)
end
def zj0 (C:Addr) (nm:Str):Sp:=fun vs H Q _=>∃ y v,vs=[.ref y,v]∧H y=some (znq y C)∧∀ dx,H dx=none→dx≠y→Q .non (upd (upd H y (znu y C dx)) dx (.xd [(nm,v)]))
def zcW (C:Addr) (nm:Str) (E:XK) (t:TA):TS:=fun _ σ H=>t σ H fun vs H1=>∃ v,vs=[v]∧∀ dx,H1 dx=none→E (.ref C) (some dx) (upd H1 dx (.xd [(nm,v)]))
theorem zj5 {H:Hp} {y dx:Addr} {o u:HO} (h:H y=none) (n:dx≠y):ziR (upd (upd H y o) dx u) y=upd H dx u:=by
 funext b
 unfold ziR upd
 by_cases e:b=y
 ·rw [if_pos e,if_neg (by rw [e];exact n.symm),e,h]
 ·rw [if_neg e]
  by_cases e2:b=dx
  ·rw [if_pos e2,if_pos e2]
  ·rw [if_neg e2,if_neg e,if_neg e2]
theorem zeq {X:Cx} {CX:CXT} {k:Nat} {C f:Addr} {fd:FuncData} {ps:List Str} {nm x:Str} {E:XK} {np cpos pos:Pos} {e:Expr} {es:List Expr} {t:TA} (Z:ExI X.K C f) (F:zdD X.prog X.w X.K X.mg X.base CX k f fd ps (zj0 C nm)) (hr:zeS (k+1) X.A) (hg:Gl X x) (hm:X.mg x=some (.ref C))
  (hb:zci X.K fd ps []) (hx:zhx CX X E0) (hc:X.calm=true) (hT:zlo X E) (ha:PA X (e::es) t) (hdb:(x == ("__debug__":Str))=false:=by decide) (he:starEach (e::es) X.env=(false,eval e X.env)::starEach es X.env:=by rfl) (hpl:(backTo cpos (starEach es X.env)).any (·.1)=false:=by rfl) :
  PS X (.Raise (some (.Call (.Name x np) (e::es) [] cpos)) none pos) (zcW C nm E t):=by
 intro pins s σ H D I h
 rw [arm_exec_Raise]
 refine wpAny_bind (wpAny_standAt (znH Z (I.ok.hd hc) (wpAny_bind (wpAny_mono (Q:=fun v s1=>∃ y o fs,v=.ref y∧X.K.In s1.heap∧s1.heap.get? y=some o∧o.cls=.ref C∧o.data=.fields fs∧fs[1]?=some .none∧X.xe (.ref y) s1) ?_ (fun v s3 h3=>wpAny_bind (wpAny_standAt (wpAny_pure h3))) fun _ _ z=>z))))
 refine wpAny_Call_Name_kw (zd0 I hg hm ?_ hdb)
 refine PySem.W.callWith_K (h₀:=X.base) I.ok.mod.kin Z.kp (thn (ha cpos pins s σ H _ I h) fun us s1 ⟨vs,H1,I1,r,v,e1,q⟩=>⟨I1.kIn,?_⟩) he hpl
 subst e1
 obtain ⟨u,rfl,ru⟩:=zfQ r
 refine thn (znL (Q:=fun z H2=>∃ y dx,z=.ref y∧X.s₀.heap.get? y=none∧H2 y=some (znu y C dx)∧E (.ref C) (some dx) (ziR H2 y)) Z F hr hb hx I1 r (by show 1≤sizeLine;decide) fun y hy n0=>?_) fun z s2 ⟨v2,H2,I2,rz,y,dx,ev,n0,hy,hE⟩=>?_
 ·refine ⟨y,v,rfl,zaf,fun dx hd nd=>⟨rfl,y,dx,rfl,n0,?_,?_⟩⟩
  ·rw [zax nd.symm,zaf]
  ·rw [zk7] 
   have hd1:H1 dx=none:=by rw [zax nd] at hd;exact hd
   rw [zj5 hy nd]
   exact q dx hd1
 ·subst ev
  obtain rfl:z=Value.ref y:=rz
  obtain ⟨⟨oy,t0,gy,cy,dy,fy⟩,_⟩:=(I2.hok y _ hy:zbO X.prog X.w H2 s2.heap y (znu y C dx))
  exact ⟨y,oy,_,rfl,I2.kIn,gy,cy,fy,rfl,hT pins σ H2 s2 y C dx I2 hy n0 hE⟩
theorem Fun.okV {P:Program} {w:World} {K:PySem.W.Frag} {mg:Str→Option Value} {base:Heap} {x qual:Str} {st:Stmt} {f:Addr} {fd:FuncData} {N ps:List Str} {k:Nat} {sp:Sp} (F:Fun K x qual st f fd) (S:za7 N ps (zav st)) (len:∀ vs H Q E,sp vs H Q E→vs.length=ps.length)
  (hbody:∀ (cdv:Value) (A:Around) (outer:List Env) (s:Shared) (H:Hp) (vs:List V) (Q:VK) (E:XK),zeS k (A.deeper (envOfC qual (zav st) s.heap.objs.size f cdv))→sp vs H Q E →
   ∃ t,PSs (zkT (CXV P w) P w K mg base N qual (zav st) f cdv A outer s H E) (zcr st) t∧t { nx:=fun _ H'=>Q .non H',rt:=Q } (L2.zbY N vs) H):zdD P w K mg base (CXV P w) (k+1) f fd ps sp:=by
 obtain ⟨oc,od,kV,doc,pm,an,cdv,ct,osl,rfl,lk,hcd⟩:=F.ex
 exact zpZ lk hcd S len fun A outer s H vs Q E hr hsp=>hbody cdv A outer s H vs Q E hr hsp
def zlP (a:Addr) (c:Value) (od:Option Addr) (h:Heap):Prop:=∃ oe vs,h.get? a=some oe∧oe.cls=c∧oe.data=.fields vs∧oe.dict=od
def zgL (a:Addr) (c:Value) (od:Option Addr):HO:=.ext (zlP a c od)
theorem zlP.is {a:Addr} {c:Value} {od:Option Addr} {h:Heap} (x:zlP a c od h):zsJ a c h:=let ⟨oe,vs,e1,e2,e3,_⟩:=x;⟨oe,vs,e1,e2,e3⟩
def ztd (K:PySem.W.Frag) (tb:(St→XK)→TS) (D:Value) (i:Nat) (th:TS):TS:=fun d σ H =>
 tb (fun σ' c od H'=>zhX K c∧PySem.W.subIn K c D=some true∧∀ a,H' a=none→th { d with nx:=fun σ2 H2=>d.nx (σ2.set i none) H2,bk:=fun σ2 H2=>d.bk (σ2.set i none) H2,ct:=fun σ2 H2=>d.ct (σ2.set i none) H2 } (σ'.set i (some (.ref a))) (upd H' a (zgL a c od))) d σ H
def Cx.inTryV (X:Cx) (pins:List (Addr×Obj)) (E:St→XK):Cx:={ X with
 pn:=X.pn++pins
 xe:=fun e s'=>∃ pins' σ H s,Inv { X with pn:=X.pn++pins } pins' σ H s∧CXV X.prog X.w X.stack H s (E σ) e s' }
theorem Inv.toTryV {X:Cx} {pins:List (Addr×Obj)} {σ:St} {H:Hp} {s:Shared} (I:Inv X pins σ H s) (E:St→XK):Inv (X.inTryV pins E) [] σ H s :=
 ⟨I.ok.pinned _ _,I.os,I.bare,I.base,I.loc,I.cell,I.free,I.freeC,fun p hp=>I.pin p (by rw [List.append_nil] at hp;exact hp),I.hok,I.len⟩
theorem zt2 {X:Cx} {pins:List (Addr×Obj)} {E:St→XK}:zlE (CXV X.prog X.w) (X.inTryV pins E) E:=fun pins' σ H s e s' I h =>
 ⟨pins',σ,H,s,⟨I.ok.pinned _ _,I.os,I.bare,I.base,I.loc,I.cell,I.free,I.freeC,I.pin,I.hok,I.len⟩,h⟩
theorem SP.ofTryV {X:Cx} {pins pins':List (Addr×Obj)} {E:St→XK} {D:zb1} {f:Flow} {s':Shared} (ok:X.Ok) (h:SP (X.inTryV pins E) pins' D f s'):SP X pins D f s':=by
 cases f with
 | next=>obtain ⟨σ',H',I,q⟩:=h;exact ⟨σ',H',I.ofTry ok,q⟩
 | brk=>obtain ⟨σ',H',I,q⟩:=h;exact ⟨σ',H',I.ofTry ok,q⟩
 | cont=>obtain ⟨σ',H',I,q⟩:=h;exact ⟨σ',H',I.ofTry ok,q⟩
 | ret u=>obtain ⟨v,σ',H',I,r,q⟩:=h;exact ⟨v,σ',H',I.ofTry ok,r,q⟩
theorem zrY {X:Cx} {i:Nat} {D:Addr} {x n:Str} {np pos hpos:Pos} {body:List Stmt} {b₀:Stmt} {suite:List Stmt} {tb:(St→XK)→TS} {th:TS} (hm:X.mg x=some (.ref D)) (hq:PySem.W.excIn X.K D zf3 "ValueError.__new__"=true)
  (hg:Gl X x) (hN:X.N.Nodup) (hi:X.N[i]?=some n) (hl:X.env.scope.names.lookup n=some .local) (hxe:X.xe=fun _ _=>False) (hst:X.stack=X.env::X.outer) (hfr:X.env.frame=some X.env.locals) (hex:X.ex=[])
  (hb:∀ pins E,PSs (X.inTryV pins E) body (tb E)) (hh:∀ ea,PSs (X.inExc ea) (b₀::suite) th) (hd:(x == ("__debug__":Str))=false:=by decide) :
  PS X (.Try body [.ExceptHandler (some (.Name x np)) (some n) (b₀::suite) hpos] [] [] pos) (ztd X.K tb (.ref D) i th):=by
 intro pins s σ H d I h
 refine wpAny_Try_except (wpAny_mono (hb pins _ [] s σ H d (I.toTryV _) h) (fun f s₁ q=>?_) fun e s₁ q=>?_)
 ·have q':=SP.ofTryV I.ok q
  cases f with
  | next=>exact wpAny_execs_nil q'
  | brk=>exact q'
  | cont=>exact q'
  | ret u=>exact q'
 obtain ⟨pins',σ',H1,s1,I1,ea,B,cls,a0,H',od,rfl,x,dd⟩:=q
 replace I1:Inv X pins σ' H1 s1:=Inv.ofTry (xe:=X.xe) I1 I.ok
 obtain ⟨hec,hsub,hth⟩:=x.want
 have fly:=x.fly
 rw [hst] at fly
 have ff:=x.fly.2.2.1
 have hfrm:X.A.frames=some (X.env::X.outer):=by rw [← hst];exact I.ok.frames
 refine zh4 (zgw _ _) dd (wpAny_looks_onW (base:=B) (L:=X.env.locals) hfrm hfr fly fun h4 hd4 sm4 d4=>?_)
 refine zh4 (zeu _ _) d4 (wpAny_landsW hd4 fun h5 fl5 sm5 d5=>?_)
 have invAt:∀ {h:Heap} {tk:Nat},B.StaysIn h→s₁.heap.UpToSlots h→Inv X pins σ' H' { s₁ with heap:=h,toks:=tk }:=fun {h tk} st sm=>by
  obtain ⟨un,hok⟩:=x.later st sm ff
  exact I1.call' (ch:=[]) x.os un hok x.bare fun b z=>nomatch z
 have I5:Inv X pins σ' H' { s₁ with heap:=h5 }:=invAt (tk:=s₁.toks) fl5.1 (sm4.trans sm5)
 have fmark:(X.A.mark (some (.ref ea))).frames=some X.stack:=I.ok.frames
 refine wpAny_handleBy_cons (codeAny_handlers_test ?_) (by intro q;cases q)
 refine zd0 (X:=X.inExc ea) (I5.toExc fmark) hg hm ?_ hd
 have kin5:=I5.kIn
 obtain ⟨oe,hoe,hcls⟩:=fl5.there
 refine zhQ (cls:=cls) hoe hcls (znx kin5 hq) (PySem.W.looks_subIn kin5 hsub) ?_
 refine codeAny_handlers_suite_as ?_
 refine zh4 (zeu _ _) d5 (lands_againW fl5 fun h6 fl6 sm6 d6=>?_)
 have I6:Inv X pins σ' H' { s₁ with heap:=h6 }:=invAt (tk:=s₁.toks) fl6.1 ((sm4.trans sm5).trans sm6)
 have noat:∀ b o,s1.heap.get? b=some o→b≠ea:=fun b o e z=>by rw [z,x.new] at e;cases e
 have n0:X.s₀.heap.get? ea=none:=by
  cases q:X.s₀.heap.get? ea with
  | none=>rfl
  | some o =>
   obtain ⟨o',e1⟩:=I1.base.there ea o q (by rw [hex];intro z;cases z)
   exact absurd rfl (noat ea o' e1)
 have nL:ea≠X.env.locals:=by
  obtain ⟨m,⟨o,_,_,e,_⟩,_⟩:=I1.loc
  exact (noat _ o e).symm
 have nC:∀ y c,X.env.cells.lookup y=some c→c≠ea:=fun y c e=>by
  obtain ⟨v,z⟩:=I1.cell y c e
  obtain ⟨o,e1,_⟩:=z
  exact noat c o e1
 have nP:∀ p∈X.pn++pins,p.1≠ea:=fun p hp=>noat _ _ (I1.pin p hp).1
 have isx:zlP ea cls od h6:=by
  obtain ⟨_,_,_,oe,vs,_,_,_,he,hc,hd,_⟩:=fl6
  obtain ⟨o',e',ed⟩:=d6
  rw [he] at e'
  cases e'
  exact ⟨oe,vs,he,hc.1,hd,ed⟩
 have I7:=I6.track (o:=zgL ea cls od) x.free n0 nL nC nP ⟨isx,by obtain ⟨oe,_,he,_⟩:=isx;exact ⟨oe,he⟩,fun h1 h2 ⟨oe,vs,he,r⟩ k=>⟨oe,vs,k oe he,r⟩⟩
 refine zfP (X:=X.inExc ea) (v:=.ref ea) (I7.toExc fmark) hN hi (.inl hl) rfl (fun s8 I8=>?_) (.inr hl)
 refine wpAny_mono (hh ea pins s8 _ _ _ I8 (hth ea x.free)) (fun f s9 q=>?_) fun e s9 q=>?_
 ·cases f with
  | next =>
   obtain ⟨σ9,H9,I9,r⟩:=q
   exact ziv (I9.ofExc I.ok) hN hi hl fun s10 I10=>⟨_,_,I10,r⟩
  | brk =>
   obtain ⟨σ9,H9,I9,r⟩:=q
   exact ziv (I9.ofExc I.ok) hN hi hl fun s10 I10=>⟨_,_,I10,r⟩
  | cont =>
   obtain ⟨σ9,H9,I9,r⟩:=q
   exact ziv (I9.ofExc I.ok) hN hi hl fun s10 I10=>⟨_,_,I10,r⟩
  | ret u =>
   obtain ⟨v,σ9,H9,I9,rv,r⟩:=q
   exact ziv (I9.ofExc I.ok) hN hi hl fun s10 I10=>⟨v,_,_,I10,rv,r⟩
 ·rw [show (X.inExc ea).xe=X.xe from rfl,hxe] at q
  exact q.elim
section
open Builtin Builtin.ObjectAttr PySem.W
variable {K:PySem.W.Frag} {prog:Program} {w:World} {A:Around} {E:Value→Shared→Prop} {h:Heap} {g:Array GenState} {d:Drawn} {t:Nat} {os:OsState} {a C dx:Addr}
theorem zjV {f:Str} {tk:Tok} {v:Value} {o:Obj} {od:Option Obj} {Q:Fin→Shared→Prop} (X:K.In h) (J:PySem.W.InstAt h a o C od) (hf:PySem.W.findObj K C od f=some (.value v)) (hq:Q (.done (.ret v)) ⟨h,g,d,t,os⟩) :
  wpAny (model prog w) A (Builtin.«object.__getattribute__» ⟨[.ref a,.str f tk],[]⟩) Q E ⟨h,g,d,t,os⟩:=by
 have L0:=J.type (M:=model prog w)
 have L1:=PySem.W.looks_find (M:=model prog w) X J hf
 refine wpAny_bind (wpAny_pure (wpAny_bind (wpAny_pure (wpAny_bind (L0.at (wpAny_bind (L1.at ?_)))))))
 exact wpAny_pure hq
theorem zso {f:Str} {v:Value} {b:Bool} {o:Obj} {od:Option Obj} {Q:Value→Shared→Prop} (X:K.In h) (Z:zdb K C) (J:PySem.W.InstAt h a o C od) (hf:PySem.W.findObj K C od f=some (.value v)) (hv:PySem.W.handedIn v=true) (hq:Q v ⟨h,g,d,t+1,os⟩) :
  wpAny (model prog w) A (getAttr (.ref a) f b) Q E ⟨h,g,d,t,os⟩:=by
 have FB:=PySem.F.attrBase_ValueError
 have LG:=PySem.W.looks_findIn (M:=model prog w) X Z.ga
 have LN:=PySem.W.looks_findIn (M:=model prog w) X Z.gn
 have hx:=J.at_
 have hc:=J.cls
 have f3:=FB.ga.bind (.ref a)
 have n2:(Value.builtin "BaseException.__getattribute__" == Value.builtin "object.__getattribute__")=false:=by decide +kernel
 have n1:(onTheHeap (Value.ref C)&&(Value.builtin "BaseException.__getattribute__" == Value.builtin "object.__getattribute__"))=false:=by rw [n2];rfl
 unfold getAttr
 repeat (any_goals (first | assumption | (with_reducible refine wpAny_loadPart_at hx ?_;rw [hc]) | with_reducible refine LG.at ?_ | with_reducible refine LN.at ?_ | wp_step))
 rw [show (b&&onTheHeap (Value.builtin "BaseException.__getattribute__"))=false from Bool.and_false _,if_neg Bool.false_ne_true]
 repeat (any_goals (first | assumption | wp_step))
 refine codeAny_call_builtin FB.ga.plain F.entry_bexc_ga (zgy X Z hx hc (zjV X J hf ?_))
 show wpAny _ _ (handedOut v) _ _ _
 rw [PySem.W.handedOut_of hv]
 exact wpAny_pure hq
end
structure ziu (K:PySem.W.Frag) (C:Addr) (f:Str):Prop where
 five:zdb K C
 hd:PySem.W.hasDictIn K C=true
 na:PySem.W.findIn K (.ref C) f=some none
def zmR (K:PySem.W.Frag) (ta:TE) (f:Str):TE:=fun σ H Q=>ta σ H fun x H1=>∃ a C dx fs v,x=.ref a∧H1 a=some (zgL a (.ref C) (some dx))∧H1 dx=some (.xd fs)∧ziu K C f∧fs.lookup f=some v∧Q v H1
def zb0 (K:PySem.W.Frag):List V→Hp→VK→Prop:=fun xs H Q=>∃ a c cv od dv b,xs=[.ref a,c]∧clsV c=some dv∧H a=some (zgL a cv od)∧zhX K cv∧PySem.W.kitOne K cv dv=some b∧Q (.bl b) H
section
variable {X:Cx} {e:Expr} {f:Str} {pos:Pos} {ta:TE}
theorem zop (he:PE X e ta) (hb:attributeBase e f X.env (eval e X.env)=eval e X.env):PE X (.Attribute e f pos) (zmR X.K ta f):=by
 intro pins s σ H Q I h
 refine zsL hb (thn (he pins s σ H _ I h) fun u s1 hQ'=>?_)
 obtain ⟨x,H1,I1,rx,a,C,dx,fs,v,ex,ea,ed,Z,l,q⟩:=hQ'
 subst ex
 obtain rfl:u=Value.ref a:=rx
 obtain ⟨⟨oe,vs,ge,ce,fe,de⟩,_⟩:=(I1.hok a _ ea:zbO X.prog X.w H1 s1.heap a (zgL a (.ref C) (some dx)))
 obtain ⟨mA,ns,r⟩:=(I1.hok dx _ ed:zbO X.prog X.w H1 s1.heap dx (.xd fs))
 obtain ⟨u,hu,ru⟩:=zo3.some_of (v:=v) (o:=mA f) (by rw [← l];exact r f)
 obtain ⟨oD,gD,lD⟩:=zjA ns
 have J:PySem.W.InstAt s1.heap a oe C (some oD):=⟨ge,ce,by unfold PySem.W.notCls;rw [fe],by rw [de];exact gD⟩
 have I2:=I1.tok (s1.toks+1)
 obtain ⟨hh,g,d,t,os⟩:=s1
 exact zso I1.kIn Z.five J (PySem.W.findObj_own Z.hd Z.na rfl (by rw [lD,hu])) (znE ru) ⟨v,H1,I2,ru,q⟩
theorem zaS:zes X (.builtin "isinstance") (zb0 X.K):=by
 intro pins s σ H xs us Q I r h
 obtain ⟨a,c,cv,od,dv,b,rfl,hc,ha,k,e,q⟩:=h
 obtain ⟨u,w',rfl,rx,rw'⟩:=zlJ r
 obtain rfl:=zlR rw' hc
 cases (show u=Value.ref a from rx)
 obtain ⟨p,_,_⟩:=(show zbO X.prog X.w H s.heap a (zgL a cv od) from I.hok a _ ha)
 exact PySem.W.kia_one (k.kit a) I.kIn p.is e (fun z=>nomatch z) fun tk=>⟨.bl b,H,I.tok tk,rfl,q⟩
end
theorem zmV {K:PySem.W.Frag} {C fI:Addr} (Z:zdb K C) (ZI:ExI K C fI):zhX K (.ref C):=by
 obtain ⟨nm,q,N,bs,bm,sn,sub,ab,col,dd,k0,k1,k2,k3,k5,lk,tl⟩:=ZI.lk
 exact ⟨fun x=>{
  ty:=fun M h _ p=>by
   obtain ⟨oe,vs,e,c,_⟩:=p
   exact c ▸ (PySem.W.Looks.ld e).andThen .now
  it:=fun M h X _=>by
   have hC:=X _ _ lk
   intro A' Q' E' s' k q
   unfold isType loadHead
   exact wpAny_bind (wpAny_loadPart (k _ _ hC) (wpAny_pure q))
  ne:=fun h tp dd its n sl X htp=>by
   have hC:=X _ _ lk
   refine Bool.eq_false_iff.mpr fun q=>?_
   have e:C=tp:=Value.ref.inj (beq_iff_eq.mp q)
   subst e
   rw [hC] at htp
   have z:=congrArg Obj.data (Option.some.inj htp)
   exact nomatch z
  ca:=fun {prog w A E Q s} X p q=>by
   obtain ⟨h,g,d,t,os⟩:=s
   obtain ⟨oe,vs,e,c,_⟩:=p
   exact zlI X Z PySem.F.attrBase_ValueError e c q }⟩
theorem zlF {K:PySem.W.Frag} {C fI:Addr} {nm:Str} {H:Hp} {Q:VK} {y:Addr} {v:V} (Z:ExI K C fI) (na:PySem.W.findIn K (.ref C) nm=some none) (hy:H y=some (znq y C)) (q:∀ dx,H dx=none→dx≠y→Q .non (upd (upd H y (znu y C dx)) dx (.xd [(nm,v)]))) :
  (zaW (zer (tBI K (zab (zac 0) (zab (zac 1) zas)))) (zrw K (zac 0) (zac 1) nm)) { nx:=fun _ H'=>Q .non H',rt:=Q } [some (.ref y),some v] H:=by
 simp only [zaW,zer,tBI,zab,zas,zac,zrw,List.getElem?_cons_zero,List.getElem?_cons_succ,Option.some.injEq,exists_eq_left']
 exact ⟨y,v,C,rfl,hy,⟨_,Z⟩,y,C,rfl,hy,⟨_,Z⟩,na,q⟩
def zo9:Stmt→List Stmt
 | .ClassDef _ _ _ b _ _ _ _ _ _ _=>b
 | _=>[]
theorem zt6 {us:List Value} (h:us.length=2):∃ x y,us=[x,y]:=match us,h with | [x,y],_=>⟨x,y,rfl⟩
end L2
namespace L2
open PySem
def ItzT (K:PySem.W.Frag) (p q:Addr):It where
 go:=fun i H=>∃ xs ys a b,SqT K H p xs∧SqT K H q ys∧xs[i]?=some a∧ys[i]?=some b
 yld:=fun i H x H'=>∃ t a b,x=.ref t∧H t=none∧H'=upd H t (.tup [a,b])∧(∀ xs,SqT K H p xs→xs[i]?=some a)∧∀ ys,SqT K H q ys→ys[i]?=some b
 stop:=fun i H=>∃ xs ys,SqT K H p xs∧SqT K H q ys∧i=min xs.length ys.length
def zqt (K:PySem.W.Frag) (ta:TA):TI:=fun σ H R=>ta σ H fun vs H1=>∃ p q,vs=[.ref p,.ref q]∧(((∃ xs,SqL K H1 p xs)∧(∃ ys,SqL K H1 q ys)∧R (Itz K p q) H1)∨((∃ xs,SqT K H1 p xs)∧(∃ ys,SqT K H1 q ys)∧R (ItzT K p q) H1))
theorem zoc {K:PySem.W.Frag} {p q:Addr} {xs ys:List V} {g:TG} {tb:TS} {D:zb1} {σ:St} {H:Hp} (Pv:Nat→St→Hp→Prop) (h0:Pv 0 σ H) (hl:∀ i σ H,i≤min xs.length ys.length→Pv i σ H→SqT K H p xs∧SqT K H q ys)
  (hs:∀ i x y t σ H,xs[i]?=some x→ys[i]?=some y→Pv i σ H→H t=none→g (.ref t) σ (upd H t (.tup [x,y])) fun σ2 H2=>tb { D with nx:=Pv (i+1),ct:=Pv (i+1),bk:=D.nx } σ2 H2) (hd:∀ σ H,Pv (min xs.length ys.length) σ H→D.nx σ H):zmB (ItzT K p q) g tb D σ H:=by
 refine ⟨fun i m σ H=>m=min xs.length ys.length - i∧i≤min xs.length ys.length∧Pv i σ H,⟨_,rfl,Nat.zero_le _,h0⟩,?_⟩
 rintro i m σ H ⟨rfl,hi,pv⟩
 obtain ⟨hx,hy⟩:=hl i σ H hi pv
 by_cases hlt:i<min xs.length ys.length
 ·have l1:i<xs.length:=by (first|lia|omega)
  have l2:i<ys.length:=by (first|lia|omega)
  refine .inr ⟨⟨xs,ys,xs[i],ys[i],hx,hy,by simp [l1],by simp [l2]⟩,Pv (i+1),fun σ' H' p'=>⟨_,by (first|lia|omega),rfl,hlt,p'⟩,fun x H' yl=>?_⟩
  obtain ⟨t,a,b,rfl,ht,rfl,e1,e2⟩:=yl
  exact hs i a b t σ H (e1 xs hx) (e2 ys hy) pv ht
 ·have e:i=min xs.length ys.length:=by (first|lia|omega)
  subst e
  exact .inl ⟨⟨xs,ys,hx,hy,rfl⟩,hd σ H pv⟩
end L2
namespace L2.Srt
open PySem PyProof.Rows PySem.W
section
variable {prog:Program} {w:World} {A:Around} {E:Value→Shared→Prop} {s:Shared}
end
end L2.Srt
namespace L2
open PySem PySem.Spec PyProof.Rows
section
variable {X:Cx}
end
end L2
namespace L2.Srt
open PySem PyProof.Rows PySem.W
section
variable {prog:Program} {w:World} {A:Around} {E:Value→Shared→Prop} {s:Shared} {I l:Addr} {its:Array Value}
end
end L2.Srt
namespace L2
open PySem PySem.Spec PyProof.Rows
section
variable {X:Cx} {e:Expr} {t:TA} {p1 p2 pos1 pos2:Pos}
end
end L2
namespace L2.Zt
open PySem PySem.Spec PyProof.Rows
section
variable {P:Program} {w:World} {A:Around} {E:Value→Shared→Prop} {s:Shared}
theorem zqQ {h h':Heap} {a t:Addr} {i:Nat} (x:h.IsTupleIter a t i) (k:∀ o,h.get? a=some o→h'.get? a=some o):h'.IsTupleIter a t i :=
 let ⟨o,e,r⟩:=x;⟨o,k o e,r⟩
theorem zhr {c t:Addr} {i:Nat} {us:Array Value} {u:Value} {R:Value→Shared→Prop} (n:s.heap.IsTupleIter c t i) (m:s.heap.IsTuple t us) (e:us[i]?=some u)
  (q:∀ h',h'.IsTupleIter c t (i+1)→Heap.SameBut c s.heap h'→R u { s with heap:=h' }):wpAny (model P w) A (Builtin.SmallTypes.nextOf (.ref c)) R E s:=by
 obtain ⟨oc,g1,g2,g3⟩:=id n
 obtain ⟨ot,f1,_,nt,f3⟩:=m
 unfold Builtin.SmallTypes.nextOf
 refine wpAny_bind (wpAny_callSpecial?_slot (name:=Str.ofString "__next__") n.typeIs F.slot_tuple_iterator_next (wpAny_call_entry F.slot_tuple_iterator_next n.typeIs F.entry_tuple_iterator_next ?_ (F.args_tuple_iterator_next_1 _)))
 show wpAny _ _ (field (.ref c) 0 >>= _) _ _ s;refine wpAny_bind (wpAny_field g1 g3 (x:=.ref t) rfl ?_)
 show wpAny _ _ (if (Value.ref t == Value.none)=true then _ else _) _ _ s;rw [if_neg (show ¬ ((Value.ref t == Value.none)=true) from Bool.false_ne_true)]
 show wpAny _ _ (field (.ref c) 1 >>= _) _ _ s;refine wpAny_bind (wpAny_field g1 g3 (x:=.int i 0) rfl ?_)
 show wpAny _ _ (seqItems? (.ref t) >>= _) _ _ s;refine wpAny_bind (wpAny_seqItems f1 f3 ?_)
 simp only [Int.toNat_natCast,e]
 refine wpAny_bind (wpAny_setField g1 g3 (by simp) (wpAny_pure ⟨u,rfl,wpAny_pure (q _ ?_ (Heap.SameBut.update ..))⟩))
 exact ⟨_,Heap.get?_update_self _ g1 (Obj.isFreed_of_fields (Obj.data_mapFields g3 _)),(Obj.cls_mapFields ..).trans g2,by rw [Obj.data_mapFields g3];simp [rawInt]⟩
theorem zmg {c t:Addr} {i:Nat} {us:Array Value} {R:Value→Shared→Prop} (hh:A.handled=none) (n:s.heap.IsTupleIter c t i) (m:s.heap.IsTuple t us) (e:us[i]?=none)
  (q:∀ h' x,Heap.ExtBut c s.heap h'→(∃ o,h'.get? x=some o∧o.cls=.type "StopIteration")→E (.ref x) { s with heap:=h' }):wpAny (model P w) A (Builtin.SmallTypes.nextOf (.ref c)) R E s:=by
 obtain ⟨oc,g1,g2,g3⟩:=id n
 obtain ⟨ot,f1,_,nt,f3⟩:=m
 unfold Builtin.SmallTypes.nextOf
 refine wpAny_bind (wpAny_callSpecial?_slot (name:=Str.ofString "__next__") n.typeIs F.slot_tuple_iterator_next (wpAny_call_entry F.slot_tuple_iterator_next n.typeIs F.entry_tuple_iterator_next ?_ (F.args_tuple_iterator_next_1 _)))
 show wpAny _ _ (field (.ref c) 0 >>= _) _ _ s;refine wpAny_bind (wpAny_field g1 g3 (x:=.ref t) rfl ?_)
 show wpAny _ _ (if (Value.ref t == Value.none)=true then _ else _) _ _ s;rw [if_neg (show ¬ ((Value.ref t == Value.none)=true) from Bool.false_ne_true)]
 show wpAny _ _ (field (.ref c) 1 >>= _) _ _ s;refine wpAny_bind (wpAny_field g1 g3 (x:=.int i 0) rfl ?_)
 show wpAny _ _ (seqItems? (.ref t) >>= _) _ _ s;refine wpAny_bind (wpAny_seqItems f1 f3 ?_)
 simp only [Int.toNat_natCast,e]
 refine wpAny_bind (wpAny_rule (wpAny_bind (wpAny_setField g1 g3 (by simp) ?_)));show wpAny _ _ (newExc (.type "StopIteration") [] >>= _) _ _ _
 refine wpAny_bind ?_;simp only [newExc,newTuple]
 refine wpAny_bind (wpAny_newObj_type ?_ (by size_fits));refine wpAny_bind (m:=firstArgMember _ _) (wpAny_of_eq (a:=Value.none) (by first | rfl | (simp only [firstArgMember];rfl)) ?_)
 refine wpAny_newObj_type ?_ (by size_fits);simp only [raiseNew];refine wpAny_bind (wpAny_handled ?_)
 first | rw [show A.in1.handled=none from hh] | rw [hh]
 refine wpAny_bind (wpAny_pure (wpAny_throw (q _ _ (((Heap.SameBut.update ..).extBut.push _).push _) ⟨_,Heap.get?_push_size _ rfl,rfl⟩)))
theorem zrC {z TI TO i1 i2 l1 l2:Addr} {k:Nat} {xs ys:Array Value} {x y a b:Value} {R:Value→Shared→Prop} (D:ZipApart z TI TO i1 i2 l1 l2)
  (gz:IsZip s.heap z TI TO .none) (gI:IsPair s.heap TI (.ref i1) (.ref i2)) (gO:IsPair s.heap TO a b)
  (n1:s.heap.IsTupleIter i1 l1 k) (n2:s.heap.IsTupleIter i2 l2 k) (m1:s.heap.IsTuple l1 xs) (m2:s.heap.IsTuple l2 ys) (ex:xs[k]?=some x) (ey:ys[k]?=some y)
  (q:∀ h',IsZip h' z TI TO (rawInt s.heap.objs.size)→IsPair h' TO x y→h'.IsTupleIter i1 l1 (k+1)→h'.IsTupleIter i2 l2 (k+1)→IsPair h' s.heap.objs.size x y →
   (∀ t o,t∉[z,TO,i1,i2]→s.heap.get? t=some o→h'.get? t=some o)→R (.ref s.heap.objs.size) { s with heap:=h' }) :
  wpAny (model P w) A (Builtin.«zip.__next__» ⟨[.ref z],[]⟩) (fun fin s'=>∃ v,fin=.done (.ret v)∧R v s') E s:=by
 show wpAny _ _ (field (.ref z) 2 >>= _) _ _ _;refine wpAny_bind (wpAny_field gz rfl (x:=.bool false) rfl ?_);show wpAny _ _ (field (.ref z) 3 >>= _) _ _ _
 refine wpAny_bind (wpAny_field gz rfl (x:=.ref TI) rfl ?_)
 refine wpAny_bind (wpAny_seqItems gI rfl ?_);show wpAny _ _ (Builtin.SmallTypes.ownedTupleIsFree (.ref z) >>= _) _ _ _
 refine wpAny_bind ?_;unfold Builtin.SmallTypes.ownedTupleIsFree
 refine wpAny_bind (wpAny_field gz rfl (x:=.none) rfl (wpAny_pure ?_));simp only [if_true]
 refine wpAny_bind (wpAny_rule ?_);refine wpAny_bind (wpAny_field gz rfl (x:=.ref TO) rfl ?_)
 refine wpAny_bind (wpAny_setField_rec gz (by simp) fun h₁ gz₁ q₁=>?_)
 replace gz₁:IsZip h₁ z TI TO .ellipsis:=gz₁
 refine wpAny_bind ?_;simp only [List.zipIdx_cons,List.zipIdx_nil,List.forIn_cons,List.forIn_nil]
 refine wpAny_bind (wpAny_bind (wpAny_onRaise ?_));show wpAny _ _ (Builtin.SmallTypes.nextOf (.ref i1) >>= _) _ _ _
 refine wpAny_bind (zhr (n1.extBut q₁.extBut D.i1z) (m1.extBut q₁.extBut D.l1z) ex fun h₂ n1₂ q₂=>wpAny_pure ?_)
 have gO₂:IsPair h₂ TO a b:=q₂.extBut _ _ D.TOi1 (q₁.extBut _ _ D.TOz gO)
 refine wpAny_bind (wpAny_seqItems gO₂ rfl ?_)
 refine wpAny_bind (wpAny_updateSeq_pair gO₂ fun h₃ gO₃ q₃=>?_)
 replace gO₃:IsPair h₃ TO x b:=gO₃
 refine wpAny_bind (wpAny_letGo (wpAny_pure ?_))
 refine wpAny_bind (wpAny_bind (wpAny_onRaise ?_));show wpAny _ _ (Builtin.SmallTypes.nextOf (.ref i2) >>= _) _ _ _
 refine wpAny_bind (zhr (((n2.extBut q₁.extBut D.i2z).extBut q₂.extBut D.i12.symm).extBut q₃.extBut D.TOi2.symm)
  (((m2.extBut q₁.extBut D.l2z).extBut q₂.extBut D.l2i1).extBut q₃.extBut D.l2TO) ey fun h₄ n2₄ q₄=>wpAny_pure ?_)
 have gO₄:IsPair h₄ TO x b:=q₄.extBut _ _ D.TOi2 gO₃
 refine wpAny_bind (wpAny_seqItems gO₄ rfl ?_)
 refine wpAny_bind (wpAny_updateSeq_pair gO₄ fun h₅ gO₅ q₅=>?_)
 replace gO₅:IsPair h₅ TO x y:=gO₅
 refine wpAny_bind (wpAny_letGo (wpAny_pure (wpAny_pure ?_)))
 refine wpAny_bind (wpAny_seqItems gO₅ rfl ?_);refine wpAny_bind (wpAny_newTuple ?_)
 have sz:h₅.objs.size=s.heap.objs.size:=by rw [q₅.1,q₄.1,q₃.1,q₂.1,q₁.1]
 have gz₅:IsZip h₅ z TI TO .ellipsis:=q₅.extBut _ _ D.TOz.symm (q₄.extBut _ _ D.i2z.symm (q₃.extBut _ _ D.TOz.symm (q₂.extBut _ _ D.i1z.symm gz₁)))
 have kp:∀ t o,t∉[z,TO,i1,i2]→s.heap.get? t=some o→h₅.get? t=some o:=fun t o ht e=>by
  simp only [List.mem_cons,List.not_mem_nil,or_false,not_or] at ht
  obtain ⟨t1,t2,t3,t4⟩:=ht
  exact q₅.extBut _ _ t2 (q₄.extBut _ _ t4 (q₃.extBut _ _ t2 (q₂.extBut _ _ t3 (q₁.extBut _ _ t1 e))))
 have n1₅:h₅.IsTupleIter i1 l1 (k+1):=((n1₂.extBut q₃.extBut D.TOi1.symm).extBut q₄.extBut D.i12).extBut q₅.extBut D.TOi1.symm
 have n2₅:h₅.IsTupleIter i2 l2 (k+1):=n2₄.extBut q₅.extBut D.TOi2.symm
 have zlt:z<h₅.objs.size:=Heap.lt_size gz₅
 show wpAny _ _ (Builtin.SmallTypes.ownedTupleHandOut (.ref z) (.ref h₅.objs.size) >>= _) _ _ _;refine wpAny_bind ?_;unfold Builtin.SmallTypes.ownedTupleHandOut
 have gz₈:IsZip (h₅.push { cls:=.type "tuple",data:=.seq #[x,y] }) z TI TO .ellipsis:=Heap.get?_push_of_some _ gz₅
 refine wpAny_bind (wpAny_setField_rec gz₈ (by simp) fun h₉ gz₉ q₉=>?_)
 replace gz₉:IsZip h₉ z TI TO (rawInt h₅.objs.size):=gz₉
 refine wpAny_setField_rec gz₉ (by simp) fun hA gzA qA=>?_
 replace gzA:IsZip hA z TI TO (rawInt h₅.objs.size):=gzA
 have up:∀ t o,t≠z→h₅.get? t=some o→hA.get? t=some o:=fun t o t1 e=>qA.extBut _ _ t1 (q₉.extBut _ _ t1 (Heap.get?_push_of_some _ e))
 have gT:IsPair hA h₅.objs.size x y:=qA.extBut _ _ (Nat.ne_of_gt zlt) (q₉.extBut _ _ (Nat.ne_of_gt zlt) (Heap.get?_push_size _ rfl))
 rw [sz] at gzA gT
 refine wpAny_pure ⟨_,rfl,?_⟩;show R (.ref h₅.objs.size) _;rw [sz]
 exact q hA gzA (up _ _ D.TOz gO₅) (zqQ n1₅ fun o e=>up _ o D.i1z e) (zqQ n2₅ fun o e=>up _ o D.i2z e) gT fun t o ht e=>up t o (fun h=>ht (by simp [h])) (kp t o ht e)
theorem zuf {z TI TO i1 i2 l1 l2:Addr} {k:Nat} {xs ys:Array Value} {a b:Value} {R:PySem.Fin→Shared→Prop} (hh:A.handled=none) (D:ZipApart z TI TO i1 i2 l1 l2)
  (gz:IsZip s.heap z TI TO .none) (gI:IsPair s.heap TI (.ref i1) (.ref i2)) (gO:IsPair s.heap TO a b)
  (n1:s.heap.IsTupleIter i1 l1 k) (n2:s.heap.IsTupleIter i2 l2 k) (m1:s.heap.IsTuple l1 xs) (m2:s.heap.IsTuple l2 ys) (ee:xs[k]?=none∨ys[k]?=none)
  (q:∀ h' e,(∀ t o,t∉[z,TO,i1,i2]→s.heap.get? t=some o→h'.get? t=some o)→(∃ o,h'.get? e=some o∧o.cls=.type "StopIteration")→E (.ref e) { s with heap:=h' }) :
  wpAny (model P w) A (Builtin.«zip.__next__» ⟨[.ref z],[]⟩) R E s:=by
 show wpAny _ _ (field (.ref z) 2 >>= _) _ _ _;refine wpAny_bind (wpAny_field gz rfl (x:=.bool false) rfl ?_);show wpAny _ _ (field (.ref z) 3 >>= _) _ _ _
 refine wpAny_bind (wpAny_field gz rfl (x:=.ref TI) rfl ?_)
 refine wpAny_bind (wpAny_seqItems gI rfl ?_);show wpAny _ _ (Builtin.SmallTypes.ownedTupleIsFree (.ref z) >>= _) _ _ _
 refine wpAny_bind ?_;unfold Builtin.SmallTypes.ownedTupleIsFree
 refine wpAny_bind (wpAny_field gz rfl (x:=.none) rfl (wpAny_pure ?_));simp only [if_true]
 refine wpAny_bind (wpAny_rule ?_);refine wpAny_bind (wpAny_field gz rfl (x:=.ref TO) rfl ?_)
 refine wpAny_bind (wpAny_setField_rec gz (by simp) fun h₁ gz₁ q₁=>?_)
 replace gz₁:IsZip h₁ z TI TO .ellipsis:=gz₁
 refine wpAny_bind ?_;simp only [List.zipIdx_cons,List.zipIdx_nil,List.forIn_cons,List.forIn_nil]
 refine wpAny_bind (wpAny_bind (wpAny_onRaise ?_));show wpAny _ _ (Builtin.SmallTypes.nextOf (.ref i1) >>= _) _ _ _
 cases ex:xs[k]? with
 | none =>
  refine wpAny_bind (zmg hh (n1.extBut q₁.extBut D.i1z) (m1.extBut q₁.extBut D.l1z) ex fun h₂ e q₂ he=>?_)
  obtain ⟨oe,g1,g2⟩:=he
  have gz₂:IsZip h₂ z TI TO .ellipsis:=q₂ _ _ D.i1z.symm gz₁
  have nz:e≠z:=fun x=>by subst x;rw [gz₂] at g1;cases g1;simp at g2
  refine wpAny_setField_rec gz₂ (by simp) fun h₃ _ q₃=>q h₃ e (fun t o ht x=>?_) ⟨oe,q₃.extBut _ _ nz g1,g2⟩
  simp only [List.mem_cons,List.not_mem_nil,or_false,not_or] at ht
  exact q₃.extBut _ _ ht.1 (q₂ _ _ ht.2.2.1 (q₁.extBut _ _ ht.1 x))
 | some x =>
  have ey:ys[k]?=none:=ee.resolve_left (by rw [ex];simp)
  refine wpAny_bind (zhr (n1.extBut q₁.extBut D.i1z) (m1.extBut q₁.extBut D.l1z) ex fun h₂ n1₂ q₂=>wpAny_pure ?_)
  have gO₂:IsPair h₂ TO a b:=q₂.extBut _ _ D.TOi1 (q₁.extBut _ _ D.TOz gO)
  refine wpAny_bind (wpAny_seqItems gO₂ rfl ?_);refine wpAny_bind (wpAny_updateSeq_pair gO₂ fun h₃ gO₃ q₃=>?_)
  refine wpAny_bind (wpAny_letGo (wpAny_pure ?_))
  refine wpAny_bind (wpAny_bind (wpAny_onRaise ?_));show wpAny _ _ (Builtin.SmallTypes.nextOf (.ref i2) >>= _) _ _ _
  refine wpAny_bind (zmg hh (((n2.extBut q₁.extBut D.i2z).extBut q₂.extBut D.i12.symm).extBut q₃.extBut D.TOi2.symm) (((m2.extBut q₁.extBut D.l2z).extBut q₂.extBut D.l2i1).extBut q₃.extBut D.l2TO) ey fun h₄ e q₄ he=>?_)
  obtain ⟨oe,g1,g2⟩:=he
  have gz₄:IsZip h₄ z TI TO .ellipsis:=q₄ _ _ D.i2z.symm (q₃.extBut _ _ D.TOz.symm (q₂.extBut _ _ D.i1z.symm gz₁))
  have nz:e≠z:=fun x=>by subst x;rw [gz₄] at g1;cases g1;simp at g2
  refine wpAny_setField_rec gz₄ (by simp) fun h₅ _ q₅=>q h₅ e (fun t o ht x=>?_) ⟨oe,q₅.extBut _ _ nz g1,g2⟩
  simp only [List.mem_cons,List.not_mem_nil,or_false,not_or] at ht
  obtain ⟨t1,t2,t3,t4⟩:=ht
  exact q₅.extBut _ _ t1 (q₄ _ _ t4 (q₃.extBut _ _ t2 (q₂.extBut _ _ t3 (q₁.extBut _ _ t1 x))))
abbrev ti0 (l:Addr):Obj:={ cls:=.type "tuple_iterator",data:=.fields #[.ref l,.int 0 0] }
abbrev th1 (h:Heap) (l1:Addr):Heap:=h.push (ti0 l1)
abbrev th2 (h:Heap) (l1 l2:Addr):Heap:=(th1 h l1).push (ti0 l2)
abbrev th3 (h:Heap) (l1 l2:Addr):Heap:=(th2 h l1 l2).push { cls:=.type "tuple",data:=.seq #[.ref h.objs.size,.ref (th1 h l1).objs.size] }
abbrev th4 (h:Heap) (l1 l2:Addr):Heap:=(th3 h l1 l2).push { cls:=.type "tuple",data:=.seq #[.none,.none] }
abbrev th5 (h:Heap) (l1 l2:Addr):Heap:=(th4 h l1 l2).push { cls:=.type "zip",data:=.fields #[.none,.bool false,.bool false,.ref (th2 h l1 l2).objs.size,.ref (th3 h l1 l2).objs.size] }
theorem newT (l1 l2:Addr) (xs ys:Array Value) :
  Meets (Builtin.«zip.__new__» ⟨[.type "zip",.ref l1,.ref l2],[]⟩) (fun _ R s=>s.heap.IsTuple l1 xs∧s.heap.IsTuple l2 ys∧R (.ok (.ret (.ref (th4 s.heap l1 l2).objs.size))) { s with heap:=th5 s.heap l1 l2 }) :=
 .of_wp fun prog w A R s h=>by
  obtain ⟨hp,g,d,tk,os⟩:=s;obtain ⟨m1,m2,h⟩:=h
  have hsub:=sub_zip
  have k1:Heap.IsTuple (Shared.heap ⟨hp,g,d,tk,os⟩) l1 xs:=m1
  have k2:Heap.IsTuple (Shared.heap ⟨hp.push { cls:=.type "tuple_iterator",data:=.fields #[.ref l1,.int 0 0] },g,d,tk,os⟩) l2 ys:=Heap.IsTuple.push m2 _
  wp_walk using wpAny_pyIter_tuple k1,wpAny_pyIter_tuple k2
  exact ⟨_,rfl,h⟩
theorem callT {l1 l2:Addr} {xs ys:Array Value} {R:Value→Shared→Prop} (m1:s.heap.IsTuple l1 xs) (m2:s.heap.IsTuple l2 ys)
  (h:∀ (h':Heap) (n:Nat),n=s.heap.objs.size→IsZip h' (n+4) (n+2) (n+3) .none→IsPair h' (n+2) (.ref n) (.ref (n+1))→IsPair h' (n+3) .none .none→h'.IsTupleIter n l1 0→h'.IsTupleIter (n+1) l2 0 →
   (∀ c o,s.heap.get? c=some o→h'.get? c=some o)→R (.ref (n+4)) { s with heap:=h' }) :
  wpAny (model P w) A (call (.type "zip") [.ref l1,.ref l2]) R E s:=by
 refine callType_new F.called_zip (by decide) (F.typeCall_zip_2 _ _) (F.newCall_zip_2 _ _) (fun obj=>F.args_object_init_3 obj _ _) F.entry_zip_new (newT l1 l2 xs ys) ⟨m1,m2,?_⟩
 have z1:(th1 s.heap l1).objs.size=s.heap.objs.size+1:=Heap.size_push ..
 have z2:(th2 s.heap l1 l2).objs.size=s.heap.objs.size+2:=by rw [Heap.size_push,z1]
 have z3:(th3 s.heap l1 l2).objs.size=s.heap.objs.size+3:=by rw [Heap.size_push,z2]
 have z4:(th4 s.heap l1 l2).objs.size=s.heap.objs.size+4:=by rw [Heap.size_push,z3]
 have on:∀ {hh:Heap} {a:Addr} {o o':Obj},hh.get? a=some o→(hh.push o').get? a=some o:=fun e=>Heap.get?_push_of_some _ e
 have y5:(th5 s.heap l1 l2).get? (th4 s.heap l1 l2).objs.size=some _:=Heap.get?_push_size _ rfl
 have y4:(th5 s.heap l1 l2).get? (th3 s.heap l1 l2).objs.size=some _:=on (Heap.get?_push_size _ rfl)
 have y3:(th5 s.heap l1 l2).get? (th2 s.heap l1 l2).objs.size=some _:=on (on (Heap.get?_push_size _ rfl))
 have y2:(th5 s.heap l1 l2).get? (th1 s.heap l1).objs.size=some _:=on (on (on (Heap.get?_push_size _ rfl)))
 have y1:(th5 s.heap l1 l2).get? s.heap.objs.size=some _:=on (on (on (on (Heap.get?_push_size _ rfl))))
 show _∧_
 rw [z2,z3,z4] at y5
 rw [z3] at y4
 rw [z1,z2] at y3
 rw [z1] at y2
 rw [z4]
 exact ⟨⟨_,y5,rfl⟩,h _ _ rfl y5 y3 y4 ⟨_,y1,rfl,rfl⟩ ⟨_,y2,rfl,rfl⟩ fun c o x=>on (on (on (on (on x))))⟩
end
def tnT (z TI TO i1 i2 p q:Addr) (i:Nat) (h:Heap):Prop:=IsZip h z TI TO .none∧IsPair h TI (.ref i1) (.ref i2)∧(∃ a b,IsPair h TO a b)∧h.IsTupleIter i1 p i∧h.IsTupleIter i2 q i
theorem zp3 {z TI TO i1 i2 p q:Addr} {i:Nat} {h h':Heap} (st:tnT z TI TO i1 i2 p q i h) (k:∀ b∈[z,TI,TO,i1,i2],∀ o,h.get? b=some o→h'.get? b=some o):tnT z TI TO i1 i2 p q i h':=by
 obtain ⟨a1,a2,⟨x,y,a3⟩,a4,a5⟩:=st
 exact ⟨k z (by simp) _ a1,k TI (by simp) _ a2,⟨x,y,k TO (by simp) _ a3⟩,zqQ a4 fun o e=>k i1 (by simp) o e,zqQ a5 fun o e=>k i2 (by simp) o e⟩
theorem zjs {z TI TO i1 i2 p q:Addr} {i:Nat} {h:Heap} (st:tnT z TI TO i1 i2 p q i h):∀ b∈[z,TI,TO,i1,i2],∃ o,h.get? b=some o∧∀ v,o.data≠.cell v:=fun b hb=>by
 obtain ⟨a1,a2,⟨x,y,a3⟩,⟨o4,a4,_,d4⟩,⟨o5,a5,_,d5⟩⟩:=st
 simp only [List.mem_cons,List.not_mem_nil,or_false] at hb
 rcases hb with rfl | rfl | rfl | rfl | rfl
 ·exact ⟨_,a1,zbL rfl⟩
 ·exact ⟨_,a2,fun v z=>nomatch (show Data.seq _ _=Data.cell v from z)⟩
 ·exact ⟨_,a3,fun v z=>nomatch (show Data.seq _ _=Data.cell v from z)⟩
 ·exact ⟨_,a4,zbL d4⟩
 ·exact ⟨_,a5,zbL d5⟩
theorem turnT {P:Program} {w:World} {K:PySem.W.Frag} {elts:List Expr} {k:Nat} {pos:Pos} {z TI TO i1 i2 p q:Addr} (D:ZipApart z TI TO i1 i2 p q):zs9 P w K (.Tuple elts k pos) (ItzT K p q) [z,TI,TO,i1,i2] z (tnT z TI TO i1 i2 p q) where
 mem:=by simp
 obj:=fun i h st=>zjs st
 keep:=fun i h h' st kk=>zp3 st kk
 item:=by
  intro X hP hw hK hc i pins s σ H E I hf st hg
  subst hP hw hK
  obtain ⟨xs,ys,a,b,hx,hy,ea,eb⟩:=hg
  obtain ⟨its1,r1,pl1,z1⟩:=I.tuple hx
  obtain ⟨its2,r2,pl2,z2⟩:=I.tuple hy
  obtain ⟨ua,eua,rua⟩:=r1.get ea
  obtain ⟨ub,eub,rub⟩:=r2.get eb
  have there:=zjs st
  obtain ⟨s1,s2,⟨x0,y0,s3⟩,s4,s5⟩:=st
  have ty:s.TypeIs (.ref z) "zip":=⟨_,s1,rfl⟩
  unfold pyNext
  refine wpAny_bind (wpAny_attempt (wpAny_callSpecial?_slot (name:=Str.ofString "__next__") ty F.slot_zip_next (wpAny_call_entry F.slot_zip_next ty F.entry_zip_next (zrC D s1 s2 s3 s4 s5 pl1 pl2 (by simpa using eua) (by simpa using eub) fun h' a1 a2 a3 a4 aT kk=>wpAny_pure ⟨_,rfl,?_⟩) (F.args_zip_next_1 _))))
  refine wpAny_letOwnedTupleGo_zip a1 fun h2 gz2 q2=>?_
  have sub:∀ b∈[z,TO,i1,i2],b∈[z,TI,TO,i1,i2]:=fun b hb=>by
   simp only [List.mem_cons,List.not_mem_nil,or_false] at hb ⊢
   rcases hb with h | h | h | h <;> simp [h]
  have I1:Inv X pins σ H { s with heap:=h2 }:=I.turns (t':=s.toks) (ch:=[z,TO,i1,i2]) (fun b o hb e=>q2.extBut _ _ (fun x=>hb (by simp [x])) (kk b o hb e)) fun b hb=>hf b (sub b hb)
  have hT:s.heap.objs.size≤s.heap.objs.size:=Nat.le_refl _
  have nT:H s.heap.objs.size=none:=I.hok.fresh hT
  have zT:s.heap.objs.size≠z:=Nat.ne_of_gt (Heap.lt_size s1)
  have I2:=I1.track (a:=s.heap.objs.size) (o:=.tup [a,b]) nT (Heap.get?_none_of_le (Nat.le_trans I.sz hT)) (Nat.ne_of_gt (Nat.lt_of_lt_of_le I.lt hT)) (fun x c e=>by
   obtain ⟨v,q⟩:=I.cell x c e
   exact Nat.ne_of_lt (Nat.lt_of_lt_of_le q.lt hT)) (fun p hp=>Nat.ne_of_lt (Nat.lt_of_lt_of_le (Heap.lt_size (I.pin p hp).1) hT)) (by
   refine ⟨by show 2≤sizeLine;decide,[ua,ub],.cons rua (.cons rub .nil),?_⟩
   exact ⟨_,q2.extBut _ _ zT aT,rfl,_,rfl⟩)
  refine ⟨.ref s.heap.objs.size,_,I2,rfl,⟨s.heap.objs.size,a,b,rfl,nT,rfl,fun xs' h'=>?_,fun ys' h'=>?_⟩,?_,fun b hb=>?_⟩
  ·rw [I.tuple_inj h' hx];exact ea
  ·rw [I.tuple_inj h' hy];exact eb
  ·have nTI:TI∉[z,TO,i1,i2]:=by
    simp only [List.mem_cons,List.not_mem_nil,or_false,not_or]
    exact ⟨D.TIz,D.TITO,D.TIi1,D.TIi2⟩
   exact ⟨gz2,q2.extBut _ _ D.TIz (kk _ _ nTI s2),⟨_,_,q2.extBut _ _ D.TOz a2⟩,a3.extBut q2.extBut D.i1z,a4.extBut q2.extBut D.i2z⟩
  ·obtain ⟨o,e,_⟩:=there b hb
   rw [zax (Nat.ne_of_lt (Nat.lt_of_lt_of_le (Heap.lt_size e) hT))]
   exact (hf b hb).1
 done:=by
  intro X hP hw hK hc i pins s σ H E I hf st hg
  subst hP hw hK
  obtain ⟨xs,ys,hx,hy,rfl⟩:=hg
  obtain ⟨its1,r1,pl1,z1⟩:=I.tuple hx
  obtain ⟨its2,r2,pl2,z2⟩:=I.tuple hy
  obtain ⟨s1,s2,⟨x0,y0,s3⟩,s4,s5⟩:=st
  have sub:∀ b∈[z,TO,i1,i2],b∈[z,TI,TO,i1,i2]:=fun b hb=>by
   simp only [List.mem_cons,List.not_mem_nil,or_false] at hb ⊢
   rcases hb with h | h | h | h <;> simp [h]
  have ee:its1.toArray[min xs.length ys.length]?=none∨its2.toArray[min xs.length ys.length]?=none:=by
   rw [r1.length,r2.length]
   rcases Nat.le_total its1.length its2.length with h | h
   ·exact .inl (by rw [Nat.min_eq_left h];simp)
   ·exact .inr (by rw [Nat.min_eq_right h];simp)
  have ty:s.TypeIs (.ref z) "zip":=⟨_,s1,rfl⟩
  unfold pyNext
  refine wpAny_bind (wpAny_attempt (wpAny_callSpecial?_slot (name:=Str.ofString "__next__") ty F.slot_zip_next (wpAny_call_entry F.slot_zip_next ty F.entry_zip_next (zuf (I.ok.hd hc) D s1 s2 s3 s4 s5 pl1 pl2 ee fun h' e kk he=>?_) (F.args_zip_next_1 _))))
  obtain ⟨o,h1,h2⟩:=he
  exact wpAny_bind (wpAny_isInstance (T:="StopIteration") (b:=true) ⟨o,h1,h2⟩ isSubtype_stop (wpAny_pure ⟨rfl,I.turns (t':=s.toks) (ch:=[z,TO,i1,i2]) (fun b o hb e=>kk b o hb e) fun b hb=>hf b (sub b hb)⟩))
 self:=fun A i s Q E st h=>wpAny_pyIter_zip st.1 h
end L2.Zt
namespace L2
open PySem PySem.Spec PyProof.Rows
theorem zse {X:Cx} {a b:Expr} {elts:List Expr} {k:Nat} {tp p pos:Pos} {ta:TA} (hg:Gl X "zip") (hm:X.mg "zip"=none) (ha:PA X [a,b] ta) (hs:starEach [a,b] X.env=[(false,eval a X.env),(false,eval b X.env)]:=by rfl) (hs2:starEach [b] X.env=[(false,eval b X.env)]:=by rfl) :
  PI X (.Tuple elts k tp) (.Call (.Name "zip" p) [a,b] [] pos) (zqt X.K ta):=by
 intro pins s σ H R I h
 refine Call_ (zgz I hg hm boot_zip (PyProof.Rows.callWith_type1 (thn (ha pos pins s σ H _ I h) fun us s1 hQ'=>?_) (by rw [hs,hs2]) (by rw [hs2];rfl)))
 obtain ⟨vs,H1,I1,r1,q1⟩:=hQ'
 obtain ⟨p1,p2,rfl,c⟩:=q1
 obtain ⟨u,v,rfl,ru,rv⟩:=zlJ r1
 cases ru
 cases rv
 have new:∀ b∈[s1.heap.objs.size+4,s1.heap.objs.size+2,s1.heap.objs.size+3,s1.heap.objs.size,s1.heap.objs.size+1],s1.heap.objs.size≤b:=fun b hb=>by
  simp only [List.mem_cons,List.not_mem_nil,or_false] at hb
  rcases hb with h | h | h | h | h <;> rw [h] <;> first | exact Nat.le_refl _ | exact Nat.le_add_right _ _
 rcases c with ⟨⟨xs,hx⟩,⟨ys,hy⟩,q⟩ | ⟨⟨xs,hx⟩,⟨ys,hy⟩,q⟩
 ·obtain ⟨its1,_,pl1,_⟩:=I1.list hx
  obtain ⟨its2,_,pl2,_⟩:=I1.list hy
  have a1:p1<s1.heap.objs.size:=by obtain ⟨_,e,_⟩:=pl1.isList;exact Heap.lt_size e
  have a2:p2<s1.heap.objs.size:=by obtain ⟨_,e,_⟩:=pl2.isList;exact Heap.lt_size e
  refine call_zip_2 pl1.isList pl2.isList fun h' hz hTI hTO hi1 hi2 hsz hk=>?_
  refine wpAny_pyIter_zip hz ?_
  exact ⟨_,_,_,_,H1,rfl,I1.kept (t':=s1.toks) hk,zpw (zipApart_new a1 a2),⟨hz,hTI,⟨_,_,hTO⟩,hi1,hi2⟩,fun b hb=>I1.fpOk (new b hb) (I1.hok.fresh (new b hb)),q⟩
 ·obtain ⟨its1,_,pl1,_⟩:=I1.tuple hx
  obtain ⟨its2,_,pl2,_⟩:=I1.tuple hy
  have a1:p1<s1.heap.objs.size:=by obtain ⟨_,e,_⟩:=pl1;exact Heap.lt_size e
  have a2:p2<s1.heap.objs.size:=by obtain ⟨_,e,_⟩:=pl2;exact Heap.lt_size e
  refine Zt.callT pl1 pl2 fun h' n en hz hTI hTO hi1 hi2 hk=>?_
  subst en
  refine wpAny_pyIter_zip hz ?_
  exact ⟨_,_,_,_,H1,rfl,I1.kept (t':=s1.toks) hk,Zt.turnT (zipApart_new a1 a2),⟨hz,hTI,⟨_,_,hTO⟩,hi1,hi2⟩,fun b hb=>I1.fpOk (new b hb) (I1.hok.fresh (new b hb)),q⟩
end L2
namespace L2
open PySem PySem.Spec PyProof.Rows
def znA (P:Program) (w:World) (K:PySem.W.Frag) (mg:Str→Option Value) (base:Heap) (N:List Str) (qual:Str) (scope:Scope) (f:Addr) (cd:Value) (cl:List (Str×Addr)) (A:Around) (outer:List Env) (s:Shared) (H:Hp):Cx where
 prog:=P
 w:=w
 K:=K
 mg:=mg
 base:=base
 A:=A.deeper (PySem.W.envX qual scope s.heap.objs.size f cd cl)
 N:=N
 s₀:=s
 H₀:=H
 env:=PySem.W.envX qual scope s.heap.objs.size f cd cl
 outer:=outer
 stack:=PySem.W.envX qual scope s.heap.objs.size f cd cl::outer
 ex:=[]
 calm:=true
 fn:=fun y=>(cl.lookup y).isNone
 pn:=[]
 xe:=fun _ _=>False
structure ztJ (H:Hp) (h:Heap) (sc:Scope) (cl:List (Str×Addr)) (Ns:List Str) (vs:List V):Prop where
 len:vs.length=Ns.length
 at':∀ (i:Nat) (y:Str),Ns[i]?=some y→∃ c uy vy,cl.lookup y=some c∧sc.names.lookup y=some .free∧h.IsCell c (some uy)∧vs[i]?=some vy∧zcA vy uy
 has:∀ y,sc.names.lookup y=some .free→∃ c,cl.lookup y=some c
 cel:∀ y c,cl.lookup y=some c→H c=none∧∃ v,h.IsCell c v
 inj:∀ y z c,cl.lookup y=some c→cl.lookup z=some c→y=z
def Bar (P:Addr) (H H':Hp):Prop:=∀ b o,b≠P→H b=some o→H' b=some o
def zdL (H:Hp) (P:Addr) (pos:Pos) (qual:Str):Prop:=H P=some (.tbl #[]) ∨
 ∃ (c':Addr) (oc:Obj) (vs:Array Value) (t:Nat),c'≠P∧H P=some (.tbl #[rawInt pos.line,rawInt pos.col,.ref c'])∧H c'=some (.frz oc (.own c'))∧oc.data=.fields vs∧vs[1]?=some (.str qual t)
section
variable {X:Cx} {pins:List (Addr×Obj)} {σ:St} {H:Hp} {s:Shared} {c P:Addr} {pos:Pos} {qual:Str} {params:Arguments} {body:Expr} {scope:Scope} {clos:List (Str×Addr)} {Q:Value→Shared→Prop} {E:Value→Shared→Prop}
theorem zsy {ps ps':Array Value} {h h':Heap} {Pg:Program} {w:World} {c':Addr} {oc:Obj} (ok:HOk Pg w H h) (hP:H P=some (.tbl ps)) (hc:H c'=none) (hx:∀ b o,b≠P→h.get? b=some o→h'.get? b=some o)
  (e1:h'.get? P=some { cls:=.none,data:=.fields ps' }) (e2:h'.get? c'=some oc):HOk Pg w (upd (upd H P (.tbl ps')) c' (.frz oc (.own c'))) h':=by
 have ncP:c'≠P:=fun z=>by rw [z,hP] at hc;cases hc
 intro b u e
 by_cases q:b=c'
 ·subst q
  rw [zaf] at e
  cases e
  exact ⟨e2,oc,e2⟩
 ·rw [zax q] at e
  by_cases q2:b=P
  ·subst q2
   rw [zaf] at e
   cases e
   exact e1
  ·rw [zax q2] at e
   refine (ok b u e).stay (fun d v hd r=>hx d v (fun z=>?_) r) (fun d r=>?_) fun d xs r=>?_
   ·rcases hd with rfl | hd
    ·exact q2 z
    ·rw [z,hP] at hd;cases hd
   ·rw [zax (fun z=>by rw [z,hc] at r;cases r),zax (fun z=>by rw [z,hP] at r;cases r)];exact r
   ·rw [zax (fun z=>by rw [z,hc] at r;cases r),zax (fun z=>by rw [z,hP] at r;cases r)];exact r
theorem ztU {ps more:Array Value} {fs ex:List Addr} {h h':Heap} {c':Addr} {oc:Obj} (hP:H P=some (.tbl ps)) (hc:H c'=none) (hf:h.objs.size≤c') (hx:∀ b o,b≠P→h.get? b=some o→h'.get? b=some o) (hPt:∃ o,h'.get? P=some o) :
  Un fs ex H (upd (upd H P (.tbl (ps++more))) c' (.frz oc (.own c'))) h h':=by
 have nP:∀ b,H b=none→b≠P:=fun b n z=>by rw [z,hP] at n;cases n
 have nc:∀ b u,H b=some u→b≠c':=fun b u e z=>by rw [z,hc] at e;cases e
 refine ⟨fun b o q n _ _=>hx b o (nP b n) q,fun b o q n _ _=>⟨o.slots,hx b o (nP b n) q⟩,fun b o q n _=>?_,fun b o q _=>?_,fun b xs q=>?_,fun b o u q=>?_,fun b ps' q=>?_⟩
 ·rw [zax (Nat.ne_of_lt (Nat.lt_of_lt_of_le (Heap.lt_size q) hf)),zax (nP b n)];exact n
 ·by_cases z:b=P
  ·rw [z];exact hPt
  ·exact ⟨o,hx b o z q⟩
 ·rw [zax (nc b _ q),zax (fun z=>by rw [z,hP] at q;cases q)];exact q
 ·rw [zax (nc b _ q),zax (fun z=>by rw [z,hP] at q;cases q)];exact q
 ·rw [zax (nc b _ q)]
  by_cases z:b=P
  ·subst z
   rw [hP] at q
   cases q
   exact ⟨more,zaf⟩
  ·rw [zax z]
   exact ⟨#[],by rw [q];simp⟩
theorem zq0 (I:Inv X pins σ H s) (hcode:X.env.code=.ref c) (C:PySem.W.CodeHd X.base c P) (hB:X.base.BuiltinsAt X.mg P) (hL:zdL H P pos qual) (hcl:closureFor scope X.env=pure clos) (hdef:defaultsOf params X.env=([],[]))
  (hq:X.env.qual++"<lambda>"=qual)
  (h:∀ (q c':Addr) (pm ctv:Value) (H':Hp) (s':Shared) (oc:Obj) (vs:Array Value) (t:Nat),Inv X pins σ H' s'→Bar P H H'→zdL H' P pos qual→s'.heap.get? q=some (PySem.W.kla_obj "<lambda>" qual params body scope clos pm c' ctv) →
   H' c'=some (.frz oc (.own c'))→oc.data=.fields vs→vs[1]?=some (.str qual t)→zla X pins H' q→Q (.ref q) s') :
  wpAny (model X.prog X.w) X.A (eval (.Lambda params body scope pos) X.env) Q E s:=by
 have hg:s.heap.Ns mainGlobals X.mg:=I.ok.mod.glob.keeps I.bk
 have C':=C.keeps I.bk
 obtain ⟨bm,ob,b1,b2,b3,b4,b5,b6⟩:=hB
 have hgP:∀ ps,H P=some (.tbl ps)→mainGlobals≠P:=fun ps hP z=>by
  have e:=I.hok P _ hP
  obtain ⟨o,es,ep,e',d,_⟩:=hg
  rw [z] at e'
  have e:s.heap.get? P=some { cls:=.none,data:=.fields ps }:=e
  rw [e'] at e
  cases e
  cases d
 refine PySem.W.kla_eval hdef ?_
 rw [hq]
 rcases hL with hP | ⟨c',oc,vs,t,ne,hP,hc,hd,hv⟩
 ·refine PySem.W.kla_makeFunction (mg:=X.mg) (ps:=#[]) hcl I.ok.glob hg hcode C' (I.hok P _ hP) trivial rfl (hgP _ hP) ⟨bm,ob,b1,b2,b3,b4,I.bk _ _ b5,b6⟩ fun c' ctv h' tk hx hge hlt hrec htb=>?_
  obtain ⟨c₂,oc,vs,t,e2,hoc,hd,hv⟩:=hrec
  cases e2
  have hcn:H c'=none:=I.hok.fresh hge
  have hx':∀ b o,b≠P→s.heap.get? b=some o→(h'.push (PySem.W.kla_obj "<lambda>" qual params body scope clos ((X.mg "__name__").getD .none) c' ctv)).get? b=some o:=fun b o q e=>Heap.get?_push_of_some _ (hx b o q e)
  have e1:(h'.push (PySem.W.kla_obj "<lambda>" qual params body scope clos ((X.mg "__name__").getD .none) c' ctv)).get? P=some { cls:=.none,data:=.fields (#[]++#[rawInt pos.line,rawInt pos.col,.ref c']) }:=Heap.get?_push_of_some _ htb
  have e2:(h'.push (PySem.W.kla_obj "<lambda>" qual params body scope clos ((X.mg "__name__").getD .none) c' ctv)).get? c'=some oc:=Heap.get?_push_of_some _ hoc
  have ncP:c'≠P:=fun z=>by rw [z,hP] at hcn;cases hcn
  have J:=I.un (t':=tk) (ztU (more:=#[rawInt pos.line,rawInt pos.col,.ref c']) (oc:=oc) hP hcn hge hx' ⟨_,e1⟩) (zsy I.hok hP hcn hx' e1 e2)
  have hsz:s.heap.objs.size≤h'.objs.size:=Nat.le_trans hge (Nat.le_of_lt hlt)
  have nq:H h'.objs.size=none:=I.hok.fresh hsz
  refine h h'.objs.size c' _ ctv _ _ oc vs t J (fun b o nb e=>?_) (.inr ⟨c',oc,vs,t,ncP,?_,zaf,hd,hv⟩) (Heap.get?_push_size _ rfl) zaf hd hv (I.fpOk hsz ?_)
  ·rw [zax (fun z=>by rw [z,hcn] at e;cases e),zax nb];exact e
  ·rw [zax (Ne.symm ncP),zaf];rfl
  ·rw [zax (Nat.ne_of_gt hlt),zax (fun z=>by rw [z,hP] at nq;cases nq)];exact nq
 ·have hf:codeAmong pos (#[rawInt pos.line,rawInt pos.col,Value.ref c']:Array Value).toList=some (.ref c'):=by simp [codeAmong,rawInt]
  refine PySem.W.kla_makeFunctionHit (mg:=X.mg) (ps:=#[rawInt pos.line,rawInt pos.col,.ref c']) hcl I.ok.glob hg hcode C' (I.hok P _ hP) trivial hf ⟨bm,ob,b1,b2,b3,b4,I.bk _ _ b5,b6⟩ fun ctv h' tk hk hsz=>?_
  have J:=I.kept (t':=tk) (h':=h'.push (PySem.W.kla_obj "<lambda>" qual params body scope clos ((X.mg "__name__").getD .none) c' ctv)) fun b u e=>Heap.get?_push_of_some _ (hk b u e)
  exact h h'.objs.size c' _ ctv H _ oc vs t J (fun _ _ _ e=>e) (.inr ⟨c',oc,vs,t,ne,hP,hc,hd,hv⟩) (Heap.get?_push_size _ rfl) hc hd hv (I.fpOk hsz (I.hok.fresh hsz))
end
end L2
namespace L2
open PySem PySem.Spec PyProof.Rows
theorem zdL.tbl {H:Hp} {P:Addr} {pos:Pos} {qual:Str} (h:zdL H P pos qual):∃ ps,H P=some (.tbl ps):=by
 rcases h with h | ⟨_,_,_,_,_,h,_⟩ <;> exact ⟨_,h⟩
section
variable {X:Cx} {e body:Expr} {t:TA} {tb:TE} {pos p kp lpos:Pos} {c P:Addr} {params:Arguments} {scope:Scope} {clos:List (Str×Addr)} {qual x:Str} {Ns:List Str} {js:List Nat} {k:Nat}
end
end L2
namespace L2
open PySem PySem.Spec PyProof.Rows
def zbI (P:Addr) (K:PySem.W.Frag):PySem.W.Frag:=K.filter fun x=>x.1 != P
theorem za8 {P b:Addr} (h:b≠P):∀ {K:PySem.W.Frag},(zbI P K).lookup b=K.lookup b
 | []=>rfl
 | (a,o)::K=>by
  unfold zbI
  by_cases q:a=P
  ·rw [List.filter_cons_of_neg (by simpa using q)]
   show (zbI P K).lookup b=_
   rw [za8 h,List.lookup_cons,show (b == a)=false from beq_eq_false_iff_ne.mpr (by rw [q];exact h)]
  ·rw [List.filter_cons_of_pos (by simpa using q),List.lookup_cons,List.lookup_cons]
   show (match b == a with | true=>some o | false=>(zbI P K).lookup b)=_
   rw [za8 h]
   cases b == a <;> rfl
theorem zaI {P:Addr}:∀ {K:PySem.W.Frag},(zbI P K).lookup P=none
 | []=>rfl
 | (a,o)::K=>by
  unfold zbI
  by_cases q:a=P
  ·rw [List.filter_cons_of_neg (by simpa using q)]
   exact zaI (K:=K)
  ·rw [List.filter_cons_of_pos (by simpa using q),List.lookup_cons,show (P == a)=false from beq_eq_false_iff_ne.mpr (Ne.symm q)]
   exact zaI (K:=K)
theorem zsb {P:Addr} {K:PySem.W.Frag} {h:Heap} (KX:K.In h):(zbI P K).In h:=fun b o e=>by
 by_cases q:b=P
 ·rw [q,zaI] at e;cases e
 ·rw [za8 q] at e;exact KX b o e
theorem zny {Pg:Program} {w:World} {K:PySem.W.Frag} {mg mb:Str→Option Value} {CX:CXT} {k:Nat} {fa a c P:Addr} {fd:FuncData} {x:Str} {sp:Sp} {s₁:Shared} {vs:List Value} {ns:List Int}
  (KX:K.In s₁.heap) (hPK:K.lookup P=none) (hPt:s₁.heap.get? P=some (PySem.W.tabObj #[])) (hC:PySem.W.CodeHd s₁.heap c P) (hB:s₁.heap.BuiltinsAt mg P)
  (hns:s₁.heap.Ns mainGlobals mg) (hb:s₁.heap.Ns builtinsNs mb) (hbb:∀ x:Str,x≠"__name__"→mb x=bootBuiltins x) (hlim:s₁.heap.NoLimit) (hg:s₁.gens=#[])
  (ha:s₁.heap.get? a=some { cls:=.type "list",data:=.seq vs.toArray }) (hi:IntsAre vs ns) (hl:ns.length≤sizeLine) (hr:zeS k callerA)
  (F:∀ base:Heap,K.In base→base.Ns mainGlobals mg→PySem.W.CodeHd base c P→base.BuiltinsAt mg P→zdD Pg w K mg base CX k fa fd [x] sp) (hbind:∀ (s:Shared) (u:Value),BindsTo s fd ⟨[u],[]⟩ [(x,u)])
  (hsp:∀ H:Hp,H P=some (.tbl #[])→SqL K H a (ns.map V.int)→sp [.ref a] H (fun v _=>v=.bl true) fun _ _ _=>False)
  (hCX:∀ H e s',CX [] H s₁ (fun _ _ _=>False) e s'→False) :
  codeAny (model Pg w) callerA (.call (.ref fa) ⟨[.ref a],[]⟩) (fun r s'=>r=.ok (.ret (.bool true))∧OldK s₁.heap s'.heap∧s'.os=s₁.os∧AllBare s'.gens) s₁:=by
 have rv:=zjy hi
 have lenV:=hi.length
 have naP:a≠P:=fun z=>by rw [z,hPt] at ha;cases ha
 have core:∀ H:Hp,H P=some (.tbl #[])→SqL K H a (ns.map V.int)→HOk Pg w H s₁.heap→(∀ b,H b≠none→b=P∨(b=a∧H a=some (.frz { cls:=.type "list",data:=.seq vs.toArray } (.lst (ns.map V.int)))))→(H a≠none→K.lookup a=none) →
   codeAny (model Pg w) callerA (.call (.ref fa) ⟨[.ref a],[]⟩) (fun r s'=>r=.ok (.ret (.bool true))∧OldK s₁.heap s'.heap∧s'.os=s₁.os∧AllBare s'.gens) s₁:=by
  intro H hHP hS hok hA hK
  have base_of:∀ {b:Addr} {o:Obj},s₁.heap.get? b=some o→H b=none→(zob s₁.heap H).get? b=some o:=fun e n=>zp4 e n
  have free:∀ {b:Addr} {o:Obj},s₁.heap.get? b=some o→b≠P→(∀ its n,o.data≠.seq its n)→H b=none:=fun {b o} e nP d=>by
   cases q:H b with
   | none=>rfl
   | some u =>
    rcases hA b (by rw [q];simp) with z | ⟨z,_⟩
    ·exact absurd z nP
    ·subst z
     rw [ha] at e;cases e
     exact absurd rfl (d _ _)
  have noP:∀ {b:Addr} {o:Obj},s₁.heap.get? b=some o→(∀ ps,o.data≠.fields ps)→b≠P:=fun {b o} e d z=>by
   subst z
   rw [hPt] at e;cases e
   exact d _ rfl
  have nsK:∀ {b:Addr} {m:Str→Option Value},s₁.heap.Ns b m→(zob s₁.heap H).Ns b m:=fun {b m} ⟨o,es,ep,e,d,r⟩ =>
   ⟨o,es,ep,base_of e (free e (noP e fun ps z=>by rw [d] at z;cases z) fun its n z=>by rw [d] at z;cases z),d,r⟩
  have hKb:K.In (zob s₁.heap H):=fun b o e=>base_of (KX b o e) (by
   cases q:H b with
   | none=>rfl
   | some u =>
    rcases hA b (by rw [q];simp) with z | ⟨z,_⟩
    ·rw [z,hPK] at e;cases e
    ·subst z
     rw [hK (by rw [q];simp)] at e;cases e)
  have hM:Mod K mg (zob s₁.heap H):=⟨hKb,nsK hns,⟨mb,nsK hb,hbb⟩,let ⟨mc,h1,h2⟩:=hlim;⟨mc,nsK h1,h2⟩⟩
  have hC':PySem.W.CodeHd (zob s₁.heap H) c P:=by
   obtain ⟨o,ovs,file,tf,flags,tg,inF,text,tt,e1,e2,e3,r⟩:=hC
   exact ⟨o,ovs,file,tf,flags,tg,inF,text,tt,base_of e1 (free e1 r.2.2.2.2.2.2 fun its n z=>by rw [e3] at z;cases z),e2,e3,r⟩
  have hB':(zob s₁.heap H).BuiltinsAt mg P:=by
   obtain ⟨bm,ob,b1,b2,b3,b4,b5,b6,b7,b8⟩:=hB
   exact ⟨bm,ob,b1,b2,b3,b4,base_of b5 (free b5 b4 fun its n z=>by rw [b8] at z;cases z),b6,b7,b8⟩
  have e0:zpl Pg w K mg (zob s₁.heap H) callerA [] s₁ H:=⟨rfl,hM,fun b o e=>zsh e,Nat.le_of_eq (zoz _ _),trivial,fun b hb=>absurd (show b∈([]:List Addr) from hb) (by simp),hok,.of_eq hg⟩
  refine codeAny_mono ((F _ hKb (nsK hns) hC' hB').run callerA [] s₁ H ⟨[.ref a],[]⟩ [.ref a] [.ref a] _ _ hr e0 (hbind s₁ (.ref a)) (.cons rfl .nil) (hsp H hHP hS)) fun r s' h=>?_
  cases r with
  | error e=>exact (hCX H e s' h).elim
  | ok fl =>
   cases fl with
   | next=>exact False.elim h
   | brk=>exact False.elim h
   | cont=>exact False.elim h
   | ret u =>
    obtain ⟨v,H',os,bare,un,hok',r',q⟩:=h
    have q':v=.bl true:=q
    subst q'
    obtain rfl:u=Value.bool true:=r'
    refine ⟨rfl,⟨fun b o e=>?_,fun b o e=>un.there b o e (by simp)⟩,os,bare⟩
    by_cases zP:b=P
    ·subst zP
     rw [hPt] at e
     cases e
     obtain ⟨more,hm⟩:=un.tbls b _ hHP
     have ht':s'.heap.get? b=some { cls:=.none,data:=.fields (#[]++more) }:=hok' b _ hm
     exact .inr (.inl ⟨(hC.tab hPt).isCodeTable,rfl,#[],more,rfl,ht'⟩)
    ·refine .inl ?_
     cases q:H b with
     | none=>exact un.keep b o e q (by intro z;exact absurd (show b∈([]:List Addr) from z) (by simp)) (by simp)
     | some u =>
      rcases hA b (by rw [q];simp) with z | ⟨z,z1⟩
      ·exact absurd z zP
      ·subst z
       have z2:=un.frzs b _ _ z1
       obtain ⟨e1,_⟩:=hok b _ z1
       obtain ⟨e2,_⟩:=hok' b _ z2
       rw [e] at e1;cases e1
       exact e2
 have okP:∀ {H:Hp},H P=some (.tbl #[])→zbO Pg w H s₁.heap P (.tbl #[]):=fun _=>hPt
 cases hk:K.lookup a with
 | some o =>
  have e:=KX a o hk
  rw [ha] at e
  cases e
  refine core (fun b=>if b=P then some (.tbl #[]) else none) (if_pos rfl) (.inr ⟨_,vs.toArray,_,hk,rfl,rfl,rfl,by rw [List.size_toArray,lenV];exact hl,by simpa using rv⟩) (fun b u z=>?_) (fun b z=>?_) fun z=>absurd (if_neg naP) z
  ·by_cases q:b=P
   ·subst q
    have z':=(if_pos rfl).symm.trans z
    cases z'
    exact hPt
   ·have z':=(if_neg q).symm.trans z
    cases z'
  ·by_cases q:b=P
   ·exact .inl q
   ·exact absurd (if_neg q) z
 | none =>
  have hfr:(if a=P then some (HO.tbl #[]) else if a=a then some (HO.frz { cls:=.type "list",data:=.seq vs.toArray } (.lst (ns.map V.int))) else none)=some (.frz { cls:=.type "list",data:=.seq vs.toArray } (.lst (ns.map V.int))):=by rw [if_neg naP,if_pos rfl]
  refine core (fun b=>if b=P then some (.tbl #[]) else if b=a then some (.frz { cls:=.type "list",data:=.seq vs.toArray } (.lst (ns.map V.int))) else none) (if_pos rfl) (.inl (.inr ⟨{ cls:=.type "list",data:=.seq vs.toArray },hfr⟩)) (fun b u z=>?_) (fun b z=>?_) fun _=>hk
  ·by_cases q:b=P
   ·subst q
    have z':=(if_pos rfl).symm.trans z
    cases z'
    exact hPt
   ·by_cases hb:b=a
    ·subst hb
     have z':=hfr.symm.trans z
     cases z'
     exact ⟨ha,by rw [List.length_map];exact hl,vs,_,rv,ha⟩
    ·have z0:(if b=P then some (HO.tbl #[]) else if b=a then some (HO.frz { cls:=.type "list",data:=.seq vs.toArray } (.lst (ns.map V.int))) else none)=some u:=z
     rw [if_neg q,if_neg hb] at z0
     cases z0
  ·by_cases q:b=P
   ·exact .inl q
   ·by_cases hb:b=a
    ·exact .inr ⟨hb,hfr⟩
    ·have z0:(if b=P then some (HO.tbl #[]) else if b=a then some (HO.frz { cls:=.type "list",data:=.seq vs.toArray } (.lst (ns.map V.int))) else none)≠none:=z
     rw [if_neg q,if_neg hb] at z0
     exact absurd rfl z0
theorem zpC {l:PySem.W.OpenLaw} {n k:Nat} {q:Program} {loose:List Str} {XP:(Str→Option Value)→Heap→Prop} {YP:World→Heap→Prop} {d:DefRec} {K:Params→PySem.W.Frag} {sp:World→Sp} {x:Str} {c P:Addr}
  (hn:l.most=some n) (hn2:n≤sizeLine) (hdf:d.params.defaults=[]) (hr:zeS k callerA)
  (hY:∀ (w:World) (h:Heap),YP w h→(K w.params).In h)
  (hPt:∀ w:World,(K w.params).lookup P=some (PySem.W.tabObj #[])) (hC:∀ (w:World) (h:Heap),(K w.params).In h→PySem.W.CodeHd h c P)
  (F:∀ (w:World) (mg:Str→Option Value) (fa:Addr) (h:Heap),(K w.params).In h→h.Ns mainGlobals mg→mg d.name=some (.ref fa) →
   ∃ fd:FuncData,(∀ (s:Shared) (u:Value),BindsTo s fd ⟨[u],[]⟩ [(x,u)]) ∧
    ∀ base:Heap,(zbI P (K w.params)).In base→base.Ns mainGlobals mg→PySem.W.CodeHd base c P→base.BuiltinsAt mg P→zdD l.prog w (zbI P (K w.params)) mg base CX0 k fa fd [x] (sp w))
  (hsp:∀ (w:World) (H:Hp) (a:Addr) (ns:List Int),(∀ x∈ns,x.natAbs<2 ^ 2 ^ 20)→ns.length≤n→H P=some (.tbl #[])→SqL (zbI P (K w.params)) H a (ns.map V.int)→sp w [.ref a] H (fun v _=>v=.bl true) fun _ _ _=>False) :
  PySem.W.WalkO q loose XP YP l.row.toRowW d [] (fun f vs=>PySem.call f vs):=by
 refine Att.attach_callL hn hdf fun w s₀ s₁ mg mb fa o pm cd doc a vs ns hb0 G Y ho hd hcd hmg hobj hints hlen hg=>?_
 have KX:=hY w _ Y
 obtain ⟨fd,hb,hF⟩:=F w mg fa _ KX G.T.g hmg
 have hP:=KX _ _ (hPt w)
 obtain ⟨bm,ob,b1,b2,b3,b4,b5,b6⟩:=G.T.bmain
 have hBt:s₁.heap.BuiltinsAt mg P:=by
  refine ⟨bm,ob,b1,b2,fun z=>?_,fun z=>?_,b3,b4,b5,b6⟩
  ·obtain ⟨o',es,ep,e,d',_⟩:=G.T.g
   rw [z,e] at b3;cases b3;rw [d'] at b6;cases b6
  ·rw [z,hP] at b3;cases b3;cases b4
 exact zny (zsb KX) zaI hP (hC w _ KX) hBt G.T.g G.T.b G.T.builtins G.T.nolimit hg hobj hints (Nat.le_trans hlen hn2) hr hF hb (fun H hP' hS=>hsp w H a ns hb0 hlen hP' hS) fun H e s' z=>z
section
open PySem.W
variable {P:Addr} {K:Frag}
theorem ziC (hP:K.lookup P=some (tabObj #[])) (a:Addr) (x:Str):nsIn (zbI P K) a x=nsIn K a x:=by
 unfold nsIn
 by_cases q:a=P
 ·rw [q,zaI,hP]
 ·rw [za8 q]
theorem zqa (hP:K.lookup P=some (tabObj #[])) (x:Str) (v:Value):ownIn (zbI P K) x v=ownIn K x v:=by
 unfold ownIn
 cases v with
 | ref a =>
  by_cases q:a=P
  ·simp only [q,zaI,hP]
  ·simp only [za8 q,ziC hP]
 | _=>rfl
theorem zij (hP:K.lookup P=some (tabObj #[])) (x:Str):∀ l:List Value,alongIn (zbI P K) x l=alongIn K x l
 | []=>rfl
 | c::r=>by simp only [alongIn,zqa hP,zij hP x r]
theorem zcg (hP:K.lookup P=some (tabObj #[])) (t:Value) (x:Str):findIn (zbI P K) t x=findIn K t x:=by
 unfold findIn
 cases t with
 | ref a =>
  by_cases q:a=P
  ·simp only [q,zaI,hP]
  ·simp only [za8 q,zij hP]
 | _=>rfl
theorem ziz (hP:K.lookup P=some (tabObj #[])) (C:Addr):clsIn (zbI P K) C=clsIn K C:=by
 unfold clsIn
 by_cases q:C=P
 ·rw [q,zaI,hP]
 ·rw [za8 q]
theorem zdH {a:Addr} (q:a≠P):typeIn (zbI P K) (.ref a)=typeIn K (.ref a):=by
 unfold typeIn
 simp only [za8 q]
theorem zhz (hP:K.lookup P=some (tabObj #[])) (a:Addr):keepIn (zbI P K) (.ref a)=keepIn K (.ref a):=by
 unfold keepIn
 by_cases q:a=P
 ·simp only [q,zaI,hP]
 ·simp only [za8 q,specialIn,zdH q,zcg hP]
theorem zkr (hP:K.lookup P=some (tabObj #[])) (cd:Value) (x:Str) (h:codeIn K cd x=true):codeIn (zbI P K) cd x=true:=by
 unfold codeIn at h ⊢
 cases cd with
 | ref c =>
  by_cases q:c=P
  ·simp only [q,hP] at h
   cases h
  ·simp only [za8 q]
   exact h
 | _=>exact h
theorem zbg (hP:K.lookup P=some (tabObj #[])) {x qual:Str} {st:Stmt} {f:Addr} {fd:FuncData} (F:Fun K x qual st f fd):Fun (zbI P K) x qual st f fd:=by
 obtain ⟨⟨oc,od,kV,doc,pm,an,cdv,ct,osl,e,l,c⟩,k⟩:=F
 have q:f≠P:=fun z=>by rw [z,hP] at l;cases l
 exact ⟨⟨oc,od,kV,doc,pm,an,cdv,ct,osl,e,(za8 q).trans l,zkr hP _ _ c⟩,(zhz hP f).trans k⟩
theorem zsw (hP:K.lookup P=some (tabObj #[])) {f:Addr} (h:isFn K (.ref f)=true):f≠P:=fun z=>by
 have e:typeIn K (.ref f)=some .none:=by
  show (K.lookup f).map (·.cls)=_
  rw [z,hP]
  rfl
 unfold isFn at h
 rw [e] at h
 exact absurd h (by decide)
structure zph (K:Frag) (x qual:Str) (st:Stmt) (f:Addr) (fd:FuncData) (c:Addr):Prop where
 ex:∃ (oc:Value) (od:Option Addr) (kV doc pm:Value) (an:Option Addr) (ct:Value) (osl:Array (Option Value)),
  fd=fnOf x qual (zdl st) (zcr st) (zav st) .none kV doc pm an (.ref c) ct∧K.lookup f=some ⟨oc,od,.func fd,osl⟩∧codeIn K (.ref c) qual=true
 kp:keepIn K (.ref f)=true
theorem zst {x qual:Str} {st:Stmt} {f c:Addr} {oc:Value} {od an:Option Addr} {osl:Array (Option Value)} {kV doc pm ct:Value} (l:K.lookup f=some ⟨oc,od,.func (fnOf x qual (zdl st) (zcr st) (zav st) .none kV doc pm an (.ref c) ct),osl⟩)
  (cc:codeIn K (.ref c) qual=true) (k:keepIn K (.ref f)=true):zph K x qual st f (fnOf x qual (zdl st) (zcr st) (zav st) .none kV doc pm an (.ref c) ct) c:=⟨⟨oc,od,kV,doc,pm,an,ct,osl,rfl,l,cc⟩,k⟩
theorem zph.fun {x qual:Str} {st:Stmt} {f c:Addr} {fd:FuncData} (F:zph K x qual st f fd c):Fun K x qual st f fd:=by
 obtain ⟨⟨oc,od,kV,doc,pm,an,ct,osl,e,l,cc⟩,k⟩:=F
 exact ⟨⟨oc,od,kV,doc,pm,an,.ref c,ct,osl,e,l,cc⟩,k⟩
theorem zph.drop (hP:K.lookup P=some (tabObj #[])) {x qual:Str} {st:Stmt} {f c:Addr} {fd:FuncData} (F:zph K x qual st f fd c):zph (zbI P K) x qual st f fd c:=by
 obtain ⟨⟨oc,od,kV,doc,pm,an,ct,osl,e,l,cc⟩,k⟩:=F
 have q:f≠P:=fun z=>by rw [z,hP] at l;cases l
 exact ⟨⟨oc,od,kV,doc,pm,an,ct,osl,e,(za8 q).trans l,zkr hP _ _ cc⟩,(zhz hP f).trans k⟩
end
end L2
namespace L2
open PySem PySem.Spec PyProof.Rows
section
variable {X:Cx} {o e value:Expr} {f:Str} {pos pos':Pos} {ta tv:TE} {C:Addr}
end
theorem zdL.same {H H':Hp} {P:Addr} {pos:Pos} {qual:Str} (h:zdL H P pos qual) (s:∀ b o,H b=some o→H' b=some o):zdL H' P pos qual:=by
 rcases h with h | ⟨c',oc,vs,t,e1,e2,e3,e4⟩
 ·exact .inl (s _ _ h)
 ·exact .inr ⟨c',oc,vs,t,e1,s _ _ e2,s _ _ e3,e4⟩
theorem zdL.first {H:Hp} {P:Addr} {pos:Pos} {qual:Str} (h:H P=some (.tbl #[])):zdL H P pos qual:=.inl h
theorem zto {K:PySem.W.Frag} {h:Heap} {c P:Addr} {od:Option Addr} {sl:Array (Option Value)} {v0 v1 v2 v3 v4 v5 v6 v8 v12 v13 v14 v15 v16 v17:Value} {fl tx:Int} {tg tt tf:Tok} {inF:Bool} {file:Str} (X:K.In h)
  (l:K.lookup c=some ⟨.type "code",od,.fields #[v0,v1,v2,v3,v4,v5,v6,.int fl tg,v8,.bool inF,.int tx tt,.ref P,v12,v13,v14,v15,v16,v17,.str file tf],sl⟩) (ne:c≠P):PySem.W.CodeHd h c P :=
 ⟨_,_,_,_,_,_,_,_,_,X _ _ l,rfl,rfl,rfl,rfl,rfl,rfl,rfl,rfl,ne⟩
end L2
namespace L2
open PySem PySem.Spec PyProof.Rows
section
variable {X:Cx}
end
section
open PySem.W
variable {P:Addr} {K:Frag}
theorem zgP (hP:K.lookup P=some (tabObj #[])) (C:Addr) (b:Value):mroIn (zbI P K) C b=mroIn K C b:=by
 unfold mroIn
 rw [ziz hP]
theorem zfM (hP:K.lookup P=some (tabObj #[])) (t b:Value):subIn (zbI P K) t b=subIn K t b:=by
 unfold subIn
 cases t with
 | ref D=>exact zgP hP D b
 | _=>rfl
theorem zbD (hP:K.lookup P=some (tabObj #[])) (t c:Value):kitOne (zbI P K) t c=kitOne K t c:=by
 unfold kitOne kitCls
 cases c with
 | ref C =>
  simp only [zfM hP,ziz hP]
  by_cases q:C=P
  ·have e:clsIn K C=none:=by
    unfold clsIn
    rw [q,hP]
   rw [e]
   rfl
  ·rw [zdH q]
 | type T=>simp only [zfM hP]
 | _=>rfl
theorem zjG (hP:K.lookup P=some (tabObj #[])) (a:Addr):nsOkIn (zbI P K) a=nsOkIn K a:=by
 unfold nsOkIn
 by_cases q:a=P
 ·rw [q,zaI,hP]
 ·rw [za8 q]
theorem zg3 (hP:K.lookup P=some (tabObj #[])) (b:List Value):∀ l,tailIn (zbI P K) b l=tailIn K b l
 | []=>rfl
 | v::r=>by
  unfold tailIn
  cases v with
  | ref A =>
   by_cases q:A=P
   ·simp only [q,zaI,hP]
   ·simp only [za8 q,zjG hP,ziC hP,zg3 hP b r]
  | _=>rfl
theorem zq3 (hP:K.lookup P=some (tabObj #[])) (C:Addr) (b:List Value) (n:String):excIn (zbI P K) C b n=excIn K C b n:=by
 unfold excIn
 by_cases q:C=P
 ·rw [q,zaI,hP]
 ·simp only [za8 q,zjG hP,ziC hP,zg3 hP]
end
end L2
namespace L2
open PySem PySem.Spec PyProof.Rows
def zc4:R2:=fun x y H Q=>∃ i j:Str,x=.str i∧y=.str j∧i.length+j.length≤sizeLine∧Q (.str (i++j)) H
def rInS:R2:=fun x y H Q=>∃ i j:Str,x=.str i∧y=.str j∧Q (.bl (!(Builtin.Str.occurrences j i 0 j.length 1).isEmpty)) H
def ziG:R2:=fun x y H Q=>∃ i j:Str,x=.str i∧y=.str j∧Q (.bl (!(!(Builtin.Str.occurrences j i 0 j.length 1).isEmpty))) H
def zmF:List V→Hp→VK→Prop:=fun xs H Q=>∃ y:Str,xs=[.str y]∧y.length≤sizeLine∧Q (.int y.length) H
def ziE:List V→Hp→VK→Prop:=fun xs H Q=>∃ i:Int,xs=[.int i]∧i.natAbs.log2<1920∧Q (.str (toString i)) H
def zot:List V→Hp→VK→Prop:=fun xs H Q=>∃ (x:Str) (n:Int),xs=[.str x]∧x.length≤640∧PySem.intText? x=some n∧Q (.int n) H
def zfJ:V→List V→Hp→VK→Prop:=fun x vs H Q=>∃ s c:Str,x=.str s∧vs=[.str c]∧1≤c.length∧s.length≤1000000∧∀ p,H p=none→Q (.ref p) (upd H p (.lst ((Txt.split s c).map V.str)))
def zi4:V→List V→Hp→VK→Prop:=fun x vs H Q=>∃ s c:Str,x=.str s∧vs=[.str c]∧Q (.bl (Txt.startswith s c)) H
def zlD (K:PySem.W.Frag):V→List V→Hp→VK→Prop:=fun x vs H Q=>∃ (s:Str) (p:Addr) (ts:List Str),x=.str s∧vs=[.ref p]∧SqL K H p (ts.map V.str)∧(ts.map (·.length)).sum+ts.length*s.length≤sizeLine∧Q (.str (Txt.join s ts)) H
section
variable {X:Cx}
theorem zcE:OpR X (binaryOp .Add) zc4:=zmW
theorem ztS:OpR X (compareOp .In) rInS:=zod
theorem zor:OpR X (compareOp .NotIn) ziG:=zjC
theorem zhe:zes X (.builtin "len") zmF:=by
 intro pins s σ H xs us Q I r h
 obtain ⟨y,rfl,hy,q⟩:=h
 exact zqB pins s σ H _ us Q I r ⟨_,_,rfl,⟨hy,rfl⟩,q⟩
theorem zfW:zes X (.type "str") ziE:=zjU
theorem zko:zes X (.type "int") zot:=by
 intro pins s σ H xs us Q I r h
 obtain ⟨x,n,rfl,hl,hn,q⟩:=h
 obtain ⟨u,rfl,t,rfl⟩:=zfQ r
 exact PySem.W.KIN.call_text hn hl ⟨.int n,H,I.tok _,⟨_,rfl⟩,q⟩
theorem zjZ:∀ l:List (Str×Tok),zcc ((l.map (·.1)).map V.str) (strValues l)
 | []=>.nil
 | p::l=>.cons ⟨_,rfl⟩ (zjZ l)
theorem zkw:∀ {ts:List Str} {us:List Value},zcc (ts.map V.str) us→∃ l:List (Str×Tok),us=strValues l∧l.map (·.1)=ts
 | [],_,.nil=>⟨[],rfl,rfl⟩
 | t::ts,_,.cons ⟨k,e⟩ r=>by
  obtain ⟨l,e1,e2⟩:=zkw r
  exact ⟨(t,k)::l,by rw [e,e1];rfl,by rw [← e2];rfl⟩
theorem zeR:MtM X "str.split" zfJ:=by
 intro pins s σ H x vs v us Q I rx rv h
 obtain ⟨x,y,rfl,rfl,hy,hx,q⟩:=h
 obtain ⟨t,rfl⟩:=rx
 obtain ⟨w,rfl,u,rfl⟩:=zfQ rv
 have sz:(1000000:Nat)+2≤sizeLine:=by decide
 have hy':(y.length == 0)=false:=beq_eq_false_iff_ne.mpr (by (first|lia|omega))
 have lo:=StrLaws.occ_length_le x y 0 x.length (x.length+1)
 have lp:=PySem.length_partsBetween x (Builtin.Str.occurrences x y 0 x.length (x.length+1)) y.length
 have ls:(Txt.split x y).length≤sizeLine:=by
  have:=PyProof.Rows.split_weight x y hy
  (first|lia|omega)
 have fin:∀ (l:List (Str×Tok)) (k:Nat),l.map (·.1)=Txt.split x y→EP X pins σ Q (.ref s.heap.objs.size) { s with toks:=k,heap:=s.heap.push { cls:=.type "list",data:=.seq (strValues l).toArray } }:=fun l k e=>by
  refine ⟨.ref _,_,I.laid (t':=k) (fun b o e=>Heap.get?_push_of_some _ e) (Nat.le_refl _) ?_,rfl,q _ (I.hok.fresh (Nat.le_refl _))⟩
  exact ⟨by rw [List.length_map];exact ls,strValues l,0,by rw [← e];exact zjZ l,Heap.get?_push_size _ rfl⟩
 cases h1:(decide (x.length<y.length) || decide (Builtin.Str.strKind x<Builtin.Str.strKind y))
 ·cases hf:(Builtin.Str.occurrences x y 0 x.length (x.length+1)).isEmpty
  ·refine call_meets F.slot_str_split (typeIs_str _ _ _) F.entry_str_split (F.args_str_split_2 _ _) (meets_str_split_sep x y t u h1 hy' hf (by (first|lia|omega)) (by (first|lia|omega))) ?_
   show wants _ _ _ { s with toks:=_,heap:=s.heap.push { cls:=.type "list",data:=.seq (strsFrom s.toks (Builtin.Str.partsBetween x (Builtin.Str.occurrences x y 0 x.length (x.length+1)) y.length)).toArray } }
   rw [strsFrom_eq]
   exact fin (numbered s.toks _) _ ((numbered_texts _ _).trans ((if_neg (ne_true_of_eq_false h1)).trans (if_neg (ne_true_of_eq_false hf))).symm)
  ·exact call_meets F.slot_str_split (typeIs_str _ _ _) F.entry_str_split (F.args_str_split_2 _ _) (meets_str_split_not_found x y t u h1 hy' hf) (fin [(x,t)] s.toks ((if_neg (ne_true_of_eq_false h1)).trans (if_pos hf)).symm)
 ·exact call_meets F.slot_str_split (typeIs_str _ _ _) F.entry_str_split (F.args_str_split_2 _ _) (meets_str_split_cannot_occur x y t u h1) (fin [(x,t)] s.toks (if_pos h1).symm)
theorem zoN:MtM X "str.startswith" zi4:=by
 intro pins s σ H x vs v us Q I rx rv h
 obtain ⟨x,y,rfl,rfl,q⟩:=h
 obtain ⟨t,rfl⟩:=rx
 obtain ⟨w,rfl,u,rfl⟩:=zfQ rv
 exact SC.startswith ⟨.bl _,H,I,rfl,q⟩
theorem zjh:MtM X "str.join" (zlD X.K):=by
 intro pins s σ H x vs v us Q I rx rv h
 obtain ⟨x,p,ts,rfl,rfl,hp,hx,q⟩:=h
 obtain ⟨t,rfl⟩:=rx
 obtain ⟨w,rfl,ru⟩:=zfQ rv
 cases ru
 obtain ⟨its,r,pl,_⟩:=I.list hp
 obtain ⟨l,rfl,el⟩:=zkw r
 refine SC.join pl.isList el ?_ fun t' k=>⟨.str _,H,I.tok _,⟨_,rfl⟩,q⟩
 show (!Builtin.Str.tooLong (ts.toArray.foldl (fun a p=>a+p.length+x.length) 0))=true
 rw [StrLaws.joinTotal]
 unfold Builtin.Str.tooLong
 rw [decide_eq_false (by (first|lia|omega))]
 rfl
end
def Its (x:Str):It:=⟨fun i _=>i<x.cps.size,fun i H v H'=>H'=H∧∃ c,x.cps[i]?=some c∧v=.str ⟨#[c]⟩,fun i _=>x.cps.size≤i⟩
def ztv (tl:TE):TI:=fun σ H R=>tl σ H fun v H1=>∃ x,v=.str x∧R (Its x) H1
theorem zl5 {P:Program} {w:World} {K:PySem.W.Frag} {tg:Expr} (ty:String) (hty:ty="str_ascii_iterator"∨ty="str_iterator") (it:Addr) (x:Str) (t:Tok):zs9 P w K tg (Its x) [it] it (fun i h=>h.IsStrIter it ty x t i) where
 mem:=by simp
 obj:=fun i h st b hb=>by
  have e:b=it:=by simpa using hb
  subst e
  obtain ⟨o,e,c,d⟩:=st
  exact ⟨o,e,fun v z=>by rw [d] at z;cases z⟩
 keep:=fun i h h' st k=>let ⟨o,ho,r⟩:=st;⟨o,k it (by simp) o ho,r⟩
 item:=by
  intro X hP hw hK hc i pins s σ H E I hf st hg
  subst hP hw hK
  obtain ⟨f0,f1,f2,f3,f4,f5⟩:=hf it (by simp)
  have W:Walks X.prog X.w X.A it [it] [it] x.cps.size (SignAt x) (fun i h=>h.IsStrIter it ty x t i):=by
   rcases hty with rfl | rfl
   ·exact Walks.strAscii (I.ok.hd hc) it x t
   ·exact Walks.strWide (I.ok.hd hc) it x t
  refine W.item i s _ _ hg st fun v h' tk hv st' kk=>?_
  obtain ⟨c,u,hcu,rfl⟩:=hv
  have I1:Inv X pins σ H { s with heap:=h',toks:=tk }:=I.turned (fun b o hb e=>kk b o (by simpa using hb) e) f0 f1 f3 f4 f5
  obtain ⟨o,e,cl,d⟩:=id st'
  refine ⟨_,rfl,zsW (s:={ s with heap:=h',toks:=tk }) (n:=ty) e cl d ?_ ⟨.str ⟨#[c]⟩,H,I1,⟨u,rfl⟩,⟨rfl,c,hcu,rfl⟩,st',fun b hb=>(hf b hb).1⟩⟩
  rcases hty with rfl | rfl <;> decide
 done:=by
  intro X hP hw hK hc i pins s σ H E I hf st hg
  subst hP hw hK
  obtain ⟨f0,f1,f2,f3,f4,f5⟩:=hf it (by simp)
  have hx:x.cps[i]?=none:=by
   have:x.cps.size≤i:=hg
   simp [this]
  rcases hty with rfl | rfl
  ·exact wpAny_pyNext_ascii_end (I.ok.hd hc) st hx fun h' eb=>⟨rfl,I.turned (t':=s.toks) (fun b o hb e=>eb b o hb e) f0 f1 f3 f4 f5⟩
  ·exact wpAny_pyNext_wide_end (I.ok.hd hc) st hx fun h' eb=>⟨rfl,I.turned (t':=s.toks) (fun b o hb e=>eb b o hb e) f0 f1 f3 f4 f5⟩
 self:=fun _ _ _ _ _ st h=>by
  rcases hty with rfl | rfl
  ·exact wpAny_pyIter_striter_ascii st h
  ·exact wpAny_pyIter_striter_wide st h
section
variable {X:Cx} {tg:Expr}
theorem zrl {l:Expr} {tl:TE} (hl:PE X l tl):PI X tg l (ztv tl):=by
 intro pins s σ H R I h
 refine thn (hl pins s σ H _ I h) fun v s1 hQ'=>?_
 obtain ⟨x,H1,I1,r1,q1⟩:=hQ'
 obtain ⟨x,rfl,q⟩:=q1
 obtain ⟨t,rfl⟩:=r1
 have fp:∀ b∈[s1.heap.objs.size],zla X pins H1 b:=fun b hb=>by
  have e:b=s1.heap.objs.size:=by simpa using hb
  subst e
  exact I1.fpOk (Nat.le_refl _) (I1.hok.fresh (Nat.le_refl _))
 cases ha:x.cps.all (·<128)
 ·exact wpAny_pyIter_wide ha ⟨s1.heap.objs.size,[s1.heap.objs.size],_,_,H1,rfl,I1.kept (t':=s1.toks) fun b o e=>Heap.get?_push_of_some _ e,zl5 "str_iterator" (.inr rfl) _ x t,⟨_,Heap.get?_push_size _ rfl,rfl,rfl⟩,fp,q⟩
 ·exact wpAny_pyIter_ascii ha ⟨s1.heap.objs.size,[s1.heap.objs.size],_,_,H1,rfl,I1.kept (t':=s1.toks) fun b o e=>Heap.get?_push_of_some _ e,zl5 "str_ascii_iterator" (.inl rfl) _ x t,⟨_,Heap.get?_push_size _ rfl,rfl,rfl⟩,fp,q⟩
end
theorem zky {x:Str} {g:TG} {tt:TT} {te:TE} {σ:St} {H:Hp} {D:Addr} {Q:VK} (Pv:Nat→List V→St→Hp→Prop) (h0:Pv 0 [] σ (upd H D (.lst [])))
  (hs:∀ i c ys σ H,x.cps[i]?=some c→H D=some (.lst ys)→Pv i ys σ H→g (.str ⟨#[c]⟩) σ H fun σ2 H2=>tt σ2 H2 fun b H3=>if b=true then te σ2 H3 fun y H4=>zb9 (.ref D) [y] H4 fun _ H5=>∃ ys,H5 D=some (.lst ys)∧Pv (i+1) ys σ2 H5 else ∃ ys,H3 D=some (.lst ys)∧Pv (i+1) ys σ2 H3)
  (hd:∀ ys σ H,H D=some (.lst ys)→Pv x.cps.size ys σ H→Q (.ref D) H):zgs (Its x) g tt te D Q σ (upd H D (.lst [])):=by
 refine ⟨fun i m σ H=>m=x.cps.size - i∧i≤x.cps.size∧∃ ys,H D=some (.lst ys)∧Pv i ys σ H,⟨_,rfl,Nat.zero_le _,[],zaf,h0⟩,?_⟩
 rintro i m σ H ⟨rfl,hi,ys,hD,pv⟩
 by_cases hlt:i<x.cps.size
 ·refine .inr ⟨hlt,fun σ H=>∃ ys,H D=some (.lst ys)∧Pv (i+1) ys σ H,fun σ' H' p'=>⟨_,by (first|lia|omega),rfl,hlt,p'⟩,fun v H' yl=>?_⟩
  obtain ⟨e,c,hc,rfl⟩:=yl
  subst e
  exact hs i c ys σ _ hc hD pv
 ·have e:i=x.cps.size:=by (first|lia|omega)
  subst e
  exact .inl ⟨Nat.le_refl _,hd ys σ H hD pv⟩
def zpn:V→Option Int→Option Int→Hp→VK→Prop:=fun x lo hi H Q=>∃ z:Str,x=.str z∧z.length≤sizeLine∧Q (.str ⟨((z.cps.toList.drop (HT.sIx z.length 0 lo)).take (HT.sIx z.length z.length hi - HT.sIx z.length 0 lo)).toArray⟩) H
theorem zhw (lo hi:Option Int) (n:Nat):Builtin.Str.strSliceIndices lo hi 1 n=sliceRange (HT.sIx n 0 lo:Nat) (HT.sIx n n hi:Nat) 1:=by
 have one:(1:Int) > 0:=by decide
 have e1:∀ v:Int,max (0:Int) (min (if v<0 then v+n else v) n)=((HT.sIx n 0 (some v):Nat):Int):=fun v=>by
  show _=(((if v<0 then (v+(n:Int)).toNat else min v.toNat n):Nat):Int)
  by_cases h:v<0
  ·rw [if_pos h,if_pos h];(first|lia|omega)
  ·rw [if_neg h,if_neg h];(first|lia|omega)
 have e2:∀ v:Int,max (0:Int) (min (if v<0 then v+n else v) n)=((HT.sIx n n (some v):Nat):Int):=e1
 unfold Builtin.Str.strSliceIndices
 simp only [one,if_true]
 cases lo with
 | none =>
  cases hi with
  | none=>rfl
  | some v=>rw [← e2 v];rfl
 | some v =>
  cases hi with
  | none=>rw [← e1 v];rfl
  | some u=>rw [← e1 v,← e2 u]
theorem zhn {X:Cx}:SlR X zpn:=by
 intro pins s σ H x v vl vu lo hi sl Q I rx hs pl pu h
 obtain ⟨z,rfl,hz,q⟩:=h
 obtain ⟨t,rfl⟩:=rx
 refine ⟨"str",_,F.slot_str_getitem.lookup,typeIs_str _ _ _,?_⟩
 obtain ⟨l,rfl,el⟩:∃ l:Option (Int×Tok),vl=partValue l∧l.map (·.1)=lo:=by
  cases pl with
  | none=>exact ⟨none,rfl,rfl⟩
  | int i t=>exact ⟨some (i,t),rfl,rfl⟩
 obtain ⟨u,rfl,eu⟩:∃ l:Option (Int×Tok),vu=partValue l∧l.map (·.1)=hi:=by
  cases pu with
  | none=>exact ⟨none,rfl,rfl⟩
  | int i t=>exact ⟨some (i,t),rfl,rfl⟩
 have ep:(slicePicked z l u none).filterMap (z.cps[·]?)=(z.cps.toList.drop (HT.sIx z.length 0 lo)).take (HT.sIx z.length z.length hi - HT.sIx z.length 0 lo):=by
  unfold slicePicked
  rw [el,eu]
  show (Builtin.Str.strSliceIndices lo hi 1 z.length).filterMap (z.cps[·]?)=_
  rw [zhw,sliceRange_one,pick_run]
 refine wpAny_getItem_str_slice (l:=l) (u:=u) (st:=none) hs rfl ?_
 unfold sliceMade
 rw [ep]
 cases hw:(((none:Option (Int×Tok)).map (·.1)).getD 1 == 1&&(slicePicked z l u none).length == z.length)
 ·refine ⟨?_,.str _,H,I.tok _,⟨_,rfl⟩,q⟩
  show (List.toArray _).size≤sizeLine
  rw [List.size_toArray,List.length_take,List.length_drop]
  have:z.cps.toList.length=z.length:=by simp [Str.length]
  (first|lia|omega)
 ·refine ⟨.str z,H,I,⟨t,rfl⟩,?_⟩
  have e:(z.cps.toList.drop (HT.sIx z.length 0 lo)).take (HT.sIx z.length z.length hi - HT.sIx z.length 0 lo)=z.cps.toList:=by
   have hl:(slicePicked z l u none).length=z.length:=by simpa using hw
   have hp:slicePicked z l u none=(List.range (HT.sIx z.length z.length hi - HT.sIx z.length 0 lo)).map (HT.sIx z.length 0 lo+·):=by
    unfold slicePicked
    rw [el,eu]
    show Builtin.Str.strSliceIndices lo hi 1 z.length=_
    rw [zhw,sliceRange_one]
   rw [hp,List.length_map,List.length_range] at hl
   have h1:=HT.sIx_le z.length z.length (Nat.le_refl _) hi
   have h0:=HT.sIx_le z.length 0 (Nat.zero_le _) lo
   have lz:z.cps.toList.length=z.length:=by simp [Str.length]
   rw [hl]
   by_cases n0:z.length=0
   ·have:z.cps.toList=[]:=List.eq_nil_of_length_eq_zero (by (first|lia|omega))
    rw [this,List.drop_nil,List.take_nil]
   ·rw [show HT.sIx z.length 0 lo=0 by (first|lia|omega),List.drop_zero,List.take_of_length_le (by (first|lia|omega))]
  rw [e] at q
  exact q
end L2
namespace L2
open PySem PySem.Spec PyProof.Rows
section
variable {P:Program} {w:World} {H H':Hp} {h h':Heap} {c:Addr} {o:Obj}
theorem zrV (x:HOk P w H h) (hc:H c=none) (e:h.get? c=some o):HOk P w (upd H c (.frz o (.own c))) h:=fun b u q=>by
 by_cases z:b=c
 ·subst z
  rw [zaf] at q
  cases q
  exact ⟨e,o,e⟩
 ·rw [zax z] at q
  refine (x b u q).stay (fun _ _ _ r=>r) (fun d r=>?_) fun d xs r=>?_
  ·rw [zax (zaE r hc)];exact r
  ·rw [zax (zaE r hc)];exact r
end
theorem zo5 {P:Program} {w:World} {K:PySem.W.Frag} {mg:Str→Option Value} {base:Heap} {A:Around} {outer:List Env} {s:Shared} {H:Hp} {q c':Addr} {nm qual x y:Str} {params:Arguments} {body:Expr} {scope:Scope} {cl:List (Str×Addr)}
  {pm ctv u1 u2:Value} {v1 v2:V} {Ns:List Str} {vs:List V} {Q:VK} {t:TE} (e0:zpl P w K mg base A outer s H) (hroom:A.depth<recursionLimit) (hh:A.handled=none)
  (ho:s.heap.get? q=some (PySem.W.kla_obj nm qual params body scope cl pm c' ctv)) (hcd:s.heap.CodeRec (.ref c') qual)
  (hbind:bindArgs (PySem.W.kla_fn nm qual params body scope cl pm (.ref c') ctv) ⟨[u1,u2],[]⟩=pure [(x,u1),(y,u2)]) (hne:x≠y) (hlx:scope.names.lookup x=some .local) (hly:scope.names.lookup y=some .local) (hk:scope.kind=.function) (hco:scope.isCoroutine=false) (hgen:scope.isGenerator=false)
  (hcell:∀ y∈scope.names,y.2≠.cell) (T:ztJ H s.heap scope cl Ns vs) (r1:zcA v1 u1) (r2:zcA v2 u2) (hb:PE (znA P w K mg base (x::y::Ns) qual scope q (.ref c') cl A outer s H) body t) {Q0:VK} (hQ:∀ v H',(∀ y c,cl.lookup y=some c→H' c=none)→Q0 v H'→Q v H') (h:t (some v1::some v2::vs.map some) H Q0) :
  codeAny (model P w) A (.call (.ref q) ⟨[u1,u2],[]⟩) (fun r s'=>match r with | .ok (.ret u')=>CE outer P w H s Q u' s' | _=>False) s:=by
 have lim:s.heap.NoLimit:=e0.mod.nolimit.keeps fun b o e=>(e0.bs b o e).1
 refine PySem.W.kla_callFunE hroom ho rfl hco hgen rfl hcd ?_
 rw [hbind]
 refine wpAny_pure (wpAny_newFunctionEnv hcell (fun z hz=>?_) (fun h₁ hns hsb=>⟨lim.fresh _ hsb,?_⟩) hk)
 ·rcases List.mem_cons.mp hz with rfl | hz
  ·exact hlx
  ·rw [List.mem_singleton.mp hz];exact hly
 have hk₁:∀ b o,s.heap.get? b=some o→h₁.get? b=some o:=fun b o e=>hsb.extBut b o (Nat.ne_of_lt (Heap.lt_size e)) (Heap.get?_push_of_some _ e)
 have I:Inv (znA P w K mg base (x::y::Ns) qual scope q (.ref c') cl A outer s H) [] (some v1::some v2::vs.map some) H { s with heap:=h₁,toks:=s.toks+2 }:=by
  have noA:∀ b:Addr,b∉(znA P w K mg base (x::y::Ns) qual scope q (.ref c') cl A outer s H).ex:=fun b z=>absurd (show b∈([]:List Addr) from z) (by simp)
  refine ⟨⟨e0.mod,hk,rfl,rfl,Nat.le_refl _,T.inj,fun y hy=>?_,fun y c hf e=>?_,fun _=>hh,Around.frames_deeper e0.frames,.inr ⟨rfl,rfl⟩,fun b z=>absurd z (noA b),e0.bs,e0.bsz,fun b _ _=>noA b,fun b z=>absurd z (noA b),e0.funs,e0.frf⟩,
   rfl,e0.bare,Un.kept hk₁,⟨_,hns,fun i z v' h1 h2 h3=>?_⟩,fun y c e=>?_,e0.hok.fresh (Nat.le_refl _),fun y c e=>(T.cel y c e).1,fun p hp=>absurd (show p∈([]:List (Addr×Obj)) from hp) (by simp),e0.hok.kept hk₁,?_⟩
  ·have hy:scope.names.lookup y=some .cell∨scope.names.lookup y=some .free:=hy
   rcases hy with hy | hy
   ·exact absurd rfl (hcell _ (PySem.mem_of_lookup hy))
   ·exact T.has y hy
  ·have hf:(cl.lookup y).isNone=true:=hf
   have e:cl.lookup y=some c:=e
   rw [e] at hf
   cases hf
  ·match i,h1,h2 with
   | 0,h1,h2 =>
    have h1:some x=some z:=h1
    have h2:some (some v1)=some (some v'):=h2
    cases h1
    cases h2
    refine ⟨u1,r1,.inl ⟨hlx,?_⟩⟩
    show List.lookup x [(y,u2),(x,u1)]=some u1
    rw [List.lookup_cons,beq_eq_false_iff_ne.mpr hne]
    simp
   | 1,h1,h2 =>
    have h1:some y=some z:=h1
    have h2:some (some v2)=some (some v'):=h2
    cases h1
    cases h2
    refine ⟨u2,r2,.inl ⟨hly,?_⟩⟩
    show List.lookup y [(y,u2),(x,u1)]=some u2
    simp
   | i+2,h1,h2 =>
    have h1:Ns[i]?=some z:=h1
    obtain ⟨c,uy,vy,e1,e2,e3,e4,e5⟩:=T.at' i z h1
    have h2:(vs.map some)[i]?=some (some v'):=h2
    rw [List.getElem?_map,e4] at h2
    cases h2
    obtain ⟨oc,z1,z2⟩:=e3
    exact ⟨uy,e5,.inr ⟨.inr e2,c,e1,⟨oc,hk₁ _ _ z1,z2⟩⟩⟩
  ·obtain ⟨v',oc,z1,z2⟩:=(T.cel y c e).2
   exact ⟨v',oc,hk₁ _ _ z1,z2⟩
  ·show (some v1::some v2::vs.map some).length=(x::y::Ns).length
   rw [List.length_cons,List.length_cons,List.length_map,List.length_cons,List.length_cons,T.len]
 refine PySem.W.kla_codeExpr (wpAny_mono (hb [] _ _ H _ I h) (fun u' s' hs=>?_) fun _ _ z=>z.elim)
 obtain ⟨v',H',J,rv',q'⟩:=hs
 exact ⟨v',H',J.os,J.bare,J.base,J.hok,rv',hQ v' H' (fun y c e=>J.freeC y c e) q'⟩
section
variable {X:Cx} {x y z f:Str} {p pos lpos:Pos} {e1 e2 body:Expr} {params:Arguments} {scope:Scope} {qual:Str} {ta:TA} {tb:TE} {i k:Nat}
end
theorem Inv.trackF {X:Cx} {pins:List (Addr×Obj)} {σ:St} {H:Hp} {s:Shared} {q:Addr} {o:Obj} (I:Inv X pins σ H s) (fq:zla X pins H q) (hex:X.ex=[]) (e:s.heap.get? q=some o):Inv X pins σ (upd H q (.frz o (.own q))) s:=by
 obtain ⟨f0,f1,f2,f3,f4,f5⟩:=fq
 have f3:X.s₀.heap.objs.size≤q:=by
  rcases f3 with z | z
  ·rw [hex] at z;cases z
  ·exact z
 refine ⟨I.ok,I.os,I.bare,⟨I.base.keep,I.base.slot,fun b ob r n hx=>?_,I.base.there,fun b xs r=>?_,fun b ob u r=>?_,fun b ps r=>?_⟩,I.loc,I.cell,?_,fun x c ec=>?_,fun p hp=>?_,zrV I.hok f0 e,I.len⟩
 ·rw [zax (Nat.ne_of_lt (Nat.lt_of_lt_of_le (Heap.lt_size r) f3))]
  exact I.base.free b ob r n hx
 ·have:=I.base.tups b xs r
  rw [zax (zaE this f0)]
  exact this
 ·have:=I.base.frzs b ob u r
  rw [zax (zaE this f0)]
  exact this
 ·obtain ⟨more,hm⟩:=I.base.tbls b ps r
  exact ⟨more,by rw [zax (zaE hm f0)];exact hm⟩
 ·rw [zax (Ne.symm f1)]
  exact I.free
 ·rw [zax (f4 x c ec)]
  exact I.freeC x c ec
 ·obtain ⟨p1,p2,p3,p4,p5⟩:=I.pin p hp
  exact ⟨p1,by rw [zax (f5 p hp)];exact p2,p3,p4,p5⟩
section
variable {X:Cx} {x y:Str} {p pos lpos:Pos} {e body:Expr} {params:Arguments} {scope:Scope} {qual:Str} {te:TE} {j k:Nat} {f c cc P:Addr} {fd:FuncData} {ps:List Str} {sp:Sp} {E:XK}
end
end L2
namespace L2
open PySem PySem.Spec PyProof.Rows
section
open PySem.W
variable {P:Addr} {K:Frag}
theorem zeG (hP:K.lookup P=some (tabObj #[])) (v:Value) (n:Str):specialIn (zbI P K) v n=specialIn K v n:=by
 unfold specialIn
 cases v with
 | ref a =>
  by_cases q:a=P
  ·subst q
   have e1:typeIn (zbI a K) (.ref a)=none:=by show ((zbI a K).lookup a).map (·.cls)=none;rw [zaI];rfl
   have e2:typeIn K (.ref a)=some .none:=by show (K.lookup a).map (·.cls)=_;rw [hP];rfl
   rw [e1,e2]
   rfl
  ·rw [zdH q]
   simp only [zcg hP]
 | _=>simp only [zcg hP,typeIn]
theorem zmK (hP:K.lookup P=some (tabObj #[])) (v:Value):takesIn (zbI P K) v=takesIn K v:=by
 unfold takesIn
 simp only [zeG hP]
theorem zlh (hP:K.lookup P=some (tabObj #[])) (c mc:Value) (n:Str):findCls (zbI P K) c mc n=findCls K c mc n:=by
 unfold findCls
 simp only [zcg hP,zeG hP,zmK hP]
 congr 1
 funext ma
 congr 1
 funext mg
 congr 1
 funext data
 have key:∀ (a:Value) (f:Value→Option CFound),(a=.ref P→f .none=none)→(typeIn (zbI P K) a).bind f=(typeIn K a).bind f:=fun a f hf=>by
  cases a with
  | ref b =>
   by_cases q:b=P
   ·subst q
    have e1:typeIn (zbI b K) (.ref b)=none:=by show ((zbI b K).lookup b).map (·.cls)=none;rw [zaI];rfl
    have e2:typeIn K (.ref b)=some .none:=by show (K.lookup b).map (·.cls)=_;rw [hP];rfl
    rw [e1,e2]
    exact (hf rfl).symm
   ·rw [zdH q]
  | _=>rfl
 split
 ·rfl
 ·congr 1
  funext o
  cases o with
  | none=>rfl
  | some a =>
   dsimp only
   split
   ·rfl
   ·refine key a _ fun z=>?_
    have e3:specialIn K a "__get__"=none:=by
     rw [z]
     unfold specialIn
     have e2:typeIn K (.ref P)=some .none:=by show (K.lookup P).map (·.cls)=_;rw [hP];rfl
     rw [e2]
     rfl
    rw [e3,if_neg (by decide)]
    rfl
theorem zta (hP:K.lookup P=some (tabObj #[])) {a:Addr} {T:String} (h:typeIn K (.ref a)=some (.type T)):a≠P:=fun z=>by
 have e:typeIn K (.ref a)=some .none:=by
  show (K.lookup a).map (·.cls)=_
  rw [z,hP]
  rfl
 rw [e] at h
 cases h
theorem ExB.drop (hP:K.lookup P=some (tabObj #[])) {D:Addr} (x:ExB K D):ExB (zbI P K) D:=by
 obtain ⟨h1,h2,h3⟩:=x
 refine ⟨(zeG hP _ _).trans h1,?_,(zlh hP _ _ _).trans h3⟩
 unfold readsIn at h2 ⊢
 rw [Bool.and_eq_true,Bool.and_eq_true,Bool.and_eq_true,Bool.and_eq_true] at h2
 have ne:=zta hP (T:="type") (beq_iff_eq.mp h2.1.1.1.2)
 rw [ziC hP,zdH ne,zcg hP,zcg hP,zfM hP]
 simp only [Bool.and_eq_true]
 exact h2
theorem ExI.drop (hP:K.lookup P=some (tabObj #[])) {C f:Addr} (x:ExI K C f):ExI (zbI P K) C f:=by
 obtain ⟨⟨a1,a2,a3,a4,a5,a6,a7,a8,a9,a10,a11,a12,a13,a14,a15,lk,tl⟩,h2,h3,h4,h5,h6⟩:=x
 have nC:C≠P:=fun z=>by rw [z,hP] at lk;cases lk
 have nf:=zsw hP h3
 refine ⟨⟨a1,a2,a3,a4,a5,a6,a7,a8,a9,a10,a11,a12,a13,a14,a15,(za8 nC).trans lk,(zg3 hP _ _).trans tl⟩,(zcg hP _ _).trans h2,?_,(zhz hP _).trans h4,(zgP hP _ _).trans h5,(zcg hP _ _).trans h6⟩
 unfold isFn at h3 ⊢
 rw [zdH nf]
 exact h3
theorem zdb.drop (hP:K.lookup P=some (tabObj #[])) {C:Addr} (x:zdb K C):zdb (zbI P K) C :=
 ⟨(zcg hP _ _).trans x.ga,(zcg hP _ _).trans x.gn,(zcg hP _ _).trans x.cl,(zgP hP _ _).trans x.mb,(zgP hP _ _).trans x.mo⟩
theorem ziu.drop (hP:K.lookup P=some (tabObj #[])) {C:Addr} {f:Str} (x:ziu K C f):ziu (zbI P K) C f:=by
 refine ⟨x.five.drop hP,?_,(zcg hP _ _).trans x.na⟩
 have:=x.hd
 unfold hasDictIn at this ⊢
 rw [ziz hP]
 exact this
theorem zph.okV {Pg:Program} {w:World} {mg:Str→Option Value} {base:Heap} {x qual:Str} {st:Stmt} {f c:Addr} {fd:FuncData} {N ps:List Str} {k:Nat} {sp:Sp} (F:zph K x qual st f fd c) (S:za7 N ps (zav st)) (len:∀ vs H Q E,sp vs H Q E→vs.length=ps.length)
  (hbody:∀ (A:Around) (outer:List Env) (s:Shared) (H:Hp) (vs:List V) (Q:VK) (E:XK),zeS k (A.deeper (envOfC qual (zav st) s.heap.objs.size f (.ref c)))→sp vs H Q E →
   ∃ t,PSs (zkT (CXV Pg w) Pg w K mg base N qual (zav st) f (.ref c) A outer s H E) (zcr st) t∧t { nx:=fun _ H'=>Q .non H',rt:=Q } (zbY N vs) H):zdD Pg w K mg base (CXV Pg w) (k+1) f fd ps sp:=by
 obtain ⟨⟨oc,od,kV,doc,pm,an,ct,osl,rfl,lk,hcd⟩,_⟩:=F
 exact zpZ lk hcd S len fun A outer s H vs Q E hr hsp=>hbody A outer s H vs Q E hr hsp
end
end L2
namespace L2
open PySem PySem.Spec PyProof.Rows
end L2
namespace L2
open PySem PySem.Spec PyProof.Rows
def zsQ (e:Expr) (qual:Str) (H:Hp) (q:Addr):Prop:=∃ (params:Arguments) (body:Expr) (scope:Scope) (lpos:Pos) (pm ctv:Value) (c':Addr) (oc:Obj) (ovs:Array Value) (t:Nat),
 e=.Lambda params body scope lpos∧H q=some (.frz (PySem.W.kla_obj "<lambda>" qual params body scope [] pm c' ctv) (.own q))∧H c'=some (.frz oc (.own c'))∧oc.data=.fields ovs∧ovs[1]?=some (.str qual t)
theorem zsQ.same {e:Expr} {qual:Str} {H H':Hp} {q:Addr} (h:zsQ e qual H q) (s:za3 H H'):zsQ e qual H' q:=by
 obtain ⟨a1,a2,a3,a4,a5,a6,a7,a8,a9,a10,b1,b2,b3,b4⟩:=h
 exact ⟨a1,a2,a3,a4,a5,a6,a7,a8,a9,a10,b1,s _ _ b2,s _ _ b3,b4⟩
def zlW (e:Expr) (qual:Str) (i:Nat) (tb:TE) (ta:TA):TE:=fun σ H Q=>∃ q,σ[i]?=some (some (.ref q))∧ta σ H fun vs H1=>∃ u1 u2,vs=[u1,u2]∧zsQ e qual H1 q∧tb [some u1,some u2] H1 Q
section
variable {X:Cx} {x z f:Str} {p pos lpos:Pos} {e1 e2 body:Expr} {params:Arguments} {scope:Scope} {qual:Str} {ta:TA} {tb:TE} {i k:Nat}
theorem zps (hN:X.N[i]?=some f) (hv:Vis X.env.scope f) (hr:zeS (k+1) X.A) (ha:PA X [e1,e2] ta)
  (hbind:∀ (cl:List (Str×Addr)) (pm cd ctv u1 u2:Value),bindArgs (PySem.W.kla_fn "<lambda>" qual params body scope cl pm cd ctv) ⟨[u1,u2],[]⟩=pure [(x,u1),(z,u2)]) (hne:x≠z) (hlx:scope.names.lookup x=some .local) (hlz:scope.names.lookup z=some .local) (hk:scope.kind=.function) (hco:scope.isCoroutine=false) (hgen:scope.isGenerator=false)
  (hcell:∀ y∈scope.names,y.2≠.cell) (hall:∀ n∈scope.names,n.2≠.free)
  (hb:∀ (f:Addr) (cd:Value) (A:Around) (outer:List Env) (s:Shared) (H:Hp),zeS k (znA X.prog X.w X.K X.mg X.base [x,z] qual scope f cd [] A outer s H).A→PE (znA X.prog X.w X.K X.mg X.base [x,z] qual scope f cd [] A outer s H) body tb)
  (hd:(f == ("__debug__":Str))=false:=by decide) (hcd:(f == ("__classdict__":Str))=false:=by decide)
  (he:starEach [e1,e2] X.env=(false,eval e1 X.env)::starEach [e2] X.env:=by rfl) (hpl:(backTo pos (starEach [e2] X.env)).any (·.1)=false:=by rfl) :
  PE X (.Call (.Name f p) [e1,e2] [] pos) (zlW (.Lambda params body scope lpos) qual i tb ta):=by
 intro pins s σ H Q I h
 obtain ⟨q,hq,h⟩:=h
 refine wpAny_Call_Name_kw (thn (zri (pos:=p) hN hv hd hcd pins s σ H (fun v H1=>v=.ref q∧H1=H) I ⟨.ref q,hq,rfl,rfl⟩) fun fv s1 hQ'=>?_)
 obtain ⟨v,H1,I1,r1,e,eH⟩:=hQ'
 subst e
 subst eH
 cases r1
 refine PySem.W.callWith_of (P:=fun h=>∃ (cl:List (Str×Addr)) (pm ctv:Value) (c':Addr),h.get? q=some (PySem.W.kla_obj "<lambda>" qual params body scope cl pm c' ctv)) (by rw [he];show ((false || (backTo pos (starEach [e2] X.env)).any (·.1)) || false)=false;rw [hpl];rfl) (fun h ⟨cl,pm,ctv,c',e⟩=>⟨.frame,.inl rfl,(PySem.W.Looks.ld (part:=none) e).andThen .now⟩) ?_
 have hA:=ha pos pins s1 σ H1 _ I1 h
 rw [he] at hA ⊢
 refine Calls.evalArgs_plain (thn hA fun us s2 hQ'=>?_)
 obtain ⟨vs,H2,I2,r2,q2⟩:=hQ'
 obtain ⟨v1,v2,rfl,L,q2⟩:=q2
 obtain ⟨pa,bo,sc,lp,pm,ctv,c',oc,ovs,tk,eL,hq2,hc',hd',hv'⟩:=L
 cases eL
 obtain ⟨u1,u2,rfl,ru1,ru2⟩:=zlJ r2
 have eq2:s2.heap.get? q=some (PySem.W.kla_obj "<lambda>" qual params body scope [] pm c' ctv):=(I2.hok q _ hq2).1
 have ec':s2.heap.get? c'=some oc:=(I2.hok c' _ hc').1
 refine ⟨⟨_,pm,ctv,c',eq2⟩,?_⟩
 have e0:=I2.env0
 have T:ztJ H2 s2.heap scope [] [] []:=by
  refine ⟨rfl,fun j n hj=>?_,fun n hn=>?_,fun n d e=>?_,fun n m d h1 h2=>?_⟩
  ·cases hj
  ·exact absurd rfl (hall _ (PySem.mem_of_lookup hn))
  ·cases e
  ·cases h1
 refine wpAny_call (codeAny_mono (zo5 (t:=tb) (Ns:=[]) (vs:=[]) (x:=x) (y:=z) (v1:=v1) (v2:=v2) e0 hr.depth hr.hd eq2 ⟨c',oc,ovs,tk,rfl,ec',hd',hv'⟩ (hbind _ _ _ _ _ _) hne hlx hlz hk hco hgen hcell T ru1 ru2 (hb _ _ _ _ _ _ (hr.deeper _)) (Q:=Q) (fun v H' _ q=>q) q2) fun r s' hq=>?_)
 cases r with
 | error e=>exact hq.elim
 | ok fl =>
  cases fl with
  | ret u=>exact I2.after hq
  | next=>exact hq.elim
  | brk=>exact hq.elim
  | cont=>exact hq.elim
end
def zn0 (P:Addr) (e:Expr) (lpos:Pos) (qual:Str) (sp:Sp) (E:XK) (te:TE):TE:=fun σ H Q=>te σ H fun v H1=>zdL H1 P lpos qual ∧
 ∀ (q:Addr) (H3:Hp),Bar P H1 H3→zdL H3 P lpos qual→H1 q=none→zsQ e qual H3 q→sp [v,.ref q] H3 Q E
section
variable {X:Cx} {x:Str} {p pos lpos:Pos} {e body:Expr} {params:Arguments} {scope:Scope} {qual:Str} {te:TE} {k:Nat} {f cc P:Addr} {fd:FuncData} {ps:List Str} {sp:Sp} {E:XK}
theorem zqE (F:zdD X.prog X.w X.K X.mg X.base (CXV X.prog X.w) k f fd ps sp) (hr:zeS k X.A) (hg:Gl X x) (hm:X.mg x=some (.ref f)) (hk:PySem.W.keepIn X.K (.ref f)=true) (hb:zci X.K fd ps []) (hx:zhx (CXV X.prog X.w) X E) (h1:PE X e te)
  (hcode:X.env.code=.ref cc) (C:PySem.W.CodeHd X.base cc P) (hB:X.base.BuiltinsAt X.mg P) (hcl:closureFor scope X.env=pure []) (hdef:defaultsOf params X.env=([],[])) (hq:X.env.qual++"<lambda>"=qual) (hex:X.ex=[])
  (hdb:(x == ("__debug__":Str))=false:=by decide) (he:starEach [e,.Lambda params body scope lpos] X.env=(false,eval e X.env)::starEach [.Lambda params body scope lpos] X.env:=by rfl)
  (he2:starEach [.Lambda params body scope lpos] X.env=(false,eval (.Lambda params body scope lpos) X.env)::starEach [] X.env:=by rfl) (hpl:(backTo pos (starEach [.Lambda params body scope lpos] X.env)).any (·.1)=false:=by rfl) :
  PE X (.Call (.Name x p) [e,.Lambda params body scope lpos] [] pos) (zn0 P (.Lambda params body scope lpos) lpos qual sp E te):=by
 intro pins s σ H Q I h
 refine wpAny_Call_Name_kw (zd0 I hg hm ?_ hdb)
 refine PySem.W.callWith_K (h₀:=X.base) I.ok.mod.kin hk ?_ he hpl
 rw [he]
 show wpAny _ _ (spliced ((false,eval e X.env)::backTo pos (starEach [.Lambda params body scope lpos] X.env))) _ _ s
 refine Calls.spliced_cons (thn (h1 pins s σ H _ I h) fun u s1 hQ'=>?_)
 obtain ⟨v,H1,I1,r1,hL,q1⟩:=hQ'
 rw [he2]
 show wpAny _ _ (spliced ((false,eval (.Lambda params body scope lpos) X.env)::backTo pos (starEach [] X.env))) _ _ s1
 refine Calls.spliced_cons (zq0 I1 hcode C hB hL hcl hdef hq fun qa c' pm ctv H2 s2 oc ovs ot I2 bar hL2 hqa hc' hd hv fq=>?_)
 refine Calls.spliced_nil ⟨I2.kIn,?_⟩
 have fq2:H2 qa=none:=fq.1
 have nqP:qa≠P:=fun z=>by
  obtain ⟨ps,hP⟩:=hL2.tbl
  rw [z,hP] at fq2
  cases fq2
 have I3:=I2.trackF fq hex hqa
 have q3:upd H2 qa (.frz (PySem.W.kla_obj "<lambda>" qual params body scope [] pm c' ctv) (.own qa)) qa=some (.frz (PySem.W.kla_obj "<lambda>" qual params body scope [] pm c' ctv) (.own qa)):=zaf
 have hc3:upd H2 qa (.frz (PySem.W.kla_obj "<lambda>" qual params body scope [] pm c' ctv) (.own qa)) c'=some (.frz oc (.own c')):=by rw [zax (fun z=>by rw [z,fq2] at hc';cases hc')];exact hc'
 have bar3:Bar P H1 (upd H2 qa (.frz (PySem.W.kla_obj "<lambda>" qual params body scope [] pm c' ctv) (.own qa))):=fun b o n e=>by
  have:=bar b o n e
  rw [zax (zaE this fq2)]
  exact this
 have hL3:zdL (upd H2 qa (.frz (PySem.W.kla_obj "<lambda>" qual params body scope [] pm c' ctv) (.own qa))) P lpos qual:=hL2.same fun b o e=>by rw [zax (zaE e fq2)];exact e
 have fq1:H1 qa=none:=by
  cases z:H1 qa with
  | none=>rfl
  | some o =>
   rw [bar qa o nqP z] at fq2
   cases fq2
 generalize upd H2 qa (.frz (PySem.W.kla_obj "<lambda>" qual params body scope [] pm c' ctv) (.own qa))=H3 at I3 q3 hc3 bar3 hL3
 have sp4:=q1 qa H3 bar3 hL3 fq1 ⟨params,body,scope,lpos,pm,ctv,c',oc,ovs,ot,rfl,q3,hc3,hd,hv⟩
 have r2:zcc [v,.ref qa] [u,.ref qa]:=.cons r1 (.cons rfl .nil)
 have hl:([u,Value.ref qa]++[]).length=ps.length:=by
  have:=F.len _ _ _ _ sp4
  rw [← this]
  rfl
 have hbb:=hb s2 [u,.ref qa] I3.kIn hl
 rw [List.append_nil] at hbb
 refine wpAny_call (codeAny_mono (F.run X.A X.stack s2 _ ⟨[u,.ref qa],[]⟩ [u,.ref qa] [v,.ref qa] _ _ hr I3.env0 hbb r2 sp4) fun r s' hq=>?_)
 cases r with
 | error e=>exact hx pins σ H3 s2 e s' I3 hq
 | ok fl =>
  cases fl with
  | ret u=>exact I3.after hq
  | next=>exact False.elim hq
  | brk=>exact False.elim hq
  | cont=>exact False.elim hq
end
end L2
namespace L2
open PySem PySem.Spec PyProof.Rows
def f2 (o:Obj):Option Value:=match o.data with
 | .fields vs=>vs[2]?
 | _=>none
section
variable {α β:Type}
def Kf:Sem α→Prop
 | .pure _=>True
 | .unsupported _=>True
 | .rule _ k=>Kf (k ())
 | .at _ k=>Kf (k ())
 | .load _ _ k=>∀ o,Kf (k o)
 | .update _ _ f k=>(∀ o:Obj,f2 (f o)=f2 o∧(f o).isFreed=o.isFreed)∧Kf (k ())
 | .alloc _ k=>∀ a,Kf (k a)
 | .stack k=>∀ l,Kf (k l)
 | _=>False
theorem zbm {f:α→Sem β} (hf:∀ x,Kf (f x)):∀ {t:Sem α},Kf t→Kf (t >>= f)
 | .pure a,_=>hf a
 | .unsupported _,_=>trivial
 | .rule _ k,h=>zbm hf (t:=k ()) h
 | .at _ k,h=>zbm hf (t:=k ()) h
 | .load _ _ k,h=>fun o=>zbm hf (t:=k o) (h o)
 | .update _ _ _ k,h=>⟨h.1,zbm hf (t:=k ()) h.2⟩
 | .alloc _ k,h=>fun o=>zbm hf (t:=k o) (h o)
 | .stack k,h=>fun o=>zbm hf (t:=k o) (h o)
 | .raise _,h=>h.elim
 | .finish _,h=>h.elim
 | .loadIfAlive _ _,h=>h.elim
 | .point _ _,h=>h.elim
 | .fresh _,h=>h.elim
 | .ask _,h=>h.elim
 | .handled _ _,h=>h.elim
 | .thread _,h=>h.elim
 | .register ..,h=>h.elim
 | .choose ..,h=>h.elim
 | .os ..,h=>h.elim
 | .call ..,h=>h.elim
 | .newGen ..,h=>h.elim
 | .genState ..,h=>h.elim
 | .resume ..,h=>h.elim
 | .yield ..,h=>h.elim
 | .fork ..,h=>h.elim
 | .await ..,h=>h.elim
def zom (e:Addr) (h:Heap):Prop:=∃ o,h.get? e=some o∧f2 o=some .none
theorem zk3 {M:Model} {Γ:PySem.Ctx} {Q:α→Pos→Shared→Prop} {E E':Value→Pos→Shared→Prop} {e:Addr}:∀ {t:Sem α} {p:Pos} {s:Shared},Kf t→zom e s.heap→Sem.wp M Γ t Q E p s →
  Sem.wp M Γ t (fun a p s'=>Q a p s'∧zom e s'.heap) E' p s
 | .pure _,_,_,_,d,h=>⟨h,d⟩
 | .unsupported _,_,_,_,_,h=>h
 | .rule _ k,_,_,c,d,h=>zk3 (t:=k ()) c d h
 | .at _ k,_,_,c,d,h=>zk3 (t:=k ()) c d h
 | .load _ _ k,_,_,c,d,⟨o,ho,h⟩=>⟨o,ho,zk3 (t:=k o) (c o) d h⟩
 | .update a _ f k,p,s,c,d,⟨hi,h⟩=>by
  refine ⟨hi,zk3 (t:=k ()) c.2 ?_ h⟩
  obtain ⟨o,ho,hd⟩:=d
  by_cases ea:a=e
  ·subst ea
   have nf:o.isFreed=false:=(Heap.get?_some_iff.mp ho).2
   exact ⟨f o,Heap.get?_update_self f ho (by rw [(c.1 o).2];exact nf),by rw [(c.1 o).1];exact hd⟩
  ·exact ⟨o,(Heap.get?_update_other _ f ea).trans ho,hd⟩
 | .alloc o k,p,s,c,⟨o',ho,hd⟩,h=>zk3 (t:=k _) (c _) ⟨o',Heap.get?_push_of_some _ ho,hd⟩ h
 | .stack k,_,_,c,d,h=>zk3 (t:=k _) (c _) d h
 | .raise _,_,_,c,_,_=>c.elim
 | .finish _,_,_,c,_,_=>c.elim
 | .loadIfAlive _ _,_,_,c,_,_=>c.elim
 | .point _ _,_,_,c,_,_=>c.elim
 | .fresh _,_,_,c,_,_=>c.elim
 | .ask _,_,_,c,_,_=>c.elim
 | .handled _ _,_,_,c,_,_=>c.elim
 | .thread _,_,_,c,_,_=>c.elim
 | .register ..,_,_,c,_,_=>c.elim
 | .choose ..,_,_,c,_,_=>c.elim
 | .os ..,_,_,c,_,_=>c.elim
 | .call ..,_,_,c,_,_=>c.elim
 | .newGen ..,_,_,c,_,_=>c.elim
 | .genState ..,_,_,c,_,_=>c.elim
 | .resume ..,_,_,c,_,_=>c.elim
 | .yield ..,_,_,c,_,_=>c.elim
 | .fork ..,_,_,c,_,_=>c.elim
 | .await ..,_,_,c,_,_=>c.elim
theorem zmn {M:Model} {A:Around} {t:Sem α} {Q:α→Shared→Prop} {E E':Value→Shared→Prop} {s:Shared} {e:Addr} (c:Kf t) (d:zom e s.heap) (h:wpAny M A t (fun a s'=>zom e s'.heap→Q a s') E s):wpAny M A t Q E' s:=fun Γ p hΓ =>
 Sem.wp_mono M Γ t (fun _ _ _ z=>z.1 z.2) (fun _ _ _ z=>z) p s (zk3 c d (h Γ p hΓ))
end
theorem ztQ {i:Nat} (hi:i≠2) (x:Value) (o:Obj):f2 (Obj.mapFields (·.setIfInBounds i x) o)=f2 o∧(Obj.mapFields (·.setIfInBounds i x) o).isFreed=o.isFreed:=by
 obtain ⟨c,d,dat,sl⟩:=o
 cases dat <;> first | exact ⟨Array.getElem?_setIfInBounds_ne hi,rfl⟩ | exact ⟨rfl,rfl⟩
theorem zcb {α:Type} (a:α):Kf (pure a:Sem α):=trivial
theorem ze1 {α:Type} (w:String):Kf (unsupported w:Sem α):=trivial
theorem zlv (a:Addr):Kf (load a):=fun _=>trivial
theorem zio:Kf stack:=fun _=>trivial
theorem zjR {α:Type} {c:Prop} [Decidable c] {a b:Sem α} (h1:Kf a) (h2:Kf b):Kf (if c then a else b):=by
 split
 ·exact h1
 ·exact h2
theorem zgR (v:Value) (i:Nat):Kf (field v i):=by
 unfold field fieldsOf
 refine zbm (fun x=>?_) ?_
 ·split
  ·exact zcb _
  ·exact ze1 _
 ·split
  ·refine zbm (fun o=>?_) (zlv _)
   split
   ·exact zcb _
   ·exact ze1 _
  ·exact ze1 _
theorem zfl {i:Nat} (hi:i≠2) (v x:Value):Kf (setField v i x):=by
 unfold setField updateField
 split
 ·refine zbm (fun o=>?_) (zlv _)
  split
  ·exact zjR ⟨ztQ hi _,trivial⟩ (ze1 _)
  ·exact ze1 _
 ·exact ze1 _
theorem zj1 (ty:String) (vs:List Value):Kf (newFields ty vs):=by
 unfold newFields newObj newObjAsIs
 simp only
 split
 ·exact ze1 _
 ·exact zbm (fun _=>zcb _) (show Kf (alloc _) from fun _=>trivial)
theorem ze6:∀ l:List Env,Kf (readyFrames l)
 | []=>trivial
 | env::outer=>by
  have ih:=ze6 outer
  unfold readyFrames
  split
  ·refine zbm (fun o=>?_) (zlv _)
   refine zjR (zcb _) ?_
   refine zbm (fun im=>?_) ?_
   ·refine zbm (fun bk=>?_) ?_
    ·exact zbm (fun _=>ih) ⟨fun o=>⟨rfl,by obtain ⟨c,d,dat,sl⟩:=o;cases dat <;> rfl⟩,trivial⟩
    ·unfold keptBack underTheClaimsCaller
     split
     ·refine zjR (zcb _) ?_
      exact zbm (fun _=>zcb _) (zbm (fun _=>zcb _) zio)
     ·exact zcb _
   ·unfold behindIsImport
    refine zjR (zcb _) (zjR (zcb _) ?_)
    exact zbm (fun _=>zcb _) (zgR _ _)
  ·exact ze1 _
theorem zmI (env:Env):Kf (PySem.frameOf env):=by
 unfold PySem.frameOf frameEnvs
 refine zbm (fun x=>?_) (zbm (fun _=>zcb _) zio)
 refine zbm (fun y=>?_) ?_
 ·split
  ·exact zcb _
  ·exact ze1 _
 ·unfold frameObject
  split
  ·exact zcb _
  ·exact zbm (fun _=>zcb _) (ze6 _)
theorem zhd (f:Addr) (b:Bool):Kf (entryPlaceOf f b):=by
 unfold entryPlaceOf
 refine zbm (fun x=>?_) zio
 split
 ·exact zcb _
 ·exact zcb _
theorem zgD (e:Value) (env:Env):Kf (noteFrame e env):=by
 unfold noteFrame EntryCells.newEntry
 split
 ·refine zbm (fun head=>?_) (zgR _ _)
  have zkR:∀ f:Addr,Kf (do let a ← PySem.frameOf env;let pl ← entryPlaceOf f (head != .none);let b ← newFields "traceback" ([head,a,.none,rawInt f,.none]++(if pl.isEmpty then List.replicate 6 .none else pl));setField e 1 b):=fun f =>
   zbm (fun _=>zbm (fun _=>zbm (fun _=>zfl (by decide) _ _) (zj1 _ _)) (zhd _ _)) (zmI _)
  refine zjR ?_ (zkR _)
  refine zbm (fun x=>zjR (zcb _) ?_) (zgR _ _)
  exact zbm (fun _=>zkR _) (zfl (by decide) _ _)
 ·exact ze1 _
theorem zd6 (e:Value) (f:Option Addr):Kf (setFlight e f):=by
 unfold setFlight
 exact zbm (fun _=>zjR (zfl (by decide) _ _) (zcb _)) (zgR _ _)
theorem zm7 (env:Env) (e:Value):Kf (leaving env e):=by
 unfold leaving
 exact zbm (fun _=>zd6 _ _) (zgD _ _)
def CXW (P:Program) (w:World):CXT:=fun outer H s E e s'=>CXV P w outer H s E e s'∧∃ ea,e=.ref ea∧zom ea s'.heap
theorem Inv.xeq {X:Cx} {pins:List (Addr×Obj)} {σ:St} {H:Hp} {s:Shared} {xe:Value→Shared→Prop} (I:Inv X pins σ H s):Inv { X with xe:=xe } pins σ H s :=
 ⟨⟨I.ok.mod,I.ok.kind,I.ok.glob,I.ok.blt,I.ok.above,I.ok.inj,I.ok.has,I.ok.cab,I.ok.hd,I.ok.frames,I.ok.stk,I.ok.exf,I.ok.bs,I.ok.bsz,I.ok.noex,I.ok.exfs,I.ok.funs,I.ok.frf⟩,I.os,I.bare,I.base,I.loc,I.cell,I.free,I.freeC,I.pin,I.hok,I.len⟩
section
variable {P:Program} {w:World} {K:PySem.W.Frag} {mg:Str→Option Value} {base:Heap} {N:List Str} {qual:Str} {scope:Scope} {f:Addr} {cd:Value} {A:Around} {outer:List Env} {s₀:Shared} {H₀:Hp} {E:XK}
theorem zlw:zlo (zkT (CXW P w) P w K mg base N qual scope f cd A outer s₀ H₀ E) E:=by
 intro pins σ H s y C dx I hy n0 q
 have I':Inv (zkT (CXV P w) P w K mg base N qual scope f cd A outer s₀ H₀ E) pins σ H s:=I.xeq
 have h:=zkU pins σ H s y C dx I' hy n0 q
 obtain ⟨⟨oy,t0,gy,cy,dy,fy⟩,_⟩:=(I.hok y _ hy:zbO _ _ H s.heap y (znu y C dx))
 exact zmn (zm7 _ _) ⟨oy,gy,by unfold f2;rw [fy];rfl⟩ (wpAny_mono h (fun _ s' z d=>⟨z,y,rfl,d⟩) fun _ _ z=>z)
end
theorem Fun.okW {P:Program} {w:World} {K:PySem.W.Frag} {mg:Str→Option Value} {base:Heap} {x qual:Str} {st:Stmt} {f:Addr} {fd:FuncData} {N ps:List Str} {k:Nat} {sp:Sp} (F:Fun K x qual st f fd) (S:za7 N ps (zav st)) (len:∀ vs H Q E,sp vs H Q E→vs.length=ps.length)
  (hbody:∀ (cdv:Value) (A:Around) (outer:List Env) (s:Shared) (H:Hp) (vs:List V) (Q:VK) (E:XK),zeS k (A.deeper (envOfC qual (zav st) s.heap.objs.size f cdv))→sp vs H Q E →
   ∃ t,PSs (zkT (CXW P w) P w K mg base N qual (zav st) f cdv A outer s H E) (zcr st) t∧t { nx:=fun _ H'=>Q .non H',rt:=Q } (L2.zbY N vs) H):zdD P w K mg base (CXW P w) (k+1) f fd ps sp:=by
 obtain ⟨oc,od,kV,doc,pm,an,cdv,ct,osl,rfl,lk,hcd⟩:=F.ex
 exact zpZ lk hcd S len fun A outer s H vs Q E hr hsp=>hbody cdv A outer s H vs Q E hr hsp
structure zmC (k:Nat) (A:Around):Prop where
 dp:A.depth+3*k+5<recursionLimit
 un:A.units+16*k+200<cLine
theorem zeS.h {k:Nat} {A:Around} (r:zeS k A) (v:Option Value):zmC k (A.mark v):=⟨r.dp,r.un⟩
theorem zmC.make {k:Nat} {A:Around} (r:zmC (k+1) A) (C:Addr) (us:List Value) (kw:List (Str×Value)):zmC k (A.under (.builtin "type.__call__" ⟨.ref C::us,kw⟩)) :=
 ⟨by rw [zif];have:=r.dp;(first|lia|omega),by rw [zic];have:=r.un;(first|lia|omega)⟩
structure zqL (P:Program) (w:World) (K:PySem.W.Frag) (mg:Str→Option Value) (base:Heap) (k:Nat) (f:Addr) (fd:FuncData) (ps:List Str) (sp:Sp):Prop where
 len:∀ vs H Q E,sp vs H Q E→vs.length=ps.length
 run:∀ (A:Around) (outer:List Env) (s:Shared) (H:Hp) (args:Args) (us:List Value) (vs:List V) (Q:VK) (E:XK),zmC k A→zpl P w K mg base A outer s H→BindsTo s fd args (ps.zip us)→zcc vs us→sp vs H Q E →
  codeAny (model P w) A (.call (.ref f) args) (CR CX0 outer P w H s Q E) s
def cxH (P:Program) (w:World) (K:PySem.W.Frag) (mg:Str→Option Value) (base:Heap) (N:List Str) (qual:Str) (scope:Scope) (f:Addr) (cd:Value) (A:Around) (outer:List Env) (s:Shared) (H:Hp) (E:XK):Cx:={ zkT CX0 P w K mg base N qual scope f cd A outer s H E with calm:=false }
theorem Fun.okH {P:Program} {w:World} {K:PySem.W.Frag} {mg:Str→Option Value} {base:Heap} {x qual:Str} {st:Stmt} {f:Addr} {fd:FuncData} {N ps:List Str} {k:Nat} {sp:Sp} (F:Fun K x qual st f fd) (S:za7 N ps (zav st)) (len:∀ vs H Q E,sp vs H Q E→vs.length=ps.length)
  (hbody:∀ (cdv:Value) (A:Around) (outer:List Env) (s:Shared) (H:Hp) (vs:List V) (Q:VK) (E:XK),sp vs H Q E →
   ∃ t,PSs (cxH P w K mg base N qual (zav st) f cdv A outer s H E) (zcr st) t∧t { nx:=fun _ H'=>Q .non H',rt:=Q } (L2.zbY N vs) H):zqL P w K mg base k f fd ps sp:=by
 obtain ⟨oc,od,kV,doc,pm,an,cdv,ct,osl,rfl,lk,hcd⟩:=F.ex
 refine ⟨len,fun A outer s H args us vs Q E hr e0 hb r hsp=>?_⟩
 have hl:=len _ _ _ _ hsp
 have KX:K.In s.heap:=e0.mod.kin.keeps fun b o e=>(e0.bs b o e).1
 have lim:s.heap.NoLimit:=e0.mod.nolimit.keeps fun b o e=>(e0.bs b o e).1
 have hkind:∀ y∈ps.zip us,(zav st).names.lookup y.1=some .local∨((zav st).names.lookup y.1=some .cell∧((cellsFrom (s.heap.objs.size+1) (zav st).names []).lookup y.1).isSome=true):=fun ⟨n,v⟩ hy=>by
  rcases S.par n (List.of_mem_zip hy).1 with q | q
  ·exact .inl q
  ·exact .inr ⟨q,PySem.W.cellsFrom_some _ _ _ (.inl q)⟩
 refine codeAny_call_function (by have:=hr.dp;(first|lia|omega)) (KX _ _ lk) rfl S.co S.gen rfl (PySem.W.codeRec_of KX hcd) (hb _ _ _ _ ?_)
 refine wpAny_newFunctionEnv_cells S.kind hkind fun env he s1 x=>?_
 subst he
 refine ⟨lim.keeps x.toInCall.keep,codeAny_func ?_⟩
 obtain ⟨t,ht,hq⟩:=hbody cdv A outer s H vs Q E hsp
 have e1:zpl P w K mg base { A with handled:=none } outer s H:=⟨e0.frames,e0.mod,e0.bs,e0.bsz,e0.funs,e0.frf,e0.hok,e0.bare⟩
 have I0:Inv (zkT CX0 P w K mg base N qual (zav st) f cdv { A with handled:=none } outer s H E) [] (zbY N vs) H s1:=zjO S rfl e1 hl r x
 have I:Inv (cxH P w K mg base N qual (zav st) f cdv A outer s H E) [] (zbY N vs) H s1 :=
  ⟨⟨I0.ok.mod,I0.ok.kind,I0.ok.glob,I0.ok.blt,I0.ok.above,I0.ok.inj,I0.ok.has,I0.ok.cab,(by intro z;cases z),Around.frames_deeper e0.frames,I0.ok.stk,I0.ok.exf,I0.ok.bs,I0.ok.bsz,I0.ok.noex,I0.ok.exfs,I0.ok.funs,I0.ok.frf⟩,I0.os,I0.bare,I0.base,I0.loc,I0.cell,I0.free,I0.freeC,I0.pin,I0.hok,I0.len⟩
 refine wpAny_mono (ht [] s1 (zbY N vs) H _ I hq) (fun fl s' hs=>?_) fun e s' hs=>hs
 have fin:∀ {σ':St} {H':Hp} {v:V} {u:Value},Inv (cxH P w K mg base N qual (zav st) f cdv A outer s H E) [] σ' H' s'→zcA v u→Q v H'→CE outer P w H s Q u s' :=
  fun {σ' H' v u} J rv q=>⟨v,H',J.os,J.bare,J.base,J.hok,rv,q⟩
 cases fl with
 | ret u =>
  obtain ⟨v,σ',H',J,rv,q⟩:=hs
  exact fin J rv q
 | next =>
  obtain ⟨σ',H',J,q⟩:=hs
  exact fin (v:=V.non) (u:=Value.none) J rfl q
 | brk =>
  obtain ⟨_,_,_,q⟩:=hs
  exact False.elim q
 | cont =>
  obtain ⟨_,_,_,q⟩:=hs
  exact False.elim q
theorem ziH:entryFor table "proto.unchain"=some Builtin.«proto.unchain»:=entryFor_of_fast (by kernel_rfl)
theorem zfk {α:Type} {prog:Program} {w:World} {A:Around} {E:Value→Shared→Prop} {s:Shared} {y ea:Addr} {oy oe:Obj} {fy:Array Value} {Q:α→Shared→Prop} (hh:A.handled=some (.ref ea)) (ne:ea≠y) (ge:s.heap.get? ea=some oe) (fe:f2 oe=some .none)
  (gy:s.heap.get? y=some oy) (dy:oy.data=.fields fy) (h2:2<fy.size) (h:E (.ref y) { s with heap:=s.heap.update y (Obj.mapFields (·.setIfInBounds 2 (.ref ea))) }):wpAny (model prog w) A (raiseNew (.ref y):Sem α) Q E s:=by
 obtain ⟨vs,de,e2⟩:∃ vs,oe.data=.fields vs∧vs[2]?=some Value.none:=by
  unfold f2 at fe
  split at fe
  ·exact ⟨_,by assumption,fe⟩
  ·cases fe
 unfold raiseNew
 refine wpAny_bind (wpAny_handled ?_)
 rw [hh]
 have nb:(Value.ref ea != Value.ref y)=true:=by simpa using ne
 simp only [nb,if_true]
 refine wpAny_bind (wpAny_holding (wpAny_runValue (codeAny_builtin ziH ?_)))
 unfold Builtin.«proto.unchain»
 refine wpAny_bind (wpAny_field ge de e2 ?_)
 rw [if_pos (show (Value.none == Value.none)=true by decide)]
 wp_walk
 rw [dy]
 dsimp only
 rw [if_pos h2]
 exact wpAny_update' gy (wpAny_throw h)
def excE (x:Addr) (C dx:Addr):HO:=.ext fun h=>∃ o t0 c2,h.get? x=some o∧o.cls=.ref C∧o.dict=some dx∧o.data=.fields #[.ref t0,.none,c2,.none,.bool false,.none]
def zol (X:Cx) (E:XK):Prop:=∀ (pins:List (Addr×Obj)) (σ:St) (H:Hp) (s:Shared) (y C dx:Addr),Inv X pins σ H s→H y=some (excE y C dx)→X.s₀.heap.get? y=none→E (.ref C) (some dx) (ziR H y)→X.xe (.ref y) s
section
variable {P:Program} {w:World} {K:PySem.W.Frag} {mg:Str→Option Value} {base:Heap} {N:List Str} {qual:Str} {scope:Scope} {f:Addr} {cd:Value} {A:Around} {outer:List Env} {s₀:Shared} {H₀:Hp} {E:XK}
theorem zs0:zol (zkT (CXV P w) P w K mg base N qual scope f cd A outer s₀ H₀ E) E:=by
 intro pins σ H s y C dx I hy n0 q
 replace n0:s₀.heap.get? y=none:=n0
 obtain ⟨⟨oy,t0,c2,gy,cy,dy,fy⟩,_⟩:=(I.hok y _ hy:zbO _ _ H s.heap y (excE y C dx))
 have hfr:=I.ok.frames
 have hst:s.heap.FunFrames base (envOfC qual scope s₀.heap.objs.size f cd::outer):=I.stack
 have fresh:∀ b∈frs (envOfC qual scope s₀.heap.objs.size f cd::outer),H b=none:=I.stkFree
 have yf:y∉frs (envOfC qual scope s₀.heap.objs.size f cd::outer):=fun z=>by rw [fresh y z] at hy;cases hy
 have inB:∀ b o,s.heap.get? b=some o→b≠y→b∉frs (envOfC qual scope s₀.heap.objs.size f cd::outer)→(PySem.W.hideAll s.heap (y::frs (envOfC qual scope s₀.heap.objs.size f cd::outer))).get? b=some o:=fun b o e ny n =>
  PySem.W.hideAll_get _ e (fun z=>(List.mem_cons.mp z).elim ny n)
 have st0:(PySem.W.hideAll s.heap (y::frs (envOfC qual scope s₀.heap.objs.size f cd::outer))).StaysIn s.heap:=fun b o q=>PySem.W.of_hideAll _ q
 have hl:s.heap.FunFrames (PySem.W.hideAll s.heap (y::frs (envOfC qual scope s₀.heap.objs.size f cd::outer))) (envOfC qual scope s₀.heap.objs.size f cd::outer) :=
  PySem.W.funFrames_hide hst fun env he a ha=>List.mem_cons_of_mem _ (List.mem_filterMap.mpr ⟨env,he,ha⟩)
 have yB:(PySem.W.hideAll s.heap (y::frs (envOfC qual scope s₀.heap.objs.size f cd::outer))).get? y=none:=PySem.W.hideAll_none _ List.mem_cons_self
 generalize PySem.W.hideAll s.heap (y::frs (envOfC qual scope s₀.heap.objs.size f cd::outer))=B at inB st0 hl yB
 refine zh4 (zf4 _ _) ⟨oy,gy,dy⟩ (wpAny_leaving_firstW (base:=B) (L:=s₀.heap.objs.size) (a0:=.ref t0) hfr hl rfl gy st0 yB fy rfl rfl fun h2 lf d2=>?_)
 obtain ⟨x1,⟨_,_,x2⟩,x3,x4⟩:=lf
 have neL:∀ b o,s₀.heap.get? b=some o→b≠s₀.heap.objs.size:=fun b o e=>Nat.ne_of_lt (Heap.lt_size e)
 have ney:∀ b o,s₀.heap.get? b=some o→b≠y:=fun b o e z=>by rw [z,n0] at e;cases e
 have notin:∀ b o,s₀.heap.get? b=some o→b∉frs outer→b∉frs (envOfC qual scope s₀.heap.objs.size f cd::outer):=fun b o e hb z=>by
  rcases List.mem_cons.mp (I.stkSub b z) with q | q
  ·exact neL b o e q
  ·exact hb q
 have slot:∀ b o,s.heap.get? b=some o→b∈frs outer→∃ sl,h2.get? b=some { o with slots:=sl }:=fun b o e hb=>by
  obtain ⟨_,o',e',nf⟩:=hl.2.2.mem hb
  rw [e] at e'
  cases e'
  exact x4 b o e nf
 have hokB:HOk P w (ziR H y) B:=fun b u e=>by
  obtain ⟨nb,e'⟩:=zjX e
  refine (I.hok b u e').stay (fun c v hc q=>inB c v q (fun z=>?_) fun z=>?_) (fun c q=>?_) fun c xs q=>?_
  ·rcases hc with r | r
   ·exact nb (r.symm.trans z)
   ·rw [z,hy] at r
    cases r
  ·rcases hc with r | r
   ·rw [r] at z
    rw [fresh b z] at e'
    cases e'
   ·rw [fresh c z] at r
    cases r
  ·rw [zc7 fun z=>by rw [z,hy] at q;cases q]
   exact q
  ·rw [zc7 fun z=>by rw [z,hy] at q;cases q]
   exact q
 have un:Un (frs outer) [] H₀ (ziR H y) s₀.heap h2:=by
  refine ⟨fun b o e n hb hx=>?_,fun b o e n hb hx=>?_,fun b o e n hx=>?_,fun b o e hx=>?_,fun b xs e=>?_,fun b o u e=>?_,fun b ps e=>?_⟩
  ·exact x1 b o (inB b o (I.base.keep b o e n hb hx) (ney b o e) (notin b o e hb))
  ·obtain ⟨sl,e1⟩:=I.base.slot b o e n hb hx
   obtain ⟨sl',e2⟩:=slot b _ e1 hb
   exact ⟨sl',e2⟩
  ·rw [zc7 (ney b o e)]
   exact I.base.free b o e n hx
  ·obtain ⟨o',e1⟩:=I.base.there b o e hx
   by_cases hb:b∈frs outer
   ·obtain ⟨sl,e2⟩:=slot b o' e1 hb
    exact ⟨_,e2⟩
   ·exact ⟨o',x1 b o' (inB b o' e1 (ney b o e) (notin b o e hb))⟩
  ·have z:=I.base.tups b xs e
   rw [zc7 fun q=>by rw [q,hy] at z;cases z]
   exact z
  ·have z:=I.base.frzs b o u e
   rw [zc7 fun q=>by rw [q,hy] at z;cases z]
   exact z
  ·obtain ⟨m,z⟩:=I.base.tbls b ps e
   refine ⟨m,?_⟩
   rw [zc7 fun q=>by rw [q,hy] at z;cases z]
   exact z
 rw [cy] at x3
 refine ⟨y,B,.ref C,.ref t0,ziR H y,some dx,rfl,⟨I.os,I.bare,un,hokB,⟨x1,yB,x2,x3⟩,fun b o e n hb=>?_,fun b o e hb=>?_,n0,zjJ,q⟩,d2⟩
 ·exact inB b o (I.base.keep b o e n hb (by intro z;cases z)) (ney b o e) (notin b o e hb)
 ·obtain ⟨o',e1⟩:=I.base.there b o e (by intro z;cases z)
  exact ⟨o',inB b o' e1 (ney b o e) (notin b o e hb)⟩
end
section
variable {X:Cx} {k:Nat} {f C ea:Addr} {fd:FuncData} {ps:List Str} {sp:Sp}
theorem znJ {pins:List (Addr×Obj)} {σ:St} {H:Hp} {s:Shared} {Q:VK} {us:List Value} {vs:List V} (Z:ExI X.K C f) (F:zqL X.prog X.w X.K X.mg X.base k f fd ps sp) (hr:zmC (k+1) X.A) (hb:zci X.K fd ps [])
  (I:Inv X pins σ H s) (r:zcc vs us) (hl:us.length≤sizeLine) (h:∀ y,H y=none→X.s₀.heap.get? y=none→s.heap.get? y=none→sp (.ref y::vs) (upd H y (znq y C)) (fun v H2=>v=.non∧Q (.ref y) H2) E0) :
  wpAny (model X.prog X.w) X.A (call (.ref C) us) (EP X pins σ Q) X.xe s:=by
 obtain ⟨hh,g,d,tk,os⟩:=s
 refine zoi I.kIn Z hl fun h1 y ey M=>?_
 have hy:hh.objs.size≤y:=by rw [ey];exact Nat.le_succ _
 obtain ⟨t0,gy,_,_⟩:=M.there
 have I2:=I.laidAt (a:=y) (o:=znq y C) M.keeps hy ⟨⟨_,t0,gy,rfl,rfl,rfl⟩,⟨_,gy⟩,fun _ _ ⟨o,t0,e,r⟩ k=>⟨o,t0,k o e,r⟩⟩
 have hq:=h y (I.hok.fresh hy) (Heap.get?_none_of_le (Nat.le_trans I.sz hy)) (Heap.get?_none_of_le hy)
 have r2:zcc (V.ref y::vs) (Value.ref y::us):=.cons rfl r
 have hl2:(Value.ref y::us++[]).length=ps.length:=by
  rw [List.append_nil,← r2.length]
  exact F.len _ _ _ _ hq
 have B:=hb _ (Value.ref y::us) I2.kIn hl2
 rw [List.append_nil] at B
 refine wpAny_call (codeAny_mono (F.run _ X.stack _ _ ⟨Value.ref y::us,[]⟩ (Value.ref y::us) _ _ E0 (hr.make C us []) (I2.env0.make C us []) B r2 hq) fun res s' hq'=>?_)
 cases res with
 | error e=>exact False.elim hq'
 | ok fl =>
  cases fl with
  | ret u =>
   obtain ⟨v,H',I3,rv,ev,q3⟩:=I2.after hq'
   subst ev
   exact ⟨rv,⟨V.ref y,H',I3,rfl,q3⟩⟩
  | next=>exact False.elim hq'
  | brk=>exact False.elim hq'
  | cont=>exact False.elim hq'
end
section
variable {K:PySem.W.Frag} {prog:Program} {w:World} {A:Around} {E:Value→Shared→Prop} {s:Shared} {env:Env} {C fI:Addr}
theorem zm4 {xs:Sem Value} {Q:Flow→Shared→Prop} {ea:Addr} (Z:ExI K C fI) (hh:A.handled=some (.ref ea))
  (h:wpAny (model prog w) A xs (fun v s1=>∃ y o fs oe,v=.ref y∧K.In s1.heap∧s1.heap.get? y=some o∧o.cls=.ref C∧o.data=.fields fs∧fs[1]?=some .none∧2<fs.size∧ea≠y∧s1.heap.get? ea=some oe∧f2 oe=some .none∧E (.ref y) { s1 with heap:=s1.heap.update y (Obj.mapFields (·.setIfInBounds 2 (.ref ea))) }) E s) :
  wpAny (model prog w) A (raiseStmt env (some xs) none) Q E s:=by
 obtain ⟨nm,q,N,bs,bm,sn,sub,ab,col,dd,k0,k1,k2,k3,k5,lk,tl⟩:=Z.lk
 unfold raiseStmt
 refine wpAny_bind (wpAny_mono h (fun v s1 z=>?_) fun _ _ z=>z)
 obtain ⟨y,o,fs,oe,rfl,X,gy,cy,fy,f1,fz,ne,ge,fe,hE⟩:=z
 obtain ⟨hp,g,d,tk,os⟩:=s1
 have kC:=X _ _ lk
 have T:=PySem.W.tail_of_in X tl
 have cB:(Value.ref C::bm).contains (.type "BaseException")=true:=by rw [List.contains_cons,T.hasType PySem.F.excBase_ValueError.hasBase,Bool.or_true]
 obtain ⟨oc,od,odt,osl⟩:=o
 dsimp only at cy fy
 subst cy fy
 repeat (first | (with_reducible refine wpAny_loadPart_at gy ?_) | (with_reducible refine wpAny_loadPart_at kC ?_) | (with_reducible refine wpAny_isSubtype_exc kC ?_;rw [cB]) | wp_step)
 rw [f1]
 refine wpAny_pure ?_
 rw [if_neg (by decide)]
 exact wpAny_pure (zfk hh ne ge fe gy rfl fz hE)
end
def ztb (K:PySem.W.Frag) (tb:(St→XK)→TS) (D:Value) (C:Addr) (nm:Str) (E:XK) (t:TA):TS:=fun d σ H =>
 tb (fun σ' c _ H'=>PySem.W.subIn K c D=some true∧zcW C nm E t d σ' H') d σ H
def Cx.inTryW (X:Cx) (pins:List (Addr×Obj)) (E:St→XK):Cx:={ X with
 pn:=X.pn++pins
 xe:=fun e s'=>∃ pins' σ H s,Inv { X with pn:=X.pn++pins } pins' σ H s∧CXW X.prog X.w X.stack H s (E σ) e s' }
theorem Inv.toTryW {X:Cx} {pins:List (Addr×Obj)} {σ:St} {H:Hp} {s:Shared} (I:Inv X pins σ H s) (E:St→XK):Inv (X.inTryW pins E) [] σ H s :=
 ⟨I.ok.pinned _ _,I.os,I.bare,I.base,I.loc,I.cell,I.free,I.freeC,fun p hp=>I.pin p (by rw [List.append_nil] at hp;exact hp),I.hok,I.len⟩
theorem ztX {X:Cx} {pins:List (Addr×Obj)} {E:St→XK}:zlE (CXW X.prog X.w) (X.inTryW pins E) E:=fun pins' σ H s e s' I h =>
 ⟨pins',σ,H,s,⟨I.ok.pinned _ _,I.os,I.bare,I.base,I.loc,I.cell,I.free,I.freeC,I.pin,I.hok,I.len⟩,h⟩
theorem SP.ofTryW {X:Cx} {pins pins':List (Addr×Obj)} {E:St→XK} {D:zb1} {f:Flow} {s':Shared} (ok:X.Ok) (h:SP (X.inTryW pins E) pins' D f s'):SP X pins D f s':=by
 cases f with
 | next=>obtain ⟨σ',H',I,q⟩:=h;exact ⟨σ',H',I.ofTry ok,q⟩
 | brk=>obtain ⟨σ',H',I,q⟩:=h;exact ⟨σ',H',I.ofTry ok,q⟩
 | cont=>obtain ⟨σ',H',I,q⟩:=h;exact ⟨σ',H',I.ofTry ok,q⟩
 | ret u=>obtain ⟨v,σ',H',I,r,q⟩:=h;exact ⟨v,σ',H',I.ofTry ok,r,q⟩
end L2
namespace L2
open PySem PySem.Spec PyProof.Rows
theorem zkF {K:PySem.W.Frag} {M:Model} {A:Around} {E:Value→Shared→Prop} {h:Heap} {g:Array GenState} {d:Drawn} {t:Nat} {os:OsState} {e D fD:Addr} {oe:Obj} {cls:Value} {Q:Bool→Shared→Prop} (he:h.get? e=some oe) (hcls:oe.cls=cls)
  (X:K.In h) (Z:ExI K D fD) (L:PySem.W.Looks M h (isSubtype cls (.ref D)) true) (hq:Q true ⟨h,g,d,t,os⟩):wpAny M A (excMatches (.ref e) (.ref D)) Q E ⟨h,g,d,t,os⟩:=by
 obtain ⟨nm,q,N,bs,bm,sn,sub,ab,col,dd,k0,k1,k2,k3,k5,lk,tl⟩:=Z.lk
 have hD:=X _ _ lk
 have T:=PySem.W.tail_of_in X tl
 have hcB:(Value.ref D::bm).contains (.type "BaseException")=true:=by rw [List.contains_cons,T.hasType PySem.F.excBase_ValueError.hasBase,Bool.or_true]
 have f:=tc_notTuple
 unfold excMatches
 repeat (first | (with_reducible refine wpAny_loadPart_at he ?_;rw [hcls]) | with_reducible refine wpAny_loadPart_at hD ?_ | (with_reducible refine wpAny_isSubtype_exc hD ?_;rw [hcB]) | (with_reducible refine L.at ?_) | wp_step)
 exact hq
theorem zpt {X:Cx} {k:Nat} {C D f:Addr} {fd:FuncData} {ps:List Str} {nm x n:Str} {E:XK} {np xp cpos rpos pos hpos:Pos} {e:Expr} {es:List Expr} {body:List Stmt} {tb:(St→XK)→TS} {t:TA}
  (hmD:X.mg x=some (.ref D)) {fD:Addr} (hq:ExI X.K D fD) (hgD:Gl X x)
  (Z:ExI X.K C f) (F:zqL X.prog X.w X.K X.mg X.base k f fd ps (zj0 C nm)) (hr:zeS (k+1) X.A) (hg:Gl X n) (hm:X.mg n=some (.ref C)) (hb:zci X.K fd ps []) (hT:zol X E)
  (hst:X.stack=X.env::X.outer) (hfr:X.env.frame=some X.env.locals) (hex:X.ex=[]) (hp:∀ v,PassesOwnAt (model X.prog X.w) (X.A.mark v) X.A X.env X.xe)
  (hbd:∀ pins E',PSs (X.inTryW pins E') body (tb E')) (ha:∀ ea,PA (X.inExc ea) (e::es) t) (hd:(x == ("__debug__":Str))=false:=by decide) (hdb:(n == ("__debug__":Str))=false:=by decide)
  (he:starEach (e::es) X.env=(false,eval e X.env)::starEach es X.env:=by rfl) (hpl:(backTo cpos (starEach es X.env)).any (·.1)=false:=by rfl) :
  PS X (.Try body [.ExceptHandler (some (.Name x xp)) none [.Raise (some (.Call (.Name n np) (e::es) [] cpos)) none rpos] hpos] [] [] pos) (ztb X.K tb (.ref D) C nm E t):=by
 intro pins s σ H d I h
 refine wpAny_Try_except (wpAny_mono (hbd pins _ [] s σ H d (I.toTryW _) h) (fun f s₁ q=>?_) fun e s₁ q=>?_)
 ·have q':=SP.ofTryW I.ok q
  cases f with
  | next=>exact wpAny_execs_nil q'
  | brk=>exact q'
  | cont=>exact q'
  | ret u=>exact q'
 obtain ⟨pins',σ',H1,s1,I1,⟨ea,B,cls,a0,H',od,rfl,x,dd⟩,ea',ee,cc⟩:=q
 cases ee
 replace I1:Inv X pins σ' H1 s1:=Inv.ofTry (xe:=X.xe) I1 I.ok
 obtain ⟨hsub,hth⟩:=x.want
 have fly:=x.fly
 rw [hst] at fly
 have ff:=x.fly.2.2.1
 have hfrm:X.A.frames=some (X.env::X.outer):=by rw [← hst];exact I.ok.frames
 refine zmn (zgD _ _) cc (wpAny_looks_onW (E:=fun _ _=>False) (base:=B) (L:=X.env.locals) hfrm hfr fly fun h4 hd4 sm4 c4=>?_)
 refine zmn (zd6 _ _) c4 (wpAny_landsW (E:=fun _ _=>False) hd4 fun h5 fl5 sm5 c5=>?_)
 have invAt:∀ {h:Heap} {tk:Nat},B.StaysIn h→s₁.heap.UpToSlots h→Inv X pins σ' H' { s₁ with heap:=h,toks:=tk }:=fun {h tk} st sm=>by
  obtain ⟨un,hok⟩:=x.later st sm ff
  exact I1.call' (ch:=[]) x.os un hok x.bare fun b z=>nomatch z
 have I5:Inv X pins σ' H' { s₁ with heap:=h5 }:=invAt (tk:=s₁.toks) fl5.1 (sm4.trans sm5)
 have fmark:(X.A.mark (some (.ref ea))).frames=some X.stack:=I.ok.frames
 refine wpAny_handleBy_cons (codeAny_handlers_test ?_) (by intro q;cases q)
 refine zd0 (X:=X.inExc ea) (I5.toExc fmark) hgD hmD ?_ hd
 have kin5:=I5.kIn
 obtain ⟨oe,hoe,hcls⟩:=fl5.there
 refine zkF (cls:=cls) hoe hcls kin5 hq (PySem.W.looks_subIn kin5 hsub) ?_
 refine codeAny_handlers_suite ?_
 refine zmn (zd6 _ _) c5 (lands_againW (E:=fun _ _=>False) fl5 fun h6 fl6 sm6 c6=>?_)
 have I6:Inv X pins σ' H' { s₁ with heap:=h6 }:=invAt (tk:=s₁.toks) fl6.1 ((sm4.trans sm5).trans sm6)
 have noat:∀ b o,s1.heap.get? b=some o→b≠ea:=fun b o e z=>by rw [z,x.new] at e;cases e
 have nL:ea≠X.env.locals:=by
  obtain ⟨m,⟨o,_,_,e,_⟩,_⟩:=I1.loc
  exact (noat _ o e).symm
 obtain ⟨oc,goc,f2c⟩:=c6
 have I7:Inv X ((ea,oc)::pins) σ' H' { s₁ with heap:=h6 }:=I6.pins_of fun p hp=>by
  rcases List.mem_cons.mp hp with rfl | hp
  ·refine ⟨goc,x.free,nL,fun z=>?_,fun v z=>?_⟩
   ·obtain ⟨_,o',e',nf⟩:=I1.ok.funs.mem z
    obtain ⟨o'',e''⟩:=I1.base.there ea o' e' (by rw [hex];intro z;cases z)
    exact noat ea o'' e'' rfl
   ·unfold f2 at f2c
    rw [show oc.data=.cell v from z] at f2c
    cases f2c
  ·exact I6.pin p (List.mem_append_right _ hp)
 refine wpAny_passesOwnAt (hp _) ?_
 have I8:=I7.toExc fmark
 refine wpAny_execs_cons ?_
 rw [arm_exec_Raise]
 refine wpAny_bind (wpAny_standAt (zm4 (ea:=ea) Z rfl (wpAny_bind (wpAny_mono (Q:=fun v s1=>∃ y o fs oe,v=.ref y∧X.K.In s1.heap∧s1.heap.get? y=some o∧o.cls=.ref C∧o.data=.fields fs∧fs[1]?=some .none∧2<fs.size∧ea≠y∧s1.heap.get? ea=some oe∧f2 oe=some .none∧X.xe (.ref y) { s1 with heap:=s1.heap.update y (Obj.mapFields (·.setIfInBounds 2 (.ref ea))) }) ?_ (fun v s3 h3=>wpAny_bind (wpAny_standAt (wpAny_pure h3))) fun _ _ z=>z))))
 refine wpAny_Call_Name_kw (zd0 (X:=X.inExc ea) I8 hg hm ?_ hdb)
 refine PySem.W.callWith_K (h₀:=X.base) I.ok.mod.kin Z.kp (thn (ha ea cpos _ _ σ' H' _ I8 hth) fun us s9 ⟨vs,H9,I9,r,v,e1,q⟩=>⟨I9.kIn,?_⟩) he hpl
 subst e1
 obtain ⟨u,rfl,ru⟩:=zfQ r
 refine thn (znJ (X:=X.inExc ea) (Q:=fun z H2=>∃ y dx,z=.ref y∧ea≠y∧X.s₀.heap.get? y=none∧H2 y=some (znu y C dx)∧E (.ref C) (some dx) (ziR H2 y)) Z F (hr.h _) hb I9 r (by show 1≤sizeLine;decide) fun y hy n0 n1=>?_) fun z s10 ⟨v2,H10,I10,rz,y,dx,ev,ny,n0,hy,hE⟩=>?_
 ·have nye:ea≠y:=fun z=>by
   have:=(I9.pin (ea,oc) (List.mem_append_right _ List.mem_cons_self)).1
   rw [show (ea,oc).1=y from z,n1] at this
   cases this
  refine ⟨y,v,rfl,zaf,fun dx hd nd=>⟨rfl,y,dx,rfl,nye,n0,?_,?_⟩⟩
  ·rw [zax nd.symm,zaf]
  ·rw [zk7]
   have hd1:H9 dx=none:=by rw [zax nd] at hd;exact hd
   rw [zj5 hy nd]
   exact q dx hd1
 ·subst ev
  obtain rfl:z=Value.ref y:=rz
  obtain ⟨⟨oy,t0,gy,cy,dy,fy⟩,_⟩:=(I10.hok y _ hy:zbO X.prog X.w H10 s10.heap y (znu y C dx))
  have ge:=(I10.pin (ea,oc) (List.mem_append_right _ List.mem_cons_self)).1
  refine ⟨y,oy,_,oc,rfl,I10.kIn,gy,cy,fy,rfl,(by show 2<6;decide),ny,ge,f2c,?_⟩
  obtain ⟨kc,kd,kdt,ksl⟩:=oy
  dsimp only at cy dy fy
  subst cy dy fy
  have gy2:=Heap.get?_update_self (Obj.mapFields (·.setIfInBounds 2 (Value.ref ea))) gy rfl
  have I11:=(I10.ofExc I.ok).write (x:=y) (e:=y) (o:=excE y C dx) (t':=s10.toks) (h':=s10.heap.update y (Obj.mapFields (·.setIfInBounds 2 (Value.ref ea)))) (by rw [hy];exact True.intro) (.inl rfl) (fun b u nb e=>(Heap.get?_update_other _ _ (Ne.symm nb)).trans e) ⟨_,gy2⟩
   ⟨⟨_,t0,_,gy2,rfl,rfl,rfl⟩,⟨_,gy2⟩,fun _ _ ⟨o,t0,c2,e,r⟩ k=>⟨o,t0,c2,k o e,r⟩⟩
  refine hT _ σ' _ _ y C dx I11 zaf n0 ?_
  have ed:ziR (upd H10 y (excE y C dx)) y=ziR H10 y:=by
   funext b
   unfold ziR
   split
   ·rfl
   ·rename_i nb
    exact zax nb
  rw [ed]
  exact hE
end L2
set_option maxHeartbeats 4000000
local macro_rules
 | `(tactic| simp_all only [$xs,*])=>do
  let ds ← ("zrW zs1 zr1 zrG zr7 zsf zrI ztk zsg zrH rI_c rI0_c zt8 zt0 ex_bl zuM zuR ztH ztL zqV zpp zqG zpq zpo zqD zqK zqy zpV zp6 zc4 ziE zfJ rIn zq1 gLst zc9 tSl zbE zcO zjv zb9 tBM zs2 zfC zhL zaW za0 zbr zhj zbn zgK tCB zab zas tC tOp zaA tOr zbX zbK zer zdB zf1 za9 rEq rNe zqn zqI zp0 zqe zp5 zpL zoZ zoT znM zn8 zl7 zp9 zgQ zpP zga zpS tUn tPar rU zuB zmF zlD zpn zg1 ztb zlW zn0 zcW zo4 zl8 ztF zgH tIf ztd rInS zot zi4 ztv znh rAll zgB tB zqb ziG zqt rNeE zcV zmP ztt ztg zml zmR zmf".splitOn " ").toArray.mapM fun s=>`(Lean.Parser.Tactic.simpLemma| ↓ $(Lean.mkIdent s.toName):ident)
  let ps ← ("ztu Option.bind_some Option.bind_none Option.join_some Option.map_some List.getElem?_cons_zero List.getElem?_cons_succ V.str.injEq V.ty.injEq zac rI rI0 zcR zpf L2.zbY zpX zsG zqX zsO List.map_cons List.map_nil List.length_cons List.length_nil List.replicate List.cons_append List.nil_append List.append_nil Option.some.injEq exists_eq_left' exists_eq_left exists_and_left List.cons.injEq V.int.injEq V.ref.injEq V.bl.injEq and_true true_and List.set_cons_zero List.set_cons_succ Nat.reduceAdd Nat.reduceSub Int.reduceToNat Int.reducePow Int.reduceNeg Int.reduceMul Int.reduceAdd Int.reduceSub decide_eq_true_eq Bool.not_eq_true' decide_eq_false_iff_not exists_const and_assoc exists_eq exists_eq' if_true if_false Bool.false_eq_true Bool.true_eq_false reduceCtorEq not_true_eq_false not_false_eq_true zmz".splitOn " ").toArray.mapM fun s=>`(Lean.Parser.Tactic.simpLemma| $(Lean.mkIdent s.toName):ident)
  `(tactic| simp only [$xs,*,$ds,*,$ps,*])
namespace My
local macro_rules | `(tactic| omega)=>`(tactic| lia)
open PySem L2
def top (i:Nat):Stmt:=PySem.Challenge.pw_hideworth_k81_webs_read.main.body.getD i (.Pass ⟨0,0,0,0⟩)
abbrev zf8:Stmt:=top 21
abbrev zfy:Stmt:=top 22
abbrev zg4:Stmt:=top 27
abbrev zc8:Stmt:=top 28
abbrev zgd:Stmt:=top 29
abbrev zdM:Stmt:=top 33
abbrev zdv:Stmt:=top 34
abbrev zhu:Stmt:=top 35
abbrev zgY:Stmt:=top 36
abbrev zfu:Stmt:=top 37
abbrev zeL:Stmt:=top 38
abbrev zem:Stmt:=top 40
abbrev zeD:Stmt:=top 41
abbrev zen:Stmt:=top 42
abbrev zdR:Stmt:=top 43
abbrev zgj:Stmt:=top 44
abbrev zf5:Stmt:=top 45
abbrev zck:Stmt:=top 46
abbrev zcl:Stmt:=top 47
abbrev zfj:Stmt:=top 48
abbrev zfB:Stmt:=top 49
abbrev zfc:Stmt:=top 50
abbrev zfz:Stmt:=top 51
abbrev zn2:Stmt:=top 52
abbrev zdd:Stmt:=(zo9 (top 16)).getD 0 (.Pass ⟨0,0,0,0⟩)
abbrev zcN:Stmt:=(zo9 (top 18)).getD 0 (.Pass ⟨0,0,0,0⟩)
def ztz:Expr:=match (zcr zeL).getD 0 (.Pass ⟨0,0,0,0⟩) with
 | .Assign _ (.Call _ [_,e] _ _) _=>e
 | _=>.Constant .none 0 ⟨0,0,0,0⟩
def zq9:Pos:=match ztz with
 | .Lambda _ _ _ p=>p
 | _=>⟨0,0,0,0⟩
set_option genInjectivity false in
set_option genSizeOf false in
structure Ad where
 f_is_whole:Addr
 d_is_whole:FuncData
 f_is_within:Addr
 d_is_within:FuncData
 f_is_road:Addr
 d_is_road:FuncData
 f_places_come_to:Addr
 d_places_come_to:FuncData
 f_look_web:Addr
 d_look_web:FuncData
 f_number_in:Addr
 d_number_in:FuncData
 f_numbers_in:Addr
 d_numbers_in:FuncData
 f_many_in:Addr
 d_many_in:FuncData
 f_road_in:Addr
 d_road_in:FuncData
 f_read_rows:Addr
 d_read_rows:FuncData
 f_read_web:Addr
 d_read_web:FuncData
 f__law_mixed:Addr
 d__law_mixed:FuncData
 f__law_whole:Addr
 d__law_whole:FuncData
 f__law_class:Addr
 d__law_class:FuncData
 f__law_length:Addr
 d__law_length:FuncData
 f__law_web:Addr
 d__law_web:FuncData
 f__law_due:Addr
 d__law_due:FuncData
 f__law_word_number:Addr
 d__law_word_number:FuncData
 f__law_first_wrong:Addr
 d__law_first_wrong:FuncData
 f__law_text:Addr
 d__law_text:FuncData
 f__law_bent:Addr
 d__law_bent:FuncData
 f__law_same:Addr
 d__law_same:FuncData
 f__law_told:Addr
 d__law_told:FuncData
 f_law:Addr
 d_law:FuncData
 c_HideError:Addr
 c_NoNumber:Addr
 c_NoTable:Addr
 c_NoBoxes:Addr
 c_NoBudget:Addr
 c_NoOrder:Addr
 c_NoWeights:Addr
 c_TooGreat:Addr
 c_NoKind:Addr
 c_NoTree:Addr
 c_NoTurns:Addr
 c_NoPlay:Addr
 c_NoRow:Addr
 c_NoName:Addr
 c_NoRoad:Addr
 c_NoWeb:Addr
 c_NoPlan:Addr
 c_NoText:Addr
 c_NoPaper:Addr
 i_NoWeb:Addr
 j_NoWeb:FuncData
 i_NoText:Addr
 j_NoText:FuncData
 k_MOST_PLACES:Tok
 k_MOST_ROADS:Tok
 k_MOST_LENGTH:Tok
 k_MOST_FIGURES:Tok
 k_FIGURES:Tok
 p_lam:Addr
 cd_lam:Addr
structure Isa (K:PySem.W.Frag) (a:Ad):Prop where
 k_NoNumber:PySem.W.kitOne K (.ref a.c_NoText) (.ref a.c_NoNumber)=some false
 k_NoTable:PySem.W.kitOne K (.ref a.c_NoText) (.ref a.c_NoTable)=some false
 k_NoBoxes:PySem.W.kitOne K (.ref a.c_NoText) (.ref a.c_NoBoxes)=some false
 k_NoBudget:PySem.W.kitOne K (.ref a.c_NoText) (.ref a.c_NoBudget)=some false
 k_NoOrder:PySem.W.kitOne K (.ref a.c_NoText) (.ref a.c_NoOrder)=some false
 k_NoWeights:PySem.W.kitOne K (.ref a.c_NoText) (.ref a.c_NoWeights)=some false
 k_TooGreat:PySem.W.kitOne K (.ref a.c_NoText) (.ref a.c_TooGreat)=some false
 k_NoKind:PySem.W.kitOne K (.ref a.c_NoText) (.ref a.c_NoKind)=some false
 k_NoTree:PySem.W.kitOne K (.ref a.c_NoText) (.ref a.c_NoTree)=some false
 k_NoTurns:PySem.W.kitOne K (.ref a.c_NoText) (.ref a.c_NoTurns)=some false
 k_NoPlay:PySem.W.kitOne K (.ref a.c_NoText) (.ref a.c_NoPlay)=some false
 k_NoRow:PySem.W.kitOne K (.ref a.c_NoText) (.ref a.c_NoRow)=some false
 k_NoName:PySem.W.kitOne K (.ref a.c_NoText) (.ref a.c_NoName)=some false
 k_NoRoad:PySem.W.kitOne K (.ref a.c_NoText) (.ref a.c_NoRoad)=some false
 k_NoWeb:PySem.W.kitOne K (.ref a.c_NoText) (.ref a.c_NoWeb)=some false
 k_NoPlan:PySem.W.kitOne K (.ref a.c_NoText) (.ref a.c_NoPlan)=some false
 k_NoText:PySem.W.kitOne K (.ref a.c_NoText) (.ref a.c_NoText)=some true
 k_NoPaper:PySem.W.kitOne K (.ref a.c_NoText) (.ref a.c_NoPaper)=some false
 k_ValueError:PySem.W.kitOne K (.ref a.c_NoText) (.type "ValueError")=some true
 sub:PySem.W.subIn K (.ref a.c_NoText) (.ref a.c_HideError)=some true
 ec:zhX K (.ref a.c_NoText)
structure Txt (K:PySem.W.Frag) (mg:Str→Option Value) (base:Heap) (a:Ad):Prop where
 F_is_whole:Fun K "is_whole" "is_whole" zf8 a.f_is_whole a.d_is_whole
 b_is_whole:zci K a.d_is_whole ["thing"] []
 m_is_whole:mg "is_whole"=some (.ref a.f_is_whole)
 F_is_within:Fun K "is_within" "is_within" zfy a.f_is_within a.d_is_within
 b_is_within:zci K a.d_is_within ["thing","least","most"] []
 m_is_within:mg "is_within"=some (.ref a.f_is_within)
 F_is_road:Fun K "is_road" "is_road" zg4 a.f_is_road a.d_is_road
 b_is_road:zci K a.d_is_road ["thing","many"] []
 m_is_road:mg "is_road"=some (.ref a.f_is_road)
 F_places_come_to:Fun K "places_come_to" "places_come_to" zc8 a.f_places_come_to a.d_places_come_to
 b_places_come_to:zci K a.d_places_come_to ["roads"] []
 m_places_come_to:mg "places_come_to"=some (.ref a.f_places_come_to)
 F_look_web:Fun K "look_web" "look_web" zgd a.f_look_web a.d_look_web
 b_look_web:zci K a.d_look_web ["web"] []
 m_look_web:mg "look_web"=some (.ref a.f_look_web)
 F_number_in:Fun K "number_in" "number_in" zdM a.f_number_in a.d_number_in
 b_number_in:zci K a.d_number_in ["word"] []
 m_number_in:mg "number_in"=some (.ref a.f_number_in)
 F_numbers_in:Fun K "numbers_in" "numbers_in" zdv a.f_numbers_in a.d_numbers_in
 b_numbers_in:zci K a.d_numbers_in ["words"] []
 m_numbers_in:mg "numbers_in"=some (.ref a.f_numbers_in)
 F_many_in:Fun K "many_in" "many_in" zhu a.f_many_in a.d_many_in
 b_many_in:zci K a.d_many_in ["row"] []
 m_many_in:mg "many_in"=some (.ref a.f_many_in)
 F_road_in:Fun K "road_in" "road_in" zgY a.f_road_in a.d_road_in
 b_road_in:zci K a.d_road_in ["row","many"] []
 m_road_in:mg "road_in"=some (.ref a.f_road_in)
 F_read_rows:Fun K "read_rows" "read_rows" zfu a.f_read_rows a.d_read_rows
 b_read_rows:zci K a.d_read_rows ["text","read_row"] []
 m_read_rows:mg "read_rows"=some (.ref a.f_read_rows)
 F_read_web:zph K "read_web" "read_web" zeL a.f_read_web a.d_read_web a.cd_lam
 b_read_web:zci K a.d_read_web ["text"] []
 m_read_web:mg "read_web"=some (.ref a.f_read_web)
 F__law_mixed:Fun K "_law_mixed" "_law_mixed" zem a.f__law_mixed a.d__law_mixed
 b__law_mixed:zci K a.d__law_mixed ["_law_script","_law_k"] []
 m__law_mixed:mg "_law_mixed"=some (.ref a.f__law_mixed)
 F__law_whole:Fun K "_law_whole" "_law_whole" zeD a.f__law_whole a.d__law_whole
 b__law_whole:zci K a.d__law_whole ["_law_told_here"] []
 m__law_whole:mg "_law_whole"=some (.ref a.f__law_whole)
 F__law_class:Fun K "_law_class" "_law_class" zen a.f__law_class a.d__law_class
 b__law_class:zci K a.d__law_class ["_law_caught"] []
 m__law_class:mg "_law_class"=some (.ref a.f__law_class)
 F__law_length:Fun K "_law_length" "_law_length" zdR a.f__law_length a.d__law_length
 b__law_length:zci K a.d__law_length ["_law_number"] []
 m__law_length:mg "_law_length"=some (.ref a.f__law_length)
 F__law_web:Fun K "_law_web" "_law_web" zgj a.f__law_web a.d__law_web
 b__law_web:zci K a.d__law_web ["_law_script","_law_start","_law_most","_law_extra"] []
 m__law_web:mg "_law_web"=some (.ref a.f__law_web)
 F__law_due:Fun K "_law_due" "_law_due" zf5 a.f__law_due a.d__law_due
 b__law_due:zci K a.d__law_due ["_law_web_here"] []
 m__law_due:mg "_law_due"=some (.ref a.f__law_due)
 F__law_word_number:Fun K "_law_word_number" "_law_word_number" zck a.f__law_word_number a.d__law_word_number
 b__law_word_number:zci K a.d__law_word_number ["_law_word"] []
 m__law_word_number:mg "_law_word_number"=some (.ref a.f__law_word_number)
 F__law_first_wrong:Fun K "_law_first_wrong" "_law_first_wrong" zcl a.f__law_first_wrong a.d__law_first_wrong
 b__law_first_wrong:zci K a.d__law_first_wrong ["_law_text_here"] []
 m__law_first_wrong:mg "_law_first_wrong"=some (.ref a.f__law_first_wrong)
 F__law_text:Fun K "_law_text" "_law_text" zfj a.f__law_text a.d__law_text
 b__law_text:zci K a.d__law_text ["_law_web_here"] []
 m__law_text:mg "_law_text"=some (.ref a.f__law_text)
 F__law_bent:Fun K "_law_bent" "_law_bent" zfB a.f__law_bent a.d__law_bent
 b__law_bent:zci K a.d__law_bent ["_law_text_here","_law_draws"] []
 m__law_bent:mg "_law_bent"=some (.ref a.f__law_bent)
 F__law_same:Fun K "_law_same" "_law_same" zfc a.f__law_same a.d__law_same
 b__law_same:zci K a.d__law_same ["_law_told_here","_law_due_here"] []
 m__law_same:mg "_law_same"=some (.ref a.f__law_same)
 F__law_told:Fun K "_law_told" "_law_told" zfz a.f__law_told a.d__law_told
 b__law_told:zci K a.d__law_told ["_law_text_here"] []
 m__law_told:mg "_law_told"=some (.ref a.f__law_told)
 F_law:Fun K "law" "law" zn2 a.f_law a.d_law
 b_law:zci K a.d_law ["_law_script"] []
 m_law:mg "law"=some (.ref a.f_law)
 hC:PySem.W.CodeHd base a.cd_lam a.p_lam
 hB:base.BuiltinsAt mg a.p_lam
 z_isinstance:mg "isinstance"=none
 z_int:mg "int"=none
 z_bool:mg "bool"=none
 z_list:mg "list"=none
 z_len:mg "len"=none
 z_all:mg "all"=none
 z_range:mg "range"=none
 z_tuple:mg "tuple"=none
 z_str:mg "str"=none
 z_enumerate:mg "enumerate"=none
 z_zip:mg "zip"=none
 z_min:mg "min"=none
 z_max:mg "max"=none
 z_ValueError:mg "ValueError"=none
 m_HideError:mg "HideError"=some (.ref a.c_HideError)
 m_NoNumber:mg "NoNumber"=some (.ref a.c_NoNumber)
 m_NoTable:mg "NoTable"=some (.ref a.c_NoTable)
 m_NoBoxes:mg "NoBoxes"=some (.ref a.c_NoBoxes)
 m_NoBudget:mg "NoBudget"=some (.ref a.c_NoBudget)
 m_NoOrder:mg "NoOrder"=some (.ref a.c_NoOrder)
 m_NoWeights:mg "NoWeights"=some (.ref a.c_NoWeights)
 m_TooGreat:mg "TooGreat"=some (.ref a.c_TooGreat)
 m_NoKind:mg "NoKind"=some (.ref a.c_NoKind)
 m_NoTree:mg "NoTree"=some (.ref a.c_NoTree)
 m_NoTurns:mg "NoTurns"=some (.ref a.c_NoTurns)
 m_NoPlay:mg "NoPlay"=some (.ref a.c_NoPlay)
 m_NoRow:mg "NoRow"=some (.ref a.c_NoRow)
 m_NoName:mg "NoName"=some (.ref a.c_NoName)
 m_NoRoad:mg "NoRoad"=some (.ref a.c_NoRoad)
 m_NoWeb:mg "NoWeb"=some (.ref a.c_NoWeb)
 m_NoPlan:mg "NoPlan"=some (.ref a.c_NoPlan)
 m_NoText:mg "NoText"=some (.ref a.c_NoText)
 m_NoPaper:mg "NoPaper"=some (.ref a.c_NoPaper)
 m_MOST_PLACES:mg "MOST_PLACES"=some (.int 60 a.k_MOST_PLACES)
 m_MOST_ROADS:mg "MOST_ROADS"=some (.int 120 a.k_MOST_ROADS)
 m_MOST_LENGTH:mg "MOST_LENGTH"=some (.int 1000000 a.k_MOST_LENGTH)
 m_MOST_FIGURES:mg "MOST_FIGURES"=some (.int 2000 a.k_MOST_FIGURES)
 m_FIGURES:mg "FIGURES"=some (.str "0123456789" a.k_FIGURES)
 x_HideError:PySem.W.excIn K a.c_HideError zf3 "ValueError.__new__"=true
 B:ExB K a.c_HideError
 I_NoWeb:Fun K "__init__" "NoWeb.__init__" zdd a.i_NoWeb a.j_NoWeb
 bi_NoWeb:zci K a.j_NoWeb ["self","road"] []
 X_NoWeb:ExI K a.c_NoWeb a.i_NoWeb
 xa_NoWeb:ziu K a.c_NoWeb "road"
 I_NoText:Fun K "__init__" "NoText.__init__" zcN a.i_NoText a.j_NoText
 bi_NoText:zci K a.j_NoText ["self","row"] []
 X_NoText:ExI K a.c_NoText a.i_NoText
 xa_NoText:ziu K a.c_NoText "row"
 su_NoWeb:PySem.W.subIn K (.ref a.c_NoWeb) (.ref a.c_NoWeb)=some true
 I:Isa K a
theorem zsp:zlG 10 18:=⟨by decide,by decide,by decide⟩
theorem logA:(0:Int)<1000000000000000000∧(Int.natAbs 1000000000000000000).log2<9000:=by decide +kernel
theorem logB:(0:Int)<2147483587∧(Int.natAbs 2147483587).log2<9000:=by decide +kernel
theorem log8:(0:Int)<8∧(Int.natAbs 8).log2<9000:=by decide +kernel
def zfn:Sp:=fun vs H Q _=>∃ a:Int,vs=[.int a]∧Q (.bl true) H
def zcq (K:PySem.W.Frag):Sp:=fun vs H Q _=>∃ (a:Addr) (ns:List Int) (k:Int),vs=[.ref a,.int k]∧SqL K H a (ns.map V.int)∧ns.length≤63∧0≤k∧k<1000000∧∀ r:Int,0≤r→r<2147483587→Q (.int r) H
theorem zgt {α β:Type} {f:α→β} {l:List α} {i:Nat} {y:β} (h:(l.map f)[i]?=some y):∃ x,l[i]?=some x∧y=f x:=by
 rw [List.getElem?_map] at h
 obtain ⟨x,h1,h2⟩:=Option.map_eq_some_iff.mp h
 exact ⟨x,h1,h2.symm⟩
def Tps {α:Type} (f:α→List V) (H:Hp) (ts:List Addr) (bs:List α):Prop:=ts.length=bs.length∧∀ (i:Nat) t b,ts[i]?=some t→bs[i]?=some b→H t=some (.tup (f b))
theorem Tps.same {α:Type} {f:α→List V} {H H':Hp} {ts:List Addr} {bs:List α} (h:Tps f H ts bs) (s:za3 H H'):Tps f H' ts bs:=⟨h.1,fun i t b e1 e2=>s _ _ (h.2 i t b e1 e2)⟩
theorem Tps.nil {α:Type} {f:α→List V} {H:Hp}:Tps f H [] ([]:List α):=⟨rfl,fun i t b e=>by simp at e⟩
theorem Tps.put {α:Type} {f:α→List V} {H H':Hp} {ts:List Addr} {bs:List α} {t:Addr} {b:α} (h:Tps f H ts bs) (s:∀ (x:Addr) (u:List V),H x=some (.tup u)→H' x=some (.tup u)) (e:H' t=some (.tup (f b))):Tps f H' (ts++[t]) (bs++[b]):=by
 refine ⟨by rw [List.length_append,List.length_append,h.1];rfl,fun i x y e1 e2=>?_⟩
 by_cases c:i<ts.length
 ·rw [List.getElem?_append_left c] at e1
  rw [List.getElem?_append_left (by rw [← h.1];exact c)] at e2
  exact s _ _ (h.2 i x y e1 e2)
 ·have c1:ts.length≤i:=by omega
  rw [List.getElem?_append_right c1] at e1
  rw [List.getElem?_append_right (by rw [← h.1];exact c1),← h.1] at e2
  have z:i - ts.length=0:=by
   have:=(List.getElem?_eq_some_iff.mp e1).1
   simp only [List.length_cons,List.length_nil] at this
   omega
  rw [z] at e1 e2
  simp only [List.getElem?_cons_zero,Option.some.injEq] at e1 e2
  rw [← e1,← e2]
  exact e
theorem Tps.at {α:Type} {f:α→List V} {H:Hp} {ts:List Addr} {bs:List α} (h:Tps f H ts bs) {i:Nat} {t:Addr} (e:ts[i]?=some t):∃ b,bs[i]?=some b∧H t=some (.tup (f b)):=by
 have hi:=(List.getElem?_eq_some_iff.mp e).1
 rw [h.1] at hi
 exact ⟨bs[i],List.getElem?_eq_getElem hi,h.2 i t _ e (List.getElem?_eq_getElem hi)⟩
theorem zc1 {α:Type} {l:List α} {i:Nat} {x:α} (e:l[i]?=some x):x∈l:=List.mem_of_getElem? e
def Off (p c:Addr) (H:Hp):Hp:=fun b=>if b=p∨b=c then none else H b
theorem zuF (p c:Addr) (H:Hp):za3 (Off p c H) H:=fun b o h=>by
 unfold Off at h
 split at h
 ·cases h
 ·exact h
theorem zn3 {p c b:Addr} {H:Hp} (h1:b≠p) (h2:b≠c):Off p c H b=H b:=if_neg (fun z=>z.elim h1 h2)
theorem zux {p c b:Addr} {H:Hp} {o:HO} (h:Off p c H b=some o):b≠p∧b≠c:=by
 unfold Off at h
 split at h
 ·cases h
 ·rename_i z
  exact ⟨fun e=>z (.inl e),fun e=>z (.inr e)⟩
theorem zuT {p c:Addr} {H:Hp} {o:HO}:Off p c (upd H p o)=Off p c H:=by
 funext b
 unfold Off upd
 split
 ·rfl
 ·rename_i z
  rw [if_neg fun e=>z (.inl e)]
theorem ziY {H H':Hp} (p c:Addr) (s:za3 H H'):za3 (Off p c H) (Off p c H'):=fun b o h=>by
 have n:=zux h
 rw [zn3 n.1 n.2] at h ⊢
 exact s _ _ h
theorem ztr {c:TT} {tb:TS} {D:zb1} {σ:St} {H:Hp} (W:Nat→St→Hp→Prop) {m:Nat} (h0:W m σ H)
  (hs:∀ m σ H,W m σ H→c σ H fun b H1=>if b=true then ∃ N:St→Hp→Prop,(∀ σ' H',N σ' H'→∃ m',m'<m∧W m' σ' H')∧tb { D with nx:=N,ct:=N,bk:=D.nx } σ H1 else D.nx σ H1):znY c tb D σ H:=⟨W,⟨m,h0⟩,hs⟩
abbrev zcz:=Int×Int×Int
abbrev rdv (r:zcz):List V:=[.int r.1,.int r.2.1,.int r.2.2]
def GR (m:Int) (r:zcz):Prop:=0≤r.1∧r.1<m∧0≤r.2.1∧r.2.1<m∧r.1≠r.2.1∧1≤r.2.2∧r.2.2≤1000000
instance (m:Int) (r:zcz):Decidable (GR m r):=by unfold GR;infer_instance
def zow (m:Int) (rs:List zcz):Prop:=∀ S:Int→Prop,S 0→(∀ r∈rs,S r.1∨S r.2.1→S r.1∧S r.2.1)→∀ x,0≤x→x<m→S x
structure GW (m:Int) (rs:List zcz):Prop where
 m1:1≤m
 m60:m≤60
 l120:rs.length≤120
 gr:∀ r∈rs,GR m r
 conn:zow m rs
structure zgI (H:Hp) (w rl:Addr) (ts:List Addr) (m:Int) (rs:List zcz):Prop where
 hw:H w=some (.tup [.int m,.ref rl])
 hl:H rl=some (.lst (ts.map V.ref))
 ht:Tps rdv H ts rs
theorem zgI.same {H H':Hp} {w rl:Addr} {ts:List Addr} {m:Int} {rs:List zcz} (h:zgI H w rl ts m rs) (s:za3 H H'):zgI H' w rl ts m rs:=⟨s _ _ h.hw,s _ _ h.hl,h.ht.same s⟩
def shs (f:Int→Int→Option Int) (r:zcz):Int→Int→Option Int:=fun x y =>
 if x=r.2.1∧y=r.1 then some (min ((f r.1 r.2.1).getD r.2.2) r.2.2) else if x=r.1∧y=r.2.1 then some (min ((f r.1 r.2.1).getD r.2.2) r.2.2) else f x y
def sh (rs:List zcz):Int→Int→Option Int:=rs.foldl shs fun _ _=>none
def zdS:Sp:=fun vs H Q _=>∃ x l m:Int,vs=[.int x,.int l,.int m]∧Q (.bl (decide (l≤x∧x≤m))) H
def zfN:Sp:=fun vs H Q _=>∃ (t:Addr) (r:zcz) (m:Int),vs=[.ref t,.int m]∧H t=some (.tup (rdv r))∧Q (.bl (decide (GR m r))) H
def zoI:Sp:=fun vs H Q _=>∃ (rl:Addr) (ts:List Addr) (rs:List zcz) (m:Int),vs=[.ref rl]∧H rl=some (.lst (ts.map V.ref))∧Tps rdv H ts rs∧1≤m∧m≤60∧(∀ r∈rs,GR m r)∧∀ (d:Addr) (kvs:List (Key×V)) (H':Hp),za3 H H'→H' d=some (.dK kvs)→(m≤(kvs.length:Int)↔zow m rs)→Q (.ref d) H'
theorem zdP {K:PySem.W.Frag} {H:Hp} {Q:VK} {r:Addr} {xs:List V} (h:H r=some (.lst xs)) (q:Q (.bl true) H):zdF K [.ref r,.ty "list"] H Q:=⟨_,_,_,_,true,rfl,rfl,.of (.lst h),rfl,q⟩
def ziV (m:Int):List zcz→Option Nat
 | []=>none
 | r::rs=>if GR m r then (ziV m rs).map (·+1) else some 0
theorem ziU {m:Int}:∀ {rs:List zcz} {i:Nat} {r:zcz},rs[i]?=some r→¬ GR m r→(∀ (j:Nat) q,j<i→rs[j]?=some q→GR m q)→ziV m rs=some i
 | x::rs,0,r,e,h,_=>by
  cases e
  unfold ziV
  rw [if_neg h]
 | x::rs,i+1,r,e,h,hb=>by
  unfold ziV
  rw [if_pos (hb 0 x (Nat.succ_pos _) rfl),ziU (rs:=rs) e h fun j q hj hq=>hb (j+1) q (Nat.succ_lt_succ hj) hq]
  rfl
theorem zf6 {m:Int}:∀ {rs:List zcz},(∀ r∈rs,GR m r)→ziV m rs=none
 | [],_=>rfl
 | x::rs,h=>by
  unfold ziV
  rw [if_pos (h x (by simp)),zf6 fun r hr=>h r (by simp [hr])]
  rfl
def zqP (m:Int) (rs:List zcz):Prop:=ziV m rs=none∧1≤m∧m≤60∧rs.length≤120∧zow m rs
def zmH (m:Int) (rs:List zcz) (d:Int):Prop:=(∃ k:Nat,ziV m rs=some k∧d=k)∨(ziV m rs=none∧¬ (1≤m∧m≤60∧rs.length≤120∧zow m rs)∧d=-1)
theorem zmH.not {m:Int} {rs:List zcz} {d:Int} (h:zmH m rs d) (g:zqP m rs):False:=by
 rcases h with ⟨k,h1,h2⟩ | ⟨h1,h2,_⟩
 ·rw [g.1] at h1
  cases h1
 ·exact h2 g.2
def zh2 (a:Ad):Sp:=fun vs H Q E=>∃ (w rl:Addr) (ts:List Addr) (m:Int) (rs:List zcz),vs=[.ref w]∧zgI H w rl ts m rs∧rs.length≤99999∧(zqP m rs→∀ H',za3 H H'→Q .non H')∧(∀ d,zmH m rs d→∀ (dx:Addr) (H':Hp),za3 H H'→H' dx=none→E (.ref a.c_NoWeb) (some dx) (L2.upd H' dx (.xd [("road",.int d)])))
def zrA:Sp:=fun vs H Q _=>∃ (w rl:Addr) (ts:List Addr) (m:Int) (rs:List zcz),vs=[.ref w]∧zgI H w rl ts m rs∧rs.length≤99999∧(zqP m rs→∀ H',za3 H H'→Q .non H')∧(∀ d,zmH m rs d→∀ H',za3 H H'→Q (.int d) H')
def dg (c:Nat):Bool:=decide (48≤c)&&decide (c≤57)
theorem znO:(Str.ofString "0123456789").cps.toList=[48,49,50,51,52,53,54,55,56,57]:=by decide +kernel
theorem zrp (c:Nat):(!(Builtin.Str.occurrences (Str.ofString "0123456789") ⟨#[c]⟩ 0 (Str.ofString "0123456789").length 1).isEmpty)=dg c:=by
 rw [StrLaws.found_one,znO]
 unfold dg
 by_cases h:48≤c∧c≤57
 ·rw [decide_eq_true h.1,decide_eq_true h.2,decide_eq_true]
  ·rfl
  ·have:c=48∨c=49∨c=50∨c=51∨c=52∨c=53∨c=54∨c=55∨c=56∨c=57:=by omega
   rcases this with rfl | rfl | rfl | rfl | rfl | rfl | rfl | rfl | rfl | rfl <;> decide
 ·rw [decide_eq_false (p:=c∈_)]
  ·cases z:(decide (48≤c)&&decide (c≤57)) with
   | false=>rfl
   | true =>
    rw [Bool.and_eq_true,decide_eq_true_eq,decide_eq_true_eq] at z
    exact absurd z h
  ·intro m
   simp only [List.mem_cons,List.not_mem_nil,or_false] at m
   omega
theorem zgk:(Str.ofString "0").cps.toList=[48]:=by decide +kernel
theorem ztp (w:Str):Txt.startswith w (Str.ofString "0")=decide (w.cps.toList.head?=some 48):=by
 unfold Txt.startswith
 rw [StrLaws.subAt_eq,zgk]
 have l1:(Str.ofString "0").length=1:=by decide +kernel
 have lw:w.length=w.cps.toList.length:=by simp [Str.length]
 rw [l1,lw,List.drop_zero]
 cases h:w.cps.toList with
 | nil=>rfl
 | cons c l =>
  show (decide (0+1≤(c::l).length)&&([c] == [48]))=decide (some c=some 48)
  rw [decide_eq_true (show 0+1≤(c::l).length by rw [List.length_cons];omega),Bool.true_and]
  by_cases z:c=48
  ·rw [z];rfl
  ·rw [decide_eq_false (fun y=>z (Option.some.inj y))]
   simp [z]
def okW (w:Str):Bool:=decide (1≤w.length)&&w.cps.toList.all dg&&!(decide (w.cps.toList.head?=some 48)&&!decide (w=Str.ofString "0"))
def zfD (w:Str):Option Int:=if okW w=true then PySem.intText? w else none
def zkQ:Option Int→V
 | none=>.non
 | some n=>.int n
theorem zil {w:Str} (h:w.cps.toList.all dg=true) (l1:1≤w.length) (l2:w.length≤4300):∃ n:Int,PySem.intText? w=some n∧0≤n:=by
 have lw:w.length=w.cps.toList.length:=by simp [Str.length]
 refine ⟨_,PySem.intText_digits (fun c hc=>?_) (fun z=>?_) l2,Int.natCast_nonneg _⟩
 ·have:=List.all_eq_true.mp h c hc
  unfold dg at this
  rw [Bool.and_eq_true,decide_eq_true_eq,decide_eq_true_eq] at this
  exact this
 ·rw [lw,z] at l1
  exact absurd l1 (by decide)
def lr:Nat→List Nat→Nat
 | k,[]=>k
 | k,c::l=>if c=32∨c=10 then max k (lr 0 l) else lr (k+1) l
theorem zcF (k c:Nat) (l:List Nat):lr k (c::l)=if c=32∨c=10 then max k (lr 0 l) else lr (k+1) l:=rfl
theorem zih:∀ (l:List Nat) (k:Nat),k≤lr k l∧lr 0 l≤lr k l∧lr k l≤k+lr 0 l
 | [],k=>⟨Nat.le_refl _,Nat.zero_le _,Nat.le_refl _⟩
 | c::l,k=>by
  rw [zcF,zcF]
  by_cases h:c=32∨c=10
  ·rw [if_pos h,if_pos h]
   omega
  ·rw [if_neg h,if_neg h]
   have h1:=zih l (k+1)
   have h2:=zih l (0+1)
   have h3:∀ j,lr j l=max j (lr 0 l)∨True:=fun j=>.inr trivial
   refine ⟨by omega,?_,?_⟩
   ·exact lr_mono l (by omega)
   ·exact lr_shift l k 1
where
 lr_mono:∀ (l:List Nat) {j k:Nat},j≤k→lr j l≤lr k l
  | [],j,k,h=>h
  | c::l,j,k,h=>by
   rw [zcF,zcF]
   by_cases z:c=32∨c=10
   ·rw [if_pos z,if_pos z];omega
   ·rw [if_neg z,if_neg z]
    exact lr_mono l (by omega)
 lr_shift:∀ (l:List Nat) (j k:Nat),lr (j+k) l≤j+lr k l
  | [],j,k=>Nat.le_refl _
  | c::l,j,k=>by
   rw [zcF,zcF]
   by_cases z:c=32∨c=10
   ·rw [if_pos z,if_pos z];omega
   ·rw [if_neg z,if_neg z]
    exact lr_shift l j (k+1)
theorem zgv:∀ (a b:List Nat) (k:Nat),lr k (a++b)≤lr k a+lr 0 b∧lr k a≤lr k (a++b)∧lr 0 b≤lr k (a++b)
 | [],b,k=>by
  have:=zih b k
  exact ⟨this.2.2,this.1,this.2.1⟩
 | c::a,b,k=>by
  rw [List.cons_append,zcF,zcF]
  by_cases h:c=32∨c=10
  ·rw [if_pos h,if_pos h]
   have:=zgv a b 0
   omega
  ·rw [if_neg h,if_neg h]
   exact zgv a b (k+1)
theorem znP (s:Nat) (hs:s=32∨s=10):∀ (a b:List Nat) (k:Nat),lr k (a++s::b)=max (lr k a) (lr 0 b)
 | [],b,k=>by rw [List.nil_append,zcF,if_pos hs];rfl
 | c::a,b,k=>by
  rw [List.cons_append,zcF,zcF]
  by_cases h:c=32∨c=10
  ·rw [if_pos h,if_pos h,znP s hs a b 0];omega
  ·rw [if_neg h,if_neg h]
   exact znP s hs a b (k+1)
theorem zoP:∀ (l:List Nat) (k:Nat),32∉l→10∉l→lr k l=k+l.length
 | [],k,_,_=>rfl
 | c::l,k,h1,h2=>by
  rw [zcF,if_neg (fun z=>z.elim (fun e=>h1 (e ▸ List.mem_cons_self ..)) (fun e=>h2 (e ▸ List.mem_cons_self ..))),zoP l _ (fun m=>h1 (List.mem_cons_of_mem _ m)) (fun m=>h2 (List.mem_cons_of_mem _ m)),List.length_cons]
  omega
theorem znZ:∀ (l:List Nat) (k:Nat),lr k l≤k+l.length
 | [],k=>Nat.le_refl _
 | c::l,k=>by
  rw [zcF,List.length_cons]
  have h1:=znZ l 0
  have h2:=znZ l (k+1)
  by_cases h:c=32∨c=10
  ·rw [if_pos h];omega
  ·rw [if_neg h];omega
theorem zrO (l:List Nat) (n:Nat):lr 0 (l.take n)≤lr 0 l:=by
 have:=(zgv (l.take n) (l.drop n) 0).2.1
 rw [List.take_append_drop] at this
 exact this
theorem zsd (l:List Nat) (n:Nat):lr 0 (l.drop n)≤lr 0 l:=by
 have:=(zgv (l.take n) (l.drop n) 0).2.2
 rw [List.take_append_drop] at this
 exact this
def sgn (s:Str):List Nat:=s.cps.toList
theorem zdQ (s:Str):s.length=(sgn s).length:=by simp [sgn,Str.length]
theorem zf2 (s t:Str):sgn (s++t)=sgn s++sgn t:=by
 unfold sgn
 rw [Str.cps_append',Array.toList_append]
where
 Str.cps_append':(s++t).cps=s.cps++t.cps:=rfl
theorem zrg (l:List Nat):sgn ⟨l.toArray⟩=l:=rfl
theorem zoD {s t:Str} (h:sgn s=sgn t):s=t:=by
 cases s
 cases t
 exact congrArg _ (Array.toList_inj.mp h)
def Rn (n:Nat) (s:Str):Prop:=lr 0 (sgn s)≤n
theorem zg9 (y x z:Str) (l:List Str):sgn (Str.join y (x::z::l))=sgn x++(sgn y++sgn (Str.join y (z::l))):=by
 show sgn (x++y++Str.join y (z::l))=_
 rw [zf2,zf2,List.append_assoc]
theorem znD {c n:Nat} (hc:c=32∨c=10):∀ {l:List Str},(∀ x∈l,Rn n x)→Rn n (Str.join ⟨#[c]⟩ l)
 | [],_=>Nat.zero_le _
 | [x],h=>h x (List.mem_cons_self ..)
 | x::z::l,h=>by
  unfold Rn
  rw [zg9]
  show lr 0 (sgn x++c::sgn (Str.join ⟨#[c]⟩ (z::l)))≤n
  rw [znP c hc]
  have h1:=h x (List.mem_cons_self ..)
  have h2:=znD hc (l:=z::l) fun y hy=>h y (List.mem_cons_of_mem _ hy)
  unfold Rn at h1 h2
  omega
theorem zo1 {c n:Nat}:∀ {l:List Str},Rn n (Str.join ⟨#[c]⟩ l)→∀ x∈l,Rn n x
 | [x],h,y,hy=>by rw [List.mem_singleton.mp hy];exact h
 | x::z::l,h,y,hy=>by
  unfold Rn at h
  rw [zg9] at h
  have h:lr 0 (sgn x++c::sgn (Str.join ⟨#[c]⟩ (z::l)))≤n:=h
  rcases List.mem_cons.mp hy with rfl | hy
  ·exact Nat.le_trans (zgv _ _ 0).2.1 h
  ·refine zo1 (c:=c) (l:=z::l) ?_ y hy
   have h2:=(zgv (sgn x) (c::sgn (Str.join ⟨#[c]⟩ (z::l))) 0).2.2
   have h3:=(zgv [c] (sgn (Str.join ⟨#[c]⟩ (z::l))) 0).2.2
   exact Nat.le_trans h3 (Nat.le_trans h2 h)
theorem zgM {c n:Nat} {s:Str} (h:Rn n s):∀ x∈Txt.split s ⟨#[c]⟩,Rn n x:=zo1 (c:=c) (by rw [StrLaws.join_split];exact h)
theorem zgV (s y:Str):Txt.split s y≠[]:=by
 unfold Txt.split
 split
 ·exact List.cons_ne_nil _ _
 ·split
  ·exact List.cons_ne_nil _ _
  ·intro h
   rw [StrLaws.partsBetween_eq] at h
   obtain ⟨p,r,e⟩:=StrLaws.partsFrom_ne s y.length 0 (Builtin.Str.occurrences s y 0 s.length (s.length+1))
   rw [e] at h
   cases h
theorem zfE (s:Str) (c:Nat):(Txt.split s ⟨#[c]⟩).length≤s.length+1:=by
 have:=PyProof.Rows.split_weight s ⟨#[c]⟩ (Nat.le_refl 1)
 omega
theorem zia (s:Str) (c:Nat):∀ x∈Txt.split s ⟨#[c]⟩,x.length≤s.length:=fun x hx=>by
 have h:=PyProof.Rows.split_weight s ⟨#[c]⟩ (Nat.le_refl 1)
 have:x.length≤((Txt.split s ⟨#[c]⟩).map (·.length)).sum:=List.le_sum_of_mem' (List.mem_map.mpr ⟨x,hx,rfl⟩)
 have l1:1≤(Txt.split s ⟨#[c]⟩).length:=List.length_pos_of_mem hx
 omega
where
 List.le_sum_of_mem':∀ {l:List Nat} {n:Nat},n∈l→n≤l.sum
  | a::l,n,h=>by
   rw [List.sum_cons]
   rcases List.mem_cons.mp h with rfl | h
   ·omega
   ·have:=List.le_sum_of_mem' h
    omega
theorem zr4 {i:Int} (h0:0≤i) {k:Nat} (hk:0<k) (h:i<10 ^ k):(Str.ofString (toString i)).length≤k:=PyProof.Rows.toString_length_le h0 hk h
section
variable {P:Program} {w:World} {mg:Str→Option Value} {base:Heap}
variable {K:PySem.W.Frag} {H:Hp} {Q:VK} {a:Ad}
def zgg (K:PySem.W.Frag):TS :=
 (zbK (zcV (tCB (zdF K) (zab (zac 0) (zab (tC (.ty "int")) zas))) (zmP (tCB (zdF K) (zab (zac 0) (zab (tC (.ty "bool")) zas))))))
theorem zlA {x:Int} (q:Q (.bl true) H):zgg K { nx:=fun _ H'=>Q .non H',rt:=Q } (L2.zbY ["thing"] [.int x]) H:=by
 unfold zgg
 simp_all only [zac]
 refine zdO ⟨_,rfl,zp1 ?_⟩
 exact zeB ⟨_,rfl,q⟩
theorem zlc:za7 ["thing"] ["thing"] (zav zf8):=⟨rfl,rfl,rfl,by decide +kernel,rfl,by decide +kernel,by decide +kernel⟩
theorem zhi (T:Txt K mg base a):zdD P w K mg base CX0 1 a.f_is_whole a.d_is_whole ["thing"] zfn:=by
 refine T.F_is_whole.ok zlc (fun vs H Q E h=>?_) (fun cdv A outer s H vs Q E hr h=>?_)
 ·obtain ⟨x,rfl,q⟩:=h
  rfl
 obtain ⟨x,rfl,q⟩:=h
 exact ⟨zgg K,(zat (zaY (zdr (zaj zaX rfl T.z_isinstance PyProof.Rows.boot_isinstance (zaa (pv 0) (zaa (zbM rfl T.z_int zde rfl) zae))) (ze4 (znX (zaj zaX rfl T.z_isinstance PyProof.Rows.boot_isinstance (zaa (pv 0) (zaa (zbM rfl T.z_bool zd9 rfl) zae)))))))),
  zlA q⟩
def zff:TS :=
 (zbK (zcV (za9 zfn [] E0 (zab (zac 0) zas)) (zgB (rI0 fun i j=>.bl (decide (i≤j))) (rI0 fun i j=>.bl (decide (i≤j))) (zac 1) (zac 0) (zac 2))))
theorem zj3 {x l m:Int} (q:Q (.bl (decide (l≤x∧x≤m))) H):zff { nx:=fun _ H'=>Q .non H',rt:=Q } (L2.zbY ["thing","least","most"] [.int x,.int l,.int m]) H:=by
 unfold zff
 simp_all only [zac]
 refine ⟨x,rfl,true,rfl,zp1 ?_⟩
 refine zdq (fun c=>?_) (fun c=>?_)
 ·rw [show decide (l≤x∧x≤m)=decide (x≤m) from by simp [c]] at q
  exact q
 ·rw [show decide (l≤x∧x≤m)=false from by simp [c]] at q
  exact q
theorem zkn:za7 ["thing","least","most"] ["thing","least","most"] (zav zfy):=⟨rfl,rfl,rfl,by decide +kernel,rfl,by decide +kernel,by decide +kernel⟩
theorem zjI (T:Txt K mg base a):zdD P w K mg base CX0 2 a.f_is_within a.d_is_within ["thing","least","most"] zdS:=by
 have G_is_whole:=zhi (P:=P) (w:=w) (base:=base) T
 refine T.F_is_within.ok zkn (fun vs H Q E h=>?_) (fun cdv A outer s H vs Q E hr h=>?_)
 ·obtain ⟨x,l,m,rfl,q⟩:=h
  rfl
 obtain ⟨x,l,m,rfl,q⟩:=h
 exact ⟨zff,(zat (zaY (zdr (za5 G_is_whole (hr.mono (by decide)) rfl T.m_is_whole T.F_is_whole.kp T.b_is_whole .nil zbZ (zaa (pv 0) zae)) (ze4 (zpQ zmL zmL (pv 1) (pv 0) (pv 2)))))),
  zj3 q⟩
def zg2 (K:PySem.W.Frag):TS :=
 (zaW (zbr (zac 0) (zhj K 3 (zbn (zai 2) (zbn (zai 3) (zbn (zai 4) zgK)))))
 (zbK (zcV (za9 zdS [] E0 (zab (zac 2) (zab (tC (.int 0)) (zab (tOp (rI0 fun i j=>.int (i - j)) (zac 1) (tC (.int 1))) zas)))) (zcV (za9 zdS [] E0 (zab (zac 3) (zab (tC (.int 0)) (zab (tOp (rI0 fun i j=>.int (i - j)) (zac 1) (tC (.int 1))) zas)))) (zcV (tOp rNe (zac 2) (zac 3)) (za9 zdS [] E0 (zab (zac 4) (zab (tC (.int 1)) (zab (tC (.int 1000000)) zas)))))))))
theorem zcY (K:PySem.W.Frag) (D:zb1) (σ:St) (H:Hp):zg2 K D σ H=(zaW (zbr (zac 0) (zhj K 3 (zbn (zai 2) (zbn (zai 3) (zbn (zai 4) zgK)))))
 (zbK (zcV (za9 zdS [] E0 (zab (zac 2) (zab (tC (.int 0)) (zab (tOp (rI0 fun i j=>.int (i - j)) (zac 1) (tC (.int 1))) zas)))) (zcV (za9 zdS [] E0 (zab (zac 3) (zab (tC (.int 0)) (zab (tOp (rI0 fun i j=>.int (i - j)) (zac 1) (tC (.int 1))) zas)))) (zcV (tOp rNe (zac 2) (zac 3)) (za9 zdS [] E0 (zab (zac 4) (zab (tC (.int 1)) (zab (tC (.int 1000000)) zas))))))))) D σ H:=rfl
def zhc (K:PySem.W.Frag):TS :=
 (zbX (tOr (zgH (tB (tCB (zdF K) (zab (zac 0) (zab (tC (.ty "tuple")) zas))))) (zaA (tOp rNe (tCB (fun xs H Q=>∃ p ys,xs=[.ref p]∧(SqL K H p ys∨SqT K H p ys)∧Q (.int ys.length) H) (zab (zac 0) zas)) (tC (.int 3))))) (zbK (tC (.bl false))) za0)
theorem zcX (K:PySem.W.Frag) (D:zb1) (σ:St) (H:Hp):zhc K D σ H=(zbX (tOr (zgH (tB (tCB (zdF K) (zab (zac 0) (zab (tC (.ty "tuple")) zas))))) (zaA (tOp rNe (tCB (fun xs H Q=>∃ p ys,xs=[.ref p]∧(SqL K H p ys∨SqT K H p ys)∧Q (.int ys.length) H) (zab (zac 0) zas)) (tC (.int 3))))) (zbK (tC (.bl false))) za0) D σ H:=rfl
def zhs (K:PySem.W.Frag):TS :=
 (zaW (zdk (zhc K))
 (zg2 K))
theorem znl {t:Addr} {r:zcz} {m:Int} (ht:H t=some (.tup (rdv r))) (q:Q (.bl (decide (GR m r))) H):zhs K { nx:=fun _ H'=>Q .non H',rt:=Q } (L2.zbY ["thing","many","a","b","length"] [.ref t,.int m]) H:=by
 unfold zhs
 simp_all only [zcY,zcX,zac]
 refine ⟨fun σ H'=>H'=H∧σ=[some (.ref t),some (.int m),none,none,none],?_,?_⟩
 ·simp_all only [zcY,zcX,zac]
  refine zdo ht ⟨true,rfl,?_⟩
  refine zdq (fun z=>absurd z (by decide)) (fun _=>?_)
  refine ⟨_,.inr (SqT.of ht),?_⟩
  exact zdq (fun z=>absurd rfl z) (fun _=>rfl)
 ·rintro σ H' ⟨e,rfl⟩
  rw [e]
  simp_all only [zcY,zcX,zac]
  refine ⟨_,SqT.of ht,rfl,_,_,rfl,_,_,rfl,_,_,rfl,rfl,?_⟩
  refine ⟨_,_,_,rfl,_,rfl,zdq (fun c1=>?_) (fun c1=>?_)⟩
  ·have c1:=of_decide_eq_true c1
   refine ⟨_,_,_,rfl,_,rfl,zdq (fun c2=>?_) (fun c2=>?_)⟩
   ·have c2:=of_decide_eq_true c2
    simp_all only [zcY,zcX,zac]
    refine zdq (fun c3=>?_) (fun c3=>?_)
    ·refine ⟨_,_,_,rfl,?_⟩
     rw [show decide (GR m r)=decide (1≤r.2.2∧r.2.2≤1000000) from decide_eq_decide.mpr ⟨fun z=>z.2.2.2.2.2,fun z=>⟨by omega,by omega,by omega,by omega,c3,z⟩⟩] at q
     exact q
    ·rw [decide_eq_false (p:=GR m r) fun z=>c3 z.2.2.2.2.1] at q
     exact q
   ·rw [decide_eq_false (p:=GR m r) fun z=>c2 (decide_eq_true ⟨z.2.2.1,by have:=z.2.2.2.1;omega⟩)] at q
    exact q
  ·rw [decide_eq_false (p:=GR m r) fun z=>c1 (decide_eq_true ⟨z.1,by have:=z.2.1;omega⟩)] at q
   exact q
theorem zeI:za7 ["thing","many","a","b","length"] ["thing","many"] (zav zg4):=⟨rfl,rfl,rfl,by decide +kernel,rfl,by decide +kernel,by decide +kernel⟩
theorem zik (T:Txt K mg base a):zdD P w K mg base CX0 3 a.f_is_road a.d_is_road ["thing","many"] zfN:=by
 have G_is_within:=zjI (P:=P) (w:=w) (base:=base) T
 refine T.F_is_road.ok zeI (fun vs H Q E h=>?_) (fun cdv A outer s H vs Q E hr h=>?_)
 ·obtain ⟨t,r,m,rfl,ht,q⟩:=h
  rfl
 obtain ⟨t,r,m,rfl,ht,q⟩:=h
 exact ⟨zhs K,(zag (zbz (zbN (PW.pt (zcL (zd4 (zdm (zaj zaX rfl T.z_isinstance PyProof.Rows.boot_isinstance (zaa (pv 0) (zaa (zbM rfl T.z_tuple zcU rfl) zae))))) (zcZ (zay zd8 (zaj zaB rfl T.z_len PySem.boot_len (zaa (pv 0) zae)) zah (zaF _))))) (zat (zaY zhM)) zaV))
 (zag (zg6 (pv 0) (zd3 rfl (zaZ (zaO (i:=2) zeI.nd rfl (Or.inl rfl)) (zaZ (zaO (i:=3) zeI.nd rfl (Or.inl rfl)) (zaZ (zaO (i:=4) zeI.nd rfl (Or.inl rfl)) zcT)))))
 (zat (zaY (zdr (za5 G_is_within (hr.mono (by decide)) rfl T.m_is_within T.F_is_within.kp T.b_is_within .nil zbZ (zaa (pv 2) (zaa zah (zaa (zaC zg8 (pv 1) zah) zae)))) (zdr (za5 G_is_within (hr.mono (by decide)) rfl T.m_is_within T.F_is_within.kp T.b_is_within .nil zbZ (zaa (pv 3) (zaa zah (zaa (zaC zg8 (pv 1) zah) zae)))) (zdr (zcG zd8 (pv 2) (pv 3) (zaF _)) (ze4 (za5 G_is_within (hr.mono (by decide)) rfl T.m_is_within T.F_is_within.kp T.b_is_within .nil zbZ (zaa (pv 4) (zaa zah (zaa (zbG rfl T.m_MOST_LENGTH ⟨_,rfl⟩) zae)))))))))))),
  znl ht q⟩
theorem zdn {α:Type} [DecidableEq α]:∀ (a b:List α),a.Nodup→(∀ x∈a,x∈b)→a.length≤b.length
 | [],b,_,_=>Nat.zero_le _
 | x::a,b,nd,h=>by
  obtain ⟨n1,n2⟩:=List.nodup_cons.mp nd
  have hx:=h x (by simp)
  have ih:=zdn a (b.erase x) n2 fun y hy=>(List.mem_erase_of_ne fun (e:y=x)=>n1 (e ▸ hy)).mpr (h y (by simp [hy]))
  rw [List.length_erase_of_mem hx] at ih
  have:=List.length_pos_of_mem hx
  rw [List.length_cons]
  omega
def Dm (kvs:List (Key×V)) (x:Int):Prop:=zfU kvs (.inl x)≠none
def zc2 {κ:Type} (kvs:List (κ×V)):List κ:=kvs.map (·.1)
theorem zk2 {κ:Type} [DecidableEq κ] (kvs:List (κ×V)) (k:κ):zfU kvs k≠none↔k∈zc2 kvs:=by
 induction kvs with
 | nil=>simp [zfU,zc2]
 | cons p r ih =>
  by_cases e:p.1=k
  ·rw [zcC e]
   simp [zc2,e]
  ·rw [zcu e,ih]
   unfold zc2
   rw [List.map_cons,List.mem_cons]
   exact ⟨.inr,fun h=>h.resolve_left fun z=>e z.symm⟩
theorem ziq {κ:Type} [DecidableEq κ] (kvs:List (κ×V)) (k:κ) (v:V):zc2 (zgq kvs k v)=if zfU kvs k=none then zc2 kvs++[k] else zc2 kvs:=by
 by_cases c:zfU kvs k=none
 ·rw [if_pos c,zpB v c]
  simp [zc2]
 ·rw [if_neg c]
  unfold zgq
  rw [zeN,if_pos (Option.isSome_iff_ne_none.mpr c)]
  unfold zc2
  rw [List.map_map]
  refine List.map_congr_left fun p _=>?_
  simp only [Function.comp]
  split <;> rfl
theorem zeQ {κ:Type} (kvs:List (κ×V)):(zc2 kvs).length=kvs.length:=List.length_map ..
theorem zos {κ:Type} [DecidableEq κ] (kvs:List (κ×V)) (k:κ) (v:V):(zgq kvs k v).length=if zfU kvs k=none then kvs.length+1 else kvs.length:=by
 rw [← zeQ,ziq]
 split
 ·rw [List.length_append,zeQ]
  rfl
 ·rw [zeQ]
theorem zkq (kvs:List (Key×V)) (y x:Int) (v:V):Dm (zgq kvs (.inl y) v) x↔x=y∨Dm kvs x:=by
 unfold Dm
 rw [zpD]
 by_cases e:x=y
 ·subst e
  simp
 ·rw [if_neg fun z=>e (Sum.inl.inj z)]
  exact ⟨.inr,fun h=>h.resolve_left e⟩
def Clo (rs:List zcz) (S:Int→Prop):Prop:=∀ r∈rs,S r.1∨S r.2.1→S r.1∧S r.2.1
structure Cm (m:Int) (rs:List zcz) (kvs:List (Key×V)):Prop where
 nd:(zc2 kvs).Nodup
 inR:∀ k∈zc2 kvs,∃ x:Int,k=.inl x∧0≤x∧x<m
 zero:Dm kvs 0
 least:∀ S:Int→Prop,S 0→Clo rs S→∀ x,Dm kvs x→S x
theorem Cm.put {m:Int} {rs:List zcz} {kvs:List (Key×V)} (h:Cm m rs kvs) {y:Int} (v:V) (y0:0≤y) (y1:y<m) (hy:∀ S:Int→Prop,S 0→Clo rs S→S y):Cm m rs (zgq kvs (.inl y) v):=by
 refine ⟨?_,?_,(zkq ..).mpr (.inr h.zero),fun S s0 sc x hx=>?_⟩
 ·rw [ziq]
  split
  ·rename_i c
   refine List.nodup_append.mpr ⟨h.nd,by simp,fun a ha b hb e=>?_⟩
   have:b=.inl y:=by simpa using hb
   subst this
   subst e
   exact (zk2 ..).mpr ha c
  ·exact h.nd
 ·rw [ziq]
  split
  ·intro k hk
   rcases List.mem_append.mp hk with z | z
   ·exact h.inR k z
   ·exact ⟨y,by simpa using z,y0,y1⟩
  ·exact h.inR
 ·rcases (zkq ..).mp hx with rfl | z
  ·exact hy S s0 sc
  ·exact h.least S s0 sc x z
theorem Cm.le {m:Int} {rs:List zcz} {kvs:List (Key×V)} (h:Cm m rs kvs) (m0:0≤m):(kvs.length:Int)≤m:=by
 have:=zdn (zc2 kvs) ((List.range m.toNat).map fun k:Nat=>(Sum.inl (k:Int):Key)) h.nd fun k hk=>by
  obtain ⟨x,rfl,x0,x1⟩:=h.inR k hk
  exact List.mem_map.mpr ⟨x.toNat,List.mem_range.mpr (by omega),by rw [Int.toNat_of_nonneg x0]⟩
 rw [zeQ,List.length_map,List.length_range] at this
 omega
theorem Cm.all {m:Int} {rs:List zcz} {kvs:List (Key×V)} (h:Cm m rs kvs) (m0:0≤m):m≤(kvs.length:Int)↔∀ x,0≤x→x<m→Dm kvs x:=by
 constructor
 ·intro hl x x0 x1
  refine Classical.byContradiction fun c=>?_
  have hx:(Sum.inl x:Key)∉zc2 kvs:=fun z=>c ((zk2 ..).mpr z)
  have:=zdn (Sum.inl x::zc2 kvs) ((List.range m.toNat).map fun k:Nat=>(Sum.inl (k:Int):Key)) (List.nodup_cons.mpr ⟨hx,h.nd⟩) fun k hk=>by
   have:∃ y:Int,k=.inl y∧0≤y∧y<m:=by
    rcases List.mem_cons.mp hk with z | z
    ·exact ⟨x,z,x0,x1⟩
    ·exact h.inR k z
   obtain ⟨y,rfl,y0,y1⟩:=this
   exact List.mem_map.mpr ⟨y.toNat,List.mem_range.mpr (by omega),by rw [Int.toNat_of_nonneg y0]⟩
  rw [List.length_cons,zeQ,List.length_map,List.length_range] at this
  omega
 ·intro hx
  have:=zdn ((List.range m.toNat).map fun k:Nat=>(Sum.inl (k:Int):Key)) (zc2 kvs) ?_ fun k hk=>?_
  ·rw [zeQ,List.length_map,List.length_range] at this
   omega
  ·refine List.nodup_iff_pairwise_ne.mpr (List.pairwise_map.mpr ((List.nodup_iff_pairwise_ne.mp List.nodup_range).imp fun h e=>h ?_))
   have:=Sum.inl.inj e
   omega
  ·obtain ⟨x,hx1,rfl⟩:=List.mem_map.mp hk
   have:=List.mem_range.mp hx1
   exact (zk2 ..).mp (hx x (by omega) (by omega))
theorem Cm.conn {m:Int} {rs:List zcz} {kvs:List (Key×V)} (h:Cm m rs kvs) (m0:0≤m) (c:Clo rs (Dm kvs)):m≤(kvs.length:Int)↔zow m rs:=by
 rw [h.all m0]
 exact ⟨fun z S s0 sc x x0 x1=>h.least S s0 sc x (z x x0 x1),fun z x x0 x1=>z (Dm kvs) h.zero c x x0 x1⟩
def zcM:TS :=
 (zbX (tOr (tB (ztt (zac 3) (zac 1))) (tB (ztt (zac 4) (zac 1)))) (zaW (zmz (zac 1) (zac 3) (tC (.bl true)))
 (zmz (zac 1) (zac 4) (tC (.bl true)))) za0)
theorem zct (D:zb1) (σ:St) (H:Hp):zcM D σ H=(zbX (tOr (tB (ztt (zac 3) (zac 1))) (tB (ztt (zac 4) (zac 1)))) (zaW (zmz (zac 1) (zac 3) (tC (.bl true)))
 (zmz (zac 1) (zac 4) (tC (.bl true)))) za0) D σ H:=rfl
def zdu (K:PySem.W.Frag):TS :=
 (zaW (zbr (tCB znh (zab (zac 1) zas)) (zai 2))
 (zgJ (zhL K (zac 0)) (zhj K 3 (zbn (zai 3) (zbn (zai 4) (zbn (zai 5) zgK))))
 (zcM)))
theorem zco (K:PySem.W.Frag) (D:zb1) (σ:St) (H:Hp):zdu K D σ H=(zaW (zbr (tCB znh (zab (zac 1) zas)) (zai 2))
 (zgJ (zhL K (zac 0)) (zhj K 3 (zbn (zai 3) (zbn (zai 4) (zbn (zai 5) zgK))))
 (zcM))) D σ H:=rfl
def zda (K:PySem.W.Frag):TS :=
 (zaW (zbr (ztg (((tC (.int 0)),(tC (.bl true)))::[])) (zai 1))
 (zaW (zbr (tC (.int 0)) (zai 2))
 (zaW (znY (zaA (tOp (rI0 fun i j=>.bl (decide (i<j))) (zac 2) (tCB znh (zab (zac 1) zas)))) (zdu K))
 (zbK (zac 1)))))
theorem zgo {rl:Addr} {ts:List Addr} {rs:List zcz} {m:Int} (hl:H rl=some (.lst (ts.map V.ref))) (ht:Tps rdv H ts rs) (m1:1≤m) (m60:m≤60) (gr:∀ r∈rs,GR m r)
  (q:∀ (d:Addr) (kvs:List (Key×V)) (H':Hp),za3 H H'→H' d=some (.dK kvs)→(m≤(kvs.length:Int)↔zow m rs)→Q (.ref d) H') :
  zda K { nx:=fun _ H'=>Q .non H',rt:=Q } (L2.zbY ["roads","come","before","a","b","length"] [.ref rl]) H:=by
 unfold zda
 simp_all only [zct,zco,zac]
 refine fun d hd=>⟨zaf,[(.inl 0,.bl true)],rfl,by decide,?_⟩
 refine ztr (m:=100) (fun n σ H'=>∃ (kvs:List (Key×V)) (bf:Int) (x y z:Option V),σ=[some (.ref rl),some (.ref d),some (.int bf),x,y,z]∧za3 H H'∧H' d=some (.dK kvs)∧Cm m rs kvs∧0≤bf∧bf≤(kvs.length:Int)∧(bf=(kvs.length:Int)→Clo rs (Dm kvs))∧n=(100 - bf).toNat) ?_ ?_
 ·refine ⟨[(.inl 0,.bl true)],0,_,_,_,rfl,?_,zaf,⟨by decide,?_,(fun z=>nomatch z),fun S s0 _ x hx=>?_⟩,by decide,by decide,(fun z=>absurd z (by decide)),by decide⟩
  ·rw [zk7]
   exact zaw hd _
  ·intro k hk
   have:k=.inl 0:=by simpa [zc2] using hk
   exact ⟨0,this,by decide,by omega⟩
  ·have:x=0:=by
    refine Classical.byContradiction fun c=>hx ?_
    exact zcu (p:=(Sum.inl 0,V.bl true)) fun z=>c (Sum.inl.inj z).symm
   subst this
   exact s0
 ·rintro n σ H1 ⟨kvs,bf,x,y,z,rfl,s1,h1,C,b0,b1,bc,rfl⟩
  simp_all only [zct,zco,zac]
  refine ⟨_,h1,?_⟩
  have hle:=C.le (by omega)
  refine zdq (fun c=>?_) (fun c=>?_)
  ·refine ⟨_,fun _ _ h=>h,_,h1,?_⟩
   refine ⟨⟨_,SqL.of (s1 _ _ hl)⟩,?_⟩
   refine zg0 (K:=K) (xs:=ts.map V.ref) (fun i σ H'=>∃ (kv:List (Key×V)) (x y z:Option V),σ=[some (.ref rl),some (.ref d),some (.int kvs.length),x,y,z]∧za3 H H'∧H' d=some (.dK kv)∧Cm m rs kv∧kvs.length≤kv.length∧(kv.length=kvs.length→Clo (rs.take i) (Dm kv))) ⟨kvs,_,_,_,rfl,s1,h1,C,Nat.le_refl _,fun _ r hr=>by simp at hr⟩ ?_ ?_ ?_
   ·rintro i σ H' _ ⟨kv,x,y,z,rfl,s,_⟩
    exact SqL.of (s _ _ hl)
   ·rintro i t σ H2 hx ⟨kv,x,y,z,rfl,s2,h2,C2,l2,c2⟩
    obtain ⟨t,et,rfl⟩:=zgt hx
    obtain ⟨r,er,hr0⟩:=ht.at et
    have hr2:=s2 _ _ hr0
    have gr':=gr r (zc1 er)
    have mr:=zc1 er
    have stepc:∀ {kv':List (Key×V)},(∀ x,Dm kv' x↔Dm kv x)→kv.length=kvs.length→(Dm kv r.1∨Dm kv r.2.1→Dm kv r.1∧Dm kv r.2.1)→Clo (rs.take (i+1)) (Dm kv'):=by
     intro kv' e el hr' r' hr1
     rw [List.take_add_one,er] at hr1
     rw [e,e]
     rcases List.mem_append.mp hr1 with w | w
     ·exact c2 el r' w
     ·have:r'=r:=by simpa using w
      subst this
      exact hr'
    simp_all only [zct,zco,zac]
    refine ⟨_,SqT.of hr2,rfl,_,_,rfl,_,_,rfl,_,_,rfl,rfl,?_⟩
    refine ⟨_,ztx.k (k:=.inl r.1) h2,?_⟩
    have yes:Dm kv r.1∨Dm kv r.2.1→∀ (H3:Hp),H3=H2→∃ (H4:Hp),zrq H3 d (.int r.1) (.bl true) H4∧∃ (H5:Hp),zrq H4 d (.int r.2.1) (.bl true) H5∧za3 H H5∧∃ (kv:List (Key×V)),H5 d=some (.dK kv)∧Cm m rs kv∧kvs.length≤kv.length∧(kv.length=kvs.length→Clo (rs.take (i+1)) (Dm kv)):=by
     rintro hor H3 rfl
     have hS:∀ S:Int→Prop,S 0→Clo rs S→S r.1∧S r.2.1:=fun S s0 sc=>sc r mr (hor.imp (C2.least S s0 sc _) (C2.least S s0 sc _))
     have C3:=C2.put (.bl true) gr'.1 gr'.2.1 fun S s0 sc=>(hS S s0 sc).1
     have C4:=C3.put (.bl true) gr'.2.2.1 gr'.2.2.2.1 fun S s0 sc=>(hS S s0 sc).2
     have le2:=C2.le (by omega)
     have le3:=C3.le (by omega)
     have big:(100:Nat)<sizeLine:=by decide
     have e3:=zos kv (.inl r.1) (.bl true)
     have e4:=zos (zgq kv (.inl r.1) (.bl true)) (.inl r.2.1) (.bl true)
     refine ⟨_,zrq.k (k:=.inl r.1) h2 (by omega),_,zrq.k (k:=.inl r.2.1) zaf (by omega),?_,_,zaf,C4,?_,fun el=>?_⟩
     ·exact (s2.put hd).put hd
     ·rw [e4,e3]
      split <;> split <;> omega
     ·have k3:zfU kv (.inl r.1)≠none:=fun z=>by
       rw [if_pos z] at e3
       rw [el] at e4
       split at e4 <;> omega
      rw [if_neg k3] at e3
      have k4:zfU (zgq kv (.inl r.1) (.bl true)) (.inl r.2.1)≠none:=fun z=>by
       rw [if_pos z,el] at e4
       omega
      have d4:Dm kv r.2.1:=by
       have:=(zkq kv r.1 r.2.1 (.bl true)).mp k4
       rcases this with z | z
       ·exact absurd z.symm gr'.2.2.2.2.1
       ·exact z
      refine stepc (fun x=>?_) ?_ fun _=>⟨k3,d4⟩
      ·rw [zkq,zkq]
       exact ⟨fun z=>z.elim (fun e=>by rw [e];exact d4) (fun z=>z.elim (fun e=>by rw [e];exact k3) id),fun z=>.inr (.inr z)⟩
      ·rw [if_neg k4,el] at e4
       omega
    refine zdq (fun c3=>?_) (fun c3=>?_)
    ·exact yes (.inl (Option.isSome_iff_ne_none.mp c3)) H2 rfl
    refine ⟨_,ztx.k (k:=.inl r.2.1) h2,?_⟩
    refine zdq (fun c4=>?_) (fun c4=>?_)
    ·exact yes (.inr (Option.isSome_iff_ne_none.mp c4)) H2 rfl
    refine ⟨s2,kv,h2,C2,l2,fun el=>stepc (fun _=>Iff.rfl) el fun z=>?_⟩
    exact (z.elim (fun z=>c3 (Option.isSome_iff_ne_none.mpr z)) (fun z=>c4 (Option.isSome_iff_ne_none.mpr z))).elim
   ·rintro σ H2 ⟨kv,x,y,z,rfl,s2,h2,C2,l2,c2⟩
    have e:(rs.take (ts.map V.ref).length)=rs:=List.take_of_length_le (by rw [List.length_map,ht.1];exact Nat.le_refl _)
    rw [e] at c2
    refine ⟨_,?_,kv,_,_,_,_,rfl,s2,h2,C2,by omega,by omega,fun z=>c2 (by omega),rfl⟩
    omega
  ·refine q d kvs H1 s1 h1 (C.conn (by omega) (bc (by omega)))
theorem zbq:za7 ["roads","come","before","a","b","length"] ["roads"] (zav zc8):=⟨rfl,rfl,rfl,by decide +kernel,rfl,by decide +kernel,by decide +kernel⟩
theorem zf7 (T:Txt K mg base a):zdD P w K mg base CX0 1 a.f_places_come_to a.d_places_come_to ["roads"] zoI:=by
 refine T.F_places_come_to.ok zbq (fun vs H Q E h=>?_) (fun cdv A outer s H vs Q E hr h=>?_)
 ·obtain ⟨rl,ts,rs,m,rfl,hl,ht,m1,m60,gr,q⟩:=h
  rfl
 obtain ⟨rl,ts,rs,m,rfl,hl,ht,m1,m60,gr,q⟩:=h
 exact ⟨zda K,(zag (zaP (i:=1) zbq.nd rfl (Or.inl rfl) (zsx (zpv zah zhM zsA) rfl rfl (fun z=>nomatch z) (by decide)))
 (zag (zaP (i:=2) zbq.nd rfl (Or.inl rfl) zah)
 (zag (zqS PassesOwn.never (zay ziO (pv 2) (zaj zhg rfl T.z_len PySem.boot_len (zaa (pv 1) zae)) (zaF _)) (zag (zaP (i:=2) zbq.nd rfl (Or.inl rfl) (zaj zhg rfl T.z_len PySem.boot_len (zaa (pv 1) zae)))
 (zat (zds PassesOwn.never rfl (zgZ (pv 0)) (zd3 rfl (zaZ (zaO (i:=3) zbq.nd rfl (Or.inl rfl)) (zaZ (zaO (i:=4) zbq.nd rfl (Or.inl rfl)) (zaZ (zaO (i:=5) zbq.nd rfl (Or.inl rfl)) zcT))))
 (zat (zbN (PW.pt (zcL (zq5 (zrn (zqj hr) (pv 3) (pv 1))) (zcZ (zq5 (zrn (zqj hr) (pv 4) (pv 1)))))) (zag (zoJ (zqj hr) (pv 1) (pv 3) zhM rfl)
 (zat (zoJ (zqj hr) (pv 1) (pv 4) zhM rfl))) zaV))))))
 (zat (zaY (pv 1)))))),
  zgo hl ht m1 m60 gr q⟩
theorem zoE:za7 ["self","road"] ["self","road"] (zav zdd):=⟨rfl,rfl,rfl,by decide +kernel,rfl,by decide +kernel,by decide +kernel⟩
theorem zja (T:Txt K mg base a):zdD P w K mg base CX0 1 a.i_NoWeb a.j_NoWeb ["self","road"] (zj0 a.c_NoWeb "road"):=by
 refine T.I_NoWeb.ok zoE (fun vs H Q E h=>?_) (fun cdv A outer s H vs Q E hr h=>?_)
 ·obtain ⟨y,v,rfl,hy,q⟩:=h
  rfl
 obtain ⟨y,v,rfl,hy,q⟩:=h
 exact ⟨_,(zag (zdx (zfs rfl T.m_HideError T.B (zaa (pv 0) (zaa (pv 1) zae)))) (zat (zlC (pv 0) (pv 1) rfl))),zlF T.X_NoWeb T.xa_NoWeb.na hy q⟩
def zew (K:PySem.W.Frag) (a:Ad) (E:XK):TS :=
 (zbX (tOr (zgH (zaA (zgB (rI0 fun i j=>.bl (decide (i≤j))) (rI0 fun i j=>.bl (decide (i≤j))) (tC (.int 1)) (zac 1) (tC (.int 60))))) (tOr (zaA (tOp (rI0 fun i j=>.bl (decide (j<i))) (tCB (fun xs H Q=>∃ p ys,xs=[.ref p]∧(SqL K H p ys∨SqT K H p ys)∧Q (.int ys.length) H) (zab (zac 2) zas)) (tC (.int 120)))) (zaA (tOp (rI0 fun i j=>.bl (decide (i<j))) (tCB znh (zab (za9 zoI [] E0 (zab (zac 2) zas)) zas)) (zac 1))))) (zcW a.c_NoWeb "road" E (zab (tUn (rU fun i=>.int (-i)) (tC (.int 1))) zas)) za0)
theorem zcs (K:PySem.W.Frag) (a:Ad) (E:XK) (D:zb1) (σ:St) (H:Hp):zew K a E D σ H=(zbX (tOr (zgH (zaA (zgB (rI0 fun i j=>.bl (decide (i≤j))) (rI0 fun i j=>.bl (decide (i≤j))) (tC (.int 1)) (zac 1) (tC (.int 60))))) (tOr (zaA (tOp (rI0 fun i j=>.bl (decide (j<i))) (tCB (fun xs H Q=>∃ p ys,xs=[.ref p]∧(SqL K H p ys∨SqT K H p ys)∧Q (.int ys.length) H) (zab (zac 2) zas)) (tC (.int 120)))) (zaA (tOp (rI0 fun i j=>.bl (decide (i<j))) (tCB znh (zab (za9 zoI [] E0 (zab (zac 2) zas)) zas)) (zac 1))))) (zcW a.c_NoWeb "road" E (zab (tUn (rU fun i=>.int (-i)) (tC (.int 1))) zas)) za0) D σ H:=rfl
def zgA (K:PySem.W.Frag) (a:Ad) (E:XK):TS :=
 (zaW (zbr (zac 0) (zhj K 2 (zbn (zai 1) (zbn (zai 2) zgK))))
 (zaW (zgJ (zo4 K (zab (zac 2) zas)) (zhj K 2 (zbn (zai 3) (zbn (zai 4) zgK)))
 (zbX (zgH (tB (za9 zfN [] E0 (zab (zac 4) (zab (zac 1) zas))))) (zcW a.c_NoWeb "road" E (zab (zac 3) zas)) za0))
 (zew K a E)))
theorem zcn (K:PySem.W.Frag) (a:Ad) (E:XK) (D:zb1) (σ:St) (H:Hp):zgA K a E D σ H=(zaW (zbr (zac 0) (zhj K 2 (zbn (zai 1) (zbn (zai 2) zgK))))
 (zaW (zgJ (zo4 K (zab (zac 2) zas)) (zhj K 2 (zbn (zai 3) (zbn (zai 4) zgK)))
 (zbX (zgH (tB (za9 zfN [] E0 (zab (zac 4) (zab (zac 1) zas))))) (zcW a.c_NoWeb "road" E (zab (zac 3) zas)) za0))
 (zew K a E))) D σ H:=rfl
def zgr (K:PySem.W.Frag) (a:Ad) (E:XK):TS :=
 (zbX (tOr (zgH (tB (tCB (zdF K) (zab (zac 0) (zab (tC (.ty "tuple")) zas))))) (tOr (zaA (tOp rNe (tCB (fun xs H Q=>∃ p ys,xs=[.ref p]∧(SqL K H p ys∨SqT K H p ys)∧Q (.int ys.length) H) (zab (zac 0) zas)) (tC (.int 2)))) (tOr (zgH (tB (za9 zfn [] E0 (zab (tOp (zpf K) (zac 0) (tC (.int 0))) zas)))) (zgH (tB (tCB (zdF K) (zab (tOp (zpf K) (zac 0) (tC (.int 1))) (zab (tC (.ty "list")) zas)))))))) (zcW a.c_NoWeb "road" E (zab (tUn (rU fun i=>.int (-i)) (tC (.int 1))) zas)) za0)
theorem zcp (K:PySem.W.Frag) (a:Ad) (E:XK) (D:zb1) (σ:St) (H:Hp):zgr K a E D σ H=(zbX (tOr (zgH (tB (tCB (zdF K) (zab (zac 0) (zab (tC (.ty "tuple")) zas))))) (tOr (zaA (tOp rNe (tCB (fun xs H Q=>∃ p ys,xs=[.ref p]∧(SqL K H p ys∨SqT K H p ys)∧Q (.int ys.length) H) (zab (zac 0) zas)) (tC (.int 2)))) (tOr (zgH (tB (za9 zfn [] E0 (zab (tOp (zpf K) (zac 0) (tC (.int 0))) zas)))) (zgH (tB (tCB (zdF K) (zab (tOp (zpf K) (zac 0) (tC (.int 1))) (zab (tC (.ty "list")) zas)))))))) (zcW a.c_NoWeb "road" E (zab (tUn (rU fun i=>.int (-i)) (tC (.int 1))) zas)) za0) D σ H:=rfl
def zge (K:PySem.W.Frag) (a:Ad) (E:XK):TS :=
 (zaW (zdk (zgr K a E))
 (zgA K a E))
theorem zlg {E:XK} {w rl:Addr} {ts:List Addr} {m:Int} {rs:List zcz} (W:zgI H w rl ts m rs) (l200:rs.length≤99999) (q:zqP m rs→∀ H',za3 H H'→Q .non H') (e:∀ d,zmH m rs d→∀ (dx:Addr) (H':Hp),za3 H H'→H' dx=none→E (.ref a.c_NoWeb) (some dx) (L2.upd H' dx (.xd [("road",.int d)]))) :
  zge K a E { nx:=fun _ H'=>Q .non H',rt:=Q } (L2.zbY ["web","many","roads","k","road"] [.ref w]) H:=by
 unfold zge
 simp_all only [zcs,zcn,zcp,zac]
 refine ⟨fun σ H'=>H'=H∧σ=[some (.ref w),none,none,none,none],?_,?_⟩
 ·simp_all only [zcs,zcn,zcp,zac]
  refine zdo W.hw ⟨true,rfl,?_⟩
  refine zdq (fun z=>absurd z (by decide)) (fun _=>?_)
  refine ⟨_,.inr (SqT.of W.hw),?_⟩
  refine zdq (fun z=>absurd rfl z) (fun _=>?_)
  refine ⟨_,SqT.of W.hw,_,rfl,m,rfl,true,rfl,?_⟩
  refine zdq (fun z=>absurd z (by decide)) (fun _=>?_)
  refine ⟨_,SqT.of W.hw,_,rfl,zdP W.hl ⟨true,rfl,?_⟩⟩
  exact zdq (fun z=>absurd z (by decide)) (fun _=>rfl)
 ·rintro σ H' ⟨e',rfl⟩
  rw [e']
  simp_all only [zcs,zcn,zcp,zac]
  refine ⟨_,SqT.of W.hw,rfl,_,_,rfl,_,_,rfl,rfl,?_⟩
  refine ⟨_,rfl,⟨_,SqL.of W.hl⟩,?_⟩
  refine zke (K:=K) (xs:=ts.map V.ref) (fun i σ H'=>za3 H H'∧(∀ (j:Nat) r,j<i→rs[j]?=some r→GR m r)∧∃ x y,σ=[some (.ref w),some (.int m),some (.ref rl),x,y]) ⟨.refl _,fun j r hj=>by omega,_,_,rfl⟩ ?_ ?_ ?_
  ·rintro i σ H' _ ⟨s,_⟩
   exact SqL.of (s _ _ W.hl)
  ·rintro i t u σ H1 hx ⟨s,hg,x,y,rfl⟩ hu
   obtain ⟨t,et,rfl⟩:=zgt hx
   obtain ⟨r,er,hr0⟩:=W.ht.at et
   simp_all only [zcs,zcn,zcp,zac]
   refine ⟨_,SqT.of zaf,rfl,_,_,rfl,_,_,rfl,rfl,?_⟩
   have s2:=s.add hu (o:=.tup [.int (i:Int),.ref t])
   refine ⟨t,r,m,rfl,s2 _ _ hr0,?_⟩
   by_cases c:GR m r
   ·rw [decide_eq_true c]
    refine ⟨true,rfl,zdq (fun z=>absurd z (by decide)) (fun _=>⟨s2,fun j q hj hq=>?_⟩)⟩
    rcases Nat.lt_or_eq_of_le (Nat.lt_succ_iff.mp hj) with h | h
    ·exact hg j q h hq
    ·rw [h,er] at hq
     cases hq
     exact c
   ·rw [decide_eq_false c]
    refine ⟨false,rfl,zdq (fun _=>?_) (fun z=>absurd rfl z)⟩
    exact fun dx hd=>e _ (.inl ⟨i,ziU er c hg,rfl⟩) dx _ s2 hd
  ·rintro σ H1 ⟨s,hg,x,y,rfl⟩
   rw [List.length_map,W.ht.1] at hg
   have gr:∀ r∈rs,GR m r:=fun r hr=>by
    obtain ⟨j,hj,e⟩:=List.mem_iff_getElem.mp hr
    exact hg j r hj (by rw [List.getElem?_eq_getElem hj,e])
   have bn:=zf6 gr
   simp_all only [zcs,zcn,zcp,zac]
   have no:¬ (1≤m∧m≤60∧rs.length≤120∧zow m rs)→∀ H2,za3 H H2→∀ (dx:Addr),H2 dx=none→E (Value.ref a.c_NoWeb) (some dx) (L2.upd H2 dx (HO.xd [("road",V.int (-1))])):=fun n H2 s2 dx hd=>e _ (.inr ⟨bn,n,rfl⟩) dx H2 s2 hd
   refine zdq (fun m1=>?_) (fun z=>no (fun n=>z n.1) _ s)
   refine zdq (fun z=>no (fun n=>z n.2.1) _ s) (fun z=>?_)
   have m60:m≤60:=Decidable.not_not.mp z
   refine ⟨_,.inl (SqL.of (s _ _ W.hl)),?_⟩
   rw [List.length_map,W.ht.1]
   refine zdq (fun z=>no (fun n=>by have:=n.2.2.1;omega) _ s) (fun z=>?_)
   refine ⟨rl,ts,rs,m,rfl,s _ _ W.hl,W.ht.same s,m1,m60,gr,fun d kvs H2 s2 h2 hc=>?_⟩
   refine ⟨_,rfl,kvs,h2,zdq (fun y=>no (fun n=>?_) _ (s.trans s2)) (fun y=>q ⟨bn,m1,m60,by omega,hc.mp (by omega)⟩ _ (s.trans s2))⟩
   have:=hc.mpr n.2.2.2
   omega
theorem zdj:za7 ["web","many","roads","k","road"] ["web"] (zav zgd):=⟨rfl,rfl,rfl,by decide +kernel,rfl,by decide +kernel,by decide +kernel⟩
theorem zln (T:Txt K mg base a):zdD P w K mg base (CXW P w) 5 a.f_look_web a.d_look_web ["web"] (zh2 a):=by
 have G_is_road:=zik (P:=P) (w:=w) (base:=base) T
 have G_is_whole:=zhi (P:=P) (w:=w) (base:=base) T
 have G_places_come_to:=zf7 (P:=P) (w:=w) (base:=base) T
 have G__NoWeb:=zja (P:=P) (w:=w) (base:=base) T
 refine T.F_look_web.okW zdj (fun vs H Q E h=>?_) (fun cdv A outer s H vs Q E hr h=>?_)
 ·obtain ⟨w',rl,ts,m,rs,rfl,W,l200,q,e⟩:=h
  rfl
 obtain ⟨w',rl,ts,m,rs,rfl,W,l200,q,e⟩:=h
 exact ⟨zge K a E,(zag (zbz (zbN (PW.pt (zcL (zd4 (zdm (zaj zaX rfl T.z_isinstance PyProof.Rows.boot_isinstance (zaa (pv 0) (zaa (zbM rfl T.z_tuple zcU rfl) zae))))) (zcL (zay zd8 (zaj zaB rfl T.z_len PySem.boot_len (zaa (pv 0) zae)) zah (zaF _)) (zcL (zd4 (zdm (za5 G_is_whole (hr.mono (by decide)) rfl T.m_is_whole T.F_is_whole.kp T.b_is_whole .nil zbZ (zaa (zcd zma (pv 0) zah (fun _ _=>rfl)) zae)))) (zcZ (zd4 (zdm (zaj zaX rfl T.z_isinstance PyProof.Rows.boot_isinstance (zaa (zcd zma (pv 0) zah (fun _ _=>rfl)) (zaa (zbM rfl T.z_list zeh rfl) zae)))))))))) (zat (zeq T.X_NoWeb G__NoWeb (hr.mono (by decide)) rfl T.m_NoWeb T.bi_NoWeb zbZ rfl zlw (zaa (zjE zgG zah) zae))) zaV))
 (zag (zg6 (pv 0) (zd3 rfl (zaZ (zaO (i:=1) zdj.nd rfl (Or.inl rfl)) (zaZ (zaO (i:=2) zdj.nd rfl (Or.inl rfl)) zcT))))
 (zag (zds PassesOwn.leaving rfl (zov rfl T.z_enumerate (zaa (pv 2) zae)) (zd3 rfl (zaZ (zaO (i:=3) zdj.nd rfl (Or.inl rfl)) (zaZ (zaO (i:=4) zdj.nd rfl (Or.inl rfl)) zcT)))
 (zat (zbN (zd4 (zdm (za5 G_is_road (hr.mono (by decide)) rfl T.m_is_road T.F_is_road.kp T.b_is_road .nil zbZ (zaa (pv 4) (zaa (pv 1) zae))))) (zat (zeq T.X_NoWeb G__NoWeb (hr.mono (by decide)) rfl T.m_NoWeb T.bi_NoWeb zbZ rfl zlw (zaa (pv 3) zae))) zaV)))
 (zat (zbN (PW.pt (zcL (zd4 (zlT zmL zmL zah (pv 1) (zbG rfl T.m_MOST_PLACES ⟨_,rfl⟩))) (zcL (zay zlf (zaj zaB rfl T.z_len PySem.boot_len (zaa (pv 2) zae)) (zbG rfl T.m_MOST_ROADS ⟨_,rfl⟩) (zaF _)) (zcZ (zay ziO (zaj zhg rfl T.z_len PySem.boot_len (zaa (za5 G_places_come_to (hr.mono (by decide)) rfl T.m_places_come_to T.F_places_come_to.kp T.b_places_come_to .nil zbZ (zaa (pv 2) zae)) zae)) (pv 1) (zaF _)))))) (zat (zeq T.X_NoWeb G__NoWeb (hr.mono (by decide)) rfl T.m_NoWeb T.bi_NoWeb zbZ rfl zlw (zaa (zjE zgG zah) zae))) zaV))))),
  zlg W l200 q e⟩
inductive Sh (H:Hp):Tr→V→Prop where
 | int (i:Int):Sh H (.int i) (.int i)
 | bl (b:Bool):Sh H (.bl b) (.bl b)
 | str (x:Str):Sh H (.str x) (.str x)
 | non:Sh H .non .non
 | lst {p:Addr} {xs:List V} {ts:List Tr} (h:H p=some (.lst xs)) (l:xs.length=ts.length) (e:∀ (i:Nat) x t,xs[i]?=some x→ts[i]?=some t→Sh H t x):Sh H (.lst ts) (.ref p)
 | tup {p:Addr} {xs:List V} {ts:List Tr} (h:H p=some (.tup xs)) (l:xs.length=ts.length) (e:∀ (i:Nat) x t,xs[i]?=some x→ts[i]?=some t→Sh H t x):Sh H (.tup ts) (.ref p)
theorem Sh.same {H H':Hp} {t:Tr} {v:V} (h:Sh H t v) (s:za3 H H'):Sh H' t v:=by
 induction h with
 | int i=>exact .int i
 | bl b=>exact .bl b
 | str x=>exact .str x
 | non=>exact .non
 | lst h l _ ih=>exact .lst (s _ _ h) l ih
 | tup h l _ ih=>exact .tup (s _ _ h) l ih
structure ShL (H:Hp) (ts:List Tr) (xs:List V):Prop where
 len:xs.length=ts.length
 el:∀ (i:Nat) x t,xs[i]?=some x→ts[i]?=some t→Sh H t x
theorem ShL.nil:ShL H [] []:=⟨rfl,fun i x t e _=>by cases e⟩
theorem ShL.one {t:Tr} {x:V} (h:Sh H t x):ShL H [t] [x]:=⟨rfl,fun i y u e1 e2=>by
 match i,e1,e2 with
 | 0,e1,e2=>cases e1;cases e2;exact h⟩
theorem ShL.append {ts us:List Tr} {xs ys:List V} (h:ShL H ts xs) (g:ShL H us ys):ShL H (ts++us) (xs++ys):=by
 refine ⟨by rw [List.length_append,List.length_append,h.len,g.len],fun i x t e1 e2=>?_⟩
 by_cases c:i<xs.length
 ·rw [List.getElem?_append_left c] at e1
  rw [List.getElem?_append_left (by rw [← h.len];exact c)] at e2
  exact h.el i x t e1 e2
 ·rw [List.getElem?_append_right (by omega)] at e1
  rw [List.getElem?_append_right (by rw [← h.len];omega),← h.len] at e2
  exact g.el _ x t e1 e2
theorem ShL.cons {t:Tr} {ts:List Tr} {x:V} {xs:List V} (h:Sh H t x) (g:ShL H ts xs):ShL H (t::ts) (x::xs):=(ShL.one h).append g
theorem ShL.same {H':Hp} {ts:List Tr} {xs:List V} (h:ShL H ts xs) (s:za3 H H'):ShL H' ts xs:=⟨h.len,fun i x t e1 e2=>(h.el i x t e1 e2).same s⟩
theorem ShL.sh {ts:List Tr} {xs:List V} {p:Addr} (h:ShL H ts xs) (e:H p=some (.lst xs)):Sh H (.lst ts) (.ref p):=.lst e h.len h.el
theorem ShL.put {ts:List Tr} {xs:List V} {p:Addr} (h:ShL H ts xs) (hp:H p=none):Sh (L2.upd H p (.lst xs)) (.lst ts) (.ref p):=(h.same (zaw hp _)).sh zaf
theorem zgm {n:Nat} (h:n<100000):n<sizeLine:=Nat.lt_of_lt_of_le h (by decide)
def NwH (H H':Hp):Hp:=fun a=>if H a=none then H' a else none
theorem znI {A X:Hp} {a:Addr} {o:HO}:NwH A X a=some o↔A a=none∧X a=some o:=by
 unfold NwH
 by_cases h:A a=none
 ·rw [if_pos h];exact ⟨fun z=>⟨h,z⟩,fun z=>z.2⟩
 ·rw [if_neg h];exact ⟨fun z=>(by cases z),fun z=>absurd z.1 h⟩
theorem ziD {A X B Y:Hp} (h:∀ a o,A a=none→X a=some o→B a=none∧Y a=some o):za3 (NwH A X) (NwH B Y):=fun a o e=>by
 have:=znI.mp e
 exact znI.mpr (h a o this.1 this.2)
theorem znC {A B X Y:Hp} (s:za3 B A) (t:za3 X Y):za3 (NwH A X) (NwH B Y):=ziD fun a o e1 e2=>⟨s.free e1,t _ _ e2⟩
theorem zq2 {K:PySem.W.Frag} {a:Addr} {xs:List V} {te:TE} {σ:St} {H:Hp} {D:Addr} {Q:VK} (Rl:Nat→Hp→V→Prop) (st:∀ i H H' v,za3 H H'→Rl i H v→Rl i H' v) (hl:SqL K H a xs) (hD:H D=none) (hx:xs.length≤99999)
  (hs:∀ (i:Nat) x H' (R:VK),xs[i]?=some x→za3 H H'→(∀ y H'',za3 H' H''→Rl i (NwH H' H'') y→R y H'')→te (σ.set 0 (some x)) H' R)
  (hd:∀ H' ys,za3 H H'→ys.length=xs.length→(∀ (i:Nat) y,ys[i]?=some y→Rl i (NwH H H') y)→H' D=some (.lst ys)→Q (.ref D) H'):zgs (Itl K a) (zai 0) zc9 te D Q σ (L2.upd H D (.lst [])):=by
 refine zm1 (xs:=xs) (fun i ys σ' H'=>za3 H H'∧(∀ x,σ'.set 0 x=σ.set 0 x)∧i≤xs.length∧ys.length=i∧∀ (j:Nat) y,ys[j]?=some y→Rl j (NwH (L2.upd H D (.lst [])) H') y) ⟨zaw hD _,fun _=>rfl,Nat.zero_le _,rfl,fun j y e=>by cases e⟩ ?_ ?_ ?_
 ·rintro i ys σ' H' _ ⟨s,_⟩
  exact s.seq hl
 ·rintro i x ys σ' H' e hD' ⟨s,es,hi,ly,hr⟩
  have li:=(List.getElem?_eq_some_iff.mp e).1
  show te (σ'.set 0 (some x)) H' _
  rw [es]
  refine hs i x H' _ e s fun y H'' s2 hy=>?_
  refine ⟨D,_,_,rfl,rfl,s2 _ _ hD',zgm (by omega),_,zaf,(s.trans s2).put hD,fun y=>by rw [List.set_set],by omega,by rw [List.length_append,ly];rfl,?_⟩
  intro j z ez
  have nD:∀ b,L2.upd H D (.lst []) b=none→b≠D:=fun b hb z=>by rw [z,zaf] at hb;cases hb
  by_cases c:j<ys.length
  ·rw [List.getElem?_append_left c] at ez
   refine st j _ _ z (ziD fun b o e1 e2=>⟨e1,?_⟩) (hr j z ez)
   rw [zax (nD b e1)]
   exact s2 _ _ e2
  ·rw [List.getElem?_append_right (by omega)] at ez
   have l1:=(List.getElem?_eq_some_iff.mp ez).1
   rw [List.length_singleton] at l1
   have ej:j - ys.length=0:=by omega
   rw [ej] at ez
   cases ez
   have ei:j=i:=by omega
   subst ei
   refine st j _ _ y (ziD fun b o e1 e2=>?_) hy
   have nb:b≠D:=fun z=>by rw [z,hD'] at e1;cases e1
   rw [zax nb,zax nb]
   exact ⟨s.free e1,e2⟩
 ·rintro ys σ' H' hD' ⟨s,es,_,ly,hr⟩
  exact hd H' ys s ly (fun i y e=>st i _ _ y (znC (zaw hD _) (.refl _)) (hr i y e)) hD'
theorem zm5 {x:Str} {te:TE} {σ:St} {H:Hp} {D:Addr} {Q:VK} (f:Nat→Bool) (hx:x.length≤99999) (hD:H D=none)
  (hs:∀ (i:Nat) c H' (R:VK),x.cps[i]?=some c→za3 H H'→(∀ H'',za3 H' H''→R (.bl (f c)) H'')→te (σ.set 0 (some (.str ⟨#[c]⟩))) H' R)
  (hd:∀ H',za3 H H'→H' D=some (.lst ((x.cps.toList.map f).map V.bl))→Q (.ref D) H'):zgs (Its x) (zai 0) zc9 te D Q σ (L2.upd H D (.lst [])):=by
 have lx:x.length=x.cps.toList.length:=by simp [Str.length]
 have lx2:x.cps.size=x.cps.toList.length:=by simp
 refine zky (x:=x) (fun i ys σ' H'=>za3 H H'∧(∀ x,σ'.set 0 x=σ.set 0 x)∧ys=((x.cps.toList.take i).map f).map V.bl) ⟨zaw hD _,fun _=>rfl,rfl⟩ ?_ ?_
 ·rintro i c ys σ' H' e hD' ⟨s,es,rfl⟩
  have ec:x.cps.toList[i]?=some c:=by rw [Array.getElem?_toList];exact e
  show te (σ'.set 0 _) H' _
  rw [es]
  refine hs i _ H' _ e s fun H'' s2=>?_
  refine ⟨D,_,_,rfl,rfl,s2 _ _ hD',zgm (by rw [List.length_map,List.length_map,List.length_take];omega),_,zaf,(s.trans s2).put hD,fun y=>by rw [List.set_set],?_⟩
  rw [List.take_add_one,ec,List.map_append,List.map_append]
  rfl
 ·rintro ys σ' H' hD' ⟨s,es,rfl⟩
  rw [List.take_of_length_le (by omega)] at hD'
  exact hd H' s hD'
theorem zm3 {x:Str} {tt:TT} {σ:St} {H:Hp} {D:Addr} {Q:VK} (f:Nat→Bool) (hx:x.length≤99999) (hD:H D=none)
  (hs:∀ (i:Nat) c H' (R:Bool→Hp→Prop),x.cps[i]?=some c→za3 H H'→(∀ H'',za3 H' H''→R (f c) H'')→tt (σ.set 0 (some (.str ⟨#[c]⟩))) H' R) (l0:0<σ.length)
  (hd:∀ H',za3 H H'→H' D=some (.lst ((x.cps.toList.filter f).map fun c=>V.str ⟨#[c]⟩))→Q (.ref D) H'):zgs (Its x) (zai 0) tt (zac 0) D Q σ (L2.upd H D (.lst [])):=by
 have lx:x.length=x.cps.toList.length:=by simp [Str.length]
 have lx2:x.cps.size=x.cps.toList.length:=by simp
 refine zky (x:=x) (fun i ys σ' H'=>za3 H H'∧(∀ x,σ'.set 0 x=σ.set 0 x)∧σ'.length=σ.length∧ys=((x.cps.toList.take i).filter f).map fun c=>V.str ⟨#[c]⟩) ⟨zaw hD _,fun _=>rfl,rfl,rfl⟩ ?_ ?_
 ·rintro i c ys σ' H' e hD' ⟨s,es,el,rfl⟩
  have ec:x.cps.toList[i]?=some c:=by rw [Array.getElem?_toList];exact e
  show tt (σ'.set 0 _) H' _
  rw [es]
  refine hs i _ H' _ e s fun H'' s2=>?_
  rw [List.take_add_one,ec,List.filter_append,List.map_append]
  have lf:=List.length_filter_le f (x.cps.toList.take i)
  rw [List.length_take] at lf
  cases hf:f c with
  | true =>
   rw [if_pos rfl]
   refine ⟨_,(by rw [List.getElem?_set_self l0]),D,_,_,rfl,rfl,s2 _ _ hD',zgm (by rw [List.length_map];omega),_,zaf,(s.trans s2).put hD,fun y=>by rw [List.set_set],by rw [List.length_set],?_⟩
   show _=_++List.map _ (List.filter f [c])
   rw [List.filter_cons_of_pos hf]
   rfl
  | false =>
   rw [if_neg Bool.false_ne_true]
   refine ⟨_,s2 _ _ hD',s.trans s2,fun y=>by rw [List.set_set],by rw [List.length_set],?_⟩
   show _=_++List.map _ (List.filter f [c])
   rw [List.filter_cons_of_neg (by rw [hf];exact Bool.false_ne_true),List.filter_nil,List.map_nil,List.append_nil]
 ·rintro ys σ' H' hD' ⟨s,es,_,rfl⟩
  rw [List.take_of_length_le (by omega)] at hD'
  exact hd H' s hD'
def EvS (te:TE) (σ:St) (H:Hp) (t:Tr):Prop:=∀ (H1:Hp) (R:VK),za3 H H1→(∀ v H',za3 H1 H'→Sh H' t v→R v H')→te σ H1 R
def EvA (ta:TA) (σ:St) (H:Hp) (ts:List Tr):Prop:=∀ (H1:Hp) (R:List V→Hp→Prop),za3 H H1→(∀ vs H',za3 H1 H'→ShL H' ts vs→R vs H')→ta σ H1 R
def EvO (to:TO) (σ:St) (H:Hp) (o:Option Int):Prop:=∀ (H1:Hp) (R:Option Int→Hp→Prop),za3 H H1→(∀ H',za3 H1 H'→R o H')→to σ H1 R
section
variable {σ:St} {te ta tb:TE} {tas:TA} {tl th:TO} {t:Tr} {ts us:List Tr} {i j:Int} {o1 o2:Option Int}
theorem EvS.var {k:Nat} {v:V} (h:σ[k]?=some (some v)) (s:Sh H t v):EvS (zac k) σ H t:=fun H1 _ s1 q=>⟨v,h,q v H1 (.refl _) (s.same s1)⟩
theorem EvS.con {v:V} (s:∀ H',Sh H' t v):EvS (tC v) σ H t:=fun H1 _ _ q=>q v H1 (.refl _) (s H1)
theorem EvS.int:EvS (tC (.int i)) σ H (.int i):=.con fun _=>.int i
theorem EvA.nil:EvA zas σ H []:=fun H1 _ _ q=>q [] H1 (.refl _) .nil
theorem EvA.cons (e:EvS te σ H t) (a:EvA tas σ H ts):EvA (zab te tas) σ H (t::ts):=fun H1 _ s q=>e H1 _ s fun v H2 s2 sh=>a H2 _ (s.trans s2) fun vs H3 s3 shs=>q (v::vs) H3 (s2.trans s3) (.cons (sh.same s3) shs)
theorem EvS.lst (a:EvA tas σ H ts) (l:ts.length≤sizeLine):EvS (zdB tas) σ H (.lst ts):=fun H1 _ s q=>a H1 _ s fun vs H2 s2 sh=>⟨by rw [sh.len];exact l,fun p hp=>q _ _ (s2.add hp) (sh.put hp)⟩
theorem EvS.add (a:EvS ta σ H (.int i)) (b:EvS tb σ H (.int j)):EvS (tOp (rI0 fun i j=>.int (i+j)) ta tb) σ H (.int (i+j)):=fun H1 _ s q=>a H1 _ s fun v H2 s2 sh=>b H2 _ (s.trans s2) fun u H3 s3 sh2=>by
 cases sh
 cases sh2
 exact ⟨_,_,rfl,rfl,q _ _ (s2.trans s3) (.int _)⟩
theorem EvS.cat (a:EvS ta σ H (.lst ts)) (b:EvS tb σ H (.lst us)) (l:ts.length+us.length≤sizeLine):EvS (tOp zg1 ta tb) σ H (.lst (ts++us)):=fun H1 _ s q=>a H1 _ s fun v H2 s2 sh=>b H2 _ (s.trans s2) fun u H3 s3 sh2=>by
 cases sh.same s3 with
 | lst h1 l1 e1 =>
  cases sh2 with
  | lst h2 l2 e2=>exact ⟨_,_,_,_,rfl,rfl,h1,h2,by rw [l1,l2];exact l,fun p hp=>q _ _ ((s2.trans s3).add hp) ((ShL.append ⟨l1,e1⟩ ⟨l2,e2⟩).put hp)⟩
theorem EvO.no:EvO zbE σ H none:=fun _ _ _ q=>q _ (.refl _)
theorem EvO.at (a:EvS ta σ H (.int i)):EvO (zcO ta) σ H (some i):=fun H1 R s q=>a H1 _ s fun v H2 s2 sh=>by
 cases sh
 exact ⟨i,rfl,q H2 s2⟩
theorem zo8 {g:TG} {T:TS} {D:zb1} (e:EvS te σ H t) (k:∀ v H',za3 H H'→Sh H' t v→g v σ H' (T D)):zaW (zbr te g) T D σ H:=e H _ (.refl _) k
end
def zgb:Str:="read_web.<locals>.<lambda>"
abbrev LT (H:Hp) (P:Addr):Prop:=zdL H P zq9 zgb
def zc0 (ws:List Str):Option (List Int):=ws.mapM zfD
theorem zeO (w:Str) (ws:List Str):zc0 (w::ws)=(zfD w).bind fun n=>(zc0 ws).bind fun ns=>some (n::ns):=by
 unfold zc0
 rw [List.mapM_cons]
 rfl
theorem zdJ:∀ {ws:List Str},zc0 ws=none↔inV .non (ws.map fun w=>zkQ (zfD w))=true
 | []=>by constructor <;> intro h <;> cases h
 | w::ws=>by
  rw [zeO,List.map_cons]
  have ih:=zdJ (ws:=ws)
  show _↔(eqV (zkQ (zfD w)) .non || inV .non (ws.map fun w=>zkQ (zfD w)))=true
  cases hn:zfD w with
  | none=>exact ⟨fun _=>rfl,fun _=>rfl⟩
  | some n =>
   show ((zc0 ws).bind fun ns=>some (n::ns))=none↔(false || inV .non (ws.map fun w=>zkQ (zfD w)))=true
   rw [Bool.false_or,← ih]
   cases zc0 ws with
   | none=>exact ⟨fun _=>rfl,fun _=>rfl⟩
   | some ns=>exact ⟨fun h=>(by cases h),fun h=>(by cases h)⟩
theorem zeH:∀ {ws:List Str} {ns:List Int},zc0 ws=some ns→(ws.map fun w=>zkQ (zfD w))=ns.map V.int
 | [],ns,h=>by cases h;rfl
 | w::ws,ns,h=>by
  rw [zeO] at h
  cases hn:zfD w with
  | none=>rw [hn] at h;cases h
  | some n =>
   rw [hn] at h
   have h:((zc0 ws).bind fun ns=>some (n::ns))=some ns:=h
   cases hs:zc0 ws with
   | none=>rw [hs] at h;cases h
   | some ms =>
    rw [hs] at h
    cases h
    rw [List.map_cons,List.map_cons,zeH hs,hn]
    rfl
def zhI (row:Str):Option Int:=if (Txt.split row (Str.ofString " ")).length=2∧(Txt.split row (Str.ofString " ")).getD 0 ""=Str.ofString "web" then zfD ((Txt.split row (Str.ofString " ")).getD 1 "") else none
def zqs (m:Int):List Int→Option zcz
 | [x,y,l]=>if GR m (x,y,l) then some (x,y,l) else none
 | _=>none
def zg7 (m:Int) (row:Str):Option zcz:=if (Txt.split row (Str.ofString " ")).length=4∧(Txt.split row (Str.ofString " ")).getD 0 ""=Str.ofString "road" then (zc0 ((Txt.split row (Str.ofString " ")).drop 1)).bind (zqs m) else none
abbrev Rdd:=Option (Int×List zcz)
def zeT (s:Rdd) (row:Str):Option Rdd:=match s with
 | none=>(zhI row).map fun m=>some (m,[])
 | some (m,rs)=>(zg7 m row).map fun r=>some (m,rs++[r])
def zlj:Rdd→Nat→List Str→Nat ⊕ Rdd
 | s,_,[]=>.inr s
 | s,k,row::rows=>match zeT s row with
  | none=>.inl k
  | some s'=>zlj s' (k+1) rows
theorem zme {s:Rdd} {k:Nat} {rows:List Str} {row:Str} (e:rows[k]?=some row) (h:zeT s row=none):zlj s k (rows.drop k)=.inl k:=by
 obtain ⟨l,e'⟩:=List.getElem?_eq_some_iff.mp e
 rw [List.drop_eq_getElem_cons l,e']
 show (match zeT s row with | none=>Sum.inl k | some s'=>zlj s' (k+1) (rows.drop (k+1)))=_
 rw [h]
theorem zoo {s s':Rdd} {k:Nat} {rows:List Str} {row:Str} (e:rows[k]?=some row) (h:zeT s row=some s'):zlj s k (rows.drop k)=zlj s' (k+1) (rows.drop (k+1)):=by
 obtain ⟨l,e'⟩:=List.getElem?_eq_some_iff.mp e
 rw [List.drop_eq_getElem_cons l,e']
 show (match zeT s row with | none=>Sum.inl k | some s'=>zlj s' (k+1) (rows.drop (k+1)))=_
 rw [h]
theorem zlY {s:Rdd} {k:Nat} {rows:List Str} (l:rows.length≤k):zlj s k (rows.drop k)=.inr s:=by
 rw [List.drop_eq_nil_of_le l]
 rfl
def zfH (rows:List Str):Nat ⊕ Rdd:=match zlj none 0 rows.dropLast with
 | .inl k=>.inl k
 | .inr s=>if rows.dropLast=[]∨rows.getLastD ""≠"" then .inl (rows.length - 1) else .inr s
theorem zmh {rows:List Str} {k:Nat} (h:zlj none 0 rows.dropLast=.inl k):zfH rows=.inl k:=by
 unfold zfH
 rw [h]
theorem zjd {rows:List Str} {s:Rdd} (h:zlj none 0 rows.dropLast=.inr s):zfH rows=if rows.dropLast=[]∨rows.getLastD ""≠"" then .inl (rows.length - 1) else .inr s:=by
 unfold zfH
 rw [h]
open Classical in
noncomputable def zjk (rows:List Str):Nat ⊕ (Int×List zcz):=match zfH rows with
 | .inl k=>.inl k
 | .inr none=>.inl (rows.length - 1)
 | .inr (some (m,rs))=>if zqP m rs then .inr (m,rs) else .inl (rows.length - 1)
theorem zoq (xs:List V) (k:Nat):zmA xs (some (k:Int)) none=xs.drop k:=by
 unfold zmA
 rw [HT.sIx_none,HT.sIx_nat]
 by_cases h:k≤xs.length
 ·rw [Nat.min_eq_left h,List.take_of_length_le (by rw [List.length_drop];exact Nat.le_refl _)]
 ·rw [Nat.min_eq_right (by omega),List.drop_eq_nil_of_le (Nat.le_refl _),List.drop_eq_nil_of_le (by omega),List.take_nil]
theorem zub:Str.ofString " "=⟨#[32]⟩:=by decide +kernel
theorem zgW:Str.ofString "\n"=⟨#[10]⟩:=by decide +kernel
def zm0:Sp:=fun vs H Q _=>∃ w:Str,vs=[.str w]∧w.length≤640∧∀ H',za3 H H'→Q (zkQ (zfD w)) H'
def zfG (K:PySem.W.Frag):TS :=
 (zaW (zdk (zbX (zqb (tB (tBM K "str" zi4 (zac 0) (zab (tC (.str "0")) zas))) (zaA (tOp rNe (zac 0) (tC (.str "0"))))) (zbK (tC .non)) za0))
 (zbK (tCB zot (zab (zac 0) zas))))
theorem zc5 (K:PySem.W.Frag) (D:zb1) (σ:St) (H:Hp):zfG K D σ H=(zaW (zdk (zbX (zqb (tB (tBM K "str" zi4 (zac 0) (zab (tC (.str "0")) zas))) (zaA (tOp rNe (zac 0) (tC (.str "0"))))) (zbK (tC .non)) za0))
 (zbK (tCB zot (zab (zac 0) zas)))) D σ H:=rfl
def zfZ (K:PySem.W.Frag):TS :=
 (zbX (tOr (zgH (zaA (zgB (rI0 fun i j=>.bl (decide (i≤j))) (rI0 fun i j=>.bl (decide (i≤j))) (tC (.int 1)) (tCB zmF (zab (zac 0) zas)) (tC (.int 2000))))) (zgH (tB (tCB (rAll K) (zab (zgn (ztv (zac 0)) (zai 0) zc9 (tOp rInS (zac 0) (tC (.str "0123456789"))) [none]) zas))))) (zbK (tC .non)) za0)
theorem zc6 (K:PySem.W.Frag) (D:zb1) (σ:St) (H:Hp):zfZ K D σ H=(zbX (tOr (zgH (zaA (zgB (rI0 fun i j=>.bl (decide (i≤j))) (rI0 fun i j=>.bl (decide (i≤j))) (tC (.int 1)) (tCB zmF (zab (zac 0) zas)) (tC (.int 2000))))) (zgH (tB (tCB (rAll K) (zab (zgn (ztv (zac 0)) (zai 0) zc9 (tOp rInS (zac 0) (tC (.str "0123456789"))) [none]) zas))))) (zbK (tC .non)) za0) D σ H:=rfl
def zfm (K:PySem.W.Frag):TS :=
 (zaW (zdk (zfZ K))
 (zfG K))
theorem all_map {α:Type} {f:α→Bool}:∀ (l:List α),(l.map f).all id=l.all f
 | []=>rfl
 | a::l=>by rw [List.map_cons,List.all_cons,List.all_cons,all_map l];rfl
theorem zfh {n:Nat} (h:n≤99999):n≤sizeLine:=Nat.le_trans h (by decide)
theorem zkG {w:Str} (l:w.length≤640) (q:∀ H',za3 H H'→Q (zkQ (zfD w)) H'):zfm K { nx:=fun _ H'=>Q .non H',rt:=Q } (L2.zbY ["word"] [.str w]) H:=by
 unfold zfm
 have lw:w.length=w.cps.toList.length:=by simp [Str.length]
 have qn:okW w=false→∀ H',za3 H H'→Q .non H':=fun e H' s=>by
  have:=q H' s
  unfold zfD at this
  rw [if_neg (by rw [e];exact Bool.false_ne_true)] at this
  exact this
 simp_all only [zac]
 refine ⟨fun σ H'=>za3 H H'∧1≤w.length∧w.cps.toList.all dg=true∧σ=[some (.str w)],?_,?_⟩
 ·simp_all only [zc5,zc6,zac]
  refine ⟨zfh (by omega),?_⟩
  by_cases l1:(1:Int)≤(w.length:Int)
  ·rw [if_pos l1,if_neg (by omega)]
   intro D hD
   refine zm5 dg (by omega) hD ?_ ?_
   ·intro i c H' R hc s r
    refine ⟨_,rfl,_,_,rfl,rfl,?_⟩
    rw [zrp]
    exact r H' (.refl _)
   ·intro H' s hD'
    refine ⟨_,rfl,_,SqL.of hD',?_⟩
    rw [all_map]
    cases ha:w.cps.toList.all dg with
    | false =>
     rw [if_pos rfl]
     exact qn (by unfold okW;rw [ha,Bool.and_false,Bool.false_and]) H' s
    | true =>
     rw [if_neg (by decide)]
     exact ⟨s,by omega,rfl⟩
  ·rw [if_neg l1]
   exact qn (by unfold okW;rw [decide_eq_false (by omega),Bool.false_and,Bool.false_and]) H (.refl _)
 ·rintro σ H1 ⟨s1,l1,hd,rfl⟩
  have e0:okW w=!(decide (w.cps.toList.head?=some 48)&&!decide (w=Str.ofString "0")):=by
   unfold okW
   rw [hd,decide_eq_true l1,Bool.true_and,Bool.true_and]
  refine ⟨fun σ H'=>za3 H H'∧okW w=true∧σ=[some (.str w)],?_,?_⟩
  ·simp_all only [zc5,zc6,zac]
   refine ⟨rfl,?_⟩
   rw [ztp]
   by_cases h1:w.cps.toList.head?=some 48
   ·rw [if_pos (decide_eq_true h1)]
    refine ⟨rfl,?_⟩
    by_cases h2:w=Str.ofString "0"
    ·rw [if_neg (fun z=>z h2)]
     exact ⟨s1,by rw [e0,decide_eq_true h1,decide_eq_true h2];rfl⟩
    ·rw [if_pos h2]
     exact qn (by rw [e0,decide_eq_true h1,decide_eq_false h2];rfl) H1 s1
   ·rw [if_neg (by rw [decide_eq_false h1];exact Bool.false_ne_true)]
    exact ⟨s1,by rw [e0,decide_eq_false h1];rfl⟩
  ·rintro σ H2 ⟨s2,hk,rfl⟩
   obtain ⟨n,hn,_⟩:=zil hd l1 (by omega)
   have q2:=q H2 s2
   unfold zfD at q2
   rw [if_pos hk,hn] at q2
   simp_all only [zc5,zc6,zac]
   exact ⟨l,n,hn,q2⟩
theorem zkb:za7 ["word"] ["word"] (zav zdM):=⟨rfl,rfl,rfl,by decide +kernel,rfl,by decide +kernel,by decide +kernel⟩
theorem zgp (T:Txt K mg base a):zdD P w K mg base CX0 1 a.f_number_in a.d_number_in ["word"] zm0:=by
 refine T.F_number_in.ok zkb (fun vs H Q E h=>?_) (fun cdv A outer s H vs Q E hr h=>?_)
 ·obtain ⟨w,rfl,l,q⟩:=h
  rfl
 obtain ⟨w,rfl,l,q⟩:=h
 exact ⟨zfm K,(zag (zbz (zbN (PW.pt (zcL (zd4 (zlT zmL zmL zah (zaj zhe rfl T.z_len PySem.boot_len (zaa (pv 0) zae)) (zbG rfl T.m_MOST_FIGURES ⟨_,rfl⟩))) (zcZ (zd4 (zdm (zaj (zpW rfl) rfl T.z_all PyProof.Rows.boot_all (zaa (zlK (sc:=zav zdM) (N:=["word"]) (Nc:=["sign"]) (cap:=[none]) rfl rfl rfl (.of (by decide +kernel)) (zrl (pv 0)) (fun _ _ _ _=>(zaO (i:=0) (show List.Nodup (["sign"]:List Str) from by decide) rfl (Or.inl rfl))) (fun _ _ _ _=>zi5) (fun _ _ _ _=>(zcG ztS (pv 0) (zbG rfl T.m_FIGURES ⟨_,rfl⟩) (by with_unfolding_all rfl)))) zae))))))) (zat (zaY zb2)) zaV))
 (zag (zbz (zbN (PW.pt (zmm (zdm (zdG PySem.F.plainAttrs_str PySem.F.slot_str_startswith PySem.F.type_str_startswith zoN (pv 0) (zaa za6 zae))) (ziN (zay zd8 (pv 0) za6 (zaF _))))) (zat (zaY zb2)) zaV))
 (zat (zaY (zcf zko rfl T.z_int zde (zaa (pv 0) zae)))))),
  zkG l q⟩
def znF (K:PySem.W.Frag):Sp:=fun vs H Q _=>∃ (p:Addr) (ws:List Str),vs=[.ref p]∧SqL K H p (ws.map V.str)∧ws.length≤99999∧(∀ w∈ws,w.length≤640)∧(zc0 ws=none→∀ H',za3 H H'→Q .non H')∧∀ ns,zc0 ws=some ns→∀ D H',za3 H H'→H D=none→H' D=some (.lst (ns.map V.int))→Q (.ref D) H'
def zez (K:PySem.W.Frag):TS :=
 (zaW (zbr (zgn (zhL K (zac 0)) (zai 0) zc9 (za9 zm0 [] E0 (zab (zac 0) zas)) [none]) (zai 1))
 (zbK (tIf (zaA (tOp (rIn K false) (tC .non) (zac 1))) (tC .non) (zac 1))))
theorem zjQ (ws:List Str):(ws.map fun w=>zkQ (zfD w)).all zeE=true:=by
 rw [List.all_map]
 refine List.all_eq_true.mpr fun w _=>?_
 show zeE (zkQ (zfD w))=true
 cases zfD w <;> rfl
theorem zkf {a D:Addr} {ws:List Str} {te:TE} {σ:St} (hl:SqL K H a (ws.map V.str)) (hD:H D=none) (hx:ws.length≤99999)
  (hs:∀ (i:Nat) w H' (R:VK),ws[i]?=some w→za3 H H'→(∀ H'',za3 H' H''→R (zkQ (zfD w)) H'')→te (σ.set 0 (some (.str w))) H' R)
  (hd:∀ H',za3 H H'→H' D=some (.lst (ws.map fun w=>zkQ (zfD w)))→Q (.ref D) H'):zgs (Itl K a) (zai 0) zc9 te D Q σ (L2.upd H D (.lst [])):=by
 refine zq2 (fun i _ v=>∃ w,ws[i]?=some w∧v=zkQ (zfD w)) (fun _ _ _ _ _ h=>h) hl hD (by rw [List.length_map];exact hx) ?_ ?_
 ·intro i x H' R e s r
  obtain ⟨w,hw,rfl⟩:=zgt e
  exact hs i w H' R hw s fun H'' s2=>r _ H'' s2 ⟨w,hw,rfl⟩
 ·intro H' ys s ly hr hD'
  refine hd H' s ?_
  have ey:ys=ws.map fun w=>zkQ (zfD w):=by
   refine List.ext_getElem? fun i=>?_
   by_cases c:i<ys.length
   ·obtain ⟨w,hw,e⟩:=hr i _ (List.getElem?_eq_getElem c)
    rw [List.getElem?_eq_getElem c,List.getElem?_map,hw,e]
    rfl
   ·rw [List.getElem?_eq_none (by omega),List.getElem?_eq_none (by rw [List.length_map] at ly ⊢;omega)]
  rw [← ey]
  exact hD'
theorem ziQ {p:Addr} {ws:List Str} (hp:SqL K H p (ws.map V.str)) (lw:ws.length≤99999) (lws:∀ w∈ws,w.length≤640) (q0:zc0 ws=none→∀ H',za3 H H'→Q .non H') (q1:∀ ns,zc0 ws=some ns→∀ D H',za3 H H'→H D=none→H' D=some (.lst (ns.map V.int))→Q (.ref D) H'):zez K { nx:=fun _ H'=>Q .non H',rt:=Q } (L2.zbY ["words","numbers"] [.ref p]) H:=by
 unfold zez
 simp_all only [zac]
 refine ⟨⟨_,hp⟩,fun D hD=>zkf hp hD lw ?_ ?_⟩
 ·intro i w H' R e s r
  exact ⟨_,rfl,w,rfl,lws w (zc1 e),r⟩
 ·intro H' s hD'
  refine ⟨D,rfl,_,.inl (SqL.of hD'),rfl,zjQ ws,?_⟩
  cases hn:zc0 ws with
  | none =>
   rw [if_pos (zdJ.mp hn)]
   exact q0 hn H' s
  | some ns =>
   rw [if_neg (fun z=>by rw [zdJ.mpr z] at hn;cases hn)]
   rw [zeH hn] at hD'
   exact q1 ns hn D H' s hD hD'
theorem zfI:za7 ["words","numbers"] ["words"] (zav zdv):=⟨rfl,rfl,rfl,by decide +kernel,rfl,by decide +kernel,by decide +kernel⟩
theorem zjc (T:Txt K mg base a):zdD P w K mg base CX0 2 a.f_numbers_in a.d_numbers_in ["words"] (znF K):=by
 have G_number_in:=zgp (P:=P) (w:=w) (base:=base) T
 refine T.F_numbers_in.ok zfI (fun vs H Q E h=>?_) (fun cdv A outer s H vs Q E hr h=>?_)
 ·obtain ⟨p,ws,rfl,hp,lw,lws,q0,q1⟩:=h
  rfl
 obtain ⟨p,ws,rfl,hp,lw,lws,q0,q1⟩:=h
 exact ⟨zez K,(zag (zig (i:=1) zfI.nd rfl rfl (sc:=zav zdv) (N:=["words","numbers"]) (Nc:=["word"]) (cap:=[none]) rfl rfl rfl (.of (by decide +kernel)) (zgZ (pv 0)) (fun _ _ _ _=>(zaO (i:=0) (show List.Nodup (["word"]:List Str) from by decide) rfl (Or.inl rfl))) (fun _ _ _ _=>zi5) (fun _ _ _ _=>(za5 G_number_in (hr.mono (by decide)) rfl T.m_number_in T.F_number_in.kp T.b_number_in .nil zbZ (zaa (pv 0) zae))))
 (zat (zaY (zgS (zay zeF zb2 (pv 1) (by with_unfolding_all rfl)) zb2 (pv 1))))),
  ziQ hp lw lws q0 q1⟩
theorem zim {row:Str} (hr:Rn 640 row) (h10:10∉sgn row):∀ w∈Txt.split row (Str.ofString " "),w.length≤640:=fun w hw=>by
 rw [zub] at hw
 have h1:=zgM hr w hw
 have h2:=StrLaws.split_free row 32 w hw
 unfold Rn at h1
 rw [zoP (sgn w) _ h2 (fun m=>h10 (part_sub hw m))] at h1
 rw [zdQ]
 omega
where
 part_sub {c d:Nat} {row w:Str} (hw:w∈Txt.split row ⟨#[c]⟩) (m:d∈sgn w):d∈sgn row:=by
  have key:∀ l:List Str,w∈l→d∈sgn (Str.join ⟨#[c]⟩ l):=by
   intro l
   induction l with
   | nil=>intro h;cases h
   | cons x l ih =>
    intro h
    cases l with
    | nil=>rw [List.mem_singleton.mp h] at m;exact m
    | cons z l =>
     rw [zg9]
     rcases List.mem_cons.mp h with rfl | h
     ·exact List.mem_append_left _ m
     ·exact List.mem_append_right _ (List.mem_append_right _ (ih h))
  have:=key _ hw
  rw [StrLaws.join_split] at this
  exact this
theorem zjb (row:Str):∃ w0 wr,Txt.split row (Str.ofString " ")=w0::wr:=by
 cases e:Txt.split row (Str.ofString " ") with
 | nil=>exact absurd e (zgV _ _)
 | cons a l=>exact ⟨a,l,rfl⟩
theorem zkl {ws:List Str} {ns:List Int} (h:zc0 ws=some ns):ns.length=ws.length:=by
 have:=congrArg List.length (zeH h)
 rw [List.length_map,List.length_map] at this
 exact this.symm
theorem len1 {α:Type} {l:List α} (h:l.length=1):∃ a,l=[a]:=by
 match l,h with
 | [a],_=>exact ⟨a,rfl⟩
theorem len3 {α:Type} {l:List α} (h:l.length=3):∃ a b c,l=[a,b,c]:=by
 match l,h with
 | [a,b,c],_=>exact ⟨a,b,c,rfl⟩
def zlS:Sp:=fun vs H Q _=>∃ row:Str,vs=[.str row]∧Rn 640 row∧10∉sgn row∧row.length≤90000∧∀ H',za3 H H'→Q (zkQ (zhI row)) H'
def zhv (K:PySem.W.Frag):TS :=
 (zaW (zbr (tBM K "str" zfJ (zac 0) (zab (tC (.str " ")) zas)) (zai 1))
 (zbK (tIf (zqb (zaA (tOp rEq (tCB (fun xs H Q=>∃ p ys,xs=[.ref p]∧(SqL K H p ys∨SqT K H p ys)∧Q (.int ys.length) H) (zab (zac 1) zas)) (tC (.int 2)))) (zaA (tOp rEq (tOp (zcR K) (zac 1) (tC (.int 0))) (tC (.str "web"))))) (za9 zm0 [] E0 (zab (tOp (zcR K) (zac 1) (tC (.int 1))) zas)) (tC .non))))
theorem zmr {row:Str} (hr:Rn 640 row) (h10:10∉sgn row) (lr:row.length≤90000) (q:∀ H',za3 H H'→Q (zkQ (zhI row)) H'):zhv K { nx:=fun _ H'=>Q .non H',rt:=Q } (L2.zbY ["row","words"] [.str row]) H:=by
 unfold zhv
 simp_all only [zac]
 refine ⟨rfl,by decide +kernel,by omega,fun p hp=>?_⟩
 have lws:=zim hr h10
 obtain ⟨w0,wr,ew⟩:=zjb row
 unfold zhI at q
 rw [ew] at q lws ⊢
 have q0:¬ ((w0::wr).length=2∧(w0::wr).getD 0 ""=Str.ofString "web")→∀ H',za3 H H'→Q .non H':=fun c H' s=>by
  have:=q H' s
  rw [if_neg c] at this
  exact this
 refine ⟨_,.inl (SqL.of zaf),?_⟩
 rw [List.length_map]
 by_cases l2:(w0::wr).length=2
 ·rw [if_pos (by rw [l2];rfl)]
  refine ⟨_,SqL.of zaf,.str w0,zbH (j:=0) rfl,rfl,?_⟩
  by_cases e0:w0=Str.ofString "web"
  ·rw [if_pos (by rw [e0])]
   obtain ⟨w1,rfl⟩:=len1 (l:=wr) (Nat.succ.inj l2)
   refine ⟨_,SqL.of zaf,.str w1,zbH (j:=1) rfl,w1,rfl,lws w1 (by simp),fun H' s=>?_⟩
   have:=q H' ((zaw hp _).trans s)
   rw [if_pos ⟨l2,e0⟩] at this
   exact this
  ·rw [if_neg (fun z=>e0 (V.str.inj z))]
   exact q0 (fun z=>e0 z.2) _ (zaw hp _)
 ·rw [if_neg (fun z=>l2 (by omega))]
  exact q0 (fun z=>l2 z.1) _ (zaw hp _)
theorem zh0:za7 ["row","words"] ["row"] (zav zhu):=⟨rfl,rfl,rfl,by decide +kernel,rfl,by decide +kernel,by decide +kernel⟩
theorem zms (T:Txt K mg base a):zdD P w K mg base CX0 2 a.f_many_in a.d_many_in ["row"] zlS:=by
 have G_number_in:=zgp (P:=P) (w:=w) (base:=base) T
 refine T.F_many_in.ok zh0 (fun vs H Q E h=>?_) (fun cdv A outer s H vs Q E hr h=>?_)
 ·obtain ⟨row,rfl,hR,h10,lr,q⟩:=h
  rfl
 obtain ⟨row,rfl,hR,h10,lr,q⟩:=h
 exact ⟨zhv K,(zag (zaP (i:=1) zh0.nd rfl (Or.inl rfl) (zdG PySem.F.plainAttrs_str PySem.F.slot_str_split PySem.F.type_str_split zeR (pv 0) (zaa za6 zae)))
 (zat (zaY (zgS (PW.pt (zmm (zay zdg (zaj zaB rfl T.z_len PySem.boot_len (zaa (pv 1) zae)) zah (zaF _)) (ziN (zay zdg (zcd zba (pv 1) zah (fun _ _=>rfl)) za6 (zaF _))))) (za5 G_number_in (hr.mono (by decide)) rfl T.m_number_in T.F_number_in.kp T.b_number_in .nil zbZ (zaa (zcd zba (pv 1) zah (fun _ _=>rfl)) zae)) zb2)))),
  zmr hR h10 lr q⟩
def zgN:Sp:=fun vs H Q _=>∃ (row:Str) (m:Int),vs=[.str row,.int m]∧Rn 640 row∧10∉sgn row∧row.length≤90000∧(zg7 m row=none→∀ H',za3 H H'→Q .non H')∧∀ r,zg7 m row=some r→∀ t H',za3 H H'→H t=none→H' t=some (.tup (rdv r))→Q (.ref t) H'
def zfx (K:PySem.W.Frag):TS :=
 (zaW (zbr (za9 (znF K) [] E0 (zab (tSl (zjv K) (zac 2) (zcO (tC (.int 1))) zbE) zas)) (zai 3))
 (zbK (tIf (tOr (zaA (tOp (fun x y H Q=>y=.non∧Q (.bl (decide (x=.non))) H) (zac 3) (tC .non))) (zgH (tB (za9 zfN [] E0 (zab (tCB (fun xs H Q=>∃ p ys,xs=[.ref p]∧((SqL K H p ys∧∀ l,H l=none→Q (.ref l) (upd H l (.tup ys)))∨(SqT K H p ys∧Q (.ref p) H))) (zab (zac 3) zas)) (zab (zac 1) zas)))))) (tC .non) (tCB (fun xs H Q=>∃ p ys,xs=[.ref p]∧((SqL K H p ys∧∀ l,H l=none→Q (.ref l) (upd H l (.tup ys)))∨(SqT K H p ys∧Q (.ref p) H))) (zab (zac 3) zas)))))
theorem zeX (K:PySem.W.Frag) (D:zb1) (σ:St) (H:Hp):zfx K D σ H=(zaW (zbr (za9 (znF K) [] E0 (zab (tSl (zjv K) (zac 2) (zcO (tC (.int 1))) zbE) zas)) (zai 3))
 (zbK (tIf (tOr (zaA (tOp (fun x y H Q=>y=.non∧Q (.bl (decide (x=.non))) H) (zac 3) (tC .non))) (zgH (tB (za9 zfN [] E0 (zab (tCB (fun xs H Q=>∃ p ys,xs=[.ref p]∧((SqL K H p ys∧∀ l,H l=none→Q (.ref l) (upd H l (.tup ys)))∨(SqT K H p ys∧Q (.ref p) H))) (zab (zac 3) zas)) (zab (zac 1) zas)))))) (tC .non) (tCB (fun xs H Q=>∃ p ys,xs=[.ref p]∧((SqL K H p ys∧∀ l,H l=none→Q (.ref l) (upd H l (.tup ys)))∨(SqT K H p ys∧Q (.ref p) H))) (zab (zac 3) zas))))) D σ H:=rfl
def zfa (K:PySem.W.Frag):TS :=
 (zbX (tOr (zaA (tOp rNe (tCB (fun xs H Q=>∃ p ys,xs=[.ref p]∧(SqL K H p ys∨SqT K H p ys)∧Q (.int ys.length) H) (zab (zac 2) zas)) (tC (.int 4)))) (zaA (tOp rNe (tOp (zcR K) (zac 2) (tC (.int 0))) (tC (.str "road"))))) (zbK (tC .non)) za0)
theorem ze0 (K:PySem.W.Frag) (D:zb1) (σ:St) (H:Hp):zfa K D σ H=(zbX (tOr (zaA (tOp rNe (tCB (fun xs H Q=>∃ p ys,xs=[.ref p]∧(SqL K H p ys∨SqT K H p ys)∧Q (.int ys.length) H) (zab (zac 2) zas)) (tC (.int 4)))) (zaA (tOp rNe (tOp (zcR K) (zac 2) (tC (.int 0))) (tC (.str "road"))))) (zbK (tC .non)) za0) D σ H:=rfl
def zhh (K:PySem.W.Frag):TS :=
 (zaW (zbr (tBM K "str" zfJ (zac 0) (zab (tC (.str " ")) zas)) (zai 2))
 (zaW (zdk (zfa K))
 (zfx K)))
theorem zmu {row:Str} {m:Int} (hr:Rn 640 row) (h10:10∉sgn row) (lr:row.length≤90000) (q0:zg7 m row=none→∀ H',za3 H H'→Q .non H') (q1:∀ r,zg7 m row=some r→∀ t H',za3 H H'→H t=none→H' t=some (.tup (rdv r))→Q (.ref t) H'):zhh K { nx:=fun _ H'=>Q .non H',rt:=Q } (L2.zbY ["row","many","words","numbers"] [.str row,.int m]) H:=by
 unfold zhh
 simp_all only [zac]
 refine ⟨rfl,by decide +kernel,by omega,fun p hp=>?_⟩
 have lws:=zim hr h10
 obtain ⟨w0,wr,ew⟩:=zjb row
 unfold zg7 at q0 q1
 rw [ew] at q0 q1 lws ⊢
 have s1:za3 H (L2.upd H p (.lst ((w0::wr).map V.str))):=zaw hp _
 have h1:L2.upd H p (.lst ((w0::wr).map V.str)) p=some (.lst ((w0::wr).map V.str)):=zaf
 generalize L2.upd H p (.lst ((w0::wr).map V.str))=H1 at s1 h1
 have bad:¬ ((w0::wr).length=4∧(w0::wr).getD 0 ""=Str.ofString "road")→Q .non H1:=fun c=>q0 (if_neg c) _ s1
 refine ⟨fun σ H'=>H'=H1∧wr.length=3∧w0=Str.ofString "road"∧σ=[some (.str row),some (.int m),some (.ref p),none],?_,?_⟩
 ·unfold zfa
  simp_all only [zeX,ze0,zac]
  refine ⟨_,.inl (SqL.of h1),?_⟩
  rw [List.length_map]
  by_cases l4:(w0::wr).length=4
  ·rw [if_neg (fun z=>z (by rw [l4];rfl))]
   refine ⟨_,SqL.of h1,.str w0,zbH (j:=0) rfl,rfl,?_⟩
   by_cases e0:w0=Str.ofString "road"
   ·rw [if_neg (fun z=>z (by rw [e0]))]
    exact ⟨Nat.succ.inj l4,e0⟩
   ·rw [if_pos (fun z=>e0 (V.str.inj z))]
    exact bad (fun z=>e0 z.2)
  ·rw [if_pos (fun z=>l4 (by omega))]
   exact bad (fun z=>l4 z.1)
 ·rintro σ H2 ⟨rfl,l3,e0,rfl⟩
  rw [if_pos ⟨by rw [List.length_cons,l3],e0⟩] at q0 q1
  unfold zfx
  simp_all only [zeX,ze0,zac]
  refine ⟨_,SqL.of h1,fun p2 hp2=>?_⟩
  rw [show zmA ((w0::wr).map V.str) (some 1) none=wr.map V.str from zoq _ 1]
  have s2:za3 H2 (L2.upd H2 p2 (.lst (wr.map V.str))):=zaw hp2 _
  refine ⟨p2,wr,rfl,SqL.of zaf,by omega,fun x hx=>lws x (by simp [hx]),fun hn H3 s3=>?_,fun ns hn D H3 s3 hD hD3=>?_⟩
  ·show ite _ _ _
   rw [if_pos rfl]
   exact q0 (by rw [show (w0::wr).drop 1=wr from rfl,hn];rfl) _ (s1.trans (s2.trans s3))
  ·show ite _ _ _
   rw [if_neg (fun z=>V.noConfusion z)]
   obtain ⟨x,y,l,rfl⟩:=len3 (l:=ns) (by rw [zkl hn,l3])
   have s4:za3 H H3:=s1.trans (s2.trans s3)
   have ed:(w0::wr).drop 1=wr:=rfl
   have er:(zc0 ((w0::wr).drop 1)).bind (zqs m)=if GR m (x,y,l) then some (x,y,l) else none:=by rw [ed,hn];rfl
   rw [er] at q0 q1
   refine ⟨D,rfl,_,.inl ⟨SqL.of hD3,fun t ht=>⟨t,(x,y,l),m,rfl,zaf,_,rfl,?_⟩⟩⟩
   by_cases g:GR m (x,y,l)
   ·rw [decide_eq_true g,if_neg (by decide)]
    rw [if_pos g] at q1
    refine ⟨D,rfl,_,.inl ⟨SqL.of ((zaw ht _) _ _ hD3),fun t2 ht2=>?_⟩⟩
    exact q1 _ rfl t2 _ ((s4.add ht).add ht2) ((s4.add ht).free ht2) zaf
   ·rw [decide_eq_false g,if_pos rfl]
    rw [if_neg g] at q0
    exact q0 rfl _ (s4.add ht)
theorem zgi:za7 ["row","many","words","numbers"] ["row","many"] (zav zgY):=⟨rfl,rfl,rfl,by decide +kernel,rfl,by decide +kernel,by decide +kernel⟩
theorem zmU (T:Txt K mg base a):zdD P w K mg base CX0 4 a.f_road_in a.d_road_in ["row","many"] zgN:=by
 have G_is_road:=zik (P:=P) (w:=w) (base:=base) T
 have G_numbers_in:=zjc (P:=P) (w:=w) (base:=base) T
 refine T.F_road_in.ok zgi (fun vs H Q E h=>?_) (fun cdv A outer s H vs Q E hr h=>?_)
 ·obtain ⟨row,m,rfl,hR,h10,lr,q0,q1⟩:=h
  rfl
 obtain ⟨row,m,rfl,hR,h10,lr,q0,q1⟩:=h
 exact ⟨zhh K,(zag (zaP (i:=2) zgi.nd rfl (Or.inl rfl) (zdG PySem.F.plainAttrs_str PySem.F.slot_str_split PySem.F.type_str_split zeR (pv 0) (zaa za6 zae)))
 (zag (zbz (zbN (PW.pt (zcL (zay zd8 (zaj zaB rfl T.z_len PySem.boot_len (zaa (pv 2) zae)) zah (zaF _)) (zcZ (zay zd8 (zcd zba (pv 2) zah (fun _ _=>rfl)) za6 (zaF _))))) (zat (zaY zb2)) zaV))
 (zag (zaP (i:=3) zgi.nd rfl (Or.inl rfl) (za5 G_numbers_in (hr.mono (by decide)) rfl T.m_numbers_in T.F_numbers_in.kp T.b_numbers_in .nil zbZ (zaa (zbF zdc (pv 2) (zca zah) zb8) zae)))
 (zat (zaY (zgS (PW.pt (zcL (zay zhb (pv 3) zb2 (zaF _)) (zcZ (zd4 (zdm (za5 G_is_road (hr.mono (by decide)) rfl T.m_is_road T.F_is_road.kp T.b_is_road .nil zbZ (zaa (zcf zfF rfl T.z_tuple zcU (zaa (pv 3) zae)) (zaa (pv 1) zae)))))))) zb2 (zcf zfF rfl T.z_tuple zcU (zaa (pv 3) zae)))))))),
  zmu hR h10 lr q0 q1⟩
theorem zh1:za7 ["self","row"] ["self","row"] (zav zcN):=⟨rfl,rfl,rfl,by decide +kernel,rfl,by decide +kernel,by decide +kernel⟩
theorem zhS (T:Txt K mg base a):zdD P w K mg base CX0 1 a.i_NoText a.j_NoText ["self","row"] (zj0 a.c_NoText "row"):=by
 refine T.I_NoText.ok zh1 (fun vs H Q E h=>?_) (fun cdv A outer s H vs Q E hr h=>?_)
 ·obtain ⟨y,v,rfl,hy,q⟩:=h
  rfl
 obtain ⟨y,v,rfl,hy,q⟩:=h
 exact ⟨_,(zag (zdx (zfs rfl T.m_HideError T.B (zaa (pv 0) (zaa (pv 1) zae)))) (zat (zlC (pv 0) (pv 1) rfl))),zlF T.X_NoText T.xa_NoText.na hy q⟩
theorem zhk (T:Txt K mg base a):zqL P w K mg base 1 a.i_NoText a.j_NoText ["self","row"] (zj0 a.c_NoText "row"):=by
 refine T.I_NoText.okH zh1 (fun vs H Q E h=>?_) (fun cdv A outer s H vs Q E h=>?_)
 ·obtain ⟨y,v,rfl,hy,q⟩:=h
  rfl
 obtain ⟨y,v,rfl,hy,q⟩:=h
 exact ⟨_,(zag (zdx (zfs rfl T.m_HideError T.B (zaa (pv 0) (zaa (pv 1) zae)))) (zat (zlC (pv 0) (pv 1) rfl))),zlF T.X_NoText T.xa_NoText.na hy q⟩
def RdS (s:Rdd) (H:Hp) (xs:List V):Prop:=match s with
 | none=>xs=[]
 | some (m,rs)=>∃ ts:List Addr,xs=V.int m::ts.map V.ref∧Tps rdv H ts rs
theorem RdS.keep {s:Rdd} {H H':Hp} {xs:List V} (h:RdS s H xs) (k:∀ b ys,H b=some (.tup ys)→H' b=some (.tup ys)):RdS s H' xs:=by
 match s,h with
 | none,h=>exact h
 | some (m,rs),⟨ts,e,T⟩=>exact ⟨ts,e,T.1,fun i x r e1 e2=>k _ _ (T.2 i x r e1 e2)⟩
def zhZ (a:Ad):Sp:=fun vs H Q E=>∃ (text:Str) (q:Addr),vs=[.str text,.ref q]∧zsQ ztz zgb H q∧Rn 640 text∧text.length≤80000 ∧
 (∀ m rs D ts H',zfH (Txt.split text (Str.ofString "\n"))=.inr (some (m,rs))→za3 H H'→H D=none→H' D=some (.lst (V.int m::ts.map V.ref))→Tps rdv H' ts rs→rs.length+2=(Txt.split text (Str.ofString "\n")).length→Q (.ref D) H') ∧
 ∀ (k:Nat) dx H',zfH (Txt.split text (Str.ofString "\n"))=.inl k→za3 H H'→H dx=none→H' dx=some (.xd [("row",.int k)])→E (.ref a.c_NoText) (some dx) H'
def zdV (K:PySem.W.Frag) (a:Ad) (E:XK):TS :=
 (zbX (tOr (zgH (ztF K (zac 3))) (zaA (tOp rNe (tOp (zcR K) (zac 2) (tUn (rU fun i=>.int (-i)) (tC (.int 1)))) (tC (.str ""))))) (zcW a.c_NoText "row" E (zab (tCB (fun xs H Q=>∃ p ys,xs=[.ref p]∧(SqL K H p ys∨SqT K H p ys)∧Q (.int ys.length) H) (zab (zac 3) zas)) zas)) za0)
theorem zcB (K:PySem.W.Frag) (a:Ad) (E:XK) (D:zb1) (σ:St) (H:Hp):zdV K a E D σ H=(zbX (tOr (zgH (ztF K (zac 3))) (zaA (tOp rNe (tOp (zcR K) (zac 2) (tUn (rU fun i=>.int (-i)) (tC (.int 1)))) (tC (.str ""))))) (zcW a.c_NoText "row" E (zab (tCB (fun xs H Q=>∃ p ys,xs=[.ref p]∧(SqL K H p ys∨SqT K H p ys)∧Q (.int ys.length) H) (zab (zac 3) zas)) zas)) za0) D σ H:=rfl
def zdf (a:Ad) (E:XK):TS :=
 (zbX (zaA (tOp (fun x y H Q=>y=.non∧Q (.bl (decide (x=.non))) H) (zac 6) (tC .non))) (zcW a.c_NoText "row" E (zab (zac 4) zas)) za0)
theorem zcD (a:Ad) (E:XK) (D:zb1) (σ:St) (H:Hp):zdf a E D σ H=(zbX (zaA (tOp (fun x y H Q=>y=.non∧Q (.bl (decide (x=.non))) H) (zac 6) (tC .non))) (zcW a.c_NoText "row" E (zab (zac 4) zas)) za0) D σ H:=rfl
def zdZ (K:PySem.W.Frag) (a:Ad) (E:XK):TS :=
 (zaW (zbr (zlW ztz zgb 1 (tIf (ztF K (zac 1)) (za9 zgN [] E0 (zab (zac 0) (zab (tOp (zcR K) (zac 1) (tC (.int 0))) zas))) (za9 zlS [] E0 (zab (zac 0) zas))) (zab (zac 5) (zab (zac 3) zas))) (zai 6))
 (zaW (zdk (zdf a E))
 (zer (tBM K "list" zb9 (zac 3) (zab (zac 6) zas)))))
theorem zch (K:PySem.W.Frag) (a:Ad) (E:XK) (D:zb1) (σ:St) (H:Hp):zdZ K a E D σ H=(zaW (zbr (zlW ztz zgb 1 (tIf (ztF K (zac 1)) (za9 zgN [] E0 (zab (zac 0) (zab (tOp (zcR K) (zac 1) (tC (.int 0))) zas))) (za9 zlS [] E0 (zab (zac 0) zas))) (zab (zac 5) (zab (zac 3) zas))) (zai 6))
 (zaW (zdk (zdf a E))
 (zer (tBM K "list" zb9 (zac 3) (zab (zac 6) zas))))) D σ H:=rfl
def zfv (K:PySem.W.Frag) (a:Ad) (E:XK):TS :=
 (zaW (zbr (tBM K "str" zfJ (zac 0) (zab (tC (.str "\n")) zas)) (zai 2))
 (zaW (zbr (zdB zas) (zai 3))
 (zaW (zgJ (zo4 K (zab (tSl (zjv K) (zac 2) zbE (zcO (tUn (rU fun i=>.int (-i)) (tC (.int 1))))) zas)) (zhj K 2 (zbn (zai 4) (zbn (zai 5) zgK)))
 (zdZ K a E))
 (zaW (zdk (zdV K a E))
 (zbK (zac 3))))))
theorem zrF {xs:List V} {v:V} {n:Nat} (l:xs.length=n+1) (h:xs[n]?=some v):atI xs (-1)=some v:=by
 have e:xs=xs.dropLast++[v]:=by
  have ne:xs≠[]:=fun z=>by rw [z] at l;cases l
  have:=List.dropLast_concat_getLast ne
  rw [List.getLast_eq_getElem] at this
  have hv:xs[xs.length - 1]'(by omega)=v:=by
   have h2:xs[xs.length - 1]?=some v:=by rw [l];exact h
   exact (List.getElem?_eq_some_iff.mp h2).2
  rw [hv] at this
  exact this.symm
 rw [e]
 exact zqN _ _
theorem zqo (xs:List V):zmA xs none (some (-1))=xs.dropLast:=by
 unfold zmA
 show List.take (HT.sIx xs.length xs.length (some (-1)) - 0) (List.drop 0 xs)=_
 rw [List.drop_zero,Nat.sub_zero,List.dropLast_eq_take]
 have:HT.sIx xs.length xs.length (some (-1))=xs.length - 1:=by
  show (if (-1:Int)<0 then ((-1:Int)+(xs.length:Int)).toNat else min (-1:Int).toNat xs.length)=_
  rw [if_pos (by decide)]
  omega
 rw [this]
theorem zr3 {R:VK} {s:Rdd} {r:Str} {xs:List V} {rd:Addr} (hx:H rd=some (.lst xs)) (sx:RdS s H xs) (k1:Rn 640 r) (k2:10∉sgn r) (k3:r.length≤90000)
  (hR:∀ v H3,za3 H H3→(zeT s r=none→v=.non)→(∀ s',zeT s r=some s'→v≠.non∧s'≠none∧RdS s' H3 (xs++[v]))→R v H3) :
  ∃ k,zts K (.ref rd) H k∧if k=true then ∃ x,SqL K H rd x∧∃ x_1,atI x 0=some x_1∧zgN [.str r,x_1] H R E0 else zlS [.str r] H R E0:=by
 match s,sx with
 | none,sx =>
  have sx:xs=[]:=sx
  subst sx
  refine ⟨_,.inl ⟨[],SqL.of hx,rfl⟩,?_⟩
  rw [if_neg (show ¬ (![].isEmpty)=true from fun z=>Bool.noConfusion z)]
  refine ⟨r,rfl,k1,k2,k3,fun H3 s3=>hR _ H3 s3 (fun h=>?_) (fun s' h=>?_)⟩
  ·cases hm:zhI r with
   | none=>rfl
   | some m =>
    have h:(zhI r).map (fun m=>some (m,([]:List zcz)))=none:=h
    rw [hm] at h
    cases h
  ·have h:(zhI r).map (fun m=>some (m,([]:List zcz)))=some s':=h
   cases hm:zhI r with
   | none=>rw [hm] at h;cases h
   | some m =>
    rw [hm] at h
    cases h
    exact ⟨fun z=>V.noConfusion z,(fun z=>by cases z),[],rfl,.nil⟩
 | some (m,rs),⟨ts,e,T⟩ =>
  subst e
  refine ⟨_,.inl ⟨_,SqL.of hx,rfl⟩,?_⟩
  rw [if_pos (show (!(V.int m::ts.map V.ref).isEmpty)=true from rfl)]
  refine ⟨_,SqL.of hx,.int m,zbH (j:=0) rfl,r,m,rfl,k1,k2,k3,fun hn H3 s3=>hR _ H3 s3 (fun _=>rfl) (fun s' h=>?_),fun r' hr' t H3 s3 ht ht3=>hR _ H3 s3 (fun h=>?_) (fun s' h=>?_)⟩
  ·have h:(zg7 m r).map (fun r=>some (m,rs++[r]))=some s':=h
   rw [hn] at h
   cases h
  ·have h:(zg7 m r).map (fun r=>some (m,rs++[r]))=none:=h
   rw [hr'] at h
   cases h
  ·have h:(zg7 m r).map (fun r=>some (m,rs++[r]))=some s':=h
   rw [hr'] at h
   cases h
   exact ⟨fun z=>V.noConfusion z,(fun z=>by cases z),ts++[t],by rw [List.map_append];rfl,T.put (fun x u e=>s3 _ _ e) ht3⟩
theorem zjN {E:XK} {text:Str} {q:Addr} (L:zsQ ztz zgb H q) (hr:Rn 640 text) (lt:text.length≤80000)
  (q1:∀ m rs D ts H',zfH (Txt.split text (Str.ofString "\n"))=.inr (some (m,rs))→za3 H H'→H D=none→H' D=some (.lst (V.int m::ts.map V.ref))→Tps rdv H' ts rs→rs.length+2=(Txt.split text (Str.ofString "\n")).length→Q (.ref D) H')
  (q2:∀ (k:Nat) dx H',zfH (Txt.split text (Str.ofString "\n"))=.inl k→za3 H H'→H dx=none→H' dx=some (.xd [("row",.int k)])→E (.ref a.c_NoText) (some dx) H'):zfv K a E { nx:=fun _ H'=>Q .non H',rt:=Q } (L2.zbY ["text","read_row","rows","read","k","row","thing"] [.str text,.ref q]) H:=by
 unfold zfv
 simp_all only [zac]
 refine ⟨rfl,by decide +kernel,by omega,fun p hp=>⟨by decide,fun rd hrd=>?_⟩⟩
 generalize eR:Txt.split text (Str.ofString "\n")=rows at *
 have rne:rows≠[]:=by rw [← eR];exact zgV _ _
 have rln:rows.length≤80001:=by
  rw [← eR,zgW]
  have:=zfE text 10
  omega
 have rok:∀ r∈rows,Rn 640 r∧10∉sgn r∧r.length≤90000:=fun r h=>by
  rw [← eR,zgW] at h
  exact ⟨zgM hr r h,StrLaws.split_free text 10 r h,Nat.le_trans (zia text 10 r h) (by omega)⟩
 have npr:p≠rd:=fun z=>by rw [z,zaf] at hrd;cases hrd
 refine ⟨_,SqL.of (by rw [zax npr];exact zaf),fun sl hsl=>⟨⟨_,SqL.of zaf⟩,?_⟩⟩
 rw [zqo]
 have nsr:sl≠rd:=fun z=>by rw [z,zaf] at hsl;cases hsl
 have nsp:sl≠p:=fun z=>by rw [z,zax npr,zaf] at hsl;cases hsl
 generalize eH:L2.upd (L2.upd (L2.upd H p (.lst (rows.map V.str))) rd (.lst [])) sl (.lst (rows.map V.str).dropLast)=H0
 have s0:za3 H H0:=by rw [← eH];exact ((zaw hp _).add hrd).add hsl
 have h0p:H0 p=some (.lst (rows.map V.str)):=by rw [← eH,zax nsp.symm,zax npr,zaf]
 have h0s:H0 sl=some (.lst (rows.map V.str).dropLast):=by rw [← eH,zaf]
 have h0r:H0 rd=some (.lst []):=by rw [← eH,zax nsr.symm,zaf]
 have hHr:H rd=none:=(zaw hp _).free hrd
 have ld:(rows.map V.str).dropLast.length=rows.length - 1:=by rw [List.length_dropLast,List.length_map]
 have edl:(rows.map V.str).dropLast=rows.dropLast.map V.str:=List.map_dropLast.symm
 refine zke (xs:=(rows.map V.str).dropLast) (fun i σ H'=>Bar rd H0 H'∧i≤rows.length - 1∧(∃ (s:Rdd) (xs:List V),H' rd=some (.lst xs)∧xs.length=i∧RdS s H' xs∧(i≠0→s≠none)∧zlj none 0 rows.dropLast=zlj s i (rows.dropLast.drop i))∧∃ x4 x5 x6,σ=[some (.str text),some (.ref q),some (.ref p),some (.ref rd),x4,x5,x6]) ⟨fun _ _ _ e=>e,Nat.zero_le _,⟨none,[],h0r,rfl,rfl,fun z=>absurd rfl z,rfl⟩,_,_,_,rfl⟩ ?_ ?_ ?_
 ·rintro i σ H' _ ⟨b,_⟩
  exact SqL.of (b _ _ nsr h0s)
 ·rintro i x t σ H' e ⟨b,hi,⟨s,xs,hx,lx,sx,sn,run⟩,x4,x5,x6,rfl⟩ ht
  rw [edl] at e
  obtain ⟨r,er,rfl⟩:=zgt e
  have li:=(List.getElem?_eq_some_iff.mp e).1
  rw [List.length_map,List.length_dropLast] at li
  obtain ⟨k1,k2,k3⟩:=rok r (List.dropLast_subset _ (zc1 er))
  unfold zdZ
  simp_all only [zch,zac]
  have ntr:t≠rd:=fun z=>by rw [z,hx] at ht;cases ht
  have sH':za3 H H':=fun b' o e=>b _ _ (zaE e hHr) (s0 _ _ e)
  have s1:za3 H' (L2.upd H' t (.tup [.int i,.str r])):=zaw ht _
  have h1t:L2.upd H' t (.tup [.int i,.str r]) t=some (.tup [.int i,.str r]):=zaf
  generalize L2.upd H' t (.tup [.int i,.str r])=H1 at s1 h1t
  have hx1:=s1 _ _ hx
  refine ⟨_,SqT.of h1t,rfl,_,_,rfl,_,_,rfl,rfl,L.same (sH'.trans s1),?_⟩
  refine zr3 hx1 (sx.keep fun b ys e=>s1 _ _ e) k1 k2 k3 fun v H3 s3 en es=>?_
  have s4:za3 H' H3:=s1.trans s3
  refine ⟨fun σ H4=>H4=H3∧v≠.non∧σ=[some (.str text),some (.ref q),some (.ref p),some (.ref rd),some (.int i),some (.str r),some v],?_,?_⟩
  ·unfold zdf
   simp_all only [zcB,zcD,zch,zac]
   by_cases hv:v=.non
   ·rw [if_pos hv]
    intro dx hdx
    refine q2 i dx _ ?_ ((sH'.trans s4).add hdx) ((sH'.trans s4).free hdx) zaf
    have en:zeT s r=none:=by
     cases h:zeT s r with
     | none=>rfl
     | some t=>exact absurd hv (es t h).1
    exact zmh (run.trans (zme er en))
   ·rw [if_neg hv]
    exact hv
  ·rintro σ H4 ⟨rfl,hv,rfl⟩
   simp_all only [zcB,zcD,zch,zac]
   have hx4:H4 rd=some (.lst xs):=s4 _ _ hx
   obtain ⟨s',hs'⟩:∃ s',zeT s r=some s':=by
    cases h:zeT s r with
    | none=>exact absurd (en h) hv
    | some s'=>exact ⟨s',rfl⟩
   have bb:Bar rd H0 (L2.upd H4 rd (.lst (xs++[v]))):=fun b' o n e=>by
    rw [zax n]
    exact s4 _ _ (b b' o n e)
   refine ⟨.inl ⟨rfl,xs,SqL.of hx4⟩,xs,hx4,zgm (by omega),bb,by omega,s',xs++[v],zaf,by rw [List.length_append,lx];rfl,(es s' hs').2.2.keep fun b' ys e'=>?_,fun _=>(es s' hs').2.1,run.trans (zoo er hs')⟩
   rw [zax fun z=>by rw [z,hx4] at e';cases e']
   exact e'
 ·rintro σ H' ⟨b,_,⟨s,xs,hx,lx,sx,sn,run⟩,x4,x5,x6,rfl⟩
  rw [ld] at lx sn run
  have sH':za3 H H':=fun b' o e=>b _ _ (zaE e hHr) (s0 _ _ e)
  rw [zlY (by rw [List.length_dropLast];exact Nat.le_refl _)] at run
  have eo:=zjd run
  obtain ⟨r0,hr0⟩:∃ r0,rows[rows.length - 1]?=some r0:=⟨_,List.getElem?_eq_getElem (by have:=List.length_pos_iff.mpr rne;omega)⟩
  have hl0:rows.getLastD ""=r0:=by
   rw [List.getLastD_eq_getLast?,List.getLast?_eq_getElem?,hr0]
   rfl
  have hat:atI (rows.map V.str) (-1)=some (.str r0):=zrF (n:=rows.length - 1) (by rw [List.length_map];have:=List.length_pos_iff.mpr rne;omega) (by rw [List.getElem?_map,hr0];rfl)
  have hdl:rows.dropLast=[]↔rows.length - 1=0:=by rw [← List.length_eq_zero_iff,List.length_dropLast]
  refine ⟨fun σ H4=>H4=H'∧rows.length - 1≠0∧r0=Str.ofString ""∧σ=[some (.str text),some (.ref q),some (.ref p),some (.ref rd),x4,x5,x6],?_,?_⟩
  ·unfold zdV
   simp_all only [zcB,zcD,zch,zac]
   have bad:zfH rows=.inl (rows.length - 1)→∃ x,(SqL K H' rd x∨SqT K H' rd x)∧∀ dx,H' dx=none→E (.ref a.c_NoText) (some dx) (L2.upd H' dx (.xd [(Str.ofString "row",.int x.length)])):=fun e=>⟨_,.inl (SqL.of hx),fun dx hdx=>q2 _ dx _ (by rw [e,lx]) (sH'.add hdx) (sH'.free hdx) zaf⟩
   refine ⟨_,.inl ⟨xs,SqL.of hx,rfl⟩,?_⟩
   cases hxs:xs with
   | nil =>
    rw [hxs] at lx
    rw [if_pos (show (!([]:List V).isEmpty)=false from rfl)]
    exact bad (eo.trans (if_pos (.inl (hdl.mpr lx.symm))))
   | cons x0 xt =>
    rw [if_neg (show ¬ (!(x0::xt).isEmpty)=false from fun z=>Bool.noConfusion z)]
    have l0:rows.length - 1≠0:=by rw [← lx,hxs,List.length_cons];omega
    refine ⟨_,SqL.of (b _ _ npr h0p),_,hat,rfl,?_⟩
    by_cases he:r0=Str.ofString ""
    ·rw [if_neg (fun z=>z (by rw [he]))]
     exact ⟨l0,he⟩
    ·rw [if_pos (fun z=>he (V.str.inj z))]
     exact bad (eo.trans (if_pos (.inr (by rw [hl0];exact he))))
  ·rintro σ H4 ⟨rfl,hz,he,rfl⟩
   simp_all only [zcB,zcD,zch,zac]
   match s,sx,eo,sn hz with
   | none,_,_,z=>exact absurd rfl z
   | some (m,rs),⟨ts,e,T⟩,eo,_ =>
    rw [e,List.length_cons,List.length_map,T.1] at lx
    refine q1 m rs rd ts _ (eo.trans (if_neg ?_)) sH' hHr (by rw [← e];exact hx) T (by omega)
    rw [hdl,hl0]
    rintro (z | z)
    ·exact hz z
    ·exact z he
theorem zcH:za7 ["text","read_row","rows","read","k","row","thing"] ["text","read_row"] (zav zfu):=⟨rfl,rfl,rfl,by decide +kernel,rfl,by decide +kernel,by decide +kernel⟩
theorem zjx (T:Txt K mg base a):zdD P w K mg base (CXV P w) 6 a.f_read_rows a.d_read_rows ["text","read_row"] (zhZ a):=by
 have G_many_in:=zms (P:=P) (w:=w) (base:=base) T
 have G_road_in:=zmU (P:=P) (w:=w) (base:=base) T
 have G__NoText:=zhS (P:=P) (w:=w) (base:=base) T
 refine T.F_read_rows.okV zcH (fun vs H Q E h=>?_) (fun cdv A outer s H vs Q E hr h=>?_)
 ·obtain ⟨text,q,rfl,L,hR,lt,q1,q2⟩:=h
  rfl
 obtain ⟨text,q,rfl,L,hR,lt,q1,q2⟩:=h
 exact ⟨zfv K a E,(zag (zaP (i:=2) zcH.nd rfl (Or.inl rfl) (zdG PySem.F.plainAttrs_str PySem.F.slot_str_split PySem.F.type_str_split zeR (pv 0) (zaa za6 zae)))
 (zag (zaP (i:=3) zcH.nd rfl (Or.inl rfl) (zcj zae))
 (zag (zds PassesOwn.leaving rfl (zov rfl T.z_enumerate (zaa (zbF zdc (pv 2) zb8 (zca (zjE zgG zah))) zae)) (zd3 rfl (zaZ (zaO (i:=4) zcH.nd rfl (Or.inl rfl)) (zaZ (zaO (i:=5) zcH.nd rfl (Or.inl rfl)) zcT)))
 (zag (zaP (i:=6) zcH.nd rfl (Or.inl rfl) (zps (i:=1) (k:=4) rfl (Or.inl rfl) (hr.mono (by decide)) (zaa (pv 5) (zaa (pv 3) zae)) (fun _ _ _ _ _ _=>rfl) (by decide) rfl rfl rfl rfl rfl (by decide +kernel) (by decide +kernel) (fun _ _ _ _ _ _ hr=>(zgS (zlZ (pv 1) (fun _=>rfl)) (za5 G_road_in (hr.mono (by decide)) rfl T.m_road_in T.F_road_in.kp T.b_road_in .nil zbZ (zaa (pv 0) (zaa (zcd zba (pv 1) zah (fun _ _=>rfl)) zae))) (za5 G_many_in (hr.mono (by decide)) rfl T.m_many_in T.F_many_in.kp T.b_many_in .nil zbZ (zaa (pv 0) zae))))))
 (zag (zbz (zbN (zay zhb (pv 6) zb2 (zaF _)) (zat (zeq T.X_NoText G__NoText (hr.mono (by decide)) rfl T.m_NoText T.bi_NoText zbZ rfl zkU (zaa (pv 4) zae))) zaV))
 (zat (zdx (zdG PySem.F.plainAttrs_list PySem.F.slot_list_append PySem.F.type_list_append zet (pv 3) (zaa (pv 6) zae)))))))
 (zag (zbz (zbN (PW.pt (zcL (zd4 (zlZ (pv 3) (fun _=>rfl))) (zcZ (zay zd8 (zcd zba (pv 2) (zjE zgG zah) (fun _ _=>rfl)) za6 (zaF _))))) (zat (zeq T.X_NoText G__NoText (hr.mono (by decide)) rfl T.m_NoText T.bi_NoText zbZ rfl zkU (zaa (zaj zaB rfl T.z_len PySem.boot_len (zaa (pv 3) zae)) zae))) zaV))
 (zat (zaY (pv 3))))))),
  zjN L hR lt q1 q2⟩
def zki (a:Ad):Sp:=fun vs H Q E=>∃ text:Str,vs=[.str text]∧LT H a.p_lam∧Rn 640 text∧text.length≤80000 ∧
 (∀ m rs w rl ts H',zjk (Txt.split text (Str.ofString "\n"))=.inr (m,rs)→Bar a.p_lam H H'→LT H' a.p_lam→H w=none→H rl=none→zgI H' w rl ts m rs→Q (.ref w) H') ∧
 ∀ (k:Nat) dx H',zjk (Txt.split text (Str.ofString "\n"))=.inl k→Bar a.p_lam H H'→LT H' a.p_lam→H dx=none→H' dx=some (.xd [("row",.int k)])→E (.ref a.c_NoText) (some dx) H'
def zgf (K:PySem.W.Frag) (a:Ad) (E:XK):TS :=
 (zaW (zbr (zn0 a.p_lam ztz zq9 zgb (zhZ a) E (zac 0)) (zai 1))
 (zaW (zbr (zf1 (zab (tOp (zcR K) (zac 1) (tC (.int 0))) (zab (tSl (zjv K) (zac 1) (zcO (tC (.int 1))) zbE) zas))) (zai 2))
 (zaW (ztb K (fun E'=>(zer (zl8 (zh2 a) [] E' (zab (zac 2) zas)))) (.ref a.c_NoWeb) a.c_NoText "row" E (zab (tCB (fun xs H Q=>∃ p ys,xs=[.ref p]∧(SqL K H p ys∨SqT K H p ys)∧Q (.int ys.length) H) (zab (zac 1) zas)) zas))
 (zbK (zac 2)))))
theorem zll {rows:List Str} {k:Nat} (h:zfH rows=.inl k):zjk rows=.inl k:=by
 unfold zjk
 rw [h]
theorem zrs {rows:List Str} {m:Int} {rs:List zcz} (h:zfH rows=.inr (some (m,rs))) (g:zqP m rs):zjk rows=.inr (m,rs):=by
 unfold zjk
 rw [h]
 exact if_pos g
theorem zoX {rows:List Str} {m:Int} {rs:List zcz} (h:zfH rows=.inr (some (m,rs))) (g:¬ zqP m rs):zjk rows=.inl (rows.length - 1):=by
 unfold zjk
 rw [h]
 exact if_neg g
theorem zlm {E:XK} {text:Str} (su:PySem.W.subIn K (.ref a.c_NoWeb) (.ref a.c_NoWeb)=some true) (hP:LT H a.p_lam) (hr:Rn 640 text) (lt:text.length≤80000)
  (q1:∀ m rs w rl ts H',zjk (Txt.split text (Str.ofString "\n"))=.inr (m,rs)→Bar a.p_lam H H'→LT H' a.p_lam→H w=none→H rl=none→zgI H' w rl ts m rs→Q (.ref w) H')
  (q2:∀ (k:Nat) dx H',zjk (Txt.split text (Str.ofString "\n"))=.inl k→Bar a.p_lam H H'→LT H' a.p_lam→H dx=none→H' dx=some (.xd [("row",.int k)])→E (.ref a.c_NoText) (some dx) H'):zgf K a E { nx:=fun _ H'=>Q .non H',rt:=Q } (L2.zbY ["text","read","web"] [.str text]) H:=by
 unfold zgf
 simp_all only [zac]
 refine ⟨hP,fun qf H3 hb hl3 hq L=>?_⟩
 obtain ⟨ps3,hp3⟩:=hl3.tbl
 have new3:∀ b,H3 b=none→H b=none:=fun b e=>by
  have nP:b≠a.p_lam:=fun z=>by rw [z,hp3] at e;cases e
  cases h:H b with
  | none=>rfl
  | some o=>rw [hb b o nP h] at e;cases e
 have bar:∀ H',za3 H3 H'→Bar a.p_lam H H':=fun H' s b o n e=>s _ _ (hb b o n e)
 have l80:(Txt.split text (Str.ofString "\n")).length≤80001:=by
  rw [zgW]
  have:=zfE text 10
  omega
 refine ⟨text,qf,rfl,L,hr,lt,fun m rs D ts H4 eo s4 hD hD4 T lrs=>?_,fun k dx H4 eo s4 hdx h4=>q2 k dx H4 (zll eo) (bar H4 s4) (hl3.same s4) (new3 dx hdx) h4⟩
 refine ⟨D,rfl,_,SqL.of hD4,.int m,zbH (j:=0) rfl,D,rfl,_,SqL.of hD4,fun rl hrl=>⟨by decide,fun w hw=>?_⟩⟩
 rw [show zmA (V.int m::ts.map V.ref) (some 1) none=ts.map V.ref from zoq _ 1] at hw ⊢
 have nw:rl≠w:=fun z=>by rw [← z,zaf] at hw;cases hw
 have s5:za3 H4 (L2.upd (L2.upd H4 rl (.lst (ts.map V.ref))) w (.tup [.int m,.ref rl])):=(zaw hrl _).add hw
 have W:zgI (L2.upd (L2.upd H4 rl (.lst (ts.map V.ref))) w (.tup [.int m,.ref rl])) w rl ts m rs:=⟨zaf,by rw [zax nw,zaf],T.same s5⟩
 have nwH:H4 w=none:=by rw [zax nw.symm] at hw;exact hw
 generalize L2.upd (L2.upd H4 rl (.lst (ts.map V.ref))) w (.tup [.int m,.ref rl])=H5 at s5 W
 refine ⟨w,rl,ts,m,rs,rfl,W,by omega,fun g H6 s6=>?_,fun d hd dx H6 s6 hdx=>⟨su,?_⟩⟩
 ·exact q1 m rs w rl ts H6 (zrs eo g) (bar H6 (s4.trans (s5.trans s6))) (hl3.same (s4.trans (s5.trans s6))) (new3 w (s4.free nwH)) (new3 rl (s4.free hrl)) (W.same s6)
 ·have s7:=(s4.trans (s5.trans s6)).add hdx (o:=HO.xd [("road",V.int d)])
  have hD7:=((s5.trans s6).add hdx (o:=HO.xd [("road",V.int d)])) _ _ hD4
  generalize L2.upd H6 dx (HO.xd [("road",V.int d)])=H7 at s7 hD7
  have e7:(V.int m::ts.map V.ref).length=(Txt.split text (Str.ofString "\n")).length - 1:=by rw [List.length_cons,List.length_map,T.1];omega
  have fin:∀ dx2,H7 dx2=none→E (.ref a.c_NoText) (some dx2) (L2.upd H7 dx2 (HO.xd [(Str.ofString "row",V.int (V.int m::ts.map V.ref).length)])):=fun dx2 hdx2=>q2 _ dx2 _ (zoX eo fun g=>hd.not g) (bar _ (s7.add hdx2)) (hl3.same (s7.add hdx2)) (new3 dx2 (s7.free hdx2)) (by rw [zaf,e7])
  first | exact ⟨_,.inl (SqL.of hD7),fin⟩ | exact ⟨D,rfl,_,.inl (SqL.of hD7),fin⟩ | exact ⟨_,rfl,D,rfl,_,.inl (SqL.of hD7),_,rfl,fin⟩
theorem zfo:za7 ["text","read","web"] ["text"] (zav zeL):=⟨rfl,rfl,rfl,by decide +kernel,rfl,by decide +kernel,by decide +kernel⟩
theorem zlx (T:Txt K mg base a):zdD P w K mg base (CXV P w) 7 a.f_read_web a.d_read_web ["text"] (zki a):=by
 have G_look_web:=zln (P:=P) (w:=w) (base:=base) T
 have G_read_rows:=zjx (P:=P) (w:=w) (base:=base) T
 have GH_NoText:=zhk (P:=P) (w:=w) (base:=base) T
 refine T.F_read_web.okV zfo (fun vs H Q E h=>?_) (fun A outer s H vs Q E hr h=>?_)
 ·obtain ⟨text,rfl,hP,hR,lt,q1,q2⟩:=h
  rfl
 obtain ⟨text,rfl,hP,hR,lt,q1,q2⟩:=h
 exact ⟨zgf K a E,(zag (zaP (i:=1) zfo.nd rfl (Or.inl rfl) (zqE G_read_rows (hr.mono (by decide)) rfl T.m_read_rows T.F_read_rows.kp T.b_read_rows passV (pv 0) rfl T.hC T.hB rfl rfl rfl rfl))
 (zag (zaP (i:=2) zfo.nd rfl (Or.inl rfl) (zdp (zaa (zcd zba (pv 1) zah (fun _ _=>rfl)) (zaa (zbF zdc (pv 1) (zca zah) zb8) zae))))
 (zag (zpt T.m_NoWeb T.X_NoWeb rfl T.X_NoText GH_NoText (hr.mono (by decide)) rfl T.m_NoText T.bi_NoText zs0 rfl rfl rfl (fun _=>PassesOwnAt.leaving) (fun pins E'=>(zat (zdx (zmk G_look_web (hr.mono (by decide)) rfl T.m_look_web T.F_look_web.kp T.b_look_web .nil ztX (zaa (pv 2) zae)))))
 (fun ea=>(zaa (zaj zaB rfl T.z_len PySem.boot_len (zaa (pv 1) zae)) zae)))
 (zat (zaY (pv 2)))))),
  zlm T.su_NoWeb hP hR lt q1 q2⟩
def zoQ:Sp:=fun _ _ _ _=>False
theorem zqA {P:Program} {w:World} {K:PySem.W.Frag} {mg:Str→Option Value} {base:Heap} {CX:CXT} {k:Nat} {f:Addr} {fd:FuncData} {ps:List Str}:zdD P w K mg base CX k f fd ps zoQ :=
 ⟨fun _ _ _ _ h=>h.elim,fun _ _ _ _ _ _ _ _ _ _ _ _ _ h=>h.elim⟩
def ze2:TS :=
 (zaW (zbr (tOp (rI0 fun i j=>.int (i+j)) (tOp (rI (fun _ j=>0<j) fun i j=>.int (i % j)) (zac 3) (tOp (rI zlG fun i j=>.int (i ^ j.toNat)) (tC (.int 10)) (tC (.int 18)))) (tOp (rI IntMulOk fun i j=>.int (i*j)) (tC (.int 48271)) (tOp (rI0 fun i j=>.int (i+j)) (zac 1) (tC (.int 1))))) (zai 5))
 (zaW (zbr (tOp (rI0 fun i j=>.int (i+j)) (tOp (rI (fun _ j=>0<j) fun i j=>.int (i % j)) (tOp (rI IntMulOk fun i j=>.int (i*j)) (zac 5) (zac 5)) (tC (.int 2147483629))) (tOp (rI IntMulOk fun i j=>.int (i*j)) (tC (.int 69621)) (zac 1))) (zai 5))
 (zbK (tOp (rI (fun _ j=>0<j) fun i j=>.int (i % j)) (tOp (rI IntMulOk fun i j=>.int (i*j)) (zac 5) (zac 5)) (tC (.int 2147483587))))))
theorem zbj (D:zb1) (σ:St) (H:Hp):ze2 D σ H=(zaW (zbr (tOp (rI0 fun i j=>.int (i+j)) (tOp (rI (fun _ j=>0<j) fun i j=>.int (i % j)) (zac 3) (tOp (rI zlG fun i j=>.int (i ^ j.toNat)) (tC (.int 10)) (tC (.int 18)))) (tOp (rI IntMulOk fun i j=>.int (i*j)) (tC (.int 48271)) (tOp (rI0 fun i j=>.int (i+j)) (zac 1) (tC (.int 1))))) (zai 5))
 (zaW (zbr (tOp (rI0 fun i j=>.int (i+j)) (tOp (rI (fun _ j=>0<j) fun i j=>.int (i % j)) (tOp (rI IntMulOk fun i j=>.int (i*j)) (zac 5) (zac 5)) (tC (.int 2147483629))) (tOp (rI IntMulOk fun i j=>.int (i*j)) (tC (.int 69621)) (zac 1))) (zai 5))
 (zbK (tOp (rI (fun _ j=>0<j) fun i j=>.int (i % j)) (tOp (rI IntMulOk fun i j=>.int (i*j)) (zac 5) (zac 5)) (tC (.int 2147483587)))))) D σ H:=rfl
def ze5 (K:PySem.W.Frag):TS :=
 (zbX (zaA (tOp (rI0 fun i j=>.bl (decide (j<i))) (tCB (fun xs H Q=>∃ p ys,xs=[.ref p]∧(SqL K H p ys∨SqT K H p ys)∧Q (.int ys.length) H) (zab (zac 0) zas)) (tC (.int 0)))) (zbr (tOp (zcR K) (zac 0) (tOp (rI (fun _ j=>0<j) fun i j=>.int (i % j)) (zac 1) (tCB (fun xs H Q=>∃ i j,xs=[.int i,.int j]∧Q (.int (if j<i then j else i)) H) (zab (tC (.int 63)) (zab (tCB (fun xs H Q=>∃ p ys,xs=[.ref p]∧(SqL K H p ys∨SqT K H p ys)∧Q (.int ys.length) H) (zab (zac 0) zas)) zas))))) (zai 3)) za0)
theorem zbl (K:PySem.W.Frag) (D:zb1) (σ:St) (H:Hp):ze5 K D σ H=(zbX (zaA (tOp (rI0 fun i j=>.bl (decide (j<i))) (tCB (fun xs H Q=>∃ p ys,xs=[.ref p]∧(SqL K H p ys∨SqT K H p ys)∧Q (.int ys.length) H) (zab (zac 0) zas)) (tC (.int 0)))) (zbr (tOp (zcR K) (zac 0) (tOp (rI (fun _ j=>0<j) fun i j=>.int (i % j)) (zac 1) (tCB (fun xs H Q=>∃ i j,xs=[.int i,.int j]∧Q (.int (if j<i then j else i)) H) (zab (tC (.int 63)) (zab (tCB (fun xs H Q=>∃ p ys,xs=[.ref p]∧(SqL K H p ys∨SqT K H p ys)∧Q (.int ys.length) H) (zab (zac 0) zas)) zas))))) (zai 3)) za0) D σ H:=rfl
def zdz:TS :=
 (zbX (zaA (tOp (rI0 fun i j=>.bl (decide (j<i))) (zac 3) (tC (.int 0)))) (zbK (tOp (rI (fun _ j=>0<j) fun i j=>.int (i % j)) (zac 3) (tC (.int 2147483587)))) za0)
theorem zbi (D:zb1) (σ:St) (H:Hp):zdz D σ H=(zbX (zaA (tOp (rI0 fun i j=>.bl (decide (j<i))) (zac 3) (tC (.int 0)))) (zbK (tOp (rI (fun _ j=>0<j) fun i j=>.int (i % j)) (zac 3) (tC (.int 2147483587)))) za0) D σ H:=rfl
def zeW (K:PySem.W.Frag):TS :=
 (zbX (zqb (zaA (tOp (rI0 fun i j=>.bl (decide (i<j))) (zac 2) (tCB (fun xs H Q=>∃ p ys,xs=[.ref p]∧(SqL K H p ys∨SqT K H p ys)∧Q (.int ys.length) H) (zab (zac 0) zas)))) (zaA (tOp (rI0 fun i j=>.bl (decide (j≤i))) (tOp (zcR K) (zac 0) (zac 2)) (tOp (rI zlG fun i j=>.int (i ^ j.toNat)) (tC (.int 10)) (tC (.int 18)))))) (zaW (zbr (tOp (rI (fun _ j=>0<j∧j.natAbs.log2<9000) fun i j=>.int (i / j)) (tOp (zcR K) (zac 0) (zac 2)) (tOp (rI zlG fun i j=>.int (i ^ j.toNat)) (tC (.int 10)) (tC (.int 18)))) (zai 3))
 (zaW (zgJ (zfC (zab (tOp (rI (fun _ j=>0<j) fun i j=>.int (i % j)) (zac 1) (tC (.int 8))) zas)) (zai 4)
 (zbr (tOp (rI (fun _ j=>0<j∧j.natAbs.log2<9000) fun i j=>.int (i / j)) (zac 3) (tC (.int 2147483587))) (zai 3)))
 (zdz))) za0)
theorem zbk (K:PySem.W.Frag) (D:zb1) (σ:St) (H:Hp):zeW K D σ H=(zbX (zqb (zaA (tOp (rI0 fun i j=>.bl (decide (i<j))) (zac 2) (tCB (fun xs H Q=>∃ p ys,xs=[.ref p]∧(SqL K H p ys∨SqT K H p ys)∧Q (.int ys.length) H) (zab (zac 0) zas)))) (zaA (tOp (rI0 fun i j=>.bl (decide (j≤i))) (tOp (zcR K) (zac 0) (zac 2)) (tOp (rI zlG fun i j=>.int (i ^ j.toNat)) (tC (.int 10)) (tC (.int 18)))))) (zaW (zbr (tOp (rI (fun _ j=>0<j∧j.natAbs.log2<9000) fun i j=>.int (i / j)) (tOp (zcR K) (zac 0) (zac 2)) (tOp (rI zlG fun i j=>.int (i ^ j.toNat)) (tC (.int 10)) (tC (.int 18)))) (zai 3))
 (zaW (zgJ (zfC (zab (tOp (rI (fun _ j=>0<j) fun i j=>.int (i % j)) (zac 1) (tC (.int 8))) zas)) (zai 4)
 (zbr (tOp (rI (fun _ j=>0<j∧j.natAbs.log2<9000) fun i j=>.int (i / j)) (zac 3) (tC (.int 2147483587))) (zai 3)))
 (zdz))) za0) D σ H:=rfl
def zep (K:PySem.W.Frag):TS :=
 (zaW (zbr (tOp (rI (fun _ j=>0<j) fun i j=>.int (i % j)) (tOp (rI (fun _ j=>0<j∧j.natAbs.log2<9000) fun i j=>.int (i / j)) (zac 1) (tC (.int 8))) (tC (.int 63))) (zai 2))
 (zaW (zdk (zeW K))
 (zaW (zbr (tC (.int 0)) (zai 3))
 (zaW (zdk (ze5 K))
 (ze2)))))
theorem zis {p:Addr} {ns:List Int} {k:Int} (hS:SqL K H p (ns.map V.int)) (hl:ns.length≤63) (k0:0≤k) (k1:k<1000000) (q:∀ r:Int,0≤r→r<2147483587→Q (.int r) H) :
  zep K { nx:=fun _ H'=>Q .non H',rt:=Q } (L2.zbY ["_law_script","_law_k","_law_at","_law_cell","_law_j","_law_number"] [.ref p,.int k]) H:=by
 unfold zep
 simp_all only [zbj,zbl,zbi,zbk,zac]
 have el:((ns.map V.int).length:Int)=(ns.length:Int):=by rw [List.length_map]
 refine ⟨log8.1,log8.2,by decide,fun σ H'=>H'=H∧∃ t c j,σ=[some (.ref p),some (.int k),t,c,j,none],?_,?_⟩
 ·simp_all only [zbj,zbl,zbi,zbk,zac]
  refine ⟨_,.inl hS,?_⟩
  rw [el]
  refine zdq (fun c=>?_) (fun c=>?_)
  ·obtain ⟨v,hv,_⟩:=zl1 (ns:=ns) (k:=k / 8 % 63) (by omega) c
   refine ⟨_,hS,_,hv,?_⟩
   simp_all only [zbj,zbl,zbi,zbk,zac]
   refine ⟨zsp,?_⟩
   refine zdq (fun c2=>?_) (fun c2=>trivial)
   ·refine ⟨_,hS,_,hv,zsp,_,rfl,logA.1,logA.2,by decide,by omega,by omega,?_⟩
    refine zcI (fun _ σ H'=>H'=H∧∃ t c j,σ=[some (.ref p),some (.int k),t,some (.int c),j,none]) ⟨rfl,_,_,_,rfl⟩ ?_ ?_
    ·rintro i σ H' hi ⟨rfl,t,c,j,rfl⟩
     simp_all only [zbj,zbl,zbi,zbk,zac]
     exact ⟨logB.1,logB.2⟩
    ·rintro σ H' ⟨rfl,t,c,j,rfl⟩
     simp_all only [zbj,zbl,zbi,zbk,zac]
     refine zdq (fun c3=>?_) (fun c3=>?_)
     ·exact ⟨by decide,q _ (Int.emod_nonneg _ (by decide)) (Int.emod_lt_of_pos _ (by decide))⟩
     ·trivial
  ·trivial
 ·rintro σ H' ⟨e,t,c,j,rfl⟩
  rw [e]
  simp_all only [zbj,zbl,zbi,zbk,zac]
  refine ⟨fun σ H'=>H'=H∧∃ t c j,σ=[some (.ref p),some (.int k),t,some (.int c),j,none],?_,?_⟩
  ·simp_all only [zbj,zbl,zbi,zbk,zac]
   refine ⟨_,.inl hS,?_⟩
   rw [el]
   refine zdq (fun c=>?_) (fun c=>trivial)
   refine ⟨_,.inl hS,?_⟩
   rw [el]
   have hm:0<(if (ns.length:Int)<63 then (ns.length:Int) else 63):=by split <;> omega
   obtain ⟨v,hv,_⟩:=zl1 (ns:=ns) (k:=k % if (ns.length:Int)<63 then (ns.length:Int) else 63) (Int.emod_nonneg _ (by omega)) (Int.lt_of_lt_of_le (Int.emod_lt_of_pos _ hm) (by split <;> omega))
   exact ⟨hm,_,hS,_,hv,_,rfl⟩
  ·rintro σ H' ⟨e,t,c,j,rfl⟩
   rw [e]
   simp_all only [zbj,zbl,zbi,zbk,zac]
   have b1:=Int.emod_nonneg c (show (1000000000000000000:Int)≠0 by decide)
   have b2:=Int.emod_lt_of_pos c (show (0:Int)<1000000000000000000 by decide)
   generalize c % 1000000000000000000=z at b1 b2 ⊢
   have m1:IntMulOk (z+48271*(k+1)) (z+48271*(k+1)):=mulR (by omega) (by omega)
   generalize (z+48271*(k+1))*(z+48271*(k+1))=y
   have b3:=Int.emod_nonneg y (show (2147483629:Int)≠0 by decide)
   have b4:=Int.emod_lt_of_pos y (show (0:Int)<2147483629 by decide)
   generalize y % 2147483629=x at b3 b4 ⊢
   exact ⟨zsp,by decide,mulL (by decide) (by decide),m1,by decide,mulL (by decide) (by decide),mulR (by omega) (by omega),by decide,q _ (Int.emod_nonneg _ (by decide)) (Int.emod_lt_of_pos _ (by decide))⟩
theorem zbC:za7 ["_law_script","_law_k","_law_at","_law_cell","_law_j","_law_number"] ["_law_script","_law_k"] (zav zem):=⟨rfl,rfl,rfl,by decide +kernel,rfl,by decide +kernel,by decide +kernel⟩
theorem zfR (T:Txt K mg base a):zdD P w K mg base CX0 1 a.f__law_mixed a.d__law_mixed ["_law_script","_law_k"] (zcq K):=by
 refine T.F__law_mixed.ok zbC (fun vs H Q E h=>?_) (fun cdv A outer s H vs Q E hr h=>?_)
 ·obtain ⟨p,ns,k,rfl,hS,hl,k0,k1,q⟩:=h
  rfl
 obtain ⟨p,ns,k,rfl,hS,hl,k0,k1,q⟩:=h
 exact ⟨zep K,(zag (zaP (i:=2) zbC.nd rfl (Or.inl rfl) (zaC zbJ (zaC zcS (pv 1) zah) zah))
 (zag (zbz (zbN (PW.pt (zmm (zay ziO (pv 2) (zaj zaB rfl T.z_len PySem.boot_len (zaa (pv 0) zae)) (zaF _)) (ziN (zay zpJ (zcd zba (pv 0) (pv 2) (fun _ _=>rfl)) (zaC zha zah zah) (zaF _))))) (zag (zaP (i:=3) zbC.nd rfl (Or.inl rfl) (zaC zcS (zcd zba (pv 0) (pv 2) (fun _ _=>rfl)) (zaC zha zah zah)))
 (zag (zds PassesOwn.never rfl (zc3 rfl T.z_range (zaa (zaC zbJ (pv 1) zah) zae)) (zaO (i:=4) zbC.nd rfl (Or.inl rfl))
 (zat (zaP (i:=3) zbC.nd rfl (Or.inl rfl) (zaC zcS (pv 3) zah))))
 (zat (zbN (zay zlf (pv 3) zah (zaF _)) (zat (zaY (zaC zbJ (pv 3) zah))) zaV)))) zaV))
 (zag (zaP (i:=3) zbC.nd rfl (Or.inl rfl) zah)
 (zag (zbz (zbN (zay zlf (zaj zaB rfl T.z_len PySem.boot_len (zaa (pv 0) zae)) zah (zaF _)) (zat (zaP (i:=3) zbC.nd rfl (Or.inl rfl) (zcd zba (pv 0) (zaC zbJ (pv 1) (zaj (zjr rfl) rfl T.z_min PyProof.Rows.boot_min (zaa zah (zaa (zaj zaB rfl T.z_len PySem.boot_len (zaa (pv 0) zae)) zae)))) (fun _ _=>rfl)))) zaV))
 (zag (zaP (i:=5) zbC.nd rfl (Or.inl rfl) (zaC zb3 (zaC zbJ (pv 3) (zaC zha zah zah)) (zaC zhy zah (zaC zb3 (pv 1) zah))))
 (zag (zaP (i:=5) zbC.nd rfl (Or.inl rfl) (zaC zb3 (zaC zbJ (zaC zhy (pv 5) (pv 5)) zah) (zaC zhy zah (pv 1))))
 (zat (zaY (zaC zbJ (zaC zhy (pv 5) (pv 5)) zah))))))))),
  zis hS hl k0 k1 q⟩
def zec (K:PySem.W.Frag):TS :=
 (zbK (zcV (tCB (zdF K) (zab (zac 0) (zab (tC (.ty "int")) zas))) (zmP (tCB (zdF K) (zab (zac 0) (zab (tC (.ty "bool")) zas))))))
theorem zi3 {x:Int} (q:Q (.bl true) H):zec K { nx:=fun _ H'=>Q .non H',rt:=Q } (L2.zbY ["_law_told_here"] [.int x]) H:=by
 unfold zec
 simp_all only [zac]
 refine zdO ⟨_,rfl,zp1 ?_⟩
 exact zeB ⟨_,rfl,q⟩
theorem ziW:za7 ["_law_told_here"] ["_law_told_here"] (zav zeD):=⟨rfl,rfl,rfl,by decide +kernel,rfl,by decide +kernel,by decide +kernel⟩
theorem zir (T:Txt K mg base a):zdD P w K mg base CX0 1 a.f__law_whole a.d__law_whole ["_law_told_here"] zfn:=by
 refine T.F__law_whole.ok ziW (fun vs H Q E h=>?_) (fun cdv A outer s H vs Q E hr h=>?_)
 ·obtain ⟨x,rfl,q⟩:=h
  rfl
 obtain ⟨x,rfl,q⟩:=h
 exact ⟨zec K,(zat (zaY (zdr (zaj zaX rfl T.z_isinstance PyProof.Rows.boot_isinstance (zaa (pv 0) (zaa (zbM rfl T.z_int zde rfl) zae))) (ze4 (znX (zaj zaX rfl T.z_isinstance PyProof.Rows.boot_isinstance (zaa (pv 0) (zaa (zbM rfl T.z_bool zd9 rfl) zae)))))))),
  zi3 q⟩
def zk1 (a:Ad):Sp:=fun vs H Q _=>∃ (r:Addr) (od:Option Addr),vs=[.ref r]∧H r=some (zgL r (.ref a.c_NoText) od)∧∀ H',za3 H H'→Q (.int 2) H'
def zdC (K:PySem.W.Frag):TS :=
 (zbX (tOr (zaA (tOp rNe (tBM K "list" (zmf K) (zac 1) (zab (tC (.bl true)) zas)) (tC (.int 1)))) (zgH (tB (tCB (zb0 K) (zab (zac 0) (zab (tC (.ty "ValueError")) zas)))))) (zbK (tUn (rU fun i=>.int (-i)) (tC (.int 2)))) za0)
theorem zbV (K:PySem.W.Frag) (D:zb1) (σ:St) (H:Hp):zdC K D σ H=(zbX (tOr (zaA (tOp rNe (tBM K "list" (zmf K) (zac 1) (zab (tC (.bl true)) zas)) (tC (.int 1)))) (zgH (tB (tCB (zb0 K) (zab (zac 0) (zab (tC (.ty "ValueError")) zas)))))) (zbK (tUn (rU fun i=>.int (-i)) (tC (.int 2)))) za0) D σ H:=rfl
def ze7 (K:PySem.W.Frag) (a:Ad):TS :=
 (zaW (zbr (zdB (zab (tCB (zb0 K) (zab (zac 0) (zab (tC (.ref a.c_NoWeb)) zas))) (zab (tCB (zb0 K) (zab (zac 0) (zab (tC (.ref a.c_NoPlan)) zas))) (zab (tCB (zb0 K) (zab (zac 0) (zab (tC (.ref a.c_NoText)) zas))) zas)))) (zai 1))
 (zaW (zbr (tOp zg1 (zac 1) (zdB (zab (tCB (zb0 K) (zab (zac 0) (zab (tC (.ref a.c_NoKind)) zas))) (zab (tCB (zb0 K) (zab (zac 0) (zab (tC (.ref a.c_TooGreat)) zas))) (zab (tCB (zb0 K) (zab (zac 0) (zab (tC (.ref a.c_NoTree)) zas))) zas))))) (zai 1))
 (zaW (zbr (tOp zg1 (zac 1) (zdB (zab (tCB (zb0 K) (zab (zac 0) (zab (tC (.ref a.c_NoWeights)) zas))) (zab (tCB (zb0 K) (zab (zac 0) (zab (tC (.ref a.c_NoTurns)) zas))) (zab (tCB (zb0 K) (zab (zac 0) (zab (tC (.ref a.c_NoNumber)) zas))) zas))))) (zai 1))
 (zaW (zbr (tOp zg1 (zac 1) (zdB (zab (tCB (zb0 K) (zab (zac 0) (zab (tC (.ref a.c_NoBoxes)) zas))) (zab (tCB (zb0 K) (zab (zac 0) (zab (tC (.ref a.c_NoBudget)) zas))) (zab (tCB (zb0 K) (zab (zac 0) (zab (tC (.ref a.c_NoName)) zas))) zas))))) (zai 1))
 (zaW (zbr (tOp zg1 (zac 1) (zdB (zab (tCB (zb0 K) (zab (zac 0) (zab (tC (.ref a.c_NoOrder)) zas))) (zab (tCB (zb0 K) (zab (zac 0) (zab (tC (.ref a.c_NoPlay)) zas))) (zab (tCB (zb0 K) (zab (zac 0) (zab (tC (.ref a.c_NoRoad)) zas))) zas))))) (zai 1))
 (zaW (zbr (tOp zg1 (zac 1) (zdB (zab (tCB (zb0 K) (zab (zac 0) (zab (tC (.ref a.c_NoRow)) zas))) (zab (tCB (zb0 K) (zab (zac 0) (zab (tC (.ref a.c_NoTable)) zas))) (zab (tCB (zb0 K) (zab (zac 0) (zab (tC (.ref a.c_NoPaper)) zas))) zas))))) (zai 1))
 (zaW (zdk (zdC K))
 (zbK (tBM K "list" (zoW K) (zac 1) (zab (tC (.bl true)) zas))))))))))
theorem zbW (K:PySem.W.Frag) (a:Ad) (D:zb1) (σ:St) (H:Hp):ze7 K a D σ H=(zaW (zbr (zdB (zab (tCB (zb0 K) (zab (zac 0) (zab (tC (.ref a.c_NoWeb)) zas))) (zab (tCB (zb0 K) (zab (zac 0) (zab (tC (.ref a.c_NoPlan)) zas))) (zab (tCB (zb0 K) (zab (zac 0) (zab (tC (.ref a.c_NoText)) zas))) zas)))) (zai 1))
 (zaW (zbr (tOp zg1 (zac 1) (zdB (zab (tCB (zb0 K) (zab (zac 0) (zab (tC (.ref a.c_NoKind)) zas))) (zab (tCB (zb0 K) (zab (zac 0) (zab (tC (.ref a.c_TooGreat)) zas))) (zab (tCB (zb0 K) (zab (zac 0) (zab (tC (.ref a.c_NoTree)) zas))) zas))))) (zai 1))
 (zaW (zbr (tOp zg1 (zac 1) (zdB (zab (tCB (zb0 K) (zab (zac 0) (zab (tC (.ref a.c_NoWeights)) zas))) (zab (tCB (zb0 K) (zab (zac 0) (zab (tC (.ref a.c_NoTurns)) zas))) (zab (tCB (zb0 K) (zab (zac 0) (zab (tC (.ref a.c_NoNumber)) zas))) zas))))) (zai 1))
 (zaW (zbr (tOp zg1 (zac 1) (zdB (zab (tCB (zb0 K) (zab (zac 0) (zab (tC (.ref a.c_NoBoxes)) zas))) (zab (tCB (zb0 K) (zab (zac 0) (zab (tC (.ref a.c_NoBudget)) zas))) (zab (tCB (zb0 K) (zab (zac 0) (zab (tC (.ref a.c_NoName)) zas))) zas))))) (zai 1))
 (zaW (zbr (tOp zg1 (zac 1) (zdB (zab (tCB (zb0 K) (zab (zac 0) (zab (tC (.ref a.c_NoOrder)) zas))) (zab (tCB (zb0 K) (zab (zac 0) (zab (tC (.ref a.c_NoPlay)) zas))) (zab (tCB (zb0 K) (zab (zac 0) (zab (tC (.ref a.c_NoRoad)) zas))) zas))))) (zai 1))
 (zaW (zbr (tOp zg1 (zac 1) (zdB (zab (tCB (zb0 K) (zab (zac 0) (zab (tC (.ref a.c_NoRow)) zas))) (zab (tCB (zb0 K) (zab (zac 0) (zab (tC (.ref a.c_NoTable)) zas))) (zab (tCB (zb0 K) (zab (zac 0) (zab (tC (.ref a.c_NoPaper)) zas))) zas))))) (zai 1))
 (zaW (zdk (zdC K))
 (zbK (tBM K "list" (zoW K) (zac 1) (zab (tC (.bl true)) zas)))))))))) D σ H:=rfl
def zeU:TS :=
 (zbX (zaA (tOp (fun x y H Q=>y=.non∧Q (.bl (decide (x=.non))) H) (zac 0) (tC .non))) (zbK (tUn (rU fun i=>.int (-i)) (tC (.int 1)))) za0)
theorem zbU (D:zb1) (σ:St) (H:Hp):zeU D σ H=(zbX (zaA (tOp (fun x y H Q=>y=.non∧Q (.bl (decide (x=.non))) H) (zac 0) (tC .non))) (zbK (tUn (rU fun i=>.int (-i)) (tC (.int 1)))) za0) D σ H:=rfl
def zeg (K:PySem.W.Frag) (a:Ad):TS :=
 (zaW (zdk (zeU))
 (ze7 K a))
theorem isV {x:Addr} {od:Option Addr} {d:V} {cv dv:Value} {b:Bool} (hc:clsV d=some dv) (h:H x=some (zgL x cv od)) (k:zhX K cv) (e:PySem.W.kitOne K cv dv=some b) (q:Q (.bl b) H):zb0 K [.ref x,d] H Q:=⟨x,d,cv,_,dv,b,rfl,hc,h,k,e,q⟩
theorem zi7 {r:Addr} {od:Option Addr} (I:Isa K a) (hr:H r=some (zgL r (.ref a.c_NoText) od)) (q:∀ H',za3 H H'→Q (.int 2) H'):zeg K a { nx:=fun _ H'=>Q .non H',rt:=Q } (L2.zbY ["_law_caught","_law_tests"] [.ref r]) H:=by
 unfold zeg
 simp_all only [zbV,zbW,zbU,zac]
 refine ⟨fun σ H'=>H'=H∧σ=[some (.ref r),none],?_,?_⟩
 ·simp_all only [zbV,zbW,zbU,zac]
 rintro σ H' ⟨e,rfl⟩
 rw [e]
 simp_all only [zbV,zbW,zbU,zac]
 refine isV rfl hr I.ec I.k_NoWeb ?_
 refine isV rfl hr I.ec I.k_NoPlan ?_
 refine isV rfl hr I.ec I.k_NoText ?_
 refine ⟨by decide,fun p0 n0=>?_⟩
 have s0:=zaw n0 (.lst [V.bl false,V.bl false,V.bl true])
 have l0:(L2.upd H p0 (.lst [V.bl false,V.bl false,V.bl true])) p0=some (.lst [V.bl false,V.bl false,V.bl true]):=zaf
 generalize L2.upd H p0 (.lst [V.bl false,V.bl false,V.bl true])=G0 at s0 l0 ⊢
 have h0:=s0 _ _ hr
 refine isV rfl h0 I.ec I.k_NoKind ?_
 refine isV rfl h0 I.ec I.k_TooGreat ?_
 refine isV rfl h0 I.ec I.k_NoTree ?_
 refine ⟨by decide,fun p1 n1=>?_⟩
 have s1:=zaw n1 (.lst [V.bl false,V.bl false,V.bl false])
 have l1:(L2.upd G0 p1 (.lst [V.bl false,V.bl false,V.bl false])) p1=some (.lst [V.bl false,V.bl false,V.bl false]):=zaf
 generalize L2.upd G0 p1 (.lst [V.bl false,V.bl false,V.bl false])=G1 at s1 l1 ⊢
 refine ⟨_,s1 _ _ l0,_,l1,by decide,fun u1 m1=>?_⟩
 simp only [List.cons_append,List.nil_append]
 have t1:=zaw m1 (.lst [V.bl false,V.bl false,V.bl true,V.bl false,V.bl false,V.bl false])
 have k1:(L2.upd G1 u1 (.lst [V.bl false,V.bl false,V.bl true,V.bl false,V.bl false,V.bl false])) u1=some (.lst [V.bl false,V.bl false,V.bl true,V.bl false,V.bl false,V.bl false]):=zaf
 generalize L2.upd G1 u1 (.lst [V.bl false,V.bl false,V.bl true,V.bl false,V.bl false,V.bl false])=F1 at t1 k1 ⊢
 have z1:=(s0.trans s1).trans t1
 have h1:=z1 _ _ hr
 refine isV rfl h1 I.ec I.k_NoWeights ?_
 refine isV rfl h1 I.ec I.k_NoTurns ?_
 refine isV rfl h1 I.ec I.k_NoNumber ?_
 refine ⟨by decide,fun p2 n2=>?_⟩
 have s2:=zaw n2 (.lst [V.bl false,V.bl false,V.bl false])
 have l2:(L2.upd F1 p2 (.lst [V.bl false,V.bl false,V.bl false])) p2=some (.lst [V.bl false,V.bl false,V.bl false]):=zaf
 generalize L2.upd F1 p2 (.lst [V.bl false,V.bl false,V.bl false])=G2 at s2 l2 ⊢
 refine ⟨_,s2 _ _ k1,_,l2,by decide,fun u2 m2=>?_⟩
 simp only [List.cons_append,List.nil_append]
 have t2:=zaw m2 (.lst [V.bl false,V.bl false,V.bl true,V.bl false,V.bl false,V.bl false,V.bl false,V.bl false,V.bl false])
 have k2:(L2.upd G2 u2 (.lst [V.bl false,V.bl false,V.bl true,V.bl false,V.bl false,V.bl false,V.bl false,V.bl false,V.bl false])) u2=some (.lst [V.bl false,V.bl false,V.bl true,V.bl false,V.bl false,V.bl false,V.bl false,V.bl false,V.bl false]):=zaf
 generalize L2.upd G2 u2 (.lst [V.bl false,V.bl false,V.bl true,V.bl false,V.bl false,V.bl false,V.bl false,V.bl false,V.bl false])=F2 at t2 k2 ⊢
 have z2:=(z1.trans s2).trans t2
 have h2:=z2 _ _ hr
 refine isV rfl h2 I.ec I.k_NoBoxes ?_
 refine isV rfl h2 I.ec I.k_NoBudget ?_
 refine isV rfl h2 I.ec I.k_NoName ?_
 refine ⟨by decide,fun p3 n3=>?_⟩
 have s3:=zaw n3 (.lst [V.bl false,V.bl false,V.bl false])
 have l3:(L2.upd F2 p3 (.lst [V.bl false,V.bl false,V.bl false])) p3=some (.lst [V.bl false,V.bl false,V.bl false]):=zaf
 generalize L2.upd F2 p3 (.lst [V.bl false,V.bl false,V.bl false])=G3 at s3 l3 ⊢
 refine ⟨_,s3 _ _ k2,_,l3,by decide,fun u3 m3=>?_⟩
 simp only [List.cons_append,List.nil_append]
 have t3:=zaw m3 (.lst [V.bl false,V.bl false,V.bl true,V.bl false,V.bl false,V.bl false,V.bl false,V.bl false,V.bl false,V.bl false,V.bl false,V.bl false])
 have k3:(L2.upd G3 u3 (.lst [V.bl false,V.bl false,V.bl true,V.bl false,V.bl false,V.bl false,V.bl false,V.bl false,V.bl false,V.bl false,V.bl false,V.bl false])) u3=some (.lst [V.bl false,V.bl false,V.bl true,V.bl false,V.bl false,V.bl false,V.bl false,V.bl false,V.bl false,V.bl false,V.bl false,V.bl false]):=zaf
 generalize L2.upd G3 u3 (.lst [V.bl false,V.bl false,V.bl true,V.bl false,V.bl false,V.bl false,V.bl false,V.bl false,V.bl false,V.bl false,V.bl false,V.bl false])=F3 at t3 k3 ⊢
 have z3:=(z2.trans s3).trans t3
 have h3:=z3 _ _ hr
 refine isV rfl h3 I.ec I.k_NoOrder ?_
 refine isV rfl h3 I.ec I.k_NoPlay ?_
 refine isV rfl h3 I.ec I.k_NoRoad ?_
 refine ⟨by decide,fun p4 n4=>?_⟩
 have s4:=zaw n4 (.lst [V.bl false,V.bl false,V.bl false])
 have l4:(L2.upd F3 p4 (.lst [V.bl false,V.bl false,V.bl false])) p4=some (.lst [V.bl false,V.bl false,V.bl false]):=zaf
 generalize L2.upd F3 p4 (.lst [V.bl false,V.bl false,V.bl false])=G4 at s4 l4 ⊢
 refine ⟨_,s4 _ _ k3,_,l4,by decide,fun u4 m4=>?_⟩
 simp only [List.cons_append,List.nil_append]
 have t4:=zaw m4 (.lst [V.bl false,V.bl false,V.bl true,V.bl false,V.bl false,V.bl false,V.bl false,V.bl false,V.bl false,V.bl false,V.bl false,V.bl false,V.bl false,V.bl false,V.bl false])
 have k4:(L2.upd G4 u4 (.lst [V.bl false,V.bl false,V.bl true,V.bl false,V.bl false,V.bl false,V.bl false,V.bl false,V.bl false,V.bl false,V.bl false,V.bl false,V.bl false,V.bl false,V.bl false])) u4=some (.lst [V.bl false,V.bl false,V.bl true,V.bl false,V.bl false,V.bl false,V.bl false,V.bl false,V.bl false,V.bl false,V.bl false,V.bl false,V.bl false,V.bl false,V.bl false]):=zaf
 generalize L2.upd G4 u4 (.lst [V.bl false,V.bl false,V.bl true,V.bl false,V.bl false,V.bl false,V.bl false,V.bl false,V.bl false,V.bl false,V.bl false,V.bl false,V.bl false,V.bl false,V.bl false])=F4 at t4 k4 ⊢
 have z4:=(z3.trans s4).trans t4
 have h4:=z4 _ _ hr
 refine isV rfl h4 I.ec I.k_NoRow ?_
 refine isV rfl h4 I.ec I.k_NoTable ?_
 refine isV rfl h4 I.ec I.k_NoPaper ?_
 refine ⟨by decide,fun p5 n5=>?_⟩
 have s5:=zaw n5 (.lst [V.bl false,V.bl false,V.bl false])
 have l5:(L2.upd F4 p5 (.lst [V.bl false,V.bl false,V.bl false])) p5=some (.lst [V.bl false,V.bl false,V.bl false]):=zaf
 generalize L2.upd F4 p5 (.lst [V.bl false,V.bl false,V.bl false])=G5 at s5 l5 ⊢
 refine ⟨_,s5 _ _ k4,_,l5,by decide,fun u5 m5=>?_⟩
 simp only [List.cons_append,List.nil_append]
 have t5:=zaw m5 (.lst [V.bl false,V.bl false,V.bl true,V.bl false,V.bl false,V.bl false,V.bl false,V.bl false,V.bl false,V.bl false,V.bl false,V.bl false,V.bl false,V.bl false,V.bl false,V.bl false,V.bl false,V.bl false])
 have k5:(L2.upd G5 u5 (.lst [V.bl false,V.bl false,V.bl true,V.bl false,V.bl false,V.bl false,V.bl false,V.bl false,V.bl false,V.bl false,V.bl false,V.bl false,V.bl false,V.bl false,V.bl false,V.bl false,V.bl false,V.bl false])) u5=some (.lst [V.bl false,V.bl false,V.bl true,V.bl false,V.bl false,V.bl false,V.bl false,V.bl false,V.bl false,V.bl false,V.bl false,V.bl false,V.bl false,V.bl false,V.bl false,V.bl false,V.bl false,V.bl false]):=zaf
 generalize L2.upd G5 u5 (.lst [V.bl false,V.bl false,V.bl true,V.bl false,V.bl false,V.bl false,V.bl false,V.bl false,V.bl false,V.bl false,V.bl false,V.bl false,V.bl false,V.bl false,V.bl false,V.bl false,V.bl false,V.bl false])=F5 at t5 k5 ⊢
 have z5:=(z4.trans s5).trans t5
 have h5:=z5 _ _ hr
 refine ⟨fun σ H'=>H'=F5∧σ=[some (.ref r),some (.ref u5)],?_,?_⟩
 ·simp_all only [zbV,zbW,zbU,zac]
  refine ⟨.inl ⟨rfl,_,SqL.of k5⟩,_,SqL.of k5,rfl,rfl,?_⟩
  refine zdq (fun z=>absurd rfl z) (fun _=>?_)
  exact isV rfl h5 I.ec I.k_ValueError ⟨true,rfl,zdq (fun z=>absurd z (by decide)) (fun _=>rfl)⟩
 rintro σ H' ⟨e,rfl⟩
 rw [e]
 simp_all only [zbV,zbW,zbU,zac]
 exact ⟨.inl ⟨rfl,_,SqL.of k5⟩,_,_,_,2,rfl,rfl,SqL.of k5,rfl,rfl,rfl,by decide,q _ z5⟩
theorem zb6:za7 ["_law_caught","_law_tests"] ["_law_caught"] (zav zen):=⟨rfl,rfl,rfl,by decide +kernel,rfl,by decide +kernel,by decide +kernel⟩
theorem zit (T:Txt K mg base a):zdD P w K mg base CX0 1 a.f__law_class a.d__law_class ["_law_caught"] (zk1 a):=by
 refine T.F__law_class.ok zb6 (fun vs H Q E h=>?_) (fun cdv A outer s H vs Q E hr h=>?_)
 ·obtain ⟨r,od,rfl,h,q⟩:=h
  rfl
 obtain ⟨r,od,rfl,h,q⟩:=h
 exact ⟨zeg K a,(zag (zbz (zbN (zay zhb (pv 0) zb2 (zaF _)) (zat (zaY (zjE zgG zah))) zaV))
 (zag (zaP (i:=1) zb6.nd rfl (Or.inl rfl) (zcj (zaa (zaj zaS rfl T.z_isinstance PyProof.Rows.boot_isinstance (zaa (pv 0) (zaa (zbG rfl T.m_NoWeb rfl) zae))) (zaa (zaj zaS rfl T.z_isinstance PyProof.Rows.boot_isinstance (zaa (pv 0) (zaa (zbG rfl T.m_NoPlan rfl) zae))) (zaa (zaj zaS rfl T.z_isinstance PyProof.Rows.boot_isinstance (zaa (pv 0) (zaa (zbG rfl T.m_NoText rfl) zae))) zae)))))
 (zag (zaP (i:=1) zb6.nd rfl (Or.inl rfl) (zaC zdt (pv 1) (zcj (zaa (zaj zaS rfl T.z_isinstance PyProof.Rows.boot_isinstance (zaa (pv 0) (zaa (zbG rfl T.m_NoKind rfl) zae))) (zaa (zaj zaS rfl T.z_isinstance PyProof.Rows.boot_isinstance (zaa (pv 0) (zaa (zbG rfl T.m_TooGreat rfl) zae))) (zaa (zaj zaS rfl T.z_isinstance PyProof.Rows.boot_isinstance (zaa (pv 0) (zaa (zbG rfl T.m_NoTree rfl) zae))) zae))))))
 (zag (zaP (i:=1) zb6.nd rfl (Or.inl rfl) (zaC zdt (pv 1) (zcj (zaa (zaj zaS rfl T.z_isinstance PyProof.Rows.boot_isinstance (zaa (pv 0) (zaa (zbG rfl T.m_NoWeights rfl) zae))) (zaa (zaj zaS rfl T.z_isinstance PyProof.Rows.boot_isinstance (zaa (pv 0) (zaa (zbG rfl T.m_NoTurns rfl) zae))) (zaa (zaj zaS rfl T.z_isinstance PyProof.Rows.boot_isinstance (zaa (pv 0) (zaa (zbG rfl T.m_NoNumber rfl) zae))) zae))))))
 (zag (zaP (i:=1) zb6.nd rfl (Or.inl rfl) (zaC zdt (pv 1) (zcj (zaa (zaj zaS rfl T.z_isinstance PyProof.Rows.boot_isinstance (zaa (pv 0) (zaa (zbG rfl T.m_NoBoxes rfl) zae))) (zaa (zaj zaS rfl T.z_isinstance PyProof.Rows.boot_isinstance (zaa (pv 0) (zaa (zbG rfl T.m_NoBudget rfl) zae))) (zaa (zaj zaS rfl T.z_isinstance PyProof.Rows.boot_isinstance (zaa (pv 0) (zaa (zbG rfl T.m_NoName rfl) zae))) zae))))))
 (zag (zaP (i:=1) zb6.nd rfl (Or.inl rfl) (zaC zdt (pv 1) (zcj (zaa (zaj zaS rfl T.z_isinstance PyProof.Rows.boot_isinstance (zaa (pv 0) (zaa (zbG rfl T.m_NoOrder rfl) zae))) (zaa (zaj zaS rfl T.z_isinstance PyProof.Rows.boot_isinstance (zaa (pv 0) (zaa (zbG rfl T.m_NoPlay rfl) zae))) (zaa (zaj zaS rfl T.z_isinstance PyProof.Rows.boot_isinstance (zaa (pv 0) (zaa (zbG rfl T.m_NoRoad rfl) zae))) zae))))))
 (zag (zaP (i:=1) zb6.nd rfl (Or.inl rfl) (zaC zdt (pv 1) (zcj (zaa (zaj zaS rfl T.z_isinstance PyProof.Rows.boot_isinstance (zaa (pv 0) (zaa (zbG rfl T.m_NoRow rfl) zae))) (zaa (zaj zaS rfl T.z_isinstance PyProof.Rows.boot_isinstance (zaa (pv 0) (zaa (zbG rfl T.m_NoTable rfl) zae))) (zaa (zaj zaS rfl T.z_isinstance PyProof.Rows.boot_isinstance (zaa (pv 0) (zaa (zbG rfl T.m_NoPaper rfl) zae))) zae))))))
 (zag (zbz (zbN (PW.pt (zcL (zay zd8 (zdG PySem.F.plainAttrs_list PySem.F.slot_list_count PySem.F.type_list_count zqq (pv 1) (zaa zhM zae)) zah (zaF _)) (zcZ (zd4 (zdm (zaj zaS rfl T.z_isinstance PyProof.Rows.boot_isinstance (zaa (pv 0) (zaa (zbM rfl T.z_ValueError zhp rfl) zae)))))))) (zat (zaY (zjE zgG zah))) zaV))
 (zat (zaY (zdG PySem.F.plainAttrs_list PySem.F.slot_list_index PySem.F.type_list_index zqY (pv 1) (zaa zhM zae)))))))))))),
  zi7 T.I h q⟩
inductive ShT (H:Hp):Nat→Tr→V→Prop where
 | int {n:Nat} (i:Int):ShT H n (.int i) (.int i)
 | str {n:Nat} (x:Str):ShT H n (.str x) (.str x)
 | lst {n:Nat} {p:Addr} {xs:List V} {ts:List Tr} (h:H p=some (.lst xs)) (l:xs.length=ts.length) (e:∀ (i:Nat) x t,xs[i]?=some x→ts[i]?=some t→ShT H n t x):ShT H (n+1) (.lst ts) (.ref p)
 | tup {n:Nat} {p:Addr} {xs:List V} {ts:List Tr} (h:H p=some (.tup xs)) (l:xs.length=ts.length) (e:∀ (i:Nat) x t,xs[i]?=some x→ts[i]?=some t→ShT H n t x):ShT H (n+1) (.tup ts) (.ref p)
def zmo (n:Nat):Sp:=fun vs H Q _=>∃ (x y:V) (t:Tr),vs=[x,y]∧ShT H n t x∧ShT H n t y∧∀ H',za3 H H'→Q (.bl true) H'
def zk6:Nat→Sp
 | 0=>zoQ
 | n+1=>zmo n
theorem ShT.same {H H':Hp} (s:za3 H H') {n:Nat} {t:Tr} {x:V} (h:ShT H n t x):ShT H' n t x:=by
 induction h with
 | int i=>exact .int i
 | str x=>exact .str x
 | lst h l _ ih=>exact .lst (s _ _ h) l ih
 | tup h l _ ih=>exact .tup (s _ _ h) l ih
def zf0:TS :=
 (zbK (zcV (tOp (fun x y H Q=>y=.non∧Q (.bl (decide (x=.non))) H) (zac 1) (tC .non)) (tOp (fun x y H Q=>y=.non∧Q (.bl (decide (x=.non))) H) (zac 0) (tC .non))))
theorem zaq (D:zb1) (σ:St) (H:Hp):zf0 D σ H=(zbK (zcV (tOp (fun x y H Q=>y=.non∧Q (.bl (decide (x=.non))) H) (zac 1) (tC .non)) (tOp (fun x y H Q=>y=.non∧Q (.bl (decide (x=.non))) H) (zac 0) (tC .non)))) D σ H:=rfl
def zfT (K:PySem.W.Frag):TS :=
 (zbX (tB (tCB (zdF K) (zab (zac 1) (zab (tC (.ty "str")) zas)))) (zbK (zcV (tCB (zdF K) (zab (zac 0) (zab (tC (.ty "str")) zas))) (tOp rEq (zac 0) (zac 1)))) za0)
theorem zao (K:PySem.W.Frag) (D:zb1) (σ:St) (H:Hp):zfT K D σ H=(zbX (tB (tCB (zdF K) (zab (zac 1) (zab (tC (.ty "str")) zas)))) (zbK (zcV (tCB (zdF K) (zab (zac 0) (zab (tC (.ty "str")) zas))) (tOp rEq (zac 0) (zac 1)))) za0) D σ H:=rfl
def zfV (K:PySem.W.Frag):TS :=
 (zbX (tB (tCB (zdF K) (zab (zac 1) (zab (tC (.ty "int")) zas)))) (zbK (zcV (tCB (zdF K) (zab (zac 0) (zab (tC (.ty "int")) zas))) (zcV (zmP (tCB (zdF K) (zab (zac 0) (zab (tC (.ty "bool")) zas)))) (tOp rEq (zac 0) (zac 1))))) za0)
theorem zan (K:PySem.W.Frag) (D:zb1) (σ:St) (H:Hp):zfV K D σ H=(zbX (tB (tCB (zdF K) (zab (zac 1) (zab (tC (.ty "int")) zas)))) (zbK (zcV (tCB (zdF K) (zab (zac 0) (zab (tC (.ty "int")) zas))) (zcV (zmP (tCB (zdF K) (zab (zac 0) (zab (tC (.ty "bool")) zas)))) (tOp rEq (zac 0) (zac 1))))) za0) D σ H:=rfl
def zfL (K:PySem.W.Frag):TS :=
 (zbX (tB (tCB (zdF K) (zab (zac 1) (zab (tC (.ty "bool")) zas)))) (zbK (zcV (tCB (zdF K) (zab (zac 0) (zab (tC (.ty "bool")) zas))) (tOp rEq (zac 0) (zac 1)))) za0)
theorem zam (K:PySem.W.Frag) (D:zb1) (σ:St) (H:Hp):zfL K D σ H=(zbX (tB (tCB (zdF K) (zab (zac 1) (zab (tC (.ty "bool")) zas)))) (zbK (zcV (tCB (zdF K) (zab (zac 0) (zab (tC (.ty "bool")) zas))) (tOp rEq (zac 0) (zac 1)))) za0) D σ H:=rfl
def zd1 (K:PySem.W.Frag) (nRec:Nat):TS :=
 (zaW (zgJ (zqt K (zab (zac 0) (zab (zac 1) zas))) (zhj K 2 (zbn (zai 2) (zbn (zai 3) zgK)))
 (zbX (zgH (tB (za9 (zk6 nRec) [] E0 (zab (zac 2) (zab (zac 3) zas))))) (zbK (tC (.bl false))) za0))
 (zbK (tC (.bl true))))
theorem zak (K:PySem.W.Frag) (nRec:Nat) (D:zb1) (σ:St) (H:Hp):zd1 K nRec D σ H=(zaW (zgJ (zqt K (zab (zac 0) (zab (zac 1) zas))) (zhj K 2 (zbn (zai 2) (zbn (zai 3) zgK)))
 (zbX (zgH (tB (za9 (zk6 nRec) [] E0 (zab (zac 2) (zab (zac 3) zas))))) (zbK (tC (.bl false))) za0))
 (zbK (tC (.bl true)))) D σ H:=rfl
def zdY (K:PySem.W.Frag):TS :=
 (zbX (zaA (tOp rNe (tCB (fun xs H Q=>∃ p ys,xs=[.ref p]∧(SqL K H p ys∨SqT K H p ys)∧Q (.int ys.length) H) (zab (zac 0) zas)) (tCB (fun xs H Q=>∃ p ys,xs=[.ref p]∧(SqL K H p ys∨SqT K H p ys)∧Q (.int ys.length) H) (zab (zac 1) zas)))) (zbK (tC (.bl false))) za0)
theorem zal (K:PySem.W.Frag) (D:zb1) (σ:St) (H:Hp):zdY K D σ H=(zbX (zaA (tOp rNe (tCB (fun xs H Q=>∃ p ys,xs=[.ref p]∧(SqL K H p ys∨SqT K H p ys)∧Q (.int ys.length) H) (zab (zac 0) zas)) (tCB (fun xs H Q=>∃ p ys,xs=[.ref p]∧(SqL K H p ys∨SqT K H p ys)∧Q (.int ys.length) H) (zab (zac 1) zas)))) (zbK (tC (.bl false))) za0) D σ H:=rfl
def zdN (K:PySem.W.Frag):TS :=
 (zbX (tOr (zaA (tOp rNe (tCB (zdF K) (zab (zac 0) (zab (tC (.ty "tuple")) zas))) (tCB (zdF K) (zab (zac 1) (zab (tC (.ty "tuple")) zas))))) (zaA (tOp rNe (tCB (zdF K) (zab (zac 0) (zab (tC (.ty "list")) zas))) (tCB (zdF K) (zab (zac 1) (zab (tC (.ty "list")) zas)))))) (zbK (tC (.bl false))) za0)
theorem zar (K:PySem.W.Frag) (D:zb1) (σ:St) (H:Hp):zdN K D σ H=(zbX (tOr (zaA (tOp rNe (tCB (zdF K) (zab (zac 0) (zab (tC (.ty "tuple")) zas))) (tCB (zdF K) (zab (zac 1) (zab (tC (.ty "tuple")) zas))))) (zaA (tOp rNe (tCB (zdF K) (zab (zac 0) (zab (tC (.ty "list")) zas))) (tCB (zdF K) (zab (zac 1) (zab (tC (.ty "list")) zas)))))) (zbK (tC (.bl false))) za0) D σ H:=rfl
def zfX (K:PySem.W.Frag) (nRec:Nat):TS :=
 (zbX (tOr (tB (tCB (zdF K) (zab (zac 1) (zab (tC (.ty "tuple")) zas)))) (tB (tCB (zdF K) (zab (zac 1) (zab (tC (.ty "list")) zas))))) (zaW (zdk (zdN K))
 (zaW (zdk (zdY K))
 (zd1 K nRec))) za0)
theorem zap (K:PySem.W.Frag) (nRec:Nat) (D:zb1) (σ:St) (H:Hp):zfX K nRec D σ H=(zbX (tOr (tB (tCB (zdF K) (zab (zac 1) (zab (tC (.ty "tuple")) zas)))) (tB (tCB (zdF K) (zab (zac 1) (zab (tC (.ty "list")) zas))))) (zaW (zdk (zdN K))
 (zaW (zdk (zdY K))
 (zd1 K nRec))) za0) D σ H:=rfl
def ze9 (K:PySem.W.Frag) (nRec:Nat):TS :=
 (zaW (zdk (zfX K nRec))
 (zaW (zdk (zfL K))
 (zaW (zdk (zfV K))
 (zaW (zdk (zfT K))
 (zf0)))))
theorem zkB {n:Nat} {x y:V} {t:Tr} (h1:ShT H n t x) (h2:ShT H n t y) (q:∀ H',za3 H H'→Q (.bl true) H') :
  ze9 K n { nx:=fun _ H'=>Q .non H',rt:=Q } (L2.zbY ["_law_told_here","_law_due_here","_law_one","_law_other"] [x,y]) H:=by
 unfold ze9
 simp_all only [zaq,zao,zan,zam,zak,zal,zar,zap,zac]
 have q0:=q H (.refl _)
 cases h1 with
 | int i =>
  cases h2
  refine ⟨fun σ H'=>H'=H∧σ=[some (.int i),some (.int i),none,none],?_,?_⟩
  ·simp_all only [zaq,zao,zan,zam,zak,zal,zar,zap,zac]
   refine zdw (.int i) (ziS K) ⟨false,rfl,zrt ?_⟩
   refine zdw (.int i) (zjP K) ⟨false,rfl,zrt ?_⟩
   first | rfl | trivial
  rintro σ H1 ⟨rfl,rfl⟩
  simp_all only [zaq,zao,zan,zam,zak,zal,zar,zap,zac]
  refine ⟨fun σ H'=>H'=H1∧σ=[some (.int i),some (.int i),none,none],?_,?_⟩
  ·simp_all only [zaq,zao,zan,zam,zak,zal,zar,zap,zac]
   refine zdw (.int i) (zgu K) ⟨false,rfl,zrt ?_⟩
   first | rfl | trivial
  rintro σ H2 ⟨rfl,rfl⟩
  simp_all only [zaq,zao,zan,zam,zak,zal,zar,zap,zac]
  refine ⟨fun σ H'=>False,?_,fun _ _ z=>z.elim⟩
  simp_all only [zaq,zao,zan,zam,zak,zal,zar,zap,zac]
  refine zdO ⟨true,rfl,zp1 ?_⟩
  refine zdO ⟨true,rfl,zp1 ?_⟩
  refine zeB ⟨_,rfl,?_⟩
  exact zdq (fun _=>by simpa using q0) (fun z=>absurd rfl z)
 | str z =>
  cases h2
  refine ⟨fun σ H'=>H'=H∧σ=[some (.str z),some (.str z),none,none],?_,?_⟩
  ·simp_all only [zaq,zao,zan,zam,zak,zal,zar,zap,zac]
   refine zdw (.str z) (zjf K) ⟨false,rfl,zrt ?_⟩
   refine zdw (.str z) (zkA K) ⟨false,rfl,zrt ?_⟩
   first | rfl | trivial
  rintro σ H1 ⟨rfl,rfl⟩
  simp_all only [zaq,zao,zan,zam,zak,zal,zar,zap,zac]
  refine ⟨fun σ H'=>H'=H1∧σ=[some (.str z),some (.str z),none,none],?_,?_⟩
  ·simp_all only [zaq,zao,zan,zam,zak,zal,zar,zap,zac]
   refine zdw (.str z) (zkj K) ⟨false,rfl,zrt ?_⟩
   first | rfl | trivial
  rintro σ H2 ⟨rfl,rfl⟩
  simp_all only [zaq,zao,zan,zam,zak,zal,zar,zap,zac]
  refine ⟨fun σ H'=>H'=H2∧σ=[some (.str z),some (.str z),none,none],?_,?_⟩
  ·simp_all only [zaq,zao,zan,zam,zak,zal,zar,zap,zac]
   refine zdw (.str z) (zlp K) ⟨false,rfl,zrt ?_⟩
   first | rfl | trivial
  rintro σ H3 ⟨rfl,rfl⟩
  simp_all only [zaq,zao,zan,zam,zak,zal,zar,zap,zac]
  refine ⟨fun σ H'=>False,?_,fun _ _ z=>z.elim⟩
  simp_all only [zaq,zao,zan,zam,zak,zal,zar,zap,zac]
  refine zdw (.str z) rfl ⟨true,rfl,zp1 ?_⟩
  refine zdw (.str z) rfl ⟨true,rfl,zp1 ?_⟩
  exact ⟨rfl,by simpa using q0⟩
 | @lst n p xs ts h l e =>
  cases h2 with
  | @lst _ p2 ys _ h' l' e' =>
   refine ⟨fun σ H'=>False,?_,fun _ _ z=>z.elim⟩
   simp_all only [zaq,zao,zan,zam,zak,zal,zar,zap,zac]
   refine zdw (.lst h') (zdy K) ⟨false,rfl,zrt ?_⟩
   refine zdP h' ⟨true,rfl,zp1 ?_⟩
   refine ⟨fun σ H'=>H'=H∧σ=[some (.ref p),some (.ref p2),none,none],?_,?_⟩
   ·simp_all only [zaq,zao,zan,zam,zak,zal,zar,zap,zac]
    refine zdw (.lst h) (zdy K) ?_
    refine zdw (.lst h') (zdy K) ?_
    refine ⟨rfl,zdq (fun z=>absurd rfl z) (fun _=>?_)⟩
    refine zdP h ?_
    refine zdP h' ?_
    refine ⟨rfl,zdq (fun z=>absurd rfl z) (fun _=>?_)⟩
    first | rfl | trivial
   rintro σ H1 ⟨rfl,rfl⟩
   simp_all only [zaq,zao,zan,zam,zak,zal,zar,zap,zac]
   refine ⟨fun σ H'=>H'=H1∧σ=[some (.ref p),some (.ref p2),none,none],?_,?_⟩
   ·simp_all only [zaq,zao,zan,zam,zak,zal,zar,zap,zac]
    refine ⟨_,.inl (SqL.of h),_,.inl (SqL.of h'),?_⟩
    rw [l,l']
    exact zdq (fun z=>absurd rfl z) (fun _=>by first | rfl | trivial)
   rintro σ H2 ⟨rfl,rfl⟩
   simp_all only [zaq,zao,zan,zam,zak,zal,zar,zap,zac]
   refine .inl ⟨⟨_,SqL.of h⟩,⟨_,SqL.of h'⟩,?_⟩
   refine zp2 (K:=K) (xs:=xs) (ys:=ys) (fun i σ H'=>za3 H2 H'∧∃ z1 z2,σ=[some (.ref p),some (.ref p2),z1,z2]) ⟨.refl _,_,_,rfl⟩ ?_ ?_ ?_
   ·rintro i σ H' _ ⟨s,_⟩
    exact ⟨SqL.of (s _ _ h),SqL.of (s _ _ h')⟩
   ·rintro i x y u σ H3 hx hy ⟨s3,z1,z2,rfl⟩ hu
    have lx:=(List.getElem?_eq_some_iff.mp hx).1
    have et:ts[i]?=some ts[i]:=List.getElem?_eq_getElem (by omega)
    simp_all only [zaq,zao,zan,zam,zak,zal,zar,zap,zac]
    refine ⟨_,SqT.of zaf,rfl,_,_,rfl,_,_,rfl,rfl,?_⟩
    have s4:=s3.add hu (o:=.tup [x,y])
    refine ⟨x,y,ts[i],rfl,(e i x _ hx et).same s4,(e' i y _ hy et).same s4,fun H5 s5=>?_⟩
    exact ⟨true,rfl,zdq (fun z=>absurd z (by decide)) (fun _=>s4.trans s5)⟩
   ·rintro σ H3 ⟨s3,z1,z2,rfl⟩
    simp_all only [zaq,zao,zan,zam,zak,zal,zar,zap,zac]
    exact q _ s3
 | @tup n p xs ts h l e =>
  cases h2 with
  | @tup _ p2 ys _ h' l' e' =>
   refine ⟨fun σ H'=>False,?_,fun _ _ z=>z.elim⟩
   simp_all only [zaq,zao,zan,zam,zak,zal,zar,zap,zac]
   refine zdo h' ⟨true,rfl,zp1 ?_⟩
   refine ⟨fun σ H'=>H'=H∧σ=[some (.ref p),some (.ref p2),none,none],?_,?_⟩
   ·simp_all only [zaq,zao,zan,zam,zak,zal,zar,zap,zac]
    refine zdo h ?_
    refine zdo h' ?_
    refine ⟨rfl,zdq (fun z=>absurd rfl z) (fun _=>?_)⟩
    refine zdw (.tup h) (zeV K) ?_
    refine zdw (.tup h') (zeV K) ?_
    refine ⟨rfl,zdq (fun z=>absurd rfl z) (fun _=>?_)⟩
    first | rfl | trivial
   rintro σ H1 ⟨rfl,rfl⟩
   simp_all only [zaq,zao,zan,zam,zak,zal,zar,zap,zac]
   refine ⟨fun σ H'=>H'=H1∧σ=[some (.ref p),some (.ref p2),none,none],?_,?_⟩
   ·simp_all only [zaq,zao,zan,zam,zak,zal,zar,zap,zac]
    refine ⟨_,.inr (SqT.of h),_,.inr (SqT.of h'),?_⟩
    rw [l,l']
    exact zdq (fun z=>absurd rfl z) (fun _=>by first | rfl | trivial)
   rintro σ H2 ⟨rfl,rfl⟩
   simp_all only [zaq,zao,zan,zam,zak,zal,zar,zap,zac]
   refine .inr ⟨⟨_,SqT.of h⟩,⟨_,SqT.of h'⟩,?_⟩
   refine zoc (K:=K) (xs:=xs) (ys:=ys) (fun i σ H'=>za3 H2 H'∧∃ z1 z2,σ=[some (.ref p),some (.ref p2),z1,z2]) ⟨.refl _,_,_,rfl⟩ ?_ ?_ ?_
   ·rintro i σ H' _ ⟨s,_⟩
    exact ⟨SqT.of (s _ _ h),SqT.of (s _ _ h')⟩
   ·rintro i x y u σ H3 hx hy ⟨s3,z1,z2,rfl⟩ hu
    have lx:=(List.getElem?_eq_some_iff.mp hx).1
    have et:ts[i]?=some ts[i]:=List.getElem?_eq_getElem (by omega)
    simp_all only [zaq,zao,zan,zam,zak,zal,zar,zap,zac]
    refine ⟨_,SqT.of zaf,rfl,_,_,rfl,_,_,rfl,rfl,?_⟩
    have s4:=s3.add hu (o:=.tup [x,y])
    refine ⟨x,y,ts[i],rfl,(e i x _ hx et).same s4,(e' i y _ hy et).same s4,fun H5 s5=>?_⟩
    exact ⟨true,rfl,zdq (fun z=>absurd z (by decide)) (fun _=>s4.trans s5)⟩
   ·rintro σ H3 ⟨s3,z1,z2,rfl⟩
    simp_all only [zaq,zao,zan,zam,zak,zal,zar,zap,zac]
    exact q _ s3
theorem zel:za7 ["_law_told_here","_law_due_here","_law_one","_law_other"] ["_law_told_here","_law_due_here"] (zav zfc):=⟨rfl,rfl,rfl,by decide +kernel,rfl,by decide +kernel,by decide +kernel⟩
theorem zeY (T:Txt K mg base a):∀ n,zdD P w K mg base CX0 n a.f__law_same a.d__law_same ["_law_told_here","_law_due_here"] (zk6 n)
 | 0=>zqA
 | n+1=>by
  have G__law_same:=zeY T n
  refine T.F__law_same.ok zel (fun vs H Q E h=>?_) (fun cdv A outer s H vs Q E hr h=>?_)
  ·obtain ⟨x,y,t,rfl,h1,h2,q⟩:=h
   rfl
  obtain ⟨x,y,t,rfl,h1,h2,q⟩:=h
  exact ⟨ze9 K n,(zag (zbz (zbN (PW.pt (zcL (zdm (zaj zaX rfl T.z_isinstance PyProof.Rows.boot_isinstance (zaa (pv 1) (zaa (zbM rfl T.z_tuple zcU rfl) zae)))) (zcZ (zdm (zaj zaX rfl T.z_isinstance PyProof.Rows.boot_isinstance (zaa (pv 1) (zaa (zbM rfl T.z_list zeh rfl) zae))))))) (zag (zbz (zbN (PW.pt (zcL (zay zd8 (zaj zaX rfl T.z_isinstance PyProof.Rows.boot_isinstance (zaa (pv 0) (zaa (zbM rfl T.z_tuple zcU rfl) zae))) (zaj zaX rfl T.z_isinstance PyProof.Rows.boot_isinstance (zaa (pv 1) (zaa (zbM rfl T.z_tuple zcU rfl) zae))) (zaF _)) (zcZ (zay zd8 (zaj zaX rfl T.z_isinstance PyProof.Rows.boot_isinstance (zaa (pv 0) (zaa (zbM rfl T.z_list zeh rfl) zae))) (zaj zaX rfl T.z_isinstance PyProof.Rows.boot_isinstance (zaa (pv 1) (zaa (zbM rfl T.z_list zeh rfl) zae))) (zaF _))))) (zat (zaY zhM)) zaV))
 (zag (zbz (zbN (zay zd8 (zaj zaB rfl T.z_len PySem.boot_len (zaa (pv 0) zae)) (zaj zaB rfl T.z_len PySem.boot_len (zaa (pv 1) zae)) (zaF _)) (zat (zaY zhM)) zaV))
 (zag (zds PassesOwn.never rfl (zse rfl T.z_zip (zaa (pv 0) (zaa (pv 1) zae))) (zd3 rfl (zaZ (zaO (i:=2) zel.nd rfl (Or.inl rfl)) (zaZ (zaO (i:=3) zel.nd rfl (Or.inl rfl)) zcT)))
 (zat (zbN (zd4 (zdm (za5 G__law_same (hr.mono (by omega)) rfl T.m__law_same T.F__law_same.kp T.b__law_same .nil zbZ (zaa (pv 2) (zaa (pv 3) zae))))) (zat (zaY zhM)) zaV)))
 (zat (zaY zhM))))) zaV))
 (zag (zbz (zbN (zdm (zaj zaX rfl T.z_isinstance PyProof.Rows.boot_isinstance (zaa (pv 1) (zaa (zbM rfl T.z_bool zd9 rfl) zae)))) (zat (zaY (zdr (zaj zaX rfl T.z_isinstance PyProof.Rows.boot_isinstance (zaa (pv 0) (zaa (zbM rfl T.z_bool zd9 rfl) zae))) (ze4 (zcG zdg (pv 0) (pv 1) (zaF _)))))) zaV))
 (zag (zbz (zbN (zdm (zaj zaX rfl T.z_isinstance PyProof.Rows.boot_isinstance (zaa (pv 1) (zaa (zbM rfl T.z_int zde rfl) zae)))) (zat (zaY (zdr (zaj zaX rfl T.z_isinstance PyProof.Rows.boot_isinstance (zaa (pv 0) (zaa (zbM rfl T.z_int zde rfl) zae))) (zdr (znX (zaj zaX rfl T.z_isinstance PyProof.Rows.boot_isinstance (zaa (pv 0) (zaa (zbM rfl T.z_bool zd9 rfl) zae)))) (ze4 (zcG zdg (pv 0) (pv 1) (zaF _))))))) zaV))
 (zag (zbz (zbN (zdm (zaj zaX rfl T.z_isinstance PyProof.Rows.boot_isinstance (zaa (pv 1) (zaa (zbM rfl T.z_str zeK rfl) zae)))) (zat (zaY (zdr (zaj zaX rfl T.z_isinstance PyProof.Rows.boot_isinstance (zaa (pv 0) (zaa (zbM rfl T.z_str zeK rfl) zae))) (ze4 (zcG zdg (pv 0) (pv 1) (zaF _)))))) zaV))
 (zat (zaY (zdr (zcG zhb (pv 1) zb2 (zaF _)) (ze4 (zcG zhb (pv 0) zb2 (zaF _)))))))))),zkB h1 h2 q⟩
theorem zjz (T:Txt K mg base a):zdD P w K mg base CX0 6 a.f__law_same a.d__law_same ["_law_told_here","_law_due_here"] (zmo 5):=zeY T 6
def zcv (K:PySem.W.Frag):TS :=
 (zbX (tOr (zaA (tOp rEq (zac 0) (tC (.str "")))) (tOr (zaA (tOp (rNeE K) (zgn (ztv (zac 0)) (zai 0) (zaA (tOp ziG (zac 0) (tC (.str "0123456789")))) (zac 0) [none]) (zdB zas))) (zqb (zaA (tOp rEq (tOp zuB (zac 0) (tC (.int 0))) (tC (.str "0")))) (zaA (tOp rNe (zac 0) (tC (.str "0"))))))) (zbK (tC .non)) za0)
theorem zb4 (K:PySem.W.Frag) (D:zb1) (σ:St) (H:Hp):zcv K D σ H=(zbX (tOr (zaA (tOp rEq (zac 0) (tC (.str "")))) (tOr (zaA (tOp (rNeE K) (zgn (ztv (zac 0)) (zai 0) (zaA (tOp ziG (zac 0) (tC (.str "0123456789")))) (zac 0) [none]) (zdB zas))) (zqb (zaA (tOp rEq (tOp zuB (zac 0) (tC (.int 0))) (tC (.str "0")))) (zaA (tOp rNe (zac 0) (tC (.str "0"))))))) (zbK (tC .non)) za0) D σ H:=rfl
def zcP (K:PySem.W.Frag):TS :=
 (zaW (zdk (zcv K))
 (zbK (tCB zot (zab (zac 0) zas))))
theorem zfb {w:Str} (l:w.length≤640) (q:∀ H',za3 H H'→Q (zkQ (zfD w)) H'):zcP K { nx:=fun _ H'=>Q .non H',rt:=Q } (L2.zbY ["_law_word"] [.str w]) H:=by
 unfold zcP
 simp_all only [zb4,zac]
 have qn:okW w=false→∀ H',za3 H H'→Q .non H':=fun e H' s=>by
  have:=q H' s
  unfold zfD at this
  rw [if_neg (by rw [e];exact Bool.false_ne_true)] at this
  exact this
 have lw:w.length=w.cps.toList.length:=by simp [Str.length]
 refine ⟨fun σ H'=>za3 H H'∧okW w=true∧σ=[some (.str w)],?_,?_⟩
 ·unfold zcv
  simp_all only [zb4,zac]
  refine ⟨rfl,?_⟩
  by_cases he:w=Str.ofString ""
  ·rw [if_pos he]
   refine qn ?_ H (.refl _)
   unfold okW
   rw [decide_eq_false (by rw [he];decide +kernel),Bool.false_and,Bool.false_and]
  ·rw [if_neg he]
   intro D hD
   have l1:1≤w.length:=by
    cases hl:w.length with
    | zero =>
     refine absurd (zoD ?_) he
     rw [zdQ] at hl
     rw [List.eq_nil_of_length_eq_zero hl]
     rfl
    | succ n=>omega
   obtain ⟨c0,cr,ec⟩:∃ c0 cr,w.cps.toList=c0::cr:=by
    cases h:w.cps.toList with
    | nil=>rw [lw,h] at l1;exact absurd l1 (by decide)
    | cons a b=>exact ⟨a,b,rfl⟩
   refine zm3 (fun c=>!dg c) (by omega) hD ?_ (by decide) ?_
   ·intro i c H' R hc s r
    refine ⟨_,rfl,_,_,rfl,rfl,?_⟩
    rw [zrp]
    exact ⟨_,rfl,r H' (.refl _)⟩
   ·intro H1 s1 hD1
    refine ⟨by decide,fun p hp=>?_⟩
    have s2:za3 H (L2.upd H1 p (.lst [])):=s1.add hp
    refine ⟨D,rfl,_,SqL.of ((zaw hp _) _ _ hD1),SqL.of zaf,?_⟩
    have el:(w.cps.toList.filter fun c=>!dg c)=[]↔w.cps.toList.all dg=true:=by
     rw [List.filter_eq_nil_iff,List.all_eq_true]
     constructor
     ·intro h c hc
      have:=h c hc
      simpa using this
     ·intro h c hc
      simp [h c hc]
    cases hd:w.cps.toList.all dg with
    | false =>
     rw [if_pos]
     ·refine qn ?_ _ s2
      unfold okW
      rw [hd,Bool.and_false,Bool.false_and]
     ·cases hf:(w.cps.toList.filter fun c=>!dg c) with
      | nil=>rw [el.mp hf] at hd;cases hd
      | cons a b=>rfl
    | true =>
     rw [el.mpr hd,if_neg (show ¬ (List.map (fun c=>V.str ⟨#[c]⟩) ([]:List Nat)).isEmpty=false from fun z=>Bool.noConfusion z)]
     have e0:okW w=!(decide (c0=48)&&!decide (w=Str.ofString "0")):=by
      unfold okW
      rw [hd,decide_eq_true l1,Bool.true_and,Bool.true_and,ec]
      congr 2
      rw [Bool.eq_iff_iff,decide_eq_true_eq,decide_eq_true_eq]
      exact ⟨fun z=>Option.some.inj z,fun z=>by rw [z];rfl⟩
     refine ⟨zfh (by omega),c0,by rw [ec];exact zbH (j:=0) rfl,rfl,?_⟩
     have e1:((⟨#[c0]⟩:Str)=Str.ofString "0")↔c0=48:=by
      constructor
      ·intro h
       have h2:=congrArg sgn h
       have h3:sgn (Str.ofString "0")=[48]:=zgk
       rw [h3] at h2
       exact (List.cons.inj h2).1
      ·intro h
       exact zoD (by rw [h];exact zgk.symm)
     by_cases h48:c0=48
     ·rw [if_pos (e1.mpr h48)]
      refine ⟨rfl,?_⟩
      by_cases h2:w=Str.ofString "0"
      ·rw [if_neg (fun z=>z h2)]
       exact ⟨s2,by rw [e0,decide_eq_true h48,decide_eq_true h2];rfl⟩
      ·rw [if_pos h2]
       exact qn (by rw [e0,decide_eq_true h48,decide_eq_false h2];rfl) _ s2
     ·rw [if_neg (fun z=>h48 (e1.mp z))]
      exact ⟨s2,by rw [e0,decide_eq_false h48];rfl⟩
 ·rintro σ H2 ⟨s2,hk,rfl⟩
  have hd:w.cps.toList.all dg=true∧1≤w.length:=by
   unfold okW at hk
   simp only [Bool.and_eq_true,decide_eq_true_eq] at hk
   exact ⟨hk.1.2,hk.1.1⟩
  obtain ⟨n,hn,_⟩:=zil hd.1 hd.2 (by omega)
  have q2:=q H2 s2
  unfold zfD at q2
  rw [if_pos hk,hn] at q2
  simp_all only [zb4,zac]
  exact ⟨l,n,hn,q2⟩
theorem zfe:za7 ["_law_word"] ["_law_word"] (zav zck):=⟨rfl,rfl,rfl,by decide +kernel,rfl,by decide +kernel,by decide +kernel⟩
theorem zft (T:Txt K mg base a):zdD P w K mg base CX0 1 a.f__law_word_number a.d__law_word_number ["_law_word"] zm0:=by
 refine T.F__law_word_number.ok zfe (fun vs H Q E h=>?_) (fun cdv A outer s H vs Q E hr h=>?_)
 ·obtain ⟨w,rfl,l,q⟩:=h
  rfl
 obtain ⟨w,rfl,l,q⟩:=h
 exact ⟨zcP K,(zag (zbz (zbN (PW.pt (zcL (zay zdg (pv 0) za6 (zaF _)) (zcL (zay (zuP hr.units) (zlK (sc:=zav zck) (N:=["_law_word"]) (Nc:=["_law_sign"]) (cap:=[none]) rfl rfl rfl (.of (by decide +kernel)) (zrl (pv 0)) (fun _ _ _ _=>(zaO (i:=0) (show List.Nodup (["_law_sign"]:List Str) from by decide) rfl (Or.inl rfl))) (fun _ _ _ _=>(ztq (zay zor (pv 0) za6 (by with_unfolding_all rfl)))) (fun _ _ _ _=>(pv 0))) (zcj zae) (zaF _)) (zcZ (PW.pt (zmm (zay zdg (zcd zq7 (pv 0) zah (fun _ _=>rfl)) za6 (zaF _)) (ziN (zay zd8 (pv 0) za6 (zaF _))))))))) (zat (zaY zb2)) zaV))
 (zat (zaY (zcf zko rfl T.z_int zde (zaa (pv 0) zae))))),
  zfb l q⟩
theorem pow6:zlG 10 6:=⟨by decide,by decide,by decide⟩
theorem zuz:(0:Int)<4∧(Int.natAbs 4).log2<9000:=by decide +kernel
theorem at4 {a b c d r:Int} (h0:0≤r) (h1:r<4):∃ v:Int,atI [V.int a,V.int b,V.int c,V.int d] r=some (.int v)∧(v=a∨v=b∨v=c∨v=d):=by
 have:r=0∨r=1∨r=2∨r=3:=by omega
 rcases this with rfl | rfl | rfl | rfl
 ·exact ⟨a,rfl,by simp⟩
 ·exact ⟨b,rfl,by simp⟩
 ·exact ⟨c,rfl,by simp⟩
 ·exact ⟨d,rfl,by simp⟩
def zfO:Sp:=fun vs H Q _=>∃ n:Int,vs=[.int n]∧∀ (l:Int) (H':Hp),za3 H H'→1≤l→l≤1000000→Q (.int l) H'
def zdT (K:PySem.W.Frag):TS :=
 (zaW (zbr (tOp (rI (fun _ j=>0<j) fun i j=>.int (i % j)) (zac 0) (tC (.int 4))) (zai 1))
 (zaW (zbr (tOp (rI (fun _ j=>0<j∧j.natAbs.log2<9000) fun i j=>.int (i / j)) (zac 0) (tC (.int 4))) (zai 0))
 (zbK (tOp (zcR K) (zdB (zab (tOp (rI0 fun i j=>.int (i+j)) (tC (.int 1)) (tOp (rI (fun _ j=>0<j) fun i j=>.int (i % j)) (zac 0) (tC (.int 9)))) (zab (tOp (rI0 fun i j=>.int (i+j)) (tC (.int 1)) (tOp (rI (fun _ j=>0<j) fun i j=>.int (i % j)) (zac 0) (tOp (rI zlG fun i j=>.int (i ^ j.toNat)) (tC (.int 10)) (tC (.int 6))))) (zab (tOp (rI0 fun i j=>.int (i - j)) (tOp (rI zlG fun i j=>.int (i ^ j.toNat)) (tC (.int 10)) (tC (.int 6))) (tOp (rI (fun _ j=>0<j) fun i j=>.int (i % j)) (zac 0) (tC (.int 3)))) (zab (tOp (rI0 fun i j=>.int (i+j)) (tC (.int 1)) (tOp (rI (fun _ j=>0<j) fun i j=>.int (i % j)) (zac 0) (tC (.int 2)))) zas))))) (zac 1)))))
theorem zhO {n:Int} (q:∀ (l:Int) (H':Hp),za3 H H'→1≤l→l≤1000000→Q (.int l) H') :
  zdT K { nx:=fun _ H'=>Q .non H',rt:=Q } (L2.zbY ["_law_number","_law_way"] [.int n]) H:=by
 unfold zdT
 simp_all only [zac]
 obtain ⟨v,hv,hc⟩:=at4 (a:=1+n / 4 % 9) (b:=1+n / 4 % 1000000) (c:=1000000 - n / 4 % 3) (d:=1+n / 4 % 2) (r:=n % 4) (by omega) (by omega)
 refine ⟨by decide,zuz.1,zuz.2,by decide,pow6,by decide,pow6,by decide,by decide,by decide,fun p hp=>?_⟩
 refine ⟨_,SqL.of zaf,_,hv,?_⟩
 exact q v _ (zaw hp _) (by omega) (by omega)
theorem zdA:za7 ["_law_number","_law_way"] ["_law_number"] (zav zdR):=⟨rfl,rfl,rfl,by decide +kernel,rfl,by decide +kernel,by decide +kernel⟩
theorem zhN (T:Txt K mg base a):zdD P w K mg base CX0 1 a.f__law_length a.d__law_length ["_law_number"] zfO:=by
 refine T.F__law_length.ok zdA (fun vs H Q E h=>?_) (fun cdv A outer s H vs Q E hr h=>?_)
 ·obtain ⟨n,rfl,q⟩:=h
  rfl
 obtain ⟨n,rfl,q⟩:=h
 exact ⟨zdT K,(zag (zaP (i:=1) zdA.nd rfl (Or.inl rfl) (zaC zbJ (pv 0) zah))
 (zag (zaP (i:=0) zdA.nd rfl (Or.inl rfl) (zaC zcS (pv 0) zah))
 (zat (zaY (zcd zba (zcj (zaa (zaC zb3 zah (zaC zbJ (pv 0) zah)) (zaa (zaC zb3 zah (zaC zbJ (pv 0) (zaC zha zah zah))) (zaa (zaC zg8 (zaC zha zah zah) (zaC zbJ (pv 0) zah)) (zaa (zaC zb3 zah (zaC zbJ (pv 0) zah)) zae))))) (pv 1) (fun _ _=>rfl)))))),
  zhO q⟩
theorem seqIx {i:Int} {n:Nat} (h0:0≤i) (h1:i<n):PySem.seqIndex? i n=some i.toNat:=by
 unfold PySem.seqIndex?
 have e:¬ i<0:=by omega
 simp [e,h0,h1]
def zjM (m:Int):List Int:=(List.range m.toNat).map fun k:Nat=>(k:Int)
theorem zd2 {m x:Int}:x∈zjM m↔0≤x∧x<m:=by
 unfold zjM
 rw [List.mem_map]
 constructor
 ·rintro ⟨k,hk,rfl⟩
  have:=List.mem_range.mp hk
  omega
 ·rintro ⟨h0,h1⟩
  exact ⟨x.toNat,List.mem_range.mpr (by omega),by omega⟩
theorem zie {m:Int}:(zjM m).Nodup:=by
 unfold zjM
 refine List.nodup_iff_pairwise_ne.mpr (List.pairwise_map.mpr ((List.nodup_iff_pairwise_ne.mp List.nodup_range).imp fun h e=>h ?_))
 omega
theorem zoj {m:Int} (h:1≤m):zjM m=0::(List.range (m - 1).toNat).map fun k:Nat=>1+(k:Int):=by
 unfold zjM
 rw [show m.toNat=(m - 1).toNat+1 by omega,List.range_succ_eq_map,List.map_cons,List.map_map]
 refine congrArg (List.cons 0) (List.map_congr_left fun k _=>?_)
 simp only [Function.comp]
 omega
theorem zjT {α β:Type} (f:α→β):∀ (l:List α) (k:Nat),(l.map f).eraseIdx k=(l.eraseIdx k).map f
 | [],k=>by simp
 | x::l,0=>rfl
 | x::l,k+1=>by
  rw [List.map_cons,List.eraseIdx_cons_succ,List.eraseIdx_cons_succ,List.map_cons,zjT f l k]
theorem zmy {α:Type} {l:List α} {k:Nat} {x:α} (h:l[k]?=some x):(x::l.eraseIdx k).Perm l:=by
 induction l generalizing k with
 | nil=>simp at h
 | cons y l ih =>
  cases k with
  | zero =>
   simp only [List.getElem?_cons_zero,Option.some.injEq] at h
   subst h
   exact .refl _
  | succ k =>
   rw [List.getElem?_cons_succ] at h
   rw [List.eraseIdx_cons_succ]
   exact (List.Perm.swap y x _).trans ((ih h).cons y)
theorem zqJ {α:Type} {l:List α} (nd:l.Nodup) {i j:Nat} {x y:α} (h1:l[i]?=some x) (h2:l[j]?=some y) (c:i<j):x≠y:=by
 obtain ⟨l1,e1⟩:=List.getElem?_eq_some_iff.mp h1
 obtain ⟨l2,e2⟩:=List.getElem?_eq_some_iff.mp h2
 rw [← e1,← e2]
 exact List.pairwise_iff_getElem.mp (List.nodup_iff_pairwise_ne.mp nd) i j l1 l2 c
theorem at2 {x y:V} {r:Int} (h0:0≤r) (h1:r<2):∃ v,atI [x,y] r=some v∧(v=x∨v=y):=by
 have:r=0∨r=1:=by omega
 rcases this with rfl | rfl
 ·exact ⟨x,rfl,.inl rfl⟩
 ·exact ⟨y,rfl,.inr rfl⟩
theorem zoL:(0:Int)<3600∧(Int.natAbs 3600).log2<9000:=by decide +kernel
theorem zrr:(0:Int)<100∧(Int.natAbs 100).log2<9000:=by decide +kernel
theorem zuI:(0:Int)<2∧(Int.natAbs 2).log2<9000:=by decide +kernel
def zlb (ls:List Int) (rs:List zcz) (n:Nat):Prop:=∀ k,1≤k→k≤n→∃ r∈rs,∃ j,j<k∧((ls[k]?=some r.1∧ls[j]?=some r.2.1)∨(ls[k]?=some r.2.1∧ls[j]?=some r.1))
theorem zlb.conn {ls:List Int} {rs:List zcz} {n:Nat} {m:Int} (h:zlb ls rs n) (hm:m=n+1) (hp:ls.Perm (zjM m)) (h0:ls[0]?=some 0):zow m rs:=by
 intro S s0 sc x x0 x1
 have hl:ls.length=n+1:=by
  rw [hp.length_eq]
  unfold zjM
  rw [List.length_map,List.length_range]
  omega
 have z:∀ (k:Nat) (y:Int),ls[k]?=some y→S y:=by
  intro k
  induction k using Nat.strongRecOn with
  | ind k ih =>
   intro y hy
   cases k with
   | zero =>
    rw [h0] at hy
    cases hy
    exact s0
   | succ k =>
    have lk:=(List.getElem?_eq_some_iff.mp hy).1
    obtain ⟨r,hr,j,hj,c⟩:=h (k+1) (by omega) (by omega)
    rcases c with ⟨c1,c2⟩ | ⟨c1,c2⟩
    ·rw [hy] at c1
     cases c1
     exact (sc r hr (.inr (ih j hj _ c2))).1
    ·rw [hy] at c1
     cases c1
     exact (sc r hr (.inl (ih j hj _ c2))).2
 have hx:x∈ls:=hp.mem_iff.mpr (zd2.mpr ⟨x0,x1⟩)
 obtain ⟨k,hk⟩:=List.getElem?_of_mem hx
 exact z k x hk
theorem zlb.mono {ls:List Int} {rs rs':List zcz} {n:Nat} (h:zlb ls rs n) (hs:∀ r∈rs,r∈rs'):zlb ls rs' n:=fun k k1 kn=>by
 obtain ⟨r,hr,c⟩:=h k k1 kn
 exact ⟨r,hs r hr,c⟩
def zfA {α:Type} (l:List α) (k:Nat) (x:α):List α:=l.take k++x::l.drop k
theorem zkk {α β:Type} (f:α→β) (l:List α) (k:Nat) (x:α):(zfA l k x).map f=zfA (l.map f) k (f x):=by
 unfold zfA
 rw [List.map_append,List.map_cons,List.map_take,List.map_drop]
theorem zee {α:Type} {l:List α} {k:Nat} {x y:α}:y∈zfA l k x↔y=x∨y∈l:=by
 unfold zfA
 rw [List.mem_append,List.mem_cons]
 constructor
 ·rintro (h | h | h)
  ·exact .inr (List.mem_of_mem_take h)
  ·exact .inl h
  ·exact .inr (List.mem_of_mem_drop h)
 ·rintro (h | h)
  ·exact .inr (.inl h)
  ·rw [← List.take_append_drop k l] at h
   rcases List.mem_append.mp h with h | h
   ·exact .inl h
   ·exact .inr (.inr h)
theorem zea {α:Type} {l:List α} {k:Nat} {x:α} (h:k≤l.length):(zfA l k x).length=l.length+1:=by
 unfold zfA
 rw [List.length_append,List.length_cons,List.length_take,List.length_drop]
 omega
theorem zl2 {α:Type} {l:List α} {k:Nat} {x:α} (h:k≤l.length) (i:Nat):(zfA l k x)[i]?=if i<k then l[i]? else if i=k then some x else l[i - 1]?:=by
 unfold zfA
 have lt:(l.take k).length=k:=by rw [List.length_take];omega
 by_cases c:i<k
 ·rw [if_pos c,List.getElem?_append_left (by omega),List.getElem?_take_of_lt c]
 ·rw [if_neg c,List.getElem?_append_right (by omega),lt]
  by_cases c2:i=k
  ·subst c2
   rw [if_pos rfl,Nat.sub_self]
   rfl
  ·rw [if_neg c2,show i - k=(i - k - 1)+1 by omega,List.getElem?_cons_succ,List.getElem?_drop]
   congr 1
   omega
theorem Tps.ins {α:Type} {f:α→List V} {H:Hp} {ts:List Addr} {bs:List α} {t:Addr} {b:α} {k:Nat} (h:Tps f H ts bs) (hk:k≤ts.length) (e:H t=some (.tup (f b))):Tps f H (zfA ts k t) (zfA bs k b):=by
 have hk':k≤bs.length:=by rw [← h.1];exact hk
 refine ⟨by rw [zea hk,zea hk',h.1],fun i x y e1 e2=>?_⟩
 rw [zl2 hk] at e1
 rw [zl2 hk'] at e2
 split at e1
 ·rename_i c
  rw [if_pos c] at e2
  exact h.2 i x y e1 e2
 ·rename_i c
  rw [if_neg c] at e2
  split at e1
  ·rename_i c2
   rw [if_pos c2] at e2
   cases e1
   cases e2
   exact e
  ·rename_i c2
   rw [if_neg c2] at e2
   exact h.2 _ x y e1 e2
def ztW (K:PySem.W.Frag):Sp:=fun vs H Q _=>∃ (p:Addr) (ns:List Int) (st mo ex:Int),vs=[.ref p,.int st,.int mo,.int ex]∧SqL K H p (ns.map V.int)∧ns.length≤63∧0≤st∧st≤10000∧1≤mo∧mo≤60∧0≤ex∧ex≤20 ∧
 ∀ (w rl:Addr) (ts:List Addr) (m:Int) (rs:List zcz) (H':Hp),za3 H H'→zgI H' w rl ts m rs→GW m rs→m≤mo→(rs.length:Int)≤m - 1+ex→m - 1≤(rs.length:Int)→Q (.ref w) H'
def zev (K:PySem.W.Frag):TS :=
 (zbX (zaA (tOp rNe (zac 14) (zac 15))) (zer (tBM K "list" zga (zac 9) (zab (tOp (rI (fun _ j=>0<j) fun i j=>.int (i % j)) (tOp (rI (fun _ j=>0<j∧j.natAbs.log2<9000) fun i j=>.int (i / j)) (zac 10) (tC (.int 3600))) (tOp (rI0 fun i j=>.int (i+j)) (tCB (fun xs H Q=>∃ p ys,xs=[.ref p]∧(SqL K H p ys∨SqT K H p ys)∧Q (.int ys.length) H) (zab (zac 9) zas)) (tC (.int 1)))) (zab (zf1 (zab (zac 14) (zab (zac 15) (zab (za9 zfO [] E0 (zab (tOp (rI (fun _ j=>0<j∧j.natAbs.log2<9000) fun i j=>.int (i / j)) (zac 10) (tC (.int 100))) zas)) zas)))) zas)))) za0)
theorem zbw (K:PySem.W.Frag) (D:zb1) (σ:St) (H:Hp):zev K D σ H=(zbX (zaA (tOp rNe (zac 14) (zac 15))) (zer (tBM K "list" zga (zac 9) (zab (tOp (rI (fun _ j=>0<j) fun i j=>.int (i % j)) (tOp (rI (fun _ j=>0<j∧j.natAbs.log2<9000) fun i j=>.int (i / j)) (zac 10) (tC (.int 3600))) (tOp (rI0 fun i j=>.int (i+j)) (tCB (fun xs H Q=>∃ p ys,xs=[.ref p]∧(SqL K H p ys∨SqT K H p ys)∧Q (.int ys.length) H) (zab (zac 9) zas)) (tC (.int 1)))) (zab (zf1 (zab (zac 14) (zab (zac 15) (zab (za9 zfO [] E0 (zab (tOp (rI (fun _ j=>0<j∧j.natAbs.log2<9000) fun i j=>.int (i / j)) (zac 10) (tC (.int 100))) zas)) zas)))) zas)))) za0) D σ H:=rfl
def zed (K:PySem.W.Frag):TS :=
 (zaW (tPar 14 15 (zab (tOp (rI (fun _ j=>0<j) fun i j=>.int (i % j)) (zac 10) (zac 4)) (zab (tOp (rI (fun _ j=>0<j) fun i j=>.int (i % j)) (tOp (rI (fun _ j=>0<j∧j.natAbs.log2<9000) fun i j=>.int (i / j)) (zac 10) (zac 4)) (zac 4)) zas)))
 (zev K))
theorem zbs (K:PySem.W.Frag) (D:zb1) (σ:St) (H:Hp):zed K D σ H=(zaW (tPar 14 15 (zab (tOp (rI (fun _ j=>0<j) fun i j=>.int (i % j)) (zac 10) (zac 4)) (zab (tOp (rI (fun _ j=>0<j) fun i j=>.int (i % j)) (tOp (rI (fun _ j=>0<j∧j.natAbs.log2<9000) fun i j=>.int (i / j)) (zac 10) (zac 4)) (zac 4)) zas)))
 (zev K)) D σ H:=rfl
def zeC (K:PySem.W.Frag):TS :=
 (zaW (zbr (za9 (zcq K) [] E0 (zab (zac 0) (zab (tOp (rI0 fun i j=>.int (i+j)) (tOp (rI0 fun i j=>.int (i+j)) (zac 1) (tC (.int 181))) (zac 8)) zas))) (zai 10))
 (zed K))
theorem zaN (K:PySem.W.Frag) (D:zb1) (σ:St) (H:Hp):zeC K D σ H=(zaW (zbr (za9 (zcq K) [] E0 (zab (zac 0) (zab (tOp (rI0 fun i j=>.int (i+j)) (tOp (rI0 fun i j=>.int (i+j)) (zac 1) (tC (.int 181))) (zac 8)) zas))) (zai 10))
 (zed K)) D σ H:=rfl
def zey (K:PySem.W.Frag):TS :=
 (zer (tBM K "list" zga (zac 9) (zab (zac 13) (zab (tOp (zpP K) (zac 12) (zf1 (zab (za9 zfO [] E0 (zab (tOp (rI (fun _ j=>0<j∧j.natAbs.log2<9000) fun i j=>.int (i / j)) (tOp (rI (fun _ j=>0<j∧j.natAbs.log2<9000) fun i j=>.int (i / j)) (zac 10) (zac 8)) (tC (.int 2))) zas)) zas))) zas))))
theorem zbv (K:PySem.W.Frag) (D:zb1) (σ:St) (H:Hp):zey K D σ H=(zer (tBM K "list" zga (zac 9) (zab (zac 13) (zab (tOp (zpP K) (zac 12) (zf1 (zab (za9 zfO [] E0 (zab (tOp (rI (fun _ j=>0<j∧j.natAbs.log2<9000) fun i j=>.int (i / j)) (tOp (rI (fun _ j=>0<j∧j.natAbs.log2<9000) fun i j=>.int (i / j)) (zac 10) (zac 8)) (tC (.int 2))) zas)) zas))) zas)))) D σ H:=rfl
def zej (K:PySem.W.Frag):TS :=
 (zaW (zbr (tOp (rI (fun _ j=>0<j) fun i j=>.int (i % j)) (za9 (zcq K) [] E0 (zab (zac 0) (zab (tOp (rI0 fun i j=>.int (i+j)) (tOp (rI0 fun i j=>.int (i+j)) (zac 1) (tC (.int 120))) (zac 8)) zas))) (tOp (rI0 fun i j=>.int (i+j)) (tCB (fun xs H Q=>∃ p ys,xs=[.ref p]∧(SqL K H p ys∨SqT K H p ys)∧Q (.int ys.length) H) (zab (zac 9) zas)) (tC (.int 1)))) (zai 13))
 (zey K))
theorem zby (K:PySem.W.Frag) (D:zb1) (σ:St) (H:Hp):zej K D σ H=(zaW (zbr (tOp (rI (fun _ j=>0<j) fun i j=>.int (i % j)) (za9 (zcq K) [] E0 (zab (zac 0) (zab (tOp (rI0 fun i j=>.int (i+j)) (tOp (rI0 fun i j=>.int (i+j)) (zac 1) (tC (.int 120))) (zac 8)) zas))) (tOp (rI0 fun i j=>.int (i+j)) (tCB (fun xs H Q=>∃ p ys,xs=[.ref p]∧(SqL K H p ys∨SqT K H p ys)∧Q (.int ys.length) H) (zab (zac 9) zas)) (tC (.int 1)))) (zai 13))
 (zey K)) D σ H:=rfl
def zek (K:PySem.W.Frag):TS :=
 (zaW (zbr (tOp (zcR K) (zdB (zab (zf1 (zab (tOp (zcR K) (zac 6) (zac 8)) (zab (zac 11) zas))) (zab (zf1 (zab (zac 11) (zab (tOp (zcR K) (zac 6) (zac 8)) zas))) zas))) (tOp (rI (fun _ j=>0<j) fun i j=>.int (i % j)) (tOp (rI (fun _ j=>0<j∧j.natAbs.log2<9000) fun i j=>.int (i / j)) (zac 10) (zac 8)) (tC (.int 2)))) (zai 12))
 (zej K))
theorem zbu (K:PySem.W.Frag) (D:zb1) (σ:St) (H:Hp):zek K D σ H=(zaW (zbr (tOp (zcR K) (zdB (zab (zf1 (zab (tOp (zcR K) (zac 6) (zac 8)) (zab (zac 11) zas))) (zab (zf1 (zab (zac 11) (zab (tOp (zcR K) (zac 6) (zac 8)) zas))) zas))) (tOp (rI (fun _ j=>0<j) fun i j=>.int (i % j)) (tOp (rI (fun _ j=>0<j∧j.natAbs.log2<9000) fun i j=>.int (i / j)) (zac 10) (zac 8)) (tC (.int 2)))) (zai 12))
 (zej K)) D σ H:=rfl
def zeb (K:PySem.W.Frag):TS :=
 (zaW (zbr (tOp (zcR K) (zac 6) (tOp (zcR K) (zdB (zab (tOp (rI (fun _ j=>0<j) fun i j=>.int (i % j)) (zac 10) (zac 8)) (zab (tOp (rI0 fun i j=>.int (i - j)) (zac 8) (tC (.int 1))) (zab (tC (.int 0)) (zab (tOp (rI (fun _ j=>0<j) fun i j=>.int (i % j)) (zac 10) (tCB (fun xs H Q=>∃ i j,xs=[.int i,.int j]∧Q (.int (if j<i then j else i)) H) (zab (zac 8) (zab (tC (.int 3)) zas)))) zas))))) (zac 5))) (zai 11))
 (zek K))
theorem zbt (K:PySem.W.Frag) (D:zb1) (σ:St) (H:Hp):zeb K D σ H=(zaW (zbr (tOp (zcR K) (zac 6) (tOp (zcR K) (zdB (zab (tOp (rI (fun _ j=>0<j) fun i j=>.int (i % j)) (zac 10) (zac 8)) (zab (tOp (rI0 fun i j=>.int (i - j)) (zac 8) (tC (.int 1))) (zab (tC (.int 0)) (zab (tOp (rI (fun _ j=>0<j) fun i j=>.int (i % j)) (zac 10) (tCB (fun xs H Q=>∃ i j,xs=[.int i,.int j]∧Q (.int (if j<i then j else i)) H) (zab (zac 8) (zab (tC (.int 3)) zas)))) zas))))) (zac 5))) (zai 11))
 (zek K)) D σ H:=rfl
def zd7 (K:PySem.W.Frag):TS :=
 (zaW (zbr (za9 (zcq K) [] E0 (zab (zac 0) (zab (tOp (rI0 fun i j=>.int (i+j)) (tOp (rI0 fun i j=>.int (i+j)) (zac 1) (tC (.int 60))) (zac 8)) zas))) (zai 10))
 (zeb K))
theorem zaK (K:PySem.W.Frag) (D:zb1) (σ:St) (H:Hp):zd7 K D σ H=(zaW (zbr (za9 (zcq K) [] E0 (zab (zac 0) (zab (tOp (rI0 fun i j=>.int (i+j)) (tOp (rI0 fun i j=>.int (i+j)) (zac 1) (tC (.int 60))) (zac 8)) zas))) (zai 10))
 (zeb K)) D σ H:=rfl
def zeo (K:PySem.W.Frag):TS :=
 (zaW (zgJ (zfC (zab (tOp (rI (fun _ j=>0<j) fun i j=>.int (i % j)) (za9 (zcq K) [] E0 (zab (zac 0) (zab (tOp (rI0 fun i j=>.int (i+j)) (zac 1) (tC (.int 180))) zas))) (tOp (rI0 fun i j=>.int (i+j)) (zac 3) (tC (.int 1)))) zas)) (zai 8)
 (zeC K))
 (zbK (zf1 (zab (zac 4) (zab (zac 9) zas)))))
theorem zaJ (K:PySem.W.Frag) (D:zb1) (σ:St) (H:Hp):zeo K D σ H=(zaW (zgJ (zfC (zab (tOp (rI (fun _ j=>0<j) fun i j=>.int (i % j)) (za9 (zcq K) [] E0 (zab (zac 0) (zab (tOp (rI0 fun i j=>.int (i+j)) (zac 1) (tC (.int 180))) zas))) (tOp (rI0 fun i j=>.int (i+j)) (zac 3) (tC (.int 1)))) zas)) (zai 8)
 (zeC K))
 (zbK (zf1 (zab (zac 4) (zab (zac 9) zas))))) D σ H:=rfl
def zeA (K:PySem.W.Frag):TS :=
 (zer (tBM K "list" zb9 (zac 6) (zab (tBM K "list" zl7 (zac 7) (zab (tOp (rI (fun _ j=>0<j) fun i j=>.int (i % j)) (za9 (zcq K) [] E0 (zab (zac 0) (zab (tOp (rI0 fun i j=>.int (i+j)) (tOp (rI0 fun i j=>.int (i+j)) (zac 1) (tC (.int 1))) (zac 8)) zas))) (tCB (fun xs H Q=>∃ p ys,xs=[.ref p]∧(SqL K H p ys∨SqT K H p ys)∧Q (.int ys.length) H) (zab (zac 7) zas))) zas)) zas)))
theorem zaL (K:PySem.W.Frag) (D:zb1) (σ:St) (H:Hp):zeA K D σ H=(zer (tBM K "list" zb9 (zac 6) (zab (tBM K "list" zl7 (zac 7) (zab (tOp (rI (fun _ j=>0<j) fun i j=>.int (i % j)) (za9 (zcq K) [] E0 (zab (zac 0) (zab (tOp (rI0 fun i j=>.int (i+j)) (tOp (rI0 fun i j=>.int (i+j)) (zac 1) (tC (.int 1))) (zac 8)) zas))) (tCB (fun xs H Q=>∃ p ys,xs=[.ref p]∧(SqL K H p ys∨SqT K H p ys)∧Q (.int ys.length) H) (zab (zac 7) zas))) zas)) zas))) D σ H:=rfl
def zdW (K:PySem.W.Frag):TS :=
 (zaW (zbr (zdB zas) (zai 9))
 (zaW (zgJ (zpS (zab (tC (.int 1)) (zab (zac 4) zas))) (zai 8)
 (zd7 K))
 (zeo K)))
theorem zaG (K:PySem.W.Frag) (D:zb1) (σ:St) (H:Hp):zdW K D σ H=(zaW (zbr (zdB zas) (zai 9))
 (zaW (zgJ (zpS (zab (tC (.int 1)) (zab (zac 4) zas))) (zai 8)
 (zd7 K))
 (zeo K))) D σ H:=rfl
def zdU (K:PySem.W.Frag):TS :=
 (zaW (zbr (tCB zgQ (zab (zp9 (zab (tC (.int 1)) (zab (zac 4) zas))) zas)) (zai 7))
 (zaW (zgJ (zfC (zab (tOp (rI0 fun i j=>.int (i - j)) (zac 4) (tC (.int 1))) zas)) (zai 8)
 (zeA K))
 (zdW K)))
theorem zbo (K:PySem.W.Frag) (D:zb1) (σ:St) (H:Hp):zdU K D σ H=(zaW (zbr (tCB zgQ (zab (zp9 (zab (tC (.int 1)) (zab (zac 4) zas))) zas)) (zai 7))
 (zaW (zgJ (zfC (zab (tOp (rI0 fun i j=>.int (i - j)) (zac 4) (tC (.int 1))) zas)) (zai 8)
 (zeA K))
 (zdW K))) D σ H:=rfl
def zfS (K:PySem.W.Frag):TS :=
 (zaW (zbr (tOp (rI (fun _ j=>0<j) fun i j=>.int (i % j)) (tOp (rI (fun _ j=>0<j∧j.natAbs.log2<9000) fun i j=>.int (i / j)) (za9 (zcq K) [] E0 (zab (zac 0) (zab (zac 1) zas))) (zac 2)) (tC (.int 4))) (zai 5))
 (zaW (zbr (zdB (zab (tC (.int 0)) zas)) (zai 6))
 (zdU K)))
theorem zbp (K:PySem.W.Frag) (D:zb1) (σ:St) (H:Hp):zfS K D σ H=(zaW (zbr (tOp (rI (fun _ j=>0<j) fun i j=>.int (i % j)) (tOp (rI (fun _ j=>0<j∧j.natAbs.log2<9000) fun i j=>.int (i / j)) (za9 (zcq K) [] E0 (zab (zac 0) (zab (zac 1) zas))) (zac 2)) (tC (.int 4))) (zai 5))
 (zaW (zbr (zdB (zab (tC (.int 0)) zas)) (zai 6))
 (zdU K))) D σ H:=rfl
def zgh (K:PySem.W.Frag):TS :=
 (zaW (zbr (tOp (rI0 fun i j=>.int (i+j)) (tC (.int 1)) (tOp (rI (fun _ j=>0<j) fun i j=>.int (i % j)) (za9 (zcq K) [] E0 (zab (zac 0) (zab (zac 1) zas))) (zac 2))) (zai 4))
 (zfS K))
theorem zlu {p:Addr} {ns:List Int} {st mo ex:Int} (hS:SqL K H p (ns.map V.int)) (hl:ns.length≤63) (st0:0≤st) (st1:st≤10000) (mo1:1≤mo) (mo60:mo≤60) (ex0:0≤ex) (ex20:ex≤20)
  (q:∀ (w rl:Addr) (ts:List Addr) (m:Int) (rs:List zcz) (H':Hp),za3 H H'→zgI H' w rl ts m rs→GW m rs→m≤mo→(rs.length:Int)≤m - 1+ex→m - 1≤(rs.length:Int)→Q (.ref w) H') :
  zgh K { nx:=fun _ H'=>Q .non H',rt:=Q } (L2.zbY ["_law_script","_law_start","_law_most","_law_extra","_law_many","_law_shape","_law_labels","_law_left","_law_k","_law_roads","_law_number","_law_other","_law_ends","_law_at","_law_a","_law_b"] [.ref p,.int st,.int mo,.int ex]) H:=by
 unfold zgh
 simp_all only [zaN,zaK,zaJ,zaL,zaG,zac]
 refine ⟨p,ns,st,rfl,hS,hl,st0,by omega,fun r1 r10 r11=>?_⟩
 refine ⟨_,rfl,by omega,?_⟩
 have m1:1≤1+r1 % mo:=by have:=Int.emod_nonneg r1 (show mo≠0 by omega);omega
 have m2:1+r1 % mo≤mo:=by have:=Int.emod_lt_of_pos r1 (show 0<mo by omega);omega
 generalize 1+r1 % mo=m at m1 m2 ⊢
 (try simp only);first | rw [zbw] | rw [zbs] | rw [zbv] | rw [zby] | rw [zbu] | rw [zbt] | rw [zbo] | rw [zbp]
 simp_all only [zaN,zaK,zaJ,zaL,zaG,zac]
 refine ⟨p,ns,st,rfl,hS,hl,st0,by omega,fun r2 r20 r21=>?_⟩
 refine ⟨_,rfl,by omega,zl6 6 (by omega) (show mo.natAbs<64 by omega),by decide,?_⟩
 have sh0:0≤r2 / mo % 4:=by omega
 have sh4:r2 / mo % 4<4:=by omega
 generalize r2 / mo % 4=shp at sh0 sh4 ⊢
 refine ⟨by decide,fun lab hlab=>?_⟩
 (try simp only);first | rw [zbw] | rw [zbs] | rw [zbv] | rw [zby] | rw [zbu] | rw [zbt] | rw [zbo] | rw [zbp]
 simp_all only [zaN,zaK,zaJ,zaL,zaG,zac]
 refine ⟨by decide,by decide,by omega,by omega,fun rg hrg=>⟨1,m,zaf,by decide,by decide,by omega,by omega,by omega,fun lef hlef=>?_⟩⟩
 refine ⟨by omega,by omega,?_⟩
 have hlef0:H lef=none:=((za3.refl H).add hlab).add hrg |>.free hlef
 have hne:lab≠lef:=zaE (show (L2.upd (L2.upd H lab (.lst [V.int 0])) rg (.rng 1 m)) lab=some (.lst [V.int 0]) by rw [zax (zaE zaf hrg)];exact zaf) hlef
 refine zcI (fun i σ H'=>za3 H H'∧∃ (ls lf:List Int) (x:Option V),H' lab=some (.lst (ls.map V.int))∧H' lef=some (.lst (lf.map V.int))∧(ls++lf).Perm (zjM m)∧ls.length=i+1∧ls[0]?=some 0 ∧
  σ=[some (.ref p),some (.int st),some (.int mo),some (.int ex),some (.int m),some (.int shp),some (.ref lab),some (.ref lef),x,none,none,none,none,none,none,none]) ?_ ?_ ?_
 ·refine ⟨(((za3.refl H).add hlab).add hrg).add hlef,[0],(List.range (m - 1).toNat).map (fun k:Nat=>1+(k:Int)),_,?_,?_,?_,rfl,rfl,rfl⟩
  ·rw [zax hne,zax (zaE zaf hrg)]
   exact zaf
  ·rw [zaf,List.map_map]
   rfl
  ·rw [zoj m1]
   exact .refl _
 ·rintro i σ H1 hi ⟨s1,ls,lf,x,h1,h2,hp,ll,l0,rfl⟩
  have lt:ls.length+lf.length=m.toNat:=by
   have:=hp.length_eq
   rw [List.length_append] at this
   rw [this]
   unfold zjM
   rw [List.length_map,List.length_range]
  simp_all only [zaN,zaK,zaJ,zaL,zaG,zac]
  refine ⟨.inl ⟨rfl,_,SqL.of h1⟩,.inl ⟨rfl,_,SqL.of h2⟩,?_⟩
  refine ⟨p,ns,_,rfl,s1.seq hS,hl,by omega,by omega,fun r3 r30 r31=>?_⟩
  refine ⟨_,.inl (SqL.of h2),_,rfl,?_⟩
  rw [List.length_map]
  have z0:=Int.emod_nonneg r3 (show (lf.length:Int)≠0 by omega)
  have z1:=Int.emod_lt_of_pos r3 (show 0<(lf.length:Int) by omega)
  generalize r3 % (lf.length:Int)=k at z0 z1
  have hk:k.toNat<lf.length:=by omega
  have ek:lf[k.toNat]?=some lf[k.toNat]:=List.getElem?_eq_getElem hk
  refine ⟨by omega,_,h2,by omega,by omega,_,seqIx z0 (by rw [List.length_map];exact z1),.int lf[k.toNat],by rw [List.getElem?_map,ek];rfl,_,by rw [zax hne];exact h1,znw (by rw [List.length_map];omega),?_,ls++[lf[k.toNat]],?_,lf.eraseIdx k.toNat,?_,?_,by rw [List.length_append,ll];rfl,?_⟩
  ·exact (s1.put hlef0).put hlab
  ·rw [zaf,List.map_append]
   rfl
  ·rw [zax hne.symm,zaf,zjT]
  ·rw [List.append_assoc]
   exact (List.Perm.append_left ls (zmy ek)).trans hp
  ·rw [List.getElem?_append_left (by omega)]
   exact l0
 ·rintro σ H1 ⟨s1,ls,lf,x,h1,h2,hp,ll,l0,rfl⟩
  have lt:ls.length+lf.length=m.toNat:=by
   have:=hp.length_eq
   rw [List.length_append] at this
   rw [this]
   unfold zjM
   rw [List.length_map,List.length_range]
  have lf0:lf=[]:=List.eq_nil_of_length_eq_zero (by omega)
  rw [lf0,List.append_nil] at hp
  have gl:∀ x∈ls,0≤x∧x<m:=fun x hx=>zd2.mp (hp.mem_iff.mp hx)
  have nd:ls.Nodup:=hp.nodup_iff.mpr zie
  clear h2
  simp_all only [zaN,zaK,zaJ,zaL,zaG,zac]
  refine ⟨by decide,fun rl hrl=>?_⟩
  refine ⟨by decide,by decide,by omega,by omega,?_⟩
  have n1:rl≠lab:=(zaE h1 hrl).symm
  refine zcI (fun i σ H'=>za3 H1 H'∧∃ (ts:List Addr) (rs:List zcz),H' rl=some (.lst (ts.map V.ref))∧Tps rdv (Off rl rl H') ts rs∧rs.length=i∧(∀ r∈rs,GR m r)∧zlb ls rs i ∧
   ∃ x1 x2 x3 x4 x5,σ=[some (.ref p),some (.int st),some (.int mo),some (.int ex),some (.int m),some (.int shp),some (.ref lab),some (.ref lef),x1,some (.ref rl),x2,x3,x4,x5,none,none]) ?_ ?_ ?_
  ·exact ⟨zaw hrl _,[],[],zaf,.nil,rfl,by simp,fun k k1 k2=>by omega,_,_,_,_,_,rfl⟩
  ·rintro i σ H2 hi ⟨s2,ts,rs,hr2,ht2,lr,gr,jn,x1,x2,x3,x4,x5,rfl⟩
   have hS2:=s2.seq (s1.seq hS)
   simp_all only [zaN,zaK,zaJ,zaL,zaG,zac]
   refine ⟨p,ns,_,rfl,hS2,hl,by omega,by omega,fun n n0 n1'=>?_⟩
   have em:(if (3:Int)<1+(i:Int) then (3:Int) else 1+(i:Int))≤1+(i:Int)∧0<(if (3:Int)<1+(i:Int) then (3:Int) else 1+(i:Int)):=by split <;> omega
   (try simp only);first | rw [zbw] | rw [zbs] | rw [zbv] | rw [zby] | rw [zbu] | rw [zbt] | rw [zbo] | rw [zbp]
   simp_all only [zaN,zaK,zaJ,zaL,zaG,zac]
   generalize (if (3:Int)<1+(i:Int) then (3:Int) else 1+(i:Int))=mn at em ⊢
   refine ⟨by omega,em.2,by decide,fun a1 ha1=>?_⟩
   have s3:=zaw ha1 (.lst [V.int (n % (1+(i:Int))),V.int (1+(i:Int) - 1),V.int 0,V.int (n % mn)])
   have h3:(L2.upd H2 a1 (.lst [V.int (n % (1+(i:Int))),V.int (1+(i:Int) - 1),V.int 0,V.int (n % mn)])) a1=some (.lst [V.int (n % (1+(i:Int))),V.int (1+(i:Int) - 1),V.int 0,V.int (n % mn)]):=zaf
   generalize L2.upd H2 a1 (.lst [V.int (n % (1+(i:Int))),V.int (1+(i:Int) - 1),V.int 0,V.int (n % mn)])=H3 at s3 h3 ⊢
   obtain ⟨jx,hj,hjc⟩:=at4 (a:=n % (1+(i:Int))) (b:=1+(i:Int) - 1) (c:=0) (d:=n % mn) sh0 sh4
   have j0:0≤jx∧jx<1+(i:Int):=by
    have z1:=Int.emod_nonneg n (show (1+(i:Int))≠0 by omega)
    have z2:=Int.emod_lt_of_pos n (show 0<(1+(i:Int)) by omega)
    have z3:=Int.emod_nonneg n (show mn≠0 by omega)
    have z4:=Int.emod_lt_of_pos n (show 0<mn by omega)
    omega
   clear hjc
   obtain ⟨ot,ho,ho2⟩:=zl1 (ns:=ls) j0.1 (by omega)
   obtain ⟨me,hm,hm2⟩:=zl1 (ns:=ls) (k:=1+(i:Int)) (by omega) (by omega)
   have h13:=s3 _ _ (s2 _ _ h1)
   refine ⟨_,SqL.of h3,_,hj,_,_,rfl,SqL.of h13,_,ho,?_⟩
   (try simp only);first | rw [zbw] | rw [zbs] | rw [zbv] | rw [zby] | rw [zbu] | rw [zbt] | rw [zbo] | rw [zbp]
   simp_all only [zaN,zaK,zaJ,zaL,zaG,zac]
   refine ⟨_,SqL.of h13,_,hm,by decide,fun a2 ha2=>?_⟩
   have s4:=zaw ha2 (.tup [V.int me,V.int ot])
   have h4:(L2.upd H3 a2 (.tup [V.int me,V.int ot])) a2=some (.tup [V.int me,V.int ot]):=zaf
   generalize L2.upd H3 a2 (.tup [V.int me,V.int ot])=H4 at s4 h4 ⊢
   have h14:=s4 _ _ h13
   refine ⟨_,SqL.of h14,_,hm,by decide,fun a3 ha3=>?_⟩
   have s5:=zaw ha3 (.tup [V.int ot,V.int me])
   have h5:(L2.upd H4 a3 (.tup [V.int ot,V.int me])) a3=some (.tup [V.int ot,V.int me]):=zaf
   generalize L2.upd H4 a3 (.tup [V.int ot,V.int me])=H5 at s5 h5 ⊢
   refine ⟨by decide,fun a4 ha4=>?_⟩
   have s6:=zaw ha4 (.lst [V.ref a2,V.ref a3])
   have h6:(L2.upd H5 a4 (.lst [V.ref a2,V.ref a3])) a4=some (.lst [V.ref a2,V.ref a3]):=zaf
   generalize L2.upd H5 a4 (.lst [V.ref a2,V.ref a3])=H6 at s6 h6 ⊢
   obtain ⟨e,he,hec⟩:=at2 (x:=V.ref a2) (y:=V.ref a3) (r:=n / (1+(i:Int)) % 2) (by omega) (by omega)
   obtain ⟨ea,u,v,rfl,hea,huv⟩:∃ (ea:Addr) (u v:Int),e=.ref ea∧H6 ea=some (.tup [V.int u,V.int v])∧((u=me∧v=ot)∨(u=ot∧v=me)):=by
    rcases hec with rfl | rfl
    ·exact ⟨a2,me,ot,rfl,s6 _ _ (s5 _ _ h4),.inl ⟨rfl,rfl⟩⟩
    ·exact ⟨a3,ot,me,rfl,s6 _ _ h5,.inr ⟨rfl,rfl⟩⟩
   have s26:=s3.trans (s4.trans (s5.trans s6))
   have hr6:=s26 _ _ hr2
   have ht6:=ht2.same (ziY rl rl s26)
   have gme:=gl me (zc1 hm2)
   have got:=gl ot (zc1 ho2)
   have dif:ot≠me:=zqJ nd ho2 hm2 (by omega)
   refine ⟨by omega,zl6 6 (by omega) (show (1+(i:Int)).natAbs<64 by omega),by decide,_,SqL.of h6,_,he,?_⟩
   (try simp only);first | rw [zbw] | rw [zbs] | rw [zbv] | rw [zby] | rw [zbu] | rw [zbt] | rw [zbo] | rw [zbp]
   simp_all only [zaN,zaK,zaJ,zaL,zaG,zac]
   refine ⟨p,ns,_,rfl,s26.seq hS2,hl,by omega,by omega,fun n3 n30 n31=>?_⟩
   refine ⟨_,.inl (SqL.of hr6),_,rfl,by omega,?_⟩
   rw [List.length_map]
   have z0:=Int.emod_nonneg n3 (show (ts.length:Int)+1≠0 by omega)
   have z1:=Int.emod_lt_of_pos n3 (show 0<(ts.length:Int)+1 by omega)
   generalize n3 % ((ts.length:Int)+1)=k at z0 z1
   (try simp only);first | rw [zbw] | rw [zbs] | rw [zbv] | rw [zby] | rw [zbu] | rw [zbt] | rw [zbo] | rw [zbp]
   simp_all only [zaN,zaK,zaJ,zaL,zaG,zac]
   refine ⟨.inl ⟨rfl,_,SqL.of hr6⟩,by omega,zl6 6 (by omega) (show (1+(i:Int)).natAbs<64 by omega),zuI.1,zuI.2,?_⟩
   refine ⟨_,rfl,fun le H7 s7 le1 le2=>⟨by decide,fun a5 ha5=>?_⟩⟩
   have s8:=zaw ha5 (.tup [V.int le])
   have h8:(L2.upd H7 a5 (.tup [V.int le])) a5=some (.tup [V.int le]):=zaf
   generalize L2.upd H7 a5 (.tup [V.int le])=H8 at s8 h8 ⊢
   have s68:=s7.trans s8
   refine ⟨_,SqT.of (s68 _ _ hea),_,SqT.of h8,by simp,(show (3:Nat)≤sizeLine by decide),fun z=>by simp at z,fun _ a6 ha6=>?_⟩
   rw [List.cons_append,List.cons_append,List.nil_append]
   have s9:=zaw ha6 (.tup [V.int u,V.int v,V.int le])
   have h9:(L2.upd H8 a6 (.tup [V.int u,V.int v,V.int le])) a6=some (.tup [V.int u,V.int v,V.int le]):=zaf
   generalize L2.upd H8 a6 (.tup [V.int u,V.int v,V.int le])=H9 at s9 h9 ⊢
   have s69:=s68.trans s9
   have hr9:=s69 _ _ hr6
   have ht9:=ht6.same (ziY rl rl s69)
   have ltl:=ht9.1
   have big:(1000:Nat)<1000000:=by decide
   refine ⟨_,hr9,z0,by rw [List.length_map];omega,by rw [List.length_map];omega,?_⟩
   have n6:a6≠rl:=(zaE (s68 _ _ hr6) ha6).symm
   have h9':Off rl rl H9 a6=some (.tup (rdv (u,v,le))):=by rw [zn3 n6 n6];exact h9
   refine ⟨?_,zfA ts k.toNat a6,?_,zfA rs k.toNat (u,v,le),?_,?_,fun r hr=>?_,?_⟩
   ·exact (s2.trans (s26.trans s69)).put hrl
   ·rw [zaf,zkk]
    rfl
   ·rw [zuT]
    exact ht9.ins (by omega) h9'
   ·rw [zea (by omega),lr]
   ·rcases zee.mp hr with rfl | hr
    ·unfold GR
     rcases huv with ⟨rfl,rfl⟩ | ⟨rfl,rfl⟩
     ·exact ⟨gme.1,gme.2,got.1,got.2,dif.symm,le1,le2⟩
     ·exact ⟨got.1,got.2,gme.1,gme.2,dif,le1,le2⟩
    ·exact gr r hr
   ·intro k' k1 k2
    by_cases c:k'≤i
    ·obtain ⟨r,hr,w⟩:=jn k' k1 c
     exact ⟨r,zee.mpr (.inr hr),w⟩
    ·have ek':k'=i+1:=by omega
     subst ek'
     refine ⟨(u,v,le),zee.mpr (.inl rfl),jx.toNat,by omega,?_⟩
     have hm3:ls[i+1]?=some me:=by
      have:=hm2
      rw [show (1+(i:Int)).toNat=i+1 by omega] at this
      exact this
     rcases huv with ⟨rfl,rfl⟩ | ⟨rfl,rfl⟩
     ·exact .inl ⟨hm3,ho2⟩
     ·exact .inr ⟨hm3,ho2⟩
  ·rintro σ H2 ⟨s2,ts,rs,hr2,ht2,lr,gr,jn,x1,x2,x3,x4,x5,rfl⟩
   have hS2:=s2.seq (s1.seq hS)
   have emn:m=((m - 1).toNat:Int)+1:=by omega
   simp_all only [zaN,zaK,zaJ,zaL,zaG,zac]
   refine ⟨p,ns,_,rfl,hS2,hl,by omega,by omega,fun n n0 n1'=>?_⟩
   have z0:=Int.emod_nonneg n (show ex+1≠0 by omega)
   have z1:=Int.emod_lt_of_pos n (show 0<ex+1 by omega)
   refine ⟨_,rfl,by omega,by omega,by omega,?_⟩
   generalize n % (ex+1)=cnt at z0 z1 ⊢
   refine zcI (fun i σ H'=>za3 H1 H'∧∃ (ts:List Addr) (rs:List zcz),H' rl=some (.lst (ts.map V.ref))∧Tps rdv (Off rl rl H') ts rs∧m - 1≤(rs.length:Int)∧(rs.length:Int)≤m - 1+i∧(∀ r∈rs,GR m r)∧zlb ls rs (m - 1).toNat ∧
    ∃ x1 x2 x3 x4 x5 x6 x7,σ=[some (.ref p),some (.int st),some (.int mo),some (.int ex),some (.int m),some (.int shp),some (.ref lab),some (.ref lef),x1,some (.ref rl),x2,x3,x4,x5,x6,x7]) ?_ ?_ ?_
   ·exact ⟨s2,ts,rs,hr2,ht2,by omega,by omega,gr,jn,_,_,_,_,_,_,_,rfl⟩
   ·rintro i σ H3 hi ⟨s3,ts,rs,hr3,ht3,lr1,lr2,gr,jn,y1,y2,y3,y4,y5,y6,y7,rfl⟩
    have hS3:=s3.seq (s1.seq hS)
    have lt3:=ht3.1
    simp_all only [zaN,zaK,zaJ,zaL,zaG,zac]
    refine ⟨p,ns,_,rfl,hS3,hl,by omega,by omega,fun n2 n20 n21=>?_⟩
    (try simp only);first | rw [zbw] | rw [zbs] | rw [zbv] | rw [zby] | rw [zbu] | rw [zbt] | rw [zbo] | rw [zbp]
    simp_all only [zaN,zaK,zaJ,zaL,zaG,zac]
    refine ⟨by omega,by omega,zl6 6 (by omega) (show m.natAbs<64 by omega),by omega,?_⟩
    have a0:=Int.emod_nonneg n2 (show m≠0 by omega)
    have a1:=Int.emod_lt_of_pos n2 (show 0<m by omega)
    have b0:=Int.emod_nonneg (n2 / m) (show m≠0 by omega)
    have b1:=Int.emod_lt_of_pos (n2 / m) (show 0<m by omega)
    generalize n2 % m=av at a0 a1
    generalize n2 / m % m=bv at b0 b1
    (try simp only);first | rw [zbw] | rw [zbs] | rw [zbv] | rw [zby] | rw [zbu] | rw [zbt] | rw [zbo] | rw [zbp]
    simp_all only [zaN,zaK,zaJ,zaL,zaG,zac]
    refine zdq (fun c=>?_) (fun c=>⟨s3,ts,hr3,rs,ht3,lr1,by omega,gr,jn⟩)
    refine ⟨.inl ⟨rfl,_,SqL.of hr3⟩,zoL.1,zoL.2,_,.inl (SqL.of hr3),by omega,zrr.1,zrr.2,?_⟩
    rw [List.length_map]
    have k0:=Int.emod_nonneg (n2 / 3600) (show (ts.length:Int)+1≠0 by omega)
    have k1:=Int.emod_lt_of_pos (n2 / 3600) (show 0<(ts.length:Int)+1 by omega)
    generalize n2 / 3600 % ((ts.length:Int)+1)=k at k0 k1
    refine ⟨_,rfl,fun le H7 s7 le1 le2=>⟨by decide,fun a6 ha6=>?_⟩⟩
    have s9:=zaw ha6 (.tup [V.int av,V.int bv,V.int le])
    have h9:(L2.upd H7 a6 (.tup [V.int av,V.int bv,V.int le])) a6=some (.tup [V.int av,V.int bv,V.int le]):=zaf
    generalize L2.upd H7 a6 (.tup [V.int av,V.int bv,V.int le])=H9 at s9 h9 ⊢
    have s69:=s7.trans s9
    have hr9:=s69 _ _ hr3
    have ht9:=ht3.same (ziY rl rl s69)
    have ltl:=ht9.1
    have big:(1000:Nat)<1000000:=by decide
    refine ⟨_,hr9,k0,by rw [List.length_map];omega,by rw [List.length_map];omega,?_⟩
    have n6:a6≠rl:=(zaE (s7 _ _ hr3) ha6).symm
    have h9':Off rl rl H9 a6=some (.tup (rdv (av,bv,le))):=by rw [zn3 n6 n6];exact h9
    refine ⟨(s3.trans s69).put hrl,zfA ts k.toNat a6,?_,zfA rs k.toNat (av,bv,le),?_,?_,?_,fun r hr=>?_,?_⟩
    ·rw [zaf,zkk]
     rfl
    ·rw [zuT]
     exact ht9.ins (by omega) h9'
    ·rw [zea (by omega)]
     omega
    ·rw [zea (by omega)]
     omega
    ·rcases zee.mp hr with rfl | hr
     ·exact ⟨a0,a1,b0,b1,c,le1,le2⟩
     ·exact gr r hr
    ·exact jn.mono fun r hr=>zee.mpr (.inr hr)
   ·rintro σ H3 ⟨s3,ts,rs,hr3,ht3,lr1,lr2,gr,jn,y1,y2,y3,y4,y5,y6,y7,rfl⟩
    simp_all only [zaN,zaK,zaJ,zaL,zaG,zac]
    refine ⟨by decide,fun w hw=>?_⟩
    refine q w rl ts m rs _ ((s1.trans s3).add hw) ⟨zaf,zaw hw _ _ _ hr3,(ht3.same (zuF rl rl H3)).same (zaw hw _)⟩ ⟨m1,by omega,by omega,gr,jn.conn emn hp l0⟩ m2 (by omega) lr1
theorem zbh:za7 ["_law_script","_law_start","_law_most","_law_extra","_law_many","_law_shape","_law_labels","_law_left","_law_k","_law_roads","_law_number","_law_other","_law_ends","_law_at","_law_a","_law_b"] ["_law_script","_law_start","_law_most","_law_extra"] (zav zgj):=⟨rfl,rfl,rfl,by decide +kernel,rfl,by decide +kernel,by decide +kernel⟩
theorem zlH (T:Txt K mg base a):zdD P w K mg base CX0 2 a.f__law_web a.d__law_web ["_law_script","_law_start","_law_most","_law_extra"] (ztW K):=by
 have G__law_length:=zhN (P:=P) (w:=w) (base:=base) T
 have G__law_mixed:=zfR (P:=P) (w:=w) (base:=base) T
 refine T.F__law_web.ok zbh (fun vs H Q E h=>?_) (fun cdv A outer s H vs Q E hr h=>?_)
 ·obtain ⟨p,ns,st,mo,ex,rfl,hS,hl,st0,st1,mo1,mo60,ex0,ex20,q⟩:=h
  rfl
 obtain ⟨p,ns,st,mo,ex,rfl,hS,hl,st0,st1,mo1,mo60,ex0,ex20,q⟩:=h
 exact ⟨zgh K,(zag (zaP (i:=4) zbh.nd rfl (Or.inl rfl) (zaC zb3 zah (zaC zbJ (za5 G__law_mixed (hr.mono (by decide)) rfl T.m__law_mixed T.F__law_mixed.kp T.b__law_mixed .nil zbZ (zaa (pv 0) (zaa (pv 1) zae))) (pv 2))))
 (zag (zaP (i:=5) zbh.nd rfl (Or.inl rfl) (zaC zbJ (zaC zcS (za5 G__law_mixed (hr.mono (by decide)) rfl T.m__law_mixed T.F__law_mixed.kp T.b__law_mixed .nil zbZ (zaa (pv 0) (zaa (pv 1) zae))) (pv 2)) zah))
 (zag (zaP (i:=6) zbh.nd rfl (Or.inl rfl) (zcj (zaa zah zae)))
 (zag (zaP (i:=7) zbh.nd rfl (Or.inl rfl) (zcf (zje rfl) rfl T.z_list zeh (zaa (zsZ rfl T.z_range (zaa zah (zaa (pv 4) zae))) zae)))
 (zag (zds PassesOwn.never rfl (zc3 rfl T.z_range (zaa (zaC zg8 (pv 4) zah) zae)) (zaO (i:=8) zbh.nd rfl (Or.inl rfl))
 (zat (zdx (zdG PySem.F.plainAttrs_list PySem.F.slot_list_append PySem.F.type_list_append zet (pv 6) (zaa (zdG PySem.F.plainAttrs_list PySem.F.slot_list_pop PySem.F.type_list_pop zpY (pv 7) (zaa (zaC zbJ (za5 G__law_mixed (hr.mono (by decide)) rfl T.m__law_mixed T.F__law_mixed.kp T.b__law_mixed .nil zbZ (zaa (pv 0) (zaa (zaC zb3 (zaC zb3 (pv 1) zah) (pv 8)) zae))) (zaj zaB rfl T.z_len PySem.boot_len (zaa (pv 7) zae))) zae)) zae)))))
 (zag (zaP (i:=9) zbh.nd rfl (Or.inl rfl) (zcj zae))
 (zag (zds PassesOwn.never rfl (zoR rfl T.z_range (zaa zah (zaa (pv 4) zae))) (zaO (i:=8) zbh.nd rfl (Or.inl rfl))
 (zag (zaP (i:=10) zbh.nd rfl (Or.inl rfl) (za5 G__law_mixed (hr.mono (by decide)) rfl T.m__law_mixed T.F__law_mixed.kp T.b__law_mixed .nil zbZ (zaa (pv 0) (zaa (zaC zb3 (zaC zb3 (pv 1) zah) (pv 8)) zae))))
 (zag (zaP (i:=11) zbh.nd rfl (Or.inl rfl) (zcd zba (pv 6) (zcd zba (zcj (zaa (zaC zbJ (pv 10) (pv 8)) (zaa (zaC zg8 (pv 8) zah) (zaa zah (zaa (zaC zbJ (pv 10) (zaj (zjr rfl) rfl T.z_min PyProof.Rows.boot_min (zaa (pv 8) (zaa zah zae)))) zae))))) (pv 5) (fun _ _=>rfl)) (fun _ _=>rfl)))
 (zag (zaP (i:=12) zbh.nd rfl (Or.inl rfl) (zcd zba (zcj (zaa (zdp (zaa (zcd zba (pv 6) (pv 8) (fun _ _=>rfl)) (zaa (pv 11) zae))) (zaa (zdp (zaa (pv 11) (zaa (zcd zba (pv 6) (pv 8) (fun _ _=>rfl)) zae))) zae))) (zaC zbJ (zaC zcS (pv 10) (pv 8)) zah) (fun _ _=>rfl)))
 (zag (zaP (i:=13) zbh.nd rfl (Or.inl rfl) (zaC zbJ (za5 G__law_mixed (hr.mono (by decide)) rfl T.m__law_mixed T.F__law_mixed.kp T.b__law_mixed .nil zbZ (zaa (pv 0) (zaa (zaC zb3 (zaC zb3 (pv 1) zah) (pv 8)) zae))) (zaC zb3 (zaj zaB rfl T.z_len PySem.boot_len (zaa (pv 9) zae)) zah)))
 (zat (zdx (zdG PySem.F.plainAttrs_list PySem.F.slot_list_insert PySem.F.type_list_insert zj8 (pv 9) (zaa (pv 13) (zaa (zaC zr9 (pv 12) (zdp (zaa (za5 G__law_length (hr.mono (by decide)) rfl T.m__law_length T.F__law_length.kp T.b__law_length .nil zbZ (zaa (zaC zcS (zaC zcS (pv 10) (pv 8)) zah) zae)) zae))) zae))))))))))
 (zag (zds PassesOwn.never rfl (zc3 rfl T.z_range (zaa (zaC zbJ (za5 G__law_mixed (hr.mono (by decide)) rfl T.m__law_mixed T.F__law_mixed.kp T.b__law_mixed .nil zbZ (zaa (pv 0) (zaa (zaC zb3 (pv 1) zah) zae))) (zaC zb3 (pv 3) zah)) zae)) (zaO (i:=8) zbh.nd rfl (Or.inl rfl))
 (zag (zaP (i:=10) zbh.nd rfl (Or.inl rfl) (za5 G__law_mixed (hr.mono (by decide)) rfl T.m__law_mixed T.F__law_mixed.kp T.b__law_mixed .nil zbZ (zaa (pv 0) (zaa (zaC zb3 (zaC zb3 (pv 1) zah) (pv 8)) zae))))
 (zag (zuQ (i:=14) (j:=15) rfl zbh.nd rfl rfl (by decide) rfl rfl (zaa (zaC zbJ (pv 10) (pv 4)) (zaa (zaC zbJ (zaC zcS (pv 10) (pv 4)) (pv 4)) zae)) rfl)
 (zat (zbN (zay zd8 (pv 14) (pv 15) (zaF _)) (zat (zdx (zdG PySem.F.plainAttrs_list PySem.F.slot_list_insert PySem.F.type_list_insert zj8 (pv 9) (zaa (zaC zbJ (zaC zcS (pv 10) zah) (zaC zb3 (zaj zaB rfl T.z_len PySem.boot_len (zaa (pv 9) zae)) zah)) (zaa (zdp (zaa (pv 14) (zaa (pv 15) (zaa (za5 G__law_length (hr.mono (by decide)) rfl T.m__law_length T.F__law_length.kp T.b__law_length .nil zbZ (zaa (zaC zcS (pv 10) zah) zae)) zae)))) zae))))) zaV)))))
 (zat (zaY (zdp (zaa (pv 4) (zaa (pv 9) zae))))))))))))),
  zlu hS hl st0 st1 mo1 mo60 ex0 ex20 q⟩
theorem ziF (x:Int):∀ cs:List Int,inV (.int x) (cs.map V.int)=decide (x∈cs)
 | []=>rfl
 | c::cs=>by
  have ih:=ziF x cs
  unfold inV at ih ⊢
  rw [List.map_cons,List.any_cons,ih]
  by_cases e:c=x
  ·subst e
   simp [eqV]
  ·have:eqV (.int c) (.int x)=false:=beq_eq_false_iff_ne.mpr e
   rw [this,Bool.false_or]
   exact decide_eq_decide.mpr ⟨fun h=>List.mem_cons_of_mem _ h,fun h=>(List.mem_cons.mp h).resolve_left fun z=>e z.symm⟩
theorem zhm (cs:List Int):(cs.map V.int).all zeE=true:=by
 rw [List.all_map]
 exact List.all_eq_true.mpr fun _ _=>rfl
def zuG (rs:List zcz) (cs:List Int):Prop:=∀ r∈rs,(r.1∈cs↔r.2.1∈cs)
structure Cms (m:Int) (rs:List zcz) (cs:List Int):Prop where
 nd:cs.Nodup
 inR:∀ x∈cs,0≤x∧x<m
 zero:0∈cs
 least:∀ S:Int→Prop,S 0→Clo rs S→∀ x∈cs,S x
theorem Cms.len {m:Int} {rs:List zcz} {cs:List Int} (h:Cms m rs cs):cs.length≤m.toNat:=by
 have:=zdn cs (zjM m) h.nd fun x hx=>zd2.mpr (h.inR x hx)
 unfold zjM at this
 rw [List.length_map,List.length_range] at this
 exact this
theorem Cms.put {m:Int} {rs:List zcz} {cs:List Int} (h:Cms m rs cs) {r:zcz} (hr:r∈rs) (g:GR m r) {x y:Int} (hx:x∈cs) (hy:y∉cs) (e:(x=r.1∧y=r.2.1)∨(x=r.2.1∧y=r.1)):Cms m rs (cs++[y]):=by
 refine ⟨List.nodup_append.mpr ⟨h.nd,by simp,fun a ha b hb z=>hy ?_⟩,fun z hz=>?_,List.mem_append_left _ h.zero,fun S s0 sc z hz=>?_⟩
 ·rw [← List.mem_singleton.mp hb,← z]
  exact ha
 ·rcases List.mem_append.mp hz with hz | hz
  ·exact h.inR z hz
  ·rw [List.mem_singleton.mp hz]
   unfold GR at g
   rcases e with ⟨_,rfl⟩ | ⟨_,rfl⟩
   ·exact ⟨g.2.2.1,g.2.2.2.1⟩
   ·exact ⟨g.1,g.2.1⟩
 ·rcases List.mem_append.mp hz with hz | hz
  ·exact h.least S s0 sc z hz
  ·rw [List.mem_singleton.mp hz]
   have sx:=h.least S s0 sc x hx
   rcases e with ⟨rfl,rfl⟩ | ⟨rfl,rfl⟩
   ·exact (sc r hr (.inl sx)).2
   ·exact (sc r hr (.inr sx)).1
theorem Cms.end {m:Int} {rs:List zcz} {cs:List Int} (h:Cms m rs cs) (c:zuG rs cs) (m1:1≤m):m≤(cs.length:Int)↔zow m rs:=by
 constructor
 ·intro hl S s0 sc x x0 x1
  refine h.least S s0 sc x ?_
  by_cases hx:x∈cs
  ·exact hx
  ·have:=zdn (x::cs) (zjM m) (List.nodup_cons.mpr ⟨hx,h.nd⟩) fun y hy=>by
    rcases List.mem_cons.mp hy with rfl | hy
    ·exact zd2.mpr ⟨x0,x1⟩
    ·exact zd2.mpr (h.inR y hy)
   unfold zjM at this
   rw [List.length_map,List.length_range,List.length_cons] at this
   omega
 ·intro hc
  have all:∀ x,0≤x→x<m→x∈cs:=hc (fun x=>x∈cs) h.zero fun r hr hh=>by
   have:=c r hr
   rcases hh with hh | hh
   ·exact ⟨hh,this.mp hh⟩
   ·exact ⟨this.mpr hh,hh⟩
  have:=zdn (zjM m) cs zie fun x hx=>all x (zd2.mp hx).1 (zd2.mp hx).2
  unfold zjM at this
  rw [List.length_map,List.length_range] at this
  omega
def zex (K:PySem.W.Frag):TS :=
 (zbX (zaA (tOp (rI0 fun i j=>.bl (decide (i<j))) (tCB (fun xs H Q=>∃ p ys,xs=[.ref p]∧(SqL K H p ys∨SqT K H p ys)∧Q (.int ys.length) H) (zab (zac 7) zas)) (zac 1))) (zbK (tUn (rU fun i=>.int (-i)) (tC (.int 1)))) za0)
theorem zbe (K:PySem.W.Frag) (D:zb1) (σ:St) (H:Hp):zex K D σ H=(zbX (zaA (tOp (rI0 fun i j=>.bl (decide (i<j))) (tCB (fun xs H Q=>∃ p ys,xs=[.ref p]∧(SqL K H p ys∨SqT K H p ys)∧Q (.int ys.length) H) (zab (zac 7) zas)) (zac 1))) (zbK (tUn (rU fun i=>.int (-i)) (tC (.int 1)))) za0) D σ H:=rfl
def zef (K:PySem.W.Frag):TS :=
 (zbX (zaA (tOp rNe (tOp (rIn K false) (zac 4) (zac 7)) (tOp (rIn K false) (zac 5) (zac 7)))) (zer (tBM K "list" zb9 (zac 7) (zab (tOp (zcR K) (zdB (zab (zac 4) (zab (zac 5) zas))) (tCB (fun xs H Q=>(∃ i,xs=[.int i]∧Q (.int i) H)∨∃ k,xs=[.bl k]∧Q (.int (if k then 1 else 0)) H) (zab (tOp (rIn K false) (zac 4) (zac 7)) zas))) zas))) za0)
theorem zbf (K:PySem.W.Frag) (D:zb1) (σ:St) (H:Hp):zef K D σ H=(zbX (zaA (tOp rNe (tOp (rIn K false) (zac 4) (zac 7)) (tOp (rIn K false) (zac 5) (zac 7)))) (zer (tBM K "list" zb9 (zac 7) (zab (tOp (zcR K) (zdB (zab (zac 4) (zab (zac 5) zas))) (tCB (fun xs H Q=>(∃ i,xs=[.int i]∧Q (.int i) H)∨∃ k,xs=[.bl k]∧Q (.int (if k then 1 else 0)) H) (zab (tOp (rIn K false) (zac 4) (zac 7)) zas))) zas))) za0) D σ H:=rfl
def zgF (K:PySem.W.Frag):TS :=
 (zaW (zbr (zdB (zab (tC (.int 0)) zas)) (zai 7))
 (zaW (zgJ (zfC (zab (zac 1) zas)) (zai 8)
 (zgJ (zhL K (zac 2)) (zhj K 3 (zbn (zai 4) (zbn (zai 5) (zbn (zai 6) zgK))))
 (zef K)))
 (zaW (zdk (zex K))
 (zbK (tC .non)))))
theorem zbc (K:PySem.W.Frag) (D:zb1) (σ:St) (H:Hp):zgF K D σ H=(zaW (zbr (zdB (zab (tC (.int 0)) zas)) (zai 7))
 (zaW (zgJ (zfC (zab (zac 1) zas)) (zai 8)
 (zgJ (zhL K (zac 2)) (zhj K 3 (zbn (zai 4) (zbn (zai 5) (zbn (zai 6) zgK))))
 (zef K)))
 (zaW (zdk (zex K))
 (zbK (tC .non))))) D σ H:=rfl
def zgx (K:PySem.W.Frag):TS :=
 (zbX (tOr (zaA (tOp (rI0 fun i j=>.bl (decide (i<j))) (zac 1) (tC (.int 1)))) (tOr (zaA (tOp (rI0 fun i j=>.bl (decide (j<i))) (zac 1) (tC (.int 60)))) (zaA (tOp (rI0 fun i j=>.bl (decide (j<i))) (tCB (fun xs H Q=>∃ p ys,xs=[.ref p]∧(SqL K H p ys∨SqT K H p ys)∧Q (.int ys.length) H) (zab (zac 2) zas)) (tC (.int 120)))))) (zbK (tUn (rU fun i=>.int (-i)) (tC (.int 1)))) za0)
theorem zbb (K:PySem.W.Frag) (D:zb1) (σ:St) (H:Hp):zgx K D σ H=(zbX (tOr (zaA (tOp (rI0 fun i j=>.bl (decide (i<j))) (zac 1) (tC (.int 1)))) (tOr (zaA (tOp (rI0 fun i j=>.bl (decide (j<i))) (zac 1) (tC (.int 60)))) (zaA (tOp (rI0 fun i j=>.bl (decide (j<i))) (tCB (fun xs H Q=>∃ p ys,xs=[.ref p]∧(SqL K H p ys∨SqT K H p ys)∧Q (.int ys.length) H) (zab (zac 2) zas)) (tC (.int 120)))))) (zbK (tUn (rU fun i=>.int (-i)) (tC (.int 1)))) za0) D σ H:=rfl
def zgE (K:PySem.W.Frag):TS :=
 (zaW (zbr (tOp (zcR K) (zac 2) (zac 3)) (zhj K 3 (zbn (zai 4) (zbn (zai 5) (zbn (zai 6) zgK)))))
 (zbX (tOr (zaA (tOp (rI0 fun i j=>.bl (decide (i<j))) (zac 4) (tC (.int 0)))) (tOr (zaA (tOp (rI0 fun i j=>.bl (decide (i<j))) (zac 5) (tC (.int 0)))) (tOr (zaA (tOp (rI0 fun i j=>.bl (decide (j≤i))) (zac 4) (zac 1))) (tOr (zaA (tOp (rI0 fun i j=>.bl (decide (j≤i))) (zac 5) (zac 1))) (tOr (zaA (tOp rEq (zac 4) (zac 5))) (tOr (zaA (tOp (rI0 fun i j=>.bl (decide (i<j))) (zac 6) (tC (.int 1)))) (zaA (tOp (rI0 fun i j=>.bl (decide (j<i))) (zac 6) (tOp (rI zlG fun i j=>.int (i ^ j.toNat)) (tC (.int 10)) (tC (.int 6))))))))))) (zbK (zac 3)) za0))
theorem zbd (K:PySem.W.Frag) (D:zb1) (σ:St) (H:Hp):zgE K D σ H=(zaW (zbr (tOp (zcR K) (zac 2) (zac 3)) (zhj K 3 (zbn (zai 4) (zbn (zai 5) (zbn (zai 6) zgK)))))
 (zbX (tOr (zaA (tOp (rI0 fun i j=>.bl (decide (i<j))) (zac 4) (tC (.int 0)))) (tOr (zaA (tOp (rI0 fun i j=>.bl (decide (i<j))) (zac 5) (tC (.int 0)))) (tOr (zaA (tOp (rI0 fun i j=>.bl (decide (j≤i))) (zac 4) (zac 1))) (tOr (zaA (tOp (rI0 fun i j=>.bl (decide (j≤i))) (zac 5) (zac 1))) (tOr (zaA (tOp rEq (zac 4) (zac 5))) (tOr (zaA (tOp (rI0 fun i j=>.bl (decide (i<j))) (zac 6) (tC (.int 1)))) (zaA (tOp (rI0 fun i j=>.bl (decide (j<i))) (zac 6) (tOp (rI zlG fun i j=>.int (i ^ j.toNat)) (tC (.int 10)) (tC (.int 6))))))))))) (zbK (zac 3)) za0)) D σ H:=rfl
def zgc (K:PySem.W.Frag):TS :=
 (zaW (zbr (zac 0) (zhj K 2 (zbn (zai 1) (zbn (zai 2) zgK))))
 (zaW (zgJ (zfC (zab (tCB (fun xs H Q=>∃ p ys,xs=[.ref p]∧(SqL K H p ys∨SqT K H p ys)∧Q (.int ys.length) H) (zab (zac 2) zas)) zas)) (zai 3)
 (zgE K))
 (zaW (zdk (zgx K))
 (zgF K))))
theorem zls {w rl:Addr} {ts:List Addr} {m:Int} {rs:List zcz} (W:zgI H w rl ts m rs) (l200:rs.length≤99999) (q:zqP m rs→∀ H',za3 H H'→Q .non H') (e:∀ d,zmH m rs d→∀ H',za3 H H'→Q (.int d) H') :
  zgc K { nx:=fun _ H'=>Q .non H',rt:=Q } (L2.zbY ["_law_web_here","_law_many","_law_roads","_law_k","_law_a","_law_b","_law_length_here","_law_come","_law_place"] [.ref w]) H:=by
 unfold zgc
 simp_all only [zbe,zbf,zbc,zbb,zbd,zac]
 refine ⟨_,SqT.of W.hw,rfl,_,_,rfl,_,_,rfl,rfl,?_⟩
 refine ⟨_,rfl,_,.inl (SqL.of W.hl),?_⟩
 rw [List.length_map,W.ht.1,Int.toNat_natCast]
 refine ⟨by omega,by omega,?_⟩
 refine zcI (fun i σ H'=>H'=H∧(∀ (j:Nat) r,j<i→rs[j]?=some r→GR m r)∧∃ x3 x4 x5 x6,σ=[some (.ref w),some (.int m),some (.ref rl),x3,x4,x5,x6,none,none]) ⟨rfl,fun j r hj=>by omega,_,_,_,_,rfl⟩ ?_ ?_
 ·rintro i σ H1 hi ⟨rfl,hg,x3,x4,x5,x6,rfl⟩
  have er:rs[i]?=some rs[i]:=List.getElem?_eq_getElem hi
  have et:ts[i]?=some (ts[i]'(by rw [W.ht.1];exact hi)):=List.getElem?_eq_getElem _
  generalize rs[i]=r at er
  generalize ts[i]'(by rw [W.ht.1];exact hi)=t at et
  have ht:=W.ht.2 i t r et er
  rw [Int.zero_add]
  simp_all only [zbe,zbf,zbc,zbb,zbd,zac]
  refine ⟨_,SqL.of W.hl,_,zbH (by rw [List.getElem?_map,et];rfl),_,rfl,_,SqT.of ht,rfl,?_⟩
  have bad:¬ GR m r→Q (.int (i:Int)) H1:=fun n=>e _ (.inl ⟨i,ziU er n hg,rfl⟩) _ (.refl _)
  refine ⟨_,_,rfl,_,_,rfl,_,_,rfl,rfl,r.1,rfl,zdq (fun z=>bad fun g=>?_) (fun z1=>⟨r.2.1,rfl,zdq (fun z=>bad fun g=>?_) (fun z2=>⟨r.1,rfl,zdq (fun z=>bad fun g=>?_) (fun z3=>⟨r.2.1,rfl,zdq (fun z=>bad fun g=>?_) (fun z4=>⟨rfl,zdq (fun z=>bad fun g=>?_) (fun z5=>⟨r.2.2,rfl,zdq (fun z=>bad fun g=>?_) (fun z6=>⟨pow6,r.2.2,rfl,zdq (fun z=>bad fun g=>?_) (fun z7 j q hj hq=>?_)⟩)⟩)⟩)⟩)⟩)⟩)⟩
  ·have:=g.1;omega
  ·have:=g.2.2.1;omega
  ·have:=g.2.1;omega
  ·have:=g.2.2.2.1;omega
  ·exact g.2.2.2.2.1 (V.int.inj z)
  ·have:=g.2.2.2.2.2.1;omega
  ·have:=g.2.2.2.2.2.2;omega
  ·rcases Nat.lt_or_eq_of_le (Nat.lt_succ_iff.mp hj) with h | h
   ·exact hg j q h hq
   ·rw [h,er] at hq
    cases hq
    exact ⟨by omega,by omega,by omega,by omega,fun z=>z5 (by rw [z]),by omega,by omega⟩
 ·rintro σ H1 ⟨rfl,hg,x3,x4,x5,x6,rfl⟩
  have gr:∀ r∈rs,GR m r:=fun r hr=>by
   obtain ⟨j,hj,e⟩:=List.mem_iff_getElem.mp hr
   exact hg j r hj (by rw [List.getElem?_eq_getElem hj,e])
  have bn:=zf6 gr
  have no:¬ (1≤m∧m≤60∧rs.length≤120∧zow m rs)→∀ H2,za3 H1 H2→Q (.int (-1)) H2:=fun n H2 s2=>e _ (.inr ⟨bn,n,rfl⟩) H2 s2
  simp_all only [zbe,zbf,zbc,zbb,zbd,zac]
  refine ⟨fun σ H'=>H'=H1∧1≤m∧m≤60∧rs.length≤120∧σ=[some (.ref w),some (.int m),some (.ref rl),x3,x4,x5,x6,none,none],?_,?_⟩
  ·simp_all only [zbe,zbf,zbc,zbb,zbd,zac]
   refine zdq (fun z=>no (fun n=>by omega) _ (.refl _)) (fun z1=>zdq (fun z=>no (fun n=>by omega) _ (.refl _)) (fun z2=>⟨_,.inl (SqL.of W.hl),?_⟩))
   rw [List.length_map,W.ht.1]
   exact zdq (fun z=>no (fun n=>by omega) _ (.refl _)) (fun z3=>⟨by omega,by omega,by omega⟩)
  rintro σ H2 ⟨rfl,m1,m60,l120,rfl⟩
  simp_all only [zbe,zbf,zbc,zbb,zbd,zac]
  refine ⟨by decide,fun cl hcl=>⟨by omega,by omega,?_⟩⟩
  have i0:Cms m rs [0]:=⟨by simp,fun x hx=>by rw [List.mem_singleton.mp hx];omega,by simp,fun S s0 _ x hx=>by rw [List.mem_singleton.mp hx];exact s0⟩
  refine zcI (fun i σ H'=>za3 H2 H'∧∃ cs:List Int,H' cl=some (.lst (cs.map V.int))∧Cms m rs cs∧(zuG rs cs∨i+1≤cs.length)∧∃ y3 y4 y5 y6 y8,σ=[some (.ref w),some (.int m),some (.ref rl),y3,y4,y5,y6,some (.ref cl),y8]) ⟨zaw hcl _,[0],zaf,i0,.inr (Nat.le_refl _),_,_,_,_,_,rfl⟩ ?_ ?_
  ·rintro i σ H3 hi ⟨s3,cs0,h3,c3,d3,y3,y4,y5,y6,y8,rfl⟩
   simp_all only [zbe,zbf,zbc,zbb,zbd,zac]
   refine ⟨⟨_,SqL.of (s3 _ _ W.hl)⟩,?_⟩
   refine zg0 (K:=K) (xs:=ts.map V.ref) (fun j σ H'=>za3 H2 H'∧∃ cs:List Int,H' cl=some (.lst (cs.map V.int))∧Cms m rs cs∧((cs=cs0∧∀ (k:Nat) r,k<j→rs[k]?=some r→(r.1∈cs0↔r.2.1∈cs0))∨(¬ zuG rs cs0∧cs0.length<cs.length))∧∃ z3 z4 z5 z6 z8,σ=[some (.ref w),some (.int m),some (.ref rl),z3,z4,z5,z6,some (.ref cl),z8]) ⟨s3,cs0,h3,c3,.inl ⟨rfl,fun k r hk=>by omega⟩,_,_,_,_,_,rfl⟩ ?_ ?_ ?_
   ·rintro j σ H' _ ⟨s,_⟩
    exact SqL.of (s _ _ W.hl)
   ·rintro j x σ H4 hx ⟨s4,cs,h4,c4,d4,z3,z4,z5,z6,z8,rfl⟩
    obtain ⟨t,et,rfl⟩:=zgt hx
    obtain ⟨r,er,hr⟩:=W.ht.at et
    have g:=gr r (zc1 er)
    simp_all only [zbe,zbf,zbc,zbb,zbd,zac]
    refine ⟨_,SqT.of (s4 _ _ hr),rfl,_,_,rfl,_,_,rfl,_,_,rfl,rfl,?_⟩
    refine ⟨_,.inl (SqL.of h4),rfl,zhm cs,_,.inl (SqL.of h4),rfl,zhm cs,?_⟩
    rw [ziF,ziF]
    have lc:=c4.len
    refine zdq (fun c=>?_) (fun c=>?_)
    ·refine ⟨.inl ⟨rfl,_,SqL.of h4⟩,by decide,fun p hp=>?_⟩
     have np:cl≠p:=zaE h4 hp
     have h5:(L2.upd H4 p (HO.lst [V.int r.fst,V.int r.snd.fst])) cl=some (.lst (cs.map V.int)):=by rw [zax np];exact h4
     have s5:=(s4.add hp (o:=HO.lst [V.int r.fst,V.int r.snd.fst])).put hcl (o:=.lst (cs.map V.int++[V.int r.2.1]))
     have s6:=(s4.add hp (o:=HO.lst [V.int r.fst,V.int r.snd.fst])).put hcl (o:=.lst (cs.map V.int++[V.int r.1]))
     have big:(cs.map V.int).length<sizeLine:=by rw [List.length_map];simp only [sizeLine];omega
     have go:∀ y,¬ zuG rs cs0∧cs0.length<(cs++[y]).length:=fun y=>by
      rw [List.length_append,List.length_singleton]
      rcases d4 with ⟨rfl,_⟩ | ⟨hn,hl⟩
      ·exact ⟨fun z=>c (decide_eq_decide.mpr (z r (zc1 er))),by omega⟩
      ·exact ⟨hn,by omega⟩
     refine ⟨_,.inl (SqL.of h5),rfl,zhm cs,.inr ?_⟩
     rw [ziF]
     by_cases ha:r.1∈cs
     ·have hb:r.2.1∉cs:=fun hb=>c (by rw [decide_eq_true ha,decide_eq_true hb])
      rw [decide_eq_true ha]
      exact ⟨_,SqL.of zaf,.int r.2.1,rfl,_,h5,big,s5,cs++[r.2.1],by rw [zaf,List.map_append];rfl,c4.put (zc1 er) g ha hb (.inl ⟨rfl,rfl⟩),.inr (go _)⟩
     ·have hb:r.2.1∈cs:=Decidable.not_not.mp fun hb=>c (by rw [decide_eq_false ha,decide_eq_false hb])
      rw [decide_eq_false ha]
      exact ⟨_,SqL.of zaf,.int r.1,rfl,_,h5,big,s6,cs++[r.1],by rw [zaf,List.map_append];rfl,c4.put (zc1 er) g hb ha (.inr ⟨rfl,rfl⟩),.inr (go _)⟩
    ·refine ⟨s4,cs,h4,c4,?_⟩
     rcases d4 with ⟨rfl,hc⟩ | h
     ·refine .inl ⟨rfl,fun k r' hk hr'=>?_⟩
      rcases Nat.lt_or_eq_of_le (Nat.lt_succ_iff.mp hk) with h | h
      ·exact hc k r' h hr'
      ·rw [h,er] at hr'
       cases hr'
       exact decide_eq_decide.mp (Decidable.not_not.mp c)
     ·exact .inr h
   ·rintro σ H4 ⟨s4,cs,h4,c4,d4,z3,z4,z5,z6,z8,rfl⟩
    refine ⟨s4,cs,h4,c4,?_,_,_,_,_,_,rfl⟩
    rw [List.length_map,W.ht.1] at d4
    rcases d4 with ⟨rfl,hc⟩ | ⟨hn,hl⟩
    ·refine .inl fun r hr=>?_
     obtain ⟨k,hk,e⟩:=List.mem_iff_getElem.mp hr
     exact hc k r hk (by rw [List.getElem?_eq_getElem hk,e])
    ·have:=d3.resolve_left hn
     exact .inr (by omega)
  ·rintro σ H3 ⟨s3,cs,h3,c3,d3,y3,y4,y5,y6,y8,rfl⟩
   have cl3:zuG rs cs:=d3.resolve_right fun z=>by have:=c3.len;omega
   have en:=c3.end cl3 m1
   simp_all only [zbe,zbf,zbc,zbb,zbd,zac]
   refine ⟨fun σ H'=>za3 H2 H'∧zow m rs,?_,?_⟩
   ·simp_all only [zbe,zbf,zbc,zbb,zbd,zac]
    refine ⟨_,.inl (SqL.of h3),?_⟩
    rw [List.length_map]
    exact zdq (fun z=>no (fun n=>by have:=en.mpr n.2.2.2;omega) _ s3) (fun z=>⟨s3,en.mp (by omega)⟩)
   ·rintro σ H4 ⟨s4,c⟩
    simp_all only [zbe,zbf,zbc,zbb,zbd,zac]
    exact q ⟨bn,m1,m60,l120,c⟩ _ s4
theorem zbB:za7 ["_law_web_here","_law_many","_law_roads","_law_k","_law_a","_law_b","_law_length_here","_law_come","_law_place"] ["_law_web_here"] (zav zf5):=⟨rfl,rfl,rfl,by decide +kernel,rfl,by decide +kernel,by decide +kernel⟩
theorem zli (T:Txt K mg base a):zdD P w K mg base CX0 1 a.f__law_due a.d__law_due ["_law_web_here"] zrA:=by
 refine T.F__law_due.ok zbB (fun vs H Q E h=>?_) (fun cdv A outer s H vs Q E hr h=>?_)
 ·obtain ⟨w',rl,ts,m,rs,rfl,W,l200,q,e⟩:=h
  rfl
 obtain ⟨w',rl,ts,m,rs,rfl,W,l200,q,e⟩:=h
 exact ⟨zgc K,(zag (zg6 (pv 0) (zd3 rfl (zaZ (zaO (i:=1) zbB.nd rfl (Or.inl rfl)) (zaZ (zaO (i:=2) zbB.nd rfl (Or.inl rfl)) zcT))))
 (zag (zds PassesOwn.never rfl (zc3 rfl T.z_range (zaa (zaj zaB rfl T.z_len PySem.boot_len (zaa (pv 2) zae)) zae)) (zaO (i:=3) zbB.nd rfl (Or.inl rfl))
 (zag (zg6 (zcd zba (pv 2) (pv 3) (fun _ _=>rfl)) (zd3 rfl (zaZ (zaO (i:=4) zbB.nd rfl (Or.inl rfl)) (zaZ (zaO (i:=5) zbB.nd rfl (Or.inl rfl)) (zaZ (zaO (i:=6) zbB.nd rfl (Or.inl rfl)) zcT)))))
 (zat (zbN (PW.pt (zcL (zay ziO (pv 4) zah (zaF _)) (zcL (zay ziO (pv 5) zah (zaF _)) (zcL (zay zpJ (pv 4) (pv 1) (zaF _)) (zcL (zay zpJ (pv 5) (pv 1) (zaF _)) (zcL (zay zdg (pv 4) (pv 5) (zaF _)) (zcL (zay ziO (pv 6) zah (zaF _)) (zcZ (zay zlf (pv 6) (zaC zha zah zah) (zaF _)))))))))) (zat (zaY (pv 3))) zaV))))
 (zag (zbz (zbN (PW.pt (zcL (zay ziO (pv 1) zah (zaF _)) (zcL (zay zlf (pv 1) zah (zaF _)) (zcZ (zay zlf (zaj zaB rfl T.z_len PySem.boot_len (zaa (pv 2) zae)) zah (zaF _)))))) (zat (zaY (zjE zgG zah))) zaV))
 (zag (zaP (i:=7) zbB.nd rfl (Or.inl rfl) (zcj (zaa zah zae)))
 (zag (zds PassesOwn.never rfl (zc3 rfl T.z_range (zaa (pv 1) zae)) (zaO (i:=8) zbB.nd rfl (Or.inl rfl))
 (zat (zds PassesOwn.never rfl (zgZ (pv 2)) (zd3 rfl (zaZ (zaO (i:=4) zbB.nd rfl (Or.inl rfl)) (zaZ (zaO (i:=5) zbB.nd rfl (Or.inl rfl)) (zaZ (zaO (i:=6) zbB.nd rfl (Or.inl rfl)) zcT))))
 (zat (zbN (zay zd8 (zcG zeF (pv 4) (pv 7) (by with_unfolding_all rfl)) (zcG zeF (pv 5) (pv 7) (by with_unfolding_all rfl)) (zaF _)) (zat (zdx (zdG PySem.F.plainAttrs_list PySem.F.slot_list_append PySem.F.type_list_append zet (pv 7) (zaa (zcd zba (zcj (zaa (pv 4) (zaa (pv 5) zae))) (zcf zgX rfl T.z_int zde (zaa (zcG zeF (pv 4) (pv 7) (by with_unfolding_all rfl)) zae)) (fun _ _=>rfl)) zae)))) zaV)))))
 (zag (zbz (zbN (zay ziO (zaj zaB rfl T.z_len PySem.boot_len (zaa (pv 7) zae)) (pv 1) (zaF _)) (zat (zaY (zjE zgG zah))) zaV))
 (zat (zaY zb2)))))))),
  zls W l200 q e⟩
def zlz (K:PySem.W.Frag):Sp:=fun vs H Q _=>∃ text:Str,vs=[.str text]∧Rn 640 text∧text.length≤80000 ∧
 (∀ (k:Nat) t H',zjk (Txt.split text (Str.ofString "\n"))=.inl k→za3 H H'→H' t=some (.tup [.int k,.non])→Q (.ref t) H') ∧
 ∀ m rs t w rl ts H',zjk (Txt.split text (Str.ofString "\n"))=.inr (m,rs)→za3 H H'→H' t=some (.tup [.non,.ref w])→zgI H' w rl ts m rs→Q (.ref t) H'
def zcy (K:PySem.W.Frag):TS :=
 (zbX (zaA (tOp (fun x y H Q=>y=.non∧Q (.bl (!decide (x=.non))) H) (za9 zrA [] E0 (zab (zf1 (zab (zac 3) (zab (zac 2) zas))) zas)) (tC .non))) (zbK (zf1 (zab (tOp (rI0 fun i j=>.int (i - j)) (tCB (fun xs H Q=>∃ p ys,xs=[.ref p]∧(SqL K H p ys∨SqT K H p ys)∧Q (.int ys.length) H) (zab (zac 1) zas)) (tC (.int 1))) (zab (tC .non) zas)))) za0)
theorem zaQ (K:PySem.W.Frag) (D:zb1) (σ:St) (H:Hp):zcy K D σ H=(zbX (zaA (tOp (fun x y H Q=>y=.non∧Q (.bl (!decide (x=.non))) H) (za9 zrA [] E0 (zab (zf1 (zab (zac 3) (zab (zac 2) zas))) zas)) (tC .non))) (zbK (zf1 (zab (tOp (rI0 fun i j=>.int (i - j)) (tCB (fun xs H Q=>∃ p ys,xs=[.ref p]∧(SqL K H p ys∨SqT K H p ys)∧Q (.int ys.length) H) (zab (zac 1) zas)) (tC (.int 1))) (zab (tC .non) zas)))) za0) D σ H:=rfl
def zbT:TS :=
 (zbX (tOr (zaA (tOp rEq (zac 7) (zac 8))) (tOr (zaA (tOp (rI0 fun i j=>.bl (decide (j≤i))) (tCB (fun xs H Q=>∃ i j,xs=[.int i,.int j]∧Q (.int (if j > i then j else i)) H) (zab (zac 7) (zab (zac 8) zas))) (zac 3))) (tOr (zaA (tOp (rI0 fun i j=>.bl (decide (i<j))) (zac 9) (tC (.int 1)))) (zaA (tOp (rI0 fun i j=>.bl (decide (j<i))) (zac 9) (tOp (rI zlG fun i j=>.int (i ^ j.toNat)) (tC (.int 10)) (tC (.int 6)))))))) (zbK (zf1 (zab (zac 4) (zab (tC .non) zas)))) za0)
theorem za2 (D:zb1) (σ:St) (H:Hp):zbT D σ H=(zbX (tOr (zaA (tOp rEq (zac 7) (zac 8))) (tOr (zaA (tOp (rI0 fun i j=>.bl (decide (j≤i))) (tCB (fun xs H Q=>∃ i j,xs=[.int i,.int j]∧Q (.int (if j > i then j else i)) H) (zab (zac 7) (zab (zac 8) zas))) (zac 3))) (tOr (zaA (tOp (rI0 fun i j=>.bl (decide (i<j))) (zac 9) (tC (.int 1)))) (zaA (tOp (rI0 fun i j=>.bl (decide (j<i))) (zac 9) (tOp (rI zlG fun i j=>.int (i ^ j.toNat)) (tC (.int 10)) (tC (.int 6)))))))) (zbK (zf1 (zab (zac 4) (zab (tC .non) zas)))) za0) D σ H:=rfl
def zbR (K:PySem.W.Frag):TS :=
 (zbX (zaA (tOp rEq (zac 4) (tC (.int 0)))) (zbr (tOp (zcR K) (zac 6) (tC (.int 0))) (zai 3)) (zaW (zbr (zac 6) (gLst K 3 (zbn (zai 7) (zbn (zai 8) (zbn (zai 9) zgK)))))
 (zaW (zdk (zbT))
 (zer (tBM K "list" zb9 (zac 2) (zab (zf1 (zab (zac 7) (zab (zac 8) (zab (zac 9) zas)))) zas))))))
theorem zaT (K:PySem.W.Frag) (D:zb1) (σ:St) (H:Hp):zbR K D σ H=(zbX (zaA (tOp rEq (zac 4) (tC (.int 0)))) (zbr (tOp (zcR K) (zac 6) (tC (.int 0))) (zai 3)) (zaW (zbr (zac 6) (gLst K 3 (zbn (zai 7) (zbn (zai 8) (zbn (zai 9) zgK)))))
 (zaW (zdk (zbT))
 (zer (tBM K "list" zb9 (zac 2) (zab (zf1 (zab (zac 7) (zab (zac 8) (zab (zac 9) zas)))) zas)))))) D σ H:=rfl
def zbS (K:PySem.W.Frag):TS :=
 (zbX (tOr (zaA (tOp rNe (tOp (zcR K) (zac 5) (tC (.int 0))) (tOp (zcR K) (zdB (zab (tC (.str "road")) (zab (tC (.str "web")) zas))) (tCB (fun xs H Q=>(∃ i,xs=[.int i]∧Q (.int i) H)∨∃ k,xs=[.bl k]∧Q (.int (if k then 1 else 0)) H) (zab (tOp rEq (zac 4) (tC (.int 0))) zas))))) (tOr (zaA (tOp rNe (tCB (fun xs H Q=>∃ p ys,xs=[.ref p]∧(SqL K H p ys∨SqT K H p ys)∧Q (.int ys.length) H) (zab (zac 5) zas)) (tOp (zcR K) (zdB (zab (tC (.int 4)) (zab (tC (.int 2)) zas))) (tCB (fun xs H Q=>(∃ i,xs=[.int i]∧Q (.int i) H)∨∃ k,xs=[.bl k]∧Q (.int (if k then 1 else 0)) H) (zab (tOp rEq (zac 4) (tC (.int 0))) zas))))) (zaA (tOp (rIn K false) (tC .non) (zac 6))))) (zbK (zf1 (zab (zac 4) (zab (tC .non) zas)))) za0)
theorem zaR (K:PySem.W.Frag) (D:zb1) (σ:St) (H:Hp):zbS K D σ H=(zbX (tOr (zaA (tOp rNe (tOp (zcR K) (zac 5) (tC (.int 0))) (tOp (zcR K) (zdB (zab (tC (.str "road")) (zab (tC (.str "web")) zas))) (tCB (fun xs H Q=>(∃ i,xs=[.int i]∧Q (.int i) H)∨∃ k,xs=[.bl k]∧Q (.int (if k then 1 else 0)) H) (zab (tOp rEq (zac 4) (tC (.int 0))) zas))))) (tOr (zaA (tOp rNe (tCB (fun xs H Q=>∃ p ys,xs=[.ref p]∧(SqL K H p ys∨SqT K H p ys)∧Q (.int ys.length) H) (zab (zac 5) zas)) (tOp (zcR K) (zdB (zab (tC (.int 4)) (zab (tC (.int 2)) zas))) (tCB (fun xs H Q=>(∃ i,xs=[.int i]∧Q (.int i) H)∨∃ k,xs=[.bl k]∧Q (.int (if k then 1 else 0)) H) (zab (tOp rEq (zac 4) (tC (.int 0))) zas))))) (zaA (tOp (rIn K false) (tC .non) (zac 6))))) (zbK (zf1 (zab (zac 4) (zab (tC .non) zas)))) za0) D σ H:=rfl
def zbQ (K:PySem.W.Frag):TS :=
 (zbX (tOr (zaA (tOp rNe (tOp (zcR K) (zac 1) (zac 4)) (tC (.str "")))) (zaA (tOp rEq (zac 4) (tC (.int 0))))) (zbK (zf1 (zab (zac 4) (zab (tC .non) zas)))) za0)
theorem za1 (K:PySem.W.Frag) (D:zb1) (σ:St) (H:Hp):zbQ K D σ H=(zbX (tOr (zaA (tOp rNe (tOp (zcR K) (zac 1) (zac 4)) (tC (.str "")))) (zaA (tOp rEq (zac 4) (tC (.int 0))))) (zbK (zf1 (zab (zac 4) (zab (tC .non) zas)))) za0) D σ H:=rfl
def zbP (K:PySem.W.Frag):TS :=
 (zaW (zbr (tBM K "str" zfJ (tOp (zcR K) (zac 1) (zac 4)) (zab (tC (.str " ")) zas)) (zai 5))
 (zaW (zbr (zgn (zhL K (tSl (zjv K) (zac 5) (zcO (tC (.int 1))) zbE)) (zai 0) zc9 (za9 zm0 [] E0 (zab (zac 0) zas)) [none]) (zai 6))
 (zaW (zdk (zbS K))
 (zbR K))))
theorem zaH (K:PySem.W.Frag) (D:zb1) (σ:St) (H:Hp):zbP K D σ H=(zaW (zbr (tBM K "str" zfJ (tOp (zcR K) (zac 1) (zac 4)) (zab (tC (.str " ")) zas)) (zai 5))
 (zaW (zbr (zgn (zhL K (tSl (zjv K) (zac 5) (zcO (tC (.int 1))) zbE)) (zai 0) zc9 (za9 zm0 [] E0 (zab (zac 0) zas)) [none]) (zai 6))
 (zaW (zdk (zbS K))
 (zbR K)))) D σ H:=rfl
def zcx (K:PySem.W.Frag):TS :=
 (zbX (zaA (tOp rEq (zac 4) (tOp (rI0 fun i j=>.int (i - j)) (tCB (fun xs H Q=>∃ p ys,xs=[.ref p]∧(SqL K H p ys∨SqT K H p ys)∧Q (.int ys.length) H) (zab (zac 1) zas)) (tC (.int 1))))) (zaW (zdk (zbQ K))
 zs8) za0)
theorem zaU (K:PySem.W.Frag) (D:zb1) (σ:St) (H:Hp):zcx K D σ H=(zbX (zaA (tOp rEq (zac 4) (tOp (rI0 fun i j=>.int (i - j)) (tCB (fun xs H Q=>∃ p ys,xs=[.ref p]∧(SqL K H p ys∨SqT K H p ys)∧Q (.int ys.length) H) (zab (zac 1) zas)) (tC (.int 1))))) (zaW (zdk (zbQ K))
 zs8) za0) D σ H:=rfl
def zcQ (K:PySem.W.Frag):TS :=
 (zaW (zbr (tBM K "str" zfJ (zac 0) (zab (tC (.str "\n")) zas)) (zai 1))
 (zaW (zbr (zdB zas) (zai 2))
 (zaW (zbr (tC .non) (zai 3))
 (zaW (zgJ (zfC (zab (tCB (fun xs H Q=>∃ p ys,xs=[.ref p]∧(SqL K H p ys∨SqT K H p ys)∧Q (.int ys.length) H) (zab (zac 1) zas)) zas)) (zai 4)
 (zaW (zdk (zcx K))
 (zbP K)))
 (zaW (zdk (zcy K))
 (zbK (zf1 (zab (tC .non) (zab (zf1 (zab (zac 3) (zab (zac 2) zas))) zas)))))))))
def kwS (z:Bool):Str:=if z then Str.ofString "web" else Str.ofString "road"
def knS (z:Bool):Nat:=if z then 2 else 4
def zqc (s:Rdd) (ns:List Int):Option Rdd:=match s with
 | none=>match ns with
  | [m]=>some (some (m,[]))
  | _=>none
 | some (m,rs)=>(zqs m ns).map fun r=>some (m,rs++[r])
theorem zsF (s:Rdd) {row w0:Str} {wr:List Str} (e:Txt.split row (Str.ofString " ")=w0::wr):zeT s row=if wr.length+1=knS s.isNone∧w0=kwS s.isNone then (zc0 wr).bind (zqc s) else none:=by
 match s with
 | none =>
  show (zhI row).map (fun m=>some (m,([]:List zcz)))=if wr.length+1=2∧w0=Str.ofString "web" then (zc0 wr).bind (zqc none) else none
  unfold zhI
  rw [e]
  show Option.map _ (if wr.length+1=2∧w0=Str.ofString "web" then zfD (wr.getD 0 "") else none)=_
  by_cases c:wr.length+1=2∧w0=Str.ofString "web"
  ·rw [if_pos c,if_pos c]
   obtain ⟨w1,rfl⟩:=len1 (l:=wr) (by omega)
   rw [zeO]
   show Option.map _ (zfD w1)=_
   cases zfD w1 <;> rfl
  ·rw [if_neg c,if_neg c]
   rfl
 | some (m,rs) =>
  show (zg7 m row).map (fun r=>some (m,rs++[r]))=if wr.length+1=4∧w0=Str.ofString "road" then (zc0 wr).bind (zqc (some (m,rs))) else none
  unfold zg7
  rw [e]
  show Option.map _ (if wr.length+1=4∧w0=Str.ofString "road" then (zc0 wr).bind (zqs m) else none)=_
  by_cases c:wr.length+1=4∧w0=Str.ofString "road"
  ·rw [if_pos c,if_pos c]
   cases zc0 wr <;> rfl
  ·rw [if_neg c,if_neg c]
   rfl
def LwS (s:Rdd) (H:Hp) (rl:Addr) (v:V):Prop:=match s with
 | none=>v=.non∧H rl=some (.lst [])
 | some (m,rs)=>v=.int m∧∃ ts:List Addr,H rl=some (.lst (ts.map V.ref))∧Tps rdv H ts rs
def LwL (s:Rdd):Nat:=match s with
 | none=>0
 | some (_,rs)=>rs.length
theorem zm2 {w:Str} {n:Int} (l:w.length≤640) (h:zfD w=some n):0≤n:=by
 unfold zfD at h
 split at h
 ·rename_i hk
  have hd:w.cps.toList.all dg=true∧1≤w.length:=by
   unfold okW at hk
   simp only [Bool.and_eq_true,decide_eq_true_eq] at hk
   exact ⟨hk.1.2,hk.1.1⟩
  obtain ⟨k,hk,k0⟩:=zil hd.1 hd.2 (by omega)
  rw [hk] at h
  cases h
  exact k0
 ·cases h
theorem zhf:∀ {ws:List Str} {ns:List Int},(∀ w∈ws,w.length≤640)→zc0 ws=some ns→∀ n∈ns,0≤n
 | [],ns,_,h,n,hn=>by
  cases h
  cases hn
 | w::ws,ns,l,h,n,hn=>by
  rw [zeO] at h
  cases h1:zfD w with
  | none=>rw [h1] at h;cases h
  | some k =>
   cases h2:zc0 ws with
   | none=>rw [h1,h2] at h;cases h
   | some ms =>
    rw [h1,h2] at h
    cases h
    rcases List.mem_cons.mp hn with rfl | hn
    ·exact zm2 (l w (List.mem_cons_self ..)) h1
    ·exact zhf (fun w hw=>l w (List.mem_cons_of_mem _ hw)) h2 n hn
theorem ztZ {D:zb1} {s:Rdd} {row:Str} {i:Nat} {p rl:Addr} {v:V} {rows:List Str} {x0 x5 x6 x7 x8 x9:Option V} (hp:H p=some (.lst (rows.map V.str))) (er:rows[i]?=some row) (hr:Rn 640 row) (h10:10∉sgn row) (lr:row.length≤90000) (S:LwS s H rl v) (s0:s=none↔i=0) (sl:LwL s≤90000) (npl:p≠rl)
  (bad:zeT s row=none→∀ t H',za3 H H'→H' t=some (.tup [.int (i:Int),.non])→D.rt (.ref t) H')
  (good:∀ s' v' H' x5 x6 x7 x8 x9,zeT s row=some s'→Bar rl H H'→LwS s' H' rl v'→s'≠none→LwL s'≤LwL s+1→D.nx [x0,some (.ref p),some (.ref rl),some v',some (.int (i:Int)),x5,x6,x7,x8,x9] H') :
  zbP K D [x0,some (.ref p),some (.ref rl),some v,some (.int (i:Int)),x5,x6,x7,x8,x9] H:=by
 unfold zbP
 simp_all only [zaH,zac]
 refine ⟨_,SqL.of hp,.str row,zbH (by rw [List.getElem?_map,er];rfl),rfl,row,rfl,by decide +kernel,by omega,fun p1 hp1=>⟨_,SqL.of zaf,fun p2 hp2=>⟨⟨_,SqL.of zaf⟩,fun D1 hD1=>?_⟩⟩⟩
 obtain ⟨w0,wr,ew⟩:=zjb row
 have step:=zsF s ew
 have lws:=zim hr h10
 have lw:=zfE row 32
 rw [← zub,ew,List.length_cons] at lw
 rw [ew] at lws hp2 hD1 ⊢
 rw [show zmA ((w0::wr).map V.str) (some 1) none=wr.map V.str from zoq _ 1] at hD1 ⊢
 have n12:p1≠p2:=fun z=>by rw [← z,zaf] at hp2;cases hp2
 have s1:za3 H (L2.upd (L2.upd H p1 (.lst ((w0::wr).map V.str))) p2 (.lst (wr.map V.str))):=(zaw hp1 _).add hp2
 have h1:L2.upd (L2.upd H p1 (.lst ((w0::wr).map V.str))) p2 (.lst (wr.map V.str)) p1=some (.lst ((w0::wr).map V.str)):=by rw [zax n12,zaf]
 have h2:L2.upd (L2.upd H p1 (.lst ((w0::wr).map V.str))) p2 (.lst (wr.map V.str)) p2=some (.lst (wr.map V.str)):=zaf
 generalize L2.upd (L2.upd H p1 (.lst ((w0::wr).map V.str))) p2 (.lst (wr.map V.str))=H1 at *
 refine zkf (SqL.of h2) hD1 (by omega) ?_ ?_
 ·intro i u H' R e s r
  exact ⟨_,rfl,u,rfl,lws u (List.mem_cons_of_mem _ (zc1 e)),r⟩
 intro H2 s2 h3
 have hz:(i:Int)=0↔s.isNone=true:=by rw [Option.isNone_iff_eq_none,s0];omega
 have sH2:za3 H H2:=s1.trans s2
 have k1:=s2 _ _ h1
 have bad':¬ (wr.length+1=knS s.isNone∧w0=kwS s.isNone)∨zc0 wr=none→∀ H3,za3 H2 H3→∀ t,H3 t=none→D.rt (.ref t) (L2.upd H3 t (.tup [.int (i:Int),.non])):=fun c H3 s3 t ht=>by
  refine bad ?_ t _ ((sH2.trans s3).add ht) zaf
  rw [step]
  rcases c with c | c
  ·rw [if_neg c]
  ·rw [c]
   split <;> rfl
 refine ⟨fun σ H'=>za3 H2 H'∧(∃ ns:List Int,H2 D1=some (.lst (ns.map V.int))∧zeT s row=zqc s ns∧ns.length+1=knS s.isNone∧∀ n∈ns,0≤n)∧σ=[x0,some (.ref p),some (.ref rl),some v,some (.int (i:Int)),some (.ref p1),some (.ref D1),x7,x8,x9],?_,?_⟩
 ·unfold zbS
  simp_all only [zaQ,za2,zaT,zaR,za1,zaH,zaU,zac]
  refine ⟨_,SqL.of k1,.str w0,zbH (j:=0) rfl,by decide,fun a1 ha1=>.inr ⟨_,SqL.of zaf,.str (kwS s.isNone),?_,rfl,?_⟩⟩
  ·by_cases c:(i:Int)=0
   ·rw [if_pos c,hz.mp c]
    rfl
   ·rw [if_neg c,Bool.eq_false_iff.mpr (fun z=>c (hz.mpr z))]
    rfl
  have s3:=zaw ha1 (.lst [V.str (Str.ofString "road"),V.str (Str.ofString "web")])
  generalize L2.upd H2 a1 (.lst [V.str (Str.ofString "road"),V.str (Str.ofString "web")])=H3 at s3
  by_cases e0:w0=kwS s.isNone
  ·rw [if_neg (fun z=>z (by rw [e0]))]
   refine ⟨_,.inl (SqL.of (s3 _ _ k1)),by decide,fun a2 ha2=>.inr ⟨_,SqL.of zaf,.int (knS s.isNone:Nat),?_,rfl,?_⟩⟩
   ·by_cases c:(i:Int)=0
    ·rw [if_pos c,hz.mp c]
     rfl
    ·rw [if_neg c,Bool.eq_false_iff.mpr (fun z=>c (hz.mpr z))]
     rfl
   have s4:=s3.trans (zaw ha2 (.lst [V.int 4,V.int 2]))
   generalize L2.upd H3 a2 (.lst [V.int 4,V.int 2])=H4 at s4
   rw [List.length_map,List.length_cons]
   by_cases l0:wr.length+1=knS s.isNone
   ·rw [if_neg (fun z=>z (by rw [l0]))]
    refine ⟨_,.inl (SqL.of (s4 _ _ h3)),rfl,zjQ wr,?_⟩
    cases hn:zc0 wr with
    | none =>
     rw [if_pos (zdJ.mp hn)]
     exact ⟨by decide,fun t ht=>bad' (.inr hn) H4 s4 t ht⟩
    | some ns =>
     rw [if_neg (fun z=>by rw [zdJ.mpr z] at hn;cases hn)]
     rw [zeH hn] at h3
     exact ⟨s4,ns,h3,by rw [step,if_pos ⟨l0,e0⟩,hn];rfl,by rw [zkl hn];exact l0,zhf (fun w hw=>lws w (List.mem_cons_of_mem _ hw)) hn⟩
   ·rw [if_pos (fun z=>l0 (by have:=V.int.inj z;omega))]
    exact ⟨by decide,fun t ht=>bad' (.inl fun z=>l0 z.1) H4 s4 t ht⟩
  ·rw [if_pos (fun z=>e0 (V.str.inj z))]
   exact ⟨by decide,fun t ht=>bad' (.inl fun z=>e0 z.2) H3 s3 t ht⟩
 ·rintro σ H3 ⟨s3,⟨ns,hns,es,ln,n0⟩,rfl⟩
  have sH3:za3 H H3:=sH2.trans s3
  have hns3:=s3 _ _ hns
  unfold zbR
  simp_all only [zaQ,zaT,zaR,za1,zaH,zaU,zac]
  match s,S,es,ln,hz,s0,sl,good,bad with
  | none,⟨_,hr0⟩,es,ln,hz,s0,sl,good,bad =>
   rw [if_pos (hz.mpr rfl)]
   obtain ⟨m,rfl⟩:=len1 (l:=ns) (Nat.succ.inj ln)
   exact ⟨_,SqL.of hns3,.int m,zbH (j:=0) rfl,good (some (m,[])) (.int m) H3 _ _ _ _ _ es (fun b o _ e=>sH3 _ _ e) ⟨rfl,[],sH3 _ _ hr0,.nil⟩ (fun z=>by cases z) (Nat.zero_le _)⟩
  | some (m,rs),⟨ev,ts,hr0,T⟩,es,ln,hz,s0,sl,good,bad =>
   subst ev
   rw [if_neg (fun z=>by cases hz.mp z)]
   obtain ⟨x,y,l,rfl⟩:=len3 (l:=ns) (Nat.succ.inj ln)
   have x0':=n0 x (by simp)
   have y0':=n0 y (by simp)
   refine ⟨_,SqL.of hns3,rfl,_,_,rfl,_,_,rfl,_,_,rfl,rfl,?_⟩
   have es:zeT (some (m,rs)) row=(if GR m (x,y,l) then some (x,y,l) else none).map fun r=>some (m,rs++[r]):=es
   have bad2:¬ GR m (x,y,l)→2≤sizeLine∧∀ t,H3 t=none→D.rt (.ref t) (L2.upd H3 t (.tup [.int (i:Int),.non])):=fun c=>⟨by decide,fun t ht=>bad (by rw [es,if_neg c];rfl) t _ (sH3.add ht) zaf⟩
   refine ⟨fun σ H'=>H'=H3∧GR m (x,y,l)∧σ=[x0,some (.ref p),some (.ref rl),some (.int m),some (.int (i:Int)),some (.ref p1),some (.ref D1),some (.int x),some (.int y),some (.int l)],?_,?_⟩
   ·unfold zbT
    simp_all only [zaQ,za2,zaT,zaR,za1,zaH,zaU,zac]
    have em:(if y > x then y else x)=max x y:=by split <;> omega
    rw [em]
    by_cases c1:x=y
    ·rw [if_pos c1]
     exact bad2 fun g=>g.2.2.2.2.1 c1
    rw [if_neg c1]
    by_cases c2:m≤max x y
    ·rw [if_pos c2]
     refine bad2 fun g=>?_
     have g1:x<m:=g.2.1
     have g2:y<m:=g.2.2.2.1
     omega
    rw [if_neg c2]
    by_cases c3:l<1
    ·rw [if_pos c3]
     refine bad2 fun g=>?_
     have g1:1≤l:=g.2.2.2.2.2.1
     omega
    rw [if_neg c3]
    refine ⟨pow6,?_⟩
    by_cases c4:1000000<l
    ·rw [if_pos c4]
     refine bad2 fun g=>?_
     have g1:l≤1000000:=g.2.2.2.2.2.2
     omega
    rw [if_neg c4]
    exact ⟨x0',by show x<m;omega,y0',by show y<m;omega,c1,by show 1≤l;omega,by show l≤1000000;omega⟩
   ·rintro σ H4 ⟨rfl,g,rfl⟩
    simp_all only [zaQ,za2,zaT,zaR,za1,zaH,zaU,zac]
    have hr4:=sH3 _ _ hr0
    refine ⟨.inl ⟨rfl,_,SqL.of hr4⟩,by decide,fun t ht=>?_⟩
    have nt:rl≠t:=zaE hr4 ht
    refine ⟨_,by rw [zax nt];exact hr4,zgm (by rw [List.length_map,T.1];show rs.length<_;have:rs.length≤90000:=sl;omega),?_⟩
    refine good (some (m,rs++[(x,y,l)])) (.int m) _ _ _ _ _ _ (by rw [es,if_pos g];rfl) (fun b o n e=>?_) ⟨rfl,ts++[t],by rw [zaf,List.map_append];rfl,T.put (fun z u e=>?_) ?_⟩ (fun z=>by cases z) (by show (rs++[(x,y,l)]).length≤rs.length+1;rw [List.length_append];exact Nat.le_refl _)
    ·rw [zax n]
     exact (sH3.add ht) _ _ e
    ·rw [zax (fun y=>by rw [y,hr0] at e;cases e)]
     exact (sH3.add ht) _ _ e
    ·rw [zax nt.symm]
     exact zaf
theorem ze8 {text:Str} (hr:Rn 640 text) (lt:text.length≤80000)
 (q1:∀ (k:Nat) t H',zjk (Txt.split text (Str.ofString "\n"))=.inl k→za3 H H'→H' t=some (.tup [.int k,.non])→Q (.ref t) H')
 (q2:∀ m rs t w rl ts H',zjk (Txt.split text (Str.ofString "\n"))=.inr (m,rs)→za3 H H'→H' t=some (.tup [.non,.ref w])→zgI H' w rl ts m rs→Q (.ref t) H') :
  zcQ K { nx:=fun _ H'=>Q .non H',rt:=Q } (L2.zbY ["_law_text_here","_law_rows","_law_roads","_law_many","_law_k","_law_words","_law_numbers","_law_a","_law_b","_law_length_here"] [.str text]) H:=by
 unfold zcQ
 simp_all only [zac]
 refine ⟨rfl,by decide +kernel,by omega,fun p hp=>⟨by decide,fun rl hrl=>?_⟩⟩
 generalize eR:Txt.split text (Str.ofString "\n")=rows at *
 have rne:rows≠[]:=by rw [← eR];exact zgV _ _
 have rln:rows.length≤80001:=by
  rw [← eR,zgW]
  have:=zfE text 10
  omega
 have rok:∀ r∈rows,Rn 640 r∧10∉sgn r∧r.length≤90000:=fun r h=>by
  rw [← eR,zgW] at h
  exact ⟨zgM hr r h,StrLaws.split_free text 10 r h,Nat.le_trans (zia text 10 r h) (by omega)⟩
 have npr:p≠rl:=fun z=>by rw [z,zaf] at hrl;cases hrl
 generalize eH:L2.upd (L2.upd H p (.lst (rows.map V.str))) rl (.lst [])=H0
 have s0:za3 H H0:=by rw [← eH];exact (zaw hp _).add hrl
 have h0p:H0 p=some (.lst (rows.map V.str)):=by rw [← eH,zax npr,zaf]
 have h0r:H0 rl=some (.lst []):=by rw [← eH,zaf]
 have hHr:H rl=none:=(zaw hp _).free hrl
 have n1:0<rows.length:=List.length_pos_iff.mpr rne
 obtain ⟨r0,hr0⟩:∃ r0,rows[rows.length - 1]?=some r0:=⟨_,List.getElem?_eq_getElem (by omega)⟩
 have hl0:rows.getLastD ""=r0:=by
  rw [List.getLastD_eq_getLast?,List.getLast?_eq_getElem?,hr0]
  rfl
 have hdl:rows.dropLast=[]↔rows.length - 1=0:=by rw [← List.length_eq_zero_iff,List.length_dropLast]
 have toS:∀ H',Bar rl H0 H'→za3 H H':=fun H' b b' o e=>b _ _ (zaE e hHr) (s0 _ _ e)
 refine ⟨_,.inl (SqL.of h0p),by rw [List.length_map];omega,by rw [List.length_map];omega,?_⟩
 rw [List.length_map,Int.toNat_natCast]
 refine zcI (fun i σ H'=>Bar rl H0 H'∧∃ (s:Rdd) (v:V),LwS s H' rl v∧(s=none↔i=0)∧LwL s≤i∧(i<rows.length→zlj none 0 rows.dropLast=zlj s i (rows.dropLast.drop i))∧(i=rows.length→zlj none 0 rows.dropLast=.inr s∧r0=Str.ofString ""∧rows.length - 1≠0)∧∃ x4 x5 x6 x7 x8 x9,σ=[some (.str text),some (.ref p),some (.ref rl),some v,x4,x5,x6,x7,x8,x9]) ⟨fun _ _ _ e=>e,none,.non,⟨rfl,h0r⟩,⟨fun _=>rfl,fun _=>rfl⟩,Nat.le_refl _,fun _=>rfl,fun z=>by omega,_,_,_,_,_,_,rfl⟩ ?_ ?_
 ·rintro i σ H1 hi ⟨b1,s,v,S,sn,sl,run,_,x4,x5,x6,x7,x8,x9,rfl⟩
  rw [Int.zero_add]
  have run:=run hi
  have h1p:=b1 _ _ npr h0p
  obtain ⟨row,er⟩:∃ row,rows[i]?=some row:=⟨_,List.getElem?_eq_getElem hi⟩
  refine ⟨fun σ H'=>H'=H1∧i<rows.length - 1∧σ=[some (.str text),some (.ref p),some (.ref rl),some v,some (.int (i:Int)),x5,x6,x7,x8,x9],?_,?_⟩
  ·unfold zcx
   simp_all only [zaQ,za2,zaT,zaR,zaH,zaU,zac]
   refine ⟨_,.inl (SqL.of h1p),?_⟩
   rw [List.length_map]
   by_cases c:(i:Int)=(rows.length:Int) - 1
   ·rw [if_pos c]
    have ei:i=rows.length - 1:=by omega
    subst ei
    rw [hr0] at er
    cases er
    rw [zlY (by rw [List.length_dropLast];exact Nat.le_refl _)] at run
    have eo:=zjd run
    have bad:rows.length - 1=0∨r0≠Str.ofString ""→2≤sizeLine∧∀ t,H1 t=none→Q (.ref t) (L2.upd H1 t (.tup [.int ((rows.length - 1:Nat):Int),.non])):=fun z=>⟨by decide,fun t ht=>q1 _ t _ (zll (eo.trans (if_pos (by rw [hdl,hl0];exact z)))) ((toS _ b1).add ht) zaf⟩
    refine ⟨fun σ H'=>H'=H1∧rows.length - 1≠0∧r0=Str.ofString ""∧σ=[some (.str text),some (.ref p),some (.ref rl),some v,some (.int ((rows.length - 1:Nat):Int)),x5,x6,x7,x8,x9],?_,?_⟩
    ·unfold zbQ
     simp_all only [zaQ,za2,zaT,zaR,za1,zaH,zaU,zac]
     refine ⟨_,SqL.of h1p,.str r0,zbH (by rw [List.getElem?_map,hr0];rfl),rfl,?_⟩
     by_cases c1:r0=Str.ofString ""
     ·rw [if_neg (fun z=>z (by rw [c1]))]
      by_cases c2:((rows.length - 1:Nat):Int)=0
      ·rw [if_pos c2]
       exact bad (.inl (by omega))
      ·rw [if_neg c2]
       exact ⟨by omega,c1⟩
     ·rw [if_pos (fun z=>c1 (V.str.inj z))]
      exact bad (.inr c1)
    ·rintro σ H2 ⟨rfl,z0,e0,rfl⟩
     exact ⟨b1,s,v,S,⟨fun z=>absurd (sn.mp z) z0,fun z=>by omega⟩,by omega,fun z=>by omega,fun _=>⟨run,e0,z0⟩,_,_,_,_,_,_,rfl⟩
   ·rw [if_neg c]
    omega
  ·rintro σ H2 ⟨rfl,li,rfl⟩
   have er':rows.dropLast[i]?=some row:=by rw [List.getElem?_dropLast,if_pos li,er]
   obtain ⟨k1,k2,k3⟩:=rok row (zc1 er)
   refine ztZ h1p er k1 k2 k3 S sn (by omega) npr (fun en t H' s' ht=>?_) (fun s' v' H' y5 y6 y7 y8 y9 es b' S' n' l'=>?_)
   ·exact q1 i t H' (zll (zmh (run.trans (zme er' en)))) ((toS _ b1).trans s') ht
   ·exact ⟨fun b o n e=>b' _ _ n (b1 _ _ n e),s',v',S',⟨fun z=>absurd z n',fun z=>by omega⟩,by omega,fun _=>run.trans (zoo er' es),fun z=>by omega,_,_,_,_,_,_,rfl⟩
 ·rintro σ H1 ⟨b1,s,v,S,sn,sl,_,run,x4,x5,x6,x7,x8,x9,rfl⟩
  obtain ⟨run,e0,z0⟩:=run rfl
  have eo:zfH rows=.inr s:=(zjd run).trans (if_neg (by rw [hdl,hl0];rintro (z | z);exact z0 z;exact z e0))
  match s,S,sn,eo with
  | none,_,sn,_=>exact absurd (sn.mp rfl) (by omega)
  | some (m,rs),⟨ev,ts,hr1,T⟩,sn,eo =>
   subst ev
   have lrs:rs.length≤rows.length:=sl
   have sH1:=toS _ b1
   show zaW _ _ _ _ _
   refine ⟨fun σ H'=>za3 H1 H'∧zqP m rs∧σ=[some (.str text),some (.ref p),some (.ref rl),some (.int m),x4,x5,x6,x7,x8,x9],?_,?_⟩
   ·unfold zcy
    simp_all only [zaQ,za2,zaT,zaR,za1,zaH,zaU,zac]
    refine ⟨by decide,fun w hw=>⟨w,rl,ts,m,rs,rfl,⟨zaf,(zaw hw _) _ _ hr1,T.same (zaw hw _)⟩,by omega,fun g H2 s2=>?_,fun d hd H2 s2=>?_⟩⟩
    ·show ite _ _ _
     rw [if_neg (by decide)]
     exact ⟨(zaw hw _).trans s2,g⟩
    ·show ite _ _ _
     rw [if_pos (show ¬ V.int d=V.non from fun z=>V.noConfusion z)]
     have s3:za3 H1 H2:=(zaw hw _).trans s2
     refine ⟨_,.inl (SqL.of (s3 _ _ (b1 _ _ npr h0p))),by decide,fun t ht=>q1 (rows.length - 1) t _ (zoX eo fun g=>hd.not g) ((sH1.trans s3).add ht) ?_⟩
     rw [zaf,List.length_map]
     congr 5
     omega
   ·rintro σ H2 ⟨s2,g,rfl⟩
    simp_all only [zaQ,za2,zaT,zaR,za1,zaH,zaU,zac]
    refine ⟨by decide,fun w hw=>⟨by decide,fun t ht=>?_⟩⟩
    exact q2 m rs t w rl ts _ (zrs eo g) (((sH1.trans s2).add hw).add ht) zaf ⟨(zaw ht _) _ _ zaf,((zaw hw _).add ht) _ _ (s2 _ _ hr1),T.same (s2.trans ((zaw hw _).add ht))⟩
theorem zaM:za7 ["_law_text_here","_law_rows","_law_roads","_law_many","_law_k","_law_words","_law_numbers","_law_a","_law_b","_law_length_here"] ["_law_text_here"] (zav zcl):=⟨rfl,rfl,rfl,by decide +kernel,rfl,by decide +kernel,by decide +kernel⟩
theorem zfp (T:Txt K mg base a):zdD P w K mg base CX0 2 a.f__law_first_wrong a.d__law_first_wrong ["_law_text_here"] (zlz K):=by
 have G__law_due:=zli (P:=P) (w:=w) (base:=base) T
 have G__law_word_number:=zft (P:=P) (w:=w) (base:=base) T
 refine T.F__law_first_wrong.ok zaM (fun vs H Q E h=>?_) (fun cdv A outer s H vs Q E hr h=>?_)
 ·obtain ⟨text,rfl,hR,lt,q1,q2⟩:=h
  rfl
 obtain ⟨text,rfl,hR,lt,q1,q2⟩:=h
 exact ⟨zcQ K,(zag (zaP (i:=1) zaM.nd rfl (Or.inl rfl) (zdG PySem.F.plainAttrs_str PySem.F.slot_str_split PySem.F.type_str_split zeR (pv 0) (zaa za6 zae)))
 (zag (zaP (i:=2) zaM.nd rfl (Or.inl rfl) (zcj zae))
 (zag (zaP (i:=3) zaM.nd rfl (Or.inl rfl) zb2)
 (zag (zds PassesOwn.never rfl (zc3 rfl T.z_range (zaa (zaj zaB rfl T.z_len PySem.boot_len (zaa (pv 1) zae)) zae)) (zaO (i:=4) zaM.nd rfl (Or.inl rfl))
 (zag (zbz (zbN (zay zdg (pv 4) (zaC zg8 (zaj zaB rfl T.z_len PySem.boot_len (zaa (pv 1) zae)) zah) (zaF _)) (zag (zbz (zbN (PW.pt (zcL (zay zd8 (zcd zba (pv 1) (pv 4) (fun _ _=>rfl)) za6 (zaF _)) (zcZ (zay zdg (pv 4) zah (zaF _))))) (zat (zaY (zdp (zaa (pv 4) (zaa zb2 zae))))) zaV))
 (zat zk8)) zaV))
 (zag (zaP (i:=5) zaM.nd rfl (Or.inl rfl) (zdG PySem.F.plainAttrs_str PySem.F.slot_str_split PySem.F.type_str_split zeR (zcd zba (pv 1) (pv 4) (fun _ _=>rfl)) (zaa za6 zae)))
 (zag (zig (i:=6) zaM.nd rfl rfl (sc:=zav zcl) (N:=["_law_text_here","_law_rows","_law_roads","_law_many","_law_k","_law_words","_law_numbers","_law_a","_law_b","_law_length_here"]) (Nc:=["_law_word"]) (cap:=[none]) rfl rfl rfl (.of (by decide +kernel)) (zgZ (zbF zdc (pv 5) (zca zah) zb8)) (fun _ _ _ _=>(zaO (i:=0) (show List.Nodup (["_law_word"]:List Str) from by decide) rfl (Or.inl rfl))) (fun _ _ _ _=>zi5) (fun _ _ _ _=>(za5 G__law_word_number (hr.mono (by decide)) rfl T.m__law_word_number T.F__law_word_number.kp T.b__law_word_number .nil zbZ (zaa (pv 0) zae))))
 (zag (zbz (zbN (PW.pt (zcL (zay zd8 (zcd zba (pv 5) zah (fun _ _=>rfl)) (zcd zba (zcj (zaa za6 (zaa za6 zae))) (zcf zgX rfl T.z_int zde (zaa (zcG zdg (pv 4) zah (zaF _)) zae)) (fun _ _=>rfl)) (zaF _)) (zcL (zay zd8 (zaj zaB rfl T.z_len PySem.boot_len (zaa (pv 5) zae)) (zcd zba (zcj (zaa zah (zaa zah zae))) (zcf zgX rfl T.z_int zde (zaa (zcG zdg (pv 4) zah (zaF _)) zae)) (fun _ _=>rfl)) (zaF _)) (zcZ (zay zeF zb2 (pv 6) (by with_unfolding_all rfl)))))) (zat (zaY (zdp (zaa (pv 4) (zaa zb2 zae))))) zaV))
 (zat (zbN (zay zdg (pv 4) zah (zaF _)) (zat (zaP (i:=3) zaM.nd rfl (Or.inl rfl) (zcd zba (pv 6) zah (fun _ _=>rfl)))) (zag (zg6 (pv 6) (zuj rfl (zaZ (zaO (i:=7) zaM.nd rfl (Or.inl rfl)) (zaZ (zaO (i:=8) zaM.nd rfl (Or.inl rfl)) (zaZ (zaO (i:=9) zaM.nd rfl (Or.inl rfl)) zcT)))))
 (zag (zbz (zbN (PW.pt (zcL (zay zdg (pv 7) (pv 8) (zaF _)) (zcL (zay zpJ (zaj (zo6 rfl) rfl T.z_max PyProof.Rows.boot_max (zaa (pv 7) (zaa (pv 8) zae))) (pv 3) (zaF _)) (zcL (zay ziO (pv 9) zah (zaF _)) (zcZ (zay zlf (pv 9) (zaC zha zah zah) (zaF _))))))) (zat (zaY (zdp (zaa (pv 4) (zaa zb2 zae))))) zaV))
 (zat (zdx (zdG PySem.F.plainAttrs_list PySem.F.slot_list_append PySem.F.type_list_append zet (pv 2) (zaa (zdp (zaa (pv 7) (zaa (pv 8) (zaa (pv 9) zae)))) zae)))))))))))))
 (zag (zbz (zbN (zay zrU (za5 G__law_due (hr.mono (by decide)) rfl T.m__law_due T.F__law_due.kp T.b__law_due .nil zbZ (zaa (zdp (zaa (pv 3) (zaa (pv 2) zae))) zae)) zb2 (zaF _)) (zat (zaY (zdp (zaa (zaC zg8 (zaj zaB rfl T.z_len PySem.boot_len (zaa (pv 1) zae)) zah) (zaa zb2 zae))))) zaV))
 (zat (zaY (zdp (zaa zb2 (zaa (zdp (zaa (pv 3) (zaa (pv 2) zae))) zae)))))))))),
  ze8 hR lt q1 q2⟩
theorem zle:∀ (u b:List Nat) (k:Nat),lr k (u++b)≤lr (k+u.length) b
 | [],b,k=>Nat.le_refl _
 | c::u,b,k=>by
  rw [List.cons_append,zcF,List.length_cons]
  by_cases h:c=32∨c=10
  ·rw [if_pos h]
   have h1:=zle u b 0
   have h2:=(zih b (k+(u.length+1))).1
   have h3:lr (0+u.length) b≤lr (k+(u.length+1)) b:=zih.lr_mono b (by omega)
   omega
  ·rw [if_neg h]
   have:=zle u b (k+1)
   rw [show k+(u.length+1)=k+1+u.length by omega]
   exact this
def StR (L k:Nat) (s:Str):Prop:=∀ b,lr 0 (sgn s++b)≤max L (lr k b)
theorem StR.nil {L:Nat}:StR L 0 (Str.ofString ""):=fun b=>by
 show lr 0 ([]++b)≤_
 rw [List.nil_append]
 omega
theorem StR.add {L k m:Nat} {s u:Str} (h:StR L k s) (l:u.length≤m):StR L (k+m) (s++u):=fun b=>by
 rw [zf2,List.append_assoc]
 have h1:=h (sgn u++b)
 have h2:=zle (sgn u) b k
 rw [zdQ] at l
 have h3:lr (k+(sgn u).length) b≤lr (k+m) b:=zih.lr_mono b (by omega)
 omega
theorem StR.sep {L k c:Nat} {s u:Str} (h:StR L k s) (hc:c=32∨c=10) (e:u=⟨#[c]⟩) (l:k≤L):StR L 0 (s++u):=fun b=>by
 rw [zf2,List.append_assoc,e]
 have h1:=h (c::b)
 rw [zcF,if_pos hc] at h1
 show lr 0 (sgn s++c::b)≤_
 omega
theorem StR.rn {L k:Nat} {s:Str} (h:StR L k s) (l:k≤L):Rn L s:=by
 have h1:=h []
 rw [List.append_nil] at h1
 have:lr k []=k:=rfl
 unfold Rn
 omega
theorem zcm (s t:Str):(s++t).length=s.length+t.length:=by rw [zdQ,zf2,List.length_append,← zdQ,← zdQ]
theorem ziB {n:Int} (h0:0≤n) (h1:n<10000000):n.natAbs.log2<1920:=by
 by_cases z:n.natAbs=0
 ·rw [z,Nat.log2_zero]
  decide
 ·refine (Nat.log2_lt z).mpr ?_
  have:n.natAbs<10000000:=by omega
  exact Nat.lt_trans this (by decide +kernel)
def SmR (r:zcz):Prop:=(0≤r.1∧r.1<10000000)∧(0≤r.2.1∧r.2.1<10000000)∧0≤r.2.2∧r.2.2<10000000
theorem GR.sm {m:Int} {r:zcz} (h:GR m r) (l:m≤60):SmR r:=by
 obtain ⟨h1,h2,h3,h4,_,h5,h6⟩:=h
 exact ⟨⟨h1,by omega⟩,⟨h3,by omega⟩,by omega,by omega⟩
def zq6 (s:Str) (r:zcz):Str:=s++Str.ofString "road "++Str.ofString (toString r.1)++Str.ofString " "++Str.ofString (toString r.2.1)++Str.ofString " "++Str.ofString (toString r.2.2)++Str.ofString "\n"
def wtx (m:Int) (rs:List zcz):Str:=rs.foldl zq6 (Str.ofString "web "++Str.ofString (toString m)++Str.ofString "\n")
theorem zly (m:Int) (rs:List zcz) (r:zcz):wtx m (rs++[r])=zq6 (wtx m rs) r:=by
 unfold wtx
 rw [List.foldl_append]
 rfl
theorem zei {n:Int} (h:0≤n∧n<10000000):(Str.ofString (toString n)).length≤7:=zr4 h.1 (by decide) h.2
theorem zqv {s:Str} {r:zcz} (h:SmR r):(zq6 s r).length≤s.length+30:=by
 unfold zq6
 rw [zcm,zcm,zcm,zcm,zcm,zcm,zcm]
 have h1:=zei h.1
 have h2:=zei h.2.1
 have h3:=zei h.2.2
 have l1:(Str.ofString "road ").length=5:=by decide +kernel
 have l2:(Str.ofString " ").length=1:=by decide +kernel
 have l3:(Str.ofString "\n").length=1:=by decide +kernel
 omega
theorem zsz {s:Str} {r:zcz} (h:SmR r) (st:StR 64 0 s):StR 64 0 (zq6 s r):=by
 unfold zq6
 have h1:=zei h.1
 have h2:=zei h.2.1
 have h3:=zei h.2.2
 have l1:(Str.ofString "road ").length≤5:=by decide +kernel
 have l2:(Str.ofString " ").length≤1:=by decide +kernel
 exact (((((((st.add l1).add h1).add l2).add h2).add l2).add h3).sep (.inr rfl) zgW (by decide))
theorem znz {m:Int} (hm:0≤m∧m<10000000):∀ {rs:List zcz},(∀ r∈rs,SmR r)→StR 64 0 (wtx m rs)∧(wtx m rs).length≤12+30*rs.length:=by
 have base:StR 64 0 (wtx m [])∧(wtx m []).length≤12:=by
  have h1:=zei hm
  have l1:(Str.ofString "web ").length=4:=by decide +kernel
  have l3:(Str.ofString "\n").length=1:=by decide +kernel
  have e0:Str.ofString "web "=Str.ofString ""++Str.ofString "web ":=by decide +kernel
  refine ⟨?_,?_⟩
  ·show StR 64 0 (Str.ofString "web "++Str.ofString (toString m)++Str.ofString "\n")
   rw [e0]
   exact (((StR.nil.add (Nat.le_of_eq l1)).add h1).sep (.inr rfl) zgW (by decide))
  ·show (Str.ofString "web "++Str.ofString (toString m)++Str.ofString "\n").length≤12
   rw [zcm,zcm]
   omega
 intro rs h
 have key:∀ n,n≤rs.length→StR 64 0 (wtx m (rs.take n))∧(wtx m (rs.take n)).length≤12+30*n:=by
  intro n
  induction n with
  | zero=>intro _;exact base
  | succ n ih =>
   intro hn
   obtain ⟨i1,i2⟩:=ih (by omega)
   have e:rs[n]?=some (rs[n]'hn):=List.getElem?_eq_getElem hn
   have hr:=h _ (zc1 e)
   rw [List.take_add_one,e]
   show StR 64 0 (wtx m (rs.take n++[_]))∧_
   rw [zly]
   refine ⟨zsz hr i1,?_⟩
   have:=zqv (s:=wtx m (rs.take n)) hr
   show (wtx m (rs.take n++[_])).length≤_
   rw [zly]
   omega
 have:=key rs.length (Nat.le_refl _)
 rw [List.take_length] at this
 exact this
def zrk (K:PySem.W.Frag):Sp:=fun vs H Q _=>∃ (w rl:Addr) (ts:List Addr) (m:Int) (rs:List zcz),vs=[.ref w]∧zgI H w rl ts m rs∧(0≤m∧m<10000000)∧(∀ r∈rs,SmR r)∧rs.length≤1000∧Q (.str (wtx m rs)) H
def zdX:TS :=
 (zbr (tOp zc4 (tOp zc4 (tOp zc4 (tOp zc4 (tOp zc4 (tOp zc4 (tOp zc4 (zac 1) (tC (.str "road "))) (tCB ziE (zab (zac 2) zas))) (tC (.str " "))) (tCB ziE (zab (zac 3) zas))) (tC (.str " "))) (tCB ziE (zab (zac 4) zas))) (tC (.str "\n"))) (zai 1))
theorem zd5 (D:zb1) (σ:St) (H:Hp):zdX D σ H=(zbr (tOp zc4 (tOp zc4 (tOp zc4 (tOp zc4 (tOp zc4 (tOp zc4 (tOp zc4 (zac 1) (tC (.str "road "))) (tCB ziE (zab (zac 2) zas))) (tC (.str " "))) (tCB ziE (zab (zac 3) zas))) (tC (.str " "))) (tCB ziE (zab (zac 4) zas))) (tC (.str "\n"))) (zai 1)) D σ H:=rfl
def zfr (K:PySem.W.Frag):TS :=
 (zaW (zbr (tOp zc4 (tOp zc4 (tC (.str "web ")) (tCB ziE (zab (tOp (zpf K) (zac 0) (tC (.int 0))) zas))) (tC (.str "\n"))) (zai 1))
 (zaW (zgJ (zhL K (tOp (zpf K) (zac 0) (tC (.int 1)))) (zhj K 3 (zbn (zai 2) (zbn (zai 3) (zbn (zai 4) zgK))))
 (zdX))
 (zbK (zac 1))))
theorem zkD {w rl:Addr} {ts:List Addr} {m:Int} {rs:List zcz} (W:zgI H w rl ts m rs) (hm:0≤m∧m<10000000) (hs:∀ r∈rs,SmR r) (l:rs.length≤1000) (q:Q (.str (wtx m rs)) H):zfr K { nx:=fun _ H'=>Q .non H',rt:=Q } (L2.zbY ["_law_web_here","_law_text_here","_law_a","_law_b","_law_length_here"] [.ref w]) H:=by
 unfold zfr
 simp_all only [zac]
 have l0:=(znz hm (rs:=[]) (fun r h=>by cases h)).2
 have lm:=zei hm
 refine ⟨_,SqT.of W.hw,.int m,zbH (j:=0) rfl,m,rfl,ziB hm.1 hm.2,?_⟩
 have l1:(Str.ofString "web ").length=4:=by decide +kernel
 have l3:(Str.ofString "\n").length=1:=by decide +kernel
 have l5:(Str.ofString "road ").length=5:=by decide +kernel
 have l6:(Str.ofString " ").length=1:=by decide +kernel
 refine ⟨zfh (by omega),zfh (by rw [zcm];omega),_,SqT.of W.hw,.ref rl,zbH (j:=1) rfl,rl,rfl,⟨_,SqL.of W.hl⟩,?_⟩
 refine zg0 (xs:=ts.map V.ref) (fun i σ H'=>H'=H∧∃ x2 x3 x4,σ=[some (.ref w),some (.str (wtx m (rs.take i))),x2,x3,x4]) ⟨rfl,_,_,_,rfl⟩ ?_ ?_ ?_
 ·rintro i σ H' _ ⟨rfl,_⟩
  exact SqL.of W.hl
 ·rintro i x σ H' e ⟨rfl,x2,x3,x4,rfl⟩
  obtain ⟨t,et,rfl⟩:=zgt e
  obtain ⟨r,er,hr⟩:=W.ht.at et
  have li:=(List.getElem?_eq_some_iff.mp er).1
  have lk:=(znz hm (rs:=rs.take i) (fun r h=>hs r (List.mem_of_mem_take h))).2
  rw [List.length_take] at lk
  obtain ⟨h1,h2,h3⟩:=hs r (zc1 er)
  have k1:=zei h1
  have k2:=zei h2
  have k3:=zei h3
  have ew:wtx m (rs.take (i+1))=zq6 (wtx m (rs.take i)) r:=by rw [List.take_add_one,er];exact zly _ _ _
  rw [ew]
  unfold zq6
  generalize wtx m (rs.take i)=s at lk
  have a1:=zcm s (Str.ofString "road ")
  have a2:=zcm (s++Str.ofString "road ") (Str.ofString (toString r.1))
  have a3:=zcm (s++Str.ofString "road "++Str.ofString (toString r.1)) (Str.ofString " ")
  have a4:=zcm (s++Str.ofString "road "++Str.ofString (toString r.1)++Str.ofString " ") (Str.ofString (toString r.2.1))
  have a5:=zcm (s++Str.ofString "road "++Str.ofString (toString r.1)++Str.ofString " "++Str.ofString (toString r.2.1)) (Str.ofString " ")
  have a6:=zcm (s++Str.ofString "road "++Str.ofString (toString r.1)++Str.ofString " "++Str.ofString (toString r.2.1)++Str.ofString " ") (Str.ofString (toString r.2.2))
  unfold zdX
  simp_all only [zd5,zac]
  refine ⟨_,SqT.of hr,rfl,_,_,rfl,_,_,rfl,_,_,rfl,rfl,?_⟩
  exact ⟨zfh (by omega),r.1,rfl,ziB h1.1 h1.2,zfh (by omega),zfh (by omega),r.2.1,rfl,ziB h2.1 h2.2,zfh (by omega),zfh (by omega),r.2.2,rfl,ziB h3.1 h3.2,zfh (by omega),zfh (by omega),rfl⟩
 ·rintro σ H' ⟨rfl,x2,x3,x4,rfl⟩
  rw [List.take_of_length_le (by rw [List.length_map,W.ht.1];exact Nat.le_refl _)]
  simp_all only [zd5,zac]
  exact q
theorem zcK:za7 ["_law_web_here","_law_text_here","_law_a","_law_b","_law_length_here"] ["_law_web_here"] (zav zfj):=⟨rfl,rfl,rfl,by decide +kernel,rfl,by decide +kernel,by decide +kernel⟩
theorem zkd (T:Txt K mg base a):zdD P w K mg base CX0 1 a.f__law_text a.d__law_text ["_law_web_here"] (zrk K):=by
 refine T.F__law_text.ok zcK (fun vs H Q E h=>?_) (fun cdv A outer s H vs Q E hr h=>?_)
 ·obtain ⟨w',rl,ts,m,rs,rfl,W,hm,hs,l,q⟩:=h
  rfl
 obtain ⟨w',rl,ts,m,rs,rfl,W,hm,hs,l,q⟩:=h
 exact ⟨zfr K,(zag (zaP (i:=1) zcK.nd rfl (Or.inl rfl) (zaC zcE (zaC zcE za6 (zcf zfW rfl T.z_str zeK (zaa (zcd zma (pv 0) zah (fun _ _=>rfl)) zae))) za6))
 (zag (zds PassesOwn.never rfl (zgZ (zcd zma (pv 0) zah (fun _ _=>rfl))) (zd3 rfl (zaZ (zaO (i:=2) zcK.nd rfl (Or.inl rfl)) (zaZ (zaO (i:=3) zcK.nd rfl (Or.inl rfl)) (zaZ (zaO (i:=4) zcK.nd rfl (Or.inl rfl)) zcT))))
 (zat (zaP (i:=1) zcK.nd rfl (Or.inl rfl) (zaC zcE (zaC zcE (zaC zcE (zaC zcE (zaC zcE (zaC zcE (zaC zcE (pv 1) za6) (zcf zfW rfl T.z_str zeK (zaa (pv 2) zae))) za6) (zcf zfW rfl T.z_str zeK (zaa (pv 3) zae))) za6) (zcf zfW rfl T.z_str zeK (zaa (pv 4) zae))) za6))))
 (zat (zaY (pv 1))))),
  zkD W hm hs l q⟩
def zi1 (ts:List Str):Nat:=(ts.map (·.length)).sum+ts.length
theorem ziT (a b:List Str):zi1 (a++b)=zi1 a+zi1 b:=by
 unfold zi1
 rw [List.map_append,List.sum_append,List.length_append]
 omega
theorem zof (a:List Str) (n:Nat):zi1 (a.take n)≤zi1 a:=by
 have:=ziT (a.take n) (a.drop n)
 rw [List.take_append_drop] at this
 omega
theorem zj4 (a:List Str) (n:Nat):zi1 (a.drop n)≤zi1 a:=by
 have:=ziT (a.take n) (a.drop n)
 rw [List.take_append_drop] at this
 omega
theorem zqm {a:List Str} {x:Str} (h:x∈a):x.length+1≤zi1 a:=by
 obtain ⟨n,hn⟩:=List.mem_iff_getElem?.mp h
 have h1:=zj4 a n
 rw [List.drop_eq_getElem_cons (List.getElem?_eq_some_iff.mp hn).1,(List.getElem?_eq_some_iff.mp hn).2] at h1
 unfold zi1 at h1
 rw [List.map_cons,List.sum_cons,List.length_cons] at h1
 unfold zi1
 omega
theorem zoA (c:Nat) (ts:List Str):(Txt.join ⟨#[c]⟩ ts).length≤zi1 ts:=by
 show (PySem.Builtin.Str.glued ⟨#[c]⟩ ts).length≤_
 rw [StrLaws.glued_eq_join]
 cases ts with
 | nil=>exact Nat.le_refl 0
 | cons a l =>
  rw [PyProof.Rows.len_join_cons]
  unfold zi1
  rw [List.length_cons]
  show _+l.length*1≤_
  omega
theorem zfg {m n:Nat} {s:Str} (h:Rn m s) (l:m≤n):Rn n s:=Nat.le_trans h l
def EvT (te:TE) (σ:St) (H:Hp) (R N:Nat):Prop:=∀ (H1:Hp) (Q:VK),za3 H H1→(∀ s H',za3 H1 H'→Rn R s→s.length≤N→Q (.str s) H')→te σ H1 Q
def EvL (te:TE) (σ:St) (H:Hp) (R N:Nat):Prop:=∀ (H1:Hp) (Q:VK),za3 H H1→(∀ p ts H',za3 H1 H'→H' p=some (.lst (ts.map V.str))→(∀ x∈ts,Rn R x)→zi1 ts≤N→Q (.ref p) H')→te σ H1 Q
section
variable {σ:St} {te ta tb:TE} {tl th:TO} {R N R2 N2:Nat} {o1 o2:Option Int}
theorem EvT.var {k:Nat} {s:Str} (h:σ[k]?=some (some (.str s))) (r:Rn R s) (l:s.length≤N):EvT (zac k) σ H R N:=fun H1 _ _ q=>⟨_,h,q s H1 (.refl _) r l⟩
theorem EvT.cat (a:EvT ta σ H R N) (b:EvT tb σ H R2 N2) (l:N+N2≤99999):EvT (tOp zc4 ta tb) σ H (R+R2) (N+N2):=fun H1 _ s q=>a H1 _ s fun x H2 s2 rx lx=>b H2 _ (s.trans s2) fun y H3 s3 ry ly=>⟨x,y,rfl,rfl,zfh (by omega),q _ H3 (s2.trans s3) (by
  unfold Rn at rx ry ⊢
  rw [zf2]
  have:=(zgv (sgn x) (sgn y) 0).1
  omega) (by rw [zcm];omega)⟩
theorem EvT.sl (a:EvT ta σ H R N) (lo:EvO tl σ H o1) (hi:EvO th σ H o2) (l:N≤99999):EvT (tSl zpn ta tl th) σ H R N:=fun H1 _ s q=>a H1 _ s fun x H2 s2 rx lx=>lo H2 _ (s.trans s2) fun H3 s3=>hi H3 _ ((s.trans s2).trans s3) fun H4 s4=>⟨x,rfl,zfh (by omega),q _ H4 (s2.trans (s3.trans s4)) (by
  unfold Rn at rx ⊢
  rw [zrg]
  exact Nat.le_trans (zrO _ _) (Nat.le_trans (zsd _ _) rx)) (by
  rw [zdQ,zrg,List.length_take,List.length_drop]
  have:=zdQ x
  unfold sgn at this
  omega)⟩
theorem EvL.var {k:Nat} {p:Addr} {ts:List Str} (h:σ[k]?=some (some (.ref p))) (hp:H p=some (.lst (ts.map V.str))) (r:∀ x∈ts,Rn R x) (l:zi1 ts≤N):EvL (zac k) σ H R N:=fun H1 _ s q=>⟨_,h,q p ts H1 (.refl _) (s _ _ hp) r l⟩
theorem EvL.sl (a:EvL ta σ H R N) (lo:EvO tl σ H o1) (hi:EvO th σ H o2):EvL (tSl (zjv K) ta tl th) σ H R N:=fun H1 _ s q=>a H1 _ s fun p ts H2 s2 hp r l=>lo H2 _ (s.trans s2) fun H3 s3=>hi H3 _ ((s.trans s2).trans s3) fun H4 s4=>⟨p,_,rfl,SqL.of ((s3.trans s4) _ _ hp),fun p2 hp2=>by
  have e:zmA (ts.map V.str) o1 o2=(((ts.drop (HT.sIx ts.length 0 o1)).take (HT.sIx ts.length ts.length o2 - HT.sIx ts.length 0 o1))).map V.str:=by
   unfold zmA
   rw [List.length_map,List.map_take,List.map_drop]
  rw [e]
  exact q p2 _ _ ((s2.trans (s3.trans s4)).add hp2) zaf (fun x hx=>r x (List.mem_of_mem_drop (List.mem_of_mem_take hx))) (Nat.le_trans (zof _ _) (Nat.le_trans (zj4 _ _) l))⟩
theorem EvL.cat (a:EvL ta σ H R N) (b:EvL tb σ H R N2) (l:N+N2≤999999):EvL (tOp zg1 ta tb) σ H R (N+N2):=fun H1 _ s q=>a H1 _ s fun p ts H2 s2 hp r1 l1=>b H2 _ (s.trans s2) fun p2 us H3 s3 hp2 r2 l2=>⟨p,p2,_,_,rfl,rfl,s3 _ _ hp,hp2,by
  rw [List.length_map,List.length_map]
  unfold zi1 at l1 l2
  exact Nat.le_trans (show ts.length+us.length≤999999 by omega) (by decide),fun p3 hp3=>by
  rw [← List.map_append]
  refine q p3 _ _ ((s2.trans s3).add hp3) zaf (fun x hx=>?_) (by rw [ziT];omega)
  rcases List.mem_append.mp hx with hx | hx
  ·exact r1 x hx
  ·exact r2 x hx⟩
theorem EvL.one (a:EvT ta σ H R N):EvL (zdB (zab ta zas)) σ H R (N+1):=fun H1 _ s q=>a H1 _ s fun x H2 s2 r l=>⟨zfh (show 1≤99999 by decide),fun p hp=>q p [x] _ (s2.add hp) zaf (fun y hy=>by rw [List.mem_singleton.mp hy];exact r) (by
  show x.length+0+1≤_
  omega)⟩
theorem EvL.mono (a:EvL ta σ H R N) (h1:R≤R2) (h2:N≤N2):EvL ta σ H R2 N2:=fun H1 _ s q=>a H1 _ s fun p ts H2 s2 hp r l=>q p ts H2 s2 hp (fun x hx=>zfg (r x hx) h1) (by omega)
theorem EvT.join (a:EvL ta σ H R N) (l:N≤999999):EvT (tBM K "str" (zlD K) (tC (.str (Str.ofString "\n"))) (zab ta zas)) σ H R N:=fun H1 _ s q=>⟨rfl,a H1 _ s fun p ts H2 s2 hp r l1=>⟨_,p,ts,rfl,rfl,SqL.of hp,by
  rw [zgW]
  unfold zi1 at l1
  show _+ts.length*1≤_
  exact Nat.le_trans (show (ts.map (·.length)).sum+ts.length*1≤999999 by omega) (by decide),by
  rw [zgW]
  refine q _ _ s2 ?_ (Nat.le_trans (zoA 10 ts) l1)
  show Rn R (PySem.Builtin.Str.glued ⟨#[10]⟩ ts)
  rw [StrLaws.glued_eq_join]
  exact znD (.inr rfl) r⟩⟩
theorem EvT.ix {k j n:Nat} {p:Addr} {ts:List Str} (h:σ[k]?=some (some (.ref p))) (hp:H p=some (.lst (ts.map V.str))) (r:∀ x∈ts,Rn R x) (l:zi1 ts≤N) (hj:σ[j]?=some (some (.int n))) (hn:n<ts.length):EvT (tOp (zcR K) (zac k) (zac j)) σ H R N:=fun H1 _ s q=>by
 have e:ts[n]?=some ts[n]:=List.getElem?_eq_getElem hn
 exact ⟨_,h,_,hj,p,_,_,.str ts[n],rfl,rfl,SqL.of (s _ _ hp),zbH (by rw [List.getElem?_map,e];rfl),q _ H1 (.refl _) (r _ (zc1 e)) (by have:=zqm (zc1 e);omega)⟩
theorem zoO {D:zb1} {n wy:Int} (h8:σ[8]?=some (some (.int wy))) (e:EvT te σ H R N) (q:∀ s H',za3 H H'→Rn R s→s.length≤N→D.rt (.str s) H') (k:D.nx σ H):zdk (zbX (zaA (tOp rEq (zac 8) (tC (.int n)))) (zbK te) za0) D σ H:=by
 refine ⟨fun σ' H'=>σ'=σ∧H'=H,⟨_,h8,rfl,_,rfl,?_⟩,by rintro _ _ ⟨rfl,rfl⟩;exact k⟩
 show if decide (V.int wy=V.int n)=true then _ else _
 split
 ·exact e H _ (.refl _) q
 ·exact ⟨rfl,rfl⟩
theorem zeJ {T:TS} {D:zb1} {n wy:Int} (h8:σ[8]?=some (some (.int wy))) (e:EvT te σ H R N) (q:∀ s H',za3 H H'→Rn R s→s.length≤N→D.rt (.str s) H') (k:T D σ H):zaW (zdk (zbX (zaA (tOp rEq (zac 8) (tC (.int n)))) (zbK te) za0)) T D σ H:=zoO h8 e q k
end
theorem zkO {σ:St} {s:Str}:EvS (tC (.str s)) σ H (.str s):=.con fun _=>.str s
theorem zs7 {ss:List Str} {v:V} (h:Sh H (.lst (ss.map Tr.str)) v):∃ u,v=.ref u∧H u=some (.lst (ss.map V.str)):=by
 cases h with
 | @lst u xs _ h l e =>
  refine ⟨u,rfl,?_⟩
  have:xs=ss.map V.str:=by
   refine List.ext_getElem? fun i=>?_
   rw [List.length_map] at l
   by_cases c:i<xs.length
   ·have es:ss[i]?=some (ss[i]'(by omega)):=List.getElem?_eq_getElem _
    have:=e i _ (.str (ss[i]'(by omega))) (List.getElem?_eq_getElem c) (by rw [List.getElem?_map,es];rfl)
    rw [List.getElem?_eq_getElem c,List.getElem?_map,es]
    generalize xs[i]=y at this
    cases this
    rfl
   ·rw [List.getElem?_eq_none (by omega),List.getElem?_eq_none (by rw [List.length_map];omega)]
  rw [← this]
  exact h
def zo0 (K:PySem.W.Frag):Sp:=fun vs H Q _=>∃ (text:Str) (p:Addr) (ds:List Int) (L:Nat),vs=[.str text,.ref p]∧H p=some (.lst (ds.map V.int))∧ds.length=5∧(∀ d∈ds,0≤d)∧Rn L text∧text.length≤20000∧∀ s H',za3 H H'→Rn (2*L+10) s→s.length≤3*text.length+40→Q (.str s) H'
def ziy (K:PySem.W.Frag):TS :=
 (zbX (zaA (tOp rEq (zac 8) (tC (.int 7)))) (zaW (zbr (zdB (zab (tC (.str "")) (zab (tC (.str "road 0 1 0")) (zab (tC (.str "road 0 0 5")) (zab (tC (.str "web 2")) (zab (tC (.str "walk 1 0")) (zab (tC (.str "spread 1 0-1")) (zab (tC (.str "road 00 1 5")) (zab (tC (.str "walk 0 0")) zas))))))))) (zai 9))
 (zaW (zbr (tOp zg1 (zac 9) (zdB (zab (tC (.str "road 0 1 1000001")) (zab (tC (.str "walk 1")) (zab (tC (.str "spread 2")) (zab (tC (.str "road 0 1 5 ")) (zab (tC (.str "spread 1 0-")) (zab (tC (.str "walk 1  0")) zas)))))))) (zai 9))
 (zaW (zbr (tOp zg1 (zac 9) (zdB (zab (tC (.str "web 61")) (zab (tC (.str "web 0")) zas)))) (zai 9))
 (zbK (tBM K "str" (zlD K) (tC (.str "\n")) (zab (tOp zg1 (tOp zg1 (tSl (zjv K) (zac 5) zbE (zcO (zac 6))) (zdB (zab (tOp (zcR K) (zac 9) (tOp (rI (fun _ j=>0<j) fun i j=>.int (i % j)) (tOp (zcR K) (zac 1) (tC (.int 1))) (tCB (fun xs H Q=>∃ p ys,xs=[.ref p]∧(SqL K H p ys∨SqT K H p ys)∧Q (.int ys.length) H) (zab (zac 9) zas)))) zas))) (tSl (zjv K) (zac 5) (zcO (zac 6)) zbE)) zas)))))) za0)
def zji (K:PySem.W.Frag):TS :=
 (zbX (zaA (tOp rEq (zac 8) (tC (.int 6)))) (zbK (tBM K "str" (zlD K) (tC (.str "\n")) (zab (tOp zg1 (tOp zg1 (tSl (zjv K) (zac 5) zbE (zcO (zac 6))) (zdB (zab (tOp (zcR K) (zac 5) (zac 7)) zas))) (tSl (zjv K) (zac 5) (zcO (tOp (rI0 fun i j=>.int (i+j)) (zac 6) (tC (.int 1)))) zbE)) zas))) za0)
def zin (K:PySem.W.Frag):TS :=
 (zbX (zaA (tOp rEq (zac 8) (tC (.int 5)))) (zbK (tBM K "str" (zlD K) (tC (.str "\n")) (zab (tOp zg1 (tOp zg1 (tSl (zjv K) (zac 5) zbE (zcO (zac 6))) (zdB (zab (tOp (zcR K) (zac 5) (zac 7)) zas))) (tSl (zjv K) (zac 5) (zcO (zac 6)) zbE)) zas))) za0)
def ziA (K:PySem.W.Frag):TS :=
 (zbX (zaA (tOp rEq (zac 8) (tC (.int 4)))) (zbK (tBM K "str" (zlD K) (tC (.str "\n")) (zab (tOp zg1 (tSl (zjv K) (zac 5) zbE (zcO (zac 6))) (tSl (zjv K) (zac 5) (zcO (tOp (rI0 fun i j=>.int (i+j)) (zac 6) (tC (.int 1)))) zbE)) zas))) za0)
def zi0 (K:PySem.W.Frag):TS :=
 (zaW (zdk (ziA K))
 (zaW (zdk (zin K))
 (zaW (zdk (zji K))
 (zaW (zdk (ziy K))
 (zbK (tOp zc4 (zac 0) (zac 0)))))))
def zi6:TS :=
 (zbX (zaA (tOp rEq (zac 8) (tC (.int 2)))) (zbK (tOp zc4 (tSl zpn (zac 0) zbE (zcO (zac 3))) (tSl zpn (zac 0) (zcO (tOp (rI0 fun i j=>.int (i+j)) (zac 3) (tC (.int 1)))) zbE))) za0)
def zi2 (K:PySem.W.Frag):TS :=
 (zaW (zdk (zi6))
 (zaW (zdk (zbX (zaA (tOp rEq (zac 8) (tC (.int 3)))) (zbK (tSl zpn (zac 0) zbE (zcO (zac 3)))) za0))
 (zi0 K)))
def ziP:TS :=
 (zbX (zaA (tOp rEq (zac 8) (tC (.int 1)))) (zbK (tOp zc4 (tOp zc4 (tSl zpn (zac 0) zbE (zcO (zac 3))) (zac 4)) (tSl zpn (zac 0) (zcO (tOp (rI0 fun i j=>.int (i+j)) (zac 3) (tC (.int 1)))) zbE))) za0)
def ziL:TS :=
 (zbX (zaA (tOp rEq (zac 8) (tC (.int 0)))) (zbK (tOp zc4 (tOp zc4 (tSl zpn (zac 0) zbE (zcO (zac 3))) (zac 4)) (tSl zpn (zac 0) (zcO (zac 3)) zbE))) za0)
def zfw (K:PySem.W.Frag):TS :=
 (zaW (zbr (tC (.str " 0123456789-\nwebroadlkspA.~")) (zai 2))
 (zaW (zbr (tOp (rI (fun _ j=>0<j) fun i j=>.int (i % j)) (tOp (zcR K) (zac 1) (tC (.int 0))) (tOp (rI0 fun i j=>.int (i+j)) (tCB zmF (zab (zac 0) zas)) (tC (.int 1)))) (zai 3))
 (zaW (zbr (tOp zuB (zac 2) (tOp (rI (fun _ j=>0<j) fun i j=>.int (i % j)) (tOp (zcR K) (zac 1) (tC (.int 1))) (tCB zmF (zab (zac 2) zas)))) (zai 4))
 (zaW (zbr (tBM K "str" zfJ (zac 0) (zab (tC (.str "\n")) zas)) (zai 5))
 (zaW (zbr (tOp (rI (fun _ j=>0<j) fun i j=>.int (i % j)) (tOp (zcR K) (zac 1) (tC (.int 2))) (tCB (fun xs H Q=>∃ p ys,xs=[.ref p]∧(SqL K H p ys∨SqT K H p ys)∧Q (.int ys.length) H) (zab (zac 5) zas))) (zai 6))
 (zaW (zbr (tOp (rI (fun _ j=>0<j) fun i j=>.int (i % j)) (tOp (zcR K) (zac 1) (tC (.int 3))) (tCB (fun xs H Q=>∃ p ys,xs=[.ref p]∧(SqL K H p ys∨SqT K H p ys)∧Q (.int ys.length) H) (zab (zac 5) zas))) (zai 7))
 (zaW (zbr (tOp (rI (fun _ j=>0<j) fun i j=>.int (i % j)) (tOp (zcR K) (zac 1) (tC (.int 4))) (tC (.int 9))) (zai 8))
 (zaW (zdk (ziL))
 (zaW (zdk (ziP))
 (zi2 K))))))))))
def zra:List Str:=[Str.ofString "",Str.ofString "road 0 1 0",Str.ofString "road 0 0 5",Str.ofString "web 2",Str.ofString "walk 1 0",Str.ofString "spread 1 0-1",Str.ofString "road 00 1 5",Str.ofString "walk 0 0",Str.ofString "road 0 1 1000001",Str.ofString "walk 1",Str.ofString "spread 2",Str.ofString "road 0 1 5 ",Str.ofString "spread 1 0-",Str.ofString "walk 1  0",Str.ofString "web 61",Str.ofString "web 0"]
theorem zui:∀ x∈zra,Rn 10 x∧x.length≤16:=by
 have:(zra.all fun x=>decide (lr 0 (sgn x)≤10)&&decide (x.length≤16))=true:=by decide +kernel
 intro x hx
 have h:=List.all_eq_true.mp this x hx
 rw [Bool.and_eq_true,decide_eq_true_eq,decide_eq_true_eq] at h
 exact h
theorem zeM:(Str.ofString " 0123456789-\nwebroadlkspA.~").length=27:=by decide +kernel
theorem zj2 {text:Str} {p:Addr} {ds:List Int} {L:Nat} (hp:H p=some (.lst (ds.map V.int))) (l5:ds.length=5) (d0:∀ d∈ds,0≤d) (hr:Rn L text) (lt:text.length≤20000) (q:∀ s H',za3 H H'→Rn (2*L+10) s→s.length≤3*text.length+40→Q (.str s) H'):zfw K { nx:=fun _ H'=>Q .non H',rt:=Q } (L2.zbY ["_law_text_here","_law_draws","_law_some","_law_at","_law_sign","_law_rows","_law_row","_law_to","_law_way","_law_odd"] [.str text,.ref p]) H:=by
 obtain ⟨d1,d2,d3,d4,d5,rfl⟩:∃ d1 d2 d3 d4 d5,ds=[d1,d2,d3,d4,d5]:=by
  match ds,l5 with
  | [a,b,c,d,e],_=>exact ⟨a,b,c,d,e,rfl⟩
 unfold zfw
 simp_all only [zac]
 refine ⟨_,SqL.of hp,.int d1,zbH (j:=0) rfl,zfh (by omega),d1,rfl,by omega,_,SqL.of hp,.int d2,zbH (j:=1) rfl,by rw [zeM];decide,d2,rfl,by rw [zeM];decide,by rw [zeM];decide,?_⟩
 obtain ⟨c,hc⟩:∃ c,atI (Str.ofString " 0123456789-\nwebroadlkspA.~").cps.toList (d2 % ((Str.ofString " 0123456789-\nwebroadlkspA.~").length:Int))=some c:=by
  have lS:(Str.ofString " 0123456789-\nwebroadlkspA.~").cps.toList.length=27:=by
   have:=zdQ (Str.ofString " 0123456789-\nwebroadlkspA.~")
   rw [zeM] at this
   exact this.symm
  obtain ⟨n,hn⟩:∃ n:Nat,d2 % ((Str.ofString " 0123456789-\nwebroadlkspA.~").length:Int)=(n:Int):=⟨(d2 % ((Str.ofString " 0123456789-\nwebroadlkspA.~").length:Int)).toNat,by rw [zeM];omega⟩
  rw [hn]
  exact ⟨_,zbH (List.getElem?_eq_getElem (by rw [lS];rw [zeM] at hn;omega))⟩
 refine ⟨c,hc,rfl,by decide +kernel,by omega,fun pr hpr=>?_⟩
 have ms:zi1 (Txt.split text (Str.ofString "\n"))≤text.length+1:=by
  rw [zgW]
  exact PyProof.Rows.split_weight text ⟨#[10]⟩ (Nat.le_refl 1)
 have mr:∀ x∈Txt.split text (Str.ofString "\n"),Rn L x:=by
  rw [zgW]
  exact zgM hr
 have mn:Txt.split text (Str.ofString "\n")≠[]:=zgV _ _
 generalize Txt.split text (Str.ofString "\n")=rows at *
 have l1:0<rows.length:=List.length_pos_iff.mpr mn
 generalize eH:L2.upd H pr (.lst (rows.map V.str))=H1
 have s1:za3 H H1:=by rw [← eH];exact zaw hpr _
 have h1r:H1 pr=some (.lst (rows.map V.str)):=by rw [← eH,zaf]
 have h1p:=s1 _ _ hp
 refine ⟨_,SqL.of h1p,.int d3,zbH (j:=2) rfl,_,.inl (SqL.of h1r),d3,rfl,by rw [List.length_map];omega,_,SqL.of h1p,.int d4,zbH (j:=3) rfl,_,.inl (SqL.of h1r),d4,rfl,by rw [List.length_map];omega,_,SqL.of h1p,.int d5,zbH (j:=4) rfl,d5,rfl,by decide,?_⟩
 rw [List.length_map]
 obtain ⟨n4,e4,l4⟩:∃ n:Nat,d4 % (rows.length:Int)=(n:Int)∧n<rows.length:=⟨(d4 % (rows.length:Int)).toNat,by have:=Int.emod_nonneg d4 (show (rows.length:Int)≠0 by omega);omega,by have:=Int.emod_nonneg d4 (show (rows.length:Int)≠0 by omega);have:=Int.emod_lt_of_pos d4 (show (0:Int)<rows.length by omega);omega⟩
 rw [e4]
 generalize d1 % ((text.length:Int)+1)=at'
 generalize d3 % (rows.length:Int)=rw'
 generalize d5 % 9=wy
 have rs:Rn 1 (⟨#[c]⟩:Str):=znZ [c] 0
 have ls:(⟨#[c]⟩:Str).length≤1:=Nat.le_refl 1
 generalize (⟨#[c]⟩:Str)=sgc at rs ls
 generalize eσ:[some (V.str text),some (V.ref p),some (V.str (Str.ofString " 0123456789-\nwebroadlkspA.~")),some (V.int at'),some (V.str sgc),some (V.ref pr),some (V.int rw'),some (V.int (n4:Int)),some (V.int wy),none]=σ
 have g0:σ[0]?=some (some (.str text)):=by rw [← eσ];rfl
 have g3:σ[3]?=some (some (.int at')):=by rw [← eσ];rfl
 have g4:σ[4]?=some (some (.str sgc)):=by rw [← eσ];rfl
 have g5:σ[5]?=some (some (.ref pr)):=by rw [← eσ];rfl
 have g6:σ[6]?=some (some (.int rw')):=by rw [← eσ];rfl
 have g7:σ[7]?=some (some (.int (n4:Int))):=by rw [← eσ];rfl
 have g8:σ[8]?=some (some (.int wy)):=by rw [← eσ];rfl
 have vT:EvT (zac 0) σ H1 L text.length:=.var g0 hr (Nat.le_refl _)
 have vS:EvT (zac 4) σ H1 1 1:=.var g4 rs ls
 have vA:EvO (zcO (zac 3)) σ H1 (some at'):=.at (.var g3 (.int _))
 have vA1:EvO (zcO (tOp (rI0 fun i j=>.int (i+j)) (zac 3) (tC (.int 1)))) σ H1 (some (at'+1)):=.at (.add (.var g3 (.int _)) .int)
 have vR:EvO (zcO (zac 6)) σ H1 (some rw'):=.at (.var g6 (.int _))
 have vR1:EvO (zcO (tOp (rI0 fun i j=>.int (i+j)) (zac 6) (tC (.int 1)))) σ H1 (some (rw'+1)):=.at (.add (.var g6 (.int _)) .int)
 have vL:EvL (zac 5) σ H1 L (text.length+1):=.var g5 h1r mr ms
 have vI:EvT (tOp (zcR K) (zac 5) (zac 7)) σ H1 L (text.length+1):=.ix g5 h1r mr ms g7 l4
 have fin:∀ {R N:Nat},R≤2*L+10→N≤3*text.length+40→∀ s H',za3 H1 H'→Rn R s→s.length≤N→Q (.str s) H':=fun h1 h2 s H' s2 r l=>q s H' (s1.trans s2) (zfg r h1) (Nat.le_trans l h2)
 refine zoO g8 (((vT.sl .no vA (by omega)).cat vS (by omega)).cat (vT.sl vA .no (by omega)) (by omega)) (fin (by omega) (by omega)) ?_
 refine zeJ g8 (((vT.sl .no vA (by omega)).cat vS (by omega)).cat (vT.sl vA1 .no (by omega)) (by omega)) (fin (by omega) (by omega)) ?_
 refine zeJ g8 ((vT.sl .no vA (by omega)).cat (vT.sl vA1 .no (by omega)) (by omega)) (fin (by omega) (by omega)) ?_
 refine zeJ g8 (vT.sl .no vA (by omega)) (fin (by omega) (by omega)) ?_
 refine zeJ g8 (.join ((vL.sl .no vR).cat (vL.sl vR1 .no) (by omega)) (by omega)) (fin (by omega) (by omega)) ?_
 refine zeJ g8 (.join (((vL.sl .no vR).cat (.one vI) (by omega)).cat (vL.sl vR .no) (by omega)) (by omega)) (fin (by omega) (by omega)) ?_
 refine zeJ g8 (.join (((vL.sl .no vR).cat (.one vI) (by omega)).cat (vL.sl vR1 .no) (by omega)) (by omega)) (fin (by omega) (by omega)) ?_
 refine ⟨fun σ' H'=>σ'=σ∧H'=H1,⟨_,g8,rfl,_,rfl,?_⟩,?_⟩
 ·show if decide (V.int wy=V.int 7)=true then _ else _
  split
  ·have g1:σ[1]?=some (some (.ref p)):=by rw [← eσ];rfl
   have ln:9<σ.length:=by rw [← eσ];exact (by decide:9<10)
   have at9:∀ (v w:V) (σ:St),9<σ.length→(σ.set 9 (some v))[9]?=some (some v):=fun v w σ h=>List.getElem?_set_self h
   have ne9:∀ (v:V) (σ:St) (k:Nat) (o:Option V),k≠9→σ[k]?=some o→(σ.set 9 (some v))[k]?=some o:=fun v σ k o h e=>by rw [List.getElem?_set_ne (fun z=>h z.symm)];exact e
   refine zo8 (EvS.lst (.cons zkO (.cons zkO (.cons zkO (.cons zkO (.cons zkO (.cons zkO (.cons zkO (.cons zkO .nil)))))))) (by decide)) fun v1 H2 s2 sh2=>?_
   refine zo8 (σ:=σ.set 9 (some v1)) (EvS.cat (.var (at9 v1 v1 σ ln) sh2) (EvS.lst (.cons zkO (.cons zkO (.cons zkO (.cons zkO (.cons zkO (.cons zkO .nil)))))) (by decide)) (by decide)) fun v2 H3 s3 sh3=>?_
   refine zo8 (σ:=(σ.set 9 (some v1)).set 9 (some v2)) (EvS.cat (.var (at9 v2 v1 _ (by rw [List.length_set];exact ln)) sh3) (EvS.lst (.cons zkO (.cons zkO .nil)) (by decide)) (by decide)) fun v3 H4 s4 sh4=>?_
   obtain ⟨u,rfl,hu⟩:=zs7 (show Sh H4 (.lst (zra.map Tr.str)) v3 from sh4)
   show zbK _ _ (((σ.set 9 (some v1)).set 9 (some v2)).set 9 (some (.ref u))) H4
   rw [List.set_set,List.set_set]
   have s14:za3 H1 H4:=(s2.trans s3).trans s4
   have u1:=at9 (.ref u) v1 σ ln
   have k1:=ne9 (.ref u) σ 1 _ (by decide) g1
   have k5:=ne9 (.ref u) σ 5 _ (by decide) g5
   have k6:=ne9 (.ref u) σ 6 _ (by decide) g6
   have wL:EvL (zac 5) (σ.set 9 (some (.ref u))) H4 (L+10) (text.length+1):=(EvL.var k5 (s14 _ _ h1r) mr ms).mono (by omega) (Nat.le_refl _)
   have wR:EvO (zcO (zac 6)) (σ.set 9 (some (.ref u))) H4 (some rw'):=.at (.var k6 (.int _))
   obtain ⟨m,em,lm⟩:∃ m:Nat,d2 % 16=(m:Int)∧m<16:=⟨(d2 % 16).toNat,by omega,by omega⟩
   have eo:zra[m]?=some (zra[m]'lm):=List.getElem?_eq_getElem _
   have wO:EvT (tOp (zcR K) (zac 9) (tOp (rI (fun _ j=>0<j) fun i j=>.int (i % j)) (tOp (zcR K) (zac 1) (tC (.int 1))) (tCB (fun xs H Q=>∃ p ys,xs=[.ref p]∧(SqL K H p ys∨SqT K H p ys)∧Q (.int ys.length) H) (zab (zac 9) zas)))) (σ.set 9 (some (.ref u))) H4 (L+10) 16:=fun H5 R s5 r5=>by
    refine ⟨_,u1,_,k1,p,_,1,.int d2,rfl,rfl,SqL.of (s5 _ _ (s14 _ _ h1p)),zbH (j:=1) rfl,_,u1,u,_,rfl,.inl (SqL.of (s5 _ _ hu)),d2,_,rfl,rfl,(by rw [List.length_map];show (0:Int)<((zra.length:Nat):Int);decide),u,_,_,.str (zra[m]'lm),rfl,rfl,SqL.of (s5 _ _ hu),?_,?_⟩
    ·rw [List.length_map,show ((zra.length:Nat):Int)=16 from rfl,em]
     exact zbH (by rw [List.getElem?_map,eo];rfl)
    ·have:=zui _ (zc1 eo)
     exact r5 _ H5 (.refl _) (zfg this.1 (by omega)) this.2
   exact EvT.join (((wL.sl .no wR).cat (.one wO) (by omega)).cat (wL.sl wR .no) (by omega)) (by omega) _ _ (.refl _) fun s H' s5 r l=>q s H' (s1.trans (s14.trans s5)) (zfg r (by omega)) (by omega)
  ·exact ⟨rfl,rfl⟩
 ·rintro _ _ ⟨rfl,rfl⟩
  exact vT.cat vT (by omega) _ _ (.refl _) (fin (by omega) (by omega))
theorem zbx:za7 ["_law_text_here","_law_draws","_law_some","_law_at","_law_sign","_law_rows","_law_row","_law_to","_law_way","_law_odd"] ["_law_text_here","_law_draws"] (zav zfB):=⟨rfl,rfl,rfl,by decide +kernel,rfl,by decide +kernel,by decide +kernel⟩
theorem zjK (T:Txt K mg base a):zdD P w K mg base CX0 1 a.f__law_bent a.d__law_bent ["_law_text_here","_law_draws"] (zo0 K):=by
 refine T.F__law_bent.ok zbx (fun vs H Q E h=>?_) (fun cdv A outer s H vs Q E hr h=>?_)
 ·obtain ⟨text,p,ds,L,rfl,hp,l5,d0,hR,lt,q⟩:=h
  rfl
 obtain ⟨text,p,ds,L,rfl,hp,l5,d0,hR,lt,q⟩:=h
 exact ⟨zfw K,(zag (zaP (i:=2) zbx.nd rfl (Or.inl rfl) za6)
 (zag (zaP (i:=3) zbx.nd rfl (Or.inl rfl) (zaC zbJ (zcd zba (pv 1) zah (fun _ _=>rfl)) (zaC zb3 (zaj zhe rfl T.z_len PySem.boot_len (zaa (pv 0) zae)) zah)))
 (zag (zaP (i:=4) zbx.nd rfl (Or.inl rfl) (zcd zq7 (pv 2) (zaC zbJ (zcd zba (pv 1) zah (fun _ _=>rfl)) (zaj zhe rfl T.z_len PySem.boot_len (zaa (pv 2) zae))) (fun _ _=>rfl)))
 (zag (zaP (i:=5) zbx.nd rfl (Or.inl rfl) (zdG PySem.F.plainAttrs_str PySem.F.slot_str_split PySem.F.type_str_split zeR (pv 0) (zaa za6 zae)))
 (zag (zaP (i:=6) zbx.nd rfl (Or.inl rfl) (zaC zbJ (zcd zba (pv 1) zah (fun _ _=>rfl)) (zaj zaB rfl T.z_len PySem.boot_len (zaa (pv 5) zae))))
 (zag (zaP (i:=7) zbx.nd rfl (Or.inl rfl) (zaC zbJ (zcd zba (pv 1) zah (fun _ _=>rfl)) (zaj zaB rfl T.z_len PySem.boot_len (zaa (pv 5) zae))))
 (zag (zaP (i:=8) zbx.nd rfl (Or.inl rfl) (zaC zbJ (zcd zba (pv 1) zah (fun _ _=>rfl)) zah))
 (zag (zbz (zbN (zay zdg (pv 8) zah (zaF _)) (zat (zaY (zaC zcE (zaC zcE (zbF zhn (pv 0) zb8 (zca (pv 3))) (pv 4)) (zbF zhn (pv 0) (zca (pv 3)) zb8)))) zaV))
 (zag (zbz (zbN (zay zdg (pv 8) zah (zaF _)) (zat (zaY (zaC zcE (zaC zcE (zbF zhn (pv 0) zb8 (zca (pv 3))) (pv 4)) (zbF zhn (pv 0) (zca (zaC zb3 (pv 3) zah)) zb8)))) zaV))
 (zag (zbz (zbN (zay zdg (pv 8) zah (zaF _)) (zat (zaY (zaC zcE (zbF zhn (pv 0) zb8 (zca (pv 3))) (zbF zhn (pv 0) (zca (zaC zb3 (pv 3) zah)) zb8)))) zaV))
 (zag (zbz (zbN (zay zdg (pv 8) zah (zaF _)) (zat (zaY (zbF zhn (pv 0) zb8 (zca (pv 3))))) zaV))
 (zag (zbz (zbN (zay zdg (pv 8) zah (zaF _)) (zat (zaY (zdG PySem.F.plainAttrs_str PySem.F.slot_str_join PySem.F.type_str_join zjh za6 (zaa (zaC zdt (zbF zdc (pv 5) zb8 (zca (pv 6))) (zbF zdc (pv 5) (zca (zaC zb3 (pv 6) zah)) zb8)) zae)))) zaV))
 (zag (zbz (zbN (zay zdg (pv 8) zah (zaF _)) (zat (zaY (zdG PySem.F.plainAttrs_str PySem.F.slot_str_join PySem.F.type_str_join zjh za6 (zaa (zaC zdt (zaC zdt (zbF zdc (pv 5) zb8 (zca (pv 6))) (zcj (zaa (zcd zba (pv 5) (pv 7) (fun _ _=>rfl)) zae))) (zbF zdc (pv 5) (zca (pv 6)) zb8)) zae)))) zaV))
 (zag (zbz (zbN (zay zdg (pv 8) zah (zaF _)) (zat (zaY (zdG PySem.F.plainAttrs_str PySem.F.slot_str_join PySem.F.type_str_join zjh za6 (zaa (zaC zdt (zaC zdt (zbF zdc (pv 5) zb8 (zca (pv 6))) (zcj (zaa (zcd zba (pv 5) (pv 7) (fun _ _=>rfl)) zae))) (zbF zdc (pv 5) (zca (zaC zb3 (pv 6) zah)) zb8)) zae)))) zaV))
 (zag (zbz (zbN (zay zdg (pv 8) zah (zaF _)) (zag (zaP (i:=9) zbx.nd rfl (Or.inl rfl) (zcj (zaa za6 (zaa za6 (zaa za6 (zaa za6 (zaa za6 (zaa za6 (zaa za6 (zaa za6 zae))))))))))
 (zag (zaP (i:=9) zbx.nd rfl (Or.inl rfl) (zaC zdt (pv 9) (zcj (zaa za6 (zaa za6 (zaa za6 (zaa za6 (zaa za6 (zaa za6 zae)))))))))
 (zag (zaP (i:=9) zbx.nd rfl (Or.inl rfl) (zaC zdt (pv 9) (zcj (zaa za6 (zaa za6 zae)))))
 (zat (zaY (zdG PySem.F.plainAttrs_str PySem.F.slot_str_join PySem.F.type_str_join zjh za6 (zaa (zaC zdt (zaC zdt (zbF zdc (pv 5) zb8 (zca (pv 6))) (zcj (zaa (zcd zba (pv 9) (zaC zbJ (zcd zba (pv 1) zah (fun _ _=>rfl)) (zaj zaB rfl T.z_len PySem.boot_len (zaa (pv 9) zae))) (fun _ _=>rfl)) zae))) (zbF zdc (pv 5) (zca (pv 6)) zb8)) zae))))))) zaV))
 (zat (zaY (zaC zcE (pv 0) (pv 0))))))))))))))))))),
  zj2 hp l5 d0 hR lt q⟩
def zpU (K:PySem.W.Frag) (P:Addr):Sp:=fun vs H Q _=>∃ (p:Addr) (ns:List Int),vs=[.ref p]∧SqL K H p (ns.map V.int)∧ns.length≤63∧(∀ x∈ns,x.natAbs<2 ^ 2 ^ 20)∧LT H P∧∀ H',Q (.bl true) H'
def znG (a:Ad):Sp:=fun vs H Q _=>∃ text:Str,vs=[.str text]∧LT H a.p_lam∧Rn 640 text∧text.length≤80000 ∧
 (∀ m rs t w rl ts H',zjk (Txt.split text (Str.ofString "\n"))=.inr (m,rs)→Bar a.p_lam H H'→H' t=some (.tup [.ref w,.non])→zgI H' w rl ts m rs→Q (.ref t) H') ∧
 ∀ (k:Nat) t x dx H',zjk (Txt.split text (Str.ofString "\n"))=.inl k→Bar a.p_lam H H'→H' t=some (.tup [.non,.ref x])→H' x=some (zgL x (.ref a.c_NoText) (some dx))→H' dx=some (.xd [("row",.int k)])→Q (.ref t) H'
def zfd (K:PySem.W.Frag) (a:Ad):TS :=
 (zaW (zbr (tC .non) (zai 1))
 (zaW (zbr (tC .non) (zai 2))
 (zaW (ztd K (fun E'=>(zbr (zl8 (zki a) [] E' (zab (zac 0) zas)) (zai 2))) (.ref a.c_HideError) 3
 (zbr (zac 3) (zai 1)))
 (zbK (zf1 (zab (zac 2) (zab (zac 1) zas)))))))
theorem zkm {text:Str} (I:Isa K a) (hP:LT H a.p_lam) (hr:Rn 640 text) (lt:text.length≤80000)
 (q1:∀ m rs t w rl ts H',zjk (Txt.split text (Str.ofString "\n"))=.inr (m,rs)→Bar a.p_lam H H'→H' t=some (.tup [.ref w,.non])→zgI H' w rl ts m rs→Q (.ref t) H')
 (q2:∀ (k:Nat) t x dx H',zjk (Txt.split text (Str.ofString "\n"))=.inl k→Bar a.p_lam H H'→H' t=some (.tup [.non,.ref x])→H' x=some (zgL x (.ref a.c_NoText) (some dx))→H' dx=some (.xd [("row",.int k)])→Q (.ref t) H'):zfd K a { nx:=fun _ H'=>Q .non H',rt:=Q } (L2.zbY ["_law_text_here","_law_caught","_law_told_here","e"] [.str text]) H:=by
 unfold zfd
 simp_all only [zac]
 refine ⟨text,rfl,hP,hr,lt,fun m rs w rl ts H1 e b L n1 n2 W=>⟨by decide,fun t ht=>q1 m rs t w rl ts _ e (fun b' o n e=>(zaw ht _) _ _ (b b' o n e)) zaf (W.same (zaw ht _))⟩,fun k dx H1 e b L hdx h1=>⟨I.ec,I.sub,fun x hx=>⟨by decide,fun t ht=>?_⟩⟩⟩
 have s2:za3 H1 (L2.upd (L2.upd H1 x (zgL x (.ref a.c_NoText) (some dx))) t (.tup [.non,.ref x])):=(zaw hx _).add ht
 have nxt:x≠t:=fun z=>by rw [← z,zaf] at ht;cases ht
 exact q2 k t x dx _ e (fun b' o n e=>s2 _ _ (b b' o n e)) zaf (by rw [zax nxt,zaf]) (s2 _ _ h1)
theorem zcJ:za7 ["_law_text_here","_law_caught","_law_told_here","e"] ["_law_text_here"] (zav zfz):=⟨rfl,rfl,rfl,by decide +kernel,rfl,by decide +kernel,by decide +kernel⟩
theorem zjw (T:Txt K mg base a):zdD P w K mg base CX0 8 a.f__law_told a.d__law_told ["_law_text_here"] (znG a):=by
 have G_read_web:=zlx (P:=P) (w:=w) (base:=base) T
 refine T.F__law_told.ok zcJ (fun vs H Q E h=>?_) (fun cdv A outer s H vs Q E hr h=>?_)
 ·obtain ⟨text,rfl,hP,hR,lt,q1,q2⟩:=h
  rfl
 obtain ⟨text,rfl,hP,hR,lt,q1,q2⟩:=h
 exact ⟨zfd K a,(zag (zaP (i:=1) zcJ.nd rfl (Or.inl rfl) zb2)
 (zag (zaP (i:=2) zcJ.nd rfl (Or.inl rfl) zb2)
 (zag (zrY (i:=3) T.m_HideError T.x_HideError rfl zcJ.nd rfl rfl rfl rfl rfl rfl (fun pins E'=>(zat (zaP (i:=2) zcJ.nd rfl (Or.inl rfl) (zmk G_read_web (hr.mono (by decide)) rfl T.m_read_web T.F_read_web.kp T.b_read_web .nil zt2 (zaa (pv 0) zae)))))
 (fun ea=>(zat (zaP (i:=1) zcJ.nd rfl (Or.inl rfl) (pv 3)))))
 (zat (zaY (zdp (zaa (pv 2) (zaa (pv 1) zae)))))))),
  zkm T.I hP hR lt q1 q2⟩
def webT (m:Int) (rs:List zcz):Tr:=.tup [.int m,.lst (rs.map fun r=>.tup [.int r.1,.int r.2.1,.int r.2.2])]
theorem zgI.shT {w rl:Addr} {ts:List Addr} {m:Int} {rs:List zcz} (h:zgI H w rl ts m rs):ShT H 5 (webT m rs) (.ref w):=by
 refine .tup h.hw rfl fun i x t e1 e2=>?_
 match i,e1,e2 with
 | 0,e1,e2 =>
  cases e1
  cases e2
  exact .int _
 | 1,e1,e2 =>
  cases e1
  cases e2
  refine .lst h.hl (by rw [List.length_map,List.length_map,h.ht.1]) fun i x t e1 e2=>?_
  obtain ⟨a,ha,rfl⟩:=zgt e1
  obtain ⟨b,hb,rfl⟩:=zgt e2
  refine .tup (h.ht.2 i a b ha hb) rfl fun j y u f1 f2=>?_
  match j,f1,f2 with
  | 0,f1,f2 =>
   cases f1
   cases f2
   exact .int _
  | 1,f1,f2 =>
   cases f1
   cases f2
   exact .int _
  | 2,f1,f2 =>
   cases f1
   cases f2
   exact .int _
theorem zgI.bar {P:Addr} {H H':Hp} {ps:Array Value} (hP:H P=some (.tbl ps)) (b:Bar P H H') {w rl:Addr} {ts:List Addr} {m:Int} {rs:List zcz} (h:zgI H w rl ts m rs):zgI H' w rl ts m rs:=by
 refine ⟨b _ _ (fun z=>?_) h.hw,b _ _ (fun z=>?_) h.hl,h.ht.1,fun i x r e1 e2=>b _ _ (fun z=>?_) (h.ht.2 i x r e1 e2)⟩
 ·have:=h.hw
  rw [z,hP] at this
  cases this
 ·have:=h.hl
  rw [z,hP] at this
  cases this
 ·have:=h.ht.2 i x r e1 e2
  rw [z,hP] at this
  cases this
def ziZ (K:PySem.W.Frag) (a:Ad):TS :=
 (zbK (zcV (tOp rEq (za9 (zk1 a) [] E0 (zab (zac 6) zas)) (tC (.int 2))) (zcV (za9 zfn [] E0 (zab (zmR K (zac 6) "row") zas)) (tOp rEq (zmR K (zac 6) "row") (zac 3)))))
theorem zdK (K:PySem.W.Frag) (a:Ad) (D:zb1) (σ:St) (H:Hp):ziZ K a D σ H=(zbK (zcV (tOp rEq (za9 (zk1 a) [] E0 (zab (zac 6) zas)) (tC (.int 2))) (zcV (za9 zfn [] E0 (zab (zmR K (zac 6) "row") zas)) (tOp rEq (zmR K (zac 6) "row") (zac 3))))) D σ H:=rfl
def zg5:TS :=
 (zbX (zaA (tOp (fun x y H Q=>y=.non∧Q (.bl (decide (x=.non))) H) (zac 3) (tC .non))) (zbK (zcV (tOp (fun x y H Q=>y=.non∧Q (.bl (decide (x=.non))) H) (zac 6) (tC .non)) (za9 (zmo 5) [] E0 (zab (zac 5) (zab (zac 4) zas))))) za0)
theorem zdI (D:zb1) (σ:St) (H:Hp):zg5 D σ H=(zbX (zaA (tOp (fun x y H Q=>y=.non∧Q (.bl (decide (x=.non))) H) (zac 3) (tC .non))) (zbK (zcV (tOp (fun x y H Q=>y=.non∧Q (.bl (decide (x=.non))) H) (zac 6) (tC .non)) (za9 (zmo 5) [] E0 (zab (zac 5) (zab (zac 4) zas))))) za0) D σ H:=rfl
def zlL (K:PySem.W.Frag):TS :=
 (zbr (za9 (zo0 K) [] E0 (zab (zac 1) (zab (zgn (zfC (zab (tC (.int 5)) zas)) (zai 0) zc9 (za9 (zcq K) [] E0 (zab (zac 1) (zab (tOp (rI0 fun i j=>.int (i+j)) (tOp (rI0 fun i j=>.int (i+j)) (tC (.int 300)) (tOp (rI IntMulOk fun i j=>.int (i*j)) (tC (.int 5)) (zac 2))) (zac 0)) zas))) [none,some 0,some 2]) zas))) (zai 1))
theorem zdi (K:PySem.W.Frag) (D:zb1) (σ:St) (H:Hp):zlL K D σ H=(zbr (za9 (zo0 K) [] E0 (zab (zac 1) (zab (zgn (zfC (zab (tC (.int 5)) zas)) (zai 0) zc9 (za9 (zcq K) [] E0 (zab (zac 1) (zab (tOp (rI0 fun i j=>.int (i+j)) (tOp (rI0 fun i j=>.int (i+j)) (tC (.int 300)) (tOp (rI IntMulOk fun i j=>.int (i*j)) (tC (.int 5)) (zac 2))) (zac 0)) zas))) [none,some 0,some 2]) zas))) (zai 1)) D σ H:=rfl
def zk9 (K:PySem.W.Frag) (a:Ad):TS :=
 (zaW (zbr (za9 (zlz K) [] E0 (zab (zac 1) zas)) (zhj K 2 (zbn (zai 3) (zbn (zai 4) zgK))))
 (zaW (zbr (za9 (znG a) [] E0 (zab (zac 1) zas)) (zhj K 2 (zbn (zai 5) (zbn (zai 6) zgK))))
 (zaW (zdk (zg5))
 (ziZ K a))))
theorem zdh (K:PySem.W.Frag) (a:Ad) (D:zb1) (σ:St) (H:Hp):zk9 K a D σ H=(zaW (zbr (za9 (zlz K) [] E0 (zab (zac 1) zas)) (zhj K 2 (zbn (zai 3) (zbn (zai 4) zgK))))
 (zaW (zbr (za9 (znG a) [] E0 (zab (zac 1) zas)) (zhj K 2 (zbn (zai 5) (zbn (zai 6) zgK))))
 (zaW (zdk (zg5))
 (ziZ K a)))) D σ H:=rfl
def zs5 (K:PySem.W.Frag) (a:Ad):TS :=
 (zaW (zbr (za9 (zrk K) [] E0 (zab (za9 (ztW K) [] E0 (zab (zac 0) (zab (tC (.int 0)) (zab (tC (.int 8)) (zab (tC (.int 6)) zas))))) zas)) (zai 1))
 (zaW (zgJ (zfC (zab (tOp (rI (fun _ j=>0<j) fun i j=>.int (i % j)) (za9 (zcq K) [] E0 (zab (zac 0) (zab (tC (.int 290)) zas))) (tC (.int 3))) zas)) (zai 2)
 (zlL K))
 (zk9 K a)))
theorem ztO {p:Addr} {ns:List Int} (xa:ziu K a.c_NoText "row") (hS:SqL K H p (ns.map V.int)) (hl:ns.length≤63) (hP:LT H a.p_lam) (q:∀ H',Q (.bl true) H') :
  zs5 K a { nx:=fun _ H'=>Q .non H',rt:=Q } (L2.zbY ["_law_script","_law_text_here","_law_k","_law_row","_law_web_here","_law_told_here","_law_caught"] [.ref p]) H:=by
 unfold zs5
 simp_all only [zac]
 refine ⟨p,ns,0,8,6,rfl,hS,hl,by decide,by decide,by decide,by decide,by decide,by decide,fun w rl ts m rs H1 s1 W G m8 lr1 lr2=>⟨w,rl,ts,m,rs,rfl,W,⟨by have:=G.m1;omega,by omega⟩,fun r hr=>(G.gr r hr).sm (by omega),by omega,?_⟩⟩
 obtain ⟨rs0,ls0⟩:=znz (m:=m) ⟨by have:=G.m1;omega,by omega⟩ (rs:=rs) fun r hr=>(G.gr r hr).sm (by omega)
 have rs1:Rn 64 (wtx m rs):=rs0.rn (by decide)
 have ls1:(wtx m rs).length≤4000:=by omega
 generalize wtx m rs=s at rs1 ls1
 refine ⟨p,ns,290,rfl,s1.seq hS,hl,by decide,by decide,fun r1 r10 r11=>⟨r1,rfl,by decide,by omega,by omega,?_⟩⟩
 have hn:(r1 % 3).toNat≤2:=by omega
 generalize (r1 % 3).toNat=n at hn
 refine zcI (fun i σ H2=>za3 H H2∧∃ (s:Str) (z3:Option V),((i=0∧Rn 64 s∧s.length≤4000)∨(i=1∧Rn 138 s∧s.length≤12040)∨(i=2∧Rn 286 s∧s.length≤36160))∧σ=[some (.ref p),some (.str s),z3,none,none,none,none]) ⟨s1,s,_,.inl ⟨rfl,rs1,ls1⟩,rfl⟩ ?_ ?_
 ·rintro i σ H2 hi ⟨s2,s,z3,hs,rfl⟩
  rw [Int.zero_add]
  unfold zlL
  simp_all only [zdK,zdI,zdi,zdh,zac]
  refine ⟨by decide,by decide,fun D hD=>?_⟩
  refine zlk (fun j ys σ' H'=>za3 H2 H'∧(∃ ds:List Int,ys=ds.map V.int∧ds.length=j∧∀ d∈ds,0≤d)∧∃ x,σ'=[x,some (.ref p),some (.int i)]) ⟨zaw hD _,⟨[],rfl,rfl,fun d h=>by cases h⟩,_,rfl⟩ ?_ ?_
  ·rintro j ys σ' H' hj hD' ⟨s3,⟨ds,rfl,ld,d0⟩,x,rfl⟩
   simp_all only [zdK,zdI,zdi,zdh,zac]
   refine ⟨mulL (by decide) (by decide),p,ns,_,rfl,(s2.trans s3).seq hS,hl,by omega,by omega,fun r r0 r1=>⟨_,hD',zgm (by rw [List.length_map];omega),_,zaf,s3.put hD,ds++[r],by rw [List.map_append];rfl,by rw [List.length_append,ld];rfl,fun d hd=>?_⟩⟩
   rcases List.mem_append.mp hd with hd | hd
   ·exact d0 d hd
   ·rw [List.mem_singleton.mp hd]
    exact r0
  ·rintro ys σ' H' hD' ⟨s3,⟨ds,rfl,ld,d0⟩,x,rfl⟩
   obtain ⟨L,hL⟩:∃ L,Rn L s∧s.length≤20000∧∀ s':Str,Rn (2*L+10) s'→s'.length≤3*s.length+40→(False∧Rn 64 s'∧s'.length≤4000∨i+1=1∧Rn 138 s'∧s'.length≤12040∨i+1=2∧Rn 286 s'∧s'.length≤36160):=by
    rcases hs with ⟨h0,h1,h2⟩ | ⟨h0,h1,h2⟩ | ⟨h0,h1,h2⟩
    ·exact ⟨64,h1,by omega,fun s' r l=>.inr (.inl ⟨by omega,r,by omega⟩)⟩
    ·exact ⟨138,h1,by omega,fun s' r l=>.inr (.inr ⟨by omega,r,by omega⟩)⟩
    ·omega
   exact ⟨s,D,ds,L,rfl,hD',ld,d0,hL.1,hL.2.1,fun s' H3 s4 r l=>⟨s2.trans (s3.trans s4),s',hL.2.2 s' r l,rfl⟩⟩
 ·rintro σ H2 ⟨s2,s,z3,hs,rfl⟩
  have hr:Rn 640 s∧s.length≤80000:=by
   rcases hs with ⟨_,h1,h2⟩ | ⟨_,h1,h2⟩ | ⟨_,h1,h2⟩
   ·exact ⟨zfg h1 (by decide),by omega⟩
   ·exact ⟨zfg h1 (by decide),by omega⟩
   ·exact ⟨zfg h1 (by decide),by omega⟩
  unfold zk9
  simp_all only [zdi,zdh,zac]
  obtain ⟨ps2,hps2⟩:=(hP.same s2).tbl
  refine ⟨s,rfl,hr.1,hr.2,fun k t H3 e s3 ht=>?_,fun m' rs' t w' rl' ts' H3 e s3 ht W'=>?_⟩
  ·refine ⟨t,rfl,_,SqT.of ht,rfl,_,_,rfl,_,_,rfl,rfl,s,rfl,hP.same (s2.trans s3),hr.1,hr.2,fun m2 rs2 t2 w2 rl2 ts2 H4 e2=>absurd (e.symm.trans e2) (fun z=>by cases z),fun k2 t2 x dx H4 e2 b4 h4 hx hdx=>?_⟩
   have ek:k=k2:=by
    have:=e.symm.trans e2
    cases this
    rfl
   subst ek
   refine ⟨t2,rfl,_,SqT.of h4,rfl,_,_,rfl,_,_,rfl,rfl,?_⟩
   refine ⟨fun σ H'=>H'=H4∧σ=[some (.ref p),some (.str s),z3,some (.int k),some .non,some .non,some (.ref x)],?_,?_⟩
   ·unfold zg5
    simp_all only [zdK,zdI,zdi,zdh,zac]
   ·rintro σ H5 ⟨rfl,rfl⟩
    unfold ziZ
    simp_all only [zdK,zdI,zdi,zdh,zac]
    refine ⟨x,some dx,rfl,hx,fun H6 s6=>⟨rfl,?_⟩⟩
    rw [if_pos rfl]
    refine ⟨_,dx,s6 _ _ hx,_,s6 _ _ hdx,xa,.int k,rfl,k,rfl,true,rfl,?_⟩
    rw [if_pos rfl]
    refine ⟨_,dx,s6 _ _ hx,_,s6 _ _ hdx,xa,.int k,rfl,rfl,?_⟩
    rw [decide_eq_true rfl]
    exact q H6
  ·refine ⟨t,rfl,_,SqT.of ht,rfl,_,_,rfl,_,_,rfl,rfl,s,rfl,hP.same (s2.trans s3),hr.1,hr.2,fun m2 rs2 t2 w2 rl2 ts2 H4 e2 b4 h4 W4=>?_,fun k2 t2 x dx H4 e2=>absurd (e.symm.trans e2) (fun z=>by cases z)⟩
   have ek:m'=m2∧rs'=rs2:=by
    have:=e.symm.trans e2
    cases this
    exact ⟨rfl,rfl⟩
   obtain ⟨rfl,rfl⟩:=ek
   refine ⟨t2,rfl,_,SqT.of h4,rfl,_,_,rfl,_,_,rfl,rfl,?_⟩
   have W5:zgI H4 w' rl' ts' m' rs':=zgI.bar (s3 _ _ hps2) b4 W'
   refine ⟨fun σ H'=>False,?_,fun _ _ z=>z.elim⟩
   unfold zg5
   simp_all only [zdK,zdI,zdi,zdh,zac]
   exact ⟨.ref w2,.ref w',_,rfl,W4.shT,W5.shT,fun H5 _=>q H5⟩
theorem zgC:za7 ["_law_script","_law_text_here","_law_k","_law_row","_law_web_here","_law_told_here","_law_caught"] ["_law_script"] (zav zn2):=⟨rfl,rfl,rfl,by decide +kernel,rfl,by decide +kernel,by decide +kernel⟩
theorem ztN (T:Txt K mg base a):zdD P w K mg base CX0 9 a.f_law a.d_law ["_law_script"] (zpU K a.p_lam):=by
 have G__law_bent:=zjK (P:=P) (w:=w) (base:=base) T
 have G__law_class:=zit (P:=P) (w:=w) (base:=base) T
 have G__law_first_wrong:=zfp (P:=P) (w:=w) (base:=base) T
 have G__law_mixed:=zfR (P:=P) (w:=w) (base:=base) T
 have G__law_same:=zjz (P:=P) (w:=w) (base:=base) T
 have G__law_text:=zkd (P:=P) (w:=w) (base:=base) T
 have G__law_told:=zjw (P:=P) (w:=w) (base:=base) T
 have G__law_web:=zlH (P:=P) (w:=w) (base:=base) T
 have G__law_whole:=zir (P:=P) (w:=w) (base:=base) T
 refine T.F_law.ok zgC (fun vs H Q E h=>?_) (fun cdv A outer s H vs Q E hr h=>?_)
 ·obtain ⟨p,ns,rfl,hS,hl,hb,hP,q⟩:=h
  rfl
 obtain ⟨p,ns,rfl,hS,hl,hb,hP,q⟩:=h
 exact ⟨zs5 K a,(zag (zaP (i:=1) zgC.nd rfl (Or.inl rfl) (za5 G__law_text (hr.mono (by decide)) rfl T.m__law_text T.F__law_text.kp T.b__law_text .nil zbZ (zaa (za5 G__law_web (hr.mono (by decide)) rfl T.m__law_web T.F__law_web.kp T.b__law_web .nil zbZ (zaa (pv 0) (zaa zah (zaa zah (zaa zah zae))))) zae)))
 (zag (zds PassesOwn.never rfl (zc3 rfl T.z_range (zaa (zaC zbJ (za5 G__law_mixed (hr.mono (by decide)) rfl T.m__law_mixed T.F__law_mixed.kp T.b__law_mixed .nil zbZ (zaa (pv 0) (zaa zah zae))) zah) zae)) (zaO (i:=2) zgC.nd rfl (Or.inr rfl))
 (zat (zaP (i:=1) zgC.nd rfl (Or.inl rfl) (za5 G__law_bent (hr.mono (by decide)) rfl T.m__law_bent T.F__law_bent.kp T.b__law_bent .nil zbZ (zaa (pv 1) (zaa (zlK (sc:=zav zn2) (N:=["_law_script","_law_text_here","_law_k","_law_row","_law_web_here","_law_told_here","_law_caught"]) (Nc:=["_law_j","_law_script","_law_k"]) (cap:=[none,some 0,some 2]) rfl rfl rfl (.of (by decide +kernel)) (zc3 rfl T.z_range (zaa zah zae)) (fun _ _ _ _=>(zaO (i:=0) (show List.Nodup (["_law_j","_law_script","_law_k"]:List Str) from by decide) rfl (Or.inl rfl))) (fun _ _ _ _=>zi5) (fun _ _ _ _=>(za5 G__law_mixed (hr.mono (by decide)) rfl T.m__law_mixed T.F__law_mixed.kp T.b__law_mixed .nil zbZ (zaa (pv 1) (zaa (zaC zb3 (zaC zb3 zah (zaC zhy zah (pv 2))) (pv 0)) zae))))) zae))))))
 (zag (zg6 (za5 G__law_first_wrong (hr.mono (by decide)) rfl T.m__law_first_wrong T.F__law_first_wrong.kp T.b__law_first_wrong .nil zbZ (zaa (pv 1) zae)) (zd3 rfl (zaZ (zaO (i:=3) zgC.nd rfl (Or.inl rfl)) (zaZ (zaO (i:=4) zgC.nd rfl (Or.inl rfl)) zcT))))
 (zag (zg6 (za5 G__law_told (hr.mono (by decide)) rfl T.m__law_told T.F__law_told.kp T.b__law_told .nil zbZ (zaa (pv 1) zae)) (zd3 rfl (zaZ (zaO (i:=5) zgC.nd rfl (Or.inl rfl)) (zaZ (zaO (i:=6) zgC.nd rfl (Or.inl rfl)) zcT))))
 (zag (zbz (zbN (zay zhb (pv 3) zb2 (zaF _)) (zat (zaY (zdr (zcG zhb (pv 6) zb2 (zaF _)) (ze4 (za5 G__law_same (hr.mono (by decide)) rfl T.m__law_same T.F__law_same.kp T.b__law_same .nil zbZ (zaa (pv 5) (zaa (pv 4) zae))))))) zaV))
 (zat (zaY (zdr (zcG zdg (za5 G__law_class (hr.mono (by decide)) rfl T.m__law_class T.F__law_class.kp T.b__law_class .nil zbZ (zaa (pv 6) zae)) zah (zaF _)) (zdr (za5 G__law_whole (hr.mono (by decide)) rfl T.m__law_whole T.F__law_whole.kp T.b__law_whole .nil zbZ (zaa (zop (pv 6) rfl) zae)) (ze4 (zcG zdg (zop (pv 6) rfl) (pv 3) (zaF _)))))))))))),
  ztO T.xa_NoText hS hl hP q⟩
end
theorem zpc {us:List Value} {n:Nat} (h:us.length=n+1):∃ a t,us=a::t∧t.length=n:=by
 cases us with
 | nil=>cases h
 | cons a t=>exact ⟨a,t,rfl,Nat.succ.inj h⟩
theorem zkL {us:List Value} (h:us.length=1):∃ a0,us=[a0]:=by
 obtain ⟨a0,u0,rfl,h0⟩:=zpc h
 cases List.eq_nil_of_length_eq_zero h0
 exact ⟨a0,rfl⟩
theorem zty {us:List Value} (h:us.length=2):∃ a0,∃ a1,us=[a0,a1]:=by
 obtain ⟨a0,u0,rfl,h0⟩:=zpc h
 obtain ⟨a1,u1,rfl,h1⟩:=zpc h0
 cases List.eq_nil_of_length_eq_zero h1
 exact ⟨a0,a1,rfl⟩
theorem lst3 {us:List Value} (h:us.length=3):∃ a0,∃ a1,∃ a2,us=[a0,a1,a2]:=by
 obtain ⟨a0,u0,rfl,h0⟩:=zpc h
 obtain ⟨a1,u1,rfl,h1⟩:=zpc h0
 obtain ⟨a2,u2,rfl,h2⟩:=zpc h1
 cases List.eq_nil_of_length_eq_zero h2
 exact ⟨a0,a1,a2,rfl⟩
theorem lst4 {us:List Value} (h:us.length=4):∃ a0,∃ a1,∃ a2,∃ a3,us=[a0,a1,a2,a3]:=by
 obtain ⟨a0,u0,rfl,h0⟩:=zpc h
 obtain ⟨a1,u1,rfl,h1⟩:=zpc h0
 obtain ⟨a2,u2,rfl,h2⟩:=zpc h1
 obtain ⟨a3,u3,rfl,h3⟩:=zpc h2
 cases List.eq_nil_of_length_eq_zero h3
 exact ⟨a0,a1,a2,a3,rfl⟩
structure Txm (K:PySem.W.Frag) (mg:Str→Option Value) (a:Ad):Prop where
 m:mg "law"=some (.ref a.f_law)
 F:Fun K "law" "law" zn2 a.f_law a.d_law
 p:a.p_lam=339
 T:∀ base:Heap,PySem.W.CodeHd base 343 339→base.BuiltinsAt mg 339→Txt (zbI 339 K) mg base a
theorem zt9 {K:PySem.W.Frag} {mg:Str→Option Value} (hP:K.lookup 339=some (PySem.W.tabObj #[]))
  {f0 f1 f2 f3 f4 f5 f6 f7 f8 f9 f10 f11 f12 f13 f14 f15 f16 f17 f18 f19 f20 f21 f22 f23:Addr} {d0 d1 d2 d3 d4 d5 d6 d7 d8 d9 d10 d11 d12 d13 d14 d15 d16 d17 d18 d19 d20 d21 d22 d23:FuncData}
  {c_HideError c_NoNumber c_NoTable c_NoBoxes c_NoBudget c_NoOrder c_NoWeights c_TooGreat c_NoKind c_NoTree c_NoTurns c_NoPlay c_NoRow c_NoName c_NoRoad c_NoWeb c_NoPlan c_NoText c_NoPaper:Addr}
  (F0:Fun K "is_whole" "is_whole" zf8 f0 d0) (m0:mg "is_whole"=some (.ref f0))
  (F1:Fun K "is_within" "is_within" zfy f1 d1) (m1:mg "is_within"=some (.ref f1))
  (F2:Fun K "is_road" "is_road" zg4 f2 d2) (m2:mg "is_road"=some (.ref f2))
  (F3:Fun K "places_come_to" "places_come_to" zc8 f3 d3) (m3:mg "places_come_to"=some (.ref f3))
  (F4:Fun K "look_web" "look_web" zgd f4 d4) (m4:mg "look_web"=some (.ref f4))
  (F5:Fun K "number_in" "number_in" zdM f5 d5) (m5:mg "number_in"=some (.ref f5))
  (F6:Fun K "numbers_in" "numbers_in" zdv f6 d6) (m6:mg "numbers_in"=some (.ref f6))
  (F7:Fun K "many_in" "many_in" zhu f7 d7) (m7:mg "many_in"=some (.ref f7))
  (F8:Fun K "road_in" "road_in" zgY f8 d8) (m8:mg "road_in"=some (.ref f8))
  (F9:Fun K "read_rows" "read_rows" zfu f9 d9) (m9:mg "read_rows"=some (.ref f9))
  (F10:zph K "read_web" "read_web" zeL f10 d10 343) (m10:mg "read_web"=some (.ref f10))
  (F11:Fun K "_law_mixed" "_law_mixed" zem f11 d11) (m11:mg "_law_mixed"=some (.ref f11))
  (F12:Fun K "_law_whole" "_law_whole" zeD f12 d12) (m12:mg "_law_whole"=some (.ref f12))
  (F13:Fun K "_law_class" "_law_class" zen f13 d13) (m13:mg "_law_class"=some (.ref f13))
  (F14:Fun K "_law_length" "_law_length" zdR f14 d14) (m14:mg "_law_length"=some (.ref f14))
  (F15:Fun K "_law_web" "_law_web" zgj f15 d15) (m15:mg "_law_web"=some (.ref f15))
  (F16:Fun K "_law_due" "_law_due" zf5 f16 d16) (m16:mg "_law_due"=some (.ref f16))
  (F17:Fun K "_law_word_number" "_law_word_number" zck f17 d17) (m17:mg "_law_word_number"=some (.ref f17))
  (F18:Fun K "_law_first_wrong" "_law_first_wrong" zcl f18 d18) (m18:mg "_law_first_wrong"=some (.ref f18))
  (F19:Fun K "_law_text" "_law_text" zfj f19 d19) (m19:mg "_law_text"=some (.ref f19))
  (F20:Fun K "_law_bent" "_law_bent" zfB f20 d20) (m20:mg "_law_bent"=some (.ref f20))
  (F21:Fun K "_law_same" "_law_same" zfc f21 d21) (m21:mg "_law_same"=some (.ref f21))
  (F22:Fun K "_law_told" "_law_told" zfz f22 d22) (m22:mg "_law_told"=some (.ref f22))
  (F23:Fun K "law" "law" zn2 f23 d23) (m23:mg "law"=some (.ref f23))
  (z_isinstance:mg "isinstance"=none)
  (z_int:mg "int"=none)
  (z_bool:mg "bool"=none)
  (z_list:mg "list"=none)
  (z_len:mg "len"=none)
  (z_all:mg "all"=none)
  (z_range:mg "range"=none)
  (z_tuple:mg "tuple"=none)
  (z_str:mg "str"=none)
  (z_enumerate:mg "enumerate"=none)
  (z_zip:mg "zip"=none)
  (z_min:mg "min"=none)
  (z_max:mg "max"=none)
  (z_ValueError:mg "ValueError"=none)
  (ac_HideError:mg "HideError"=some (.ref c_HideError))
  (ac_NoNumber:mg "NoNumber"=some (.ref c_NoNumber))
  (ac_NoTable:mg "NoTable"=some (.ref c_NoTable))
  (ac_NoBoxes:mg "NoBoxes"=some (.ref c_NoBoxes))
  (ac_NoBudget:mg "NoBudget"=some (.ref c_NoBudget))
  (ac_NoOrder:mg "NoOrder"=some (.ref c_NoOrder))
  (ac_NoWeights:mg "NoWeights"=some (.ref c_NoWeights))
  (ac_TooGreat:mg "TooGreat"=some (.ref c_TooGreat))
  (ac_NoKind:mg "NoKind"=some (.ref c_NoKind))
  (ac_NoTree:mg "NoTree"=some (.ref c_NoTree))
  (ac_NoTurns:mg "NoTurns"=some (.ref c_NoTurns))
  (ac_NoPlay:mg "NoPlay"=some (.ref c_NoPlay))
  (ac_NoRow:mg "NoRow"=some (.ref c_NoRow))
  (ac_NoName:mg "NoName"=some (.ref c_NoName))
  (ac_NoRoad:mg "NoRoad"=some (.ref c_NoRoad))
  (ac_NoWeb:mg "NoWeb"=some (.ref c_NoWeb))
  (ac_NoPlan:mg "NoPlan"=some (.ref c_NoPlan))
  (ac_NoText:mg "NoText"=some (.ref c_NoText))
  (ac_NoPaper:mg "NoPaper"=some (.ref c_NoPaper))
  {k_MOST_PLACES:PySem.Tok} (ak_MOST_PLACES:mg "MOST_PLACES"=some (.int 60 k_MOST_PLACES))
  {k_MOST_ROADS:PySem.Tok} (ak_MOST_ROADS:mg "MOST_ROADS"=some (.int 120 k_MOST_ROADS))
  {k_MOST_LENGTH:PySem.Tok} (ak_MOST_LENGTH:mg "MOST_LENGTH"=some (.int 1000000 k_MOST_LENGTH))
  {k_MOST_FIGURES:PySem.Tok} (ak_MOST_FIGURES:mg "MOST_FIGURES"=some (.int 2000 k_MOST_FIGURES))
  {k_FIGURES:PySem.Tok} (ak_FIGURES:mg "FIGURES"=some (.str "0123456789" k_FIGURES))
  (xc_HideError:PySem.W.excIn K c_HideError zf3 "ValueError.__new__"=true)
  (vsg:PySem.W.specialIn K (.ref c_HideError) "__getattribute__"=some (some (.builtin "type.__getattribute__")))
  (vrd:PySem.W.readsIn K c_HideError (.type "type")=true)
  (vfc:PySem.W.findCls K (.ref c_HideError) (.type "type") "__init__"=some (.val (.builtin "ValueError.__init__")))
  {i_NoWeb:Addr} (vin_NoWeb:PySem.W.findIn K (.ref c_NoWeb) "__init__"=some (some (.ref i_NoWeb)))
  {voc_NoWeb vkV_NoWeb vdc_NoWeb vpm_NoWeb vcd_NoWeb vct_NoWeb:Value} {vod_NoWeb van_NoWeb:Option Addr} {vsl_NoWeb:Array (Option Value)} (vl_NoWeb:K.lookup i_NoWeb=some ⟨voc_NoWeb,vod_NoWeb,.func (PySem.W.fnOf "__init__" "NoWeb.__init__" (zdl zdd) (zcr zdd) (zav zdd) .none vkV_NoWeb vdc_NoWeb vpm_NoWeb van_NoWeb vcd_NoWeb vct_NoWeb),vsl_NoWeb⟩)
  (vc_NoWeb:PySem.W.codeIn K vcd_NoWeb "NoWeb.__init__"=true)
  (vk_NoWeb:PySem.W.keepIn K (.ref i_NoWeb)=true)
  {vnm_NoWeb vq_NoWeb:Str} {vN_NoWeb:Addr} {vbs_NoWeb vbm_NoWeb:List Value} {vsn_NoWeb:List Str} {vsub_NoWeb:List Value} {vab_NoWeb:Bool} {vcol_NoWeb:Option Bool} {vdd_NoWeb:Option Addr} {v0_NoWeb v1_NoWeb v2_NoWeb v3_NoWeb v5_NoWeb:Option Value} (vlk_NoWeb:K.lookup c_NoWeb=some (excClassObj vnm_NoWeb vq_NoWeb c_NoWeb vN_NoWeb vbs_NoWeb vbm_NoWeb true vsn_NoWeb vsub_NoWeb vab_NoWeb vcol_NoWeb vdd_NoWeb v0_NoWeb v1_NoWeb v2_NoWeb v3_NoWeb v5_NoWeb "ValueError.__new__"))
  (vtl_NoWeb:PySem.W.tailIn K zf3 vbm_NoWeb=true)
  (vfn_NoWeb:PySem.W.isFn K (.ref i_NoWeb)=true)
  (vkp_NoWeb:PySem.W.keepIn K (.ref c_NoWeb)=true)
  (vmo_NoWeb:PySem.W.mroIn K c_NoWeb (.type "object")=some true)
  (vsa_NoWeb:PySem.W.findIn K (.ref c_NoWeb) "__setattr__"=some (some (.builtin "object.__setattr__")))
  (vga_NoWeb:PySem.W.findIn K (.ref c_NoWeb) "__getattribute__"=some (some (.builtin "BaseException.__getattribute__")))
  (vgn_NoWeb:PySem.W.findIn K (.ref c_NoWeb) "__getattr__"=some none)
  (vcl_NoWeb:PySem.W.findIn K (.ref c_NoWeb) "__class__"=some (some (.builtin "object.__class__")))
  (vmb_NoWeb:PySem.W.mroIn K c_NoWeb (.type "BaseException")=some true)
  (vhd_NoWeb:PySem.W.hasDictIn K c_NoWeb=true)
  (vna_NoWeb:PySem.W.findIn K (.ref c_NoWeb) "road"=some none)
  {i_NoText:Addr} (vin_NoText:PySem.W.findIn K (.ref c_NoText) "__init__"=some (some (.ref i_NoText)))
  {voc_NoText vkV_NoText vdc_NoText vpm_NoText vcd_NoText vct_NoText:Value} {vod_NoText van_NoText:Option Addr} {vsl_NoText:Array (Option Value)} (vl_NoText:K.lookup i_NoText=some ⟨voc_NoText,vod_NoText,.func (PySem.W.fnOf "__init__" "NoText.__init__" (zdl zcN) (zcr zcN) (zav zcN) .none vkV_NoText vdc_NoText vpm_NoText van_NoText vcd_NoText vct_NoText),vsl_NoText⟩)
  (vc_NoText:PySem.W.codeIn K vcd_NoText "NoText.__init__"=true)
  (vk_NoText:PySem.W.keepIn K (.ref i_NoText)=true)
  {vnm_NoText vq_NoText:Str} {vN_NoText:Addr} {vbs_NoText vbm_NoText:List Value} {vsn_NoText:List Str} {vsub_NoText:List Value} {vab_NoText:Bool} {vcol_NoText:Option Bool} {vdd_NoText:Option Addr} {v0_NoText v1_NoText v2_NoText v3_NoText v5_NoText:Option Value} (vlk_NoText:K.lookup c_NoText=some (excClassObj vnm_NoText vq_NoText c_NoText vN_NoText vbs_NoText vbm_NoText true vsn_NoText vsub_NoText vab_NoText vcol_NoText vdd_NoText v0_NoText v1_NoText v2_NoText v3_NoText v5_NoText "ValueError.__new__"))
  (vtl_NoText:PySem.W.tailIn K zf3 vbm_NoText=true)
  (vfn_NoText:PySem.W.isFn K (.ref i_NoText)=true)
  (vkp_NoText:PySem.W.keepIn K (.ref c_NoText)=true)
  (vmo_NoText:PySem.W.mroIn K c_NoText (.type "object")=some true)
  (vsa_NoText:PySem.W.findIn K (.ref c_NoText) "__setattr__"=some (some (.builtin "object.__setattr__")))
  (vga_NoText:PySem.W.findIn K (.ref c_NoText) "__getattribute__"=some (some (.builtin "BaseException.__getattribute__")))
  (vgn_NoText:PySem.W.findIn K (.ref c_NoText) "__getattr__"=some none)
  (vcl_NoText:PySem.W.findIn K (.ref c_NoText) "__class__"=some (some (.builtin "object.__class__")))
  (vmb_NoText:PySem.W.mroIn K c_NoText (.type "BaseException")=some true)
  (vhd_NoText:PySem.W.hasDictIn K c_NoText=true)
  (vna_NoText:PySem.W.findIn K (.ref c_NoText) "row"=some none)
  (su_NoWeb:PySem.W.subIn K (.ref c_NoWeb) (.ref c_NoWeb)=some true)
  (i_k_NoNumber:PySem.W.kitOne K (.ref c_NoText) (.ref c_NoNumber)=some false)
  (i_k_NoTable:PySem.W.kitOne K (.ref c_NoText) (.ref c_NoTable)=some false)
  (i_k_NoBoxes:PySem.W.kitOne K (.ref c_NoText) (.ref c_NoBoxes)=some false)
  (i_k_NoBudget:PySem.W.kitOne K (.ref c_NoText) (.ref c_NoBudget)=some false)
  (i_k_NoOrder:PySem.W.kitOne K (.ref c_NoText) (.ref c_NoOrder)=some false)
  (i_k_NoWeights:PySem.W.kitOne K (.ref c_NoText) (.ref c_NoWeights)=some false)
  (i_k_TooGreat:PySem.W.kitOne K (.ref c_NoText) (.ref c_TooGreat)=some false)
  (i_k_NoKind:PySem.W.kitOne K (.ref c_NoText) (.ref c_NoKind)=some false)
  (i_k_NoTree:PySem.W.kitOne K (.ref c_NoText) (.ref c_NoTree)=some false)
  (i_k_NoTurns:PySem.W.kitOne K (.ref c_NoText) (.ref c_NoTurns)=some false)
  (i_k_NoPlay:PySem.W.kitOne K (.ref c_NoText) (.ref c_NoPlay)=some false)
  (i_k_NoRow:PySem.W.kitOne K (.ref c_NoText) (.ref c_NoRow)=some false)
  (i_k_NoName:PySem.W.kitOne K (.ref c_NoText) (.ref c_NoName)=some false)
  (i_k_NoRoad:PySem.W.kitOne K (.ref c_NoText) (.ref c_NoRoad)=some false)
  (i_k_NoWeb:PySem.W.kitOne K (.ref c_NoText) (.ref c_NoWeb)=some false)
  (i_k_NoPlan:PySem.W.kitOne K (.ref c_NoText) (.ref c_NoPlan)=some false)
  (i_k_NoText:PySem.W.kitOne K (.ref c_NoText) (.ref c_NoText)=some true)
  (i_k_NoPaper:PySem.W.kitOne K (.ref c_NoText) (.ref c_NoPaper)=some false)
  (i_k_ValueError:PySem.W.kitOne K (.ref c_NoText) (.type "ValueError")=some true)
  (i_sub:PySem.W.subIn K (.ref c_NoText) (.ref c_HideError)=some true)
  (e_ga:PySem.W.findIn K (.ref c_NoText) "__getattribute__"=some (some (.builtin "BaseException.__getattribute__")))
  (e_gn:PySem.W.findIn K (.ref c_NoText) "__getattr__"=some none)
  (e_cl:PySem.W.findIn K (.ref c_NoText) "__class__"=some (some (.builtin "object.__class__")))
  (e_mb:PySem.W.mroIn K c_NoText (.type "BaseException")=some true)
  (e_mo:PySem.W.mroIn K c_NoText (.type "object")=some true)
  : Txm K mg ⟨f0,d0,f1,d1,f2,d2,f3,d3,f4,d4,f5,d5,f6,d6,f7,d7,f8,d8,f9,d9,f10,d10,f11,d11,f12,d12,f13,d13,f14,d14,f15,d15,f16,d16,f17,d17,f18,d18,f19,d19,f20,d20,f21,d21,f22,d22,f23,d23,c_HideError,c_NoNumber,c_NoTable,c_NoBoxes,c_NoBudget,c_NoOrder,c_NoWeights,c_TooGreat,c_NoKind,c_NoTree,c_NoTurns,c_NoPlay,c_NoRow,c_NoName,c_NoRoad,c_NoWeb,c_NoPlan,c_NoText,c_NoPaper,i_NoWeb,PySem.W.fnOf "__init__" "NoWeb.__init__" (zdl zdd) (zcr zdd) (zav zdd) .none vkV_NoWeb vdc_NoWeb vpm_NoWeb van_NoWeb vcd_NoWeb vct_NoWeb,i_NoText,PySem.W.fnOf "__init__" "NoText.__init__" (zdl zcN) (zcr zcN) (zav zcN) .none vkV_NoText vdc_NoText vpm_NoText van_NoText vcd_NoText vct_NoText,k_MOST_PLACES,k_MOST_ROADS,k_MOST_LENGTH,k_MOST_FIGURES,k_FIGURES,339,343⟩:=by
 have G0:=zbg hP F0
 have G1:=zbg hP F1
 have G2:=zbg hP F2
 have G3:=zbg hP F3
 have G4:=zbg hP F4
 have G5:=zbg hP F5
 have G6:=zbg hP F6
 have G7:=zbg hP F7
 have G8:=zbg hP F8
 have G9:=zbg hP F9
 have G10:=F10.drop hP
 have G11:=zbg hP F11
 have G12:=zbg hP F12
 have G13:=zbg hP F13
 have G14:=zbg hP F14
 have G15:=zbg hP F15
 have G16:=zbg hP F16
 have G17:=zbg hP F17
 have G18:=zbg hP F18
 have G19:=zbg hP F19
 have G20:=zbg hP F20
 have G21:=zbg hP F21
 have G22:=zbg hP F22
 have G23:=zbg hP F23
 have VF_NoWeb:=zbg hP (zce (st:=zdd) vl_NoWeb vc_NoWeb vk_NoWeb)
 have vb_NoWeb:=VF_NoWeb.binds (ps:=["self","road"]) fun _ _ _ _ _ _ us hl=>by obtain ⟨_,_,rfl⟩:=zt6 hl;rfl
 have VX_NoWeb:=(ExI.mk ⟨_,_,_,_,_,_,_,_,_,_,_,_,_,_,_,vlk_NoWeb,vtl_NoWeb⟩ vin_NoWeb vfn_NoWeb vkp_NoWeb vmo_NoWeb vsa_NoWeb).drop hP
 have VF_NoText:=zbg hP (zce (st:=zcN) vl_NoText vc_NoText vk_NoText)
 have vb_NoText:=VF_NoText.binds (ps:=["self","row"]) fun _ _ _ _ _ _ us hl=>by obtain ⟨_,_,rfl⟩:=zt6 hl;rfl
 have VX_NoText:=(ExI.mk ⟨_,_,_,_,_,_,_,_,_,_,_,_,_,_,_,vlk_NoText,vtl_NoText⟩ vin_NoText vfn_NoText vkp_NoText vmo_NoText vsa_NoText).drop hP
 refine ⟨m23,F23,rfl,fun base hC hB=>⟨G0,G0.binds fun _ _ _ _ _ _ us hl=>by obtain ⟨_,rfl⟩:=zkL hl;rfl,m0,G1,G1.binds fun _ _ _ _ _ _ us hl=>by obtain ⟨_,_,_,rfl⟩:=lst3 hl;rfl,m1,G2,G2.binds fun _ _ _ _ _ _ us hl=>by obtain ⟨_,_,rfl⟩:=zty hl;rfl,m2,G3,G3.binds fun _ _ _ _ _ _ us hl=>by obtain ⟨_,rfl⟩:=zkL hl;rfl,m3,G4,G4.binds fun _ _ _ _ _ _ us hl=>by obtain ⟨_,rfl⟩:=zkL hl;rfl,m4,G5,G5.binds fun _ _ _ _ _ _ us hl=>by obtain ⟨_,rfl⟩:=zkL hl;rfl,m5,G6,G6.binds fun _ _ _ _ _ _ us hl=>by obtain ⟨_,rfl⟩:=zkL hl;rfl,m6,G7,G7.binds fun _ _ _ _ _ _ us hl=>by obtain ⟨_,rfl⟩:=zkL hl;rfl,m7,G8,G8.binds fun _ _ _ _ _ _ us hl=>by obtain ⟨_,_,rfl⟩:=zty hl;rfl,m8,G9,G9.binds fun _ _ _ _ _ _ us hl=>by obtain ⟨_,_,rfl⟩:=zty hl;rfl,m9,G10,G10.fun.binds fun _ _ _ _ _ _ us hl=>by obtain ⟨_,rfl⟩:=zkL hl;rfl,m10,G11,G11.binds fun _ _ _ _ _ _ us hl=>by obtain ⟨_,_,rfl⟩:=zty hl;rfl,m11,G12,G12.binds fun _ _ _ _ _ _ us hl=>by obtain ⟨_,rfl⟩:=zkL hl;rfl,m12,G13,G13.binds fun _ _ _ _ _ _ us hl=>by obtain ⟨_,rfl⟩:=zkL hl;rfl,m13,G14,G14.binds fun _ _ _ _ _ _ us hl=>by obtain ⟨_,rfl⟩:=zkL hl;rfl,m14,G15,G15.binds fun _ _ _ _ _ _ us hl=>by obtain ⟨_,_,_,_,rfl⟩:=lst4 hl;rfl,m15,G16,G16.binds fun _ _ _ _ _ _ us hl=>by obtain ⟨_,rfl⟩:=zkL hl;rfl,m16,G17,G17.binds fun _ _ _ _ _ _ us hl=>by obtain ⟨_,rfl⟩:=zkL hl;rfl,m17,G18,G18.binds fun _ _ _ _ _ _ us hl=>by obtain ⟨_,rfl⟩:=zkL hl;rfl,m18,G19,G19.binds fun _ _ _ _ _ _ us hl=>by obtain ⟨_,rfl⟩:=zkL hl;rfl,m19,G20,G20.binds fun _ _ _ _ _ _ us hl=>by obtain ⟨_,_,rfl⟩:=zty hl;rfl,m20,G21,G21.binds fun _ _ _ _ _ _ us hl=>by obtain ⟨_,_,rfl⟩:=zty hl;rfl,m21,G22,G22.binds fun _ _ _ _ _ _ us hl=>by obtain ⟨_,rfl⟩:=zkL hl;rfl,m22,G23,G23.binds fun _ _ _ _ _ _ us hl=>by obtain ⟨_,rfl⟩:=zkL hl;rfl,m23,hC,hB,z_isinstance,z_int,z_bool,z_list,z_len,z_all,z_range,z_tuple,z_str,z_enumerate,z_zip,z_min,z_max,z_ValueError,ac_HideError,ac_NoNumber,ac_NoTable,ac_NoBoxes,ac_NoBudget,ac_NoOrder,ac_NoWeights,ac_TooGreat,ac_NoKind,ac_NoTree,ac_NoTurns,ac_NoPlay,ac_NoRow,ac_NoName,ac_NoRoad,ac_NoWeb,ac_NoPlan,ac_NoText,ac_NoPaper,ak_MOST_PLACES,ak_MOST_ROADS,ak_MOST_LENGTH,ak_MOST_FIGURES,ak_FIGURES,(zq3 hP _ _ _).trans xc_HideError,(ExB.mk vsg vrd vfc).drop hP,VF_NoWeb,vb_NoWeb,VX_NoWeb,(ziu.mk ⟨vga_NoWeb,vgn_NoWeb,vcl_NoWeb,vmb_NoWeb,vmo_NoWeb⟩ vhd_NoWeb vna_NoWeb).drop hP,VF_NoText,vb_NoText,VX_NoText,(ziu.mk ⟨vga_NoText,vgn_NoText,vcl_NoText,vmb_NoText,vmo_NoText⟩ vhd_NoText vna_NoText).drop hP,(zfM hP _ _).trans su_NoWeb,⟨(zbD hP _ _).trans i_k_NoNumber,(zbD hP _ _).trans i_k_NoTable,(zbD hP _ _).trans i_k_NoBoxes,(zbD hP _ _).trans i_k_NoBudget,(zbD hP _ _).trans i_k_NoOrder,(zbD hP _ _).trans i_k_NoWeights,(zbD hP _ _).trans i_k_TooGreat,(zbD hP _ _).trans i_k_NoKind,(zbD hP _ _).trans i_k_NoTree,(zbD hP _ _).trans i_k_NoTurns,(zbD hP _ _).trans i_k_NoPlay,(zbD hP _ _).trans i_k_NoRow,(zbD hP _ _).trans i_k_NoName,(zbD hP _ _).trans i_k_NoRoad,(zbD hP _ _).trans i_k_NoWeb,(zbD hP _ _).trans i_k_NoPlan,(zbD hP _ _).trans i_k_NoText,(zbD hP _ _).trans i_k_NoPaper,(zbD hP _ _).trans i_k_ValueError,(zfM hP _ _).trans i_sub,zmV ((zdb.mk e_ga e_gn e_cl e_mb e_mo).drop hP) VX_NoText⟩⟩⟩
theorem zt4 {K:PySem.W.Frag} {w:World} {mg:Str→Option Value} {fa:Addr} {P:Program} (hfa:mg "law"=some (.ref fa)) {a:Ad} (M:Txm K mg a) :
  ∃ fd:FuncData,(∀ (s:Shared) (u:Value),BindsTo s fd ⟨[u],[]⟩ [("_law_script",u)])∧∀ base:Heap,(zbI 339 K).In base→base.Ns mainGlobals mg→PySem.W.CodeHd base 343 339→base.BuiltinsAt mg 339→zdD P w (zbI 339 K) mg base CX0 9 fa fd ["_law_script"] (zpU (zbI 339 K) 339):=by
 have e:=hfa.symm.trans M.m
 cases e
 refine ⟨a.d_law,fun s v=>?_,fun base _ _ hC hB=>?_⟩
 ·obtain ⟨oc,od,kV,doc,pm,an,cdv,ct,osl,e,lk,hcd⟩:=M.F.ex
  rw [e]
  exact .of_eq rfl
 ·have h:=ztN (P:=P) (w:=w) (M.T base hC hB)
  rw [M.p] at h
  exact h
theorem walk {l:PySem.W.OpenLaw} {q:Program} {loose:List Str} {XP:(Str→Option Value)→Heap→Prop} {YP:World→Heap→Prop} {d:DefRec} {K:Params→PySem.W.Frag} (hn:l.most=some 63) (hdf:d.params.defaults=[])
  (hY:∀ (w:World) (h:Heap),YP w h→(K w.params).In h) (hPt:∀ w:World,(K w.params).lookup 339=some (PySem.W.tabObj #[])) (hC:∀ (w:World) (h:Heap),(K w.params).In h→PySem.W.CodeHd h 343 339)
  (F:∀ (w:World) (mg:Str→Option Value) (fa:Addr) (h:Heap),(K w.params).In h→h.Ns mainGlobals mg→mg d.name=some (.ref fa) →
   ∃ fd:FuncData,(∀ (s:Shared) (u:Value),BindsTo s fd ⟨[u],[]⟩ [("_law_script",u)])∧∀ base:Heap,(zbI 339 (K w.params)).In base→base.Ns mainGlobals mg→PySem.W.CodeHd base 343 339→base.BuiltinsAt mg 339→zdD l.prog w (zbI 339 (K w.params)) mg base CX0 9 fa fd ["_law_script"] (zpU (zbI 339 (K w.params)) 339)) :
  PySem.W.WalkO q loose XP YP l.row.toRowW d [] (fun f vs=>PySem.call f vs) :=
 L2.zpC (n:=63) (k:=9) (x:="_law_script") (sp:=fun w=>zpU (zbI 339 (K w.params)) 339) hn (by decide) hdf ⟨rfl,by decide,by decide⟩ hY hPt hC F fun _ _ a ns hb hl hP hS=>⟨a,ns,rfl,hS,hl,hb,.first hP,fun _=>rfl⟩
end My
open PySem PySem.W in
theorem My.walk_at {K:Params→Frag} {w:World} {h:Heap} {l:OpenLaw} {q:Program} {loose:List Str} {XP:(Str→Option Value)→Heap→Prop} {d:DefRec} {C:Prop} (_:(K w.params).In h)
  (use:WalkO q loose XP (fun w h=>(K w.params).In h) l.row.toRowW d [] (fun f vs=>PySem.call f vs)→C) (W:WalkO q loose XP (fun w h=>(K w.params).In h) l.row.toRowW d [] (fun f vs=>PySem.call f vs)):C:=use W
noncomputable section
namespace Hd
open PySem PySem.W.Fast
structure Q (α : Type) where
  a : α
  b : α
  c : α
  d : α
  e : α
  f : α
  g : α
  h : α
class X where
  s : Q (Q (Q Str))
  t : Q (Q (Q String))
  r : Q (Q (Q Obj))
  p : Program
  P : Params
def sp (p : Program) (n : Nat) : Stmt := (p.main.body.drop n).headD (.Pass ⟨0, 0, 0, 0⟩)
def st [x : X] (n : Nat) : Stmt := sp x.p n
def cb : Stmt → List Stmt
  | .ClassDef _ _ _ b .. => b
  | _ => []
def sm [x : X] (n k : Nat) : Stmt := ((cb (st n)).drop k).headD (.Pass ⟨0, 0, 0, 0⟩)
def fn (s : Stmt) (q : Str) (g : Addr) (c : List (Str × Addr)) (d k o m : Value) (a : Option Addr) (z t : Value) (b : Addr) : FuncData := match s with
  | .FunctionDef n p y _ _ _ u .. => ⟨n, q, p, .stmts y, u, g, c, d, k, o, m, a, z, t, b⟩
  | _ => default
abbrev z := W.BT.nil
def N (o : Obj) (l r : W.BT) : W.BT := .node o l r
def L (o : Obj) : W.BT := .node o .nil .nil
def e [x : X] (s : Str) (n : Nat) (v : Value) : DictEntry := ⟨PyData.keyHash x.P s, .str s n, v⟩
def vR (n : Nat) : Option Value := some (.ref n)
def vr (n : Nat) : Value := .ref n
def vO : Value := .int 0 0
def vI (n : Int) : Value := .int n 0
def vS (s : Str) (n : Tok) : Value := .str s n
def vY (s : String) : Value := .type s
def vB (s : String) : Value := .builtin s
section
variable [x : X]
def i0 := e x.s.a.a.d 165 (vS x.s.a.a.e 187)
def i1 := e x.s.a.a.f 166 .none
def i2 := e x.s.a.a.g 167 .none
def i3 := e x.s.a.a.h 168 (vB x.t.a.a.e)
def i4 := e x.s.a.b.a 169 .none
def i5 := e x.s.a.b.b 170 (vr 6)
def i6 := e x.s.a.b.c 171 (vr 4)
def i7 := e x.s.a.b.d 173 (vS x.s.a.a.b 172)
def i8 := e x.s.a.b.e 174 .none
def i9 := e x.s.a.b.f 206 (vr 24)
def i10 := e x.s.a.b.g 196 (vS x.s.a.a.e 187)
def i11 := e x.s.a.b.h 198 (vS x.s.a.b.f 197)
def i12 := e x.s.a.c.a 200 (.int 2 199)
def i13 := e x.s.a.c.b 201 (vr 22)
def i14 := e x.s.a.c.c 203 (vr 25)
def i15 := e x.s.a.a.f 204 .none
def i16 := e x.s.a.c.d 222 (vr 37)
def i17 := e x.s.a.b.g 214 (vS x.s.a.a.e 187)
def i18 := e x.s.a.b.h 216 (vS x.s.a.c.d 215)
def i19 := e x.s.a.c.a 218 (.int 4 217)
def i20 := e x.s.a.c.b 219 (vr 35)
def i21 := e x.s.a.a.f 220 .none
def i22 := e x.s.a.c.e 238 (vr 49)
def i23 := e x.s.a.b.g 230 (vS x.s.a.a.e 187)
def i24 := e x.s.a.b.h 232 (vS x.s.a.c.e 231)
def i25 := e x.s.a.c.a 234 (.int 6 233)
def i26 := e x.s.a.c.b 235 (vr 47)
def i27 := e x.s.a.a.f 236 .none
def i28 := e x.s.a.c.f 254 (vr 61)
def i29 := e x.s.a.b.g 246 (vS x.s.a.a.e 187)
def i30 := e x.s.a.b.h 248 (vS x.s.a.c.f 247)
def i31 := e x.s.a.c.a 250 (.int 8 249)
def i32 := e x.s.a.c.b 251 (vr 59)
def i33 := e x.s.a.a.f 252 .none
def i34 := e x.s.a.c.g 270 (vr 73)
def i35 := e x.s.a.b.g 262 (vS x.s.a.a.e 187)
def i36 := e x.s.a.b.h 264 (vS x.s.a.c.g 263)
def i37 := e x.s.a.c.a 266 (.int 10 265)
def i38 := e x.s.a.c.b 267 (vr 71)
def i39 := e x.s.a.a.f 268 .none
def i40 := e x.s.a.c.h 286 (vr 85)
def i41 := e x.s.a.b.g 278 (vS x.s.a.a.e 187)
def i42 := e x.s.a.b.h 280 (vS x.s.a.c.h 279)
def i43 := e x.s.a.c.a 282 (.int 12 281)
def i44 := e x.s.a.c.b 283 (vr 83)
def i45 := e x.s.a.a.f 284 .none
def i46 := e x.s.a.d.a 302 (vr 97)
def i47 := e x.s.a.b.g 294 (vS x.s.a.a.e 187)
def i48 := e x.s.a.b.h 296 (vS x.s.a.d.a 295)
def i49 := e x.s.a.c.a 298 (.int 14 297)
def i50 := e x.s.a.c.b 299 (vr 95)
def i51 := e x.s.a.a.f 300 .none
def i52 := e x.s.a.d.b 318 (vr 109)
def i53 := e x.s.a.b.g 310 (vS x.s.a.a.e 187)
def i54 := e x.s.a.b.h 312 (vS x.s.a.d.b 311)
def i55 := e x.s.a.c.a 314 (.int 16 313)
def i56 := e x.s.a.c.b 315 (vr 107)
def i57 := e x.s.a.a.f 316 .none
def i58 := e x.s.a.d.c 334 (vr 121)
def i59 := e x.s.a.b.g 326 (vS x.s.a.a.e 187)
def i60 := e x.s.a.b.h 328 (vS x.s.a.d.c 327)
def i61 := e x.s.a.c.a 330 (.int 18 329)
def i62 := e x.s.a.c.b 331 (vr 119)
def i63 := e x.s.a.a.f 332 .none
def i64 := e x.s.a.d.d 350 (vr 133)
def i65 := e x.s.a.b.g 342 (vS x.s.a.a.e 187)
def i66 := e x.s.a.b.h 344 (vS x.s.a.d.d 343)
def i67 := e x.s.a.c.a 346 (.int 20 345)
def i68 := e x.s.a.c.b 347 (vr 131)
def i69 := e x.s.a.a.f 348 .none
def i70 := e x.s.a.d.e 366 (vr 145)
def i71 := e x.s.a.b.g 358 (vS x.s.a.a.e 187)
def i72 := e x.s.a.b.h 360 (vS x.s.a.d.e 359)
def i73 := e x.s.a.c.a 362 (.int 22 361)
def i74 := e x.s.a.c.b 363 (vr 143)
def i75 := e x.s.a.a.f 364 .none
def i76 := e x.s.a.d.f 382 (vr 157)
def i77 := e x.s.a.b.g 374 (vS x.s.a.a.e 187)
def i78 := e x.s.a.b.h 376 (vS x.s.a.d.f 375)
def i79 := e x.s.a.c.a 378 (.int 24 377)
def i80 := e x.s.a.c.b 379 (vr 155)
def i81 := e x.s.a.a.f 380 .none
def i82 := e x.s.a.d.g 398 (vr 169)
def i83 := e x.s.a.b.g 390 (vS x.s.a.a.e 187)
def i84 := e x.s.a.b.h 392 (vS x.s.a.d.g 391)
def i85 := e x.s.a.c.a 394 (.int 26 393)
def i86 := e x.s.a.c.b 395 (vr 167)
def i87 := e x.s.a.a.f 396 .none
def i88 := e x.s.a.d.h 414 (vr 181)
def i89 := e x.s.a.b.g 406 (vS x.s.a.a.e 187)
def i90 := e x.s.a.b.h 408 (vS x.s.a.d.h 407)
def i91 := e x.s.a.c.a 410 (.int 28 409)
def i92 := e x.s.a.c.b 411 (vr 179)
def i93 := e x.s.a.a.f 412 .none
def i94 := e x.s.a.e.a 430 (vr 193)
def i95 := e x.s.a.b.g 422 (vS x.s.a.a.e 187)
def i96 := e x.s.a.b.h 424 (vS x.s.a.e.a 423)
def i97 := e x.s.a.c.a 426 (.int 30 425)
def i98 := e x.s.a.c.b 427 (vr 191)
def i99 := e x.s.a.a.f 428 .none
def ztw := e x.s.a.e.b 455 (vr 212)
def i101 := e x.s.a.b.g 438 (vS x.s.a.a.e 187)
def i102 := e x.s.a.b.h 440 (vS x.s.a.e.b 439)
def i103 := e x.s.a.c.a 442 (.int 32 441)
def i104 := e x.s.a.e.c 450 (vr 209)
def i105 := e x.s.a.c.b 452 (vr 210)
def i106 := e x.s.a.a.f 453 .none
def zuA := e x.s.a.e.g 480 (vr 231)
def i108 := e x.s.a.b.g 463 (vS x.s.a.a.e 187)
def i109 := e x.s.a.b.h 465 (vS x.s.a.e.g 464)
def i110 := e x.s.a.c.a 467 (.int 37 466)
def i111 := e x.s.a.e.c 475 (vr 228)
def i112 := e x.s.a.c.b 477 (vr 229)
def i113 := e x.s.a.a.f 478 .none
def i114 := e x.s.a.f.b 505 (vr 250)
def i115 := e x.s.a.b.g 488 (vS x.s.a.a.e 187)
def i116 := e x.s.a.b.h 490 (vS x.s.a.f.b 489)
def i117 := e x.s.a.c.a 492 (.int 42 491)
def i118 := e x.s.a.e.c 500 (vr 247)
def i119 := e x.s.a.c.b 502 (vr 248)
def i120 := e x.s.a.a.f 503 .none
def i121 := e x.s.a.a.d 165 (vS x.s.a.f.e 549)
def i122 := e x.s.a.f.f 530 (vr 269)
def i123 := e x.s.a.f.g 539 (vr 278)
def i124 := e x.s.a.f.h 548 (vr 285)
def i125 := e x.s.a.g.a 552 (.int 60 551)
def i126 := e x.s.a.g.b 554 (.int 120 553)
def i127 := e x.s.a.g.c 556 (.int 1000000 555)
def i128 := e x.s.a.g.d 567 (vr 292)
def i129 := e x.s.a.b.g 513 (vS x.s.a.a.e 187)
def i130 := e x.s.a.b.h 515 (vS x.s.a.f.f 514)
def i131 := e x.s.a.c.a 517 (.int 47 516)
def i132 := e x.s.a.e.c 525 (vr 266)
def i133 := e x.s.a.c.b 527 (vr 267)
def i134 := e x.s.a.a.f 528 .none
def i135 := e x.s.a.a.d 165 (vS x.s.a.h.g 649)
def i136 := e x.s.a.h.h 579 (vr 299)
def i137 := e x.s.b.a.a 590 (vr 306)
def i138 := e x.s.b.a.b 594 (vS x.s.b.a.c 593)
def i139 := e x.s.b.a.d 596 (.int 2000 595)
def i140 := e x.s.b.a.e 602 (vr 311)
def i141 := e x.s.b.a.f 608 (vr 316)
def i142 := e x.s.b.a.g 616 (vr 323)
def i143 := e x.s.b.a.h 626 (vr 330)
def i144 := e x.s.b.b.a 639 (vr 337)
def i145 := e x.s.b.b.b 648 (vr 344)
def i146 := e x.s.b.b.c 662 (vr 351)
def i147 := e x.s.b.b.d 669 (vr 358)
def i148 := e x.s.b.b.e 677 (vr 365)
def i149 := e x.s.b.e.b 685 (vr 372)
def i150 := e x.s.b.e.c 707 (vr 379)
def i151 := e x.s.b.e.d 722 (vr 386)
def i152 := e x.s.b.e.e 728 (vr 391)
def i153 := e x.s.b.e.f 734 (vr 396)
def i154 := e x.s.b.e.g 745 (vr 403)
def i155 := e x.s.b.e.h 761 (vr 410)
def i156 := e x.s.b.f.a 771 (vr 417)
def i157 := e x.s.b.f.b 781 (vr 424)
def i158 := e x.s.b.f.c 787 (vr 429)
def zad : Obj := ⟨(vY x.t.a.a.a), none, (.seq #[] 0), #[]⟩
def zau : Obj := ⟨.none, none, (.fields #[]), #[]⟩
def zgU : Obj := ⟨(vY x.t.a.a.b), none, (.fields #[(vS x.s.a.a.a 182), (vS x.s.a.a.a 183), (vS x.s.a.a.b 184), (vI 1), vO, vO, vO, vO, (vr 11), (.bool false), (vI 181), (vr 12), .none, .none, .none, .none, (vI 185), (vI 1), (vS x.s.a.a.b 186)]), #[]⟩
def zgO : Obj := ⟨(vY x.t.a.a.c), none, .plain, #[(vR 13), (vR 3), (vR 3), none, (some (vS x.s.a.a.c 164)), none, (vR 0)]⟩
def b749 : Obj := ⟨(vY x.t.a.a.d), none, (.dict #[i0, i1, i2, i3, i4, i5, i6, i7, i8, i9] 10), #[]⟩
def b750 : Obj := ⟨.none, none, (.fields #[(vI 2), vO, (vr 20)]), #[]⟩
def zhC : Obj := ⟨(vY x.t.a.a.a), none, (.seq #[(vY x.t.a.a.f)] 0), #[]⟩
def zaz : Obj := ⟨(vY x.t.a.a.g), none, (.fields #[(vB x.t.a.a.h), (vY x.t.a.b.a)]), #[]⟩
def zhB : Obj := ⟨(vY x.t.a.a.d), none, (.dict #[i10, i11, i12, i13] 4), #[]⟩
def zhA : Obj := ⟨(vY x.t.a.a.b), none, (.fields #[(vS x.s.a.b.f 191), (vS x.s.a.b.f 192), (vS x.s.a.a.b 193), (vI 2), vO, vO, vO, vO, (vr 18), (.bool false), (vI 181), (vr 19), .none, .none, .none, .none, (vI 194), (vI 2), (vS x.s.a.a.b 195)]), #[]⟩
def zhD : Obj := ⟨(vY x.t.a.a.c), none, .plain, #[(vR 20), (vR 3), (vR 17), none, (some (vS x.s.a.a.e 187)), none, (vR 0)]⟩
def zhG : Obj := ⟨(vY x.t.a.a.d), none, (.dict #[i10, i12, i13, i14, i15] 3), #[]⟩
def b760 : Obj := ⟨(vY x.t.a.b.a), none, (.cls ⟨x.s.a.b.f, [(vY x.t.a.a.f)], [(vr 24), (vY x.t.a.a.f), (vY x.t.a.b.b), (vY x.t.a.b.c), (vY x.t.a.b.d)], 23, x.s.a.b.f, true, [], [], false, none, false⟩), #[(vR 15), none, (some (vS x.s.a.b.f 189)), (some (vS x.s.a.b.f 197)), (some (vB x.t.a.b.e)), (some (.bool true))]⟩
def zhE : Obj := ⟨(vY x.t.a.b.f), none, (.fields #[(vS x.s.a.c.c 202), (vr 24), (vB x.t.a.b.g), .none]), #[]⟩
def zhH : Obj := ⟨(vY x.t.a.b.h), none, (.fields #[(vr 24), (vr 24), (vr 24)]), #[]⟩
def zhF : Obj := ⟨(vY x.t.a.a.g), none, (.fields #[(vB x.t.a.c.a), (vr 24)]), #[]⟩
def b764 : Obj := ⟨(vY x.t.a.a.d), none, (.dict #[i0, i1, i2, i3, i4, i5, i6, i7, i8, i9, i16] 11), #[]⟩
def b765 : Obj := ⟨.none, none, (.fields #[(vI 2), vO, (vr 20), (vI 4), vO, (vr 33)]), #[]⟩
def b766 : Obj := ⟨(vY x.t.a.b.a), none, (.cls ⟨x.s.a.b.f, [(vY x.t.a.a.f)], [(vr 24), (vY x.t.a.a.f), (vY x.t.a.b.b), (vY x.t.a.b.c), (vY x.t.a.b.d)], 23, x.s.a.b.f, true, [], [(vr 37)], false, none, false⟩), #[(vR 15), none, (some (vS x.s.a.b.f 189)), (some (vS x.s.a.b.f 197)), (some (vB x.t.a.b.e)), (some (.bool true))]⟩
def zaD : Obj := ⟨(vY x.t.a.a.a), none, (.seq #[(vr 24)] 0), #[]⟩
def zhP : Obj := ⟨(vY x.t.a.a.d), none, (.dict #[i17, i18, i19, i20] 4), #[]⟩
def zhT : Obj := ⟨(vY x.t.a.a.b), none, (.fields #[(vS x.s.a.c.d 209), (vS x.s.a.c.d 210), (vS x.s.a.a.b 211), (vI 4), vO, vO, vO, vO, (vr 31), (.bool false), (vI 181), (vr 32), .none, .none, .none, .none, (vI 212), (vI 4), (vS x.s.a.a.b 213)]), #[]⟩
def zhK : Obj := ⟨(vY x.t.a.a.c), none, .plain, #[(vR 33), (vR 3), (vR 30), none, (some (vS x.s.a.a.e 187)), none, (vR 0)]⟩
def zhV : Obj := ⟨(vY x.t.a.a.d), none, (.dict #[i17, i19, i20, i21] 2), #[]⟩
def zhJ : Obj := ⟨(vY x.t.a.b.a), none, (.cls ⟨x.s.a.c.d, [(vr 24)], [(vr 37), (vr 24), (vY x.t.a.a.f), (vY x.t.a.b.b), (vY x.t.a.b.c), (vY x.t.a.b.d)], 36, x.s.a.c.d, true, [], [], false, none, false⟩), #[(vR 28), none, (some (vS x.s.a.c.d 207)), (some (vS x.s.a.c.d 215)), (some (vB x.t.a.b.e)), (some (.bool true))]⟩
def zhR : Obj := ⟨(vY x.t.a.b.h), none, (.fields #[(vr 37), (vr 37), (vr 37)]), #[]⟩
def zhU : Obj := ⟨(vY x.t.a.a.g), none, (.fields #[(vB x.t.a.c.a), (vr 37)]), #[]⟩
def b779 : Obj := ⟨(vY x.t.a.a.d), none, (.dict #[i0, i1, i2, i3, i4, i5, i6, i7, i8, i9, i16, i22] 12), #[]⟩
def b780 : Obj := ⟨.none, none, (.fields #[(vI 2), vO, (vr 20), (vI 4), vO, (vr 33), (vI 6), vO, (vr 45)]), #[]⟩
def b781 : Obj := ⟨(vY x.t.a.b.a), none, (.cls ⟨x.s.a.b.f, [(vY x.t.a.a.f)], [(vr 24), (vY x.t.a.a.f), (vY x.t.a.b.b), (vY x.t.a.b.c), (vY x.t.a.b.d)], 23, x.s.a.b.f, true, [], [(vr 37), (vr 49)], false, none, false⟩), #[(vR 15), none, (some (vS x.s.a.b.f 189)), (some (vS x.s.a.b.f 197)), (some (vB x.t.a.b.e)), (some (.bool true))]⟩
def zh6 : Obj := ⟨(vY x.t.a.a.d), none, (.dict #[i23, i24, i25, i26] 4), #[]⟩
def zh5 : Obj := ⟨(vY x.t.a.a.b), none, (.fields #[(vS x.s.a.c.e 225), (vS x.s.a.c.e 226), (vS x.s.a.a.b 227), (vI 6), vO, vO, vO, vO, (vr 43), (.bool false), (vI 181), (vr 44), .none, .none, .none, .none, (vI 228), (vI 6), (vS x.s.a.a.b 229)]), #[]⟩
def zh8 : Obj := ⟨(vY x.t.a.a.c), none, .plain, #[(vR 45), (vR 3), (vR 42), none, (some (vS x.s.a.a.e 187)), none, (vR 0)]⟩
def zid : Obj := ⟨(vY x.t.a.a.d), none, (.dict #[i23, i25, i26, i27] 2), #[]⟩
def zib : Obj := ⟨(vY x.t.a.b.a), none, (.cls ⟨x.s.a.c.e, [(vr 24)], [(vr 49), (vr 24), (vY x.t.a.a.f), (vY x.t.a.b.b), (vY x.t.a.b.c), (vY x.t.a.b.d)], 48, x.s.a.c.e, true, [], [], false, none, false⟩), #[(vR 40), none, (some (vS x.s.a.c.e 223)), (some (vS x.s.a.c.e 231)), (some (vB x.t.a.b.e)), (some (.bool true))]⟩
def zh3 : Obj := ⟨(vY x.t.a.b.h), none, (.fields #[(vr 49), (vr 49), (vr 49)]), #[]⟩
def zhY : Obj := ⟨(vY x.t.a.a.g), none, (.fields #[(vB x.t.a.c.a), (vr 49)]), #[]⟩
def b794 : Obj := ⟨(vY x.t.a.a.d), none, (.dict #[i0, i1, i2, i3, i4, i5, i6, i7, i8, i9, i16, i22, i28] 13), #[]⟩
def b795 : Obj := ⟨.none, none, (.fields #[(vI 2), vO, (vr 20), (vI 4), vO, (vr 33), (vI 6), vO, (vr 45), (vI 8), vO, (vr 57)]), #[]⟩
def b796 : Obj := ⟨(vY x.t.a.b.a), none, (.cls ⟨x.s.a.b.f, [(vY x.t.a.a.f)], [(vr 24), (vY x.t.a.a.f), (vY x.t.a.b.b), (vY x.t.a.b.c), (vY x.t.a.b.d)], 23, x.s.a.b.f, true, [], [(vr 37), (vr 49), (vr 61)], false, none, false⟩), #[(vR 15), none, (some (vS x.s.a.b.f 189)), (some (vS x.s.a.b.f 197)), (some (vB x.t.a.b.e)), (some (.bool true))]⟩
def ziX : Obj := ⟨(vY x.t.a.a.d), none, (.dict #[i29, i30, i31, i32] 4), #[]⟩
def ziI : Obj := ⟨(vY x.t.a.a.b), none, (.fields #[(vS x.s.a.c.f 241), (vS x.s.a.c.f 242), (vS x.s.a.a.b 243), (vI 8), vO, vO, vO, vO, (vr 55), (.bool false), (vI 181), (vr 56), .none, .none, .none, .none, (vI 244), (vI 8), (vS x.s.a.a.b 245)]), #[]⟩
def ziK : Obj := ⟨(vY x.t.a.a.c), none, .plain, #[(vR 57), (vR 3), (vR 54), none, (some (vS x.s.a.a.e 187)), none, (vR 0)]⟩
def ziJ : Obj := ⟨(vY x.t.a.a.d), none, (.dict #[i29, i31, i32, i33] 2), #[]⟩
def zix : Obj := ⟨(vY x.t.a.b.a), none, (.cls ⟨x.s.a.c.f, [(vr 24)], [(vr 61), (vr 24), (vY x.t.a.a.f), (vY x.t.a.b.b), (vY x.t.a.b.c), (vY x.t.a.b.d)], 60, x.s.a.c.f, true, [], [], false, none, false⟩), #[(vR 52), none, (some (vS x.s.a.c.f 239)), (some (vS x.s.a.c.f 247)), (some (vB x.t.a.b.e)), (some (.bool true))]⟩
def ziw : Obj := ⟨(vY x.t.a.b.h), none, (.fields #[(vr 61), (vr 61), (vr 61)]), #[]⟩
def ziM : Obj := ⟨(vY x.t.a.a.g), none, (.fields #[(vB x.t.a.c.a), (vr 61)]), #[]⟩
def b809 : Obj := ⟨(vY x.t.a.a.d), none, (.dict #[i0, i1, i2, i3, i4, i5, i6, i7, i8, i9, i16, i22, i28, i34] 14), #[]⟩
def b810 : Obj := ⟨.none, none, (.fields #[(vI 2), vO, (vr 20), (vI 4), vO, (vr 33), (vI 6), vO, (vr 45), (vI 8), vO, (vr 57), (vI 10), vO, (vr 69)]), #[]⟩
def b811 : Obj := ⟨(vY x.t.a.b.a), none, (.cls ⟨x.s.a.b.f, [(vY x.t.a.a.f)], [(vr 24), (vY x.t.a.a.f), (vY x.t.a.b.b), (vY x.t.a.b.c), (vY x.t.a.b.d)], 23, x.s.a.b.f, true, [], [(vr 37), (vr 49), (vr 61), (vr 73)], false, none, false⟩), #[(vR 15), none, (some (vS x.s.a.b.f 189)), (some (vS x.s.a.b.f 197)), (some (vB x.t.a.b.e)), (some (.bool true))]⟩
def zjj : Obj := ⟨(vY x.t.a.a.d), none, (.dict #[i35, i36, i37, i38] 4), #[]⟩
def zjq : Obj := ⟨(vY x.t.a.a.b), none, (.fields #[(vS x.s.a.c.g 257), (vS x.s.a.c.g 258), (vS x.s.a.a.b 259), (vI 10), vO, vO, vO, vO, (vr 67), (.bool false), (vI 181), (vr 68), .none, .none, .none, .none, (vI 260), (vI 10), (vS x.s.a.a.b 261)]), #[]⟩
def zjn : Obj := ⟨(vY x.t.a.a.c), none, .plain, #[(vR 69), (vR 3), (vR 66), none, (some (vS x.s.a.a.e 187)), none, (vR 0)]⟩
def zjl : Obj := ⟨(vY x.t.a.a.d), none, (.dict #[i35, i37, i38, i39] 2), #[]⟩
def zjo : Obj := ⟨(vY x.t.a.b.a), none, (.cls ⟨x.s.a.c.g, [(vr 24)], [(vr 73), (vr 24), (vY x.t.a.a.f), (vY x.t.a.b.b), (vY x.t.a.b.c), (vY x.t.a.b.d)], 72, x.s.a.c.g, true, [], [], false, none, false⟩), #[(vR 64), none, (some (vS x.s.a.c.g 255)), (some (vS x.s.a.c.g 263)), (some (vB x.t.a.b.e)), (some (.bool true))]⟩
def zjm : Obj := ⟨(vY x.t.a.b.h), none, (.fields #[(vr 73), (vr 73), (vr 73)]), #[]⟩
def zjp : Obj := ⟨(vY x.t.a.a.g), none, (.fields #[(vB x.t.a.c.a), (vr 73)]), #[]⟩
def b824 : Obj := ⟨(vY x.t.a.a.d), none, (.dict #[i0, i1, i2, i3, i4, i5, i6, i7, i8, i9, i16, i22, i28, i34, i40] 15), #[]⟩
def b825 : Obj := ⟨.none, none, (.fields #[(vI 2), vO, (vr 20), (vI 4), vO, (vr 33), (vI 6), vO, (vr 45), (vI 8), vO, (vr 57), (vI 10), vO, (vr 69), (vI 12), vO, (vr 81)]), #[]⟩
def b826 : Obj := ⟨(vY x.t.a.b.a), none, (.cls ⟨x.s.a.b.f, [(vY x.t.a.a.f)], [(vr 24), (vY x.t.a.a.f), (vY x.t.a.b.b), (vY x.t.a.b.c), (vY x.t.a.b.d)], 23, x.s.a.b.f, true, [], [(vr 37), (vr 49), (vr 61), (vr 73), (vr 85)], false, none, false⟩), #[(vR 15), none, (some (vS x.s.a.b.f 189)), (some (vS x.s.a.b.f 197)), (some (vB x.t.a.b.e)), (some (.bool true))]⟩
def zj9 : Obj := ⟨(vY x.t.a.a.d), none, (.dict #[i41, i42, i43, i44] 4), #[]⟩
def zkC : Obj := ⟨(vY x.t.a.a.b), none, (.fields #[(vS x.s.a.c.h 273), (vS x.s.a.c.h 274), (vS x.s.a.a.b 275), (vI 12), vO, vO, vO, vO, (vr 79), (.bool false), (vI 181), (vr 80), .none, .none, .none, .none, (vI 276), (vI 12), (vS x.s.a.a.b 277)]), #[]⟩
def zkh : Obj := ⟨(vY x.t.a.a.c), none, .plain, #[(vR 81), (vR 3), (vR 78), none, (some (vS x.s.a.a.e 187)), none, (vR 0)]⟩
def zjH : Obj := ⟨(vY x.t.a.a.d), none, (.dict #[i41, i43, i44, i45] 2), #[]⟩
def zks : Obj := ⟨(vY x.t.a.b.a), none, (.cls ⟨x.s.a.c.h, [(vr 24)], [(vr 85), (vr 24), (vY x.t.a.a.f), (vY x.t.a.b.b), (vY x.t.a.b.c), (vY x.t.a.b.d)], 84, x.s.a.c.h, true, [], [], false, none, false⟩), #[(vR 76), none, (some (vS x.s.a.c.h 271)), (some (vS x.s.a.c.h 279)), (some (vB x.t.a.b.e)), (some (.bool true))]⟩
def zkH : Obj := ⟨(vY x.t.a.b.h), none, (.fields #[(vr 85), (vr 85), (vr 85)]), #[]⟩
def zjS : Obj := ⟨(vY x.t.a.a.g), none, (.fields #[(vB x.t.a.c.a), (vr 85)]), #[]⟩
def b839 : Obj := ⟨(vY x.t.a.a.d), none, (.dict #[i0, i1, i2, i3, i4, i5, i6, i7, i8, i9, i16, i22, i28, i34, i40, i46] 16), #[]⟩
def b840 : Obj := ⟨.none, none, (.fields #[(vI 2), vO, (vr 20), (vI 4), vO, (vr 33), (vI 6), vO, (vr 45), (vI 8), vO, (vr 57), (vI 10), vO, (vr 69), (vI 12), vO, (vr 81), (vI 14), vO, (vr 93)]), #[]⟩
def b841 : Obj := ⟨(vY x.t.a.b.a), none, (.cls ⟨x.s.a.b.f, [(vY x.t.a.a.f)], [(vr 24), (vY x.t.a.a.f), (vY x.t.a.b.b), (vY x.t.a.b.c), (vY x.t.a.b.d)], 23, x.s.a.b.f, true, [], [(vr 37), (vr 49), (vr 61), (vr 73), (vr 85), (vr 97)], false, none, false⟩), #[(vR 15), none, (some (vS x.s.a.b.f 189)), (some (vS x.s.a.b.f 197)), (some (vB x.t.a.b.e)), (some (.bool true))]⟩
def zkP : Obj := ⟨(vY x.t.a.a.d), none, (.dict #[i47, i48, i49, i50] 4), #[]⟩
def zkK : Obj := ⟨(vY x.t.a.a.b), none, (.fields #[(vS x.s.a.d.a 289), (vS x.s.a.d.a 290), (vS x.s.a.a.b 291), (vI 14), vO, vO, vO, vO, (vr 91), (.bool false), (vI 181), (vr 92), .none, .none, .none, .none, (vI 292), (vI 14), (vS x.s.a.a.b 293)]), #[]⟩
def zkM : Obj := ⟨(vY x.t.a.a.c), none, .plain, #[(vR 93), (vR 3), (vR 90), none, (some (vS x.s.a.a.e 187)), none, (vR 0)]⟩
def zkJ : Obj := ⟨(vY x.t.a.a.d), none, (.dict #[i47, i49, i50, i51] 2), #[]⟩
def zkI : Obj := ⟨(vY x.t.a.b.a), none, (.cls ⟨x.s.a.d.a, [(vr 24)], [(vr 97), (vr 24), (vY x.t.a.a.f), (vY x.t.a.b.b), (vY x.t.a.b.c), (vY x.t.a.b.d)], 96, x.s.a.d.a, true, [], [], false, none, false⟩), #[(vR 88), none, (some (vS x.s.a.d.a 287)), (some (vS x.s.a.d.a 295)), (some (vB x.t.a.b.e)), (some (.bool true))]⟩
def zkS : Obj := ⟨(vY x.t.a.b.h), none, (.fields #[(vr 97), (vr 97), (vr 97)]), #[]⟩
def zkN : Obj := ⟨(vY x.t.a.a.g), none, (.fields #[(vB x.t.a.c.a), (vr 97)]), #[]⟩
def b854 : Obj := ⟨(vY x.t.a.a.d), none, (.dict #[i0, i1, i2, i3, i4, i5, i6, i7, i8, i9, i16, i22, i28, i34, i40, i46, i52] 17), #[]⟩
def b855 : Obj := ⟨.none, none, (.fields #[(vI 2), vO, (vr 20), (vI 4), vO, (vr 33), (vI 6), vO, (vr 45), (vI 8), vO, (vr 57), (vI 10), vO, (vr 69), (vI 12), vO, (vr 81), (vI 14), vO, (vr 93), (vI 16), vO, (vr 105)]), #[]⟩
def b856 : Obj := ⟨(vY x.t.a.b.a), none, (.cls ⟨x.s.a.b.f, [(vY x.t.a.a.f)], [(vr 24), (vY x.t.a.a.f), (vY x.t.a.b.b), (vY x.t.a.b.c), (vY x.t.a.b.d)], 23, x.s.a.b.f, true, [], [(vr 37), (vr 49), (vr 61), (vr 73), (vr 85), (vr 97), (vr 109)], false, none, false⟩), #[(vR 15), none, (some (vS x.s.a.b.f 189)), (some (vS x.s.a.b.f 197)), (some (vB x.t.a.b.e)), (some (.bool true))]⟩
def zlO : Obj := ⟨(vY x.t.a.a.d), none, (.dict #[i53, i54, i55, i56] 4), #[]⟩
def zkY : Obj := ⟨(vY x.t.a.a.b), none, (.fields #[(vS x.s.a.d.b 305), (vS x.s.a.d.b 306), (vS x.s.a.a.b 307), (vI 16), vO, vO, vO, vO, (vr 103), (.bool false), (vI 181), (vr 104), .none, .none, .none, .none, (vI 308), (vI 16), (vS x.s.a.a.b 309)]), #[]⟩
def zkZ : Obj := ⟨(vY x.t.a.a.c), none, .plain, #[(vR 105), (vR 3), (vR 102), none, (some (vS x.s.a.a.e 187)), none, (vR 0)]⟩
def zlB : Obj := ⟨(vY x.t.a.a.d), none, (.dict #[i53, i55, i56, i57] 2), #[]⟩
def zk5 : Obj := ⟨(vY x.t.a.b.a), none, (.cls ⟨x.s.a.d.b, [(vr 24)], [(vr 109), (vr 24), (vY x.t.a.a.f), (vY x.t.a.b.b), (vY x.t.a.b.c), (vY x.t.a.b.d)], 108, x.s.a.d.b, true, [], [], false, none, false⟩), #[(vR 100), none, (some (vS x.s.a.d.b 303)), (some (vS x.s.a.d.b 311)), (some (vB x.t.a.b.e)), (some (.bool true))]⟩
def zlr : Obj := ⟨(vY x.t.a.b.h), none, (.fields #[(vr 109), (vr 109), (vr 109)]), #[]⟩
def zk4 : Obj := ⟨(vY x.t.a.a.g), none, (.fields #[(vB x.t.a.c.a), (vr 109)]), #[]⟩
def b869 : Obj := ⟨(vY x.t.a.a.d), none, (.dict #[i0, i1, i2, i3, i4, i5, i6, i7, i8, i9, i16, i22, i28, i34, i40, i46, i52, i58] 18), #[]⟩
def b870 : Obj := ⟨.none, none, (.fields #[(vI 2), vO, (vr 20), (vI 4), vO, (vr 33), (vI 6), vO, (vr 45), (vI 8), vO, (vr 57), (vI 10), vO, (vr 69), (vI 12), vO, (vr 81), (vI 14), vO, (vr 93), (vI 16), vO, (vr 105), (vI 18), vO, (vr 117)]), #[]⟩
def b871 : Obj := ⟨(vY x.t.a.b.a), none, (.cls ⟨x.s.a.b.f, [(vY x.t.a.a.f)], [(vr 24), (vY x.t.a.a.f), (vY x.t.a.b.b), (vY x.t.a.b.c), (vY x.t.a.b.d)], 23, x.s.a.b.f, true, [], [(vr 37), (vr 49), (vr 61), (vr 73), (vr 85), (vr 97), (vr 109), (vr 121)], false, none, false⟩), #[(vR 15), none, (some (vS x.s.a.b.f 189)), (some (vS x.s.a.b.f 197)), (some (vB x.t.a.b.e)), (some (.bool true))]⟩
def zmb : Obj := ⟨(vY x.t.a.a.d), none, (.dict #[i59, i60, i61, i62] 4), #[]⟩
def zmc : Obj := ⟨(vY x.t.a.a.b), none, (.fields #[(vS x.s.a.d.c 321), (vS x.s.a.d.c 322), (vS x.s.a.a.b 323), (vI 18), vO, vO, vO, vO, (vr 115), (.bool false), (vI 181), (vr 116), .none, .none, .none, .none, (vI 324), (vI 18), (vS x.s.a.a.b 325)]), #[]⟩
def zlQ : Obj := ⟨(vY x.t.a.a.c), none, .plain, #[(vR 117), (vR 3), (vR 114), none, (some (vS x.s.a.a.e 187)), none, (vR 0)]⟩
def zmj : Obj := ⟨(vY x.t.a.a.d), none, (.dict #[i59, i61, i62, i63] 2), #[]⟩
def zmi : Obj := ⟨(vY x.t.a.b.a), none, (.cls ⟨x.s.a.d.c, [(vr 24)], [(vr 121), (vr 24), (vY x.t.a.a.f), (vY x.t.a.b.b), (vY x.t.a.b.c), (vY x.t.a.b.d)], 120, x.s.a.d.c, true, [], [], false, none, false⟩), #[(vR 112), none, (some (vS x.s.a.d.c 319)), (some (vS x.s.a.d.c 327)), (some (vB x.t.a.b.e)), (some (.bool true))]⟩
def zl4 : Obj := ⟨(vY x.t.a.b.h), none, (.fields #[(vr 121), (vr 121), (vr 121)]), #[]⟩
def zl0 : Obj := ⟨(vY x.t.a.a.g), none, (.fields #[(vB x.t.a.c.a), (vr 121)]), #[]⟩
def b884 : Obj := ⟨(vY x.t.a.a.d), none, (.dict #[i0, i1, i2, i3, i4, i5, i6, i7, i8, i9, i16, i22, i28, i34, i40, i46, i52, i58, i64] 19), #[]⟩
def b885 : Obj := ⟨.none, none, (.fields #[(vI 2), vO, (vr 20), (vI 4), vO, (vr 33), (vI 6), vO, (vr 45), (vI 8), vO, (vr 57), (vI 10), vO, (vr 69), (vI 12), vO, (vr 81), (vI 14), vO, (vr 93), (vI 16), vO, (vr 105), (vI 18), vO, (vr 117), (vI 20), vO, (vr 129)]), #[]⟩
def b886 : Obj := ⟨(vY x.t.a.b.a), none, (.cls ⟨x.s.a.b.f, [(vY x.t.a.a.f)], [(vr 24), (vY x.t.a.a.f), (vY x.t.a.b.b), (vY x.t.a.b.c), (vY x.t.a.b.d)], 23, x.s.a.b.f, true, [], [(vr 37), (vr 49), (vr 61), (vr 73), (vr 85), (vr 97), (vr 109), (vr 121), (vr 133)], false, none, false⟩), #[(vR 15), none, (some (vS x.s.a.b.f 189)), (some (vS x.s.a.b.f 197)), (some (vB x.t.a.b.e)), (some (.bool true))]⟩
def zmS : Obj := ⟨(vY x.t.a.a.d), none, (.dict #[i65, i66, i67, i68] 4), #[]⟩
def zmZ : Obj := ⟨(vY x.t.a.a.b), none, (.fields #[(vS x.s.a.d.d 337), (vS x.s.a.d.d 338), (vS x.s.a.a.b 339), (vI 20), vO, vO, vO, vO, (vr 127), (.bool false), (vI 181), (vr 128), .none, .none, .none, .none, (vI 340), (vI 20), (vS x.s.a.a.b 341)]), #[]⟩
def zmt : Obj := ⟨(vY x.t.a.a.c), none, .plain, #[(vR 129), (vR 3), (vR 126), none, (some (vS x.s.a.a.e 187)), none, (vR 0)]⟩
def zmJ : Obj := ⟨(vY x.t.a.a.d), none, (.dict #[i65, i67, i68, i69] 2), #[]⟩
def zng : Obj := ⟨(vY x.t.a.b.a), none, (.cls ⟨x.s.a.d.d, [(vr 24)], [(vr 133), (vr 24), (vY x.t.a.a.f), (vY x.t.a.b.b), (vY x.t.a.b.c), (vY x.t.a.b.d)], 132, x.s.a.d.d, true, [], [], false, none, false⟩), #[(vR 124), none, (some (vS x.s.a.d.d 335)), (some (vS x.s.a.d.d 343)), (some (vB x.t.a.b.e)), (some (.bool true))]⟩
def zmT : Obj := ⟨(vY x.t.a.b.h), none, (.fields #[(vr 133), (vr 133), (vr 133)]), #[]⟩
def znf : Obj := ⟨(vY x.t.a.a.g), none, (.fields #[(vB x.t.a.c.a), (vr 133)]), #[]⟩
def b899 : Obj := ⟨(vY x.t.a.a.d), none, (.dict #[i0, i1, i2, i3, i4, i5, i6, i7, i8, i9, i16, i22, i28, i34, i40, i46, i52, i58, i64, i70] 20), #[]⟩
def b900 : Obj := ⟨.none, none, (.fields #[(vI 2), vO, (vr 20), (vI 4), vO, (vr 33), (vI 6), vO, (vr 45), (vI 8), vO, (vr 57), (vI 10), vO, (vr 69), (vI 12), vO, (vr 81), (vI 14), vO, (vr 93), (vI 16), vO, (vr 105), (vI 18), vO, (vr 117), (vI 20), vO, (vr 129), (vI 22), vO, (vr 141)]), #[]⟩
def b901 : Obj := ⟨(vY x.t.a.b.a), none, (.cls ⟨x.s.a.b.f, [(vY x.t.a.a.f)], [(vr 24), (vY x.t.a.a.f), (vY x.t.a.b.b), (vY x.t.a.b.c), (vY x.t.a.b.d)], 23, x.s.a.b.f, true, [], [(vr 37), (vr 49), (vr 61), (vr 73), (vr 85), (vr 97), (vr 109), (vr 121), (vr 133), (vr 145)], false, none, false⟩), #[(vR 15), none, (some (vS x.s.a.b.f 189)), (some (vS x.s.a.b.f 197)), (some (vB x.t.a.b.e)), (some (.bool true))]⟩
def znm : Obj := ⟨(vY x.t.a.a.d), none, (.dict #[i71, i72, i73, i74] 4), #[]⟩
def zns : Obj := ⟨(vY x.t.a.a.b), none, (.fields #[(vS x.s.a.d.e 353), (vS x.s.a.d.e 354), (vS x.s.a.a.b 355), (vI 22), vO, vO, vO, vO, (vr 139), (.bool false), (vI 181), (vr 140), .none, .none, .none, .none, (vI 356), (vI 22), (vS x.s.a.a.b 357)]), #[]⟩
def znr : Obj := ⟨(vY x.t.a.a.c), none, .plain, #[(vR 141), (vR 3), (vR 138), none, (some (vS x.s.a.a.e 187)), none, (vR 0)]⟩
def znp : Obj := ⟨(vY x.t.a.a.d), none, (.dict #[i71, i73, i74, i75] 2), #[]⟩
def zno : Obj := ⟨(vY x.t.a.b.a), none, (.cls ⟨x.s.a.d.e, [(vr 24)], [(vr 145), (vr 24), (vY x.t.a.a.f), (vY x.t.a.b.b), (vY x.t.a.b.c), (vY x.t.a.b.d)], 144, x.s.a.d.e, true, [], [], false, none, false⟩), #[(vR 136), none, (some (vS x.s.a.d.e 351)), (some (vS x.s.a.d.e 359)), (some (vB x.t.a.b.e)), (some (.bool true))]⟩
def znt : Obj := ⟨(vY x.t.a.b.h), none, (.fields #[(vr 145), (vr 145), (vr 145)]), #[]⟩
def znn : Obj := ⟨(vY x.t.a.a.g), none, (.fields #[(vB x.t.a.c.a), (vr 145)]), #[]⟩
def b914 : Obj := ⟨(vY x.t.a.a.d), none, (.dict #[i0, i1, i2, i3, i4, i5, i6, i7, i8, i9, i16, i22, i28, i34, i40, i46, i52, i58, i64, i70, i76] 21), #[]⟩
def b915 : Obj := ⟨.none, none, (.fields #[(vI 2), vO, (vr 20), (vI 4), vO, (vr 33), (vI 6), vO, (vr 45), (vI 8), vO, (vr 57), (vI 10), vO, (vr 69), (vI 12), vO, (vr 81), (vI 14), vO, (vr 93), (vI 16), vO, (vr 105), (vI 18), vO, (vr 117), (vI 20), vO, (vr 129), (vI 22), vO, (vr 141), (vI 24), vO, (vr 153)]), #[]⟩
def b916 : Obj := ⟨(vY x.t.a.b.a), none, (.cls ⟨x.s.a.b.f, [(vY x.t.a.a.f)], [(vr 24), (vY x.t.a.a.f), (vY x.t.a.b.b), (vY x.t.a.b.c), (vY x.t.a.b.d)], 23, x.s.a.b.f, true, [], [(vr 37), (vr 49), (vr 61), (vr 73), (vr 85), (vr 97), (vr 109), (vr 121), (vr 133), (vr 145), (vr 157)], false, none, false⟩), #[(vR 15), none, (some (vS x.s.a.b.f 189)), (some (vS x.s.a.b.f 197)), (some (vB x.t.a.b.e)), (some (.bool true))]⟩
def znW : Obj := ⟨(vY x.t.a.a.d), none, (.dict #[i77, i78, i79, i80] 4), #[]⟩
def zn5 : Obj := ⟨(vY x.t.a.a.b), none, (.fields #[(vS x.s.a.d.f 369), (vS x.s.a.d.f 370), (vS x.s.a.a.b 371), (vI 24), vO, vO, vO, vO, (vr 151), (.bool false), (vI 181), (vr 152), .none, .none, .none, .none, (vI 372), (vI 24), (vS x.s.a.a.b 373)]), #[]⟩
def zoe : Obj := ⟨(vY x.t.a.a.c), none, .plain, #[(vR 153), (vR 3), (vR 150), none, (some (vS x.s.a.a.e 187)), none, (vR 0)]⟩
def znB : Obj := ⟨(vY x.t.a.a.d), none, (.dict #[i77, i79, i80, i81] 2), #[]⟩
def zn7 : Obj := ⟨(vY x.t.a.b.a), none, (.cls ⟨x.s.a.d.f, [(vr 24)], [(vr 157), (vr 24), (vY x.t.a.a.f), (vY x.t.a.b.b), (vY x.t.a.b.c), (vY x.t.a.b.d)], 156, x.s.a.d.f, true, [], [], false, none, false⟩), #[(vR 148), none, (some (vS x.s.a.d.f 367)), (some (vS x.s.a.d.f 375)), (some (vB x.t.a.b.e)), (some (.bool true))]⟩
def znK : Obj := ⟨(vY x.t.a.b.h), none, (.fields #[(vr 157), (vr 157), (vr 157)]), #[]⟩
def zpb : Obj := ⟨(vY x.t.a.a.g), none, (.fields #[(vB x.t.a.c.a), (vr 157)]), #[]⟩
def b929 : Obj := ⟨(vY x.t.a.a.d), none, (.dict #[i0, i1, i2, i3, i4, i5, i6, i7, i8, i9, i16, i22, i28, i34, i40, i46, i52, i58, i64, i70, i76, i82] 22), #[]⟩
def b930 : Obj := ⟨.none, none, (.fields #[(vI 2), vO, (vr 20), (vI 4), vO, (vr 33), (vI 6), vO, (vr 45), (vI 8), vO, (vr 57), (vI 10), vO, (vr 69), (vI 12), vO, (vr 81), (vI 14), vO, (vr 93), (vI 16), vO, (vr 105), (vI 18), vO, (vr 117), (vI 20), vO, (vr 129), (vI 22), vO, (vr 141), (vI 24), vO, (vr 153), (vI 26), vO, (vr 165)]), #[]⟩
def b931 : Obj := ⟨(vY x.t.a.b.a), none, (.cls ⟨x.s.a.b.f, [(vY x.t.a.a.f)], [(vr 24), (vY x.t.a.a.f), (vY x.t.a.b.b), (vY x.t.a.b.c), (vY x.t.a.b.d)], 23, x.s.a.b.f, true, [], [(vr 37), (vr 49), (vr 61), (vr 73), (vr 85), (vr 97), (vr 109), (vr 121), (vr 133), (vr 145), (vr 157), (vr 169)], false, none, false⟩), #[(vR 15), none, (some (vS x.s.a.b.f 189)), (some (vS x.s.a.b.f 197)), (some (vB x.t.a.b.e)), (some (.bool true))]⟩
def zpm : Obj := ⟨(vY x.t.a.a.d), none, (.dict #[i83, i84, i85, i86] 4), #[]⟩
def zpe : Obj := ⟨(vY x.t.a.a.b), none, (.fields #[(vS x.s.a.d.g 385), (vS x.s.a.d.g 386), (vS x.s.a.a.b 387), (vI 26), vO, vO, vO, vO, (vr 163), (.bool false), (vI 181), (vr 164), .none, .none, .none, .none, (vI 388), (vI 26), (vS x.s.a.a.b 389)]), #[]⟩
def zpk : Obj := ⟨(vY x.t.a.a.c), none, .plain, #[(vR 165), (vR 3), (vR 162), none, (some (vS x.s.a.a.e 187)), none, (vR 0)]⟩
def zpg : Obj := ⟨(vY x.t.a.a.d), none, (.dict #[i83, i85, i86, i87] 2), #[]⟩
def zpd : Obj := ⟨(vY x.t.a.b.a), none, (.cls ⟨x.s.a.d.g, [(vr 24)], [(vr 169), (vr 24), (vY x.t.a.a.f), (vY x.t.a.b.b), (vY x.t.a.b.c), (vY x.t.a.b.d)], 168, x.s.a.d.g, true, [], [], false, none, false⟩), #[(vR 160), none, (some (vS x.s.a.d.g 383)), (some (vS x.s.a.d.g 391)), (some (vB x.t.a.b.e)), (some (.bool true))]⟩
def zpj : Obj := ⟨(vY x.t.a.b.h), none, (.fields #[(vr 169), (vr 169), (vr 169)]), #[]⟩
def zpi : Obj := ⟨(vY x.t.a.a.g), none, (.fields #[(vB x.t.a.c.a), (vr 169)]), #[]⟩
def b944 : Obj := ⟨(vY x.t.a.a.d), none, (.dict #[i0, i1, i2, i3, i4, i5, i6, i7, i8, i9, i16, i22, i28, i34, i40, i46, i52, i58, i64, i70, i76, i82, i88] 23), #[]⟩
def b945 : Obj := ⟨.none, none, (.fields #[(vI 2), vO, (vr 20), (vI 4), vO, (vr 33), (vI 6), vO, (vr 45), (vI 8), vO, (vr 57), (vI 10), vO, (vr 69), (vI 12), vO, (vr 81), (vI 14), vO, (vr 93), (vI 16), vO, (vr 105), (vI 18), vO, (vr 117), (vI 20), vO, (vr 129), (vI 22), vO, (vr 141), (vI 24), vO, (vr 153), (vI 26), vO, (vr 165), (vI 28), vO, (vr 177)]), #[]⟩
def b946 : Obj := ⟨(vY x.t.a.b.a), none, (.cls ⟨x.s.a.b.f, [(vY x.t.a.a.f)], [(vr 24), (vY x.t.a.a.f), (vY x.t.a.b.b), (vY x.t.a.b.c), (vY x.t.a.b.d)], 23, x.s.a.b.f, true, [], [(vr 37), (vr 49), (vr 61), (vr 73), (vr 85), (vr 97), (vr 109), (vr 121), (vr 133), (vr 145), (vr 157), (vr 169), (vr 181)], false, none, false⟩), #[(vR 15), none, (some (vS x.s.a.b.f 189)), (some (vS x.s.a.b.f 197)), (some (vB x.t.a.b.e)), (some (.bool true))]⟩
def zqR : Obj := ⟨(vY x.t.a.a.d), none, (.dict #[i89, i90, i91, i92] 4), #[]⟩
def zql : Obj := ⟨(vY x.t.a.a.b), none, (.fields #[(vS x.s.a.d.h 401), (vS x.s.a.d.h 402), (vS x.s.a.a.b 403), (vI 28), vO, vO, vO, vO, (vr 175), (.bool false), (vI 181), (vr 176), .none, .none, .none, .none, (vI 404), (vI 28), (vS x.s.a.a.b 405)]), #[]⟩
def zpT : Obj := ⟨(vY x.t.a.a.c), none, .plain, #[(vR 177), (vR 3), (vR 174), none, (some (vS x.s.a.a.e 187)), none, (vR 0)]⟩
def zpz : Obj := ⟨(vY x.t.a.a.d), none, (.dict #[i89, i91, i92, i93] 2), #[]⟩
def zpK : Obj := ⟨(vY x.t.a.b.a), none, (.cls ⟨x.s.a.d.h, [(vr 24)], [(vr 181), (vr 24), (vY x.t.a.a.f), (vY x.t.a.b.b), (vY x.t.a.b.c), (vY x.t.a.b.d)], 180, x.s.a.d.h, true, [], [], false, none, false⟩), #[(vR 172), none, (some (vS x.s.a.d.h 399)), (some (vS x.s.a.d.h 407)), (some (vB x.t.a.b.e)), (some (.bool true))]⟩
def zqH : Obj := ⟨(vY x.t.a.b.h), none, (.fields #[(vr 181), (vr 181), (vr 181)]), #[]⟩
def zpH : Obj := ⟨(vY x.t.a.a.g), none, (.fields #[(vB x.t.a.c.a), (vr 181)]), #[]⟩
def b959 : Obj := ⟨(vY x.t.a.a.d), none, (.dict #[i0, i1, i2, i3, i4, i5, i6, i7, i8, i9, i16, i22, i28, i34, i40, i46, i52, i58, i64, i70, i76, i82, i88, i94] 24), #[]⟩
def b960 : Obj := ⟨.none, none, (.fields #[(vI 2), vO, (vr 20), (vI 4), vO, (vr 33), (vI 6), vO, (vr 45), (vI 8), vO, (vr 57), (vI 10), vO, (vr 69), (vI 12), vO, (vr 81), (vI 14), vO, (vr 93), (vI 16), vO, (vr 105), (vI 18), vO, (vr 117), (vI 20), vO, (vr 129), (vI 22), vO, (vr 141), (vI 24), vO, (vr 153), (vI 26), vO, (vr 165), (vI 28), vO, (vr 177), (vI 30), vO, (vr 189)]), #[]⟩
def b961 : Obj := ⟨(vY x.t.a.b.a), none, (.cls ⟨x.s.a.b.f, [(vY x.t.a.a.f)], [(vr 24), (vY x.t.a.a.f), (vY x.t.a.b.b), (vY x.t.a.b.c), (vY x.t.a.b.d)], 23, x.s.a.b.f, true, [], [(vr 37), (vr 49), (vr 61), (vr 73), (vr 85), (vr 97), (vr 109), (vr 121), (vr 133), (vr 145), (vr 157), (vr 169), (vr 181), (vr 193)], false, none, false⟩), #[(vR 15), none, (some (vS x.s.a.b.f 189)), (some (vS x.s.a.b.f 197)), (some (vB x.t.a.b.e)), (some (.bool true))]⟩
def zro : Obj := ⟨(vY x.t.a.a.d), none, (.dict #[i95, i96, i97, i98] 4), #[]⟩
def zre : Obj := ⟨(vY x.t.a.a.b), none, (.fields #[(vS x.s.a.e.a 417), (vS x.s.a.e.a 418), (vS x.s.a.a.b 419), (vI 30), vO, vO, vO, vO, (vr 187), (.bool false), (vI 181), (vr 188), .none, .none, .none, .none, (vI 420), (vI 30), (vS x.s.a.a.b 421)]), #[]⟩
def zq4 : Obj := ⟨(vY x.t.a.a.c), none, .plain, #[(vR 189), (vR 3), (vR 186), none, (some (vS x.s.a.a.e 187)), none, (vR 0)]⟩
def zrc : Obj := ⟨(vY x.t.a.a.d), none, (.dict #[i95, i97, i98, i99] 2), #[]⟩
def zrj : Obj := ⟨(vY x.t.a.b.a), none, (.cls ⟨x.s.a.e.a, [(vr 24)], [(vr 193), (vr 24), (vY x.t.a.a.f), (vY x.t.a.b.b), (vY x.t.a.b.c), (vY x.t.a.b.d)], 192, x.s.a.e.a, true, [], [], false, none, false⟩), #[(vR 184), none, (some (vS x.s.a.e.a 415)), (some (vS x.s.a.e.a 423)), (some (vB x.t.a.b.e)), (some (.bool true))]⟩
def zrd : Obj := ⟨(vY x.t.a.b.h), none, (.fields #[(vr 193), (vr 193), (vr 193)]), #[]⟩
def zru : Obj := ⟨(vY x.t.a.a.g), none, (.fields #[(vB x.t.a.c.a), (vr 193)]), #[]⟩
def b974 : Obj := ⟨(vY x.t.a.a.d), none, (.dict #[i0, i1, i2, i3, i4, i5, i6, i7, i8, i9, i16, i22, i28, i34, i40, i46, i52, i58, i64, i70, i76, i82, i88, i94, ztw] 25), #[]⟩
def b975 : Obj := ⟨.none, none, (.fields #[(vI 2), vO, (vr 20), (vI 4), vO, (vr 33), (vI 6), vO, (vr 45), (vI 8), vO, (vr 57), (vI 10), vO, (vr 69), (vI 12), vO, (vr 81), (vI 14), vO, (vr 93), (vI 16), vO, (vr 105), (vI 18), vO, (vr 117), (vI 20), vO, (vr 129), (vI 22), vO, (vr 141), (vI 24), vO, (vr 153), (vI 26), vO, (vr 165), (vI 28), vO, (vr 177), (vI 30), vO, (vr 189), (vI 32), vO, (vr 201)]), #[]⟩
def b976 : Obj := ⟨(vY x.t.a.b.a), none, (.cls ⟨x.s.a.b.f, [(vY x.t.a.a.f)], [(vr 24), (vY x.t.a.a.f), (vY x.t.a.b.b), (vY x.t.a.b.c), (vY x.t.a.b.d)], 23, x.s.a.b.f, true, [], [(vr 37), (vr 49), (vr 61), (vr 73), (vr 85), (vr 97), (vr 109), (vr 121), (vr 133), (vr 145), (vr 157), (vr 169), (vr 181), (vr 193), (vr 212)], false, none, false⟩), #[(vR 15), none, (some (vS x.s.a.b.f 189)), (some (vS x.s.a.b.f 197)), (some (vB x.t.a.b.e)), (some (.bool true))]⟩
def zti : Obj := ⟨(vY x.t.a.a.d), none, (.dict #[i101, i102, i103, i104, i105] 5), #[]⟩
def zsn : Obj := ⟨.none, none, (.fields #[(vI 34), (vI 4), (vr 208)]), #[]⟩
def ztl : Obj := ⟨(vY x.t.a.a.b), none, (.fields #[(vS x.s.a.e.b 433), (vS x.s.a.e.b 434), (vS x.s.a.a.b 435), (vI 32), vO, vO, vO, vO, (vr 199), (.bool false), (vI 181), (vr 200), .none, .none, .none, .none, (vI 436), (vI 32), (vS x.s.a.a.b 437)]), #[]⟩
def zsi : Obj := ⟨(vY x.t.a.a.c), none, .plain, #[(vR 201), (vR 3), (vR 198), none, (some (vS x.s.a.a.e 187)), none, (vR 0)]⟩
def zss : Obj := ⟨(vY x.t.a.a.a), none, (.seq #[(vS x.s.a.e.d 446), (vS x.s.a.e.e 447)] 0), #[]⟩
def zrz : Obj := ⟨.none, none, (.func (fn (sm 16 0) x.s.a.e.f 0 [] .none .none .none .none none .none .none 0)), #[]⟩
def zrK : Obj := ⟨(vY x.t.a.a.b), none, (.fields #[(vS x.s.a.e.c 443), (vS x.s.a.e.f 444), (vS x.s.a.a.b 445), (vI 34), (vI 2), vO, vO, (vI 3), (vr 203), (.bool true), (vI 181), (vr 204), .none, (vr 205), (vr 206), (vr 207), (vI 448), (vI 34), (vS x.s.a.a.b 449)]), #[]⟩
def zrX : Obj := ⟨(vY x.t.a.c.b), none, (.func (fn (sm 16 0) x.s.a.e.f 3 [] .none .none .none (vS x.s.a.a.e 187) none (vr 208) .none 0)), #[]⟩
def zrM : Obj := ⟨(vY x.t.a.a.a), none, (.seq #[(vS x.s.a.e.e 451)] 0), #[]⟩
def ztm : Obj := ⟨(vY x.t.a.a.d), none, (.dict #[i101, i103, i104, i105, i106] 2), #[]⟩
def zsj : Obj := ⟨(vY x.t.a.b.a), none, (.cls ⟨x.s.a.e.b, [(vr 24)], [(vr 212), (vr 24), (vY x.t.a.a.f), (vY x.t.a.b.b), (vY x.t.a.b.c), (vY x.t.a.b.d)], 211, x.s.a.e.b, true, [], [], false, none, false⟩), #[(vR 196), none, (some (vS x.s.a.e.b 431)), (some (vS x.s.a.e.b 439)), (some (vB x.t.a.b.e)), (some (.bool true))]⟩
def zsr : Obj := ⟨(vY x.t.a.b.h), none, (.fields #[(vr 212), (vr 212), (vr 212)]), #[]⟩
def zsU : Obj := ⟨(vY x.t.a.a.g), none, (.fields #[(vB x.t.a.c.a), (vr 212)]), #[]⟩
def b996 : Obj := ⟨(vY x.t.a.a.d), none, (.dict #[i0, i1, i2, i3, i4, i5, i6, i7, i8, i9, i16, i22, i28, i34, i40, i46, i52, i58, i64, i70, i76, i82, i88, i94, ztw, zuA] 26), #[]⟩
def b997 : Obj := ⟨.none, none, (.fields #[(vI 2), vO, (vr 20), (vI 4), vO, (vr 33), (vI 6), vO, (vr 45), (vI 8), vO, (vr 57), (vI 10), vO, (vr 69), (vI 12), vO, (vr 81), (vI 14), vO, (vr 93), (vI 16), vO, (vr 105), (vI 18), vO, (vr 117), (vI 20), vO, (vr 129), (vI 22), vO, (vr 141), (vI 24), vO, (vr 153), (vI 26), vO, (vr 165), (vI 28), vO, (vr 177), (vI 30), vO, (vr 189), (vI 32), vO, (vr 201), (vI 37), vO, (vr 220)]), #[]⟩
def b998 : Obj := ⟨(vY x.t.a.b.a), none, (.cls ⟨x.s.a.b.f, [(vY x.t.a.a.f)], [(vr 24), (vY x.t.a.a.f), (vY x.t.a.b.b), (vY x.t.a.b.c), (vY x.t.a.b.d)], 23, x.s.a.b.f, true, [], [(vr 37), (vr 49), (vr 61), (vr 73), (vr 85), (vr 97), (vr 109), (vr 121), (vr 133), (vr 145), (vr 157), (vr 169), (vr 181), (vr 193), (vr 212), (vr 231)], false, none, false⟩), #[(vR 15), none, (some (vS x.s.a.b.f 189)), (some (vS x.s.a.b.f 197)), (some (vB x.t.a.b.e)), (some (.bool true))]⟩
def zm6 : Obj := ⟨(vY x.t.a.a.d), none, (.dict #[i108, i109, i110, i111, i112] 5), #[]⟩
def zmN : Obj := ⟨.none, none, (.fields #[(vI 39), (vI 4), (vr 227)]), #[]⟩
def zmY : Obj := ⟨(vY x.t.a.a.b), none, (.fields #[(vS x.s.a.e.g 458), (vS x.s.a.e.g 459), (vS x.s.a.a.b 460), (vI 37), vO, vO, vO, vO, (vr 218), (.bool false), (vI 181), (vr 219), .none, .none, .none, .none, (vI 461), (vI 37), (vS x.s.a.a.b 462)]), #[]⟩
def zmG : Obj := ⟨(vY x.t.a.a.c), none, .plain, #[(vR 220), (vR 3), (vR 217), none, (some (vS x.s.a.a.e 187)), none, (vR 0)]⟩
def zmD : Obj := ⟨(vY x.t.a.a.a), none, (.seq #[(vS x.s.a.e.d 471), (vS x.s.a.e.h 472)] 0), #[]⟩
def zna : Obj := ⟨.none, none, (.func (fn (sm 17 0) x.s.a.f.a 0 [] .none .none .none .none none .none .none 0)), #[]⟩
def znc : Obj := ⟨(vY x.t.a.a.b), none, (.fields #[(vS x.s.a.e.c 468), (vS x.s.a.f.a 469), (vS x.s.a.a.b 470), (vI 39), (vI 2), vO, vO, (vI 3), (vr 222), (.bool true), (vI 181), (vr 223), .none, (vr 224), (vr 225), (vr 226), (vI 473), (vI 39), (vS x.s.a.a.b 474)]), #[]⟩
def znd : Obj := ⟨(vY x.t.a.c.b), none, (.func (fn (sm 17 0) x.s.a.f.a 3 [] .none .none .none (vS x.s.a.a.e 187) none (vr 227) .none 0)), #[]⟩
def zmO : Obj := ⟨(vY x.t.a.a.a), none, (.seq #[(vS x.s.a.e.h 476)] 0), #[]⟩
def zmp : Obj := ⟨(vY x.t.a.a.d), none, (.dict #[i108, i110, i111, i112, i113] 2), #[]⟩
def znj : Obj := ⟨(vY x.t.a.b.a), none, (.cls ⟨x.s.a.e.g, [(vr 24)], [(vr 231), (vr 24), (vY x.t.a.a.f), (vY x.t.a.b.b), (vY x.t.a.b.c), (vY x.t.a.b.d)], 230, x.s.a.e.g, true, [], [], false, none, false⟩), #[(vR 215), none, (some (vS x.s.a.e.g 456)), (some (vS x.s.a.e.g 464)), (some (vB x.t.a.b.e)), (some (.bool true))]⟩
def zmx : Obj := ⟨(vY x.t.a.b.h), none, (.fields #[(vr 231), (vr 231), (vr 231)]), #[]⟩
def zmX : Obj := ⟨(vY x.t.a.a.g), none, (.fields #[(vB x.t.a.c.a), (vr 231)]), #[]⟩
def b1018 : Obj := ⟨(vY x.t.a.a.d), none, (.dict #[i0, i1, i2, i3, i4, i5, i6, i7, i8, i9, i16, i22, i28, i34, i40, i46, i52, i58, i64, i70, i76, i82, i88, i94, ztw, zuA, i114] 27), #[]⟩
def b1019 : Obj := ⟨.none, none, (.fields #[(vI 2), vO, (vr 20), (vI 4), vO, (vr 33), (vI 6), vO, (vr 45), (vI 8), vO, (vr 57), (vI 10), vO, (vr 69), (vI 12), vO, (vr 81), (vI 14), vO, (vr 93), (vI 16), vO, (vr 105), (vI 18), vO, (vr 117), (vI 20), vO, (vr 129), (vI 22), vO, (vr 141), (vI 24), vO, (vr 153), (vI 26), vO, (vr 165), (vI 28), vO, (vr 177), (vI 30), vO, (vr 189), (vI 32), vO, (vr 201), (vI 37), vO, (vr 220), (vI 42), vO, (vr 239)]), #[]⟩
def b1020 : Obj := ⟨(vY x.t.a.b.a), none, (.cls ⟨x.s.a.b.f, [(vY x.t.a.a.f)], [(vr 24), (vY x.t.a.a.f), (vY x.t.a.b.b), (vY x.t.a.b.c), (vY x.t.a.b.d)], 23, x.s.a.b.f, true, [], [(vr 37), (vr 49), (vr 61), (vr 73), (vr 85), (vr 97), (vr 109), (vr 121), (vr 133), (vr 145), (vr 157), (vr 169), (vr 181), (vr 193), (vr 212), (vr 231), (vr 250)], false, none, false⟩), #[(vR 15), none, (some (vS x.s.a.b.f 189)), (some (vS x.s.a.b.f 197)), (some (vB x.t.a.b.e)), (some (.bool true))]⟩
def znS : Obj := ⟨(vY x.t.a.a.d), none, (.dict #[i115, i116, i117, i118, i119] 5), #[]⟩
def zn6 : Obj := ⟨.none, none, (.fields #[(vI 44), (vI 4), (vr 246)]), #[]⟩
def zoh : Obj := ⟨(vY x.t.a.a.b), none, (.fields #[(vS x.s.a.f.b 483), (vS x.s.a.f.b 484), (vS x.s.a.a.b 485), (vI 42), vO, vO, vO, vO, (vr 237), (.bool false), (vI 181), (vr 238), .none, .none, .none, .none, (vI 486), (vI 42), (vS x.s.a.a.b 487)]), #[]⟩
def zoa : Obj := ⟨(vY x.t.a.a.c), none, .plain, #[(vR 239), (vR 3), (vR 236), none, (some (vS x.s.a.a.e 187)), none, (vR 0)]⟩
def znv : Obj := ⟨(vY x.t.a.a.a), none, (.seq #[(vS x.s.a.e.d 496), (vS x.s.a.f.c 497)] 0), #[]⟩
def zok : Obj := ⟨.none, none, (.func (fn (sm 18 0) x.s.a.f.d 0 [] .none .none .none .none none .none .none 0)), #[]⟩
def znN : Obj := ⟨(vY x.t.a.a.b), none, (.fields #[(vS x.s.a.e.c 493), (vS x.s.a.f.d 494), (vS x.s.a.a.b 495), (vI 44), (vI 2), vO, vO, (vI 3), (vr 241), (.bool true), (vI 181), (vr 242), .none, (vr 243), (vr 244), (vr 245), (vI 498), (vI 44), (vS x.s.a.a.b 499)]), #[]⟩
def zoY : Obj := ⟨(vY x.t.a.c.b), none, (.func (fn (sm 18 0) x.s.a.f.d 3 [] .none .none .none (vS x.s.a.a.e 187) none (vr 246) .none 0)), #[]⟩
def zoB : Obj := ⟨(vY x.t.a.a.a), none, (.seq #[(vS x.s.a.f.c 501)] 0), #[]⟩
def zoS : Obj := ⟨(vY x.t.a.a.d), none, (.dict #[i115, i117, i118, i119, i120] 2), #[]⟩
def zoK : Obj := ⟨(vY x.t.a.b.a), none, (.cls ⟨x.s.a.f.b, [(vr 24)], [(vr 250), (vr 24), (vY x.t.a.a.f), (vY x.t.a.b.b), (vY x.t.a.b.c), (vY x.t.a.b.d)], 249, x.s.a.f.b, true, [], [], false, none, false⟩), #[(vR 234), none, (some (vS x.s.a.f.b 481)), (some (vS x.s.a.f.b 489)), (some (vB x.t.a.b.e)), (some (.bool true))]⟩
def zoU : Obj := ⟨(vY x.t.a.b.h), none, (.fields #[(vr 250), (vr 250), (vr 250)]), #[]⟩
def znT : Obj := ⟨(vY x.t.a.a.g), none, (.fields #[(vB x.t.a.c.a), (vr 250)]), #[]⟩
def b1040 : Obj := ⟨(vY x.t.a.a.d), none, (.dict #[i121, i1, i2, i3, i4, i5, i6, i7, i8, i9, i16, i22, i28, i34, i40, i46, i52, i58, i64, i70, i76, i82, i88, i94, ztw, zuA, i114, i122, i123, i124, i125, i126, i127, i128] 34), #[]⟩
def b1041 : Obj := ⟨.none, none, (.fields #[(vI 2), vO, (vr 20), (vI 4), vO, (vr 33), (vI 6), vO, (vr 45), (vI 8), vO, (vr 57), (vI 10), vO, (vr 69), (vI 12), vO, (vr 81), (vI 14), vO, (vr 93), (vI 16), vO, (vr 105), (vI 18), vO, (vr 117), (vI 20), vO, (vr 129), (vI 22), vO, (vr 141), (vI 24), vO, (vr 153), (vI 26), vO, (vr 165), (vI 28), vO, (vr 177), (vI 30), vO, (vr 189), (vI 32), vO, (vr 201), (vI 37), vO, (vr 220), (vI 42), vO, (vr 239), (vI 47), vO, (vr 258), (vI 53), vO, (vr 277), (vI 55), vO, (vr 284), (vI 61), vO, (vr 291)]), #[]⟩
def zp7 : Obj := ⟨(vY x.t.a.b.a), none, (.cls ⟨x.s.a.b.f, [(vY x.t.a.a.f)], [(vr 24), (vY x.t.a.a.f), (vY x.t.a.b.b), (vY x.t.a.b.c), (vY x.t.a.b.d)], 23, x.s.a.b.f, true, [], [(vr 37), (vr 49), (vr 61), (vr 73), (vr 85), (vr 97), (vr 109), (vr 121), (vr 133), (vr 145), (vr 157), (vr 169), (vr 181), (vr 193), (vr 212), (vr 231), (vr 250), (vr 269)], false, none, false⟩), #[(vR 15), none, (some (vS x.s.a.b.f 189)), (some (vS x.s.a.b.f 197)), (some (vB x.t.a.b.e)), (some (.bool true))]⟩
def zqU : Obj := ⟨(vY x.t.a.a.d), none, (.dict #[i129, i130, i131, i132, i133] 5), #[]⟩
def zpx : Obj := ⟨.none, none, (.fields #[(vI 49), (vI 4), (vr 265)]), #[]⟩
def zqx : Obj := ⟨(vY x.t.a.a.b), none, (.fields #[(vS x.s.a.f.f 508), (vS x.s.a.f.f 509), (vS x.s.a.a.b 510), (vI 47), vO, vO, vO, vO, (vr 256), (.bool false), (vI 181), (vr 257), .none, .none, .none, .none, (vI 511), (vI 47), (vS x.s.a.a.b 512)]), #[]⟩
def zqC : Obj := ⟨(vY x.t.a.a.c), none, .plain, #[(vR 258), (vR 3), (vR 255), none, (some (vS x.s.a.a.e 187)), none, (vR 0)]⟩
def zqZ : Obj := ⟨(vY x.t.a.a.a), none, (.seq #[(vS x.s.a.e.d 521), (vS x.s.a.g.e 522)] 0), #[]⟩
def zqf : Obj := ⟨.none, none, (.func (fn (sm 19 0) x.s.a.g.f 0 [] .none .none .none .none none .none .none 0)), #[]⟩
def zpr : Obj := ⟨(vY x.t.a.a.b), none, (.fields #[(vS x.s.a.e.c 518), (vS x.s.a.g.f 519), (vS x.s.a.a.b 520), (vI 49), (vI 2), vO, vO, (vI 3), (vr 260), (.bool true), (vI 181), (vr 261), .none, (vr 262), (vr 263), (vr 264), (vI 523), (vI 49), (vS x.s.a.a.b 524)]), #[]⟩
def zqO : Obj := ⟨(vY x.t.a.c.b), none, (.func (fn (sm 19 0) x.s.a.g.f 3 [] .none .none .none (vS x.s.a.a.e 187) none (vr 265) .none 0)), #[]⟩
def zqr : Obj := ⟨(vY x.t.a.a.a), none, (.seq #[(vS x.s.a.g.e 526)] 0), #[]⟩
def zpE : Obj := ⟨(vY x.t.a.a.d), none, (.dict #[i129, i131, i132, i133, i134] 2), #[]⟩
def zqk : Obj := ⟨(vY x.t.a.b.a), none, (.cls ⟨x.s.a.f.f, [(vr 24)], [(vr 269), (vr 24), (vY x.t.a.a.f), (vY x.t.a.b.b), (vY x.t.a.b.c), (vY x.t.a.b.d)], 268, x.s.a.f.f, true, [], [], false, none, false⟩), #[(vR 253), none, (some (vS x.s.a.f.f 506)), (some (vS x.s.a.f.f 514)), (some (vB x.t.a.b.e)), (some (.bool true))]⟩
def zqz : Obj := ⟨(vY x.t.a.b.h), none, (.fields #[(vr 269), (vr 269), (vr 269)]), #[]⟩
def zqw : Obj := ⟨(vY x.t.a.a.g), none, (.fields #[(vB x.t.a.c.a), (vr 269)]), #[]⟩
def zpy : Obj := ⟨(vY x.t.a.a.a), none, (.seq #[(vS x.s.a.g.g 536)] 0), #[]⟩
def zpG : Obj := ⟨.none, none, (.func (fn (st 21) x.s.a.f.g 0 [] .none .none .none .none none .none .none 0)), #[]⟩
def zqu : Obj := ⟨(vY x.t.a.a.b), none, (.fields #[(vS x.s.a.f.g 533), (vS x.s.a.f.g 534), (vS x.s.a.a.b 535), (vI 53), (vI 1), vO, vO, (vI 3), (vr 272), (.bool true), (vI 181), (vr 273), .none, (vr 274), (vr 275), (vr 276), (vI 537), (vI 53), (vS x.s.a.a.b 538)]), #[]⟩
def zqh : Obj := ⟨(vY x.t.a.c.b), none, (.func (fn (st 21) x.s.a.f.g 3 [] .none .none .none (vS x.s.a.g.h 531) none (vr 277) .none 0)), #[]⟩
def zqd : Obj := ⟨(vY x.t.a.a.a), none, (.seq #[(vS x.s.a.g.g 543), (vS x.s.a.h.a 544), (vS x.s.a.h.b 545)] 0), #[]⟩
def zqg : Obj := ⟨.none, none, (.func (fn (st 22) x.s.a.f.h 0 [] .none .none .none .none none .none .none 0)), #[]⟩
def zpI : Obj := ⟨(vY x.t.a.a.b), none, (.fields #[(vS x.s.a.f.h 540), (vS x.s.a.f.h 541), (vS x.s.a.a.b 542), (vI 55), (vI 3), vO, vO, (vI 3), (vr 279), (.bool true), (vI 181), (vr 280), .none, (vr 281), (vr 282), (vr 283), (vI 546), (vI 55), (vS x.s.a.a.b 547)]), #[]⟩
def zqF : Obj := ⟨(vY x.t.a.c.b), none, (.func (fn (st 22) x.s.a.f.h 3 [] .none .none .none (vS x.s.a.g.h 531) none (vr 284) .none 0)), #[]⟩
def zqi : Obj := ⟨(vY x.t.a.a.a), none, (.seq #[(vS x.s.a.g.g 560), (vS x.s.a.h.c 561), (vS x.s.a.h.d 562), (vS x.s.a.h.e 563), (vS x.s.a.h.f 564)] 0), #[]⟩
def zpM : Obj := ⟨.none, none, (.func (fn (st 27) x.s.a.g.d 0 [] .none .none .none .none none .none .none 0)), #[]⟩
def zpN : Obj := ⟨(vY x.t.a.a.b), none, (.fields #[(vS x.s.a.g.d 557), (vS x.s.a.g.d 558), (vS x.s.a.a.b 559), (vI 61), (vI 2), vO, vO, (vI 3), (vr 286), (.bool true), (vI 181), (vr 287), .none, (vr 288), (vr 289), (vr 290), (vI 565), (vI 61), (vS x.s.a.a.b 566)]), #[]⟩
def zqM : Obj := ⟨(vY x.t.a.c.b), none, (.func (fn (st 27) x.s.a.g.d 3 [] .none .none .none (vS x.s.a.f.e 549) none (vr 291) .none 0)), #[]⟩
def b1083 : Obj := ⟨(vY x.t.a.a.d), none, (.dict #[i135, i1, i2, i3, i4, i5, i6, i7, i8, i9, i16, i22, i28, i34, i40, i46, i52, i58, i64, i70, i76, i82, i88, i94, ztw, zuA, i114, i122, i123, i124, i125, i126, i127, i128, i136, i137, i138, i139, i140, i141, i142, i143, i144, i145, i146, i147, i148] 47), #[]⟩
def b1084 : Obj := ⟨.none, none, (.fields #[(vI 2), vO, (vr 20), (vI 4), vO, (vr 33), (vI 6), vO, (vr 45), (vI 8), vO, (vr 57), (vI 10), vO, (vr 69), (vI 12), vO, (vr 81), (vI 14), vO, (vr 93), (vI 16), vO, (vr 105), (vI 18), vO, (vr 117), (vI 20), vO, (vr 129), (vI 22), vO, (vr 141), (vI 24), vO, (vr 153), (vI 26), vO, (vr 165), (vI 28), vO, (vr 177), (vI 30), vO, (vr 189), (vI 32), vO, (vr 201), (vI 37), vO, (vr 220), (vI 42), vO, (vr 239), (vI 47), vO, (vr 258), (vI 53), vO, (vr 277), (vI 55), vO, (vr 284), (vI 61), vO, (vr 291), (vI 66), vO, (vr 298), (vI 76), vO, (vr 305), (vI 88), vO, (vr 310), (vI 94), vO, (vr 315), (vI 97), vO, (vr 322), (vI 100), vO, (vr 329), (vI 106), vO, (vr 336), (vI 117), vO, (vr 343), (vI 126), vO, (vr 350), (vI 140), vO, (vr 357), (vI 142), vO, (vr 364)]), #[]⟩
def zrB : Obj := ⟨(vY x.t.a.a.a), none, (.seq #[(vS x.s.b.b.f 571), (vS x.s.b.b.g 572), (vS x.s.b.b.h 573), (vS x.s.a.h.d 574), (vS x.s.a.h.e 575), (vS x.s.a.h.f 576)] 0), #[]⟩
def zsT : Obj := ⟨.none, none, (.func (fn (st 28) x.s.a.h.h 0 [] .none .none .none .none none .none .none 0)), #[]⟩
def zsB : Obj := ⟨(vY x.t.a.a.b), none, (.fields #[(vS x.s.a.h.h 568), (vS x.s.a.h.h 569), (vS x.s.a.a.b 570), (vI 66), (vI 1), vO, vO, (vI 3), (vr 293), (.bool true), (vI 181), (vr 294), .none, (vr 295), (vr 296), (vr 297), (vI 577), (vI 66), (vS x.s.a.a.b 578)]), #[]⟩
def zrL : Obj := ⟨(vY x.t.a.c.b), none, (.func (fn (st 28) x.s.a.h.h 3 [] .none .none .none (vS x.s.a.f.e 549) none (vr 298) .none 0)), #[]⟩
def zsD : Obj := ⟨(vY x.t.a.a.a), none, (.seq #[(vS x.s.b.c.a 583), (vS x.s.a.h.c 584), (vS x.s.b.b.f 585), (vS x.s.a.g.e 586), (vS x.s.a.e.e 587)] 0), #[]⟩
def zsc : Obj := ⟨.none, none, (.func (fn (st 29) x.s.b.a.a 0 [] .none .none .none .none none .none .none 0)), #[]⟩
def zsN : Obj := ⟨(vY x.t.a.a.b), none, (.fields #[(vS x.s.b.a.a 580), (vS x.s.b.a.a 581), (vS x.s.a.a.b 582), (vI 76), (vI 1), vO, vO, (vI 3), (vr 300), (.bool true), (vI 181), (vr 301), .none, (vr 302), (vr 303), (vr 304), (vI 588), (vI 76), (vS x.s.a.a.b 589)]), #[]⟩
def zsl : Obj := ⟨(vY x.t.a.c.b), none, (.func (fn (st 29) x.s.b.a.a 3 [] .none .none .none (vS x.s.a.f.e 549) none (vr 305) .none 0)), #[]⟩
def zrZ : Obj := ⟨.none, none, (.func (fn (st 33) x.s.b.a.e 0 [] .none .none .none .none none .none .none 0)), #[]⟩
def zs4 : Obj := ⟨(vY x.t.a.a.b), none, (.fields #[(vS x.s.b.a.e 597), (vS x.s.b.a.e 598), (vS x.s.a.a.b 599), (vI 88), (vI 1), vO, vO, (vI 3), (vr 307), (.bool true), (vI 181), (vr 308), .none, .none, .none, (vr 309), (vI 600), (vI 88), (vS x.s.a.a.b 601)]), #[]⟩
def ztj : Obj := ⟨(vY x.t.a.c.b), none, (.func (fn (st 33) x.s.b.a.e 3 [] .none .none .none (vS x.s.b.c.b 591) none (vr 310) .none 0)), #[]⟩
def zsX : Obj := ⟨.none, none, (.func (fn (st 34) x.s.b.a.f 0 [] .none .none .none .none none .none .none 0)), #[]⟩
def zsq : Obj := ⟨(vY x.t.a.a.b), none, (.fields #[(vS x.s.b.a.f 603), (vS x.s.b.a.f 604), (vS x.s.a.a.b 605), (vI 94), (vI 1), vO, vO, (vI 3), (vr 312), (.bool true), (vI 181), (vr 313), .none, .none, .none, (vr 314), (vI 606), (vI 94), (vS x.s.a.a.b 607)]), #[]⟩
def ztn : Obj := ⟨(vY x.t.a.c.b), none, (.func (fn (st 34) x.s.b.a.f 3 [] .none .none .none (vS x.s.b.c.b 591) none (vr 315) .none 0)), #[]⟩
def zth : Obj := ⟨(vY x.t.a.a.a), none, (.seq #[(vS x.s.a.f.c 612), (vS x.s.b.c.c 613)] 0), #[]⟩
def zrQ : Obj := ⟨.none, none, (.func (fn (st 35) x.s.b.a.g 0 [] .none .none .none .none none .none .none 0)), #[]⟩
def zrJ : Obj := ⟨(vY x.t.a.a.b), none, (.fields #[(vS x.s.b.a.g 609), (vS x.s.b.a.g 610), (vS x.s.a.a.b 611), (vI 97), (vI 1), vO, vO, (vI 3), (vr 317), (.bool true), (vI 181), (vr 318), .none, (vr 319), (vr 320), (vr 321), (vI 614), (vI 97), (vS x.s.a.a.b 615)]), #[]⟩
def zrS : Obj := ⟨(vY x.t.a.c.b), none, (.func (fn (st 35) x.s.b.a.g 3 [] .none .none .none (vS x.s.b.c.b 591) none (vr 322) .none 0)), #[]⟩
def zsM : Obj := ⟨(vY x.t.a.a.a), none, (.seq #[(vS x.s.a.f.c 620), (vS x.s.a.h.c 621), (vS x.s.b.c.c 622), (vS x.s.b.c.d 623)] 0), #[]⟩
def zsH : Obj := ⟨.none, none, (.func (fn (st 36) x.s.b.a.h 0 [] .none .none .none .none none .none .none 0)), #[]⟩
def ztf : Obj := ⟨(vY x.t.a.a.b), none, (.fields #[(vS x.s.b.a.h 617), (vS x.s.b.a.h 618), (vS x.s.a.a.b 619), (vI 100), (vI 2), vO, vO, (vI 3), (vr 324), (.bool true), (vI 181), (vr 325), .none, (vr 326), (vr 327), (vr 328), (vI 624), (vI 100), (vS x.s.a.a.b 625)]), #[]⟩
def zrv : Obj := ⟨(vY x.t.a.c.b), none, (.func (fn (st 36) x.s.b.a.h 3 [] .none .none .none (vS x.s.b.c.b 591) none (vr 329) .none 0)), #[]⟩
def zsY : Obj := ⟨(vY x.t.a.a.a), none, (.seq #[(vS x.s.b.c.e 630), (vS x.s.b.c.f 631), (vS x.s.b.c.g 632), (vS x.s.b.c.h 633), (vS x.s.a.g.e 634), (vS x.s.a.f.c 635), (vS x.s.a.g.g 636)] 0), #[]⟩
def zrx : Obj := ⟨.none, none, (.func (fn (st 37) x.s.b.b.a 0 [] .none .none .none .none none .none .none 0)), #[]⟩
def zsm : Obj := ⟨(vY x.t.a.a.b), none, (.fields #[(vS x.s.b.b.a 627), (vS x.s.b.b.a 628), (vS x.s.a.a.b 629), (vI 106), (vI 2), vO, vO, (vI 3), (vr 331), (.bool true), (vI 181), (vr 332), .none, (vr 333), (vr 334), (vr 335), (vI 637), (vI 106), (vS x.s.a.a.b 638)]), #[]⟩
def zrN : Obj := ⟨(vY x.t.a.c.b), none, (.func (fn (st 37) x.s.b.b.a 3 [] .none .none .none (vS x.s.b.c.b 591) none (vr 336) .none 0)), #[]⟩
def zsR : Obj := ⟨(vY x.t.a.a.a), none, (.seq #[(vS x.s.b.c.e 643), (vS x.s.b.c.h 644), (vS x.s.b.c.a 645)] 0), #[]⟩
def zrD : Obj := ⟨.none, none, (.func (fn (st 38) x.s.b.b.b 0 [] .none .none .none .none none .none .none 0)), #[]⟩
def zr2 : Obj := ⟨(vY x.t.a.a.b), none, (.fields #[(vS x.s.b.b.b 640), (vS x.s.b.b.b 641), (vS x.s.a.a.b 642), (vI 117), (vI 1), vO, vO, (vI 3), (vr 338), (.bool true), (vI 181), (vr 339), .none, (vr 340), (vr 341), (vr 342), (vI 646), (vI 117), (vS x.s.a.a.b 647)]), #[]⟩
def zsP : Obj := ⟨(vY x.t.a.c.b), none, (.func (fn (st 38) x.s.b.b.b 3 [] .none .none .none (vS x.s.b.c.b 591) none (vr 343) .none 0)), #[]⟩
def zsu : Obj := ⟨(vY x.t.a.a.a), none, (.seq #[(vS x.s.b.d.a 654), (vS x.s.b.d.b 655), (vS x.s.b.d.c 656), (vS x.s.b.d.d 657), (vS x.s.b.d.e 658), (vS x.s.b.d.f 659)] 0), #[]⟩
def zsa : Obj := ⟨.none, none, (.func (fn (st 40) x.s.b.b.c 0 [] .none .none .none .none none .none .none 0)), #[]⟩
def zrE : Obj := ⟨(vY x.t.a.a.b), none, (.fields #[(vS x.s.b.b.c 651), (vS x.s.b.b.c 652), (vS x.s.a.a.b 653), (vI 126), (vI 2), vO, vO, (vI 3), (vr 345), (.bool true), (vI 181), (vr 346), .none, (vr 347), (vr 348), (vr 349), (vI 660), (vI 126), (vS x.s.a.a.b 661)]), #[]⟩
def zrP : Obj := ⟨(vY x.t.a.c.b), none, (.func (fn (st 40) x.s.b.b.c 3 [] .none .none .none (vS x.s.a.h.g 649) none (vr 350) .none 0)), #[]⟩
def zr6 : Obj := ⟨(vY x.t.a.a.a), none, (.seq #[(vS x.s.b.d.g 666)] 0), #[]⟩
def zsv : Obj := ⟨.none, none, (.func (fn (st 41) x.s.b.b.d 0 [] .none .none .none .none none .none .none 0)), #[]⟩
def zsS : Obj := ⟨(vY x.t.a.a.b), none, (.fields #[(vS x.s.b.b.d 663), (vS x.s.b.b.d 664), (vS x.s.a.a.b 665), (vI 140), (vI 1), vO, vO, (vI 3), (vr 352), (.bool true), (vI 181), (vr 353), .none, (vr 354), (vr 355), (vr 356), (vI 667), (vI 140), (vS x.s.a.a.b 668)]), #[]⟩
def zsI : Obj := ⟨(vY x.t.a.c.b), none, (.func (fn (st 41) x.s.b.b.d 3 [] .none .none .none (vS x.s.a.h.g 649) none (vr 357) .none 0)), #[]⟩
def zs3 : Obj := ⟨(vY x.t.a.a.a), none, (.seq #[(vS x.s.b.d.h 673), (vS x.s.b.e.a 674)] 0), #[]⟩
def ztc : Obj := ⟨.none, none, (.func (fn (st 42) x.s.b.b.e 0 [] .none .none .none .none none .none .none 0)), #[]⟩
def zrT : Obj := ⟨(vY x.t.a.a.b), none, (.fields #[(vS x.s.b.b.e 670), (vS x.s.b.b.e 671), (vS x.s.a.a.b 672), (vI 142), (vI 1), vO, vO, (vI 3), (vr 359), (.bool true), (vI 181), (vr 360), .none, (vr 361), (vr 362), (vr 363), (vI 675), (vI 142), (vS x.s.a.a.b 676)]), #[]⟩
def zr5 : Obj := ⟨(vY x.t.a.c.b), none, (.func (fn (st 42) x.s.b.b.e 3 [] .none .none .none (vS x.s.a.h.g 649) none (vr 364) .none 0)), #[]⟩
def zuC : Obj := ⟨(vY x.t.a.a.d), none, (.dict #[i135, i1, i2, i3, i4, i5, i6, i7, i8, i9, i16, i22, i28, i34, i40, i46, i52, i58, i64, i70, i76, i82, i88, i94, ztw, zuA, i114, i122, i123, i124, i125, i126, i127, i128, i136, i137, i138, i139, i140, i141, i142, i143, i144, i145, i146, i147, i148, i149, i150, i151, i152, i153, i154, i155, i156, i157, i158] 57), #[]⟩
def zuE : Obj := ⟨.none, none, (.fields #[(vI 2), vO, (vr 20), (vI 4), vO, (vr 33), (vI 6), vO, (vr 45), (vI 8), vO, (vr 57), (vI 10), vO, (vr 69), (vI 12), vO, (vr 81), (vI 14), vO, (vr 93), (vI 16), vO, (vr 105), (vI 18), vO, (vr 117), (vI 20), vO, (vr 129), (vI 22), vO, (vr 141), (vI 24), vO, (vr 153), (vI 26), vO, (vr 165), (vI 28), vO, (vr 177), (vI 30), vO, (vr 189), (vI 32), vO, (vr 201), (vI 37), vO, (vr 220), (vI 42), vO, (vr 239), (vI 47), vO, (vr 258), (vI 53), vO, (vr 277), (vI 55), vO, (vr 284), (vI 61), vO, (vr 291), (vI 66), vO, (vr 298), (vI 76), vO, (vr 305), (vI 88), vO, (vr 310), (vI 94), vO, (vr 315), (vI 97), vO, (vr 322), (vI 100), vO, (vr 329), (vI 106), vO, (vr 336), (vI 117), vO, (vr 343), (vI 126), vO, (vr 350), (vI 140), vO, (vr 357), (vI 142), vO, (vr 364), (vI 154), vO, (vr 371), (vI 158), vO, (vr 378), (vI 178), vO, (vr 385), (vI 194), vO, (vr 390), (vI 198), vO, (vr 395), (vI 221), vO, (vr 402), (vI 226), vO, (vr 409), (vI 254), vO, (vr 416), (vI 271), vO, (vr 423), (vI 279), vO, (vr 428)]), #[]⟩
def ztT : Obj := ⟨(vY x.t.a.a.a), none, (.seq #[(vS x.s.b.d.f 681), (vS x.s.b.f.d 682)] 0), #[]⟩
def zuy : Obj := ⟨.none, none, (.func (fn (st 43) x.s.b.e.b 0 [] .none .none .none .none none .none .none 0)), #[]⟩
def ztY : Obj := ⟨(vY x.t.a.a.b), none, (.fields #[(vS x.s.b.e.b 678), (vS x.s.b.e.b 679), (vS x.s.a.a.b 680), (vI 154), (vI 1), vO, vO, (vI 3), (vr 366), (.bool true), (vI 181), (vr 367), .none, (vr 368), (vr 369), (vr 370), (vI 683), (vI 154), (vS x.s.a.a.b 684)]), #[]⟩
def zua : Obj := ⟨(vY x.t.a.c.b), none, (.func (fn (st 43) x.s.b.e.b 3 [] .none .none .none (vS x.s.a.h.g 649) none (vr 371) .none 0)), #[]⟩
def zuu : Obj := ⟨(vY x.t.a.a.a), none, (.seq #[(vS x.s.b.d.a 689), (vS x.s.b.f.e 690), (vS x.s.b.f.f 691), (vS x.s.b.f.g 692), (vS x.s.b.f.h 693), (vS x.s.b.g.a 694), (vS x.s.b.g.b 695), (vS x.s.b.g.c 696), (vS x.s.b.d.b 697), (vS x.s.b.g.d 698), (vS x.s.b.d.f 699), (vS x.s.b.g.e 700), (vS x.s.b.g.f 701), (vS x.s.b.d.c 702), (vS x.s.b.g.g 703), (vS x.s.b.g.h 704)] 0), #[]⟩
def ztI : Obj := ⟨.none, none, (.func (fn (st 44) x.s.b.e.c 0 [] .none .none .none .none none .none .none 0)), #[]⟩
def zuD : Obj := ⟨(vY x.t.a.a.b), none, (.fields #[(vS x.s.b.e.c 686), (vS x.s.b.e.c 687), (vS x.s.a.a.b 688), (vI 158), (vI 4), vO, vO, (vI 3), (vr 373), (.bool true), (vI 181), (vr 374), .none, (vr 375), (vr 376), (vr 377), (vI 705), (vI 158), (vS x.s.a.a.b 706)]), #[]⟩
def ztB : Obj := ⟨(vY x.t.a.c.b), none, (.func (fn (st 44) x.s.b.e.c 3 [] .none .none .none (vS x.s.a.h.g 649) none (vr 378) .none 0)), #[]⟩
def zuq : Obj := ⟨(vY x.t.a.a.a), none, (.seq #[(vS x.s.b.h.a 711), (vS x.s.b.f.h 712), (vS x.s.b.g.d 713), (vS x.s.b.d.b 714), (vS x.s.b.g.g 715), (vS x.s.b.g.h 716), (vS x.s.b.h.b 717), (vS x.s.b.h.c 718), (vS x.s.b.h.d 719)] 0), #[]⟩
def zum : Obj := ⟨.none, none, (.func (fn (st 45) x.s.b.e.d 0 [] .none .none .none .none none .none .none 0)), #[]⟩
def zt7 : Obj := ⟨(vY x.t.a.a.b), none, (.fields #[(vS x.s.b.e.d 708), (vS x.s.b.e.d 709), (vS x.s.a.a.b 710), (vI 178), (vI 1), vO, vO, (vI 3), (vr 380), (.bool true), (vI 181), (vr 381), .none, (vr 382), (vr 383), (vr 384), (vI 720), (vI 178), (vS x.s.a.a.b 721)]), #[]⟩
def ztD : Obj := ⟨(vY x.t.a.c.b), none, (.func (fn (st 45) x.s.b.e.d 3 [] .none .none .none (vS x.s.a.h.g 649) none (vr 385) .none 0)), #[]⟩
def zuN : Obj := ⟨.none, none, (.func (fn (st 46) x.s.b.e.e 0 [] .none .none .none .none none .none .none 0)), #[]⟩
def ztP : Obj := ⟨(vY x.t.a.a.b), none, (.fields #[(vS x.s.b.e.e 723), (vS x.s.b.e.e 724), (vS x.s.a.a.b 725), (vI 194), (vI 1), vO, vO, (vI 3), (vr 387), (.bool true), (vI 181), (vr 388), .none, .none, .none, (vr 389), (vI 726), (vI 194), (vS x.s.a.a.b 727)]), #[]⟩
def zut : Obj := ⟨(vY x.t.a.c.b), none, (.func (fn (st 46) x.s.b.e.e 3 [] .none .none .none (vS x.s.a.h.g 649) none (vr 390) .none 0)), #[]⟩
def ztM : Obj := ⟨.none, none, (.func (fn (st 47) x.s.b.e.f 0 [] .none .none .none .none none .none .none 0)), #[]⟩
def zt5 : Obj := ⟨(vY x.t.a.a.b), none, (.fields #[(vS x.s.b.e.f 729), (vS x.s.b.e.f 730), (vS x.s.a.a.b 731), (vI 198), (vI 1), vO, vO, (vI 3), (vr 392), (.bool true), (vI 181), (vr 393), .none, .none, .none, (vr 394), (vI 732), (vI 198), (vS x.s.a.a.b 733)]), #[]⟩
def zup : Obj := ⟨(vY x.t.a.c.b), none, (.func (fn (st 47) x.s.b.e.f 3 [] .none .none .none (vS x.s.a.h.g 649) none (vr 395) .none 0)), #[]⟩
def zur : Obj := ⟨(vY x.t.a.a.a), none, (.seq #[(vS x.s.b.h.a 738), (vS x.s.b.h.e 739), (vS x.s.b.g.g 740), (vS x.s.b.g.h 741), (vS x.s.b.h.b 742)] 0), #[]⟩
def zuS : Obj := ⟨.none, none, (.func (fn (st 48) x.s.b.e.g 0 [] .none .none .none .none none .none .none 0)), #[]⟩
def ztG : Obj := ⟨(vY x.t.a.a.b), none, (.fields #[(vS x.s.b.e.g 735), (vS x.s.b.e.g 736), (vS x.s.a.a.b 737), (vI 221), (vI 1), vO, vO, (vI 3), (vr 397), (.bool true), (vI 181), (vr 398), .none, (vr 399), (vr 400), (vr 401), (vI 743), (vI 221), (vS x.s.a.a.b 744)]), #[]⟩
def ztR : Obj := ⟨(vY x.t.a.c.b), none, (.func (fn (st 48) x.s.b.e.g 3 [] .none .none .none (vS x.s.a.h.g 649) none (vr 402) .none 0)), #[]⟩
def zul : Obj := ⟨(vY x.t.a.a.a), none, (.seq #[(vS x.s.b.h.e 749), (vS x.s.b.h.f 750), (vS x.s.b.h.g 751), (vS x.s.b.d.c 752), (vS x.s.b.h.h 753), (vS x.s.c.a.a 754), (vS x.s.c.a.b 755), (vS x.s.c.a.c 756), (vS x.s.b.f.d 757), (vS x.s.c.a.d 758)] 0), #[]⟩
def ztV : Obj := ⟨.none, none, (.func (fn (st 49) x.s.b.e.h 0 [] .none .none .none .none none .none .none 0)), #[]⟩
def zuk : Obj := ⟨(vY x.t.a.a.b), none, (.fields #[(vS x.s.b.e.h 746), (vS x.s.b.e.h 747), (vS x.s.a.a.b 748), (vI 226), (vI 2), vO, vO, (vI 3), (vr 404), (.bool true), (vI 181), (vr 405), .none, (vr 406), (vr 407), (vr 408), (vI 759), (vI 226), (vS x.s.a.a.b 760)]), #[]⟩
def ztC : Obj := ⟨(vY x.t.a.c.b), none, (.func (fn (st 49) x.s.b.e.h 3 [] .none .none .none (vS x.s.a.h.g 649) none (vr 409) .none 0)), #[]⟩
def zuc : Obj := ⟨(vY x.t.a.a.a), none, (.seq #[(vS x.s.b.d.g 765), (vS x.s.c.a.e 766), (vS x.s.c.a.f 767), (vS x.s.b.g.e 768)] 0), #[]⟩
def ztK : Obj := ⟨.none, none, (.func (fn (st 50) x.s.b.f.a 0 [] .none .none .none .none none .none .none 0)), #[]⟩
def zuh : Obj := ⟨(vY x.t.a.a.b), none, (.fields #[(vS x.s.b.f.a 762), (vS x.s.b.f.a 763), (vS x.s.a.a.b 764), (vI 254), (vI 2), vO, vO, (vI 3), (vr 411), (.bool true), (vI 181), (vr 412), .none, (vr 413), (vr 414), (vr 415), (vI 769), (vI 254), (vS x.s.a.a.b 770)]), #[]⟩
def zuJ : Obj := ⟨(vY x.t.a.c.b), none, (.func (fn (st 50) x.s.b.f.a 3 [] .none .none .none (vS x.s.a.h.g 649) none (vr 416) .none 0)), #[]⟩
def zuw : Obj := ⟨(vY x.t.a.a.a), none, (.seq #[(vS x.s.b.h.e 775), (vS x.s.b.d.h 776), (vS x.s.b.d.g 777), (vS x.s.c.a.g 778)] 0), #[]⟩
def zuo : Obj := ⟨.none, none, (.func (fn (st 51) x.s.b.f.b 0 [] .none .none .none .none none .none .none 0)), #[]⟩
def zug : Obj := ⟨(vY x.t.a.a.b), none, (.fields #[(vS x.s.b.f.b 772), (vS x.s.b.f.b 773), (vS x.s.a.a.b 774), (vI 271), (vI 1), vO, vO, (vI 3), (vr 418), (.bool true), (vI 181), (vr 419), .none, (vr 420), (vr 421), (vr 422), (vI 779), (vI 271), (vS x.s.a.a.b 780)]), #[]⟩
def zuL : Obj := ⟨(vY x.t.a.c.b), none, (.func (fn (st 51) x.s.b.f.b 3 [] .none .none .none (vS x.s.a.h.g 649) none (vr 423) .none 0)), #[]⟩
def zuU : Obj := ⟨.none, none, (.func (fn (st 52) x.s.b.f.c 0 [] .none .none .none .none none .none .none 0)), #[]⟩
def zus : Obj := ⟨(vY x.t.a.a.b), none, (.fields #[(vS x.s.b.f.c 782), (vS x.s.b.f.c 783), (vS x.s.a.a.b 784), (vI 279), (vI 1), vO, vO, (vI 3), (vr 425), (.bool true), (vI 181), (vr 426), .none, .none, .none, (vr 427), (vI 785), (vI 279), (vS x.s.a.a.b 786)]), #[]⟩
def ztE : Obj := ⟨(vY x.t.a.c.b), none, (.func (fn (st 52) x.s.b.f.c 3 [] .none .none .none (vS x.s.a.h.g 649) none (vr 428) .none 0)), #[]⟩
def m746 : Heap := ⟨⟨[x.r.a.a.a, x.r.a.a.b, x.r.a.a.c, x.r.a.a.d, x.r.a.a.e, x.r.a.a.f, x.r.a.a.g, x.r.a.a.h, x.r.a.b.a, x.r.a.b.b, x.r.a.b.c, zad, zau, zgU, zgO]⟩, ⟨[], [], [], 0, [], [], false, #[], [], 0, false, false, false, 0, [2000, 10, 10], false, 0, true, [], [], 0, false⟩⟩
def m747 : W.BT := (N x.r.a.a.a (N x.r.a.a.b (N x.r.a.a.d (L x.r.a.a.h) (L zad)) (N x.r.a.a.f (L x.r.a.b.b) (L zgU))) (N x.r.a.a.c (N x.r.a.a.e (L x.r.a.b.a) (L zau)) (N x.r.a.a.g (L x.r.a.b.c) (L zgO))))
def m763 : W.BT := (N x.r.a.a.a (N x.r.a.a.b (N b749 (N x.r.a.a.h (L zhC) (L zhG)) (N zad (L zau) (L zhF))) (N x.r.a.a.f (N x.r.a.b.b (L zhB) (L zhE)) (N zgU (L zhD) z))) (N x.r.a.a.c (N x.r.a.a.e (N x.r.a.b.a (L zaz) (L b760)) (N b750 (L zhA) z)) (N x.r.a.a.g (N x.r.a.b.c (L zad) (L zhH)) (N zgO (L zad) z))))
def m778 : W.BT := (N x.r.a.a.a (N x.r.a.a.b (N b764 (N x.r.a.a.h (N zhC (L zad) z) (N zhG (L zhU) z)) (N zad (N zau (L zad) z) (L zhF))) (N x.r.a.a.f (N x.r.a.b.b (N zhB (L zhT) z) (L zhE)) (N zgU (N zhD (L zhJ) z) (L zaz)))) (N x.r.a.a.c (N x.r.a.a.e (N x.r.a.b.a (N zaz (L zau) z) (L b766)) (N b765 (N zhA (L zhV) z) (L zaD))) (N x.r.a.a.g (N x.r.a.b.c (N zad (L zhK) z) (L zhH)) (N zgO (N zad (L zhR) z) (L zhP)))))
def m793 : W.BT := (N x.r.a.a.a (N x.r.a.a.b (N b779 (N x.r.a.a.h (N zhC (L zad) (L zad)) (N zhG (L zhU) z)) (N zad (N zau (L zad) (L zhY)) (N zhF (L zad) z))) (N x.r.a.a.f (N x.r.a.b.b (N zhB (L zhT) (L zib)) (N zhE (L zaz) z)) (N zgU (N zhD (L zhJ) z) (N zaz (L zh5) z)))) (N x.r.a.a.c (N x.r.a.a.e (N x.r.a.b.a (N zaz (L zau) (L zid)) (N b781 (L zaD) z)) (N b780 (N zhA (L zhV) z) (N zaD (L zau) z))) (N x.r.a.a.g (N x.r.a.b.c (N zad (L zhK) (L zh3)) (N zhH (L zh6) z)) (N zgO (N zad (L zhR) z) (N zhP (L zh8) z)))))
def m808 : W.BT := (N x.r.a.a.a (N x.r.a.a.b (N b794 (N x.r.a.a.h (N zhC (N zad (L ziM) z) (L zad)) (N zhG (L zhU) (L zad))) (N zad (N zau (L zad) (L zhY)) (N zhF (L zad) (L zad)))) (N x.r.a.a.f (N x.r.a.b.b (N zhB (L zhT) (L zib)) (N zhE (L zaz) (L ziI))) (N zgU (N zhD (L zhJ) (L zaz)) (N zaz (L zh5) (L zix))))) (N x.r.a.a.c (N x.r.a.a.e (N x.r.a.b.a (N zaz (L zau) (L zid)) (N b796 (L zaD) (L zau))) (N b795 (N zhA (L zhV) (L zaD)) (N zaD (L zau) (L ziJ)))) (N x.r.a.a.g (N x.r.a.b.c (N zad (L zhK) (L zh3)) (N zhH (L zh6) (L ziK))) (N zgO (N zad (L zhR) (L ziX)) (N zhP (L zh8) (L ziw))))))
def m823 : W.BT := (N x.r.a.a.a (N x.r.a.a.b (N b809 (N x.r.a.a.h (N zhC (N zad (L ziM) z) (L zad)) (N zhG (N zhU (L zad) z) (L zad))) (N zad (N zau (N zad (L zad) z) (L zhY)) (N zhF (N zad (L zjp) z) (L zad)))) (N x.r.a.a.f (N x.r.a.b.b (N zhB (N zhT (L zaz) z) (L zib)) (N zhE (N zaz (L zjo) z) (L ziI))) (N zgU (N zhD (N zhJ (L zjq) z) (L zaz)) (N zaz (L zh5) (L zix))))) (N x.r.a.a.c (N x.r.a.a.e (N x.r.a.b.a (N zaz (N zau (L zaD) z) (L zid)) (N b811 (N zaD (L zjl) z) (L zau))) (N b810 (N zhA (N zhV (L zau) z) (L zaD)) (N zaD (L zau) (L ziJ)))) (N x.r.a.a.g (N x.r.a.b.c (N zad (N zhK (L zjj) z) (L zh3)) (N zhH (N zh6 (L zjm) z) (L ziK))) (N zgO (N zad (N zhR (L zjn) z) (L ziX)) (N zhP (L zh8) (L ziw))))))
def m838 : W.BT := (N x.r.a.a.a (N x.r.a.a.b (N b824 (N x.r.a.a.h (N zhC (N zad (L ziM) z) (N zad (L zad) z)) (N zhG (N zhU (L zad) z) (N zad (L zjS) z))) (N zad (N zau (N zad (L zad) z) (N zhY (L zad) z)) (N zhF (N zad (L zjp) z) (L zad)))) (N x.r.a.a.f (N x.r.a.b.b (N zhB (N zhT (L zaz) z) (N zib (L zkC) z)) (N zhE (N zaz (L zjo) z) (L ziI))) (N zgU (N zhD (N zhJ (L zjq) z) (N zaz (L zks) z)) (N zaz (N zh5 (L zaz) z) (L zix))))) (N x.r.a.a.c (N x.r.a.a.e (N x.r.a.b.a (N zaz (N zau (L zaD) z) (N zid (L zau) z)) (N b826 (N zaD (L zjl) z) (L zau))) (N b825 (N zhA (N zhV (L zau) z) (N zaD (L zjH) z)) (N zaD (N zau (L zaD) z) (L ziJ)))) (N x.r.a.a.g (N x.r.a.b.c (N zad (N zhK (L zjj) z) (N zh3 (L zkh) z)) (N zhH (N zh6 (L zjm) z) (L ziK))) (N zgO (N zad (N zhR (L zjn) z) (N ziX (L zkH) z)) (N zhP (N zh8 (L zj9) z) (L ziw))))))
def m853 : W.BT := (N x.r.a.a.a (N x.r.a.a.b (N b839 (N x.r.a.a.h (N zhC (N zad (L ziM) (L zad)) (N zad (L zad) z)) (N zhG (N zhU (L zad) z) (N zad (L zjS) z))) (N zad (N zau (N zad (L zad) (L zkN)) (N zhY (L zad) z)) (N zhF (N zad (L zjp) z) (N zad (L zad) z)))) (N x.r.a.a.f (N x.r.a.b.b (N zhB (N zhT (L zaz) (L zkI)) (N zib (L zkC) z)) (N zhE (N zaz (L zjo) z) (N ziI (L zaz) z))) (N zgU (N zhD (N zhJ (L zjq) z) (N zaz (L zks) z)) (N zaz (N zh5 (L zaz) z) (N zix (L zkK) z))))) (N x.r.a.a.c (N x.r.a.a.e (N x.r.a.b.a (N zaz (N zau (L zaD) (L zkJ)) (N zid (L zau) z)) (N b841 (N zaD (L zjl) z) (N zau (L zaD) z))) (N b840 (N zhA (N zhV (L zau) z) (N zaD (L zjH) z)) (N zaD (N zau (L zaD) z) (N ziJ (L zau) z)))) (N x.r.a.a.g (N x.r.a.b.c (N zad (N zhK (L zjj) (L zkS)) (N zh3 (L zkh) z)) (N zhH (N zh6 (L zjm) z) (N ziK (L zkP) z))) (N zgO (N zad (N zhR (L zjn) z) (N ziX (L zkH) z)) (N zhP (N zh8 (L zj9) z) (N ziw (L zkM) z))))))
def m868 : W.BT := (N x.r.a.a.a (N x.r.a.a.b (N b854 (N x.r.a.a.h (N zhC (N zad (L ziM) (L zad)) (N zad (L zad) (L zk4))) (N zhG (N zhU (L zad) (L zad)) (N zad (L zjS) z))) (N zad (N zau (N zad (L zad) (L zkN)) (N zhY (L zad) z)) (N zhF (N zad (L zjp) (L zad)) (N zad (L zad) z)))) (N x.r.a.a.f (N x.r.a.b.b (N zhB (N zhT (L zaz) (L zkI)) (N zib (L zkC) z)) (N zhE (N zaz (L zjo) (L zkY)) (N ziI (L zaz) z))) (N zgU (N zhD (N zhJ (L zjq) (L zaz)) (N zaz (L zks) z)) (N zaz (N zh5 (L zaz) (L zk5)) (N zix (L zkK) z))))) (N x.r.a.a.c (N x.r.a.a.e (N x.r.a.b.a (N zaz (N zau (L zaD) (L zkJ)) (N zid (L zau) z)) (N b856 (N zaD (L zjl) (L zau)) (N zau (L zaD) z))) (N b855 (N zhA (N zhV (L zau) (L zaD)) (N zaD (L zjH) z)) (N zaD (N zau (L zaD) (L zlB)) (N ziJ (L zau) z)))) (N x.r.a.a.g (N x.r.a.b.c (N zad (N zhK (L zjj) (L zkS)) (N zh3 (L zkh) z)) (N zhH (N zh6 (L zjm) (L zkZ)) (N ziK (L zkP) z))) (N zgO (N zad (N zhR (L zjn) (L zlO)) (N ziX (L zkH) z)) (N zhP (N zh8 (L zj9) (L zlr)) (N ziw (L zkM) z))))))
def m883 : W.BT := (N x.r.a.a.a (N x.r.a.a.b (N b869 (N x.r.a.a.h (N zhC (N zad (L ziM) (L zad)) (N zad (L zad) (L zk4))) (N zhG (N zhU (L zad) (L zad)) (N zad (L zjS) (L zad)))) (N zad (N zau (N zad (L zad) (L zkN)) (N zhY (L zad) (L zad))) (N zhF (N zad (L zjp) (L zad)) (N zad (L zad) (L zl0))))) (N x.r.a.a.f (N x.r.a.b.b (N zhB (N zhT (L zaz) (L zkI)) (N zib (L zkC) (L zaz))) (N zhE (N zaz (L zjo) (L zkY)) (N ziI (L zaz) (L zmi)))) (N zgU (N zhD (N zhJ (L zjq) (L zaz)) (N zaz (L zks) (L zmc))) (N zaz (N zh5 (L zaz) (L zk5)) (N zix (L zkK) z))))) (N x.r.a.a.c (N x.r.a.a.e (N x.r.a.b.a (N zaz (N zau (L zaD) (L zkJ)) (N zid (L zau) (L zaD))) (N b871 (N zaD (L zjl) (L zau)) (N zau (L zaD) (L zmj)))) (N b870 (N zhA (N zhV (L zau) (L zaD)) (N zaD (L zjH) (L zau))) (N zaD (N zau (L zaD) (L zlB)) (N ziJ (L zau) z)))) (N x.r.a.a.g (N x.r.a.b.c (N zad (N zhK (L zjj) (L zkS)) (N zh3 (L zkh) (L zmb))) (N zhH (N zh6 (L zjm) (L zkZ)) (N ziK (L zkP) (L zl4)))) (N zgO (N zad (N zhR (L zjn) (L zlO)) (N ziX (L zkH) (L zlQ))) (N zhP (N zh8 (L zj9) (L zlr)) (N ziw (L zkM) z))))))
def m898 : W.BT := (N x.r.a.a.a (N x.r.a.a.b (N b884 (N x.r.a.a.h (N zhC (N zad (N ziM (L zad) z) (L zad)) (N zad (L zad) (L zk4))) (N zhG (N zhU (N zad (L znf) z) (L zad)) (N zad (L zjS) (L zad)))) (N zad (N zau (N zad (N zad (L zad) z) (L zkN)) (N zhY (L zad) (L zad))) (N zhF (N zad (L zjp) (L zad)) (N zad (L zad) (L zl0))))) (N x.r.a.a.f (N x.r.a.b.b (N zhB (N zhT (N zaz (L zmZ) z) (L zkI)) (N zib (L zkC) (L zaz))) (N zhE (N zaz (L zjo) (L zkY)) (N ziI (L zaz) (L zmi)))) (N zgU (N zhD (N zhJ (N zjq (L zng) z) (L zaz)) (N zaz (L zks) (L zmc))) (N zaz (N zh5 (L zaz) (L zk5)) (N zix (L zkK) (L zaz)))))) (N x.r.a.a.c (N x.r.a.a.e (N x.r.a.b.a (N zaz (N zau (N zaD (L zau) z) (L zkJ)) (N zid (L zau) (L zaD))) (N b886 (N zaD (L zjl) (L zau)) (N zau (L zaD) (L zmj)))) (N b885 (N zhA (N zhV (N zau (L zmJ) z) (L zaD)) (N zaD (L zjH) (L zau))) (N zaD (N zau (L zaD) (L zlB)) (N ziJ (L zau) (L zaD))))) (N x.r.a.a.g (N x.r.a.b.c (N zad (N zhK (N zjj (L zmt) z) (L zkS)) (N zh3 (L zkh) (L zmb))) (N zhH (N zh6 (L zjm) (L zkZ)) (N ziK (L zkP) (L zl4)))) (N zgO (N zad (N zhR (N zjn (L zmT) z) (L zlO)) (N ziX (L zkH) (L zlQ))) (N zhP (N zh8 (L zj9) (L zlr)) (N ziw (L zkM) (L zmS)))))))
def m913 : W.BT := (N x.r.a.a.a (N x.r.a.a.b (N b899 (N x.r.a.a.h (N zhC (N zad (N ziM (L zad) z) (L zad)) (N zad (N zad (L zad) z) (L zk4))) (N zhG (N zhU (N zad (L znf) z) (L zad)) (N zad (L zjS) (L zad)))) (N zad (N zau (N zad (N zad (L zad) z) (L zkN)) (N zhY (N zad (L znn) z) (L zad))) (N zhF (N zad (N zjp (L zad) z) (L zad)) (N zad (L zad) (L zl0))))) (N x.r.a.a.f (N x.r.a.b.b (N zhB (N zhT (N zaz (L zmZ) z) (L zkI)) (N zib (N zkC (L zno) z) (L zaz))) (N zhE (N zaz (N zjo (L zaz) z) (L zkY)) (N ziI (L zaz) (L zmi)))) (N zgU (N zhD (N zhJ (N zjq (L zng) z) (L zaz)) (N zaz (L zks) (L zmc))) (N zaz (N zh5 (N zaz (L zns) z) (L zk5)) (N zix (L zkK) (L zaz)))))) (N x.r.a.a.c (N x.r.a.a.e (N x.r.a.b.a (N zaz (N zau (N zaD (L zau) z) (L zkJ)) (N zid (N zau (L znp) z) (L zaD))) (N b901 (N zaD (N zjl (L zaD) z) (L zau)) (N zau (L zaD) (L zmj)))) (N b900 (N zhA (N zhV (N zau (L zmJ) z) (L zaD)) (N zaD (L zjH) (L zau))) (N zaD (N zau (N zaD (L zau) z) (L zlB)) (N ziJ (L zau) (L zaD))))) (N x.r.a.a.g (N x.r.a.b.c (N zad (N zhK (N zjj (L zmt) z) (L zkS)) (N zh3 (N zkh (L znt) z) (L zmb))) (N zhH (N zh6 (N zjm (L znm) z) (L zkZ)) (N ziK (L zkP) (L zl4)))) (N zgO (N zad (N zhR (N zjn (L zmT) z) (L zlO)) (N ziX (L zkH) (L zlQ))) (N zhP (N zh8 (N zj9 (L znr) z) (L zlr)) (N ziw (L zkM) (L zmS)))))))
def m928 : W.BT := (N x.r.a.a.a (N x.r.a.a.b (N b914 (N x.r.a.a.h (N zhC (N zad (N ziM (L zad) z) (N zad (L zpb) z)) (N zad (N zad (L zad) z) (L zk4))) (N zhG (N zhU (N zad (L znf) z) (L zad)) (N zad (N zjS (L zad) z) (L zad)))) (N zad (N zau (N zad (N zad (L zad) z) (L zkN)) (N zhY (N zad (L znn) z) (L zad))) (N zhF (N zad (N zjp (L zad) z) (L zad)) (N zad (N zad (L zad) z) (L zl0))))) (N x.r.a.a.f (N x.r.a.b.b (N zhB (N zhT (N zaz (L zmZ) z) (L zkI)) (N zib (N zkC (L zno) z) (L zaz))) (N zhE (N zaz (N zjo (L zaz) z) (L zkY)) (N ziI (N zaz (L zn5) z) (L zmi)))) (N zgU (N zhD (N zhJ (N zjq (L zng) z) (L zaz)) (N zaz (N zks (L zaz) z) (L zmc))) (N zaz (N zh5 (N zaz (L zns) z) (L zk5)) (N zix (N zkK (L zn7) z) (L zaz)))))) (N x.r.a.a.c (N x.r.a.a.e (N x.r.a.b.a (N zaz (N zau (N zaD (L zau) z) (L zkJ)) (N zid (N zau (L znp) z) (L zaD))) (N b916 (N zaD (N zjl (L zaD) z) (L zau)) (N zau (N zaD (L zau) z) (L zmj)))) (N b915 (N zhA (N zhV (N zau (L zmJ) z) (L zaD)) (N zaD (N zjH (L zaD) z) (L zau))) (N zaD (N zau (N zaD (L zau) z) (L zlB)) (N ziJ (N zau (L znB) z) (L zaD))))) (N x.r.a.a.g (N x.r.a.b.c (N zad (N zhK (N zjj (L zmt) z) (L zkS)) (N zh3 (N zkh (L znt) z) (L zmb))) (N zhH (N zh6 (N zjm (L znm) z) (L zkZ)) (N ziK (N zkP (L zoe) z) (L zl4)))) (N zgO (N zad (N zhR (N zjn (L zmT) z) (L zlO)) (N ziX (N zkH (L znW) z) (L zlQ))) (N zhP (N zh8 (N zj9 (L znr) z) (L zlr)) (N ziw (N zkM (L znK) z) (L zmS)))))))
def m943 : W.BT := (N x.r.a.a.a (N x.r.a.a.b (N b929 (N x.r.a.a.h (N zhC (N zad (N ziM (L zad) z) (N zad (L zpb) z)) (N zad (N zad (L zad) z) (L zk4))) (N zhG (N zhU (N zad (L znf) z) (N zad (L zad) z)) (N zad (N zjS (L zad) z) (L zad)))) (N zad (N zau (N zad (N zad (L zad) z) (N zkN (L zad) z)) (N zhY (N zad (L znn) z) (L zad))) (N zhF (N zad (N zjp (L zad) z) (N zad (L zpi) z)) (N zad (N zad (L zad) z) (L zl0))))) (N x.r.a.a.f (N x.r.a.b.b (N zhB (N zhT (N zaz (L zmZ) z) (N zkI (L zaz) z)) (N zib (N zkC (L zno) z) (L zaz))) (N zhE (N zaz (N zjo (L zaz) z) (N zkY (L zpd) z)) (N ziI (N zaz (L zn5) z) (L zmi)))) (N zgU (N zhD (N zhJ (N zjq (L zng) z) (N zaz (L zpe) z)) (N zaz (N zks (L zaz) z) (L zmc))) (N zaz (N zh5 (N zaz (L zns) z) (L zk5)) (N zix (N zkK (L zn7) z) (L zaz)))))) (N x.r.a.a.c (N x.r.a.a.e (N x.r.a.b.a (N zaz (N zau (N zaD (L zau) z) (N zkJ (L zaD) z)) (N zid (N zau (L znp) z) (L zaD))) (N b931 (N zaD (N zjl (L zaD) z) (N zau (L zpg) z)) (N zau (N zaD (L zau) z) (L zmj)))) (N b930 (N zhA (N zhV (N zau (L zmJ) z) (N zaD (L zau) z)) (N zaD (N zjH (L zaD) z) (L zau))) (N zaD (N zau (N zaD (L zau) z) (L zlB)) (N ziJ (N zau (L znB) z) (L zaD))))) (N x.r.a.a.g (N x.r.a.b.c (N zad (N zhK (N zjj (L zmt) z) (N zkS (L zpm) z)) (N zh3 (N zkh (L znt) z) (L zmb))) (N zhH (N zh6 (N zjm (L znm) z) (N zkZ (L zpj) z)) (N ziK (N zkP (L zoe) z) (L zl4)))) (N zgO (N zad (N zhR (N zjn (L zmT) z) (N zlO (L zpk) z)) (N ziX (N zkH (L znW) z) (L zlQ))) (N zhP (N zh8 (N zj9 (L znr) z) (L zlr)) (N ziw (N zkM (L znK) z) (L zmS)))))))
def m958 : W.BT := (N x.r.a.a.a (N x.r.a.a.b (N b944 (N x.r.a.a.h (N zhC (N zad (N ziM (L zad) z) (N zad (L zpb) z)) (N zad (N zad (L zad) z) (N zk4 (L zad) z))) (N zhG (N zhU (N zad (L znf) z) (N zad (L zad) z)) (N zad (N zjS (L zad) z) (N zad (L zpH) z)))) (N zad (N zau (N zad (N zad (L zad) z) (N zkN (L zad) z)) (N zhY (N zad (L znn) z) (N zad (L zad) z))) (N zhF (N zad (N zjp (L zad) z) (N zad (L zpi) z)) (N zad (N zad (L zad) z) (L zl0))))) (N x.r.a.a.f (N x.r.a.b.b (N zhB (N zhT (N zaz (L zmZ) z) (N zkI (L zaz) z)) (N zib (N zkC (L zno) z) (N zaz (L zql) z))) (N zhE (N zaz (N zjo (L zaz) z) (N zkY (L zpd) z)) (N ziI (N zaz (L zn5) z) (L zmi)))) (N zgU (N zhD (N zhJ (N zjq (L zng) z) (N zaz (L zpe) z)) (N zaz (N zks (L zaz) z) (N zmc (L zpK) z))) (N zaz (N zh5 (N zaz (L zns) z) (N zk5 (L zaz) z)) (N zix (N zkK (L zn7) z) (L zaz)))))) (N x.r.a.a.c (N x.r.a.a.e (N x.r.a.b.a (N zaz (N zau (N zaD (L zau) z) (N zkJ (L zaD) z)) (N zid (N zau (L znp) z) (N zaD (L zau) z))) (N b946 (N zaD (N zjl (L zaD) z) (N zau (L zpg) z)) (N zau (N zaD (L zau) z) (L zmj)))) (N b945 (N zhA (N zhV (N zau (L zmJ) z) (N zaD (L zau) z)) (N zaD (N zjH (L zaD) z) (N zau (L zpz) z))) (N zaD (N zau (N zaD (L zau) z) (N zlB (L zaD) z)) (N ziJ (N zau (L znB) z) (L zaD))))) (N x.r.a.a.g (N x.r.a.b.c (N zad (N zhK (N zjj (L zmt) z) (N zkS (L zpm) z)) (N zh3 (N zkh (L znt) z) (N zmb (L zpT) z))) (N zhH (N zh6 (N zjm (L znm) z) (N zkZ (L zpj) z)) (N ziK (N zkP (L zoe) z) (L zl4)))) (N zgO (N zad (N zhR (N zjn (L zmT) z) (N zlO (L zpk) z)) (N ziX (N zkH (L znW) z) (N zlQ (L zqH) z))) (N zhP (N zh8 (N zj9 (L znr) z) (N zlr (L zqR) z)) (N ziw (N zkM (L znK) z) (L zmS)))))))
def m973 : W.BT := (N x.r.a.a.a (N x.r.a.a.b (N b959 (N x.r.a.a.h (N zhC (N zad (N ziM (L zad) (L zad)) (N zad (L zpb) z)) (N zad (N zad (L zad) z) (N zk4 (L zad) z))) (N zhG (N zhU (N zad (L znf) z) (N zad (L zad) z)) (N zad (N zjS (L zad) z) (N zad (L zpH) z)))) (N zad (N zau (N zad (N zad (L zad) (L zru)) (N zkN (L zad) z)) (N zhY (N zad (L znn) z) (N zad (L zad) z))) (N zhF (N zad (N zjp (L zad) z) (N zad (L zpi) z)) (N zad (N zad (L zad) z) (N zl0 (L zad) z))))) (N x.r.a.a.f (N x.r.a.b.b (N zhB (N zhT (N zaz (L zmZ) (L zrj)) (N zkI (L zaz) z)) (N zib (N zkC (L zno) z) (N zaz (L zql) z))) (N zhE (N zaz (N zjo (L zaz) z) (N zkY (L zpd) z)) (N ziI (N zaz (L zn5) z) (N zmi (L zaz) z)))) (N zgU (N zhD (N zhJ (N zjq (L zng) z) (N zaz (L zpe) z)) (N zaz (N zks (L zaz) z) (N zmc (L zpK) z))) (N zaz (N zh5 (N zaz (L zns) z) (N zk5 (L zaz) z)) (N zix (N zkK (L zn7) z) (N zaz (L zre) z)))))) (N x.r.a.a.c (N x.r.a.a.e (N x.r.a.b.a (N zaz (N zau (N zaD (L zau) (L zrc)) (N zkJ (L zaD) z)) (N zid (N zau (L znp) z) (N zaD (L zau) z))) (N b961 (N zaD (N zjl (L zaD) z) (N zau (L zpg) z)) (N zau (N zaD (L zau) z) (N zmj (L zaD) z)))) (N b960 (N zhA (N zhV (N zau (L zmJ) z) (N zaD (L zau) z)) (N zaD (N zjH (L zaD) z) (N zau (L zpz) z))) (N zaD (N zau (N zaD (L zau) z) (N zlB (L zaD) z)) (N ziJ (N zau (L znB) z) (N zaD (L zau) z))))) (N x.r.a.a.g (N x.r.a.b.c (N zad (N zhK (N zjj (L zmt) (L zrd)) (N zkS (L zpm) z)) (N zh3 (N zkh (L znt) z) (N zmb (L zpT) z))) (N zhH (N zh6 (N zjm (L znm) z) (N zkZ (L zpj) z)) (N ziK (N zkP (L zoe) z) (N zl4 (L zro) z)))) (N zgO (N zad (N zhR (N zjn (L zmT) z) (N zlO (L zpk) z)) (N ziX (N zkH (L znW) z) (N zlQ (L zqH) z))) (N zhP (N zh8 (N zj9 (L znr) z) (N zlr (L zqR) z)) (N ziw (N zkM (L znK) z) (N zmS (L zq4) z)))))))
def m995 : W.BT := (N x.r.a.a.a (N x.r.a.a.b (N b974 (N x.r.a.a.h (N zhC (N zad (N ziM (L zad) (L zad)) (N zad (L zpb) z)) (N zad (N zad (L zad) (L zrz)) (N zk4 (L zad) z))) (N zhG (N zhU (N zad (L znf) (L zad)) (N zad (L zad) z)) (N zad (N zjS (L zad) z) (N zad (L zpH) z)))) (N zad (N zau (N zad (N zad (L zad) (L zru)) (N zkN (L zad) z)) (N zhY (N zad (L znn) (L ztm)) (N zad (L zad) z))) (N zhF (N zad (N zjp (L zad) (L zad)) (N zad (L zpi) z)) (N zad (N zad (L zad) z) (N zl0 (L zad) z))))) (N x.r.a.a.f (N x.r.a.b.b (N zhB (N zhT (N zaz (L zmZ) (L zrj)) (N zkI (L zaz) z)) (N zib (N zkC (L zno) (L zrX)) (N zaz (L zql) z))) (N zhE (N zaz (N zjo (L zaz) (L ztl)) (N zkY (L zpd) z)) (N ziI (N zaz (L zn5) z) (N zmi (L zaz) z)))) (N zgU (N zhD (N zhJ (N zjq (L zng) (L zaz)) (N zaz (L zpe) z)) (N zaz (N zks (L zaz) (L zsr)) (N zmc (L zpK) z))) (N zaz (N zh5 (N zaz (L zns) (L zss)) (N zk5 (L zaz) z)) (N zix (N zkK (L zn7) z) (N zaz (L zre) z)))))) (N x.r.a.a.c (N x.r.a.a.e (N x.r.a.b.a (N zaz (N zau (N zaD (L zau) (L zrc)) (N zkJ (L zaD) z)) (N zid (N zau (L znp) (L zrK)) (N zaD (L zau) z))) (N b976 (N zaD (N zjl (L zaD) (L zsn)) (N zau (L zpg) z)) (N zau (N zaD (L zau) z) (N zmj (L zaD) z)))) (N b975 (N zhA (N zhV (N zau (L zmJ) (L zaD)) (N zaD (L zau) z)) (N zaD (N zjH (L zaD) (L zsj)) (N zau (L zpz) z))) (N zaD (N zau (N zaD (L zau) (L zau)) (N zlB (L zaD) z)) (N ziJ (N zau (L znB) z) (N zaD (L zau) z))))) (N x.r.a.a.g (N x.r.a.b.c (N zad (N zhK (N zjj (L zmt) (L zrd)) (N zkS (L zpm) z)) (N zh3 (N zkh (L znt) (L zrM)) (N zmb (L zpT) z))) (N zhH (N zh6 (N zjm (L znm) (L zsi)) (N zkZ (L zpj) z)) (N ziK (N zkP (L zoe) z) (N zl4 (L zro) z)))) (N zgO (N zad (N zhR (N zjn (L zmT) (L zti)) (N zlO (L zpk) z)) (N ziX (N zkH (L znW) (L zsU)) (N zlQ (L zqH) z))) (N zhP (N zh8 (N zj9 (L znr) (L zad)) (N zlr (L zqR) z)) (N ziw (N zkM (L znK) z) (N zmS (L zq4) z)))))))
def m1017 : W.BT := (N x.r.a.a.a (N x.r.a.a.b (N b996 (N x.r.a.a.h (N zhC (N zad (N ziM (L zad) (L zad)) (N zad (L zpb) (L zau))) (N zad (N zad (L zad) (L zrz)) (N zk4 (L zad) z))) (N zhG (N zhU (N zad (L znf) (L zad)) (N zad (L zad) (L znj))) (N zad (N zjS (L zad) (L zaD)) (N zad (L zpH) z)))) (N zad (N zau (N zad (N zad (L zad) (L zru)) (N zkN (L zad) (L znc))) (N zhY (N zad (L znn) (L ztm)) (N zad (L zad) z))) (N zhF (N zad (N zjp (L zad) (L zad)) (N zad (L zpi) z)) (N zad (N zad (L zad) (L zmN)) (N zl0 (L zad) z))))) (N x.r.a.a.f (N x.r.a.b.b (N zhB (N zhT (N zaz (L zmZ) (L zrj)) (N zkI (L zaz) (L zad))) (N zib (N zkC (L zno) (L zrX)) (N zaz (L zql) z))) (N zhE (N zaz (N zjo (L zaz) (L ztl)) (N zkY (L zpd) (L zmX))) (N ziI (N zaz (L zn5) (L zm6)) (N zmi (L zaz) z)))) (N zgU (N zhD (N zhJ (N zjq (L zng) (L zaz)) (N zaz (L zpe) (L zmO))) (N zaz (N zks (L zaz) (L zsr)) (N zmc (L zpK) z))) (N zaz (N zh5 (N zaz (L zns) (L zss)) (N zk5 (L zaz) z)) (N zix (N zkK (L zn7) (L zmG)) (N zaz (L zre) z)))))) (N x.r.a.a.c (N x.r.a.a.e (N x.r.a.b.a (N zaz (N zau (N zaD (L zau) (L zrc)) (N zkJ (L zaD) (L zmD))) (N zid (N zau (L znp) (L zrK)) (N zaD (L zau) z))) (N b998 (N zaD (N zjl (L zaD) (L zsn)) (N zau (L zpg) (L zmx))) (N zau (N zaD (L zau) (L zaz)) (N zmj (L zaD) z)))) (N b997 (N zhA (N zhV (N zau (L zmJ) (L zaD)) (N zaD (L zau) (L znd))) (N zaD (N zjH (L zaD) (L zsj)) (N zau (L zpz) z))) (N zaD (N zau (N zaD (L zau) (L zau)) (N zlB (L zaD) z)) (N ziJ (N zau (L znB) (L zmY)) (N zaD (L zau) z))))) (N x.r.a.a.g (N x.r.a.b.c (N zad (N zhK (N zjj (L zmt) (L zrd)) (N zkS (L zpm) (L zna))) (N zh3 (N zkh (L znt) (L zrM)) (N zmb (L zpT) z))) (N zhH (N zh6 (N zjm (L znm) (L zsi)) (N zkZ (L zpj) z)) (N ziK (N zkP (L zoe) (L zad)) (N zl4 (L zro) z)))) (N zgO (N zad (N zhR (N zjn (L zmT) (L zti)) (N zlO (L zpk) (L zmp))) (N ziX (N zkH (L znW) (L zsU)) (N zlQ (L zqH) z))) (N zhP (N zh8 (N zj9 (L znr) (L zad)) (N zlr (L zqR) z)) (N ziw (N zkM (L znK) (L zad)) (N zmS (L zq4) z)))))))
def m1039 : W.BT := (N x.r.a.a.a (N x.r.a.a.b (N b1018 (N x.r.a.a.h (N zhC (N zad (N ziM (L zad) (L zad)) (N zad (L zpb) (L zau))) (N zad (N zad (L zad) (L zrz)) (N zk4 (L zad) (L zoh)))) (N zhG (N zhU (N zad (L znf) (L zad)) (N zad (L zad) (L znj))) (N zad (N zjS (L zad) (L zaD)) (N zad (L zpH) (L zoY))))) (N zad (N zau (N zad (N zad (L zad) (L zru)) (N zkN (L zad) (L znc))) (N zhY (N zad (L znn) (L ztm)) (N zad (L zad) (L znv)))) (N zhF (N zad (N zjp (L zad) (L zad)) (N zad (L zpi) (L zaz))) (N zad (N zad (L zad) (L zmN)) (N zl0 (L zad) (L zoU)))))) (N x.r.a.a.f (N x.r.a.b.b (N zhB (N zhT (N zaz (L zmZ) (L zrj)) (N zkI (L zaz) (L zad))) (N zib (N zkC (L zno) (L zrX)) (N zaz (L zql) (L zad)))) (N zhE (N zaz (N zjo (L zaz) (L ztl)) (N zkY (L zpd) (L zmX))) (N ziI (N zaz (L zn5) (L zm6)) (N zmi (L zaz) (L zoS))))) (N zgU (N zhD (N zhJ (N zjq (L zng) (L zaz)) (N zaz (L zpe) (L zmO))) (N zaz (N zks (L zaz) (L zsr)) (N zmc (L zpK) (L zok)))) (N zaz (N zh5 (N zaz (L zns) (L zss)) (N zk5 (L zaz) (L zad))) (N zix (N zkK (L zn7) (L zmG)) (N zaz (L zre) z)))))) (N x.r.a.a.c (N x.r.a.a.e (N x.r.a.b.a (N zaz (N zau (N zaD (L zau) (L zrc)) (N zkJ (L zaD) (L zmD))) (N zid (N zau (L znp) (L zrK)) (N zaD (L zau) (L zoa)))) (N b1020 (N zaD (N zjl (L zaD) (L zsn)) (N zau (L zpg) (L zmx))) (N zau (N zaD (L zau) (L zaz)) (N zmj (L zaD) (L zoB))))) (N b1019 (N zhA (N zhV (N zau (L zmJ) (L zaD)) (N zaD (L zau) (L znd))) (N zaD (N zjH (L zaD) (L zsj)) (N zau (L zpz) (L zad)))) (N zaD (N zau (N zaD (L zau) (L zau)) (N zlB (L zaD) (L znS))) (N ziJ (N zau (L znB) (L zmY)) (N zaD (L zau) (L znT)))))) (N x.r.a.a.g (N x.r.a.b.c (N zad (N zhK (N zjj (L zmt) (L zrd)) (N zkS (L zpm) (L zna))) (N zh3 (N zkh (L znt) (L zrM)) (N zmb (L zpT) (L zau)))) (N zhH (N zh6 (N zjm (L znm) (L zsi)) (N zkZ (L zpj) (L zaD))) (N ziK (N zkP (L zoe) (L zad)) (N zl4 (L zro) (L zoK))))) (N zgO (N zad (N zhR (N zjn (L zmT) (L zti)) (N zlO (L zpk) (L zmp))) (N ziX (N zkH (L znW) (L zsU)) (N zlQ (L zqH) (L znN)))) (N zhP (N zh8 (N zj9 (L znr) (L zad)) (N zlr (L zqR) (L zn6))) (N ziw (N zkM (L znK) (L zad)) (N zmS (L zq4) z)))))))
def m1082 : W.BT := (N x.r.a.a.a (N x.r.a.a.b (N b1040 (N x.r.a.a.h (N zhC (N zad (N ziM (N zad (L zqU) z) (L zad)) (N zad (N zpb (L zau) z) (L zau))) (N zad (N zad (N zad (L zqw) z) (L zrz)) (N zk4 (L zad) (L zoh)))) (N zhG (N zhU (N zad (N znf (L zad) z) (L zad)) (N zad (L zad) (L znj))) (N zad (N zjS (N zad (L zad) z) (L zaD)) (N zad (L zpH) (L zoY))))) (N zad (N zau (N zad (N zad (N zad (L zqC) z) (L zru)) (N zkN (N zad (L zpN) z) (L znc))) (N zhY (N zad (N znn (L zad) z) (L ztm)) (N zad (L zad) (L znv)))) (N zhF (N zad (N zjp (N zad (L zqr) z) (L zad)) (N zad (L zpi) (L zaz))) (N zad (N zad (N zad (L zqg) z) (L zmN)) (N zl0 (L zad) (L zoU)))))) (N x.r.a.a.f (N x.r.a.b.b (N zhB (N zhT (N zaz (N zmZ (L zpx) z) (L zrj)) (N zkI (N zaz (L zad) z) (L zad))) (N zib (N zkC (N zno (L zau) z) (L zrX)) (N zaz (L zql) (L zad)))) (N zhE (N zaz (N zjo (N zaz (L zpr) z) (L ztl)) (N zkY (L zpd) (L zmX))) (N ziI (N zaz (N zn5 (L zqd) z) (L zm6)) (N zmi (L zaz) (L zoS))))) (N zgU (N zhD (N zhJ (N zjq (N zng (L zau) z) (L zaz)) (N zaz (L zpe) (L zmO))) (N zaz (N zks (N zaz (L zqu) z) (L zsr)) (N zmc (L zpK) (L zok)))) (N zaz (N zh5 (N zaz (N zns (L zqk) z) (L zss)) (N zk5 (L zaz) (L zad))) (N zix (N zkK (N zn7 (L zqF) z) (L zmG)) (N zaz (L zre) (L zaD))))))) (N x.r.a.a.c (N x.r.a.a.e (N x.r.a.b.a (N zaz (N zau (N zaD (N zau (L zad) z) (L zrc)) (N zkJ (N zaD (L zqi) z) (L zmD))) (N zid (N zau (N znp (L zad) z) (L zrK)) (N zaD (L zau) (L zoa)))) (N zp7 (N zaD (N zjl (N zaD (L zqf) z) (L zsn)) (N zau (L zpg) (L zmx))) (N zau (N zaD (N zau (L zau) z) (L zaz)) (N zmj (L zaD) (L zoB))))) (N b1041 (N zhA (N zhV (N zau (N zmJ (L zad) z) (L zaD)) (N zaD (N zau (L zqM) z) (L znd))) (N zaD (N zjH (N zaD (L zpG) z) (L zsj)) (N zau (L zpz) (L zad)))) (N zaD (N zau (N zaD (N zau (L zpE) z) (L zau)) (N zlB (L zaD) (L znS))) (N ziJ (N zau (N znB (L zpI) z) (L zmY)) (N zaD (L zau) (L znT)))))) (N x.r.a.a.g (N x.r.a.b.c (N zad (N zhK (N zjj (N zmt (L zqx) z) (L zrd)) (N zkS (N zpm (L zpM) z) (L zna))) (N zh3 (N zkh (N znt (L zpy) z) (L zrM)) (N zmb (L zpT) (L zau)))) (N zhH (N zh6 (N zjm (N znm (L zqO) z) (L zsi)) (N zkZ (L zpj) (L zaD))) (N ziK (N zkP (N zoe (L zad) z) (L zad)) (N zl4 (L zro) (L zoK))))) (N zgO (N zad (N zhR (N zjn (N zmT (L zqZ) z) (L zti)) (N zlO (L zpk) (L zmp))) (N ziX (N zkH (N znW (L zqh) z) (L zsU)) (N zlQ (L zqH) (L znN)))) (N zhP (N zh8 (N zj9 (N znr (L zqz) z) (L zad)) (N zlr (L zqR) (L zn6))) (N ziw (N zkM (N znK (L zad) z) (L zad)) (N zmS (L zq4) (L zaz))))))))
def m1157 : W.BT := (N x.r.a.a.a (N x.r.a.a.b (N b1083 (N x.r.a.a.h (N zhC (N zad (N ziM (N zad (L zqU) z) (N zad (L zth) z)) (N zad (N zpb (L zau) z) (N zau (L zrP) z))) (N zad (N zad (N zad (L zqw) z) (N zrz (L zrx) z)) (N zk4 (N zad (L zad) z) (L zoh)))) (N zhG (N zhU (N zad (N znf (L zad) z) (N zad (L zad) z)) (N zad (N zad (L zrB) z) (N znj (L zad) z))) (N zad (N zjS (N zad (L zad) z) (N zaD (L zr2) z)) (N zad (N zpH (L ztj) z) (L zoY))))) (N zad (N zau (N zad (N zad (N zad (L zqC) z) (N zru (L zrS) z)) (N zkN (N zad (L zpN) z) (N znc (L zad) z))) (N zhY (N zad (N znn (L zad) z) (N ztm (L zau) z)) (N zad (N zad (L zad) z) (L znv)))) (N zhF (N zad (N zjp (N zad (L zqr) z) (N zad (L zad) z)) (N zad (N zpi (L zrL) z) (N zaz (L ztc) z))) (N zad (N zad (N zad (L zqg) z) (N zmN (L zsu) z)) (N zl0 (N zad (L zsq) z) (L zoU)))))) (N x.r.a.a.f (N x.r.a.b.b (N zhB (N zhT (N zaz (N zmZ (L zpx) z) (N zrj (L zrQ) z)) (N zkI (N zaz (L zad) z) (N zad (L zau) z))) (N zib (N zkC (N zno (L zau) z) (N zrX (L zrN) z)) (N zaz (N zql (L zsN) z) (L zad)))) (N zhE (N zaz (N zjo (N zaz (L zpr) z) (N ztl (L ztf) z)) (N zkY (N zpd (L zsT) z) (N zmX (L zs3) z))) (N ziI (N zaz (N zn5 (L zqd) z) (N zm6 (L zad) z)) (N zmi (N zaz (L zau) z) (L zoS))))) (N zgU (N zhD (N zhJ (N zjq (N zng (L zau) z) (N zaz (L zau) z)) (N zaz (N zpe (L zad) z) (N zmO (L zsS) z))) (N zaz (N zks (N zaz (L zqu) z) (N zsr (L zad) z)) (N zmc (N zpK (L zrZ) z) (L zok)))) (N zaz (N zh5 (N zaz (N zns (L zqk) z) (N zss (L zsY) z)) (N zk5 (N zaz (L zau) z) (N zad (L zr5) z))) (N zix (N zkK (N zn7 (L zqF) z) (N zmG (L zsa) z)) (N zaz (N zre (L zad) z) (L zaD))))))) (N x.r.a.a.c (N x.r.a.a.e (N x.r.a.b.a (N zaz (N zau (N zaD (N zau (L zad) z) (N zrc (L zad) z)) (N zkJ (N zaD (L zqi) z) (N zmD (L zad) z))) (N zid (N zau (N znp (L zad) z) (N zrK (L zsm) z)) (N zaD (N zau (L zsc) z) (L zoa)))) (N zp7 (N zaD (N zjl (N zaD (L zqf) z) (N zsn (L zsH) z)) (N zau (N zpg (L zad) z) (N zmx (L zau) z))) (N zau (N zaD (N zau (L zau) z) (N zaz (L zsP) z)) (N zmj (N zaD (L zad) z) (L zoB))))) (N b1084 (N zhA (N zhV (N zau (N zmJ (L zad) z) (N zaD (L zad) z)) (N zaD (N zau (L zqM) z) (N znd (L zsv) z))) (N zaD (N zjH (N zaD (L zpG) z) (N zsj (L zsR) z)) (N zau (N zpz (L zau) z) (L zad)))) (N zaD (N zau (N zaD (N zau (L zpE) z) (N zau (L zau) z)) (N zlB (N zaD (L zad) z) (N znS (L zrT) z))) (N ziJ (N zau (N znB (L zpI) z) (N zmY (L zad) z)) (N zaD (N zau (L ztn) z) (L znT)))))) (N x.r.a.a.g (N x.r.a.b.c (N zad (N zhK (N zjj (N zmt (L zqx) z) (N zrd (L zrJ) z)) (N zkS (N zpm (L zpM) z) (N zna (L zr6) z))) (N zh3 (N zkh (N znt (L zpy) z) (N zrM (L zad) z)) (N zmb (N zpT (L zsl) z) (L zau)))) (N zhH (N zh6 (N zjm (N znm (L zqO) z) (N zsi (L zrv) z)) (N zkZ (N zpj (L zsB) z) (N zaD (L zad) z))) (N ziK (N zkP (N zoe (L zad) z) (N zad (L zau) z)) (N zl4 (N zro (L zsX) z) (L zoK))))) (N zgO (N zad (N zhR (N zjn (N zmT (L zqZ) z) (N zti (L zsM) z)) (N zlO (N zpk (L zau) z) (N zmp (L zsI) z))) (N ziX (N zkH (N znW (L zqh) z) (N zsU (L zrD) z)) (N zlQ (N zqH (L zs4) z) (L znN)))) (N zhP (N zh8 (N zj9 (N znr (L zqz) z) (N zad (L zad) z)) (N zlr (N zqR (L zsD) z) (L zn6))) (N ziw (N zkM (N znK (L zad) z) (N zad (L zrE) z)) (N zmS (N zq4 (L zau) z) (L zaz))))))))
def m1223 : W.BT := (N x.r.a.a.a (N x.r.a.a.b (N zuC (N x.r.a.a.h (N zhC (N zad (N ziM (N zad (L zqU) (L zad)) (N zad (L zth) z)) (N zad (N zpb (L zau) (L ztK)) (N zau (L zrP) z))) (N zad (N zad (N zad (L zqw) (L zur)) (N zrz (L zrx) z)) (N zk4 (N zad (L zad) z) (N zoh (L zau) z)))) (N zhG (N zhU (N zad (N znf (L zad) (L zut)) (N zad (L zad) z)) (N zad (N zad (L zrB) (L zug)) (N znj (L zad) z))) (N zad (N zjS (N zad (L zad) (L zad)) (N zaD (L zr2) z)) (N zad (N zpH (L ztj) z) (N zoY (L zuu) z))))) (N zad (N zau (N zad (N zad (N zad (L zqC) (L zad)) (N zru (L zrS) z)) (N zkN (N zad (L zpN) (L zau)) (N znc (L zad) z))) (N zhY (N zad (N znn (L zad) (L ztR)) (N ztm (L zau) z)) (N zad (N zad (L zad) z) (N znv (L ztY) z)))) (N zhF (N zad (N zjp (N zad (L zqr) (L zt5)) (N zad (L zad) z)) (N zad (N zpi (L zrL) (L zuU)) (N zaz (L ztc) z))) (N zad (N zad (N zad (L zqg) (L zad)) (N zmN (L zsu) z)) (N zl0 (N zad (L zsq) z) (N zoU (L ztB) z)))))) (N x.r.a.a.f (N x.r.a.b.b (N zhB (N zhT (N zaz (N zmZ (L zpx) (L zt7)) (N zrj (L zrQ) z)) (N zkI (N zaz (L zad) (L zuJ)) (N zad (L zau) z))) (N zib (N zkC (N zno (L zau) (L zuS)) (N zrX (L zrN) z)) (N zaz (N zql (L zsN) z) (N zad (L zad) z)))) (N zhE (N zaz (N zjo (N zaz (L zpr) (L zau)) (N ztl (L ztf) z)) (N zkY (N zpd (L zsT) (L zad)) (N zmX (L zs3) z))) (N ziI (N zaz (N zn5 (L zqd) (L zuk)) (N zm6 (L zad) z)) (N zmi (N zaz (L zau) z) (N zoS (L ztI) z))))) (N zgU (N zhD (N zhJ (N zjq (N zng (L zau) (L zuN)) (N zaz (L zau) z)) (N zaz (N zpe (L zad) (L zad)) (N zmO (L zsS) z))) (N zaz (N zks (N zaz (L zqu) (L zau)) (N zsr (L zad) z)) (N zmc (N zpK (L zrZ) z) (N zok (L zad) z)))) (N zaz (N zh5 (N zaz (N zns (L zqk) (L zad)) (N zss (L zsY) z)) (N zk5 (N zaz (L zau) (L ztE)) (N zad (L zr5) z))) (N zix (N zkK (N zn7 (L zqF) (L zuc)) (N zmG (L zsa) z)) (N zaz (N zre (L zad) z) (N zaD (L zau) z))))))) (N x.r.a.a.c (N x.r.a.a.e (N x.r.a.b.a (N zaz (N zau (N zaD (N zau (L zad) (L zum)) (N zrc (L zad) z)) (N zkJ (N zaD (L zqi) (L zuh)) (N zmD (L zad) z))) (N zid (N zau (N znp (L zad) (L zad)) (N zrK (L zsm) z)) (N zaD (N zau (L zsc) z) (N zoa (L ztT) z)))) (N zp7 (N zaD (N zjl (N zaD (L zqf) (L zad)) (N zsn (L zsH) z)) (N zau (N zpg (L zad) (L zuL)) (N zmx (L zau) z))) (N zau (N zaD (N zau (L zau) (L ztV)) (N zaz (L zsP) z)) (N zmj (N zaD (L zad) z) (N zoB (L zad) z))))) (N zuE (N zhA (N zhV (N zau (N zmJ (L zad) (L zau)) (N zaD (L zad) z)) (N zaD (N zau (L zqM) (L zuw)) (N znd (L zsv) z))) (N zaD (N zjH (N zaD (L zpG) (L zad)) (N zsj (L zsR) z)) (N zau (N zpz (L zau) z) (N zad (L zua) z)))) (N zaD (N zau (N zaD (N zau (L zpE) (L zup)) (N zau (L zau) z)) (N zlB (N zaD (L zad) (L zus)) (N znS (L zrT) z))) (N ziJ (N zau (N znB (L zpI) (L zau)) (N zmY (L zad) z)) (N zaD (N zau (L ztn) z) (N znT (L zad) z)))))) (N x.r.a.a.g (N x.r.a.b.c (N zad (N zhK (N zjj (N zmt (L zqx) (L ztD)) (N zrd (L zrJ) z)) (N zkS (N zpm (L zpM) (L zad)) (N zna (L zr6) z))) (N zh3 (N zkh (N znt (L zpy) (L ztG)) (N zrM (L zad) z)) (N zmb (N zpT (L zsl) z) (N zau (L zuy) z)))) (N zhH (N zh6 (N zjm (N znm (L zqO) (L ztM)) (N zsi (L zrv) z)) (N zkZ (N zpj (L zsB) (L zau)) (N zaD (L zad) z))) (N ziK (N zkP (N zoe (L zad) (L ztC)) (N zad (L zau) z)) (N zl4 (N zro (L zsX) z) (N zoK (L zuD) z))))) (N zgO (N zad (N zhR (N zjn (N zmT (L zqZ) (L ztP)) (N zti (L zsM) z)) (N zlO (N zpk (L zau) (L zuo)) (N zmp (L zsI) z))) (N ziX (N zkH (N znW (L zqh) (L zul)) (N zsU (L zrD) z)) (N zlQ (N zqH (L zs4) z) (N znN (L zau) z)))) (N zhP (N zh8 (N zj9 (N znr (L zqz) (L zau)) (N zad (L zad) z)) (N zlr (N zqR (L zsD) z) (N zn6 (L zad) z))) (N ziw (N zkM (N znK (L zad) (L zad)) (N zad (L zrE) z)) (N zmS (N zq4 (L zau) z) (N zaz (L zuq) z))))))))
def m1224 : Heap := ⟨⟨[x.r.a.a.a, x.r.a.a.b, x.r.a.a.c, zuC, x.r.a.a.e, x.r.a.a.f, x.r.a.a.g, x.r.a.a.h, x.r.a.b.a, x.r.a.b.b, x.r.a.b.c, zad, zuE, zgU, zgO, zhC, zaz, zhB, zad, zau, zhA, zhD, zad, zhG, zp7, zhE, zhH, zhF, zaD, zaz, zhP, zad, zau, zhT, zhK, zad, zhV, zhJ, zhR, zhU, zaD, zaz, zh6, zad, zau, zh5, zh8, zad, zid, zib, zh3, zhY, zaD, zaz, ziX, zad, zau, ziI, ziK, zad, ziJ, zix, ziw, ziM, zaD, zaz, zjj, zad, zau, zjq, zjn, zad, zjl, zjo, zjm, zjp, zaD, zaz, zj9, zad, zau, zkC, zkh, zad, zjH, zks, zkH, zjS, zaD, zaz, zkP, zad, zau, zkK, zkM, zad, zkJ, zkI, zkS, zkN, zaD, zaz, zlO, zad, zau, zkY, zkZ, zad, zlB, zk5, zlr, zk4, zaD, zaz, zmb, zad, zau, zmc, zlQ, zad, zmj, zmi, zl4, zl0, zaD, zaz, zmS, zad, zau, zmZ, zmt, zad, zmJ, zng, zmT, znf, zaD, zaz, znm, zad, zau, zns, znr, zad, znp, zno, znt, znn, zaD, zaz, znW, zad, zau, zn5, zoe, zad, znB, zn7, znK, zpb, zaD, zaz, zpm, zad, zau, zpe, zpk, zad, zpg, zpd, zpj, zpi, zaD, zaz, zqR, zad, zau, zql, zpT, zad, zpz, zpK, zqH, zpH, zaD, zaz, zro, zad, zau, zre, zq4, zad, zrc, zrj, zrd, zru, zaD, zaz, zti, zad, zsn, ztl, zsi, zad, zau, zss, zad, zrz, zrK, zrX, zrM, ztm, zsj, zsr, zsU, zaD, zaz, zm6, zad, zmN, zmY, zmG, zad, zau, zmD, zad, zna, znc, znd, zmO, zmp, znj, zmx, zmX, zaD, zaz, znS, zad, zn6, zoh, zoa, zad, zau, znv, zad, zok, znN, zoY, zoB, zoS, zoK, zoU, znT, zaD, zaz, zqU, zad, zpx, zqx, zqC, zad, zau, zqZ, zad, zqf, zpr, zqO, zqr, zpE, zqk, zqz, zqw, zad, zau, zpy, zad, zpG, zqu, zqh, zad, zau, zqd, zad, zqg, zpI, zqF, zad, zau, zqi, zad, zpM, zpN, zqM, zad, zau, zrB, zad, zsT, zsB, zrL, zad, zau, zsD, zad, zsc, zsN, zsl, zad, zau, zrZ, zs4, ztj, zad, zau, zsX, zsq, ztn, zad, zau, zth, zad, zrQ, zrJ, zrS, zad, zau, zsM, zad, zsH, ztf, zrv, zad, zau, zsY, zad, zrx, zsm, zrN, zad, zau, zsR, zad, zrD, zr2, zsP, zad, zau, zsu, zad, zsa, zrE, zrP, zad, zau, zr6, zad, zsv, zsS, zsI, zad, zau, zs3, zad, ztc, zrT, zr5, zad, zau, ztT, zad, zuy, ztY, zua, zad, zau, zuu, zad, ztI, zuD, ztB, zad, zau, zuq, zad, zum, zt7, ztD, zad, zau, zuN, ztP, zut, zad, zau, ztM, zt5, zup, zad, zau, zur, zad, zuS, ztG, ztR, zad, zau, zul, zad, ztV, zuk, ztC, zad, zau, zuc, zad, ztK, zuh, zuJ, zad, zau, zuw, zad, zuo, zug, zuL, zad, zau, zuU, zus, ztE]⟩, ⟨[], [], [], 0, [], [], false, #[], [], 0, false, false, false, 0, [2000, 10, 10], false, 0, true, [], [], 0, false⟩⟩
end
def m739v (p : Program) : Program := { p with main := { p.main with body := [sp p 1, sp p 2, sp p 3, sp p 4, sp p 5, sp p 6, sp p 7, sp p 8, sp p 9, sp p 10, sp p 11, sp p 12, sp p 13, sp p 14, sp p 15, sp p 16, sp p 17, sp p 18, sp p 19, sp p 21, sp p 22, sp p 24, sp p 25, sp p 26, sp p 27, sp p 28, sp p 29, sp p 31, sp p 32, sp p 33, sp p 34, sp p 35, sp p 36, sp p 37, sp p 38, sp p 40, sp p 41, sp p 42, sp p 43, sp p 44, sp p 45, sp p 46, sp p 47, sp p 48, sp p 49, sp p 50, sp p 51, sp p 52] } }
def m749s (p : Program) : List Stmt := [sp p 0, sp p 1]
def m764s (p : Program) : List Stmt := [sp p 2]
def m779s (p : Program) : List Stmt := [sp p 3]
def m794s (p : Program) : List Stmt := [sp p 4]
def m809s (p : Program) : List Stmt := [sp p 5]
def m824s (p : Program) : List Stmt := [sp p 6]
def m839s (p : Program) : List Stmt := [sp p 7]
def m854s (p : Program) : List Stmt := [sp p 8]
def m869s (p : Program) : List Stmt := [sp p 9]
def m884s (p : Program) : List Stmt := [sp p 10]
def m899s (p : Program) : List Stmt := [sp p 11]
def m914s (p : Program) : List Stmt := [sp p 12]
def m929s (p : Program) : List Stmt := [sp p 13]
def m944s (p : Program) : List Stmt := [sp p 14]
def m959s (p : Program) : List Stmt := [sp p 15]
def m974s (p : Program) : List Stmt := [sp p 16]
def m996s (p : Program) : List Stmt := [sp p 17]
def m1018s (p : Program) : List Stmt := [sp p 18]
def m1040s (p : Program) : List Stmt := [sp p 19, sp p 20, sp p 21, sp p 22, sp p 23, sp p 24, sp p 25, sp p 26, sp p 27]
def m1083s (p : Program) : List Stmt := [sp p 28, sp p 29, sp p 30, sp p 31, sp p 32, sp p 33, sp p 34, sp p 35, sp p 36, sp p 37, sp p 38, sp p 39, sp p 40, sp p 41, sp p 42]
def m1158s (p : Program) : List Stmt := [sp p 43, sp p 44, sp p 45, sp p 46, sp p 47, sp p 48, sp p 49, sp p 50, sp p 51, sp p 52]
def u0 : Q Str := ⟨Str.ofString "<module>", Str.ofString "/claim/cut.py", Str.ofString "__main__", Str.ofString "__name__", Str.ofString "hideworth.errors", Str.ofString "__doc__", Str.ofString "__package__", Str.ofString "__loader__"⟩
def u1 : Q Str := ⟨Str.ofString "__spec__", Str.ofString "__annotations__", Str.ofString "__builtins__", Str.ofString "__file__", Str.ofString "__cached__", Str.ofString "HideError", Str.ofString "__module__", Str.ofString "__qualname__"⟩
def u2 : Q Str := ⟨Str.ofString "__firstlineno__", Str.ofString "__static_attributes__", Str.ofString "__weakref__", Str.ofString "NoNumber", Str.ofString "NoTable", Str.ofString "NoBoxes", Str.ofString "NoBudget", Str.ofString "NoOrder"⟩
def u3 : Q Str := ⟨Str.ofString "NoWeights", Str.ofString "TooGreat", Str.ofString "NoKind", Str.ofString "NoTree", Str.ofString "NoTurns", Str.ofString "NoPlay", Str.ofString "NoRow", Str.ofString "NoName"⟩
def u4 : Q Str := ⟨Str.ofString "NoRoad", Str.ofString "NoWeb", Str.ofString "__init__", Str.ofString "self", Str.ofString "road", Str.ofString "NoWeb.__init__", Str.ofString "NoPlan", Str.ofString "at"⟩
def u5 : Q Str := ⟨Str.ofString "NoPlan.__init__", Str.ofString "NoText", Str.ofString "row", Str.ofString "NoText.__init__", Str.ofString "hideworth.webs", Str.ofString "NoPaper", Str.ofString "is_whole", Str.ofString "is_within"⟩
def u6 : Q Str := ⟨Str.ofString "MOST_PLACES", Str.ofString "MOST_ROADS", Str.ofString "MOST_LENGTH", Str.ofString "is_road", Str.ofString "k", Str.ofString "NoPaper.__init__", Str.ofString "thing", Str.ofString "hideworth.checks"⟩
def u7 : Q Str := ⟨Str.ofString "least", Str.ofString "most", Str.ofString "many", Str.ofString "a", Str.ofString "b", Str.ofString "length", Str.ofString "law_hideworth_k81_webs_read", Str.ofString "places_come_to"⟩
def u8 : Q Str := ⟨Str.ofString "look_web", Str.ofString "FIGURES", Str.ofString "0123456789", Str.ofString "MOST_FIGURES", Str.ofString "number_in", Str.ofString "numbers_in", Str.ofString "many_in", Str.ofString "road_in"⟩
def u9 : Q Str := ⟨Str.ofString "read_rows", Str.ofString "read_web", Str.ofString "_law_mixed", Str.ofString "_law_whole", Str.ofString "_law_class", Str.ofString "roads", Str.ofString "come", Str.ofString "before"⟩
def u10 : Q Str := ⟨Str.ofString "web", Str.ofString "hideworth.texts", Str.ofString "words", Str.ofString "numbers", Str.ofString "text", Str.ofString "read_row", Str.ofString "rows", Str.ofString "read"⟩
def u11 : Q Str := ⟨Str.ofString "_law_script", Str.ofString "_law_k", Str.ofString "_law_at", Str.ofString "_law_cell", Str.ofString "_law_j", Str.ofString "_law_number", Str.ofString "_law_told_here", Str.ofString "_law_caught"⟩
def u12 : Q Str := ⟨Str.ofString "_law_tests", Str.ofString "_law_length", Str.ofString "_law_web", Str.ofString "_law_due", Str.ofString "_law_word_number", Str.ofString "_law_first_wrong", Str.ofString "_law_text", Str.ofString "_law_bent"⟩
def u13 : Q Str := ⟨Str.ofString "_law_same", Str.ofString "_law_told", Str.ofString "law", Str.ofString "_law_way", Str.ofString "_law_start", Str.ofString "_law_most", Str.ofString "_law_extra", Str.ofString "_law_many"⟩
def u14 : Q Str := ⟨Str.ofString "_law_shape", Str.ofString "_law_labels", Str.ofString "_law_left", Str.ofString "_law_roads", Str.ofString "_law_other", Str.ofString "_law_ends", Str.ofString "_law_a", Str.ofString "_law_b"⟩
def u15 : Q Str := ⟨Str.ofString "_law_web_here", Str.ofString "_law_length_here", Str.ofString "_law_come", Str.ofString "_law_place", Str.ofString "_law_text_here", Str.ofString "_law_draws", Str.ofString "_law_some", Str.ofString "_law_sign"⟩
def u16 : Q Str := ⟨Str.ofString "_law_rows", Str.ofString "_law_row", Str.ofString "_law_to", Str.ofString "_law_odd", Str.ofString "_law_due_here", Str.ofString "_law_one", Str.ofString "e", Str.ofString "e"⟩
def v0 : Q String := ⟨"tuple", "code", "frame", "dict", "__main__.__loader__#opaque", "ValueError", "builtin_function_or_method", "type.__prepare__"⟩
def v1 : Q String := ⟨"type", "Exception", "BaseException", "object", "ValueError.__new__", "getset_descriptor", "ExceptionGroup.__weakref__", "super"⟩
def v2 : Q String := ⟨"object.__init_subclass__", "function", "function", "function", "function", "function", "function", "function"⟩
def w0 (P : Params) : Q Obj := ⟨W.boot_o_0 P, W.boot_o_1 P, W.boot_o_2 P, W.boot_o_3 P, W.boot_o_4 P, W.boot_o_5 P, W.boot_o_6 P, W.boot_o_7 P⟩
def w1 (P : Params) : Q Obj := ⟨W.boot_o_8 P, W.boot_o_9 P, W.boot_o_10 P, W.boot_o_10 P, W.boot_o_10 P, W.boot_o_10 P, W.boot_o_10 P, W.boot_o_10 P⟩
lay_quick u0 u1 u2 u3 u4 u5 u6 u7 u8 u9 u10 u11 u12 u13 u14 u15 u16 v0 v1 v2 w0 w1 PySem.Challenge.pw_hideworth_k81_webs_read
def K (a' b' c' d' e' f' g' h' i' j' k' l' m' n' o' p' q' : Q Str) (r' s' t' : Q String) (u' v' : Params → Q Obj) (w' : Program) (P : Params) : X := ⟨⟨⟨a',b',c',d',e',f',g',h'⟩,⟨i',j',k',l',m',n',o',p'⟩,⟨q',q',q',q',q',q',q',q'⟩,⟨q',q',q',q',q',q',q',q'⟩,⟨q',q',q',q',q',q',q',q'⟩,⟨q',q',q',q',q',q',q',q'⟩,⟨q',q',q',q',q',q',q',q'⟩,⟨q',q',q',q',q',q',q',q'⟩⟩,⟨⟨r',s',t',t',t',t',t',t'⟩,⟨r',s',t',t',t',t',t',t'⟩,⟨r',s',t',t',t',t',t',t'⟩,⟨r',s',t',t',t',t',t',t'⟩,⟨r',s',t',t',t',t',t',t'⟩,⟨r',s',t',t',t',t',t',t'⟩,⟨r',s',t',t',t',t',t',t'⟩,⟨r',s',t',t',t',t',t',t'⟩⟩,⟨⟨u' P,v' P,v' P,v' P,v' P,v' P,v' P,v' P⟩,⟨u' P,v' P,v' P,v' P,v' P,v' P,v' P,v' P⟩,⟨u' P,v' P,v' P,v' P,v' P,v' P,v' P,v' P⟩,⟨u' P,v' P,v' P,v' P,v' P,v' P,v' P,v' P⟩,⟨u' P,v' P,v' P,v' P,v' P,v' P,v' P,v' P⟩,⟨u' P,v' P,v' P,v' P,v' P,v' P,v' P,v' P⟩,⟨u' P,v' P,v' P,v' P,v' P,v' P,v' P,v' P⟩,⟨u' P,v' P,v' P,v' P,v' P,v' P,v' P,v' P⟩⟩,w',P⟩
def k0 := K u0 u1 u2 u3 u4 u5 u6 u7 u8 u9 u10 u11 u12 u13 u14 u15 u16 v0 v1 v2 w0 w1 PySem.Challenge.pw_hideworth_k81_webs_read
def k1 := K tw13894225608423057668 tw17531079430653816501 tw13809737476558091540 tw2367299412457286945 tw1912701158020654693 tw2188347355606102534 tw16368670287772101220 tw14842115654739255404 tw4717311838995323452 tw594758545415977400 tw10895325593200808953 tw10037743213843438893 tw10009084784789568687 tw5084553986333570498 tw16641277437810104112 tw11875653558476324687 tw1672153094372761355 tw15633551313878501473 tw10735261366311057212 tw13734974896645664886 tw1278260381020688717 tw13492767390215788210 tw7354243603880899941
theorem ke : k0 = k1 := by
  unfold k0 k1
  rw [te13894225608423057668, te17531079430653816501, te13809737476558091540, te2367299412457286945, te1912701158020654693, te2188347355606102534, te16368670287772101220, te14842115654739255404, te4717311838995323452, te594758545415977400, te10895325593200808953, te10037743213843438893, te10009084784789568687, te5084553986333570498, te16641277437810104112, te11875653558476324687, te1672153094372761355, te15633551313878501473, te10735261366311057212, te13734974896645664886, te1278260381020688717, te13492767390215788210, te7354243603880899941]
theorem kE {β : Type _} (f : X → β) : (fun P => f (k0 P)) = fun P => f (k1 P) := congrArg (fun y P => f (y P)) ke
end Hd
namespace PySem.W.Fast
def tw10413063946584593020 : Program := Hd.m739v tw7354243603880899941
theorem te10413063946584593020 : Hd.m739v PySem.Challenge.pw_hideworth_k81_webs_read = tw10413063946584593020 := congrArg Hd.m739v te7354243603880899941
def tw11089882748891128458 (P : Params) : Heap := @Hd.m746 (Hd.k1 P)
theorem te11089882748891128458 : (fun P => @Hd.m746 (Hd.k0 P)) = tw11089882748891128458 := Hd.kE @Hd.m746
def tw17006196106626945456 (P : Params) : BT := @Hd.m747 (Hd.k1 P)
theorem te17006196106626945456 : (fun P => @Hd.m747 (Hd.k0 P)) = tw17006196106626945456 := Hd.kE @Hd.m747
def tw13057553384166996103 : List Stmt := Hd.m749s tw7354243603880899941
theorem te13057553384166996103 : Hd.m749s PySem.Challenge.pw_hideworth_k81_webs_read = tw13057553384166996103 := congrArg Hd.m749s te7354243603880899941
def tw7316658849538575738 (P : Params) : BT := @Hd.m763 (Hd.k1 P)
theorem te7316658849538575738 : (fun P => @Hd.m763 (Hd.k0 P)) = tw7316658849538575738 := Hd.kE @Hd.m763
def tw6026384959835419929 : List Stmt := Hd.m764s tw7354243603880899941
theorem te6026384959835419929 : Hd.m764s PySem.Challenge.pw_hideworth_k81_webs_read = tw6026384959835419929 := congrArg Hd.m764s te7354243603880899941
def tw17932562070975909302 (P : Params) : BT := @Hd.m778 (Hd.k1 P)
theorem te17932562070975909302 : (fun P => @Hd.m778 (Hd.k0 P)) = tw17932562070975909302 := Hd.kE @Hd.m778
def tw14526076225295838079 : List Stmt := Hd.m779s tw7354243603880899941
theorem te14526076225295838079 : Hd.m779s PySem.Challenge.pw_hideworth_k81_webs_read = tw14526076225295838079 := congrArg Hd.m779s te7354243603880899941
def tw152243282308001381 (P : Params) : BT := @Hd.m793 (Hd.k1 P)
theorem te152243282308001381 : (fun P => @Hd.m793 (Hd.k0 P)) = tw152243282308001381 := Hd.kE @Hd.m793
def tw7243242323736335171 : List Stmt := Hd.m794s tw7354243603880899941
theorem te7243242323736335171 : Hd.m794s PySem.Challenge.pw_hideworth_k81_webs_read = tw7243242323736335171 := congrArg Hd.m794s te7354243603880899941
def tw7738368845078585782 (P : Params) : BT := @Hd.m808 (Hd.k1 P)
theorem te7738368845078585782 : (fun P => @Hd.m808 (Hd.k0 P)) = tw7738368845078585782 := Hd.kE @Hd.m808
def tw16911066235445699204 : List Stmt := Hd.m809s tw7354243603880899941
theorem te16911066235445699204 : Hd.m809s PySem.Challenge.pw_hideworth_k81_webs_read = tw16911066235445699204 := congrArg Hd.m809s te7354243603880899941
def tw3870033912726834614 (P : Params) : BT := @Hd.m823 (Hd.k1 P)
theorem te3870033912726834614 : (fun P => @Hd.m823 (Hd.k0 P)) = tw3870033912726834614 := Hd.kE @Hd.m823
def tw4878465414873681770 : List Stmt := Hd.m824s tw7354243603880899941
theorem te4878465414873681770 : Hd.m824s PySem.Challenge.pw_hideworth_k81_webs_read = tw4878465414873681770 := congrArg Hd.m824s te7354243603880899941
def tw4532706660763624327 (P : Params) : BT := @Hd.m838 (Hd.k1 P)
theorem te4532706660763624327 : (fun P => @Hd.m838 (Hd.k0 P)) = tw4532706660763624327 := Hd.kE @Hd.m838
def tw14989666527008700797 : List Stmt := Hd.m839s tw7354243603880899941
theorem te14989666527008700797 : Hd.m839s PySem.Challenge.pw_hideworth_k81_webs_read = tw14989666527008700797 := congrArg Hd.m839s te7354243603880899941
def tw6101703714840159744 (P : Params) : BT := @Hd.m853 (Hd.k1 P)
theorem te6101703714840159744 : (fun P => @Hd.m853 (Hd.k0 P)) = tw6101703714840159744 := Hd.kE @Hd.m853
def tw12253242170878757248 : List Stmt := Hd.m854s tw7354243603880899941
theorem te12253242170878757248 : Hd.m854s PySem.Challenge.pw_hideworth_k81_webs_read = tw12253242170878757248 := congrArg Hd.m854s te7354243603880899941
def tw8497157158677112765 (P : Params) : BT := @Hd.m868 (Hd.k1 P)
theorem te8497157158677112765 : (fun P => @Hd.m868 (Hd.k0 P)) = tw8497157158677112765 := Hd.kE @Hd.m868
def tw1627495388785782793 : List Stmt := Hd.m869s tw7354243603880899941
theorem te1627495388785782793 : Hd.m869s PySem.Challenge.pw_hideworth_k81_webs_read = tw1627495388785782793 := congrArg Hd.m869s te7354243603880899941
def tw16429723833002220757 (P : Params) : BT := @Hd.m883 (Hd.k1 P)
theorem te16429723833002220757 : (fun P => @Hd.m883 (Hd.k0 P)) = tw16429723833002220757 := Hd.kE @Hd.m883
def tw1447081732130311728 : List Stmt := Hd.m884s tw7354243603880899941
theorem te1447081732130311728 : Hd.m884s PySem.Challenge.pw_hideworth_k81_webs_read = tw1447081732130311728 := congrArg Hd.m884s te7354243603880899941
def tw11425532210245371057 (P : Params) : BT := @Hd.m898 (Hd.k1 P)
theorem te11425532210245371057 : (fun P => @Hd.m898 (Hd.k0 P)) = tw11425532210245371057 := Hd.kE @Hd.m898
def tw13794258716211550921 : List Stmt := Hd.m899s tw7354243603880899941
theorem te13794258716211550921 : Hd.m899s PySem.Challenge.pw_hideworth_k81_webs_read = tw13794258716211550921 := congrArg Hd.m899s te7354243603880899941
def tw14909432668431390666 (P : Params) : BT := @Hd.m913 (Hd.k1 P)
theorem te14909432668431390666 : (fun P => @Hd.m913 (Hd.k0 P)) = tw14909432668431390666 := Hd.kE @Hd.m913
def tw8135035345171650652 : List Stmt := Hd.m914s tw7354243603880899941
theorem te8135035345171650652 : Hd.m914s PySem.Challenge.pw_hideworth_k81_webs_read = tw8135035345171650652 := congrArg Hd.m914s te7354243603880899941
def tw7723952232058361187 (P : Params) : BT := @Hd.m928 (Hd.k1 P)
theorem te7723952232058361187 : (fun P => @Hd.m928 (Hd.k0 P)) = tw7723952232058361187 := Hd.kE @Hd.m928
def tw4228098959852639984 : List Stmt := Hd.m929s tw7354243603880899941
theorem te4228098959852639984 : Hd.m929s PySem.Challenge.pw_hideworth_k81_webs_read = tw4228098959852639984 := congrArg Hd.m929s te7354243603880899941
def tw4687118121037422757 (P : Params) : BT := @Hd.m943 (Hd.k1 P)
theorem te4687118121037422757 : (fun P => @Hd.m943 (Hd.k0 P)) = tw4687118121037422757 := Hd.kE @Hd.m943
def tw15562776188535897681 : List Stmt := Hd.m944s tw7354243603880899941
theorem te15562776188535897681 : Hd.m944s PySem.Challenge.pw_hideworth_k81_webs_read = tw15562776188535897681 := congrArg Hd.m944s te7354243603880899941
def tw1426556943462764386 (P : Params) : BT := @Hd.m958 (Hd.k1 P)
theorem te1426556943462764386 : (fun P => @Hd.m958 (Hd.k0 P)) = tw1426556943462764386 := Hd.kE @Hd.m958
def tw962863428115532996 : List Stmt := Hd.m959s tw7354243603880899941
theorem te962863428115532996 : Hd.m959s PySem.Challenge.pw_hideworth_k81_webs_read = tw962863428115532996 := congrArg Hd.m959s te7354243603880899941
def tw13795735745643593499 (P : Params) : BT := @Hd.m973 (Hd.k1 P)
theorem te13795735745643593499 : (fun P => @Hd.m973 (Hd.k0 P)) = tw13795735745643593499 := Hd.kE @Hd.m973
def tw17796568162444481226 : List Stmt := Hd.m974s tw7354243603880899941
theorem te17796568162444481226 : Hd.m974s PySem.Challenge.pw_hideworth_k81_webs_read = tw17796568162444481226 := congrArg Hd.m974s te7354243603880899941
def tw17698132544907978530 (P : Params) : BT := @Hd.m995 (Hd.k1 P)
theorem te17698132544907978530 : (fun P => @Hd.m995 (Hd.k0 P)) = tw17698132544907978530 := Hd.kE @Hd.m995
def tw8221551745316990559 : List Stmt := Hd.m996s tw7354243603880899941
theorem te8221551745316990559 : Hd.m996s PySem.Challenge.pw_hideworth_k81_webs_read = tw8221551745316990559 := congrArg Hd.m996s te7354243603880899941
def tw5821927165505948808 (P : Params) : BT := @Hd.m1017 (Hd.k1 P)
theorem te5821927165505948808 : (fun P => @Hd.m1017 (Hd.k0 P)) = tw5821927165505948808 := Hd.kE @Hd.m1017
def tw1090990297277368327 : List Stmt := Hd.m1018s tw7354243603880899941
theorem te1090990297277368327 : Hd.m1018s PySem.Challenge.pw_hideworth_k81_webs_read = tw1090990297277368327 := congrArg Hd.m1018s te7354243603880899941
def tw11424069301827408105 (P : Params) : BT := @Hd.m1039 (Hd.k1 P)
theorem te11424069301827408105 : (fun P => @Hd.m1039 (Hd.k0 P)) = tw11424069301827408105 := Hd.kE @Hd.m1039
def tw190530605419516570 : List Stmt := Hd.m1040s tw7354243603880899941
theorem te190530605419516570 : Hd.m1040s PySem.Challenge.pw_hideworth_k81_webs_read = tw190530605419516570 := congrArg Hd.m1040s te7354243603880899941
def tw18069972510882287414 (P : Params) : BT := @Hd.m1082 (Hd.k1 P)
theorem te18069972510882287414 : (fun P => @Hd.m1082 (Hd.k0 P)) = tw18069972510882287414 := Hd.kE @Hd.m1082
def tw4193335763241623179 : List Stmt := Hd.m1083s tw7354243603880899941
theorem te4193335763241623179 : Hd.m1083s PySem.Challenge.pw_hideworth_k81_webs_read = tw4193335763241623179 := congrArg Hd.m1083s te7354243603880899941
def tw1016127424464539064 (P : Params) : BT := @Hd.m1157 (Hd.k1 P)
theorem te1016127424464539064 : (fun P => @Hd.m1157 (Hd.k0 P)) = tw1016127424464539064 := Hd.kE @Hd.m1157
def tw13299637469425668945 : List Stmt := Hd.m1158s tw7354243603880899941
theorem te13299637469425668945 : Hd.m1158s PySem.Challenge.pw_hideworth_k81_webs_read = tw13299637469425668945 := congrArg Hd.m1158s te7354243603880899941
def tw2689581335619016113 (P : Params) : BT := @Hd.m1223 (Hd.k1 P)
theorem te2689581335619016113 : (fun P => @Hd.m1223 (Hd.k0 P)) = tw2689581335619016113 := Hd.kE @Hd.m1223
def tw1331761206302425276 (P : Params) : Heap := @Hd.m1224 (Hd.k1 P)
theorem te1331761206302425276 : (fun P => @Hd.m1224 (Hd.k0 P)) = tw1331761206302425276 := Hd.kE @Hd.m1224
end PySem.W.Fast
end
open PySem PySem.W PyProof.Rows PySem.W.X PySem.W.ZRun
set_option maxRecDepth 100000 in
set_option maxHeartbeats 0 in
theorem PySem.Challenge.cw_hideworth_k81_webs_read_holds : PySem.Challenge.rw_hideworth_k81_webs_read.Holds := by
 w_on;o_law;z_head;(case hw=>w_witness2)
 k_fill
 intro w s0 s1 m0 m1 G Y fa o pm cd doc dV kV ho hd hc hD hm hg xs vs as L h1 h2 h3 h4 h5
 z_open Y L KX ZH ZN ZT
 refine My.walk_at (l:=PySem.Challenge.rw_hideworth_k81_webs_read) KX (fun W=>W w s0 s1 m0 m1 G KX fa o pm cd doc dV kV ho hd hc hD hm hg xs vs as h1 h2 h3 h4 h5) (My.walk (l:=PySem.Challenge.rw_hideworth_k81_webs_read) rfl rfl (fun _ _ h=>h) ?hPt ?hC ?F)
 case hPt =>
  intro w
  k_is
 case hC =>
  intro w h KX
  refine' L2.zto KX ?lc (by decide)
  (case lc=>k_is)
 case F =>
  intro w mg fa h KX G hmg
  refine' My.zt4 hmg (My.zt9 ?hP (L2.zce ?l0 ?c0 ?k0) (mg_of KX G ?a0) (L2.zce ?l1 ?c1 ?k1) (mg_of KX G ?a1) (L2.zce ?l2 ?c2 ?k2) (mg_of KX G ?a2) (L2.zce ?l3 ?c3 ?k3) (mg_of KX G ?a3) (L2.zce ?l4 ?c4 ?k4) (mg_of KX G ?a4) (L2.zce ?l5 ?c5 ?k5) (mg_of KX G ?a5) (L2.zce ?l6 ?c6 ?k6) (mg_of KX G ?a6) (L2.zce ?l7 ?c7 ?k7) (mg_of KX G ?a7) (L2.zce ?l8 ?c8 ?k8) (mg_of KX G ?a8) (L2.zce ?l9 ?c9 ?k9) (mg_of KX G ?a9) (L2.zst ?l10 ?c10 ?k10) (mg_of KX G ?a10) (L2.zce ?l11 ?c11 ?k11) (mg_of KX G ?a11) (L2.zce ?l12 ?c12 ?k12) (mg_of KX G ?a12) (L2.zce ?l13 ?c13 ?k13) (mg_of KX G ?a13) (L2.zce ?l14 ?c14 ?k14) (mg_of KX G ?a14) (L2.zce ?l15 ?c15 ?k15) (mg_of KX G ?a15) (L2.zce ?l16 ?c16 ?k16) (mg_of KX G ?a16) (L2.zce ?l17 ?c17 ?k17) (mg_of KX G ?a17) (L2.zce ?l18 ?c18 ?k18) (mg_of KX G ?a18) (L2.zce ?l19 ?c19 ?k19) (mg_of KX G ?a19) (L2.zce ?l20 ?c20 ?k20) (mg_of KX G ?a20) (L2.zce ?l21 ?c21 ?k21) (mg_of KX G ?a21) (L2.zce ?l22 ?c22 ?k22) (mg_of KX G ?a22) (L2.zce ?l23 ?c23 ?k23) (mg_of KX G ?a23) (mg_none_of KX G ?z_isinstance) (mg_none_of KX G ?z_int) (mg_none_of KX G ?z_bool) (mg_none_of KX G ?z_list) (mg_none_of KX G ?z_len) (mg_none_of KX G ?z_all) (mg_none_of KX G ?z_range) (mg_none_of KX G ?z_tuple) (mg_none_of KX G ?z_str) (mg_none_of KX G ?z_enumerate) (mg_none_of KX G ?z_zip) (mg_none_of KX G ?z_min) (mg_none_of KX G ?z_max) (mg_none_of KX G ?z_ValueError) (mg_of KX G ?ac_HideError) (mg_of KX G ?ac_NoNumber) (mg_of KX G ?ac_NoTable) (mg_of KX G ?ac_NoBoxes) (mg_of KX G ?ac_NoBudget) (mg_of KX G ?ac_NoOrder) (mg_of KX G ?ac_NoWeights) (mg_of KX G ?ac_TooGreat) (mg_of KX G ?ac_NoKind) (mg_of KX G ?ac_NoTree) (mg_of KX G ?ac_NoTurns) (mg_of KX G ?ac_NoPlay) (mg_of KX G ?ac_NoRow) (mg_of KX G ?ac_NoName) (mg_of KX G ?ac_NoRoad) (mg_of KX G ?ac_NoWeb) (mg_of KX G ?ac_NoPlan) (mg_of KX G ?ac_NoText) (mg_of KX G ?ac_NoPaper) (mg_of KX G ?ak_MOST_PLACES) (mg_of KX G ?ak_MOST_ROADS) (mg_of KX G ?ak_MOST_LENGTH) (mg_of KX G ?ak_MOST_FIGURES) (mg_of KX G ?ak_FIGURES) ?xc_HideError ?vsg ?vrd ?vfc ?vin_NoWeb ?vl_NoWeb ?vc_NoWeb ?vk_NoWeb ?vlk_NoWeb ?vtl_NoWeb ?vfn_NoWeb ?vkp_NoWeb ?vmo_NoWeb ?vsa_NoWeb ?vga_NoWeb ?vgn_NoWeb ?vcl_NoWeb ?vmb_NoWeb ?vhd_NoWeb ?vna_NoWeb ?vin_NoText ?vl_NoText ?vc_NoText ?vk_NoText ?vlk_NoText ?vtl_NoText ?vfn_NoText ?vkp_NoText ?vmo_NoText ?vsa_NoText ?vga_NoText ?vgn_NoText ?vcl_NoText ?vmb_NoText ?vhd_NoText ?vna_NoText ?su_NoWeb ?i_k_NoNumber ?i_k_NoTable ?i_k_NoBoxes ?i_k_NoBudget ?i_k_NoOrder ?i_k_NoWeights ?i_k_TooGreat ?i_k_NoKind ?i_k_NoTree ?i_k_NoTurns ?i_k_NoPlay ?i_k_NoRow ?i_k_NoName ?i_k_NoRoad ?i_k_NoWeb ?i_k_NoPlan ?i_k_NoText ?i_k_NoPaper ?i_k_ValueError ?i_sub ?e_ga ?e_gn ?e_cl ?e_mb ?e_mo)
  (case hP=>k_is)
  (case ac_HideError=>k_is)
  (case ac_NoNumber=>k_is)
  (case ac_NoTable=>k_is)
  (case ac_NoBoxes=>k_is)
  (case ac_NoBudget=>k_is)
  (case ac_NoOrder=>k_is)
  (case ac_NoWeights=>k_is)
  (case ac_TooGreat=>k_is)
  (case ac_NoKind=>k_is)
  (case ac_NoTree=>k_is)
  (case ac_NoTurns=>k_is)
  (case ac_NoPlay=>k_is)
  (case ac_NoRow=>k_is)
  (case ac_NoName=>k_is)
  (case ac_NoRoad=>k_is)
  (case ac_NoWeb=>k_is)
  (case ac_NoPlan=>k_is)
  (case ac_NoText=>k_is)
  (case ac_NoPaper=>k_is)
  (case a0=>k_is)
  (case a1=>k_is)
  (case a2=>k_is)
  (case a3=>k_is)
  (case a4=>k_is)
  (case a5=>k_is)
  (case a6=>k_is)
  (case a7=>k_is)
  (case a8=>k_is)
  (case a9=>k_is)
  (case a10=>k_is)
  (case a11=>k_is)
  (case a12=>k_is)
  (case a13=>k_is)
  (case a14=>k_is)
  (case a15=>k_is)
  (case a16=>k_is)
  (case a17=>k_is)
  (case a18=>k_is)
  (case a19=>k_is)
  (case a20=>k_is)
  (case a21=>k_is)
  (case a22=>k_is)
  (case a23=>k_is)
  (case l0=>k_is)
  (case c0=>k_is)
  (case k0=>k_is)
  (case l1=>k_is)
  (case c1=>k_is)
  (case k1=>k_is)
  (case l2=>k_is)
  (case c2=>k_is)
  (case k2=>k_is)
  (case l3=>k_is)
  (case c3=>k_is)
  (case k3=>k_is)
  (case l4=>k_is)
  (case c4=>k_is)
  (case k4=>k_is)
  (case l5=>k_is)
  (case c5=>k_is)
  (case k5=>k_is)
  (case l6=>k_is)
  (case c6=>k_is)
  (case k6=>k_is)
  (case l7=>k_is)
  (case c7=>k_is)
  (case k7=>k_is)
  (case l8=>k_is)
  (case c8=>k_is)
  (case k8=>k_is)
  (case l9=>k_is)
  (case c9=>k_is)
  (case k9=>k_is)
  (case l10=>k_is)
  (case c10=>k_is)
  (case k10=>k_is)
  (case l11=>k_is)
  (case c11=>k_is)
  (case k11=>k_is)
  (case l12=>k_is)
  (case c12=>k_is)
  (case k12=>k_is)
  (case l13=>k_is)
  (case c13=>k_is)
  (case k13=>k_is)
  (case l14=>k_is)
  (case c14=>k_is)
  (case k14=>k_is)
  (case l15=>k_is)
  (case c15=>k_is)
  (case k15=>k_is)
  (case l16=>k_is)
  (case c16=>k_is)
  (case k16=>k_is)
  (case l17=>k_is)
  (case c17=>k_is)
  (case k17=>k_is)
  (case l18=>k_is)
  (case c18=>k_is)
  (case k18=>k_is)
  (case l19=>k_is)
  (case c19=>k_is)
  (case k19=>k_is)
  (case l20=>k_is)
  (case c20=>k_is)
  (case k20=>k_is)
  (case l21=>k_is)
  (case c21=>k_is)
  (case k21=>k_is)
  (case l22=>k_is)
  (case c22=>k_is)
  (case k22=>k_is)
  (case l23=>k_is)
  (case c23=>k_is)
  (case k23=>k_is)
  (case z_isinstance=>k_is)
  (case z_int=>k_is)
  (case z_bool=>k_is)
  (case z_list=>k_is)
  (case z_len=>k_is)
  (case z_all=>k_is)
  (case z_range=>k_is)
  (case z_tuple=>k_is)
  (case z_str=>k_is)
  (case z_enumerate=>k_is)
  (case z_zip=>k_is)
  (case z_min=>k_is)
  (case z_max=>k_is)
  (case z_ValueError=>k_is)
  (case ak_MOST_PLACES=>k_is)
  (case ak_MOST_ROADS=>k_is)
  (case ak_MOST_LENGTH=>k_is)
  (case ak_MOST_FIGURES=>k_is)
  (case ak_FIGURES=>k_is)
  (case xc_HideError=>k_exc)
  (case vsg=>k_is)
  (case vrd=>k_is)
  (case vfc=>k_is)
  (case vin_NoWeb=>k_is)
  (case vl_NoWeb=>k_is)
  (case vc_NoWeb=>k_is)
  (case vk_NoWeb=>k_is)
  (case vlk_NoWeb=>k_is)
  (case vtl_NoWeb=>kernel_rfl)
  (case vfn_NoWeb=>k_is)
  (case vkp_NoWeb=>k_is)
  (case vmo_NoWeb=>k_is)
  (case vsa_NoWeb=>k_is)
  (case vga_NoWeb=>k_is)
  (case vgn_NoWeb=>k_is)
  (case vcl_NoWeb=>k_is)
  (case vmb_NoWeb=>k_is)
  (case vhd_NoWeb=>k_is)
  (case vna_NoWeb=>k_is)
  (case vin_NoText=>k_is)
  (case vl_NoText=>k_is)
  (case vc_NoText=>k_is)
  (case vk_NoText=>k_is)
  (case vlk_NoText=>k_is)
  (case vtl_NoText=>kernel_rfl)
  (case vfn_NoText=>k_is)
  (case vkp_NoText=>k_is)
  (case vmo_NoText=>k_is)
  (case vsa_NoText=>k_is)
  (case vga_NoText=>k_is)
  (case vgn_NoText=>k_is)
  (case vcl_NoText=>k_is)
  (case vmb_NoText=>k_is)
  (case vhd_NoText=>k_is)
  (case vna_NoText=>k_is)
  (case su_NoWeb=>k_is)
  (case i_k_NoNumber=>kit_is)
  (case i_k_NoTable=>kit_is)
  (case i_k_NoBoxes=>kit_is)
  (case i_k_NoBudget=>kit_is)
  (case i_k_NoOrder=>kit_is)
  (case i_k_NoWeights=>kit_is)
  (case i_k_TooGreat=>kit_is)
  (case i_k_NoKind=>kit_is)
  (case i_k_NoTree=>kit_is)
  (case i_k_NoTurns=>kit_is)
  (case i_k_NoPlay=>kit_is)
  (case i_k_NoRow=>kit_is)
  (case i_k_NoName=>kit_is)
  (case i_k_NoRoad=>kit_is)
  (case i_k_NoWeb=>kit_is)
  (case i_k_NoPlan=>kit_is)
  (case i_k_NoText=>kit_is)
  (case i_k_NoPaper=>kit_is)
  (case i_k_ValueError=>kit_is)
  (case i_sub=>k_is)
  (case e_ga=>k_is)
  (case e_gn=>k_is)
  (case e_cl=>k_is)
  (case e_mb=>k_is)
  (case e_mo=>k_is)
