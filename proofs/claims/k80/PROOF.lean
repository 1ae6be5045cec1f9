import PyProof.Rows.All
import Wide.All
import OpenK.AllK
import Wide.FinOn
import Lean
import PyProof.EqAt
import PyProof.EqKinds
import PyProof.TupleCall
import KE.IntBitsLaws
import PyProof.NeKinds
import KE.KIsAll
import PyProof.ExcAttrAll.ValueError
import KE.RegKIsAll
import OpenK.KOwn
import PyProof.ConsumeWalk
import PyProof.SumWalkG
import PyProof.Rows.SeqCalls
import PyProof.Rows.SeqGen
import PyProof.ZipIter
import PyProof.Rows.ZipGen
import PyProof.Rows.FactsT2
import PyProof.WalkInts
import PyProof.SeqI3
import PyProof.AutoSeq1
import PyProof.WalksEnum
import PyProof.EnumMake
import PyProof.ListRange
import PyProof.ExcInit
import PyProof.InstStoreFacts
import PyProof.Rows.SortShell
import KE.KRevIter
import PyProof.ListNew
import PyProof.CollectIter
import KE.KLam
import KE.KMinKey
import KE.KEqDict
import PyProof.StrCalls2
import PyProof.Rows.StrNews2
import PyProof.SliceStr2
import KE.KIntText
import KE.IntTextLaws
import PyProof.Rows.StrSplitJoin
import PyProof.FitsReplace
import PyProof.StrWalks
import PyProof.Rows.FStr
import OpenK.ZGo
import PySem.Challenge.RW_hideworth_k80_webs_written
set_option Elab.async false
set_option linter.all false
set_option maxRecDepth 100000
namespace L2
open PySem PySem.Spec PyProof.Rows
abbrev Key:=Sum Int Str
def zkd:Key→Value→Bool
 | .inl k,v=>Value.isInt k v
 | .inr x,v=>Value.isStrOf x v
def keyH (w:World):Key→Int
 | .inl k=>hashInt k
 | .inr x=>hashStr w x
theorem zbn:∀ {k:Key} {v:Value},zkd k v=true→(∃ i t,k=Sum.inl i∧v=Value.int i t)∨(∃ x t,k=Sum.inr x∧v=Value.str x t)
 | .inl i,v,h=>by
  obtain ⟨t,e⟩:=Value.isInt_shape (k:=i) (v:=v) h
  exact .inl ⟨i,t,rfl,e⟩
 | .inr x,v,h=>by
  obtain ⟨t,e⟩:=Value.isStrOf_shape (x:=x) (v:=v) h
  exact .inr ⟨x,t,rfl,e⟩
theorem zk7 (i:Int) (t:Tok):zkd (.inl i) (.int i t)=true:=by simp [zkd,Value.isInt]
theorem zlI (x:Str) (t:Tok):zkd (.inr x) (.str x t)=true:=by simp [zkd,Value.isStrOf]
theorem zqk (a b:Int):decide ((Sum.inl a:Key)=Sum.inl b)=(a == b):=by
 by_cases e:a=b
 ·subst e;simp
 ·have h:¬ (Sum.inl a:Key)=Sum.inl b:=fun q=>e (Sum.inl.inj q)
  rw [decide_eq_false h]
  exact (beq_eq_false_iff_ne.mpr e).symm
theorem zpD (a b:Str):decide ((Sum.inr a:Key)=Sum.inr b)=decide (a=b):=by
 by_cases e:a=b
 ·subst e;simp
 ·have h:¬ (Sum.inr a:Key)=Sum.inr b:=fun q=>e (Sum.inr.inj q)
  rw [decide_eq_false h,decide_eq_false e]
theorem zpQ (a:Int) (b:Str):decide ((Sum.inl a:Key)=Sum.inr b)=false:=decide_eq_false (fun q=>nomatch q)
theorem zqa (a:Str) (b:Int):decide ((Sum.inr a:Key)=Sum.inl b)=false:=decide_eq_false (fun q=>nomatch q)
def zbI (prog:Program) (w:World):PySem.KeyKind prog w Key where
 is:=zkd
 hash:=keyH w
 inj:=fun v a b ha hb=>by
  rcases zbn ha with ⟨i,t,rfl,rfl⟩ | ⟨x,t,rfl,rfl⟩
  ·rcases zbn hb with ⟨j,u,rfl,e⟩ | ⟨y,u,rfl,e⟩
   ·injection e with e1 _;rw [e1]
   ·exact nomatch e
  ·rcases zbn hb with ⟨j,u,rfl,e⟩ | ⟨y,u,rfl,e⟩
   ·exact nomatch e
   ·injection e with e1 _;rw [e1]
 byValue:=fun k v h=>by
  rcases zbn h with ⟨i,t,rfl,rfl⟩ | ⟨x,t,rfl,rfl⟩ <;> rfl
 pyHash:=fun hv h=>by
  rcases zbn hv with ⟨i,t,rfl,rfl⟩ | ⟨x,t,rfl,rfl⟩
  ·exact wpAny_pyHash_int h
  ·exact wpAny_pyHash_str h
 eqBool:=fun hu hv h=>by
  rcases zbn hu with ⟨i,t,rfl,rfl⟩ | ⟨x,t,rfl,rfl⟩
  ·rcases zbn hv with ⟨j,u,rfl,rfl⟩ | ⟨y,u,rfl,rfl⟩
   ·rw [zqk] at h;exact wpAny_eqBool_int h
   ·rw [zpQ] at h;exact SeqAt.EqAt.int_str i t y u _ _ _ _ h
  ·rcases zbn hv with ⟨j,u,rfl,rfl⟩ | ⟨y,u,rfl,rfl⟩
   ·rw [zqa] at h;exact SeqAt.EqAt.str_int x t j u _ _ _ _ h
   ·rw [zpD] at h;exact wpAny_eqBool_str h
 «strs»:=fun k x t v h=>by
  rcases zbn h with ⟨i,u,rfl,e⟩ | ⟨y,u,rfl,e⟩
  ·exact nomatch e
  ·injection e with e1 _
   subst e1
   cases v <;> rfl
theorem zju (prog:Program) (w:World) (i:Int) (t:Tok):(zbI prog w).is (.inl i) (.int i t)=true:=zk7 i t
theorem ziP (prog:Program) (w:World) (x:Str) (t:Tok):(zbI prog w).is (.inr x) (.str x t)=true:=zlI x t
end L2
namespace L2
open PySem PySem.Spec PyProof.Rows
inductive V where
 | non | bl (b:Bool) | int (i:Int) | str (x:Str) | byt (b:Array UInt8) | flt (b:UInt64) | ref (a:Addr) | ty (n:String)
 deriving DecidableEq
def zbG:V→Value→Prop
 | .non,u=>u=Value.none
 | .bl b,u=>u=Value.bool b
 | .int i,u=>∃ t,u=Value.int i t
 | .str x,u=>∃ t,u=Value.str x t
 | .byt b,u=>∃ t,u=Value.bytes b t
 | .flt b,u=>∃ t,u=Value.float b t
 | .ref a,u=>u=Value.ref a
 | .ty n,u=>u=Value.type n
abbrev zbj:List V→List Value→Prop:=Paired zbG
theorem zbj.length {xs:List V} {us:List Value} (r:zbj xs us):xs.length=us.length:=Paired.length r
theorem zbj.get:∀ {xs:List V} {us:List Value} {i:Nat} {x:V},zbj xs us→xs[i]?=some x→∃ u,us[i]?=some u∧zbG x u
 | _,_,_,_,.nil,e=>by simp at e
 | _,_,0,_,.cons r _,e=>by simp at e;subst e;exact ⟨_,rfl,r⟩
 | _,_,i+1,x,.cons _ t,e=>by
  obtain ⟨u,h1,h2⟩:=zbj.get (i:=i) (x:=x) t (by simpa using e)
  exact ⟨u,by simpa using h1,h2⟩
theorem zbj.append:∀ {xs ys:List V} {us ws:List Value},zbj xs us→zbj ys ws→zbj (xs++ys) (us++ws)
 | _,_,_,_,.nil,s=>s
 | _,_,_,_,.cons r t,s=>.cons r (zbj.append t s)
theorem zbj.take:∀ {xs:List V} {us:List Value} (n:Nat),zbj xs us→zbj (xs.take n) (us.take n)
 | _,_,0,_=>.nil
 | _,_,_+1,.nil=>.nil
 | _,_,n+1,.cons r t=>.cons r (zbj.take n t)
theorem zbj.drop:∀ {xs:List V} {us:List Value} (n:Nat),zbj xs us→zbj (xs.drop n) (us.drop n)
 | _,_,0,r=>r
 | _,_,_+1,.nil=>.nil
 | _,_,n+1,.cons _ t=>zbj.drop n t
def zlP:Option V→Option Value→Prop
 | some v,some u=>zbG v u
 | none,none=>True
 | _,_=>False
def KV {κ:Type}:List (κ×V)→List (κ×Value)→Prop:=Paired fun (p:κ×V) (q:κ×Value)=>p.1=q.1∧zbG p.2 q.2
def kV:Key→V
 | .inl i=>.int i
 | .inr x=>.str x
inductive HO where
  | lst (xs:List V)
  | tup (xs:List V)
  | dK (kvs:List (Key×V)) | dT (kvs:List (List Key×V))
  | set (S:Int→Bool) (n:Nat)
  | ins (C dx:Addr) (fs:List (Str×V))
  | own (x:Addr)
  | xd (fs:List (Str×V))
  | met (f x:Addr)
  | rng (lo hi:Int)
  | frz (o:Obj) (u:HO)
  | tbl (ps:Array Value)
  | ext (φ:Heap→Prop)
abbrev Hp:=Addr→Option HO
def upd (H:Hp) (a:Addr) (o:HO):Hp:=fun b=>if b=a then some o else H b
theorem zad {H:Hp} {a:Addr} {o:HO}:upd H a o a=some o:=by unfold upd;rw [if_pos rfl]
theorem zaq {H:Hp} {a b:Addr} {o:HO} (h:b≠a):upd H a o b=H b:=by unfold upd;rw [if_neg h]
theorem zi5 {H:Hp} {a:Addr} {o u:HO}:upd (upd H a o) a u=upd H a u:=by
 funext b;unfold upd;split <;> rfl
theorem ne_of {H:Hp} {a b:Addr} {o u:HO} (h:H a=some o) (h':H b=some u) (d:o≠u):a≠b:=by
 intro e;subst e;rw [h] at h';exact d (Option.some.inj h')
theorem zaw {H:Hp} {a b:Addr} {o:HO} (h:H a=some o) (h':H b=none):a≠b:=by
 intro e;subst e;rw [h] at h';cases h'
section
variable (P:Program) (w:World)
def zbi (H:Hp) (h:Heap) (a:Addr):HO→Prop
 | .lst xs=>xs.length≤sizeLine∧∃ (its:List Value) (n:Nat),zbj xs its∧h.get? a=some { cls:=.type "list",data:=.seq its.toArray n }
 | .tup xs=>xs.length≤sizeLine∧∃ its:List Value,zbj xs its∧IsTup h a its.toArray
 | .dK kvs=>kvs.length≤sizeLine∧(a == sysModules)=false∧∃ vs,KV kvs vs∧h.DictOf (zbI P w) a vs
 | .dT kvs=>kvs.length≤sizeLine∧(a == sysModules)=false∧∃ xs:List (List Key×Addr×Value),
   Paired (fun (p:List Key×V) (q:List Key×Addr×Value)=>p.1=q.1∧H q.2.1=some (.tup (p.1.map kV))∧zbG p.2 q.2.2) kvs xs ∧
   ∃ o es ep,h.get? a=some o∧o.ExactDict∧o.data=.dict es ep∧es.toList=xs.map (entryOfKey (tupleKind (zbI P w)))∧(xs.map (·.1)).Nodup
 | .set S n=>h.SetOf (intKind P w) a S n
 | .ins C dx fs=>H dx=some (.own a)∧fs.length≤1000∧dx≠a∧h.get? a=some (PySem.W.instObj C dx) ∧
   ∃ mA,h.Ns1 dx mA∧(∀ f,zlP (fs.lookup f) (mA f))∧PySem.Within mA (fs.map (·.1))
 | .own _=>∃ o,h.get? a=some o
 | .xd fs=>∃ mA,h.Ns1 a mA∧∀ f,zlP (fs.lookup f) (mA f)
 | .rng lo hi=>∃ t u v,h.get? a=some { cls:=.type "range",data:=.fields #[.int lo t,.int hi u,.int 1 v] }
 | .frz o u=>h.get? a=some o∧zbi H h a u
 | .tbl ps=>h.get? a=some { cls:=.none,data:=.fields ps }
 | .met f x=>h.get? a=some (PySem.W.methodObj (.ref f) (.ref x))
 | .ext φ=>φ h∧(∃ o,h.get? a=some o)∧∀ h1 h2:Heap,φ h1→(∀ o,h1.get? a=some o→h2.get? a=some o)→φ h2
def HOk (H:Hp) (h:Heap):Prop:=∀ a o,H a=some o→zbi P w H h a o
end
section
variable {P:Program} {w:World} {H H':Hp} {h h':Heap} {a:Addr} {o:HO}
theorem zbi.lt (x:zbi P w H h a o):a<h.objs.size:=by
 cases o with
 | lst xs=>obtain ⟨_,_,_,_,e⟩:=x;exact Heap.lt_size e
 | tup xs=>obtain ⟨_,_,_,p⟩:=x;exact p.lt
 | dK kvs=>obtain ⟨_,_,_,_,o,_,_,e,_⟩:=x;exact Heap.lt_size e
 | dT kvs=>obtain ⟨_,_,_,_,o,_,_,e,_⟩:=x;exact Heap.lt_size e
 | set S n=>obtain ⟨o,_,_,_,e,_⟩:=x;exact Heap.lt_size e
 | ins C dx fs=>obtain ⟨_,_,_,e,_⟩:=x;exact Heap.lt_size e
 | own y=>obtain ⟨_,e⟩:=x;exact Heap.lt_size e
 | xd fs=>obtain ⟨_,⟨_,_,_,e,_⟩,_⟩:=x;exact Heap.lt_size e
 | rng lo hi=>obtain ⟨_,_,_,e⟩:=x;exact Heap.lt_size e
 | frz ob u=>obtain ⟨e,_⟩:=x;exact Heap.lt_size e
 | tbl ps=>exact Heap.lt_size (show h.get? a=some _ from x)
 | met f y=>exact Heap.lt_size (show h.get? a=some _ from x)
 | ext φ=>obtain ⟨_,⟨_,e⟩,_⟩:=x;exact Heap.lt_size e
theorem Paired.mapP {α β:Type} {F G:α→β→Prop}:∀ {l₁:List α} {l₂:List β},Paired F l₁ l₂→(∀ a b,F a b→G a b)→Paired G l₁ l₂
 | _,_,.nil,_=>.nil
 | _,_,.cons r t,f=>.cons (f _ _ r) (Paired.mapP t f)
theorem zbi.stay (x:zbi P w H h a o) (k:∀ b u,(b=a∨H b=some (.own a))→h.get? b=some u→h'.get? b=some u)
  (ho:∀ b,H b=some (.own a)→H' b=some (.own a)) (ht:∀ b xs,H b=some (.tup xs)→H' b=some (.tup xs)):zbi P w H' h' a o:=by
 induction o with
 | lst xs=>obtain ⟨z,its,n,r,e⟩:=x;exact ⟨z,its,n,r,k _ _ (.inl rfl) e⟩
 | tup xs=>obtain ⟨z,its,r,ob,e,c⟩:=x;exact ⟨z,its,r,ob,k _ _ (.inl rfl) e,c⟩
 | dK kvs=>obtain ⟨z,y,vs,r,ob,es,ep,e,c⟩:=x;exact ⟨z,y,vs,r,ob,es,ep,k _ _ (.inl rfl) e,c⟩
 | dT kvs =>
  obtain ⟨z,y,xs,r,ob,es,ep,e,c⟩:=x
  exact ⟨z,y,xs,Paired.mapP r fun p q z=>⟨z.1,ht _ _ z.2.1,z.2.2⟩,ob,es,ep,k _ _ (.inl rfl) e,c⟩
 | set S n=>obtain ⟨ob,es,ep,t,e,c⟩:=x;exact ⟨ob,es,ep,t,k _ _ (.inl rfl) e,c⟩
 | ins C dx fs =>
  obtain ⟨d,z,ne,e,mA,⟨od,es,ep,e2,c⟩,r⟩:=x
  exact ⟨ho _ d,z,ne,k _ _ (.inl rfl) e,mA,⟨od,es,ep,k _ _ (.inr d) e2,c⟩,r⟩
 | own y=>obtain ⟨ob,e⟩:=x;exact ⟨ob,k _ _ (.inl rfl) e⟩
 | xd fs=>obtain ⟨mA,⟨od,es,ep,e,c⟩,r⟩:=x;exact ⟨mA,⟨od,es,ep,k _ _ (.inl rfl) e,c⟩,r⟩
 | rng lo hi=>obtain ⟨t,u,v,e⟩:=x;exact ⟨t,u,v,k _ _ (.inl rfl) e⟩
 | frz ob u ih=>obtain ⟨e,q⟩:=x;exact ⟨k _ _ (.inl rfl) e,ih q⟩
 | tbl ps =>
  have e:h.get? a=some { cls:=.none,data:=.fields ps }:=x
  show h'.get? a=some { cls:=.none,data:=.fields ps }
  exact k a _ (.inl rfl) e
 | met f y =>
  have e:h.get? a=some (PySem.W.methodObj (.ref f) (.ref y)):=x
  show h'.get? a=some (PySem.W.methodObj (.ref f) (.ref y))
  exact k a _ (.inl rfl) e
 | ext φ=>obtain ⟨p,⟨o,e⟩,st⟩:=x;exact ⟨st _ _ p fun o q=>k _ _ (.inl rfl) q,⟨o,k _ _ (.inl rfl) e⟩,st⟩
theorem HOk.lt (x:HOk P w H h) (e:H a=some o):a<h.objs.size:=(x a o e).lt
theorem HOk.fresh (x:HOk P w H h) (e:h.objs.size≤a):H a=none:=by
 cases q:H a with
 | none=>rfl
 | some u=>exact absurd (Nat.lt_of_lt_of_le (x.lt q) e) (Nat.lt_irrefl _)
theorem HOk.kept (x:HOk P w H h) (k:∀ b u,h.get? b=some u→h'.get? b=some u):HOk P w H h':=fun a o e =>
 (x a o e).stay (fun b u _ q=>k b u q) (fun _ q=>q) fun _ _ q=>q
theorem HOk.laid (x:HOk P w H h) (k:∀ b u,h.get? b=some u→h'.get? b=some u) (hp:h.objs.size≤a) (new:zbi P w (upd H a o) h' a o):HOk P w (upd H a o) h':=fun b u e=>by
 have hn:=x.fresh hp
 by_cases hb:b=a
 ·subst hb;rw [zad] at e;cases e;exact new
 ·rw [zaq hb] at e
  exact (x b u e).stay (fun c v _ q=>k c v q) (fun c q=>by rw [zaq (zaw q hn)];exact q) fun c xs q=>by rw [zaq (zaw q hn)];exact q
end
def Rd (H:Hp) (a:Addr) (u:HO):Prop:=H a=some u∨∃ o,H a=some (.frz o u)
theorem Rd.ok {P:Program} {w:World} {H:Hp} {h:Heap} {a:Addr} {u:HO} (r:Rd H a u) (x:HOk P w H h):zbi P w H h a u:=by
 rcases r with r | ⟨o,r⟩
 ·exact x a u r
 ·obtain ⟨_,q⟩:=x a _ r
  exact q
def Mut:Option HO→Prop
 | some (.lst _)=>True
 | some (.dK _)=>True
 | some (.dT _)=>True
 | some (.set _ _)=>True
 | some (.ins _ _ _)=>True
 | some (.ext _)=>True
 | _=>False
section
variable {P:Program} {w:World} {H:Hp} {h h':Heap} {x e:Addr} {o':HO}
theorem HOk.write (ok:HOk P w H h) (mu:Mut (H x)) (he:e=x∨H e=some (.own x)) (k:∀ b u,b≠e→h.get? b=some u→h'.get? b=some u) (heo:∃ u,h'.get? e=some u)
  (new:zbi P w (upd H x o') h' x o'):HOk P w (upd H x o') h':=fun b u q=>by
 have nown:∀ c y,H c=some (.own y)→c≠x:=fun c y r z=>by subst z;rw [r] at mu;exact mu
 have ntup:∀ c xs,H c=some (.tup xs)→c≠x:=fun c xs r z=>by subst z;rw [r] at mu;exact mu
 by_cases hb:b=x
 ·subst hb;rw [zad] at q;cases q;exact new
 ·rw [zaq hb] at q
  by_cases hbe:b=e
  ·have q':H b=some (.own x):=by
    rcases he with z | z
    ·exact absurd (hbe.trans z) hb
    ·rw [hbe];exact z
   rw [q] at q';cases q'
   obtain ⟨v,hv⟩:=heo
   exact ⟨v,by rw [hbe];exact hv⟩
  ·refine (ok b u q).stay (fun c v hc r=>k c v ?_ r) (fun c r=>by rw [zaq (nown c b r)];exact r) fun c xs r=>by rw [zaq (ntup c xs r)];exact r
   rcases hc with rfl | hc
   ·exact hbe
   ·rintro rfl
    rcases he with z | z
    ·exact nown c b hc z
    ·rw [hc] at z;cases z;exact hb rfl
end
structure Un (fs ex:List Addr) (H H':Hp) (h h':Heap):Prop where
 keep:∀ b o,h.get? b=some o→H b=none→b∉fs→b∉ex→h'.get? b=some o
 slot:∀ b o,h.get? b=some o→H b=none→b∈fs→b∉ex→∃ sl,h'.get? b=some { o with slots:=sl }
 free:∀ b o,h.get? b=some o→H b=none→b∉ex→H' b=none
 there:∀ b o,h.get? b=some o→b∉ex→∃ o',h'.get? b=some o'
 tups:∀ b xs,H b=some (.tup xs)→H' b=some (.tup xs)
 frzs:∀ b o u,H b=some (.frz o u)→H' b=some (.frz o u)
 tbls:∀ b ps,H b=some (.tbl ps)→∃ more,H' b=some (.tbl (ps++more))
section
variable {fs fs' ex ex':List Addr} {H H1 H2:Hp} {h h1 h2 h':Heap} {a x e:Addr} {o:HO}
theorem Un.any (u:Un fs ex H H1 h h1) {b:Addr} {ob:Obj} (q:h.get? b=some ob) (n:H b=none) (hx:b∉ex):∃ sl,h1.get? b=some { ob with slots:=sl }:=by
 by_cases hb:b∈fs
 ·exact u.slot b ob q n hb hx
 ·exact ⟨ob.slots,u.keep b ob q n hb hx⟩
theorem Un.kept (k:∀ b u,h.get? b=some u→h'.get? b=some u):Un fs ex H H h h' :=
 ⟨fun b ob q _ _ _=>k b ob q,fun b ob q _ _ _=>⟨ob.slots,k b ob q⟩,fun _ _ _ n _=>n,fun b ob q _=>⟨ob,k b ob q⟩,fun _ _ q=>q,fun _ _ _ q=>q,fun _ ps q=>⟨#[],by rw [q];simp⟩⟩
theorem Un.refl:Un fs ex H H h h:=Un.kept fun _ _ q=>q
theorem Un.laid (k:∀ b u,h.get? b=some u→h'.get? b=some u) (hp:h.objs.size≤a) (hn:H a=none):Un fs ex H (upd H a o) h h' where
 keep:=fun b u q _ _ _=>k b u q
 slot:=fun b u q _ _ _=>⟨u.slots,k b u q⟩
 free:=fun b u q n _=>by rw [zaq (Nat.ne_of_lt (Nat.lt_of_lt_of_le (Heap.lt_size q) hp))];exact n
 there:=fun b u q _=>⟨u,k b u q⟩
 tups:=fun b xs q=>by rw [zaq (zaw q hn)];exact q
 frzs:=fun b u xs q=>by rw [zaq (zaw q hn)];exact q
 tbls:=fun b ps q=>⟨#[],by rw [zaq (zaw q hn),q];simp⟩
theorem Un.write (mu:Mut (H x)) (he:e=x∨H e=some (.own x)) (k:∀ b u,b≠e→h.get? b=some u→h'.get? b=some u) (heo:∃ u,h'.get? e=some u):Un fs ex H (upd H x o) h h':=by
 have hx:∀ b,H b=none→b≠x:=fun b n z=>by subst z;rw [n] at mu;exact mu
 have hb:∀ b,H b=none→b≠e:=fun b n z=>by
  subst z
  rcases he with r | r
  ·exact hx b n r
  ·rw [n] at r;cases r
 have hm:∀ b u,H b=some u→¬ Mut (some u)→b≠x:=fun b u q nm z=>by subst z;rw [q] at mu;exact nm mu
 refine ⟨fun b u q n _ _=>k b u (hb b n) q,fun b u q n _ _=>⟨u.slots,k b u (hb b n) q⟩,fun b u q n _=>by rw [zaq (hx b n)];exact n,fun b u q _=>?_,
  fun b xs q=>by rw [zaq (hm b _ q fun z=>z)];exact q,fun b u xs q=>by rw [zaq (hm b _ q fun z=>z)];exact q,fun b ps q=>⟨#[],by rw [zaq (hm b _ q fun z=>z),q];simp⟩⟩
 by_cases hbe:b=e
 ·subst hbe;exact heo
 ·exact ⟨u,k b u hbe q⟩
end
def trk (h:Heap) (H:Hp):List Addr:=(List.range h.objs.size).filter fun a=>(H a).isSome
def zlS (h:Heap) (H:Hp):Heap:=PySem.W.hideAll h (trk h H)
theorem zkT (h:Heap) (H:Hp):(zlS h H).objs.size=h.objs.size:=PySem.W.hideAll_size _ _
theorem zmR {h:Heap} {H:Hp} {b:Addr} {o:Obj} (e:h.get? b=some o) (n:H b=none):(zlS h H).get? b=some o :=
 PySem.W.hideAll_get _ e fun hm=>by
  have q:(H b).isSome=true:=(List.mem_filter.mp hm).2
  rw [n] at q;simp at q
theorem zo1 {h:Heap} {H:Hp} {b:Addr} {o:Obj} (e:(zlS h H).get? b=some o):h.get? b=some o∧H b=none:=by
 have e':h.get? b=some o:=PySem.W.of_hideAll (trk h H) e
 refine ⟨e',?_⟩
 cases q:H b with
 | none=>rfl
 | some x =>
  have hm:b∈trk h H:=List.mem_filter.mpr ⟨List.mem_range.mpr (Heap.lt_size e'),by simp [q]⟩
  have z:(zlS h H).get? b=none:=PySem.W.hideAll_none (trk h H) hm
  rw [z] at e;cases e
def zou (g h:Heap) (L:Addr):List (Addr×Obj):=(List.range h.objs.size).filterMap fun a=>if a=L∨(g.get? a).isSome=true then none else (h.get? a).map fun o=>(a,o)
def ziJ (g h:Heap) (L d:Addr):List (Addr×Obj):=(zou g h L).filter fun p=>decide (p.1≠d)
end L2
namespace L2
open PySem PySem.Spec PyProof.Rows
structure Mod (K:PySem.W.Frag) (mg:Str→Option Value) (base:Heap):Prop where
 kin:K.In base
 glob:base.Ns mainGlobals mg
 blt:∃ mb,base.Ns builtinsNs mb∧∀ x:Str,x≠"__name__"→mb x=bootBuiltins x
 nolimit:base.NoLimit
structure Cx where
 prog:Program
 w:World
 K:PySem.W.Frag
 mg:Str→Option Value
 base:Heap
 A:Around
 N:List Str
 s₀:Shared
 H₀:Hp
 env:Env
 outer:List Env
 stack:List Env
 ex:List Addr
 fn:Str→Bool
 calm:Bool
 pn:List (Addr×Obj)
 xe:Value→Shared→Prop
def frs (l:List Env):List Addr:=l.filterMap (·.frame)
abbrev Cx.fs (X:Cx):List Addr:=frs X.outer
def Vis (sc:Scope) (x:Str):Prop:=sc.names.lookup x=some .local∨sc.names.lookup x=some .cell∨sc.names.lookup x=some .free
def Loc (sc:Scope) (x:Str):Prop:=sc.names.lookup x=some .local∨sc.names.lookup x=some .cell
def Look (env:Env) (h:Heap) (m:Str→Option Value) (x:Str) (u:Value):Prop :=
 (env.kindOf x=some .local∧m x=some u)∨((env.kindOf x=some .cell∨env.kindOf x=some .free)∧∃ c,env.cells.lookup x=some c∧h.IsCell c (some u))
structure Cx.Ok (X:Cx):Prop where
 mod:Mod X.K X.mg X.base
 kind:X.env.scope.kind=.function
 glob:X.env.globals=mainGlobals
 blt:X.env.builtins=builtinsNs
 above:X.s₀.heap.objs.size≤X.env.locals
 inj:∀ x y c,X.env.cells.lookup x=some c→X.env.cells.lookup y=some c→x=y
 has:∀ x,(X.env.kindOf x=some .cell∨X.env.kindOf x=some .free)→∃ c,X.env.cells.lookup x=some c
 cab:∀ x c,X.fn x=true→X.env.cells.lookup x=some c→X.s₀.heap.objs.size≤c
 hd:X.calm=true→X.A.handled=none
 frames:X.A.frames=some X.stack
 stk:X.stack=X.outer∨(X.stack=X.env::X.outer∧X.env.frame=some X.env.locals)
 exf:∀ b∈X.ex,b≠X.env.locals∧∀ x c,X.env.cells.lookup x=some c→c≠b
 bs:∀ b o,X.base.get? b=some o→X.s₀.heap.get? b=some o∧X.H₀ b=none
 bsz:X.base.objs.size≤X.s₀.heap.objs.size
 noex:∀ b o,X.base.get? b=some o→b∉X.ex
 exfs:∀ b∈X.ex,b∉X.fs
 funs:X.s₀.heap.FunFrames X.base X.outer
 frf:∀ b∈X.fs,X.H₀ b=none
structure Inv (X:Cx) (pins:List (Addr×Obj)) (σ:List (Option V)) (H:Hp) (s:Shared):Prop where
 ok:X.Ok
 os:s.os=X.s₀.os
 bare:AllBare s.gens
 base:Un X.fs X.ex X.H₀ H X.s₀.heap s.heap
 loc:∃ m,s.heap.Ns X.env.locals m∧∀ (i:Nat) (x:Str) (v:V),X.N[i]?=some x→σ[i]?=some (some v)→Vis X.env.scope x→∃ u,zbG v u∧Look X.env s.heap m x u
 cell:∀ x c,X.env.cells.lookup x=some c→∃ v,s.heap.IsCell c v
 free:H X.env.locals=none
 freeC:∀ x c,X.env.cells.lookup x=some c→H c=none
 pin:∀ p∈X.pn++pins,s.heap.get? p.1=some p.2∧H p.1=none∧p.1≠X.env.locals∧p.1∉X.fs∧∀ v,p.2.data≠.cell v
 hok:HOk X.prog X.w H s.heap
 len:σ.length=X.N.length
section
variable {X:Cx} {pins:List (Addr×Obj)} {σ:List (Option V)} {H H':Hp} {s:Shared} {h':Heap}
theorem Cx.Ok.nofr (ok:X.Ok) {b:Addr} {o:Obj} (e:X.base.get? b=some o):b∉X.fs:=fun hb=>by
 have:=(ok.funs.mem hb).1
 rw [e] at this;cases this
theorem Inv.bs (I:Inv X pins σ H s):∀ b o,X.base.get? b=some o→s.heap.get? b=some o∧H b=none:=fun b o e =>
 ⟨I.base.keep b o (I.ok.bs b o e).1 (I.ok.bs b o e).2 (I.ok.nofr e) (I.ok.noex b o e),I.base.free b o (I.ok.bs b o e).1 (I.ok.bs b o e).2 (I.ok.noex b o e)⟩
theorem Inv.bk (I:Inv X pins σ H s):∀ b o,X.base.get? b=some o→s.heap.get? b=some o:=fun b o e=>(I.bs b o e).1
theorem Inv.mod (I:Inv X pins σ H s):Mod X.K X.mg X.base:=I.ok.mod
theorem Inv.kIn (I:Inv X pins σ H s):X.K.In s.heap:=I.ok.mod.kin.keeps I.bk
theorem Inv.lt (I:Inv X pins σ H s):X.env.locals<s.heap.objs.size:=let ⟨_,hn,_⟩:=I.loc;hn.lt
theorem Inv.sz (I:Inv X pins σ H s):X.s₀.heap.objs.size≤s.heap.objs.size:=Nat.le_trans I.ok.above (Nat.le_of_lt I.lt)
theorem Inv.nofs (I:Inv X pins σ H s) {a:Addr} (h:s.heap.objs.size≤a):a∉X.fs:=fun hb=>by
 obtain ⟨_,o,ho,_⟩:=I.ok.funs.mem hb
 exact absurd (Nat.lt_of_lt_of_le (Heap.lt_size ho) (Nat.le_trans I.sz h)) (Nat.lt_irrefl _)
theorem Inv.cne (I:Inv X pins σ H s):∀ x c,X.env.cells.lookup x=some c→c≠X.env.locals:=fun x c e z=>by
 obtain ⟨v,o,ho,hd⟩:=I.cell x c e
 obtain ⟨m,⟨o',es,ep,ho',hd',_⟩,_⟩:=I.loc
 rw [z,ho'] at ho;cases ho;rw [hd'] at hd;cases hd
theorem Inv.funs (I:Inv X pins σ H s):s.heap.FunFrames X.base X.outer:=by
 have all:∀ (l:List Env),(∀ b∈frs l,b∈X.fs)→X.s₀.heap.FunFrames X.base l→s.heap.FunFrames X.base l:=by
  intro l
  induction l with
  | nil=>intro _ _;trivial
  | cons env r ih =>
   intro hs hl
   obtain ⟨hk,⟨L,o,hf,hn,ho,hd⟩,hr⟩:=hl
   have hL:L∈X.fs:=hs L (by unfold frs;rw [List.filterMap_cons,hf];exact List.mem_cons_self)
   obtain ⟨sl,e⟩:=I.base.slot L o ho (I.ok.frf L hL) hL fun z=>I.ok.exfs L z hL
   exact ⟨hk,⟨L,_,hf,hn,e,hd⟩,ih (fun b hb=>hs b (by unfold frs;rw [List.filterMap_cons,hf];exact List.mem_cons_of_mem _ hb)) hr⟩
 exact all X.outer (fun _ hb=>hb) I.ok.funs
theorem Inv.stack (I:Inv X pins σ H s):s.heap.FunFrames X.base X.stack:=by
 rcases I.ok.stk with e | ⟨e,hf⟩
 ·rw [e];exact I.funs
 ·rw [e]
  obtain ⟨m,hn,_⟩:=I.loc
  refine .cons (by rw [I.ok.kind];decide) hf hn ?_ I.funs
  exact Heap.get?_none_of_le (Nat.le_trans I.ok.bsz I.ok.above)
theorem Inv.stkSub (I:Inv X pins σ H s):∀ b∈frs X.stack,b∈X.env.locals::X.fs:=fun b hb=>by
 rcases I.ok.stk with e | ⟨e,hf⟩
 ·rw [e] at hb;exact List.mem_cons_of_mem _ hb
 ·rw [e] at hb
  unfold frs at hb
  rw [List.filterMap_cons,hf] at hb
  exact hb
theorem Inv.stkFree (I:Inv X pins σ H s):∀ b∈frs X.stack,H b=none:=fun b hb=>by
 rcases List.mem_cons.mp (I.stkSub b hb) with e | hb
 ·rw [e];exact I.free
 ·obtain ⟨_,o,ho,_⟩:=I.ok.funs.mem hb
  exact I.base.free b o ho (I.ok.frf b hb) fun z=>I.ok.exfs b z hb
theorem Inv.step {g':Array GenState} {t':Nat} {d':Drawn} {ch:List Addr} (I:Inv X pins σ H s)
  (hch:∀ b∈ch,(b∈X.ex∨X.s₀.heap.objs.size≤b)∧b≠X.env.locals∧(∀ x c,X.env.cells.lookup x=some c→c≠b)∧∀ p∈X.pn++pins,p.1≠b)
  (keep:∀ b o,b≠X.env.locals→b∉X.fs→b∉ch→s.heap.get? b=some o→H b=none→h'.get? b=some o)
  (slot:∀ b o,b≠X.env.locals→b∈X.fs→b∉ch→s.heap.get? b=some o→H b=none→∃ sl,h'.get? b=some { o with slots:=sl }) (free:∀ b o,b∉ch→s.heap.get? b=some o→H b=none→H' b=none)
  (there:∀ b o,b∉ch→s.heap.get? b=some o→∃ o',h'.get? b=some o')
  (tups:∀ b xs,H b=some (.tup xs)→H' b=some (.tup xs)) (frzs:∀ b o u,H b=some (.frz o u)→H' b=some (.frz o u)) (tbls:∀ b ps,H b=some (.tbl ps)→∃ more,H' b=some (.tbl (ps++more)))
  (ns:∀ m,s.heap.Ns X.env.locals m→h'.Ns X.env.locals m) (hok:HOk X.prog X.w H' h') (hg:AllBare g') :
  Inv X pins σ H' { s with heap:=h',gens:=g',drawn:=d',toks:=t' }:=by
 have neL:∀ b o,X.s₀.heap.get? b=some o→b≠X.env.locals:=fun b o e=>Nat.ne_of_lt (Nat.lt_of_lt_of_le (Heap.lt_size e) I.ok.above)
 have neC:∀ b o,X.s₀.heap.get? b=some o→b∉X.ex→b∉ch:=fun b o e hx hb=>by
  rcases (hch b hb).1 with z | z
  ·exact hx z
  ·exact absurd (Nat.lt_of_lt_of_le (Heap.lt_size e) z) (Nat.lt_irrefl _)
 have cellK:∀ x c,X.env.cells.lookup x=some c→∀ v,s.heap.IsCell c v→h'.IsCell c v:=fun x c e v ⟨o,ho,hd⟩=>by
  have nch:c∉ch:=fun z=>(hch c z).2.2.1 x c e rfl
  by_cases hc:c∈X.fs
  ·obtain ⟨sl,q⟩:=slot c o (I.cne x c e) hc nch ho (I.freeC x c e)
   exact ⟨_,q,hd⟩
  ·exact ⟨o,keep c o (I.cne x c e) hc nch ho (I.freeC x c e),hd⟩
 refine ⟨I.ok,I.os,hg,⟨fun b o e n hb hx=>?_,fun b o e n hb hx=>?_,fun b o e n hx=>?_,fun b o e hx=>?_,fun b xs e=>tups b xs (I.base.tups b xs e),fun b o xs e=>frzs b o xs (I.base.frzs b o xs e),fun b ps e=>?_⟩,?_,fun x c e=>?_,?_,fun x c e=>?_,fun p hp=>?_,hok,I.len⟩
 ·exact keep b o (neL b o e) hb (neC b o e hx) (I.base.keep b o e n hb hx) (I.base.free b o e n hx)
 ·obtain ⟨sl,e1⟩:=I.base.slot b o e n hb hx
  obtain ⟨sl',e2⟩:=slot b _ (neL b o e) hb (neC b o e hx) e1 (I.base.free b o e n hx)
  exact ⟨sl',e2⟩
 ·obtain ⟨o',e1⟩:=I.base.there b o e hx
  exact free b o' (neC b o e hx) e1 (I.base.free b o e n hx)
 ·obtain ⟨o',e1⟩:=I.base.there b o e hx
  exact there b o' (neC b o e hx) e1
 ·obtain ⟨m1,e1⟩:=I.base.tbls b ps e
  obtain ⟨m2,e2⟩:=tbls b _ e1
  exact ⟨m1++m2,by rw [e2,Array.append_assoc]⟩
 ·obtain ⟨m,hn,hl⟩:=I.loc
  refine ⟨m,ns m hn,fun i x v e1 e2 e3=>?_⟩
  obtain ⟨u,r,l⟩:=hl i x v e1 e2 e3
  refine ⟨u,r,?_⟩
  rcases l with l | ⟨k,c,e,z⟩
  ·exact .inl l
  ·exact .inr ⟨k,c,e,cellK x c e _ z⟩
 ·obtain ⟨v,z⟩:=I.cell x c e
  exact ⟨v,cellK x c e v z⟩
 ·obtain ⟨m,⟨o,_,_,ho,_⟩,_⟩:=I.loc
  exact free _ o (fun z=>(hch _ z).2.1 rfl) ho I.free
 ·obtain ⟨v,o,ho,hd⟩:=I.cell x c e
  exact free c o (fun z=>(hch c z).2.2.1 x c e rfl) ho (I.freeC x c e)
 ·obtain ⟨e,n,ne,nf,d⟩:=I.pin p hp
  have nch:p.1∉ch:=fun z=>(hch p.1 z).2.2.2 p hp rfl
  exact ⟨keep p.1 p.2 ne nf nch e n,free p.1 p.2 nch e n,ne,nf,d⟩
theorem Inv.un {t':Nat} (I:Inv X pins σ H s) (u:Un X.fs [] H H' s.heap h') (hok:HOk X.prog X.w H' h'):Inv X pins σ H' { s with heap:=h',toks:=t' }:=by
 obtain ⟨m,⟨o,es,ep,ho,r⟩,_⟩:=id I.loc
 obtain ⟨sl,hL⟩:=u.any ho I.free (by simp)
 exact I.step (g':=s.gens) (d':=s.drawn) (ch:=[]) (fun _ z=>nomatch z) (fun b o _ hb _ e n=>u.keep b o e n hb (by simp)) (fun b o _ hb _ e n=>u.slot b o e n hb (by simp)) (fun b o _ e n=>u.free b o e n (by simp)) (fun b o _ e=>u.there b o e (by simp)) u.tups u.frzs u.tbls (fun m' hm=>by
  obtain ⟨o',es',ep',ho',r'⟩:=hm
  rw [ho] at ho';cases ho'
  exact ⟨_,es',ep',hL,r'⟩) hok I.bare
theorem Inv.call {g':Array GenState} {t':Nat} {d':Drawn} {ch:List Addr} (I:Inv X pins σ H s) (u:Un (frs X.stack) ch H H' s.heap h') (hok:HOk X.prog X.w H' h') (hg:AllBare g')
  (hch:∀ b∈ch,(b∈X.ex∨X.s₀.heap.objs.size≤b)∧b≠X.env.locals∧(∀ x c,X.env.cells.lookup x=some c→c≠b)∧∀ p∈X.pn++pins,p.1≠b) :
  Inv X pins σ H' { s with heap:=h',gens:=g',drawn:=d',toks:=t' }:=by
 obtain ⟨m,⟨o,es,ep,ho,r⟩,_⟩:=id I.loc
 obtain ⟨sl,hL⟩:=u.any ho I.free fun z=>(hch _ z).2.1 rfl
 exact I.step (ch:=ch) hch (fun b o hL hb hc e n=>u.keep b o e n (fun z=>(List.mem_cons.mp (I.stkSub b z)).elim hL hb) hc) (fun b o _ _ hc e n=>u.any e n hc) (fun b o hc e n=>u.free b o e n hc) (fun b o hc e=>u.there b o e hc) u.tups u.frzs u.tbls (fun m' hm=>by
  obtain ⟨o',es',ep',ho',r'⟩:=hm
  rw [ho] at ho';cases ho'
  exact ⟨_,es',ep',hL,r'⟩) hok hg
theorem Inv.turned {t':Nat} {it:Addr} (I:Inv X pins σ H s) (k:∀ b o,b≠it→s.heap.get? b=some o→h'.get? b=some o) (hn:H it=none) (hL:it≠X.env.locals)
  (h1:it∈X.ex∨X.s₀.heap.objs.size≤it) (h2:∀ x c,X.env.cells.lookup x=some c→c≠it) (h3:∀ p∈X.pn++pins,p.1≠it):Inv X pins σ H { s with heap:=h',toks:=t' }:=by
 have nit:∀ b u,H b=some u→b≠it:=fun b u e z=>by rw [z,hn] at e;cases e
 refine I.step (g':=s.gens) (d':=s.drawn) (ch:=[it]) (fun b hb=>?_) (fun b o _ _ hc e _=>k b o (fun z=>hc (by simp [z])) e) (fun b o _ _ hc e _=>⟨o.slots,k b o (fun z=>hc (by simp [z])) e⟩) (fun _ _ _ _ n=>n)
  (fun b o hc e=>⟨o,k b o (fun z=>hc (by simp [z])) e⟩) (fun _ _ e=>e) (fun _ _ _ e=>e) (fun b ps e=>⟨#[],by rw [e];simp⟩) (fun m hm=>?_) (fun b u e=>?_) I.bare
 ·have e:b=it:=by simpa using hb
  subst e
  exact ⟨h1,hL,h2,h3⟩
 ·obtain ⟨o,es,ep,ho,r⟩:=hm
  exact ⟨o,es,ep,k _ o (Ne.symm hL) ho,r⟩
 ·refine (I.hok b u e).stay (fun c v hc q=>k c v ?_ q) (fun _ q=>q) fun _ _ q=>q
  rcases hc with z | z
  ·rw [z];exact nit b u e
  ·exact nit c _ z
theorem Inv.tok (I:Inv X pins σ H s) (t:Nat):Inv X pins σ H { s with toks:=t }:=I.un (h':=s.heap) (t':=t) Un.refl I.hok
theorem Inv.kept {t':Nat} (I:Inv X pins σ H s) (k:∀ b u,s.heap.get? b=some u→h'.get? b=some u):Inv X pins σ H { s with heap:=h',toks:=t' }:=I.un (Un.kept k) (I.hok.kept k)
theorem Inv.laid {a:Addr} {o:HO} {t':Nat} (I:Inv X pins σ H s) (k:∀ b u,s.heap.get? b=some u→h'.get? b=some u) (hp:s.heap.objs.size≤a) (new:zbi X.prog X.w (upd H a o) h' a o) :
  Inv X pins σ (upd H a o) { s with heap:=h',toks:=t' }:=I.un (Un.laid k hp (I.hok.fresh hp)) (I.hok.laid k hp new)
theorem Inv.write {x e:Addr} {o:HO} {t':Nat} (I:Inv X pins σ H s) (mu:Mut (H x)) (he:e=x∨H e=some (.own x)) (k:∀ b u,b≠e→s.heap.get? b=some u→h'.get? b=some u) (heo:∃ u,h'.get? e=some u)
  (new:zbi X.prog X.w (upd H x o) h' x o):Inv X pins σ (upd H x o) { s with heap:=h',toks:=t' }:=I.un (Un.write mu he k heo) (I.hok.write mu he k heo new)
theorem Inv.pins_of {pins':List (Addr×Obj)} (I:Inv X pins σ H s) (h:∀ p∈pins',s.heap.get? p.1=some p.2∧H p.1=none∧p.1≠X.env.locals∧p.1∉X.fs∧∀ v,p.2.data≠.cell v):Inv X pins' σ H s :=
 ⟨I.ok,I.os,I.bare,I.base,I.loc,I.cell,I.free,I.freeC,fun p hp=>(List.mem_append.mp hp).elim (fun z=>I.pin p (List.mem_append_left _ z)) (h p),I.hok,I.len⟩
theorem zhr {N:List Str} (hN:N.Nodup) {i j:Nat} {x:Str} (a:N[i]?=some x) (b:N[j]?=some x):i=j:=by
 obtain ⟨h1,e1⟩:=List.getElem?_eq_some_iff.mp a
 obtain ⟨h2,e2⟩:=List.getElem?_eq_some_iff.mp b
 exact (List.getElem_inj hN).mp (e1.trans e2.symm)
theorem zhY {M:Model} {A:Around} {E:Value→Shared→Prop} {i:Nat} {x:Str} {v:V} {u:Value} {Q:Unit→Shared→Prop} (I:Inv X pins σ H s) (hN:X.N.Nodup) (hi:X.N[i]?=some x) (hx:Loc X.env.scope x) (r:zbG v u)
  (h:∀ s',Inv X pins (σ.set i (some v)) H s'→(∃ a,Heap.SameBut a s.heap s'.heap∧(a=X.env.locals∨X.env.cells.lookup x=some a))→Q () s') (hf:X.fn x=true∨X.env.scope.names.lookup x=some .local:=by first | exact .inl rfl | exact .inr rfl | assumption):wpAny M A (storeName X.env x u) Q E s:=by
 obtain ⟨m,hn,hl⟩:=id I.loc
 have hcls:(X.env.scope.kind == .class || (X.env.scope.kind == .module&&X.env.locals != X.env.globals))=false:=by rw [I.ok.kind];rfl
 have hiσ:i<σ.length:=by rw [I.len];exact (List.getElem?_eq_some_iff.mp hi).1
 have cne:=I.cne
 have tracked:∀ {a:Addr} {h':Heap},(∃ o,s.heap.get? a=some o∧H a=none)→Heap.SameBut a s.heap h'→HOk X.prog X.w H h':=fun {a h'} ha hs b ob e=>by
  obtain ⟨_,_,hfree⟩:=ha
  refine (I.hok b ob e).stay (fun c w' hc q=>(hs.2 c ?_).trans q) (fun _ q=>q) fun _ _ q=>q
  rintro rfl
  rcases hc with rfl | hc
  ·rw [hfree] at e;cases e
  ·rw [hfree] at hc;cases hc
 rcases hx with hk | hk
 ·refine wpAny_storeName_local hk hn (fun h' hn' hs=>?_) hcls
  obtain ⟨oL,_,_,hoL,_⟩:=id hn
  refine h _ ⟨I.ok,I.os,I.bare,⟨fun b o e n hb hx=>?_,fun b o e n hb hx=>?_,I.base.free,fun b o e hx=>?_,I.base.tups,I.base.frzs,I.base.tbls⟩,⟨_,hn',fun j y v' e1 e2 e3=>?_⟩,fun y c e=>?_,I.free,I.freeC,fun p hp=>?_,tracked ⟨oL,hoL,I.free⟩ hs,by simpa using I.len⟩ ⟨_,hs,.inl rfl⟩
  ·exact (hs.2 b (Nat.ne_of_lt (Nat.lt_of_lt_of_le (Heap.lt_size e) I.ok.above))).trans (I.base.keep b o e n hb hx)
  ·obtain ⟨sl,e1⟩:=I.base.slot b o e n hb hx
   exact ⟨sl,(hs.2 b (Nat.ne_of_lt (Nat.lt_of_lt_of_le (Heap.lt_size e) I.ok.above))).trans e1⟩
  ·obtain ⟨o',e1⟩:=I.base.there b o e hx
   exact ⟨o',(hs.2 b (Nat.ne_of_lt (Nat.lt_of_lt_of_le (Heap.lt_size e) I.ok.above))).trans e1⟩
  ·by_cases hj:j=i
   ·subst hj
    rw [hi] at e1;cases e1
    rw [List.getElem?_set_self hiσ] at e2
    cases e2
    exact ⟨u,r,.inl ⟨hk,by simp⟩⟩
   ·rw [List.getElem?_set_ne (Ne.symm hj)] at e2
    obtain ⟨u',r',q⟩:=hl j y v' e1 e2 e3
    refine ⟨u',r',?_⟩
    rcases q with ⟨k,e⟩ | ⟨k,c,e,z⟩
    ·refine .inl ⟨k,?_⟩
     have:y≠x:=fun e=>hj (zhr hN e1 (e ▸ hi))
     simp [this,e]
    ·exact .inr ⟨k,c,e,z.sameBut hs (cne y c e)⟩
  ·obtain ⟨w',z⟩:=I.cell y c e
   exact ⟨w',z.sameBut hs (cne y c e)⟩
  ·obtain ⟨e,n,ne,nf,d⟩:=I.pin p hp
   exact ⟨(hs.2 p.1 ne).trans e,n,ne,nf,d⟩
 ·have hfn:X.fn x=true:=by
   rcases hf with z | z
   ·exact z
   ·rw [z] at hk;cases hk
  obtain ⟨c,hc⟩:=I.ok.has x (.inl hk)
  obtain ⟨w',z⟩:=I.cell x c hc
  refine wpAny_storeName_cell I.ok.kind hk hc z (fun h' hc' hs=>?_)
  obtain ⟨oc,hoc,hocd⟩:=id z
  refine h { s with heap:=h' } ⟨I.ok,I.os,I.bare,⟨fun b o e n hb hx=>?_,fun b o e n hb hx=>?_,I.base.free,fun b o e hx=>?_,I.base.tups,I.base.frzs,I.base.tbls⟩,⟨m,hn.sameBut hs (Ne.symm (cne x c hc)),fun j y v' e1 e2 e3=>?_⟩,fun y c' e=>?_,I.free,I.freeC,fun p hp=>?_,tracked ⟨oc,hoc,I.freeC x c hc⟩ hs,by simpa using I.len⟩ ⟨c,hs,.inr hc⟩
  ·exact (hs.2 b (Nat.ne_of_lt (Nat.lt_of_lt_of_le (Heap.lt_size e) (I.ok.cab x c hfn hc)))).trans (I.base.keep b o e n hb hx)
  ·obtain ⟨sl,e1⟩:=I.base.slot b o e n hb hx
   exact ⟨sl,(hs.2 b (Nat.ne_of_lt (Nat.lt_of_lt_of_le (Heap.lt_size e) (I.ok.cab x c hfn hc)))).trans e1⟩
  ·obtain ⟨o',e1⟩:=I.base.there b o e hx
   exact ⟨o',(hs.2 b (Nat.ne_of_lt (Nat.lt_of_lt_of_le (Heap.lt_size e) (I.ok.cab x c hfn hc)))).trans e1⟩
  ·by_cases hj:j=i
   ·subst hj
    rw [hi] at e1;cases e1
    rw [List.getElem?_set_self hiσ] at e2
    cases e2
    exact ⟨u,r,.inr ⟨.inl hk,c,hc,hc'⟩⟩
   ·rw [List.getElem?_set_ne (Ne.symm hj)] at e2
    obtain ⟨u',r',q⟩:=hl j y v' e1 e2 e3
    refine ⟨u',r',?_⟩
    rcases q with q | ⟨k,c',e,z'⟩
    ·exact .inl q
    ·refine .inr ⟨k,c',e,z'.sameBut hs ?_⟩
     rintro rfl
     exact hj (zhr hN e1 (I.ok.inj _ _ _ e hc ▸ hi))
  ·by_cases hcc:c'=c
   ·subst hcc;exact ⟨_,hc'⟩
   ·obtain ⟨w2,z2⟩:=I.cell y c' e
    exact ⟨w2,z2.sameBut hs hcc⟩
  ·obtain ⟨e,n,ne,nf,d⟩:=I.pin p hp
   refine ⟨(hs.2 p.1 ?_).trans e,n,ne,nf,d⟩
   intro q
   rw [q,hoc] at e
   have q':oc=p.2:=Option.some.inj e
   exact d w' (by rw [← q'];exact hocd)
theorem zeS {M:Model} {A:Around} {E:Value→Shared→Prop} {i:Nat} {x:Str} {v:V} {u:Value} {Q:Unit→Shared→Prop} (I:Inv X pins σ H s) (hN:X.N.Nodup) (hi:X.N[i]?=some x) (hx:Loc X.env.scope x) (r:zbG v u)
  (h:∀ s',Inv X pins (σ.set i (some v)) H s'→Q () s') (hf:X.fn x=true∨X.env.scope.names.lookup x=some .local:=by first | exact .inl rfl | exact .inr rfl | assumption):wpAny M A (storeName X.env x u) Q E s :=
 zhY I hN hi hx r (fun s' I' _=>h s' I') hf
theorem Inv.call' {s':Shared} {ch:List Addr} (I:Inv X pins σ H s) (ho:s'.os=s.os) (u:Un (frs X.stack) ch H H' s.heap s'.heap) (hok:HOk X.prog X.w H' s'.heap) (hg:AllBare s'.gens)
  (hch:∀ b∈ch,(b∈X.ex∨X.s₀.heap.objs.size≤b)∧b≠X.env.locals∧(∀ x c,X.env.cells.lookup x=some c→c≠b)∧∀ p∈X.pn++pins,p.1≠b):Inv X pins σ H' s':=by
 obtain ⟨h',g',d',t',o'⟩:=s'
 have e:o'=s.os:=ho
 subst e
 exact I.call (g':=g') (t':=t') (d':=d') u hok hg hch
end
abbrev XK:=Value→Option Addr→Hp→Prop
abbrev St:=List (Option V)
abbrev VK:=V→Hp→Prop
abbrev TE:=St→Hp→VK→Prop
abbrev TT:=St→Hp→(Bool→Hp→Prop)→Prop
abbrev TA:=St→Hp→(List V→Hp→Prop)→Prop
structure zbV where
 nx:St→Hp→Prop
 rt:VK
 bk:St→Hp→Prop:=fun _ _=>False
 ct:St→Hp→Prop:=fun _ _=>False
abbrev TS:=zbV→St→Hp→Prop
def EP (X:Cx) (pins:List (Addr×Obj)) (σ:St) (Q:VK) (u:Value) (s':Shared):Prop:=∃ v H',Inv X pins σ H' s'∧zbG v u∧Q v H'
def TP (X:Cx) (pins:List (Addr×Obj)) (σ:St) (Q:Bool→Hp→Prop) (b:Bool) (s':Shared):Prop:=∃ H',Inv X pins σ H' s'∧Q b H'
def AP (X:Cx) (pins:List (Addr×Obj)) (σ:St) (Q:List V→Hp→Prop) (us:List Value) (s':Shared):Prop:=∃ vs H',Inv X pins σ H' s'∧zbj vs us∧Q vs H'
def SP (X:Cx) (pins:List (Addr×Obj)) (D:zbV) (f:Flow) (s':Shared):Prop :=
 match f with
 | .next=>∃ σ' H',Inv X pins σ' H' s'∧D.nx σ' H'
 | .brk=>∃ σ' H',Inv X pins σ' H' s'∧D.bk σ' H'
 | .cont=>∃ σ' H',Inv X pins σ' H' s'∧D.ct σ' H'
 | .ret u=>∃ v σ' H',Inv X pins σ' H' s'∧zbG v u∧D.rt v H'
def PE (X:Cx) (e:Expr) (t:TE):Prop :=
 ∀ (pins:List (Addr×Obj)) (s:Shared) (σ:St) (H:Hp) (Q:VK),Inv X pins σ H s→t σ H Q→wpAny (model X.prog X.w) X.A (eval e X.env) (EP X pins σ Q) X.xe s
def PT (X:Cx) (e:Expr) (t:TT):Prop :=
 ∀ (pins:List (Addr×Obj)) (s:Shared) (σ:St) (H:Hp) (Q:Bool→Hp→Prop),Inv X pins σ H s→t σ H Q→wpAny (model X.prog X.w) X.A (isTrue e X.env (eval e X.env)) (TP X pins σ Q) X.xe s
def PW (X:Cx) (e:Expr) (t:TT):Prop :=
 ∀ (whole:Sem Value) (pins:List (Addr×Obj)) (s:Shared) (σ:St) (H:Hp) (Q:Bool→Hp→Prop),Inv X pins σ H s→t σ H Q→wpAny (model X.prog X.w) X.A (isTrue e X.env whole) (TP X pins σ Q) X.xe s
theorem PW.pt {X:Cx} {e:Expr} {t:TT} (h:PW X e t):PT X e t:=h _
def PA (X:Cx) (es:List Expr) (t:TA):Prop :=
 ∀ (pos:Pos) (pins:List (Addr×Obj)) (s:Shared) (σ:St) (H:Hp) (Q:List V→Hp→Prop),Inv X pins σ H s→t σ H Q→wpAny (model X.prog X.w) X.A (spliced (backTo pos (starEach es X.env))) (AP X pins σ Q) X.xe s
def PS (X:Cx) (st:Stmt) (t:TS):Prop :=
 ∀ (pins:List (Addr×Obj)) (s:Shared) (σ:St) (H:Hp) (D:zbV),Inv X pins σ H s→t D σ H→wpAny (model X.prog X.w) X.A (exec st X.env) (SP X pins D) X.xe s
def PSs (X:Cx) (st:List Stmt) (t:TS):Prop :=
 ∀ (pins:List (Addr×Obj)) (s:Shared) (σ:St) (H:Hp) (D:zbV),Inv X pins σ H s→t D σ H→wpAny (model X.prog X.w) X.A (execs st X.env) (SP X pins D) X.xe s
theorem thn {α:Type} {t:Sem α} {Q Q':α→Shared→Prop} {M:Model} {A:Around} {E:Value→Shared→Prop} {s:Shared} (h:wpAny M A t Q E s) (hQ:∀ a s,Q a s→Q' a s):wpAny M A t Q' E s:=wpAny_mono h hQ fun _ _ x=>x
end L2
namespace L2
open PySem PySem.Spec PyProof.Rows
section
variable {X:Cx}
def zac (i:Nat):TE:=fun σ H Q=>∃ v,σ[i]?=some (some v)∧Q v H
def tC (v:V):TE:=fun _ H Q=>Q v H
theorem znQ {i:Nat} {x:Str} {pos:Pos} (hN:X.N[i]?=some x) (hv:Vis X.env.scope x) (hd:(x == ("__debug__":Str))=false:=by decide) (hcd:(x == ("__classdict__":Str))=false:=by decide):PE X (.Name x pos) (zac i):=by
 intro pins s σ H Q I h
 obtain ⟨v,e,h⟩:=h
 obtain ⟨m,hn,hl⟩:=I.loc
 obtain ⟨u,r,l⟩:=hl i x v hN e hv
 have fin:EP X pins σ Q u s:=⟨v,H,I,r,h⟩
 rcases l with ⟨hk,hm⟩ | ⟨hk,c,hc,hcell⟩
 ·exact wpAny_Name (wpAny_loadName_local I.ok.kind hk hn hm fin) hd
 ·rcases hk with hk | hk
  ·exact wpAny_Name (wpAny_loadName_cell I.ok.kind hk hc hcell fin) hd
  ·exact wpAny_Name (wpAny_loadName_free I.ok.kind hk hc hcell fin hcd) hd
theorem zao {i j pos}:PE X (.Constant (.int i) j pos) (tC (.int i)):=fun _ _ _ H _ I h=>wpAny_Constant_int ⟨.int i,H,I.tok _,⟨_,rfl⟩,h⟩
theorem zgE {b j pos}:PE X (.Constant (.bool b) j pos) (tC (.bl b)):=fun _ _ _ H _ I h=>Constant_bool ⟨.bl b,H,I,rfl,h⟩
theorem zcI {j pos}:PE X (.Constant .none j pos) (tC .non):=fun _ _ _ H _ I h=>Constant_none ⟨.non,H,I,rfl,h⟩
theorem zbS {x j pos}:PE X (.Constant (.str x) j pos) (tC (.str x)):=fun _ _ _ H _ I h=>Calls.Constant_str ⟨.str x,H,I.tok _,⟨_,rfl⟩,h⟩
def Gl (X:Cx) (x:Str):Prop:=X.env.kindOf x=some .globalImplicit
theorem zcW {E:Value→Shared→Prop} {pins:List (Addr×Obj)} {s:Shared} {σ:St} {H:Hp} {x:Str} {u:Value} {pos:Pos} {Q:Value→Shared→Prop} (I:Inv X pins σ H s) (hg:Gl X x) (hm:X.mg x=some u) (h:Q u s)
  (hd:(x == ("__debug__":Str))=false:=by decide):wpAny (model X.prog X.w) X.A (eval (.Name x pos) X.env) Q E s :=
 Calls.Name_function_global I.ok.kind hg (Calls.loadGlobal_global (by rw [I.ok.glob];exact I.mod.glob.keeps I.bk) hm h) hd
theorem zfw {E:Value→Shared→Prop} {pins:List (Addr×Obj)} {s:Shared} {σ:St} {H:Hp} {x:Str} {u:Value} {pos:Pos} {Q:Value→Shared→Prop} (I:Inv X pins σ H s) (hg:Gl X x) (hm:X.mg x=none) (hv:bootBuiltins x=some u) (h:Q u s)
  (hn:x≠"__name__":=by decide) (hd:(x == ("__debug__":Str))=false:=by decide):wpAny (model X.prog X.w) X.A (eval (.Name x pos) X.env) Q E s:=by
 obtain ⟨mb,h1,h2⟩:=I.mod.blt
 exact Calls.Name_function_global I.ok.kind hg (Calls.loadGlobal_builtin (by rw [I.ok.glob];exact I.mod.glob.keeps I.bk) hm (by rw [I.ok.blt];exact h1.keeps I.bk) ((h2 x hn).trans hv) h) hd
theorem zgj {x:Str} {v:V} {u:Value} {pos:Pos} (hg:Gl X x) (hm:X.mg x=some u) (r:zbG v u) (hd:(x == ("__debug__":Str))=false:=by decide):PE X (.Name x pos) (tC v) :=
 fun _ _ _ H _ I h=>zcW I hg hm ⟨v,H,I,r,h⟩ hd
theorem zbo {x:Str} {v:V} {u:Value} {pos:Pos} (hg:Gl X x) (hm:X.mg x=none) (hv:bootBuiltins x=some u) (r:zbG v u) (hn:x≠"__name__":=by decide) (hd:(x == ("__debug__":Str))=false:=by decide):PE X (.Name x pos) (tC v) :=
 fun _ _ _ H _ I h=>zfw I hg hm hv ⟨v,H,I,r,h⟩ hn hd
variable {a b:Expr} {ta tb:TE} {pos:Pos}
def PC (X:Cx) (op:CmpOp) (a b:Expr) (t:TE):Prop :=
 ∀ (pins:List (Addr×Obj)) (s:Shared) (σ:St) (H:Hp) (Q:VK),Inv X pins σ H s→t σ H Q →
  wpAny (model X.prog X.w) X.A (eval a X.env) (fun v s₁=>wpAny (model X.prog X.w) X.A (eval b X.env) (fun u s₂=>wpAny (model X.prog X.w) X.A (compareOp op v u) (EP X pins σ Q) X.xe s₂) X.xe s₁) X.xe s
def tB (t:TE):TT:=fun σ H Q=>t σ H fun x H1=>∃ c,x=.bl c∧Q c H1
theorem zn0 {op:CmpOp} {t:TE} (h:PC X op a b t) (h1:behindInMarks op b=false:=by first | exact nobehind _ (by decide) (by decide) | rfl):PT X (.Compare a [op] [b] pos) (tB t):=by
 intro pins s σ H Q I hw
 refine wpAny_isTrue_Compare1 (thn (h pins s σ H _ I hw) fun v s1 h1=>thn h1 fun u s2 h2=>thn h2 fun c s3 hQ'=>?_) h1
 obtain ⟨x,H1,I1,r1,q1⟩:=hQ'
 obtain ⟨d,rfl,q⟩:=q1
 cases r1
 exact wpAny_truthy_bool ⟨H1,I1,q⟩
theorem zci {e:Expr} {t:TE} (h:PE X e t) (he:∀ whole,isTrue e X.env whole=(do let v ← whole;standAt e.pos;holding [v] (truthy v)):=by intro _;rfl):PT X e (tB t):=by
 intro pins s σ H Q I hw
 refine isTrue_plain (thn (h pins s σ H _ I hw) fun v s1 hQ'=>?_) (he _)
 obtain ⟨x,H1,I1,r1,q1⟩:=hQ'
 obtain ⟨d,rfl,q⟩:=q1
 cases r1
 exact wpAny_truthy_bool ⟨H1,I1,q⟩
variable {tA tB':TT} {ziJ:List Expr}
def zoO (t u:TT):TT:=fun σ H Q=>t σ H fun c H1=>if c=true then u σ H1 Q else Q false H1
def tOr (t u:TT):TT:=fun σ H Q=>t σ H fun c H1=>if c=true then Q true H1 else u σ H1 Q
def zeV (t:TT):TT:=fun σ H Q=>t σ H fun c H1=>Q (!c) H1
theorem ziR (ha:PT X a tA):PW X (.BoolOp .And [a] pos) tA:=by
 intro wh pins s σ H Q I h
 refine isTrue_and (thn (ha pins s σ H Q I h) fun c s1 e=>?_)
 cases c with
 | true=>exact isTrue_and_nil e
 | false=>exact e
theorem zdA (ha:PT X a tA):PW X (.BoolOp .Or [a] pos) tA:=by
 intro wh pins s σ H Q I h
 refine isTrue_or (thn (ha pins s σ H Q I h) fun c s1 e=>?_)
 cases c with
 | false=>exact isTrue_or_nil e
 | true=>exact e
theorem zmd (ha:PT X a tA) (hb:PW X (.BoolOp .And (b::ziJ) pos) tB'):PW X (.BoolOp .And (a::b::ziJ) pos) (zoO tA tB'):=by
 intro wh pins s σ H Q I h
 refine isTrue_and (thn (ha pins s σ H _ I h) fun c s1 hQ'=>?_)
 obtain ⟨H1,I1,q1⟩:=hQ'
 cases c with
 | true=>exact hb wh pins s1 σ H1 Q I1 q1
 | false=>exact ⟨H1,I1,q1⟩
theorem zew (ha:PT X a tA) (hb:PW X (.BoolOp .Or (b::ziJ) pos) tB'):PW X (.BoolOp .Or (a::b::ziJ) pos) (tOr tA tB'):=by
 intro wh pins s σ H Q I h
 refine isTrue_or (thn (ha pins s σ H _ I h) fun c s1 hQ'=>?_)
 obtain ⟨H1,I1,q1⟩:=hQ'
 cases c with
 | true=>exact ⟨H1,I1,q1⟩
 | false=>exact hb wh pins s1 σ H1 Q I1 q1
theorem zcO (ha:PT X a tA):PT X (.UnaryOp .Not a pos) (zeV tA):=by
 intro pins s σ H Q I h
 exact isTrue_not (ha pins s σ H (fun c H1=>Q (!c) H1) I h)
def zck (ta tb:TE):TE:=fun σ H Q=>ta σ H fun x H1=>∃ c,x=.bl c∧if c=true then tb σ H1 Q else Q (.bl false) H1
def zla (ta:TE):TE:=fun σ H Q=>ta σ H fun x H1=>∃ c,x=.bl c∧Q (.bl (!c)) H1
theorem zeK {op} {t:TE} (h:PE X a t):PE X (.BoolOp op [a] pos) t:=fun pins s σ H Q I hw=>BoolOp_one (h pins s σ H Q I hw)
theorem zcL (ha:PE X a ta) (hb:PE X (.BoolOp .And (b::ziJ) pos) tb):PE X (.BoolOp .And (a::b::ziJ) pos) (zck ta tb):=by
 intro pins s σ H Q I h
 refine BoolOp_and (thn (ha pins s σ H _ I h) fun v s1 hQ'=>?_)
 obtain ⟨x,H1,I1,r1,q1⟩:=hQ'
 obtain ⟨c,rfl,q1⟩:=q1
 cases r1
 refine wpAny_truthy_bool ?_
 cases c with
 | true=>exact hb pins s1 σ H1 Q I1 q1
 | false=>exact ⟨.bl false,H1,I1,rfl,q1⟩
theorem znU (ha:PE X a ta):PE X (.UnaryOp .Not a pos) (zla ta):=by
 intro pins s σ H Q I h
 refine UnaryOp_ (thn (ha pins s σ H _ I h) fun v s1 hQ'=>?_)
 obtain ⟨x,H1,I1,r1,q1⟩:=hQ'
 obtain ⟨c,rfl,q1⟩:=q1
 cases r1
 exact not_of (wpAny_truthy_bool ⟨.bl (!c),H1,I1,rfl,q1⟩)
def tIf (t:TT) (ta tb:TE):TE:=fun σ H Q=>t σ H fun c H1=>if c=true then ta σ H1 Q else tb σ H1 Q
theorem zfM {c:Expr} (hc:PT X c tA) (ha:PE X a ta) (hb:PE X b tb):PE X (.IfExp c a b pos) (tIf tA ta tb):=by
 intro pins s σ H Q I h
 refine wpAny_IfExp (thn (hc pins s σ H _ I h) fun d s1 hQ'=>?_)
 obtain ⟨H1,I1,q1⟩:=hQ'
 cases d with
 | true=>exact ha pins s1 σ H1 Q I1 q1
 | false=>exact hb pins s1 σ H1 Q I1 q1
end
end L2
namespace L2
open PySem PySem.Spec PyProof.Rows
def SqL (K:PySem.W.Frag) (H:Hp) (a:Addr) (xs:List V):Prop :=
 Rd H a (.lst xs) ∨
  ∃ (o:Obj) (its:Array Value) (n:Nat),K.lookup a=some o∧o.cls=.type "list"∧o.dict=none∧o.data=.seq its n∧its.size≤sizeLine∧zbj xs its.toList
def SqT (K:PySem.W.Frag) (H:Hp) (a:Addr) (xs:List V):Prop :=
 Rd H a (.tup xs) ∨
  ∃ (o:Obj) (its:Array Value) (n:Nat),K.lookup a=some o∧o.cls=.type "tuple"∧o.data=.seq its n∧its.size≤sizeLine∧zbj xs its.toList
def absV:Value→Option V
 | .none=>some .non
 | .bool b=>some (.bl b)
 | .int i _=>some (.int i)
 | .str x _=>some (.str x)
 | .bytes b _=>some (.byt b)
 | .float b _=>some (.flt b)
 | .ref a=>some (.ref a)
 | .type n=>some (.ty n)
 | _=>none
theorem zbG.abs {x:V} {u:Value} (r:zbG x u):absV u=some x:=by
 cases x with
 | non=>cases r;rfl
 | bl _=>cases r;rfl
 | int _=>obtain ⟨t,rfl⟩:=r;rfl
 | str _=>obtain ⟨t,rfl⟩:=r;rfl
 | byt _=>obtain ⟨t,rfl⟩:=r;rfl
 | flt _=>obtain ⟨t,rfl⟩:=r;rfl
 | ref _=>cases r;rfl
 | ty _=>cases r;rfl
theorem zbG.inj {x y:V} {u:Value} (r:zbG x u) (q:zbG y u):x=y:=Option.some.inj (r.abs.symm.trans q.abs)
theorem zbj.inj:∀ {xs ys:List V} {us:List Value},zbj xs us→zbj ys us→xs=ys
 | _,_,_,.nil,.nil=>rfl
 | _,_,_,.cons r t,.cons r' t'=>by rw [r.inj r',zbj.inj t t']
section
variable {X:Cx} {pins:List (Addr×Obj)} {σ:St} {H:Hp} {s:Shared} {a:Addr} {xs ys:List V}
theorem SqL.of {K:PySem.W.Frag} (h:H a=some (.lst xs)):SqL K H a xs:=.inl (.inl h)
theorem SqT.of {K:PySem.W.Frag} (h:H a=some (.tup xs)):SqT K H a xs:=.inl (.inl h)
theorem Inv.list (I:Inv X pins σ H s) (h:SqL X.K H a xs):∃ its:List Value,zbj xs its∧PlainL s.heap a its.toArray∧xs.length≤sizeLine:=by
 rcases h with h | ⟨o,its,n,hk,hc,hd,hs,hz,r⟩
 ·obtain ⟨z,its,n,r,e⟩:=h.ok I.hok
  exact ⟨its,r,⟨_,n,e,rfl,rfl,rfl⟩,z⟩
 ·refine ⟨its.toList,r,⟨o,n,I.kIn a o hk,hc,hd,by simpa using hs⟩,?_⟩
  have e:=r.length
  simp only [Array.length_toList] at e
  (first|lia|omega)
theorem Inv.tuple (I:Inv X pins σ H s) (h:SqT X.K H a xs):∃ its:List Value,zbj xs its∧IsTup s.heap a its.toArray∧xs.length≤sizeLine:=by
 rcases h with h | ⟨o,its,n,hk,hc,hs,hz,r⟩
 ·obtain ⟨z,its,r,p⟩:=h.ok I.hok
  exact ⟨its,r,p,z⟩
 ·refine ⟨its.toList,r,⟨o,I.kIn a o hk,hc,n,by simpa using hs⟩,?_⟩
  have e:=r.length
  simp only [Array.length_toList] at e
  (first|lia|omega)
theorem Inv.list_inj (I:Inv X pins σ H s) (h:SqL X.K H a xs) (h':SqL X.K H a ys):xs=ys:=by
 obtain ⟨its,r,⟨o,n,e,_,_,d⟩,_⟩:=I.list h
 obtain ⟨its',r',⟨o',n',e',_,_,d'⟩,_⟩:=I.list h'
 rw [e] at e';cases e'
 rw [d] at d'
 injection d' with d1 _
 have:its=its':=by simpa using congrArg Array.toList d1
 subst this
 exact r.inj r'
theorem Inv.tuple_inj (I:Inv X pins σ H s) (h:SqT X.K H a xs) (h':SqT X.K H a ys):xs=ys:=by
 obtain ⟨its,r,⟨o,e,_,n,d⟩,_⟩:=I.tuple h
 obtain ⟨its',r',⟨o',e',_,n',d'⟩,_⟩:=I.tuple h'
 rw [e] at e';cases e'
 rw [d] at d'
 injection d' with d1 _
 have:its=its':=by simpa using congrArg Array.toList d1
 subst this
 exact r.inj r'
end
abbrev Cx.wish (X:Cx) (E:Value→Shared→Prop):Cx:={ X with xe:=E }
abbrev Cx.nox (X:Cx):Cx:=X.wish fun _ _=>False
theorem Cx.Ok.wish {X:Cx} (ok:X.Ok) (E:Value→Shared→Prop):(X.wish E).Ok :=
 ⟨ok.mod,ok.kind,ok.glob,ok.blt,ok.above,ok.inj,ok.has,ok.cab,ok.hd,ok.frames,ok.stk,ok.exf,ok.bs,ok.bsz,ok.noex,ok.exfs,ok.funs,ok.frf⟩
theorem Cx.Ok.unwish {X:Cx} {E:Value→Shared→Prop} (ok:(X.wish E).Ok):X.Ok :=
 ⟨ok.mod,ok.kind,ok.glob,ok.blt,ok.above,ok.inj,ok.has,ok.cab,ok.hd,ok.frames,ok.stk,ok.exf,ok.bs,ok.bsz,ok.noex,ok.exfs,ok.funs,ok.frf⟩
section
variable {X:Cx} {pins:List (Addr×Obj)} {σ:St} {H:Hp} {s:Shared} {E:Value→Shared→Prop}
theorem Inv.wish (I:Inv X pins σ H s) (E:Value→Shared→Prop):Inv (X.wish E) pins σ H s:=⟨I.ok.wish E,I.os,I.bare,I.base,I.loc,I.cell,I.free,I.freeC,I.pin,I.hok,I.len⟩
theorem Inv.unwish (I:Inv (X.wish E) pins σ H s):Inv X pins σ H s:=⟨I.ok.unwish,I.os,I.bare,I.base,I.loc,I.cell,I.free,I.freeC,I.pin,I.hok,I.len⟩
theorem SP.unwish {D:zbV} {f:Flow} {s':Shared} (h:SP (X.wish E) pins D f s'):SP X pins D f s':=by
 cases f with
 | next=>obtain ⟨σ',H',I,q⟩:=h;exact ⟨σ',H',I.unwish,q⟩
 | brk=>obtain ⟨σ',H',I,q⟩:=h;exact ⟨σ',H',I.unwish,q⟩
 | cont=>obtain ⟨σ',H',I,q⟩:=h;exact ⟨σ',H',I.unwish,q⟩
 | ret u=>obtain ⟨v,σ',H',I,r,q⟩:=h;exact ⟨v,σ',H',I.unwish,r,q⟩
theorem PSs.nox {st:List Stmt} {t:TS} (h:PSs X.nox st t):PSs X st t:=fun pins s σ H D I hw =>
 wpAny_mono (h pins s σ H D (I.wish _) hw) (fun _ _ q=>q.unwish) fun _ _ z=>False.elim z
end
section
variable {X:Cx} {st:Stmt} {ziJ:List Stmt} {t u:TS} {e:Expr} {te:TE} {pos:Pos}
def za9:TS:=fun D σ H=>D.nx σ H
def za0 (t u:TS):TS:=fun D σ H=>t { D with nx:=u D } σ H
theorem zbc:PSs X [] za9:=fun _ _ σ H _ I h=>wpAny_execs_nil ⟨σ,H,I,h⟩
theorem zaf (h1:PS X st t) (h2:PSs X ziJ u):PSs X (st::ziJ) (za0 t u):=by
 intro pins s σ H D I h
 refine wpAny_execs_cons (thn (h1 pins s σ H { D with nx:=u D } I h) fun f s1 q=>?_)
 cases f with
 | next =>
  obtain ⟨σ',H',I',q⟩:=q
  exact h2 pins s1 σ' H' D I' q
 | ret v=>exact q
 | brk=>exact q
 | cont=>exact q
theorem zas (h1:PS X st t):PSs X [st] t:=by
 intro pins s σ H D I h
 refine wpAny_execs_cons (thn (h1 pins s σ H D I h) fun f s1 q=>?_)
 cases f with
 | next=>exact wpAny_execs_nil q
 | ret v=>exact q
 | brk=>exact q
 | cont=>exact q
theorem Inv.quiet {pins:List (Addr×Obj)} {σ:St} {H:Hp} {s:Shared} (I:Inv X pins σ H s):interactive X.env=false:=by simp [interactive,I.ok.kind]
def zdo (te:TE):TS:=fun D σ H=>te σ H fun _ H1=>D.nx σ H1
theorem zcn (he:PE X e te) (hs:swapsWith e none pos.line X.env=pure false:=by rfl):PS X (.Expr e pos) (zdo te):=by
 intro pins s σ H D I h
 exact wpAny_Expr_any (thn (he pins s σ H _ I h) fun v s1 ⟨x,H1,I1,r1,q1⟩=>⟨σ,H1,I1,q1⟩) I.quiet hs
def zbW (te:TE):TS:=fun D σ H=>te σ H D.rt
theorem zaZ (he:PE X e te):PS X (.Return (some e) pos) (zbW te):=by
 intro pins s σ H D I h
 exact wpAny_Return_some (thn (he pins s σ H _ I h) fun v s1 ⟨x,H1,I1,r1,q1⟩=>⟨x,σ,H1,I1,r1,q1⟩)
def zch (c:TT) (t u:TS):TS:=fun D σ H=>c σ H fun b H1=>if b=true then t D σ H1 else u D σ H1
theorem zcl {c:Expr} {a b:List Stmt} {tc:TT} (hc:PT X c tc) (ha:PSs X a t) (hb:PSs X b u):PS X (.If c a b pos) (zch tc t u):=by
 intro pins s σ H D I h
 refine wpAny_If (thn (hc pins s σ H _ I h) fun d s1 hQ'=>?_)
 obtain ⟨H1,I1,q1⟩:=hQ'
 cases d with
 | true=>exact ha pins s1 σ H1 D I1 q1
 | false=>exact hb pins s1 σ H1 D I1 q1
end
abbrev TG:=V→St→Hp→(St→Hp→Prop)→Prop
abbrev TGs:=List V→St→Hp→(St→Hp→Prop)→Prop
def PG (X:Cx) (target:Expr) (t:TG):Prop :=
 ∀ (pins:List (Addr×Obj)) (s:Shared) (σ:St) (H:Hp) (v:V) (u:Value) (Q:St→Hp→Prop),Inv X pins σ H s→zbG v u→t v σ H Q →
  wpAny (model X.prog X.w) X.A (assign target X.env u) (fun _ s'=>∃ σ' H',Inv X pins σ' H' s'∧Q σ' H') X.xe s
def PGs (X:Cx) (ts:List Expr) (t:TGs):Prop :=
 ∀ (pins:List (Addr×Obj)) (s:Shared) (σ:St) (H:Hp) (vs:List V) (us:List Value) (Q:St→Hp→Prop),Inv X pins σ H s→zbj vs us→t vs σ H Q →
  wpAny (model X.prog X.w) X.A (assignInOrder ((assignEach ts X.env).map (·.2)) us) (fun _ s'=>∃ σ' H',Inv X pins σ' H' s'∧Q σ' H') X.xe s
section
variable {X:Cx} {pos:Pos}
def zar (i:Nat):TG:=fun v σ H Q=>Q (σ.set i (some v)) H
theorem zaM {i:Nat} {x:Str} (hN:X.N.Nodup) (hi:X.N[i]?=some x) (hx:Loc X.env.scope x) (hf:X.fn x=true∨X.env.scope.names.lookup x=some .local:=by first | exact .inl rfl | exact .inr rfl | assumption):PG X (.Name x pos) (zar i):=by
 intro pins s σ H v u Q I r h
 exact wpAny_assign_Name (zeS I hN hi hx r (fun s' I'=>⟨_,H,I',h⟩) hf)
def ziI:TGs:=fun vs σ H Q=>vs=[]∧Q σ H
def zbv (t:TG) (u:TGs):TGs:=fun vs σ H Q=>∃ v r,vs=v::r∧t v σ H fun σ' H'=>u r σ' H' Q
theorem zcX:PGs X [] ziI:=by
 intro pins s σ H vs us Q I r h
 obtain ⟨e,h⟩:=h
 subst e
 cases r
 exact assignInOrder_nil ⟨σ,H,I,h⟩
theorem zaX {e:Expr} {es:List Expr} {t:TG} {u:TGs} (h1:PG X e t) (h2:PGs X es u)
  (hs:(assignEach (e::es) X.env).map (·.2)=assign e X.env::(assignEach es X.env).map (·.2):=by rfl):PGs X (e::es) (zbv t u):=by
 intro pins s σ H vs us Q I r h
 obtain ⟨v,vr,e1,h⟩:=h
 subst e1
 cases r with
 | cons r rr =>
  rw [hs]
  refine assignInOrder_cons (thn (h1 pins s σ H _ _ _ I r h) fun _ s1 hQ'=>?_)
  obtain ⟨σ1,H1,I1,q1⟩:=hQ'
  exact h2 pins s1 σ1 H1 _ _ Q I1 rr q1
def ziH (K:PySem.W.Frag) (n:Nat) (t:TGs):TG:=fun v σ H Q=>∃ a xs,v=.ref a∧SqT K H a xs∧xs.length=n∧t xs σ H Q
theorem zeC {es:List Expr} {k:Nat} {t:TGs} {n:Nat} (hc:X.calm=true) (h:PGs X es t)
  (hn:(assignEach es X.env).length=n:=by rfl) (hst:(assignEach es X.env).findIdx? (·.1)=none:=by rfl):PG X (.Tuple es k pos) (ziH X.K n t):=by
 intro pins s σ H v u Q I r hw
 obtain ⟨a,xs,e1,hq,hl,hw⟩:=hw
 subst e1
 cases r
 obtain ⟨its,rv,ht,hz⟩:=I.tuple hq
 refine assign_Tuple_tuple (I.ok.hd hc) ht (by simp [hn,← hl,rv.length]) hst fun h' hx=>?_
 have I1:Inv X pins σ H { s with heap:=h' }:=I.kept (t':=s.toks) fun b o e=>hx b o (Nat.ne_of_lt (Heap.lt_size e)) e
 exact h pins _ σ H xs _ Q I1 (by simpa using rv) hw
def zbF (te:TE) (g:TG):TS:=fun D σ H=>te σ H fun x H1=>g x σ H1 D.nx
theorem zl2 {tg e:Expr} {te:TE} {g:TG} (he:PE X e te) (hg:PG X tg g) (hs:swapsWithSole [tg] e pos.line X.env=pure false:=by rfl) (hw:swappedStores [tg] e X.env=pure none:=by rfl)
  (h1:(assignEach [tg] X.env).map (·.2)=[assign tg X.env]:=by rfl):PS X (.Assign [tg] e pos) (zbF te g):=by
 intro pins s σ H D I h
 refine wpAny_Assign_stores (thn (he pins s σ H _ I h) fun v s1 hQ'=>?_) hs hw
 obtain ⟨x,H1,I1,r1,q1⟩:=hQ'
 rw [h1]
 exact thn (hg pins s1 σ H1 x v _ I1 r1 q1) fun _ s2 q=>q
theorem zaU {i:Nat} {x:Str} {e:Expr} {te:TE} {pos':Pos} (hN:X.N.Nodup) (hi:X.N[i]?=some x) (hx:Loc X.env.scope x) (he:PE X e te) (hs:swapsWith e (some (.Name x pos')) pos.line X.env=pure false:=by rfl) (hf:X.fn x=true∨X.env.scope.names.lookup x=some .local:=by first | exact .inl rfl | exact .inr rfl | assumption) :
  PS X (.Assign [.Name x pos'] e pos) (zbF te (zar i)):=by
 intro pins s σ H D I h
 refine wpAny_Assign_Name (thn (he pins s σ H _ I h) fun v s1 hQ'=>?_) hs
 obtain ⟨y,H1,I1,r1,q1⟩:=hQ'
 exact zeS I1 hN hi hx r1 (fun s2 I2=>⟨_,H1,I2,q1⟩) hf
def tPar (i j:Nat) (ta:TA):TS:=fun D σ H=>ta σ H fun vs H1=>∃ v w,vs=[v,w]∧D.nx ((σ.set i (some v)).set j (some w)) H1
theorem zpZ {i j:Nat} {x y:Str} {a b:Expr} {ta:TA} {px py pt:Pos} {kt k2 pt2} (hc:X.calm=true) (hN:X.N.Nodup) (hi:X.N[i]?=some x) (hj:X.N[j]?=some y) (hij:i≠j)
  (hx:X.env.scope.names.lookup x=some .local) (hy:X.env.scope.names.lookup y=some .local) (ha:PA X [a,b] ta)
  (hw:swappedStores [.Tuple [.Name x px,.Name y py] kt pt] (.Tuple [a,b] k2 pt2) X.env=pure (some [x,y]))
  (hs:swapsWithSole [.Tuple [.Name x px,.Name y py] kt pt] (.Tuple [a,b] k2 pt2) pos.line X.env=pure false:=by rfl) :
  PS X (.Assign [.Tuple [.Name x px,.Name y py] kt pt] (.Tuple [a,b] k2 pt2) pos) (tPar i j ta):=by
 intro pins s σ H D I h
 rw [exec_Assign_arm]
 refine wpAny_bind (wpAny_standAt ?_)
 rw [hs]
 refine wpAny_bind (wpAny_pure ?_)
 rw [if_neg (by decide)]
 refine wpAny_bind (Tuple_ (thn (ha _ pins s σ H _ I h) fun us s1 hQ'=>?_))
 obtain ⟨vs,H1,I1,r1,q1⟩:=hQ'
 obtain ⟨v,w,e1,q1⟩:=q1
 subst e1
 obtain ⟨u1,u2,rfl,rv,rw'⟩:∃ u1 u2,us=[u1,u2]∧zbG v u1∧zbG w u2:=by
  cases r1 with
  | cons p q =>
   cases q with
   | cons p' q' =>
    cases q'
    exact ⟨_,_,rfl,p,p'⟩
 refine wpAny_newObj_type ?_ (by show 2≤sizeLine;decide)
 have I2:Inv X pins σ H1 { s1 with heap:=s1.heap.push { cls:=.type "tuple",data:=.seq [u1,u2].toArray } }:=I1.kept (t':=s1.toks) fun b o e=>Heap.get?_push_of_some _ e
 rw [hw]
 refine wpAny_bind (wpAny_pure ?_)
 show wpAny (model X.prog X.w) X.A (do rule "assign.swapped-stores";let items ← unpackItems (.ref s1.heap.objs.size) 2 none;assignInOrder [fun v=>bindName X.env y v,fun v=>bindName X.env x v] items.reverse;pure Flow.next) _ _ _
 refine wpAny_bind (wpAny_rule (wpAny_bind (unpackItems_tuple (items:=#[u1,u2]) (I.ok.hd hc) (IsTup.new s1.heap _) fun h' hx'=>?_)))
 have I3:=I2.kept (h':=h') (t':=s1.toks) fun b o e=>hx' b o (Nat.ne_of_lt (Heap.lt_size e)) e
 show wpAny _ _ (assignInOrder [fun v=>bindName X.env y v,fun v=>bindName X.env x v] [u2,u1] >>= fun _=>pure Flow.next) _ _ _
 refine wpAny_bind (assignInOrder_cons (wpAny_bindName (zeS I3 hN hj (.inl hy) rw' (fun s2 I4=>?_) (.inr hy))))
 refine assignInOrder_cons (wpAny_bindName (zeS I4 hN hi (.inl hx) rv (fun s3 I5=>assignInOrder_nil (wpAny_pure ?_)) (.inr hx)))
 rw [List.set_comm _ _ (Ne.symm hij)] at I5
 exact ⟨_,H1,I5,q1⟩
end
section
variable {X:Cx} {pos:Pos}
def zlY (c:TT) (tb:TS):TS:=fun D σ H=>∃ W:Nat→St→Hp→Prop,(∃ m,W m σ H)∧∀ m σ H,W m σ H →
 c σ H fun b H1=>if b=true then ∃ N:St→Hp→Prop,(∀ σ' H',N σ' H'→∃ m',m'<m∧W m' σ' H')∧tb { D with nx:=N,ct:=N,bk:=D.nx } σ H1 else D.nx σ H1
theorem zmp {c:Expr} {body:List Stmt} {tc:TT} {tb:TS} (hp:PassesOwn (model X.prog X.w) X.A X.env X.xe) (hc:PT X c tc) (hb:PSs X body tb):PS X (.While c body [] pos) (zlY tc tb):=by
 intro pins s σ H D I h
 obtain ⟨W,⟨m0,w0⟩,turn⟩:=h
 refine wpAny_While (codeAny_whileLoop (fun n s'=>∃ σ' H',Inv X pins σ' H' s'∧W n σ' H') ?_ m0 ⟨σ,H,I,w0⟩)
 rintro n s1 ⟨σ1,H1,I1,w1⟩
 refine wpAny_passesOwn hp (thn (hc pins s1 σ1 H1 _ I1 (turn n σ1 H1 w1)) fun b s2 hQ'=>?_)
 obtain ⟨H2,I2,q2⟩:=hQ'
 cases b with
 | true =>
  obtain ⟨N,hN,q2⟩:=q2
  rw [if_pos rfl]
  refine wpAny_passesOwn hp (thn (hb pins s2 σ1 H2 _ I2 q2) fun f s3 q3=>?_)
  cases f with
  | next =>
   obtain ⟨σ3,H3,I3,n3⟩:=q3
   obtain ⟨m',hm,w3⟩:=hN σ3 H3 n3
   exact ⟨m',hm,σ3,H3,I3,w3⟩
  | cont =>
   obtain ⟨σ3,H3,I3,n3⟩:=q3
   obtain ⟨m',hm,w3⟩:=hN σ3 H3 n3
   exact ⟨m',hm,σ3,H3,I3,w3⟩
  | brk=>exact q3
  | ret v=>exact q3
 | false =>
  rw [if_neg Bool.false_ne_true]
  exact wpAny_execs_nil ⟨σ1,H2,I2,q2⟩
end
structure It where
 go:Nat→Hp→Prop
 yld:Nat→Hp→V→Hp→Prop
 stop:Nat→Hp→Prop
def zjt (X:Cx) (pins:List (Addr×Obj)) (H:Hp) (b:Addr):Prop :=
 H b=none∧b≠X.env.locals∧b∉X.fs∧(b∈X.ex∨X.s₀.heap.objs.size≤b)∧(∀ x c,X.env.cells.lookup x=some c→c≠b)∧∀ p∈X.pn++pins,p.1≠b
theorem Inv.fpOk {X:Cx} {pins:List (Addr×Obj)} {σ:St} {H H':Hp} {s:Shared} {b:Addr} (I:Inv X pins σ H s) (hb:s.heap.objs.size≤b) (hn:H' b=none):zjt X pins H' b:=by
 refine ⟨hn,Nat.ne_of_gt (Nat.lt_of_lt_of_le I.lt hb),I.nofs hb,.inr (Nat.le_trans I.sz hb),fun x c e z=>?_,fun p hp z=>?_⟩
 ·obtain ⟨v,q⟩:=I.cell x c e
  exact absurd (Nat.lt_of_lt_of_le q.lt (by rw [z];exact hb)) (Nat.lt_irrefl _)
 ·exact absurd (Nat.lt_of_lt_of_le (Heap.lt_size (I.pin p hp).1) (by rw [z];exact hb)) (Nat.lt_irrefl _)
structure zo8 (P:Program) (w:World) (K:PySem.W.Frag) (tg:Expr) (J:It) (fp:List Addr) (it:Addr) (tn:Nat→Heap→Prop):Prop where
 mem:it∈fp
 obj:∀ i h,tn i h→∀ b∈fp,∃ o,h.get? b=some o∧∀ v,o.data≠.cell v
 keep:∀ i h h',tn i h→(∀ b∈fp,∀ o,h.get? b=some o→h'.get? b=some o)→tn i h'
 item:∀ (X:Cx),X.prog=P→X.w=w→X.K=K→X.calm=true→∀ (i:Nat) (pins:List (Addr×Obj)) (s:Shared) (σ:St) (H:Hp) (E:Value→Shared→Prop),Inv X pins σ H s→(∀ b∈fp,zjt X pins H b)→tn i s.heap→J.go i H →
  wpAny (model P w) X.A (pyNext (.ref it)) (fun r s1=>∃ u,r=some u ∧
   wpAny (model P w) X.A (letOwnedTupleGo tg (.ref it) u) (fun _ s2=>∃ x H',Inv X pins σ H' s2∧zbG x u∧J.yld i H x H'∧tn (i+1) s2.heap∧∀ b∈fp,H' b=none) E s1) E s
 done:∀ (X:Cx),X.prog=P→X.w=w→X.K=K→X.calm=true→∀ (i:Nat) (pins:List (Addr×Obj)) (s:Shared) (σ:St) (H:Hp) (E:Value→Shared→Prop),Inv X pins σ H s→(∀ b∈fp,zjt X pins H b)→tn i s.heap→J.stop i H →
  wpAny (model P w) X.A (pyNext (.ref it)) (fun r s1=>r=none∧Inv X pins σ H s1) E s
 self:∀ (A:Around) (i:Nat) (s:Shared) (Q:Value→Shared→Prop) (E:Value→Shared→Prop),tn i s.heap→Q (.ref it) s→wpAny (model P w) A (pyIter (.ref it)) Q E s
abbrev TI:=St→Hp→(It→Hp→Prop)→Prop
def PIE (X:Cx) (pins:List (Addr×Obj)) (σ:St) (tg:Expr) (R:It→Hp→Prop) (itv:Value) (s2:Shared):Prop :=
 ∃ (it:Addr) (fp:List Addr) (tn:Nat→Heap→Prop) (J:It) (H':Hp),itv=.ref it∧Inv X pins σ H' s2∧zo8 X.prog X.w X.K tg J fp it tn∧tn 0 s2.heap∧(∀ b∈fp,zjt X pins H' b)∧R J H'
def PI (X:Cx) (tg iter:Expr) (wi:TI):Prop :=
 ∀ (pins:List (Addr×Obj)) (s:Shared) (σ:St) (H:Hp) (R:It→Hp→Prop),Inv X pins σ H s→wi σ H R →
  wpAny (model X.prog X.w) X.A (eval iter X.env) (fun v s1=>wpAny (model X.prog X.w) X.A (pyIter v) (PIE X pins σ tg R) X.xe s1) X.xe s
theorem zos {M:Model} {A:Around} {E:Value→Shared→Prop} {s:Shared} {tg:Expr} {it:Addr} {u:Value} {o:Obj} {n:String} {vs:Array Value} {Q:Unit→Shared→Prop} (ho:s.heap.get? it=some o) (hc:o.cls=.type n) (hd:o.data=.fields vs)
  (hn:["enumerate","zip","dict_itemiterator","dict_reverseitemiterator","odict_iterator","itertools.zip_longest","itertools.pairwise"].contains n=false) (hQ:Q () s):wpAny M A (letOwnedTupleGo tg (.ref it) u) Q E s:=by
 unfold letOwnedTupleGo
 cases tg <;> first
  | exact wpAny_pure hQ
  | (cases u <;> first
    | exact wpAny_pure hQ
    | (refine wpAny_bind (wpAny_load ho ?_)
       rw [hc,hd]
       show wpAny M A (if (["enumerate","zip","dict_itemiterator","dict_reverseitemiterator","odict_iterator","itertools.zip_longest","itertools.pairwise"].contains n&&vs[0]? == some (rawInt _))=true then _ else _) Q E s
       rw [if_neg (by intro h;rw [hn,Bool.false_and] at h;cases h)]
       exact wpAny_pure hQ))
def Itl (K:PySem.W.Frag) (a:Addr):It :=
 ⟨fun i H=>∃ xs x,SqL K H a xs∧xs[i]?=some x,fun i H x H'=>H'=H∧∀ xs,SqL K H a xs→xs[i]?=some x,fun i H=>∃ xs,SqL K H a xs∧xs.length≤i⟩
def Itr (lo:Int) (n:Nat):It:=⟨fun i _=>i<n,fun i H x H'=>H'=H∧x=.int (lo+i),fun i _=>n≤i⟩
theorem zkS {P:Program} {w:World} {K:PySem.W.Frag} {tg:Expr} (a it:Addr):zo8 P w K tg (Itl K a) [it] it (fun i h=>h.IsListIter it a i) where
 mem:=by simp
 obj:=fun i h st b hb=>by
  have e:b=it:=by simpa using hb
  subst e
  obtain ⟨o,e,c,d⟩:=st
  exact ⟨o,e,fun v z=>by rw [d] at z;cases z⟩
 keep:=fun i h h' st k=>st.at fun o e=>k it (by simp) o e
 item:=by
  intro X hP hw hK hc i pins s σ H E I hf st hg
  subst hP hw hK
  obtain ⟨xs,x,hq,hx⟩:=hg
  obtain ⟨its,rv,p,hz⟩:=I.list hq
  obtain ⟨u,hu,ru⟩:=rv.get hx
  obtain ⟨f0,f1,f2,f3,f4,f5⟩:=hf it (by simp)
  refine wpAny_pyNext_list_item st p.isList (x:=u) (by simpa using hu) fun h' st' sb=>?_
  have I1:Inv X pins σ H { s with heap:=h' }:=I.turned (t':=s.toks) (fun b o hb e=>(sb.2 b hb).trans e) f0 f1 f3 f4 f5
  obtain ⟨o,e,c,d⟩:=id st'
  exact ⟨u,rfl,zos (s:={ s with heap:=h' }) e c d (by decide) ⟨x,H,I1,ru,⟨rfl,fun ys hy=>by rw [I.list_inj hy hq];exact hx⟩,st',fun b hb=>(hf b hb).1⟩⟩
 done:=by
  intro X hP hw hK hc i pins s σ H E I hf st hg
  subst hP hw hK
  obtain ⟨xs,hq,hx⟩:=hg
  obtain ⟨its,rv,p,hz⟩:=I.list hq
  obtain ⟨f0,f1,f2,f3,f4,f5⟩:=hf it (by simp)
  have hl:=rv.length
  exact wpAny_pyNext_list_end (I.ok.hd hc) st p.isList (by simp;(first|lia|omega)) fun h' eb=>⟨rfl,I.turned (t':=s.toks) (fun b o hb e=>eb b o hb e) f0 f1 f3 f4 f5⟩
 self:=fun _ _ _ _ _ st h=>wpAny_pyIter_listiter st h
theorem zkg {P:Program} {w:World} {K:PySem.W.Frag} {tg:Expr} (it:Addr) (lo:Int) (n:Nat):zo8 P w K tg (Itr lo n) [it] it (fun i h=>IsRangeIter h it (lo+(i:Nat)*1) ((n:Int) - (i:Nat)) 1) where
 mem:=by simp
 obj:=fun i h st b hb=>by
  have e:b=it:=by simpa using hb
  subst e
  exact ⟨_,st,fun v z=>by
   have z':Data.fields _=Data.cell v:=z
   cases z'⟩
 keep:=fun i h h' st k=>k it (by simp) _ st
 item:=by
  intro X hP hw hK hc i pins s σ H E I hf st hg
  subst hP hw hK
  obtain ⟨f0,f1,f2,f3,f4,f5⟩:=hf it (by simp)
  have W:=Walks.range (prog:=X.prog) (w:=X.w) (I.ok.hd hc) it lo 1 n
  refine W.item i s _ _ hg st fun v h' tk hv st' kk=>?_
  obtain ⟨t,rfl⟩:=hv
  have I1:Inv X pins σ H { s with heap:=h',toks:=tk }:=I.turned (fun b o hb e=>kk b o (by simpa using hb) e) f0 f1 f3 f4 f5
  refine ⟨_,rfl,zos (s:={ s with heap:=h',toks:=tk }) (n:="range_iterator") st' rfl rfl (by decide) ⟨.int (lo+i),H,I1,⟨t,?_⟩,⟨rfl,rfl⟩,st',fun b hb=>(hf b hb).1⟩⟩
  rw [Int.mul_one]
 done:=by
  intro X hP hw hK hc i pins s σ H E I hf st hg
  subst hP hw hK
  obtain ⟨f0,f1,f2,f3,f4,f5⟩:=hf it (by simp)
  exact wpAny_pyNext_range_end (I.ok.hd hc) st (by have:n≤i:=hg;(first|lia|omega)) fun h' eb=>⟨rfl,I.turned (t':=s.toks) (fun b o hb e=>eb b o hb e) f0 f1 f3 f4 f5⟩
 self:=fun _ _ _ _ _ st h=>wpAny_pyIter_rangeiter st h
end L2
namespace L2
open PySem PySem.Spec PyProof.Rows
section
variable {X:Cx} {tg:Expr}
def ziw (K:PySem.W.Frag) (tl:TE):TI:=fun σ H R=>tl σ H fun x H1=>∃ a,x=.ref a∧(∃ xs,SqL K H1 a xs)∧R (Itl K a) H1
theorem zgv {l:Expr} {tl:TE} (hl:PE X l tl):PI X tg l (ziw X.K tl):=by
 intro pins s σ H R I h
 refine thn (hl pins s σ H _ I h) fun v s1 hQ'=>?_
 obtain ⟨x,H1,I1,r1,q1⟩:=hQ'
 obtain ⟨a,e,⟨xs,hq⟩,q⟩:=q1
 subst e
 cases r1
 obtain ⟨its,rv,p,hz⟩:=I1.list hq
 refine wpAny_pyIter_list p.isList ?_
 refine ⟨s1.heap.objs.size,[s1.heap.objs.size],_,_,H1,rfl,I1.kept (t':=s1.toks) fun b o e=>Heap.get?_push_of_some _ e,zkS a _,⟨_,Heap.get?_push_size _ rfl,rfl,rfl⟩,fun b hb=>?_,q⟩
 have e:b=s1.heap.objs.size:=by simpa using hb
 subst e
 exact I1.fpOk (Nat.le_refl _) (I1.hok.fresh (Nat.le_refl _))
theorem zj2 {pins:List (Addr×Obj)} {σ:St} {H:Hp} {s:Shared} {R:It→Hp→Prop} {E:Value→Shared→Prop} {lo hi:Int} {t u v:Tok} {tk:Nat} (I:Inv X pins σ H s) (h1:-(2 ^ 62)≤lo) (h2:lo<2 ^ 62) (h3:-(2 ^ 62)≤hi) (h4:hi<2 ^ 62)
  (q:R (Itr lo (hi - lo).toNat) H):wpAny (model X.prog X.w) X.A (pyIter (.ref s.heap.objs.size)) (PIE X pins σ tg R) E { s with heap:=s.heap.push { cls:=.type "range",data:=.fields #[.int lo t,.int hi u,.int 1 v] },toks:=tk }:=by
 refine wpAny_pyIter_range (IsRange.new ..) (small_one h1 h2 h3 h4) ?_
 have I1:Inv X pins σ H { s with heap:=s.heap.push { cls:=.type "range",data:=.fields #[.int lo t,.int hi u,.int 1 v] },toks:=tk }:=I.kept fun b o e=>Heap.get?_push_of_some _ e
 refine ⟨(s.heap.push { cls:=.type "range",data:=.fields #[.int lo t,.int hi u,.int 1 v] }).objs.size,[(s.heap.push { cls:=.type "range",data:=.fields #[.int lo t,.int hi u,.int 1 v] }).objs.size],_,_,H,rfl,
  I1.kept (t':=tk) fun b o e=>Heap.get?_push_of_some _ e,zkg _ lo (hi - lo).toNat,?_,fun b hb=>?_,q⟩
 ·have e1:lo+((0:Nat):Int)*1=lo:=by simp
  have e2:(((hi - lo).toNat:Nat):Int) - ((0:Nat):Int)=Builtin.Range.rangeSize lo hi 1:=by rw [rangeSize_one];split <;> (first|lia|omega)
  show IsRangeIter _ _ (lo+((0:Nat):Int)*1) ((((hi - lo).toNat:Nat):Int) - ((0:Nat):Int)) 1
  rw [e1,e2]
  exact Heap.get?_push_size _ rfl
 ·have e:b=(s.heap.push { cls:=.type "range",data:=.fields #[.int lo t,.int hi u,.int 1 v] }).objs.size:=by simpa using hb
  subst e
  exact I1.fpOk (Nat.le_refl _) (I1.hok.fresh (Nat.le_refl _))
def zfE (ta:TA):TI:=fun σ H R=>ta σ H fun vs H1=>∃ j:Int,vs=[.int j]∧-(2 ^ 62)≤j∧j<2 ^ 62∧R (Itr 0 j.toNat) H1
def zmN (ta:TA):TI:=fun σ H R=>ta σ H fun vs H1=>∃ i j:Int,vs=[.int i,.int j]∧(-(2 ^ 62)≤i∧i<2 ^ 62∧-(2 ^ 62)≤j∧j<2 ^ 62)∧R (Itr i (j - i).toNat) H1
theorem zdh {a:Expr} {ta:TA} {p pos:Pos} (hg:Gl X "range") (hm:X.mg "range"=none) (ha:PA X [a] ta) (hs:starEach [a] X.env=[(false,eval a X.env)]:=by rfl):PI X tg (.Call (.Name "range" p) [a] [] pos) (zfE ta):=by
 intro pins s σ H R I h
 refine Call_ (zfw I hg hm boot_range (PyProof.Rows.callWith_type1 (thn (ha pos pins s σ H _ I h) fun us s1 hQ'=>?_) hs rfl))
 obtain ⟨vs,H1,I1,r1,q1⟩:=hQ'
 obtain ⟨j,e,q1,q2,q⟩:=q1
 subst e
 cases r1 with
 | cons r rr =>
  cases rr
  obtain ⟨t,rfl⟩:=r
  exact call_range_1 (zj2 I1 (by (first|lia|omega)) (by (first|lia|omega)) q1 q2 (by simpa using q))
theorem zlv {a b:Expr} {ta:TA} {p pos:Pos} (hg:Gl X "range") (hm:X.mg "range"=none) (ha:PA X [a,b] ta) (hs:starEach [a,b] X.env=[(false,eval a X.env),(false,eval b X.env)]:=by rfl) (hs2:starEach [b] X.env=[(false,eval b X.env)]:=by rfl) :
  PI X tg (.Call (.Name "range" p) [a,b] [] pos) (zmN ta):=by
 intro pins s σ H R I h
 refine Call_ (zfw I hg hm boot_range (PyProof.Rows.callWith_type1 (thn (ha pos pins s σ H _ I h) fun us s1 hQ'=>?_) (by rw [hs,hs2]) (by rw [hs2];rfl)))
 obtain ⟨vs,H1,I1,r1,q1⟩:=hQ'
 obtain ⟨i,j,e,⟨q1,q2,q3,q4⟩,q⟩:=q1
 subst e
 cases r1 with
 | cons r rr =>
  cases rr with
  | cons r' rr =>
   cases rr
   obtain ⟨t,rfl⟩:=r
   obtain ⟨t',rfl⟩:=r'
   exact call_range_2 (zj2 I1 q1 q2 q3 q4 q)
def zha (wi:TI) (g:TG) (tb:TS):TS:=fun D σ H=>wi σ H fun J H1=>∃ W:Nat→Nat→St→Hp→Prop,(∃ m,W 0 m σ H1)∧∀ i m σ H,W i m σ H →
 (J.stop i H∧D.nx σ H)∨(J.go i H∧∃ N:St→Hp→Prop,(∀ σ' H',N σ' H'→∃ m',m'<m∧W (i+1) m' σ' H')∧∀ x H',J.yld i H x H'→g x σ H' fun σ2 H2=>tb { D with nx:=N,ct:=N,bk:=D.nx } σ2 H2)
def zh2 (fp:List Addr) (h:Heap):List (Addr×Obj):=fp.filterMap fun b=>(h.get? b).map fun o=>(b,o)
theorem zdP {fp:List Addr} {h:Heap} {b:Addr} {o:Obj} (hb:b∈fp) (e:h.get? b=some o):(b,o)∈zh2 fp h:=List.mem_filterMap.mpr ⟨b,hb,by rw [e];rfl⟩
theorem zlJ {fp:List Addr} {h:Heap} {p:Addr×Obj} (hp:p∈zh2 fp h):p.1∈fp∧h.get? p.1=some p.2:=by
 obtain ⟨b,hb,e⟩:=List.mem_filterMap.mp hp
 cases q:h.get? b with
 | none=>rw [q] at e;cases e
 | some o =>
  rw [q] at e
  have e':(b,o)=p:=Option.some.inj e
  subst e'
  exact ⟨hb,q⟩
theorem Inv.pinned {pins:List (Addr×Obj)} {σ:St} {H:Hp} {s:Shared} {fp:List Addr} (I:Inv X pins σ H s) (hf:∀ b∈fp,zjt X pins H b) (ho:∀ b∈fp,∃ o,s.heap.get? b=some o∧∀ v,o.data≠.cell v):Inv X (pins++zh2 fp s.heap) σ H s :=
 I.pins_of fun p hp=>(List.mem_append.mp hp).elim (fun z=>I.pin p (List.mem_append_right _ z)) fun z=>by
  obtain ⟨hb,e⟩:=zlJ z
  obtain ⟨f0,f1,f2,_⟩:=hf p.1 hb
  obtain ⟨o,e',d⟩:=ho p.1 hb
  rw [e] at e';cases e'
  exact ⟨e,f0,f1,f2,d⟩
theorem Inv.unpinned {pins pl:List (Addr×Obj)} {σ:St} {H:Hp} {s:Shared} (I:Inv X (pins++pl) σ H s):Inv X pins σ H s:=I.pins_of fun p hp=>I.pin p (List.mem_append_right _ (List.mem_append_left _ hp))
theorem zdT {iter:Expr} {body:List Stmt} {wi:TI} {g:TG} {tb:TS} {pos:Pos} (hp:PassesOwn (model X.prog X.w) X.A X.env X.xe) (hc:X.calm=true) (hi:PI X tg iter wi) (hg:PG X tg g) (hb:PSs X body tb)
  (hs:∀ x,foldedSetIterable iter X.env x=pure x:=by intro _;rfl):PS X (.For tg iter body [] pos) (zha wi g tb):=by
 intro pins s σ H D I h
 refine wpAny_For (thn (hi pins s σ H _ I h) fun v s1 h1=>thn h1 fun itv s2 h2=>?_) hs
 obtain ⟨it,fp,tn,J,H2,e,I2,T,st2,f2,W,⟨m0,w0⟩,turn⟩:=h2
 subst e
 have stat:∀ {H':Hp},(∀ b∈fp,H' b=none)→∀ b∈fp,zjt X pins H' b:=fun hn b hb=>⟨hn b hb,(f2 b hb).2⟩
 refine codeAny_forLoop_any (fun n s'=>∃ i σ' H',Inv X pins σ' H' s'∧tn i s'.heap∧(∀ b∈fp,H' b=none)∧W i n σ' H') ?_ m0 ⟨0,σ,H2,I2,st2,fun b hb=>(f2 b hb).1,w0⟩
 rintro n s3 ⟨i,σ3,H3,I3,st3,fr3,w3⟩
 rcases turn i n σ3 H3 w3 with ⟨stop,qn⟩ | ⟨go,N,hN,step⟩
 ·refine wpAny_passesOwn hp (thn (T.done X rfl rfl rfl hc i pins s3 σ3 H3 X.xe I3 (stat fr3) st3 stop) fun r s4 hQ'=>?_)
  obtain ⟨hr,I4⟩:=hQ'
  subst hr
  exact wpAny_execs_nil ⟨σ3,H3,I4,qn⟩
 ·refine wpAny_passesOwn hp (thn (T.item X rfl rfl rfl hc i pins s3 σ3 H3 X.xe I3 (stat fr3) st3 go) fun r s4 hQ'=>?_)
  obtain ⟨u,hr,h4⟩:=hQ'
  subst hr
  refine wpAny_passesOwn hp (thn h4 fun _ s5 hQ'=>?_)
  obtain ⟨x,H5,I5,r5,y5,st5,fr5⟩:=hQ'
  have I5':=I5.pinned (stat fr5) (T.obj _ _ st5)
  refine wpAny_passesOwn hp (thn (hg _ s5 σ3 H5 x u _ I5' r5 (step x H5 y5)) fun _ s6 hQ'=>?_)
  obtain ⟨σ6,H6,I6,q6⟩:=hQ'
  refine wpAny_passesOwn hp (thn (hb _ s6 σ6 H6 _ I6 q6) fun f s7 q7=>?_)
  have again:∀ {σ7:St} {H7:Hp},Inv X (pins++zh2 fp s5.heap) σ7 H7 s7→N σ7 H7→∃ m,m<n∧∃ i σ' H',Inv X pins σ' H' s7∧tn i s7.heap∧(∀ b∈fp,H' b=none)∧W i m σ' H':=fun {σ7 H7} I7 n7=>by
   obtain ⟨m',hm,w7⟩:=hN σ7 H7 n7
   refine ⟨m',hm,i+1,σ7,H7,I7.unpinned,T.keep _ _ _ st5 fun b hb o e=>(I7.pin (b,o) (List.mem_append_right _ (List.mem_append_right _ (zdP hb e)))).1,fun b hb=>?_,w7⟩
   obtain ⟨o,e,d⟩:=T.obj _ _ st5 b hb
   exact (I7.pin (b,o) (List.mem_append_right _ (List.mem_append_right _ (zdP hb e)))).2.1
  cases f with
  | next=>obtain ⟨σ7,H7,I7,n7⟩:=q7;exact again I7 n7
  | cont=>obtain ⟨σ7,H7,I7,n7⟩:=q7;exact again I7 n7
  | brk=>obtain ⟨σ7,H7,I7,q7⟩:=q7;exact ⟨σ7,H7,I7.unpinned,q7⟩
  | ret v=>obtain ⟨x7,σ7,H7,I7,r7,q7⟩:=q7;exact ⟨x7,σ7,H7,I7.unpinned,r7,q7⟩
end
theorem zmH {K:PySem.W.Frag} {a:Addr} {xs:List V} {g:TG} {tb:TS} {D:zbV} {σ:St} {H:Hp} (Pv:Nat→St→Hp→Prop) (h0:Pv 0 σ H) (hl:∀ i σ H,i≤xs.length→Pv i σ H→SqL K H a xs)
  (hs:∀ i x σ H,xs[i]?=some x→Pv i σ H→g x σ H fun σ2 H2=>tb { D with nx:=Pv (i+1),ct:=Pv (i+1),bk:=D.nx } σ2 H2) (hd:∀ σ H,Pv xs.length σ H→D.nx σ H) :
  ∃ W:Nat→Nat→St→Hp→Prop,(∃ m,W 0 m σ H)∧∀ i m σ H,W i m σ H →
   ((Itl K a).stop i H∧D.nx σ H)∨((Itl K a).go i H∧∃ N:St→Hp→Prop,(∀ σ' H',N σ' H'→∃ m',m'<m∧W (i+1) m' σ' H')∧∀ x H',(Itl K a).yld i H x H'→g x σ H' fun σ2 H2=>tb { D with nx:=N,ct:=N,bk:=D.nx } σ2 H2):=by
 refine ⟨fun i m σ H=>m=xs.length - i∧i≤xs.length∧Pv i σ H,⟨xs.length,by simp,Nat.zero_le _,h0⟩,?_⟩
 rintro i m σ H ⟨rfl,hi,p⟩
 have q:=hl i σ H hi p
 by_cases hlt:i<xs.length
 ·refine .inr ⟨⟨xs,xs[i],q,by simp [hlt]⟩,Pv (i+1),fun σ' H' p'=>⟨xs.length - (i+1),by (first|lia|omega),rfl,hlt,p'⟩,fun x H' y=>?_⟩
  obtain ⟨e,y⟩:=y
  subst e
  exact hs i x σ _ (y xs q) p
 ·have e:i=xs.length:=by (first|lia|omega)
  subst e
  exact .inl ⟨⟨xs,q,Nat.le_refl _⟩,hd σ H p⟩
theorem zma {lo:Int} {n:Nat} {g:TG} {tb:TS} {D:zbV} {σ:St} {H:Hp} (Pv:Nat→St→Hp→Prop) (h0:Pv 0 σ H)
  (hs:∀ i σ H,i<n→Pv i σ H→g (.int (lo+i)) σ H fun σ2 H2=>tb { D with nx:=Pv (i+1),ct:=Pv (i+1),bk:=D.nx } σ2 H2) (hd:∀ σ H,Pv n σ H→D.nx σ H) :
  ∃ W:Nat→Nat→St→Hp→Prop,(∃ m,W 0 m σ H)∧∀ i m σ H,W i m σ H →
   ((Itr lo n).stop i H∧D.nx σ H)∨((Itr lo n).go i H∧∃ N:St→Hp→Prop,(∀ σ' H',N σ' H'→∃ m',m'<m∧W (i+1) m' σ' H')∧∀ x H',(Itr lo n).yld i H x H'→g x σ H' fun σ2 H2=>tb { D with nx:=N,ct:=N,bk:=D.nx } σ2 H2):=by
 refine ⟨fun i m σ H=>m=n - i∧i≤n∧Pv i σ H,⟨n,by simp,Nat.zero_le _,h0⟩,?_⟩
 rintro i m σ H ⟨rfl,hi,p⟩
 by_cases hlt:i<n
 ·refine .inr ⟨hlt,Pv (i+1),fun σ' H' p'=>⟨n - (i+1),by (first|lia|omega),rfl,hlt,p'⟩,fun x H' y=>?_⟩
  obtain ⟨e,y⟩:=y
  subst e y
  exact hs i σ _ hlt p
 ·have e:i=n:=by (first|lia|omega)
  subst e
  exact .inl ⟨Nat.le_refl _,hd σ H p⟩
end L2
namespace L2
open PySem PySem.Spec PyProof.Rows
abbrev R2:=V→V→Hp→VK→Prop
def OpR (X:Cx) (f:Value→Value→Sem Value) (r:R2):Prop :=
 ∀ (pins:List (Addr×Obj)) (s:Shared) (σ:St) (H:Hp) (x y:V) (v u:Value) (Q:VK),Inv X pins σ H s→zbG x v→zbG y u→r x y H Q →
  wpAny (model X.prog X.w) X.A (f v u) (EP X pins σ Q) X.xe s
def UnR (X:Cx) (f:Value→Sem Value) (r:V→Hp→VK→Prop):Prop :=
 ∀ (pins:List (Addr×Obj)) (s:Shared) (σ:St) (H:Hp) (x:V) (v:Value) (Q:VK),Inv X pins σ H s→zbG x v→r x H Q →
  wpAny (model X.prog X.w) X.A (f v) (EP X pins σ Q) X.xe s
def zdS (X:Cx) (f:Value) (r:List V→Hp→VK→Prop):Prop :=
 ∀ (pins:List (Addr×Obj)) (s:Shared) (σ:St) (H:Hp) (xs:List V) (us:List Value) (Q:VK),Inv X pins σ H s→zbj xs us→r xs H Q →
  wpAny (model X.prog X.w) X.A (call f us) (EP X pins σ Q) X.xe s
def TruR (X:Cx) (r:V→Hp→(Bool→Hp→Prop)→Prop):Prop :=
 ∀ (pins:List (Addr×Obj)) (s:Shared) (σ:St) (H:Hp) (x:V) (v:Value) (Q:Bool→Hp→Prop),Inv X pins σ H s→zbG x v→r x H Q →
  wpAny (model X.prog X.w) X.A (truthy v) (TP X pins σ Q) X.xe s
def tOp (r:R2) (ta tb:TE):TE:=fun σ H Q=>ta σ H fun x H1=>tb σ H1 fun y H2=>r x y H2 Q
def tUn (r:V→Hp→VK→Prop) (ta:TE):TE:=fun σ H Q=>ta σ H fun x H1=>r x H1 Q
def rI (C:Int→Int→Prop) (g:Int→Int→V):R2:=fun x y H Q=>∃ i j,x=.int i∧y=.int j∧C i j∧Q (g i j) H
def rI0 (g:Int→Int→V):R2:=fun x y H Q=>∃ i j,x=.int i∧y=.int j∧Q (g i j) H
def rU (g:Int→V):V→Hp→VK→Prop:=fun x H Q=>∃ i,x=.int i∧Q (g i) H
section
variable {X:Cx} {a b c:Expr} {ta tb tc:TE} {pos:Pos}
theorem binT (ha:PE X a ta) (hb:PE X b tb) {pins:List (Addr×Obj)} {s:Shared} {σ:St} {H:Hp} {R:V→V→Hp→Prop} (I:Inv X pins σ H s)
  (h:ta σ H fun x H1=>tb σ H1 fun y H2=>R x y H2) {Q:Value→Shared→Prop} {f:Value→Value→Sem Value}
  (hf:∀ v u s2 x y H2,Inv X pins σ H2 s2→zbG x v→zbG y u→R x y H2→wpAny (model X.prog X.w) X.A (f v u) Q X.xe s2) :
  wpAny (model X.prog X.w) X.A (eval a X.env) (fun v s₁=>wpAny (model X.prog X.w) X.A (eval b X.env) (fun u s₂=>wpAny (model X.prog X.w) X.A (f v u) Q X.xe s₂) X.xe s₁) X.xe s:=by
 refine thn (ha pins s σ H _ I h) fun v s1 hQ'=>?_
 obtain ⟨x,H1,I1,r1,q1⟩:=hQ'
 refine thn (hb pins s1 σ H1 _ I1 q1) fun u s2 hQ'=>?_
 obtain ⟨y,H2,I2,r2,q2⟩:=hQ'
 exact hf v u s2 x y H2 I2 r1 r2 q2
theorem zaD {op:Operator} {r:R2} (ho:OpR X (binaryOp op) r) (ha:PE X a ta) (hb:PE X b tb):PE X (.BinOp a op b pos) (tOp r ta tb):=by
 intro pins s σ H Q I h
 exact wpAny_BinOp (binT ha hb I h fun v u s2 x y H2 I2 rx ry q=>ho pins s2 σ H2 x y v u Q I2 rx ry q)
theorem znt {op:UnaryOp} {r:V→Hp→VK→Prop} (ho:UnR X (unaryOp op) r) (ha:PE X a ta):PE X (.UnaryOp op a pos) (tUn r ta):=by
 intro pins s σ H Q I h
 exact UnaryOp_ (thn (ha pins s σ H _ I h) fun v s1 ⟨x,H1,I1,r1,q1⟩=>ho pins s1 σ H1 x v Q I1 r1 q1)
theorem opI {f:Value→Value→Sem Value} {C:Int→Int→Prop} {g:Int→Int→Int}
  (rule:∀ (i j:Int) (t u:Tok) (s:Shared) (Q:Value→Shared→Prop) (E:Value→Shared→Prop),C i j→Q (.int (g i j) s.toks) { s with toks:=s.toks+1 }→wpAny (model X.prog X.w) X.A (f (.int i t) (.int j u)) Q E s) :
  OpR X f (rI C fun i j=>.int (g i j)):=by
 intro pins s σ H x y v u Q I rx ry h
 obtain ⟨i,j,rfl,rfl,hc,q⟩:=h
 obtain ⟨t,rfl⟩:=rx
 obtain ⟨t',rfl⟩:=ry
 exact rule i j t t' s _ _ hc ⟨.int (g i j),H,I.tok _,⟨_,rfl⟩,q⟩
theorem opI0 {f:Value→Value→Sem Value} {g:Int→Int→Int}
  (rule:∀ (i j:Int) (t u:Tok) (s:Shared) (Q:Value→Shared→Prop) (E:Value→Shared→Prop),Q (.int (g i j) s.toks) { s with toks:=s.toks+1 }→wpAny (model X.prog X.w) X.A (f (.int i t) (.int j u)) Q E s) :
  OpR X f (rI0 fun i j=>.int (g i j)):=by
 intro pins s σ H x y v u Q I rx ry h
 obtain ⟨i,j,rfl,rfl,q⟩:=h
 obtain ⟨t,rfl⟩:=rx
 obtain ⟨t',rfl⟩:=ry
 exact rule i j t t' s _ _ ⟨.int (g i j),H,I.tok _,⟨_,rfl⟩,q⟩
theorem opB0 {f:Value→Value→Sem Value} {g:Int→Int→Bool}
  (rule:∀ (i j:Int) (t u:Tok) (s:Shared) (Q:Value→Shared→Prop) (E:Value→Shared→Prop),Q (.bool (g i j)) s→wpAny (model X.prog X.w) X.A (f (.int i t) (.int j u)) Q E s) :
  OpR X f (rI0 fun i j=>.bl (g i j)):=by
 intro pins s σ H x y v u Q I rx ry h
 obtain ⟨i,j,rfl,rfl,q⟩:=h
 obtain ⟨t,rfl⟩:=rx
 obtain ⟨t',rfl⟩:=ry
 exact rule i j t t' s _ _ ⟨.bl (g i j),H,I,rfl,q⟩
def zk8 (i j:Int):Prop:=0≤j∧j≤1000000∧i.natAbs<2 ^ 64
theorem zbD:OpR X (binaryOp .Add) (rI0 fun i j=>.int (i+j)):=opI0 fun _ _ _ _ _ _ _ q=>add_int q
theorem zhN:OpR X (binaryOp .Sub) (rI0 fun i j=>.int (i - j)):=opI0 fun _ _ _ _ _ _ _ q=>sub_int q
theorem zbr:OpR X (binaryOp .Mod) (rI (fun _ j=>0<j) fun i j=>.int (i % j)):=opI fun i j _ _ _ _ _ hc q=>by
 have h1:(0:Int)<j:=hc
 exact mod_int' (by (first|lia|omega)) (by rw [Int.fmod_eq_emod_of_nonneg i (by (first|lia|omega))];exact q)
theorem zhP:OpR X (binaryOp .Pow) (rI zk8 fun i j=>.int (i ^ j.toNat)):=opI fun _ _ _ _ _ _ _ hc q=>pow_int_small hc.1 hc.2.1 hc.2.2 q
theorem unI {f:Value→Sem Value} {g:Int→Int}
  (rule:∀ (i:Int) (t:Tok) (s:Shared) (Q:Value→Shared→Prop) (E:Value→Shared→Prop),Q (.int (g i) s.toks) { s with toks:=s.toks+1 }→wpAny (model X.prog X.w) X.A (f (.int i t)) Q E s) :
  UnR X f (rU fun i=>.int (g i)):=by
 intro pins s σ H x v Q I rx h
 obtain ⟨i,rfl,q⟩:=h
 obtain ⟨t,rfl⟩:=rx
 exact rule i t s _ _ ⟨.int (g i),H,I.tok _,⟨_,rfl⟩,q⟩
theorem zjS:UnR X (unaryOp .USub) (rU fun i=>.int (-i)):=unI fun _ _ _ _ _ q=>neg_int q
end
def scal:V→V→Bool
 | .non,.non=>true | .non,.int _=>true | .int _,.non=>true | .non,.bl _=>true | .bl _,.non=>true | .non,.str _=>true | .str _,.non=>true
 | .int _,.int _=>true | .bl _,.bl _=>true | .str _,.str _=>true | .byt _,.byt _=>true
 | .int _,.str _=>true | .str _,.int _=>true | .bl _,.str _=>true | .str _,.bl _=>true
 | _,_=>false
def rEq:R2:=fun x y H Q=>scal x y=true∧Q (.bl (decide (x=y))) H
def rNe:R2:=fun x y H Q=>scal x y=true∧Q (.bl (!decide (x=y))) H
theorem zmc {i j:Int}:decide (V.int i=V.int j)=(i == j):=by
 rw [Bool.eq_iff_iff]
 simp
theorem znI {i j:Bool}:decide (V.bl i=V.bl j)=(i == j):=by
 rw [Bool.eq_iff_iff]
 simp
theorem zmh {i j:Str}:decide (V.str i=V.str j)=(i == j):=by
 rw [Bool.eq_iff_iff]
 simp
theorem zl5 {i j:Array UInt8}:decide (V.byt i=V.byt j)=(i.toList == j.toList):=by
 rw [Bool.eq_iff_iff]
 cases i
 cases j
 simp
section
variable {X:Cx} {a b c:Expr} {ta tb tc:TE} {pos:Pos}
theorem zba {pins:List (Addr×Obj)} {σ:St} {H:Hp} {s:Shared} {Q:VK} {k k':Bool} (I:Inv X pins σ H s) (q:Q (.bl k) H) (e:k=k'):EP X pins σ Q (.bool k') s:=by
 subst e
 exact ⟨.bl k,H,I,rfl,q⟩
theorem zi7:OpR X (compareOp .Eq) rEq:=by
 intro pins s σ H x y v u Q I rx ry h
 obtain ⟨hs,q⟩:=h
 cases x with
 | non =>
  cases rx
  cases y with
  | non=>cases ry;exact PySem.EqNone.eq_none_none (zba I q (by simp))
  | bl j=>cases ry;exact PySem.EqNone.eq_none_bool (zba I q (by simp))
  | int j=>obtain ⟨t',rfl⟩:=ry;exact PySem.EqNone.eq_none_int (zba I q (by simp))
  | str j=>obtain ⟨t',rfl⟩:=ry;exact PySem.EqNone.eq_none_str (zba I q (by simp))
  | _=>exact absurd (show false=true from hs) Bool.false_ne_true
 | bl i =>
  cases rx
  cases y with
  | non=>cases ry;exact PySem.EqNone.eq_bool_none (zba I q (by simp))
  | bl j=>cases ry;exact eq_bool (zba I q znI)
  | str j=>obtain ⟨t',rfl⟩:=ry;exact PySem.EqMixed.eq_bool_str (zba I q (by simp))
  | _=>exact absurd (show false=true from hs) Bool.false_ne_true
 | int i =>
  obtain ⟨t,rfl⟩:=rx
  cases y with
  | non=>cases ry;exact PySem.EqNone.eq_int_none (zba I q (by simp))
  | int j=>obtain ⟨t',rfl⟩:=ry;exact eq_int (zba I q zmc)
  | str j=>obtain ⟨t',rfl⟩:=ry;exact PySem.EqMixed.eq_int_str (zba I q (by simp))
  | _=>exact absurd (show false=true from hs) Bool.false_ne_true
 | str i =>
  obtain ⟨t,rfl⟩:=rx
  cases y with
  | non=>cases ry;exact PySem.EqNone.eq_str_none (zba I q (by simp))
  | bl j=>cases ry;exact PySem.EqMixed.eq_str_bool (zba I q (by simp))
  | int j=>obtain ⟨t',rfl⟩:=ry;exact PySem.EqMixed.eq_str_int (zba I q (by simp))
  | str j=>obtain ⟨t',rfl⟩:=ry;exact eq_str (zba I q zmh)
  | _=>exact absurd (show false=true from hs) Bool.false_ne_true
 | byt i =>
  obtain ⟨t,rfl⟩:=rx
  cases y with
  | byt j=>obtain ⟨t',rfl⟩:=ry;exact PySem.W.eq_bytes (zba I q zl5)
  | _=>exact absurd (show false=true from hs) Bool.false_ne_true
 | _=>cases y <;> exact absurd (show false=true from hs) Bool.false_ne_true
theorem zfU:OpR X (compareOp .NotEq) rNe:=by
 intro pins s σ H x y v u Q I rx ry h
 obtain ⟨hs,q⟩:=h
 cases x with
 | non =>
  cases rx
  cases y with
  | non=>cases ry;exact PySem.EqNone.ne_none_none (zba I q (by simp))
  | bl j=>cases ry;exact PySem.EqNone.ne_none_bool (zba I q (by simp))
  | int j=>obtain ⟨t',rfl⟩:=ry;exact PySem.EqNone.ne_none_int (zba I q (by simp))
  | str j=>obtain ⟨t',rfl⟩:=ry;exact PySem.EqNone.ne_none_str (zba I q (by simp))
  | _=>exact absurd (show false=true from hs) Bool.false_ne_true
 | bl i =>
  cases rx
  cases y with
  | non=>cases ry;exact PySem.EqNone.ne_bool_none (zba I q (by simp))
  | bl j=>cases ry;exact ne_bool (zba I q (congrArg not znI))
  | str j=>obtain ⟨t',rfl⟩:=ry;exact PySem.EqMixed.ne_bool_str (zba I q (by simp))
  | _=>exact absurd (show false=true from hs) Bool.false_ne_true
 | int i =>
  obtain ⟨t,rfl⟩:=rx
  cases y with
  | non=>cases ry;exact PySem.EqNone.ne_int_none (zba I q (by simp))
  | int j=>obtain ⟨t',rfl⟩:=ry;exact ne_int (zba I q (congrArg not zmc))
  | str j=>obtain ⟨t',rfl⟩:=ry;exact PySem.EqMixed.ne_int_str (zba I q (by simp))
  | _=>exact absurd (show false=true from hs) Bool.false_ne_true
 | str i =>
  obtain ⟨t,rfl⟩:=rx
  cases y with
  | non=>cases ry;exact PySem.EqNone.ne_str_none (zba I q (by simp))
  | bl j=>cases ry;exact PySem.EqMixed.ne_str_bool (zba I q (by simp))
  | int j=>obtain ⟨t',rfl⟩:=ry;exact PySem.EqMixed.ne_str_int (zba I q (by simp))
  | str j=>obtain ⟨t',rfl⟩:=ry;exact ne_str (zba I q (congrArg not zmh))
  | _=>exact absurd (show false=true from hs) Bool.false_ne_true
 | byt i =>
  obtain ⟨t,rfl⟩:=rx
  cases y with
  | byt j=>obtain ⟨t',rfl⟩:=ry;exact PySem.W.ne_bytes (zba I q (congrArg not zl5))
  | _=>exact absurd (show false=true from hs) Bool.false_ne_true
 | _=>cases y <;> exact absurd (show false=true from hs) Bool.false_ne_true
theorem zn9:OpR X (compareOp .Lt) (rI0 fun i j=>.bl (decide (i<j))):=opB0 fun _ _ _ _ _ _ _ q=>lt_int q
theorem zkj:OpR X (compareOp .LtE) (rI0 fun i j=>.bl (decide (i≤j))):=opB0 fun _ _ _ _ _ _ _ q=>le_int q
theorem zn5:OpR X (compareOp .Gt) (rI0 fun i j=>.bl (decide (j<i))):=opB0 fun _ _ _ _ _ _ _ q=>gt_int q
theorem op_ge:OpR X (compareOp .GtE) (rI0 fun i j=>.bl (decide (j≤i))):=opB0 fun _ _ _ _ _ _ _ q=>ge_int q
theorem zk0:OpR X (compareOp .In) (fun x y H Q=>∃ i j,x=.str i∧y=.str j∧Q (.bl (!(Builtin.Str.occurrences j i 0 j.length 1).isEmpty)) H):=by
 intro pins s σ H x y v u Q I rx ry h
 obtain ⟨i,j,rfl,rfl,q⟩:=h
 obtain ⟨t,rfl⟩:=rx
 obtain ⟨t',rfl⟩:=ry
 exact in_str (zba I q rfl)
theorem zjU:OpR X (compareOp .Is) (fun x y H Q=>y=.non∧Q (.bl (decide (x=.non))) H):=by
 intro pins s σ H x y v u Q I rx ry h
 obtain ⟨rfl,q⟩:=h
 cases ry
 refine is_none_gen (zba I q ?_)
 cases x <;> first
  | (cases rx;rfl)
  | (obtain ⟨t,rfl⟩:=rx;rfl)
theorem zoW:OpR X (compareOp .IsNot) (fun x y H Q=>y=.non∧Q (.bl (!decide (x=.non))) H):=by
 intro pins s σ H x y v u Q I rx ry h
 obtain ⟨rfl,q⟩:=h
 cases ry
 refine isnot_none_gen (zba I q ?_)
 cases x <;> first
  | (cases rx;rfl)
  | (obtain ⟨t,rfl⟩:=rx;rfl)
theorem zbe (b:Expr) {op:CmpOp} (h:op≠.In:=by decide) (h2:op≠.NotIn:=by decide):behindInMarks op b=false:=by
 have e1:(op == CmpOp.In)=false:=by cases op <;> first | rfl | exact absurd rfl h
 have e2:(op == CmpOp.NotIn)=false:=by cases op <;> first | rfl | exact absurd rfl h2
 cases b <;> simp [behindInMarks,e1,e2]
theorem zcZ {op:CmpOp} {r:R2} (ho:OpR X (compareOp op) r) (ha:PE X a ta) (hb:PE X b tb) (hm:behindInMarks op b=false):PE X (.Compare a [op] [b] pos) (tOp r ta tb):=by
 intro pins s σ H Q I h
 exact wpAny_Compare1 (binT ha hb I h fun v u s2 x y H2 I2 rx ry q=>ho pins s2 σ H2 x y v u Q I2 rx ry q) hm
def za8 (t:TE):TT:=fun σ H Q=>t σ H fun x H'=>∃ k,x=.bl k∧Q k H'
theorem zbb {op:CmpOp} {r:R2} (ho:OpR X (compareOp op) r) (ha:PE X a ta) (hb:PE X b tb) (hm:behindInMarks op b=false):PT X (.Compare a [op] [b] pos) (za8 (tOp r ta tb)):=by
 intro pins s σ H Q I h
 refine wpAny_isTrue_Compare1 (thn (ha pins s σ H _ I h) fun v s1 ⟨x,H1,I1,r1,q1⟩=>thn (hb pins s1 σ H1 _ I1 q1) fun u s2 ⟨y,H2,I2,r2,q2⟩ =>
  thn (ho pins s2 σ H2 x y v u _ I2 r1 r2 q2) fun c s3 ⟨z,H3,I3,r3,k,e,q3⟩=>?_) hm
 subst e
 cases r3
 exact wpAny_truthy_bool ⟨H3,I3,q3⟩
def zfm (r r':R2) (ta tb tc:TE):TE:=fun σ H Q=>ta σ H fun x H1=>tb σ H1 fun y H2=>r x y H2 fun z H3=>∃ k,z=.bl k ∧
 (if k=true then tc σ H3 fun w' H4=>r' y w' H4 Q else Q (.bl false) H3)
theorem znm {op op':CmpOp} {r r':R2} (ho:OpR X (compareOp op) r) (ho':OpR X (compareOp op') r') (ha:PE X a ta) (hb:PE X b tb) (hc:PE X c tc)
  (hm:lastMarks [op,op'] [b,c]=false:=by with_unfolding_all rfl):PE X (.Compare a [op,op'] [b,c] pos) (zfm r r' ta tb tc):=by
 intro pins s σ H Q I h
 refine Compare_chain (thn (ha pins s σ H _ I h) fun v s1 ⟨x,H1,I1,r1,q1⟩=>chain_link (thn (hb pins s1 σ H1 _ I1 q1) fun u s2 ⟨y,H2,I2,r2,q2⟩ =>
  thn (ho pins s2 σ H2 x y v u _ I2 r1 r2 q2) fun d s3 ⟨z,H3,I3,r3,k,e,q3⟩=>?_)) hm
 subst e
 cases r3
 refine wpAny_truthy_bool ?_
 cases k with
 | false=>exact ite_ff ⟨.bl false,H3,I3,rfl,q3⟩
 | true=>exact ite_tt (chain_last (thn (hc pins s3 σ H3 _ I3 q3) fun w' s4 ⟨z',H4,I4,r4,q4⟩=>ho' pins s4 σ H4 y z' u w' Q I4 r2 r4 q4))
theorem zjN {op op':CmpOp} {r r':R2} (ho:OpR X (compareOp op) r) (ho':OpR X (compareOp op') r') (ha:PE X a ta) (hb:PE X b tb) (hc:PE X c tc)
  (hm:lastMarks [op,op'] [b,c]=false:=by with_unfolding_all rfl):PT X (.Compare a [op,op'] [b,c] pos) (za8 (zfm r r' ta tb tc)):=by
 intro pins s σ H Q I h
 refine isTrue_chain (thn (ha pins s σ H _ I h) fun v s1 ⟨x,H1,I1,r1,q1⟩=>test_link (thn (hb pins s1 σ H1 _ I1 q1) fun u s2 ⟨y,H2,I2,r2,q2⟩ =>
  thn (ho pins s2 σ H2 x y v u _ I2 r1 r2 q2) fun d s3 ⟨z,H3,I3,r3,k,e,q3⟩=>?_)) hm
 subst e
 cases r3
 refine wpAny_truthy_bool ?_
 cases k with
 | false =>
  obtain ⟨k',e',q'⟩:=q3
  cases e'
  exact ite_ff ⟨H3,I3,q'⟩
 | true =>
  refine ite_tt (test_last (thn (hc pins s3 σ H3 _ I3 q3) fun w' s4 ⟨z',H4,I4,r4,q4⟩=>thn (ho' pins s4 σ H4 y z' u w' _ I4 r2 r4 q4) fun d' s5 hQ'=>?_))
  obtain ⟨z2,H5,I5,r5,k2,e2,q5⟩:=hQ'
  subst e2
  cases r5
  exact wpAny_truthy_bool ⟨H5,I5,q5⟩
def zpj (K:PySem.W.Frag) (x:V) (H:Hp) (k:Bool):Prop :=
 match x with
 | .non=>k=false
 | .bl b=>k=b
 | .int i=>k=(i != 0)
 | .str y=>y.length≤sizeLine∧k=((y.length:Int) != 0)
 | .byt y=>y.size≤sizeLine∧k=((y.size:Int) != 0)
 | .ref p=>(∃ xs,SqL K H p xs∧k=!xs.isEmpty)∨(∃ xs,SqT K H p xs∧k=!xs.isEmpty)∨∃ kvs,H p=some (.dK kvs)∧k=!kvs.isEmpty
 | _=>False
theorem zkp {κ:Type} {kvs:List (κ×V)} {vs:List (κ×Value)} (r:KV kvs vs):(!vs.isEmpty)=!kvs.isEmpty:=by
 cases r <;> rfl
theorem zgO {xs:List V} {its:List Value} (r:zbj xs its):(!its.toArray.isEmpty)=!xs.isEmpty:=by
 cases r <;> simp
theorem zhK:(sizeLine:Nat)<2 ^ 63:=by rw [sizeLine_eq];decide
theorem zpE:TruR X (fun x H Q=>∃ k,zpj X.K x H k∧Q k H):=by
 intro pins s σ H x v Q I rx h
 obtain ⟨k,e,q⟩:=h
 have hl:=zhK
 have hs:sizeLine=16777216:=sizeLine_eq
 cases x with
 | non =>
  cases rx
  have e':k=false:=e
  subst e'
  exact truthy_none ⟨H,I,q⟩
 | bl b =>
  cases rx
  have e':k=b:=e
  subst e'
  exact wpAny_truthy_bool ⟨H,I,q⟩
 | int i =>
  obtain ⟨t,rfl⟩:=rx
  have e':k=(i != 0):=e
  subst e'
  exact PySem.P.truthy_int ⟨H,I,q⟩
 | str y =>
  obtain ⟨t,rfl⟩:=rx
  obtain ⟨hy,e'⟩:y.length≤sizeLine∧k=((y.length:Int) != 0):=e
  subst e'
  exact PySem.P.truthy_str (by (first|lia|omega)) ⟨H,I.tok _,q⟩
 | byt y =>
  obtain ⟨t,rfl⟩:=rx
  obtain ⟨hy,e'⟩:y.size≤sizeLine∧k=((y.size:Int) != 0):=e
  subst e'
  exact PySem.W.truthy_bytes (by (first|lia|omega)) ⟨H,I.tok _,q⟩
 | ref p =>
  cases rx
  have e':(∃ xs,SqL X.K H p xs∧k=!xs.isEmpty)∨(∃ xs,SqT X.K H p xs∧k=!xs.isEmpty)∨∃ kvs,H p=some (.dK kvs)∧k=!kvs.isEmpty:=e
  rcases e' with ⟨xs,hx,e'⟩ | ⟨xs,hx,e'⟩ | ⟨kvs,hx,e'⟩
  ·subst e'
   obtain ⟨its,r,pl,hz⟩:=I.list hx
   have hlen:=r.length
   exact wpAny_truthy_list pl.isList (by simp only [List.size_toArray];(first|lia|omega)) ⟨H,I.tok _,by rw [zgO r];exact q⟩
  ·subst e'
   obtain ⟨its,r,pl,hz⟩:=I.tuple hx
   have hlen:=r.length
   exact truthy_tuple pl (by simp only [List.size_toArray];(first|lia|omega)) ⟨H,I.tok _,by rw [zgO r];exact q⟩
  ·subst e'
   obtain ⟨hz,hS,vs,r,m⟩:kvs.length≤sizeLine∧(p == sysModules)=false∧∃ vs,KV kvs vs∧s.heap.DictOf (zbI X.prog X.w) p vs:=I.hok p _ hx
   have hlen:kvs.length=vs.length:=Paired.length r
   exact wpAny_truthy_dict hS m (by (first|lia|omega)) ⟨H,I.tok _,by rw [zkp r];exact q⟩
 | _=>exact (show False from e).elim
theorem zjK (ha:PE X a ta) (he:∀ whole,isTrue a X.env whole=(do let v ← whole;standAt a.pos;holding [v] (truthy v))) :
  PT X a (fun σ H Q=>ta σ H fun x H'=>∃ k,zpj X.K x H' k∧Q k H'):=by
 intro pins s σ H Q I h
 exact isTrue_plain (thn (ha pins s σ H _ I h) fun v s1 ⟨x,H1,I1,r1,q1⟩=>zpE pins s1 σ H1 x v Q I1 r1 q1) (he _)
theorem zkt:OpR X (binaryOp .Add) (fun x y H Q=>∃ i j,x=.str i∧y=.str j∧i.length+j.length≤sizeLine∧Q (.str (i++j)) H):=by
 intro pins s σ H x y v u Q I rx ry h
 obtain ⟨i,j,rfl,rfl,hz,q⟩:=h
 obtain ⟨t,rfl⟩:=rx
 obtain ⟨t',rfl⟩:=ry
 exact add_str (fun t' tk=>⟨.str (i++j),H,I.tok _,⟨_,rfl⟩,q⟩) hz
theorem zfl {x:V} {us:List Value} (r:zbj [x] us):∃ u,us=[u]∧zbG x u:=by
 cases r with
 | cons r1 r2=>cases r2;exact ⟨_,rfl,r1⟩
theorem zkN {x y:V} {us:List Value} (r:zbj [x,y] us):∃ u w',us=[u,w']∧zbG x u∧zbG y w':=by
 cases r with
 | cons r1 r2 =>
  cases r2 with
  | cons r3 r4=>cases r4;exact ⟨_,_,rfl,r1,r3⟩
theorem zhR (hc:X.calm=true):zdS X (.builtin "min") (fun xs H Q=>∃ i j,xs=[.int i,.int j]∧Q (.int (if j<i then j else i)) H):=by
 intro pins s σ H xs us Q I r h
 obtain ⟨i,j,rfl,q⟩:=h
 obtain ⟨u,w',rfl,⟨t,rfl⟩,⟨t',rfl⟩⟩:=zkN r
 refine min_two_ints (I.ok.hd hc) fun h' tk k=>⟨_,H,I.kept k,?_,q⟩
 by_cases hj:j<i
 ·rw [if_pos hj,if_pos hj];exact ⟨_,rfl⟩
 ·rw [if_neg hj,if_neg hj];exact ⟨_,rfl⟩
theorem zid:zdS X (.type "str") (fun xs H Q=>∃ i,xs=[.int i]∧i.natAbs.log2<1920∧Q (.str (toString i)) H):=by
 intro pins s σ H xs us Q I r h
 obtain ⟨i,rfl,hz,q⟩:=h
 obtain ⟨u,rfl,t,rfl⟩:=zfl r
 exact PySem.P.str_of_int hz ⟨.str _,H,I.tok _,⟨_,rfl⟩,q⟩
def LenV (K:PySem.W.Frag) (x:V) (H:Hp) (n:Nat):Prop :=
 match x with
 | .str y=>y.length≤sizeLine∧n=y.length
 | .byt y=>y.size≤sizeLine∧n=y.size
 | .ref p=>(∃ xs,SqL K H p xs∧n=xs.length)∨∃ xs,SqT K H p xs∧n=xs.length
 | _=>False
theorem zm5:zdS X (.builtin "len") (fun xs H Q=>∃ x n,xs=[x]∧LenV X.K x H n∧Q (.int n) H):=by
 intro pins s σ H xs us Q I r h
 obtain ⟨x,n,rfl,e,q⟩:=h
 obtain ⟨u,rfl,rx⟩:=zfl r
 have hl:=zhK
 have hs:sizeLine=16777216:=sizeLine_eq
 cases x with
 | str y =>
  obtain ⟨t,rfl⟩:=rx
  obtain ⟨hy,e'⟩:y.length≤sizeLine∧n=y.length:=e
  subst e'
  exact len_str (by (first|lia|omega)) ⟨.int _,H,I.tok _,⟨_,rfl⟩,q⟩
 | byt y =>
  obtain ⟨t,rfl⟩:=rx
  obtain ⟨hy,e'⟩:y.size≤sizeLine∧n=y.size:=e
  subst e'
  exact PySem.W.len_bytes (by (first|lia|omega)) ⟨.int _,H,I.tok _,⟨_,rfl⟩,q⟩
 | ref p =>
  cases rx
  have e':(∃ xs,SqL X.K H p xs∧n=xs.length)∨∃ xs,SqT X.K H p xs∧n=xs.length:=e
  rcases e' with ⟨xs,hx,e'⟩ | ⟨xs,hx,e'⟩
  ·subst e'
   obtain ⟨its,r',pl,hz⟩:=I.list hx
   have hlen:=r'.length
   exact Calls.call_len_list pl.isList (by simp only [List.size_toArray];(first|lia|omega)) ⟨.int xs.length,H,I.tok _,⟨_,by simp only [List.size_toArray];rw [hlen]⟩,q⟩
  ·subst e'
   obtain ⟨its,r',pl,hz⟩:=I.tuple hx
   have hlen:=r'.length
   exact len_tuple pl (by simp only [List.size_toArray];(first|lia|omega)) ⟨.int xs.length,H,I.tok _,⟨_,by simp only [List.size_toArray];rw [hlen]⟩,q⟩
 | _=>exact (show False from e).elim
end
end L2
namespace L2
open PySem PySem.Spec PyProof.Rows
structure ObjM (h:Heap) (x dx C:Addr) (mA:Str→Option Value):Prop where
 obj:h.get? x=some (PySem.W.instObj C dx)
 ns:h.Ns1 dx mA
 ne:dx≠x
theorem ziu {h:Heap} {dx:Addr} {mA:Str→Option Value} (n:h.Ns1 dx mA):∃ od,h.get? dx=some od∧∀ name,PySem.W.lookIn name od=some (mA name):=by
 obtain ⟨o,es,ep,ho,hd,hk,_,hm⟩:=n
 refine ⟨o,ho,fun name=>?_⟩
 have e:=hm name
 unfold nsFind findBy at e
 rw [← Array.find?_toList] at e
 unfold PySem.W.lookIn
 rw [hd]
 dsimp only
 split
 ·rename_i y q
  rw [q] at e
  exact congrArg some e
 ·rename_i q
  rw [q] at e
  have a:es.toList.any (·.refKey)=false:=by
   rw [List.any_eq_false]
   intro y hy
   obtain ⟨z,t,hkey⟩:=hk y (Array.mem_toList_iff.mp hy)
   simp [DictEntry.refKey,hkey]
  have a':¬ es.toList.any (·.refKey)=true:=by rw [a];exact Bool.false_ne_true
  rw [if_neg a']
  exact congrArg some e
theorem ObjM.look {h:Heap} {x dx C:Addr} {mA:Str→Option Value} (I:ObjM h x dx C mA):∃ od,PySem.W.InstAt h x (PySem.W.instObj C dx) C (some od)∧∀ name,PySem.W.lookIn name od=some (mA name) :=
 let ⟨od,ho,hl⟩:=ziu I.ns
 ⟨od,⟨I.obj,rfl,rfl,ho⟩,hl⟩
section
variable {prog:Program} {w:World} {A:Around} {E:Value→Shared→Prop} {s:Shared} {K:PySem.W.Frag} {x dx C f:Addr} {mA:Str→Option Value} {name:Str} {v:Value}
end
theorem zlP.some_of {v:V} {o:Option Value} (r:zlP (some v) o):∃ u,o=some u∧zbG v u:=by
 cases o with
 | none=>exact (show False from r).elim
 | some u=>exact ⟨u,rfl,r⟩
theorem zlC {v:V} {u:Value} (r:zbG v u):PySem.W.handedIn u=true:=by
 cases v with
 | non=>cases (show u=Value.none from r);rfl
 | bl b=>cases (show u=Value.bool b from r);rfl
 | int i=>obtain ⟨t,e⟩:=(show ∃ t,u=Value.int i t from r);cases e;rfl
 | str x=>obtain ⟨t,e⟩:=(show ∃ t,u=Value.str x t from r);cases e;rfl
 | byt b=>obtain ⟨t,e⟩:=(show ∃ t,u=Value.bytes b t from r);cases e;rfl
 | flt b=>obtain ⟨t,e⟩:=(show ∃ t,u=Value.float b t from r);cases e;rfl
 | ref a=>cases (show u=Value.ref a from r);rfl
 | ty n=>cases (show u=Value.type n from r);rfl
section
variable {P:Program} {w:World} {H H':Hp} {h h':Heap} {a C dx:Addr} {fs fs':List (Str×V)}
theorem zoI (hok:HOk P w H h) (e:H a=some (.ins C dx fs)):∃ mA,ObjM h a dx C mA∧(∀ f,zlP (fs.lookup f) (mA f))∧PySem.Within mA (fs.map (·.1))∧fs.length≤1000∧H dx=some (.own a):=by
 obtain ⟨d,z,ne,ob,mA,n,r,q⟩:=(show zbi P w H h a (.ins C dx fs) from hok a _ e)
 exact ⟨mA,⟨ob,n,ne⟩,r,q,z,d⟩
end
structure Cls (K:PySem.W.Frag) (C:Addr):Prop where
 pg:PySem.W.plainGet K C Str.empty=true
 hd:PySem.W.hasDictIn K C=true
 po:PySem.W.plainOver K C=true
 sa:PySem.W.findIn K (.ref C) "__setattr__"=some (some (.builtin "object.__setattr__"))
theorem Cls.get {K:PySem.W.Frag} {C:Addr} (c:Cls K C) (f:Str):PySem.W.plainGet K C f=true:=c.pg
section
variable {X:Cx} {pins:List (Addr×Obj)} {σ:St} {H:Hp} {s:Shared} {a C dx:Addr} {fs:List (Str×V)} {f:Str} {v:V} {A:Around} {E:Value→Shared→Prop}
theorem zn2 {prog:Program} {w:World} {env:Env} {e:Expr} {f:Str} {pos:Pos} {s:Shared} {Q:Value→Shared→Prop} (hb:attributeBase e f env (eval e env)=eval e env)
  (h:wpAny (model prog w) A (eval e env) (fun o s₁=>wpAny (model prog w) A (getAttr o f true) Q E s₁) E s):wpAny (model prog w) A (eval (.Attribute e f pos) env) Q E s :=
 Attribute_any_ h (by rw [arm_eval_Attribute,hb])
end
section
variable {X:Cx} {o e value:Expr} {f:Str} {pos pos' tpos:Pos} {ta tv:TE}
end
section
variable {X:Cx} {pins:List (Addr×Obj)} {σ:St} {H:Hp} {s:Shared} {A:Around} {E:Value→Shared→Prop} {Q:Value→Shared→Prop} {c:Value} {b:Bool}
inductive zjZ (K:PySem.W.Frag) (H:Hp):V→Value→Prop where
 | non:zjZ K H .non (.type "NoneType")
 | bl (x:Bool):zjZ K H (.bl x) (.type "bool")
 | int (i:Int):zjZ K H (.int i) (.type "int")
 | str (x:Str):zjZ K H (.str x) (.type "str")
 | flt (x:UInt64):zjZ K H (.flt x) (.type "float")
 | lst {a:Addr} {xs:List V} (e:H a=some (.lst xs)):zjZ K H (.ref a) (.type "list")
 | frz {a:Addr} {o:Obj} {xs:List V} (e:H a=some (.frz o (.lst xs))):zjZ K H (.ref a) (.type "list")
 | tup {a:Addr} {xs:List V} (e:H a=some (.tup xs)):zjZ K H (.ref a) (.type "tuple")
 | dK {a:Addr} {kvs:List (Key×V)} (e:H a=some (.dK kvs)):zjZ K H (.ref a) (.type "dict")
 | dT {a:Addr} {kvs:List (List Key×V)} (e:H a=some (.dT kvs)):zjZ K H (.ref a) (.type "dict")
 | ins {a C dx:Addr} {fs:List (Str×V)} (e:H a=some (.ins C dx fs)) (cl:Cls K C) (ha:PySem.W.findIn K (.ref C) "__class__"=some (some (.builtin "object.__class__")))
   (hn:PySem.W.specialIn K (.builtin "object.__class__") "__get__"=some (some (.builtin "getset_descriptor.__get__"))) (htk:PySem.W.takesIn K (.builtin "object.__class__")=some true)
   (hm:PySem.W.mroIn K C (.type "object")=some true):zjZ K H (.ref a) (.ref C)
theorem zlG {x:V} {u t:Value} (I:Inv X pins σ H s) (rx:zbG x u) (ty:zjZ X.K H x t) (e:PySem.W.kitOne X.K t c=some b) (h:∀ tk,Q (.bool b) { s with toks:=tk }) :
  wpAny (model X.prog X.w) A (call (.builtin "isinstance") [u,c]) Q E s:=by
 cases ty with
 | non=>cases (show u=Value.none from rx);exact PySem.W.kia_one PySem.W.kitx_none I.kIn True.intro e (fun z=>nomatch z) h
 | bl y=>cases (show u=Value.bool y from rx);exact PySem.W.kia_one PySem.W.kitx_bool I.kIn True.intro e (fun z=>nomatch z) h
 | int i=>obtain ⟨t,q⟩:=(show ∃ t,u=Value.int i t from rx);cases q;exact PySem.W.kia_one PySem.W.kitx_int I.kIn True.intro e (fun z=>nomatch z) h
 | str y=>obtain ⟨t,q⟩:=(show ∃ t,u=Value.str y t from rx);cases q;exact PySem.W.kia_one PySem.W.kitx_str I.kIn True.intro e (fun z=>nomatch z) h
 | flt y=>obtain ⟨t,q⟩:=(show ∃ t,u=Value.float y t from rx);cases q;exact PySem.W.kia_one PySem.W.kitx_float I.kIn True.intro e (fun z=>nomatch z) h
 | @lst a xs ea =>
  cases (show u=Value.ref a from rx)
  obtain ⟨_,_,n,_,h1⟩:=(show zbi X.prog X.w H s.heap a (.lst xs) from I.hok a _ ea)
  exact PySem.W.kia_one PySem.W.kitx_list I.kIn ⟨_,h1,rfl⟩ e (fun z=>nomatch z) h
 | @frz a ob xs ea =>
  cases (show u=Value.ref a from rx)
  obtain ⟨_,_,_,n,_,h1⟩:=(show zbi X.prog X.w H s.heap a (.frz ob (.lst xs)) from I.hok a _ ea)
  exact PySem.W.kia_one PySem.W.kitx_list I.kIn ⟨_,h1,rfl⟩ e (fun z=>nomatch z) h
 | @tup a xs ea =>
  cases (show u=Value.ref a from rx)
  obtain ⟨_,_,_,p⟩:=(show zbi X.prog X.w H s.heap a (.tup xs) from I.hok a _ ea)
  obtain ⟨o,h1,h2,_⟩:=p
  exact PySem.W.kia_one PySem.W.kitx_tuple I.kIn ⟨o,h1,h2⟩ e (fun z=>nomatch z) h
 | @dK a kvs ea =>
  cases (show u=Value.ref a from rx)
  obtain ⟨_,_,vs,_,p⟩:=(show zbi X.prog X.w H s.heap a (.dK kvs) from I.hok a _ ea)
  obtain ⟨o,es,ep,h1,h2,_⟩:=p
  exact PySem.W.kia_one PySem.W.kitx_dict I.kIn ⟨o,h1,h2.1⟩ e (fun z=>nomatch z) h
 | @dT a kvs ea =>
  cases (show u=Value.ref a from rx)
  obtain ⟨_,_,xs,_,o,es,ep,h1,h2,_⟩:=(show zbi X.prog X.w H s.heap a (.dT kvs) from I.hok a _ ea)
  exact PySem.W.kia_one PySem.W.kitx_dict I.kIn ⟨o,h1,h2.1⟩ e (fun z=>nomatch z) h
 | @ins a C dx fs ea cl ha hn htk hm =>
  cases (show u=Value.ref a from rx)
  obtain ⟨mA,O,_⟩:=zoI I.hok ea
  obtain ⟨od,J,_⟩:=O.look
  exact PySem.W.kia_one (PySem.W.kitx_own (cl.get _) cl.hd ha hn htk hm) I.kIn J e (fun z=>nomatch z) h
end
end L2
namespace L2
open PySem PySem.Spec PyProof.Rows
structure zdR (k:Nat) (A:Around):Prop where
 hd:A.handled=none
 dp:A.depth+3*k+5<recursionLimit
 un:A.units+16*k+200<cLine
theorem zdR.mono {j k:Nat} {A:Around} (r:zdR k A) (h:j≤k):zdR j A:=⟨r.hd,by have:=r.dp;(first|lia|omega),by have:=r.un;(first|lia|omega)⟩
theorem zdR.deeper {k:Nat} {A:Around} (r:zdR (k+1) A) (env:Env):zdR k (A.deeper env) :=
 ⟨r.hd,by have:=r.dp;show A.depth+1+3*k+5<_;(first|lia|omega),by have:=r.un;show A.units+3+16*k+200<_;(first|lia|omega)⟩
theorem zgI {A:Around} {C:Addr} {us:List Value} {kw:List (Str×Value)}:(A.under (.builtin "type.__call__" ⟨.ref C::us,kw⟩)).depth=A.depth+1:=by
 first | rfl | simp [Around.under,Code.weight,Code.isCreation,Code.isGuard,Code.isCaller,Code.frames,Code.isFrame,guardIds]
theorem zgR {A:Around} {C:Addr} {us:List Value} {kw:List (Str×Value)}:(A.under (.builtin "type.__call__" ⟨.ref C::us,kw⟩)).units=A.units+1:=by
 first | rfl | simp [Around.under,Code.cUnits,Code.frames,Code.isFrame]
theorem zdR.make {k:Nat} {A:Around} (r:zdR (k+1) A) (C:Addr) (us:List Value) (kw:List (Str×Value)):zdR k (A.under (.builtin "type.__call__" ⟨.ref C::us,kw⟩)) :=
 ⟨r.hd,by have:=r.dp;rw [zgI];(first|lia|omega),by have:=r.un;rw [zgR];(first|lia|omega)⟩
theorem zdR.depth {k:Nat} {A:Around} (r:zdR k A):A.depth<recursionLimit:=by have:=r.dp;(first|lia|omega)
theorem zdR.units {k:Nat} {A:Around} (r:zdR k A):A.units+64<cLine:=by have:=r.un;(first|lia|omega)
def zat:TA:=fun _ H Q=>Q [] H
def zab (ta:TE) (tr:TA):TA:=fun σ H Q=>ta σ H fun x H1=>tr σ H1 fun xs H2=>Q (x::xs) H2
section
variable {X:Cx} {e:Expr} {es:List Expr} {te:TE} {t:TA} {pos:Pos}
theorem zae:PA X [] zat:=fun _ _ _ _ H Q I h=>Calls.spliced_nil ⟨[],H,I,.nil,h⟩
theorem zaa (ha:PE X e te) (hr:PA X es t) (hs:starEach (e::es) X.env=(false,eval e X.env)::starEach es X.env:=by rfl):PA X (e::es) (zab te t):=by
 intro pos pins s σ H Q I h
 rw [hs]
 show wpAny _ _ (spliced ((false,eval e X.env)::backTo pos (starEach es X.env))) _ _ s
 refine Calls.spliced_cons (thn (ha pins s σ H _ I h) fun u s1 hQ'=>?_)
 obtain ⟨x,H1,I1,r1,q1⟩:=hQ'
 exact thn (hr pos pins s1 σ H1 _ I1 q1) fun us s2 ⟨xs,H2,I2,r2,q2⟩=>⟨x::xs,H2,I2,.cons r1 r2,q2⟩
def zf5 (t:TA):TE:=fun σ H Q=>t σ H fun xs H1=>xs.length≤sizeLine∧∀ p,H1 p=none→Q (.ref p) (upd H1 p (.tup xs))
def zjn (t:TA):TE:=fun σ H Q=>t σ H fun xs H1=>xs.length≤sizeLine∧∀ p,H1 p=none→Q (.ref p) (upd H1 p (.lst xs))
theorem zdx {x1} (h:PA X es t):PE X (.Tuple es x1 pos) (zf5 t):=by
 intro pins s σ H Q I hq
 refine wpAny_Tuple_spliced (thn (h pos pins s σ H _ I hq) fun us s1 ⟨xs,H1,I1,r,z,q⟩=>⟨by rw [← r.length];exact z,?_⟩)
 have hf:H1 s1.heap.objs.size=none:=I1.hok.fresh (Nat.le_refl _)
 refine ⟨.ref s1.heap.objs.size,upd H1 s1.heap.objs.size (.tup xs),I1.laid (t':=s1.toks) (fun b u e=>Heap.get?_push_of_some _ e) (Nat.le_refl _) ?_,rfl,q _ hf⟩
 exact ⟨z,us,r,⟨_,Heap.get?_push_size _ rfl,rfl,_,rfl⟩⟩
theorem zfn (h:PA X es t):PE X (.List es pos) (zjn t):=by
 intro pins s σ H Q I hq
 refine wpAny_List_spliced (thn (h pos pins s σ H _ I hq) fun us s1 ⟨xs,H1,I1,r,z,q⟩=>⟨by rw [← r.length];exact z,?_⟩)
 have hf:H1 s1.heap.objs.size=none:=I1.hok.fresh (Nat.le_refl _)
 refine ⟨.ref s1.heap.objs.size,upd H1 s1.heap.objs.size (.lst xs),I1.laid (t':=s1.toks) (fun b u e=>Heap.get?_push_of_some _ e) (Nat.le_refl _) ?_,rfl,q _ hf⟩
 exact ⟨z,us,0,r,Heap.get?_push_size _ rfl⟩
end
abbrev Sp:=List V→Hp→VK→XK→Prop
abbrev CXT:=List Env→Hp→Shared→XK→Value→Shared→Prop
structure zmm (P:Program) (w:World) (K:PySem.W.Frag) (mg:Str→Option Value) (base:Heap) (A:Around) (outer:List Env) (s:Shared) (H:Hp):Prop where
 frames:A.frames=some outer
 mod:Mod K mg base
 bs:∀ b o,base.get? b=some o→s.heap.get? b=some o∧H b=none
 bsz:base.objs.size≤s.heap.objs.size
 funs:s.heap.FunFrames base outer
 frf:∀ b∈frs outer,H b=none
 hok:HOk P w H s.heap
 bare:AllBare s.gens
def CE (outer:List Env) (P:Program) (w:World) (H:Hp) (s:Shared) (Q:VK) (u:Value) (s':Shared):Prop :=
 ∃ v H',s'.os=s.os∧AllBare s'.gens∧Un (frs outer) [] H H' s.heap s'.heap∧HOk P w H' s'.heap∧zbG v u∧Q v H'
def CR (CX:CXT) (outer:List Env) (P:Program) (w:World) (H:Hp) (s:Shared) (Q:VK) (E:XK) (r:Result) (s':Shared):Prop :=
 match r with
 | .ok (.ret u)=>CE outer P w H s Q u s'
 | .ok _=>False
 | .error e=>CX outer H s E e s'
structure zcJ (P:Program) (w:World) (K:PySem.W.Frag) (mg:Str→Option Value) (base:Heap) (CX:CXT) (k:Nat) (f:Addr) (fd:FuncData) (ps:List Str) (sp:Sp):Prop where
 len:∀ vs H Q E,sp vs H Q E→vs.length=ps.length
 run:∀ (A:Around) (outer:List Env) (s:Shared) (H:Hp) (args:Args) (us:List Value) (vs:List V) (Q:VK) (E:XK),zdR k A→zmm P w K mg base A outer s H→BindsTo s fd args (ps.zip us)→zbj vs us→sp vs H Q E →
  codeAny (model P w) A (.call (.ref f) args) (CR CX outer P w H s Q E) s
theorem zmm.make {P:Program} {w:World} {K:PySem.W.Frag} {mg:Str→Option Value} {base:Heap} {A:Around} {outer:List Env} {s:Shared} {H:Hp} (e:zmm P w K mg base A outer s H) (C:Addr) (us:List Value) (kw:List (Str×Value)) :
  zmm P w K mg base (A.under (.builtin "type.__call__" ⟨.ref C::us,kw⟩)) outer s H:=⟨by first | exact e.frames | (simpa [Around.under,Code.envs,Code.isFrame,pushEnvs] using e.frames),e.mod,e.bs,e.bsz,e.funs,e.frf,e.hok,e.bare⟩
section
variable {X:Cx} {pins:List (Addr×Obj)} {σ:St} {H:Hp} {s s':Shared}
theorem Inv.env0 (I:Inv X pins σ H s):zmm X.prog X.w X.K X.mg X.base X.A X.stack s H :=
 ⟨I.ok.frames,I.ok.mod,I.bs,Nat.le_trans I.ok.bsz I.sz,I.stack,I.stkFree,I.hok,I.bare⟩
theorem Inv.after {Q:VK} {u:Value} (I:Inv X pins σ H s) (h:CE X.stack X.prog X.w H s Q u s'):EP X pins σ Q u s':=by
 obtain ⟨v,H',os,bare,un,hok,r,q⟩:=h
 obtain ⟨hh,g,d,t,os'⟩:=s'
 obtain rfl:os'=s.os:=os
 exact ⟨v,H',I.call (h':=hh) (g':=g) (d':=d) (t':=t) (ch:=[]) un hok bare (fun b z=>absurd z (by simp)),r,q⟩
end
def zaK (sp:Sp) (dvs:List V) (E:XK) (t:TA):TE:=fun σ H Q=>t σ H fun vs H1=>sp (vs++dvs) H1 Q E
def zbB (K:PySem.W.Frag) (fd:FuncData) (ps:List Str) (ds:List Value):Prop :=
 ∀ (s:Shared) (us:List Value),K.In s.heap→(us++ds).length=ps.length→BindsTo s fd ⟨us,[]⟩ (ps.zip (us++ds))
theorem zbB.all {K:PySem.W.Frag} {fd:FuncData} {ps:List Str} (h:∀ us:List Value,us.length=ps.length→bindArgs fd ⟨us,[]⟩=pure (ps.zip us)):zbB K fd ps []:=fun s us _ hl=>by
 rw [List.append_nil] at hl ⊢
 exact .of_eq (h us hl)
def zeP (CX:CXT) (X:Cx) (E:XK):Prop:=∀ (pins:List (Addr×Obj)) (σ:St) (H:Hp) (s:Shared) (e:Value) (s':Shared),Inv X pins σ H s→CX X.stack H s E e s'→X.xe e s'
section
variable {X:Cx} {CX:CXT} {k:Nat} {f C:Addr} {fd:FuncData} {ps:List Str} {sp:Sp} {dvs:List V} {ds:List Value} {E:XK} {x m:Str} {p pos apos:Pos} {e o:Expr} {es:List Expr} {ta:TE} {t:TA}
theorem zpz {pins:List (Addr×Obj)} {σ:St} {H:Hp} {s:Shared} {Q:VK} {us:List Value} {vs:List V} (F:zcJ X.prog X.w X.K X.mg X.base CX k f fd ps sp) (hr:zdR k X.A) (hb:zbB X.K fd ps ds) (hd:zbj dvs ds) (hx:zeP CX X E)
  (I:Inv X pins σ H s) (r:zbj vs us) (h:sp (vs++dvs) H Q E):wpAny (model X.prog X.w) X.A (call (.ref f) us) (EP X pins σ Q) X.xe s:=by
 have r2:zbj (vs++dvs) (us++ds):=r.append hd
 have hl:(us++ds).length=ps.length:=by rw [← r2.length];exact F.len _ _ _ _ h
 refine wpAny_call (codeAny_mono (F.run X.A X.stack s H ⟨us,[]⟩ (us++ds) (vs++dvs) Q E hr I.env0 (hb s us I.kIn hl) r2 h) fun r s' hq=>?_)
 cases r with
 | error e=>exact hx pins σ H s e s' I hq
 | ok fl =>
  cases fl with
  | ret u=>exact I.after hq
  | next=>exact False.elim hq
  | brk=>exact False.elim hq
  | cont=>exact False.elim hq
theorem zaF (F:zcJ X.prog X.w X.K X.mg X.base CX k f fd ps sp) (hr:zdR k X.A) (hg:Gl X x) (hm:X.mg x=some (.ref f)) (hk:PySem.W.keepIn X.K (.ref f)=true) (hb:zbB X.K fd ps ds) (hd:zbj dvs ds) (hx:zeP CX X E)
  (ha:PA X (e::es) t) (hdb:(x == ("__debug__":Str))=false:=by decide) (he:starEach (e::es) X.env=(false,eval e X.env)::starEach es X.env:=by rfl) (hpl:(backTo pos (starEach es X.env)).any (·.1)=false:=by rfl) :
  PE X (.Call (.Name x p) (e::es) [] pos) (zaK sp dvs E t):=by
 intro pins s σ H Q I h
 refine wpAny_Call_Name_kw (zcW I hg hm ?_ hdb)
 refine PySem.W.callWith_K (h₀:=X.base) I.ok.mod.kin hk (thn (ha pos pins s σ H _ I h) fun us s1 ⟨vs,H1,I1,r,q⟩=>⟨I1.kIn,?_⟩) he hpl
 exact zpz F hr hb hd hx I1 r q
end
section
variable {X:Cx} {CX:CXT} {k:Nat} {f C:Addr} {fd:FuncData} {ps ks:List Str} {sp:Sp} {E:XK} {x m:Str} {p pos apos kpos:Pos} {e o:Expr} {es:List Expr} {kws:List Keyword} {te ta:TE} {t tk:TA} {nm:Option Str}
variable {g:List Value→List Value→List Value} {gV:List V→List V→List V}
end
structure zaN (N P:List Str) (sc:Scope):Prop where
 kind:sc.kind=.function
 co:sc.isCoroutine=false
 gen:sc.isGenerator=false
 nd:N.Nodup
 pre:N.take P.length=P
 par:∀ x∈P,sc.names.lookup x=some .local∨sc.names.lookup x=some .cell
 nofree:∀ y∈sc.names,y.2≠.free
theorem zil {kindOf:Str→Option NameKind} {x:Str}:∀ {binds:List (Str×Value)} {m:Str→Option Value},(∀ v,(x,v)∉binds)→bindL kindOf binds m x=m x
 | [],_,_=>rfl
 | (n,v)::r,m,h=>by
  unfold bindL
  rw [zil fun w hw=>h w (List.mem_cons_of_mem _ hw)]
  split
  ·have:x≠n:=by rintro rfl;exact h v List.mem_cons_self
   simp [this]
  ·rfl
theorem zhL {kindOf:Str→Option NameKind} {x:Str}:∀ {binds:List (Str×Value)} {m:Str→Option Value},(∀ v,(x,v)∉binds)→bindC kindOf binds m x=m x
 | [],_,_=>rfl
 | (n,v)::r,m,h=>by
  unfold bindC
  rw [zhL fun w hw=>h w (List.mem_cons_of_mem _ hw)]
  split
  ·rfl
  ·have:x≠n:=by rintro rfl;exact h v List.mem_cons_self
   simp [this]
theorem zhI {kindOf:Str→Option NameKind} {x:Str} {v:Value}:∀ {P:List Str} {vs:List Value} {i:Nat} {m:Str→Option Value},P.Nodup→P[i]?=some x→vs[i]?=some v→kindOf x=some .local →
  bindL kindOf (P.zip vs) m x=some v
 | [],_,_,_,_,h,_,_=>by simp at h
 | _::_,[],_,_,_,_,h,_=>by simp at h
 | p::P,w::vs,0,m,nd,h1,h2,hk=>by
  simp at h1 h2;subst h1;subst h2
  show bindL kindOf ((p,w)::P.zip vs) m p=_
  unfold bindL
  rw [zil fun v hv=>(List.nodup_cons.mp nd).1 (List.of_mem_zip hv).1,if_pos hk]
  simp
 | p::P,w::vs,i+1,m,nd,h1,h2,hk=>by
  show bindL kindOf ((p,w)::P.zip vs) m x=_
  unfold bindL
  exact zhI (i:=i) (List.nodup_cons.mp nd).2 (by simpa using h1) (by simpa using h2) hk
theorem zhw {kindOf:Str→Option NameKind} {x:Str} {v:Value}:∀ {P:List Str} {vs:List Value} {i:Nat} {m:Str→Option Value},P.Nodup→P[i]?=some x→vs[i]?=some v→kindOf x≠some .local →
  bindC kindOf (P.zip vs) m x=some v
 | [],_,_,_,_,h,_,_=>by simp at h
 | _::_,[],_,_,_,_,h,_=>by simp at h
 | p::P,w::vs,0,m,nd,h1,h2,hk=>by
  simp at h1 h2;subst h1;subst h2
  show bindC kindOf ((p,w)::P.zip vs) m p=_
  unfold bindC
  rw [zhL fun v hv=>(List.nodup_cons.mp nd).1 (List.of_mem_zip hv).1,if_neg hk]
  simp
 | p::P,w::vs,i+1,m,nd,h1,h2,hk=>by
  show bindC kindOf ((p,w)::P.zip vs) m x=_
  unfold bindC
  exact zhw (i:=i) (List.nodup_cons.mp nd).2 (by simpa using h1) (by simpa using h2) hk
def zbu (N:List Str) (vs:List V):St:=vs.map some++List.replicate (N.length - vs.length) none
def ziK (CX:CXT) (P:Program) (w:World) (K:PySem.W.Frag) (mg:Str→Option Value) (base:Heap) (N:List Str) (qual:Str) (scope:Scope) (f:Addr) (cd:Value) (A:Around) (outer:List Env) (s:Shared) (H:Hp) (E:XK):Cx where
 prog:=P
 w:=w
 K:=K
 mg:=mg
 base:=base
 A:=A.deeper (envOfC qual scope s.heap.objs.size f cd)
 N:=N
 s₀:=s
 H₀:=H
 env:=envOfC qual scope s.heap.objs.size f cd
 outer:=outer
 stack:=envOfC qual scope s.heap.objs.size f cd::outer
 ex:=[]
 calm:=true
 fn:=fun _=>true
 pn:=[]
 xe:=fun e s'=>wpAny (model P w) (A.deeper (envOfC qual scope s.heap.objs.size f cd)) (leaving (envOfC qual scope s.heap.objs.size f cd) e) (fun _ s''=>CX outer H s E e s'') (fun e' s''=>CX outer H s E e' s'') s'
theorem zjB {sc:Scope} {n:Nat} {x:Str} (h:sc.names.lookup x=some .cell):∃ c,(cellsFrom n sc.names []).lookup x=some c:=by
 have q:=PySem.W.cellsFrom_some sc.names n [] (.inl h)
 exact Option.isSome_iff_exists.mp q
theorem zif {CX:CXT} {P:Program} {w:World} {K:PySem.W.Frag} {mg:Str→Option Value} {base:Heap} {N ps:List Str} {qual:Str} {scope:Scope} {f:Addr} {cd:Value} {A:Around} {outer:List Env} {s s1:Shared} {H:Hp} {E:XK} {us:List Value} {vs:List V}
  (S:zaN N ps scope) (hd:A.handled=none) (e0:zmm P w K mg base A outer s H) (hl:vs.length=ps.length) (r:zbj vs us)
  (x:InCallC s s.heap.objs.size (bindL (envOfC qual scope s.heap.objs.size f cd).kindOf (ps.zip us) fun _=>none) (cellsFrom (s.heap.objs.size+1) scope.names []) (bindC (envOfC qual scope s.heap.objs.size f cd).kindOf (ps.zip us) fun _=>none) s1) :
  Inv (ziK CX P w K mg base N qual scope f cd A outer s H E) [] (zbu N vs) H s1:=by
 have hpl:ps.length≤N.length:=by have:=congrArg List.length S.pre;rw [List.length_take] at this;(first|lia|omega)
 obtain ⟨h1,tk,rfl,hk⟩:=x.done
 have noA:∀ b:Addr,b∉(ziK CX P w K mg base N qual scope f cd A outer s H E).ex:=fun b z=>absurd (show b∈([]:List Addr) from z) (by simp)
 refine ⟨⟨e0.mod,S.kind,rfl,rfl,Nat.le_refl _,fun y z c h1 h2=>?_,fun y hy=>?_,fun y c _ h=>?_,fun _=>hd,Around.frames_deeper e0.frames,.inr ⟨rfl,rfl⟩,fun b z=>absurd z (noA b),e0.bs,e0.bsz,fun b _ _=>noA b,fun b z=>absurd z (noA b),e0.funs,e0.frf⟩,
  rfl,e0.bare,Un.kept hk,⟨_,x.toInCall.ns,fun i y v h1 h2 h3=>?_⟩,fun y c h=>⟨_,x.cell y c h⟩,e0.hok.fresh (Nat.le_refl _),fun y c h=>?_,fun p hp=>absurd (show p∈([]:List (Addr×Obj)) from hp) (by simp),e0.hok.kept hk,?_⟩
 ·exact name_of_addr x.apart (PySem.mem_of_lookup h1) (PySem.mem_of_lookup h2)
 ·have hy:scope.names.lookup y=some .cell∨scope.names.lookup y=some .free:=hy
  rcases hy with hy | hy
  ·exact zjB hy
  ·exact absurd rfl (S.nofree _ (PySem.mem_of_lookup hy))
 ·exact Nat.le_of_lt (x.above y c (PySem.mem_of_lookup h))
 ·have hi:i<vs.length:=by
   unfold zbu at h2
   by_cases hi:i<vs.length
   ·exact hi
   ·rw [List.getElem?_append_right (by simpa using hi)] at h2
    rw [List.getElem?_replicate] at h2
    split at h2 <;> cases h2
  have ha:vs[i]?=some v:=by
   unfold zbu at h2
   rw [List.getElem?_append_left (by simpa using hi),List.getElem?_map] at h2
   cases e:vs[i]? with
   | none=>rw [e] at h2;cases h2
   | some a=>rw [e] at h2;cases h2;rfl
  obtain ⟨u,hu,rv⟩:=r.get ha
  have hp:ps[i]?=some y:=by
   rw [← S.pre,List.getElem?_take_of_lt (by (first|lia|omega))];exact h1
  have ndP:ps.Nodup:=by rw [← S.pre];exact S.nd.sublist (List.take_sublist _ _)
  refine ⟨u,rv,?_⟩
  rcases S.par y (List.mem_of_getElem? hp) with k | k
  ·exact .inl ⟨k,zhI ndP hp hu k⟩
  ·obtain ⟨c,e⟩:=zjB (n:=s.heap.objs.size+1) k
   refine .inr ⟨.inl k,c,e,?_⟩
   have q:=x.cell y c e
   rw [zhw ndP hp hu (by show scope.names.lookup y≠_;rw [k];decide)] at q
   exact q
 ·exact e0.hok.fresh (Nat.le_of_lt (x.above y c (PySem.mem_of_lookup h)))
 ·unfold zbu
  show _=N.length
  rw [List.length_append,List.length_map,List.length_replicate]
  (first|lia|omega)
theorem zmq {CX:CXT} {P:Program} {w:World} {K:PySem.W.Frag} {mg:Str→Option Value} {base:Heap} {k:Nat} {f:Addr} {name qual:Str} {params:Arguments} {body:List Stmt} {scope:Scope} {dV kV doc pm cdv ct oc:Value} {an od:Option Addr}
  {osl:Array (Option Value)} {N ps:List Str} {sp:Sp} (lk:K.lookup f=some ⟨oc,od,.func (PySem.W.fnOf name qual params body scope dV kV doc pm an cdv ct),osl⟩) (hcd:PySem.W.codeIn K cdv qual=true) (S:zaN N ps scope)
  (len:∀ vs H Q E,sp vs H Q E→vs.length=ps.length)
  (hbody:∀ (A:Around) (outer:List Env) (s:Shared) (H:Hp) (vs:List V) (Q:VK) (E:XK),zdR k (A.deeper (envOfC qual scope s.heap.objs.size f cdv))→sp vs H Q E →
   ∃ t,PSs (ziK CX P w K mg base N qual scope f cdv A outer s H E) body t∧t { nx:=fun _ H'=>Q .non H',rt:=Q } (zbu N vs) H) :
  zcJ P w K mg base CX (k+1) f (PySem.W.fnOf name qual params body scope dV kV doc pm an cdv ct) ps sp:=by
 refine ⟨len,fun A outer s H args us vs Q E hr e0 hb r hsp=>?_⟩
 have hl:=len _ _ _ _ hsp
 have KX:K.In s.heap:=e0.mod.kin.keeps fun b o e=>(e0.bs b o e).1
 have lim:s.heap.NoLimit:=e0.mod.nolimit.keeps fun b o e=>(e0.bs b o e).1
 have hkind:∀ y∈ps.zip us,scope.names.lookup y.1=some .local∨(scope.names.lookup y.1=some .cell∧((cellsFrom (s.heap.objs.size+1) scope.names []).lookup y.1).isSome=true):=fun ⟨n,v⟩ hy=>by
  rcases S.par n (List.of_mem_zip hy).1 with q | q
  ·exact .inl q
  ·exact .inr ⟨q,PySem.W.cellsFrom_some _ _ _ (.inl q)⟩
 refine codeAny_call_function hr.depth (KX _ _ lk) rfl S.co S.gen rfl (PySem.W.codeRec_of KX hcd) (hb _ _ _ _ ?_)
 refine wpAny_newFunctionEnv_cells S.kind hkind fun env he s1 x=>?_
 subst he
 refine ⟨lim.keeps x.toInCall.keep,codeAny_func ?_⟩
 obtain ⟨t,ht,hq⟩:=hbody A outer s H vs Q E (hr.deeper _) hsp
 have I:Inv (ziK CX P w K mg base N qual scope f cdv A outer s H E) [] (zbu N vs) H s1:=zif S hr.hd e0 hl r x
 refine wpAny_mono (ht [] s1 (zbu N vs) H _ I hq) (fun fl s' hs=>?_) fun e s' hs=>hs
 have fin:∀ {σ':St} {H':Hp} {v:V} {u:Value},Inv (ziK CX P w K mg base N qual scope f cdv A outer s H E) [] σ' H' s'→zbG v u→Q v H'→CE outer P w H s Q u s' :=
  fun {σ' H' v u} J rv q=>⟨v,H',J.os,J.bare,J.base,J.hok,rv,q⟩
 cases fl with
 | ret u =>
  obtain ⟨v,σ',H',J,rv,q⟩:=hs
  exact fin J rv q
 | next =>
  obtain ⟨σ',H',J,q⟩:=hs
  exact fin (v:=V.non) (u:=Value.none) J rfl q
 | brk =>
  obtain ⟨_,_,_,q⟩:=hs
  exact False.elim q
 | cont =>
  obtain ⟨_,_,_,q⟩:=hs
  exact False.elim q
end L2
namespace L2
open PySem PySem.Spec PyProof.Rows
section
variable {X:Cx} {x:Str} {p pos:Pos} {e:Expr} {es:List Expr} {t:TA} {id T:String} {r:List V→Hp→VK→Prop}
def tCB (r:List V→Hp→VK→Prop) (t:TA):TE:=fun σ H Q=>t σ H fun vs H1=>r vs H1 Q
theorem zau (hc:zdS X (.builtin id) r) (hg:Gl X x) (hm:X.mg x=none) (hv:bootBuiltins x=some (.builtin id)) (ha:PA X (e::es) t) (hn:x≠"__name__":=by decide) (hdb:(x == ("__debug__":Str))=false:=by decide)
  (he:starEach (e::es) X.env=(false,eval e X.env)::starEach es X.env:=by rfl) (hpl:(backTo pos (starEach es X.env)).any (·.1)=false:=by rfl):PE X (.Call (.Name x p) (e::es) [] pos) (tCB r t):=by
 intro pins s σ H Q I h
 refine wpAny_Call_Name_kw (zfw I hg hm hv ?_ hn hdb)
 exact PyProof.Rows.callWith_builtin1 (thn (ha pos pins s σ H _ I h) fun us s1 ⟨vs,H1,I1,r1,q1⟩=>hc pins s1 σ H1 vs us Q I1 r1 q1) he hpl
theorem zbX (hc:zdS X (.type T) r) (hg:Gl X x) (hm:X.mg x=none) (hv:bootBuiltins x=some (.type T)) (ha:PA X (e::es) t) (hn:x≠"__name__":=by decide) (hdb:(x == ("__debug__":Str))=false:=by decide)
  (he:starEach (e::es) X.env=(false,eval e X.env)::starEach es X.env:=by rfl) (hpl:(backTo pos (starEach es X.env)).any (·.1)=false:=by rfl):PE X (.Call (.Name x p) (e::es) [] pos) (tCB r t):=by
 intro pins s σ H Q I h
 refine wpAny_Call_Name_kw (zfw I hg hm hv ?_ hn hdb)
 exact PyProof.Rows.callWith_type1 (thn (ha pos pins s σ H _ I h) fun us s1 ⟨vs,H1,I1,r1,q1⟩=>hc pins s1 σ H1 vs us Q I1 r1 q1) he hpl
end
end L2
namespace HT
open PySem PyProof.Rows
section
open PySem.SeqAt
open PySem.AutoSeq1 (wpAny_loadPart')
open PySem.MeetsSeq PySem.MeetsSeq2 PySem.MeetsSeq3
end
section
variable {prog:Program} {w:World} {A:Around} {E:Value→Shared→Prop} {s:Shared}
theorem cat_tup {t b:Addr} {vs ws:List Value} {Q:Value→Shared→Prop} (ht:IsTup s.heap t vs.toArray) (hb:IsTup s.heap b ws.toArray) (hv:vs≠[])
  (h1:ws=[]→Q (.ref t) s) (h2:ws≠[]→Q (.ref s.heap.objs.size) { s with heap:=s.heap.push { cls:=.type "tuple",data:=.seq (vs++ws).toArray } })
  (hsz:vs.length+ws.length≤sizeLine):wpAny (model prog w) A (binaryOp .Add (.ref t) (.ref b)) Q E s:=by
 obtain ⟨⟨cls,dd,data,sl⟩,ho,hc,n,hd⟩:=id ht
 obtain ⟨⟨cls2,dd2,data2,sl2⟩,ho2,hc2,n2,hd2⟩:=id hb
 simp only at hc hd hc2 hd2
 subst hc hd hc2 hd2
 have e:vs.toArray++ws.toArray=(vs++ws).toArray:=by simp
 by_cases hw:ws=[]
 ·exact concat_meets ⟨_,ho,rfl⟩ ⟨_,ho2,rfl⟩ noFill_tuple_add seq_tuple_add PySem.F.slot_tuple_add PySem.F.entry_tuple_add (PySem.F.args_tuple_add_2 _ _)
   (tuple_addW1 t b vs.toArray ws.toArray n n2 dd dd2 sl sl2 (by simpa using hv) (by simp [hw])) ⟨ho,ho2,h1 hw⟩
 ·refine concat_meets ⟨_,ho,rfl⟩ ⟨_,ho2,rfl⟩ noFill_tuple_add seq_tuple_add PySem.F.slot_tuple_add PySem.F.entry_tuple_add (PySem.F.args_tuple_add_2 _ _)
   (tuple_addW2 t b vs.toArray ws.toArray n n2 dd dd2 sl sl2 (by simpa using hv) (by simpa using hw) (by rw [List.size_toArray,List.size_toArray];exact hsz)) ⟨ho,ho2,?_⟩
  rw [e]
  exact h2 hw
def sIx (n d:Nat):Option Int→Nat
 | none=>d
 | some v=>if v<0 then (v+(n:Int)).toNat else min v.toNat n
theorem sIx_none (n d:Nat):sIx n d none=d:=rfl
theorem sIx_nat (n d k:Nat):sIx n d (some (k:Int))=min k n:=by
 show (if (k:Int)<0 then ((k:Int)+(n:Int)).toNat else min (k:Int).toNat n)=min k n
 rw [if_neg (by (first|lia|omega)),Int.toNat_natCast]
end
end HT
namespace L2
open PySem PySem.Spec PyProof.Rows
abbrev TO:=St→Hp→(Option Int→Hp→Prop)→Prop
def PO (X:Cx) (e:Option Expr) (t:TO):Prop :=
 ∀ (pins:List (Addr×Obj)) (s:Shared) (σ:St) (H:Hp) (Q:Option Int→Hp→Prop),Inv X pins σ H s→t σ H Q →
  wpAny (model X.prog X.w) X.A (evalPart e X.env) (fun u s'=>∃ o H',Inv X pins σ H' s'∧IsPart u o∧Q o H') X.xe s
def zeW:TO:=fun _ H Q=>Q none H
def zkM (t:TE):TO:=fun σ H Q=>t σ H fun x H1=>∃ i,x=.int i∧Q (some i) H1
section
variable {X:Cx} {e:Expr} {te:TE} {lo hi:Option Expr} {tl th:TO} {pos p2:Pos}
theorem zjo:PO X none zeW:=by
 intro pins s σ H Q I h
 rw [evalPart_none]
 exact wpAny_pure ⟨none,H,I,.none,h⟩
theorem zjm (h:PE X e te):PO X (some e) (zkM te):=by
 intro pins s σ H Q I hw
 rw [evalPart_some]
 refine thn (h pins s σ H _ I hw) fun u s1 hQ'=>?_
 obtain ⟨x,H1,I1,r1,q1⟩:=hQ'
 obtain ⟨i,rfl,q⟩:=q1
 obtain ⟨t,rfl⟩:=r1
 exact ⟨some i,H1,I1,.int i t,q⟩
def SlR (X:Cx) (r:V→Option Int→Option Int→Hp→VK→Prop):Prop :=
 ∀ (pins:List (Addr×Obj)) (s:Shared) (σ:St) (H:Hp) (x:V) (v vl vu:Value) (lo hi:Option Int) (sl:Addr) (Q:VK),Inv X pins σ H s→zbG x v→s.heap.IsSliceOf sl vl vu .none→IsPart vl lo→IsPart vu hi→r x lo hi H Q →
  ∃ T id,typeLookup (.type T) "__getitem__"=pure (some (.builtin id))∧s.TypeIs v T∧wpAny (model X.prog X.w) X.A (getItem v (.ref sl)) (EP X pins σ Q) X.xe s
def tSl (r:V→Option Int→Option Int→Hp→VK→Prop) (te:TE) (tl th:TO):TE:=fun σ H Q=>te σ H fun x H1=>tl σ H1 fun l H2=>th σ H2 fun u H3=>r x l u H3 Q
theorem zhe {r:V→Option Int→Option Int→Hp→VK→Prop} (hr:SlR X r) (he:PE X e te) (hl:PO X lo tl) (hu:PO X hi th):PE X (.Subscript e (.Slice lo hi none p2) pos) (tSl r te tl th):=by
 intro pins s σ H Q I h
 refine Subscript_ (thn (he pins s σ H _ I h) fun v s1 hQ'=>?_)
 obtain ⟨x,H1,I1,r1,q1⟩:=hQ'
 refine wpAny_Slice (thn (hl pins s1 σ H1 _ I1 q1) fun vl s2 ⟨l,H2,I2,pl,q2⟩=>thn (hu pins s2 σ H2 _ I2 q2) fun vu s3 hQ'=>?_)
 obtain ⟨u,H3,I3,pu,q3⟩:=hQ'
 rw [evalPart_none]
 refine wpAny_pure ?_
 have I4:Inv X pins σ H3 { s3 with heap:=s3.heap.push { cls:=.type "slice",data:=.fields #[vl,vu,.none] } }:=I3.kept (t':=s3.toks) fun b ob q=>Heap.get?_push_of_some _ q
 obtain ⟨T,id,hT,ht,hg⟩:=hr pins { s3 with heap:=s3.heap.push { cls:=.type "slice",data:=.fields #[vl,vu,.none] } } σ H3 x v vl vu l u s3.heap.objs.size Q I4 r1 (Heap.IsSliceOf.new ..) pl pu q3
 show wpAny (model X.prog X.w) X.A (subscriptTail e (.Slice lo hi none p2) v (.ref s3.heap.objs.size)) (EP X pins σ Q) X.xe { s3 with heap:=s3.heap.push { cls:=.type "slice",data:=.fields #[vl,vu,.none] } }
 exact tail_any (ops:=[.ref s3.heap.objs.size,v]) ht hT hg (by with_unfolding_all rfl)
def zmj (xs:List V) (lo hi:Option Int):List V:=(xs.drop (HT.sIx xs.length 0 lo)).take (HT.sIx xs.length xs.length hi - HT.sIx xs.length 0 lo)
theorem zjb (xs:List V) (lo hi:Option Int):(zmj xs lo hi).length≤xs.length:=by
 unfold zmj
 rw [List.length_take,List.length_drop]
 (first|lia|omega)
def zno (K:PySem.W.Frag):R2:=fun x y H Q=>∃ a b xs ys,x=.ref a∧y=.ref b∧SqT K H a xs∧SqT K H b ys∧xs≠[]∧xs.length+ys.length≤sizeLine ∧
 (ys=[]→Q (.ref a) H)∧(ys≠[]→∀ p,H p=none→Q (.ref p) (upd H p (.tup (xs++ys))))
theorem zbj.nil_iff {xs:List V} {us:List Value} (r:zbj xs us):us=[]↔xs=[]:=by
 cases r with
 | nil=>simp
 | cons _ _=>simp
theorem zoC:OpR X (binaryOp .Add) (zno X.K):=by
 intro pins s σ H x y v u Q I rx ry h
 obtain ⟨a,b,xs,ys,rfl,rfl,ha,hb,hx,hz,q1,q2⟩:=h
 cases rx
 cases ry
 obtain ⟨its,r1,p1,_⟩:=I.tuple ha
 obtain ⟨its2,r2,p2,_⟩:=I.tuple hb
 refine HT.cat_tup p1 p2 (fun z=>hx (r1.nil_iff.mp z)) (fun z=>⟨.ref a,H,I,rfl,q1 (r2.nil_iff.mp z)⟩) (fun z=>?_) (by rw [← r1.length,← r2.length];exact hz)
 refine ⟨.ref s.heap.objs.size,_,I.laid (t':=s.toks) (o:=.tup (xs++ys)) (fun b ob q=>Heap.get?_push_of_some _ q) (Nat.le_refl _) ?_,rfl,q2 (fun w=>z (r2.nil_iff.mpr w)) _ (I.hok.fresh (Nat.le_refl _))⟩
 exact ⟨by rw [List.length_append];exact hz,_,r1.append r2,IsTup.new _ _⟩
end
end L2
namespace L2
open PySem PySem.Spec PyProof.Rows
def ixN (n:Nat) (i:Int):Option Nat:=if 0≤i then (if i<n then some i.toNat else none) else if -(n:Int)≤i then some (i+n).toNat else none
def atI {α:Type} (xs:List α) (i:Int):Option α:=(ixN xs.length i).bind fun j=>xs[j]?
theorem zof {n:Nat} {i:Int} {j:Nat} (h:ixN n i=some j):seqIndex? i n=some j∧j<n∧-(n:Int)≤i∧i<n:=by
 unfold ixN at h
 by_cases h0:0≤i
 ·rw [if_pos h0] at h
  by_cases h1:i<n
  ·rw [if_pos h1] at h
   have e:i.toNat=j:=Option.some.inj h
   exact ⟨by rw [seqIndex_of h0 h1,e],by (first|lia|omega),by (first|lia|omega),h1⟩
  ·rw [if_neg h1] at h;cases h
 ·rw [if_neg h0] at h
  by_cases h1:-(n:Int)≤i
  ·rw [if_pos h1] at h
   have e:(i+n).toNat=j:=Option.some.inj h
   exact ⟨by rw [seqIndex_neg (by (first|lia|omega)) h1,e],by (first|lia|omega),h1,by (first|lia|omega)⟩
  ·rw [if_neg h1] at h;cases h
theorem zle {α:Type} {xs:List α} {i:Int} {v:α} (h:atI xs i=some v):∃ j,seqIndex? i xs.length=some j∧xs[j]?=some v∧j<xs.length∧-(xs.length:Int)≤i∧i<xs.length:=by
 unfold atI at h
 cases e:ixN xs.length i with
 | none=>rw [e] at h;cases h
 | some j =>
  rw [e] at h
  obtain ⟨h1,h2,h3,h4⟩:=zof e
  exact ⟨j,h1,h,h2,h3,h4⟩
theorem zca {α:Type} {xs:List α} {j:Nat} {v:α} (h:xs[j]?=some v):atI xs (j:Int)=some v:=by
 have hj:j<xs.length:=(List.getElem?_eq_some_iff.mp h).1
 have e:ixN xs.length (j:Int)=some j:=by
  unfold ixN
  rw [if_pos (by (first|lia|omega)),if_pos (by (first|lia|omega))];simp
 unfold atI;rw [e];exact h
theorem znh {α:Type} (xs:List α) (v:α):atI (xs++[v]) (-1)=some v:=by
 have hl:(xs++[v]).length=xs.length+1:=by simp
 have e:ixN (xs++[v]).length (-1)=some xs.length:=by
  unfold ixN
  rw [hl,if_neg (by decide),if_pos (by (first|lia|omega))]
  congr 1
  (first|lia|omega)
 unfold atI
 rw [e]
 show (xs++[v])[xs.length]?=some v
 simp
def zn6 (b:Expr):Prop:=∀ o i,subscripted b false o i=operate [o,i] (getItem o i)
def IxR (X:Cx) (r:R2):Prop :=
 ∀ (value slice:Expr) (pins:List (Addr×Obj)) (s:Shared) (σ:St) (H:Hp) (x y:V) (v u:Value) (Q:VK),Inv X pins σ H s→zbG x v→zbG y u→r x y H Q →
  subscripted slice false v u=operate [v,u] (getItem v u)→wpAny (model X.prog X.w) X.A (subscriptTail value slice v u) (EP X pins σ Q) X.xe s
def MtR (X:Cx) (id:String) (r:V→List V→Hp→VK→Prop):Prop :=
 ∀ (pins:List (Addr×Obj)) (s:Shared) (σ:St) (H:Hp) (x:V) (xs:List V) (v:Value) (us:List Value) (Q:VK),Inv X pins σ H s→zbG x v→zbj xs us→r x xs H Q →
  wpAny (model X.prog X.w) X.A (call (.builtin id) (v::us)) (EP X pins σ Q) X.xe s
section
variable {X:Cx} {a b:Expr} {ta tb:TE} {pos:Pos}
theorem zco {r:R2} (hr:IxR X r) (ha:PE X a ta) (hb:PE X b tb) (hs:zn6 b):PE X (.Subscript a b pos) (tOp r ta tb):=by
 intro pins s σ H Q I h
 exact Subscript_ (binT ha hb I h fun v u s2 x y H2 I2 rx ry q=>hr a b pins s2 σ H2 x y v u Q I2 rx ry q (hs _ _))
def zer (K:PySem.W.Frag):R2:=fun x y H Q=>∃ p xs i v,x=.ref p∧y=.int i∧SqL K H p xs∧atI xs i=some v∧Q v H
def ziW (K:PySem.W.Frag):R2:=fun x y H Q=>∃ p xs i v,x=.ref p∧y=.int i∧SqT K H p xs∧atI xs i=some v∧Q v H
theorem zbQ:IxR X (zer X.K):=by
 intro value slice pins s σ H x y v u Q I rx ry h hs
 obtain ⟨p,xs,i,z,rfl,rfl,hq,he,q⟩:=h
 cases rx
 obtain ⟨t,rfl⟩:=ry
 obtain ⟨its,r,pl,hz⟩:=I.list hq
 obtain ⟨j,h1,h2,h3,h4,h5⟩:=zle he
 obtain ⟨w,ew,rw'⟩:=r.get h2
 have hl:=r.length
 have hn:=zhK
 have fin:EP X pins σ Q w s:=⟨z,H,I,rw',q⟩
 by_cases h0:0≤i
 ·have hj:i.toNat=j:=by
   rw [seqIndex_of h0 h5] at h1
   exact Option.some.inj h1
  exact item_listR pl.isList h0 (by (first|lia|omega)) (by rw [hj];simpa using ew) fin hs
 ·have hj:(i+(its.toArray.size:Int)).toNat=j:=by
   rw [seqIndex_neg (by (first|lia|omega)) h4] at h1
   rw [List.size_toArray,← hl]
   exact Option.some.inj h1
  exact subscriptTail_builtinR (x:=w) pl.isList.typeIs slot_list_getitem.lookup
   (wpAny_getItem_list_neg (Q:=fun r s'=>r=w∧EP X pins σ Q r s') pl.isList (by (first|lia|omega)) (by rw [List.size_toArray] <;> (first|lia|omega)) (by (first|lia|omega)) (by rw [hj];simpa using ew) ⟨rfl,fin⟩) hs
theorem zfq:IxR X (ziW X.K):=by
 intro value slice pins s σ H x y v u Q I rx ry h hs
 obtain ⟨p,xs,i,z,rfl,rfl,hq,he,q⟩:=h
 cases rx
 obtain ⟨t,rfl⟩:=ry
 obtain ⟨its,r,pl,hz⟩:=I.tuple hq
 obtain ⟨j,h1,h2,h3,h4,h5⟩:=zle he
 obtain ⟨w,ew,rw'⟩:=r.get h2
 have hl:=r.length
 have hn:=zhK
 have fin:EP X pins σ Q w s:=⟨z,H,I,rw',q⟩
 exact subscriptTail_builtinR (x:=w) pl.typeIs slot_tuple_getitem.lookup
  (getItem_tuple (j:=j) (Q:=fun r s'=>r=w∧EP X pins σ Q r s') pl (by (first|lia|omega)) (by (first|lia|omega)) (by rw [List.size_toArray,← hl];exact h1) (by simpa using ew) ⟨rfl,fin⟩) hs
theorem zhM (lo hi:Option Int) (n:Nat):(sliceBounds lo hi none n).1=((HT.sIx n 0 lo:Nat):Int)∧(sliceBounds lo hi none n).2.1=((HT.sIx n n hi:Nat):Int)∧(sliceBounds lo hi none n).2.2=1:=by
 refine ⟨?_,?_,rfl⟩
 ·cases lo with
  | none=>simp [sliceBounds,HT.sIx]
  | some i =>
   simp only [sliceBounds,HT.sIx,Option.getD_none,show (1:Int) > 0 by decide,if_true]
   by_cases h:i<0
   ·simp only [h,if_true] <;> (first|lia|omega)
   ·simp only [h,if_false] <;> (first|lia|omega)
 ·cases hi with
  | none=>simp [sliceBounds,HT.sIx]
  | some i =>
   simp only [sliceBounds,HT.sIx,Option.getD_none,show (1:Int) > 0 by decide,if_true]
   by_cases h:i<0
   ·simp only [h,if_true] <;> (first|lia|omega)
   ·simp only [h,if_false] <;> (first|lia|omega)
theorem zhc (its:List Value) (lo hi:Option Int):slicePick its.toArray lo hi none=((its.drop (HT.sIx its.length 0 lo)).take (HT.sIx its.length its.length hi - HT.sIx its.length 0 lo)).toArray:=by
 obtain ⟨h1,h2,h3⟩:=zhM lo hi its.toArray.size
 unfold slicePick
 rw [h1,h2,h3]
 simp only [sliceRange_one,pick_run,List.size_toArray] <;> rfl
def zpc (K:PySem.W.Frag):V→Option Int→Option Int→Hp→VK→Prop:=fun x lo hi H Q=>∃ a xs,x=.ref a∧SqL K H a xs∧∀ p,H p=none→Q (.ref p) (upd H p (.lst (zmj xs lo hi)))
theorem zjs:SlR X (zpc X.K):=by
 intro pins s σ H x v vl vu lo hi sl Q I rx hs pl pu h
 obtain ⟨a,xs,rfl,hx,q⟩:=h
 cases rx
 obtain ⟨its,r,ht,hz⟩:=I.list hx
 have hlen:=r.length
 refine ⟨"list",_,slot_list_getitem.lookup,ht.isList.typeIs,?_⟩
 refine wpAny_getItem_list_slice ht.isList hs pl pu .none (by simp) ?_ (by rw [List.size_toArray] <;> (first|lia|omega))
 rw [zhc,← hlen]
 refine ⟨.ref s.heap.objs.size,_,I.laid (t':=s.toks) (o:=.lst (zmj xs lo hi)) (fun b ob q=>Heap.get?_push_of_some _ q) (Nat.le_refl _) ?_,rfl,q _ (I.hok.fresh (Nat.le_refl _))⟩
 exact ⟨Nat.le_trans (zjb xs lo hi) hz,_,0,(r.drop (HT.sIx xs.length 0 lo)).take (HT.sIx xs.length xs.length hi - HT.sIx xs.length 0 lo),Heap.get?_push_size _ rfl⟩
def zgw:V→Bool
 | .non=>true
 | .bl _=>true
 | .int _=>true
 | .str _=>true
 | _=>false
def eqV:V→V→Bool
 | .non,.non=>true
 | .bl a,.bl b=>a == b
 | .bl a,.int b=>(if a then 1 else 0) == b
 | .int a,.bl b=>a == (if b then 1 else 0)
 | .int a,.int b=>a == b
 | .str a,.str b=>a == b
 | _,_=>false
theorem zpr {A:Around} {s:Shared} {y x:V} {u v:Value} (ry:zbG y u) (rx:zbG x v) (fy:zgw y=true) (fx:zgw x=true):SeqAt.EqAt A s u v (eqV y x):=by
 cases y with
 | non =>
  cases ry
  cases x with
  | non=>cases rx;exact SeqAt.EqAt.same _
  | bl b=>cases rx;exact SeqAt.EqAt.none_bool b
  | int b=>obtain ⟨t,rfl⟩:=rx;exact SeqAt.EqAt.none_int b t
  | str b=>obtain ⟨t,rfl⟩:=rx;exact SeqAt.EqAt.none_str b t
  | _=>exact absurd (show false=true from fx) Bool.false_ne_true
 | bl a =>
  cases ry
  cases x with
  | non=>cases rx;exact SeqAt.EqAt.bool_none a
  | bl b=>cases rx;exact SeqAt.EqAt.bool_bool a b
  | int b=>obtain ⟨t,rfl⟩:=rx;exact SeqAt.EqAt.bool_int a b t
  | str b=>obtain ⟨t,rfl⟩:=rx;exact SeqAt.EqAt.bool_str a b t
  | _=>exact absurd (show false=true from fx) Bool.false_ne_true
 | int a =>
  obtain ⟨t',rfl⟩:=ry
  cases x with
  | non=>cases rx;exact SeqAt.EqAt.int_none a t'
  | bl b=>cases rx;exact SeqAt.EqAt.int_bool a t' b
  | int b=>obtain ⟨t,rfl⟩:=rx;exact SeqAt.EqAt.int_int a t' b t
  | str b=>obtain ⟨t,rfl⟩:=rx;exact SeqAt.EqAt.int_str a t' b t
  | _=>exact absurd (show false=true from fx) Bool.false_ne_true
 | str a =>
  obtain ⟨t',rfl⟩:=ry
  cases x with
  | non=>cases rx;exact SeqAt.EqAt.str_none a t'
  | bl b=>cases rx;exact SeqAt.EqAt.str_bool a t' b
  | int b=>obtain ⟨t,rfl⟩:=rx;exact SeqAt.EqAt.str_int a t' b t
  | str b=>obtain ⟨t,rfl⟩:=rx;exact SeqAt.EqAt.str_str a t' b t
  | _=>exact absurd (show false=true from fx) Bool.false_ne_true
 | _=>exact absurd (show false=true from fy) Bool.false_ne_true
def eqU (x:V) (u:Value):Bool:=match u with
 | .none=>eqV .non x
 | .bool b=>eqV (.bl b) x
 | .int i _=>eqV (.int i) x
 | .str z _=>eqV (.str z) x
 | _=>false
theorem znV {x y:V} {u:Value} (r:zbG y u) (f:zgw y=true):eqU x u=eqV y x:=by
 cases y with
 | non=>cases r;rfl
 | bl b=>cases r;rfl
 | int i=>obtain ⟨t,rfl⟩:=r;rfl
 | str z=>obtain ⟨t,rfl⟩:=r;rfl
 | _=>exact absurd (show false=true from f) Bool.false_ne_true
theorem zjk {x:V}:∀ {xs:List V} {us:List Value},zbj xs us→xs.all zgw=true→us.any (eqU x)=xs.any fun y=>eqV y x
 | _,_,.nil,_=>rfl
 | y::xs,u::us,.cons r t,f=>by
  rw [List.all_cons,Bool.and_eq_true] at f
  rw [List.any_cons,List.any_cons,znV r f.1,zjk t f.2]
theorem zhl {A:Around} {s:Shared} {x:V} {v:Value} (rx:zbG x v) (fx:zgw x=true):∀ {xs:List V} {us:List Value},zbj xs us→xs.all zgw=true→∀ u∈us,SeqAt.EqAt A s u v (eqU x u)
 | _,_,.nil,_=>fun u hu=>by cases hu
 | y::xs,u::us,.cons r t,f=>fun u' hu=>by
  rw [List.all_cons,Bool.and_eq_true] at f
  rcases List.mem_cons.mp hu with rfl | hu
  ·rw [znV r f.1];exact zpr r rx f.1 fx
  ·exact zhl rx fx t f.2 u' hu
def inV (x:V) (xs:List V):Bool:=xs.any fun y=>eqV y x
def rIn (K:PySem.W.Frag) (neg:Bool):R2:=fun x y H Q=>∃ p xs,y=.ref p∧(SqL K H p xs∨SqT K H p xs)∧zgw x=true∧xs.all zgw=true∧Q (.bl (if neg then !inV x xs else inV x xs)) H
theorem zlK:OpR X (compareOp .In) (rIn X.K false):=by
 intro pins s σ H x y v u Q I rx ry h
 obtain ⟨p,xs,rfl,hq,fx,fs,q⟩:=h
 cases ry
 rcases hq with hq | hq
 ·obtain ⟨its,r,pl,hz⟩:=I.list hq
  refine SeqAt.in_listAt (eqU x) pl.isList (fun w hw=>zhl rx fx r fs w (by simpa using hw)) ⟨.bl _,H,I,rfl,?_⟩
  rw [show its.toArray.any (eqU x)=its.any (eqU x) by simp,zjk r fs]
  exact q
 ·obtain ⟨its,r,pl,hz⟩:=I.tuple hq
  refine SeqAt.in_tupleAt (eqU x) pl (fun w hw=>zhl rx fx r fs w (by simpa using hw)) ⟨.bl _,H,I,rfl,?_⟩
  rw [show its.toArray.any (eqU x)=its.any (eqU x) by simp,zjk r fs]
  exact q
theorem zaG:zdS X (.builtin "len") (fun xs H Q=>∃ p ys,xs=[.ref p]∧(SqL X.K H p ys∨SqT X.K H p ys)∧Q (.int ys.length) H):=by
 intro pins s σ H xs us Q I r h
 obtain ⟨p,ys,rfl,hq,q⟩:=h
 obtain ⟨u,rfl,rx⟩:=zfl r
 cases rx
 have hn:=zhK
 rcases hq with hq | hq
 ·obtain ⟨its,r',pl,hz⟩:=I.list hq
  have hlen:=r'.length
  exact Calls.call_len_list pl.isList (by simp only [List.size_toArray] <;> (first|lia|omega)) ⟨.int ys.length,H,I.tok _,⟨s.toks+1,by rw [List.size_toArray,hlen]⟩,q⟩
 ·obtain ⟨its,r',pl,hz⟩:=I.tuple hq
  have hlen:=r'.length
  exact len_tuple pl (by simp only [List.size_toArray] <;> (first|lia|omega)) ⟨.int ys.length,H,I.tok _,⟨s.toks+1,by rw [List.size_toArray,hlen]⟩,q⟩
theorem zhH:zdS X (.type "list") (fun xs H Q=>∃ p ys,xs=[.ref p]∧(SqL X.K H p ys∨SqT X.K H p ys)∧∀ l,H l=none→Q (.ref l) (upd H l (.lst ys))):=by
 intro pins s σ H xs us Q I r h
 obtain ⟨p,ys,rfl,hq,q⟩:=h
 obtain ⟨u,rfl,rx⟩:=zfl r
 cases rx
 have fin:∀ (its:List Value),zbj ys its→ys.length≤sizeLine→∀ (h':Heap) (c':Nat),(∀ b o',s.heap.get? b=some o'→h'.get? b=some o') →
   h'.get? s.heap.objs.size=some { cls:=.type "list",dict:=none,data:=.seq its.toArray c',slots:=#[] }→EP X pins σ Q (.ref s.heap.objs.size) { s with heap:=h' }:=fun its r' hz h' c' kp e =>
  ⟨.ref s.heap.objs.size,_,I.laid (t':=s.toks) kp (Nat.le_refl _) (show zbi X.prog X.w _ h' _ (.lst ys) from ⟨hz,its,c',r',e⟩),rfl,q _ (I.hok.fresh (Nat.le_refl _))⟩
 rcases hq with hq | hq
 ·obtain ⟨its,r',pl,hz⟩:=I.list hq
  have hlen:=r'.length
  obtain ⟨o,ho,hc,n,hd⟩:=pl.isList
  exact call_list_seq p (.inl rfl) ho hc hd (fun h' c' kp e=>fin its r' hz h' c' kp e) (by simp only [List.size_toArray] <;> (first|lia|omega))
 ·obtain ⟨its,r',pl,hz⟩:=I.tuple hq
  have hlen:=r'.length
  obtain ⟨o,ho,hc,n,hd⟩:=pl
  exact call_list_seq p (.inr rfl) ho hc hd (fun h' c' kp e=>fin its r' hz h' c' kp e) (by simp only [List.size_toArray] <;> (first|lia|omega))
theorem zeA:zdS X (.type "tuple") (fun xs H Q=>∃ p ys,xs=[.ref p]∧((SqL X.K H p ys∧∀ l,H l=none→Q (.ref l) (upd H l (.tup ys)))∨(SqT X.K H p ys∧Q (.ref p) H))):=by
 intro pins s σ H xs us Q I r h
 obtain ⟨p,ys,rfl,h⟩:=h
 obtain ⟨u,rfl,rx⟩:=zfl r
 cases rx
 rcases h with ⟨hq,q⟩ | ⟨hq,q⟩
 ·obtain ⟨its,r',pl,hz⟩:=I.list hq
  have hlen:=r'.length
  refine call_tuple_list pl.isList (fun h' kp=>?_) (by simp only [List.size_toArray] <;> (first|lia|omega))
  have I1:Inv X pins σ H { s with heap:=h' }:=I.kept (t':=s.toks) kp
  have I2:Inv X pins σ (upd H h'.objs.size (.tup ys)) { s with heap:=h'.push { cls:=.type "tuple",data:=.seq its.toArray } } :=
   I1.laid (t':=s.toks) (fun b o e=>Heap.get?_push_of_some _ e) (Nat.le_refl _) (show zbi X.prog X.w _ _ _ (.tup ys) from ⟨hz,its,r',IsTup.new _ _⟩)
  exact ⟨.ref h'.objs.size,_,I2,rfl,q _ (I1.hok.fresh (Nat.le_refl _))⟩
 ·obtain ⟨its,r',pl,hz⟩:=I.tuple hq
  exact call_tuple_same pl ⟨.ref p,H,I,rfl,q⟩
def tyV (K:PySem.W.Frag) (T:String) (x:V) (H:Hp):Prop:=match x with
 | .str _=>T="str"
 | .int _=>T="int"
 | .ref p=>(T="list"∧∃ xs,SqL K H p xs)∨(T="tuple"∧∃ o,K.lookup p=some o∧o.cls=.type "tuple"∧o.dict=none) ∨
   (T="dict"∧((∃ kvs,H p=some (.dK kvs))∨∃ kvs,H p=some (.dT kvs)))∨(T="set"∧∃ S n,H p=some (.set S n))
 | _=>False
theorem znN {pins:List (Addr×Obj)} {σ:St} {H:Hp} {s:Shared} {T:String} {x:V} {v:Value} (I:Inv X pins σ H s) (r:zbG x v) (ty:tyV X.K T x H) :
  s.TypeIs v T∧∀ a,v=.ref a→∃ ob,s.heap.get? a=some ob∧ob.dict=none:=by
 cases x with
 | str z =>
  obtain ⟨t,rfl⟩:=r
  cases (show T="str" from ty)
  exact ⟨typeIs_str s z t,fun _ e=>nomatch e⟩
 | int i =>
  obtain ⟨t,rfl⟩:=r
  cases (show T="int" from ty)
  exact ⟨typeIs_int s i t,fun _ e=>nomatch e⟩
 | ref p =>
  cases r
  rcases ty with ⟨rfl,xs,hq⟩ | ⟨rfl,o,hk,hc,hd⟩ | ⟨rfl,hk⟩ | ⟨rfl,S,n,hk⟩
  ·obtain ⟨its,_,pl,_⟩:=I.list hq
   refine ⟨pl.isList.typeIs,fun a e=>?_⟩
   cases e
   obtain ⟨o,n,e,c,hd,_⟩:=pl
   exact ⟨o,e,hd⟩
  ·refine ⟨⟨o,I.kIn p o hk,hc⟩,fun a e=>?_⟩
   cases e
   exact ⟨o,I.kIn _ o hk,hd⟩
  ·have z:∃ o,s.heap.get? p=some o∧o.ExactDict:=by
    rcases hk with ⟨kvs,hk⟩ | ⟨kvs,hk⟩
    ·obtain ⟨_,_,_,_,o,_,_,e,ex,_⟩:=I.hok p _ hk
     exact ⟨o,e,ex⟩
    ·obtain ⟨_,_,_,_,o,_,_,e,ex,_⟩:=I.hok p _ hk
     exact ⟨o,e,ex⟩
   obtain ⟨o,e,ex⟩:=z
   refine ⟨⟨o,e,ex.1⟩,fun a e2=>?_⟩
   cases e2
   exact ⟨o,e,ex.2.1⟩
  ·obtain ⟨o,_,_,_,e,ex,_⟩:=I.hok p _ hk
   refine ⟨⟨o,e,ex.1⟩,fun a e2=>?_⟩
   cases e2
   exact ⟨o,e,ex.2.1⟩
 | _=>exact False.elim ty
def tBM0 (K:PySem.W.Frag) (T:String) (r:V→List V→Hp→VK→Prop) (to:TE):TE:=fun σ H Q=>to σ H fun x H1=>tyV K T x H1∧r x [] H1 Q
def tBM (K:PySem.W.Frag) (T:String) (r:V→List V→Hp→VK→Prop) (to:TE) (t:TA):TE:=fun σ H Q=>to σ H fun x H1=>tyV K T x H1∧t σ H1 fun xs H2=>r x xs H2 Q
variable {o e:Expr} {es:List Expr} {to:TE} {t:TA} {name:Str} {apos cpos:Pos} {T id:String} {r:V→List V→Hp→VK→Prop}
theorem zql (pa:PlainAttrs T) (slot:Slot T name id) (hty:typeOf (.builtin id)=pure (.type "method_descriptor")) (hm:MtR X id r) (ho:PE X o to)
  (hbase:attributeBase o name X.env (eval o X.env)=eval o X.env:=by rfl) (hline:(apos.endLine == cpos.line)=true:=by rfl):PE X (.Call (.Attribute o name apos) [] [] cpos) (tBM0 X.K T r to):=by
 intro pins s σ H Q I h
 refine wpAny_Call_method0_late hbase hline (thn (ho pins s σ H _ I h) fun v s1 hQ'=>?_)
 obtain ⟨x,H1,I1,r1,ty,q1⟩:=hQ'
 obtain ⟨h1,h2⟩:=znN I1 r1 ty
 exact ⟨T,id,pa,slot,hty,h1,h2,Calls.callWith_builtin rfl (PySem.evalArgs_none (hm pins s1 σ H1 x [] v [] Q I1 r1 .nil q1))⟩
theorem zgA (pa:PlainAttrs T) (slot:Slot T name id) (hty:typeOf (.builtin id)=pure (.type "method_descriptor")) (hm:MtR X id r) (ho:PE X o to) (ha:PA X (e::es) t)
  (hbase:attributeBase o name X.env (eval o X.env)=eval o X.env:=by rfl)
  (hfew:((backTo cpos (starEach (e::es) X.env)).all (fun x=>!x.1)&&(backToKw cpos (keywordEach [] X.env)).all (fun x=>x.1.isSome)
   && decide ((e::es).length+([]:List Keyword).length+(if ([]:List Keyword).isEmpty then 0 else 1)<30))=true:=by rfl)
  (hline:(apos.endLine == cpos.line)=true:=by rfl) (hs:starEach (e::es) X.env=(false,eval e X.env)::starEach es X.env:=by rfl) (hplain:(backTo cpos (starEach es X.env)).any (·.1)=false:=by rfl) :
  PE X (.Call (.Attribute o name apos) (e::es) [] cpos) (tBM X.K T r to t):=by
 intro pins s σ H Q I h
 refine wpAny_Call_method_late hbase hfew hline rfl (thn (ho pins s σ H _ I h) fun v s1 hQ'=>?_)
 obtain ⟨x,H1,I1,r1,ty,q1⟩:=hQ'
 obtain ⟨h1,h2⟩:=znN I1 r1 ty
 refine ⟨T,id,pa,slot,hty,h1,h2,?_⟩
 have hA:=ha cpos pins s1 σ H1 _ I1 q1
 rw [hs] at hA ⊢
 refine Calls.callWith_builtin (by show (false || (backTo cpos (starEach es X.env)).any (·.1))=false;rw [hplain] <;> rfl) (Calls.evalArgs_plain ?_)
 exact thn hA fun us s2 ⟨vs,H2,I2,r2,q2⟩=>hm pins s2 σ H2 x vs v us Q I2 r1 r2 q2
end
end L2
namespace L2
open PySem PySem.Spec PyProof.Rows
def MtM (X:Cx) (id:String) (r:V→List V→Hp→VK→Prop):Prop :=
 ∀ (pins:List (Addr×Obj)) (s:Shared) (σ:St) (H:Hp) (x:V) (xs:List V) (v:Value) (us:List Value) (Q:VK),Inv X pins σ H s→zbG x v→zbj xs us→r x xs H Q →
  wpAny (model X.prog X.w) X.A (call (.builtin id) (v::us)) (EP X pins σ Q) X.xe s
theorem zbj.one:∀ {x:V} {us:List Value},zbj [x] us→∃ u,us=[u]∧zbG x u
 | _,_,.cons r .nil=>⟨_,rfl,r⟩
theorem zbj.two:∀ {x y:V} {us:List Value},zbj [x,y] us→∃ u v,us=[u,v]∧zbG x u∧zbG y v
 | _,_,_,.cons r (.cons q .nil)=>⟨_,_,rfl,r,q⟩
theorem zbj.zero:∀ {us:List Value},zbj [] us→us=[]
 | _,.nil=>rfl
theorem zbj.eraseIdx:∀ {xs:List V} {us:List Value} (i:Nat),zbj xs us→zbj (xs.eraseIdx i) (us.eraseIdx i)
 | _,_,_,.nil=>.nil
 | _,_,0,.cons _ t=>t
 | _,_,i+1,.cons r t=>.cons r (zbj.eraseIdx i t)
theorem zbj.rep {xs:List V} {us:List Value} (h:zbj xs us):∀ k:Nat,zbj (List.replicate k xs).flatten (List.replicate k us).flatten
 | 0=>.nil
 | k+1=>by
  rw [List.replicate_succ,List.replicate_succ,List.flatten_cons,List.flatten_cons]
  exact zbj.append h (zbj.rep h k)
theorem zih {α:Type}:∀ (l:List α) (i:Nat),(l.eraseIdx i).length≤l.length
 | [],_=>Nat.le_refl _
 | _::_,0=>Nat.le_succ _
 | _::r,i+1=>Nat.succ_le_succ (zih r i)
theorem zh9 (its:List Value):∀ (k:Nat) (acc:List Value),
  List.foldl (fun x1 x2=>x1++x2) acc.toArray (List.replicate k its.toArray)=(acc++(List.replicate k its).flatten).toArray
 | 0,acc=>by simp
 | k+1,acc=>by
  have e:acc.toArray++its.toArray=(acc++its).toArray:=by simp
  have e2:(acc++its)++(List.replicate k its).flatten=acc++(List.replicate (k+1) its).flatten:=by
   rw [List.replicate_succ,List.flatten_cons,List.append_assoc]
  rw [← e2,← zh9 its k (acc++its),← e,List.replicate_succ,List.foldl_cons]
section
variable {X:Cx} {pins:List (Addr×Obj)} {σ:St} {H:Hp} {s:Shared} {l b:Addr} {xs ys zs:List V}
theorem Inv.lset {its its':List Value} {n:Nat} {f:Array Value→Array Value} {t':Nat} (I:Inv X pins σ H s) (hH:H l=some (.lst xs))
  (e:s.heap.get? l=some { cls:=.type "list",data:=.seq its.toArray n }) (hf:f its.toArray=its'.toArray) (hv:zbj ys its') (hz:ys.length≤sizeLine) :
  Inv X pins σ (upd H l (.lst ys)) { s with heap:=s.heap.update l (Obj.mapSeq f),toks:=t' }:=by
 have q:=PySem.IsL.update e f
 rw [hf] at q
 refine I.write (x:=l) (e:=l) (by rw [hH];exact trivial) (.inl rfl) (fun b' u hb hu=>(Heap.get?_update_other s.heap (Obj.mapSeq f) (Ne.symm hb)).trans hu) ⟨_,q⟩ ?_
 exact ⟨hz,its',_,hv,q⟩
theorem Inv.lnew {its:List Value} {t':Nat} (I:Inv X pins σ H s) (hv:zbj ys its) (hz:ys.length≤sizeLine) :
  Inv X pins σ (upd H s.heap.objs.size (.lst ys)) { s with heap:=s.heap.push { cls:=.type "list",data:=.seq its.toArray },toks:=t' } :=
 I.laid (fun _ _ q=>Heap.get?_push_of_some _ q) (Nat.le_refl _) ⟨hz,its,0,hv,Heap.get?_push_size _ rfl⟩
theorem Inv.fresh (I:Inv X pins σ H s):H s.heap.objs.size=none:=I.hok.fresh (Nat.le_refl _)
theorem Inv.lstM (I:Inv X pins σ H s) (hH:H l=some (.lst xs)):xs.length≤sizeLine∧∃ (its:List Value) (n:Nat),zbj xs its∧xs.length=its.length∧s.heap.get? l=some { cls:=.type "list",data:=.seq its.toArray n }:=by
 obtain ⟨z,its,n,r,e⟩:=I.hok l _ hH
 exact ⟨z,its,n,r,r.length,e⟩
theorem zmU {n:Nat} (h:n≤sizeLine):Builtin.List.listTooLong n=false:=by
 unfold Builtin.List.listTooLong
 exact decide_eq_false (by (first|lia|omega))
end
section
variable {X:Cx}
def zbP:V→List V→Hp→VK→Prop:=fun x vs H Q=>∃ l xs y,x=.ref l∧vs=[y]∧H l=some (.lst xs)∧xs.length<sizeLine∧Q .non (upd H l (.lst (xs++[y])))
theorem zgh:MtM X "list.append" zbP:=by
 intro pins s σ H x vs v us Q I rx rv h
 obtain ⟨l,xs,y,rfl,rfl,hH,hz,q⟩:=h
 cases rx
 obtain ⟨u,rfl,ru⟩:=rv.one
 obtain ⟨z,its,n,r,hl,e⟩:=I.lstM hH
 refine call_meets F.slot_list_append ⟨_,e,rfl⟩ F.entry_list_append (F.args_list_append_2 _ _) (PySem.list_append l its.toArray n u (by rw [List.size_toArray];(first|lia|omega))) ⟨e,?_⟩
 refine ⟨.non,_,I.lset (its':=its++[u]) hH e (by simp) (r.append (.cons ru .nil)) ?_,rfl,q⟩
 rw [List.length_append,List.length_singleton]
 (first|lia|omega)
def zj6:V→List V→Hp→VK→Prop:=fun x vs H Q=>∃ l xs i k y,x=.ref l∧vs=[.int i]∧H l=some (.lst xs)∧-(2 ^ 63)≤i∧i<2 ^ 63∧seqIndex? i xs.length=some k∧xs[k]?=some y∧Q y (upd H l (.lst (xs.eraseIdx k)))
theorem zmo:MtM X "list.pop" zj6:=by
 intro pins s σ H x vs v us Q I rx rv h
 obtain ⟨l,xs,i,k,y,rfl,rfl,hH,h1,h2,hk,hy,q⟩:=h
 cases rx
 obtain ⟨u,rfl,ru⟩:=rv.one
 obtain ⟨t,rfl⟩:=ru
 obtain ⟨z,its,n,r,hl,e⟩:=I.lstM hH
 obtain ⟨w,hw,rw'⟩:=r.get hy
 refine call_meets F.slot_list_pop ⟨_,e,rfl⟩ F.entry_list_pop (F.args_list_pop_2 _ _)
  (MeetsSeq.list_pop_at l its.toArray n i t k w (fitsIndex_both h1 h2) (by rw [List.size_toArray,← hl];exact hk) (by rw [← Array.getElem?_toList];exact hw) (by rw [List.size_toArray];(first|lia|omega))) ⟨e,?_⟩
 refine ⟨y,_,I.lset (its':=its.eraseIdx k) hH e ?_ (r.eraseIdx k) ?_,rw',q⟩
 ·show its.toArray.eraseIdxIfInBounds k=(its.eraseIdx k).toArray
  rw [List.eraseIdxIfInBounds_toArray]
 ·have:=zih xs k
  (first|lia|omega)
def zjA:V→List V→Hp→VK→Prop:=fun x vs H Q=>∃ l xs,x=.ref l∧vs=[]∧H l=some (.lst xs)∧Q .non (upd H l (.lst []))
theorem zm0:MtM X "list.clear" zjA:=by
 intro pins s σ H x vs v us Q I rx rv h
 obtain ⟨l,xs,rfl,rfl,hH,q⟩:=h
 cases rx
 have hus:=rv.zero
 subst hus
 obtain ⟨z,its,n,r,hl,e⟩:=I.lstM hH
 refine call_meets F.slot_list_clear ⟨_,e,rfl⟩ F.entry_list_clear (F.args_list_clear_1 _) (AutoSeq1.list_clear_list_0 l its.toArray n (by rw [List.size_toArray];(first|lia|omega))) ⟨e,?_⟩
 exact ⟨.non,_,I.lset (its':=[]) (ys:=[]) hH e rfl .nil (Nat.zero_le _),rfl,q⟩
def rCat:R2:=fun x y H Q=>∃ l b xs zs,x=.ref l∧y=.ref b∧H l=some (.lst xs)∧H b=some (.lst zs)∧xs.length+zs.length≤sizeLine∧∀ p,H p=none→Q (.ref p) (upd H p (.lst (xs++zs)))
theorem zpN:OpR X (binaryOp .Add) rCat:=by
 intro pins s σ H x y v u Q I rx ry h
 obtain ⟨l,b,xs,zs,rfl,rfl,hH,hB,hz,q⟩:=h
 cases rx
 cases ry
 obtain ⟨z,its,n,r,hl,e⟩:=I.lstM hH
 obtain ⟨z2,its2,n2,r2,hl2,e2⟩:=I.lstM hB
 refine PySem.P.add_list e e2 ?_ (by rw [List.size_toArray,List.size_toArray];(first|lia|omega))
 have ea:its.toArray++its2.toArray=(its++its2).toArray:=by simp
 rw [ea]
 exact ⟨.ref _,_,I.lnew (t':=s.toks) (r.append r2) (by rw [List.length_append];(first|lia|omega)),rfl,q _ I.fresh⟩
def rRep:R2:=fun x y H Q=>∃ l k xs,x=.ref l∧y=.int k∧H l=some (.lst xs)∧-(2 ^ 63)≤k∧k<2 ^ 63∧xs.length*k.toNat≤sizeLine ∧
 ∀ p,H p=none→Q (.ref p) (upd H p (.lst (List.replicate k.toNat xs).flatten))
theorem zoD {α:Type} (xs:List α) (k:Nat):(List.replicate k xs).flatten.length=k*xs.length:=by
 induction k with
 | zero=>simp
 | succ k ih=>rw [List.replicate_succ,List.flatten_cons,List.length_append,ih,Nat.succ_mul,Nat.add_comm]
theorem zpu:OpR X (binaryOp .Mult) rRep:=by
 intro pins s σ H x y v u Q I rx ry h
 obtain ⟨l,k,xs,rfl,rfl,hH,h1,h2,hz,q⟩:=h
 cases rx
 obtain ⟨t,rfl⟩:=ry
 obtain ⟨z,its,n,r,hl,e⟩:=I.lstM hH
 have hlen:its.toArray.size*k.toNat≤sizeLine:=by rw [List.size_toArray,← hl];exact hz
 have hcap:¬ its.toArray.size*k.toNat > (2 ^ 63 - 1) / 8:=by
  have:(sizeLine:Nat)≤(2 ^ 63 - 1) / 8:=by decide
  (first|lia|omega)
 have hfit:¬ (!Builtin.List.listFitsIndex k)=true:=by
  rw [fitsIndex_both h1 h2]
  exact Bool.false_ne_true
 have hlong:¬ Builtin.List.listTooLong (its.toArray.size*k.toNat)=true:=by
  rw [zmU hlen]
  exact Bool.false_ne_true
 have hnew:List.foldl (fun x1 x2=>x1++x2) #[] (List.replicate (if its.toArray.isEmpty=true then 0 else k.toNat) its.toArray)=(List.replicate k.toNat its).flatten.toArray:=by
  have f0:∀ m:Nat,List.foldl (fun x1 x2=>x1++x2) #[] (List.replicate m its.toArray)=(List.replicate m its).flatten.toArray:=fun m=>by
   have:=zh9 its m []
   rw [List.nil_append] at this
   exact this
  rw [f0]
  cases its with
  | nil=>simp
  | cons a r'=>rw [if_neg (by simp)]
 refine wpAny_binaryOp_repeat_ref (T:="list") (U:="int") (by decide) ⟨_,e,rfl⟩ (fun s'=>typeIs_int s' k t) noFill_list_mul F.fills_int_mul F.slot_int_rmul repeat_list F.slot_int_index.lookup
  (call_meets F.slot_int_rmul (typeIs_int s k t) F.entry_int_rmul (F.args_int_rmul_2 _ _) (int___rmul___int_list k t l its.toArray n)
   ⟨e,rfl,⟨_,e,rfl⟩,call_meets F.slot_list_mul ⟨_,e,rfl⟩ F.entry_list_mul (F.args_list_mul_2 _ _) (AutoListH.list___mul___list_int_3 l its.toArray n k t hfit hcap hlong) ⟨e,?_⟩⟩)
 rw [hnew]
 exact ⟨.ref _,_,I.lnew (t':=s.toks) (r.rep k.toNat) (by rw [zoD,Nat.mul_comm];exact hz),rfl,q _ I.fresh⟩
end
section
variable {prog:Program} {w:World} {A:Around} {E:Value→Shared→Prop} {s:Shared}
end
section
variable {X:Cx}
end
end L2
namespace Att
open PySem PySem.W PySem.Calls PyProof.Rows
theorem zfY {P:Params} {h:Heap}:∀ (ns:List Int) (vs:List Value),WellAll P h vs (ns.map WData.int)→IntsAre vs ns:=by
 intro ns
 induction ns with
 | nil =>
  intro vs w
  rw [List.map_nil] at w
  cases w
  exact .nil
 | cons n ns ih =>
  intro vs w
  rw [List.map_cons] at w
  cases w with
  | cons a b =>
   cases a
   exact .cons _ _ (ih _ b)
theorem zlb {l:OpenLaw} {n:Nat} (hn:l.most=some n) {P:Params} {h:Heap} {args:List WData} {vals:List Value}
  (hpre:l.row.toRowW.claim.pre args=true) (hwl:WellAll P h vals args) :
  ∃ a vs ns,vals=[Value.ref a]∧args=[WData.list (ns.map WData.int)]∧h.get? a=some { cls:=.type "list",data:=.seq vs.toArray }∧IntsAre vs ns∧ns.length≤n:=by
 have hsh:WShape.hasAll [] args [.list .int]=true:=(pre_splitW hpre).1
 have hc:l.pre.holds [] { args:=args }=true:=(pre_splitW hpre).2
 obtain ⟨d,r,rfl,h1,h2⟩:=hasAllW_cons hsh
 obtain rfl:=hasAllW_nil h2
 obtain ⟨xs,rfl,h3⟩:=hasW_list h1
 obtain ⟨ns,rfl⟩:=items_int h3
 have hlen:ns.length≤n:=by
  unfold OpenLaw.pre at hc
  have h4:(WTm.not (.lt (.lit (.int (n:Int))) (.len (.arg 0)))).holds [] { args:=[.list (ns.map .int)] }=true:=by
   have h4:=(holds_andW hc).1
   rw [hn] at h4
   exact h4
  have h5:=condW_of h4 (w_not (w_lt w_lit (w_len_list (w_arg rfl))))
  rw [List.length_map] at h5
  refine Nat.le_of_not_lt fun q=>?_
  have q':(n:Int)<((ns.length:Nat):Int):=by (first|lia|omega)
  first
   | (rw [decide_eq_true q'] at h5;exact absurd h5 (by decide))
   | (simp at h5;(first|lia|omega))
 cases hwl with
 | cons w1 w2 =>
  cases w2
  cases w1 with
  | list ho hall=>exact ⟨_,_,ns,rfl,rfl,ho,zfY ns _ hall,hlen⟩
theorem zl1 (l:OpenLaw) (args:List WData):l.row.toRowW.claim.post args (.bool true) args=true :=
 postW_of (r:=l.row.toRowW) (X:=(true == true))
  (show WShape.has [] (.bool true) .bool=true by first | rfl | decide | simp [WShape.has,WShape.arms,WShape.armsAll])
  (show (WTm.eq .res (.lit (.bool true))).value [] { args:=args,res:=some (.bool true),after:=args }=some (.bool (true == true)) from w_eq_bool (w_res rfl) w_lit) rfl
section
variable {prog:Program} {w:World} {A:Around} {E:Value→Shared→Prop} {s:Shared} {K:Frag}
end
end Att
namespace L2
open PySem PySem.Spec PyProof.Rows
theorem ziG:∀ {vs:List Value} {ns:List Int},IntsAre vs ns→zbj (ns.map V.int) vs
 | _,_,.nil=>.nil
 | _,_,.cons n t h=>.cons ⟨t,rfl⟩ (ziG h)
end L2
namespace L2
open PySem PySem.Spec PyProof.Rows
end L2
namespace L2
open PySem PySem.Spec PyProof.Rows
def zct (s:Stmt):Arguments:=match s with
 | .FunctionDef _ a _ _ _ _ _ _ _ _=>a
 | _=>{ posonlyargs:=[],args:=[],vararg:=none,kwonlyargs:=[],kw_defaults:=[],kwarg:=none,defaults:=[] }
def zbz (s:Stmt):List Stmt:=match s with
 | .FunctionDef _ _ b _ _ _ _ _ _ _=>b
 | _=>[]
def zap (s:Stmt):Scope:=match s with
 | .FunctionDef _ _ _ _ _ _ sc _ _ _=>sc
 | _=>{ kind:=.function,names:=[],isGenerator:=false,isCoroutine:=false }
abbrev CX0:CXT:=fun _ _ _ _ _ _=>False
abbrev E0:XK:=fun _ _ _=>False
theorem zbl {X:Cx}:zeP CX0 X E0:=fun _ _ _ _ _ _ _ h=>h.elim
structure Fun (K:PySem.W.Frag) (x qual:Str) (st:Stmt) (f:Addr) (fd:FuncData):Prop where
 ex:∃ (oc:Value) (od:Option Addr) (kV doc pm:Value) (an:Option Addr) (cdv ct:Value) (osl:Array (Option Value)),
  fd=PySem.W.fnOf x qual (zct st) (zbz st) (zap st) .none kV doc pm an cdv ct∧K.lookup f=some ⟨oc,od,.func fd,osl⟩∧PySem.W.codeIn K cdv qual=true
 kp:PySem.W.keepIn K (.ref f)=true
section
variable {P:Program} {w:World} {K:PySem.W.Frag} {mg:Str→Option Value} {base:Heap}
theorem Fun.ok {x qual:Str} {st:Stmt} {f:Addr} {fd:FuncData} {N ps:List Str} {k:Nat} {sp:Sp} (F:Fun K x qual st f fd) (S:zaN N ps (zap st)) (len:∀ vs H Q E,sp vs H Q E→vs.length=ps.length)
  (hbody:∀ (cdv:Value) (A:Around) (outer:List Env) (s:Shared) (H:Hp) (vs:List V) (Q:VK) (E:XK),zdR k (A.deeper (envOfC qual (zap st) s.heap.objs.size f cdv))→sp vs H Q E →
   ∃ t,PSs (ziK CX0 P w K mg base N qual (zap st) f cdv A outer s H E).nox (zbz st) t∧t { nx:=fun _ H'=>Q .non H',rt:=Q } (zbu N vs) H):zcJ P w K mg base CX0 (k+1) f fd ps sp:=by
 obtain ⟨oc,od,kV,doc,pm,an,cdv,ct,osl,rfl,lk,hcd⟩:=F.ex
 refine zmq lk hcd S len fun A outer s H vs Q E hr hsp=>?_
 obtain ⟨t,h,q⟩:=hbody cdv A outer s H vs Q E hr hsp
 exact ⟨t,h.nox,q⟩
theorem Fun.binds {x qual:Str} {st:Stmt} {f:Addr} {fd:FuncData} {ps:List Str} (F:Fun K x qual st f fd)
  (h:∀ (kV doc pm:Value) (an:Option Addr) (cdv ct:Value) (us:List Value),us.length=ps.length→bindArgs (PySem.W.fnOf x qual (zct st) (zbz st) (zap st) .none kV doc pm an cdv ct) ⟨us,[]⟩=pure (ps.zip us)):zbB K fd ps []:=by
 obtain ⟨oc,od,kV,doc,pm,an,cdv,ct,osl,rfl,lk,hcd⟩:=F.ex
 exact .all (h kV doc pm an cdv ct)
theorem zbE {x qual:Str} {st:Stmt} {f:Addr} {oc:Value} {od an:Option Addr} {osl:Array (Option Value)} {kV doc pm cdv ct:Value} (l:K.lookup f=some ⟨oc,od,.func (PySem.W.fnOf x qual (zct st) (zbz st) (zap st) .none kV doc pm an cdv ct),osl⟩)
  (c:PySem.W.codeIn K cdv qual=true) (k:PySem.W.keepIn K (.ref f)=true):Fun K x qual st f (PySem.W.fnOf x qual (zct st) (zbz st) (zap st) .none kV doc pm an cdv ct):=⟨⟨oc,od,kV,doc,pm,an,cdv,ct,osl,rfl,l,c⟩,k⟩
end
theorem zmF {A:Around} {k:Nat} (hr:zdR k A):A.units+1<cLine:=Nat.lt_of_le_of_lt (Nat.add_le_add_left (by decide:1≤64) _) hr.units
theorem zgo {n:Nat} (h:n≤1000):n<sizeLine:=Nat.lt_of_le_of_lt h (by decide)
section
variable {X:Cx}
theorem pv (i:Nat) {x:Str} {pos:Pos} (hN:X.N[i]?=some x:=by rfl) (hv:Vis X.env.scope x:=by first | exact Or.inl rfl | exact Or.inr (Or.inl rfl) | exact Or.inr (Or.inr rfl)) (hd:(x == ("__debug__":Str))=false:=by decide)
  (hcd:(x == ("__classdict__":Str))=false:=by decide):PE X (.Name x pos) (zac i):=znQ hN hv hd hcd
end
theorem znH {A B:Prop} (h:B):if false=true then A else B:=by
 rw [if_neg Bool.false_ne_true]
 exact h
theorem znR {A B:Prop} (h:A):if true=true then A else B:=by
 rw [if_pos rfl]
 exact h
theorem zdM {c A B:Prop} [Decidable c] (h1:c→A) (h2:¬ c→B):if c then A else B:=by
 by_cases h:c
 ·rw [if_pos h]
  exact h1 h
 ·rw [if_neg h]
  exact h2 h
def za1 (H H':Hp):Prop:=∀ b o,H b=some o→H' b=some o
theorem za1.refl (H:Hp):za1 H H:=fun _ _ h=>h
theorem za1.trans {H H1 H2:Hp} (a:za1 H H1) (b:za1 H1 H2):za1 H H2:=fun c o h=>b c o (a c o h)
theorem za1.free {H H':Hp} (e:za1 H H') {l:Addr} (h:H' l=Option.none):H l=Option.none:=by
 cases q:H l with
 | none=>rfl
 | some o =>
  rw [e l o q] at h
  cases h
theorem za1.seq {K:PySem.W.Frag} {H H':Hp} {a:Addr} {xs:List V} (e:za1 H H') (h:SqL K H a xs):SqL K H' a xs:=by
 rcases h with (h | ⟨o,h⟩) | h
 ·exact .inl (.inl (e _ _ h))
 ·exact .inl (.inr ⟨o,e _ _ h⟩)
 ·exact .inr h
end L2
namespace L2
open PySem PySem.Spec PyProof.Rows
section
variable {X:Cx}
theorem zbY:OpR X (binaryOp .FloorDiv) (rI (fun _ j=>0<j∧j.natAbs.log2<9000) fun i j=>.int (i / j)):=opI fun i j _ _ _ _ _ hc q=>by
 have h1:(0:Int)<j:=hc.1
 exact floordiv_int (by (first|lia|omega)) (by rw [Int.fdiv_eq_ediv_of_nonneg i (by (first|lia|omega))];exact q) (.inl (PyProof.noPylong_of_log2 hc.2))
theorem zhi:OpR X (binaryOp .Mult) (rI IntMulOk fun i j=>.int (i*j)):=opI fun _ _ _ _ _ _ _ hc q=>mul_int q hc
theorem mulR {i j:Int} (h1:-(2 ^ 64)<j) (h2:j<2 ^ 64):IntMulOk i j:=.of_right (intBits_le_64 h1 h2)
theorem mulL {i j:Int} (h1:-(2 ^ 64)<i) (h2:i<2 ^ 64):IntMulOk i j:=.of_left (intBits_le_64 h1 h2)
theorem zj0 {j:Int} (m:Nat) (h0:j≠0) (h:j.natAbs<2 ^ m) (hm:m≤9000:=by decide):j.natAbs.log2<9000 :=
 Nat.lt_of_lt_of_le ((Nat.log2_lt (by (first|lia|omega))).mpr h) hm
theorem zfN:bootBuiltins "int"=some (.type "int"):=by decide +kernel
theorem zet:bootBuiltins "bool"=some (.type "bool"):=by decide +kernel
theorem zdH:bootBuiltins "str"=some (.type "str"):=by decide +kernel
theorem zcH:bootBuiltins "list"=some (.type "list"):=by decide +kernel
theorem zf0:bootBuiltins "ValueError"=some (.type "ValueError"):=by decide +kernel
theorem zb4:bootBuiltins "tuple"=some (.type "tuple"):=by decide +kernel
theorem zfA (K:PySem.W.Frag):PySem.W.kitOne K (.type "int") (.type "bool")=some false:=by first | rfl | kernel_rfl
def zoH (a:Addr) (c:Value) (h:Heap):Prop:=∃ oe vs,h.get? a=some oe∧oe.cls=c∧oe.data=.fields vs
def excO (a:Addr) (c:Value):HO:=.ext (zoH a c)
structure zgS (K:PySem.W.Frag) (c:Value):Prop where
 kit:∀ a:Addr,PySem.W.KitX K (.ref a) c (zoH a c)
inductive TyX (K:PySem.W.Frag) (H:Hp):V→Value→Prop where
 | of {x:V} {t:Value} (h:zjZ K H x t):TyX K H x t
 | exc {a:Addr} {c:Value} (h:H a=some (excO a c)) (k:zgS K c):TyX K H (.ref a) c
def clsV:V→Option Value
 | .ty n=>some (.type n)
 | .ref c=>some (.ref c)
 | _=>none
def zcQ (K:PySem.W.Frag):List V→Hp→VK→Prop:=fun xs H Q=>∃ x c t cv b,xs=[x,c]∧clsV c=some cv∧TyX K H x t∧PySem.W.kitOne K t cv=some b∧Q (.bl b) H
def zjG (sp:Sp) (dvs:List V) (E:St→XK) (t:TA):TE:=fun σ H Q=>t σ H fun vs H1=>sp (vs++dvs) H1 Q (E σ)
theorem zec {K:PySem.W.Frag} {H:Hp} {Q:VK} {i:Int} (q:Q (.bl true) H):zcQ K [.int i,.ty "int"] H Q:=⟨_,_,_,_,true,rfl,rfl,.of (.int i),rfl,q⟩
theorem zfv {K:PySem.W.Frag} {H:Hp} {Q:VK} {i:Int} (q:Q (.bl false) H):zcQ K [.int i,.ty "bool"] H Q:=⟨_,_,_,_,false,rfl,rfl,.of (.int i),zfA K,q⟩
theorem zcp {K:PySem.W.Frag} {H:Hp} {Q:VK} {r:Addr} {xs:List V} (h:H r=some (.tup xs)) (q:Q (.bl true) H):zcQ K [.ref r,.ty "tuple"] H Q:=⟨_,_,_,_,true,rfl,rfl,.of (.tup h),rfl,q⟩
theorem zjV {c:V} {u cv:Value} (r:zbG c u) (h:clsV c=some cv):u=cv:=by
 cases c with
 | ty n=>cases r;exact Option.some.inj h
 | ref a=>cases r;exact Option.some.inj h
 | _=>cases h
theorem zaH:zdS X (.builtin "isinstance") (zcQ X.K):=by
 intro pins s σ H xs us Q I r h
 obtain ⟨x,c,t,cv,b,rfl,hc,ty,e,q⟩:=h
 obtain ⟨u,w',rfl,rx,rw'⟩:=zkN r
 obtain rfl:=zjV rw' hc
 cases ty with
 | of ty=>exact zlG I rx ty e fun tk=>⟨.bl b,H,I.tok tk,rfl,q⟩
 | @exc a c h k =>
  cases (show u=Value.ref a from rx)
  obtain ⟨p,_,_⟩:=(show zbi X.prog X.w H s.heap a (excO a t) from I.hok a _ h)
  exact PySem.W.kia_one (k.kit a) I.kIn p e (fun z=>nomatch z) fun tk=>⟨.bl b,H,I.tok tk,rfl,q⟩
def zp9 (K:PySem.W.Frag) (ta:TE):TT:=fun σ H Q=>ta σ H fun x H'=>∃ k,zpj K x H' k∧Q k H'
def zfK (t:TS):TS:=fun D σ H=>∃ R:St→Hp→Prop,t { D with nx:=R } σ H∧∀ σ' H',R σ' H'→D.nx σ' H'
theorem zb1 {st:Stmt} {t:TS} (h:PS X st t):PS X st (zfK t):=by
 intro pins s σ H D I hw
 obtain ⟨R,hw,hR⟩:=hw
 refine thn (h pins s σ H _ I hw) fun f s' q=>?_
 cases f with
 | next=>obtain ⟨σ',H',I',q⟩:=q;exact ⟨σ',H',I',hR _ _ q⟩
 | brk=>exact q
 | cont=>exact q
 | ret u=>exact q
end
theorem zaC {H:Hp} {p:Addr} (h:H p=none) (o:HO):za1 H (upd H p o):=fun b u q=>by rw [zaq (zaw q h)];exact q
theorem za1.add {H0 H:Hp} {p:Addr} {o:HO} (s:za1 H0 H) (h:H p=none):za1 H0 (upd H p o):=s.trans (zaC h o)
theorem za1.put {H0 H:Hp} {p:Addr} {o:HO} (s:za1 H0 H) (h:H0 p=none):za1 H0 (upd H p o):=fun b u q=>by rw [zaq (zaw q h)];exact s _ _ q
theorem znp {K:PySem.W.Frag} {i:Int} {H:Hp} {k:Bool}:zpj K (.int i) H k=(k=(i != 0)):=rfl
theorem zoM {K:PySem.W.Frag} {i:Bool} {H:Hp} {k:Bool}:zpj K (.bl i) H k=(k=i):=rfl
theorem znu (a b:Int):scal (.int a) (.int b)=true:=rfl
theorem zok (a b:Bool):scal (.bl a) (.bl b)=true:=rfl
theorem zjO {ns:List Int} {k:Int} (h0:0≤k) (h:k<(ns.length:Int)):∃ v:Int,atI (ns.map V.int) k=some (.int v)∧ns[k.toNat]?=some v:=by
 have hk:k.toNat<ns.length:=by (first|lia|omega)
 have ek:k=((k.toNat:Nat):Int):=by (first|lia|omega)
 have q:atI (ns.map V.int) ((k.toNat:Nat):Int)=some (.int ns[k.toNat]):=zca (by rw [List.getElem?_map,List.getElem?_eq_getElem hk] <;> rfl)
 rw [← ek] at q
 exact ⟨ns[k.toNat],q,List.getElem?_eq_getElem hk⟩
def zkI (J:It) (g:TG) (tb:TS):TS:=fun D σ H=>∃ W:Nat→Nat→St→Hp→Prop,(∃ m,W 0 m σ H)∧∀ i m σ H,W i m σ H →
 (J.stop i H∧D.nx σ H)∨(J.go i H∧∃ N:St→Hp→Prop,(∀ σ' H',N σ' H'→∃ m',m'<m∧W (i+1) m' σ' H')∧∀ x H',J.yld i H x H'→g x σ H' fun σ2 H2=>tb { D with nx:=N,ct:=N,bk:=D.nx } σ2 H2)
theorem zoa {wi:TI} {g:TG} {tb:TS} {D:zbV} {σ:St} {H:Hp}:zha wi g tb D σ H=wi σ H fun J H1=>zkI J g tb D σ H1:=rfl
theorem zcM {lo:Int} {n:Nat} {g:TG} {tb:TS} {D:zbV} {σ:St} {H:Hp} (Pv:Nat→St→Hp→Prop) (h0:Pv 0 σ H)
  (hs:∀ i σ H,i<n→Pv i σ H→g (.int (lo+i)) σ H fun σ2 H2=>tb { D with nx:=Pv (i+1),ct:=Pv (i+1),bk:=D.nx } σ2 H2) (hd:∀ σ H,Pv n σ H→D.nx σ H):zkI (Itr lo n) g tb D σ H:=zma Pv h0 hs hd
theorem ziv {K:PySem.W.Frag} {a:Addr} {xs:List V} {g:TG} {tb:TS} {D:zbV} {σ:St} {H:Hp} (Pv:Nat→St→Hp→Prop) (h0:Pv 0 σ H) (hl:∀ i σ H,i≤xs.length→Pv i σ H→SqL K H a xs)
  (hs:∀ i x σ H,xs[i]?=some x→Pv i σ H→g x σ H fun σ2 H2=>tb { D with nx:=Pv (i+1),ct:=Pv (i+1),bk:=D.nx } σ2 H2) (hd:∀ σ H,Pv xs.length σ H→D.nx σ H):zkI (Itl K a) g tb D σ H:=zmH Pv h0 hl hs hd
end L2
namespace L2
open PySem PySem.Spec PyProof.Rows
section
variable {P:Program} {w:World}
structure zn3 (P:Program) (w:World) (outer:List Env) (H:Hp) (s:Shared) (E:XK) (ea:Addr) (s':Shared) (B:Heap) (cls a0:Value) (H':Hp):Prop where
 os:s'.os=s.os
 bare:AllBare s'.gens
 un:Un (frs outer) [] H H' s.heap s'.heap
 hokB:HOk P w H' B
 fly:Heap.FlyingW B outer ea cls a0 s'.heap
 cov:∀ b o,s.heap.get? b=some o→H b=none→b∉frs outer→B.get? b=some o
 covT:∀ b o,s.heap.get? b=some o→b∉frs outer→∃ o',B.get? b=some o'
 new:s.heap.get? ea=none
 free:H' ea=none
 want:E cls none H'
theorem zn3.later {outer:List Env} {H H':Hp} {s s':Shared} {E:XK} {ea:Addr} {B h:Heap} {cls a0:Value} (x:zn3 P w outer H s E ea s' B cls a0 H') (st:B.StaysIn h) (sm:s'.heap.UpToSlots h)
  (ff:s'.heap.FunFrames B outer):Un (frs outer) [] H H' s.heap h∧HOk P w H' h:=by
 have slot:∀ b o,s'.heap.get? b=some o→b∈frs outer→∃ sl,h.get? b=some { o with slots:=sl }:=fun b o e hb=>by
  obtain ⟨_,o',e',nf⟩:=ff.mem hb
  rw [e] at e'
  cases e'
  exact sm b o e nf
 refine ⟨⟨fun b o e n hb _=>st b o (x.cov b o e n hb),fun b o e n hb hx=>?_,x.un.free,fun b o e hx=>?_,x.un.tups,x.un.frzs,x.un.tbls⟩,x.hokB.kept st⟩
 ·obtain ⟨sl,e1⟩:=x.un.slot b o e n hb hx
  obtain ⟨sl',e2⟩:=slot b _ e1 hb
  exact ⟨sl',e2⟩
 ·by_cases hb:b∈frs outer
  ·obtain ⟨o1,e1⟩:=x.un.there b o e hx
   obtain ⟨sl,e2⟩:=slot b o1 e1 hb
   exact ⟨_,e2⟩
  ·obtain ⟨o',e'⟩:=x.covT b o e hb
   exact ⟨o',st b o' e'⟩
end
section
variable {P:Program} {w:World} {K:PySem.W.Frag} {mg:Str→Option Value} {base:Heap} {N:List Str} {qual:Str} {scope:Scope} {f:Addr} {cd:Value} {A:Around} {outer:List Env} {s₀:Shared} {H₀:Hp} {E:XK}
end
section
variable {P:Program} {w:World} {K:PySem.W.Frag} {mg:Str→Option Value} {base:Heap} {N:List Str} {qual:Str} {scope:Scope} {f:Addr} {cd:Value} {A:Around} {outer:List Env} {s₀:Shared} {H₀:Hp} {E:XK}
end
abbrev zgx:List Value:=[.type "ValueError",.type "Exception",.type "BaseException",.type "object"]
section
variable {X:Cx} {CX:CXT} {k:Nat} {f:Addr} {fd:FuncData} {ps:List Str} {sp:Sp} {dvs:List V} {ds:List Value} {E:St→XK} {x:Str} {p pos:Pos} {e:Expr} {es:List Expr} {t:TA}
def zi9 (CX:CXT) (X:Cx) (E:St→XK):Prop:=∀ (pins:List (Addr×Obj)) (σ:St) (H:Hp) (s:Shared) (e:Value) (s':Shared),Inv X pins σ H s→CX X.stack H s (E σ) e s'→X.xe e s'
theorem zjY (F:zcJ X.prog X.w X.K X.mg X.base CX k f fd ps sp) (hr:zdR k X.A) (hg:Gl X x) (hm:X.mg x=some (.ref f)) (hk:PySem.W.keepIn X.K (.ref f)=true) (hb:zbB X.K fd ps ds) (hd:zbj dvs ds) (hx:zi9 CX X E)
  (ha:PA X (e::es) t) (hdb:(x == ("__debug__":Str))=false:=by decide) (he:starEach (e::es) X.env=(false,eval e X.env)::starEach es X.env:=by rfl) (hpl:(backTo pos (starEach es X.env)).any (·.1)=false:=by rfl) :
  PE X (.Call (.Name x p) (e::es) [] pos) (zjG sp dvs E t):=by
 intro pins s σ H Q I h
 refine wpAny_Call_Name_kw (zcW I hg hm ?_ hdb)
 refine PySem.W.callWith_K (h₀:=X.base) I.ok.mod.kin hk (thn (ha pos pins s σ H _ I h) fun us s1 ⟨vs,H1,I1,r,q⟩=>⟨I1.kIn,?_⟩) he hpl
 have r2:zbj (vs++dvs) (us++ds):=r.append hd
 have hl:(us++ds).length=ps.length:=by rw [← r2.length];exact F.len _ _ _ _ q
 refine wpAny_call (codeAny_mono (F.run X.A X.stack s1 H1 ⟨us,[]⟩ (us++ds) (vs++dvs) Q (E σ) hr I1.env0 (hb s1 us I1.kIn hl) r2 q) fun res s' hq=>?_)
 cases res with
 | error e=>exact hx pins σ H1 s1 e s' I1 hq
 | ok fl =>
  cases fl with
  | ret u=>exact I1.after hq
  | next=>exact False.elim hq
  | brk=>exact False.elim hq
  | cont=>exact False.elim hq
end
theorem Cx.Ok.pinned {X:Cx} (ok:X.Ok) (pn:List (Addr×Obj)) (xe:Value→Shared→Prop):Cx.Ok { X with pn:=pn,xe:=xe } :=
 ⟨ok.mod,ok.kind,ok.glob,ok.blt,ok.above,ok.inj,ok.has,ok.cab,ok.hd,ok.frames,ok.stk,ok.exf,ok.bs,ok.bsz,ok.noex,ok.exfs,ok.funs,ok.frf⟩
theorem Inv.ofTry {X:Cx} {pins pins':List (Addr×Obj)} {xe:Value→Shared→Prop} {σ:St} {H:Hp} {s:Shared} (I:Inv { X with pn:=X.pn++pins,xe:=xe } pins' σ H s) (ok:X.Ok):Inv X pins σ H s :=
 ⟨ok,I.os,I.bare,I.base,I.loc,I.cell,I.free,I.freeC,fun p hp=>I.pin p (List.mem_append_left _ hp),I.hok,I.len⟩
theorem Inv.track {X:Cx} {pins:List (Addr×Obj)} {σ:St} {H:Hp} {s:Shared} {a:Addr} {o:HO} (I:Inv X pins σ H s) (hn:H a=none) (h0:X.s₀.heap.get? a=none) (hL:a≠X.env.locals) (hc:∀ x c,X.env.cells.lookup x=some c→c≠a)
  (hp:∀ p∈X.pn++pins,p.1≠a) (new:zbi X.prog X.w (upd H a o) s.heap a o):Inv X pins σ (upd H a o) s:=by
 refine ⟨I.ok,I.os,I.bare,⟨I.base.keep,I.base.slot,fun b u q n hx=>?_,I.base.there,fun b xs q=>?_,fun b u xs q=>?_,fun b ps q=>?_⟩,I.loc,I.cell,?_,fun x c e=>?_,fun p q=>?_,fun b u e=>?_,I.len⟩
 ·have nb:b≠a:=fun z=>by rw [z,h0] at q;cases q
  rw [zaq nb]
  exact I.base.free b u q n hx
 ·have q2:=I.base.tups b xs q
  rw [zaq (zaw q2 hn)]
  exact q2
 ·have q2:=I.base.frzs b u xs q
  rw [zaq (zaw q2 hn)]
  exact q2
 ·obtain ⟨m,q2⟩:=I.base.tbls b ps q
  exact ⟨m,by rw [zaq (zaw q2 hn)];exact q2⟩
 ·rw [zaq hL.symm]
  exact I.free
 ·rw [zaq (hc x c e)]
  exact I.freeC x c e
 ·obtain ⟨e,n,r⟩:=I.pin p q
  exact ⟨e,by rw [zaq (hp p q)];exact n,r⟩
 ·by_cases hb:b=a
  ·subst hb
   rw [zad] at e
   cases e
   exact new
  ·rw [zaq hb] at e
   exact (I.hok b u e).stay (fun c v _ q=>q) (fun c q=>by rw [zaq (zaw q hn)];exact q) fun c xs q=>by rw [zaq (zaw q hn)];exact q
theorem zgV {X:Cx} {pins:List (Addr×Obj)} {σ:St} {H:Hp} {s:Shared} {M:Model} {A:Around} {E:Value→Shared→Prop} {i:Nat} {n:Str} {pos:Pos} {Q:Unit→Shared→Prop} (I:Inv X pins σ H s) (hN:X.N.Nodup) (hi:X.N[i]?=some n)
  (hk:X.env.scope.names.lookup n=some .local) (h:∀ s',Inv X pins (σ.set i none) H s'→Q () s'):wpAny M A (do bindName X.env n .none;unbindBehindTheSuite X.env n pos) Q E s:=by
 obtain ⟨m,hn,hl⟩:=id I.loc
 have hcls:(X.env.scope.kind == .class || (X.env.scope.kind == .module&&X.env.locals != X.env.globals))=false:=by rw [I.ok.kind];rfl
 have hiσ:i<σ.length:=by rw [I.len];exact (List.getElem?_eq_some_iff.mp hi).1
 obtain ⟨oL,_,_,hoL,_⟩:=id hn
 refine wpAny_nameGoes_keeps hk hn hcls fun h' v hn' hs=>?_
 have below:∀ b o,X.s₀.heap.get? b=some o→b≠X.env.locals:=fun b o e=>Nat.ne_of_lt (Nat.lt_of_lt_of_le (Heap.lt_size e) I.ok.above)
 refine h _ ⟨I.ok,I.os,I.bare,⟨fun b o e n hb hx=>?_,fun b o e n hb hx=>?_,I.base.free,fun b o e hx=>?_,I.base.tups,I.base.frzs,I.base.tbls⟩,⟨_,hn',fun j y v' e1 e2 e3=>?_⟩,fun y c e=>?_,I.free,I.freeC,fun p hp=>?_,fun b ob e=>?_,by simpa using I.len⟩
 ·exact (hs.2 b (below b o e)).trans (I.base.keep b o e n hb hx)
 ·obtain ⟨sl,e1⟩:=I.base.slot b o e n hb hx
  exact ⟨sl,(hs.2 b (below b o e)).trans e1⟩
 ·obtain ⟨o',e1⟩:=I.base.there b o e hx
  exact ⟨o',(hs.2 b (below b o e)).trans e1⟩
 ·have hj:j≠i:=fun z=>by
   rw [z,List.getElem?_set_self hiσ] at e2
   cases e2
  rw [List.getElem?_set_ne (Ne.symm hj)] at e2
  obtain ⟨u',r',q⟩:=hl j y v' e1 e2 e3
  refine ⟨u',r',?_⟩
  rcases q with ⟨k,e⟩ | ⟨k,c,e,z⟩
  ·refine .inl ⟨k,?_⟩
   have:y≠n:=fun e=>hj (zhr hN e1 (e ▸ hi))
   simp [this,e]
  ·exact .inr ⟨k,c,e,z.sameBut hs (I.cne y c e)⟩
 ·obtain ⟨w',z⟩:=I.cell y c e
  exact ⟨w',z.sameBut hs (I.cne y c e)⟩
 ·obtain ⟨e,n,ne,nf,d⟩:=I.pin p hp
  exact ⟨(hs.2 p.1 ne).trans e,n,ne,nf,d⟩
 ·refine (I.hok b ob e).stay (fun c w' hc q=>(hs.2 c ?_).trans q) (fun _ q=>q) fun _ _ q=>q
  rintro rfl
  rcases hc with rfl | hc
  ·rw [I.free] at e;cases e
  ·rw [I.free] at hc;cases hc
def Cx.inExc (X:Cx) (ea:Addr):Cx:={ X with A:=X.A.mark (some (.ref ea)),calm:=false }
theorem Inv.toExc {X:Cx} {pins:List (Addr×Obj)} {σ:St} {H:Hp} {s:Shared} {ea:Addr} (I:Inv X pins σ H s) (hf:(X.A.mark (some (.ref ea))).frames=some X.stack):Inv (X.inExc ea) pins σ H s :=
 ⟨⟨I.ok.mod,I.ok.kind,I.ok.glob,I.ok.blt,I.ok.above,I.ok.inj,I.ok.has,I.ok.cab,(by intro z;cases z),hf,I.ok.stk,I.ok.exf,I.ok.bs,I.ok.bsz,I.ok.noex,I.ok.exfs,I.ok.funs,I.ok.frf⟩,I.os,I.bare,I.base,I.loc,I.cell,I.free,I.freeC,I.pin,I.hok,I.len⟩
theorem Inv.ofExc {X:Cx} {pins:List (Addr×Obj)} {σ:St} {H:Hp} {s:Shared} {ea:Addr} (I:Inv (X.inExc ea) pins σ H s) (ok:X.Ok):Inv X pins σ H s :=
 ⟨ok,I.os,I.bare,I.base,I.loc,I.cell,I.free,I.freeC,I.pin,I.hok,I.len⟩
structure zce (K:PySem.W.Frag) (C:Addr):Prop where
 ga:PySem.W.findIn K (.ref C) "__getattribute__"=some (some (.builtin "BaseException.__getattribute__"))
 gn:PySem.W.findIn K (.ref C) "__getattr__"=some none
 cl:PySem.W.findIn K (.ref C) "__class__"=some (some (.builtin "object.__class__"))
 mb:PySem.W.mroIn K C (.type "BaseException")=some true
 mo:PySem.W.mroIn K C (.type "object")=some true
section
open Builtin Builtin.ObjectAttr Builtin.Getset_descriptor PySem.W
variable {K:PySem.W.Frag} {prog:Program} {w:World} {A:Around} {E:Value→Shared→Prop} {h:Heap} {g:Array GenState} {d:Drawn} {t:Nat} {os:OsState} {a C:Addr} {o:Obj}
theorem zkH:splitId "BaseException.__getattribute__"=some ("BaseException","__getattribute__"):=by decide +kernel
theorem zkK:builtinKind "BaseException.__getattribute__"=some .slot:=by decide +kernel
theorem zks {R:Result→Shared→Prop} (X:K.In h) (Z:zce K C) (hx:h.get? a=some o) (hc:o.cls=.ref C) (hq:R (.ok (.ret (.ref C))) ⟨h,g,d,t,os⟩) :
  codeAny (model prog w) A (.call (.builtin "getset_descriptor.__get__") ⟨[.builtin "object.__class__",.ref a,.ref C],[]⟩) R ⟨h,g,d,t,os⟩:=by
 have LT:PySem.W.Looks (model prog w) h (typeOf (.ref a)) (.ref C):=hc ▸ (PySem.W.Looks.ld hx).andThen .now
 have LM:=PySem.W.looks_mroIn (M:=model prog w) X Z.mo
 refine codeAny_call_builtin PySem.W.KF.slot_gs.plain PySem.W.KF.entry_gs (PySem.W.KF.slot_gs.check _ _ _ _ _ _ _ _ PySem.W.KF.type_class (PySem.W.KF.args_gs _ _ _) ?_)
 unfold Builtin.«getset_descriptor.__get__»
 unfold descrGet
 rw [PySem.W.dga_obj]
 refine wpAny_bind (wpAny_pure ?_)
 unfold descrGetter descrCheckInstance
 unfold descrNameAndClass isInstance
 simp only [PySem.W.KF.owner_class]
 repeat lk
 refine ⟨Code.quiet_builtin _ (by decide +kernel),codeAny_builtin PySem.W.KF.entry_class ?_⟩
 unfold Builtin.«object.__class__»
 unfold shownTypeOf
 repeat lk
 exact hq
theorem zh7 {tk:Tok} {Q:Fin→Shared→Prop} (X:K.In h) (Z:zce K C) (hx:h.get? a=some o) (hc:o.cls=.ref C) (hq:Q (.done (.ret (.ref C))) ⟨h,g,d,t,os⟩) :
  wpAny (model prog w) A (Builtin.«object.__getattribute__» ⟨[.ref a,.str "__class__" tk],[]⟩) Q E ⟨h,g,d,t,os⟩:=by
 have LC:=PySem.W.looks_findIn (M:=model prog w) X Z.cl
 have h5:(⟨h,g,d,t,os⟩:Shared).TypeIs (.builtin "object.__class__") "getset_descriptor":=F.typeOf_object_class
 have f5:=F.typeOf_object_class
 have f6:=F.slot_gs_get.lookup
 have f7:=F.slot_gs_set.lookup
 repeat (any_goals (first | assumption | (with_reducible refine wpAny_loadPart_at hx ?_;rw [hc]) | with_reducible refine LC.at ?_ | wp_step))
 refine zks X Z hx hc ?_
 repeat (any_goals (first | assumption | wp_step))
theorem zfr {M:Model} {v:Value} {Q:Unit→Shared→Prop} (X:K.In h) (Z:zce K C) (hx:h.get? a=some o) (hc:o.cls=.ref C) (hq:Q () ⟨h,g,d,t,os⟩) :
  wpAny M A (checkBuiltinCall "BaseException.__getattribute__" ⟨[.ref a,v],[]⟩) Q E ⟨h,g,d,t,os⟩:=by
 have LM:=PySem.W.looks_mroIn (M:=M) X Z.mb
 have LT:PySem.W.Looks M h (typeOf (.ref a)) (.ref C):=hc ▸ (PySem.W.Looks.ld hx).andThen .now
 have ao:=F.args_bexc_ga (.ref a) v
 simp only [checkBuiltinCall,zkK,zkH]
 refine wpAny_bind ?_
 unfold isInstance
 refine wpAny_bind (LT.at (LM.at ?_))
 repeat (any_goals (first | assumption | wp_step))
theorem zlc {tk:Tok} {Q:Value→Shared→Prop} (X:K.In h) (Z:zce K C) (FB:ExcAttrBase "ValueError" zgx) (hx:h.get? a=some o) (hc:o.cls=.ref C) (hq:Q (.ref C) ⟨h,g,d,t,os⟩) :
  wpAny (model prog w) A (getAttrBy (.ref a) (.str "__class__" tk) false) Q E ⟨h,g,d,t,os⟩:=by
 have LG:=PySem.W.looks_findIn (M:=model prog w) X Z.ga
 have LN:=PySem.W.looks_findIn (M:=model prog w) X Z.gn
 have f3:=FB.ga.bind (.ref a)
 have n2:(Value.builtin "BaseException.__getattribute__" == Value.builtin "object.__getattribute__")=false:=by decide +kernel
 have n1:(onTheHeap (Value.ref C)&&(Value.builtin "BaseException.__getattribute__" == Value.builtin "object.__getattribute__"))=false:=by rw [n2];rfl
 repeat (any_goals (first | assumption | (with_reducible refine wpAny_loadPart_at hx ?_;rw [hc]) | with_reducible refine LG.at ?_ | with_reducible refine LN.at ?_ | wp_step))
 refine codeAny_call_builtin FB.ga.plain F.entry_bexc_ga (zfr X Z hx hc (zh7 X Z hx hc ?_))
 repeat (any_goals (first | assumption | wp_step))
theorem zjf {Q:Option Value→Shared→Prop} (X:K.In h) (Z:zce K C) (FB:ExcAttrBase "ValueError" zgx) (hx:h.get? a=some o) (hc:o.cls=.ref C) (hq:Q (some (.ref C)) ⟨h,g,d,t+1,os⟩) :
  wpAny (model prog w) A (getAttr? (.ref a) "__class__") Q E ⟨h,g,d,t,os⟩:=by
 unfold getAttr? getAttrBy?
 repeat (any_goals (first | assumption | with_reducible apply zlc X Z FB hx hc | wp_step))
end
end L2
namespace L2
open PySem PySem.Spec PyProof.Rows
theorem zlz {env:Env} {x:Str} {c:Addr} (h:env.cells.lookup x=some c):cellOf env x=pure c:=by
 unfold cellOf
 rw [h]
theorem ze7 {env:Env}:∀ (l:List (Str×NameKind)) (cs:List (Str×Addr)),(∀ y∈l,y.2=.free→∃ c,env.cells.lookup y.1=some c)→(∀ x c,cs.lookup x=some c→env.cells.lookup x=some c) →
  ∃ cl,(forIn l cs fun (y:Str×NameKind) r=>(if (y.2 == .free)=true then do let c ← cellOf env y.1;pure (ForInStep.yield ((y.1,c)::r)) else pure (ForInStep.yield r):Sem (ForInStep (List (Str×Addr)))))=pure cl ∧
   (∀ x c,cl.lookup x=some c→env.cells.lookup x=some c)∧(∀ y∈l,y.2=.free→∃ c,cl.lookup y.1=some c)∧∀ x,(∃ c,cs.lookup x=some c)→∃ c,cl.lookup x=some c
 | [],cs,_,hc=>⟨cs,by simp,hc,by simp,fun _ h=>h⟩
 | y::l,cs,hf,hc=>by
  have hf':∀ z∈l,z.2=.free→∃ c,env.cells.lookup z.1=some c:=fun z hz=>hf z (List.mem_cons_of_mem _ hz)
  by_cases hy:y.2=.free
  ·obtain ⟨c,e⟩:=hf y List.mem_cons_self hy
   have hc':∀ x d,List.lookup x ((y.1,c)::cs)=some d→env.cells.lookup x=some d:=fun x d q=>by
    rw [List.lookup_cons] at q
    split at q
    ·rename_i b
     cases q
     rw [beq_iff_eq.mp b,e]
    ·exact hc x d q
   obtain ⟨cl,e1,e2,e3,e4⟩:=ze7 l ((y.1,c)::cs) hf' hc'
   refine ⟨cl,?_,e2,fun z hz q=>?_,fun x ⟨d,q⟩=>e4 x ?_⟩
   ·rw [List.forIn_cons,if_pos (by rw [hy];rfl),zlz e]
    simpa using e1
   ·rcases List.mem_cons.mp hz with r | r
    ·exact e4 z.1 ⟨c,by rw [r,List.lookup_cons];simp⟩
    ·exact e3 z r q
   ·rw [List.lookup_cons]
    split
    ·exact ⟨_,rfl⟩
    ·exact ⟨d,q⟩
  ·obtain ⟨cl,e1,e2,e3,e4⟩:=ze7 l cs hf' hc
   refine ⟨cl,?_,e2,fun z hz q=>?_,e4⟩
   ·rw [List.forIn_cons,if_neg (by simpa using hy)]
    simpa using e1
   ·rcases List.mem_cons.mp hz with r | r
    ·rw [r] at q;exact absurd q hy
    ·exact e3 z r q
theorem zkf {scope:Scope} {env:Env} (h:∀ y∈scope.names,y.2=.free→∃ c,env.cells.lookup y.1=some c) :
  ∃ cl,closureFor scope env=pure cl∧(∀ x c,cl.lookup x=some c→env.cells.lookup x=some c)∧∀ y∈scope.names,y.2=.free→∃ c,cl.lookup y.1=some c:=by
 obtain ⟨cl,e1,e2,e3,_⟩:=ze7 scope.names [] h (by simp)
 refine ⟨cl,?_,e2,e3⟩
 unfold closureFor
 simp only [bind_pure]
 exact e1
theorem zhF {P:Program} {w:World} {A:Around} {R:Result→Shared→Prop} {s:Shared} {elt target iter:Expr} {ifs:List Expr} {scope:Scope} {pos:Pos} {it acc:Value} {env:Env} {Z:Value→Shared→Prop} (J:Nat→Shared→Prop)
  (hZ:Z=notedBy (model P w) A env fun e s'=>R (.error e) s')
  (turn:∀ n s,J n s→wpAny (model P w) A (pyNext it) (fun r s1=>match r with
   | none=>R (.ok .next) s1
   | some v=>wpAny (model P w) A (letOwnedTupleGo target it v) (fun _ s2=>wpAny (model P w) A (assign target env v) (fun _ s3 =>
     wpAny (model P w) A (forIn ifs true fun c r=>if r=true then do let ok ← isTrue c env (eval c env);pure (ForInStep.yield ok) else pure (ForInStep.yield r)) (fun ok s4 =>
      if ok=true then wpAny (model P w) A (eval elt env) (fun x s5=>wpAny (model P w) A (call (.builtin "list.append") [acc,x]) (fun _ s6=>∃ m,m<n∧J m s6) Z s5) Z s4
      else ∃ m,m<n∧J m s4) Z s3) Z s2) Z s1) Z s)
  (n:Nat) (h:J n s):codeAny (model P w) A (.compLoop (.ListComp elt [⟨target,iter,ifs,0⟩] scope pos) 0 it acc env) R s:=by
 subst hZ
 refine codeAny_loop rfl J (fun n s hJ=>?_) n h
 show wpAny _ _ (Sem.onRaise (compTurn (.ListComp elt [⟨target,iter,ifs,0⟩] scope pos) 0 it acc env) fun x=>do noteFrame x env;theTreesLotGoes x) _ _ s
 refine wpAny_noted ?_
 rw [compTurn_list]
 refine wpAny_bind (wpAny_standAt (wpAny_bind (thn (turn n s hJ) fun r s1 h1=>?_)))
 cases r with
 | none=>exact wpAny_pure h1
 | some v =>
  refine wpAny_bind (thn h1 fun _ s2 h2=>wpAny_bind (thn h2 fun _ s3 h3=>wpAny_bind (thn h3 fun ok s4 h4=>?_)))
  cases ok with
  | false=>exact wpAny_pure ⟨rfl,h4⟩
  | true=>exact wpAny_bind (wpAny_bind (thn h4 fun x s5 h5=>wpAny_bind (thn h5 fun _ s6 h6=>wpAny_pure (wpAny_pure ⟨rfl,h6⟩))))
def PTs (X:Cx) (ifs:List Expr) (t:TT):Prop:=∀ (pins:List (Addr×Obj)) (s:Shared) (σ:St) (H:Hp) (Q:Bool→Hp→Prop),Inv X pins σ H s→t σ H Q →
 wpAny (model X.prog X.w) X.A (forIn ifs true fun c r=>if r=true then do let ok ← isTrue c X.env (eval c X.env);pure (ForInStep.yield ok) else pure (ForInStep.yield r)) (TP X pins σ Q) X.xe s
def zcf:TT:=fun _ H Q=>Q true H
theorem zgr {X:Cx}:PTs X [] zcf:=fun _ _ _ H _ I h=>wpAny_tests_nil ⟨H,I,h⟩
def zpk (cap:List (Option Nat)) (σ:St):St:=cap.map fun o=>o.bind fun j=>(σ[j]?).join
def zgt (wi:TI) (g:TG) (tt:TT) (te:TE) (cap:List (Option Nat)):TE:=fun σ H Q=>wi σ H fun J H1=>∀ D,H1 D=none→∃ W:Nat→Nat→St→Hp→Prop,(∃ m,W 0 m (zpk cap σ) (upd H1 D (.lst [])))∧∀ i m σc Hc,W i m σc Hc →
 (J.stop i Hc∧Q (.ref D) Hc)∨(J.go i Hc∧∃ N:St→Hp→Prop,(∀ σ' H',N σ' H'→∃ m',m'<m∧W (i+1) m' σ' H')∧∀ x H',J.yld i Hc x H'→g x σc H' fun σ2 H2=>tt σ2 H2 fun b H3=>if b=true then te σ2 H3 fun y H4=>zbP (.ref D) [y] H4 fun _ H5=>N σ2 H5 else N σ2 H3)
def Cx.blk (X:Cx) (Nc:List Str) (scope:Scope) (cl:List (Str×Addr)) (s:Shared) (H:Hp) (fp:List Addr):Cx:={ X with
 N:=Nc,s₀:=s,H₀:=H,env:=compEnvC scope cl s.heap.objs.size X.env,outer:=X.stack,stack:=X.stack,ex:=fp,fn:=fun _=>false,pn:=[],xe:=fun _ _=>False }
structure zkB (sc:Scope) (N Nc:List Str) (cap:List (Option Nat)) (scope:Scope):Prop where
 kind:scope.kind=.function
 nocell:∀ y∈scope.names,y.2≠.cell
 free:∀ y∈scope.names,y.2=.free→sc.names.lookup y.1=some .cell∨sc.names.lookup y.1=some .free
 once:∀ y∈scope.names,scope.names.lookup y.1=some y.2
 nd:Nc.Nodup
 len:cap.length=Nc.length
 cap:∀ (i:Nat) (y:Str) (j:Nat),Nc[i]?=some y→cap[i]?=some (some j)→N[j]?=some y∧scope.names.lookup y=some .free
def znG (sc:Scope) (N Nc:List Str) (cap:List (Option Nat)) (scope:Scope):Bool :=
 scope.kind == .function&&scope.names.all (fun y=>y.2 != .cell&&scope.names.lookup y.1 == some y.2&&(y.2 != .free || sc.names.lookup y.1 == some .cell || sc.names.lookup y.1 == some .free))&&decide Nc.Nodup&&cap.length == Nc.length
  && (Nc.zip cap).all fun p=>p.2.all fun j=>N[j]? == some p.1&&scope.names.lookup p.1 == some .free
theorem zkB.of {sc:Scope} {N Nc:List Str} {cap:List (Option Nat)} {scope:Scope} (h:znG sc N Nc cap scope=true):zkB sc N Nc cap scope:=by
 unfold znG at h
 simp only [Bool.and_eq_true,beq_iff_eq,List.all_eq_true,bne_iff_ne,ne_eq,Bool.or_eq_true,decide_eq_true_eq] at h
 obtain ⟨⟨⟨⟨h1,h2⟩,h3⟩,h4⟩,h5⟩:=h
 refine ⟨h1,fun y hy=>(h2 y hy).1.1,fun y hy hf=>?_,fun y hy=>(h2 y hy).1.2,h3,h4,fun i y j e1 e2=>?_⟩
 ·rcases (h2 y hy).2 with (q | q) | q
  ·exact absurd hf q
  ·exact .inl q
  ·exact .inr q
 ·have m:(y,some j)∈Nc.zip cap:=by
   refine List.mem_of_getElem? (i:=i) ?_
   rw [List.getElem?_zip_eq_some]
   exact ⟨e1,e2⟩
  have z:=h5 _ m
  simpa using z
theorem zcG {env:Env} {x:Str}:∀ {names:List (Str×NameKind)} {k:NameKind},((names.map fun (n,k)=>if (k == NameKind.free&&env.scope.kind == .function&&env.kindOf n == some .cell) then (n,NameKind.cell) else (n,k)).lookup x=some k)→k≠.cell∧names.lookup x=some k∨(k=.cell∧(names.lookup x=some .cell∨names.lookup x=some .free))
 | [],_,h=>by simp at h
 | (n,q)::r,k,h=>by
  have ih:=@zcG env x r k
  rw [List.map_cons] at h
  dsimp only at h
  by_cases hx:(x == n)=true
  ·by_cases hc:(q == NameKind.free&&env.scope.kind == .function&&env.kindOf n == some .cell)=true
   ·rw [if_pos hc,List.lookup_cons,hx] at h
    cases h
    rw [Bool.and_eq_true,Bool.and_eq_true] at hc
    refine .inr ⟨rfl,.inr ?_⟩
    rw [List.lookup_cons,hx]
    exact congrArg some (beq_iff_eq.mp hc.1.1)
   ·rw [if_neg hc,List.lookup_cons,hx] at h
    cases h
    rw [List.lookup_cons,hx]
    by_cases z:q=.cell
    ·exact .inr ⟨z,.inl (congrArg some z)⟩
    ·exact .inl ⟨z,rfl⟩
  ·have hx':(x == n)=false:=by simpa using hx
   rw [List.lookup_cons,hx']
   refine ih ?_
   by_cases hc:(q == NameKind.free&&env.scope.kind == .function&&env.kindOf n == some .cell)=true
   ·rw [if_pos hc,List.lookup_cons,hx'] at h
    exact h
   ·rw [if_neg hc,List.lookup_cons,hx'] at h
    exact h
section
variable {X:Cx} {pins:List (Addr×Obj)} {σ:St} {H:Hp} {s:Shared}
theorem zow {Nc:List Str} {cap:List (Option Nat)} {scope:Scope} {cl:List (Str×Addr)} {fp:List Addr} {h1:Heap} {tk:Nat} {m1:Str→Option Value} (I:Inv X pins σ H s) (B:zkB X.env.scope X.N Nc cap scope)
  (hsub:∀ x c,cl.lookup x=some c→X.env.cells.lookup x=some c) (hfr:∀ y∈scope.names,y.2=.free→∃ c,cl.lookup y.1=some c) (hf:∀ b∈fp,zjt X pins H b) (hin:∀ b∈fp,b<s.heap.objs.size)
  (hk:∀ b o,s.heap.get? b=some o→h1.get? b=some o) (hn:h1.Ns s.heap.objs.size m1):Inv (X.blk Nc scope cl s H fp) [] (zpk cap σ) H { s with heap:=h1,toks:=tk }:=by
 have ok:=I.ok
 have bsz:X.base.objs.size≤s.heap.objs.size:=Nat.le_trans ok.bsz I.sz
 refine ⟨⟨ok.mod,B.kind,ok.glob,ok.blt,Nat.le_refl _,fun x y c h1 h2=>ok.inj x y c (hsub x c h1) (hsub y c h2),fun x hx=>?_,(by intro x c z;cases z),ok.hd,ok.frames,.inl rfl,fun b hb=>⟨Nat.ne_of_lt (hin b hb),fun x c e=>(hf b hb).2.2.2.2.1 x c (hsub x c e)⟩,
  I.bs,bsz,fun b o e hb=>?_,fun b hb z=>?_,I.stack,I.stkFree⟩,rfl,I.bare,Un.kept hk,⟨m1,hn,fun i y v e1 e2 e3=>?_⟩,fun x c e=>?_,I.hok.fresh (Nat.le_refl _),fun x c e=>I.freeC x c (hsub x c e),(by intro p hp;cases hp),I.hok.kept hk,?_⟩
 ·have look:∀ k,(relabel scope X.env).names.lookup x=some k→k=.cell∨k=.free→∃ c,cl.lookup x=some c:=fun k q hk=>by
   rcases zcG q with ⟨n1,n2⟩ | ⟨_,n2 | n2⟩
   ·rcases hk with r | r
    ·exact absurd r n1
    ·exact hfr (x,k) (PySem.mem_of_lookup n2) r
   ·exact absurd rfl (B.nocell _ (PySem.mem_of_lookup n2))
   ·exact hfr (x,.free) (PySem.mem_of_lookup n2) rfl
  rcases hx with q | q
  ·exact look _ q (.inl rfl)
  ·exact look _ q (.inr rfl)
 ·rcases (hf b hb).2.2.2.1 with q | q
  ·exact ok.noex b o e q
  ·exact absurd (Nat.lt_of_lt_of_le (Heap.lt_size e) (Nat.le_trans ok.bsz q)) (Nat.lt_irrefl _)
 ·rcases List.mem_cons.mp (I.stkSub b z) with q | q
  ·exact (hf b hb).2.1 q
  ·exact (hf b hb).2.2.1 q
 ·have e2':(cap[i]?).map (fun o=>o.bind fun j=>(σ[j]?).join)=some (some v):=by rw [← List.getElem?_map];exact e2
  obtain ⟨o,ho,eo⟩:=Option.map_eq_some_iff.mp e2'
  obtain ⟨j,rfl,ej⟩:=Option.bind_eq_some_iff.mp eo
  have ej':σ[j]?=some (some v):=by
   cases q:σ[j]? with
   | none=>rw [q] at ej;cases ej
   | some z=>rw [q] at ej;cases ej;rfl
  obtain ⟨c1,c2⟩:=B.cap i y j e1 ho
  have vis:=B.free (y,.free) (PySem.mem_of_lookup c2) rfl
  obtain ⟨m,_,hl⟩:=I.loc
  obtain ⟨u,r,lk⟩:=hl j y v c1 ej' (.inr vis)
  obtain ⟨c',ec⟩:=hfr (y,.free) (PySem.mem_of_lookup c2) rfl
  have ec2:=hsub _ _ ec
  rcases lk with ⟨kl,_⟩ | ⟨_,c,e,z⟩
  ·have kl':X.env.scope.names.lookup y=some .local:=kl
   rcases vis with q | q
   ·have q':X.env.scope.names.lookup y=some .cell:=q
    rw [kl'] at q';cases q'
   ·have q':X.env.scope.names.lookup y=some .free:=q
    rw [kl'] at q';cases q'
  ·have ecc:X.env.cells.lookup y=some c':=ec2
   rw [e] at ecc
   cases ecc
   refine ⟨u,r,.inr ⟨?_,_,ec,?_⟩⟩
   ·rcases e3 with q | q | q
    ·rcases zcG q with ⟨_,n2⟩ | ⟨n1,_⟩
     ·rw [c2] at n2;cases n2
     ·cases n1
    ·exact .inl q
    ·exact .inr q
   ·obtain ⟨o,ho,hd⟩:=z
    exact ⟨o,hk _ _ ho,hd⟩
 ·obtain ⟨v,o,ho,hd⟩:=I.cell x c (hsub x c e)
  exact ⟨v,o,hk _ _ ho,hd⟩
 ·show (zpk cap σ).length=Nc.length
  rw [zpk,List.length_map,B.len]
theorem zlf {Nc:List Str} {scope:Scope} {cl:List (Str×Addr)} {fp:List Addr} {σc:St} {Hc:Hp} {s':Shared} {h':Heap} (I:Inv X pins σ H s) (hf:∀ b∈fp,zjt X pins H b) (J:Inv (X.blk Nc scope cl s H fp) [] σc Hc s')
  (hs:Heap.SameBut s.heap.objs.size s'.heap h'):Inv X pins σ Hc { s' with heap:=h' }:=by
 have ne:∀ b o,s.heap.get? b=some o→b≠s.heap.objs.size:=fun b o e=>Nat.ne_of_lt (Heap.lt_size e)
 have u:=J.base
 refine I.call' (ch:=fp) J.os ⟨fun b o e n hb hx=>(hs.2 b (ne b o e)).trans (u.keep b o e n hb hx),fun b o e n hb hx=>?_,u.free,fun b o e hx=>?_,u.tups,u.frzs,u.tbls⟩ (fun b ob e=>?_) J.bare fun b hb=>⟨(hf b hb).2.2.2.1,(hf b hb).2.1,(hf b hb).2.2.2.2.1,(hf b hb).2.2.2.2.2⟩
 ·obtain ⟨sl,q⟩:=u.slot b o e n hb hx
  exact ⟨sl,(hs.2 b (ne b o e)).trans q⟩
 ·obtain ⟨o',q⟩:=u.there b o e hx
  exact ⟨o',(hs.2 b (ne b o e)).trans q⟩
 ·have hC:Hc s.heap.objs.size=none:=J.free
  refine (J.hok b ob e).stay (fun c w' hc q=>(hs.2 c ?_).trans q) (fun _ q=>q) fun _ _ q=>q
  rintro rfl
  rcases hc with z | hc
  ·rw [← z,hC] at e;cases e
  ·rw [hC] at hc;cases hc
end
theorem Inv.turns {X:Cx} {pins:List (Addr×Obj)} {σ:St} {H:Hp} {s:Shared} {h':Heap} {t':Nat} {ch:List Addr} (I:Inv X pins σ H s) (k:∀ b o,b∉ch→s.heap.get? b=some o→h'.get? b=some o) (hf:∀ b∈ch,zjt X pins H b):Inv X pins σ H { s with heap:=h',toks:=t' }:=by
 refine I.call (g':=s.gens) (d':=s.drawn) (ch:=ch) ⟨fun b o e _ _ hx=>k b o hx e,fun b o e _ _ hx=>⟨o.slots,k b o hx e⟩,fun _ _ _ n _=>n,fun b o e hx=>⟨o,k b o hx e⟩,fun _ _ q=>q,fun _ _ _ q=>q,fun _ ps q=>⟨#[],by rw [q];simp⟩⟩ (fun b u e=>?_) I.bare
  fun b hb=>⟨(hf b hb).2.2.2.1,(hf b hb).2.1,(hf b hb).2.2.2.2.1,(hf b hb).2.2.2.2.2⟩
 refine (I.hok b u e).stay (fun c v hc q=>k c v (fun z=>?_) q) (fun _ q=>q) fun _ _ q=>q
 have n:=(hf c z).1
 rcases hc with r | r
 ·rw [r,e] at n;cases n
 ·rw [r] at n;cases n
theorem zhO {X:Cx} {pins:List (Addr×Obj)} {s:Shared} {σ:St} {H:Hp} {Q:VK} {sc:Scope} {N Nc:List Str} {cap:List (Option Nat)} {elt tg iter:Expr} {ifs:List Expr} {scope:Scope} {pos pos':Pos} {wi:TI} {g:TG} {tt:TT} {te:TE} {use:Option (Value→Sem Unit)} {QQ:Value→Shared→Prop}
  (hc:X.calm=true) (hsc:X.env.scope=sc) (hN:X.N=N) (B:zkB sc N Nc cap scope) (hi:PI X tg iter wi)
  (hg:∀ cl s H fp,PG (X.blk Nc scope cl s H fp) tg g) (ht:∀ cl s H fp,PTs (X.blk Nc scope cl s H fp) ifs tt) (he:∀ cl s H fp,PE (X.blk Nc scope cl s H fp) elt te)
  (hs:∀ x,foldedSetIterable iter X.env x=pure x) (I:Inv X pins σ H s) (h:zgt wi g tt te cap σ H Q)
  (fin:∀ (s3:Shared) (H3:Hp) (cl:List (Str×Addr)) (fp:List Addr) (D:Addr) (σc:St) (Hc:Hp) (s6:Shared),Inv X pins σ H3 s3→(∀ b∈fp,zjt X pins H3 b)→Inv (X.blk Nc scope cl s3 H3 fp) [] σc Hc s6→Q (.ref D) Hc→compPost (model X.prog X.w) X.A X.xe use QQ (.ref D) s3.heap.objs.size (.ok .next) s6) :
  wpAny (model X.prog X.w) X.A (comprehension (.ListComp elt [⟨tg,iter,ifs,0⟩] scope pos) scope X.env pos' (newList []) false (eval iter X.env) use) QQ X.xe s:=by
 subst hsc hN
 obtain ⟨cl,hclos,hsub,hfr⟩:=zkf (scope:=scope) (env:=X.env) fun y hy hf=>I.ok.has y.1 (B.free y hy hf)
 refine wpAny_comprehension_free (use:=use) rfl hs hclos B.kind (fun y hy hl=>by rw [B.once y hy,hl]) (thn (hi pins s σ H _ I h) fun v s1 h1=>thn h1 fun itv s2 h2=>?_)
 obtain ⟨it,fp,tn,J,H2,rfl,I2,T,st2,f2,hw⟩:=h2
 refine wpAny_newObj_type ?_
 have hfree:H2 s2.heap.objs.size=none:=I2.hok.fresh (Nat.le_refl _)
 have I3:=I2.laid (t':=s2.toks) (o:=.lst []) (fun b u e=>Heap.get?_push_of_some { cls:=.type "list",dict:=none,data:=.seq ([]:List Value).toArray } e) (Nat.le_refl _) ⟨by decide,[],0,.nil,Heap.get?_push_size _ rfl⟩
 obtain ⟨W,⟨m0,w0⟩,turn⟩:=hw _ hfree
 have keep23:∀ b o,s2.heap.get? b=some o→(s2.heap.push { cls:=.type "list",dict:=none,data:=.seq ([]:List Value).toArray }).get? b=some o:=fun b o e=>Heap.get?_push_of_some _ e
 have hin:∀ b∈fp,b<s2.heap.objs.size:=fun b hb=>let ⟨o,e,_⟩:=T.obj 0 _ st2 b hb;Heap.lt_size e
 have f3:∀ b∈fp,zjt X pins (upd H2 s2.heap.objs.size (.lst [])) b:=fun b hb=>⟨by rw [zaq (Nat.ne_of_lt (hin b hb))];exact (f2 b hb).1,(f2 b hb).2⟩
 have st3:=T.keep 0 _ _ st2 fun b _ o e=>keep23 b o e
 have hin3:∀ b∈fp,b<(s2.heap.push { cls:=.type "list",dict:=none,data:=.seq ([]:List Value).toArray }).objs.size:=fun b hb=>let ⟨o,e,_⟩:=T.obj 0 _ st3 b hb;Heap.lt_size e
 clear keep23 hin
 generalize s2.heap.push { cls:=.type "list",dict:=none,data:=.seq ([]:List Value).toArray }=h3 at I3 st3 hin3 ⊢
 generalize upd H2 s2.heap.objs.size (.lst [])=H3 at I3 f3 w0
 generalize s2.heap.objs.size=D at hfree w0 turn ⊢
 refine wpAny_newFunctionEnv B.nocell (by intro y hy;cases hy) (fun h1 hns hsb=>?_) B.kind
 have keep:∀ b o,h3.get? b=some o→h1.get? b=some o:=fun b o e=>(hsb.2 b (Nat.ne_of_lt (Heap.lt_size e))).trans (Heap.get?_push_of_some _ e)
 have I4:=zow (tk:=s2.toks+([]:List (Str×Value)).length) I3 B hsub hfr f3 hin3 keep hns
 have st4:=T.keep 0 _ _ st3 fun b _ o e=>keep b o e
 have stat:∀ {H':Hp},(∀ b∈fp,H' b=none)→∀ b∈fp,zjt (X.blk Nc scope cl { s2 with heap:=h3,toks:=s2.toks } H3 fp) [] H' b:=fun hn b hb =>
  ⟨hn b hb,Nat.ne_of_lt (hin3 b hb),fun z=>by
   rcases List.mem_cons.mp (I3.stkSub b z) with q | q
   ·exact (f3 b hb).2.1 q
   ·exact (f3 b hb).2.2.1 q,.inl hb,fun x c e=>(f3 b hb).2.2.2.2.1 x c (hsub x c e),by intro p hp;cases hp⟩
 have hcb:(X.blk Nc scope cl { s2 with heap:=h3,toks:=s2.toks } H3 fp).calm=true:=hc
 have loop:codeAny (model X.prog X.w) X.A (.compLoop (.ListComp elt [⟨tg,iter,ifs,0⟩] scope pos) 0 (.ref it) (.ref D) (compEnvC scope cl h3.objs.size X.env)) (compPost (model X.prog X.w) X.A X.xe use QQ (.ref D) h3.objs.size) { s2 with heap:=h1,toks:=s2.toks+([]:List (Str×Value)).length }:=by
  refine zhF (fun n s'=>∃ i σ' H',Inv (X.blk Nc scope cl { s2 with heap:=h3,toks:=s2.toks } H3 fp) [] σ' H' s'∧tn i s'.heap∧(∀ b∈fp,H' b=none)∧W i n σ' H') rfl ?_ m0 ⟨0,_,H3,I4,st4,fun b hb=>(f3 b hb).1,w0⟩
  rintro n s5 ⟨i,σ5,H5,I5,st5,fr5,w5⟩
  rcases turn i n σ5 H5 w5 with ⟨stop,qn⟩ | ⟨go,N',hN',step⟩
  ·refine thn (T.done (X.blk Nc scope cl { s2 with heap:=h3,toks:=s2.toks } H3 fp) rfl rfl rfl hcb i [] s5 σ5 H5 _ I5 (stat fr5) st5 stop) fun r s6 hQ'=>?_
   obtain ⟨hr,I6⟩:=hQ'
   subst hr
   exact fin { s2 with heap:=h3,toks:=s2.toks } H3 cl fp D σ5 H5 s6 I3 f3 I6 qn
  ·refine thn (T.item (X.blk Nc scope cl { s2 with heap:=h3,toks:=s2.toks } H3 fp) rfl rfl rfl hcb i [] s5 σ5 H5 _ I5 (stat fr5) st5 go) fun r s6 hQ'=>?_
   obtain ⟨u,hr,h6⟩:=hQ'
   subst hr
   refine thn h6 fun _ s7 hQ'=>?_
   obtain ⟨x,H7,I7,r7,y7,st7,fr7⟩:=hQ'
   have I7':=I7.pinned (stat fr7) (T.obj _ _ st7)
   refine wpAny_mono (hg cl _ H3 fp _ s7 σ5 H7 x u _ I7' r7 (step x H7 y7)) (fun _ s8 hQ'=>?_) fun _ _ z=>z.elim
   obtain ⟨σ8,H8,I8,q8⟩:=hQ'
   have again:∀ {H9:Hp} {s9:Shared} {m:Nat},Inv (X.blk Nc scope cl { s2 with heap:=h3,toks:=s2.toks } H3 fp) ([]++zh2 fp s7.heap) σ8 H9 s9→m<n→W (i+1) m σ8 H9→∃ m,m<n∧∃ i σ' H',Inv (X.blk Nc scope cl { s2 with heap:=h3,toks:=s2.toks } H3 fp) [] σ' H' s9∧tn i s9.heap∧(∀ b∈fp,H' b=none)∧W i m σ' H':=fun {H9 s9 m} I9 hm w9=>by
    refine ⟨m,hm,i+1,σ8,H9,I9.unpinned,T.keep _ _ _ st7 fun b hb o e=>(I9.pin (b,o) (List.mem_append_right _ (List.mem_append_right _ (zdP hb e)))).1,fun b hb=>?_,w9⟩
    obtain ⟨o,e,d⟩:=T.obj _ _ st7 b hb
    exact (I9.pin (b,o) (List.mem_append_right _ (List.mem_append_right _ (zdP hb e)))).2.1
   refine wpAny_mono (ht cl _ H3 fp _ s8 σ8 H8 _ I8 q8) (fun b s9 hQ'=>?_) fun _ _ z=>z.elim
   obtain ⟨H9,I9,q9⟩:=hQ'
   cases b with
   | false =>
    rw [if_neg (by decide)] at q9
    obtain ⟨m',hm,w9⟩:=hN' _ _ q9
    exact again I9 hm w9
   | true =>
    rw [if_pos rfl] at q9
    refine wpAny_mono (he cl _ H3 fp _ s9 σ8 H9 _ I9 q9) (fun u s10 hQ'=>?_) fun _ _ z=>z.elim
    obtain ⟨y,H10,I10,r10,q10⟩:=hQ'
    refine wpAny_mono (zgh (X:=X.blk Nc scope cl { s2 with heap:=h3,toks:=s2.toks } H3 fp) _ s10 σ8 H10 (.ref D) [y] (.ref D) [u] _ I10 rfl (.cons r10 .nil) q10) (fun _ s11 hQ'=>?_) fun _ _ z=>z.elim
    obtain ⟨_,H11,I11,_,q11⟩:=hQ'
    obtain ⟨m',hm,w11⟩:=hN' _ _ q11
    exact again I11 hm w11
 exact codeAny_compStart_list loop (T.self _ 0 _ _ _ st4 loop)
theorem zg4 {X:Cx} {sc:Scope} {N Nc:List Str} {cap:List (Option Nat)} {elt tg iter:Expr} {ifs:List Expr} {scope:Scope} {pos:Pos} {wi:TI} {g:TG} {tt:TT} {te:TE} (hc:X.calm=true) (hsc:X.env.scope=sc) (hN:X.N=N) (B:zkB sc N Nc cap scope) (hi:PI X tg iter wi)
  (hg:∀ cl s H fp,PG (X.blk Nc scope cl s H fp) tg g) (ht:∀ cl s H fp,PTs (X.blk Nc scope cl s H fp) ifs tt) (he:∀ cl s H fp,PE (X.blk Nc scope cl s H fp) elt te)
  (hs:∀ x,foldedSetIterable iter X.env x=pure x:=by intro _;rfl):PE X (.ListComp elt [⟨tg,iter,ifs,0⟩] scope pos) (zgt wi g tt te cap):=by
 intro pins s σ H Q I h
 rw [eval_ListComp]
 refine zhO hc hsc hN B hi hg ht he hs I h fun s3 H3 cl fp D σc Hc s6 I3 f3 I6 q=>?_
 obtain ⟨m,hn,_⟩:=id I6.loc
 exact ⟨m,hn,fun h' hs'=>⟨.ref D,Hc,zlf I3 f3 I6 hs',rfl,q⟩⟩
theorem zky {X:Cx} {i:Nat} {y:Str} {py spos:Pos} {sc:Scope} {N Nc:List Str} {cap:List (Option Nat)} {elt tg iter:Expr} {ifs:List Expr} {scope:Scope} {pos:Pos} {wi:TI} {g:TG} {tt:TT} {te:TE} (hnd:X.N.Nodup) (hix:X.N[i]?=some y) (hl:X.env.scope.names.lookup y=some .local)
  (hc:X.calm=true) (hsc:X.env.scope=sc) (hN:X.N=N) (B:zkB sc N Nc cap scope) (hi:PI X tg iter wi)
  (hg:∀ cl s H fp,PG (X.blk Nc scope cl s H fp) tg g) (ht:∀ cl s H fp,PTs (X.blk Nc scope cl s H fp) ifs tt) (he:∀ cl s H fp,PE (X.blk Nc scope cl s H fp) elt te)
  (hsw:swapsWith (.ListComp elt [⟨tg,iter,ifs,0⟩] scope pos) (some (.Name y py)) spos.line X.env=pure true:=by rfl)
  (hs:∀ x,foldedSetIterable iter X.env x=pure x:=by intro _;rfl):PS X (.Assign [.Name y py] (.ListComp elt [⟨tg,iter,ifs,0⟩] scope pos) spos) (zbF (zgt wi g tt te cap) (zar i)):=by
 intro pins s σ H D0 I h
 rw [exec_Assign_Name_used _ _ _ _ hsw]
 refine wpAny_bind (wpAny_standAt (wpAny_bind (wpAny_bind (thn (zhO (use:=some (assign (.Name y py) X.env)) (QQ:=fun _ s'=>SP X pins D0 .next s') hc hsc hN B hi hg ht he hs I h fun s3 H3 cl fp D σc Hc s6 I3 f3 I6 q=>?_) fun _ s' hq=>wpAny_pure (wpAny_pure hq)))))
 have I6x:Inv X pins σ Hc s6:=zlf I3 f3 I6 (Heap.SameBut.refl ..)
 obtain ⟨m,hn,_⟩:=id I6.loc
 have hC:Hc s3.heap.objs.size=none:=I6.free
 have fpC:=I3.fpOk (b:=s3.heap.objs.size) (Nat.le_refl _) hC
 refine wpAny_assign_Name (zhY I6x hnd hix (.inl hl) (v:=.ref D) rfl (fun s7 I7 ch=>?_) (.inr hl))
 obtain ⟨a,same,ha⟩:=ch
 have nC:s3.heap.objs.size≠a:=by
  rcases ha with r | r
  ·rw [r];exact fpC.2.1
  ·exact (fpC.2.2.2.2.1 _ _ r).symm
 refine ⟨m,hn.sameBut same nC,fun h' hs'=>⟨_,_,I7.turns (t':=s7.toks) (ch:=[s3.heap.objs.size]) (fun b o hb e=>(hs'.2 b (by simpa using hb)).trans e) fun b hb=>?_,q⟩⟩
 have e:b=s3.heap.objs.size:=by simpa using hb
 rw [e]
 exact fpC
theorem zlU {K:PySem.W.Frag} {a:Addr} {xs:List V} {g:TG} {tt:TT} {te:TE} {σ:St} {H:Hp} {D:Addr} {Q:VK} (Pv:Nat→List V→St→Hp→Prop) (h0:Pv 0 [] σ (upd H D (.lst []))) (hl:∀ i ys σ H,i≤xs.length→Pv i ys σ H→SqL K H a xs)
  (hs:∀ i x ys σ H,xs[i]?=some x→H D=some (.lst ys)→Pv i ys σ H→g x σ H fun σ2 H2=>tt σ2 H2 fun b H3=>if b=true then te σ2 H3 fun y H4=>zbP (.ref D) [y] H4 fun _ H5=>∃ ys,H5 D=some (.lst ys)∧Pv (i+1) ys σ2 H5 else ∃ ys,H3 D=some (.lst ys)∧Pv (i+1) ys σ2 H3)
  (hd:∀ ys σ H,H D=some (.lst ys)→Pv xs.length ys σ H→Q (.ref D) H) :
  ∃ W:Nat→Nat→St→Hp→Prop,(∃ m,W 0 m σ (upd H D (.lst [])))∧∀ i m σc Hc,W i m σc Hc →
   ((Itl K a).stop i Hc∧Q (.ref D) Hc)∨((Itl K a).go i Hc∧∃ N:St→Hp→Prop,(∀ σ' H',N σ' H'→∃ m',m'<m∧W (i+1) m' σ' H')∧∀ x H',(Itl K a).yld i Hc x H'→g x σc H' fun σ2 H2=>tt σ2 H2 fun b H3=>if b=true then te σ2 H3 fun y H4=>zbP (.ref D) [y] H4 fun _ H5=>N σ2 H5 else N σ2 H3):=by
 refine ⟨fun i m σ H=>m=xs.length - i∧i≤xs.length∧∃ ys,H D=some (.lst ys)∧Pv i ys σ H,⟨_,rfl,Nat.zero_le _,[],zad,h0⟩,?_⟩
 rintro i m σ H ⟨rfl,hi,ys,hD,pv⟩
 have q:=hl i ys σ H hi pv
 by_cases hlt:i<xs.length
 ·refine .inr ⟨⟨xs,xs[i],q,by simp [hlt]⟩,fun σ H=>∃ ys,H D=some (.lst ys)∧Pv (i+1) ys σ H,fun σ' H' p'=>⟨_,by (first|lia|omega),rfl,hlt,p'⟩,fun x H' yl=>?_⟩
  obtain ⟨e,yl⟩:=yl
  subst e
  exact hs i x ys σ _ (yl xs q) hD pv
 ·have e:i=xs.length:=by (first|lia|omega)
  subst e
  exact .inl ⟨⟨xs,q,Nat.le_refl _⟩,hd ys σ H hD pv⟩
theorem zkG {lo:Int} {n:Nat} {g:TG} {tt:TT} {te:TE} {σ:St} {H:Hp} {D:Addr} {Q:VK} (Pv:Nat→List V→St→Hp→Prop) (h0:Pv 0 [] σ (upd H D (.lst [])))
  (hs:∀ i ys σ H,i<n→H D=some (.lst ys)→Pv i ys σ H→g (.int (lo+i)) σ H fun σ2 H2=>tt σ2 H2 fun b H3=>if b=true then te σ2 H3 fun y H4=>zbP (.ref D) [y] H4 fun _ H5=>∃ ys,H5 D=some (.lst ys)∧Pv (i+1) ys σ2 H5 else ∃ ys,H3 D=some (.lst ys)∧Pv (i+1) ys σ2 H3)
  (hd:∀ ys σ H,H D=some (.lst ys)→Pv n ys σ H→Q (.ref D) H) :
  ∃ W:Nat→Nat→St→Hp→Prop,(∃ m,W 0 m σ (upd H D (.lst [])))∧∀ i m σc Hc,W i m σc Hc →
   ((Itr lo n).stop i Hc∧Q (.ref D) Hc)∨((Itr lo n).go i Hc∧∃ N:St→Hp→Prop,(∀ σ' H',N σ' H'→∃ m',m'<m∧W (i+1) m' σ' H')∧∀ x H',(Itr lo n).yld i Hc x H'→g x σc H' fun σ2 H2=>tt σ2 H2 fun b H3=>if b=true then te σ2 H3 fun y H4=>zbP (.ref D) [y] H4 fun _ H5=>N σ2 H5 else N σ2 H3):=by
 refine ⟨fun i m σ H=>m=n - i∧i≤n∧∃ ys,H D=some (.lst ys)∧Pv i ys σ H,⟨_,rfl,Nat.zero_le _,[],zad,h0⟩,?_⟩
 rintro i m σ H ⟨rfl,hi,ys,hD,pv⟩
 by_cases hlt:i<n
 ·refine .inr ⟨hlt,fun σ H=>∃ ys,H D=some (.lst ys)∧Pv (i+1) ys σ H,fun σ' H' p'=>⟨_,by (first|lia|omega),rfl,hlt,p'⟩,fun x H' yl=>?_⟩
  obtain ⟨e,yl⟩:=yl
  subst e yl
  exact hs i ys σ _ hlt hD pv
 ·have e:i=n:=by (first|lia|omega)
  subst e
  exact .inl ⟨Nat.le_refl _,hd ys σ H hD pv⟩
end L2
namespace L2
open PySem PySem.Spec PyProof.Rows
theorem zl4 (bs:List Bool):(List.range bs.length).all (fun i=>bs.getD i false)=bs.all id:=by
 rw [Bool.eq_iff_iff,List.all_eq_true,List.all_eq_true]
 constructor
 ·intro h x hx
  obtain ⟨i,hi,e⟩:=List.getElem_of_mem hx
  have:=h i (List.mem_range.mpr hi)
  rw [List.getD_eq_getElem?_getD,List.getElem?_eq_getElem hi] at this
  rw [← e]
  exact this
 ·intro h i hi
  have hi:=List.mem_range.mp hi
  rw [List.getD_eq_getElem?_getD,List.getElem?_eq_getElem hi]
  exact h _ (List.getElem_mem hi)
def rAll (K:PySem.W.Frag):List V→Hp→VK→Prop:=fun xs H Q=>∃ (p:Addr) (bs:List Bool),xs=[.ref p]∧SqL K H p (bs.map V.bl)∧Q (.bl (bs.all id)) H
theorem zpG {bs:List Bool} {its:List Value} {i:Nat} {v:Value} (r:zbj (bs.map V.bl) its) (e:its.toArray[i]?=some v):v=.bool (bs.getD i false):=by
 have l:=r.length
 rw [List.length_map] at l
 have e':its[i]?=some v:=by simpa using e
 have hi:i<bs.length:=by rw [l];exact (List.getElem?_eq_some_iff.mp e').1
 obtain ⟨u,hu,ru⟩:=r.get (i:=i) (x:=.bl bs[i]) (by rw [List.getElem?_map,List.getElem?_eq_getElem hi];rfl)
 rw [e'] at hu
 cases hu
 cases ru
 rw [List.getD_eq_getElem?_getD,List.getElem?_eq_getElem hi]
 rfl
theorem zmt {P:Program} {w:World} {A:Around} {bs:List Bool} {its:List Value} (r:zbj (bs.map V.bl) its):TruthOf P w A (fun i v=>its.toArray[i]?=some v) fun i=>bs.getD i false:=fun i v s Q E hP hQ=>by
 rw [zpG r hP]
 exact wpAny_pure hQ
section
variable {X:Cx}
theorem zns (hc:X.calm=true):zdS X (.builtin "all") (rAll X.K):=by
 intro pins s σ H xs us Q I r h
 obtain ⟨p,bs,rfl,hl,q⟩:=h
 obtain ⟨u,rfl,ru⟩:=r.one
 cases ru
 obtain ⟨its,rv,pl,_⟩:=I.list hl
 have l:=rv.length
 rw [List.length_map] at l
 obtain ⟨o,n,e,_⟩:=id pl
 have hne:p≠s.heap.objs.size:=Nat.ne_of_lt (Heap.lt_size e)
 refine call_all_walk (wpAny_pyIter_list pl.isList ?_)
 refine ⟨s.heap.objs.size,_,_,_,_,_,fun i=>bs.getD i false,rfl,Walks.list (A:=X.A.in1) (I.ok.hd hc) _ p hne its.toArray,⟨⟨_,Heap.get?_push_size _ rfl,rfl,rfl⟩,?_⟩,zmt rv,fun h' tk hk=>⟨.bl _,H,I.kept fun b u eb=>?_,rfl,?_⟩⟩
 ·exact pl.isList.at fun o e=>Heap.get?_push_of_some _ e
 ·exact hk b u (fun z=>Nat.ne_of_lt (Heap.lt_size eb) (by simpa using z)) (Heap.get?_push_of_some _ eb)
 ·rw [List.size_toArray,← l,zl4]
  exact q
end
end L2
namespace L2
open PySem PySem.Spec PyProof.Rows
def Itz (K:PySem.W.Frag) (p q:Addr):It where
 go:=fun i H=>∃ xs ys a b,SqL K H p xs∧SqL K H q ys∧xs[i]?=some a∧ys[i]?=some b
 yld:=fun i H x H'=>∃ t a b,x=.ref t∧H t=none∧H'=upd H t (.tup [a,b])∧(∀ xs,SqL K H p xs→xs[i]?=some a)∧∀ ys,SqL K H q ys→ys[i]?=some b
 stop:=fun i H=>∃ xs ys,SqL K H p xs∧SqL K H q ys∧i=min xs.length ys.length
def tnZ (z TI TO i1 i2 p q:Addr) (i:Nat) (h:Heap):Prop:=IsZip h z TI TO .none∧IsPair h TI (.ref i1) (.ref i2)∧(∃ a b,IsPair h TO a b)∧h.IsListIter i1 p i∧h.IsListIter i2 q i
theorem zmz {z TI TO i1 i2 p q:Addr} {i:Nat} {h h':Heap} (st:tnZ z TI TO i1 i2 p q i h) (k:∀ b∈[z,TI,TO,i1,i2],∀ o,h.get? b=some o→h'.get? b=some o):tnZ z TI TO i1 i2 p q i h':=by
 obtain ⟨a1,a2,⟨x,y,a3⟩,a4,a5⟩:=st
 exact ⟨k z (by simp) _ a1,k TI (by simp) _ a2,⟨x,y,k TO (by simp) _ a3⟩,a4.at fun o e=>k i1 (by simp) o e,a5.at fun o e=>k i2 (by simp) o e⟩
theorem zbh {o:Obj} {vs:Array Value} (h:o.data=.fields vs):∀ v,o.data≠.cell v:=fun v z=>by rw [h] at z;cases z
theorem znB {P:Program} {w:World} {K:PySem.W.Frag} {elts:List Expr} {k:Nat} {pos:Pos} {z TI TO i1 i2 p q:Addr} (D:ZipApart z TI TO i1 i2 p q):zo8 P w K (.Tuple elts k pos) (Itz K p q) [z,TI,TO,i1,i2] z (tnZ z TI TO i1 i2 p q) where
 mem:=by simp
 obj:=fun i h st b hb=>by
  obtain ⟨a1,a2,⟨x,y,a3⟩,⟨o4,a4,_,d4⟩,⟨o5,a5,_,d5⟩⟩:=st
  simp only [List.mem_cons,List.not_mem_nil,or_false] at hb
  rcases hb with rfl | rfl | rfl | rfl | rfl
  ·exact ⟨_,a1,zbh rfl⟩
  ·exact ⟨_,a2,fun v z=>nomatch (show Data.seq _ _=Data.cell v from z)⟩
  ·exact ⟨_,a3,fun v z=>nomatch (show Data.seq _ _=Data.cell v from z)⟩
  ·exact ⟨_,a4,zbh d4⟩
  ·exact ⟨_,a5,zbh d5⟩
 keep:=fun i h h' st kk=>zmz st kk
 item:=by
  intro X hP hw hK hc i pins s σ H E I hf st hg
  subst hP hw hK
  obtain ⟨xs,ys,a,b,hx,hy,ea,eb⟩:=hg
  obtain ⟨its1,r1,pl1,z1⟩:=I.list hx
  obtain ⟨its2,r2,pl2,z2⟩:=I.list hy
  obtain ⟨ua,eua,rua⟩:=r1.get ea
  obtain ⟨ub,eub,rub⟩:=r2.get eb
  obtain ⟨s1,s2,s3,s4,s5⟩:=st
  have W:=WalksT.zip2 (prog:=X.prog) (w:=X.w) (A:=X.A) (I.ok.hd hc) z TI TO i1 i2 p q D its1.toArray its2.toArray
  have hi:i<min its1.toArray.size its2.toArray.size:=by
   have h1:=(List.getElem?_eq_some_iff.mp eua).1
   have h2:=(List.getElem?_eq_some_iff.mp eub).1
   simp only [List.size_toArray]
   (first|lia|omega)
  refine W.item i s _ _ hi ⟨s1,s2,s3,s4,s5,pl1.isList,pl2.isList⟩ fun T vals h' tk hp hT hTup mid kk=>⟨_,rfl,?_⟩
  obtain ⟨u,v,e1,e2,rfl⟩:=hp
  have e1':u=ua:=by
   have:its1[i]?=some u:=by simpa using e1
   rw [eua] at this;cases this;rfl
  have e2':v=ub:=by
   have:its2[i]?=some v:=by simpa using e2
   rw [eub] at this;cases this;rfl
  subst e1' e2'
  refine W.go elts k pos i T { s with heap:=h',toks:=tk } _ _ mid fun h2 st2 kk2=>?_
  obtain ⟨t1,t2,t3,t4,t5,_,_⟩:=st2
  have sub:∀ b∈[z,TO,i1,i2],b∈[z,TI,TO,i1,i2]:=fun b hb=>by
   simp only [List.mem_cons,List.not_mem_nil,or_false] at hb ⊢
   rcases hb with h | h | h | h <;> simp [h]
  have I1:Inv X pins σ H { s with heap:=h2,toks:=tk }:=I.turns (ch:=[z,TO,i1,i2]) (fun b o hb e=>kk2 b o hb (kk b o hb e)) fun b hb=>hf b (sub b hb)
  have nT:H T=none:=I.hok.fresh hT
  have I2:=I1.track (a:=T) (o:=.tup [a,b]) nT (Heap.get?_none_of_le (Nat.le_trans I.sz hT)) (Nat.ne_of_gt (Nat.lt_of_lt_of_le I.lt hT)) (fun x c e=>by
   obtain ⟨v,q⟩:=I.cell x c e
   exact Nat.ne_of_lt (Nat.lt_of_lt_of_le q.lt hT)) (fun p hp=>Nat.ne_of_lt (Nat.lt_of_lt_of_le (Heap.lt_size (I.pin p hp).1) hT)) (by
   refine ⟨by show 2≤sizeLine;decide,[u,v],.cons rua (.cons rub .nil),?_⟩
   obtain ⟨o,ho,hcl,hd⟩:=hTup
   exact ⟨o,kk2 T o (W.apart i T h' mid) ho,hcl,hd⟩)
  refine ⟨.ref T,_,I2,rfl,⟨T,a,b,rfl,nT,rfl,fun xs' h'=>?_,fun ys' h'=>?_⟩,⟨t1,t2,t3,t4,t5⟩,fun b hb=>?_⟩
  ·rw [I.list_inj h' hx];exact ea
  ·rw [I.list_inj h' hy];exact eb
  ·have hb2:∃ o,s.heap.get? b=some o:=by
    obtain ⟨x3,y3,s3⟩:=s3
    obtain ⟨o4,s4,_⟩:=s4
    obtain ⟨o5,s5,_⟩:=s5
    simp only [List.mem_cons,List.not_mem_nil,or_false] at hb
    rcases hb with h | h | h | h | h <;> rw [h] <;> first | exact ⟨_,s1⟩ | exact ⟨_,s2⟩ | exact ⟨_,s3⟩ | exact ⟨_,s4⟩ | exact ⟨_,s5⟩
   obtain ⟨o,e⟩:=hb2
   rw [zaq (Nat.ne_of_lt (Nat.lt_of_lt_of_le (Heap.lt_size e) hT))]
   exact (hf b hb).1
 done:=by
  intro X hP hw hK hc i pins s σ H E I hf st hg
  subst hP hw hK
  obtain ⟨xs,ys,hx,hy,rfl⟩:=hg
  obtain ⟨its1,r1,pl1,z1⟩:=I.list hx
  obtain ⟨its2,r2,pl2,z2⟩:=I.list hy
  obtain ⟨s1,s2,s3,s4,s5⟩:=st
  have W:=WalksT.zip2 (prog:=X.prog) (w:=X.w) (A:=X.A) (I.ok.hd hc) z TI TO i1 i2 p q D its1.toArray its2.toArray
  have sub:∀ b∈[z,TO,i1,i2],b∈[z,TI,TO,i1,i2]:=fun b hb=>by
   simp only [List.mem_cons,List.not_mem_nil,or_false] at hb ⊢
   rcases hb with h | h | h | h <;> simp [h]
  refine W.done s _ _ ?_ fun h' tk kk=>⟨rfl,I.turns (ch:=[z,TO,i1,i2]) (fun b o hb e=>kk b o hb e) fun b hb=>hf b (sub b hb)⟩
  rw [List.size_toArray,List.size_toArray,← r1.length,← r2.length]
  exact ⟨s1,s2,s3,s4,s5,pl1.isList,pl2.isList⟩
 self:=fun A i s Q E st h=>wpAny_pyIter_zip st.1 h
theorem zo0 {K:PySem.W.Frag} {p q:Addr} {xs ys:List V} {g:TG} {tb:TS} {D:zbV} {σ:St} {H:Hp} (Pv:Nat→St→Hp→Prop) (h0:Pv 0 σ H) (hl:∀ i σ H,i≤min xs.length ys.length→Pv i σ H→SqL K H p xs∧SqL K H q ys)
  (hs:∀ i x y t σ H,xs[i]?=some x→ys[i]?=some y→Pv i σ H→H t=none→g (.ref t) σ (upd H t (.tup [x,y])) fun σ2 H2=>tb { D with nx:=Pv (i+1),ct:=Pv (i+1),bk:=D.nx } σ2 H2) (hd:∀ σ H,Pv (min xs.length ys.length) σ H→D.nx σ H) :
  ∃ W:Nat→Nat→St→Hp→Prop,(∃ m,W 0 m σ H)∧∀ i m σ H,W i m σ H →
   ((Itz K p q).stop i H∧D.nx σ H)∨((Itz K p q).go i H∧∃ N:St→Hp→Prop,(∀ σ' H',N σ' H'→∃ m',m'<m∧W (i+1) m' σ' H')∧∀ x H',(Itz K p q).yld i H x H'→g x σ H' fun σ2 H2=>tb { D with nx:=N,ct:=N,bk:=D.nx } σ2 H2):=by
 refine ⟨fun i m σ H=>m=min xs.length ys.length - i∧i≤min xs.length ys.length∧Pv i σ H,⟨_,rfl,Nat.zero_le _,h0⟩,?_⟩
 rintro i m σ H ⟨rfl,hi,pv⟩
 obtain ⟨hx,hy⟩:=hl i σ H hi pv
 by_cases hlt:i<min xs.length ys.length
 ·have l1:i<xs.length:=by (first|lia|omega)
  have l2:i<ys.length:=by (first|lia|omega)
  refine .inr ⟨⟨xs,ys,xs[i],ys[i],hx,hy,by simp [l1],by simp [l2]⟩,Pv (i+1),fun σ' H' p'=>⟨_,by (first|lia|omega),rfl,hlt,p'⟩,fun x H' yl=>?_⟩
  obtain ⟨t,a,b,rfl,ht,rfl,e1,e2⟩:=yl
  exact hs i a b t σ H (e1 xs hx) (e2 ys hy) pv ht
 ·have e:i=min xs.length ys.length:=by (first|lia|omega)
  subst e
  exact .inl ⟨⟨xs,ys,hx,hy,rfl⟩,hd σ H pv⟩
end L2
namespace L2
open PySem PySem.Spec PyProof.Rows
inductive Tr where
 | int (i:Int)
 | bl (b:Bool)
 | str (x:Str)
 | non
 | lst (l:List Tr)
 | tup (l:List Tr)
inductive zde (K:PySem.W.Frag) (H:Hp):Nat→Tr→V→Prop where
 | int {n:Nat} (i:Int):zde K H n (.int i) (.int i)
 | bl {n:Nat} (b:Bool):zde K H n (.bl b) (.bl b)
 | str {n:Nat} (x:Str):zde K H n (.str x) (.str x)
 | non {n:Nat}:zde K H n .non .non
 | lst {n:Nat} {p:Addr} {xs:List V} {ts:List Tr} (h:SqL K H p xs) (l:xs.length=ts.length) (e:∀ (i:Nat) x t,xs[i]?=some x→ts[i]?=some t→zde K H n t x):zde K H (n+1) (.lst ts) (.ref p)
 | tup {n:Nat} {p:Addr} {xs:List V} {ts:List Tr} (h:SqT K H p xs) (l:xs.length=ts.length) (e:∀ (i:Nat) x t,xs[i]?=some x→ts[i]?=some t→zde K H n t x):zde K H (n+1) (.tup ts) (.ref p)
section
variable {X:Cx} {pins:List (Addr×Obj)} {σ:St} {H:Hp} {s:Shared}
theorem zfR {A:Around} {n:Nat} {xs ys:List V} {ts:List Tr} {us vs:List Value} (lx:xs.length=ts.length) (ly:ys.length=ts.length) (r1:zbj xs us) (r2:zbj ys vs)
  (ih:∀ (i:Nat) x t,xs[i]?=some x→ts[i]?=some t→∀ y,zde X.K H n t y→∀ (u v:Value) (A:Around),zbG x u→zbG y v→A.units+n<cLine→SeqAt.EqAt A s u v true)
  (ey:∀ (i:Nat) y t,ys[i]?=some y→ts[i]?=some t→zde X.K H n t y) (hu:A.units+(n+1)<cLine) :
  ∀ j (h1:j<us.toArray.size) (h2:j<vs.toArray.size),SeqAt.EqAt A.in1 s us.toArray[j] vs.toArray[j] true:=by
 intro j h1 h2
 have k1:j<xs.length:=by rw [r1.length];simpa using h1
 have k2:j<ys.length:=by rw [r2.length];simpa using h2
 have k3:j<ts.length:=by (first|lia|omega)
 obtain ⟨u,e1,ru⟩:=r1.get (List.getElem?_eq_getElem k1)
 obtain ⟨v,e2,rv⟩:=r2.get (List.getElem?_eq_getElem k2)
 have q1:us.toArray[j]=u:=by
  have:=(List.getElem?_eq_some_iff.mp e1).2
  simpa using this
 have q2:vs.toArray[j]=v:=by
  have:=(List.getElem?_eq_some_iff.mp e2).2
  simpa using this
 rw [q1,q2]
 exact ih j _ _ (List.getElem?_eq_getElem k1) (List.getElem?_eq_getElem k3) _ (ey j _ _ (List.getElem?_eq_getElem k2) (List.getElem?_eq_getElem k3)) u v A.in1 ru rv (by show A.units+1+n<cLine;(first|lia|omega))
theorem zfP (n:Nat):(List.range n).all (fun _=>true)=true:=by simp
theorem zkX (I:Inv X pins σ H s) {n:Nat} {t:Tr} {x:V} (hx:zde X.K H n t x):∀ y,zde X.K H n t y→∀ (u v:Value) (A:Around),zbG x u→zbG y v→A.units+n<cLine→SeqAt.EqAt A s u v true:=by
 induction hx with
 | int i =>
  intro y hy u v A ru rv hu
  cases hy
  obtain ⟨a,rfl⟩:=ru
  obtain ⟨b,rfl⟩:=rv
  have:=SeqAt.EqAt.int_int (A:=A) (s:=s) i a i b
  rw [beq_self_eq_true] at this
  exact this
 | bl b =>
  intro y hy u v A ru rv hu
  cases hy
  cases ru
  cases rv
  exact SeqAt.EqAt.same _
 | str x =>
  intro y hy u v A ru rv hu
  cases hy
  obtain ⟨a,rfl⟩:=ru
  obtain ⟨b,rfl⟩:=rv
  have:=SeqAt.EqAt.str_str (A:=A) (s:=s) x a x b
  rw [beq_self_eq_true] at this
  exact this
 | non =>
  intro y hy u v A ru rv hu
  cases hy
  cases ru
  cases rv
  exact SeqAt.EqAt.same _
 | @lst n p xs ts h l e ih =>
  intro y hy u v A ru rv hu
  cases hy with
  | @lst _ q ys _ h2 l2 e2 =>
   cases ru
   cases rv
   by_cases hpq:p=q
   ·subst hpq
    exact SeqAt.EqAt.same _
   ·obtain ⟨us,r1,p1,_⟩:=I.list h
    obtain ⟨vs,r2,p2,_⟩:=I.list h2
    have z:=SeqAt.RcAt.lists (A:=A) p1.isList p2.isList (by rw [List.size_toArray,List.size_toArray,← r1.length,← r2.length,l,l2]) (by (first|lia|omega)) (e:=fun _=>true) (zfR l l2 r1 r2 ih e2 hu)
    rw [zfP] at z
    exact SeqAt.EqAt.of_refs hpq z
 | @tup n p xs ts h l e ih =>
  intro y hy u v A ru rv hu
  cases hy with
  | @tup _ q ys _ h2 l2 e2 =>
   cases ru
   cases rv
   by_cases hpq:p=q
   ·subst hpq
    exact SeqAt.EqAt.same _
   ·obtain ⟨us,r1,p1,_⟩:=I.tuple h
    obtain ⟨vs,r2,p2,_⟩:=I.tuple h2
    have z:=SeqAt.RcAt.tuples (A:=A) p1 p2 (by (first|lia|omega)) (e:=fun _=>true) (zfR l l2 r1 r2 ih e2 hu)
    rw [zfP,List.size_toArray,List.size_toArray,← r1.length,← r2.length,l,l2,beq_self_eq_true,Bool.and_self] at z
    exact SeqAt.EqAt.of_refs hpq z
def rNeD (K:PySem.W.Frag):R2:=fun x y H Q=>∃ n ts,n≤60∧(zde K H (n+1) (.lst ts) x∧zde K H (n+1) (.lst ts) y∨zde K H (n+1) (.tup ts) x∧zde K H (n+1) (.tup ts) y)∧Q (.bl false) H
theorem zps (hu:X.A.units+64<cLine):OpR X (compareOp .NotEq) (rNeD X.K):=by
 intro pins s σ H x y v u Q I rx ry h
 obtain ⟨n,ts,hn,h,q⟩:=h
 have hu':X.A.units+(n+1)<cLine:=by (first|lia|omega)
 rcases h with ⟨h1,h2⟩ | ⟨h1,h2⟩
 ·cases h1 with
  | @lst _ p xs _ a1 a2 a3 =>
   cases h2 with
   | @lst _ p' ys _ b1 b2 b3 =>
    cases rx
    cases ry
    obtain ⟨us,r1,p1,_⟩:=I.list a1
    obtain ⟨vs,r2,p2,_⟩:=I.list b1
    have z:=SeqAt.RcNeAt.lists (A:=X.A) p1.isList p2.isList (by rw [List.size_toArray,List.size_toArray,← r1.length,← r2.length,a2,b2]) (by (first|lia|omega)) (e:=fun _=>true) (zfR a2 b2 r1 r2 (fun i x t e1 e2=>zkX I (a3 i x t e1 e2)) b3 hu')
    rw [zfP] at z
    exact z X.prog X.w X.xe _ ⟨.bl false,H,I,rfl,q⟩
 ·cases h1 with
  | @tup _ p xs _ a1 a2 a3 =>
   cases h2 with
   | @tup _ p' ys _ b1 b2 b3 =>
    cases rx
    cases ry
    obtain ⟨us,r1,p1,_⟩:=I.tuple a1
    obtain ⟨vs,r2,p2,_⟩:=I.tuple b1
    have z:=SeqAt.RcNeAt.tuples (A:=X.A) p1 p2 (by (first|lia|omega)) (e:=fun _=>true) (zfR a2 b2 r1 r2 (fun i x t e1 e2=>zkX I (a3 i x t e1 e2)) b3 hu')
    rw [zfP,List.size_toArray,List.size_toArray,← r1.length,← r2.length,a2,b2,beq_self_eq_true,Bool.and_self] at z
    exact z X.prog X.w X.xe _ ⟨.bl false,H,I,rfl,q⟩
end
end L2
namespace L2
open PySem PySem.Spec PyProof.Rows
section
variable {X:Cx}
end
def zfV (J:It) (g:TG) (tt:TT) (te:TE) (D:Addr) (Q:VK) (σ:St) (H:Hp):Prop:=∃ W:Nat→Nat→St→Hp→Prop,(∃ m,W 0 m σ H)∧∀ i m σc Hc,W i m σc Hc →
 (J.stop i Hc∧Q (.ref D) Hc)∨(J.go i Hc∧∃ N:St→Hp→Prop,(∀ σ' H',N σ' H'→∃ m',m'<m∧W (i+1) m' σ' H')∧∀ x H',J.yld i Hc x H'→g x σc H' fun σ2 H2=>tt σ2 H2 fun b H3=>if b=true then te σ2 H3 fun y H4=>zbP (.ref D) [y] H4 fun _ H5=>N σ2 H5 else N σ2 H3)
theorem zjQ {wi:TI} {g:TG} {tt:TT} {te:TE} {cap:List (Option Nat)} {σ:St} {H:Hp} {Q:VK}:zgt wi g tt te cap σ H Q=wi σ H fun J H1=>∀ D,H1 D=none→zfV J g tt te D Q (zpk cap σ) (upd H1 D (.lst [])):=rfl
theorem zff {K:PySem.W.Frag} {a:Addr} {xs:List V} {g:TG} {tt:TT} {te:TE} {σ:St} {H:Hp} {D:Addr} {Q:VK} (Pv:Nat→List V→St→Hp→Prop) (h0:Pv 0 [] σ (upd H D (.lst []))) (hl:∀ i ys σ H,i≤xs.length→Pv i ys σ H→SqL K H a xs)
  (hs:∀ i x ys σ H,xs[i]?=some x→H D=some (.lst ys)→Pv i ys σ H→g x σ H fun σ2 H2=>tt σ2 H2 fun b H3=>if b=true then te σ2 H3 fun y H4=>zbP (.ref D) [y] H4 fun _ H5=>∃ ys,H5 D=some (.lst ys)∧Pv (i+1) ys σ2 H5 else ∃ ys,H3 D=some (.lst ys)∧Pv (i+1) ys σ2 H3)
  (hd:∀ ys σ H,H D=some (.lst ys)→Pv xs.length ys σ H→Q (.ref D) H):zfV (Itl K a) g tt te D Q σ (upd H D (.lst [])):=zlU Pv h0 hl hs hd
theorem zje {lo:Int} {n:Nat} {g:TG} {tt:TT} {te:TE} {σ:St} {H:Hp} {D:Addr} {Q:VK} (Pv:Nat→List V→St→Hp→Prop) (h0:Pv 0 [] σ (upd H D (.lst [])))
  (hs:∀ i ys σ H,i<n→H D=some (.lst ys)→Pv i ys σ H→g (.int (lo+i)) σ H fun σ2 H2=>tt σ2 H2 fun b H3=>if b=true then te σ2 H3 fun y H4=>zbP (.ref D) [y] H4 fun _ H5=>∃ ys,H5 D=some (.lst ys)∧Pv (i+1) ys σ2 H5 else ∃ ys,H3 D=some (.lst ys)∧Pv (i+1) ys σ2 H3)
  (hd:∀ ys σ H,H D=some (.lst ys)→Pv n ys σ H→Q (.ref D) H):zfV (Itr lo n) g tt te D Q σ (upd H D (.lst [])):=zkG Pv h0 hs hd
theorem zng {K:PySem.W.Frag} {p q:Addr} {xs ys:List V} {g:TG} {tb:TS} {D:zbV} {σ:St} {H:Hp} (Pv:Nat→St→Hp→Prop) (h0:Pv 0 σ H) (hl:∀ i σ H,i≤min xs.length ys.length→Pv i σ H→SqL K H p xs∧SqL K H q ys)
  (hs:∀ i x y t σ H,xs[i]?=some x→ys[i]?=some y→Pv i σ H→H t=none→g (.ref t) σ (upd H t (.tup [x,y])) fun σ2 H2=>tb { D with nx:=Pv (i+1),ct:=Pv (i+1),bk:=D.nx } σ2 H2) (hd:∀ σ H,Pv (min xs.length ys.length) σ H→D.nx σ H):zkI (Itz K p q) g tb D σ H:=zo0 Pv h0 hl hs hd
end L2
namespace L2
open PySem PySem.Spec PyProof.Rows
section
variable {X:Cx}
def ze4:V→List V→Hp→VK→Prop:=fun x vs H Q=>∃ l xs k y,x=.ref l∧vs=[.int k,y]∧H l=some (.lst xs)∧0≤k∧k≤(xs.length:Int)∧xs.length<1000000∧Q .non (upd H l (.lst (xs.take k.toNat++y::xs.drop k.toNat)))
theorem zio {xs:List V} {us:List Value} (r:zbj xs us):∀ n:Nat,zbj (xs.take n) (us.take n)∧zbj (xs.drop n) (us.drop n):=by
 induction r with
 | nil=>intro n;rw [List.take_nil,List.take_nil,List.drop_nil,List.drop_nil];exact ⟨.nil,.nil⟩
 | cons h t ih =>
  intro n
  cases n with
  | zero=>exact ⟨.nil,.cons h t⟩
  | succ n=>exact ⟨.cons h (ih n).1,(ih n).2⟩
theorem ziE:MtM X "list.insert" ze4:=by
 intro pins s σ H x vs v us Q I rx rv h
 obtain ⟨l,xs,k,y,rfl,rfl,hH,k0,k1,hz,q⟩:=h
 cases rx
 obtain ⟨u,w,rfl,ru,rw'⟩:=zkN rv
 obtain ⟨tk,rfl⟩:=ru
 obtain ⟨z,its,n,r,hl,e⟩:=I.lstM hH
 have lr:=r.length
 have fit:¬(!Builtin.List.listFitsIndex k)=true:=by
  have:Builtin.List.listFitsIndex k=true:=by
   unfold Builtin.List.listFitsIndex
   simp only [Bool.and_eq_true,decide_eq_true_eq]
   (first|lia|omega)
  rw [this]
  decide
 refine call_meets F.slot_list_insert ⟨_,e,rfl⟩ F.entry_list_insert (F.args_list_insert_3 _ _ _) (AutoSeq1.list_insert_list_int_val_1 l its.toArray n k tk w fit (by rw [List.size_toArray];(first|lia|omega))) ⟨e,?_⟩
 refine ⟨.non,_,I.lset (its':=its.take k.toNat++w::its.drop k.toNat) hH e ?_ ((zio r _).1.append (.cons rw' (zio r _).2)) ?_,rfl,q⟩
 ·have e1:(if k<0 then (k+(its.toArray.size:Int)).toNat else min k.toNat its.toArray.size)=k.toNat:=by
   rw [if_neg (by (first|lia|omega)),List.size_toArray,← lr]
   (first|lia|omega)
  simp only [e1]
  apply Array.toList_inj.mp
  simp
  exact List.take_of_length_le (by rw [List.length_drop];exact Nat.le_refl _)
 ·rw [List.length_append,List.length_cons,List.length_take,List.length_drop]
  have:(1000000:Nat)≤sizeLine:=by decide
  (first|lia|omega)
end
end L2
namespace L2
open PySem PySem.Spec PyProof.Rows
theorem zm3:bootBuiltins "enumerate"=some (.type "enumerate"):=by decide +kernel
def Ite (K:PySem.W.Frag) (p:Addr):It where
 go:=fun i H=>∃ xs a,SqL K H p xs∧xs[i]?=some a
 yld:=fun i H x H'=>∃ t a,x=.ref t∧H t=none∧H'=upd H t (.tup [.int (i:Int),a])∧∀ xs,SqL K H p xs→xs[i]?=some a
 stop:=fun i H=>∃ xs,SqL K H p xs∧i=xs.length
def tnE (e it p:Addr) (i:Nat) (h:Heap):Prop:=(∃ old,IsEnum h e it i old)∧h.IsListIter it p i
theorem zit {e it p:Addr} {i:Nat} {h:Heap} (st:tnE e it p i h):∀ b∈[e,it],∃ o,h.get? b=some o∧∀ v,o.data≠.cell v:=fun b hb=>by
 obtain ⟨⟨old,a1⟩,⟨o2,a2,_,d2⟩⟩:=st
 simp only [List.mem_cons,List.not_mem_nil,or_false] at hb
 rcases hb with rfl | rfl
 ·exact ⟨_,a1,zbh rfl⟩
 ·exact ⟨_,a2,zbh d2⟩
theorem zln {P:Program} {w:World} {K:PySem.W.Frag} {elts:List Expr} {k:Nat} {pos:Pos} {e it p:Addr} (d1:e≠it) (d2:p≠e) (d3:p≠it):zo8 P w K (.Tuple elts k pos) (Ite K p) [e,it] e (tnE e it p) where
 mem:=by simp
 obj:=fun i h st=>zit st
 keep:=fun i h h' st kk=>by
  obtain ⟨⟨old,a1⟩,a2⟩:=st
  exact ⟨⟨old,kk e (by simp) _ a1⟩,a2.at fun o x=>kk it (by simp) o x⟩
 item:=by
  intro X hP hw hK hc i pins s σ H E I hf st hg
  subst hP hw hK
  obtain ⟨xs,a,hx,ea⟩:=hg
  obtain ⟨its,r1,pl1,z1⟩:=I.list hx
  obtain ⟨ua,eua,rua⟩:=r1.get ea
  have there:=zit st
  obtain ⟨s1,s2⟩:=st
  have W:=WalksT.enumerate (prog:=X.prog) (w:=X.w) (A:=X.A) (I.ok.hd hc) e it p d1 d2 d3 its.toArray
  have hi:i<its.toArray.size:=by
   have h1:=(List.getElem?_eq_some_iff.mp eua).1
   rw [List.size_toArray]
   exact h1
  refine W.item i s _ _ hi ⟨s1,s2,pl1.isList⟩ fun T vals h' tk hp hT hTup mid kk=>⟨_,rfl,?_⟩
  obtain ⟨t,u,e1,rfl⟩:=hp
  have e1':u=ua:=by
   have:its[i]?=some u:=by simpa using e1
   rw [eua] at this;cases this;rfl
  subst e1'
  refine W.go elts k pos i T { s with heap:=h',toks:=tk } _ _ mid fun h2 st2 kk2=>?_
  obtain ⟨t1,t2,_⟩:=st2
  have I1:Inv X pins σ H { s with heap:=h2,toks:=tk }:=I.turns (ch:=[e,it]) (fun b o hb q=>kk2 b o hb (kk b o hb q)) fun b hb=>hf b hb
  have nT:H T=none:=I.hok.fresh hT
  have I2:=I1.track (a:=T) (o:=.tup [.int (i:Int),a]) nT (Heap.get?_none_of_le (Nat.le_trans I.sz hT)) (Nat.ne_of_gt (Nat.lt_of_lt_of_le I.lt hT)) (fun x c q=>by
   obtain ⟨v,z⟩:=I.cell x c q
   exact Nat.ne_of_lt (Nat.lt_of_lt_of_le z.lt hT)) (fun y hy=>Nat.ne_of_lt (Nat.lt_of_lt_of_le (Heap.lt_size (I.pin y hy).1) hT)) (by
   refine ⟨by show 2≤sizeLine;decide,[.int i t,u],.cons ⟨t,rfl⟩ (.cons rua .nil),?_⟩
   obtain ⟨o,ho,hcl,hd⟩:=hTup
   exact ⟨o,kk2 T o (W.apart i T h' mid) ho,hcl,hd⟩)
  refine ⟨.ref T,_,I2,rfl,⟨T,a,rfl,nT,rfl,fun xs' h'=>?_⟩,⟨t1,t2⟩,fun b hb=>?_⟩
  ·rw [I.list_inj h' hx];exact ea
  ·obtain ⟨o,q,_⟩:=there b hb
   rw [zaq (Nat.ne_of_lt (Nat.lt_of_lt_of_le (Heap.lt_size q) hT))]
   exact (hf b hb).1
 done:=by
  intro X hP hw hK hc i pins s σ H E I hf st hg
  subst hP hw hK
  obtain ⟨xs,hx,rfl⟩:=hg
  obtain ⟨its,r1,pl1,z1⟩:=I.list hx
  obtain ⟨s1,s2⟩:=st
  have W:=WalksT.enumerate (prog:=X.prog) (w:=X.w) (A:=X.A) (I.ok.hd hc) e it p d1 d2 d3 its.toArray
  refine W.done s _ _ ?_ fun h' tk kk=>⟨rfl,I.turns (ch:=[e,it]) (fun b o hb q=>kk b o hb q) fun b hb=>hf b hb⟩
  rw [List.size_toArray,← r1.length]
  exact ⟨s1,s2,pl1.isList⟩
 self:=fun A i s Q E st h=>by
  obtain ⟨⟨old,a1⟩,_⟩:=st
  exact wpAny_pyIter_enum a1 h
def zlr (K:PySem.W.Frag) (ta:TA):TI:=fun σ H R=>ta σ H fun vs H1=>∃ p,vs=[.ref p]∧(∃ xs,SqL K H1 p xs)∧R (Ite K p) H1
theorem zl6 {X:Cx} {a:Expr} {elts:List Expr} {k:Nat} {tp p pos:Pos} {ta:TA} (hg:Gl X "enumerate") (hm:X.mg "enumerate"=none) (ha:PA X [a] ta) (hs:starEach [a] X.env=[(false,eval a X.env)]:=by rfl) :
  PI X (.Tuple elts k tp) (.Call (.Name "enumerate" p) [a] [] pos) (zlr X.K ta):=by
 intro pins s σ H R I h
 refine Call_ (zfw I hg hm zm3 (PyProof.Rows.callWith_type1 (thn (ha pos pins s σ H _ I h) fun us s1 hQ'=>?_) (by rw [hs];rfl) rfl))
 obtain ⟨vs,H1,I1,r1,q1⟩:=hQ'
 obtain ⟨p1,rfl,⟨xs,hx⟩,q⟩:=q1
 obtain ⟨u,rfl,ru⟩:=r1.one
 cases ru
 obtain ⟨its,_,pl1,_⟩:=I1.list hx
 have a1:p1<s1.heap.objs.size:=by obtain ⟨_,e,_⟩:=pl1.isList;exact Heap.lt_size e
 refine call_enumerate_list pl1.isList fun h' he hi hsz hk=>?_
 refine wpAny_pyIter_enum he ?_
 refine ⟨_,_,_,_,H1,rfl,I1.kept (t':=s1.toks) hk,zln (Nat.succ_ne_self _) (Nat.ne_of_lt (Nat.lt_succ_of_lt a1)) (Nat.ne_of_lt a1),⟨⟨_,he⟩,hi⟩,fun b hb=>?_,q⟩
 have hb':s1.heap.objs.size≤b:=by
  simp only [List.mem_cons,List.not_mem_nil,or_false] at hb
  rcases hb with h | h <;> rw [h] <;> first | exact Nat.le_refl _ | exact Nat.le_add_right _ _
 exact I1.fpOk hb' (I1.hok.fresh hb')
theorem zh0 {K:PySem.W.Frag} {p:Addr} {xs:List V} {g:TG} {tb:TS} {D:zbV} {σ:St} {H:Hp} (Pv:Nat→St→Hp→Prop) (h0:Pv 0 σ H) (hl:∀ i σ H,i≤xs.length→Pv i σ H→SqL K H p xs)
  (hs:∀ i x t σ H,xs[i]?=some x→Pv i σ H→H t=none→g (.ref t) σ (upd H t (.tup [.int (i:Int),x])) fun σ2 H2=>tb { D with nx:=Pv (i+1),ct:=Pv (i+1),bk:=D.nx } σ2 H2) (hd:∀ σ H,Pv xs.length σ H→D.nx σ H):zkI (Ite K p) g tb D σ H:=by
 refine ⟨fun i m σ H=>m=xs.length - i∧i≤xs.length∧Pv i σ H,⟨_,rfl,Nat.zero_le _,h0⟩,?_⟩
 rintro i m σ H ⟨rfl,hi,pv⟩
 have hx:=hl i σ H hi pv
 by_cases hlt:i<xs.length
 ·refine .inr ⟨⟨xs,xs[i],hx,by simp [hlt]⟩,Pv (i+1),fun σ' H' p'=>⟨_,by (first|lia|omega),rfl,hlt,p'⟩,fun x H' yl=>?_⟩
  obtain ⟨t,a,rfl,ht,rfl,e1⟩:=yl
  exact hs i a t σ H (e1 xs hx) pv ht
 ·have e:i=xs.length:=by (first|lia|omega)
  subst e
  exact .inl ⟨⟨xs,hx,rfl⟩,hd σ H pv⟩
end L2
namespace L2
open PySem PySem.Spec PyProof.Rows
section
variable {κ:Type} [DecidableEq κ]
def zeL (kvs:List (κ×V)) (k:κ):Option V:=(kvs.find? fun kv=>decide (kv.1=k)).map (·.2)
def zfz (kvs:List (κ×V)) (k:κ) (v:V):List (κ×V) :=
 if (kvs.any fun kv=>decide (kv.1=k))=true then kvs.map (fun kv=>if kv.1=k then (kv.1,v) else kv) else kvs++[(k,v)]
theorem zbO {p:κ×V} {r:List (κ×V)} {k:κ} (e:p.1=k):zeL (p::r) k=some p.2:=by simp [zeL,List.find?_cons,e]
theorem zbH {p:κ×V} {r:List (κ×V)} {k:κ} (e:¬ p.1=k):zeL (p::r) k=zeL r k:=by simp [zeL,List.find?_cons,e]
theorem zdN (k:κ):∀ kvs:List (κ×V),(kvs.any fun kv=>decide (kv.1=k))=(zeL kvs k).isSome
 | []=>rfl
 | p::r=>by
  rw [List.any_cons]
  by_cases e:p.1=k
  ·simp only [zbO e,decide_eq_true e,Bool.true_or,Option.isSome_some]
  ·rw [zbH e,decide_eq_false e,Bool.false_or];exact zdN k r
theorem zj4 (k j:κ) (y:V):∀ kvs:List (κ×V),zeL (kvs.map fun kv=>if kv.1=k then (kv.1,y) else kv) j=(zeL kvs j).map fun x=>if j=k then y else x
 | []=>rfl
 | p::r=>by
  have ih:=zj4 k j y r
  rw [List.map_cons]
  by_cases h:p.1=k
  ·rw [if_pos h]
   by_cases e:p.1=j
   ·rw [zbO (p:=(p.1,y)) e,zbO e,Option.map_some,if_pos (e.symm.trans h)]
   ·rw [zbH (p:=(p.1,y)) e,zbH e,ih]
  ·rw [if_neg h]
   by_cases e:p.1=j
   ·rw [zbO (p:=p) e,zbO e,Option.map_some,if_neg (fun z=>h (e.trans z))]
   ·rw [zbH (p:=p) e,zbH e,ih]
theorem zh5 (k j:κ) (y:V):∀ kvs:List (κ×V),zeL kvs k=none→zeL (kvs++[(k,y)]) j=if j=k then some y else zeL kvs j
 | [],_=>by
  by_cases e:k=j
  ·rw [if_pos e.symm];exact zbO (p:=(k,y)) e
  ·rw [if_neg (fun z=>e z.symm)];exact zbH (p:=(k,y)) e
 | p::r,hn=>by
  rw [List.cons_append]
  have hk:¬ p.1=k:=fun z=>by rw [zbO z] at hn;cases hn
  rw [zbH hk] at hn
  have ih:=zh5 k j y r hn
  by_cases e:p.1=j
  ·rw [zbO e,zbO e,if_neg (fun z=>hk (e.trans z))]
  ·rw [zbH e,zbH e,ih]
theorem zmr (kvs:List (κ×V)) (k j:κ) (y:V):zeL (zfz kvs k y) j=if j=k then some y else zeL kvs j:=by
 unfold zfz
 by_cases a:(kvs.any fun kv=>decide (kv.1=k))=true
 ·rw [if_pos a,zj4]
  rw [zdN] at a
  by_cases e:j=k
  ·obtain ⟨x,hx⟩:=Option.isSome_iff_exists.mp a
   rw [if_pos e,e,hx,Option.map_some,if_pos rfl]
  ·rw [if_neg e]
   cases zeL kvs j with
   | none=>rfl
   | some x=>rw [Option.map_some,if_neg e]
 ·rw [if_neg a]
  refine zh5 k j y kvs ?_
  rw [zdN] at a
  cases q:zeL kvs k with
  | none=>rfl
  | some x=>rw [q] at a;exact (a rfl).elim
theorem zd9 (kvs:List (κ×V)) (k:κ) (v:V):(zfz kvs k v).length≤kvs.length+1:=by
 unfold zfz
 split
 ·rw [List.length_map];(first|lia|omega)
 ·rw [List.length_append,List.length_cons,List.length_nil];(first|lia|omega)
theorem zmT {kvs:List (κ×V)} {k:κ} (v:V) (h:zeL kvs k=none):zfz kvs k v=kvs++[(k,v)]:=by
 unfold zfz
 rw [zdN,h]
 exact if_neg (by decide)
theorem zlP.isSome_eq {o:Option V} {u:Option Value} (r:zlP o u):o.isSome=u.isSome:=by
 cases o with
 | none=>cases u with
  | none=>rfl
  | some _=>exact (show False from r).elim
 | some _=>cases u with
  | none=>exact (show False from r).elim
  | some _=>rfl
theorem KV.val {kvs:List (κ×V)} {vs:List (κ×Value)} (r:KV kvs vs) (k:κ):zlP (zeL kvs k) (valueAt vs k):=by
 unfold KV at r
 induction r with
 | nil=>exact True.intro
 | @cons p q ps qs h t ih =>
  obtain ⟨h1,h2⟩:=h
  by_cases e:p.1=k
  ·have e':q.1=k:=h1.symm.trans e
   have b:valueAt (q::qs) k=some q.2:=by simp [valueAt,List.find?_cons,e']
   rw [zbO e,b];exact h2
  ·have e':¬ q.1=k:=fun z=>e (h1.trans z)
   have b:valueAt (q::qs) k=valueAt qs k:=by simp [valueAt,List.find?_cons,e']
   rw [zbH e,b];exact ih
theorem KV.any {kvs:List (κ×V)} {vs:List (κ×Value)} (r:KV kvs vs) (k:κ):(kvs.any fun kv=>decide (kv.1=k))=vs.any fun kv=>decide (kv.1=k):=by
 unfold KV at r
 induction r with
 | nil=>rfl
 | cons h t ih=>rw [List.any_cons,List.any_cons,ih,h.1]
theorem KV.repl {kvs:List (κ×V)} {vs:List (κ×Value)} (r:KV kvs vs) (k:κ) {y:V} {u:Value} (ry:zbG y u) :
  KV (kvs.map fun kv=>if kv.1=k then (kv.1,y) else kv) (vs.map fun kv=>if kv.1=k then (kv.1,u) else kv):=by
 unfold KV at r ⊢
 induction r with
 | nil=>exact .nil
 | @cons p q ps qs h t ih =>
  rw [List.map_cons,List.map_cons]
  refine .cons ?_ ih
  obtain ⟨h1,h2⟩:=h
  by_cases e:p.1=k
  ·rw [if_pos e,if_pos (h1.symm.trans e)];exact ⟨h1,ry⟩
  ·rw [if_neg e,if_neg (fun z=>e (h1.trans z))];exact ⟨h1,h2⟩
theorem KV.put {kvs:List (κ×V)} {vs:List (κ×Value)} (r:KV kvs vs) (k:κ) {y:V} {u:Value} (ry:zbG y u):KV (zfz kvs k y) (stored vs k u):=by
 unfold zfz stored
 rw [r.any k]
 by_cases e:(vs.any fun kv=>decide (kv.1=k))=true
 ·rw [if_pos e,if_pos e];exact r.repl k ry
 ·rw [if_neg e,if_neg e];exact Paired.snoc r ⟨rfl,ry⟩
theorem KV.length {kvs:List (κ×V)} {vs:List (κ×Value)} (r:KV kvs vs):kvs.length=vs.length:=Paired.length r
end
theorem znd {P:Program} {w:World} {k:Key} {u:Value} (r:zbG (kV k) u):(zbI P w).is k u=true:=by
 cases k with
 | inl i=>obtain ⟨t,e⟩:=(show ∃ t,u=Value.int i t from r);subst e;exact zju P w i t
 | inr x=>obtain ⟨t,e⟩:=(show ∃ t,u=Value.str x t from r);subst e;exact ziP P w x t
theorem zhE {P:Program} {w:World}:∀ {ks:List Key} {us:List Value},zbj (ks.map kV) us→ItemsAre (zbI P w) ks us
 | [],_,r=>by rw [List.map_nil] at r;cases r;exact .nil
 | k::ks,_,r=>by
  rw [List.map_cons] at r
  cases r with
  | cons h t=>exact .cons (znd h) (zhE t)
abbrev KT (H:Hp):List (List Key×V)→List (List Key×Addr×Value)→Prop:=Paired fun p q=>p.1=q.1∧H q.2.1=some (.tup (p.1.map kV))∧zbG p.2 q.2.2
theorem KT.val {H:Hp} {kvs:List (List Key×V)} {xs:List (List Key×Addr×Value)} (r:KT H kvs xs) (k:List Key):zlP (zeL kvs k) ((atKey xs k).map (·.2)):=by
 induction r with
 | nil=>exact True.intro
 | @cons p q ps qs h t ih =>
  obtain ⟨h1,_,h2⟩:=h
  by_cases e:p.1=k
  ·have e':q.1=k:=h1.symm.trans e
   have b:atKey (q::qs) k=some q.2:=by simp [atKey,List.find?_cons,e']
   rw [zbO e,b];exact h2
  ·have e':¬ q.1=k:=fun z=>e (h1.trans z)
   have b:atKey (q::qs) k=atKey qs k:=by simp [atKey,List.find?_cons,e']
   rw [zbH e,b];exact ih
theorem KT.repl {H:Hp} {kvs:List (List Key×V)} {xs:List (List Key×Addr×Value)} (r:KT H kvs xs) (k:List Key) {y:V} {u:Value} (ry:zbG y u) :
  KT H (kvs.map fun kv=>if kv.1=k then (kv.1,y) else kv) (xs.map (putAt k u)):=by
 induction r with
 | nil=>exact .nil
 | @cons p q ps qs h t ih =>
  rw [List.map_cons,List.map_cons]
  refine .cons ?_ ih
  obtain ⟨h1,h2,h3⟩:=h
  unfold putAt
  by_cases e:p.1=k
  ·rw [if_pos e,if_pos (h1.symm.trans e)];exact ⟨h1,h2,ry⟩
  ·rw [if_neg e,if_neg (fun z=>e (h1.trans z))];exact ⟨h1,h2,h3⟩
theorem KT.put {H:Hp} {kvs:List (List Key×V)} {xs:List (List Key×Addr×Value)} (r:KT H kvs xs) (k:List Key) {b:Addr} {y:V} {u:Value} (hb:H b=some (.tup (k.map kV))) (ry:zbG y u) :
  KT H (zfz kvs k y) (storedH xs k b u):=by
 have e:(kvs.any fun kv=>decide (kv.1=k))=(atKey xs k).isSome:=by
  rw [zdN,(r.val k).isSome_eq,Option.isSome_map]
 unfold zfz storedH
 rw [e]
 by_cases q:(atKey xs k).isSome=true
 ·rw [if_pos q,if_pos q];exact r.repl k ry
 ·rw [if_neg q,if_neg q];exact Paired.snoc r ⟨rfl,hb,ry⟩
theorem KT.keeps {H H':Hp} {kvs:List (List Key×V)} {xs:List (List Key×Addr×Value)} (r:KT H kvs xs) (ht:∀ b ys,H b=some (.tup ys)→H' b=some (.tup ys)):KT H' kvs xs :=
 Paired.mapP r fun _ _ z=>⟨z.1,ht _ _ z.2.1,z.2.2⟩
section
variable {P:Program} {w:World} {H:Hp} {h:Heap} {a:Addr}
theorem zp4 {u:HO} (ok:HOk P w H h) (e:Rd H a u):zbi P w H h a u:=e.ok ok
theorem zoK {kvs:List (Key×V)} (ok:HOk P w H h) (e:Rd H a (.dK kvs)):kvs.length≤sizeLine∧(a == sysModules)=false∧∃ vs,KV kvs vs∧h.DictOf (zbI P w) a vs :=
 show zbi P w H h a (.dK kvs) from zp4 ok e
theorem zpM {kvs:List (Key×V)} (ok:HOk P w H h) (e:H a=some (.dK kvs)):kvs.length≤sizeLine∧(a == sysModules)=false∧∃ vs,KV kvs vs∧h.DictOf (zbI P w) a vs:=zoK ok (.inl e)
theorem zlW {ks:List Key} (ok:HOk P w H h) (e:H a=some (.tup (ks.map kV))):(tupleKind (zbI P w)).is h ks a:=by
 obtain ⟨_,its,r,o,h1,h2,n,h3⟩:=(show zbi P w H h a (.tup (ks.map kV)) from ok a _ e)
 exact ⟨o,its.toArray,n,h1,h2,h3,by simpa using zhE r⟩
theorem zqb {kvs:List (List Key×V)} (ok:HOk P w H h) (e:Rd H a (.dT kvs)):kvs.length≤sizeLine∧(a == sysModules)=false ∧
  ∃ xs,KT H kvs xs∧h.DictOfH (tupleKind (zbI P w)) a xs:=by
 obtain ⟨z,y,xs,r,o,es,ep,h1,h2,h3,h4,h5⟩:=(show zbi P w H h a (.dT kvs) from zp4 ok e)
 refine ⟨z,y,xs,r,o,es,ep,h1,h2,h3,h4,fun x hx=>?_,h5⟩
 have all:∀ {l:List (List Key×V)} {m:List (List Key×Addr×Value)},KT H l m→∀ x∈m,(tupleKind (zbI P w)).is h x.1 x.2.1:=by
  intro l m q
  induction q with
  | nil=>intro x hx;exact nomatch hx
  | @cons p q ps qs hq t ih =>
   intro x hx
   rcases List.mem_cons.mp hx with e | hx
   ·subst e
    exact zlW ok (by rw [← hq.1];exact hq.2.1)
   ·exact ih x hx
 exact all r x hx
theorem dt_of {kvs:List (List Key×V)} (ok:HOk P w H h) (e:H a=some (.dT kvs)):kvs.length≤sizeLine∧(a == sysModules)=false ∧
  ∃ xs,KT H kvs xs∧h.DictOfH (tupleKind (zbI P w)) a xs:=zqb ok (.inl e)
end
def zpi (H:Hp) (a:Addr) (y:V) (r:Option V):Prop :=
 (∃ kvs k,Rd H a (.dK kvs)∧y=kV k∧r=zeL kvs k)∨∃ kvs k b,Rd H a (.dT kvs)∧y=.ref b∧H b=some (.tup (k.map kV))∧r=zeL kvs k
def znO (H:Hp) (a:Addr) (y v:V) (H':Hp):Prop :=
 (∃ kvs k,H a=some (.dK kvs)∧y=kV k∧kvs.length<sizeLine∧H'=upd H a (.dK (zfz kvs k v))) ∨
 ∃ kvs k b,H a=some (.dT kvs)∧y=.ref b∧H b=some (.tup (k.map kV))∧kvs.length<sizeLine∧H'=upd H a (.dT (zfz kvs k v))
theorem zpi.k {H:Hp} {a:Addr} {kvs:List (Key×V)} {k:Key} (e:H a=some (.dK kvs)):zpi H a (kV k) (zeL kvs k):=.inl ⟨kvs,k,.inl e,rfl,rfl⟩
theorem znO.k {H:Hp} {a:Addr} {kvs:List (Key×V)} {k:Key} {v:V} (e:H a=some (.dK kvs)) (hl:kvs.length<sizeLine):znO H a (kV k) v (upd H a (.dK (zfz kvs k v))):=.inl ⟨kvs,k,e,rfl,hl,rfl⟩
section
variable {X:Cx} {pins:List (Addr×Obj)} {σ:St} {H:Hp} {s:Shared} {a:Addr} {y v:V} {u r:Value} {o:Option V} {A:Around} {E:Value→Shared→Prop}
theorem Inv.big (I:Inv X pins σ H s):sysModules<s.heap.objs.size:=by
 have h:mainGlobals<s.heap.objs.size:=(I.mod.glob.keeps I.bk).lt
 exact Nat.lt_trans (by decide) h
theorem d_in {Q:Value→Shared→Prop} (hu:A.units+1<cLine) (I:Inv X pins σ H s) (g:zpi H a y o) (ry:zbG y u) (h:∀ s',Inv X pins σ H s'→Q (.bool o.isSome) s') :
  wpAny (model X.prog X.w) A (compareOp .In u (.ref a)) Q E s:=by
 rcases g with ⟨kvs,k,e,ey,l⟩ | ⟨kvs,k,b,e,ey,eb,l⟩
 ·subst ey
  obtain ⟨z,hd,vs,rel,dd⟩:=zoK I.hok e
  refine wpAny_in_of (znd ry) hd dd.mapOf ?_
  rw [← (rel.val k).isSome_eq,← l]
  exact h _ (I.tok _)
 ·subst ey
  cases (show u=Value.ref b from ry)
  obtain ⟨z,hd,xs,rel,dd⟩:=zqb I.hok e
  refine wpAny_in_heap (tupleKind_room_in1 hu) (zlW I.hok eb) hd dd ?_
  have q:=(rel.val k).isSome_eq
  rw [Option.isSome_map] at q
  rw [← q,← l]
  exact h _ (I.tok _)
theorem ziX {h':Heap} {t':Nat} {ob:HO} (I:Inv X pins σ H s) (mu:Mut (H a)) (hs:Heap.SameBut a s.heap h') (he:∃ q,h'.get? a=some q) (new:zbi X.prog X.w (upd H a ob) h' a ob) :
  Inv X pins σ (upd H a ob) { s with heap:=h',toks:=t' } :=
 I.write (x:=a) (e:=a) mu (.inl rfl) (fun b q hb z=>(hs.2 b hb).trans z) he new
theorem znJ {P:Program} {w:World} {H':Hp} {h':Heap} {kvs:List (Key×V)} {vs:List (Key×Value)} (z:kvs.length≤sizeLine) (hd:(a == sysModules)=false) (rel:KV kvs vs) (dd:h'.DictOf (zbI P w) a vs) :
  zbi P w H' h' a (.dK kvs):=⟨z,hd,vs,rel,dd⟩
theorem zk3 {H':Hp} {Q:Unit→Shared→Prop} (hu:A.units+1<cLine) (I:Inv X pins σ H s) (g:znO H a y v H') (ry:zbG y u) (rv:zbG v r) (h:∀ s',Inv X pins σ H' s'→Q () s') :
  wpAny (model X.prog X.w) A (setItem (.ref a) u r) Q E s:=by
 rcases g with ⟨kvs,k,e,ey,l,eH⟩ | ⟨kvs,k,b,e,ey,eb,l,eH⟩
 ·subst ey eH
  obtain ⟨z,hd,vs,rel,dd⟩:=zpM I.hok e
  have hz:vs.length≤sizeLine:=by rw [← rel.length];exact z
  have hl:(zfz kvs k v).length≤sizeLine:=by have:=zd9 kvs k v;(first|lia|omega)
  refine wpAny_setItem_pairs (hsz:=hz) (znd ry) dd fun h' dd' hs=>h _ ?_
  have he:∃ q,h'.get? a=some q:=let ⟨q,_,_,hq,_⟩:=dd';⟨q,hq⟩
  exact ziX I (by rw [e];exact True.intro) hs he (znJ hl hd (rel.put k rv) dd')
 ·subst ey eH
  cases (show u=Value.ref b from ry)
  obtain ⟨z,hd,xs,rel,dd⟩:=dt_of I.hok e
  have hz:xs.length≤sizeLine:=by rw [← Paired.length rel];exact z
  have hl:(zfz kvs k v).length≤sizeLine:=by have:=zd9 kvs k v;(first|lia|omega)
  refine wpAny_setItem_heap (hsz:=hz) (tupleKind_room_in1 hu) (zlW I.hok eb) dd fun h' dd' hs=>h _ ?_
  obtain ⟨q,es,ep,hq,h2,h3,h4,_,h5⟩:=dd'
  refine ziX I (by rw [e];exact True.intro) hs ⟨q,hq⟩ ⟨hl,hd,_,(rel.put k eb rv).keeps fun c ys ec=>?_,q,es,ep,hq,h2,h3,h4,h5⟩
  rw [zaq (ne_of ec e (fun z=>nomatch z))]
  exact ec
end
section
variable {X:Cx} {pins:List (Addr×Obj)} {σ:St} {H:Hp} {s:Shared} {a:Addr} {kvs:List (Key×V)} {k:Key} {u:Value} {A:Around} {E:Value→Shared→Prop}
theorem d_len {Q:Value→Shared→Prop} (I:Inv X pins σ H s) (e:Rd H a (.dK kvs)) (h:∀ t s',Inv X pins σ H s'→Q (.int kvs.length t) s'):wpAny (model X.prog X.w) A (call (.builtin "len") [.ref a]) Q E s:=by
 obtain ⟨z,hd,vs,rel,dd⟩:=zoK I.hok e
 refine call_len_dict hd dd (by rw [← rel.length];rw [sizeLine_eq] at z;(first|lia|omega)) ?_
 rw [← rel.length]
 exact h _ _ (I.tok _)
end
def zpf (ty td:TE):TE:=fun σ H Q=>ty σ H fun y H1=>td σ H1 fun x H2=>∃ a o,x=.ref a∧zpi H2 a y o∧Q (.bl o.isSome) H2
def zkl (td ty tv:TE):TS:=fun D σ H=>tv σ H fun v H1=>td σ H1 fun x H2=>ty σ H2 fun y H3=>∃ a H4,x=.ref a∧znO H3 a y v H4∧D.nx σ H4
section
variable {X:Cx} {o i e value:Expr} {pos pos' tpos:Pos} {td ty tv:TE}
theorem znT (hu:X.A.units+1<cLine) (hi:PE X i ty) (ho:PE X o td):PC X .In i o (zpf ty td):=by
 intro pins s σ H Q I h
 refine thn (hi pins s σ H _ I h) fun iv s1 ⟨y,H1,I1,ry,q1⟩=>thn (ho pins s1 σ H1 _ I1 q1) fun u s2 hQ'=>?_
 obtain ⟨x,H2,I2,rx,a,ov,ex,g,q2⟩:=hQ'
 subst ex
 obtain rfl:u=Value.ref a:=rx
 exact d_in hu I2 g ry fun s3 I3=>⟨.bl ov.isSome,H2,I3,rfl,q2⟩
theorem zlg (hu:X.A.units+1<cLine) (ho:PE X o td) (hi:PE X i ty) (hv:PE X value tv) (hs:swapsWith value (some (.Subscript o i pos')) pos.line X.env=pure false) :
  PS X (.Assign [.Subscript o i pos'] value pos) (zkl td ty tv):=by
 intro pins s σ H D I h
 refine wpAny_Assign_Subscript (thn (hv pins s σ H _ I h) fun r s1 ⟨v,H1,I1,rv,q1⟩=>thn (ho pins s1 σ H1 _ I1 q1) fun u s2 ⟨x,H2,I2,rx,q2⟩=>thn (hi pins s2 σ H2 _ I2 q2) fun iv s3 hQ'=>?_) hs
 obtain ⟨y,H3,I3,ry,a,H4,ex,g,q3⟩:=hQ'
 subst ex
 obtain rfl:u=Value.ref a:=rx
 exact zk3 hu I3 g ry rv fun s4 I4=>⟨σ,H4,I4,q3⟩
end
theorem znx {P:Program} {w:World} {H:Hp} (h:Heap) (hb:sysModules<h.objs.size):zbi P w H (h.push { cls:=.type "dict",data:=.dict #[] }) h.objs.size (.dK []) :=
 ⟨Nat.zero_le _,beq_eq_false_iff_ne.mpr (Ne.symm (Nat.ne_of_lt hb)),[],.nil,Heap.DictOf.new h⟩
section
variable {X:Cx} {pos:Pos}
end
def zka:List (TE×TE)→St→Hp→(List (V×V)→Hp→Prop)→Prop
 | [],_,H,Q=>Q [] H
 | (tk,tv)::r,σ,H,Q=>tk σ H fun x H1=>tv σ H1 fun y H2=>zka r σ H2 fun ps H3=>Q ((x,y)::ps) H3
abbrev VV:List (V×V)→List (Value×Value)→Prop:=Paired fun p q=>zbG p.1 q.1∧zbG p.2 q.2
def PPs (X:Cx) (pos:Pos) (keys:List (Option Expr)) (values:List Expr) (trs:List (TE×TE)):Prop :=
 ∀ (pins:List (Addr×Obj)) (s:Shared) (σ:St) (H:Hp) (Q:List (V×V)→Hp→Prop),Inv X pins σ H s→zka trs σ H Q →
  wpAny (model X.prog X.w) X.A (evalPairs (pairTrees keys values X.env pos)) (fun vs s'=>∃ ps H',Inv X pins σ H' s'∧VV ps vs∧Q ps H') X.xe s
theorem zon {X:Cx} {pos:Pos}:PPs X pos [] [] []:=fun pins s σ H Q I h=>pairTrees_nil_walk ⟨[],H,I,.nil,h⟩
theorem zmI {X:Cx} {pos:Pos} {k v:Expr} {ks:List (Option Expr)} {vs:List Expr} {tk tv:TE} {trs:List (TE×TE)} (hk:PE X k tk) (hv:PE X v tv) (hr:PPs X pos ks vs trs) :
  PPs X pos (some k::ks) (v::vs) ((tk,tv)::trs):=fun pins s σ H Q I h =>
 pairTrees_cons_walk (thn (hk pins s σ H _ I h) fun u s1 ⟨x,H1,I1,rx,q1⟩=>thn (hv pins s1 σ H1 _ I1 q1) fun w2 s2 ⟨y,H2,I2,ry,q2⟩ =>
  thn (hr pins s2 σ H2 _ I2 q2) fun ws s3 ⟨ps,H3,I3,rel,q3⟩=>⟨(x,y)::ps,H3,I3,.cons ⟨rx,ry⟩ rel,q3⟩)
def zh1 (kvs more:List (Key×V)):List (Key×V):=more.foldl (fun acc kv=>zfz acc kv.1 kv.2) kvs
theorem KV.merge:∀ {more:List (Key×V)} {rs:List (Key×Value)} {kvs:List (Key×V)} {vs:List (Key×Value)},KV more rs→KV kvs vs→KV (zh1 kvs more) (merged vs rs):=by
 intro more rs kvs vs r
 unfold KV at r
 induction r generalizing kvs vs with
 | nil=>intro q;exact q
 | @cons p q ps qs h t ih =>
  intro r0
  have e:KV (zfz kvs p.1 p.2) (stored vs q.1 q.2):=by
   have:=r0.put p.1 h.2
   rw [← h.1];exact this
  exact ih e
theorem zev:∀ (more kvs:List (Key×V)),(zh1 kvs more).length≤kvs.length+more.length
 | [],kvs=>by show kvs.length≤kvs.length+0;(first|lia|omega)
 | p::r,kvs=>by
  have h1:=zev r (zfz kvs p.1 p.2)
  have h2:=zd9 kvs p.1 p.2
  show (zh1 (zfz kvs p.1 p.2) r).length≤_
  rw [List.length_cons];(first|lia|omega)
theorem zgU {P:Program} {w:World}:∀ {kvs:List (Key×V)} {ws:List (Value×Value)},VV (kvs.map fun kv=>(kV kv.1,kv.2)) ws→∃ rs,Carries (zbI P w) ws rs∧KV kvs rs
 | [],_,r=>by rw [List.map_nil] at r;cases r;exact ⟨[],True.intro,.nil⟩
 | p::kvs,_,r=>by
  rw [List.map_cons] at r
  cases r with
  | @cons a b as bs h t =>
   obtain ⟨rs,c,q⟩:=zgU (P:=P) (w:=w) t
   obtain ⟨b1,b2⟩:=b
   exact ⟨(p.1,b2)::rs,⟨znd h.1,rfl,c⟩,.cons ⟨rfl,h.2⟩ q⟩
def zod (trs:List (TE×TE)):TE:=fun σ H Q=>∀ p,H p=none→zka trs σ (upd H p (.dK [])) fun ps H2=>H2 p=some (.dK [])∧∃ kvs:List (Key×V),ps=kvs.map (fun kv=>(kV kv.1,kv.2))∧kvs.length≤15∧Q (.ref p) (upd H2 p (.dK (zh1 [] kvs)))
theorem zn1 {X:Cx} {pos:Pos} {keys:List (Option Expr)} {values:List Expr} {trs:List (TE×TE)} (h:PPs X pos keys values trs) (hall:keys.all (·.isSome)=true) (hl:keys.length=values.length) (h0:keys≠[])
  (h15:keys.length≤15):PE X (.Dict keys values pos) (zod trs):=by
 intro pins s σ H Q I q
 have hn:=I.hok.fresh (Nat.le_refl s.heap.objs.size)
 have I1:=I.laid (a:=s.heap.objs.size) (o:=.dK []) (h':=s.heap.push { cls:=.type "dict",data:=.dict #[] }) (t':=s.toks) (fun _ _ q=>Heap.get?_push_of_some _ q) (Nat.le_refl _) (znx s.heap I.big)
 refine wpAny_Dict_walk (knd:=zbI X.prog X.w) hall hl h0 h15 (thn (h pins _ σ _ _ I1 (q _ hn)) fun ws s2 hQ'=>?_)
 obtain ⟨ps,H2,I2,rel,e,kvs,ep,lk,q2⟩:=hQ'
 subst ep
 obtain ⟨rs,c,rk⟩:=zgU (P:=X.prog) (w:=X.w) rel
 obtain ⟨z,hd,vs0,r0,dd⟩:=zpM I2.hok e
 cases r0
 refine ⟨rs,c,dd,fun h' dd' hs=>⟨.ref s.heap.objs.size,_,?_,rfl,q2⟩⟩
 have hz:(zh1 [] kvs).length≤sizeLine:=by
  have h1:=zev kvs []
  rw [List.length_nil] at h1
  rw [sizeLine_eq];(first|lia|omega)
 have he:∃ q,h'.get? s.heap.objs.size=some q:=let ⟨q,_,_,hq,_⟩:=dd';⟨q,hq⟩
 exact ziX I2 (by rw [e];exact True.intro) hs he (znJ hz hd (rk.merge .nil) dd')
section
variable {X:Cx} {pins:List (Addr×Obj)} {σ:St} {H:Hp} {s:Shared} {a:Addr} {y d:V} {u r:Value} {o:Option V} {A:Around} {E:Value→Shared→Prop}
end
section
variable {X:Cx} {o e f:Expr} {apos cpos:Pos} {td ty tx:TE}
end
section
variable {X:Cx} {pins:List (Addr×Obj)} {σ:St} {H:Hp} {s:Shared} {a:Addr} {kvs:List (Key×V)} {A:Around} {E:Value→Shared→Prop}
end
section
variable {X:Cx} {pins:List (Addr×Obj)} {σ:St} {H:Hp} {s:Shared} {a:Addr} {y:V} {u:Value} {A:Around} {E:Value→Shared→Prop}
end
end L2
namespace L2
open PySem PySem.Spec PyProof.Rows
section
variable {X:Cx}
theorem zf2:zdS X (.builtin "len") (fun xs H Q=>∃ a kvs,xs=[V.ref a]∧H a=some (.dK kvs)∧Q (.int kvs.length) H):=by
 intro pins s σ H xs us Q I r h
 obtain ⟨a,kvs,rfl,ha,q⟩:=h
 obtain ⟨u,rfl,ru⟩:=zfl r
 cases ru
 exact d_len I (.inl ha) fun t s' I'=>⟨.int kvs.length,H,I',⟨t,rfl⟩,q⟩
end
end L2
namespace L2
open PySem PySem.Spec PyProof.Rows
def zke:List V→Hp→VK→Prop:=fun xs H Q=>∃ a kvs,xs=[V.ref a]∧H a=some (.dK kvs)∧Q (.int kvs.length) H
def zmB (ta:TA):TE:=fun σ H Q=>ta σ H fun vs H1=>∃ i j:Int,vs=[.int i,.int j]∧(-(2 ^ 62)≤i∧i<2 ^ 62∧-(2 ^ 62)≤j∧j<2 ^ 62)∧∀ p,H1 p=none→Q (.ref p) (upd H1 p (.rng i j))
def zfI:List V→Hp→VK→Prop:=fun xs H Q=>∃ (p:Addr) (i j:Int),xs=[.ref p]∧H p=some (.rng i j)∧(-(2 ^ 62)≤i∧i<2 ^ 62∧-(2 ^ 62)≤j∧j<2 ^ 62)∧j - i≤1000∧∀ l,H l=none→Q (.ref l) (upd H l (.lst ((List.range (j - i).toNat).map fun k:Nat=>V.int (i+(k:Int)))))
section
variable {X:Cx}
theorem zmw {pins:List (Addr×Obj)} {σ:St} {H:Hp} {s:Shared} {lo hi:Int} {t u v:Tok} {tk:Nat} {Q:VK} (I:Inv X pins σ H s) (q:∀ p,H p=none→Q (.ref p) (upd H p (.rng lo hi))) :
  EP X pins σ Q (.ref s.heap.objs.size) { s with heap:=s.heap.push { cls:=.type "range",data:=.fields #[.int lo t,.int hi u,.int 1 v] },toks:=tk } :=
 ⟨.ref s.heap.objs.size,_,I.laid (a:=s.heap.objs.size) (o:=.rng lo hi) (t':=tk) (fun _ _ q=>Heap.get?_push_of_some _ q) (Nat.le_refl _) (show zbi X.prog X.w _ _ _ (.rng lo hi) from ⟨t,u,v,Heap.get?_push_size _ rfl⟩),rfl,q _ (I.hok.fresh (Nat.le_refl _))⟩
theorem zo5 {a b:Expr} {ta:TA} {p pos:Pos} (hg:Gl X "range") (hm:X.mg "range"=none) (ha:PA X [a,b] ta) (hs:starEach [a,b] X.env=[(false,eval a X.env),(false,eval b X.env)]:=by rfl) (hs2:starEach [b] X.env=[(false,eval b X.env)]:=by rfl) :
  PE X (.Call (.Name "range" p) [a,b] [] pos) (zmB ta):=by
 intro pins s σ H Q I h
 refine Call_ (zfw I hg hm boot_range (PyProof.Rows.callWith_type1 (thn (ha pos pins s σ H _ I h) fun us s1 hQ'=>?_) (by rw [hs,hs2]) (by rw [hs2];rfl)))
 obtain ⟨vs,H1,I1,r1,q1⟩:=hQ'
 obtain ⟨i,j,e,⟨q1,q2,q3,q4⟩,q⟩:=q1
 subst e
 cases r1 with
 | cons r rr =>
  cases rr with
  | cons r' rr =>
   cases rr
   obtain ⟨t,rfl⟩:=r
   obtain ⟨t',rfl⟩:=r'
   exact call_range_2 (zmw I1 q)
theorem zkW:∀ {xs:List V} {us:List Value},xs.length=us.length→(∀ (j:Nat) x u,xs[j]?=some x→us[j]?=some u→zbG x u)→zbj xs us
 | [],[],_,_=>.nil
 | [],_::_,h,_=>by simp at h
 | _::_,[],h,_=>by simp at h
 | x::xs,u::us,h,r=>.cons (r 0 x u rfl rfl) (zkW (by simpa using h) fun j y v e1 e2=>r (j+1) y v e1 e2)
theorem zku {lo:Int} {acc:Array Value} {n:Nat} (h:ItemsOf (fun i v=>∃ t,v=.int (lo+i*1) t) acc n):zbj ((List.range n).map fun k:Nat=>V.int (lo+(k:Int))) acc.toList:=by
 refine zkW (by rw [List.length_map,List.length_range,Array.length_toList,h.1]) fun j x u e1 e2=>?_
 rw [List.getElem?_map,Option.map_eq_some_iff] at e1
 obtain ⟨k,hk,rfl⟩:=e1
 obtain ⟨l1,l2⟩:=List.getElem?_eq_some_iff.mp hk
 rw [List.getElem_range] at l2
 subst l2
 obtain ⟨t,rfl⟩:=h.2 j u (by rw [← Array.getElem?_toList];exact e2)
 exact ⟨t,by rw [Int.mul_one]⟩
theorem zgY (hc:X.calm=true):zdS X (.type "list") zfI:=by
 intro pins s σ H xs us Q I r h
 obtain ⟨p,i,j,rfl,hp,⟨h1,h2,h3,h4⟩,hl,q⟩:=h
 obtain ⟨u,rfl,rx⟩:=zfl r
 cases rx
 obtain ⟨t,u,v,e⟩:=(show zbi X.prog X.w H s.heap p (.rng i j) from I.hok p _ hp)
 refine call_list_range (n:=(j - i).toNat) (I.ok.hd hc) e (small_one h1 h2 h3 h4) (by rw [rangeSize_one];split <;> (first|lia|omega)) (by (first|lia|omega)) fun h' tk acc c' kp e' it=>?_
 exact ⟨.ref s.heap.objs.size,_,I.laid (t':=tk) kp (Nat.le_refl _) (show zbi X.prog X.w _ h' _ (.lst _) from ⟨by simp [sizeLine_eq];(first|lia|omega),acc.toList,c',zku it,e'⟩),rfl,q _ (I.hok.fresh (Nat.le_refl _))⟩
end
end L2
namespace L2
open PySem PySem.Spec PyProof.Rows
theorem zcD (K:PySem.W.Frag):PySem.W.kitOne K (.type "list") (.type "tuple")=some false:=by first | rfl | kernel_rfl
theorem zd2 (K:PySem.W.Frag):PySem.W.kitOne K (.type "tuple") (.type "list")=some false:=by first | rfl | kernel_rfl
theorem zhk (K:PySem.W.Frag):PySem.W.kitOne K (.type "int") (.type "tuple")=some false:=by first | rfl | kernel_rfl
theorem zhW (K:PySem.W.Frag):PySem.W.kitOne K (.type "int") (.type "list")=some false:=by first | rfl | kernel_rfl
theorem zhp (K:PySem.W.Frag):PySem.W.kitOne K (.type "str") (.type "tuple")=some false:=by first | rfl | kernel_rfl
theorem zis (K:PySem.W.Frag):PySem.W.kitOne K (.type "str") (.type "list")=some false:=by first | rfl | kernel_rfl
theorem ziD (K:PySem.W.Frag):PySem.W.kitOne K (.type "str") (.type "bool")=some false:=by first | rfl | kernel_rfl
theorem zji (K:PySem.W.Frag):PySem.W.kitOne K (.type "str") (.type "int")=some false:=by first | rfl | kernel_rfl
theorem zcy {K:PySem.W.Frag} {H:Hp} {Q:VK} {x:V} {t c:String} {b:Bool} (h:zjZ K H x (.type t)) (e:PySem.W.kitOne K (.type t) (.type c)=some b) (q:Q (.bl b) H):zcQ K [x,.ty c] H Q:=⟨_,_,_,_,b,rfl,rfl,.of h,e,q⟩
end L2
namespace L2
open PySem
theorem zoA {v:V} {σ:List (Option V)} {H:Hp} {Q:VK}:zac 0 (some v::σ) H Q=Q v H:=by simp [zac]
theorem zo2 {x0:Option V} {v:V} {σ:List (Option V)} {H:Hp} {Q:VK}:zac 1 (x0::some v::σ) H Q=Q v H:=by simp [zac]
theorem zoB {x0 x1:Option V} {v:V} {σ:List (Option V)} {H:Hp} {Q:VK}:zac 2 (x0::x1::some v::σ) H Q=Q v H:=by simp [zac]
theorem zov {x0 x1 x2:Option V} {v:V} {σ:List (Option V)} {H:Hp} {Q:VK}:zac 3 (x0::x1::x2::some v::σ) H Q=Q v H:=by simp [zac]
theorem zn7 {x0 x1 x2 x3:Option V} {v:V} {σ:List (Option V)} {H:Hp} {Q:VK}:zac 4 (x0::x1::x2::x3::some v::σ) H Q=Q v H:=by simp [zac]
theorem zoN {x0 x1 x2 x3 x4:Option V} {v:V} {σ:List (Option V)} {H:Hp} {Q:VK}:zac 5 (x0::x1::x2::x3::x4::some v::σ) H Q=Q v H:=by simp [zac]
theorem zop {x0 x1 x2 x3 x4 x5:Option V} {v:V} {σ:List (Option V)} {H:Hp} {Q:VK}:zac 6 (x0::x1::x2::x3::x4::x5::some v::σ) H Q=Q v H:=by simp [zac]
theorem zor {x0 x1 x2 x3 x4 x5 x6:Option V} {v:V} {σ:List (Option V)} {H:Hp} {Q:VK}:zac 7 (x0::x1::x2::x3::x4::x5::x6::some v::σ) H Q=Q v H:=by simp [zac]
theorem zoy {x0 x1 x2 x3 x4 x5 x6 x7:Option V} {v:V} {σ:List (Option V)} {H:Hp} {Q:VK}:zac 8 (x0::x1::x2::x3::x4::x5::x6::x7::some v::σ) H Q=Q v H:=by simp [zac]
theorem zoU {x0 x1 x2 x3 x4 x5 x6 x7 x8:Option V} {v:V} {σ:List (Option V)} {H:Hp} {Q:VK}:zac 9 (x0::x1::x2::x3::x4::x5::x6::x7::x8::some v::σ) H Q=Q v H:=by simp [zac]
theorem zmX {x0 x1 x2 x3 x4 x5 x6 x7 x8 x9:Option V} {v:V} {σ:List (Option V)} {H:Hp} {Q:VK}:zac 10 (x0::x1::x2::x3::x4::x5::x6::x7::x8::x9::some v::σ) H Q=Q v H:=by simp [zac]
theorem zm1 {x0 x1 x2 x3 x4 x5 x6 x7 x8 x9 x10:Option V} {v:V} {σ:List (Option V)} {H:Hp} {Q:VK}:zac 11 (x0::x1::x2::x3::x4::x5::x6::x7::x8::x9::x10::some v::σ) H Q=Q v H:=by simp [zac]
theorem zm7 {x0 x1 x2 x3 x4 x5 x6 x7 x8 x9 x10 x11:Option V} {v:V} {σ:List (Option V)} {H:Hp} {Q:VK}:zac 12 (x0::x1::x2::x3::x4::x5::x6::x7::x8::x9::x10::x11::some v::σ) H Q=Q v H:=by simp [zac]
theorem zmG {x0 x1 x2 x3 x4 x5 x6 x7 x8 x9 x10 x11 x12:Option V} {v:V} {σ:List (Option V)} {H:Hp} {Q:VK}:zac 13 (x0::x1::x2::x3::x4::x5::x6::x7::x8::x9::x10::x11::x12::some v::σ) H Q=Q v H:=by simp [zac]
theorem zms {x0 x1 x2 x3 x4 x5 x6 x7 x8 x9 x10 x11 x12 x13:Option V} {v:V} {σ:List (Option V)} {H:Hp} {Q:VK}:zac 14 (x0::x1::x2::x3::x4::x5::x6::x7::x8::x9::x10::x11::x12::x13::some v::σ) H Q=Q v H:=by simp [zac]
theorem zm8 {x0 x1 x2 x3 x4 x5 x6 x7 x8 x9 x10 x11 x12 x13 x14:Option V} {v:V} {σ:List (Option V)} {H:Hp} {Q:VK}:zac 15 (x0::x1::x2::x3::x4::x5::x6::x7::x8::x9::x10::x11::x12::x13::x14::some v::σ) H Q=Q v H:=by simp [zac]
theorem znn {x0:Option V} {v:V} {σ:List (Option V)} {H:Hp} {Q:St→Hp→Prop}:zar 0 v (x0::σ) H Q=Q (some v::σ) H:=rfl
theorem zmA {x0 x1:Option V} {v:V} {σ:List (Option V)} {H:Hp} {Q:St→Hp→Prop}:zar 1 v (x0::x1::σ) H Q=Q (x0::some v::σ) H:=rfl
theorem zmY {x0 x1 x2:Option V} {v:V} {σ:List (Option V)} {H:Hp} {Q:St→Hp→Prop}:zar 2 v (x0::x1::x2::σ) H Q=Q (x0::x1::some v::σ) H:=rfl
theorem zmL {x0 x1 x2 x3:Option V} {v:V} {σ:List (Option V)} {H:Hp} {Q:St→Hp→Prop}:zar 3 v (x0::x1::x2::x3::σ) H Q=Q (x0::x1::x2::some v::σ) H:=rfl
theorem zmZ {x0 x1 x2 x3 x4:Option V} {v:V} {σ:List (Option V)} {H:Hp} {Q:St→Hp→Prop}:zar 4 v (x0::x1::x2::x3::x4::σ) H Q=Q (x0::x1::x2::x3::some v::σ) H:=rfl
theorem znq {x0 x1 x2 x3 x4 x5:Option V} {v:V} {σ:List (Option V)} {H:Hp} {Q:St→Hp→Prop}:zar 5 v (x0::x1::x2::x3::x4::x5::σ) H Q=Q (x0::x1::x2::x3::x4::some v::σ) H:=rfl
theorem znA {x0 x1 x2 x3 x4 x5 x6:Option V} {v:V} {σ:List (Option V)} {H:Hp} {Q:St→Hp→Prop}:zar 6 v (x0::x1::x2::x3::x4::x5::x6::σ) H Q=Q (x0::x1::x2::x3::x4::x5::some v::σ) H:=rfl
theorem zmE {x0 x1 x2 x3 x4 x5 x6 x7:Option V} {v:V} {σ:List (Option V)} {H:Hp} {Q:St→Hp→Prop}:zar 7 v (x0::x1::x2::x3::x4::x5::x6::x7::σ) H Q=Q (x0::x1::x2::x3::x4::x5::x6::some v::σ) H:=rfl
theorem zmv {x0 x1 x2 x3 x4 x5 x6 x7 x8:Option V} {v:V} {σ:List (Option V)} {H:Hp} {Q:St→Hp→Prop}:zar 8 v (x0::x1::x2::x3::x4::x5::x6::x7::x8::σ) H Q=Q (x0::x1::x2::x3::x4::x5::x6::x7::some v::σ) H:=rfl
theorem zmV {x0 x1 x2 x3 x4 x5 x6 x7 x8 x9:Option V} {v:V} {σ:List (Option V)} {H:Hp} {Q:St→Hp→Prop}:zar 9 v (x0::x1::x2::x3::x4::x5::x6::x7::x8::x9::σ) H Q=Q (x0::x1::x2::x3::x4::x5::x6::x7::x8::some v::σ) H:=rfl
theorem zlo {x0 x1 x2 x3 x4 x5 x6 x7 x8 x9 x10:Option V} {v:V} {σ:List (Option V)} {H:Hp} {Q:St→Hp→Prop}:zar 10 v (x0::x1::x2::x3::x4::x5::x6::x7::x8::x9::x10::σ) H Q=Q (x0::x1::x2::x3::x4::x5::x6::x7::x8::x9::some v::σ) H:=rfl
theorem zlZ {x0 x1 x2 x3 x4 x5 x6 x7 x8 x9 x10 x11:Option V} {v:V} {σ:List (Option V)} {H:Hp} {Q:St→Hp→Prop}:zar 11 v (x0::x1::x2::x3::x4::x5::x6::x7::x8::x9::x10::x11::σ) H Q=Q (x0::x1::x2::x3::x4::x5::x6::x7::x8::x9::x10::some v::σ) H:=rfl
theorem zlm {x0 x1 x2 x3 x4 x5 x6 x7 x8 x9 x10 x11 x12:Option V} {v:V} {σ:List (Option V)} {H:Hp} {Q:St→Hp→Prop}:zar 12 v (x0::x1::x2::x3::x4::x5::x6::x7::x8::x9::x10::x11::x12::σ) H Q=Q (x0::x1::x2::x3::x4::x5::x6::x7::x8::x9::x10::x11::some v::σ) H:=rfl
theorem zk2 {x0 x1 x2 x3 x4 x5 x6 x7 x8 x9 x10 x11 x12 x13:Option V} {v:V} {σ:List (Option V)} {H:Hp} {Q:St→Hp→Prop}:zar 13 v (x0::x1::x2::x3::x4::x5::x6::x7::x8::x9::x10::x11::x12::x13::σ) H Q=Q (x0::x1::x2::x3::x4::x5::x6::x7::x8::x9::x10::x11::x12::some v::σ) H:=rfl
theorem rI_c {C:Int→Int→Prop} {g:Int→Int→V} {a b:Int} {H:Hp} {Q:VK}:rI C g (.int a) (.int b) H Q=(C a b∧Q (g a b) H):=by simp [rI]
theorem rI0_c {g:Int→Int→V} {a b:Int} {H:Hp} {Q:VK}:rI0 g (.int a) (.int b) H Q=Q (g a b) H:=by simp [rI0]
theorem zqf {K:PySem.W.Frag} {p:Addr} {i:Int} {H:Hp} {Q:VK}:zer K (.ref p) (.int i) H Q=∃ xs,SqL K H p xs∧∃ v,atI xs i=some v∧Q v H:=by simp [zer]
theorem zqj {K:PySem.W.Frag} {p:Addr} {i:Int} {H:Hp} {Q:VK}:ziW K (.ref p) (.int i) H Q=∃ xs,SqT K H p xs∧∃ v,atI xs i=some v∧Q v H:=by simp [ziW]
theorem ex_bl {c:Bool} {Q:Bool→Prop}:(∃ k,V.bl c=V.bl k∧Q k)=Q c:=by simp
theorem zp5 {c:Int} {Q:Int→Prop}:(∃ k,V.int c=V.int k∧Q k)=Q c:=by simp
theorem zp7 {c:Addr} {Q:Addr→Prop}:(∃ k,V.ref c=V.ref k∧Q k)=Q c:=by simp
theorem zpX {c:Int} {Q:Int→Prop}:(∃ k,[V.int c]=[V.int k]∧Q k)=Q c:=by simp
theorem zpF {c:Addr} {Q:Addr→Prop}:(∃ k,[V.ref c]=[V.ref k]∧Q k)=Q c:=by simp
end L2
namespace Att
open PySem PySem.W PySem.Calls PyProof.Rows
theorem zgp {x:Int}:∀ {ns:List Int},x∈ns→WData.weight (.int x)≤WData.weightAll (ns.map WData.int)
 | [],h=>absurd h (List.not_mem_nil)
 | y::ns,h=>by
  rw [List.map_cons,WData.weightAll]
  rcases List.mem_cons.mp h with e | e
  ·rw [← e]
   (first|lia|omega)
  ·have:=zgp e
   (first|lia|omega)
theorem zoz {ns:List Int} (h:WData.layableAll [WData.list (ns.map WData.int)]=true):∀ x∈ns,x.natAbs<2 ^ 2 ^ 20:=by
 intro x hx
 have h1:(WData.list (ns.map WData.int)).layable=true:=(layW_cons h).1
 have h2:WData.weight (.list (ns.map WData.int))≤2 ^ 20:=by
  unfold WData.layable at h1
  rw [Bool.and_eq_true] at h1
  exact of_decide_eq_true h1.2
 rw [WData.weight] at h2
 have h3:=Nat.le_trans (zgp hx) h2
 rw [WData.weight] at h3
 by_cases h0:x=0
 ·subst h0
  exact Nat.two_pow_pos _
 ·rw [if_neg (by simpa using h0)] at h3
  have hn:x.natAbs≠0:=fun e=>h0 (Int.natAbs_eq_zero.mp e)
  exact (Nat.log2_lt hn).mp h3
theorem attach_callL {l:OpenLaw} {n:Nat} {q:Program} {loose:List Str} {XP:(Str→Option Value)→Heap→Prop} {YP:World→Heap→Prop} {d:DefRec}
  (hn:l.most=some n) (hdf:d.params.defaults=[])
  (call:∀ (w:World) (s₀ s₁:Shared) (mg mb:Str→Option Value) (fa:Addr) (o:Obj) (pm cd doc:Value) (a:Addr) (vs:List Value) (ns:List Int),(∀ x∈ns,x.natAbs<2 ^ 2 ^ 20) →
   Ground q loose [] XP w s₀ mg mb s₁.heap→YP w s₁.heap →
   s₁.heap.get? fa=some o→o.data=.func (docDef d.name d.params d.body d.scope pm cd doc)→s₁.heap.CodeRec cd d.name→mg d.name=some (.ref fa) →
   s₁.heap.get? a=some { cls:=.type "list",data:=.seq vs.toArray }→IntsAre vs ns→ns.length≤n→s₁.gens=#[] →
   codeAny (model l.prog w) callerA (.call (.ref fa) ⟨[.ref a],[]⟩) (fun r s'=>r=.ok (.ret (.bool true))∧OldK s₁.heap s'.heap∧s'.os=s₁.os∧AllBare s'.gens) s₁) :
  WalkO q loose XP YP l.row.toRowW d [] (fun f vs=>PySem.call f vs):=by
 intro w s₀ s₁ mg mb G Y fa o pm cd doc dV kV ho hd hcd hD hmg hg args vals as hpre hlay hrd hwl hlo
 obtain rfl:dV=.none:=Dflts.none hD hdf
 obtain rfl:kV=.none:=Dflts.noKw hD
 obtain ⟨a,vs,ns,rfl,rfl,hobj,hints,hlen⟩:=zlb hn hpre hwl
 refine enter_call (codeAny_mono (call w s₀ s₁ mg mb fa o pm cd doc a vs ns (zoz hlay) G Y ho (fd_plain hd) hcd hmg hobj hints hlen hg) fun r s' hq=>?_)
 obtain ⟨rfl,h2,h3,h4⟩:=hq
 exact ⟨.inl ⟨.bool true,.bool true,[],rfl,fun _=>rfl,.bool true,zl1 l _,fun _=>⟨List.Pairwise.nil,fun _ hm=>(nomatch hm)⟩⟩,h2,h3,h4⟩
end Att
namespace L2
open PySem PySem.Spec PyProof.Rows
end L2
namespace L2
open PySem PySem.Spec PyProof.Rows
section
variable {α β:Type}
def Kd:Sem α→Prop
 | .pure _=>True
 | .raise _=>True
 | .unsupported _=>True
 | .finish _=>True
 | .rule _ k=>Kd (k ())
 | .at _ k=>Kd (k ())
 | .load _ _ k=>∀ o,Kd (k o)
 | .update _ _ f k=>(∀ o:Obj,(f o).dict=o.dict∧(f o).isFreed=o.isFreed)∧Kd (k ())
 | .alloc _ k=>∀ a,Kd (k a)
 | .loadIfAlive _ k=>∀ o,Kd (k o)
 | .point _ k=>Kd (k ())
 | .fresh k=>∀ n,Kd (k n)
 | .ask k=>∀ n,Kd (k n)
 | .handled _ k=>∀ n,Kd (k n)
 | .stack k=>∀ l,Kd (k l)
 | .thread k=>∀ n,Kd (k n)
 | _=>False
theorem zaI {f:α→Sem β} (hf:∀ x,Kd (f x)):∀ {t:Sem α},Kd t→Kd (t >>= f)
 | .pure a,_=>hf a
 | .raise _,_=>trivial
 | .unsupported _,_=>trivial
 | .finish _,_=>trivial
 | .rule _ k,h=>zaI hf (t:=k ()) h
 | .at _ k,h=>zaI hf (t:=k ()) h
 | .load _ _ k,h=>fun o=>zaI hf (t:=k o) (h o)
 | .update _ _ _ k,h=>⟨h.1,zaI hf (t:=k ()) h.2⟩
 | .alloc _ k,h=>fun o=>zaI hf (t:=k o) (h o)
 | .loadIfAlive _ k,h=>fun o=>zaI hf (t:=k o) (h o)
 | .point _ k,h=>zaI hf (t:=k ()) h
 | .fresh k,h=>fun o=>zaI hf (t:=k o) (h o)
 | .ask k,h=>fun o=>zaI hf (t:=k o) (h o)
 | .handled _ k,h=>fun o=>zaI hf (t:=k o) (h o)
 | .stack k,h=>fun o=>zaI hf (t:=k o) (h o)
 | .thread k,h=>fun o=>zaI hf (t:=k o) (h o)
 | .register ..,h=>h.elim
 | .choose ..,h=>h.elim
 | .os ..,h=>h.elim
 | .call ..,h=>h.elim
 | .newGen ..,h=>h.elim
 | .genState ..,h=>h.elim
 | .resume ..,h=>h.elim
 | .yield ..,h=>h.elim
 | .fork ..,h=>h.elim
 | .await ..,h=>h.elim
def zhT (e:Addr) (od:Option Addr) (h:Heap):Prop:=∃ o,h.get? e=some o∧o.dict=od
theorem zfi {M:Model} {Γ:PySem.Ctx} {Q:α→Pos→Shared→Prop} {E:Value→Pos→Shared→Prop} {e:Addr} {od:Option Addr}:∀ {t:Sem α} {p:Pos} {s:Shared},Kd t→zhT e od s.heap→Sem.wp M Γ t Q E p s →
  Sem.wp M Γ t (fun a p s'=>Q a p s'∧zhT e od s'.heap) E p s
 | .pure _,_,_,_,d,h=>⟨h,d⟩
 | .raise _,_,_,_,_,h=>h
 | .unsupported _,_,_,_,_,h=>h
 | .finish _,_,_,_,_,h=>h
 | .rule _ k,_,_,c,d,h=>zfi (t:=k ()) c d h
 | .at _ k,_,_,c,d,h=>zfi (t:=k ()) c d h
 | .load _ _ k,_,_,c,d,⟨o,ho,h⟩=>⟨o,ho,zfi (t:=k o) (c o) d h⟩
 | .update a _ f k,p,s,c,d,⟨hi,h⟩=>by
  refine ⟨hi,zfi (t:=k ()) c.2 ?_ h⟩
  obtain ⟨o,ho,hd⟩:=d
  by_cases ea:a=e
  ·subst ea
   have nf:o.isFreed=false:=(Heap.get?_some_iff.mp ho).2
   exact ⟨f o,Heap.get?_update_self f ho (by rw [(c.1 o).2];exact nf),by rw [(c.1 o).1];exact hd⟩
  ·exact ⟨o,(Heap.get?_update_other _ f ea).trans ho,hd⟩
 | .alloc o k,p,s,c,⟨o',ho,hd⟩,h=>zfi (t:=k _) (c _) ⟨o',Heap.get?_push_of_some _ ho,hd⟩ h
 | .loadIfAlive _ k,_,_,c,d,h=>zfi (t:=k _) (c _) d h
 | .point _ k,_,_,c,d,h=>zfi (t:=k ()) c d h
 | .fresh k,_,_,c,d,h=>zfi (t:=k _) (c _) d h
 | .ask k,_,_,c,d,h=>zfi (t:=k _) (c _) d h
 | .handled _ k,_,_,c,d,h=>zfi (t:=k _) (c _) d h
 | .stack k,_,_,c,d,h=>zfi (t:=k _) (c _) d h
 | .thread k,_,_,c,d,h=>zfi (t:=k _) (c _) d h
 | .register ..,_,_,c,_,_=>c.elim
 | .choose ..,_,_,c,_,_=>c.elim
 | .os ..,_,_,c,_,_=>c.elim
 | .call ..,_,_,c,_,_=>c.elim
 | .newGen ..,_,_,c,_,_=>c.elim
 | .genState ..,_,_,c,_,_=>c.elim
 | .resume ..,_,_,c,_,_=>c.elim
 | .yield ..,_,_,c,_,_=>c.elim
 | .fork ..,_,_,c,_,_=>c.elim
 | .await ..,_,_,c,_,_=>c.elim
theorem zgJ {M:Model} {A:Around} {t:Sem α} {Q:α→Shared→Prop} {E:Value→Shared→Prop} {s:Shared} {e:Addr} {od:Option Addr} (c:Kd t) (d:zhT e od s.heap) (h:wpAny M A t (fun a s'=>zhT e od s'.heap→Q a s') E s):wpAny M A t Q E s:=fun Γ p hΓ =>
 Sem.wp_mono M Γ t (fun _ _ _ z=>z.1 z.2) (fun _ _ _ z=>z) p s (zfi c d (h Γ p hΓ))
end
theorem zhX (f:Array Value→Array Value) (o:Obj):(Obj.mapFields f o).dict=o.dict∧(Obj.mapFields f o).isFreed=o.isFreed:=by
 obtain ⟨c,d,dat,sl⟩:=o
 cases dat <;> exact ⟨rfl,rfl⟩
theorem zbm {α:Type} (a:α):Kd (pure a:Sem α):=trivial
theorem zdU {α:Type} (w:String):Kd (unsupported w:Sem α):=trivial
theorem ziZ (a:Addr):Kd (load a):=fun _=>trivial
theorem zg0:Kd stack:=fun _=>trivial
theorem znb (o:Obj):Kd (alloc o):=fun _=>trivial
theorem znS {a:Addr} {f:Obj→Obj} (h:∀ o:Obj,(f o).dict=o.dict∧(f o).isFreed=o.isFreed):Kd (update a f):=⟨h,trivial⟩
theorem zij {α:Type} {c:Prop} [Decidable c] {a b:Sem α} (h1:Kd a) (h2:Kd b):Kd (if c then a else b):=by
 split
 ·exact h1
 ·exact h2
theorem zfH (v:Value) (i:Nat):Kd (field v i):=by
 unfold field fieldsOf
 refine zaI (fun x=>?_) ?_
 ·split
  ·exact zbm _
  ·exact zdU _
 ·split
  ·refine zaI (fun o=>?_) (ziZ _)
   split
   ·exact zbm _
   ·exact zdU _
  ·exact zdU _
theorem zeg (v:Value) (i:Nat) (x:Value):Kd (setField v i x):=by
 unfold setField updateField
 split
 ·refine zaI (fun o=>?_) (ziZ _)
  split
  ·exact zij (znS (zhX _)) (zdU _)
  ·exact zdU _
 ·exact zdU _
theorem ziA (ty:String) (vs:List Value):Kd (newFields ty vs):=by
 unfold newFields newObj newObjAsIs
 simp only
 split
 ·exact zdU _
 ·exact zaI (fun _=>zbm _) (znb _)
theorem zdX:∀ l:List Env,Kd (readyFrames l)
 | []=>trivial
 | env::outer=>by
  have ih:=zdX outer
  unfold readyFrames
  split
  ·refine zaI (fun o=>?_) (ziZ _)
   refine zij (zbm _) ?_
   refine zaI (fun im=>?_) ?_
   ·refine zaI (fun bk=>?_) ?_
    ·exact zaI (fun _=>ih) (znS fun o=>⟨rfl,by obtain ⟨c,d,dat,sl⟩:=o;cases dat <;> rfl⟩)
    ·unfold keptBack underTheClaimsCaller
     split
     ·refine zij (zbm _) ?_
      exact zaI (fun _=>zbm _) (zaI (fun _=>zbm _) zg0)
     ·exact zbm _
   ·unfold behindIsImport
    refine zij (zbm _) (zij (zbm _) ?_)
    exact zaI (fun _=>zbm _) (zfH _ _)
  ·exact zdU _
theorem zkn (env:Env):Kd (PySem.frameOf env):=by
 unfold PySem.frameOf frameEnvs
 refine zaI (fun x=>?_) (zaI (fun _=>zbm _) zg0)
 refine zaI (fun y=>?_) ?_
 ·split
  ·exact zbm _
  ·exact zdU _
 ·unfold frameObject
  split
  ·exact zbm _
  ·exact zaI (fun _=>zbm _) (zdX _)
theorem zf4 (f:Addr) (b:Bool):Kd (entryPlaceOf f b):=by
 unfold entryPlaceOf
 refine zaI (fun x=>?_) zg0
 split
 ·exact zbm _
 ·exact zbm _
theorem zft (e:Value) (env:Env):Kd (noteFrame e env):=by
 unfold noteFrame EntryCells.newEntry
 split
 ·refine zaI (fun head=>?_) (zfH _ _)
  have ziJ:∀ f:Addr,Kd (do let a ← PySem.frameOf env;let pl ← entryPlaceOf f (head != .none);let b ← newFields "traceback" ([head,a,.none,rawInt f,.none]++(if pl.isEmpty then List.replicate 6 .none else pl));setField e 1 b):=fun f =>
   zaI (fun _=>zaI (fun _=>zaI (fun _=>zeg _ _ _) (ziA _ _)) (zf4 _ _)) (zkn _)
  refine zij ?_ (ziJ _)
  refine zaI (fun x=>zij (zbm _) ?_) (zfH _ _)
  exact zaI (fun _=>ziJ _) (zeg _ _ _)
 ·exact zdU _
theorem zdn (e:Value) (f:Option Addr):Kd (setFlight e f):=by
 unfold setFlight
 exact zaI (fun _=>zij (zeg _ _ _) (zbm _)) (zfH _ _)
theorem zfd (env:Env) (e:Value):Kd (leaving env e):=by
 unfold leaving
 exact zaI (fun _=>zdn _ _) (zft _ _)
structure ExI (K:PySem.W.Frag) (C fI:Addr):Prop where
 lk:∃ nm q N bs bm sn sub ab col dd k0 k1 k2 k3 k5,K.lookup C=some (excClassObj nm q C N bs bm true sn sub ab col dd k0 k1 k2 k3 k5 "ValueError.__new__")∧PySem.W.tailIn K zgx bm=true
 ini:PySem.W.findIn K (.ref C) "__init__"=some (some (.ref fI))
 fn:PySem.W.isFn K (.ref fI)=true
 kp:PySem.W.keepIn K (.ref C)=true
 mo:PySem.W.mroIn K C (.type "object")=some true
 sa:PySem.W.findIn K (.ref C) "__setattr__"=some (some (.builtin "object.__setattr__"))
section
variable {K:PySem.W.Frag} {prog:Program} {w:World} {A:Around} {E:Value→Shared→Prop} {h:Heap} {g:Array GenState} {d:Drawn} {t:Nat} {os:OsState} {C fI:Addr} {us:List Value}
theorem zol {bm:List Value} {nm q:Str} {N:Addr} {bs:List Value} {hdct:Bool} {sn:List Str} {sub:List Value} {ab:Bool} {col:Option Bool} {dd:Option Addr} {k0 k1 k2 k3 k5:Option Value} {Q:Fin→Shared→Prop} (X:K.In h) (Z:ExI K C fI)
  (kC:h.get? C=some (excClassObj nm q C N bs bm hdct sn sub ab col dd k0 k1 k2 k3 k5 "ValueError.__new__")) (T:OwnTail h zgx bm) (hl:us.length≤sizeLine)
  (hq:∀ h1 x,x=h.objs.size+1→Heap.MadeExcOf h h1 x (.ref C) us→wpAny (model prog w) A (call (.ref fI) (.ref x::us)) (fun r s'=>r=.none∧Q (.done (.ret (.ref x))) s') E ⟨h1,g,d,t,os⟩) :
  wpAny (model prog w) A (Builtin.«type.__call__» ⟨.ref C::us,[]⟩) Q E ⟨h,g,d,t,os⟩:=by
 have F:=PySem.F.excBase_ValueError
 repeat (first | (with_reducible refine wpAny_loadPart_at kC ?_) | (with_reducible refine wpAny_madeBy_exc kC ?_) | wp_step)
 refine codeAny_call_builtin_code (Code.quiet_builtin _ F.quiet) (wpAny_check_new_subT F T kC (codeAny_exc_new_subT F T kC ?_ hl))
 show wpAny _ _ _ _ _ _
 have st:∀ b o,h.get? b=some o→((h.push { cls:=.type "tuple",data:=.seq us.toArray }).push { cls:=.ref C,data:=.fields #[.ref h.objs.size,.none,.none,.none,.bool false,.none] }).get? b=some o :=
  fun b o e=>Heap.get?_push_of_some _ (Heap.get?_push_of_some _ e)
 have gx:((h.push { cls:=.type "tuple",data:=.seq us.toArray }).push { cls:=.ref C,data:=.fields #[.ref h.objs.size,.none,.none,.none,.bool false,.none] }).get? (h.objs.size+1) =
   some { cls:=.ref C,data:=.fields #[.ref h.objs.size,.none,.none,.none,.bool false,.none] }:=by heap_get
 have gt:((h.push { cls:=.type "tuple",data:=.seq us.toArray }).push { cls:=.ref C,data:=.fields #[.ref h.objs.size,.none,.none,.none,.bool false,.none] }).get? h.objs.size =
   some { cls:=.type "tuple",data:=.seq us.toArray }:=Heap.get?_push_of_some _ (Heap.get?_push_at rfl rfl)
 generalize ((h.push { cls:=.type "tuple",data:=.seq us.toArray }).push { cls:=.ref C,data:=.fields #[.ref h.objs.size,.none,.none,.none,.bool false,.none] })=h1 at st gx gt ⊢
 have X1:K.In h1:=fun a o e=>st a o (X a o e)
 have k1:=st _ _ kC
 have LI:=PySem.W.looks_findIn (M:=model prog w) X1 Z.ini
 have cC:(Value.ref C::bm).contains (.ref C)=true:=by simp
 unfold isInstance
 repeat (first | (with_reducible refine wpAny_loadPart_at gx ?_) | (with_reducible refine wpAny_isSubtype_exc k1 ?_;rw [cC]) | (with_reducible refine LI.at ?_) | wp_step)
 refine (PySem.W.bind_fn (M:=model prog w) X1 (.ref (h.objs.size+1)) (beq_iff_eq.mp Z.fn)).at ?_
 refine wpAny_bind (wpAny_mono (hq h1 (h.objs.size+1) rfl ⟨st,Heap.get?_none_of_le (Nat.le_succ _),h.objs.size,gx,Heap.get?_none_of_le (Nat.le_refl _),gt⟩) (fun r s' z=>?_) fun _ _ z=>z)
 obtain ⟨rfl,z⟩:=z
 refine wpAny_pure ?_
 wp_walk
 exact z
theorem zk6 {Q:Value→Shared→Prop} (X:K.In h) (Z:ExI K C fI) (hl:us.length≤sizeLine)
  (hq:∀ h1 x,x=h.objs.size+1→Heap.MadeExcOf h h1 x (.ref C) us→wpAny (model prog w) (A.under (.builtin "type.__call__" ⟨.ref C::us,[]⟩)) (call (.ref fI) (.ref x::us)) (fun r s'=>r=.none∧Q (.ref x) s') E ⟨h1,g,d,t,os⟩) :
  wpAny (model prog w) A (call (.ref C) us) Q E ⟨h,g,d,t,os⟩:=by
 obtain ⟨nm,q,N,bs,bm,sn,sub,ab,col,dd,k0,k1,k2,k3,k5,lk,tl⟩:=Z.lk
 have kC:=X _ _ lk
 have l1:=tc_lookup
 have l2:=tc_bind (.ref C)
 have l3:(⟨h,g,d,t,os⟩:Shared).TypeIs (.ref C) "type":=⟨_,kC,rfl⟩
 refine wpAny_call (codeAny_of_tree ?_)
 show wpAny _ _ (callAny (.ref C) _) _ _ _
 repeat (any_goals (first | assumption | (with_reducible refine wpAny_loadPart_at kC ?_) | wp_step))
 refine ⟨rfl,codeAny_call_builtin_at (Code.quiet_builtin _ (by decide +kernel)) entry_typeCall (wpAny_check_type_call_sub kC ?_)⟩
 exact zol X Z kC (PySem.W.tail_of_in X tl) hl hq
end
def zkQ (x:Addr) (C:Addr):HO:=.ext fun h=>∃ o t0,h.get? x=some o∧o.cls=.ref C∧o.dict=none∧o.data=.fields #[.ref t0,.none,.none,.none,.bool false,.none]
def zkR (x:Addr) (C dx:Addr):HO:=.ext fun h=>∃ o t0,h.get? x=some o∧o.cls=.ref C∧o.dict=some dx∧o.data=.fields #[.ref t0,.none,.none,.none,.bool false,.none]
structure ExB (K:PySem.W.Frag) (D:Addr):Prop where
 sg:PySem.W.specialIn K (.ref D) "__getattribute__"=some (some (.builtin "type.__getattribute__"))
 rd:PySem.W.readsIn K D (.type "type")=true
 fc:PySem.W.findCls K (.ref D) (.type "type") "__init__"=some (.val (.builtin "ValueError.__init__"))
theorem zmM {H:Hp} {x:Addr} {o:HO} (h:H x=some o):upd H x o=H:=by
 funext b
 unfold upd
 split
 ·rename_i e
  rw [e,h]
 ·rfl
section
variable {X:Cx} {pins:List (Addr×Obj)} {σ:St} {H:Hp} {s:Shared}
theorem zlw {A:Around} {E:Value→Shared→Prop} {Q:Value→Shared→Prop} {x C:Addr} {us:List Value} (I:Inv X pins σ H s) (hx:H x=some (zkQ x C)) (Z:∃ fI,ExI X.K C fI) (hl:us.length≤sizeLine)
  (h:∀ s',Inv X pins σ H s'→Q .none s'):wpAny (model X.prog X.w) A (call (.builtin "ValueError.__init__") (.ref x::us)) Q E s:=by
 obtain ⟨fI,Z⟩:=Z
 obtain ⟨nm,q,N,bs,bm,sn,sub,ab,col,dd,k0,k1,k2,k3,k5,lk,tl⟩:=Z.lk
 have kC:=I.kIn _ _ lk
 have T:=PySem.W.tail_of_in I.kIn tl
 have F:=PySem.F.excBase_ValueError
 obtain ⟨⟨o,t0,ho,hc,hd,hdat⟩,_⟩:=(I.hok x _ hx:zbi X.prog X.w H s.heap x (zkQ x C))
 obtain ⟨hh,g,d,t,os⟩:=s
 obtain ⟨oc,od,odt,osl⟩:=o
 dsimp only at hc hd hdat
 subst hc hd hdat
 refine wpAny_call (codeAny_call_builtin F.init.plain F.initEntry (wpAny_check_init_subT F T kC ho rfl ?_))
 wp_walk
 have I1:Inv X pins σ H { heap:=hh.push { cls:=.type "tuple",data:=.seq us.toArray },gens:=g,drawn:=d,toks:=t,os:=os }:=I.kept (t':=t) fun b u e=>Heap.get?_push_of_some _ e
 have gx:(hh.push { cls:=.type "tuple",data:=.seq us.toArray }).get? x=some ⟨.ref C,none,.fields #[.ref t0,.none,.none,.none,.bool false,.none],osl⟩:=Heap.get?_push_of_some _ ho
 have gy:=Heap.get?_update_self (Obj.mapFields fun z=>z.setIfInBounds 0 (Value.ref hh.objs.size)) gx rfl
 have I2:=I1.write (x:=x) (e:=x) (o:=zkQ x C) (t':=t) (h':=(hh.push { cls:=.type "tuple",data:=.seq us.toArray }).update x (Obj.mapFields fun z=>z.setIfInBounds 0 (Value.ref hh.objs.size)))
  (by rw [hx];exact True.intro) (.inl rfl) (fun b u nb e=>(Heap.get?_update_other _ _ (Ne.symm nb)).trans e) ⟨_,gy⟩ ⟨⟨_,_,gy,rfl,rfl,rfl⟩,⟨_,gy⟩,fun _ _ ⟨o,t0,e,r⟩ k=>⟨o,t0,k o e,r⟩⟩
 rw [zmM hx] at I2
 exact h _ I2
end
theorem zi0 {h:Heap} {self:Value} {what:Str} {l:List Value} (T:OwnTail h zgx l) (hb:refuseLoop self what zgx=pure ()):refuseLoop self what l=pure ():=by
 induction T with
 | base=>exact hb
 | own _ _ _ _ ih=>rw [refuseLoop_ref,ih]
section
open Builtin Builtin.ObjectAttr
variable {K:PySem.W.Frag} {prog:Program} {w:World} {A:Around} {E:Value→Shared→Prop} {h:Heap} {g:Array GenState} {d:Drawn} {t:Nat} {os:OsState} {C fI x:Addr} {v:Value} {name:Str} {o:Obj}
theorem zoS {tk:Tok} {R:Result→Shared→Prop} (X:K.In h) (Z:ExI K C fI) (na:PySem.W.findIn K (.ref C) name=some none) (hx:h.get? x=some o) (hc:o.cls=.ref C) (hd:o.dict=none) {fs:Array Value} (hf:o.data=.fields fs)
  (hq:∀ h' tk',h'.get? x=some { o with dict:=some h.objs.size }→h'.Ns1 h.objs.size (fun y=>if y=name then some v else none)→(∀ b u,b≠x→h.get? b=some u→h'.get? b=some u)→R (.ok (.ret .none)) ⟨h',g,d,tk',os⟩) :
  codeAny (model prog w) A (.call (.builtin "object.__setattr__") ⟨[.ref x,.str name tk,v],[]⟩) R ⟨h,g,d,t,os⟩:=by
 obtain ⟨nm,q,N,bs,bm,sn,sub,ab,col,dd,k0,k1,k2,k3,k5,lk,tl⟩:=Z.lk
 have kC:=X _ _ lk
 have T:=PySem.W.tail_of_in X tl
 have S:=PySem.F.store_ValueError
 have LN:=PySem.W.looks_findIn (M:=model prog w) X na
 have pass:refuseLoop (.ref x) "__setattr__" (.ref C::bm)=pure ():=by
  rw [refuseLoop_ref]
  exact zi0 T (S.passes _)
 have cO:(Value.ref C::bm).contains (.type "object")=true:=by rw [List.contains_cons,T.hasType S.hasOwner,Bool.or_true]
 have LT:PySem.W.Looks (model prog w) h (typeOf (.ref x)) (.ref C):=hc ▸ (PySem.W.Looks.ld hx).andThen .now
 have LS:PySem.W.Looks (model prog w) h (isInstance (.ref x) (.type "object")) true:=LT.andThen (PySem.W.looks_mroIn X Z.mo)
 refine codeAny_call_builtin S.slot.plain S.entry (@PySem.W.check_slot (model prog w) _ _ ⟨h,g,d,t,os⟩ "object.__setattr__" "object" "__setattr__" (.ref x) [.str name tk,v] [] _ S.kind S.split LS (S.args (.ref x) (.str name tk) v) ?_)
 unfold Builtin.«object.__setattr__»
 repeat (first | rw [refuse_eq] | rw [pass] | (with_reducible refine wpAny_loadPart_at hx ?_;rw [hc]) | (with_reducible refine wpAny_mroOf_exc kC ?_) | (with_reducible refine LN.at ?_) | wp_step)
 obtain ⟨oc,od,odt,osl⟩:=o
 dsimp only at hc hd hf
 subst hc hd hf
 dsimp only
 rw [if_neg (by simp [typeHasDict])]
 have gx:(h.push { cls:=.type "dict",data:=.dict #[] }).get? x=some ⟨.ref C,none,.fields fs,osl⟩:=Heap.get?_push_of_some _ hx
 have ns:x≠h.objs.size:=Nat.ne_of_lt (Heap.lt_size hx)
 refine wpAny_bind (wpAny_alloc' (wpAny_bind (wpAny_update' gx (wpAny_pure ?_))))
 have gy:=Heap.get?_update_self (fun o:Obj=>{ cls:=o.cls,dict:=some h.objs.size,data:=o.data,slots:=o.slots }) gx rfl
 have gd:((h.push { cls:=.type "dict",data:=.dict #[] }).update x fun o=>{ cls:=o.cls,dict:=some h.objs.size,data:=o.data,slots:=o.slots }).get? h.objs.size=some { cls:=.type "dict",data:=.dict #[] } :=
  (Heap.get?_update_other _ _ ns).trans (Heap.get?_push_at rfl rfl)
 have keep:∀ b u,b≠x→h.get? b=some u→((h.push { cls:=.type "dict",data:=.dict #[] }).update x fun o=>{ cls:=o.cls,dict:=some h.objs.size,data:=o.data,slots:=o.slots }).get? b=some u:=fun b u nb e =>
  (Heap.get?_update_other _ _ (Ne.symm nb)).trans (Heap.get?_push_of_some _ e)
 generalize ((h.push { cls:=.type "dict",data:=.dict #[] }).update x fun o=>{ cls:=o.cls,dict:=some h.objs.size,data:=o.data,slots:=o.slots })=h2 at gy gd keep ⊢
 have nn:h2.Ns h.objs.size (fun _=>none):=⟨_,#[],_,gd,rfl,fun e he=>absurd he (by simp),fun _=>rfl⟩
 show wpAny _ _ (storeInDict h.objs.size (.str name tk) name v) _ _ _
 unfold storeInDict newKeyGuard
 refine wpAny_bind (wpAny_pure (wpAny_bind (wpAny_nsSet1 (Heap.Ns1.of_empty nn) fun h3 n3 s3=>?_)))
 obtain ⟨oD,eD,pD,aD,bD,cD⟩:=n3.count (Within.cons name v Within.nil)
 refine wpAny_bind (wpAny_lookBehind aD (by rw [bD];exact pastItsLine_dict (Nat.le_trans cD (by rw [List.length_cons,List.length_nil,sizeLine_eq];(first|lia|omega)))) ?_)
 wp_walk
 exact hq h3 _ ((s3.2 x ns).trans gy) n3 fun b u nb e=>(s3.2 b (Nat.ne_of_lt (Heap.lt_size e))).trans (keep b u nb e)
end
def tBI (K:PySem.W.Frag) (t:TA):TE:=fun σ H Q=>t σ H fun vs H1=>∃ x v C,vs=[.ref x,v]∧H1 x=some (zkQ x C)∧(∃ fI,ExI K C fI)∧Q .non H1
def zom (K:PySem.W.Frag) (to tv:TE) (f:Str):TS:=fun D σ H=>tv σ H fun v H1=>to σ H1 fun x H2=>∃ a C,x=.ref a∧H2 a=some (zkQ a C)∧(∃ fI,ExI K C fI)∧PySem.W.findIn K (.ref C) f=some none ∧
 ∀ dx,H2 dx=none→dx≠a→D.nx σ (upd (upd H2 a (zkR a C dx)) dx (.xd [(f,v)]))
section
variable {X:Cx} {x:Str} {D:Addr} {np apos pos pos':Pos} {e o value:Expr} {es:List Expr} {t:TA} {to tv:TE} {f:Str}
theorem zei {pl:Sem Bool} (hg:Gl X x) (hm:X.mg x=some (.ref D)) (B:ExB X.K D) (ha:PA X (e::es) t) (hdb:(x == ("__debug__":Str))=false:=by decide)
  (hst:starEach (e::es) X.env=(false,eval e X.env)::starEach es X.env:=by rfl) (hpl:(backTo pos (starEach es X.env)).any (·.1)=false:=by rfl)
  (ht:eval (.Call (.Attribute (.Name x np) "__init__" apos) (e::es) [] pos) X.env=(do
   let ov ← eval (.Name x np) X.env
   standAt apos.atName
   let (f,first) ← holding [ov] (getMethod ov "__init__" pl)
   callWith pos f first (backTo pos (starEach (e::es) X.env)) (backToKw pos (keywordEach [] X.env))):=by rfl) :
  PE X (.Call (.Attribute (.Name x np) "__init__" apos) (e::es) [] pos) (tBI X.K t):=by
 intro pins s σ H Q I h
 refine PySem.W.methodCall_KW (pl:=pl) (zcW I hg hm ?_ hdb) ht
 refine PySem.W.method_cls I.kIn B.sg (PySem.W.cls_value I.kIn B.rd B.fc rfl ?_)
 have I1:=I.tok (s.toks+1)
 have hA:=ha pos pins _ σ H _ I1 h
 rw [hst] at hA ⊢
 refine Calls.callWith_builtin (by show (false || (backTo pos (starEach es X.env)).any (·.1))=false;rw [hpl] <;> rfl) (Calls.evalArgs_plain ?_)
 refine thn hA fun us s2 hQ'=>?_
 obtain ⟨vs,H2,I2,r2,y,v,C,e1,e2,Z,q⟩:=hQ'
 subst e1
 obtain ⟨u1,u2,rfl,r3,r4⟩:=r2.two
 cases r3
 exact zlw (us:=[u2]) I2 e2 Z (by show 1≤sizeLine;decide) fun s' I'=>⟨.non,H2,I',rfl,q⟩
theorem zjw (ho:PE X o to) (hv:PE X value tv) (hs:swapsWith value (some (.Attribute o f pos')) pos.line X.env=pure false):PS X (.Assign [.Attribute o f pos'] value pos) (zom X.K to tv f):=by
 intro pins s σ H D I h
 refine plainObj_wpAny_Assign_Attribute (thn (hv pins s σ H _ I h) fun u s1 ⟨y,H1,I1,ry,q⟩=>thn (ho pins s1 σ H1 _ I1 q) fun ov s2 hQ'=>?_) hs
 obtain ⟨z,H2,I2,rx,a,C,ex,ea,⟨fI,Z⟩,na,q2⟩:=hQ'
 subst ex
 obtain rfl:ov=Value.ref a:=rx
 obtain ⟨⟨ox,t0,hx,hc,hd,hf⟩,_⟩:=(I2.hok a _ ea:zbi X.prog X.w H2 s2.heap a (zkQ a C))
 have J:PySem.W.InstAt s2.heap a ox C none:=⟨hx,hc,by unfold PySem.W.notCls;rw [hf],by rw [hd];exact True.intro⟩
 refine PySem.W.set_plain I2.kIn J Z.sa ?_
 obtain ⟨hh,g,d,tk,os⟩:=s2
 refine zoS I2.kIn Z na hx hc hd hf fun h3 tk3 gx n3 keep=>?_
 have fr:H2 hh.objs.size=none:=I2.hok.fresh (Nat.le_refl _)
 have ne:hh.objs.size≠a:=(Nat.ne_of_lt (Heap.lt_size hx)).symm
 have W:=I2.write (x:=a) (e:=a) (o:=zkR a C hh.objs.size) (t':=tk3) (h':=h3) (by rw [ea];exact True.intro) (.inl rfl) (fun b v nb e=>keep b v nb e) ⟨_,gx⟩ ⟨⟨_,t0,gx,hc,rfl,hf⟩,⟨_,gx⟩,fun _ _ ⟨o,t0,e,r⟩ k=>⟨o,t0,k o e,r⟩⟩
 have fr2:upd H2 a (zkR a C hh.objs.size) hh.objs.size=none:=by rw [zaq ne];exact fr
 have V:=W.track (a:=hh.objs.size) (o:=.xd [(f,y)]) fr2 (Heap.get?_none_of_le I2.sz) (fun z=>?_) (fun y c e z=>?_) (fun p hp z=>?_) ⟨_,n3,fun k=>?_⟩
 ·exact ⟨σ,_,V,q2 _ fr ne⟩
 ·obtain ⟨m,⟨o,_,_,e,_⟩,_⟩:=I2.loc
  exact absurd z.symm (Nat.ne_of_lt (Heap.lt_size e))
 ·obtain ⟨v,o,e1,_⟩:=I2.cell y c e
  exact absurd z (Nat.ne_of_lt (Heap.lt_size e1))
 ·exact absurd z (Nat.ne_of_lt (Heap.lt_size (I2.pin p hp).1))
 ·show zlP (List.lookup k [(f,y)]) (if k=f then some u else none)
  by_cases c:k=f
  ·subst c
   rw [if_pos rfl]
   simp only [List.lookup,beq_self_eq_true]
   exact ry
  ·rw [if_neg c]
   have:(k == f)=false:=beq_eq_false_iff_ne.mpr c
   simp only [List.lookup,this]
   exact trivial
end
section
variable {X:Cx} {CX:CXT} {k:Nat} {f C:Addr} {fd:FuncData} {ps:List Str} {sp:Sp} {E:XK} {x:Str} {p pos:Pos} {e:Expr} {es:List Expr} {t:TA}
theorem Inv.laidAt {pins:List (Addr×Obj)} {σ:St} {H:Hp} {s:Shared} {h':Heap} {a:Addr} {o:HO} (I:Inv X pins σ H s) (kp:∀ b u,s.heap.get? b=some u→h'.get? b=some u) (hp:s.heap.objs.size≤a) (new:zbi X.prog X.w (upd H a o) h' a o) :
  Inv X pins σ (upd H a o) { s with heap:=h' }:=I.laid (t':=s.toks) kp hp new
theorem zll {pins:List (Addr×Obj)} {σ:St} {H:Hp} {s:Shared} {Q:VK} {us:List Value} {vs:List V} (Z:ExI X.K C f) (F:zcJ X.prog X.w X.K X.mg X.base CX k f fd ps sp) (hr:zdR (k+1) X.A) (hb:zbB X.K fd ps []) (hx:zeP CX X E)
  (I:Inv X pins σ H s) (r:zbj vs us) (hl:us.length≤sizeLine) (h:∀ y,H y=none→X.s₀.heap.get? y=none→sp (.ref y::vs) (upd H y (zkQ y C)) (fun v H2=>v=.non∧Q (.ref y) H2) E) :
  wpAny (model X.prog X.w) X.A (call (.ref C) us) (EP X pins σ Q) X.xe s:=by
 obtain ⟨hh,g,d,tk,os⟩:=s
 refine zk6 I.kIn Z hl fun h1 y ey M=>?_
 have hy:hh.objs.size≤y:=by rw [ey];exact Nat.le_succ _
 obtain ⟨t0,gy,_,_⟩:=M.there
 have I2:=I.laidAt (a:=y) (o:=zkQ y C) M.keeps hy ⟨⟨_,t0,gy,rfl,rfl,rfl⟩,⟨_,gy⟩,fun _ _ ⟨o,t0,e,r⟩ k=>⟨o,t0,k o e,r⟩⟩
 have hq:=h y (I.hok.fresh hy) (Heap.get?_none_of_le (Nat.le_trans I.sz hy))
 have r2:zbj (V.ref y::vs) (Value.ref y::us):=.cons rfl r
 have hl2:(Value.ref y::us++[]).length=ps.length:=by
  rw [List.append_nil,← r2.length]
  exact F.len _ _ _ _ hq
 have B:=hb _ (Value.ref y::us) I2.kIn hl2
 rw [List.append_nil] at B
 refine wpAny_call (codeAny_mono (F.run _ X.stack _ _ ⟨Value.ref y::us,[]⟩ (Value.ref y::us) _ _ E (hr.make C us []) (I2.env0.make C us []) B r2 hq) fun res s' hq'=>?_)
 cases res with
 | error e=>exact hx pins σ _ _ e s' I2 hq'
 | ok fl =>
  cases fl with
  | ret u =>
   obtain ⟨v,H',I3,rv,ev,q3⟩:=I2.after hq'
   subst ev
   exact ⟨rv,⟨V.ref y,H',I3,rfl,q3⟩⟩
  | next=>exact False.elim hq'
  | brk=>exact False.elim hq'
  | cont=>exact False.elim hq'
end
def CXV (P:Program) (w:World):CXT:=fun outer H s E e s'=>∃ (ea:Addr) (B:Heap) (cls a0:Value) (H':Hp) (od:Option Addr),e=.ref ea∧zn3 P w outer H s (fun c _ H'=>E c od H') ea s' B cls a0 H'∧zhT ea od s'.heap
def zhj (H:Hp) (x:Addr):Hp:=fun b=>if b=x then none else H b
theorem zb9 {H:Hp} {x b:Addr} (h:b≠x):zhj H x b=H b:=if_neg h
theorem zir {H:Hp} {x:Addr}:zhj H x x=none:=if_pos rfl
theorem zia {H:Hp} {x b:Addr} {u:HO} (h:zhj H x b=some u):b≠x∧H b=some u:=by
 unfold zhj at h
 split at h
 ·cases h
 ·rename_i n
  exact ⟨n,h⟩
section
variable {P:Program} {w:World} {K:PySem.W.Frag} {mg:Str→Option Value} {base:Heap} {N:List Str} {qual:Str} {scope:Scope} {f:Addr} {cd:Value} {A:Around} {outer:List Env} {s₀:Shared} {H₀:Hp} {E:XK}
theorem passV:zeP (CXV P w) (ziK (CXV P w) P w K mg base N qual scope f cd A outer s₀ H₀ E) E:=by
 intro pins σ H s e s' I h
 obtain ⟨ea,B,cls,a0,H',od,rfl,x,dd⟩:=h
 have hfr:=I.ok.frames
 have ff:=x.fly.2.2.1
 refine zgJ (zfd _ _) dd (wpAny_leaves_onW (base:=B) (L:=s₀.heap.objs.size) hfr rfl x.fly fun h' fl sm dd'=>?_)
 obtain ⟨un2,hok2⟩:=x.later fl.1 sm ff
 have neL:∀ b o,s₀.heap.get? b=some o→b≠s₀.heap.objs.size:=fun b o e=>Nat.ne_of_lt (Heap.lt_size e)
 have notin:∀ b o,s₀.heap.get? b=some o→b∉frs outer→b∉frs (envOfC qual scope s₀.heap.objs.size f cd::outer):=fun b o e hb z=>by
  rcases List.mem_cons.mp (I.stkSub b z) with q | q
  ·exact neL b o e q
  ·exact hb q
 have un:Un (frs outer) [] H₀ H' s₀.heap h':=by
  refine ⟨fun b o e n hb hx=>?_,fun b o e n hb hx=>?_,fun b o e n hx=>?_,fun b o e hx=>?_,fun b xs e=>x.un.tups b xs (I.base.tups b xs e),fun b o u e=>x.un.frzs b o u (I.base.frzs b o u e),fun b ps e=>?_⟩
  ·exact un2.keep b o (I.base.keep b o e n hb hx) (I.base.free b o e n hx) (notin b o e hb) (by simp)
  ·obtain ⟨sl,e1⟩:=I.base.slot b o e n hb hx
   obtain ⟨sl',e2⟩:=un2.any e1 (I.base.free b o e n hx) (by simp)
   exact ⟨sl',e2⟩
  ·obtain ⟨o',e1⟩:=I.base.there b o e hx
   exact x.un.free b o' e1 (I.base.free b o e n hx) (by simp)
  ·obtain ⟨o',e1⟩:=I.base.there b o e hx
   exact un2.there b o' e1 (by simp)
  ·obtain ⟨m1,e1⟩:=I.base.tbls b ps e
   obtain ⟨m2,e2⟩:=x.un.tbls b _ e1
   exact ⟨m1++m2,by rw [e2,Array.append_assoc]⟩
 refine ⟨ea,B,cls,a0,H',od,rfl,⟨x.os.trans I.os,x.bare,un,x.hokB,fl,fun b o e n hb=>?_,fun b o e hb=>?_,?_,x.free,x.want⟩,dd'⟩
 ·exact x.cov b o (I.base.keep b o e n hb (by intro z;cases z)) (I.base.free b o e n (by intro z;cases z)) (notin b o e hb)
 ·obtain ⟨o',e1⟩:=I.base.there b o e (by intro z;cases z)
  exact x.covT b o' e1 (notin b o e hb)
 ·cases q:s₀.heap.get? ea with
  | none=>rfl
  | some o =>
   obtain ⟨o',e1⟩:=I.base.there ea o q (by intro z;cases z)
   rw [x.new] at e1
   cases e1
end
def zjj (X:Cx) (E:XK):Prop:=∀ (pins:List (Addr×Obj)) (σ:St) (H:Hp) (s:Shared) (y C dx:Addr),Inv X pins σ H s→H y=some (zkR y C dx)→X.s₀.heap.get? y=none→E (.ref C) (some dx) (zhj H y)→X.xe (.ref y) s
section
variable {P:Program} {w:World} {K:PySem.W.Frag} {mg:Str→Option Value} {base:Heap} {N:List Str} {qual:Str} {scope:Scope} {f:Addr} {cd:Value} {A:Around} {outer:List Env} {s₀:Shared} {H₀:Hp} {E:XK}
theorem ziM:zjj (ziK (CXV P w) P w K mg base N qual scope f cd A outer s₀ H₀ E) E:=by
 intro pins σ H s y C dx I hy n0 q
 replace n0:s₀.heap.get? y=none:=n0
 obtain ⟨⟨oy,t0,gy,cy,dy,fy⟩,_⟩:=(I.hok y _ hy:zbi _ _ H s.heap y (zkR y C dx))
 have hfr:=I.ok.frames
 have hst:s.heap.FunFrames base (envOfC qual scope s₀.heap.objs.size f cd::outer):=I.stack
 have fresh:∀ b∈frs (envOfC qual scope s₀.heap.objs.size f cd::outer),H b=none:=I.stkFree
 have yf:y∉frs (envOfC qual scope s₀.heap.objs.size f cd::outer):=fun z=>by rw [fresh y z] at hy;cases hy
 have inB:∀ b o,s.heap.get? b=some o→b≠y→b∉frs (envOfC qual scope s₀.heap.objs.size f cd::outer)→(PySem.W.hideAll s.heap (y::frs (envOfC qual scope s₀.heap.objs.size f cd::outer))).get? b=some o:=fun b o e ny n =>
  PySem.W.hideAll_get _ e (fun z=>(List.mem_cons.mp z).elim ny n)
 have st0:(PySem.W.hideAll s.heap (y::frs (envOfC qual scope s₀.heap.objs.size f cd::outer))).StaysIn s.heap:=fun b o q=>PySem.W.of_hideAll _ q
 have hl:s.heap.FunFrames (PySem.W.hideAll s.heap (y::frs (envOfC qual scope s₀.heap.objs.size f cd::outer))) (envOfC qual scope s₀.heap.objs.size f cd::outer) :=
  PySem.W.funFrames_hide hst fun env he a ha=>List.mem_cons_of_mem _ (List.mem_filterMap.mpr ⟨env,he,ha⟩)
 have yB:(PySem.W.hideAll s.heap (y::frs (envOfC qual scope s₀.heap.objs.size f cd::outer))).get? y=none:=PySem.W.hideAll_none _ List.mem_cons_self
 generalize PySem.W.hideAll s.heap (y::frs (envOfC qual scope s₀.heap.objs.size f cd::outer))=B at inB st0 hl yB
 refine zgJ (zfd _ _) ⟨oy,gy,dy⟩ (wpAny_leaving_firstW (base:=B) (L:=s₀.heap.objs.size) (a0:=.ref t0) hfr hl rfl gy st0 yB fy rfl rfl fun h2 lf d2=>?_)
 obtain ⟨x1,⟨_,_,x2⟩,x3,x4⟩:=lf
 have neL:∀ b o,s₀.heap.get? b=some o→b≠s₀.heap.objs.size:=fun b o e=>Nat.ne_of_lt (Heap.lt_size e)
 have ney:∀ b o,s₀.heap.get? b=some o→b≠y:=fun b o e z=>by rw [z,n0] at e;cases e
 have notin:∀ b o,s₀.heap.get? b=some o→b∉frs outer→b∉frs (envOfC qual scope s₀.heap.objs.size f cd::outer):=fun b o e hb z=>by
  rcases List.mem_cons.mp (I.stkSub b z) with q | q
  ·exact neL b o e q
  ·exact hb q
 have slot:∀ b o,s.heap.get? b=some o→b∈frs outer→∃ sl,h2.get? b=some { o with slots:=sl }:=fun b o e hb=>by
  obtain ⟨_,o',e',nf⟩:=hl.2.2.mem hb
  rw [e] at e'
  cases e'
  exact x4 b o e nf
 have hokB:HOk P w (zhj H y) B:=fun b u e=>by
  obtain ⟨nb,e'⟩:=zia e
  refine (I.hok b u e').stay (fun c v hc q=>inB c v q (fun z=>?_) fun z=>?_) (fun c q=>?_) fun c xs q=>?_
  ·rcases hc with r | r
   ·exact nb (r.symm.trans z)
   ·rw [z,hy] at r
    cases r
  ·rcases hc with r | r
   ·rw [r] at z
    rw [fresh b z] at e'
    cases e'
   ·rw [fresh c z] at r
    cases r
  ·rw [zb9 fun z=>by rw [z,hy] at q;cases q]
   exact q
  ·rw [zb9 fun z=>by rw [z,hy] at q;cases q]
   exact q
 have un:Un (frs outer) [] H₀ (zhj H y) s₀.heap h2:=by
  refine ⟨fun b o e n hb hx=>?_,fun b o e n hb hx=>?_,fun b o e n hx=>?_,fun b o e hx=>?_,fun b xs e=>?_,fun b o u e=>?_,fun b ps e=>?_⟩
  ·exact x1 b o (inB b o (I.base.keep b o e n hb hx) (ney b o e) (notin b o e hb))
  ·obtain ⟨sl,e1⟩:=I.base.slot b o e n hb hx
   obtain ⟨sl',e2⟩:=slot b _ e1 hb
   exact ⟨sl',e2⟩
  ·rw [zb9 (ney b o e)]
   exact I.base.free b o e n hx
  ·obtain ⟨o',e1⟩:=I.base.there b o e hx
   by_cases hb:b∈frs outer
   ·obtain ⟨sl,e2⟩:=slot b o' e1 hb
    exact ⟨_,e2⟩
   ·exact ⟨o',x1 b o' (inB b o' e1 (ney b o e) (notin b o e hb))⟩
  ·have z:=I.base.tups b xs e
   rw [zb9 fun q=>by rw [q,hy] at z;cases z]
   exact z
  ·have z:=I.base.frzs b o u e
   rw [zb9 fun q=>by rw [q,hy] at z;cases z]
   exact z
  ·obtain ⟨m,z⟩:=I.base.tbls b ps e
   refine ⟨m,?_⟩
   rw [zb9 fun q=>by rw [q,hy] at z;cases z]
   exact z
 rw [cy] at x3
 refine ⟨y,B,.ref C,.ref t0,zhj H y,some dx,rfl,⟨I.os,I.bare,un,hokB,⟨x1,yB,x2,x3⟩,fun b o e n hb=>?_,fun b o e hb=>?_,n0,zir,q⟩,d2⟩
 ·exact inB b o (I.base.keep b o e n hb (by intro z;cases z)) (ney b o e) (notin b o e hb)
 ·obtain ⟨o',e1⟩:=I.base.there b o e (by intro z;cases z)
  exact ⟨o',inB b o' e1 (ney b o e) (notin b o e hb)⟩
end
section
variable {P:Program} {w:World} {K:PySem.W.Frag} {mg:Str→Option Value} {base:Heap} {N:List Str} {qual:Str} {scope:Scope} {f:Addr} {cd:Value} {A:Around} {outer:List Env} {s₀:Shared} {H₀:Hp} {E:XK}
end
section
variable {K:PySem.W.Frag} {prog:Program} {w:World} {A:Around} {E:Value→Shared→Prop} {s:Shared} {env:Env} {C fI:Addr}
theorem zl0 {xs:Sem Value} {Q:Flow→Shared→Prop} (Z:ExI K C fI) (hh:A.handled=none)
  (h:wpAny (model prog w) A xs (fun v s1=>∃ y o fs,v=.ref y∧K.In s1.heap∧s1.heap.get? y=some o∧o.cls=.ref C∧o.data=.fields fs∧fs[1]?=some .none∧E (.ref y) s1) E s):wpAny (model prog w) A (raiseStmt env (some xs) none) Q E s:=by
 obtain ⟨nm,q,N,bs,bm,sn,sub,ab,col,dd,k0,k1,k2,k3,k5,lk,tl⟩:=Z.lk
 unfold raiseStmt
 refine wpAny_bind (wpAny_mono h (fun v s1 z=>?_) fun _ _ z=>z)
 obtain ⟨y,o,fs,rfl,X,gy,cy,fy,f1,hE⟩:=z
 obtain ⟨hp,g,d,tk,os⟩:=s1
 have kC:=X _ _ lk
 have T:=PySem.W.tail_of_in X tl
 have cB:(Value.ref C::bm).contains (.type "BaseException")=true:=by rw [List.contains_cons,T.hasType PySem.F.excBase_ValueError.hasBase,Bool.or_true]
 obtain ⟨oc,od,odt,osl⟩:=o
 dsimp only at cy fy
 subst cy fy
 repeat (first | (with_reducible refine wpAny_loadPart_at gy ?_) | (with_reducible refine wpAny_loadPart_at kC ?_) | (with_reducible refine wpAny_isSubtype_exc kC ?_;rw [cB]) | wp_step)
 rw [f1]
 refine wpAny_pure ?_
 rw [if_neg (by decide)]
 exact wpAny_pure (wpAny_raiseNew_none hh hE)
end
def ziq (C:Addr) (nm:Str):Sp:=fun vs H Q _=>∃ y v,vs=[.ref y,v]∧H y=some (zkQ y C)∧∀ dx,H dx=none→dx≠y→Q .non (upd (upd H y (zkR y C dx)) dx (.xd [(nm,v)]))
def zb2 (C:Addr) (nm:Str) (E:XK) (t:TA):TS:=fun _ σ H=>t σ H fun vs H1=>∃ v,vs=[v]∧∀ dx,H1 dx=none→E (.ref C) (some dx) (upd H1 dx (.xd [(nm,v)]))
theorem zhJ {H:Hp} {y dx:Addr} {o u:HO} (h:H y=none) (n:dx≠y):zhj (upd (upd H y o) dx u) y=upd H dx u:=by
 funext b
 unfold zhj upd
 by_cases e:b=y
 ·rw [if_pos e,if_neg (by rw [e];exact n.symm),e,h]
 ·rw [if_neg e]
  by_cases e2:b=dx
  ·rw [if_pos e2,if_pos e2]
  ·rw [if_neg e2,if_neg e,if_neg e2]
theorem zdi {X:Cx} {CX:CXT} {k:Nat} {C f:Addr} {fd:FuncData} {ps:List Str} {nm x:Str} {E:XK} {np cpos pos:Pos} {e:Expr} {es:List Expr} {t:TA} (Z:ExI X.K C f) (F:zcJ X.prog X.w X.K X.mg X.base CX k f fd ps (ziq C nm)) (hr:zdR (k+1) X.A) (hg:Gl X x) (hm:X.mg x=some (.ref C))
  (hb:zbB X.K fd ps []) (hx:zeP CX X E0) (hc:X.calm=true) (hT:zjj X E) (ha:PA X (e::es) t) (hdb:(x == ("__debug__":Str))=false:=by decide) (he:starEach (e::es) X.env=(false,eval e X.env)::starEach es X.env:=by rfl) (hpl:(backTo cpos (starEach es X.env)).any (·.1)=false:=by rfl) :
  PS X (.Raise (some (.Call (.Name x np) (e::es) [] cpos)) none pos) (zb2 C nm E t):=by
 intro pins s σ H D I h
 rw [arm_exec_Raise]
 refine wpAny_bind (wpAny_standAt (zl0 Z (I.ok.hd hc) (wpAny_bind (wpAny_mono (Q:=fun v s1=>∃ y o fs,v=.ref y∧X.K.In s1.heap∧s1.heap.get? y=some o∧o.cls=.ref C∧o.data=.fields fs∧fs[1]?=some .none∧X.xe (.ref y) s1) ?_ (fun v s3 h3=>wpAny_bind (wpAny_standAt (wpAny_pure h3))) fun _ _ z=>z))))
 refine wpAny_Call_Name_kw (zcW I hg hm ?_ hdb)
 refine PySem.W.callWith_K (h₀:=X.base) I.ok.mod.kin Z.kp (thn (ha cpos pins s σ H _ I h) fun us s1 ⟨vs,H1,I1,r,v,e1,q⟩=>⟨I1.kIn,?_⟩) he hpl
 subst e1
 obtain ⟨u,rfl,ru⟩:=zfl r
 refine thn (zll (Q:=fun z H2=>∃ y dx,z=.ref y∧X.s₀.heap.get? y=none∧H2 y=some (zkR y C dx)∧E (.ref C) (some dx) (zhj H2 y)) Z F hr hb hx I1 r (by show 1≤sizeLine;decide) fun y hy n0=>?_) fun z s2 ⟨v2,H2,I2,rz,y,dx,ev,n0,hy,hE⟩=>?_
 ·refine ⟨y,v,rfl,zad,fun dx hd nd=>⟨rfl,y,dx,rfl,n0,?_,?_⟩⟩
  ·rw [zaq nd.symm,zad]
  ·rw [zi5] 
   have hd1:H1 dx=none:=by rw [zaq nd] at hd;exact hd
   rw [zhJ hy nd]
   exact q dx hd1
 ·subst ev
  obtain rfl:z=Value.ref y:=rz
  obtain ⟨⟨oy,t0,gy,cy,dy,fy⟩,_⟩:=(I2.hok y _ hy:zbi X.prog X.w H2 s2.heap y (zkR y C dx))
  exact ⟨y,oy,_,rfl,I2.kIn,gy,cy,fy,rfl,hT pins σ H2 s2 y C dx I2 hy n0 hE⟩
theorem Fun.okV {P:Program} {w:World} {K:PySem.W.Frag} {mg:Str→Option Value} {base:Heap} {x qual:Str} {st:Stmt} {f:Addr} {fd:FuncData} {N ps:List Str} {k:Nat} {sp:Sp} (F:Fun K x qual st f fd) (S:zaN N ps (zap st)) (len:∀ vs H Q E,sp vs H Q E→vs.length=ps.length)
  (hbody:∀ (cdv:Value) (A:Around) (outer:List Env) (s:Shared) (H:Hp) (vs:List V) (Q:VK) (E:XK),zdR k (A.deeper (envOfC qual (zap st) s.heap.objs.size f cdv))→sp vs H Q E →
   ∃ t,PSs (ziK (CXV P w) P w K mg base N qual (zap st) f cdv A outer s H E) (zbz st) t∧t { nx:=fun _ H'=>Q .non H',rt:=Q } (L2.zbu N vs) H):zcJ P w K mg base (CXV P w) (k+1) f fd ps sp:=by
 obtain ⟨oc,od,kV,doc,pm,an,cdv,ct,osl,rfl,lk,hcd⟩:=F.ex
 exact zmq lk hcd S len fun A outer s H vs Q E hr hsp=>hbody cdv A outer s H vs Q E hr hsp
def zjX (a:Addr) (c:Value) (od:Option Addr) (h:Heap):Prop:=∃ oe vs,h.get? a=some oe∧oe.cls=c∧oe.data=.fields vs∧oe.dict=od
def zfC (a:Addr) (c:Value) (od:Option Addr):HO:=.ext (zjX a c od)
theorem zjX.is {a:Addr} {c:Value} {od:Option Addr} {h:Heap} (x:zjX a c od h):zoH a c h:=let ⟨oe,vs,e1,e2,e3,_⟩:=x;⟨oe,vs,e1,e2,e3⟩
def zoq (K:PySem.W.Frag) (tb:(St→XK)→TS) (D:Value) (i:Nat) (th:TS):TS:=fun d σ H =>
 tb (fun σ' c od H'=>zgS K c∧PySem.W.subIn K c D=some true∧∀ a,H' a=none→th { d with nx:=fun σ2 H2=>d.nx (σ2.set i none) H2,bk:=fun σ2 H2=>d.bk (σ2.set i none) H2,ct:=fun σ2 H2=>d.ct (σ2.set i none) H2 } (σ'.set i (some (.ref a))) (upd H' a (zfC a c od))) d σ H
def Cx.inTryV (X:Cx) (pins:List (Addr×Obj)) (E:St→XK):Cx:={ X with
 pn:=X.pn++pins
 xe:=fun e s'=>∃ pins' σ H s,Inv { X with pn:=X.pn++pins } pins' σ H s∧CXV X.prog X.w X.stack H s (E σ) e s' }
theorem Inv.toTryV {X:Cx} {pins:List (Addr×Obj)} {σ:St} {H:Hp} {s:Shared} (I:Inv X pins σ H s) (E:St→XK):Inv (X.inTryV pins E) [] σ H s :=
 ⟨I.ok.pinned _ _,I.os,I.bare,I.base,I.loc,I.cell,I.free,I.freeC,fun p hp=>I.pin p (by rw [List.append_nil] at hp;exact hp),I.hok,I.len⟩
theorem zpT {X:Cx} {pins:List (Addr×Obj)} {E:St→XK}:zi9 (CXV X.prog X.w) (X.inTryV pins E) E:=fun pins' σ H s e s' I h =>
 ⟨pins',σ,H,s,⟨I.ok.pinned _ _,I.os,I.bare,I.base,I.loc,I.cell,I.free,I.freeC,I.pin,I.hok,I.len⟩,h⟩
theorem SP.ofTryV {X:Cx} {pins pins':List (Addr×Obj)} {E:St→XK} {D:zbV} {f:Flow} {s':Shared} (ok:X.Ok) (h:SP (X.inTryV pins E) pins' D f s'):SP X pins D f s':=by
 cases f with
 | next=>obtain ⟨σ',H',I,q⟩:=h;exact ⟨σ',H',I.ofTry ok,q⟩
 | brk=>obtain ⟨σ',H',I,q⟩:=h;exact ⟨σ',H',I.ofTry ok,q⟩
 | cont=>obtain ⟨σ',H',I,q⟩:=h;exact ⟨σ',H',I.ofTry ok,q⟩
 | ret u=>obtain ⟨v,σ',H',I,r,q⟩:=h;exact ⟨v,σ',H',I.ofTry ok,r,q⟩
section
open Builtin Builtin.ObjectAttr PySem.W
variable {K:PySem.W.Frag} {prog:Program} {w:World} {A:Around} {E:Value→Shared→Prop} {h:Heap} {g:Array GenState} {d:Drawn} {t:Nat} {os:OsState} {a C dx:Addr}
theorem zix {f:Str} {tk:Tok} {v:Value} {o:Obj} {od:Option Obj} {Q:Fin→Shared→Prop} (X:K.In h) (J:PySem.W.InstAt h a o C od) (hf:PySem.W.findObj K C od f=some (.value v)) (hq:Q (.done (.ret v)) ⟨h,g,d,t,os⟩) :
  wpAny (model prog w) A (Builtin.«object.__getattribute__» ⟨[.ref a,.str f tk],[]⟩) Q E ⟨h,g,d,t,os⟩:=by
 have L0:=J.type (M:=model prog w)
 have L1:=PySem.W.looks_find (M:=model prog w) X J hf
 refine wpAny_bind (wpAny_pure (wpAny_bind (wpAny_pure (wpAny_bind (L0.at (wpAny_bind (L1.at ?_)))))))
 exact wpAny_pure hq
theorem zoT {f:Str} {v:Value} {b:Bool} {o:Obj} {od:Option Obj} {Q:Value→Shared→Prop} (X:K.In h) (Z:zce K C) (J:PySem.W.InstAt h a o C od) (hf:PySem.W.findObj K C od f=some (.value v)) (hv:PySem.W.handedIn v=true) (hq:Q v ⟨h,g,d,t+1,os⟩) :
  wpAny (model prog w) A (getAttr (.ref a) f b) Q E ⟨h,g,d,t,os⟩:=by
 have FB:=PySem.F.attrBase_ValueError
 have LG:=PySem.W.looks_findIn (M:=model prog w) X Z.ga
 have LN:=PySem.W.looks_findIn (M:=model prog w) X Z.gn
 have hx:=J.at_
 have hc:=J.cls
 have f3:=FB.ga.bind (.ref a)
 have n2:(Value.builtin "BaseException.__getattribute__" == Value.builtin "object.__getattribute__")=false:=by decide +kernel
 have n1:(onTheHeap (Value.ref C)&&(Value.builtin "BaseException.__getattribute__" == Value.builtin "object.__getattribute__"))=false:=by rw [n2];rfl
 unfold getAttr
 repeat (any_goals (first | assumption | (with_reducible refine wpAny_loadPart_at hx ?_;rw [hc]) | with_reducible refine LG.at ?_ | with_reducible refine LN.at ?_ | wp_step))
 rw [show (b&&onTheHeap (Value.builtin "BaseException.__getattribute__"))=false from Bool.and_false _,if_neg Bool.false_ne_true]
 repeat (any_goals (first | assumption | wp_step))
 refine codeAny_call_builtin FB.ga.plain F.entry_bexc_ga (zfr X Z hx hc (zix X J hf ?_))
 show wpAny _ _ (handedOut v) _ _ _
 rw [PySem.W.handedOut_of hv]
 exact wpAny_pure hq
end
structure zg3 (K:PySem.W.Frag) (C:Addr) (f:Str):Prop where
 five:zce K C
 hd:PySem.W.hasDictIn K C=true
 na:PySem.W.findIn K (.ref C) f=some none
def zo3 (K:PySem.W.Frag) (ta:TE) (f:Str):TE:=fun σ H Q=>ta σ H fun x H1=>∃ a C dx fs v,x=.ref a∧H1 a=some (zfC a (.ref C) (some dx))∧H1 dx=some (.xd fs)∧zg3 K C f∧fs.lookup f=some v∧Q v H1
def zo6 (K:PySem.W.Frag):List V→Hp→VK→Prop:=fun xs H Q=>∃ a c cv od dv b,xs=[.ref a,c]∧clsV c=some dv∧H a=some (zfC a cv od)∧zgS K cv∧PySem.W.kitOne K cv dv=some b∧Q (.bl b) H
section
variable {X:Cx} {e:Expr} {f:Str} {pos:Pos} {ta:TE}
theorem zox (he:PE X e ta) (hb:attributeBase e f X.env (eval e X.env)=eval e X.env):PE X (.Attribute e f pos) (zo3 X.K ta f):=by
 intro pins s σ H Q I h
 refine zn2 hb (thn (he pins s σ H _ I h) fun u s1 hQ'=>?_)
 obtain ⟨x,H1,I1,rx,a,C,dx,fs,v,ex,ea,ed,Z,l,q⟩:=hQ'
 subst ex
 obtain rfl:u=Value.ref a:=rx
 obtain ⟨⟨oe,vs,ge,ce,fe,de⟩,_⟩:=(I1.hok a _ ea:zbi X.prog X.w H1 s1.heap a (zfC a (.ref C) (some dx)))
 obtain ⟨mA,ns,r⟩:=(I1.hok dx _ ed:zbi X.prog X.w H1 s1.heap dx (.xd fs))
 obtain ⟨u,hu,ru⟩:=zlP.some_of (v:=v) (o:=mA f) (by rw [← l];exact r f)
 obtain ⟨oD,gD,lD⟩:=ziu ns
 have J:PySem.W.InstAt s1.heap a oe C (some oD):=⟨ge,ce,by unfold PySem.W.notCls;rw [fe],by rw [de];exact gD⟩
 have I2:=I1.tok (s1.toks+1)
 obtain ⟨hh,g,d,t,os⟩:=s1
 exact zoT I1.kIn Z.five J (PySem.W.findObj_own Z.hd Z.na rfl (by rw [lD,hu])) (zlC ru) ⟨v,H1,I2,ru,q⟩
theorem zh4:zdS X (.builtin "isinstance") (zo6 X.K):=by
 intro pins s σ H xs us Q I r h
 obtain ⟨a,c,cv,od,dv,b,rfl,hc,ha,k,e,q⟩:=h
 obtain ⟨u,w',rfl,rx,rw'⟩:=zkN r
 obtain rfl:=zjV rw' hc
 cases (show u=Value.ref a from rx)
 obtain ⟨p,_,_⟩:=(show zbi X.prog X.w H s.heap a (zfC a cv od) from I.hok a _ ha)
 exact PySem.W.kia_one (k.kit a) I.kIn p.is e (fun z=>nomatch z) fun tk=>⟨.bl b,H,I.tok tk,rfl,q⟩
end
theorem zkO {K:PySem.W.Frag} {C fI:Addr} (Z:zce K C) (ZI:ExI K C fI):zgS K (.ref C):=by
 obtain ⟨nm,q,N,bs,bm,sn,sub,ab,col,dd,k0,k1,k2,k3,k5,lk,tl⟩:=ZI.lk
 exact ⟨fun x=>{
  ty:=fun M h _ p=>by
   obtain ⟨oe,vs,e,c,_⟩:=p
   exact c ▸ (PySem.W.Looks.ld e).andThen .now
  it:=fun M h X _=>by
   have hC:=X _ _ lk
   intro A' Q' E' s' k q
   unfold isType loadHead
   exact wpAny_bind (wpAny_loadPart (k _ _ hC) (wpAny_pure q))
  ne:=fun h tp dd its n sl X htp=>by
   have hC:=X _ _ lk
   refine Bool.eq_false_iff.mpr fun q=>?_
   have e:C=tp:=Value.ref.inj (beq_iff_eq.mp q)
   subst e
   rw [hC] at htp
   have z:=congrArg Obj.data (Option.some.inj htp)
   exact nomatch z
  ca:=fun {prog w A E Q s} X p q=>by
   obtain ⟨h,g,d,t,os⟩:=s
   obtain ⟨oe,vs,e,c,_⟩:=p
   exact zjf X Z PySem.F.attrBase_ValueError e c q }⟩
theorem zjx {K:PySem.W.Frag} {C fI:Addr} {nm:Str} {H:Hp} {Q:VK} {y:Addr} {v:V} (Z:ExI K C fI) (na:PySem.W.findIn K (.ref C) nm=some none) (hy:H y=some (zkQ y C)) (q:∀ dx,H dx=none→dx≠y→Q .non (upd (upd H y (zkR y C dx)) dx (.xd [(nm,v)]))) :
  (za0 (zdo (tBI K (zab (zac 0) (zab (zac 1) zat)))) (zom K (zac 0) (zac 1) nm)) { nx:=fun _ H'=>Q .non H',rt:=Q } [some (.ref y),some v] H:=by
 simp only [za0,zdo,tBI,zab,zat,zac,zom,List.getElem?_cons_zero,List.getElem?_cons_succ,Option.some.injEq,exists_eq_left']
 exact ⟨y,v,C,rfl,hy,⟨_,Z⟩,y,C,rfl,hy,⟨_,Z⟩,na,q⟩
theorem zp1 {P:Program} {w:World} {X:Cx}:zeP (CXV P w) X E0:=fun _ _ _ _ _ _ _ ⟨_,_,_,_,_,_,_,x,_⟩=>x.want.elim
def zlH:Stmt→List Stmt
 | .ClassDef _ _ _ b _ _ _ _ _ _ _=>b
 | _=>[]
theorem zpw {us:List Value} (h:us.length=2):∃ x y,us=[x,y]:=match us,h with | [x,y],_=>⟨x,y,rfl⟩
end L2
namespace L2
open PySem
def ItzT (K:PySem.W.Frag) (p q:Addr):It where
 go:=fun i H=>∃ xs ys a b,SqT K H p xs∧SqT K H q ys∧xs[i]?=some a∧ys[i]?=some b
 yld:=fun i H x H'=>∃ t a b,x=.ref t∧H t=none∧H'=upd H t (.tup [a,b])∧(∀ xs,SqT K H p xs→xs[i]?=some a)∧∀ ys,SqT K H q ys→ys[i]?=some b
 stop:=fun i H=>∃ xs ys,SqT K H p xs∧SqT K H q ys∧i=min xs.length ys.length
def zmx (K:PySem.W.Frag) (ta:TA):TI:=fun σ H R=>ta σ H fun vs H1=>∃ p q,vs=[.ref p,.ref q]∧(((∃ xs,SqL K H1 p xs)∧(∃ ys,SqL K H1 q ys)∧R (Itz K p q) H1)∨((∃ xs,SqT K H1 p xs)∧(∃ ys,SqT K H1 q ys)∧R (ItzT K p q) H1))
theorem zlD {K:PySem.W.Frag} {p q:Addr} {xs ys:List V} {g:TG} {tb:TS} {D:zbV} {σ:St} {H:Hp} (Pv:Nat→St→Hp→Prop) (h0:Pv 0 σ H) (hl:∀ i σ H,i≤min xs.length ys.length→Pv i σ H→SqT K H p xs∧SqT K H q ys)
  (hs:∀ i x y t σ H,xs[i]?=some x→ys[i]?=some y→Pv i σ H→H t=none→g (.ref t) σ (upd H t (.tup [x,y])) fun σ2 H2=>tb { D with nx:=Pv (i+1),ct:=Pv (i+1),bk:=D.nx } σ2 H2) (hd:∀ σ H,Pv (min xs.length ys.length) σ H→D.nx σ H):zkI (ItzT K p q) g tb D σ H:=by
 refine ⟨fun i m σ H=>m=min xs.length ys.length - i∧i≤min xs.length ys.length∧Pv i σ H,⟨_,rfl,Nat.zero_le _,h0⟩,?_⟩
 rintro i m σ H ⟨rfl,hi,pv⟩
 obtain ⟨hx,hy⟩:=hl i σ H hi pv
 by_cases hlt:i<min xs.length ys.length
 ·have l1:i<xs.length:=by (first|lia|omega)
  have l2:i<ys.length:=by (first|lia|omega)
  refine .inr ⟨⟨xs,ys,xs[i],ys[i],hx,hy,by simp [l1],by simp [l2]⟩,Pv (i+1),fun σ' H' p'=>⟨_,by (first|lia|omega),rfl,hlt,p'⟩,fun x H' yl=>?_⟩
  obtain ⟨t,a,b,rfl,ht,rfl,e1,e2⟩:=yl
  exact hs i a b t σ H (e1 xs hx) (e2 ys hy) pv ht
 ·have e:i=min xs.length ys.length:=by (first|lia|omega)
  subst e
  exact .inl ⟨⟨xs,ys,hx,hy,rfl⟩,hd σ H pv⟩
end L2
namespace L2.Srt
open PySem PyProof.Rows PySem.W
section
variable {prog:Program} {w:World} {A:Around} {E:Value→Shared→Prop} {s:Shared}
end
end L2.Srt
namespace L2
open PySem PySem.Spec PyProof.Rows
section
variable {X:Cx}
end
end L2
namespace L2.Srt
open PySem PyProof.Rows PySem.W
section
variable {prog:Program} {w:World} {A:Around} {E:Value→Shared→Prop} {s:Shared} {I l:Addr} {its:Array Value}
end
end L2.Srt
namespace L2
open PySem PySem.Spec PyProof.Rows
section
variable {X:Cx} {e:Expr} {t:TA} {p1 p2 pos1 pos2:Pos}
end
end L2
namespace L2.Zt
open PySem PySem.Spec PyProof.Rows
section
variable {P:Program} {w:World} {A:Around} {E:Value→Shared→Prop} {s:Shared}
theorem znr {h h':Heap} {a t:Addr} {i:Nat} (x:h.IsTupleIter a t i) (k:∀ o,h.get? a=some o→h'.get? a=some o):h'.IsTupleIter a t i :=
 let ⟨o,e,r⟩:=x;⟨o,k o e,r⟩
theorem zge {c t:Addr} {i:Nat} {us:Array Value} {u:Value} {R:Value→Shared→Prop} (n:s.heap.IsTupleIter c t i) (m:s.heap.IsTuple t us) (e:us[i]?=some u)
  (q:∀ h',h'.IsTupleIter c t (i+1)→Heap.SameBut c s.heap h'→R u { s with heap:=h' }):wpAny (model P w) A (Builtin.SmallTypes.nextOf (.ref c)) R E s:=by
 obtain ⟨oc,g1,g2,g3⟩:=id n
 obtain ⟨ot,f1,_,nt,f3⟩:=m
 unfold Builtin.SmallTypes.nextOf
 refine wpAny_bind (wpAny_callSpecial?_slot (name:=Str.ofString "__next__") n.typeIs F.slot_tuple_iterator_next (wpAny_call_entry F.slot_tuple_iterator_next n.typeIs F.entry_tuple_iterator_next ?_ (F.args_tuple_iterator_next_1 _)))
 show wpAny _ _ (field (.ref c) 0 >>= _) _ _ s;refine wpAny_bind (wpAny_field g1 g3 (x:=.ref t) rfl ?_)
 show wpAny _ _ (if (Value.ref t == Value.none)=true then _ else _) _ _ s;rw [if_neg (show ¬ ((Value.ref t == Value.none)=true) from Bool.false_ne_true)]
 show wpAny _ _ (field (.ref c) 1 >>= _) _ _ s;refine wpAny_bind (wpAny_field g1 g3 (x:=.int i 0) rfl ?_)
 show wpAny _ _ (seqItems? (.ref t) >>= _) _ _ s;refine wpAny_bind (wpAny_seqItems f1 f3 ?_)
 simp only [Int.toNat_natCast,e]
 refine wpAny_bind (wpAny_setField g1 g3 (by simp) (wpAny_pure ⟨u,rfl,wpAny_pure (q _ ?_ (Heap.SameBut.update ..))⟩))
 exact ⟨_,Heap.get?_update_self _ g1 (Obj.isFreed_of_fields (Obj.data_mapFields g3 _)),(Obj.cls_mapFields ..).trans g2,by rw [Obj.data_mapFields g3];simp [rawInt]⟩
theorem zjJ {c t:Addr} {i:Nat} {us:Array Value} {R:Value→Shared→Prop} (hh:A.handled=none) (n:s.heap.IsTupleIter c t i) (m:s.heap.IsTuple t us) (e:us[i]?=none)
  (q:∀ h' x,Heap.ExtBut c s.heap h'→(∃ o,h'.get? x=some o∧o.cls=.type "StopIteration")→E (.ref x) { s with heap:=h' }):wpAny (model P w) A (Builtin.SmallTypes.nextOf (.ref c)) R E s:=by
 obtain ⟨oc,g1,g2,g3⟩:=id n
 obtain ⟨ot,f1,_,nt,f3⟩:=m
 unfold Builtin.SmallTypes.nextOf
 refine wpAny_bind (wpAny_callSpecial?_slot (name:=Str.ofString "__next__") n.typeIs F.slot_tuple_iterator_next (wpAny_call_entry F.slot_tuple_iterator_next n.typeIs F.entry_tuple_iterator_next ?_ (F.args_tuple_iterator_next_1 _)))
 show wpAny _ _ (field (.ref c) 0 >>= _) _ _ s;refine wpAny_bind (wpAny_field g1 g3 (x:=.ref t) rfl ?_)
 show wpAny _ _ (if (Value.ref t == Value.none)=true then _ else _) _ _ s;rw [if_neg (show ¬ ((Value.ref t == Value.none)=true) from Bool.false_ne_true)]
 show wpAny _ _ (field (.ref c) 1 >>= _) _ _ s;refine wpAny_bind (wpAny_field g1 g3 (x:=.int i 0) rfl ?_)
 show wpAny _ _ (seqItems? (.ref t) >>= _) _ _ s;refine wpAny_bind (wpAny_seqItems f1 f3 ?_)
 simp only [Int.toNat_natCast,e]
 refine wpAny_bind (wpAny_rule (wpAny_bind (wpAny_setField g1 g3 (by simp) ?_)));show wpAny _ _ (newExc (.type "StopIteration") [] >>= _) _ _ _
 refine wpAny_bind ?_;simp only [newExc,newTuple]
 refine wpAny_bind (wpAny_newObj_type ?_ (by size_fits));refine wpAny_bind (m:=firstArgMember _ _) (wpAny_of_eq (a:=Value.none) (by first | rfl | (simp only [firstArgMember];rfl)) ?_)
 refine wpAny_newObj_type ?_ (by size_fits);simp only [raiseNew];refine wpAny_bind (wpAny_handled ?_)
 first | rw [show A.in1.handled=none from hh] | rw [hh]
 refine wpAny_bind (wpAny_pure (wpAny_throw (q _ _ (((Heap.SameBut.update ..).extBut.push _).push _) ⟨_,Heap.get?_push_size _ rfl,rfl⟩)))
theorem zn8 {z TI TO i1 i2 l1 l2:Addr} {k:Nat} {xs ys:Array Value} {x y a b:Value} {R:Value→Shared→Prop} (D:ZipApart z TI TO i1 i2 l1 l2)
  (gz:IsZip s.heap z TI TO .none) (gI:IsPair s.heap TI (.ref i1) (.ref i2)) (gO:IsPair s.heap TO a b)
  (n1:s.heap.IsTupleIter i1 l1 k) (n2:s.heap.IsTupleIter i2 l2 k) (m1:s.heap.IsTuple l1 xs) (m2:s.heap.IsTuple l2 ys) (ex:xs[k]?=some x) (ey:ys[k]?=some y)
  (q:∀ h',IsZip h' z TI TO (rawInt s.heap.objs.size)→IsPair h' TO x y→h'.IsTupleIter i1 l1 (k+1)→h'.IsTupleIter i2 l2 (k+1)→IsPair h' s.heap.objs.size x y →
   (∀ t o,t∉[z,TO,i1,i2]→s.heap.get? t=some o→h'.get? t=some o)→R (.ref s.heap.objs.size) { s with heap:=h' }) :
  wpAny (model P w) A (Builtin.«zip.__next__» ⟨[.ref z],[]⟩) (fun fin s'=>∃ v,fin=.done (.ret v)∧R v s') E s:=by
 show wpAny _ _ (field (.ref z) 2 >>= _) _ _ _;refine wpAny_bind (wpAny_field gz rfl (x:=.bool false) rfl ?_);show wpAny _ _ (field (.ref z) 3 >>= _) _ _ _
 refine wpAny_bind (wpAny_field gz rfl (x:=.ref TI) rfl ?_)
 refine wpAny_bind (wpAny_seqItems gI rfl ?_);show wpAny _ _ (Builtin.SmallTypes.ownedTupleIsFree (.ref z) >>= _) _ _ _
 refine wpAny_bind ?_;unfold Builtin.SmallTypes.ownedTupleIsFree
 refine wpAny_bind (wpAny_field gz rfl (x:=.none) rfl (wpAny_pure ?_));simp only [if_true]
 refine wpAny_bind (wpAny_rule ?_);refine wpAny_bind (wpAny_field gz rfl (x:=.ref TO) rfl ?_)
 refine wpAny_bind (wpAny_setField_rec gz (by simp) fun h₁ gz₁ q₁=>?_)
 replace gz₁:IsZip h₁ z TI TO .ellipsis:=gz₁
 refine wpAny_bind ?_;simp only [List.zipIdx_cons,List.zipIdx_nil,List.forIn_cons,List.forIn_nil]
 refine wpAny_bind (wpAny_bind (wpAny_onRaise ?_));show wpAny _ _ (Builtin.SmallTypes.nextOf (.ref i1) >>= _) _ _ _
 refine wpAny_bind (zge (n1.extBut q₁.extBut D.i1z) (m1.extBut q₁.extBut D.l1z) ex fun h₂ n1₂ q₂=>wpAny_pure ?_)
 have gO₂:IsPair h₂ TO a b:=q₂.extBut _ _ D.TOi1 (q₁.extBut _ _ D.TOz gO)
 refine wpAny_bind (wpAny_seqItems gO₂ rfl ?_)
 refine wpAny_bind (wpAny_updateSeq_pair gO₂ fun h₃ gO₃ q₃=>?_)
 replace gO₃:IsPair h₃ TO x b:=gO₃
 refine wpAny_bind (wpAny_letGo (wpAny_pure ?_))
 refine wpAny_bind (wpAny_bind (wpAny_onRaise ?_));show wpAny _ _ (Builtin.SmallTypes.nextOf (.ref i2) >>= _) _ _ _
 refine wpAny_bind (zge (((n2.extBut q₁.extBut D.i2z).extBut q₂.extBut D.i12.symm).extBut q₃.extBut D.TOi2.symm)
  (((m2.extBut q₁.extBut D.l2z).extBut q₂.extBut D.l2i1).extBut q₃.extBut D.l2TO) ey fun h₄ n2₄ q₄=>wpAny_pure ?_)
 have gO₄:IsPair h₄ TO x b:=q₄.extBut _ _ D.TOi2 gO₃
 refine wpAny_bind (wpAny_seqItems gO₄ rfl ?_)
 refine wpAny_bind (wpAny_updateSeq_pair gO₄ fun h₅ gO₅ q₅=>?_)
 replace gO₅:IsPair h₅ TO x y:=gO₅
 refine wpAny_bind (wpAny_letGo (wpAny_pure (wpAny_pure ?_)))
 refine wpAny_bind (wpAny_seqItems gO₅ rfl ?_);refine wpAny_bind (wpAny_newTuple ?_)
 have sz:h₅.objs.size=s.heap.objs.size:=by rw [q₅.1,q₄.1,q₃.1,q₂.1,q₁.1]
 have gz₅:IsZip h₅ z TI TO .ellipsis:=q₅.extBut _ _ D.TOz.symm (q₄.extBut _ _ D.i2z.symm (q₃.extBut _ _ D.TOz.symm (q₂.extBut _ _ D.i1z.symm gz₁)))
 have kp:∀ t o,t∉[z,TO,i1,i2]→s.heap.get? t=some o→h₅.get? t=some o:=fun t o ht e=>by
  simp only [List.mem_cons,List.not_mem_nil,or_false,not_or] at ht
  obtain ⟨t1,t2,t3,t4⟩:=ht
  exact q₅.extBut _ _ t2 (q₄.extBut _ _ t4 (q₃.extBut _ _ t2 (q₂.extBut _ _ t3 (q₁.extBut _ _ t1 e))))
 have n1₅:h₅.IsTupleIter i1 l1 (k+1):=((n1₂.extBut q₃.extBut D.TOi1.symm).extBut q₄.extBut D.i12).extBut q₅.extBut D.TOi1.symm
 have n2₅:h₅.IsTupleIter i2 l2 (k+1):=n2₄.extBut q₅.extBut D.TOi2.symm
 have zlt:z<h₅.objs.size:=Heap.lt_size gz₅
 show wpAny _ _ (Builtin.SmallTypes.ownedTupleHandOut (.ref z) (.ref h₅.objs.size) >>= _) _ _ _;refine wpAny_bind ?_;unfold Builtin.SmallTypes.ownedTupleHandOut
 have gz₈:IsZip (h₅.push { cls:=.type "tuple",data:=.seq #[x,y] }) z TI TO .ellipsis:=Heap.get?_push_of_some _ gz₅
 refine wpAny_bind (wpAny_setField_rec gz₈ (by simp) fun h₉ gz₉ q₉=>?_)
 replace gz₉:IsZip h₉ z TI TO (rawInt h₅.objs.size):=gz₉
 refine wpAny_setField_rec gz₉ (by simp) fun hA gzA qA=>?_
 replace gzA:IsZip hA z TI TO (rawInt h₅.objs.size):=gzA
 have up:∀ t o,t≠z→h₅.get? t=some o→hA.get? t=some o:=fun t o t1 e=>qA.extBut _ _ t1 (q₉.extBut _ _ t1 (Heap.get?_push_of_some _ e))
 have gT:IsPair hA h₅.objs.size x y:=qA.extBut _ _ (Nat.ne_of_gt zlt) (q₉.extBut _ _ (Nat.ne_of_gt zlt) (Heap.get?_push_size _ rfl))
 rw [sz] at gzA gT
 refine wpAny_pure ⟨_,rfl,?_⟩;show R (.ref h₅.objs.size) _;rw [sz]
 exact q hA gzA (up _ _ D.TOz gO₅) (znr n1₅ fun o e=>up _ o D.i1z e) (znr n2₅ fun o e=>up _ o D.i2z e) gT fun t o ht e=>up t o (fun h=>ht (by simp [h])) (kp t o ht e)
theorem zp3 {z TI TO i1 i2 l1 l2:Addr} {k:Nat} {xs ys:Array Value} {a b:Value} {R:PySem.Fin→Shared→Prop} (hh:A.handled=none) (D:ZipApart z TI TO i1 i2 l1 l2)
  (gz:IsZip s.heap z TI TO .none) (gI:IsPair s.heap TI (.ref i1) (.ref i2)) (gO:IsPair s.heap TO a b)
  (n1:s.heap.IsTupleIter i1 l1 k) (n2:s.heap.IsTupleIter i2 l2 k) (m1:s.heap.IsTuple l1 xs) (m2:s.heap.IsTuple l2 ys) (ee:xs[k]?=none∨ys[k]?=none)
  (q:∀ h' e,(∀ t o,t∉[z,TO,i1,i2]→s.heap.get? t=some o→h'.get? t=some o)→(∃ o,h'.get? e=some o∧o.cls=.type "StopIteration")→E (.ref e) { s with heap:=h' }) :
  wpAny (model P w) A (Builtin.«zip.__next__» ⟨[.ref z],[]⟩) R E s:=by
 show wpAny _ _ (field (.ref z) 2 >>= _) _ _ _;refine wpAny_bind (wpAny_field gz rfl (x:=.bool false) rfl ?_);show wpAny _ _ (field (.ref z) 3 >>= _) _ _ _
 refine wpAny_bind (wpAny_field gz rfl (x:=.ref TI) rfl ?_)
 refine wpAny_bind (wpAny_seqItems gI rfl ?_);show wpAny _ _ (Builtin.SmallTypes.ownedTupleIsFree (.ref z) >>= _) _ _ _
 refine wpAny_bind ?_;unfold Builtin.SmallTypes.ownedTupleIsFree
 refine wpAny_bind (wpAny_field gz rfl (x:=.none) rfl (wpAny_pure ?_));simp only [if_true]
 refine wpAny_bind (wpAny_rule ?_);refine wpAny_bind (wpAny_field gz rfl (x:=.ref TO) rfl ?_)
 refine wpAny_bind (wpAny_setField_rec gz (by simp) fun h₁ gz₁ q₁=>?_)
 replace gz₁:IsZip h₁ z TI TO .ellipsis:=gz₁
 refine wpAny_bind ?_;simp only [List.zipIdx_cons,List.zipIdx_nil,List.forIn_cons,List.forIn_nil]
 refine wpAny_bind (wpAny_bind (wpAny_onRaise ?_));show wpAny _ _ (Builtin.SmallTypes.nextOf (.ref i1) >>= _) _ _ _
 cases ex:xs[k]? with
 | none =>
  refine wpAny_bind (zjJ hh (n1.extBut q₁.extBut D.i1z) (m1.extBut q₁.extBut D.l1z) ex fun h₂ e q₂ he=>?_)
  obtain ⟨oe,g1,g2⟩:=he
  have gz₂:IsZip h₂ z TI TO .ellipsis:=q₂ _ _ D.i1z.symm gz₁
  have nz:e≠z:=fun x=>by subst x;rw [gz₂] at g1;cases g1;simp at g2
  refine wpAny_setField_rec gz₂ (by simp) fun h₃ _ q₃=>q h₃ e (fun t o ht x=>?_) ⟨oe,q₃.extBut _ _ nz g1,g2⟩
  simp only [List.mem_cons,List.not_mem_nil,or_false,not_or] at ht
  exact q₃.extBut _ _ ht.1 (q₂ _ _ ht.2.2.1 (q₁.extBut _ _ ht.1 x))
 | some x =>
  have ey:ys[k]?=none:=ee.resolve_left (by rw [ex];simp)
  refine wpAny_bind (zge (n1.extBut q₁.extBut D.i1z) (m1.extBut q₁.extBut D.l1z) ex fun h₂ n1₂ q₂=>wpAny_pure ?_)
  have gO₂:IsPair h₂ TO a b:=q₂.extBut _ _ D.TOi1 (q₁.extBut _ _ D.TOz gO)
  refine wpAny_bind (wpAny_seqItems gO₂ rfl ?_);refine wpAny_bind (wpAny_updateSeq_pair gO₂ fun h₃ gO₃ q₃=>?_)
  refine wpAny_bind (wpAny_letGo (wpAny_pure ?_))
  refine wpAny_bind (wpAny_bind (wpAny_onRaise ?_));show wpAny _ _ (Builtin.SmallTypes.nextOf (.ref i2) >>= _) _ _ _
  refine wpAny_bind (zjJ hh (((n2.extBut q₁.extBut D.i2z).extBut q₂.extBut D.i12.symm).extBut q₃.extBut D.TOi2.symm) (((m2.extBut q₁.extBut D.l2z).extBut q₂.extBut D.l2i1).extBut q₃.extBut D.l2TO) ey fun h₄ e q₄ he=>?_)
  obtain ⟨oe,g1,g2⟩:=he
  have gz₄:IsZip h₄ z TI TO .ellipsis:=q₄ _ _ D.i2z.symm (q₃.extBut _ _ D.TOz.symm (q₂.extBut _ _ D.i1z.symm gz₁))
  have nz:e≠z:=fun x=>by subst x;rw [gz₄] at g1;cases g1;simp at g2
  refine wpAny_setField_rec gz₄ (by simp) fun h₅ _ q₅=>q h₅ e (fun t o ht x=>?_) ⟨oe,q₅.extBut _ _ nz g1,g2⟩
  simp only [List.mem_cons,List.not_mem_nil,or_false,not_or] at ht
  obtain ⟨t1,t2,t3,t4⟩:=ht
  exact q₅.extBut _ _ t1 (q₄ _ _ t4 (q₃.extBut _ _ t2 (q₂.extBut _ _ t3 (q₁.extBut _ _ t1 x))))
abbrev ti0 (l:Addr):Obj:={ cls:=.type "tuple_iterator",data:=.fields #[.ref l,.int 0 0] }
abbrev th1 (h:Heap) (l1:Addr):Heap:=h.push (ti0 l1)
abbrev th2 (h:Heap) (l1 l2:Addr):Heap:=(th1 h l1).push (ti0 l2)
abbrev th3 (h:Heap) (l1 l2:Addr):Heap:=(th2 h l1 l2).push { cls:=.type "tuple",data:=.seq #[.ref h.objs.size,.ref (th1 h l1).objs.size] }
abbrev th4 (h:Heap) (l1 l2:Addr):Heap:=(th3 h l1 l2).push { cls:=.type "tuple",data:=.seq #[.none,.none] }
abbrev th5 (h:Heap) (l1 l2:Addr):Heap:=(th4 h l1 l2).push { cls:=.type "zip",data:=.fields #[.none,.bool false,.bool false,.ref (th2 h l1 l2).objs.size,.ref (th3 h l1 l2).objs.size] }
theorem newT (l1 l2:Addr) (xs ys:Array Value) :
  Meets (Builtin.«zip.__new__» ⟨[.type "zip",.ref l1,.ref l2],[]⟩) (fun _ R s=>s.heap.IsTuple l1 xs∧s.heap.IsTuple l2 ys∧R (.ok (.ret (.ref (th4 s.heap l1 l2).objs.size))) { s with heap:=th5 s.heap l1 l2 }) :=
 .of_wp fun prog w A R s h=>by
  obtain ⟨hp,g,d,tk,os⟩:=s;obtain ⟨m1,m2,h⟩:=h
  have hsub:=sub_zip
  have k1:Heap.IsTuple (Shared.heap ⟨hp,g,d,tk,os⟩) l1 xs:=m1
  have k2:Heap.IsTuple (Shared.heap ⟨hp.push { cls:=.type "tuple_iterator",data:=.fields #[.ref l1,.int 0 0] },g,d,tk,os⟩) l2 ys:=Heap.IsTuple.push m2 _
  wp_walk using wpAny_pyIter_tuple k1,wpAny_pyIter_tuple k2
  exact ⟨_,rfl,h⟩
theorem callT {l1 l2:Addr} {xs ys:Array Value} {R:Value→Shared→Prop} (m1:s.heap.IsTuple l1 xs) (m2:s.heap.IsTuple l2 ys)
  (h:∀ (h':Heap) (n:Nat),n=s.heap.objs.size→IsZip h' (n+4) (n+2) (n+3) .none→IsPair h' (n+2) (.ref n) (.ref (n+1))→IsPair h' (n+3) .none .none→h'.IsTupleIter n l1 0→h'.IsTupleIter (n+1) l2 0 →
   (∀ c o,s.heap.get? c=some o→h'.get? c=some o)→R (.ref (n+4)) { s with heap:=h' }) :
  wpAny (model P w) A (call (.type "zip") [.ref l1,.ref l2]) R E s:=by
 refine callType_new F.called_zip (by decide) (F.typeCall_zip_2 _ _) (F.newCall_zip_2 _ _) (fun obj=>F.args_object_init_3 obj _ _) F.entry_zip_new (newT l1 l2 xs ys) ⟨m1,m2,?_⟩
 have z1:(th1 s.heap l1).objs.size=s.heap.objs.size+1:=Heap.size_push ..
 have z2:(th2 s.heap l1 l2).objs.size=s.heap.objs.size+2:=by rw [Heap.size_push,z1]
 have z3:(th3 s.heap l1 l2).objs.size=s.heap.objs.size+3:=by rw [Heap.size_push,z2]
 have z4:(th4 s.heap l1 l2).objs.size=s.heap.objs.size+4:=by rw [Heap.size_push,z3]
 have on:∀ {hh:Heap} {a:Addr} {o o':Obj},hh.get? a=some o→(hh.push o').get? a=some o:=fun e=>Heap.get?_push_of_some _ e
 have y5:(th5 s.heap l1 l2).get? (th4 s.heap l1 l2).objs.size=some _:=Heap.get?_push_size _ rfl
 have y4:(th5 s.heap l1 l2).get? (th3 s.heap l1 l2).objs.size=some _:=on (Heap.get?_push_size _ rfl)
 have y3:(th5 s.heap l1 l2).get? (th2 s.heap l1 l2).objs.size=some _:=on (on (Heap.get?_push_size _ rfl))
 have y2:(th5 s.heap l1 l2).get? (th1 s.heap l1).objs.size=some _:=on (on (on (Heap.get?_push_size _ rfl)))
 have y1:(th5 s.heap l1 l2).get? s.heap.objs.size=some _:=on (on (on (on (Heap.get?_push_size _ rfl))))
 show _∧_
 rw [z2,z3,z4] at y5
 rw [z3] at y4
 rw [z1,z2] at y3
 rw [z1] at y2
 rw [z4]
 exact ⟨⟨_,y5,rfl⟩,h _ _ rfl y5 y3 y4 ⟨_,y1,rfl,rfl⟩ ⟨_,y2,rfl,rfl⟩ fun c o x=>on (on (on (on (on x))))⟩
end
def tnT (z TI TO i1 i2 p q:Addr) (i:Nat) (h:Heap):Prop:=IsZip h z TI TO .none∧IsPair h TI (.ref i1) (.ref i2)∧(∃ a b,IsPair h TO a b)∧h.IsTupleIter i1 p i∧h.IsTupleIter i2 q i
theorem zmK {z TI TO i1 i2 p q:Addr} {i:Nat} {h h':Heap} (st:tnT z TI TO i1 i2 p q i h) (k:∀ b∈[z,TI,TO,i1,i2],∀ o,h.get? b=some o→h'.get? b=some o):tnT z TI TO i1 i2 p q i h':=by
 obtain ⟨a1,a2,⟨x,y,a3⟩,a4,a5⟩:=st
 exact ⟨k z (by simp) _ a1,k TI (by simp) _ a2,⟨x,y,k TO (by simp) _ a3⟩,znr a4 fun o e=>k i1 (by simp) o e,znr a5 fun o e=>k i2 (by simp) o e⟩
theorem zh6 {z TI TO i1 i2 p q:Addr} {i:Nat} {h:Heap} (st:tnT z TI TO i1 i2 p q i h):∀ b∈[z,TI,TO,i1,i2],∃ o,h.get? b=some o∧∀ v,o.data≠.cell v:=fun b hb=>by
 obtain ⟨a1,a2,⟨x,y,a3⟩,⟨o4,a4,_,d4⟩,⟨o5,a5,_,d5⟩⟩:=st
 simp only [List.mem_cons,List.not_mem_nil,or_false] at hb
 rcases hb with rfl | rfl | rfl | rfl | rfl
 ·exact ⟨_,a1,zbh rfl⟩
 ·exact ⟨_,a2,fun v z=>nomatch (show Data.seq _ _=Data.cell v from z)⟩
 ·exact ⟨_,a3,fun v z=>nomatch (show Data.seq _ _=Data.cell v from z)⟩
 ·exact ⟨_,a4,zbh d4⟩
 ·exact ⟨_,a5,zbh d5⟩
theorem turnT {P:Program} {w:World} {K:PySem.W.Frag} {elts:List Expr} {k:Nat} {pos:Pos} {z TI TO i1 i2 p q:Addr} (D:ZipApart z TI TO i1 i2 p q):zo8 P w K (.Tuple elts k pos) (ItzT K p q) [z,TI,TO,i1,i2] z (tnT z TI TO i1 i2 p q) where
 mem:=by simp
 obj:=fun i h st=>zh6 st
 keep:=fun i h h' st kk=>zmK st kk
 item:=by
  intro X hP hw hK hc i pins s σ H E I hf st hg
  subst hP hw hK
  obtain ⟨xs,ys,a,b,hx,hy,ea,eb⟩:=hg
  obtain ⟨its1,r1,pl1,z1⟩:=I.tuple hx
  obtain ⟨its2,r2,pl2,z2⟩:=I.tuple hy
  obtain ⟨ua,eua,rua⟩:=r1.get ea
  obtain ⟨ub,eub,rub⟩:=r2.get eb
  have there:=zh6 st
  obtain ⟨s1,s2,⟨x0,y0,s3⟩,s4,s5⟩:=st
  have ty:s.TypeIs (.ref z) "zip":=⟨_,s1,rfl⟩
  unfold pyNext
  refine wpAny_bind (wpAny_attempt (wpAny_callSpecial?_slot (name:=Str.ofString "__next__") ty F.slot_zip_next (wpAny_call_entry F.slot_zip_next ty F.entry_zip_next (zn8 D s1 s2 s3 s4 s5 pl1 pl2 (by simpa using eua) (by simpa using eub) fun h' a1 a2 a3 a4 aT kk=>wpAny_pure ⟨_,rfl,?_⟩) (F.args_zip_next_1 _))))
  refine wpAny_letOwnedTupleGo_zip a1 fun h2 gz2 q2=>?_
  have sub:∀ b∈[z,TO,i1,i2],b∈[z,TI,TO,i1,i2]:=fun b hb=>by
   simp only [List.mem_cons,List.not_mem_nil,or_false] at hb ⊢
   rcases hb with h | h | h | h <;> simp [h]
  have I1:Inv X pins σ H { s with heap:=h2 }:=I.turns (t':=s.toks) (ch:=[z,TO,i1,i2]) (fun b o hb e=>q2.extBut _ _ (fun x=>hb (by simp [x])) (kk b o hb e)) fun b hb=>hf b (sub b hb)
  have hT:s.heap.objs.size≤s.heap.objs.size:=Nat.le_refl _
  have nT:H s.heap.objs.size=none:=I.hok.fresh hT
  have zT:s.heap.objs.size≠z:=Nat.ne_of_gt (Heap.lt_size s1)
  have I2:=I1.track (a:=s.heap.objs.size) (o:=.tup [a,b]) nT (Heap.get?_none_of_le (Nat.le_trans I.sz hT)) (Nat.ne_of_gt (Nat.lt_of_lt_of_le I.lt hT)) (fun x c e=>by
   obtain ⟨v,q⟩:=I.cell x c e
   exact Nat.ne_of_lt (Nat.lt_of_lt_of_le q.lt hT)) (fun p hp=>Nat.ne_of_lt (Nat.lt_of_lt_of_le (Heap.lt_size (I.pin p hp).1) hT)) (by
   refine ⟨by show 2≤sizeLine;decide,[ua,ub],.cons rua (.cons rub .nil),?_⟩
   exact ⟨_,q2.extBut _ _ zT aT,rfl,_,rfl⟩)
  refine ⟨.ref s.heap.objs.size,_,I2,rfl,⟨s.heap.objs.size,a,b,rfl,nT,rfl,fun xs' h'=>?_,fun ys' h'=>?_⟩,?_,fun b hb=>?_⟩
  ·rw [I.tuple_inj h' hx];exact ea
  ·rw [I.tuple_inj h' hy];exact eb
  ·have nTI:TI∉[z,TO,i1,i2]:=by
    simp only [List.mem_cons,List.not_mem_nil,or_false,not_or]
    exact ⟨D.TIz,D.TITO,D.TIi1,D.TIi2⟩
   exact ⟨gz2,q2.extBut _ _ D.TIz (kk _ _ nTI s2),⟨_,_,q2.extBut _ _ D.TOz a2⟩,a3.extBut q2.extBut D.i1z,a4.extBut q2.extBut D.i2z⟩
  ·obtain ⟨o,e,_⟩:=there b hb
   rw [zaq (Nat.ne_of_lt (Nat.lt_of_lt_of_le (Heap.lt_size e) hT))]
   exact (hf b hb).1
 done:=by
  intro X hP hw hK hc i pins s σ H E I hf st hg
  subst hP hw hK
  obtain ⟨xs,ys,hx,hy,rfl⟩:=hg
  obtain ⟨its1,r1,pl1,z1⟩:=I.tuple hx
  obtain ⟨its2,r2,pl2,z2⟩:=I.tuple hy
  obtain ⟨s1,s2,⟨x0,y0,s3⟩,s4,s5⟩:=st
  have sub:∀ b∈[z,TO,i1,i2],b∈[z,TI,TO,i1,i2]:=fun b hb=>by
   simp only [List.mem_cons,List.not_mem_nil,or_false] at hb ⊢
   rcases hb with h | h | h | h <;> simp [h]
  have ee:its1.toArray[min xs.length ys.length]?=none∨its2.toArray[min xs.length ys.length]?=none:=by
   rw [r1.length,r2.length]
   rcases Nat.le_total its1.length its2.length with h | h
   ·exact .inl (by rw [Nat.min_eq_left h];simp)
   ·exact .inr (by rw [Nat.min_eq_right h];simp)
  have ty:s.TypeIs (.ref z) "zip":=⟨_,s1,rfl⟩
  unfold pyNext
  refine wpAny_bind (wpAny_attempt (wpAny_callSpecial?_slot (name:=Str.ofString "__next__") ty F.slot_zip_next (wpAny_call_entry F.slot_zip_next ty F.entry_zip_next (zp3 (I.ok.hd hc) D s1 s2 s3 s4 s5 pl1 pl2 ee fun h' e kk he=>?_) (F.args_zip_next_1 _))))
  obtain ⟨o,h1,h2⟩:=he
  exact wpAny_bind (wpAny_isInstance (T:="StopIteration") (b:=true) ⟨o,h1,h2⟩ isSubtype_stop (wpAny_pure ⟨rfl,I.turns (t':=s.toks) (ch:=[z,TO,i1,i2]) (fun b o hb e=>kk b o hb e) fun b hb=>hf b (sub b hb)⟩))
 self:=fun A i s Q E st h=>wpAny_pyIter_zip st.1 h
end L2.Zt
namespace L2
open PySem PySem.Spec PyProof.Rows
theorem zn4 {X:Cx} {a b:Expr} {elts:List Expr} {k:Nat} {tp p pos:Pos} {ta:TA} (hg:Gl X "zip") (hm:X.mg "zip"=none) (ha:PA X [a,b] ta) (hs:starEach [a,b] X.env=[(false,eval a X.env),(false,eval b X.env)]:=by rfl) (hs2:starEach [b] X.env=[(false,eval b X.env)]:=by rfl) :
  PI X (.Tuple elts k tp) (.Call (.Name "zip" p) [a,b] [] pos) (zmx X.K ta):=by
 intro pins s σ H R I h
 refine Call_ (zfw I hg hm boot_zip (PyProof.Rows.callWith_type1 (thn (ha pos pins s σ H _ I h) fun us s1 hQ'=>?_) (by rw [hs,hs2]) (by rw [hs2];rfl)))
 obtain ⟨vs,H1,I1,r1,q1⟩:=hQ'
 obtain ⟨p1,p2,rfl,c⟩:=q1
 obtain ⟨u,v,rfl,ru,rv⟩:=zkN r1
 cases ru
 cases rv
 have new:∀ b∈[s1.heap.objs.size+4,s1.heap.objs.size+2,s1.heap.objs.size+3,s1.heap.objs.size,s1.heap.objs.size+1],s1.heap.objs.size≤b:=fun b hb=>by
  simp only [List.mem_cons,List.not_mem_nil,or_false] at hb
  rcases hb with h | h | h | h | h <;> rw [h] <;> first | exact Nat.le_refl _ | exact Nat.le_add_right _ _
 rcases c with ⟨⟨xs,hx⟩,⟨ys,hy⟩,q⟩ | ⟨⟨xs,hx⟩,⟨ys,hy⟩,q⟩
 ·obtain ⟨its1,_,pl1,_⟩:=I1.list hx
  obtain ⟨its2,_,pl2,_⟩:=I1.list hy
  have a1:p1<s1.heap.objs.size:=by obtain ⟨_,e,_⟩:=pl1.isList;exact Heap.lt_size e
  have a2:p2<s1.heap.objs.size:=by obtain ⟨_,e,_⟩:=pl2.isList;exact Heap.lt_size e
  refine call_zip_2 pl1.isList pl2.isList fun h' hz hTI hTO hi1 hi2 hsz hk=>?_
  refine wpAny_pyIter_zip hz ?_
  exact ⟨_,_,_,_,H1,rfl,I1.kept (t':=s1.toks) hk,znB (zipApart_new a1 a2),⟨hz,hTI,⟨_,_,hTO⟩,hi1,hi2⟩,fun b hb=>I1.fpOk (new b hb) (I1.hok.fresh (new b hb)),q⟩
 ·obtain ⟨its1,_,pl1,_⟩:=I1.tuple hx
  obtain ⟨its2,_,pl2,_⟩:=I1.tuple hy
  have a1:p1<s1.heap.objs.size:=by obtain ⟨_,e,_⟩:=pl1;exact Heap.lt_size e
  have a2:p2<s1.heap.objs.size:=by obtain ⟨_,e,_⟩:=pl2;exact Heap.lt_size e
  refine Zt.callT pl1 pl2 fun h' n en hz hTI hTO hi1 hi2 hk=>?_
  subst en
  refine wpAny_pyIter_zip hz ?_
  exact ⟨_,_,_,_,H1,rfl,I1.kept (t':=s1.toks) hk,Zt.turnT (zipApart_new a1 a2),⟨hz,hTI,⟨_,_,hTO⟩,hi1,hi2⟩,fun b hb=>I1.fpOk (new b hb) (I1.hok.fresh (new b hb)),q⟩
end L2
namespace L2
open PySem PySem.Spec PyProof.Rows
def zlX (P:Program) (w:World) (K:PySem.W.Frag) (mg:Str→Option Value) (base:Heap) (N:List Str) (qual:Str) (scope:Scope) (f:Addr) (cd:Value) (cl:List (Str×Addr)) (A:Around) (outer:List Env) (s:Shared) (H:Hp):Cx where
 prog:=P
 w:=w
 K:=K
 mg:=mg
 base:=base
 A:=A.deeper (PySem.W.envX qual scope s.heap.objs.size f cd cl)
 N:=N
 s₀:=s
 H₀:=H
 env:=PySem.W.envX qual scope s.heap.objs.size f cd cl
 outer:=outer
 stack:=PySem.W.envX qual scope s.heap.objs.size f cd cl::outer
 ex:=[]
 calm:=true
 fn:=fun y=>(cl.lookup y).isNone
 pn:=[]
 xe:=fun _ _=>False
structure zp8 (H:Hp) (h:Heap) (sc:Scope) (cl:List (Str×Addr)) (Ns:List Str) (vs:List V):Prop where
 len:vs.length=Ns.length
 at':∀ (i:Nat) (y:Str),Ns[i]?=some y→∃ c uy vy,cl.lookup y=some c∧sc.names.lookup y=some .free∧h.IsCell c (some uy)∧vs[i]?=some vy∧zbG vy uy
 has:∀ y,sc.names.lookup y=some .free→∃ c,cl.lookup y=some c
 cel:∀ y c,cl.lookup y=some c→H c=none∧∃ v,h.IsCell c v
 inj:∀ y z c,cl.lookup y=some c→cl.lookup z=some c→y=z
def Bar (P:Addr) (H H':Hp):Prop:=∀ b o,b≠P→H b=some o→H' b=some o
def zcP (H:Hp) (P:Addr) (pos:Pos) (qual:Str):Prop:=H P=some (.tbl #[]) ∨
 ∃ (c':Addr) (oc:Obj) (vs:Array Value) (t:Nat),c'≠P∧H P=some (.tbl #[rawInt pos.line,rawInt pos.col,.ref c'])∧H c'=some (.frz oc (.own c'))∧oc.data=.fields vs∧vs[1]?=some (.str qual t)
section
variable {X:Cx} {pins:List (Addr×Obj)} {σ:St} {H:Hp} {s:Shared} {c P:Addr} {pos:Pos} {qual:Str} {params:Arguments} {body:Expr} {scope:Scope} {clos:List (Str×Addr)} {Q:Value→Shared→Prop} {E:Value→Shared→Prop}
theorem zoQ {ps ps':Array Value} {h h':Heap} {Pg:Program} {w:World} {c':Addr} {oc:Obj} (ok:HOk Pg w H h) (hP:H P=some (.tbl ps)) (hc:H c'=none) (hx:∀ b o,b≠P→h.get? b=some o→h'.get? b=some o)
  (e1:h'.get? P=some { cls:=.none,data:=.fields ps' }) (e2:h'.get? c'=some oc):HOk Pg w (upd (upd H P (.tbl ps')) c' (.frz oc (.own c'))) h':=by
 have ncP:c'≠P:=fun z=>by rw [z,hP] at hc;cases hc
 intro b u e
 by_cases q:b=c'
 ·subst q
  rw [zad] at e
  cases e
  exact ⟨e2,oc,e2⟩
 ·rw [zaq q] at e
  by_cases q2:b=P
  ·subst q2
   rw [zad] at e
   cases e
   exact e1
  ·rw [zaq q2] at e
   refine (ok b u e).stay (fun d v hd r=>hx d v (fun z=>?_) r) (fun d r=>?_) fun d xs r=>?_
   ·rcases hd with rfl | hd
    ·exact q2 z
    ·rw [z,hP] at hd;cases hd
   ·rw [zaq (fun z=>by rw [z,hc] at r;cases r),zaq (fun z=>by rw [z,hP] at r;cases r)];exact r
   ·rw [zaq (fun z=>by rw [z,hc] at r;cases r),zaq (fun z=>by rw [z,hP] at r;cases r)];exact r
theorem zpL {ps more:Array Value} {fs ex:List Addr} {h h':Heap} {c':Addr} {oc:Obj} (hP:H P=some (.tbl ps)) (hc:H c'=none) (hf:h.objs.size≤c') (hx:∀ b o,b≠P→h.get? b=some o→h'.get? b=some o) (hPt:∃ o,h'.get? P=some o) :
  Un fs ex H (upd (upd H P (.tbl (ps++more))) c' (.frz oc (.own c'))) h h':=by
 have nP:∀ b,H b=none→b≠P:=fun b n z=>by rw [z,hP] at n;cases n
 have nc:∀ b u,H b=some u→b≠c':=fun b u e z=>by rw [z,hc] at e;cases e
 refine ⟨fun b o q n _ _=>hx b o (nP b n) q,fun b o q n _ _=>⟨o.slots,hx b o (nP b n) q⟩,fun b o q n _=>?_,fun b o q _=>?_,fun b xs q=>?_,fun b o u q=>?_,fun b ps' q=>?_⟩
 ·rw [zaq (Nat.ne_of_lt (Nat.lt_of_lt_of_le (Heap.lt_size q) hf)),zaq (nP b n)];exact n
 ·by_cases z:b=P
  ·rw [z];exact hPt
  ·exact ⟨o,hx b o z q⟩
 ·rw [zaq (nc b _ q),zaq (fun z=>by rw [z,hP] at q;cases q)];exact q
 ·rw [zaq (nc b _ q),zaq (fun z=>by rw [z,hP] at q;cases q)];exact q
 ·rw [zaq (nc b _ q)]
  by_cases z:b=P
  ·subst z
   rw [hP] at q
   cases q
   exact ⟨more,zad⟩
  ·rw [zaq z]
   exact ⟨#[],by rw [q];simp⟩
theorem zna (I:Inv X pins σ H s) (hcode:X.env.code=.ref c) (C:PySem.W.CodeHd X.base c P) (hB:X.base.BuiltinsAt X.mg P) (hL:zcP H P pos qual) (hcl:closureFor scope X.env=pure clos) (hdef:defaultsOf params X.env=([],[]))
  (hq:X.env.qual++"<lambda>"=qual)
  (h:∀ (q c':Addr) (pm ctv:Value) (H':Hp) (s':Shared) (oc:Obj) (vs:Array Value) (t:Nat),Inv X pins σ H' s'→Bar P H H'→zcP H' P pos qual→s'.heap.get? q=some (PySem.W.kla_obj "<lambda>" qual params body scope clos pm c' ctv) →
   H' c'=some (.frz oc (.own c'))→oc.data=.fields vs→vs[1]?=some (.str qual t)→zjt X pins H' q→Q (.ref q) s') :
  wpAny (model X.prog X.w) X.A (eval (.Lambda params body scope pos) X.env) Q E s:=by
 have hg:s.heap.Ns mainGlobals X.mg:=I.ok.mod.glob.keeps I.bk
 have C':=C.keeps I.bk
 obtain ⟨bm,ob,b1,b2,b3,b4,b5,b6⟩:=hB
 have hgP:∀ ps,H P=some (.tbl ps)→mainGlobals≠P:=fun ps hP z=>by
  have e:=I.hok P _ hP
  obtain ⟨o,es,ep,e',d,_⟩:=hg
  rw [z] at e'
  have e:s.heap.get? P=some { cls:=.none,data:=.fields ps }:=e
  rw [e'] at e
  cases e
  cases d
 refine PySem.W.kla_eval hdef ?_
 rw [hq]
 rcases hL with hP | ⟨c',oc,vs,t,ne,hP,hc,hd,hv⟩
 ·refine PySem.W.kla_makeFunction (mg:=X.mg) (ps:=#[]) hcl I.ok.glob hg hcode C' (I.hok P _ hP) trivial rfl (hgP _ hP) ⟨bm,ob,b1,b2,b3,b4,I.bk _ _ b5,b6⟩ fun c' ctv h' tk hx hge hlt hrec htb=>?_
  obtain ⟨c₂,oc,vs,t,e2,hoc,hd,hv⟩:=hrec
  cases e2
  have hcn:H c'=none:=I.hok.fresh hge
  have hx':∀ b o,b≠P→s.heap.get? b=some o→(h'.push (PySem.W.kla_obj "<lambda>" qual params body scope clos ((X.mg "__name__").getD .none) c' ctv)).get? b=some o:=fun b o q e=>Heap.get?_push_of_some _ (hx b o q e)
  have e1:(h'.push (PySem.W.kla_obj "<lambda>" qual params body scope clos ((X.mg "__name__").getD .none) c' ctv)).get? P=some { cls:=.none,data:=.fields (#[]++#[rawInt pos.line,rawInt pos.col,.ref c']) }:=Heap.get?_push_of_some _ htb
  have e2:(h'.push (PySem.W.kla_obj "<lambda>" qual params body scope clos ((X.mg "__name__").getD .none) c' ctv)).get? c'=some oc:=Heap.get?_push_of_some _ hoc
  have ncP:c'≠P:=fun z=>by rw [z,hP] at hcn;cases hcn
  have J:=I.un (t':=tk) (zpL (more:=#[rawInt pos.line,rawInt pos.col,.ref c']) (oc:=oc) hP hcn hge hx' ⟨_,e1⟩) (zoQ I.hok hP hcn hx' e1 e2)
  have hsz:s.heap.objs.size≤h'.objs.size:=Nat.le_trans hge (Nat.le_of_lt hlt)
  have nq:H h'.objs.size=none:=I.hok.fresh hsz
  refine h h'.objs.size c' _ ctv _ _ oc vs t J (fun b o nb e=>?_) (.inr ⟨c',oc,vs,t,ncP,?_,zad,hd,hv⟩) (Heap.get?_push_size _ rfl) zad hd hv (I.fpOk hsz ?_)
  ·rw [zaq (fun z=>by rw [z,hcn] at e;cases e),zaq nb];exact e
  ·rw [zaq (Ne.symm ncP),zad];rfl
  ·rw [zaq (Nat.ne_of_gt hlt),zaq (fun z=>by rw [z,hP] at nq;cases nq)];exact nq
 ·have hf:codeAmong pos (#[rawInt pos.line,rawInt pos.col,Value.ref c']:Array Value).toList=some (.ref c'):=by simp [codeAmong,rawInt]
  refine PySem.W.kla_makeFunctionHit (mg:=X.mg) (ps:=#[rawInt pos.line,rawInt pos.col,.ref c']) hcl I.ok.glob hg hcode C' (I.hok P _ hP) trivial hf ⟨bm,ob,b1,b2,b3,b4,I.bk _ _ b5,b6⟩ fun ctv h' tk hk hsz=>?_
  have J:=I.kept (t':=tk) (h':=h'.push (PySem.W.kla_obj "<lambda>" qual params body scope clos ((X.mg "__name__").getD .none) c' ctv)) fun b u e=>Heap.get?_push_of_some _ (hk b u e)
  exact h h'.objs.size c' _ ctv H _ oc vs t J (fun _ _ _ e=>e) (.inr ⟨c',oc,vs,t,ne,hP,hc,hd,hv⟩) (Heap.get?_push_size _ rfl) hc hd hv (I.fpOk hsz (I.hok.fresh hsz))
end
end L2
namespace L2
open PySem PySem.Spec PyProof.Rows
theorem zcP.tbl {H:Hp} {P:Addr} {pos:Pos} {qual:Str} (h:zcP H P pos qual):∃ ps,H P=some (.tbl ps):=by
 rcases h with h | ⟨_,_,_,_,_,h,_⟩ <;> exact ⟨_,h⟩
section
variable {X:Cx} {e body:Expr} {t:TA} {tb:TE} {pos p kp lpos:Pos} {c P:Addr} {params:Arguments} {scope:Scope} {clos:List (Str×Addr)} {qual x:Str} {Ns:List Str} {js:List Nat} {k:Nat}
end
end L2
namespace L2
open PySem PySem.Spec PyProof.Rows
def zbg (P:Addr) (K:PySem.W.Frag):PySem.W.Frag:=K.filter fun x=>x.1 != P
theorem zaJ {P b:Addr} (h:b≠P):∀ {K:PySem.W.Frag},(zbg P K).lookup b=K.lookup b
 | []=>rfl
 | (a,o)::K=>by
  unfold zbg
  by_cases q:a=P
  ·rw [List.filter_cons_of_neg (by simpa using q)]
   show (zbg P K).lookup b=_
   rw [zaJ h,List.lookup_cons,show (b == a)=false from beq_eq_false_iff_ne.mpr (by rw [q];exact h)]
  ·rw [List.filter_cons_of_pos (by simpa using q),List.lookup_cons,List.lookup_cons]
   show (match b == a with | true=>some o | false=>(zbg P K).lookup b)=_
   rw [zaJ h]
   cases b == a <;> rfl
theorem zax {P:Addr}:∀ {K:PySem.W.Frag},(zbg P K).lookup P=none
 | []=>rfl
 | (a,o)::K=>by
  unfold zbg
  by_cases q:a=P
  ·rw [List.filter_cons_of_neg (by simpa using q)]
   exact zax (K:=K)
  ·rw [List.filter_cons_of_pos (by simpa using q),List.lookup_cons,show (P == a)=false from beq_eq_false_iff_ne.mpr (Ne.symm q)]
   exact zax (K:=K)
theorem zoY {P:Addr} {K:PySem.W.Frag} {h:Heap} (KX:K.In h):(zbg P K).In h:=fun b o e=>by
 by_cases q:b=P
 ·rw [q,zax] at e;cases e
 ·rw [zaJ q] at e;exact KX b o e
theorem zmb {Pg:Program} {w:World} {K:PySem.W.Frag} {mg mb:Str→Option Value} {CX:CXT} {k:Nat} {fa a c P:Addr} {fd:FuncData} {x:Str} {sp:Sp} {s₁:Shared} {vs:List Value} {ns:List Int}
  (KX:K.In s₁.heap) (hPK:K.lookup P=none) (hPt:s₁.heap.get? P=some (PySem.W.tabObj #[])) (hC:PySem.W.CodeHd s₁.heap c P) (hB:s₁.heap.BuiltinsAt mg P)
  (hns:s₁.heap.Ns mainGlobals mg) (hb:s₁.heap.Ns builtinsNs mb) (hbb:∀ x:Str,x≠"__name__"→mb x=bootBuiltins x) (hlim:s₁.heap.NoLimit) (hg:s₁.gens=#[])
  (ha:s₁.heap.get? a=some { cls:=.type "list",data:=.seq vs.toArray }) (hi:IntsAre vs ns) (hl:ns.length≤sizeLine) (hr:zdR k callerA)
  (F:∀ base:Heap,K.In base→base.Ns mainGlobals mg→PySem.W.CodeHd base c P→base.BuiltinsAt mg P→zcJ Pg w K mg base CX k fa fd [x] sp) (hbind:∀ (s:Shared) (u:Value),BindsTo s fd ⟨[u],[]⟩ [(x,u)])
  (hsp:∀ H:Hp,H P=some (.tbl #[])→SqL K H a (ns.map V.int)→sp [.ref a] H (fun v _=>v=.bl true) fun _ _ _=>False)
  (hCX:∀ H e s',CX [] H s₁ (fun _ _ _=>False) e s'→False) :
  codeAny (model Pg w) callerA (.call (.ref fa) ⟨[.ref a],[]⟩) (fun r s'=>r=.ok (.ret (.bool true))∧OldK s₁.heap s'.heap∧s'.os=s₁.os∧AllBare s'.gens) s₁:=by
 have rv:=ziG hi
 have lenV:=hi.length
 have naP:a≠P:=fun z=>by rw [z,hPt] at ha;cases ha
 have core:∀ H:Hp,H P=some (.tbl #[])→SqL K H a (ns.map V.int)→HOk Pg w H s₁.heap→(∀ b,H b≠none→b=P∨(b=a∧H a=some (.frz { cls:=.type "list",data:=.seq vs.toArray } (.lst (ns.map V.int)))))→(H a≠none→K.lookup a=none) →
   codeAny (model Pg w) callerA (.call (.ref fa) ⟨[.ref a],[]⟩) (fun r s'=>r=.ok (.ret (.bool true))∧OldK s₁.heap s'.heap∧s'.os=s₁.os∧AllBare s'.gens) s₁:=by
  intro H hHP hS hok hA hK
  have base_of:∀ {b:Addr} {o:Obj},s₁.heap.get? b=some o→H b=none→(zlS s₁.heap H).get? b=some o:=fun e n=>zmR e n
  have free:∀ {b:Addr} {o:Obj},s₁.heap.get? b=some o→b≠P→(∀ its n,o.data≠.seq its n)→H b=none:=fun {b o} e nP d=>by
   cases q:H b with
   | none=>rfl
   | some u =>
    rcases hA b (by rw [q];simp) with z | ⟨z,_⟩
    ·exact absurd z nP
    ·subst z
     rw [ha] at e;cases e
     exact absurd rfl (d _ _)
  have noP:∀ {b:Addr} {o:Obj},s₁.heap.get? b=some o→(∀ ps,o.data≠.fields ps)→b≠P:=fun {b o} e d z=>by
   subst z
   rw [hPt] at e;cases e
   exact d _ rfl
  have nsK:∀ {b:Addr} {m:Str→Option Value},s₁.heap.Ns b m→(zlS s₁.heap H).Ns b m:=fun {b m} ⟨o,es,ep,e,d,r⟩ =>
   ⟨o,es,ep,base_of e (free e (noP e fun ps z=>by rw [d] at z;cases z) fun its n z=>by rw [d] at z;cases z),d,r⟩
  have hKb:K.In (zlS s₁.heap H):=fun b o e=>base_of (KX b o e) (by
   cases q:H b with
   | none=>rfl
   | some u =>
    rcases hA b (by rw [q];simp) with z | ⟨z,_⟩
    ·rw [z,hPK] at e;cases e
    ·subst z
     rw [hK (by rw [q];simp)] at e;cases e)
  have hM:Mod K mg (zlS s₁.heap H):=⟨hKb,nsK hns,⟨mb,nsK hb,hbb⟩,let ⟨mc,h1,h2⟩:=hlim;⟨mc,nsK h1,h2⟩⟩
  have hC':PySem.W.CodeHd (zlS s₁.heap H) c P:=by
   obtain ⟨o,ovs,file,tf,flags,tg,inF,text,tt,e1,e2,e3,r⟩:=hC
   exact ⟨o,ovs,file,tf,flags,tg,inF,text,tt,base_of e1 (free e1 r.2.2.2.2.2.2 fun its n z=>by rw [e3] at z;cases z),e2,e3,r⟩
  have hB':(zlS s₁.heap H).BuiltinsAt mg P:=by
   obtain ⟨bm,ob,b1,b2,b3,b4,b5,b6,b7,b8⟩:=hB
   exact ⟨bm,ob,b1,b2,b3,b4,base_of b5 (free b5 b4 fun its n z=>by rw [b8] at z;cases z),b6,b7,b8⟩
  have e0:zmm Pg w K mg (zlS s₁.heap H) callerA [] s₁ H:=⟨rfl,hM,fun b o e=>zo1 e,Nat.le_of_eq (zkT _ _),trivial,fun b hb=>absurd (show b∈([]:List Addr) from hb) (by simp),hok,.of_eq hg⟩
  refine codeAny_mono ((F _ hKb (nsK hns) hC' hB').run callerA [] s₁ H ⟨[.ref a],[]⟩ [.ref a] [.ref a] _ _ hr e0 (hbind s₁ (.ref a)) (.cons rfl .nil) (hsp H hHP hS)) fun r s' h=>?_
  cases r with
  | error e=>exact (hCX H e s' h).elim
  | ok fl =>
   cases fl with
   | next=>exact False.elim h
   | brk=>exact False.elim h
   | cont=>exact False.elim h
   | ret u =>
    obtain ⟨v,H',os,bare,un,hok',r',q⟩:=h
    have q':v=.bl true:=q
    subst q'
    obtain rfl:u=Value.bool true:=r'
    refine ⟨rfl,⟨fun b o e=>?_,fun b o e=>un.there b o e (by simp)⟩,os,bare⟩
    by_cases zP:b=P
    ·subst zP
     rw [hPt] at e
     cases e
     obtain ⟨more,hm⟩:=un.tbls b _ hHP
     have ht':s'.heap.get? b=some { cls:=.none,data:=.fields (#[]++more) }:=hok' b _ hm
     exact .inr (.inl ⟨(hC.tab hPt).isCodeTable,rfl,#[],more,rfl,ht'⟩)
    ·refine .inl ?_
     cases q:H b with
     | none=>exact un.keep b o e q (by intro z;exact absurd (show b∈([]:List Addr) from z) (by simp)) (by simp)
     | some u =>
      rcases hA b (by rw [q];simp) with z | ⟨z,z1⟩
      ·exact absurd z zP
      ·subst z
       have z2:=un.frzs b _ _ z1
       obtain ⟨e1,_⟩:=hok b _ z1
       obtain ⟨e2,_⟩:=hok' b _ z2
       rw [e] at e1;cases e1
       exact e2
 have okP:∀ {H:Hp},H P=some (.tbl #[])→zbi Pg w H s₁.heap P (.tbl #[]):=fun _=>hPt
 cases hk:K.lookup a with
 | some o =>
  have e:=KX a o hk
  rw [ha] at e
  cases e
  refine core (fun b=>if b=P then some (.tbl #[]) else none) (if_pos rfl) (.inr ⟨_,vs.toArray,_,hk,rfl,rfl,rfl,by rw [List.size_toArray,lenV];exact hl,by simpa using rv⟩) (fun b u z=>?_) (fun b z=>?_) fun z=>absurd (if_neg naP) z
  ·by_cases q:b=P
   ·subst q
    have z':=(if_pos rfl).symm.trans z
    cases z'
    exact hPt
   ·have z':=(if_neg q).symm.trans z
    cases z'
  ·by_cases q:b=P
   ·exact .inl q
   ·exact absurd (if_neg q) z
 | none =>
  have hfr:(if a=P then some (HO.tbl #[]) else if a=a then some (HO.frz { cls:=.type "list",data:=.seq vs.toArray } (.lst (ns.map V.int))) else none)=some (.frz { cls:=.type "list",data:=.seq vs.toArray } (.lst (ns.map V.int))):=by rw [if_neg naP,if_pos rfl]
  refine core (fun b=>if b=P then some (.tbl #[]) else if b=a then some (.frz { cls:=.type "list",data:=.seq vs.toArray } (.lst (ns.map V.int))) else none) (if_pos rfl) (.inl (.inr ⟨{ cls:=.type "list",data:=.seq vs.toArray },hfr⟩)) (fun b u z=>?_) (fun b z=>?_) fun _=>hk
  ·by_cases q:b=P
   ·subst q
    have z':=(if_pos rfl).symm.trans z
    cases z'
    exact hPt
   ·by_cases hb:b=a
    ·subst hb
     have z':=hfr.symm.trans z
     cases z'
     exact ⟨ha,by rw [List.length_map];exact hl,vs,_,rv,ha⟩
    ·have z0:(if b=P then some (HO.tbl #[]) else if b=a then some (HO.frz { cls:=.type "list",data:=.seq vs.toArray } (.lst (ns.map V.int))) else none)=some u:=z
     rw [if_neg q,if_neg hb] at z0
     cases z0
  ·by_cases q:b=P
   ·exact .inl q
   ·by_cases hb:b=a
    ·exact .inr ⟨hb,hfr⟩
    ·have z0:(if b=P then some (HO.tbl #[]) else if b=a then some (HO.frz { cls:=.type "list",data:=.seq vs.toArray } (.lst (ns.map V.int))) else none)≠none:=z
     rw [if_neg q,if_neg hb] at z0
     exact absurd rfl z0
theorem znv {l:PySem.W.OpenLaw} {n k:Nat} {q:Program} {loose:List Str} {XP:(Str→Option Value)→Heap→Prop} {YP:World→Heap→Prop} {d:DefRec} {K:Params→PySem.W.Frag} {sp:World→Sp} {x:Str} {c P:Addr}
  (hn:l.most=some n) (hn2:n≤sizeLine) (hdf:d.params.defaults=[]) (hr:zdR k callerA)
  (hY:∀ (w:World) (h:Heap),YP w h→(K w.params).In h)
  (hPt:∀ w:World,(K w.params).lookup P=some (PySem.W.tabObj #[])) (hC:∀ (w:World) (h:Heap),(K w.params).In h→PySem.W.CodeHd h c P)
  (F:∀ (w:World) (mg:Str→Option Value) (fa:Addr) (h:Heap),(K w.params).In h→h.Ns mainGlobals mg→mg d.name=some (.ref fa) →
   ∃ fd:FuncData,(∀ (s:Shared) (u:Value),BindsTo s fd ⟨[u],[]⟩ [(x,u)]) ∧
    ∀ base:Heap,(zbg P (K w.params)).In base→base.Ns mainGlobals mg→PySem.W.CodeHd base c P→base.BuiltinsAt mg P→zcJ l.prog w (zbg P (K w.params)) mg base CX0 k fa fd [x] (sp w))
  (hsp:∀ (w:World) (H:Hp) (a:Addr) (ns:List Int),(∀ x∈ns,x.natAbs<2 ^ 2 ^ 20)→ns.length≤n→H P=some (.tbl #[])→SqL (zbg P (K w.params)) H a (ns.map V.int)→sp w [.ref a] H (fun v _=>v=.bl true) fun _ _ _=>False) :
  PySem.W.WalkO q loose XP YP l.row.toRowW d [] (fun f vs=>PySem.call f vs):=by
 refine Att.attach_callL hn hdf fun w s₀ s₁ mg mb fa o pm cd doc a vs ns hb0 G Y ho hd hcd hmg hobj hints hlen hg=>?_
 have KX:=hY w _ Y
 obtain ⟨fd,hb,hF⟩:=F w mg fa _ KX G.T.g hmg
 have hP:=KX _ _ (hPt w)
 obtain ⟨bm,ob,b1,b2,b3,b4,b5,b6⟩:=G.T.bmain
 have hBt:s₁.heap.BuiltinsAt mg P:=by
  refine ⟨bm,ob,b1,b2,fun z=>?_,fun z=>?_,b3,b4,b5,b6⟩
  ·obtain ⟨o',es,ep,e,d',_⟩:=G.T.g
   rw [z,e] at b3;cases b3;rw [d'] at b6;cases b6
  ·rw [z,hP] at b3;cases b3;cases b4
 exact zmb (zoY KX) zax hP (hC w _ KX) hBt G.T.g G.T.b G.T.builtins G.T.nolimit hg hobj hints (Nat.le_trans hlen hn2) hr hF hb (fun H hP' hS=>hsp w H a ns hb0 hlen hP' hS) fun H e s' z=>z
section
open PySem.W
variable {P:Addr} {K:Frag}
theorem zhs (hP:K.lookup P=some (tabObj #[])) (a:Addr) (x:Str):nsIn (zbg P K) a x=nsIn K a x:=by
 unfold nsIn
 by_cases q:a=P
 ·rw [q,zax,hP]
 ·rw [zaJ q]
theorem zmP (hP:K.lookup P=some (tabObj #[])) (x:Str) (v:Value):ownIn (zbg P K) x v=ownIn K x v:=by
 unfold ownIn
 cases v with
 | ref a =>
  by_cases q:a=P
  ·simp only [q,zax,hP]
  ·simp only [zaJ q,zhs hP]
 | _=>rfl
theorem zgL (hP:K.lookup P=some (tabObj #[])) (x:Str):∀ l:List Value,alongIn (zbg P K) x l=alongIn K x l
 | []=>rfl
 | c::r=>by simp only [alongIn,zmP hP,zgL hP x r]
theorem zbt (hP:K.lookup P=some (tabObj #[])) (t:Value) (x:Str):findIn (zbg P K) t x=findIn K t x:=by
 unfold findIn
 cases t with
 | ref a =>
  by_cases q:a=P
  ·simp only [q,zax,hP]
  ·simp only [zaJ q,zgL hP]
 | _=>rfl
theorem zg6 (hP:K.lookup P=some (tabObj #[])) (C:Addr):clsIn (zbg P K) C=clsIn K C:=by
 unfold clsIn
 by_cases q:C=P
 ·rw [q,zax,hP]
 ·rw [zaJ q]
theorem zcK {a:Addr} (q:a≠P):typeIn (zbg P K) (.ref a)=typeIn K (.ref a):=by
 unfold typeIn
 simp only [zaJ q]
theorem zfT (hP:K.lookup P=some (tabObj #[])) (a:Addr):keepIn (zbg P K) (.ref a)=keepIn K (.ref a):=by
 unfold keepIn
 by_cases q:a=P
 ·simp only [q,zax,hP]
 ·simp only [zaJ q,specialIn,zcK q,zbt hP]
theorem zhB (hP:K.lookup P=some (tabObj #[])) (cd:Value) (x:Str) (h:codeIn K cd x=true):codeIn (zbg P K) cd x=true:=by
 unfold codeIn at h ⊢
 cases cd with
 | ref c =>
  by_cases q:c=P
  ·simp only [q,hP] at h
   cases h
  ·simp only [zaJ q]
   exact h
 | _=>exact h
theorem zaT (hP:K.lookup P=some (tabObj #[])) {x qual:Str} {st:Stmt} {f:Addr} {fd:FuncData} (F:Fun K x qual st f fd):Fun (zbg P K) x qual st f fd:=by
 obtain ⟨⟨oc,od,kV,doc,pm,an,cdv,ct,osl,e,l,c⟩,k⟩:=F
 have q:f≠P:=fun z=>by rw [z,hP] at l;cases l
 exact ⟨⟨oc,od,kV,doc,pm,an,cdv,ct,osl,e,(zaJ q).trans l,zhB hP _ _ c⟩,(zfT hP f).trans k⟩
theorem zoo (hP:K.lookup P=some (tabObj #[])) {f:Addr} (h:isFn K (.ref f)=true):f≠P:=fun z=>by
 have e:typeIn K (.ref f)=some .none:=by
  show (K.lookup f).map (·.cls)=_
  rw [z,hP]
  rfl
 unfold isFn at h
 rw [e] at h
 exact absurd h (by decide)
structure zmi (K:Frag) (x qual:Str) (st:Stmt) (f:Addr) (fd:FuncData) (c:Addr):Prop where
 ex:∃ (oc:Value) (od:Option Addr) (kV doc pm:Value) (an:Option Addr) (ct:Value) (osl:Array (Option Value)),
  fd=fnOf x qual (zct st) (zbz st) (zap st) .none kV doc pm an (.ref c) ct∧K.lookup f=some ⟨oc,od,.func fd,osl⟩∧codeIn K (.ref c) qual=true
 kp:keepIn K (.ref f)=true
theorem zoX {x qual:Str} {st:Stmt} {f c:Addr} {oc:Value} {od an:Option Addr} {osl:Array (Option Value)} {kV doc pm ct:Value} (l:K.lookup f=some ⟨oc,od,.func (fnOf x qual (zct st) (zbz st) (zap st) .none kV doc pm an (.ref c) ct),osl⟩)
  (cc:codeIn K (.ref c) qual=true) (k:keepIn K (.ref f)=true):zmi K x qual st f (fnOf x qual (zct st) (zbz st) (zap st) .none kV doc pm an (.ref c) ct) c:=⟨⟨oc,od,kV,doc,pm,an,ct,osl,rfl,l,cc⟩,k⟩
theorem zmi.fun {x qual:Str} {st:Stmt} {f c:Addr} {fd:FuncData} (F:zmi K x qual st f fd c):Fun K x qual st f fd:=by
 obtain ⟨⟨oc,od,kV,doc,pm,an,ct,osl,e,l,cc⟩,k⟩:=F
 exact ⟨⟨oc,od,kV,doc,pm,an,.ref c,ct,osl,e,l,cc⟩,k⟩
theorem zmi.drop (hP:K.lookup P=some (tabObj #[])) {x qual:Str} {st:Stmt} {f c:Addr} {fd:FuncData} (F:zmi K x qual st f fd c):zmi (zbg P K) x qual st f fd c:=by
 obtain ⟨⟨oc,od,kV,doc,pm,an,ct,osl,e,l,cc⟩,k⟩:=F
 have q:f≠P:=fun z=>by rw [z,hP] at l;cases l
 exact ⟨⟨oc,od,kV,doc,pm,an,ct,osl,e,(zaJ q).trans l,zhB hP _ _ cc⟩,(zfT hP f).trans k⟩
end
end L2
namespace L2
open PySem PySem.Spec PyProof.Rows
section
variable {X:Cx} {o e value:Expr} {f:Str} {pos pos':Pos} {ta tv:TE} {C:Addr}
end
theorem zcP.same {H H':Hp} {P:Addr} {pos:Pos} {qual:Str} (h:zcP H P pos qual) (s:∀ b o,H b=some o→H' b=some o):zcP H' P pos qual:=by
 rcases h with h | ⟨c',oc,vs,t,e1,e2,e3,e4⟩
 ·exact .inl (s _ _ h)
 ·exact .inr ⟨c',oc,vs,t,e1,s _ _ e2,s _ _ e3,e4⟩
theorem zcP.first {H:Hp} {P:Addr} {pos:Pos} {qual:Str} (h:H P=some (.tbl #[])):zcP H P pos qual:=.inl h
theorem zo7 {K:PySem.W.Frag} {h:Heap} {c P:Addr} {od:Option Addr} {sl:Array (Option Value)} {v0 v1 v2 v3 v4 v5 v6 v8 v12 v13 v14 v15 v16 v17:Value} {fl tx:Int} {tg tt tf:Tok} {inF:Bool} {file:Str} (X:K.In h)
  (l:K.lookup c=some ⟨.type "code",od,.fields #[v0,v1,v2,v3,v4,v5,v6,.int fl tg,v8,.bool inF,.int tx tt,.ref P,v12,v13,v14,v15,v16,v17,.str file tf],sl⟩) (ne:c≠P):PySem.W.CodeHd h c P :=
 ⟨_,_,_,_,_,_,_,_,_,X _ _ l,rfl,rfl,rfl,rfl,rfl,rfl,rfl,rfl,ne⟩
end L2
namespace L2
open PySem PySem.Spec PyProof.Rows
section
variable {X:Cx}
end
section
open PySem.W
variable {P:Addr} {K:Frag}
theorem zfL (hP:K.lookup P=some (tabObj #[])) (C:Addr) (b:Value):mroIn (zbg P K) C b=mroIn K C b:=by
 unfold mroIn
 rw [zg6 hP]
theorem zdI (hP:K.lookup P=some (tabObj #[])) (t b:Value):subIn (zbg P K) t b=subIn K t b:=by
 unfold subIn
 cases t with
 | ref D=>exact zfL hP D b
 | _=>rfl
theorem zg1 (hP:K.lookup P=some (tabObj #[])) (t c:Value):kitOne (zbg P K) t c=kitOne K t c:=by
 unfold kitOne kitCls
 cases c with
 | ref C =>
  simp only [zdI hP,zg6 hP]
  by_cases q:C=P
  ·have e:clsIn K C=none:=by
    unfold clsIn
    rw [q,hP]
   rw [e]
   rfl
  ·rw [zcK q]
 | type T=>simp only [zdI hP]
 | _=>rfl
theorem zhy (hP:K.lookup P=some (tabObj #[])) (a:Addr):nsOkIn (zbg P K) a=nsOkIn K a:=by
 unfold nsOkIn
 by_cases q:a=P
 ·rw [q,zax,hP]
 ·rw [zaJ q]
theorem zf7 (hP:K.lookup P=some (tabObj #[])) (b:List Value):∀ l,tailIn (zbg P K) b l=tailIn K b l
 | []=>rfl
 | v::r=>by
  unfold tailIn
  cases v with
  | ref A =>
   by_cases q:A=P
   ·simp only [q,zax,hP]
   ·simp only [zaJ q,zhy hP,zhs hP,zf7 hP b r]
  | _=>rfl
theorem znw (hP:K.lookup P=some (tabObj #[])) (C:Addr) (b:List Value) (n:String):excIn (zbg P K) C b n=excIn K C b n:=by
 unfold excIn
 by_cases q:C=P
 ·rw [q,zax,hP]
 ·simp only [zaJ q,zhy hP,zhs hP,zf7 hP]
end
end L2
namespace L2
open PySem PySem.Spec PyProof.Rows
def zc7:R2:=fun x y H Q=>∃ i j:Str,x=.str i∧y=.str j∧i.length+j.length≤sizeLine∧Q (.str (i++j)) H
def rInS:R2:=fun x y H Q=>∃ i j:Str,x=.str i∧y=.str j∧Q (.bl (!(Builtin.Str.occurrences j i 0 j.length 1).isEmpty)) H
def zni:List V→Hp→VK→Prop:=fun xs H Q=>∃ y:Str,xs=[.str y]∧y.length≤sizeLine∧Q (.int y.length) H
def zhg:List V→Hp→VK→Prop:=fun xs H Q=>∃ i:Int,xs=[.int i]∧i.natAbs.log2<1920∧Q (.str (toString i)) H
def znj:List V→Hp→VK→Prop:=fun xs H Q=>∃ (x:Str) (n:Int),xs=[.str x]∧x.length≤640∧PySem.intText? x=some n∧Q (.int n) H
def zhv:V→List V→Hp→VK→Prop:=fun x vs H Q=>∃ s c:Str,x=.str s∧vs=[.str c]∧1≤c.length∧s.length≤1000000∧∀ p,H p=none→Q (.ref p) (upd H p (.lst ((Txt.split s c).map V.str)))
def zg5:V→List V→Hp→VK→Prop:=fun x vs H Q=>∃ s c:Str,x=.str s∧vs=[.str c]∧Q (.bl (Txt.startswith s c)) H
def zob (K:PySem.W.Frag):V→List V→Hp→VK→Prop:=fun x vs H Q=>∃ (s:Str) (p:Addr) (ts:List Str),x=.str s∧vs=[.ref p]∧SqL K H p (ts.map V.str)∧(ts.map (·.length)).sum+ts.length*s.length≤sizeLine∧Q (.str (Txt.join s ts)) H
section
variable {X:Cx}
theorem zcB:OpR X (binaryOp .Add) zc7:=zkt
theorem zqg:OpR X (compareOp .In) rInS:=zk0
theorem zlR:zdS X (.builtin "len") zni:=by
 intro pins s σ H xs us Q I r h
 obtain ⟨y,rfl,hy,q⟩:=h
 exact zm5 pins s σ H _ us Q I r ⟨_,_,rfl,⟨hy,rfl⟩,q⟩
theorem zeJ:zdS X (.type "str") zhg:=zid
theorem zkY:zdS X (.type "int") znj:=by
 intro pins s σ H xs us Q I r h
 obtain ⟨x,n,rfl,hl,hn,q⟩:=h
 obtain ⟨u,rfl,t,rfl⟩:=zfl r
 exact PySem.W.KIN.call_text hn hl ⟨.int n,H,I.tok _,⟨_,rfl⟩,q⟩
theorem zh8:∀ l:List (Str×Tok),zbj ((l.map (·.1)).map V.str) (strValues l)
 | []=>.nil
 | p::l=>.cons ⟨_,rfl⟩ (zh8 l)
theorem zhZ:∀ {ts:List Str} {us:List Value},zbj (ts.map V.str) us→∃ l:List (Str×Tok),us=strValues l∧l.map (·.1)=ts
 | [],_,.nil=>⟨[],rfl,rfl⟩
 | t::ts,_,.cons ⟨k,e⟩ r=>by
  obtain ⟨l,e1,e2⟩:=zhZ r
  exact ⟨(t,k)::l,by rw [e,e1];rfl,by rw [← e2];rfl⟩
theorem zhn:MtM X "str.split" zhv:=by
 intro pins s σ H x vs v us Q I rx rv h
 obtain ⟨x,y,rfl,rfl,hy,hx,q⟩:=h
 obtain ⟨t,rfl⟩:=rx
 obtain ⟨w,rfl,u,rfl⟩:=zfl rv
 have sz:(1000000:Nat)+2≤sizeLine:=by decide
 have hy':(y.length == 0)=false:=beq_eq_false_iff_ne.mpr (by (first|lia|omega))
 have lo:=StrLaws.occ_length_le x y 0 x.length (x.length+1)
 have lp:=PySem.length_partsBetween x (Builtin.Str.occurrences x y 0 x.length (x.length+1)) y.length
 have ls:(Txt.split x y).length≤sizeLine:=by
  have:=PyProof.Rows.split_weight x y hy
  (first|lia|omega)
 have fin:∀ (l:List (Str×Tok)) (k:Nat),l.map (·.1)=Txt.split x y→EP X pins σ Q (.ref s.heap.objs.size) { s with toks:=k,heap:=s.heap.push { cls:=.type "list",data:=.seq (strValues l).toArray } }:=fun l k e=>by
  refine ⟨.ref _,_,I.laid (t':=k) (fun b o e=>Heap.get?_push_of_some _ e) (Nat.le_refl _) ?_,rfl,q _ (I.hok.fresh (Nat.le_refl _))⟩
  exact ⟨by rw [List.length_map];exact ls,strValues l,0,by rw [← e];exact zh8 l,Heap.get?_push_size _ rfl⟩
 cases h1:(decide (x.length<y.length) || decide (Builtin.Str.strKind x<Builtin.Str.strKind y))
 ·cases hf:(Builtin.Str.occurrences x y 0 x.length (x.length+1)).isEmpty
  ·refine call_meets F.slot_str_split (typeIs_str _ _ _) F.entry_str_split (F.args_str_split_2 _ _) (meets_str_split_sep x y t u h1 hy' hf (by (first|lia|omega)) (by (first|lia|omega))) ?_
   show wants _ _ _ { s with toks:=_,heap:=s.heap.push { cls:=.type "list",data:=.seq (strsFrom s.toks (Builtin.Str.partsBetween x (Builtin.Str.occurrences x y 0 x.length (x.length+1)) y.length)).toArray } }
   rw [strsFrom_eq]
   exact fin (numbered s.toks _) _ ((numbered_texts _ _).trans ((if_neg (ne_true_of_eq_false h1)).trans (if_neg (ne_true_of_eq_false hf))).symm)
  ·exact call_meets F.slot_str_split (typeIs_str _ _ _) F.entry_str_split (F.args_str_split_2 _ _) (meets_str_split_not_found x y t u h1 hy' hf) (fin [(x,t)] s.toks ((if_neg (ne_true_of_eq_false h1)).trans (if_pos hf)).symm)
 ·exact call_meets F.slot_str_split (typeIs_str _ _ _) F.entry_str_split (F.args_str_split_2 _ _) (meets_str_split_cannot_occur x y t u h1) (fin [(x,t)] s.toks (if_pos h1).symm)
theorem zlL:MtM X "str.startswith" zg5:=by
 intro pins s σ H x vs v us Q I rx rv h
 obtain ⟨x,y,rfl,rfl,q⟩:=h
 obtain ⟨t,rfl⟩:=rx
 obtain ⟨w,rfl,u,rfl⟩:=zfl rv
 exact SC.startswith ⟨.bl _,H,I,rfl,q⟩
theorem zoP:MtM X "str.join" (zob X.K):=by
 intro pins s σ H x vs v us Q I rx rv h
 obtain ⟨x,p,ts,rfl,rfl,hp,hx,q⟩:=h
 obtain ⟨t,rfl⟩:=rx
 obtain ⟨w,rfl,ru⟩:=zfl rv
 cases ru
 obtain ⟨its,r,pl,_⟩:=I.list hp
 obtain ⟨l,rfl,el⟩:=zhZ r
 refine SC.join pl.isList el ?_ fun t' k=>⟨.str _,H,I.tok _,⟨_,rfl⟩,q⟩
 show (!Builtin.Str.tooLong (ts.toArray.foldl (fun a p=>a+p.length+x.length) 0))=true
 rw [StrLaws.joinTotal]
 unfold Builtin.Str.tooLong
 rw [decide_eq_false (by (first|lia|omega))]
 rfl
end
def Its (x:Str):It:=⟨fun i _=>i<x.cps.size,fun i H v H'=>H'=H∧∃ c,x.cps[i]?=some c∧v=.str ⟨#[c]⟩,fun i _=>x.cps.size≤i⟩
def iStr (tl:TE):TI:=fun σ H R=>tl σ H fun v H1=>∃ x,v=.str x∧R (Its x) H1
theorem zjW {P:Program} {w:World} {K:PySem.W.Frag} {tg:Expr} (ty:String) (hty:ty="str_ascii_iterator"∨ty="str_iterator") (it:Addr) (x:Str) (t:Tok):zo8 P w K tg (Its x) [it] it (fun i h=>h.IsStrIter it ty x t i) where
 mem:=by simp
 obj:=fun i h st b hb=>by
  have e:b=it:=by simpa using hb
  subst e
  obtain ⟨o,e,c,d⟩:=st
  exact ⟨o,e,fun v z=>by rw [d] at z;cases z⟩
 keep:=fun i h h' st k=>let ⟨o,ho,r⟩:=st;⟨o,k it (by simp) o ho,r⟩
 item:=by
  intro X hP hw hK hc i pins s σ H E I hf st hg
  subst hP hw hK
  obtain ⟨f0,f1,f2,f3,f4,f5⟩:=hf it (by simp)
  have W:Walks X.prog X.w X.A it [it] [it] x.cps.size (SignAt x) (fun i h=>h.IsStrIter it ty x t i):=by
   rcases hty with rfl | rfl
   ·exact Walks.strAscii (I.ok.hd hc) it x t
   ·exact Walks.strWide (I.ok.hd hc) it x t
  refine W.item i s _ _ hg st fun v h' tk hv st' kk=>?_
  obtain ⟨c,u,hcu,rfl⟩:=hv
  have I1:Inv X pins σ H { s with heap:=h',toks:=tk }:=I.turned (fun b o hb e=>kk b o (by simpa using hb) e) f0 f1 f3 f4 f5
  obtain ⟨o,e,cl,d⟩:=id st'
  refine ⟨_,rfl,zos (s:={ s with heap:=h',toks:=tk }) (n:=ty) e cl d ?_ ⟨.str ⟨#[c]⟩,H,I1,⟨u,rfl⟩,⟨rfl,c,hcu,rfl⟩,st',fun b hb=>(hf b hb).1⟩⟩
  rcases hty with rfl | rfl <;> decide
 done:=by
  intro X hP hw hK hc i pins s σ H E I hf st hg
  subst hP hw hK
  obtain ⟨f0,f1,f2,f3,f4,f5⟩:=hf it (by simp)
  have hx:x.cps[i]?=none:=by
   have:x.cps.size≤i:=hg
   simp [this]
  rcases hty with rfl | rfl
  ·exact wpAny_pyNext_ascii_end (I.ok.hd hc) st hx fun h' eb=>⟨rfl,I.turned (t':=s.toks) (fun b o hb e=>eb b o hb e) f0 f1 f3 f4 f5⟩
  ·exact wpAny_pyNext_wide_end (I.ok.hd hc) st hx fun h' eb=>⟨rfl,I.turned (t':=s.toks) (fun b o hb e=>eb b o hb e) f0 f1 f3 f4 f5⟩
 self:=fun _ _ _ _ _ st h=>by
  rcases hty with rfl | rfl
  ·exact wpAny_pyIter_striter_ascii st h
  ·exact wpAny_pyIter_striter_wide st h
section
variable {X:Cx} {tg:Expr}
theorem zpY {l:Expr} {tl:TE} (hl:PE X l tl):PI X tg l (iStr tl):=by
 intro pins s σ H R I h
 refine thn (hl pins s σ H _ I h) fun v s1 hQ'=>?_
 obtain ⟨x,H1,I1,r1,q1⟩:=hQ'
 obtain ⟨x,rfl,q⟩:=q1
 obtain ⟨t,rfl⟩:=r1
 have fp:∀ b∈[s1.heap.objs.size],zjt X pins H1 b:=fun b hb=>by
  have e:b=s1.heap.objs.size:=by simpa using hb
  subst e
  exact I1.fpOk (Nat.le_refl _) (I1.hok.fresh (Nat.le_refl _))
 cases ha:x.cps.all (·<128)
 ·exact wpAny_pyIter_wide ha ⟨s1.heap.objs.size,[s1.heap.objs.size],_,_,H1,rfl,I1.kept (t':=s1.toks) fun b o e=>Heap.get?_push_of_some _ e,zjW "str_iterator" (.inr rfl) _ x t,⟨_,Heap.get?_push_size _ rfl,rfl,rfl⟩,fp,q⟩
 ·exact wpAny_pyIter_ascii ha ⟨s1.heap.objs.size,[s1.heap.objs.size],_,_,H1,rfl,I1.kept (t':=s1.toks) fun b o e=>Heap.get?_push_of_some _ e,zjW "str_ascii_iterator" (.inl rfl) _ x t,⟨_,Heap.get?_push_size _ rfl,rfl,rfl⟩,fp,q⟩
end
theorem zk4 {x:Str} {g:TG} {tt:TT} {te:TE} {σ:St} {H:Hp} {D:Addr} {Q:VK} (Pv:Nat→List V→St→Hp→Prop) (h0:Pv 0 [] σ (upd H D (.lst [])))
  (hs:∀ i c ys σ H,x.cps[i]?=some c→H D=some (.lst ys)→Pv i ys σ H→g (.str ⟨#[c]⟩) σ H fun σ2 H2=>tt σ2 H2 fun b H3=>if b=true then te σ2 H3 fun y H4=>zbP (.ref D) [y] H4 fun _ H5=>∃ ys,H5 D=some (.lst ys)∧Pv (i+1) ys σ2 H5 else ∃ ys,H3 D=some (.lst ys)∧Pv (i+1) ys σ2 H3)
  (hd:∀ ys σ H,H D=some (.lst ys)→Pv x.cps.size ys σ H→Q (.ref D) H):zfV (Its x) g tt te D Q σ (upd H D (.lst [])):=by
 refine ⟨fun i m σ H=>m=x.cps.size - i∧i≤x.cps.size∧∃ ys,H D=some (.lst ys)∧Pv i ys σ H,⟨_,rfl,Nat.zero_le _,[],zad,h0⟩,?_⟩
 rintro i m σ H ⟨rfl,hi,ys,hD,pv⟩
 by_cases hlt:i<x.cps.size
 ·refine .inr ⟨hlt,fun σ H=>∃ ys,H D=some (.lst ys)∧Pv (i+1) ys σ H,fun σ' H' p'=>⟨_,by (first|lia|omega),rfl,hlt,p'⟩,fun v H' yl=>?_⟩
  obtain ⟨e,c,hc,rfl⟩:=yl
  subst e
  exact hs i c ys σ _ hc hD pv
 ·have e:i=x.cps.size:=by (first|lia|omega)
  subst e
  exact .inl ⟨Nat.le_refl _,hd ys σ H hD pv⟩
end L2
namespace L2
open PySem PySem.Spec PyProof.Rows
section
variable {P:Program} {w:World} {H H':Hp} {h h':Heap} {c:Addr} {o:Obj}
theorem zoJ (x:HOk P w H h) (hc:H c=none) (e:h.get? c=some o):HOk P w (upd H c (.frz o (.own c))) h:=fun b u q=>by
 by_cases z:b=c
 ·subst z
  rw [zad] at q
  cases q
  exact ⟨e,o,e⟩
 ·rw [zaq z] at q
  refine (x b u q).stay (fun _ _ _ r=>r) (fun d r=>?_) fun d xs r=>?_
  ·rw [zaq (zaw r hc)];exact r
  ·rw [zaq (zaw r hc)];exact r
end
theorem zlh {P:Program} {w:World} {K:PySem.W.Frag} {mg:Str→Option Value} {base:Heap} {A:Around} {outer:List Env} {s:Shared} {H:Hp} {q c':Addr} {nm qual x y:Str} {params:Arguments} {body:Expr} {scope:Scope} {cl:List (Str×Addr)}
  {pm ctv u1 u2:Value} {v1 v2:V} {Ns:List Str} {vs:List V} {Q:VK} {t:TE} (e0:zmm P w K mg base A outer s H) (hroom:A.depth<recursionLimit) (hh:A.handled=none)
  (ho:s.heap.get? q=some (PySem.W.kla_obj nm qual params body scope cl pm c' ctv)) (hcd:s.heap.CodeRec (.ref c') qual)
  (hbind:bindArgs (PySem.W.kla_fn nm qual params body scope cl pm (.ref c') ctv) ⟨[u1,u2],[]⟩=pure [(x,u1),(y,u2)]) (hne:x≠y) (hlx:scope.names.lookup x=some .local) (hly:scope.names.lookup y=some .local) (hk:scope.kind=.function) (hco:scope.isCoroutine=false) (hgen:scope.isGenerator=false)
  (hcell:∀ y∈scope.names,y.2≠.cell) (T:zp8 H s.heap scope cl Ns vs) (r1:zbG v1 u1) (r2:zbG v2 u2) (hb:PE (zlX P w K mg base (x::y::Ns) qual scope q (.ref c') cl A outer s H) body t) {Q0:VK} (hQ:∀ v H',(∀ y c,cl.lookup y=some c→H' c=none)→Q0 v H'→Q v H') (h:t (some v1::some v2::vs.map some) H Q0) :
  codeAny (model P w) A (.call (.ref q) ⟨[u1,u2],[]⟩) (fun r s'=>match r with | .ok (.ret u')=>CE outer P w H s Q u' s' | _=>False) s:=by
 have lim:s.heap.NoLimit:=e0.mod.nolimit.keeps fun b o e=>(e0.bs b o e).1
 refine PySem.W.kla_callFunE hroom ho rfl hco hgen rfl hcd ?_
 rw [hbind]
 refine wpAny_pure (wpAny_newFunctionEnv hcell (fun z hz=>?_) (fun h₁ hns hsb=>⟨lim.fresh _ hsb,?_⟩) hk)
 ·rcases List.mem_cons.mp hz with rfl | hz
  ·exact hlx
  ·rw [List.mem_singleton.mp hz];exact hly
 have hk₁:∀ b o,s.heap.get? b=some o→h₁.get? b=some o:=fun b o e=>hsb.extBut b o (Nat.ne_of_lt (Heap.lt_size e)) (Heap.get?_push_of_some _ e)
 have I:Inv (zlX P w K mg base (x::y::Ns) qual scope q (.ref c') cl A outer s H) [] (some v1::some v2::vs.map some) H { s with heap:=h₁,toks:=s.toks+2 }:=by
  have noA:∀ b:Addr,b∉(zlX P w K mg base (x::y::Ns) qual scope q (.ref c') cl A outer s H).ex:=fun b z=>absurd (show b∈([]:List Addr) from z) (by simp)
  refine ⟨⟨e0.mod,hk,rfl,rfl,Nat.le_refl _,T.inj,fun y hy=>?_,fun y c hf e=>?_,fun _=>hh,Around.frames_deeper e0.frames,.inr ⟨rfl,rfl⟩,fun b z=>absurd z (noA b),e0.bs,e0.bsz,fun b _ _=>noA b,fun b z=>absurd z (noA b),e0.funs,e0.frf⟩,
   rfl,e0.bare,Un.kept hk₁,⟨_,hns,fun i z v' h1 h2 h3=>?_⟩,fun y c e=>?_,e0.hok.fresh (Nat.le_refl _),fun y c e=>(T.cel y c e).1,fun p hp=>absurd (show p∈([]:List (Addr×Obj)) from hp) (by simp),e0.hok.kept hk₁,?_⟩
  ·have hy:scope.names.lookup y=some .cell∨scope.names.lookup y=some .free:=hy
   rcases hy with hy | hy
   ·exact absurd rfl (hcell _ (PySem.mem_of_lookup hy))
   ·exact T.has y hy
  ·have hf:(cl.lookup y).isNone=true:=hf
   have e:cl.lookup y=some c:=e
   rw [e] at hf
   cases hf
  ·match i,h1,h2 with
   | 0,h1,h2 =>
    have h1:some x=some z:=h1
    have h2:some (some v1)=some (some v'):=h2
    cases h1
    cases h2
    refine ⟨u1,r1,.inl ⟨hlx,?_⟩⟩
    show List.lookup x [(y,u2),(x,u1)]=some u1
    rw [List.lookup_cons,beq_eq_false_iff_ne.mpr hne]
    simp
   | 1,h1,h2 =>
    have h1:some y=some z:=h1
    have h2:some (some v2)=some (some v'):=h2
    cases h1
    cases h2
    refine ⟨u2,r2,.inl ⟨hly,?_⟩⟩
    show List.lookup y [(y,u2),(x,u1)]=some u2
    simp
   | i+2,h1,h2 =>
    have h1:Ns[i]?=some z:=h1
    obtain ⟨c,uy,vy,e1,e2,e3,e4,e5⟩:=T.at' i z h1
    have h2:(vs.map some)[i]?=some (some v'):=h2
    rw [List.getElem?_map,e4] at h2
    cases h2
    obtain ⟨oc,z1,z2⟩:=e3
    exact ⟨uy,e5,.inr ⟨.inr e2,c,e1,⟨oc,hk₁ _ _ z1,z2⟩⟩⟩
  ·obtain ⟨v',oc,z1,z2⟩:=(T.cel y c e).2
   exact ⟨v',oc,hk₁ _ _ z1,z2⟩
  ·show (some v1::some v2::vs.map some).length=(x::y::Ns).length
   rw [List.length_cons,List.length_cons,List.length_map,List.length_cons,List.length_cons,T.len]
 refine PySem.W.kla_codeExpr (wpAny_mono (hb [] _ _ H _ I h) (fun u' s' hs=>?_) fun _ _ z=>z.elim)
 obtain ⟨v',H',J,rv',q'⟩:=hs
 exact ⟨v',H',J.os,J.bare,J.base,J.hok,rv',hQ v' H' (fun y c e=>J.freeC y c e) q'⟩
section
variable {X:Cx} {x y z f:Str} {p pos lpos:Pos} {e1 e2 body:Expr} {params:Arguments} {scope:Scope} {qual:Str} {ta:TA} {tb:TE} {i k:Nat}
end
theorem Inv.trackF {X:Cx} {pins:List (Addr×Obj)} {σ:St} {H:Hp} {s:Shared} {q:Addr} {o:Obj} (I:Inv X pins σ H s) (fq:zjt X pins H q) (hex:X.ex=[]) (e:s.heap.get? q=some o):Inv X pins σ (upd H q (.frz o (.own q))) s:=by
 obtain ⟨f0,f1,f2,f3,f4,f5⟩:=fq
 have f3:X.s₀.heap.objs.size≤q:=by
  rcases f3 with z | z
  ·rw [hex] at z;cases z
  ·exact z
 refine ⟨I.ok,I.os,I.bare,⟨I.base.keep,I.base.slot,fun b ob r n hx=>?_,I.base.there,fun b xs r=>?_,fun b ob u r=>?_,fun b ps r=>?_⟩,I.loc,I.cell,?_,fun x c ec=>?_,fun p hp=>?_,zoJ I.hok f0 e,I.len⟩
 ·rw [zaq (Nat.ne_of_lt (Nat.lt_of_lt_of_le (Heap.lt_size r) f3))]
  exact I.base.free b ob r n hx
 ·have:=I.base.tups b xs r
  rw [zaq (zaw this f0)]
  exact this
 ·have:=I.base.frzs b ob u r
  rw [zaq (zaw this f0)]
  exact this
 ·obtain ⟨more,hm⟩:=I.base.tbls b ps r
  exact ⟨more,by rw [zaq (zaw hm f0)];exact hm⟩
 ·rw [zaq (Ne.symm f1)]
  exact I.free
 ·rw [zaq (f4 x c ec)]
  exact I.freeC x c ec
 ·obtain ⟨p1,p2,p3,p4,p5⟩:=I.pin p hp
  exact ⟨p1,by rw [zaq (f5 p hp)];exact p2,p3,p4,p5⟩
section
variable {X:Cx} {x y:Str} {p pos lpos:Pos} {e body:Expr} {params:Arguments} {scope:Scope} {qual:Str} {te:TE} {j k:Nat} {f c cc P:Addr} {fd:FuncData} {ps:List Str} {sp:Sp} {E:XK}
end
end L2
namespace L2
open PySem PySem.Spec PyProof.Rows
section
open PySem.W
variable {P:Addr} {K:Frag}
theorem zdm (hP:K.lookup P=some (tabObj #[])) (v:Value) (n:Str):specialIn (zbg P K) v n=specialIn K v n:=by
 unfold specialIn
 cases v with
 | ref a =>
  by_cases q:a=P
  ·subst q
   have e1:typeIn (zbg a K) (.ref a)=none:=by show ((zbg a K).lookup a).map (·.cls)=none;rw [zax];rfl
   have e2:typeIn K (.ref a)=some .none:=by show (K.lookup a).map (·.cls)=_;rw [hP];rfl
   rw [e1,e2]
   rfl
  ·rw [zcK q]
   simp only [zbt hP]
 | _=>simp only [zbt hP,typeIn]
theorem zko (hP:K.lookup P=some (tabObj #[])) (v:Value):takesIn (zbg P K) v=takesIn K v:=by
 unfold takesIn
 simp only [zdm hP]
theorem zjr (hP:K.lookup P=some (tabObj #[])) (c mc:Value) (n:Str):findCls (zbg P K) c mc n=findCls K c mc n:=by
 unfold findCls
 simp only [zbt hP,zdm hP,zko hP]
 congr 1
 funext ma
 congr 1
 funext mg
 congr 1
 funext data
 have key:∀ (a:Value) (f:Value→Option CFound),(a=.ref P→f .none=none)→(typeIn (zbg P K) a).bind f=(typeIn K a).bind f:=fun a f hf=>by
  cases a with
  | ref b =>
   by_cases q:b=P
   ·subst q
    have e1:typeIn (zbg b K) (.ref b)=none:=by show ((zbg b K).lookup b).map (·.cls)=none;rw [zax];rfl
    have e2:typeIn K (.ref b)=some .none:=by show (K.lookup b).map (·.cls)=_;rw [hP];rfl
    rw [e1,e2]
    exact (hf rfl).symm
   ·rw [zcK q]
  | _=>rfl
 split
 ·rfl
 ·congr 1
  funext o
  cases o with
  | none=>rfl
  | some a =>
   dsimp only
   split
   ·rfl
   ·refine key a _ fun z=>?_
    have e3:specialIn K a "__get__"=none:=by
     rw [z]
     unfold specialIn
     have e2:typeIn K (.ref P)=some .none:=by show (K.lookup P).map (·.cls)=_;rw [hP];rfl
     rw [e2]
     rfl
    rw [e3,if_neg (by decide)]
    rfl
theorem zo4 (hP:K.lookup P=some (tabObj #[])) {a:Addr} {T:String} (h:typeIn K (.ref a)=some (.type T)):a≠P:=fun z=>by
 have e:typeIn K (.ref a)=some .none:=by
  show (K.lookup a).map (·.cls)=_
  rw [z,hP]
  rfl
 rw [e] at h
 cases h
theorem ExB.drop (hP:K.lookup P=some (tabObj #[])) {D:Addr} (x:ExB K D):ExB (zbg P K) D:=by
 obtain ⟨h1,h2,h3⟩:=x
 refine ⟨(zdm hP _ _).trans h1,?_,(zjr hP _ _ _).trans h3⟩
 unfold readsIn at h2 ⊢
 rw [Bool.and_eq_true,Bool.and_eq_true,Bool.and_eq_true,Bool.and_eq_true] at h2
 have ne:=zo4 hP (T:="type") (beq_iff_eq.mp h2.1.1.1.2)
 rw [zhs hP,zcK ne,zbt hP,zbt hP,zdI hP]
 simp only [Bool.and_eq_true]
 exact h2
theorem ExI.drop (hP:K.lookup P=some (tabObj #[])) {C f:Addr} (x:ExI K C f):ExI (zbg P K) C f:=by
 obtain ⟨⟨a1,a2,a3,a4,a5,a6,a7,a8,a9,a10,a11,a12,a13,a14,a15,lk,tl⟩,h2,h3,h4,h5,h6⟩:=x
 have nC:C≠P:=fun z=>by rw [z,hP] at lk;cases lk
 have nf:=zoo hP h3
 refine ⟨⟨a1,a2,a3,a4,a5,a6,a7,a8,a9,a10,a11,a12,a13,a14,a15,(zaJ nC).trans lk,(zf7 hP _ _).trans tl⟩,(zbt hP _ _).trans h2,?_,(zfT hP _).trans h4,(zfL hP _ _).trans h5,(zbt hP _ _).trans h6⟩
 unfold isFn at h3 ⊢
 rw [zcK nf]
 exact h3
theorem zce.drop (hP:K.lookup P=some (tabObj #[])) {C:Addr} (x:zce K C):zce (zbg P K) C :=
 ⟨(zbt hP _ _).trans x.ga,(zbt hP _ _).trans x.gn,(zbt hP _ _).trans x.cl,(zfL hP _ _).trans x.mb,(zfL hP _ _).trans x.mo⟩
theorem zg3.drop (hP:K.lookup P=some (tabObj #[])) {C:Addr} {f:Str} (x:zg3 K C f):zg3 (zbg P K) C f:=by
 refine ⟨x.five.drop hP,?_,(zbt hP _ _).trans x.na⟩
 have:=x.hd
 unfold hasDictIn at this ⊢
 rw [zg6 hP]
 exact this
theorem zmi.okV {Pg:Program} {w:World} {mg:Str→Option Value} {base:Heap} {x qual:Str} {st:Stmt} {f c:Addr} {fd:FuncData} {N ps:List Str} {k:Nat} {sp:Sp} (F:zmi K x qual st f fd c) (S:zaN N ps (zap st)) (len:∀ vs H Q E,sp vs H Q E→vs.length=ps.length)
  (hbody:∀ (A:Around) (outer:List Env) (s:Shared) (H:Hp) (vs:List V) (Q:VK) (E:XK),zdR k (A.deeper (envOfC qual (zap st) s.heap.objs.size f (.ref c)))→sp vs H Q E →
   ∃ t,PSs (ziK (CXV Pg w) Pg w K mg base N qual (zap st) f (.ref c) A outer s H E) (zbz st) t∧t { nx:=fun _ H'=>Q .non H',rt:=Q } (zbu N vs) H):zcJ Pg w K mg base (CXV Pg w) (k+1) f fd ps sp:=by
 obtain ⟨⟨oc,od,kV,doc,pm,an,ct,osl,rfl,lk,hcd⟩,_⟩:=F
 exact zmq lk hcd S len fun A outer s H vs Q E hr hsp=>hbody A outer s H vs Q E hr hsp
end
end L2
namespace L2
open PySem PySem.Spec PyProof.Rows
end L2
namespace L2
open PySem PySem.Spec PyProof.Rows
def zoi (e:Expr) (qual:Str) (H:Hp) (q:Addr):Prop:=∃ (params:Arguments) (body:Expr) (scope:Scope) (lpos:Pos) (pm ctv:Value) (c':Addr) (oc:Obj) (ovs:Array Value) (t:Nat),
 e=.Lambda params body scope lpos∧H q=some (.frz (PySem.W.kla_obj "<lambda>" qual params body scope [] pm c' ctv) (.own q))∧H c'=some (.frz oc (.own c'))∧oc.data=.fields ovs∧ovs[1]?=some (.str qual t)
theorem zoi.same {e:Expr} {qual:Str} {H H':Hp} {q:Addr} (h:zoi e qual H q) (s:za1 H H'):zoi e qual H' q:=by
 obtain ⟨a1,a2,a3,a4,a5,a6,a7,a8,a9,a10,b1,b2,b3,b4⟩:=h
 exact ⟨a1,a2,a3,a4,a5,a6,a7,a8,a9,a10,b1,s _ _ b2,s _ _ b3,b4⟩
def zkb (e:Expr) (qual:Str) (i:Nat) (tb:TE) (ta:TA):TE:=fun σ H Q=>∃ q,σ[i]?=some (some (.ref q))∧ta σ H fun vs H1=>∃ u1 u2,vs=[u1,u2]∧zoi e qual H1 q∧tb [some u1,some u2] H1 Q
section
variable {X:Cx} {x z f:Str} {p pos lpos:Pos} {e1 e2 body:Expr} {params:Arguments} {scope:Scope} {qual:Str} {ta:TA} {tb:TE} {i k:Nat}
theorem zmD (hN:X.N[i]?=some f) (hv:Vis X.env.scope f) (hr:zdR (k+1) X.A) (ha:PA X [e1,e2] ta)
  (hbind:∀ (cl:List (Str×Addr)) (pm cd ctv u1 u2:Value),bindArgs (PySem.W.kla_fn "<lambda>" qual params body scope cl pm cd ctv) ⟨[u1,u2],[]⟩=pure [(x,u1),(z,u2)]) (hne:x≠z) (hlx:scope.names.lookup x=some .local) (hlz:scope.names.lookup z=some .local) (hk:scope.kind=.function) (hco:scope.isCoroutine=false) (hgen:scope.isGenerator=false)
  (hcell:∀ y∈scope.names,y.2≠.cell) (hall:∀ n∈scope.names,n.2≠.free)
  (hb:∀ (f:Addr) (cd:Value) (A:Around) (outer:List Env) (s:Shared) (H:Hp),zdR k (zlX X.prog X.w X.K X.mg X.base [x,z] qual scope f cd [] A outer s H).A→PE (zlX X.prog X.w X.K X.mg X.base [x,z] qual scope f cd [] A outer s H) body tb)
  (hd:(f == ("__debug__":Str))=false:=by decide) (hcd:(f == ("__classdict__":Str))=false:=by decide)
  (he:starEach [e1,e2] X.env=(false,eval e1 X.env)::starEach [e2] X.env:=by rfl) (hpl:(backTo pos (starEach [e2] X.env)).any (·.1)=false:=by rfl) :
  PE X (.Call (.Name f p) [e1,e2] [] pos) (zkb (.Lambda params body scope lpos) qual i tb ta):=by
 intro pins s σ H Q I h
 obtain ⟨q,hq,h⟩:=h
 refine wpAny_Call_Name_kw (thn (znQ (pos:=p) hN hv hd hcd pins s σ H (fun v H1=>v=.ref q∧H1=H) I ⟨.ref q,hq,rfl,rfl⟩) fun fv s1 hQ'=>?_)
 obtain ⟨v,H1,I1,r1,e,eH⟩:=hQ'
 subst e
 subst eH
 cases r1
 refine PySem.W.callWith_of (P:=fun h=>∃ (cl:List (Str×Addr)) (pm ctv:Value) (c':Addr),h.get? q=some (PySem.W.kla_obj "<lambda>" qual params body scope cl pm c' ctv)) (by rw [he];show ((false || (backTo pos (starEach [e2] X.env)).any (·.1)) || false)=false;rw [hpl];rfl) (fun h ⟨cl,pm,ctv,c',e⟩=>⟨.frame,.inl rfl,(PySem.W.Looks.ld (part:=none) e).andThen .now⟩) ?_
 have hA:=ha pos pins s1 σ H1 _ I1 h
 rw [he] at hA ⊢
 refine Calls.evalArgs_plain (thn hA fun us s2 hQ'=>?_)
 obtain ⟨vs,H2,I2,r2,q2⟩:=hQ'
 obtain ⟨v1,v2,rfl,L,q2⟩:=q2
 obtain ⟨pa,bo,sc,lp,pm,ctv,c',oc,ovs,tk,eL,hq2,hc',hd',hv'⟩:=L
 cases eL
 obtain ⟨u1,u2,rfl,ru1,ru2⟩:=zkN r2
 have eq2:s2.heap.get? q=some (PySem.W.kla_obj "<lambda>" qual params body scope [] pm c' ctv):=(I2.hok q _ hq2).1
 have ec':s2.heap.get? c'=some oc:=(I2.hok c' _ hc').1
 refine ⟨⟨_,pm,ctv,c',eq2⟩,?_⟩
 have e0:=I2.env0
 have T:zp8 H2 s2.heap scope [] [] []:=by
  refine ⟨rfl,fun j n hj=>?_,fun n hn=>?_,fun n d e=>?_,fun n m d h1 h2=>?_⟩
  ·cases hj
  ·exact absurd rfl (hall _ (PySem.mem_of_lookup hn))
  ·cases e
  ·cases h1
 refine wpAny_call (codeAny_mono (zlh (t:=tb) (Ns:=[]) (vs:=[]) (x:=x) (y:=z) (v1:=v1) (v2:=v2) e0 hr.depth hr.hd eq2 ⟨c',oc,ovs,tk,rfl,ec',hd',hv'⟩ (hbind _ _ _ _ _ _) hne hlx hlz hk hco hgen hcell T ru1 ru2 (hb _ _ _ _ _ _ (hr.deeper _)) (Q:=Q) (fun v H' _ q=>q) q2) fun r s' hq=>?_)
 cases r with
 | error e=>exact hq.elim
 | ok fl =>
  cases fl with
  | ret u=>exact I2.after hq
  | next=>exact hq.elim
  | brk=>exact hq.elim
  | cont=>exact hq.elim
end
def zlx (P:Addr) (e:Expr) (lpos:Pos) (qual:Str) (sp:Sp) (E:XK) (te:TE):TE:=fun σ H Q=>te σ H fun v H1=>zcP H1 P lpos qual ∧
 ∀ (q:Addr) (H3:Hp),Bar P H1 H3→zcP H3 P lpos qual→H1 q=none→zoi e qual H3 q→sp [v,.ref q] H3 Q E
section
variable {X:Cx} {x:Str} {p pos lpos:Pos} {e body:Expr} {params:Arguments} {scope:Scope} {qual:Str} {te:TE} {k:Nat} {f cc P:Addr} {fd:FuncData} {ps:List Str} {sp:Sp} {E:XK}
theorem zm6 (F:zcJ X.prog X.w X.K X.mg X.base (CXV X.prog X.w) k f fd ps sp) (hr:zdR k X.A) (hg:Gl X x) (hm:X.mg x=some (.ref f)) (hk:PySem.W.keepIn X.K (.ref f)=true) (hb:zbB X.K fd ps []) (hx:zeP (CXV X.prog X.w) X E) (h1:PE X e te)
  (hcode:X.env.code=.ref cc) (C:PySem.W.CodeHd X.base cc P) (hB:X.base.BuiltinsAt X.mg P) (hcl:closureFor scope X.env=pure []) (hdef:defaultsOf params X.env=([],[])) (hq:X.env.qual++"<lambda>"=qual) (hex:X.ex=[])
  (hdb:(x == ("__debug__":Str))=false:=by decide) (he:starEach [e,.Lambda params body scope lpos] X.env=(false,eval e X.env)::starEach [.Lambda params body scope lpos] X.env:=by rfl)
  (he2:starEach [.Lambda params body scope lpos] X.env=(false,eval (.Lambda params body scope lpos) X.env)::starEach [] X.env:=by rfl) (hpl:(backTo pos (starEach [.Lambda params body scope lpos] X.env)).any (·.1)=false:=by rfl) :
  PE X (.Call (.Name x p) [e,.Lambda params body scope lpos] [] pos) (zlx P (.Lambda params body scope lpos) lpos qual sp E te):=by
 intro pins s σ H Q I h
 refine wpAny_Call_Name_kw (zcW I hg hm ?_ hdb)
 refine PySem.W.callWith_K (h₀:=X.base) I.ok.mod.kin hk ?_ he hpl
 rw [he]
 show wpAny _ _ (spliced ((false,eval e X.env)::backTo pos (starEach [.Lambda params body scope lpos] X.env))) _ _ s
 refine Calls.spliced_cons (thn (h1 pins s σ H _ I h) fun u s1 hQ'=>?_)
 obtain ⟨v,H1,I1,r1,hL,q1⟩:=hQ'
 rw [he2]
 show wpAny _ _ (spliced ((false,eval (.Lambda params body scope lpos) X.env)::backTo pos (starEach [] X.env))) _ _ s1
 refine Calls.spliced_cons (zna I1 hcode C hB hL hcl hdef hq fun qa c' pm ctv H2 s2 oc ovs ot I2 bar hL2 hqa hc' hd hv fq=>?_)
 refine Calls.spliced_nil ⟨I2.kIn,?_⟩
 have fq2:H2 qa=none:=fq.1
 have nqP:qa≠P:=fun z=>by
  obtain ⟨ps,hP⟩:=hL2.tbl
  rw [z,hP] at fq2
  cases fq2
 have I3:=I2.trackF fq hex hqa
 have q3:upd H2 qa (.frz (PySem.W.kla_obj "<lambda>" qual params body scope [] pm c' ctv) (.own qa)) qa=some (.frz (PySem.W.kla_obj "<lambda>" qual params body scope [] pm c' ctv) (.own qa)):=zad
 have hc3:upd H2 qa (.frz (PySem.W.kla_obj "<lambda>" qual params body scope [] pm c' ctv) (.own qa)) c'=some (.frz oc (.own c')):=by rw [zaq (fun z=>by rw [z,fq2] at hc';cases hc')];exact hc'
 have bar3:Bar P H1 (upd H2 qa (.frz (PySem.W.kla_obj "<lambda>" qual params body scope [] pm c' ctv) (.own qa))):=fun b o n e=>by
  have:=bar b o n e
  rw [zaq (zaw this fq2)]
  exact this
 have hL3:zcP (upd H2 qa (.frz (PySem.W.kla_obj "<lambda>" qual params body scope [] pm c' ctv) (.own qa))) P lpos qual:=hL2.same fun b o e=>by rw [zaq (zaw e fq2)];exact e
 have fq1:H1 qa=none:=by
  cases z:H1 qa with
  | none=>rfl
  | some o =>
   rw [bar qa o nqP z] at fq2
   cases fq2
 generalize upd H2 qa (.frz (PySem.W.kla_obj "<lambda>" qual params body scope [] pm c' ctv) (.own qa))=H3 at I3 q3 hc3 bar3 hL3
 have sp4:=q1 qa H3 bar3 hL3 fq1 ⟨params,body,scope,lpos,pm,ctv,c',oc,ovs,ot,rfl,q3,hc3,hd,hv⟩
 have r2:zbj [v,.ref qa] [u,.ref qa]:=.cons r1 (.cons rfl .nil)
 have hl:([u,Value.ref qa]++[]).length=ps.length:=by
  have:=F.len _ _ _ _ sp4
  rw [← this]
  rfl
 have hbb:=hb s2 [u,.ref qa] I3.kIn hl
 rw [List.append_nil] at hbb
 refine wpAny_call (codeAny_mono (F.run X.A X.stack s2 _ ⟨[u,.ref qa],[]⟩ [u,.ref qa] [v,.ref qa] _ _ hr I3.env0 hbb r2 sp4) fun r s' hq=>?_)
 cases r with
 | error e=>exact hx pins σ H3 s2 e s' I3 hq
 | ok fl =>
  cases fl with
  | ret u=>exact I3.after hq
  | next=>exact False.elim hq
  | brk=>exact False.elim hq
  | cont=>exact False.elim hq
end
end L2
namespace L2
open PySem PySem.Spec PyProof.Rows
def f2 (o:Obj):Option Value:=match o.data with
 | .fields vs=>vs[2]?
 | _=>none
section
variable {α β:Type}
def Kf:Sem α→Prop
 | .pure _=>True
 | .unsupported _=>True
 | .rule _ k=>Kf (k ())
 | .at _ k=>Kf (k ())
 | .load _ _ k=>∀ o,Kf (k o)
 | .update _ _ f k=>(∀ o:Obj,f2 (f o)=f2 o∧(f o).isFreed=o.isFreed)∧Kf (k ())
 | .alloc _ k=>∀ a,Kf (k a)
 | .stack k=>∀ l,Kf (k l)
 | _=>False
theorem zaS {f:α→Sem β} (hf:∀ x,Kf (f x)):∀ {t:Sem α},Kf t→Kf (t >>= f)
 | .pure a,_=>hf a
 | .unsupported _,_=>trivial
 | .rule _ k,h=>zaS hf (t:=k ()) h
 | .at _ k,h=>zaS hf (t:=k ()) h
 | .load _ _ k,h=>fun o=>zaS hf (t:=k o) (h o)
 | .update _ _ _ k,h=>⟨h.1,zaS hf (t:=k ()) h.2⟩
 | .alloc _ k,h=>fun o=>zaS hf (t:=k o) (h o)
 | .stack k,h=>fun o=>zaS hf (t:=k o) (h o)
 | .raise _,h=>h.elim
 | .finish _,h=>h.elim
 | .loadIfAlive _ _,h=>h.elim
 | .point _ _,h=>h.elim
 | .fresh _,h=>h.elim
 | .ask _,h=>h.elim
 | .handled _ _,h=>h.elim
 | .thread _,h=>h.elim
 | .register ..,h=>h.elim
 | .choose ..,h=>h.elim
 | .os ..,h=>h.elim
 | .call ..,h=>h.elim
 | .newGen ..,h=>h.elim
 | .genState ..,h=>h.elim
 | .resume ..,h=>h.elim
 | .yield ..,h=>h.elim
 | .fork ..,h=>h.elim
 | .await ..,h=>h.elim
def zl3 (e:Addr) (h:Heap):Prop:=∃ o,h.get? e=some o∧f2 o=some .none
theorem zi2 {M:Model} {Γ:PySem.Ctx} {Q:α→Pos→Shared→Prop} {E E':Value→Pos→Shared→Prop} {e:Addr}:∀ {t:Sem α} {p:Pos} {s:Shared},Kf t→zl3 e s.heap→Sem.wp M Γ t Q E p s →
  Sem.wp M Γ t (fun a p s'=>Q a p s'∧zl3 e s'.heap) E' p s
 | .pure _,_,_,_,d,h=>⟨h,d⟩
 | .unsupported _,_,_,_,_,h=>h
 | .rule _ k,_,_,c,d,h=>zi2 (t:=k ()) c d h
 | .at _ k,_,_,c,d,h=>zi2 (t:=k ()) c d h
 | .load _ _ k,_,_,c,d,⟨o,ho,h⟩=>⟨o,ho,zi2 (t:=k o) (c o) d h⟩
 | .update a _ f k,p,s,c,d,⟨hi,h⟩=>by
  refine ⟨hi,zi2 (t:=k ()) c.2 ?_ h⟩
  obtain ⟨o,ho,hd⟩:=d
  by_cases ea:a=e
  ·subst ea
   have nf:o.isFreed=false:=(Heap.get?_some_iff.mp ho).2
   exact ⟨f o,Heap.get?_update_self f ho (by rw [(c.1 o).2];exact nf),by rw [(c.1 o).1];exact hd⟩
  ·exact ⟨o,(Heap.get?_update_other _ f ea).trans ho,hd⟩
 | .alloc o k,p,s,c,⟨o',ho,hd⟩,h=>zi2 (t:=k _) (c _) ⟨o',Heap.get?_push_of_some _ ho,hd⟩ h
 | .stack k,_,_,c,d,h=>zi2 (t:=k _) (c _) d h
 | .raise _,_,_,c,_,_=>c.elim
 | .finish _,_,_,c,_,_=>c.elim
 | .loadIfAlive _ _,_,_,c,_,_=>c.elim
 | .point _ _,_,_,c,_,_=>c.elim
 | .fresh _,_,_,c,_,_=>c.elim
 | .ask _,_,_,c,_,_=>c.elim
 | .handled _ _,_,_,c,_,_=>c.elim
 | .thread _,_,_,c,_,_=>c.elim
 | .register ..,_,_,c,_,_=>c.elim
 | .choose ..,_,_,c,_,_=>c.elim
 | .os ..,_,_,c,_,_=>c.elim
 | .call ..,_,_,c,_,_=>c.elim
 | .newGen ..,_,_,c,_,_=>c.elim
 | .genState ..,_,_,c,_,_=>c.elim
 | .resume ..,_,_,c,_,_=>c.elim
 | .yield ..,_,_,c,_,_=>c.elim
 | .fork ..,_,_,c,_,_=>c.elim
 | .await ..,_,_,c,_,_=>c.elim
theorem zjz {M:Model} {A:Around} {t:Sem α} {Q:α→Shared→Prop} {E E':Value→Shared→Prop} {s:Shared} {e:Addr} (c:Kf t) (d:zl3 e s.heap) (h:wpAny M A t (fun a s'=>zl3 e s'.heap→Q a s') E s):wpAny M A t Q E' s:=fun Γ p hΓ =>
 Sem.wp_mono M Γ t (fun _ _ _ z=>z.1 z.2) (fun _ _ _ z=>z) p s (zi2 c d (h Γ p hΓ))
end
theorem zpP {i:Nat} (hi:i≠2) (x:Value) (o:Obj):f2 (Obj.mapFields (·.setIfInBounds i x) o)=f2 o∧(Obj.mapFields (·.setIfInBounds i x) o).isFreed=o.isFreed:=by
 obtain ⟨c,d,dat,sl⟩:=o
 cases dat <;> first | exact ⟨Array.getElem?_setIfInBounds_ne hi,rfl⟩ | exact ⟨rfl,rfl⟩
theorem zbq {α:Type} (a:α):Kf (pure a:Sem α):=trivial
theorem zd3 {α:Type} (w:String):Kf (unsupported w:Sem α):=trivial
theorem zjg (a:Addr):Kf (load a):=fun _=>trivial
theorem zhb:Kf stack:=fun _=>trivial
theorem zib {α:Type} {c:Prop} [Decidable c] {a b:Sem α} (h1:Kf a) (h2:Kf b):Kf (if c then a else b):=by
 split
 ·exact h1
 ·exact h2
theorem zfQ (v:Value) (i:Nat):Kf (field v i):=by
 unfold field fieldsOf
 refine zaS (fun x=>?_) ?_
 ·split
  ·exact zbq _
  ·exact zd3 _
 ·split
  ·refine zaS (fun o=>?_) (zjg _)
   split
   ·exact zbq _
   ·exact zd3 _
  ·exact zd3 _
theorem zel {i:Nat} (hi:i≠2) (v x:Value):Kf (setField v i x):=by
 unfold setField updateField
 split
 ·refine zaS (fun o=>?_) (zjg _)
  split
  ·exact zib ⟨zpP hi _,trivial⟩ (zd3 _)
  ·exact zd3 _
 ·exact zd3 _
theorem zhV (ty:String) (vs:List Value):Kf (newFields ty vs):=by
 unfold newFields newObj newObjAsIs
 simp only
 split
 ·exact zd3 _
 ·exact zaS (fun _=>zbq _) (show Kf (alloc _) from fun _=>trivial)
theorem zdZ:∀ l:List Env,Kf (readyFrames l)
 | []=>trivial
 | env::outer=>by
  have ih:=zdZ outer
  unfold readyFrames
  split
  ·refine zaS (fun o=>?_) (zjg _)
   refine zib (zbq _) ?_
   refine zaS (fun im=>?_) ?_
   ·refine zaS (fun bk=>?_) ?_
    ·exact zaS (fun _=>ih) ⟨fun o=>⟨rfl,by obtain ⟨c,d,dat,sl⟩:=o;cases dat <;> rfl⟩,trivial⟩
    ·unfold keptBack underTheClaimsCaller
     split
     ·refine zib (zbq _) ?_
      exact zaS (fun _=>zbq _) (zaS (fun _=>zbq _) zhb)
     ·exact zbq _
   ·unfold behindIsImport
    refine zib (zbq _) (zib (zbq _) ?_)
    exact zaS (fun _=>zbq _) (zfQ _ _)
  ·exact zd3 _
theorem zkz (env:Env):Kf (PySem.frameOf env):=by
 unfold PySem.frameOf frameEnvs
 refine zaS (fun x=>?_) (zaS (fun _=>zbq _) zhb)
 refine zaS (fun y=>?_) ?_
 ·split
  ·exact zbq _
  ·exact zd3 _
 ·unfold frameObject
  split
  ·exact zbq _
  ·exact zaS (fun _=>zbq _) (zdZ _)
theorem zgi (f:Addr) (b:Bool):Kf (entryPlaceOf f b):=by
 unfold entryPlaceOf
 refine zaS (fun x=>?_) zhb
 split
 ·exact zbq _
 ·exact zbq _
theorem zfy (e:Value) (env:Env):Kf (noteFrame e env):=by
 unfold noteFrame EntryCells.newEntry
 split
 ·refine zaS (fun head=>?_) (zfQ _ _)
  have ziJ:∀ f:Addr,Kf (do let a ← PySem.frameOf env;let pl ← entryPlaceOf f (head != .none);let b ← newFields "traceback" ([head,a,.none,rawInt f,.none]++(if pl.isEmpty then List.replicate 6 .none else pl));setField e 1 b):=fun f =>
   zaS (fun _=>zaS (fun _=>zaS (fun _=>zel (by decide) _ _) (zhV _ _)) (zgi _ _)) (zkz _)
  refine zib ?_ (ziJ _)
  refine zaS (fun x=>zib (zbq _) ?_) (zfQ _ _)
  exact zaS (fun _=>ziJ _) (zel (by decide) _ _)
 ·exact zd3 _
theorem zdj (e:Value) (f:Option Addr):Kf (setFlight e f):=by
 unfold setFlight
 exact zaS (fun _=>zib (zel (by decide) _ _) (zbq _)) (zfQ _ _)
theorem zkw (env:Env) (e:Value):Kf (leaving env e):=by
 unfold leaving
 exact zaS (fun _=>zdj _ _) (zfy _ _)
def CXW (P:Program) (w:World):CXT:=fun outer H s E e s'=>CXV P w outer H s E e s'∧∃ ea,e=.ref ea∧zl3 ea s'.heap
theorem Inv.xeq {X:Cx} {pins:List (Addr×Obj)} {σ:St} {H:Hp} {s:Shared} {xe:Value→Shared→Prop} (I:Inv X pins σ H s):Inv { X with xe:=xe } pins σ H s :=
 ⟨⟨I.ok.mod,I.ok.kind,I.ok.glob,I.ok.blt,I.ok.above,I.ok.inj,I.ok.has,I.ok.cab,I.ok.hd,I.ok.frames,I.ok.stk,I.ok.exf,I.ok.bs,I.ok.bsz,I.ok.noex,I.ok.exfs,I.ok.funs,I.ok.frf⟩,I.os,I.bare,I.base,I.loc,I.cell,I.free,I.freeC,I.pin,I.hok,I.len⟩
section
variable {P:Program} {w:World} {K:PySem.W.Frag} {mg:Str→Option Value} {base:Heap} {N:List Str} {qual:Str} {scope:Scope} {f:Addr} {cd:Value} {A:Around} {outer:List Env} {s₀:Shared} {H₀:Hp} {E:XK}
theorem ziS:zjj (ziK (CXW P w) P w K mg base N qual scope f cd A outer s₀ H₀ E) E:=by
 intro pins σ H s y C dx I hy n0 q
 have I':Inv (ziK (CXV P w) P w K mg base N qual scope f cd A outer s₀ H₀ E) pins σ H s:=I.xeq
 have h:=ziM pins σ H s y C dx I' hy n0 q
 obtain ⟨⟨oy,t0,gy,cy,dy,fy⟩,_⟩:=(I.hok y _ hy:zbi _ _ H s.heap y (zkR y C dx))
 exact zjz (zkw _ _) ⟨oy,gy,by unfold f2;rw [fy];rfl⟩ (wpAny_mono h (fun _ s' z d=>⟨z,y,rfl,d⟩) fun _ _ z=>z)
end
theorem zpO {P:Program} {w:World} {X:Cx}:zeP (CXW P w) X E0:=fun _ _ _ _ _ _ _ ⟨⟨_,_,_,_,_,_,_,x,_⟩,_⟩=>x.want.elim
theorem Fun.okW {P:Program} {w:World} {K:PySem.W.Frag} {mg:Str→Option Value} {base:Heap} {x qual:Str} {st:Stmt} {f:Addr} {fd:FuncData} {N ps:List Str} {k:Nat} {sp:Sp} (F:Fun K x qual st f fd) (S:zaN N ps (zap st)) (len:∀ vs H Q E,sp vs H Q E→vs.length=ps.length)
  (hbody:∀ (cdv:Value) (A:Around) (outer:List Env) (s:Shared) (H:Hp) (vs:List V) (Q:VK) (E:XK),zdR k (A.deeper (envOfC qual (zap st) s.heap.objs.size f cdv))→sp vs H Q E →
   ∃ t,PSs (ziK (CXW P w) P w K mg base N qual (zap st) f cdv A outer s H E) (zbz st) t∧t { nx:=fun _ H'=>Q .non H',rt:=Q } (L2.zbu N vs) H):zcJ P w K mg base (CXW P w) (k+1) f fd ps sp:=by
 obtain ⟨oc,od,kV,doc,pm,an,cdv,ct,osl,rfl,lk,hcd⟩:=F.ex
 exact zmq lk hcd S len fun A outer s H vs Q E hr hsp=>hbody cdv A outer s H vs Q E hr hsp
structure zkh (k:Nat) (A:Around):Prop where
 dp:A.depth+3*k+5<recursionLimit
 un:A.units+16*k+200<cLine
theorem zdR.h {k:Nat} {A:Around} (r:zdR k A) (v:Option Value):zkh k (A.mark v):=⟨r.dp,r.un⟩
theorem zkh.make {k:Nat} {A:Around} (r:zkh (k+1) A) (C:Addr) (us:List Value) (kw:List (Str×Value)):zkh k (A.under (.builtin "type.__call__" ⟨.ref C::us,kw⟩)) :=
 ⟨by rw [zgI];have:=r.dp;(first|lia|omega),by rw [zgR];have:=r.un;(first|lia|omega)⟩
structure zm9 (P:Program) (w:World) (K:PySem.W.Frag) (mg:Str→Option Value) (base:Heap) (k:Nat) (f:Addr) (fd:FuncData) (ps:List Str) (sp:Sp):Prop where
 len:∀ vs H Q E,sp vs H Q E→vs.length=ps.length
 run:∀ (A:Around) (outer:List Env) (s:Shared) (H:Hp) (args:Args) (us:List Value) (vs:List V) (Q:VK) (E:XK),zkh k A→zmm P w K mg base A outer s H→BindsTo s fd args (ps.zip us)→zbj vs us→sp vs H Q E →
  codeAny (model P w) A (.call (.ref f) args) (CR CX0 outer P w H s Q E) s
def cxH (P:Program) (w:World) (K:PySem.W.Frag) (mg:Str→Option Value) (base:Heap) (N:List Str) (qual:Str) (scope:Scope) (f:Addr) (cd:Value) (A:Around) (outer:List Env) (s:Shared) (H:Hp) (E:XK):Cx:={ ziK CX0 P w K mg base N qual scope f cd A outer s H E with calm:=false }
theorem Fun.okH {P:Program} {w:World} {K:PySem.W.Frag} {mg:Str→Option Value} {base:Heap} {x qual:Str} {st:Stmt} {f:Addr} {fd:FuncData} {N ps:List Str} {k:Nat} {sp:Sp} (F:Fun K x qual st f fd) (S:zaN N ps (zap st)) (len:∀ vs H Q E,sp vs H Q E→vs.length=ps.length)
  (hbody:∀ (cdv:Value) (A:Around) (outer:List Env) (s:Shared) (H:Hp) (vs:List V) (Q:VK) (E:XK),sp vs H Q E →
   ∃ t,PSs (cxH P w K mg base N qual (zap st) f cdv A outer s H E) (zbz st) t∧t { nx:=fun _ H'=>Q .non H',rt:=Q } (L2.zbu N vs) H):zm9 P w K mg base k f fd ps sp:=by
 obtain ⟨oc,od,kV,doc,pm,an,cdv,ct,osl,rfl,lk,hcd⟩:=F.ex
 refine ⟨len,fun A outer s H args us vs Q E hr e0 hb r hsp=>?_⟩
 have hl:=len _ _ _ _ hsp
 have KX:K.In s.heap:=e0.mod.kin.keeps fun b o e=>(e0.bs b o e).1
 have lim:s.heap.NoLimit:=e0.mod.nolimit.keeps fun b o e=>(e0.bs b o e).1
 have hkind:∀ y∈ps.zip us,(zap st).names.lookup y.1=some .local∨((zap st).names.lookup y.1=some .cell∧((cellsFrom (s.heap.objs.size+1) (zap st).names []).lookup y.1).isSome=true):=fun ⟨n,v⟩ hy=>by
  rcases S.par n (List.of_mem_zip hy).1 with q | q
  ·exact .inl q
  ·exact .inr ⟨q,PySem.W.cellsFrom_some _ _ _ (.inl q)⟩
 refine codeAny_call_function (by have:=hr.dp;(first|lia|omega)) (KX _ _ lk) rfl S.co S.gen rfl (PySem.W.codeRec_of KX hcd) (hb _ _ _ _ ?_)
 refine wpAny_newFunctionEnv_cells S.kind hkind fun env he s1 x=>?_
 subst he
 refine ⟨lim.keeps x.toInCall.keep,codeAny_func ?_⟩
 obtain ⟨t,ht,hq⟩:=hbody cdv A outer s H vs Q E hsp
 have e1:zmm P w K mg base { A with handled:=none } outer s H:=⟨e0.frames,e0.mod,e0.bs,e0.bsz,e0.funs,e0.frf,e0.hok,e0.bare⟩
 have I0:Inv (ziK CX0 P w K mg base N qual (zap st) f cdv { A with handled:=none } outer s H E) [] (zbu N vs) H s1:=zif S rfl e1 hl r x
 have I:Inv (cxH P w K mg base N qual (zap st) f cdv A outer s H E) [] (zbu N vs) H s1 :=
  ⟨⟨I0.ok.mod,I0.ok.kind,I0.ok.glob,I0.ok.blt,I0.ok.above,I0.ok.inj,I0.ok.has,I0.ok.cab,(by intro z;cases z),Around.frames_deeper e0.frames,I0.ok.stk,I0.ok.exf,I0.ok.bs,I0.ok.bsz,I0.ok.noex,I0.ok.exfs,I0.ok.funs,I0.ok.frf⟩,I0.os,I0.bare,I0.base,I0.loc,I0.cell,I0.free,I0.freeC,I0.pin,I0.hok,I0.len⟩
 refine wpAny_mono (ht [] s1 (zbu N vs) H _ I hq) (fun fl s' hs=>?_) fun e s' hs=>hs
 have fin:∀ {σ':St} {H':Hp} {v:V} {u:Value},Inv (cxH P w K mg base N qual (zap st) f cdv A outer s H E) [] σ' H' s'→zbG v u→Q v H'→CE outer P w H s Q u s' :=
  fun {σ' H' v u} J rv q=>⟨v,H',J.os,J.bare,J.base,J.hok,rv,q⟩
 cases fl with
 | ret u =>
  obtain ⟨v,σ',H',J,rv,q⟩:=hs
  exact fin J rv q
 | next =>
  obtain ⟨σ',H',J,q⟩:=hs
  exact fin (v:=V.non) (u:=Value.none) J rfl q
 | brk =>
  obtain ⟨_,_,_,q⟩:=hs
  exact False.elim q
 | cont =>
  obtain ⟨_,_,_,q⟩:=hs
  exact False.elim q
theorem zhf:entryFor table "proto.unchain"=some Builtin.«proto.unchain»:=entryFor_of_fast (by kernel_rfl)
theorem zek {α:Type} {prog:Program} {w:World} {A:Around} {E:Value→Shared→Prop} {s:Shared} {y ea:Addr} {oy oe:Obj} {fy:Array Value} {Q:α→Shared→Prop} (hh:A.handled=some (.ref ea)) (ne:ea≠y) (ge:s.heap.get? ea=some oe) (fe:f2 oe=some .none)
  (gy:s.heap.get? y=some oy) (dy:oy.data=.fields fy) (h2:2<fy.size) (h:E (.ref y) { s with heap:=s.heap.update y (Obj.mapFields (·.setIfInBounds 2 (.ref ea))) }):wpAny (model prog w) A (raiseNew (.ref y):Sem α) Q E s:=by
 obtain ⟨vs,de,e2⟩:∃ vs,oe.data=.fields vs∧vs[2]?=some Value.none:=by
  unfold f2 at fe
  split at fe
  ·exact ⟨_,by assumption,fe⟩
  ·cases fe
 unfold raiseNew
 refine wpAny_bind (wpAny_handled ?_)
 rw [hh]
 have nb:(Value.ref ea != Value.ref y)=true:=by simpa using ne
 simp only [nb,if_true]
 refine wpAny_bind (wpAny_holding (wpAny_runValue (codeAny_builtin zhf ?_)))
 unfold Builtin.«proto.unchain»
 refine wpAny_bind (wpAny_field ge de e2 ?_)
 rw [if_pos (show (Value.none == Value.none)=true by decide)]
 wp_walk
 rw [dy]
 dsimp only
 rw [if_pos h2]
 exact wpAny_update' gy (wpAny_throw h)
def excE (x:Addr) (C dx:Addr):HO:=.ext fun h=>∃ o t0 c2,h.get? x=some o∧o.cls=.ref C∧o.dict=some dx∧o.data=.fields #[.ref t0,.none,c2,.none,.bool false,.none]
def zk9 (X:Cx) (E:XK):Prop:=∀ (pins:List (Addr×Obj)) (σ:St) (H:Hp) (s:Shared) (y C dx:Addr),Inv X pins σ H s→H y=some (excE y C dx)→X.s₀.heap.get? y=none→E (.ref C) (some dx) (zhj H y)→X.xe (.ref y) s
section
variable {P:Program} {w:World} {K:PySem.W.Frag} {mg:Str→Option Value} {base:Heap} {N:List Str} {qual:Str} {scope:Scope} {f:Addr} {cd:Value} {A:Around} {outer:List Env} {s₀:Shared} {H₀:Hp} {E:XK}
theorem zoL:zk9 (ziK (CXV P w) P w K mg base N qual scope f cd A outer s₀ H₀ E) E:=by
 intro pins σ H s y C dx I hy n0 q
 replace n0:s₀.heap.get? y=none:=n0
 obtain ⟨⟨oy,t0,c2,gy,cy,dy,fy⟩,_⟩:=(I.hok y _ hy:zbi _ _ H s.heap y (excE y C dx))
 have hfr:=I.ok.frames
 have hst:s.heap.FunFrames base (envOfC qual scope s₀.heap.objs.size f cd::outer):=I.stack
 have fresh:∀ b∈frs (envOfC qual scope s₀.heap.objs.size f cd::outer),H b=none:=I.stkFree
 have yf:y∉frs (envOfC qual scope s₀.heap.objs.size f cd::outer):=fun z=>by rw [fresh y z] at hy;cases hy
 have inB:∀ b o,s.heap.get? b=some o→b≠y→b∉frs (envOfC qual scope s₀.heap.objs.size f cd::outer)→(PySem.W.hideAll s.heap (y::frs (envOfC qual scope s₀.heap.objs.size f cd::outer))).get? b=some o:=fun b o e ny n =>
  PySem.W.hideAll_get _ e (fun z=>(List.mem_cons.mp z).elim ny n)
 have st0:(PySem.W.hideAll s.heap (y::frs (envOfC qual scope s₀.heap.objs.size f cd::outer))).StaysIn s.heap:=fun b o q=>PySem.W.of_hideAll _ q
 have hl:s.heap.FunFrames (PySem.W.hideAll s.heap (y::frs (envOfC qual scope s₀.heap.objs.size f cd::outer))) (envOfC qual scope s₀.heap.objs.size f cd::outer) :=
  PySem.W.funFrames_hide hst fun env he a ha=>List.mem_cons_of_mem _ (List.mem_filterMap.mpr ⟨env,he,ha⟩)
 have yB:(PySem.W.hideAll s.heap (y::frs (envOfC qual scope s₀.heap.objs.size f cd::outer))).get? y=none:=PySem.W.hideAll_none _ List.mem_cons_self
 generalize PySem.W.hideAll s.heap (y::frs (envOfC qual scope s₀.heap.objs.size f cd::outer))=B at inB st0 hl yB
 refine zgJ (zfd _ _) ⟨oy,gy,dy⟩ (wpAny_leaving_firstW (base:=B) (L:=s₀.heap.objs.size) (a0:=.ref t0) hfr hl rfl gy st0 yB fy rfl rfl fun h2 lf d2=>?_)
 obtain ⟨x1,⟨_,_,x2⟩,x3,x4⟩:=lf
 have neL:∀ b o,s₀.heap.get? b=some o→b≠s₀.heap.objs.size:=fun b o e=>Nat.ne_of_lt (Heap.lt_size e)
 have ney:∀ b o,s₀.heap.get? b=some o→b≠y:=fun b o e z=>by rw [z,n0] at e;cases e
 have notin:∀ b o,s₀.heap.get? b=some o→b∉frs outer→b∉frs (envOfC qual scope s₀.heap.objs.size f cd::outer):=fun b o e hb z=>by
  rcases List.mem_cons.mp (I.stkSub b z) with q | q
  ·exact neL b o e q
  ·exact hb q
 have slot:∀ b o,s.heap.get? b=some o→b∈frs outer→∃ sl,h2.get? b=some { o with slots:=sl }:=fun b o e hb=>by
  obtain ⟨_,o',e',nf⟩:=hl.2.2.mem hb
  rw [e] at e'
  cases e'
  exact x4 b o e nf
 have hokB:HOk P w (zhj H y) B:=fun b u e=>by
  obtain ⟨nb,e'⟩:=zia e
  refine (I.hok b u e').stay (fun c v hc q=>inB c v q (fun z=>?_) fun z=>?_) (fun c q=>?_) fun c xs q=>?_
  ·rcases hc with r | r
   ·exact nb (r.symm.trans z)
   ·rw [z,hy] at r
    cases r
  ·rcases hc with r | r
   ·rw [r] at z
    rw [fresh b z] at e'
    cases e'
   ·rw [fresh c z] at r
    cases r
  ·rw [zb9 fun z=>by rw [z,hy] at q;cases q]
   exact q
  ·rw [zb9 fun z=>by rw [z,hy] at q;cases q]
   exact q
 have un:Un (frs outer) [] H₀ (zhj H y) s₀.heap h2:=by
  refine ⟨fun b o e n hb hx=>?_,fun b o e n hb hx=>?_,fun b o e n hx=>?_,fun b o e hx=>?_,fun b xs e=>?_,fun b o u e=>?_,fun b ps e=>?_⟩
  ·exact x1 b o (inB b o (I.base.keep b o e n hb hx) (ney b o e) (notin b o e hb))
  ·obtain ⟨sl,e1⟩:=I.base.slot b o e n hb hx
   obtain ⟨sl',e2⟩:=slot b _ e1 hb
   exact ⟨sl',e2⟩
  ·rw [zb9 (ney b o e)]
   exact I.base.free b o e n hx
  ·obtain ⟨o',e1⟩:=I.base.there b o e hx
   by_cases hb:b∈frs outer
   ·obtain ⟨sl,e2⟩:=slot b o' e1 hb
    exact ⟨_,e2⟩
   ·exact ⟨o',x1 b o' (inB b o' e1 (ney b o e) (notin b o e hb))⟩
  ·have z:=I.base.tups b xs e
   rw [zb9 fun q=>by rw [q,hy] at z;cases z]
   exact z
  ·have z:=I.base.frzs b o u e
   rw [zb9 fun q=>by rw [q,hy] at z;cases z]
   exact z
  ·obtain ⟨m,z⟩:=I.base.tbls b ps e
   refine ⟨m,?_⟩
   rw [zb9 fun q=>by rw [q,hy] at z;cases z]
   exact z
 rw [cy] at x3
 refine ⟨y,B,.ref C,.ref t0,zhj H y,some dx,rfl,⟨I.os,I.bare,un,hokB,⟨x1,yB,x2,x3⟩,fun b o e n hb=>?_,fun b o e hb=>?_,n0,zir,q⟩,d2⟩
 ·exact inB b o (I.base.keep b o e n hb (by intro z;cases z)) (ney b o e) (notin b o e hb)
 ·obtain ⟨o',e1⟩:=I.base.there b o e (by intro z;cases z)
  exact ⟨o',inB b o' e1 (ney b o e) (notin b o e hb)⟩
end
section
variable {X:Cx} {k:Nat} {f C ea:Addr} {fd:FuncData} {ps:List Str} {sp:Sp}
theorem zlB {pins:List (Addr×Obj)} {σ:St} {H:Hp} {s:Shared} {Q:VK} {us:List Value} {vs:List V} (Z:ExI X.K C f) (F:zm9 X.prog X.w X.K X.mg X.base k f fd ps sp) (hr:zkh (k+1) X.A) (hb:zbB X.K fd ps [])
  (I:Inv X pins σ H s) (r:zbj vs us) (hl:us.length≤sizeLine) (h:∀ y,H y=none→X.s₀.heap.get? y=none→s.heap.get? y=none→sp (.ref y::vs) (upd H y (zkQ y C)) (fun v H2=>v=.non∧Q (.ref y) H2) E0) :
  wpAny (model X.prog X.w) X.A (call (.ref C) us) (EP X pins σ Q) X.xe s:=by
 obtain ⟨hh,g,d,tk,os⟩:=s
 refine zk6 I.kIn Z hl fun h1 y ey M=>?_
 have hy:hh.objs.size≤y:=by rw [ey];exact Nat.le_succ _
 obtain ⟨t0,gy,_,_⟩:=M.there
 have I2:=I.laidAt (a:=y) (o:=zkQ y C) M.keeps hy ⟨⟨_,t0,gy,rfl,rfl,rfl⟩,⟨_,gy⟩,fun _ _ ⟨o,t0,e,r⟩ k=>⟨o,t0,k o e,r⟩⟩
 have hq:=h y (I.hok.fresh hy) (Heap.get?_none_of_le (Nat.le_trans I.sz hy)) (Heap.get?_none_of_le hy)
 have r2:zbj (V.ref y::vs) (Value.ref y::us):=.cons rfl r
 have hl2:(Value.ref y::us++[]).length=ps.length:=by
  rw [List.append_nil,← r2.length]
  exact F.len _ _ _ _ hq
 have B:=hb _ (Value.ref y::us) I2.kIn hl2
 rw [List.append_nil] at B
 refine wpAny_call (codeAny_mono (F.run _ X.stack _ _ ⟨Value.ref y::us,[]⟩ (Value.ref y::us) _ _ E0 (hr.make C us []) (I2.env0.make C us []) B r2 hq) fun res s' hq'=>?_)
 cases res with
 | error e=>exact False.elim hq'
 | ok fl =>
  cases fl with
  | ret u =>
   obtain ⟨v,H',I3,rv,ev,q3⟩:=I2.after hq'
   subst ev
   exact ⟨rv,⟨V.ref y,H',I3,rfl,q3⟩⟩
  | next=>exact False.elim hq'
  | brk=>exact False.elim hq'
  | cont=>exact False.elim hq'
end
section
variable {K:PySem.W.Frag} {prog:Program} {w:World} {A:Around} {E:Value→Shared→Prop} {s:Shared} {env:Env} {C fI:Addr}
theorem zkv {xs:Sem Value} {Q:Flow→Shared→Prop} {ea:Addr} (Z:ExI K C fI) (hh:A.handled=some (.ref ea))
  (h:wpAny (model prog w) A xs (fun v s1=>∃ y o fs oe,v=.ref y∧K.In s1.heap∧s1.heap.get? y=some o∧o.cls=.ref C∧o.data=.fields fs∧fs[1]?=some .none∧2<fs.size∧ea≠y∧s1.heap.get? ea=some oe∧f2 oe=some .none∧E (.ref y) { s1 with heap:=s1.heap.update y (Obj.mapFields (·.setIfInBounds 2 (.ref ea))) }) E s) :
  wpAny (model prog w) A (raiseStmt env (some xs) none) Q E s:=by
 obtain ⟨nm,q,N,bs,bm,sn,sub,ab,col,dd,k0,k1,k2,k3,k5,lk,tl⟩:=Z.lk
 unfold raiseStmt
 refine wpAny_bind (wpAny_mono h (fun v s1 z=>?_) fun _ _ z=>z)
 obtain ⟨y,o,fs,oe,rfl,X,gy,cy,fy,f1,fz,ne,ge,fe,hE⟩:=z
 obtain ⟨hp,g,d,tk,os⟩:=s1
 have kC:=X _ _ lk
 have T:=PySem.W.tail_of_in X tl
 have cB:(Value.ref C::bm).contains (.type "BaseException")=true:=by rw [List.contains_cons,T.hasType PySem.F.excBase_ValueError.hasBase,Bool.or_true]
 obtain ⟨oc,od,odt,osl⟩:=o
 dsimp only at cy fy
 subst cy fy
 repeat (first | (with_reducible refine wpAny_loadPart_at gy ?_) | (with_reducible refine wpAny_loadPart_at kC ?_) | (with_reducible refine wpAny_isSubtype_exc kC ?_;rw [cB]) | wp_step)
 rw [f1]
 refine wpAny_pure ?_
 rw [if_neg (by decide)]
 exact wpAny_pure (zek hh ne ge fe gy rfl fz hE)
end
def zpa (K:PySem.W.Frag) (tb:(St→XK)→TS) (D:Value) (C:Addr) (nm:Str) (E:XK) (t:TA):TS:=fun d σ H =>
 tb (fun σ' c _ H'=>PySem.W.subIn K c D=some true∧zb2 C nm E t d σ' H') d σ H
def Cx.inTryW (X:Cx) (pins:List (Addr×Obj)) (E:St→XK):Cx:={ X with
 pn:=X.pn++pins
 xe:=fun e s'=>∃ pins' σ H s,Inv { X with pn:=X.pn++pins } pins' σ H s∧CXW X.prog X.w X.stack H s (E σ) e s' }
theorem Inv.toTryW {X:Cx} {pins:List (Addr×Obj)} {σ:St} {H:Hp} {s:Shared} (I:Inv X pins σ H s) (E:St→XK):Inv (X.inTryW pins E) [] σ H s :=
 ⟨I.ok.pinned _ _,I.os,I.bare,I.base,I.loc,I.cell,I.free,I.freeC,fun p hp=>I.pin p (by rw [List.append_nil] at hp;exact hp),I.hok,I.len⟩
theorem zpU {X:Cx} {pins:List (Addr×Obj)} {E:St→XK}:zi9 (CXW X.prog X.w) (X.inTryW pins E) E:=fun pins' σ H s e s' I h =>
 ⟨pins',σ,H,s,⟨I.ok.pinned _ _,I.os,I.bare,I.base,I.loc,I.cell,I.free,I.freeC,I.pin,I.hok,I.len⟩,h⟩
theorem SP.ofTryW {X:Cx} {pins pins':List (Addr×Obj)} {E:St→XK} {D:zbV} {f:Flow} {s':Shared} (ok:X.Ok) (h:SP (X.inTryW pins E) pins' D f s'):SP X pins D f s':=by
 cases f with
 | next=>obtain ⟨σ',H',I,q⟩:=h;exact ⟨σ',H',I.ofTry ok,q⟩
 | brk=>obtain ⟨σ',H',I,q⟩:=h;exact ⟨σ',H',I.ofTry ok,q⟩
 | cont=>obtain ⟨σ',H',I,q⟩:=h;exact ⟨σ',H',I.ofTry ok,q⟩
 | ret u=>obtain ⟨v,σ',H',I,r,q⟩:=h;exact ⟨v,σ',H',I.ofTry ok,r,q⟩
end L2
namespace L2
open PySem PySem.Spec PyProof.Rows
abbrev TF:=St→Hp→(Str→Hp→Prop)→Prop
def PF (X:Cx) (e:Expr) (t:TF):Prop:=∀ (pins:List (Addr×Obj)) (s:Shared) (σ:St) (H:Hp) (Q:Str→Hp→Prop),Inv X pins σ H s→t σ H Q →
 wpAny (model X.prog X.w) X.A (eval e X.env) (fun u s'=>∃ x tk H',u=.str x tk∧Inv X pins σ H' s'∧Q x H') X.xe s
def fS (t:TE):TF:=fun σ H Q=>t σ H fun v H1=>∃ x,v=.str x∧Q x H1
def fI (t:TE):TF:=fun σ H Q=>t σ H fun v H1=>∃ i:Int,v=.int i∧i.natAbs.log2<1920∧Q (toString i) H1
def tJ:List TF→Str→TE
 | [],out=>fun _ H Q=>Q (.str out) H
 | f::fs,out=>fun σ H Q=>f σ H fun y H1=>(out++y).length≤sizeLine∧tJ fs (out++y) σ H1 Q
inductive PFs (X:Cx):List Expr→List TF→Prop
 | nil:PFs X [] []
 | cons {e:Expr} {es:List Expr} {t:TF} {ts:List TF}:PF X e t→PFs X es ts→PFs X (e::es) (t::ts)
section
variable {X:Cx} {e e1 e2:Expr} {es:List Expr} {t:TE} {pos:Pos}
theorem zj3 (h:PE X e t):PF X e (fS t):=by
 intro pins s σ H Q I q
 refine thn (h pins s σ H _ I q) fun u s1 hQ'=>?_
 obtain ⟨v,H1,I1,r,x,e,q1⟩:=hQ'
 subst e
 obtain ⟨k,rfl⟩:=r
 exact ⟨x,k,H1,rfl,I1,q1⟩
theorem zjR (h:PE X e t):PF X (.FormattedValue e (-1) none pos) (fI t):=by
 intro pins s σ H Q I q
 refine FormattedValue_plain (thn (h pins s σ H _ I q) fun u s1 hQ'=>?_)
 obtain ⟨v,H1,I1,r,i,e,hi,q1⟩:=hQ'
 subst e
 obtain ⟨k,rfl⟩:=r
 exact formatField_int_small hi ⟨_,_,H1,rfl,I1.tok _,q1⟩
theorem zgQ {pins:List (Addr×Obj)} {σ:St} {Q:VK}:∀ {es:List Expr} {ts:List TF},PFs X es ts→∀ {out:Str} {s:Shared} {H:Hp},out.length≤sizeLine→Inv X pins σ H s→tJ ts out σ H Q→wpAny (model X.prog X.w) X.A (joinParts out (evalEach es X.env)) (EP X pins σ Q) X.xe s
 | [],_,.nil,out,s,H,l,I,q=>joinParts_nil ⟨.str out,H,I.tok _,⟨_,rfl⟩,q⟩ l
 | e::es,_,.cons h hs,out,s,H,l,I,q=>by
  show wpAny _ _ (joinParts out (eval e X.env::evalEach es X.env)) _ _ _
  refine joinParts_cons (thn (h pins s σ H _ I q) fun u s1 hQ'=>?_)
  obtain ⟨x,k,H1,e,I1,l1,q1⟩:=hQ'
  subst e
  exact ⟨l1,zgQ hs l1 I1 q1⟩
theorem znM {ts:List TF} (h:PFs X (e1::e2::es) ts):PE X (.JoinedStr (e1::e2::es) pos) (tJ ts Str.empty):=by
 intro pins s σ H Q I q
 exact JoinedStr_many (zgQ h (by decide) I q)
end
end L2
namespace L2
open PySem PySem.Spec PyProof.Rows
theorem zfx {K:PySem.W.Frag} {M:Model} {A:Around} {E:Value→Shared→Prop} {h:Heap} {g:Array GenState} {d:Drawn} {t:Nat} {os:OsState} {e D fD:Addr} {oe:Obj} {cls:Value} {Q:Bool→Shared→Prop} (he:h.get? e=some oe) (hcls:oe.cls=cls)
  (X:K.In h) (Z:ExI K D fD) (L:PySem.W.Looks M h (isSubtype cls (.ref D)) true) (hq:Q true ⟨h,g,d,t,os⟩):wpAny M A (excMatches (.ref e) (.ref D)) Q E ⟨h,g,d,t,os⟩:=by
 obtain ⟨nm,q,N,bs,bm,sn,sub,ab,col,dd,k0,k1,k2,k3,k5,lk,tl⟩:=Z.lk
 have hD:=X _ _ lk
 have T:=PySem.W.tail_of_in X tl
 have hcB:(Value.ref D::bm).contains (.type "BaseException")=true:=by rw [List.contains_cons,T.hasType PySem.F.excBase_ValueError.hasBase,Bool.or_true]
 have f:=tc_notTuple
 unfold excMatches
 repeat (first | (with_reducible refine wpAny_loadPart_at he ?_;rw [hcls]) | with_reducible refine wpAny_loadPart_at hD ?_ | (with_reducible refine wpAny_isSubtype_exc hD ?_;rw [hcB]) | (with_reducible refine L.at ?_) | wp_step)
 exact hq
theorem znc {X:Cx} {i:Nat} {D:Addr} {x n:Str} {np pos hpos:Pos} {body:List Stmt} {b₀:Stmt} {suite:List Stmt} {tb:(St→XK)→TS} {th:TS} (hm:X.mg x=some (.ref D)) {fD:Addr} (hq:ExI X.K D fD)
  (hg:Gl X x) (hN:X.N.Nodup) (hi:X.N[i]?=some n) (hl:X.env.scope.names.lookup n=some .local) (hxe:X.xe=fun _ _=>False) (hst:X.stack=X.env::X.outer) (hfr:X.env.frame=some X.env.locals) (hex:X.ex=[])
  (hb:∀ pins E,PSs (X.inTryV pins E) body (tb E)) (hh:∀ ea,PSs (X.inExc ea) (b₀::suite) th) (hd:(x == ("__debug__":Str))=false:=by decide) :
  PS X (.Try body [.ExceptHandler (some (.Name x np)) (some n) (b₀::suite) hpos] [] [] pos) (zoq X.K tb (.ref D) i th):=by
 intro pins s σ H d I h
 refine wpAny_Try_except (wpAny_mono (hb pins _ [] s σ H d (I.toTryV _) h) (fun f s₁ q=>?_) fun e s₁ q=>?_)
 ·have q':=SP.ofTryV I.ok q
  cases f with
  | next=>exact wpAny_execs_nil q'
  | brk=>exact q'
  | cont=>exact q'
  | ret u=>exact q'
 obtain ⟨pins',σ',H1,s1,I1,ea,B,cls,a0,H',od,rfl,x,dd⟩:=q
 replace I1:Inv X pins σ' H1 s1:=Inv.ofTry (xe:=X.xe) I1 I.ok
 obtain ⟨hec,hsub,hth⟩:=x.want
 have fly:=x.fly
 rw [hst] at fly
 have ff:=x.fly.2.2.1
 have hfrm:X.A.frames=some (X.env::X.outer):=by rw [← hst];exact I.ok.frames
 refine zgJ (zft _ _) dd (wpAny_looks_onW (base:=B) (L:=X.env.locals) hfrm hfr fly fun h4 hd4 sm4 d4=>?_)
 refine zgJ (zdn _ _) d4 (wpAny_landsW hd4 fun h5 fl5 sm5 d5=>?_)
 have invAt:∀ {h:Heap} {tk:Nat},B.StaysIn h→s₁.heap.UpToSlots h→Inv X pins σ' H' { s₁ with heap:=h,toks:=tk }:=fun {h tk} st sm=>by
  obtain ⟨un,hok⟩:=x.later st sm ff
  exact I1.call' (ch:=[]) x.os un hok x.bare fun b z=>nomatch z
 have I5:Inv X pins σ' H' { s₁ with heap:=h5 }:=invAt (tk:=s₁.toks) fl5.1 (sm4.trans sm5)
 have fmark:(X.A.mark (some (.ref ea))).frames=some X.stack:=I.ok.frames
 refine wpAny_handleBy_cons (codeAny_handlers_test ?_) (by intro q;cases q)
 refine zcW (X:=X.inExc ea) (I5.toExc fmark) hg hm ?_ hd
 have kin5:=I5.kIn
 obtain ⟨oe,hoe,hcls⟩:=fl5.there
 refine zfx (cls:=cls) hoe hcls kin5 hq (PySem.W.looks_subIn kin5 hsub) ?_
 refine codeAny_handlers_suite_as ?_
 refine zgJ (zdn _ _) d5 (lands_againW fl5 fun h6 fl6 sm6 d6=>?_)
 have I6:Inv X pins σ' H' { s₁ with heap:=h6 }:=invAt (tk:=s₁.toks) fl6.1 ((sm4.trans sm5).trans sm6)
 have noat:∀ b o,s1.heap.get? b=some o→b≠ea:=fun b o e z=>by rw [z,x.new] at e;cases e
 have n0:X.s₀.heap.get? ea=none:=by
  cases q:X.s₀.heap.get? ea with
  | none=>rfl
  | some o =>
   obtain ⟨o',e1⟩:=I1.base.there ea o q (by rw [hex];intro z;cases z)
   exact absurd rfl (noat ea o' e1)
 have nL:ea≠X.env.locals:=by
  obtain ⟨m,⟨o,_,_,e,_⟩,_⟩:=I1.loc
  exact (noat _ o e).symm
 have nC:∀ y c,X.env.cells.lookup y=some c→c≠ea:=fun y c e=>by
  obtain ⟨v,z⟩:=I1.cell y c e
  obtain ⟨o,e1,_⟩:=z
  exact noat c o e1
 have nP:∀ p∈X.pn++pins,p.1≠ea:=fun p hp=>noat _ _ (I1.pin p hp).1
 have isx:zjX ea cls od h6:=by
  obtain ⟨_,_,_,oe,vs,_,_,_,he,hc,hd,_⟩:=fl6
  obtain ⟨o',e',ed⟩:=d6
  rw [he] at e'
  cases e'
  exact ⟨oe,vs,he,hc.1,hd,ed⟩
 have I7:=I6.track (o:=zfC ea cls od) x.free n0 nL nC nP ⟨isx,by obtain ⟨oe,_,he,_⟩:=isx;exact ⟨oe,he⟩,fun h1 h2 ⟨oe,vs,he,r⟩ k=>⟨oe,vs,k oe he,r⟩⟩
 refine zeS (X:=X.inExc ea) (v:=.ref ea) (I7.toExc fmark) hN hi (.inl hl) rfl (fun s8 I8=>?_) (.inr hl)
 refine wpAny_mono (hh ea pins s8 _ _ _ I8 (hth ea x.free)) (fun f s9 q=>?_) fun e s9 q=>?_
 ·cases f with
  | next =>
   obtain ⟨σ9,H9,I9,r⟩:=q
   exact zgV (I9.ofExc I.ok) hN hi hl fun s10 I10=>⟨_,_,I10,r⟩
  | brk =>
   obtain ⟨σ9,H9,I9,r⟩:=q
   exact zgV (I9.ofExc I.ok) hN hi hl fun s10 I10=>⟨_,_,I10,r⟩
  | cont =>
   obtain ⟨σ9,H9,I9,r⟩:=q
   exact zgV (I9.ofExc I.ok) hN hi hl fun s10 I10=>⟨_,_,I10,r⟩
  | ret u =>
   obtain ⟨v,σ9,H9,I9,rv,r⟩:=q
   exact zgV (I9.ofExc I.ok) hN hi hl fun s10 I10=>⟨v,_,_,I10,rv,r⟩
 ·rw [show (X.inExc ea).xe=X.xe from rfl,hxe] at q
  exact q.elim
theorem zm2 {X:Cx} {k:Nat} {C D f:Addr} {fd:FuncData} {ps:List Str} {nm x n:Str} {E:XK} {np xp cpos rpos pos hpos:Pos} {e:Expr} {es:List Expr} {body:List Stmt} {tb:(St→XK)→TS} {t:TA}
  (hmD:X.mg x=some (.ref D)) {fD:Addr} (hq:ExI X.K D fD) (hgD:Gl X x)
  (Z:ExI X.K C f) (F:zm9 X.prog X.w X.K X.mg X.base k f fd ps (ziq C nm)) (hr:zdR (k+1) X.A) (hg:Gl X n) (hm:X.mg n=some (.ref C)) (hb:zbB X.K fd ps []) (hT:zk9 X E)
  (hst:X.stack=X.env::X.outer) (hfr:X.env.frame=some X.env.locals) (hex:X.ex=[]) (hp:∀ v,PassesOwnAt (model X.prog X.w) (X.A.mark v) X.A X.env X.xe)
  (hbd:∀ pins E',PSs (X.inTryW pins E') body (tb E')) (ha:∀ ea,PA (X.inExc ea) (e::es) t) (hd:(x == ("__debug__":Str))=false:=by decide) (hdb:(n == ("__debug__":Str))=false:=by decide)
  (he:starEach (e::es) X.env=(false,eval e X.env)::starEach es X.env:=by rfl) (hpl:(backTo cpos (starEach es X.env)).any (·.1)=false:=by rfl) :
  PS X (.Try body [.ExceptHandler (some (.Name x xp)) none [.Raise (some (.Call (.Name n np) (e::es) [] cpos)) none rpos] hpos] [] [] pos) (zpa X.K tb (.ref D) C nm E t):=by
 intro pins s σ H d I h
 refine wpAny_Try_except (wpAny_mono (hbd pins _ [] s σ H d (I.toTryW _) h) (fun f s₁ q=>?_) fun e s₁ q=>?_)
 ·have q':=SP.ofTryW I.ok q
  cases f with
  | next=>exact wpAny_execs_nil q'
  | brk=>exact q'
  | cont=>exact q'
  | ret u=>exact q'
 obtain ⟨pins',σ',H1,s1,I1,⟨ea,B,cls,a0,H',od,rfl,x,dd⟩,ea',ee,cc⟩:=q
 cases ee
 replace I1:Inv X pins σ' H1 s1:=Inv.ofTry (xe:=X.xe) I1 I.ok
 obtain ⟨hsub,hth⟩:=x.want
 have fly:=x.fly
 rw [hst] at fly
 have ff:=x.fly.2.2.1
 have hfrm:X.A.frames=some (X.env::X.outer):=by rw [← hst];exact I.ok.frames
 refine zjz (zfy _ _) cc (wpAny_looks_onW (E:=fun _ _=>False) (base:=B) (L:=X.env.locals) hfrm hfr fly fun h4 hd4 sm4 c4=>?_)
 refine zjz (zdj _ _) c4 (wpAny_landsW (E:=fun _ _=>False) hd4 fun h5 fl5 sm5 c5=>?_)
 have invAt:∀ {h:Heap} {tk:Nat},B.StaysIn h→s₁.heap.UpToSlots h→Inv X pins σ' H' { s₁ with heap:=h,toks:=tk }:=fun {h tk} st sm=>by
  obtain ⟨un,hok⟩:=x.later st sm ff
  exact I1.call' (ch:=[]) x.os un hok x.bare fun b z=>nomatch z
 have I5:Inv X pins σ' H' { s₁ with heap:=h5 }:=invAt (tk:=s₁.toks) fl5.1 (sm4.trans sm5)
 have fmark:(X.A.mark (some (.ref ea))).frames=some X.stack:=I.ok.frames
 refine wpAny_handleBy_cons (codeAny_handlers_test ?_) (by intro q;cases q)
 refine zcW (X:=X.inExc ea) (I5.toExc fmark) hgD hmD ?_ hd
 have kin5:=I5.kIn
 obtain ⟨oe,hoe,hcls⟩:=fl5.there
 refine zfx (cls:=cls) hoe hcls kin5 hq (PySem.W.looks_subIn kin5 hsub) ?_
 refine codeAny_handlers_suite ?_
 refine zjz (zdj _ _) c5 (lands_againW (E:=fun _ _=>False) fl5 fun h6 fl6 sm6 c6=>?_)
 have I6:Inv X pins σ' H' { s₁ with heap:=h6 }:=invAt (tk:=s₁.toks) fl6.1 ((sm4.trans sm5).trans sm6)
 have noat:∀ b o,s1.heap.get? b=some o→b≠ea:=fun b o e z=>by rw [z,x.new] at e;cases e
 have nL:ea≠X.env.locals:=by
  obtain ⟨m,⟨o,_,_,e,_⟩,_⟩:=I1.loc
  exact (noat _ o e).symm
 obtain ⟨oc,goc,f2c⟩:=c6
 have I7:Inv X ((ea,oc)::pins) σ' H' { s₁ with heap:=h6 }:=I6.pins_of fun p hp=>by
  rcases List.mem_cons.mp hp with rfl | hp
  ·refine ⟨goc,x.free,nL,fun z=>?_,fun v z=>?_⟩
   ·obtain ⟨_,o',e',nf⟩:=I1.ok.funs.mem z
    obtain ⟨o'',e''⟩:=I1.base.there ea o' e' (by rw [hex];intro z;cases z)
    exact noat ea o'' e'' rfl
   ·unfold f2 at f2c
    rw [show oc.data=.cell v from z] at f2c
    cases f2c
  ·exact I6.pin p (List.mem_append_right _ hp)
 refine wpAny_passesOwnAt (hp _) ?_
 have I8:=I7.toExc fmark
 refine wpAny_execs_cons ?_
 rw [arm_exec_Raise]
 refine wpAny_bind (wpAny_standAt (zkv (ea:=ea) Z rfl (wpAny_bind (wpAny_mono (Q:=fun v s1=>∃ y o fs oe,v=.ref y∧X.K.In s1.heap∧s1.heap.get? y=some o∧o.cls=.ref C∧o.data=.fields fs∧fs[1]?=some .none∧2<fs.size∧ea≠y∧s1.heap.get? ea=some oe∧f2 oe=some .none∧X.xe (.ref y) { s1 with heap:=s1.heap.update y (Obj.mapFields (·.setIfInBounds 2 (.ref ea))) }) ?_ (fun v s3 h3=>wpAny_bind (wpAny_standAt (wpAny_pure h3))) fun _ _ z=>z))))
 refine wpAny_Call_Name_kw (zcW (X:=X.inExc ea) I8 hg hm ?_ hdb)
 refine PySem.W.callWith_K (h₀:=X.base) I.ok.mod.kin Z.kp (thn (ha ea cpos _ _ σ' H' _ I8 hth) fun us s9 ⟨vs,H9,I9,r,v,e1,q⟩=>⟨I9.kIn,?_⟩) he hpl
 subst e1
 obtain ⟨u,rfl,ru⟩:=zfl r
 refine thn (zlB (X:=X.inExc ea) (Q:=fun z H2=>∃ y dx,z=.ref y∧ea≠y∧X.s₀.heap.get? y=none∧H2 y=some (zkR y C dx)∧E (.ref C) (some dx) (zhj H2 y)) Z F (hr.h _) hb I9 r (by show 1≤sizeLine;decide) fun y hy n0 n1=>?_) fun z s10 ⟨v2,H10,I10,rz,y,dx,ev,ny,n0,hy,hE⟩=>?_
 ·have nye:ea≠y:=fun z=>by
   have:=(I9.pin (ea,oc) (List.mem_append_right _ List.mem_cons_self)).1
   rw [show (ea,oc).1=y from z,n1] at this
   cases this
  refine ⟨y,v,rfl,zad,fun dx hd nd=>⟨rfl,y,dx,rfl,nye,n0,?_,?_⟩⟩
  ·rw [zaq nd.symm,zad]
  ·rw [zi5]
   have hd1:H9 dx=none:=by rw [zaq nd] at hd;exact hd
   rw [zhJ hy nd]
   exact q dx hd1
 ·subst ev
  obtain rfl:z=Value.ref y:=rz
  obtain ⟨⟨oy,t0,gy,cy,dy,fy⟩,_⟩:=(I10.hok y _ hy:zbi X.prog X.w H10 s10.heap y (zkR y C dx))
  have ge:=(I10.pin (ea,oc) (List.mem_append_right _ List.mem_cons_self)).1
  refine ⟨y,oy,_,oc,rfl,I10.kIn,gy,cy,fy,rfl,(by show 2<6;decide),ny,ge,f2c,?_⟩
  obtain ⟨kc,kd,kdt,ksl⟩:=oy
  dsimp only at cy dy fy
  subst cy dy fy
  have gy2:=Heap.get?_update_self (Obj.mapFields (·.setIfInBounds 2 (Value.ref ea))) gy rfl
  have I11:=(I10.ofExc I.ok).write (x:=y) (e:=y) (o:=excE y C dx) (t':=s10.toks) (h':=s10.heap.update y (Obj.mapFields (·.setIfInBounds 2 (Value.ref ea)))) (by rw [hy];exact True.intro) (.inl rfl) (fun b u nb e=>(Heap.get?_update_other _ _ (Ne.symm nb)).trans e) ⟨_,gy2⟩
   ⟨⟨_,t0,_,gy2,rfl,rfl,rfl⟩,⟨_,gy2⟩,fun _ _ ⟨o,t0,c2,e,r⟩ k=>⟨o,t0,c2,k o e,r⟩⟩
  refine hT _ σ' _ _ y C dx I11 zad n0 ?_
  have ed:zhj (upd H10 y (excE y C dx)) y=zhj H10 y:=by
   funext b
   unfold zhj
   split
   ·rfl
   ·rename_i nb
    exact zaq nb
  rw [ed]
  exact hE
end L2
set_option maxHeartbeats 4000000
local macro_rules
 | `(tactic| simp_all only [$xs,*])=>do
  let ds ← ("zoA zo2 zoB zov zn7 zoN zop zor zoy zoU zmX zm1 zm7 zmG zms zm8 rI_c rI0_c zqf ex_bl zp5 zp7 zpX zpF zmZ znq znA zmE zmv zmV zlo zlZ zlm zk2 zj6 zmB zfI zno zjQ ze4 zbP tBM zoa zfE zmN za0 za9 zbF tCB zab zat tC tOp za8 zch zbW zdo zjn zf5 tPar zaK rEq rNe znn zmA zmY zmL zpa zkb zlx zhv zb2 zlr tSl zeW zkM zpc zjG ziH zbv ziI tUn zp9 tOr zeV tIf rU zmx tB zck zla zqj rInS zni znj zg5 iStr zke rAll zcf zfm zoO zpf zod zka ziw zjA tBM0 rRep rNeD zoq zo3 rIn zc7 zhg tJ rCat zob".splitOn " ").toArray.mapM fun s=>`(Lean.Parser.Tactic.simpLemma| ↓ $(Lean.mkIdent s.toName):ident)
  let ps ← ("fS fI zpk Option.bind_some Option.bind_none Option.join_some Option.map_some List.getElem?_cons_zero List.getElem?_cons_succ V.str.injEq V.ty.injEq zac rI rI0 zer L2.zbu znp zoM znu zok List.map_cons List.map_nil List.length_cons List.length_nil List.replicate List.cons_append List.nil_append List.append_nil Option.some.injEq exists_eq_left' exists_eq_left exists_and_left List.cons.injEq V.int.injEq V.ref.injEq V.bl.injEq and_true true_and List.set_cons_zero List.set_cons_succ Nat.reduceAdd Nat.reduceSub Int.reduceToNat Int.reducePow Int.reduceNeg Int.reduceMul Int.reduceAdd Int.reduceSub decide_eq_true_eq Bool.not_eq_true' decide_eq_false_iff_not exists_const and_assoc exists_eq exists_eq' if_true if_false Bool.false_eq_true Bool.true_eq_false reduceCtorEq not_true_eq_false not_false_eq_true ziW zkl".splitOn " ").toArray.mapM fun s=>`(Lean.Parser.Tactic.simpLemma| $(Lean.mkIdent s.toName):ident)
  `(tactic| simp only [$xs,*,$ds,*,$ps,*])
namespace My
local macro_rules | `(tactic| omega)=>`(tactic| lia)
open PySem L2
def top (i:Nat):Stmt:=PySem.Challenge.pw_hideworth_k80_webs_written.main.body.getD i (.Pass ⟨0,0,0,0⟩)
abbrev ze6:Stmt:=top 5
abbrev zeo:Stmt:=top 6
abbrev zfS:Stmt:=top 11
abbrev zcb:Stmt:=top 12
abbrev zfa:Stmt:=top 13
abbrev zdG:Stmt:=top 17
abbrev zeM:Stmt:=top 18
abbrev ze5:Stmt:=top 19
abbrev zcU:Stmt:=top 20
abbrev zcx:Stmt:=top 21
abbrev zgg:Stmt:=top 22
abbrev zf1:Stmt:=top 23
abbrev zeq:Stmt:=top 24
abbrev zdQ:Stmt:=top 25
abbrev zdz:Stmt:=top 27
abbrev zcS:Stmt:=top 28
abbrev ze0:Stmt:=top 29
abbrev zcA:Stmt:=top 30
abbrev zej:Stmt:=top 31
abbrev zd8:Stmt:=top 32
abbrev zcr:Stmt:=top 33
abbrev zkZ:Stmt:=top 34
abbrev zcm:Stmt:=(zlH (top 2)).getD 0 (.Pass ⟨0,0,0,0⟩)
abbrev zb0:Stmt:=(zlH (top 3)).getD 0 (.Pass ⟨0,0,0,0⟩)
def zph:Expr:=match (zbz zdQ).getD 0 (.Pass ⟨0,0,0,0⟩) with
 | .Assign _ (.Call _ [_,e] _ _) _=>e
 | _=>.Constant .none 0 ⟨0,0,0,0⟩
def znF:Pos:=match zph with
 | .Lambda _ _ _ p=>p
 | _=>⟨0,0,0,0⟩
set_option genInjectivity false in
set_option genSizeOf false in
structure Ad where
 f_is_whole:Addr
 d_is_whole:FuncData
 f_is_within:Addr
 d_is_within:FuncData
 f_is_road:Addr
 d_is_road:FuncData
 f_places_come_to:Addr
 d_places_come_to:FuncData
 f_look_web:Addr
 d_look_web:FuncData
 f_web_rows:Addr
 d_web_rows:FuncData
 f_text_of:Addr
 d_text_of:FuncData
 f_web_text:Addr
 d_web_text:FuncData
 f_number_in:Addr
 d_number_in:FuncData
 f_numbers_in:Addr
 d_numbers_in:FuncData
 f_many_in:Addr
 d_many_in:FuncData
 f_road_in:Addr
 d_road_in:FuncData
 f_read_rows:Addr
 d_read_rows:FuncData
 f_read_web:Addr
 d_read_web:FuncData
 f__law_mixed:Addr
 d__law_mixed:FuncData
 f__law_length:Addr
 d__law_length:FuncData
 f__law_web:Addr
 d__law_web:FuncData
 f__law_any_web:Addr
 d__law_any_web:FuncData
 f__law_text:Addr
 d__law_text:FuncData
 f__law_same:Addr
 d__law_same:FuncData
 f__law_not_read:Addr
 d__law_not_read:FuncData
 f_law:Addr
 d_law:FuncData
 c_HideError:Addr
 c_NoWeb:Addr
 c_NoText:Addr
 i_NoWeb:Addr
 j_NoWeb:FuncData
 i_NoText:Addr
 j_NoText:FuncData
 k_MOST_PLACES:Tok
 k_MOST_ROADS:Tok
 k_MOST_LENGTH:Tok
 k_MOST_FIGURES:Tok
 k_FIGURES:Tok
 p_lam:Addr
 cd_lam:Addr
structure Isa (K:PySem.W.Frag) (a:Ad):Prop where
 k_NoWeb:PySem.W.kitOne K (.ref a.c_NoText) (.ref a.c_NoWeb)=some false
 k_NoText:PySem.W.kitOne K (.ref a.c_NoText) (.ref a.c_NoText)=some true
 k_ValueError:PySem.W.kitOne K (.ref a.c_NoText) (.type "ValueError")=some true
 sub:PySem.W.subIn K (.ref a.c_NoText) (.ref a.c_HideError)=some true
 ec:zgS K (.ref a.c_NoText)
structure Txt (K:PySem.W.Frag) (mg:Str→Option Value) (base:Heap) (a:Ad):Prop where
 F_is_whole:Fun K "is_whole" "is_whole" ze6 a.f_is_whole a.d_is_whole
 b_is_whole:zbB K a.d_is_whole ["thing"] []
 m_is_whole:mg "is_whole"=some (.ref a.f_is_whole)
 F_is_within:Fun K "is_within" "is_within" zeo a.f_is_within a.d_is_within
 b_is_within:zbB K a.d_is_within ["thing","least","most"] []
 m_is_within:mg "is_within"=some (.ref a.f_is_within)
 F_is_road:Fun K "is_road" "is_road" zfS a.f_is_road a.d_is_road
 b_is_road:zbB K a.d_is_road ["thing","many"] []
 m_is_road:mg "is_road"=some (.ref a.f_is_road)
 F_places_come_to:Fun K "places_come_to" "places_come_to" zcb a.f_places_come_to a.d_places_come_to
 b_places_come_to:zbB K a.d_places_come_to ["roads"] []
 m_places_come_to:mg "places_come_to"=some (.ref a.f_places_come_to)
 F_look_web:Fun K "look_web" "look_web" zfa a.f_look_web a.d_look_web
 b_look_web:zbB K a.d_look_web ["web"] []
 m_look_web:mg "look_web"=some (.ref a.f_look_web)
 F_web_rows:Fun K "web_rows" "web_rows" zdG a.f_web_rows a.d_web_rows
 b_web_rows:zbB K a.d_web_rows ["web"] []
 m_web_rows:mg "web_rows"=some (.ref a.f_web_rows)
 F_text_of:Fun K "text_of" "text_of" zeM a.f_text_of a.d_text_of
 b_text_of:zbB K a.d_text_of ["rows"] []
 m_text_of:mg "text_of"=some (.ref a.f_text_of)
 F_web_text:Fun K "web_text" "web_text" ze5 a.f_web_text a.d_web_text
 b_web_text:zbB K a.d_web_text ["web"] []
 m_web_text:mg "web_text"=some (.ref a.f_web_text)
 F_number_in:Fun K "number_in" "number_in" zcU a.f_number_in a.d_number_in
 b_number_in:zbB K a.d_number_in ["word"] []
 m_number_in:mg "number_in"=some (.ref a.f_number_in)
 F_numbers_in:Fun K "numbers_in" "numbers_in" zcx a.f_numbers_in a.d_numbers_in
 b_numbers_in:zbB K a.d_numbers_in ["words"] []
 m_numbers_in:mg "numbers_in"=some (.ref a.f_numbers_in)
 F_many_in:Fun K "many_in" "many_in" zgg a.f_many_in a.d_many_in
 b_many_in:zbB K a.d_many_in ["row"] []
 m_many_in:mg "many_in"=some (.ref a.f_many_in)
 F_road_in:Fun K "road_in" "road_in" zf1 a.f_road_in a.d_road_in
 b_road_in:zbB K a.d_road_in ["row","many"] []
 m_road_in:mg "road_in"=some (.ref a.f_road_in)
 F_read_rows:Fun K "read_rows" "read_rows" zeq a.f_read_rows a.d_read_rows
 b_read_rows:zbB K a.d_read_rows ["text","read_row"] []
 m_read_rows:mg "read_rows"=some (.ref a.f_read_rows)
 F_read_web:zmi K "read_web" "read_web" zdQ a.f_read_web a.d_read_web a.cd_lam
 b_read_web:zbB K a.d_read_web ["text"] []
 m_read_web:mg "read_web"=some (.ref a.f_read_web)
 F__law_mixed:Fun K "_law_mixed" "_law_mixed" zdz a.f__law_mixed a.d__law_mixed
 b__law_mixed:zbB K a.d__law_mixed ["_law_script","_law_k"] []
 m__law_mixed:mg "_law_mixed"=some (.ref a.f__law_mixed)
 F__law_length:Fun K "_law_length" "_law_length" zcS a.f__law_length a.d__law_length
 b__law_length:zbB K a.d__law_length ["_law_number"] []
 m__law_length:mg "_law_length"=some (.ref a.f__law_length)
 F__law_web:Fun K "_law_web" "_law_web" ze0 a.f__law_web a.d__law_web
 b__law_web:zbB K a.d__law_web ["_law_script","_law_start","_law_most","_law_extra"] []
 m__law_web:mg "_law_web"=some (.ref a.f__law_web)
 F__law_any_web:Fun K "_law_any_web" "_law_any_web" zcA a.f__law_any_web a.d__law_any_web
 b__law_any_web:zbB K a.d__law_any_web ["_law_script","_law_start"] []
 m__law_any_web:mg "_law_any_web"=some (.ref a.f__law_any_web)
 F__law_text:Fun K "_law_text" "_law_text" zej a.f__law_text a.d__law_text
 b__law_text:zbB K a.d__law_text ["_law_web_here"] []
 m__law_text:mg "_law_text"=some (.ref a.f__law_text)
 F__law_same:Fun K "_law_same" "_law_same" zd8 a.f__law_same a.d__law_same
 b__law_same:zbB K a.d__law_same ["_law_told","_law_due"] []
 m__law_same:mg "_law_same"=some (.ref a.f__law_same)
 F__law_not_read:Fun K "_law_not_read" "_law_not_read" zcr a.f__law_not_read a.d__law_not_read
 b__law_not_read:zbB K a.d__law_not_read ["_law_web_here"] []
 m__law_not_read:mg "_law_not_read"=some (.ref a.f__law_not_read)
 F_law:Fun K "law" "law" zkZ a.f_law a.d_law
 b_law:zbB K a.d_law ["_law_script"] []
 m_law:mg "law"=some (.ref a.f_law)
 hC:PySem.W.CodeHd base a.cd_lam a.p_lam
 hB:base.BuiltinsAt mg a.p_lam
 z_isinstance:mg "isinstance"=none
 z_int:mg "int"=none
 z_bool:mg "bool"=none
 z_list:mg "list"=none
 z_len:mg "len"=none
 z_all:mg "all"=none
 z_range:mg "range"=none
 z_tuple:mg "tuple"=none
 z_str:mg "str"=none
 z_enumerate:mg "enumerate"=none
 z_zip:mg "zip"=none
 z_min:mg "min"=none
 z_ValueError:mg "ValueError"=none
 m_HideError:mg "HideError"=some (.ref a.c_HideError)
 m_NoWeb:mg "NoWeb"=some (.ref a.c_NoWeb)
 m_NoText:mg "NoText"=some (.ref a.c_NoText)
 m_MOST_PLACES:mg "MOST_PLACES"=some (.int 60 a.k_MOST_PLACES)
 m_MOST_ROADS:mg "MOST_ROADS"=some (.int 120 a.k_MOST_ROADS)
 m_MOST_LENGTH:mg "MOST_LENGTH"=some (.int 1000000 a.k_MOST_LENGTH)
 m_MOST_FIGURES:mg "MOST_FIGURES"=some (.int 2000 a.k_MOST_FIGURES)
 m_FIGURES:mg "FIGURES"=some (.str "0123456789" a.k_FIGURES)
 x_HideError:PySem.W.excIn K a.c_HideError zgx "ValueError.__new__"=true
 B:ExB K a.c_HideError
 I_NoWeb:Fun K "__init__" "NoWeb.__init__" zcm a.i_NoWeb a.j_NoWeb
 bi_NoWeb:zbB K a.j_NoWeb ["self","road"] []
 X_NoWeb:ExI K a.c_NoWeb a.i_NoWeb
 xa_NoWeb:zg3 K a.c_NoWeb "road"
 I_NoText:Fun K "__init__" "NoText.__init__" zb0 a.i_NoText a.j_NoText
 bi_NoText:zbB K a.j_NoText ["self","row"] []
 X_NoText:ExI K a.c_NoText a.i_NoText
 xa_NoText:zg3 K a.c_NoText "row"
 su_NoWeb:PySem.W.subIn K (.ref a.c_NoWeb) (.ref a.c_NoWeb)=some true
 su_NoText:PySem.W.subIn K (.ref a.c_NoText) (.ref a.c_NoText)=some true
 I:Isa K a
theorem zot:zk8 10 18:=⟨by decide,by decide,by decide⟩
theorem logA:(0:Int)<1000000000000000000∧(Int.natAbs 1000000000000000000).log2<9000:=by decide +kernel
theorem logB:(0:Int)<2147483587∧(Int.natAbs 2147483587).log2<9000:=by decide +kernel
theorem log8:(0:Int)<8∧(Int.natAbs 8).log2<9000:=by decide +kernel
def zhm:Sp:=fun vs H Q _=>∃ a:Int,vs=[.int a]∧Q (.bl true) H
def zbJ (K:PySem.W.Frag):Sp:=fun vs H Q _=>∃ (a:Addr) (ns:List Int) (k:Int),vs=[.ref a,.int k]∧SqL K H a (ns.map V.int)∧ns.length≤63∧0≤k∧k<1000000∧∀ r:Int,0≤r→r<2147483587→Q (.int r) H
theorem zdD {α β:Type} {f:α→β} {l:List α} {i:Nat} {y:β} (h:(l.map f)[i]?=some y):∃ x,l[i]?=some x∧y=f x:=by
 rw [List.getElem?_map] at h
 obtain ⟨x,h1,h2⟩:=Option.map_eq_some_iff.mp h
 exact ⟨x,h1,h2.symm⟩
def Tps {α:Type} (f:α→List V) (H:Hp) (ts:List Addr) (bs:List α):Prop:=ts.length=bs.length∧∀ (i:Nat) t b,ts[i]?=some t→bs[i]?=some b→H t=some (.tup (f b))
theorem Tps.same {α:Type} {f:α→List V} {H H':Hp} {ts:List Addr} {bs:List α} (h:Tps f H ts bs) (s:za1 H H'):Tps f H' ts bs:=⟨h.1,fun i t b e1 e2=>s _ _ (h.2 i t b e1 e2)⟩
theorem Tps.nil {α:Type} {f:α→List V} {H:Hp}:Tps f H [] ([]:List α):=⟨rfl,fun i t b e=>by simp at e⟩
theorem Tps.put {α:Type} {f:α→List V} {H H':Hp} {ts:List Addr} {bs:List α} {t:Addr} {b:α} (h:Tps f H ts bs) (s:∀ (x:Addr) (u:List V),H x=some (.tup u)→H' x=some (.tup u)) (e:H' t=some (.tup (f b))):Tps f H' (ts++[t]) (bs++[b]):=by
 refine ⟨by rw [List.length_append,List.length_append,h.1];rfl,fun i x y e1 e2=>?_⟩
 by_cases c:i<ts.length
 ·rw [List.getElem?_append_left c] at e1
  rw [List.getElem?_append_left (by rw [← h.1];exact c)] at e2
  exact s _ _ (h.2 i x y e1 e2)
 ·have c1:ts.length≤i:=by omega
  rw [List.getElem?_append_right c1] at e1
  rw [List.getElem?_append_right (by rw [← h.1];exact c1),← h.1] at e2
  have z:i - ts.length=0:=by
   have:=(List.getElem?_eq_some_iff.mp e1).1
   simp only [List.length_cons,List.length_nil] at this
   omega
  rw [z] at e1 e2
  simp only [List.getElem?_cons_zero,Option.some.injEq] at e1 e2
  rw [← e1,← e2]
  exact e
theorem Tps.at {α:Type} {f:α→List V} {H:Hp} {ts:List Addr} {bs:List α} (h:Tps f H ts bs) {i:Nat} {t:Addr} (e:ts[i]?=some t):∃ b,bs[i]?=some b∧H t=some (.tup (f b)):=by
 have hi:=(List.getElem?_eq_some_iff.mp e).1
 rw [h.1] at hi
 exact ⟨bs[i],List.getElem?_eq_getElem hi,h.2 i t _ e (List.getElem?_eq_getElem hi)⟩
theorem zda {α:Type} {l:List α} {i:Nat} {x:α} (e:l[i]?=some x):x∈l:=List.mem_of_getElem? e
def Off (p c:Addr) (H:Hp):Hp:=fun b=>if b=p∨b=c then none else H b
theorem zpB (p c:Addr) (H:Hp):za1 (Off p c H) H:=fun b o h=>by
 unfold Off at h
 split at h
 ·cases h
 ·exact h
theorem zlM {p c b:Addr} {H:Hp} (h1:b≠p) (h2:b≠c):Off p c H b=H b:=if_neg (fun z=>z.elim h1 h2)
theorem zqe {p c b:Addr} {H:Hp} {o:HO} (h:Off p c H b=some o):b≠p∧b≠c:=by
 unfold Off at h
 split at h
 ·cases h
 ·rename_i z
  exact ⟨fun e=>z (.inl e),fun e=>z (.inr e)⟩
theorem zpv {p c:Addr} {H:Hp} {o:HO}:Off p c (upd H p o)=Off p c H:=by
 funext b
 unfold Off upd
 split
 ·rfl
 ·rename_i z
  rw [if_neg fun e=>z (.inl e)]
theorem zgX {H H':Hp} (p c:Addr) (s:za1 H H'):za1 (Off p c H) (Off p c H'):=fun b o h=>by
 have n:=zqe h
 rw [zlM n.1 n.2] at h ⊢
 exact s _ _ h
theorem zoZ {c:TT} {tb:TS} {D:zbV} {σ:St} {H:Hp} (W:Nat→St→Hp→Prop) {m:Nat} (h0:W m σ H)
  (hs:∀ m σ H,W m σ H→c σ H fun b H1=>if b=true then ∃ N:St→Hp→Prop,(∀ σ' H',N σ' H'→∃ m',m'<m∧W m' σ' H')∧tb { D with nx:=N,ct:=N,bk:=D.nx } σ H1 else D.nx σ H1):zlY c tb D σ H:=⟨W,⟨m,h0⟩,hs⟩
abbrev zbk:=Int×Int×Int
abbrev rdv (r:zbk):List V:=[.int r.1,.int r.2.1,.int r.2.2]
def GR (m:Int) (r:zbk):Prop:=0≤r.1∧r.1<m∧0≤r.2.1∧r.2.1<m∧r.1≠r.2.1∧1≤r.2.2∧r.2.2≤1000000
instance (m:Int) (r:zbk):Decidable (GR m r):=by unfold GR;infer_instance
def znP (m:Int) (rs:List zbk):Prop:=∀ S:Int→Prop,S 0→(∀ r∈rs,S r.1∨S r.2.1→S r.1∧S r.2.1)→∀ x,0≤x→x<m→S x
structure GW (m:Int) (rs:List zbk):Prop where
 m1:1≤m
 m60:m≤60
 l120:rs.length≤120
 gr:∀ r∈rs,GR m r
 conn:znP m rs
structure zeG (H:Hp) (w rl:Addr) (ts:List Addr) (m:Int) (rs:List zbk):Prop where
 hw:H w=some (.tup [.int m,.ref rl])
 hl:H rl=some (.lst (ts.map V.ref))
 ht:Tps rdv H ts rs
theorem zeG.same {H H':Hp} {w rl:Addr} {ts:List Addr} {m:Int} {rs:List zbk} (h:zeG H w rl ts m rs) (s:za1 H H'):zeG H' w rl ts m rs:=⟨s _ _ h.hw,s _ _ h.hl,h.ht.same s⟩
def zc5:Sp:=fun vs H Q _=>∃ x l m:Int,vs=[.int x,.int l,.int m]∧Q (.bl (decide (l≤x∧x≤m))) H
def zeE:Sp:=fun vs H Q _=>∃ (t:Addr) (r:zbk) (m:Int),vs=[.ref t,.int m]∧H t=some (.tup (rdv r))∧Q (.bl (decide (GR m r))) H
def zlN:Sp:=fun vs H Q _=>∃ (rl:Addr) (ts:List Addr) (rs:List zbk) (m:Int),vs=[.ref rl]∧H rl=some (.lst (ts.map V.ref))∧Tps rdv H ts rs∧1≤m∧m≤60∧(∀ r∈rs,GR m r)∧∀ (d:Addr) (kvs:List (Key×V)) (H':Hp),za1 H H'→H' d=some (.dK kvs)→(m≤(kvs.length:Int)↔znP m rs)→Q (.ref d) H'
theorem zcY {K:PySem.W.Frag} {H:Hp} {Q:VK} {r:Addr} {xs:List V} (h:H r=some (.lst xs)) (q:Q (.bl true) H):zcQ K [.ref r,.ty "list"] H Q:=⟨_,_,_,_,true,rfl,rfl,.of (.lst h),rfl,q⟩
def zho (m:Int):List zbk→Option Nat
 | []=>none
 | r::rs=>if GR m r then (zho m rs).map (·+1) else some 0
theorem zj1 {m:Int}:∀ {rs:List zbk} {i:Nat} {r:zbk},rs[i]?=some r→¬ GR m r→(∀ (j:Nat) q,j<i→rs[j]?=some q→GR m q)→zho m rs=some i
 | x::rs,0,r,e,h,_=>by
  cases e
  unfold zho
  rw [if_neg h]
 | x::rs,i+1,r,e,h,hb=>by
  unfold zho
  rw [if_pos (hb 0 x (Nat.succ_pos _) rfl),zj1 (rs:=rs) e h fun j q hj hq=>hb (j+1) q (Nat.succ_lt_succ hj) hq]
  rfl
theorem zfe {m:Int}:∀ {rs:List zbk},(∀ r∈rs,GR m r)→zho m rs=none
 | [],_=>rfl
 | x::rs,h=>by
  unfold zho
  rw [if_pos (h x (by simp)),zfe fun r hr=>h r (by simp [hr])]
  rfl
def zmk (m:Int) (rs:List zbk):Prop:=zho m rs=none∧1≤m∧m≤60∧rs.length≤120∧znP m rs
def znD (m:Int) (rs:List zbk) (d:Int):Prop:=(∃ k:Nat,zho m rs=some k∧d=k)∨(zho m rs=none∧¬ (1≤m∧m≤60∧rs.length≤120∧znP m rs)∧d=-1)
theorem znD.not {m:Int} {rs:List zbk} {d:Int} (h:znD m rs d) (g:zmk m rs):False:=by
 rcases h with ⟨k,h1,h2⟩ | ⟨h1,h2,_⟩
 ·rw [g.1] at h1
  cases h1
 ·exact h2 g.2
def ze8 (a:Ad):Sp:=fun vs H Q E=>∃ (w rl:Addr) (ts:List Addr) (m:Int) (rs:List zbk),vs=[.ref w]∧zeG H w rl ts m rs∧rs.length≤99999∧(zmk m rs→∀ H',za1 H H'→Q .non H')∧(∀ d,znD m rs d→∀ (dx:Addr) (H':Hp),za1 H H'→H' dx=none→E (.ref a.c_NoWeb) (some dx) (L2.upd H' dx (.xd [("road",.int d)])))
def dg (c:Nat):Bool:=decide (48≤c)&&decide (c≤57)
theorem zkV:(Str.ofString "0123456789").cps.toList=[48,49,50,51,52,53,54,55,56,57]:=by decide +kernel
theorem zpA (c:Nat):(!(Builtin.Str.occurrences (Str.ofString "0123456789") ⟨#[c]⟩ 0 (Str.ofString "0123456789").length 1).isEmpty)=dg c:=by
 rw [StrLaws.found_one,zkV]
 unfold dg
 by_cases h:48≤c∧c≤57
 ·rw [decide_eq_true h.1,decide_eq_true h.2,decide_eq_true]
  ·rfl
  ·have:c=48∨c=49∨c=50∨c=51∨c=52∨c=53∨c=54∨c=55∨c=56∨c=57:=by omega
   rcases this with rfl | rfl | rfl | rfl | rfl | rfl | rfl | rfl | rfl | rfl <;> decide
 ·rw [decide_eq_false (p:=c∈_)]
  ·cases z:(decide (48≤c)&&decide (c≤57)) with
   | false=>rfl
   | true =>
    rw [Bool.and_eq_true,decide_eq_true_eq,decide_eq_true_eq] at z
    exact absurd z h
  ·intro m
   simp only [List.mem_cons,List.not_mem_nil,or_false] at m
   omega
theorem zkq:(Str.ofString "0").cps.toList=[48]:=by decide +kernel
theorem zoh (w:Str):Txt.startswith w (Str.ofString "0")=decide (w.cps.toList.head?=some 48):=by
 unfold Txt.startswith
 rw [StrLaws.subAt_eq,zkq]
 have l1:(Str.ofString "0").length=1:=by decide +kernel
 have lw:w.length=w.cps.toList.length:=by simp [Str.length]
 rw [l1,lw,List.drop_zero]
 cases h:w.cps.toList with
 | nil=>rfl
 | cons c l =>
  show (decide (0+1≤(c::l).length)&&([c] == [48]))=decide (some c=some 48)
  rw [decide_eq_true (show 0+1≤(c::l).length by rw [List.length_cons];omega),Bool.true_and]
  by_cases z:c=48
  ·rw [z];rfl
  ·rw [decide_eq_false (fun y=>z (Option.some.inj y))]
   simp [z]
def okW (w:Str):Bool:=decide (1≤w.length)&&w.cps.toList.all dg&&!(decide (w.cps.toList.head?=some 48)&&!decide (w=Str.ofString "0"))
def zgq (w:Str):Option Int:=if okW w=true then PySem.intText? w else none
def zjd:Option Int→V
 | none=>.non
 | some n=>.int n
theorem znl {w:Str} (h:w.cps.toList.all dg=true) (l1:1≤w.length) (l2:w.length≤4300):∃ n:Int,PySem.intText? w=some n∧0≤n:=by
 have lw:w.length=w.cps.toList.length:=by simp [Str.length]
 refine ⟨_,PySem.intText_digits (fun c hc=>?_) (fun z=>?_) l2,Int.natCast_nonneg _⟩
 ·have:=List.all_eq_true.mp h c hc
  unfold dg at this
  rw [Bool.and_eq_true,decide_eq_true_eq,decide_eq_true_eq] at this
  exact this
 ·rw [lw,z] at l1
  exact absurd l1 (by decide)
def lr:Nat→List Nat→Nat
 | k,[]=>k
 | k,c::l=>if c=32∨c=10 then max k (lr 0 l) else lr (k+1) l
theorem zcs (k c:Nat) (l:List Nat):lr k (c::l)=if c=32∨c=10 then max k (lr 0 l) else lr (k+1) l:=rfl
theorem zgK:∀ (l:List Nat) (k:Nat),k≤lr k l∧lr 0 l≤lr k l∧lr k l≤k+lr 0 l
 | [],k=>⟨Nat.le_refl _,Nat.zero_le _,Nat.le_refl _⟩
 | c::l,k=>by
  rw [zcs,zcs]
  by_cases h:c=32∨c=10
  ·rw [if_pos h,if_pos h]
   omega
  ·rw [if_neg h,if_neg h]
   have h1:=zgK l (k+1)
   have h2:=zgK l (0+1)
   have h3:∀ j,lr j l=max j (lr 0 l)∨True:=fun j=>.inr trivial
   refine ⟨by omega,?_,?_⟩
   ·exact lr_mono l (by omega)
   ·exact lr_shift l k 1
where
 lr_mono:∀ (l:List Nat) {j k:Nat},j≤k→lr j l≤lr k l
  | [],j,k,h=>h
  | c::l,j,k,h=>by
   rw [zcs,zcs]
   by_cases z:c=32∨c=10
   ·rw [if_pos z,if_pos z];omega
   ·rw [if_neg z,if_neg z]
    exact lr_mono l (by omega)
 lr_shift:∀ (l:List Nat) (j k:Nat),lr (j+k) l≤j+lr k l
  | [],j,k=>Nat.le_refl _
  | c::l,j,k=>by
   rw [zcs,zcs]
   by_cases z:c=32∨c=10
   ·rw [if_pos z,if_pos z];omega
   ·rw [if_neg z,if_neg z]
    exact lr_shift l j (k+1)
theorem zim:∀ (a b:List Nat) (k:Nat),lr k (a++b)≤lr k a+lr 0 b∧lr k a≤lr k (a++b)∧lr 0 b≤lr k (a++b)
 | [],b,k=>by
  have:=zgK b k
  exact ⟨this.2.2,this.1,this.2.1⟩
 | c::a,b,k=>by
  rw [List.cons_append,zcs,zcs]
  by_cases h:c=32∨c=10
  ·rw [if_pos h,if_pos h]
   have:=zim a b 0
   omega
  ·rw [if_neg h,if_neg h]
   exact zim a b (k+1)
theorem zlT:∀ (l:List Nat) (k:Nat),32∉l→10∉l→lr k l=k+l.length
 | [],k,_,_=>rfl
 | c::l,k,h1,h2=>by
  rw [zcs,if_neg (fun z=>z.elim (fun e=>h1 (e ▸ List.mem_cons_self ..)) (fun e=>h2 (e ▸ List.mem_cons_self ..))),zlT l _ (fun m=>h1 (List.mem_cons_of_mem _ m)) (fun m=>h2 (List.mem_cons_of_mem _ m)),List.length_cons]
  omega
def sgn (s:Str):List Nat:=s.cps.toList
theorem zeX (s:Str):s.length=(sgn s).length:=by simp [sgn,Str.length]
theorem zb3 (s t:Str):sgn (s++t)=sgn s++sgn t:=by
 unfold sgn
 rw [Str.cps_append',Array.toList_append]
where
 Str.cps_append':(s++t).cps=s.cps++t.cps:=rfl
theorem zef {s t:Str} (h:sgn s=sgn t):s=t:=by
 cases s
 cases t
 exact congrArg _ (Array.toList_inj.mp h)
def Rn (n:Nat) (s:Str):Prop:=lr 0 (sgn s)≤n
theorem zga (y x:Str):Str.join y [x]=x:=rfl
theorem zeu (y x z:Str) (l:List Str):sgn (Str.join y (x::z::l))=sgn x++(sgn y++sgn (Str.join y (z::l))):=by
 show sgn (x++y++Str.join y (z::l))=_
 rw [zb3,zb3,List.append_assoc]
theorem zmg {c n:Nat}:∀ {l:List Str},Rn n (Str.join ⟨#[c]⟩ l)→∀ x∈l,Rn n x
 | [x],h,y,hy=>by rw [List.mem_singleton.mp hy];exact h
 | x::z::l,h,y,hy=>by
  unfold Rn at h
  rw [zeu] at h
  have h:lr 0 (sgn x++c::sgn (Str.join ⟨#[c]⟩ (z::l)))≤n:=h
  rcases List.mem_cons.mp hy with rfl | hy
  ·exact Nat.le_trans (zim _ _ 0).2.1 h
  ·refine zmg (c:=c) (l:=z::l) ?_ y hy
   have h2:=(zim (sgn x) (c::sgn (Str.join ⟨#[c]⟩ (z::l))) 0).2.2
   have h3:=(zim [c] (sgn (Str.join ⟨#[c]⟩ (z::l))) 0).2.2
   exact Nat.le_trans h3 (Nat.le_trans h2 h)
theorem zj5 {c n:Nat} {s:Str} (h:Rn n s):∀ x∈Txt.split s ⟨#[c]⟩,Rn n x:=zmg (c:=c) (by rw [StrLaws.join_split];exact h)
theorem zg7 (s y:Str):Txt.split s y≠[]:=by
 unfold Txt.split
 split
 ·exact List.cons_ne_nil _ _
 ·split
  ·exact List.cons_ne_nil _ _
  ·intro h
   rw [StrLaws.partsBetween_eq] at h
   obtain ⟨p,r,e⟩:=StrLaws.partsFrom_ne s y.length 0 (Builtin.Str.occurrences s y 0 s.length (s.length+1))
   rw [e] at h
   cases h
theorem ziz (s:Str) (c:Nat):(Txt.split s ⟨#[c]⟩).length≤s.length+1:=by
 have:=PyProof.Rows.split_weight s ⟨#[c]⟩ (Nat.le_refl 1)
 omega
theorem zgM (s:Str) (c:Nat):∀ x∈Txt.split s ⟨#[c]⟩,x.length≤s.length:=fun x hx=>by
 have h:=PyProof.Rows.split_weight s ⟨#[c]⟩ (Nat.le_refl 1)
 have:x.length≤((Txt.split s ⟨#[c]⟩).map (·.length)).sum:=List.le_sum_of_mem' (List.mem_map.mpr ⟨x,hx,rfl⟩)
 have l1:1≤(Txt.split s ⟨#[c]⟩).length:=List.length_pos_of_mem hx
 omega
where
 List.le_sum_of_mem':∀ {l:List Nat} {n:Nat},n∈l→n≤l.sum
  | a::l,n,h=>by
   rw [List.sum_cons]
   rcases List.mem_cons.mp h with rfl | h
   ·omega
   ·have:=List.le_sum_of_mem' h
    omega
theorem zoj {i:Int} (h0:0≤i) {k:Nat} (hk:0<k) (h:i<10 ^ k):(Str.ofString (toString i)).length≤k:=PyProof.Rows.toString_length_le h0 hk h
section
variable {P:Program} {w:World} {mg:Str→Option Value} {base:Heap}
variable {K:PySem.W.Frag} {H:Hp} {Q:VK} {a:Ad}
def ze3 (K:PySem.W.Frag):TS :=
 (zbW (zck (tCB (zcQ K) (zab (zac 0) (zab (tC (.ty "int")) zat))) (zla (tCB (zcQ K) (zab (zac 0) (zab (tC (.ty "bool")) zat))))))
theorem zjp {x:Int} (q:Q (.bl true) H):ze3 K { nx:=fun _ H'=>Q .non H',rt:=Q } (L2.zbu ["thing"] [.int x]) H:=by
 unfold ze3
 simp_all only [zac]
 refine zec ⟨_,rfl,znR ?_⟩
 exact zfv ⟨_,rfl,q⟩
theorem ziV:zaN ["thing"] ["thing"] (zap ze6):=⟨rfl,rfl,rfl,by decide +kernel,rfl,by decide +kernel,by decide +kernel⟩
theorem zf9 (T:Txt K mg base a):zcJ P w K mg base CX0 1 a.f_is_whole a.d_is_whole ["thing"] zhm:=by
 refine T.F_is_whole.ok ziV (fun vs H Q E h=>?_) (fun cdv A outer s H vs Q E hr h=>?_)
 ·obtain ⟨x,rfl,q⟩:=h
  rfl
 obtain ⟨x,rfl,q⟩:=h
 exact ⟨ze3 K,(zas (zaZ (zcL (zau zaH rfl T.z_isinstance PyProof.Rows.boot_isinstance (zaa (pv 0) (zaa (zbo rfl T.z_int zfN rfl) zae))) (zeK (znU (zau zaH rfl T.z_isinstance PyProof.Rows.boot_isinstance (zaa (pv 0) (zaa (zbo rfl T.z_bool zet rfl) zae)))))))),
  zjp q⟩
def zee:TS :=
 (zbW (zck (zaK zhm [] E0 (zab (zac 0) zat)) (zfm (rI0 fun i j=>.bl (decide (i≤j))) (rI0 fun i j=>.bl (decide (i≤j))) (zac 1) (zac 0) (zac 2))))
theorem zic {x l m:Int} (q:Q (.bl (decide (l≤x∧x≤m))) H):zee { nx:=fun _ H'=>Q .non H',rt:=Q } (L2.zbu ["thing","least","most"] [.int x,.int l,.int m]) H:=by
 unfold zee
 simp_all only [zac]
 refine ⟨x,rfl,true,rfl,znR ?_⟩
 refine zdM (fun c=>?_) (fun c=>?_)
 ·rw [show decide (l≤x∧x≤m)=decide (x≤m) from by simp [c]] at q
  exact q
 ·rw [show decide (l≤x∧x≤m)=false from by simp [c]] at q
  exact q
theorem zig:zaN ["thing","least","most"] ["thing","least","most"] (zap zeo):=⟨rfl,rfl,rfl,by decide +kernel,rfl,by decide +kernel,by decide +kernel⟩
theorem zhx (T:Txt K mg base a):zcJ P w K mg base CX0 2 a.f_is_within a.d_is_within ["thing","least","most"] zc5:=by
 have G_is_whole:=zf9 (P:=P) (w:=w) (base:=base) T
 refine T.F_is_within.ok zig (fun vs H Q E h=>?_) (fun cdv A outer s H vs Q E hr h=>?_)
 ·obtain ⟨x,l,m,rfl,q⟩:=h
  rfl
 obtain ⟨x,l,m,rfl,q⟩:=h
 exact ⟨zee,(zas (zaZ (zcL (zaF G_is_whole (hr.mono (by decide)) rfl T.m_is_whole T.F_is_whole.kp T.b_is_whole .nil zbl (zaa (pv 0) zae)) (zeK (znm zkj zkj (pv 1) (pv 0) (pv 2)))))),
  zic q⟩
def zf6 (K:PySem.W.Frag):TS :=
 (za0 (zbF (zac 0) (ziH K 3 (zbv (zar 2) (zbv (zar 3) (zbv (zar 4) ziI)))))
 (zbW (zck (zaK zc5 [] E0 (zab (zac 2) (zab (tC (.int 0)) (zab (tOp (rI0 fun i j=>.int (i - j)) (zac 1) (tC (.int 1))) zat)))) (zck (zaK zc5 [] E0 (zab (zac 3) (zab (tC (.int 0)) (zab (tOp (rI0 fun i j=>.int (i - j)) (zac 1) (tC (.int 1))) zat)))) (zck (tOp rNe (zac 2) (zac 3)) (zaK zc5 [] E0 (zab (zac 4) (zab (tC (.int 1)) (zab (tC (.int 1000000)) zat)))))))))
theorem zb5 (K:PySem.W.Frag) (D:zbV) (σ:St) (H:Hp):zf6 K D σ H=(za0 (zbF (zac 0) (ziH K 3 (zbv (zar 2) (zbv (zar 3) (zbv (zar 4) ziI)))))
 (zbW (zck (zaK zc5 [] E0 (zab (zac 2) (zab (tC (.int 0)) (zab (tOp (rI0 fun i j=>.int (i - j)) (zac 1) (tC (.int 1))) zat)))) (zck (zaK zc5 [] E0 (zab (zac 3) (zab (tC (.int 0)) (zab (tOp (rI0 fun i j=>.int (i - j)) (zac 1) (tC (.int 1))) zat)))) (zck (tOp rNe (zac 2) (zac 3)) (zaK zc5 [] E0 (zab (zac 4) (zab (tC (.int 1)) (zab (tC (.int 1000000)) zat))))))))) D σ H:=rfl
def zgc (K:PySem.W.Frag):TS :=
 (zch (tOr (zeV (tB (tCB (zcQ K) (zab (zac 0) (zab (tC (.ty "tuple")) zat))))) (za8 (tOp rNe (tCB (fun xs H Q=>∃ p ys,xs=[.ref p]∧(SqL K H p ys∨SqT K H p ys)∧Q (.int ys.length) H) (zab (zac 0) zat)) (tC (.int 3))))) (zbW (tC (.bl false))) za9)
theorem zb7 (K:PySem.W.Frag) (D:zbV) (σ:St) (H:Hp):zgc K D σ H=(zch (tOr (zeV (tB (tCB (zcQ K) (zab (zac 0) (zab (tC (.ty "tuple")) zat))))) (za8 (tOp rNe (tCB (fun xs H Q=>∃ p ys,xs=[.ref p]∧(SqL K H p ys∨SqT K H p ys)∧Q (.int ys.length) H) (zab (zac 0) zat)) (tC (.int 3))))) (zbW (tC (.bl false))) za9) D σ H:=rfl
def zgf (K:PySem.W.Frag):TS :=
 (za0 (zfK (zgc K))
 (zf6 K))
theorem zkm {t:Addr} {r:zbk} {m:Int} (ht:H t=some (.tup (rdv r))) (q:Q (.bl (decide (GR m r))) H):zgf K { nx:=fun _ H'=>Q .non H',rt:=Q } (L2.zbu ["thing","many","a","b","length"] [.ref t,.int m]) H:=by
 unfold zgf
 simp_all only [zb5,zb7,zac]
 refine ⟨fun σ H'=>H'=H∧σ=[some (.ref t),some (.int m),none,none,none],?_,?_⟩
 ·simp_all only [zb5,zb7,zac]
  refine zcp ht ⟨true,rfl,?_⟩
  refine zdM (fun z=>absurd z (by decide)) (fun _=>?_)
  refine ⟨_,.inr (SqT.of ht),?_⟩
  exact zdM (fun z=>absurd rfl z) (fun _=>rfl)
 ·rintro σ H' ⟨e,rfl⟩
  rw [e]
  simp_all only [zb5,zb7,zac]
  refine ⟨_,SqT.of ht,rfl,_,_,rfl,_,_,rfl,_,_,rfl,rfl,?_⟩
  refine ⟨_,_,_,rfl,_,rfl,zdM (fun c1=>?_) (fun c1=>?_)⟩
  ·have c1:=of_decide_eq_true c1
   refine ⟨_,_,_,rfl,_,rfl,zdM (fun c2=>?_) (fun c2=>?_)⟩
   ·have c2:=of_decide_eq_true c2
    simp_all only [zb5,zb7,zac]
    refine zdM (fun c3=>?_) (fun c3=>?_)
    ·refine ⟨_,_,_,rfl,?_⟩
     rw [show decide (GR m r)=decide (1≤r.2.2∧r.2.2≤1000000) from decide_eq_decide.mpr ⟨fun z=>z.2.2.2.2.2,fun z=>⟨by omega,by omega,by omega,by omega,c3,z⟩⟩] at q
     exact q
    ·rw [decide_eq_false (p:=GR m r) fun z=>c3 z.2.2.2.2.1] at q
     exact q
   ·rw [decide_eq_false (p:=GR m r) fun z=>c2 (decide_eq_true ⟨z.2.2.1,by have:=z.2.2.2.1;omega⟩)] at q
    exact q
  ·rw [decide_eq_false (p:=GR m r) fun z=>c1 (decide_eq_true ⟨z.1,by have:=z.2.1;omega⟩)] at q
   exact q
theorem zdJ:zaN ["thing","many","a","b","length"] ["thing","many"] (zap zfS):=⟨rfl,rfl,rfl,by decide +kernel,rfl,by decide +kernel,by decide +kernel⟩
theorem zgN (T:Txt K mg base a):zcJ P w K mg base CX0 3 a.f_is_road a.d_is_road ["thing","many"] zeE:=by
 have G_is_within:=zhx (P:=P) (w:=w) (base:=base) T
 refine T.F_is_road.ok zdJ (fun vs H Q E h=>?_) (fun cdv A outer s H vs Q E hr h=>?_)
 ·obtain ⟨t,r,m,rfl,ht,q⟩:=h
  rfl
 obtain ⟨t,r,m,rfl,ht,q⟩:=h
 exact ⟨zgf K,(zaf (zb1 (zcl (PW.pt (zew (zcO (zci (zau zaH rfl T.z_isinstance PyProof.Rows.boot_isinstance (zaa (pv 0) (zaa (zbo rfl T.z_tuple zb4 rfl) zae))))) (zdA (zbb zfU (zau zaG rfl T.z_len PySem.boot_len (zaa (pv 0) zae)) zao (zbe _))))) (zas (zaZ zgE)) zbc))
 (zaf (zl2 (pv 0) (zeC rfl (zaX (zaM (i:=2) zdJ.nd rfl (Or.inl rfl)) (zaX (zaM (i:=3) zdJ.nd rfl (Or.inl rfl)) (zaX (zaM (i:=4) zdJ.nd rfl (Or.inl rfl)) zcX)))))
 (zas (zaZ (zcL (zaF G_is_within (hr.mono (by decide)) rfl T.m_is_within T.F_is_within.kp T.b_is_within .nil zbl (zaa (pv 2) (zaa zao (zaa (zaD zhN (pv 1) zao) zae)))) (zcL (zaF G_is_within (hr.mono (by decide)) rfl T.m_is_within T.F_is_within.kp T.b_is_within .nil zbl (zaa (pv 3) (zaa zao (zaa (zaD zhN (pv 1) zao) zae)))) (zcL (zcZ zfU (pv 2) (pv 3) (zbe _)) (zeK (zaF G_is_within (hr.mono (by decide)) rfl T.m_is_within T.F_is_within.kp T.b_is_within .nil zbl (zaa (pv 4) (zaa zao (zaa (zgj rfl T.m_MOST_LENGTH ⟨_,rfl⟩) zae)))))))))))),
  zkm ht q⟩
theorem zeH {α:Type} [DecidableEq α]:∀ (a b:List α),a.Nodup→(∀ x∈a,x∈b)→a.length≤b.length
 | [],b,_,_=>Nat.zero_le _
 | x::a,b,nd,h=>by
  obtain ⟨n1,n2⟩:=List.nodup_cons.mp nd
  have hx:=h x (by simp)
  have ih:=zeH a (b.erase x) n2 fun y hy=>(List.mem_erase_of_ne fun (e:y=x)=>n1 (e ▸ hy)).mpr (h y (by simp [hy]))
  rw [List.length_erase_of_mem hx] at ih
  have:=List.length_pos_of_mem hx
  rw [List.length_cons]
  omega
def Dm (kvs:List (Key×V)) (x:Int):Prop:=zeL kvs (.inl x)≠none
def zb8 {κ:Type} (kvs:List (κ×V)):List κ:=kvs.map (·.1)
theorem zi6 {κ:Type} [DecidableEq κ] (kvs:List (κ×V)) (k:κ):zeL kvs k≠none↔k∈zb8 kvs:=by
 induction kvs with
 | nil=>simp [zeL,zb8]
 | cons p r ih =>
  by_cases e:p.1=k
  ·rw [zbO e]
   simp [zb8,e]
  ·rw [zbH e,ih]
   unfold zb8
   rw [List.map_cons,List.mem_cons]
   exact ⟨.inr,fun h=>h.resolve_left fun z=>e z.symm⟩
theorem zhh {κ:Type} [DecidableEq κ] (kvs:List (κ×V)) (k:κ) (v:V):zb8 (zfz kvs k v)=if zeL kvs k=none then zb8 kvs++[k] else zb8 kvs:=by
 by_cases c:zeL kvs k=none
 ·rw [if_pos c,zmT v c]
  simp [zb8]
 ·rw [if_neg c]
  unfold zfz
  rw [zdN,if_pos (Option.isSome_iff_ne_none.mpr c)]
  unfold zb8
  rw [List.map_map]
  refine List.map_congr_left fun p _=>?_
  simp only [Function.comp]
  split <;> rfl
theorem zdF {κ:Type} (kvs:List (κ×V)):(zb8 kvs).length=kvs.length:=List.length_map ..
theorem zlj {κ:Type} [DecidableEq κ] (kvs:List (κ×V)) (k:κ) (v:V):(zfz kvs k v).length=if zeL kvs k=none then kvs.length+1 else kvs.length:=by
 rw [← zdF,zhh]
 split
 ·rw [List.length_append,zdF]
  rfl
 ·rw [zdF]
theorem zhD (kvs:List (Key×V)) (y x:Int) (v:V):Dm (zfz kvs (.inl y) v) x↔x=y∨Dm kvs x:=by
 unfold Dm
 rw [zmr]
 by_cases e:x=y
 ·subst e
  simp
 ·rw [if_neg fun z=>e (Sum.inl.inj z)]
  exact ⟨.inr,fun h=>h.resolve_left e⟩
def Clo (rs:List zbk) (S:Int→Prop):Prop:=∀ r∈rs,S r.1∨S r.2.1→S r.1∧S r.2.1
structure Cm (m:Int) (rs:List zbk) (kvs:List (Key×V)):Prop where
 nd:(zb8 kvs).Nodup
 inR:∀ k∈zb8 kvs,∃ x:Int,k=.inl x∧0≤x∧x<m
 zero:Dm kvs 0
 least:∀ S:Int→Prop,S 0→Clo rs S→∀ x,Dm kvs x→S x
theorem Cm.put {m:Int} {rs:List zbk} {kvs:List (Key×V)} (h:Cm m rs kvs) {y:Int} (v:V) (y0:0≤y) (y1:y<m) (hy:∀ S:Int→Prop,S 0→Clo rs S→S y):Cm m rs (zfz kvs (.inl y) v):=by
 refine ⟨?_,?_,(zhD ..).mpr (.inr h.zero),fun S s0 sc x hx=>?_⟩
 ·rw [zhh]
  split
  ·rename_i c
   refine List.nodup_append.mpr ⟨h.nd,by simp,fun a ha b hb e=>?_⟩
   have:b=.inl y:=by simpa using hb
   subst this
   subst e
   exact (zi6 ..).mpr ha c
  ·exact h.nd
 ·rw [zhh]
  split
  ·intro k hk
   rcases List.mem_append.mp hk with z | z
   ·exact h.inR k z
   ·exact ⟨y,by simpa using z,y0,y1⟩
  ·exact h.inR
 ·rcases (zhD ..).mp hx with rfl | z
  ·exact hy S s0 sc
  ·exact h.least S s0 sc x z
theorem Cm.le {m:Int} {rs:List zbk} {kvs:List (Key×V)} (h:Cm m rs kvs) (m0:0≤m):(kvs.length:Int)≤m:=by
 have:=zeH (zb8 kvs) ((List.range m.toNat).map fun k:Nat=>(Sum.inl (k:Int):Key)) h.nd fun k hk=>by
  obtain ⟨x,rfl,x0,x1⟩:=h.inR k hk
  exact List.mem_map.mpr ⟨x.toNat,List.mem_range.mpr (by omega),by rw [Int.toNat_of_nonneg x0]⟩
 rw [zdF,List.length_map,List.length_range] at this
 omega
theorem Cm.all {m:Int} {rs:List zbk} {kvs:List (Key×V)} (h:Cm m rs kvs) (m0:0≤m):m≤(kvs.length:Int)↔∀ x,0≤x→x<m→Dm kvs x:=by
 constructor
 ·intro hl x x0 x1
  refine Classical.byContradiction fun c=>?_
  have hx:(Sum.inl x:Key)∉zb8 kvs:=fun z=>c ((zi6 ..).mpr z)
  have:=zeH (Sum.inl x::zb8 kvs) ((List.range m.toNat).map fun k:Nat=>(Sum.inl (k:Int):Key)) (List.nodup_cons.mpr ⟨hx,h.nd⟩) fun k hk=>by
   have:∃ y:Int,k=.inl y∧0≤y∧y<m:=by
    rcases List.mem_cons.mp hk with z | z
    ·exact ⟨x,z,x0,x1⟩
    ·exact h.inR k z
   obtain ⟨y,rfl,y0,y1⟩:=this
   exact List.mem_map.mpr ⟨y.toNat,List.mem_range.mpr (by omega),by rw [Int.toNat_of_nonneg y0]⟩
  rw [List.length_cons,zdF,List.length_map,List.length_range] at this
  omega
 ·intro hx
  have:=zeH ((List.range m.toNat).map fun k:Nat=>(Sum.inl (k:Int):Key)) (zb8 kvs) ?_ fun k hk=>?_
  ·rw [zdF,List.length_map,List.length_range] at this
   omega
  ·refine List.nodup_iff_pairwise_ne.mpr (List.pairwise_map.mpr ((List.nodup_iff_pairwise_ne.mp List.nodup_range).imp fun h e=>h ?_))
   have:=Sum.inl.inj e
   omega
  ·obtain ⟨x,hx1,rfl⟩:=List.mem_map.mp hk
   have:=List.mem_range.mp hx1
   exact (zi6 ..).mp (hx x (by omega) (by omega))
theorem Cm.conn {m:Int} {rs:List zbk} {kvs:List (Key×V)} (h:Cm m rs kvs) (m0:0≤m) (c:Clo rs (Dm kvs)):m≤(kvs.length:Int)↔znP m rs:=by
 rw [h.all m0]
 exact ⟨fun z S s0 sc x x0 x1=>h.least S s0 sc x (z x x0 x1),fun z x x0 x1=>z (Dm kvs) h.zero c x x0 x1⟩
def zbZ:TS :=
 (zch (tOr (tB (zpf (zac 3) (zac 1))) (tB (zpf (zac 4) (zac 1)))) (za0 (zkl (zac 1) (zac 3) (tC (.bl true)))
 (zkl (zac 1) (zac 4) (tC (.bl true)))) za9)
theorem zbA (D:zbV) (σ:St) (H:Hp):zbZ D σ H=(zch (tOr (tB (zpf (zac 3) (zac 1))) (tB (zpf (zac 4) (zac 1)))) (za0 (zkl (zac 1) (zac 3) (tC (.bl true)))
 (zkl (zac 1) (zac 4) (tC (.bl true)))) za9) D σ H:=rfl
def zcw (K:PySem.W.Frag):TS :=
 (za0 (zbF (tCB zke (zab (zac 1) zat)) (zar 2))
 (zha (ziw K (zac 0)) (ziH K 3 (zbv (zar 3) (zbv (zar 4) (zbv (zar 5) ziI))))
 (zbZ)))
theorem zbw (K:PySem.W.Frag) (D:zbV) (σ:St) (H:Hp):zcw K D σ H=(za0 (zbF (tCB zke (zab (zac 1) zat)) (zar 2))
 (zha (ziw K (zac 0)) (ziH K 3 (zbv (zar 3) (zbv (zar 4) (zbv (zar 5) ziI))))
 (zbZ))) D σ H:=rfl
def zcc (K:PySem.W.Frag):TS :=
 (za0 (zbF (zod (((tC (.int 0)),(tC (.bl true)))::[])) (zar 1))
 (za0 (zbF (tC (.int 0)) (zar 2))
 (za0 (zlY (za8 (tOp (rI0 fun i j=>.bl (decide (i<j))) (zac 2) (tCB zke (zab (zac 1) zat)))) (zcw K))
 (zbW (zac 1)))))
theorem zfb {rl:Addr} {ts:List Addr} {rs:List zbk} {m:Int} (hl:H rl=some (.lst (ts.map V.ref))) (ht:Tps rdv H ts rs) (m1:1≤m) (m60:m≤60) (gr:∀ r∈rs,GR m r)
  (q:∀ (d:Addr) (kvs:List (Key×V)) (H':Hp),za1 H H'→H' d=some (.dK kvs)→(m≤(kvs.length:Int)↔znP m rs)→Q (.ref d) H') :
  zcc K { nx:=fun _ H'=>Q .non H',rt:=Q } (L2.zbu ["roads","come","before","a","b","length"] [.ref rl]) H:=by
 unfold zcc
 simp_all only [zbA,zbw,zac]
 refine fun d hd=>⟨zad,[(.inl 0,.bl true)],rfl,by decide,?_⟩
 refine zoZ (m:=100) (fun n σ H'=>∃ (kvs:List (Key×V)) (bf:Int) (x y z:Option V),σ=[some (.ref rl),some (.ref d),some (.int bf),x,y,z]∧za1 H H'∧H' d=some (.dK kvs)∧Cm m rs kvs∧0≤bf∧bf≤(kvs.length:Int)∧(bf=(kvs.length:Int)→Clo rs (Dm kvs))∧n=(100 - bf).toNat) ?_ ?_
 ·refine ⟨[(.inl 0,.bl true)],0,_,_,_,rfl,?_,zad,⟨by decide,?_,(fun z=>nomatch z),fun S s0 _ x hx=>?_⟩,by decide,by decide,(fun z=>absurd z (by decide)),by decide⟩
  ·rw [zi5]
   exact zaC hd _
  ·intro k hk
   have:k=.inl 0:=by simpa [zb8] using hk
   exact ⟨0,this,by decide,by omega⟩
  ·have:x=0:=by
    refine Classical.byContradiction fun c=>hx ?_
    exact zbH (p:=(Sum.inl 0,V.bl true)) fun z=>c (Sum.inl.inj z).symm
   subst this
   exact s0
 ·rintro n σ H1 ⟨kvs,bf,x,y,z,rfl,s1,h1,C,b0,b1,bc,rfl⟩
  simp_all only [zbA,zbw,zac]
  refine ⟨_,h1,?_⟩
  have hle:=C.le (by omega)
  refine zdM (fun c=>?_) (fun c=>?_)
  ·refine ⟨_,fun _ _ h=>h,_,h1,?_⟩
   refine ⟨⟨_,SqL.of (s1 _ _ hl)⟩,?_⟩
   refine ziv (K:=K) (xs:=ts.map V.ref) (fun i σ H'=>∃ (kv:List (Key×V)) (x y z:Option V),σ=[some (.ref rl),some (.ref d),some (.int kvs.length),x,y,z]∧za1 H H'∧H' d=some (.dK kv)∧Cm m rs kv∧kvs.length≤kv.length∧(kv.length=kvs.length→Clo (rs.take i) (Dm kv))) ⟨kvs,_,_,_,rfl,s1,h1,C,Nat.le_refl _,fun _ r hr=>by simp at hr⟩ ?_ ?_ ?_
   ·rintro i σ H' _ ⟨kv,x,y,z,rfl,s,_⟩
    exact SqL.of (s _ _ hl)
   ·rintro i t σ H2 hx ⟨kv,x,y,z,rfl,s2,h2,C2,l2,c2⟩
    obtain ⟨t,et,rfl⟩:=zdD hx
    obtain ⟨r,er,hr0⟩:=ht.at et
    have hr2:=s2 _ _ hr0
    have gr':=gr r (zda er)
    have mr:=zda er
    have stepc:∀ {kv':List (Key×V)},(∀ x,Dm kv' x↔Dm kv x)→kv.length=kvs.length→(Dm kv r.1∨Dm kv r.2.1→Dm kv r.1∧Dm kv r.2.1)→Clo (rs.take (i+1)) (Dm kv'):=by
     intro kv' e el hr' r' hr1
     rw [List.take_add_one,er] at hr1
     rw [e,e]
     rcases List.mem_append.mp hr1 with w | w
     ·exact c2 el r' w
     ·have:r'=r:=by simpa using w
      subst this
      exact hr'
    simp_all only [zbA,zbw,zac]
    refine ⟨_,SqT.of hr2,rfl,_,_,rfl,_,_,rfl,_,_,rfl,rfl,?_⟩
    refine ⟨_,zpi.k (k:=.inl r.1) h2,?_⟩
    have yes:Dm kv r.1∨Dm kv r.2.1→∀ (H3:Hp),H3=H2→∃ (H4:Hp),znO H3 d (.int r.1) (.bl true) H4∧∃ (H5:Hp),znO H4 d (.int r.2.1) (.bl true) H5∧za1 H H5∧∃ (kv:List (Key×V)),H5 d=some (.dK kv)∧Cm m rs kv∧kvs.length≤kv.length∧(kv.length=kvs.length→Clo (rs.take (i+1)) (Dm kv)):=by
     rintro hor H3 rfl
     have hS:∀ S:Int→Prop,S 0→Clo rs S→S r.1∧S r.2.1:=fun S s0 sc=>sc r mr (hor.imp (C2.least S s0 sc _) (C2.least S s0 sc _))
     have C3:=C2.put (.bl true) gr'.1 gr'.2.1 fun S s0 sc=>(hS S s0 sc).1
     have C4:=C3.put (.bl true) gr'.2.2.1 gr'.2.2.2.1 fun S s0 sc=>(hS S s0 sc).2
     have le2:=C2.le (by omega)
     have le3:=C3.le (by omega)
     have big:(100:Nat)<sizeLine:=by decide
     have e3:=zlj kv (.inl r.1) (.bl true)
     have e4:=zlj (zfz kv (.inl r.1) (.bl true)) (.inl r.2.1) (.bl true)
     refine ⟨_,znO.k (k:=.inl r.1) h2 (by omega),_,znO.k (k:=.inl r.2.1) zad (by omega),?_,_,zad,C4,?_,fun el=>?_⟩
     ·exact (s2.put hd).put hd
     ·rw [e4,e3]
      split <;> split <;> omega
     ·have k3:zeL kv (.inl r.1)≠none:=fun z=>by
       rw [if_pos z] at e3
       rw [el] at e4
       split at e4 <;> omega
      rw [if_neg k3] at e3
      have k4:zeL (zfz kv (.inl r.1) (.bl true)) (.inl r.2.1)≠none:=fun z=>by
       rw [if_pos z,el] at e4
       omega
      have d4:Dm kv r.2.1:=by
       have:=(zhD kv r.1 r.2.1 (.bl true)).mp k4
       rcases this with z | z
       ·exact absurd z.symm gr'.2.2.2.2.1
       ·exact z
      refine stepc (fun x=>?_) ?_ fun _=>⟨k3,d4⟩
      ·rw [zhD,zhD]
       exact ⟨fun z=>z.elim (fun e=>by rw [e];exact d4) (fun z=>z.elim (fun e=>by rw [e];exact k3) id),fun z=>.inr (.inr z)⟩
      ·rw [if_neg k4,el] at e4
       omega
    refine zdM (fun c3=>?_) (fun c3=>?_)
    ·exact yes (.inl (Option.isSome_iff_ne_none.mp c3)) H2 rfl
    refine ⟨_,zpi.k (k:=.inl r.2.1) h2,?_⟩
    refine zdM (fun c4=>?_) (fun c4=>?_)
    ·exact yes (.inr (Option.isSome_iff_ne_none.mp c4)) H2 rfl
    refine ⟨s2,kv,h2,C2,l2,fun el=>stepc (fun _=>Iff.rfl) el fun z=>?_⟩
    exact (z.elim (fun z=>c3 (Option.isSome_iff_ne_none.mpr z)) (fun z=>c4 (Option.isSome_iff_ne_none.mpr z))).elim
   ·rintro σ H2 ⟨kv,x,y,z,rfl,s2,h2,C2,l2,c2⟩
    have e:(rs.take (ts.map V.ref).length)=rs:=List.take_of_length_le (by rw [List.length_map,ht.1];exact Nat.le_refl _)
    rw [e] at c2
    refine ⟨_,?_,kv,_,_,_,_,rfl,s2,h2,C2,by omega,by omega,fun z=>c2 (by omega),rfl⟩
    omega
  ·refine q d kvs H1 s1 h1 (C.conn (by omega) (bc (by omega)))
theorem zaY:zaN ["roads","come","before","a","b","length"] ["roads"] (zap zcb):=⟨rfl,rfl,rfl,by decide +kernel,rfl,by decide +kernel,by decide +kernel⟩
theorem zfc (T:Txt K mg base a):zcJ P w K mg base CX0 1 a.f_places_come_to a.d_places_come_to ["roads"] zlN:=by
 refine T.F_places_come_to.ok zaY (fun vs H Q E h=>?_) (fun cdv A outer s H vs Q E hr h=>?_)
 ·obtain ⟨rl,ts,rs,m,rfl,hl,ht,m1,m60,gr,q⟩:=h
  rfl
 obtain ⟨rl,ts,rs,m,rfl,hl,ht,m1,m60,gr,q⟩:=h
 exact ⟨zcc K,(zaf (zaU (i:=1) zaY.nd rfl (Or.inl rfl) (zn1 (zmI zao zgE zon) rfl rfl (fun z=>nomatch z) (by decide)))
 (zaf (zaU (i:=2) zaY.nd rfl (Or.inl rfl) zao)
 (zaf (zmp PassesOwn.never (zbb zn9 (pv 2) (zau zf2 rfl T.z_len PySem.boot_len (zaa (pv 1) zae)) (zbe _)) (zaf (zaU (i:=2) zaY.nd rfl (Or.inl rfl) (zau zf2 rfl T.z_len PySem.boot_len (zaa (pv 1) zae)))
 (zas (zdT PassesOwn.never rfl (zgv (pv 0)) (zeC rfl (zaX (zaM (i:=3) zaY.nd rfl (Or.inl rfl)) (zaX (zaM (i:=4) zaY.nd rfl (Or.inl rfl)) (zaX (zaM (i:=5) zaY.nd rfl (Or.inl rfl)) zcX))))
 (zas (zcl (PW.pt (zew (zn0 (znT (zmF hr) (pv 3) (pv 1))) (zdA (zn0 (znT (zmF hr) (pv 4) (pv 1)))))) (zaf (zlg (zmF hr) (pv 1) (pv 3) zgE rfl)
 (zas (zlg (zmF hr) (pv 1) (pv 4) zgE rfl))) zbc))))))
 (zas (zaZ (pv 1)))))),
  zfb hl ht m1 m60 gr q⟩
theorem zme:zaN ["self","road"] ["self","road"] (zap zcm):=⟨rfl,rfl,rfl,by decide +kernel,rfl,by decide +kernel,by decide +kernel⟩
theorem zg9 (T:Txt K mg base a):zcJ P w K mg base CX0 1 a.i_NoWeb a.j_NoWeb ["self","road"] (ziq a.c_NoWeb "road"):=by
 refine T.I_NoWeb.ok zme (fun vs H Q E h=>?_) (fun cdv A outer s H vs Q E hr h=>?_)
 ·obtain ⟨y,v,rfl,hy,q⟩:=h
  rfl
 obtain ⟨y,v,rfl,hy,q⟩:=h
 exact ⟨_,(zaf (zcn (zei rfl T.m_HideError T.B (zaa (pv 0) (zaa (pv 1) zae)))) (zas (zjw (pv 0) (pv 1) rfl))),zjx T.X_NoWeb T.xa_NoWeb.na hy q⟩
def zdf (K:PySem.W.Frag) (a:Ad) (E:XK):TS :=
 (zch (tOr (zeV (za8 (zfm (rI0 fun i j=>.bl (decide (i≤j))) (rI0 fun i j=>.bl (decide (i≤j))) (tC (.int 1)) (zac 1) (tC (.int 60))))) (tOr (za8 (tOp (rI0 fun i j=>.bl (decide (j<i))) (tCB (fun xs H Q=>∃ p ys,xs=[.ref p]∧(SqL K H p ys∨SqT K H p ys)∧Q (.int ys.length) H) (zab (zac 2) zat)) (tC (.int 120)))) (za8 (tOp (rI0 fun i j=>.bl (decide (i<j))) (tCB zke (zab (zaK zlN [] E0 (zab (zac 2) zat)) zat)) (zac 1))))) (zb2 a.c_NoWeb "road" E (zab (tUn (rU fun i=>.int (-i)) (tC (.int 1))) zat)) za9)
theorem zbC (K:PySem.W.Frag) (a:Ad) (E:XK) (D:zbV) (σ:St) (H:Hp):zdf K a E D σ H=(zch (tOr (zeV (za8 (zfm (rI0 fun i j=>.bl (decide (i≤j))) (rI0 fun i j=>.bl (decide (i≤j))) (tC (.int 1)) (zac 1) (tC (.int 60))))) (tOr (za8 (tOp (rI0 fun i j=>.bl (decide (j<i))) (tCB (fun xs H Q=>∃ p ys,xs=[.ref p]∧(SqL K H p ys∨SqT K H p ys)∧Q (.int ys.length) H) (zab (zac 2) zat)) (tC (.int 120)))) (za8 (tOp (rI0 fun i j=>.bl (decide (i<j))) (tCB zke (zab (zaK zlN [] E0 (zab (zac 2) zat)) zat)) (zac 1))))) (zb2 a.c_NoWeb "road" E (zab (tUn (rU fun i=>.int (-i)) (tC (.int 1))) zat)) za9) D σ H:=rfl
def zfu (K:PySem.W.Frag) (a:Ad) (E:XK):TS :=
 (za0 (zbF (zac 0) (ziH K 2 (zbv (zar 1) (zbv (zar 2) ziI))))
 (za0 (zha (zlr K (zab (zac 2) zat)) (ziH K 2 (zbv (zar 3) (zbv (zar 4) ziI)))
 (zch (zeV (tB (zaK zeE [] E0 (zab (zac 4) (zab (zac 1) zat))))) (zb2 a.c_NoWeb "road" E (zab (zac 3) zat)) za9))
 (zdf K a E)))
theorem zby (K:PySem.W.Frag) (a:Ad) (E:XK) (D:zbV) (σ:St) (H:Hp):zfu K a E D σ H=(za0 (zbF (zac 0) (ziH K 2 (zbv (zar 1) (zbv (zar 2) ziI))))
 (za0 (zha (zlr K (zab (zac 2) zat)) (ziH K 2 (zbv (zar 3) (zbv (zar 4) ziI)))
 (zch (zeV (tB (zaK zeE [] E0 (zab (zac 4) (zab (zac 1) zat))))) (zb2 a.c_NoWeb "road" E (zab (zac 3) zat)) za9))
 (zdf K a E))) D σ H:=rfl
def zfp (K:PySem.W.Frag) (a:Ad) (E:XK):TS :=
 (zch (tOr (zeV (tB (tCB (zcQ K) (zab (zac 0) (zab (tC (.ty "tuple")) zat))))) (tOr (za8 (tOp rNe (tCB (fun xs H Q=>∃ p ys,xs=[.ref p]∧(SqL K H p ys∨SqT K H p ys)∧Q (.int ys.length) H) (zab (zac 0) zat)) (tC (.int 2)))) (tOr (zeV (tB (zaK zhm [] E0 (zab (tOp (ziW K) (zac 0) (tC (.int 0))) zat)))) (zeV (tB (tCB (zcQ K) (zab (tOp (ziW K) (zac 0) (tC (.int 1))) (zab (tC (.ty "list")) zat)))))))) (zb2 a.c_NoWeb "road" E (zab (tUn (rU fun i=>.int (-i)) (tC (.int 1))) zat)) za9)
theorem zbx (K:PySem.W.Frag) (a:Ad) (E:XK) (D:zbV) (σ:St) (H:Hp):zfp K a E D σ H=(zch (tOr (zeV (tB (tCB (zcQ K) (zab (zac 0) (zab (tC (.ty "tuple")) zat))))) (tOr (za8 (tOp rNe (tCB (fun xs H Q=>∃ p ys,xs=[.ref p]∧(SqL K H p ys∨SqT K H p ys)∧Q (.int ys.length) H) (zab (zac 0) zat)) (tC (.int 2)))) (tOr (zeV (tB (zaK zhm [] E0 (zab (tOp (ziW K) (zac 0) (tC (.int 0))) zat)))) (zeV (tB (tCB (zcQ K) (zab (tOp (ziW K) (zac 0) (tC (.int 1))) (zab (tC (.ty "list")) zat)))))))) (zb2 a.c_NoWeb "road" E (zab (tUn (rU fun i=>.int (-i)) (tC (.int 1))) zat)) za9) D σ H:=rfl
def ze9 (K:PySem.W.Frag) (a:Ad) (E:XK):TS :=
 (za0 (zfK (zfp K a E))
 (zfu K a E))
theorem ziY {E:XK} {w rl:Addr} {ts:List Addr} {m:Int} {rs:List zbk} (W:zeG H w rl ts m rs) (l200:rs.length≤99999) (q:zmk m rs→∀ H',za1 H H'→Q .non H') (e:∀ d,znD m rs d→∀ (dx:Addr) (H':Hp),za1 H H'→H' dx=none→E (.ref a.c_NoWeb) (some dx) (L2.upd H' dx (.xd [("road",.int d)]))) :
  ze9 K a E { nx:=fun _ H'=>Q .non H',rt:=Q } (L2.zbu ["web","many","roads","k","road"] [.ref w]) H:=by
 unfold ze9
 simp_all only [zbC,zby,zbx,zac]
 refine ⟨fun σ H'=>H'=H∧σ=[some (.ref w),none,none,none,none],?_,?_⟩
 ·simp_all only [zbC,zby,zbx,zac]
  refine zcp W.hw ⟨true,rfl,?_⟩
  refine zdM (fun z=>absurd z (by decide)) (fun _=>?_)
  refine ⟨_,.inr (SqT.of W.hw),?_⟩
  refine zdM (fun z=>absurd rfl z) (fun _=>?_)
  refine ⟨_,SqT.of W.hw,_,rfl,m,rfl,true,rfl,?_⟩
  refine zdM (fun z=>absurd z (by decide)) (fun _=>?_)
  refine ⟨_,SqT.of W.hw,_,rfl,zcY W.hl ⟨true,rfl,?_⟩⟩
  exact zdM (fun z=>absurd z (by decide)) (fun _=>rfl)
 ·rintro σ H' ⟨e',rfl⟩
  rw [e']
  simp_all only [zbC,zby,zbx,zac]
  refine ⟨_,SqT.of W.hw,rfl,_,_,rfl,_,_,rfl,rfl,?_⟩
  refine ⟨_,rfl,⟨_,SqL.of W.hl⟩,?_⟩
  refine zh0 (K:=K) (xs:=ts.map V.ref) (fun i σ H'=>za1 H H'∧(∀ (j:Nat) r,j<i→rs[j]?=some r→GR m r)∧∃ x y,σ=[some (.ref w),some (.int m),some (.ref rl),x,y]) ⟨.refl _,fun j r hj=>by omega,_,_,rfl⟩ ?_ ?_ ?_
  ·rintro i σ H' _ ⟨s,_⟩
   exact SqL.of (s _ _ W.hl)
  ·rintro i t u σ H1 hx ⟨s,hg,x,y,rfl⟩ hu
   obtain ⟨t,et,rfl⟩:=zdD hx
   obtain ⟨r,er,hr0⟩:=W.ht.at et
   simp_all only [zbC,zby,zbx,zac]
   refine ⟨_,SqT.of zad,rfl,_,_,rfl,_,_,rfl,rfl,?_⟩
   have s2:=s.add hu (o:=.tup [.int (i:Int),.ref t])
   refine ⟨t,r,m,rfl,s2 _ _ hr0,?_⟩
   by_cases c:GR m r
   ·rw [decide_eq_true c]
    refine ⟨true,rfl,zdM (fun z=>absurd z (by decide)) (fun _=>⟨s2,fun j q hj hq=>?_⟩)⟩
    rcases Nat.lt_or_eq_of_le (Nat.lt_succ_iff.mp hj) with h | h
    ·exact hg j q h hq
    ·rw [h,er] at hq
     cases hq
     exact c
   ·rw [decide_eq_false c]
    refine ⟨false,rfl,zdM (fun _=>?_) (fun z=>absurd rfl z)⟩
    exact fun dx hd=>e _ (.inl ⟨i,zj1 er c hg,rfl⟩) dx _ s2 hd
  ·rintro σ H1 ⟨s,hg,x,y,rfl⟩
   rw [List.length_map,W.ht.1] at hg
   have gr:∀ r∈rs,GR m r:=fun r hr=>by
    obtain ⟨j,hj,e⟩:=List.mem_iff_getElem.mp hr
    exact hg j r hj (by rw [List.getElem?_eq_getElem hj,e])
   have bn:=zfe gr
   simp_all only [zbC,zby,zbx,zac]
   have no:¬ (1≤m∧m≤60∧rs.length≤120∧znP m rs)→∀ H2,za1 H H2→∀ (dx:Addr),H2 dx=none→E (Value.ref a.c_NoWeb) (some dx) (L2.upd H2 dx (HO.xd [("road",V.int (-1))])):=fun n H2 s2 dx hd=>e _ (.inr ⟨bn,n,rfl⟩) dx H2 s2 hd
   refine zdM (fun m1=>?_) (fun z=>no (fun n=>z n.1) _ s)
   refine zdM (fun z=>no (fun n=>z n.2.1) _ s) (fun z=>?_)
   have m60:m≤60:=Decidable.not_not.mp z
   refine ⟨_,.inl (SqL.of (s _ _ W.hl)),?_⟩
   rw [List.length_map,W.ht.1]
   refine zdM (fun z=>no (fun n=>by have:=n.2.2.1;omega) _ s) (fun z=>?_)
   refine ⟨rl,ts,rs,m,rfl,s _ _ W.hl,W.ht.same s,m1,m60,gr,fun d kvs H2 s2 h2 hc=>?_⟩
   refine ⟨_,rfl,kvs,h2,zdM (fun y=>no (fun n=>?_) _ (s.trans s2)) (fun y=>q ⟨bn,m1,m60,by omega,hc.mp (by omega)⟩ _ (s.trans s2))⟩
   have:=hc.mpr n.2.2.2
   omega
theorem zcv:zaN ["web","many","roads","k","road"] ["web"] (zap zfa):=⟨rfl,rfl,rfl,by decide +kernel,rfl,by decide +kernel,by decide +kernel⟩
theorem zfX (T:Txt K mg base a):zcJ P w K mg base (CXW P w) 5 a.f_look_web a.d_look_web ["web"] (ze8 a):=by
 have G_is_road:=zgN (P:=P) (w:=w) (base:=base) T
 have G_is_whole:=zf9 (P:=P) (w:=w) (base:=base) T
 have G_places_come_to:=zfc (P:=P) (w:=w) (base:=base) T
 have G__NoWeb:=zg9 (P:=P) (w:=w) (base:=base) T
 refine T.F_look_web.okW zcv (fun vs H Q E h=>?_) (fun cdv A outer s H vs Q E hr h=>?_)
 ·obtain ⟨w',rl,ts,m,rs,rfl,W,l200,q,e⟩:=h
  rfl
 obtain ⟨w',rl,ts,m,rs,rfl,W,l200,q,e⟩:=h
 exact ⟨ze9 K a E,(zaf (zb1 (zcl (PW.pt (zew (zcO (zci (zau zaH rfl T.z_isinstance PyProof.Rows.boot_isinstance (zaa (pv 0) (zaa (zbo rfl T.z_tuple zb4 rfl) zae))))) (zew (zbb zfU (zau zaG rfl T.z_len PySem.boot_len (zaa (pv 0) zae)) zao (zbe _)) (zew (zcO (zci (zaF G_is_whole (hr.mono (by decide)) rfl T.m_is_whole T.F_is_whole.kp T.b_is_whole .nil zbl (zaa (zco zfq (pv 0) zao (fun _ _=>rfl)) zae)))) (zdA (zcO (zci (zau zaH rfl T.z_isinstance PyProof.Rows.boot_isinstance (zaa (zco zfq (pv 0) zao (fun _ _=>rfl)) (zaa (zbo rfl T.z_list zcH rfl) zae)))))))))) (zas (zdi T.X_NoWeb G__NoWeb (hr.mono (by decide)) rfl T.m_NoWeb T.bi_NoWeb zbl rfl ziS (zaa (znt zjS zao) zae))) zbc))
 (zaf (zl2 (pv 0) (zeC rfl (zaX (zaM (i:=1) zcv.nd rfl (Or.inl rfl)) (zaX (zaM (i:=2) zcv.nd rfl (Or.inl rfl)) zcX))))
 (zaf (zdT PassesOwn.leaving rfl (zl6 rfl T.z_enumerate (zaa (pv 2) zae)) (zeC rfl (zaX (zaM (i:=3) zcv.nd rfl (Or.inl rfl)) (zaX (zaM (i:=4) zcv.nd rfl (Or.inl rfl)) zcX)))
 (zas (zcl (zcO (zci (zaF G_is_road (hr.mono (by decide)) rfl T.m_is_road T.F_is_road.kp T.b_is_road .nil zbl (zaa (pv 4) (zaa (pv 1) zae))))) (zas (zdi T.X_NoWeb G__NoWeb (hr.mono (by decide)) rfl T.m_NoWeb T.bi_NoWeb zbl rfl ziS (zaa (pv 3) zae))) zbc)))
 (zas (zcl (PW.pt (zew (zcO (zjN zkj zkj zao (pv 1) (zgj rfl T.m_MOST_PLACES ⟨_,rfl⟩))) (zew (zbb zn5 (zau zaG rfl T.z_len PySem.boot_len (zaa (pv 2) zae)) (zgj rfl T.m_MOST_ROADS ⟨_,rfl⟩) (zbe _)) (zdA (zbb zn9 (zau zf2 rfl T.z_len PySem.boot_len (zaa (zaF G_places_come_to (hr.mono (by decide)) rfl T.m_places_come_to T.F_places_come_to.kp T.b_places_come_to .nil zbl (zaa (pv 2) zae)) zae)) (pv 1) (zbe _)))))) (zas (zdi T.X_NoWeb G__NoWeb (hr.mono (by decide)) rfl T.m_NoWeb T.bi_NoWeb zbl rfl ziS (zaa (znt zjS zao) zae))) zbc))))),
  ziY W l200 q e⟩
inductive Sh (H:Hp):Tr→V→Prop where
 | int (i:Int):Sh H (.int i) (.int i)
 | bl (b:Bool):Sh H (.bl b) (.bl b)
 | str (x:Str):Sh H (.str x) (.str x)
 | non:Sh H .non .non
 | lst {p:Addr} {xs:List V} {ts:List Tr} (h:H p=some (.lst xs)) (l:xs.length=ts.length) (e:∀ (i:Nat) x t,xs[i]?=some x→ts[i]?=some t→Sh H t x):Sh H (.lst ts) (.ref p)
 | tup {p:Addr} {xs:List V} {ts:List Tr} (h:H p=some (.tup xs)) (l:xs.length=ts.length) (e:∀ (i:Nat) x t,xs[i]?=some x→ts[i]?=some t→Sh H t x):Sh H (.tup ts) (.ref p)
structure ShL (H:Hp) (ts:List Tr) (xs:List V):Prop where
 len:xs.length=ts.length
 el:∀ (i:Nat) x t,xs[i]?=some x→ts[i]?=some t→Sh H t x
theorem zg2 {n:Nat} (h:n<100000):n<sizeLine:=Nat.lt_of_lt_of_le h (by decide)
def NwH (H H':Hp):Hp:=fun a=>if H a=none then H' a else none
theorem zlp {A X:Hp} {a:Addr} {o:HO}:NwH A X a=some o↔A a=none∧X a=some o:=by
 unfold NwH
 by_cases h:A a=none
 ·rw [if_pos h];exact ⟨fun z=>⟨h,z⟩,fun z=>z.2⟩
 ·rw [if_neg h];exact ⟨fun z=>(by cases z),fun z=>absurd z.1 h⟩
theorem zhq {A X B Y:Hp} (h:∀ a o,A a=none→X a=some o→B a=none∧Y a=some o):za1 (NwH A X) (NwH B Y):=fun a o e=>by
 have:=zlp.mp e
 exact zlp.mpr (h a o this.1 this.2)
theorem zly {A B X Y:Hp} (s:za1 B A) (t:za1 X Y):za1 (NwH A X) (NwH B Y):=zhq fun a o e1 e2=>⟨s.free e1,t _ _ e2⟩
theorem zmu {K:PySem.W.Frag} {a:Addr} {xs:List V} {te:TE} {σ:St} {H:Hp} {D:Addr} {Q:VK} (Rl:Nat→Hp→V→Prop) (st:∀ i H H' v,za1 H H'→Rl i H v→Rl i H' v) (hl:SqL K H a xs) (hD:H D=none) (hx:xs.length≤99999)
  (hs:∀ (i:Nat) x H' (R:VK),xs[i]?=some x→za1 H H'→(∀ y H'',za1 H' H''→Rl i (NwH H' H'') y→R y H'')→te (σ.set 0 (some x)) H' R)
  (hd:∀ H' ys,za1 H H'→ys.length=xs.length→(∀ (i:Nat) y,ys[i]?=some y→Rl i (NwH H H') y)→H' D=some (.lst ys)→Q (.ref D) H'):zfV (Itl K a) (zar 0) zcf te D Q σ (L2.upd H D (.lst [])):=by
 refine zff (xs:=xs) (fun i ys σ' H'=>za1 H H'∧(∀ x,σ'.set 0 x=σ.set 0 x)∧i≤xs.length∧ys.length=i∧∀ (j:Nat) y,ys[j]?=some y→Rl j (NwH (L2.upd H D (.lst [])) H') y) ⟨zaC hD _,fun _=>rfl,Nat.zero_le _,rfl,fun j y e=>by cases e⟩ ?_ ?_ ?_
 ·rintro i ys σ' H' _ ⟨s,_⟩
  exact s.seq hl
 ·rintro i x ys σ' H' e hD' ⟨s,es,hi,ly,hr⟩
  have li:=(List.getElem?_eq_some_iff.mp e).1
  show te (σ'.set 0 (some x)) H' _
  rw [es]
  refine hs i x H' _ e s fun y H'' s2 hy=>?_
  refine ⟨D,_,_,rfl,rfl,s2 _ _ hD',zg2 (by omega),_,zad,(s.trans s2).put hD,fun y=>by rw [List.set_set],by omega,by rw [List.length_append,ly];rfl,?_⟩
  intro j z ez
  have nD:∀ b,L2.upd H D (.lst []) b=none→b≠D:=fun b hb z=>by rw [z,zad] at hb;cases hb
  by_cases c:j<ys.length
  ·rw [List.getElem?_append_left c] at ez
   refine st j _ _ z (zhq fun b o e1 e2=>⟨e1,?_⟩) (hr j z ez)
   rw [zaq (nD b e1)]
   exact s2 _ _ e2
  ·rw [List.getElem?_append_right (by omega)] at ez
   have l1:=(List.getElem?_eq_some_iff.mp ez).1
   rw [List.length_singleton] at l1
   have ej:j - ys.length=0:=by omega
   rw [ej] at ez
   cases ez
   have ei:j=i:=by omega
   subst ei
   refine st j _ _ y (zhq fun b o e1 e2=>?_) hy
   have nb:b≠D:=fun z=>by rw [z,hD'] at e1;cases e1
   rw [zaq nb,zaq nb]
   exact ⟨s.free e1,e2⟩
 ·rintro ys σ' H' hD' ⟨s,es,_,ly,hr⟩
  exact hd H' ys s ly (fun i y e=>st i _ _ y (zly (zaC hD _) (.refl _)) (hr i y e)) hD'
theorem zkE {x:Str} {te:TE} {σ:St} {H:Hp} {D:Addr} {Q:VK} (f:Nat→Bool) (hx:x.length≤99999) (hD:H D=none)
  (hs:∀ (i:Nat) c H' (R:VK),x.cps[i]?=some c→za1 H H'→(∀ H'',za1 H' H''→R (.bl (f c)) H'')→te (σ.set 0 (some (.str ⟨#[c]⟩))) H' R)
  (hd:∀ H',za1 H H'→H' D=some (.lst ((x.cps.toList.map f).map V.bl))→Q (.ref D) H'):zfV (Its x) (zar 0) zcf te D Q σ (L2.upd H D (.lst [])):=by
 have lx:x.length=x.cps.toList.length:=by simp [Str.length]
 have lx2:x.cps.size=x.cps.toList.length:=by simp
 refine zk4 (x:=x) (fun i ys σ' H'=>za1 H H'∧(∀ x,σ'.set 0 x=σ.set 0 x)∧ys=((x.cps.toList.take i).map f).map V.bl) ⟨zaC hD _,fun _=>rfl,rfl⟩ ?_ ?_
 ·rintro i c ys σ' H' e hD' ⟨s,es,rfl⟩
  have ec:x.cps.toList[i]?=some c:=by rw [Array.getElem?_toList];exact e
  show te (σ'.set 0 _) H' _
  rw [es]
  refine hs i _ H' _ e s fun H'' s2=>?_
  refine ⟨D,_,_,rfl,rfl,s2 _ _ hD',zg2 (by rw [List.length_map,List.length_map,List.length_take];omega),_,zad,(s.trans s2).put hD,fun y=>by rw [List.set_set],?_⟩
  rw [List.take_add_one,ec,List.map_append,List.map_append]
  rfl
 ·rintro ys σ' H' hD' ⟨s,es,rfl⟩
  rw [List.take_of_length_le (by omega)] at hD'
  exact hd H' s hD'
section
variable {σ:St} {te ta tb:TE} {tas:TA} {tl th:TO} {t:Tr} {ts us:List Tr} {i j:Int} {o1 o2:Option Int}
end
def zeZ:Str:="read_web.<locals>.<lambda>"
abbrev LT (H:Hp) (P:Addr):Prop:=zcP H P znF zeZ
def zdb (ws:List Str):Option (List Int):=ws.mapM zgq
theorem zcN (w:Str) (ws:List Str):zdb (w::ws)=(zgq w).bind fun n=>(zdb ws).bind fun ns=>some (n::ns):=by
 unfold zdb
 rw [List.mapM_cons]
 rfl
theorem ze1:∀ {ws:List Str},zdb ws=none↔inV .non (ws.map fun w=>zjd (zgq w))=true
 | []=>by constructor <;> intro h <;> cases h
 | w::ws=>by
  rw [zcN,List.map_cons]
  have ih:=ze1 (ws:=ws)
  show _↔(eqV (zjd (zgq w)) .non || inV .non (ws.map fun w=>zjd (zgq w)))=true
  cases hn:zgq w with
  | none=>exact ⟨fun _=>rfl,fun _=>rfl⟩
  | some n =>
   show ((zdb ws).bind fun ns=>some (n::ns))=none↔(false || inV .non (ws.map fun w=>zjd (zgq w)))=true
   rw [Bool.false_or,← ih]
   cases zdb ws with
   | none=>exact ⟨fun _=>rfl,fun _=>rfl⟩
   | some ns=>exact ⟨fun h=>(by cases h),fun h=>(by cases h)⟩
theorem zfh:∀ {ws:List Str} {ns:List Int},zdb ws=some ns→(ws.map fun w=>zjd (zgq w))=ns.map V.int
 | [],ns,h=>by cases h;rfl
 | w::ws,ns,h=>by
  rw [zcN] at h
  cases hn:zgq w with
  | none=>rw [hn] at h;cases h
  | some n =>
   rw [hn] at h
   have h:((zdb ws).bind fun ns=>some (n::ns))=some ns:=h
   cases hs:zdb ws with
   | none=>rw [hs] at h;cases h
   | some ms =>
    rw [hs] at h
    cases h
    rw [List.map_cons,List.map_cons,zfh hs,hn]
    rfl
def zf3 (row:Str):Option Int:=if (Txt.split row (Str.ofString " ")).length=2∧(Txt.split row (Str.ofString " ")).getD 0 ""=Str.ofString "web" then zgq ((Txt.split row (Str.ofString " ")).getD 1 "") else none
def zl8 (m:Int):List Int→Option zbk
 | [x,y,l]=>if GR m (x,y,l) then some (x,y,l) else none
 | _=>none
def zfF (m:Int) (row:Str):Option zbk:=if (Txt.split row (Str.ofString " ")).length=4∧(Txt.split row (Str.ofString " ")).getD 0 ""=Str.ofString "road" then (zdb ((Txt.split row (Str.ofString " ")).drop 1)).bind (zl8 m) else none
abbrev Rdd:=Option (Int×List zbk)
def zd5 (s:Rdd) (row:Str):Option Rdd:=match s with
 | none=>(zf3 row).map fun m=>some (m,[])
 | some (m,rs)=>(zfF m row).map fun r=>some (m,rs++[r])
def zii:Rdd→Nat→List Str→Nat ⊕ Rdd
 | s,_,[]=>.inr s
 | s,k,row::rows=>match zd5 s row with
  | none=>.inl k
  | some s'=>zii s' (k+1) rows
theorem zmS {s:Rdd} {k:Nat} {rows:List Str} {row:Str} (e:rows[k]?=some row) (h:zd5 s row=none):zii s k (rows.drop k)=.inl k:=by
 obtain ⟨l,e'⟩:=List.getElem?_eq_some_iff.mp e
 rw [List.drop_eq_getElem_cons l,e']
 show (match zd5 s row with | none=>Sum.inl k | some s'=>zii s' (k+1) (rows.drop (k+1)))=_
 rw [h]
theorem zoV {s s':Rdd} {k:Nat} {rows:List Str} {row:Str} (e:rows[k]?=some row) (h:zd5 s row=some s'):zii s k (rows.drop k)=zii s' (k+1) (rows.drop (k+1)):=by
 obtain ⟨l,e'⟩:=List.getElem?_eq_some_iff.mp e
 rw [List.drop_eq_getElem_cons l,e']
 show (match zd5 s row with | none=>Sum.inl k | some s'=>zii s' (k+1) (rows.drop (k+1)))=_
 rw [h]
theorem zny {s:Rdd} {k:Nat} {rows:List Str} (l:rows.length≤k):zii s k (rows.drop k)=.inr s:=by
 rw [List.drop_eq_nil_of_le l]
 rfl
def zeT (rows:List Str):Nat ⊕ Rdd:=match zii none 0 rows.dropLast with
 | .inl k=>.inl k
 | .inr s=>if rows.dropLast=[]∨rows.getLastD ""≠"" then .inl (rows.length - 1) else .inr s
theorem znf {rows:List Str} {k:Nat} (h:zii none 0 rows.dropLast=.inl k):zeT rows=.inl k:=by
 unfold zeT
 rw [h]
theorem zjM {rows:List Str} {s:Rdd} (h:zii none 0 rows.dropLast=.inr s):zeT rows=if rows.dropLast=[]∨rows.getLastD ""≠"" then .inl (rows.length - 1) else .inr s:=by
 unfold zeT
 rw [h]
open Classical in
noncomputable def zkP (rows:List Str):Nat ⊕ (Int×List zbk):=match zeT rows with
 | .inl k=>.inl k
 | .inr none=>.inl (rows.length - 1)
 | .inr (some (m,rs))=>if zmk m rs then .inr (m,rs) else .inl (rows.length - 1)
theorem znZ (xs:List V) (k:Nat):zmj xs (some (k:Int)) none=xs.drop k:=by
 unfold zmj
 rw [HT.sIx_none,HT.sIx_nat]
 by_cases h:k≤xs.length
 ·rw [Nat.min_eq_left h,List.take_of_length_le (by rw [List.length_drop];exact Nat.le_refl _)]
 ·rw [Nat.min_eq_right (by omega),List.drop_eq_nil_of_le (Nat.le_refl _),List.drop_eq_nil_of_le (by omega),List.take_nil]
theorem zoG:Str.ofString " "=⟨#[32]⟩:=by decide +kernel
theorem zgD:Str.ofString "\n"=⟨#[10]⟩:=by decide +kernel
def zog:Sp:=fun vs H Q _=>∃ w:Str,vs=[.str w]∧w.length≤640∧∀ H',za1 H H'→Q (zjd (zgq w)) H'
def zex (K:PySem.W.Frag):TS :=
 (za0 (zfK (zch (zoO (tB (tBM K "str" zg5 (zac 0) (zab (tC (.str "0")) zat))) (za8 (tOp rNe (zac 0) (tC (.str "0"))))) (zbW (tC .non)) za9))
 (zbW (tCB znj (zab (zac 0) zat))))
theorem zcd (K:PySem.W.Frag) (D:zbV) (σ:St) (H:Hp):zex K D σ H=(za0 (zfK (zch (zoO (tB (tBM K "str" zg5 (zac 0) (zab (tC (.str "0")) zat))) (za8 (tOp rNe (zac 0) (tC (.str "0"))))) (zbW (tC .non)) za9))
 (zbW (tCB znj (zab (zac 0) zat)))) D σ H:=rfl
def zey (K:PySem.W.Frag):TS :=
 (zch (tOr (zeV (za8 (zfm (rI0 fun i j=>.bl (decide (i≤j))) (rI0 fun i j=>.bl (decide (i≤j))) (tC (.int 1)) (tCB zni (zab (zac 0) zat)) (tC (.int 2000))))) (zeV (tB (tCB (rAll K) (zab (zgt (iStr (zac 0)) (zar 0) zcf (tOp rInS (zac 0) (tC (.str "0123456789"))) [none]) zat))))) (zbW (tC .non)) za9)
theorem zcg (K:PySem.W.Frag) (D:zbV) (σ:St) (H:Hp):zey K D σ H=(zch (tOr (zeV (za8 (zfm (rI0 fun i j=>.bl (decide (i≤j))) (rI0 fun i j=>.bl (decide (i≤j))) (tC (.int 1)) (tCB zni (zab (zac 0) zat)) (tC (.int 2000))))) (zeV (tB (tCB (rAll K) (zab (zgt (iStr (zac 0)) (zar 0) zcf (tOp rInS (zac 0) (tC (.str "0123456789"))) [none]) zat))))) (zbW (tC .non)) za9) D σ H:=rfl
def zeb (K:PySem.W.Frag):TS :=
 (za0 (zfK (zey K))
 (zex K))
theorem all_map {α:Type} {f:α→Bool}:∀ (l:List α),(l.map f).all id=l.all f
 | []=>rfl
 | a::l=>by rw [List.map_cons,List.all_cons,List.all_cons,all_map l];rfl
theorem zcC {n:Nat} (h:n≤99999):n≤sizeLine:=Nat.le_trans h (by decide)
theorem zhA {w:Str} (l:w.length≤640) (q:∀ H',za1 H H'→Q (zjd (zgq w)) H'):zeb K { nx:=fun _ H'=>Q .non H',rt:=Q } (L2.zbu ["word"] [.str w]) H:=by
 unfold zeb
 have lw:w.length=w.cps.toList.length:=by simp [Str.length]
 have qn:okW w=false→∀ H',za1 H H'→Q .non H':=fun e H' s=>by
  have:=q H' s
  unfold zgq at this
  rw [if_neg (by rw [e];exact Bool.false_ne_true)] at this
  exact this
 simp_all only [zac]
 refine ⟨fun σ H'=>za1 H H'∧1≤w.length∧w.cps.toList.all dg=true∧σ=[some (.str w)],?_,?_⟩
 ·simp_all only [zcd,zcg,zac]
  refine ⟨zcC (by omega),?_⟩
  by_cases l1:(1:Int)≤(w.length:Int)
  ·rw [if_pos l1,if_neg (by omega)]
   intro D hD
   refine zkE dg (by omega) hD ?_ ?_
   ·intro i c H' R hc s r
    refine ⟨_,rfl,_,_,rfl,rfl,?_⟩
    rw [zpA]
    exact r H' (.refl _)
   ·intro H' s hD'
    refine ⟨_,rfl,_,SqL.of hD',?_⟩
    rw [all_map]
    cases ha:w.cps.toList.all dg with
    | false =>
     rw [if_pos rfl]
     exact qn (by unfold okW;rw [ha,Bool.and_false,Bool.false_and]) H' s
    | true =>
     rw [if_neg (by decide)]
     exact ⟨s,by omega,rfl⟩
  ·rw [if_neg l1]
   exact qn (by unfold okW;rw [decide_eq_false (by omega),Bool.false_and,Bool.false_and]) H (.refl _)
 ·rintro σ H1 ⟨s1,l1,hd,rfl⟩
  have e0:okW w=!(decide (w.cps.toList.head?=some 48)&&!decide (w=Str.ofString "0")):=by
   unfold okW
   rw [hd,decide_eq_true l1,Bool.true_and,Bool.true_and]
  refine ⟨fun σ H'=>za1 H H'∧okW w=true∧σ=[some (.str w)],?_,?_⟩
  ·simp_all only [zcd,zcg,zac]
   refine ⟨rfl,?_⟩
   rw [zoh]
   by_cases h1:w.cps.toList.head?=some 48
   ·rw [if_pos (decide_eq_true h1)]
    refine ⟨rfl,?_⟩
    by_cases h2:w=Str.ofString "0"
    ·rw [if_neg (fun z=>z h2)]
     exact ⟨s1,by rw [e0,decide_eq_true h1,decide_eq_true h2];rfl⟩
    ·rw [if_pos h2]
     exact qn (by rw [e0,decide_eq_true h1,decide_eq_false h2];rfl) H1 s1
   ·rw [if_neg (by rw [decide_eq_false h1];exact Bool.false_ne_true)]
    exact ⟨s1,by rw [e0,decide_eq_false h1];rfl⟩
  ·rintro σ H2 ⟨s2,hk,rfl⟩
   obtain ⟨n,hn,_⟩:=znl hd l1 (by omega)
   have q2:=q H2 s2
   unfold zgq at q2
   rw [if_pos hk,hn] at q2
   simp_all only [zcd,zcg,zac]
   exact ⟨l,n,hn,q2⟩
theorem ziB:zaN ["word"] ["word"] (zap zcU):=⟨rfl,rfl,rfl,by decide +kernel,rfl,by decide +kernel,by decide +kernel⟩
theorem zfs (T:Txt K mg base a):zcJ P w K mg base CX0 1 a.f_number_in a.d_number_in ["word"] zog:=by
 refine T.F_number_in.ok ziB (fun vs H Q E h=>?_) (fun cdv A outer s H vs Q E hr h=>?_)
 ·obtain ⟨w,rfl,l,q⟩:=h
  rfl
 obtain ⟨w,rfl,l,q⟩:=h
 exact ⟨zeb K,(zaf (zb1 (zcl (PW.pt (zew (zcO (zjN zkj zkj zao (zau zlR rfl T.z_len PySem.boot_len (zaa (pv 0) zae)) (zgj rfl T.m_MOST_FIGURES ⟨_,rfl⟩))) (zdA (zcO (zci (zau (zns rfl) rfl T.z_all PyProof.Rows.boot_all (zaa (zg4 (sc:=zap zcU) (N:=["word"]) (Nc:=["sign"]) (cap:=[none]) rfl rfl rfl (.of (by decide +kernel)) (zpY (pv 0)) (fun _ _ _ _=>(zaM (i:=0) (show List.Nodup (["sign"]:List Str) from by decide) rfl (Or.inl rfl))) (fun _ _ _ _=>zgr) (fun _ _ _ _=>(zcZ zqg (pv 0) (zgj rfl T.m_FIGURES ⟨_,rfl⟩) (by with_unfolding_all rfl)))) zae))))))) (zas (zaZ zcI)) zbc))
 (zaf (zb1 (zcl (PW.pt (zmd (zci (zgA PySem.F.plainAttrs_str PySem.F.slot_str_startswith PySem.F.type_str_startswith zlL (pv 0) (zaa zbS zae))) (ziR (zbb zfU (pv 0) zbS (zbe _))))) (zas (zaZ zcI)) zbc))
 (zas (zaZ (zbX zkY rfl T.z_int zfN (zaa (pv 0) zae)))))),
  zhA l q⟩
def zlq (K:PySem.W.Frag):Sp:=fun vs H Q _=>∃ (p:Addr) (ws:List Str),vs=[.ref p]∧SqL K H p (ws.map V.str)∧ws.length≤99999∧(∀ w∈ws,w.length≤640)∧(zdb ws=none→∀ H',za1 H H'→Q .non H')∧∀ ns,zdb ws=some ns→∀ D H',za1 H H'→H D=none→H' D=some (.lst (ns.map V.int))→Q (.ref D) H'
def zdq (K:PySem.W.Frag):TS :=
 (za0 (zbF (zgt (ziw K (zac 0)) (zar 0) zcf (zaK zog [] E0 (zab (zac 0) zat)) [none]) (zar 1))
 (zbW (tIf (za8 (tOp (rIn K false) (tC .non) (zac 1))) (tC .non) (zac 1))))
theorem zlF (ws:List Str):(ws.map fun w=>zjd (zgq w)).all zgw=true:=by
 rw [List.all_map]
 refine List.all_eq_true.mpr fun w _=>?_
 show zgw (zjd (zgq w))=true
 cases zgq w <;> rfl
theorem zmf {a D:Addr} {ws:List Str} {te:TE} {σ:St} (hl:SqL K H a (ws.map V.str)) (hD:H D=none) (hx:ws.length≤99999)
  (hs:∀ (i:Nat) w H' (R:VK),ws[i]?=some w→za1 H H'→(∀ H'',za1 H' H''→R (zjd (zgq w)) H'')→te (σ.set 0 (some (.str w))) H' R)
  (hd:∀ H',za1 H H'→H' D=some (.lst (ws.map fun w=>zjd (zgq w)))→Q (.ref D) H'):zfV (Itl K a) (zar 0) zcf te D Q σ (L2.upd H D (.lst [])):=by
 refine zmu (fun i _ v=>∃ w,ws[i]?=some w∧v=zjd (zgq w)) (fun _ _ _ _ _ h=>h) hl hD (by rw [List.length_map];exact hx) ?_ ?_
 ·intro i x H' R e s r
  obtain ⟨w,hw,rfl⟩:=zdD e
  exact hs i w H' R hw s fun H'' s2=>r _ H'' s2 ⟨w,hw,rfl⟩
 ·intro H' ys s ly hr hD'
  refine hd H' s ?_
  have ey:ys=ws.map fun w=>zjd (zgq w):=by
   refine List.ext_getElem? fun i=>?_
   by_cases c:i<ys.length
   ·obtain ⟨w,hw,e⟩:=hr i _ (List.getElem?_eq_getElem c)
    rw [List.getElem?_eq_getElem c,List.getElem?_map,hw,e]
    rfl
   ·rw [List.getElem?_eq_none (by omega),List.getElem?_eq_none (by rw [List.length_map] at ly ⊢;omega)]
  rw [← ey]
  exact hD'
theorem zg8 {p:Addr} {ws:List Str} (hp:SqL K H p (ws.map V.str)) (lw:ws.length≤99999) (lws:∀ w∈ws,w.length≤640) (q0:zdb ws=none→∀ H',za1 H H'→Q .non H') (q1:∀ ns,zdb ws=some ns→∀ D H',za1 H H'→H D=none→H' D=some (.lst (ns.map V.int))→Q (.ref D) H'):zdq K { nx:=fun _ H'=>Q .non H',rt:=Q } (L2.zbu ["words","numbers"] [.ref p]) H:=by
 unfold zdq
 simp_all only [zac]
 refine ⟨⟨_,hp⟩,fun D hD=>zmf hp hD lw ?_ ?_⟩
 ·intro i w H' R e s r
  exact ⟨_,rfl,w,rfl,lws w (zda e),r⟩
 ·intro H' s hD'
  refine ⟨D,rfl,_,.inl (SqL.of hD'),rfl,zlF ws,?_⟩
  cases hn:zdb ws with
  | none =>
   rw [if_pos (ze1.mp hn)]
   exact q0 hn H' s
  | some ns =>
   rw [if_neg (fun z=>by rw [ze1.mpr z] at hn;cases hn)]
   rw [zfh hn] at hD'
   exact q1 ns hn D H' s hD hD'
theorem zeQ:zaN ["words","numbers"] ["words"] (zap zcx):=⟨rfl,rfl,rfl,by decide +kernel,rfl,by decide +kernel,by decide +kernel⟩
theorem zhd (T:Txt K mg base a):zcJ P w K mg base CX0 2 a.f_numbers_in a.d_numbers_in ["words"] (zlq K):=by
 have G_number_in:=zfs (P:=P) (w:=w) (base:=base) T
 refine T.F_numbers_in.ok zeQ (fun vs H Q E h=>?_) (fun cdv A outer s H vs Q E hr h=>?_)
 ·obtain ⟨p,ws,rfl,hp,lw,lws,q0,q1⟩:=h
  rfl
 obtain ⟨p,ws,rfl,hp,lw,lws,q0,q1⟩:=h
 exact ⟨zdq K,(zaf (zky (i:=1) zeQ.nd rfl rfl (sc:=zap zcx) (N:=["words","numbers"]) (Nc:=["word"]) (cap:=[none]) rfl rfl rfl (.of (by decide +kernel)) (zgv (pv 0)) (fun _ _ _ _=>(zaM (i:=0) (show List.Nodup (["word"]:List Str) from by decide) rfl (Or.inl rfl))) (fun _ _ _ _=>zgr) (fun _ _ _ _=>(zaF G_number_in (hr.mono (by decide)) rfl T.m_number_in T.F_number_in.kp T.b_number_in .nil zbl (zaa (pv 0) zae))))
 (zas (zaZ (zfM (zbb zlK zcI (pv 1) (by with_unfolding_all rfl)) zcI (pv 1))))),
  zg8 hp lw lws q0 q1⟩
theorem zjT {row:Str} (hr:Rn 640 row) (h10:10∉sgn row):∀ w∈Txt.split row (Str.ofString " "),w.length≤640:=fun w hw=>by
 rw [zoG] at hw
 have h1:=zj5 hr w hw
 have h2:=StrLaws.split_free row 32 w hw
 unfold Rn at h1
 rw [zlT (sgn w) _ h2 (fun m=>h10 (part_sub hw m))] at h1
 rw [zeX]
 omega
where
 part_sub {c d:Nat} {row w:Str} (hw:w∈Txt.split row ⟨#[c]⟩) (m:d∈sgn w):d∈sgn row:=by
  have key:∀ l:List Str,w∈l→d∈sgn (Str.join ⟨#[c]⟩ l):=by
   intro l
   induction l with
   | nil=>intro h;cases h
   | cons x l ih =>
    intro h
    cases l with
    | nil=>rw [List.mem_singleton.mp h] at m;exact m
    | cons z l =>
     rw [zeu]
     rcases List.mem_cons.mp h with rfl | h
     ·exact List.mem_append_left _ m
     ·exact List.mem_append_right _ (List.mem_append_right _ (ih h))
  have:=key _ hw
  rw [StrLaws.join_split] at this
  exact this
theorem zjH (row:Str):∃ w0 wr,Txt.split row (Str.ofString " ")=w0::wr:=by
 cases e:Txt.split row (Str.ofString " ") with
 | nil=>exact absurd e (zg7 _ _)
 | cons a l=>exact ⟨a,l,rfl⟩
theorem zli {ws:List Str} {ns:List Int} (h:zdb ws=some ns):ns.length=ws.length:=by
 have:=congrArg List.length (zfh h)
 rw [List.length_map,List.length_map] at this
 exact this.symm
theorem len1 {α:Type} {l:List α} (h:l.length=1):∃ a,l=[a]:=by
 match l,h with
 | [a],_=>exact ⟨a,rfl⟩
theorem len3 {α:Type} {l:List α} (h:l.length=3):∃ a b c,l=[a,b,c]:=by
 match l,h with
 | [a,b,c],_=>exact ⟨a,b,c,rfl⟩
def zjC:Sp:=fun vs H Q _=>∃ row:Str,vs=[.str row]∧Rn 640 row∧10∉sgn row∧row.length≤90000∧∀ H',za1 H H'→Q (zjd (zf3 row)) H'
def zgl (K:PySem.W.Frag):TS :=
 (za0 (zbF (tBM K "str" zhv (zac 0) (zab (tC (.str " ")) zat)) (zar 1))
 (zbW (tIf (zoO (za8 (tOp rEq (tCB (fun xs H Q=>∃ p ys,xs=[.ref p]∧(SqL K H p ys∨SqT K H p ys)∧Q (.int ys.length) H) (zab (zac 1) zat)) (tC (.int 2)))) (za8 (tOp rEq (tOp (zer K) (zac 1) (tC (.int 0))) (tC (.str "web"))))) (zaK zog [] E0 (zab (tOp (zer K) (zac 1) (tC (.int 1))) zat)) (tC .non))))
theorem zkk {row:Str} (hr:Rn 640 row) (h10:10∉sgn row) (lr:row.length≤90000) (q:∀ H',za1 H H'→Q (zjd (zf3 row)) H'):zgl K { nx:=fun _ H'=>Q .non H',rt:=Q } (L2.zbu ["row","words"] [.str row]) H:=by
 unfold zgl
 simp_all only [zac]
 refine ⟨rfl,by decide +kernel,by omega,fun p hp=>?_⟩
 have lws:=zjT hr h10
 obtain ⟨w0,wr,ew⟩:=zjH row
 unfold zf3 at q
 rw [ew] at q lws ⊢
 have q0:¬ ((w0::wr).length=2∧(w0::wr).getD 0 ""=Str.ofString "web")→∀ H',za1 H H'→Q .non H':=fun c H' s=>by
  have:=q H' s
  rw [if_neg c] at this
  exact this
 refine ⟨_,.inl (SqL.of zad),?_⟩
 rw [List.length_map]
 by_cases l2:(w0::wr).length=2
 ·rw [if_pos (by rw [l2];rfl)]
  refine ⟨_,SqL.of zad,.str w0,zca (j:=0) rfl,rfl,?_⟩
  by_cases e0:w0=Str.ofString "web"
  ·rw [if_pos (by rw [e0])]
   obtain ⟨w1,rfl⟩:=len1 (l:=wr) (Nat.succ.inj l2)
   refine ⟨_,SqL.of zad,.str w1,zca (j:=1) rfl,w1,rfl,lws w1 (by simp),fun H' s=>?_⟩
   have:=q H' ((zaC hp _).trans s)
   rw [if_pos ⟨l2,e0⟩] at this
   exact this
  ·rw [if_neg (fun z=>e0 (V.str.inj z))]
   exact q0 (fun z=>e0 z.2) _ (zaC hp _)
 ·rw [if_neg (fun z=>l2 (by omega))]
  exact q0 (fun z=>l2 z.1) _ (zaC hp _)
theorem zgH:zaN ["row","words"] ["row"] (zap zgg):=⟨rfl,rfl,rfl,by decide +kernel,rfl,by decide +kernel,by decide +kernel⟩
theorem zkF (T:Txt K mg base a):zcJ P w K mg base CX0 2 a.f_many_in a.d_many_in ["row"] zjC:=by
 have G_number_in:=zfs (P:=P) (w:=w) (base:=base) T
 refine T.F_many_in.ok zgH (fun vs H Q E h=>?_) (fun cdv A outer s H vs Q E hr h=>?_)
 ·obtain ⟨row,rfl,hR,h10,lr,q⟩:=h
  rfl
 obtain ⟨row,rfl,hR,h10,lr,q⟩:=h
 exact ⟨zgl K,(zaf (zaU (i:=1) zgH.nd rfl (Or.inl rfl) (zgA PySem.F.plainAttrs_str PySem.F.slot_str_split PySem.F.type_str_split zhn (pv 0) (zaa zbS zae)))
 (zas (zaZ (zfM (PW.pt (zmd (zbb zi7 (zau zaG rfl T.z_len PySem.boot_len (zaa (pv 1) zae)) zao (zbe _)) (ziR (zbb zi7 (zco zbQ (pv 1) zao (fun _ _=>rfl)) zbS (zbe _))))) (zaF G_number_in (hr.mono (by decide)) rfl T.m_number_in T.F_number_in.kp T.b_number_in .nil zbl (zaa (zco zbQ (pv 1) zao (fun _ _=>rfl)) zae)) zcI)))),
  zkk hR h10 lr q⟩
def zfG:Sp:=fun vs H Q _=>∃ (row:Str) (m:Int),vs=[.str row,.int m]∧Rn 640 row∧10∉sgn row∧row.length≤90000∧(zfF m row=none→∀ H',za1 H H'→Q .non H')∧∀ r,zfF m row=some r→∀ t H',za1 H H'→H t=none→H' t=some (.tup (rdv r))→Q (.ref t) H'
def zem (K:PySem.W.Frag):TS :=
 (za0 (zbF (zaK (zlq K) [] E0 (zab (tSl (zpc K) (zac 2) (zkM (tC (.int 1))) zeW) zat)) (zar 3))
 (zbW (tIf (tOr (za8 (tOp (fun x y H Q=>y=.non∧Q (.bl (decide (x=.non))) H) (zac 3) (tC .non))) (zeV (tB (zaK zeE [] E0 (zab (tCB (fun xs H Q=>∃ p ys,xs=[.ref p]∧((SqL K H p ys∧∀ l,H l=none→Q (.ref l) (upd H l (.tup ys)))∨(SqT K H p ys∧Q (.ref p) H))) (zab (zac 3) zat)) (zab (zac 1) zat)))))) (tC .non) (tCB (fun xs H Q=>∃ p ys,xs=[.ref p]∧((SqL K H p ys∧∀ l,H l=none→Q (.ref l) (upd H l (.tup ys)))∨(SqT K H p ys∧Q (.ref p) H))) (zab (zac 3) zat)))))
theorem zdY (K:PySem.W.Frag) (D:zbV) (σ:St) (H:Hp):zem K D σ H=(za0 (zbF (zaK (zlq K) [] E0 (zab (tSl (zpc K) (zac 2) (zkM (tC (.int 1))) zeW) zat)) (zar 3))
 (zbW (tIf (tOr (za8 (tOp (fun x y H Q=>y=.non∧Q (.bl (decide (x=.non))) H) (zac 3) (tC .non))) (zeV (tB (zaK zeE [] E0 (zab (tCB (fun xs H Q=>∃ p ys,xs=[.ref p]∧((SqL K H p ys∧∀ l,H l=none→Q (.ref l) (upd H l (.tup ys)))∨(SqT K H p ys∧Q (.ref p) H))) (zab (zac 3) zat)) (zab (zac 1) zat)))))) (tC .non) (tCB (fun xs H Q=>∃ p ys,xs=[.ref p]∧((SqL K H p ys∧∀ l,H l=none→Q (.ref l) (upd H l (.tup ys)))∨(SqT K H p ys∧Q (.ref p) H))) (zab (zac 3) zat))))) D σ H:=rfl
def zd6 (K:PySem.W.Frag):TS :=
 (zch (tOr (za8 (tOp rNe (tCB (fun xs H Q=>∃ p ys,xs=[.ref p]∧(SqL K H p ys∨SqT K H p ys)∧Q (.int ys.length) H) (zab (zac 2) zat)) (tC (.int 4)))) (za8 (tOp rNe (tOp (zer K) (zac 2) (tC (.int 0))) (tC (.str "road"))))) (zbW (tC .non)) za9)
theorem zdV (K:PySem.W.Frag) (D:zbV) (σ:St) (H:Hp):zd6 K D σ H=(zch (tOr (za8 (tOp rNe (tCB (fun xs H Q=>∃ p ys,xs=[.ref p]∧(SqL K H p ys∨SqT K H p ys)∧Q (.int ys.length) H) (zab (zac 2) zat)) (tC (.int 4)))) (za8 (tOp rNe (tOp (zer K) (zac 2) (tC (.int 0))) (tC (.str "road"))))) (zbW (tC .non)) za9) D σ H:=rfl
def zgm (K:PySem.W.Frag):TS :=
 (za0 (zbF (tBM K "str" zhv (zac 0) (zab (tC (.str " ")) zat)) (zar 2))
 (za0 (zfK (zd6 K))
 (zem K)))
theorem zkr {row:Str} {m:Int} (hr:Rn 640 row) (h10:10∉sgn row) (lr:row.length≤90000) (q0:zfF m row=none→∀ H',za1 H H'→Q .non H') (q1:∀ r,zfF m row=some r→∀ t H',za1 H H'→H t=none→H' t=some (.tup (rdv r))→Q (.ref t) H'):zgm K { nx:=fun _ H'=>Q .non H',rt:=Q } (L2.zbu ["row","many","words","numbers"] [.str row,.int m]) H:=by
 unfold zgm
 simp_all only [zac]
 refine ⟨rfl,by decide +kernel,by omega,fun p hp=>?_⟩
 have lws:=zjT hr h10
 obtain ⟨w0,wr,ew⟩:=zjH row
 unfold zfF at q0 q1
 rw [ew] at q0 q1 lws ⊢
 have s1:za1 H (L2.upd H p (.lst ((w0::wr).map V.str))):=zaC hp _
 have h1:L2.upd H p (.lst ((w0::wr).map V.str)) p=some (.lst ((w0::wr).map V.str)):=zad
 generalize L2.upd H p (.lst ((w0::wr).map V.str))=H1 at s1 h1
 have bad:¬ ((w0::wr).length=4∧(w0::wr).getD 0 ""=Str.ofString "road")→Q .non H1:=fun c=>q0 (if_neg c) _ s1
 refine ⟨fun σ H'=>H'=H1∧wr.length=3∧w0=Str.ofString "road"∧σ=[some (.str row),some (.int m),some (.ref p),none],?_,?_⟩
 ·unfold zd6
  simp_all only [zdY,zdV,zac]
  refine ⟨_,.inl (SqL.of h1),?_⟩
  rw [List.length_map]
  by_cases l4:(w0::wr).length=4
  ·rw [if_neg (fun z=>z (by rw [l4];rfl))]
   refine ⟨_,SqL.of h1,.str w0,zca (j:=0) rfl,rfl,?_⟩
   by_cases e0:w0=Str.ofString "road"
   ·rw [if_neg (fun z=>z (by rw [e0]))]
    exact ⟨Nat.succ.inj l4,e0⟩
   ·rw [if_pos (fun z=>e0 (V.str.inj z))]
    exact bad (fun z=>e0 z.2)
  ·rw [if_pos (fun z=>l4 (by omega))]
   exact bad (fun z=>l4 z.1)
 ·rintro σ H2 ⟨rfl,l3,e0,rfl⟩
  rw [if_pos ⟨by rw [List.length_cons,l3],e0⟩] at q0 q1
  unfold zem
  simp_all only [zdY,zdV,zac]
  refine ⟨_,SqL.of h1,fun p2 hp2=>?_⟩
  rw [show zmj ((w0::wr).map V.str) (some 1) none=wr.map V.str from znZ _ 1]
  have s2:za1 H2 (L2.upd H2 p2 (.lst (wr.map V.str))):=zaC hp2 _
  refine ⟨p2,wr,rfl,SqL.of zad,by omega,fun x hx=>lws x (by simp [hx]),fun hn H3 s3=>?_,fun ns hn D H3 s3 hD hD3=>?_⟩
  ·show ite _ _ _
   rw [if_pos rfl]
   exact q0 (by rw [show (w0::wr).drop 1=wr from rfl,hn];rfl) _ (s1.trans (s2.trans s3))
  ·show ite _ _ _
   rw [if_neg (fun z=>V.noConfusion z)]
   obtain ⟨x,y,l,rfl⟩:=len3 (l:=ns) (by rw [zli hn,l3])
   have s4:za1 H H3:=s1.trans (s2.trans s3)
   have ed:(w0::wr).drop 1=wr:=rfl
   have er:(zdb ((w0::wr).drop 1)).bind (zl8 m)=if GR m (x,y,l) then some (x,y,l) else none:=by rw [ed,hn];rfl
   rw [er] at q0 q1
   refine ⟨D,rfl,_,.inl ⟨SqL.of hD3,fun t ht=>⟨t,(x,y,l),m,rfl,zad,_,rfl,?_⟩⟩⟩
   by_cases g:GR m (x,y,l)
   ·rw [decide_eq_true g,if_neg (by decide)]
    rw [if_pos g] at q1
    refine ⟨D,rfl,_,.inl ⟨SqL.of ((zaC ht _) _ _ hD3),fun t2 ht2=>?_⟩⟩
    exact q1 _ rfl t2 _ ((s4.add ht).add ht2) ((s4.add ht).free ht2) zad
   ·rw [decide_eq_false g,if_pos rfl]
    rw [if_neg g] at q0
    exact q0 rfl _ (s4.add ht)
theorem zfj:zaN ["row","many","words","numbers"] ["row","many"] (zap zf1):=⟨rfl,rfl,rfl,by decide +kernel,rfl,by decide +kernel,by decide +kernel⟩
theorem zkD (T:Txt K mg base a):zcJ P w K mg base CX0 4 a.f_road_in a.d_road_in ["row","many"] zfG:=by
 have G_is_road:=zgN (P:=P) (w:=w) (base:=base) T
 have G_numbers_in:=zhd (P:=P) (w:=w) (base:=base) T
 refine T.F_road_in.ok zfj (fun vs H Q E h=>?_) (fun cdv A outer s H vs Q E hr h=>?_)
 ·obtain ⟨row,m,rfl,hR,h10,lr,q0,q1⟩:=h
  rfl
 obtain ⟨row,m,rfl,hR,h10,lr,q0,q1⟩:=h
 exact ⟨zgm K,(zaf (zaU (i:=2) zfj.nd rfl (Or.inl rfl) (zgA PySem.F.plainAttrs_str PySem.F.slot_str_split PySem.F.type_str_split zhn (pv 0) (zaa zbS zae)))
 (zaf (zb1 (zcl (PW.pt (zew (zbb zfU (zau zaG rfl T.z_len PySem.boot_len (zaa (pv 2) zae)) zao (zbe _)) (zdA (zbb zfU (zco zbQ (pv 2) zao (fun _ _=>rfl)) zbS (zbe _))))) (zas (zaZ zcI)) zbc))
 (zaf (zaU (i:=3) zfj.nd rfl (Or.inl rfl) (zaF G_numbers_in (hr.mono (by decide)) rfl T.m_numbers_in T.F_numbers_in.kp T.b_numbers_in .nil zbl (zaa (zhe zjs (pv 2) (zjm zao) zjo) zae)))
 (zas (zaZ (zfM (PW.pt (zew (zbb zjU (pv 3) zcI (zbe _)) (zdA (zcO (zci (zaF G_is_road (hr.mono (by decide)) rfl T.m_is_road T.F_is_road.kp T.b_is_road .nil zbl (zaa (zbX zeA rfl T.z_tuple zb4 (zaa (pv 3) zae)) (zaa (pv 1) zae)))))))) zcI (zbX zeA rfl T.z_tuple zb4 (zaa (pv 3) zae)))))))),
  zkr hR h10 lr q0 q1⟩
theorem zgG:zaN ["self","row"] ["self","row"] (zap zb0):=⟨rfl,rfl,rfl,by decide +kernel,rfl,by decide +kernel,by decide +kernel⟩
theorem zgy (T:Txt K mg base a):zcJ P w K mg base CX0 1 a.i_NoText a.j_NoText ["self","row"] (ziq a.c_NoText "row"):=by
 refine T.I_NoText.ok zgG (fun vs H Q E h=>?_) (fun cdv A outer s H vs Q E hr h=>?_)
 ·obtain ⟨y,v,rfl,hy,q⟩:=h
  rfl
 obtain ⟨y,v,rfl,hy,q⟩:=h
 exact ⟨_,(zaf (zcn (zei rfl T.m_HideError T.B (zaa (pv 0) (zaa (pv 1) zae)))) (zas (zjw (pv 0) (pv 1) rfl))),zjx T.X_NoText T.xa_NoText.na hy q⟩
theorem zgn (T:Txt K mg base a):zm9 P w K mg base 1 a.i_NoText a.j_NoText ["self","row"] (ziq a.c_NoText "row"):=by
 refine T.I_NoText.okH zgG (fun vs H Q E h=>?_) (fun cdv A outer s H vs Q E h=>?_)
 ·obtain ⟨y,v,rfl,hy,q⟩:=h
  rfl
 obtain ⟨y,v,rfl,hy,q⟩:=h
 exact ⟨_,(zaf (zcn (zei rfl T.m_HideError T.B (zaa (pv 0) (zaa (pv 1) zae)))) (zas (zjw (pv 0) (pv 1) rfl))),zjx T.X_NoText T.xa_NoText.na hy q⟩
def RdS (s:Rdd) (H:Hp) (xs:List V):Prop:=match s with
 | none=>xs=[]
 | some (m,rs)=>∃ ts:List Addr,xs=V.int m::ts.map V.ref∧Tps rdv H ts rs
theorem RdS.keep {s:Rdd} {H H':Hp} {xs:List V} (h:RdS s H xs) (k:∀ b ys,H b=some (.tup ys)→H' b=some (.tup ys)):RdS s H' xs:=by
 match s,h with
 | none,h=>exact h
 | some (m,rs),⟨ts,e,T⟩=>exact ⟨ts,e,T.1,fun i x r e1 e2=>k _ _ (T.2 i x r e1 e2)⟩
def zgF (a:Ad):Sp:=fun vs H Q E=>∃ (text:Str) (q:Addr),vs=[.str text,.ref q]∧zoi zph zeZ H q∧Rn 640 text∧text.length≤80000 ∧
 (∀ m rs D ts H',zeT (Txt.split text (Str.ofString "\n"))=.inr (some (m,rs))→za1 H H'→H D=none→H' D=some (.lst (V.int m::ts.map V.ref))→Tps rdv H' ts rs→rs.length+2=(Txt.split text (Str.ofString "\n")).length→Q (.ref D) H') ∧
 ∀ (k:Nat) dx H',zeT (Txt.split text (Str.ofString "\n"))=.inl k→za1 H H'→H dx=none→H' dx=some (.xd [("row",.int k)])→E (.ref a.c_NoText) (some dx) H'
def zcV (K:PySem.W.Frag) (a:Ad) (E:XK):TS :=
 (zch (tOr (zeV (zp9 K (zac 3))) (za8 (tOp rNe (tOp (zer K) (zac 2) (tUn (rU fun i=>.int (-i)) (tC (.int 1)))) (tC (.str ""))))) (zb2 a.c_NoText "row" E (zab (tCB (fun xs H Q=>∃ p ys,xs=[.ref p]∧(SqL K H p ys∨SqT K H p ys)∧Q (.int ys.length) H) (zab (zac 3) zat)) zat)) za9)
theorem zbL (K:PySem.W.Frag) (a:Ad) (E:XK) (D:zbV) (σ:St) (H:Hp):zcV K a E D σ H=(zch (tOr (zeV (zp9 K (zac 3))) (za8 (tOp rNe (tOp (zer K) (zac 2) (tUn (rU fun i=>.int (-i)) (tC (.int 1)))) (tC (.str ""))))) (zb2 a.c_NoText "row" E (zab (tCB (fun xs H Q=>∃ p ys,xs=[.ref p]∧(SqL K H p ys∨SqT K H p ys)∧Q (.int ys.length) H) (zab (zac 3) zat)) zat)) za9) D σ H:=rfl
def zcj (a:Ad) (E:XK):TS :=
 (zch (za8 (tOp (fun x y H Q=>y=.non∧Q (.bl (decide (x=.non))) H) (zac 6) (tC .non))) (zb2 a.c_NoText "row" E (zab (zac 4) zat)) za9)
theorem zbN (a:Ad) (E:XK) (D:zbV) (σ:St) (H:Hp):zcj a E D σ H=(zch (za8 (tOp (fun x y H Q=>y=.non∧Q (.bl (decide (x=.non))) H) (zac 6) (tC .non))) (zb2 a.c_NoText "row" E (zab (zac 4) zat)) za9) D σ H:=rfl
def zc2 (K:PySem.W.Frag) (a:Ad) (E:XK):TS :=
 (za0 (zbF (zkb zph zeZ 1 (tIf (zp9 K (zac 1)) (zaK zfG [] E0 (zab (zac 0) (zab (tOp (zer K) (zac 1) (tC (.int 0))) zat))) (zaK zjC [] E0 (zab (zac 0) zat))) (zab (zac 5) (zab (zac 3) zat))) (zar 6))
 (za0 (zfK (zcj a E))
 (zdo (tBM K "list" zbP (zac 3) (zab (zac 6) zat)))))
theorem zbs (K:PySem.W.Frag) (a:Ad) (E:XK) (D:zbV) (σ:St) (H:Hp):zc2 K a E D σ H=(za0 (zbF (zkb zph zeZ 1 (tIf (zp9 K (zac 1)) (zaK zfG [] E0 (zab (zac 0) (zab (tOp (zer K) (zac 1) (tC (.int 0))) zat))) (zaK zjC [] E0 (zab (zac 0) zat))) (zab (zac 5) (zab (zac 3) zat))) (zar 6))
 (za0 (zfK (zcj a E))
 (zdo (tBM K "list" zbP (zac 3) (zab (zac 6) zat))))) D σ H:=rfl
def zep (K:PySem.W.Frag) (a:Ad) (E:XK):TS :=
 (za0 (zbF (tBM K "str" zhv (zac 0) (zab (tC (.str "\n")) zat)) (zar 2))
 (za0 (zbF (zjn zat) (zar 3))
 (za0 (zha (zlr K (zab (tSl (zpc K) (zac 2) zeW (zkM (tUn (rU fun i=>.int (-i)) (tC (.int 1))))) zat)) (ziH K 2 (zbv (zar 4) (zbv (zar 5) ziI)))
 (zc2 K a E))
 (za0 (zfK (zcV K a E))
 (zbW (zac 3))))))
theorem zoE {xs:List V} {v:V} {n:Nat} (l:xs.length=n+1) (h:xs[n]?=some v):atI xs (-1)=some v:=by
 have e:xs=xs.dropLast++[v]:=by
  have ne:xs≠[]:=fun z=>by rw [z] at l;cases l
  have:=List.dropLast_concat_getLast ne
  rw [List.getLast_eq_getElem] at this
  have hv:xs[xs.length - 1]'(by omega)=v:=by
   have h2:xs[xs.length - 1]?=some v:=by rw [l];exact h
   exact (List.getElem?_eq_some_iff.mp h2).2
  rw [hv] at this
  exact this.symm
 rw [e]
 exact znh _ _
theorem zmQ (xs:List V):zmj xs none (some (-1))=xs.dropLast:=by
 unfold zmj
 show List.take (HT.sIx xs.length xs.length (some (-1)) - 0) (List.drop 0 xs)=_
 rw [List.drop_zero,Nat.sub_zero,List.dropLast_eq_take]
 have:HT.sIx xs.length xs.length (some (-1))=xs.length - 1:=by
  show (if (-1:Int)<0 then ((-1:Int)+(xs.length:Int)).toNat else min (-1:Int).toNat xs.length)=_
  rw [if_pos (by decide)]
  omega
 rw [this]
theorem zoR {R:VK} {s:Rdd} {r:Str} {xs:List V} {rd:Addr} (hx:H rd=some (.lst xs)) (sx:RdS s H xs) (k1:Rn 640 r) (k2:10∉sgn r) (k3:r.length≤90000)
  (hR:∀ v H3,za1 H H3→(zd5 s r=none→v=.non)→(∀ s',zd5 s r=some s'→v≠.non∧s'≠none∧RdS s' H3 (xs++[v]))→R v H3) :
  ∃ k,zpj K (.ref rd) H k∧if k=true then ∃ x,SqL K H rd x∧∃ x_1,atI x 0=some x_1∧zfG [.str r,x_1] H R E0 else zjC [.str r] H R E0:=by
 match s,sx with
 | none,sx =>
  have sx:xs=[]:=sx
  subst sx
  refine ⟨_,.inl ⟨[],SqL.of hx,rfl⟩,?_⟩
  rw [if_neg (show ¬ (![].isEmpty)=true from fun z=>Bool.noConfusion z)]
  refine ⟨r,rfl,k1,k2,k3,fun H3 s3=>hR _ H3 s3 (fun h=>?_) (fun s' h=>?_)⟩
  ·cases hm:zf3 r with
   | none=>rfl
   | some m =>
    have h:(zf3 r).map (fun m=>some (m,([]:List zbk)))=none:=h
    rw [hm] at h
    cases h
  ·have h:(zf3 r).map (fun m=>some (m,([]:List zbk)))=some s':=h
   cases hm:zf3 r with
   | none=>rw [hm] at h;cases h
   | some m =>
    rw [hm] at h
    cases h
    exact ⟨fun z=>V.noConfusion z,(fun z=>by cases z),[],rfl,.nil⟩
 | some (m,rs),⟨ts,e,T⟩ =>
  subst e
  refine ⟨_,.inl ⟨_,SqL.of hx,rfl⟩,?_⟩
  rw [if_pos (show (!(V.int m::ts.map V.ref).isEmpty)=true from rfl)]
  refine ⟨_,SqL.of hx,.int m,zca (j:=0) rfl,r,m,rfl,k1,k2,k3,fun hn H3 s3=>hR _ H3 s3 (fun _=>rfl) (fun s' h=>?_),fun r' hr' t H3 s3 ht ht3=>hR _ H3 s3 (fun h=>?_) (fun s' h=>?_)⟩
  ·have h:(zfF m r).map (fun r=>some (m,rs++[r]))=some s':=h
   rw [hn] at h
   cases h
  ·have h:(zfF m r).map (fun r=>some (m,rs++[r]))=none:=h
   rw [hr'] at h
   cases h
  ·have h:(zfF m r).map (fun r=>some (m,rs++[r]))=some s':=h
   rw [hr'] at h
   cases h
   exact ⟨fun z=>V.noConfusion z,(fun z=>by cases z),ts++[t],by rw [List.map_append];rfl,T.put (fun x u e=>s3 _ _ e) ht3⟩
theorem zie {E:XK} {text:Str} {q:Addr} (L:zoi zph zeZ H q) (hr:Rn 640 text) (lt:text.length≤80000)
  (q1:∀ m rs D ts H',zeT (Txt.split text (Str.ofString "\n"))=.inr (some (m,rs))→za1 H H'→H D=none→H' D=some (.lst (V.int m::ts.map V.ref))→Tps rdv H' ts rs→rs.length+2=(Txt.split text (Str.ofString "\n")).length→Q (.ref D) H')
  (q2:∀ (k:Nat) dx H',zeT (Txt.split text (Str.ofString "\n"))=.inl k→za1 H H'→H dx=none→H' dx=some (.xd [("row",.int k)])→E (.ref a.c_NoText) (some dx) H'):zep K a E { nx:=fun _ H'=>Q .non H',rt:=Q } (L2.zbu ["text","read_row","rows","read","k","row","thing"] [.str text,.ref q]) H:=by
 unfold zep
 simp_all only [zac]
 refine ⟨rfl,by decide +kernel,by omega,fun p hp=>⟨by decide,fun rd hrd=>?_⟩⟩
 generalize eR:Txt.split text (Str.ofString "\n")=rows at *
 have rne:rows≠[]:=by rw [← eR];exact zg7 _ _
 have rln:rows.length≤80001:=by
  rw [← eR,zgD]
  have:=ziz text 10
  omega
 have rok:∀ r∈rows,Rn 640 r∧10∉sgn r∧r.length≤90000:=fun r h=>by
  rw [← eR,zgD] at h
  exact ⟨zj5 hr r h,StrLaws.split_free text 10 r h,Nat.le_trans (zgM text 10 r h) (by omega)⟩
 have npr:p≠rd:=fun z=>by rw [z,zad] at hrd;cases hrd
 refine ⟨_,SqL.of (by rw [zaq npr];exact zad),fun sl hsl=>⟨⟨_,SqL.of zad⟩,?_⟩⟩
 rw [zmQ]
 have nsr:sl≠rd:=fun z=>by rw [z,zad] at hsl;cases hsl
 have nsp:sl≠p:=fun z=>by rw [z,zaq npr,zad] at hsl;cases hsl
 generalize eH:L2.upd (L2.upd (L2.upd H p (.lst (rows.map V.str))) rd (.lst [])) sl (.lst (rows.map V.str).dropLast)=H0
 have s0:za1 H H0:=by rw [← eH];exact ((zaC hp _).add hrd).add hsl
 have h0p:H0 p=some (.lst (rows.map V.str)):=by rw [← eH,zaq nsp.symm,zaq npr,zad]
 have h0s:H0 sl=some (.lst (rows.map V.str).dropLast):=by rw [← eH,zad]
 have h0r:H0 rd=some (.lst []):=by rw [← eH,zaq nsr.symm,zad]
 have hHr:H rd=none:=(zaC hp _).free hrd
 have ld:(rows.map V.str).dropLast.length=rows.length - 1:=by rw [List.length_dropLast,List.length_map]
 have edl:(rows.map V.str).dropLast=rows.dropLast.map V.str:=List.map_dropLast.symm
 refine zh0 (xs:=(rows.map V.str).dropLast) (fun i σ H'=>Bar rd H0 H'∧i≤rows.length - 1∧(∃ (s:Rdd) (xs:List V),H' rd=some (.lst xs)∧xs.length=i∧RdS s H' xs∧(i≠0→s≠none)∧zii none 0 rows.dropLast=zii s i (rows.dropLast.drop i))∧∃ x4 x5 x6,σ=[some (.str text),some (.ref q),some (.ref p),some (.ref rd),x4,x5,x6]) ⟨fun _ _ _ e=>e,Nat.zero_le _,⟨none,[],h0r,rfl,rfl,fun z=>absurd rfl z,rfl⟩,_,_,_,rfl⟩ ?_ ?_ ?_
 ·rintro i σ H' _ ⟨b,_⟩
  exact SqL.of (b _ _ nsr h0s)
 ·rintro i x t σ H' e ⟨b,hi,⟨s,xs,hx,lx,sx,sn,run⟩,x4,x5,x6,rfl⟩ ht
  rw [edl] at e
  obtain ⟨r,er,rfl⟩:=zdD e
  have li:=(List.getElem?_eq_some_iff.mp e).1
  rw [List.length_map,List.length_dropLast] at li
  obtain ⟨k1,k2,k3⟩:=rok r (List.dropLast_subset _ (zda er))
  unfold zc2
  simp_all only [zbs,zac]
  have ntr:t≠rd:=fun z=>by rw [z,hx] at ht;cases ht
  have sH':za1 H H':=fun b' o e=>b _ _ (zaw e hHr) (s0 _ _ e)
  have s1:za1 H' (L2.upd H' t (.tup [.int i,.str r])):=zaC ht _
  have h1t:L2.upd H' t (.tup [.int i,.str r]) t=some (.tup [.int i,.str r]):=zad
  generalize L2.upd H' t (.tup [.int i,.str r])=H1 at s1 h1t
  have hx1:=s1 _ _ hx
  refine ⟨_,SqT.of h1t,rfl,_,_,rfl,_,_,rfl,rfl,L.same (sH'.trans s1),?_⟩
  refine zoR hx1 (sx.keep fun b ys e=>s1 _ _ e) k1 k2 k3 fun v H3 s3 en es=>?_
  have s4:za1 H' H3:=s1.trans s3
  refine ⟨fun σ H4=>H4=H3∧v≠.non∧σ=[some (.str text),some (.ref q),some (.ref p),some (.ref rd),some (.int i),some (.str r),some v],?_,?_⟩
  ·unfold zcj
   simp_all only [zbL,zbN,zbs,zac]
   by_cases hv:v=.non
   ·rw [if_pos hv]
    intro dx hdx
    refine q2 i dx _ ?_ ((sH'.trans s4).add hdx) ((sH'.trans s4).free hdx) zad
    have en:zd5 s r=none:=by
     cases h:zd5 s r with
     | none=>rfl
     | some t=>exact absurd hv (es t h).1
    exact znf (run.trans (zmS er en))
   ·rw [if_neg hv]
    exact hv
  ·rintro σ H4 ⟨rfl,hv,rfl⟩
   simp_all only [zbL,zbN,zbs,zac]
   have hx4:H4 rd=some (.lst xs):=s4 _ _ hx
   obtain ⟨s',hs'⟩:∃ s',zd5 s r=some s':=by
    cases h:zd5 s r with
    | none=>exact absurd (en h) hv
    | some s'=>exact ⟨s',rfl⟩
   have bb:Bar rd H0 (L2.upd H4 rd (.lst (xs++[v]))):=fun b' o n e=>by
    rw [zaq n]
    exact s4 _ _ (b b' o n e)
   refine ⟨.inl ⟨rfl,xs,SqL.of hx4⟩,xs,hx4,zg2 (by omega),bb,by omega,s',xs++[v],zad,by rw [List.length_append,lx];rfl,(es s' hs').2.2.keep fun b' ys e'=>?_,fun _=>(es s' hs').2.1,run.trans (zoV er hs')⟩
   rw [zaq fun z=>by rw [z,hx4] at e';cases e']
   exact e'
 ·rintro σ H' ⟨b,_,⟨s,xs,hx,lx,sx,sn,run⟩,x4,x5,x6,rfl⟩
  rw [ld] at lx sn run
  have sH':za1 H H':=fun b' o e=>b _ _ (zaw e hHr) (s0 _ _ e)
  rw [zny (by rw [List.length_dropLast];exact Nat.le_refl _)] at run
  have eo:=zjM run
  obtain ⟨r0,hr0⟩:∃ r0,rows[rows.length - 1]?=some r0:=⟨_,List.getElem?_eq_getElem (by have:=List.length_pos_iff.mpr rne;omega)⟩
  have hl0:rows.getLastD ""=r0:=by
   rw [List.getLastD_eq_getLast?,List.getLast?_eq_getElem?,hr0]
   rfl
  have hat:atI (rows.map V.str) (-1)=some (.str r0):=zoE (n:=rows.length - 1) (by rw [List.length_map];have:=List.length_pos_iff.mpr rne;omega) (by rw [List.getElem?_map,hr0];rfl)
  have hdl:rows.dropLast=[]↔rows.length - 1=0:=by rw [← List.length_eq_zero_iff,List.length_dropLast]
  refine ⟨fun σ H4=>H4=H'∧rows.length - 1≠0∧r0=Str.ofString ""∧σ=[some (.str text),some (.ref q),some (.ref p),some (.ref rd),x4,x5,x6],?_,?_⟩
  ·unfold zcV
   simp_all only [zbL,zbN,zbs,zac]
   have bad:zeT rows=.inl (rows.length - 1)→∃ x,(SqL K H' rd x∨SqT K H' rd x)∧∀ dx,H' dx=none→E (.ref a.c_NoText) (some dx) (L2.upd H' dx (.xd [(Str.ofString "row",.int x.length)])):=fun e=>⟨_,.inl (SqL.of hx),fun dx hdx=>q2 _ dx _ (by rw [e,lx]) (sH'.add hdx) (sH'.free hdx) zad⟩
   refine ⟨_,.inl ⟨xs,SqL.of hx,rfl⟩,?_⟩
   cases hxs:xs with
   | nil =>
    rw [hxs] at lx
    rw [if_pos (show (!([]:List V).isEmpty)=false from rfl)]
    exact bad (eo.trans (if_pos (.inl (hdl.mpr lx.symm))))
   | cons x0 xt =>
    rw [if_neg (show ¬ (!(x0::xt).isEmpty)=false from fun z=>Bool.noConfusion z)]
    have l0:rows.length - 1≠0:=by rw [← lx,hxs,List.length_cons];omega
    refine ⟨_,SqL.of (b _ _ npr h0p),_,hat,rfl,?_⟩
    by_cases he:r0=Str.ofString ""
    ·rw [if_neg (fun z=>z (by rw [he]))]
     exact ⟨l0,he⟩
    ·rw [if_pos (fun z=>he (V.str.inj z))]
     exact bad (eo.trans (if_pos (.inr (by rw [hl0];exact he))))
  ·rintro σ H4 ⟨rfl,hz,he,rfl⟩
   simp_all only [zbL,zbN,zbs,zac]
   match s,sx,eo,sn hz with
   | none,_,_,z=>exact absurd rfl z
   | some (m,rs),⟨ts,e,T⟩,eo,_ =>
    rw [e,List.length_cons,List.length_map,T.1] at lx
    refine q1 m rs rd ts _ (eo.trans (if_neg ?_)) sH' hHr (by rw [← e];exact hx) T (by omega)
    rw [hdl,hl0]
    rintro (z | z)
    ·exact hz z
    ·exact z he
theorem zbU:zaN ["text","read_row","rows","read","k","row","thing"] ["text","read_row"] (zap zeq):=⟨rfl,rfl,rfl,by decide +kernel,rfl,by decide +kernel,by decide +kernel⟩
theorem ziC (T:Txt K mg base a):zcJ P w K mg base (CXV P w) 6 a.f_read_rows a.d_read_rows ["text","read_row"] (zgF a):=by
 have G_many_in:=zkF (P:=P) (w:=w) (base:=base) T
 have G_road_in:=zkD (P:=P) (w:=w) (base:=base) T
 have G__NoText:=zgy (P:=P) (w:=w) (base:=base) T
 refine T.F_read_rows.okV zbU (fun vs H Q E h=>?_) (fun cdv A outer s H vs Q E hr h=>?_)
 ·obtain ⟨text,q,rfl,L,hR,lt,q1,q2⟩:=h
  rfl
 obtain ⟨text,q,rfl,L,hR,lt,q1,q2⟩:=h
 exact ⟨zep K a E,(zaf (zaU (i:=2) zbU.nd rfl (Or.inl rfl) (zgA PySem.F.plainAttrs_str PySem.F.slot_str_split PySem.F.type_str_split zhn (pv 0) (zaa zbS zae)))
 (zaf (zaU (i:=3) zbU.nd rfl (Or.inl rfl) (zfn zae))
 (zaf (zdT PassesOwn.leaving rfl (zl6 rfl T.z_enumerate (zaa (zhe zjs (pv 2) zjo (zjm (znt zjS zao))) zae)) (zeC rfl (zaX (zaM (i:=4) zbU.nd rfl (Or.inl rfl)) (zaX (zaM (i:=5) zbU.nd rfl (Or.inl rfl)) zcX)))
 (zaf (zaU (i:=6) zbU.nd rfl (Or.inl rfl) (zmD (i:=1) (k:=4) rfl (Or.inl rfl) (hr.mono (by decide)) (zaa (pv 5) (zaa (pv 3) zae)) (fun _ _ _ _ _ _=>rfl) (by decide) rfl rfl rfl rfl rfl (by decide +kernel) (by decide +kernel) (fun _ _ _ _ _ _ hr=>(zfM (zjK (pv 1) (fun _=>rfl)) (zaF G_road_in (hr.mono (by decide)) rfl T.m_road_in T.F_road_in.kp T.b_road_in .nil zbl (zaa (pv 0) (zaa (zco zbQ (pv 1) zao (fun _ _=>rfl)) zae))) (zaF G_many_in (hr.mono (by decide)) rfl T.m_many_in T.F_many_in.kp T.b_many_in .nil zbl (zaa (pv 0) zae))))))
 (zaf (zb1 (zcl (zbb zjU (pv 6) zcI (zbe _)) (zas (zdi T.X_NoText G__NoText (hr.mono (by decide)) rfl T.m_NoText T.bi_NoText zbl rfl ziM (zaa (pv 4) zae))) zbc))
 (zas (zcn (zgA PySem.F.plainAttrs_list PySem.F.slot_list_append PySem.F.type_list_append zgh (pv 3) (zaa (pv 6) zae)))))))
 (zaf (zb1 (zcl (PW.pt (zew (zcO (zjK (pv 3) (fun _=>rfl))) (zdA (zbb zfU (zco zbQ (pv 2) (znt zjS zao) (fun _ _=>rfl)) zbS (zbe _))))) (zas (zdi T.X_NoText G__NoText (hr.mono (by decide)) rfl T.m_NoText T.bi_NoText zbl rfl ziM (zaa (zau zaG rfl T.z_len PySem.boot_len (zaa (pv 3) zae)) zae))) zbc))
 (zas (zaZ (pv 3))))))),
  zie L hR lt q1 q2⟩
def zes (a:Ad):Sp:=fun vs H Q E=>∃ text:Str,vs=[.str text]∧LT H a.p_lam∧Rn 640 text∧text.length≤80000 ∧
 (∀ m rs w rl ts H',zkP (Txt.split text (Str.ofString "\n"))=.inr (m,rs)→Bar a.p_lam H H'→LT H' a.p_lam→H w=none→H rl=none→zeG H' w rl ts m rs→Q (.ref w) H') ∧
 ∀ (k:Nat) dx H',zkP (Txt.split text (Str.ofString "\n"))=.inl k→Bar a.p_lam H H'→LT H' a.p_lam→H dx=none→H' dx=some (.xd [("row",.int k)])→E (.ref a.c_NoText) (some dx) H'
def zfg (K:PySem.W.Frag) (a:Ad) (E:XK):TS :=
 (za0 (zbF (zlx a.p_lam zph znF zeZ (zgF a) E (zac 0)) (zar 1))
 (za0 (zbF (zf5 (zab (tOp (zer K) (zac 1) (tC (.int 0))) (zab (tSl (zpc K) (zac 1) (zkM (tC (.int 1))) zeW) zat))) (zar 2))
 (za0 (zpa K (fun E'=>(zdo (zjG (ze8 a) [] E' (zab (zac 2) zat)))) (.ref a.c_NoWeb) a.c_NoText "row" E (zab (tCB (fun xs H Q=>∃ p ys,xs=[.ref p]∧(SqL K H p ys∨SqT K H p ys)∧Q (.int ys.length) H) (zab (zac 1) zat)) zat))
 (zbW (zac 2)))))
theorem zoe {rows:List Str} {k:Nat} (h:zeT rows=.inl k):zkP rows=.inl k:=by
 unfold zkP
 rw [h]
theorem znY {rows:List Str} {m:Int} {rs:List zbk} (h:zeT rows=.inr (some (m,rs))) (g:zmk m rs):zkP rows=.inr (m,rs):=by
 unfold zkP
 rw [h]
 exact if_pos g
theorem zlk {rows:List Str} {m:Int} {rs:List zbk} (h:zeT rows=.inr (some (m,rs))) (g:¬ zmk m rs):zkP rows=.inl (rows.length - 1):=by
 unfold zkP
 rw [h]
 exact if_neg g
theorem zi4 {E:XK} {text:Str} (su:PySem.W.subIn K (.ref a.c_NoWeb) (.ref a.c_NoWeb)=some true) (hP:LT H a.p_lam) (hr:Rn 640 text) (lt:text.length≤80000)
  (q1:∀ m rs w rl ts H',zkP (Txt.split text (Str.ofString "\n"))=.inr (m,rs)→Bar a.p_lam H H'→LT H' a.p_lam→H w=none→H rl=none→zeG H' w rl ts m rs→Q (.ref w) H')
  (q2:∀ (k:Nat) dx H',zkP (Txt.split text (Str.ofString "\n"))=.inl k→Bar a.p_lam H H'→LT H' a.p_lam→H dx=none→H' dx=some (.xd [("row",.int k)])→E (.ref a.c_NoText) (some dx) H'):zfg K a E { nx:=fun _ H'=>Q .non H',rt:=Q } (L2.zbu ["text","read","web"] [.str text]) H:=by
 unfold zfg
 simp_all only [zac]
 refine ⟨hP,fun qf H3 hb hl3 hq L=>?_⟩
 obtain ⟨ps3,hp3⟩:=hl3.tbl
 have new3:∀ b,H3 b=none→H b=none:=fun b e=>by
  have nP:b≠a.p_lam:=fun z=>by rw [z,hp3] at e;cases e
  cases h:H b with
  | none=>rfl
  | some o=>rw [hb b o nP h] at e;cases e
 have bar:∀ H',za1 H3 H'→Bar a.p_lam H H':=fun H' s b o n e=>s _ _ (hb b o n e)
 have l80:(Txt.split text (Str.ofString "\n")).length≤80001:=by
  rw [zgD]
  have:=ziz text 10
  omega
 refine ⟨text,qf,rfl,L,hr,lt,fun m rs D ts H4 eo s4 hD hD4 T lrs=>?_,fun k dx H4 eo s4 hdx h4=>q2 k dx H4 (zoe eo) (bar H4 s4) (hl3.same s4) (new3 dx hdx) h4⟩
 refine ⟨D,rfl,_,SqL.of hD4,.int m,zca (j:=0) rfl,D,rfl,_,SqL.of hD4,fun rl hrl=>⟨by decide,fun w hw=>?_⟩⟩
 rw [show zmj (V.int m::ts.map V.ref) (some 1) none=ts.map V.ref from znZ _ 1] at hw ⊢
 have nw:rl≠w:=fun z=>by rw [← z,zad] at hw;cases hw
 have s5:za1 H4 (L2.upd (L2.upd H4 rl (.lst (ts.map V.ref))) w (.tup [.int m,.ref rl])):=(zaC hrl _).add hw
 have W:zeG (L2.upd (L2.upd H4 rl (.lst (ts.map V.ref))) w (.tup [.int m,.ref rl])) w rl ts m rs:=⟨zad,by rw [zaq nw,zad],T.same s5⟩
 have nwH:H4 w=none:=by rw [zaq nw.symm] at hw;exact hw
 generalize L2.upd (L2.upd H4 rl (.lst (ts.map V.ref))) w (.tup [.int m,.ref rl])=H5 at s5 W
 refine ⟨w,rl,ts,m,rs,rfl,W,by omega,fun g H6 s6=>?_,fun d hd dx H6 s6 hdx=>⟨su,?_⟩⟩
 ·exact q1 m rs w rl ts H6 (znY eo g) (bar H6 (s4.trans (s5.trans s6))) (hl3.same (s4.trans (s5.trans s6))) (new3 w (s4.free nwH)) (new3 rl (s4.free hrl)) (W.same s6)
 ·have s7:=(s4.trans (s5.trans s6)).add hdx (o:=HO.xd [("road",V.int d)])
  have hD7:=((s5.trans s6).add hdx (o:=HO.xd [("road",V.int d)])) _ _ hD4
  generalize L2.upd H6 dx (HO.xd [("road",V.int d)])=H7 at s7 hD7
  have e7:(V.int m::ts.map V.ref).length=(Txt.split text (Str.ofString "\n")).length - 1:=by rw [List.length_cons,List.length_map,T.1];omega
  have fin:∀ dx2,H7 dx2=none→E (.ref a.c_NoText) (some dx2) (L2.upd H7 dx2 (HO.xd [(Str.ofString "row",V.int (V.int m::ts.map V.ref).length)])):=fun dx2 hdx2=>q2 _ dx2 _ (zlk eo fun g=>hd.not g) (bar _ (s7.add hdx2)) (hl3.same (s7.add hdx2)) (new3 dx2 (s7.free hdx2)) (by rw [zad,e7])
  first | exact ⟨_,.inl (SqL.of hD7),fin⟩ | exact ⟨D,rfl,_,.inl (SqL.of hD7),fin⟩ | exact ⟨_,rfl,D,rfl,_,.inl (SqL.of hD7),_,rfl,fin⟩
theorem zd7:zaN ["text","read","web"] ["text"] (zap zdQ):=⟨rfl,rfl,rfl,by decide +kernel,rfl,by decide +kernel,by decide +kernel⟩
theorem zgs (T:Txt K mg base a):zcJ P w K mg base (CXV P w) 7 a.f_read_web a.d_read_web ["text"] (zes a):=by
 have G_look_web:=zfX (P:=P) (w:=w) (base:=base) T
 have G_read_rows:=ziC (P:=P) (w:=w) (base:=base) T
 have GH_NoText:=zgn (P:=P) (w:=w) (base:=base) T
 refine T.F_read_web.okV zd7 (fun vs H Q E h=>?_) (fun A outer s H vs Q E hr h=>?_)
 ·obtain ⟨text,rfl,hP,hR,lt,q1,q2⟩:=h
  rfl
 obtain ⟨text,rfl,hP,hR,lt,q1,q2⟩:=h
 exact ⟨zfg K a E,(zaf (zaU (i:=1) zd7.nd rfl (Or.inl rfl) (zm6 G_read_rows (hr.mono (by decide)) rfl T.m_read_rows T.F_read_rows.kp T.b_read_rows passV (pv 0) rfl T.hC T.hB rfl rfl rfl rfl))
 (zaf (zaU (i:=2) zd7.nd rfl (Or.inl rfl) (zdx (zaa (zco zbQ (pv 1) zao (fun _ _=>rfl)) (zaa (zhe zjs (pv 1) (zjm zao) zjo) zae))))
 (zaf (zm2 T.m_NoWeb T.X_NoWeb rfl T.X_NoText GH_NoText (hr.mono (by decide)) rfl T.m_NoText T.bi_NoText zoL rfl rfl rfl (fun _=>PassesOwnAt.leaving) (fun pins E'=>(zas (zcn (zjY G_look_web (hr.mono (by decide)) rfl T.m_look_web T.F_look_web.kp T.b_look_web .nil zpU (zaa (pv 2) zae)))))
 (fun ea=>(zaa (zau zaG rfl T.z_len PySem.boot_len (zaa (pv 1) zae)) zae)))
 (zas (zaZ (pv 2)))))),
  zi4 T.su_NoWeb hP hR lt q1 q2⟩
def zld:Sp:=fun _ _ _ _=>False
theorem znz {P:Program} {w:World} {K:PySem.W.Frag} {mg:Str→Option Value} {base:Heap} {CX:CXT} {k:Nat} {f:Addr} {fd:FuncData} {ps:List Str}:zcJ P w K mg base CX k f fd ps zld :=
 ⟨fun _ _ _ _ h=>h.elim,fun _ _ _ _ _ _ _ _ _ _ _ _ _ h=>h.elim⟩
def zdW:TS :=
 (za0 (zbF (tOp (rI0 fun i j=>.int (i+j)) (tOp (rI (fun _ j=>0<j) fun i j=>.int (i % j)) (zac 3) (tOp (rI zk8 fun i j=>.int (i ^ j.toNat)) (tC (.int 10)) (tC (.int 18)))) (tOp (rI IntMulOk fun i j=>.int (i*j)) (tC (.int 48271)) (tOp (rI0 fun i j=>.int (i+j)) (zac 1) (tC (.int 1))))) (zar 5))
 (za0 (zbF (tOp (rI0 fun i j=>.int (i+j)) (tOp (rI (fun _ j=>0<j) fun i j=>.int (i % j)) (tOp (rI IntMulOk fun i j=>.int (i*j)) (zac 5) (zac 5)) (tC (.int 2147483629))) (tOp (rI IntMulOk fun i j=>.int (i*j)) (tC (.int 69621)) (zac 1))) (zar 5))
 (zbW (tOp (rI (fun _ j=>0<j) fun i j=>.int (i % j)) (tOp (rI IntMulOk fun i j=>.int (i*j)) (zac 5) (zac 5)) (tC (.int 2147483587))))))
theorem zaP (D:zbV) (σ:St) (H:Hp):zdW D σ H=(za0 (zbF (tOp (rI0 fun i j=>.int (i+j)) (tOp (rI (fun _ j=>0<j) fun i j=>.int (i % j)) (zac 3) (tOp (rI zk8 fun i j=>.int (i ^ j.toNat)) (tC (.int 10)) (tC (.int 18)))) (tOp (rI IntMulOk fun i j=>.int (i*j)) (tC (.int 48271)) (tOp (rI0 fun i j=>.int (i+j)) (zac 1) (tC (.int 1))))) (zar 5))
 (za0 (zbF (tOp (rI0 fun i j=>.int (i+j)) (tOp (rI (fun _ j=>0<j) fun i j=>.int (i % j)) (tOp (rI IntMulOk fun i j=>.int (i*j)) (zac 5) (zac 5)) (tC (.int 2147483629))) (tOp (rI IntMulOk fun i j=>.int (i*j)) (tC (.int 69621)) (zac 1))) (zar 5))
 (zbW (tOp (rI (fun _ j=>0<j) fun i j=>.int (i % j)) (tOp (rI IntMulOk fun i j=>.int (i*j)) (zac 5) (zac 5)) (tC (.int 2147483587)))))) D σ H:=rfl
def zd4 (K:PySem.W.Frag):TS :=
 (zch (za8 (tOp (rI0 fun i j=>.bl (decide (j<i))) (tCB (fun xs H Q=>∃ p ys,xs=[.ref p]∧(SqL K H p ys∨SqT K H p ys)∧Q (.int ys.length) H) (zab (zac 0) zat)) (tC (.int 0)))) (zbF (tOp (zer K) (zac 0) (tOp (rI (fun _ j=>0<j) fun i j=>.int (i % j)) (zac 1) (tCB (fun xs H Q=>∃ i j,xs=[.int i,.int j]∧Q (.int (if j<i then j else i)) H) (zab (tC (.int 63)) (zab (tCB (fun xs H Q=>∃ p ys,xs=[.ref p]∧(SqL K H p ys∨SqT K H p ys)∧Q (.int ys.length) H) (zab (zac 0) zat)) zat))))) (zar 3)) za9)
theorem zaQ (K:PySem.W.Frag) (D:zbV) (σ:St) (H:Hp):zd4 K D σ H=(zch (za8 (tOp (rI0 fun i j=>.bl (decide (j<i))) (tCB (fun xs H Q=>∃ p ys,xs=[.ref p]∧(SqL K H p ys∨SqT K H p ys)∧Q (.int ys.length) H) (zab (zac 0) zat)) (tC (.int 0)))) (zbF (tOp (zer K) (zac 0) (tOp (rI (fun _ j=>0<j) fun i j=>.int (i % j)) (zac 1) (tCB (fun xs H Q=>∃ i j,xs=[.int i,.int j]∧Q (.int (if j<i then j else i)) H) (zab (tC (.int 63)) (zab (tCB (fun xs H Q=>∃ p ys,xs=[.ref p]∧(SqL K H p ys∨SqT K H p ys)∧Q (.int ys.length) H) (zab (zac 0) zat)) zat))))) (zar 3)) za9) D σ H:=rfl
def zcz:TS :=
 (zch (za8 (tOp (rI0 fun i j=>.bl (decide (j<i))) (zac 3) (tC (.int 0)))) (zbW (tOp (rI (fun _ j=>0<j) fun i j=>.int (i % j)) (zac 3) (tC (.int 2147483587)))) za9)
theorem zaR (D:zbV) (σ:St) (H:Hp):zcz D σ H=(zch (za8 (tOp (rI0 fun i j=>.bl (decide (j<i))) (zac 3) (tC (.int 0)))) (zbW (tOp (rI (fun _ j=>0<j) fun i j=>.int (i % j)) (zac 3) (tC (.int 2147483587)))) za9) D σ H:=rfl
def zd0 (K:PySem.W.Frag):TS :=
 (zch (zoO (za8 (tOp (rI0 fun i j=>.bl (decide (i<j))) (zac 2) (tCB (fun xs H Q=>∃ p ys,xs=[.ref p]∧(SqL K H p ys∨SqT K H p ys)∧Q (.int ys.length) H) (zab (zac 0) zat)))) (za8 (tOp (rI0 fun i j=>.bl (decide (j≤i))) (tOp (zer K) (zac 0) (zac 2)) (tOp (rI zk8 fun i j=>.int (i ^ j.toNat)) (tC (.int 10)) (tC (.int 18)))))) (za0 (zbF (tOp (rI (fun _ j=>0<j∧j.natAbs.log2<9000) fun i j=>.int (i / j)) (tOp (zer K) (zac 0) (zac 2)) (tOp (rI zk8 fun i j=>.int (i ^ j.toNat)) (tC (.int 10)) (tC (.int 18)))) (zar 3))
 (za0 (zha (zfE (zab (tOp (rI (fun _ j=>0<j) fun i j=>.int (i % j)) (zac 1) (tC (.int 8))) zat)) (zar 4)
 (zbF (tOp (rI (fun _ j=>0<j∧j.natAbs.log2<9000) fun i j=>.int (i / j)) (zac 3) (tC (.int 2147483587))) (zar 3)))
 (zcz))) za9)
theorem zaO (K:PySem.W.Frag) (D:zbV) (σ:St) (H:Hp):zd0 K D σ H=(zch (zoO (za8 (tOp (rI0 fun i j=>.bl (decide (i<j))) (zac 2) (tCB (fun xs H Q=>∃ p ys,xs=[.ref p]∧(SqL K H p ys∨SqT K H p ys)∧Q (.int ys.length) H) (zab (zac 0) zat)))) (za8 (tOp (rI0 fun i j=>.bl (decide (j≤i))) (tOp (zer K) (zac 0) (zac 2)) (tOp (rI zk8 fun i j=>.int (i ^ j.toNat)) (tC (.int 10)) (tC (.int 18)))))) (za0 (zbF (tOp (rI (fun _ j=>0<j∧j.natAbs.log2<9000) fun i j=>.int (i / j)) (tOp (zer K) (zac 0) (zac 2)) (tOp (rI zk8 fun i j=>.int (i ^ j.toNat)) (tC (.int 10)) (tC (.int 18)))) (zar 3))
 (za0 (zha (zfE (zab (tOp (rI (fun _ j=>0<j) fun i j=>.int (i % j)) (zac 1) (tC (.int 8))) zat)) (zar 4)
 (zbF (tOp (rI (fun _ j=>0<j∧j.natAbs.log2<9000) fun i j=>.int (i / j)) (zac 3) (tC (.int 2147483587))) (zar 3)))
 (zcz))) za9) D σ H:=rfl
def zdg (K:PySem.W.Frag):TS :=
 (za0 (zbF (tOp (rI (fun _ j=>0<j) fun i j=>.int (i % j)) (tOp (rI (fun _ j=>0<j∧j.natAbs.log2<9000) fun i j=>.int (i / j)) (zac 1) (tC (.int 8))) (tC (.int 63))) (zar 2))
 (za0 (zfK (zd0 K))
 (za0 (zbF (tC (.int 0)) (zar 3))
 (za0 (zfK (zd4 K))
 (zdW)))))
theorem zgW {p:Addr} {ns:List Int} {k:Int} (hS:SqL K H p (ns.map V.int)) (hl:ns.length≤63) (k0:0≤k) (k1:k<1000000) (q:∀ r:Int,0≤r→r<2147483587→Q (.int r) H) :
  zdg K { nx:=fun _ H'=>Q .non H',rt:=Q } (L2.zbu ["_law_script","_law_k","_law_at","_law_cell","_law_j","_law_number"] [.ref p,.int k]) H:=by
 unfold zdg
 simp_all only [zaP,zaQ,zaR,zaO,zac]
 have el:((ns.map V.int).length:Int)=(ns.length:Int):=by rw [List.length_map]
 refine ⟨log8.1,log8.2,by decide,fun σ H'=>H'=H∧∃ t c j,σ=[some (.ref p),some (.int k),t,c,j,none],?_,?_⟩
 ·simp_all only [zaP,zaQ,zaR,zaO,zac]
  refine ⟨_,.inl hS,?_⟩
  rw [el]
  refine zdM (fun c=>?_) (fun c=>?_)
  ·obtain ⟨v,hv,_⟩:=zjO (ns:=ns) (k:=k / 8 % 63) (by omega) c
   refine ⟨_,hS,_,hv,?_⟩
   simp_all only [zaP,zaQ,zaR,zaO,zac]
   refine ⟨zot,?_⟩
   refine zdM (fun c2=>?_) (fun c2=>trivial)
   ·refine ⟨_,hS,_,hv,zot,_,rfl,logA.1,logA.2,by decide,by omega,by omega,?_⟩
    refine zcM (fun _ σ H'=>H'=H∧∃ t c j,σ=[some (.ref p),some (.int k),t,some (.int c),j,none]) ⟨rfl,_,_,_,rfl⟩ ?_ ?_
    ·rintro i σ H' hi ⟨rfl,t,c,j,rfl⟩
     simp_all only [zaP,zaQ,zaR,zaO,zac]
     exact ⟨logB.1,logB.2⟩
    ·rintro σ H' ⟨rfl,t,c,j,rfl⟩
     simp_all only [zaP,zaQ,zaR,zaO,zac]
     refine zdM (fun c3=>?_) (fun c3=>?_)
     ·exact ⟨by decide,q _ (Int.emod_nonneg _ (by decide)) (Int.emod_lt_of_pos _ (by decide))⟩
     ·trivial
  ·trivial
 ·rintro σ H' ⟨e,t,c,j,rfl⟩
  rw [e]
  simp_all only [zaP,zaQ,zaR,zaO,zac]
  refine ⟨fun σ H'=>H'=H∧∃ t c j,σ=[some (.ref p),some (.int k),t,some (.int c),j,none],?_,?_⟩
  ·simp_all only [zaP,zaQ,zaR,zaO,zac]
   refine ⟨_,.inl hS,?_⟩
   rw [el]
   refine zdM (fun c=>?_) (fun c=>trivial)
   refine ⟨_,.inl hS,?_⟩
   rw [el]
   have hm:0<(if (ns.length:Int)<63 then (ns.length:Int) else 63):=by split <;> omega
   obtain ⟨v,hv,_⟩:=zjO (ns:=ns) (k:=k % if (ns.length:Int)<63 then (ns.length:Int) else 63) (Int.emod_nonneg _ (by omega)) (Int.lt_of_lt_of_le (Int.emod_lt_of_pos _ hm) (by split <;> omega))
   exact ⟨hm,_,hS,_,hv,_,rfl⟩
  ·rintro σ H' ⟨e,t,c,j,rfl⟩
   rw [e]
   simp_all only [zaP,zaQ,zaR,zaO,zac]
   have b1:=Int.emod_nonneg c (show (1000000000000000000:Int)≠0 by decide)
   have b2:=Int.emod_lt_of_pos c (show (0:Int)<1000000000000000000 by decide)
   generalize c % 1000000000000000000=z at b1 b2 ⊢
   have m1:IntMulOk (z+48271*(k+1)) (z+48271*(k+1)):=mulR (by omega) (by omega)
   generalize (z+48271*(k+1))*(z+48271*(k+1))=y
   have b3:=Int.emod_nonneg y (show (2147483629:Int)≠0 by decide)
   have b4:=Int.emod_lt_of_pos y (show (0:Int)<2147483629 by decide)
   generalize y % 2147483629=x at b3 b4 ⊢
   exact ⟨zot,by decide,mulL (by decide) (by decide),m1,by decide,mulL (by decide) (by decide),mulR (by omega) (by omega),by decide,q _ (Int.emod_nonneg _ (by decide)) (Int.emod_lt_of_pos _ (by decide))⟩
theorem zbd:zaN ["_law_script","_law_k","_law_at","_law_cell","_law_j","_law_number"] ["_law_script","_law_k"] (zap zdz):=⟨rfl,rfl,rfl,by decide +kernel,rfl,by decide +kernel,by decide +kernel⟩
theorem zeD (T:Txt K mg base a):zcJ P w K mg base CX0 1 a.f__law_mixed a.d__law_mixed ["_law_script","_law_k"] (zbJ K):=by
 refine T.F__law_mixed.ok zbd (fun vs H Q E h=>?_) (fun cdv A outer s H vs Q E hr h=>?_)
 ·obtain ⟨p,ns,k,rfl,hS,hl,k0,k1,q⟩:=h
  rfl
 obtain ⟨p,ns,k,rfl,hS,hl,k0,k1,q⟩:=h
 exact ⟨zdg K,(zaf (zaU (i:=2) zbd.nd rfl (Or.inl rfl) (zaD zbr (zaD zbY (pv 1) zao) zao))
 (zaf (zb1 (zcl (PW.pt (zmd (zbb zn9 (pv 2) (zau zaG rfl T.z_len PySem.boot_len (zaa (pv 0) zae)) (zbe _)) (ziR (zbb op_ge (zco zbQ (pv 0) (pv 2) (fun _ _=>rfl)) (zaD zhP zao zao) (zbe _))))) (zaf (zaU (i:=3) zbd.nd rfl (Or.inl rfl) (zaD zbY (zco zbQ (pv 0) (pv 2) (fun _ _=>rfl)) (zaD zhP zao zao)))
 (zaf (zdT PassesOwn.never rfl (zdh rfl T.z_range (zaa (zaD zbr (pv 1) zao) zae)) (zaM (i:=4) zbd.nd rfl (Or.inl rfl))
 (zas (zaU (i:=3) zbd.nd rfl (Or.inl rfl) (zaD zbY (pv 3) zao))))
 (zas (zcl (zbb zn5 (pv 3) zao (zbe _)) (zas (zaZ (zaD zbr (pv 3) zao))) zbc)))) zbc))
 (zaf (zaU (i:=3) zbd.nd rfl (Or.inl rfl) zao)
 (zaf (zb1 (zcl (zbb zn5 (zau zaG rfl T.z_len PySem.boot_len (zaa (pv 0) zae)) zao (zbe _)) (zas (zaU (i:=3) zbd.nd rfl (Or.inl rfl) (zco zbQ (pv 0) (zaD zbr (pv 1) (zau (zhR rfl) rfl T.z_min PyProof.Rows.boot_min (zaa zao (zaa (zau zaG rfl T.z_len PySem.boot_len (zaa (pv 0) zae)) zae)))) (fun _ _=>rfl)))) zbc))
 (zaf (zaU (i:=5) zbd.nd rfl (Or.inl rfl) (zaD zbD (zaD zbr (pv 3) (zaD zhP zao zao)) (zaD zhi zao (zaD zbD (pv 1) zao))))
 (zaf (zaU (i:=5) zbd.nd rfl (Or.inl rfl) (zaD zbD (zaD zbr (zaD zhi (pv 5) (pv 5)) zao) (zaD zhi zao (pv 1))))
 (zas (zaZ (zaD zbr (zaD zhi (pv 5) (pv 5)) zao))))))))),
  zgW hS hl k0 k1 q⟩
inductive ShT (H:Hp):Nat→Tr→V→Prop where
 | int {n:Nat} (i:Int):ShT H n (.int i) (.int i)
 | str {n:Nat} (x:Str):ShT H n (.str x) (.str x)
 | lst {n:Nat} {p:Addr} {xs:List V} {ts:List Tr} (h:H p=some (.lst xs)) (l:xs.length=ts.length) (e:∀ (i:Nat) x t,xs[i]?=some x→ts[i]?=some t→ShT H n t x):ShT H (n+1) (.lst ts) (.ref p)
 | tup {n:Nat} {p:Addr} {xs:List V} {ts:List Tr} (h:H p=some (.tup xs)) (l:xs.length=ts.length) (e:∀ (i:Nat) x t,xs[i]?=some x→ts[i]?=some t→ShT H n t x):ShT H (n+1) (.tup ts) (.ref p)
def zgT (n:Nat):Sp:=fun vs H Q _=>∃ (x y:V) (t:Tr),vs=[x,y]∧ShT H n t x∧ShT H n t y∧∀ H',za1 H H'→Q (.bl true) H'
def zjh:Nat→Sp
 | 0=>zld
 | n+1=>zgT n
theorem ShT.same {H H':Hp} (s:za1 H H') {n:Nat} {t:Tr} {x:V} (h:ShT H n t x):ShT H' n t x:=by
 induction h with
 | int i=>exact .int i
 | str x=>exact .str x
 | lst h l _ ih=>exact .lst (s _ _ h) l ih
 | tup h l _ ih=>exact .tup (s _ _ h) l ih
def zeO:TS :=
 (zbW (zck (tOp (fun x y H Q=>y=.non∧Q (.bl (decide (x=.non))) H) (zac 1) (tC .non)) (tOp (fun x y H Q=>y=.non∧Q (.bl (decide (x=.non))) H) (zac 0) (tC .non))))
theorem zah (D:zbV) (σ:St) (H:Hp):zeO D σ H=(zbW (zck (tOp (fun x y H Q=>y=.non∧Q (.bl (decide (x=.non))) H) (zac 1) (tC .non)) (tOp (fun x y H Q=>y=.non∧Q (.bl (decide (x=.non))) H) (zac 0) (tC .non)))) D σ H:=rfl
def zeN (K:PySem.W.Frag):TS :=
 (zch (tB (tCB (zcQ K) (zab (zac 1) (zab (tC (.ty "str")) zat)))) (zbW (zck (tCB (zcQ K) (zab (zac 0) (zab (tC (.ty "str")) zat))) (tOp rEq (zac 0) (zac 1)))) za9)
theorem zaj (K:PySem.W.Frag) (D:zbV) (σ:St) (H:Hp):zeN K D σ H=(zch (tB (tCB (zcQ K) (zab (zac 1) (zab (tC (.ty "str")) zat)))) (zbW (zck (tCB (zcQ K) (zab (zac 0) (zab (tC (.ty "str")) zat))) (tOp rEq (zac 0) (zac 1)))) za9) D σ H:=rfl
def zeB (K:PySem.W.Frag):TS :=
 (zch (tB (tCB (zcQ K) (zab (zac 1) (zab (tC (.ty "int")) zat)))) (zbW (zck (tCB (zcQ K) (zab (zac 0) (zab (tC (.ty "int")) zat))) (zck (zla (tCB (zcQ K) (zab (zac 0) (zab (tC (.ty "bool")) zat)))) (tOp rEq (zac 0) (zac 1))))) za9)
theorem zam (K:PySem.W.Frag) (D:zbV) (σ:St) (H:Hp):zeB K D σ H=(zch (tB (tCB (zcQ K) (zab (zac 1) (zab (tC (.ty "int")) zat)))) (zbW (zck (tCB (zcQ K) (zab (zac 0) (zab (tC (.ty "int")) zat))) (zck (zla (tCB (zcQ K) (zab (zac 0) (zab (tC (.ty "bool")) zat)))) (tOp rEq (zac 0) (zac 1))))) za9) D σ H:=rfl
def zeR (K:PySem.W.Frag):TS :=
 (zch (tB (tCB (zcQ K) (zab (zac 1) (zab (tC (.ty "bool")) zat)))) (zbW (zck (tCB (zcQ K) (zab (zac 0) (zab (tC (.ty "bool")) zat))) (tOp rEq (zac 0) (zac 1)))) za9)
theorem zal (K:PySem.W.Frag) (D:zbV) (σ:St) (H:Hp):zeR K D σ H=(zch (tB (tCB (zcQ K) (zab (zac 1) (zab (tC (.ty "bool")) zat)))) (zbW (zck (tCB (zcQ K) (zab (zac 0) (zab (tC (.ty "bool")) zat))) (tOp rEq (zac 0) (zac 1)))) za9) D σ H:=rfl
def zc4 (K:PySem.W.Frag) (nRec:Nat):TS :=
 (za0 (zha (zmx K (zab (zac 0) (zab (zac 1) zat))) (ziH K 2 (zbv (zar 2) (zbv (zar 3) ziI)))
 (zch (zeV (tB (zaK (zjh nRec) [] E0 (zab (zac 2) (zab (zac 3) zat))))) (zbW (tC (.bl false))) za9))
 (zbW (tC (.bl true))))
theorem zai (K:PySem.W.Frag) (nRec:Nat) (D:zbV) (σ:St) (H:Hp):zc4 K nRec D σ H=(za0 (zha (zmx K (zab (zac 0) (zab (zac 1) zat))) (ziH K 2 (zbv (zar 2) (zbv (zar 3) ziI)))
 (zch (zeV (tB (zaK (zjh nRec) [] E0 (zab (zac 2) (zab (zac 3) zat))))) (zbW (tC (.bl false))) za9))
 (zbW (tC (.bl true)))) D σ H:=rfl
def zcT (K:PySem.W.Frag):TS :=
 (zch (za8 (tOp rNe (tCB (fun xs H Q=>∃ p ys,xs=[.ref p]∧(SqL K H p ys∨SqT K H p ys)∧Q (.int ys.length) H) (zab (zac 0) zat)) (tCB (fun xs H Q=>∃ p ys,xs=[.ref p]∧(SqL K H p ys∨SqT K H p ys)∧Q (.int ys.length) H) (zab (zac 1) zat)))) (zbW (tC (.bl false))) za9)
theorem zan (K:PySem.W.Frag) (D:zbV) (σ:St) (H:Hp):zcT K D σ H=(zch (za8 (tOp rNe (tCB (fun xs H Q=>∃ p ys,xs=[.ref p]∧(SqL K H p ys∨SqT K H p ys)∧Q (.int ys.length) H) (zab (zac 0) zat)) (tCB (fun xs H Q=>∃ p ys,xs=[.ref p]∧(SqL K H p ys∨SqT K H p ys)∧Q (.int ys.length) H) (zab (zac 1) zat)))) (zbW (tC (.bl false))) za9) D σ H:=rfl
def zc0 (K:PySem.W.Frag):TS :=
 (zch (tOr (za8 (tOp rNe (tCB (zcQ K) (zab (zac 0) (zab (tC (.ty "tuple")) zat))) (tCB (zcQ K) (zab (zac 1) (zab (tC (.ty "tuple")) zat))))) (za8 (tOp rNe (tCB (zcQ K) (zab (zac 0) (zab (tC (.ty "list")) zat))) (tCB (zcQ K) (zab (zac 1) (zab (tC (.ty "list")) zat)))))) (zbW (tC (.bl false))) za9)
theorem zag (K:PySem.W.Frag) (D:zbV) (σ:St) (H:Hp):zc0 K D σ H=(zch (tOr (za8 (tOp rNe (tCB (zcQ K) (zab (zac 0) (zab (tC (.ty "tuple")) zat))) (tCB (zcQ K) (zab (zac 1) (zab (tC (.ty "tuple")) zat))))) (za8 (tOp rNe (tCB (zcQ K) (zab (zac 0) (zab (tC (.ty "list")) zat))) (tCB (zcQ K) (zab (zac 1) (zab (tC (.ty "list")) zat)))))) (zbW (tC (.bl false))) za9) D σ H:=rfl
def zeI (K:PySem.W.Frag) (nRec:Nat):TS :=
 (zch (tOr (tB (tCB (zcQ K) (zab (zac 1) (zab (tC (.ty "tuple")) zat)))) (tB (tCB (zcQ K) (zab (zac 1) (zab (tC (.ty "list")) zat))))) (za0 (zfK (zc0 K))
 (za0 (zfK (zcT K))
 (zc4 K nRec))) za9)
theorem zak (K:PySem.W.Frag) (nRec:Nat) (D:zbV) (σ:St) (H:Hp):zeI K nRec D σ H=(zch (tOr (tB (tCB (zcQ K) (zab (zac 1) (zab (tC (.ty "tuple")) zat)))) (tB (tCB (zcQ K) (zab (zac 1) (zab (tC (.ty "list")) zat))))) (za0 (zfK (zc0 K))
 (za0 (zfK (zcT K))
 (zc4 K nRec))) za9) D σ H:=rfl
def zen (K:PySem.W.Frag) (nRec:Nat):TS :=
 (za0 (zfK (zeI K nRec))
 (za0 (zfK (zeR K))
 (za0 (zfK (zeB K))
 (za0 (zfK (zeN K))
 (zeO)))))
theorem zhS {n:Nat} {x y:V} {t:Tr} (h1:ShT H n t x) (h2:ShT H n t y) (q:∀ H',za1 H H'→Q (.bl true) H') :
  zen K n { nx:=fun _ H'=>Q .non H',rt:=Q } (L2.zbu ["_law_told","_law_due","_law_one","_law_other"] [x,y]) H:=by
 unfold zen
 simp_all only [zah,zaj,zam,zal,zai,zan,zag,zak,zac]
 have q0:=q H (.refl _)
 cases h1 with
 | int i =>
  cases h2
  refine ⟨fun σ H'=>H'=H∧σ=[some (.int i),some (.int i),none,none],?_,?_⟩
  ·simp_all only [zah,zaj,zam,zal,zai,zan,zag,zak,zac]
   refine zcy (.int i) (zhk K) ⟨false,rfl,znH ?_⟩
   refine zcy (.int i) (zhW K) ⟨false,rfl,znH ?_⟩
   first | rfl | trivial
  rintro σ H1 ⟨rfl,rfl⟩
  simp_all only [zah,zaj,zam,zal,zai,zan,zag,zak,zac]
  refine ⟨fun σ H'=>H'=H1∧σ=[some (.int i),some (.int i),none,none],?_,?_⟩
  ·simp_all only [zah,zaj,zam,zal,zai,zan,zag,zak,zac]
   refine zcy (.int i) (zfA K) ⟨false,rfl,znH ?_⟩
   first | rfl | trivial
  rintro σ H2 ⟨rfl,rfl⟩
  simp_all only [zah,zaj,zam,zal,zai,zan,zag,zak,zac]
  refine ⟨fun σ H'=>False,?_,fun _ _ z=>z.elim⟩
  simp_all only [zah,zaj,zam,zal,zai,zan,zag,zak,zac]
  refine zec ⟨true,rfl,znR ?_⟩
  refine zec ⟨true,rfl,znR ?_⟩
  refine zfv ⟨_,rfl,?_⟩
  exact zdM (fun _=>by simpa using q0) (fun z=>absurd rfl z)
 | str z =>
  cases h2
  refine ⟨fun σ H'=>H'=H∧σ=[some (.str z),some (.str z),none,none],?_,?_⟩
  ·simp_all only [zah,zaj,zam,zal,zai,zan,zag,zak,zac]
   refine zcy (.str z) (zhp K) ⟨false,rfl,znH ?_⟩
   refine zcy (.str z) (zis K) ⟨false,rfl,znH ?_⟩
   first | rfl | trivial
  rintro σ H1 ⟨rfl,rfl⟩
  simp_all only [zah,zaj,zam,zal,zai,zan,zag,zak,zac]
  refine ⟨fun σ H'=>H'=H1∧σ=[some (.str z),some (.str z),none,none],?_,?_⟩
  ·simp_all only [zah,zaj,zam,zal,zai,zan,zag,zak,zac]
   refine zcy (.str z) (ziD K) ⟨false,rfl,znH ?_⟩
   first | rfl | trivial
  rintro σ H2 ⟨rfl,rfl⟩
  simp_all only [zah,zaj,zam,zal,zai,zan,zag,zak,zac]
  refine ⟨fun σ H'=>H'=H2∧σ=[some (.str z),some (.str z),none,none],?_,?_⟩
  ·simp_all only [zah,zaj,zam,zal,zai,zan,zag,zak,zac]
   refine zcy (.str z) (zji K) ⟨false,rfl,znH ?_⟩
   first | rfl | trivial
  rintro σ H3 ⟨rfl,rfl⟩
  simp_all only [zah,zaj,zam,zal,zai,zan,zag,zak,zac]
  refine ⟨fun σ H'=>False,?_,fun _ _ z=>z.elim⟩
  simp_all only [zah,zaj,zam,zal,zai,zan,zag,zak,zac]
  refine zcy (.str z) rfl ⟨true,rfl,znR ?_⟩
  refine zcy (.str z) rfl ⟨true,rfl,znR ?_⟩
  exact ⟨rfl,by simpa using q0⟩
 | @lst n p xs ts h l e =>
  cases h2 with
  | @lst _ p2 ys _ h' l' e' =>
   refine ⟨fun σ H'=>False,?_,fun _ _ z=>z.elim⟩
   simp_all only [zah,zaj,zam,zal,zai,zan,zag,zak,zac]
   refine zcy (.lst h') (zcD K) ⟨false,rfl,znH ?_⟩
   refine zcY h' ⟨true,rfl,znR ?_⟩
   refine ⟨fun σ H'=>H'=H∧σ=[some (.ref p),some (.ref p2),none,none],?_,?_⟩
   ·simp_all only [zah,zaj,zam,zal,zai,zan,zag,zak,zac]
    refine zcy (.lst h) (zcD K) ?_
    refine zcy (.lst h') (zcD K) ?_
    refine ⟨rfl,zdM (fun z=>absurd rfl z) (fun _=>?_)⟩
    refine zcY h ?_
    refine zcY h' ?_
    refine ⟨rfl,zdM (fun z=>absurd rfl z) (fun _=>?_)⟩
    first | rfl | trivial
   rintro σ H1 ⟨rfl,rfl⟩
   simp_all only [zah,zaj,zam,zal,zai,zan,zag,zak,zac]
   refine ⟨fun σ H'=>H'=H1∧σ=[some (.ref p),some (.ref p2),none,none],?_,?_⟩
   ·simp_all only [zah,zaj,zam,zal,zai,zan,zag,zak,zac]
    refine ⟨_,.inl (SqL.of h),_,.inl (SqL.of h'),?_⟩
    rw [l,l']
    exact zdM (fun z=>absurd rfl z) (fun _=>by first | rfl | trivial)
   rintro σ H2 ⟨rfl,rfl⟩
   simp_all only [zah,zaj,zam,zal,zai,zan,zag,zak,zac]
   refine .inl ⟨⟨_,SqL.of h⟩,⟨_,SqL.of h'⟩,?_⟩
   refine zng (K:=K) (xs:=xs) (ys:=ys) (fun i σ H'=>za1 H2 H'∧∃ z1 z2,σ=[some (.ref p),some (.ref p2),z1,z2]) ⟨.refl _,_,_,rfl⟩ ?_ ?_ ?_
   ·rintro i σ H' _ ⟨s,_⟩
    exact ⟨SqL.of (s _ _ h),SqL.of (s _ _ h')⟩
   ·rintro i x y u σ H3 hx hy ⟨s3,z1,z2,rfl⟩ hu
    have lx:=(List.getElem?_eq_some_iff.mp hx).1
    have et:ts[i]?=some ts[i]:=List.getElem?_eq_getElem (by omega)
    simp_all only [zah,zaj,zam,zal,zai,zan,zag,zak,zac]
    refine ⟨_,SqT.of zad,rfl,_,_,rfl,_,_,rfl,rfl,?_⟩
    have s4:=s3.add hu (o:=.tup [x,y])
    refine ⟨x,y,ts[i],rfl,(e i x _ hx et).same s4,(e' i y _ hy et).same s4,fun H5 s5=>?_⟩
    exact ⟨true,rfl,zdM (fun z=>absurd z (by decide)) (fun _=>s4.trans s5)⟩
   ·rintro σ H3 ⟨s3,z1,z2,rfl⟩
    simp_all only [zah,zaj,zam,zal,zai,zan,zag,zak,zac]
    exact q _ s3
 | @tup n p xs ts h l e =>
  cases h2 with
  | @tup _ p2 ys _ h' l' e' =>
   refine ⟨fun σ H'=>False,?_,fun _ _ z=>z.elim⟩
   simp_all only [zah,zaj,zam,zal,zai,zan,zag,zak,zac]
   refine zcp h' ⟨true,rfl,znR ?_⟩
   refine ⟨fun σ H'=>H'=H∧σ=[some (.ref p),some (.ref p2),none,none],?_,?_⟩
   ·simp_all only [zah,zaj,zam,zal,zai,zan,zag,zak,zac]
    refine zcp h ?_
    refine zcp h' ?_
    refine ⟨rfl,zdM (fun z=>absurd rfl z) (fun _=>?_)⟩
    refine zcy (.tup h) (zd2 K) ?_
    refine zcy (.tup h') (zd2 K) ?_
    refine ⟨rfl,zdM (fun z=>absurd rfl z) (fun _=>?_)⟩
    first | rfl | trivial
   rintro σ H1 ⟨rfl,rfl⟩
   simp_all only [zah,zaj,zam,zal,zai,zan,zag,zak,zac]
   refine ⟨fun σ H'=>H'=H1∧σ=[some (.ref p),some (.ref p2),none,none],?_,?_⟩
   ·simp_all only [zah,zaj,zam,zal,zai,zan,zag,zak,zac]
    refine ⟨_,.inr (SqT.of h),_,.inr (SqT.of h'),?_⟩
    rw [l,l']
    exact zdM (fun z=>absurd rfl z) (fun _=>by first | rfl | trivial)
   rintro σ H2 ⟨rfl,rfl⟩
   simp_all only [zah,zaj,zam,zal,zai,zan,zag,zak,zac]
   refine .inr ⟨⟨_,SqT.of h⟩,⟨_,SqT.of h'⟩,?_⟩
   refine zlD (K:=K) (xs:=xs) (ys:=ys) (fun i σ H'=>za1 H2 H'∧∃ z1 z2,σ=[some (.ref p),some (.ref p2),z1,z2]) ⟨.refl _,_,_,rfl⟩ ?_ ?_ ?_
   ·rintro i σ H' _ ⟨s,_⟩
    exact ⟨SqT.of (s _ _ h),SqT.of (s _ _ h')⟩
   ·rintro i x y u σ H3 hx hy ⟨s3,z1,z2,rfl⟩ hu
    have lx:=(List.getElem?_eq_some_iff.mp hx).1
    have et:ts[i]?=some ts[i]:=List.getElem?_eq_getElem (by omega)
    simp_all only [zah,zaj,zam,zal,zai,zan,zag,zak,zac]
    refine ⟨_,SqT.of zad,rfl,_,_,rfl,_,_,rfl,rfl,?_⟩
    have s4:=s3.add hu (o:=.tup [x,y])
    refine ⟨x,y,ts[i],rfl,(e i x _ hx et).same s4,(e' i y _ hy et).same s4,fun H5 s5=>?_⟩
    exact ⟨true,rfl,zdM (fun z=>absurd z (by decide)) (fun _=>s4.trans s5)⟩
   ·rintro σ H3 ⟨s3,z1,z2,rfl⟩
    simp_all only [zah,zaj,zam,zal,zai,zan,zag,zak,zac]
    exact q _ s3
theorem zdu:zaN ["_law_told","_law_due","_law_one","_law_other"] ["_law_told","_law_due"] (zap zd8):=⟨rfl,rfl,rfl,by decide +kernel,rfl,by decide +kernel,by decide +kernel⟩
theorem zd1 (T:Txt K mg base a):∀ n,zcJ P w K mg base CX0 n a.f__law_same a.d__law_same ["_law_told","_law_due"] (zjh n)
 | 0=>znz
 | n+1=>by
  have G__law_same:=zd1 T n
  refine T.F__law_same.ok zdu (fun vs H Q E h=>?_) (fun cdv A outer s H vs Q E hr h=>?_)
  ·obtain ⟨x,y,t,rfl,h1,h2,q⟩:=h
   rfl
  obtain ⟨x,y,t,rfl,h1,h2,q⟩:=h
  exact ⟨zen K n,(zaf (zb1 (zcl (PW.pt (zew (zci (zau zaH rfl T.z_isinstance PyProof.Rows.boot_isinstance (zaa (pv 1) (zaa (zbo rfl T.z_tuple zb4 rfl) zae)))) (zdA (zci (zau zaH rfl T.z_isinstance PyProof.Rows.boot_isinstance (zaa (pv 1) (zaa (zbo rfl T.z_list zcH rfl) zae))))))) (zaf (zb1 (zcl (PW.pt (zew (zbb zfU (zau zaH rfl T.z_isinstance PyProof.Rows.boot_isinstance (zaa (pv 0) (zaa (zbo rfl T.z_tuple zb4 rfl) zae))) (zau zaH rfl T.z_isinstance PyProof.Rows.boot_isinstance (zaa (pv 1) (zaa (zbo rfl T.z_tuple zb4 rfl) zae))) (zbe _)) (zdA (zbb zfU (zau zaH rfl T.z_isinstance PyProof.Rows.boot_isinstance (zaa (pv 0) (zaa (zbo rfl T.z_list zcH rfl) zae))) (zau zaH rfl T.z_isinstance PyProof.Rows.boot_isinstance (zaa (pv 1) (zaa (zbo rfl T.z_list zcH rfl) zae))) (zbe _))))) (zas (zaZ zgE)) zbc))
 (zaf (zb1 (zcl (zbb zfU (zau zaG rfl T.z_len PySem.boot_len (zaa (pv 0) zae)) (zau zaG rfl T.z_len PySem.boot_len (zaa (pv 1) zae)) (zbe _)) (zas (zaZ zgE)) zbc))
 (zaf (zdT PassesOwn.never rfl (zn4 rfl T.z_zip (zaa (pv 0) (zaa (pv 1) zae))) (zeC rfl (zaX (zaM (i:=2) zdu.nd rfl (Or.inl rfl)) (zaX (zaM (i:=3) zdu.nd rfl (Or.inl rfl)) zcX)))
 (zas (zcl (zcO (zci (zaF G__law_same (hr.mono (by omega)) rfl T.m__law_same T.F__law_same.kp T.b__law_same .nil zbl (zaa (pv 2) (zaa (pv 3) zae))))) (zas (zaZ zgE)) zbc)))
 (zas (zaZ zgE))))) zbc))
 (zaf (zb1 (zcl (zci (zau zaH rfl T.z_isinstance PyProof.Rows.boot_isinstance (zaa (pv 1) (zaa (zbo rfl T.z_bool zet rfl) zae)))) (zas (zaZ (zcL (zau zaH rfl T.z_isinstance PyProof.Rows.boot_isinstance (zaa (pv 0) (zaa (zbo rfl T.z_bool zet rfl) zae))) (zeK (zcZ zi7 (pv 0) (pv 1) (zbe _)))))) zbc))
 (zaf (zb1 (zcl (zci (zau zaH rfl T.z_isinstance PyProof.Rows.boot_isinstance (zaa (pv 1) (zaa (zbo rfl T.z_int zfN rfl) zae)))) (zas (zaZ (zcL (zau zaH rfl T.z_isinstance PyProof.Rows.boot_isinstance (zaa (pv 0) (zaa (zbo rfl T.z_int zfN rfl) zae))) (zcL (znU (zau zaH rfl T.z_isinstance PyProof.Rows.boot_isinstance (zaa (pv 0) (zaa (zbo rfl T.z_bool zet rfl) zae)))) (zeK (zcZ zi7 (pv 0) (pv 1) (zbe _))))))) zbc))
 (zaf (zb1 (zcl (zci (zau zaH rfl T.z_isinstance PyProof.Rows.boot_isinstance (zaa (pv 1) (zaa (zbo rfl T.z_str zdH rfl) zae)))) (zas (zaZ (zcL (zau zaH rfl T.z_isinstance PyProof.Rows.boot_isinstance (zaa (pv 0) (zaa (zbo rfl T.z_str zdH rfl) zae))) (zeK (zcZ zi7 (pv 0) (pv 1) (zbe _)))))) zbc))
 (zas (zaZ (zcL (zcZ zjU (pv 1) zcI (zbe _)) (zeK (zcZ zjU (pv 0) zcI (zbe _)))))))))),zhS h1 h2 q⟩
theorem ziF (T:Txt K mg base a):zcJ P w K mg base CX0 6 a.f__law_same a.d__law_same ["_law_told","_law_due"] (zgT 5):=zd1 T 6
theorem pow6:zk8 10 6:=⟨by decide,by decide,by decide⟩
theorem zpt:(0:Int)<4∧(Int.natAbs 4).log2<9000:=by decide +kernel
theorem at4 {a b c d r:Int} (h0:0≤r) (h1:r<4):∃ v:Int,atI [V.int a,V.int b,V.int c,V.int d] r=some (.int v)∧(v=a∨v=b∨v=c∨v=d):=by
 have:r=0∨r=1∨r=2∨r=3:=by omega
 rcases this with rfl | rfl | rfl | rfl
 ·exact ⟨a,rfl,by simp⟩
 ·exact ⟨b,rfl,by simp⟩
 ·exact ⟨c,rfl,by simp⟩
 ·exact ⟨d,rfl,by simp⟩
def zeF:Sp:=fun vs H Q _=>∃ n:Int,vs=[.int n]∧∀ (l:Int) (H':Hp),za1 H H'→1≤l→l≤1000000→Q (.int l) H'
def zc3 (K:PySem.W.Frag):TS :=
 (za0 (zbF (tOp (rI (fun _ j=>0<j) fun i j=>.int (i % j)) (zac 0) (tC (.int 4))) (zar 1))
 (za0 (zbF (tOp (rI (fun _ j=>0<j∧j.natAbs.log2<9000) fun i j=>.int (i / j)) (zac 0) (tC (.int 4))) (zar 0))
 (zbW (tOp (zer K) (zjn (zab (tOp (rI0 fun i j=>.int (i+j)) (tC (.int 1)) (tOp (rI (fun _ j=>0<j) fun i j=>.int (i % j)) (zac 0) (tC (.int 9)))) (zab (tOp (rI0 fun i j=>.int (i+j)) (tC (.int 1)) (tOp (rI (fun _ j=>0<j) fun i j=>.int (i % j)) (zac 0) (tOp (rI zk8 fun i j=>.int (i ^ j.toNat)) (tC (.int 10)) (tC (.int 6))))) (zab (tOp (rI0 fun i j=>.int (i - j)) (tOp (rI zk8 fun i j=>.int (i ^ j.toNat)) (tC (.int 10)) (tC (.int 6))) (tOp (rI (fun _ j=>0<j) fun i j=>.int (i % j)) (zac 0) (tC (.int 3)))) (zab (tOp (rI0 fun i j=>.int (i+j)) (tC (.int 1)) (tOp (rI (fun _ j=>0<j) fun i j=>.int (i % j)) (zac 0) (tC (.int 2)))) zat))))) (zac 1)))))
theorem zgz {n:Int} (q:∀ (l:Int) (H':Hp),za1 H H'→1≤l→l≤1000000→Q (.int l) H') :
  zc3 K { nx:=fun _ H'=>Q .non H',rt:=Q } (L2.zbu ["_law_number","_law_way"] [.int n]) H:=by
 unfold zc3
 simp_all only [zac]
 obtain ⟨v,hv,hc⟩:=at4 (a:=1+n / 4 % 9) (b:=1+n / 4 % 1000000) (c:=1000000 - n / 4 % 3) (d:=1+n / 4 % 2) (r:=n % 4) (by omega) (by omega)
 refine ⟨by decide,zpt.1,zpt.2,by decide,pow6,by decide,pow6,by decide,by decide,by decide,fun p hp=>?_⟩
 refine ⟨_,SqL.of zad,_,hv,?_⟩
 exact q v _ (zaC hp _) (by omega) (by omega)
theorem zcE:zaN ["_law_number","_law_way"] ["_law_number"] (zap zcS):=⟨rfl,rfl,rfl,by decide +kernel,rfl,by decide +kernel,by decide +kernel⟩
theorem zgC (T:Txt K mg base a):zcJ P w K mg base CX0 1 a.f__law_length a.d__law_length ["_law_number"] zeF:=by
 refine T.F__law_length.ok zcE (fun vs H Q E h=>?_) (fun cdv A outer s H vs Q E hr h=>?_)
 ·obtain ⟨n,rfl,q⟩:=h
  rfl
 obtain ⟨n,rfl,q⟩:=h
 exact ⟨zc3 K,(zaf (zaU (i:=1) zcE.nd rfl (Or.inl rfl) (zaD zbr (pv 0) zao))
 (zaf (zaU (i:=0) zcE.nd rfl (Or.inl rfl) (zaD zbY (pv 0) zao))
 (zas (zaZ (zco zbQ (zfn (zaa (zaD zbD zao (zaD zbr (pv 0) zao)) (zaa (zaD zbD zao (zaD zbr (pv 0) (zaD zhP zao zao))) (zaa (zaD zhN (zaD zhP zao zao) (zaD zbr (pv 0) zao)) (zaa (zaD zbD zao (zaD zbr (pv 0) zao)) zae))))) (pv 1) (fun _ _=>rfl)))))),
  zgz q⟩
theorem seqIx {i:Int} {n:Nat} (h0:0≤i) (h1:i<n):PySem.seqIndex? i n=some i.toNat:=by
 unfold PySem.seqIndex?
 have e:¬ i<0:=by omega
 simp [e,h0,h1]
def zlO (m:Int):List Int:=(List.range m.toNat).map fun k:Nat=>(k:Int)
theorem zjP {m x:Int}:x∈zlO m↔0≤x∧x<m:=by
 unfold zlO
 rw [List.mem_map]
 constructor
 ·rintro ⟨k,hk,rfl⟩
  have:=List.mem_range.mp hk
  omega
 ·rintro ⟨h0,h1⟩
  exact ⟨x.toNat,List.mem_range.mpr (by omega),by omega⟩
theorem zkc {m:Int}:(zlO m).Nodup:=by
 unfold zlO
 refine List.nodup_iff_pairwise_ne.mpr (List.pairwise_map.mpr ((List.nodup_iff_pairwise_ne.mp List.nodup_range).imp fun h e=>h ?_))
 omega
theorem zlV {m:Int} (h:1≤m):zlO m=0::(List.range (m - 1).toNat).map fun k:Nat=>1+(k:Int):=by
 unfold zlO
 rw [show m.toNat=(m - 1).toNat+1 by omega,List.range_succ_eq_map,List.map_cons,List.map_map]
 refine congrArg (List.cons 0) (List.map_congr_left fun k _=>?_)
 simp only [Function.comp]
 omega
theorem zh3 {α β:Type} (f:α→β):∀ (l:List α) (k:Nat),(l.map f).eraseIdx k=(l.eraseIdx k).map f
 | [],k=>by simp
 | x::l,0=>rfl
 | x::l,k+1=>by
  rw [List.map_cons,List.eraseIdx_cons_succ,List.eraseIdx_cons_succ,List.map_cons,zh3 f l k]
theorem zkA {α:Type} {l:List α} {k:Nat} {x:α} (h:l[k]?=some x):(x::l.eraseIdx k).Perm l:=by
 induction l generalizing k with
 | nil=>simp at h
 | cons y l ih =>
  cases k with
  | zero =>
   simp only [List.getElem?_cons_zero,Option.some.injEq] at h
   subst h
   exact .refl _
  | succ k =>
   rw [List.getElem?_cons_succ] at h
   rw [List.eraseIdx_cons_succ]
   exact (List.Perm.swap y x _).trans ((ih h).cons y)
theorem zm4 {α:Type} {l:List α} (nd:l.Nodup) {i j:Nat} {x y:α} (h1:l[i]?=some x) (h2:l[j]?=some y) (c:i<j):x≠y:=by
 obtain ⟨l1,e1⟩:=List.getElem?_eq_some_iff.mp h1
 obtain ⟨l2,e2⟩:=List.getElem?_eq_some_iff.mp h2
 rw [← e1,← e2]
 exact List.pairwise_iff_getElem.mp (List.nodup_iff_pairwise_ne.mp nd) i j l1 l2 c
theorem at2 {x y:V} {r:Int} (h0:0≤r) (h1:r<2):∃ v,atI [x,y] r=some v∧(v=x∨v=y):=by
 have:r=0∨r=1:=by omega
 rcases this with rfl | rfl
 ·exact ⟨x,rfl,.inl rfl⟩
 ·exact ⟨y,rfl,.inr rfl⟩
theorem zk5:(0:Int)<3600∧(Int.natAbs 3600).log2<9000:=by decide +kernel
theorem znK:(0:Int)<100∧(Int.natAbs 100).log2<9000:=by decide +kernel
theorem zqd:(0:Int)<2∧(Int.natAbs 2).log2<9000:=by decide +kernel
def ziN (ls:List Int) (rs:List zbk) (n:Nat):Prop:=∀ k,1≤k→k≤n→∃ r∈rs,∃ j,j<k∧((ls[k]?=some r.1∧ls[j]?=some r.2.1)∨(ls[k]?=some r.2.1∧ls[j]?=some r.1))
theorem ziN.conn {ls:List Int} {rs:List zbk} {n:Nat} {m:Int} (h:ziN ls rs n) (hm:m=n+1) (hp:ls.Perm (zlO m)) (h0:ls[0]?=some 0):znP m rs:=by
 intro S s0 sc x x0 x1
 have hl:ls.length=n+1:=by
  rw [hp.length_eq]
  unfold zlO
  rw [List.length_map,List.length_range]
  omega
 have z:∀ (k:Nat) (y:Int),ls[k]?=some y→S y:=by
  intro k
  induction k using Nat.strongRecOn with
  | ind k ih =>
   intro y hy
   cases k with
   | zero =>
    rw [h0] at hy
    cases hy
    exact s0
   | succ k =>
    have lk:=(List.getElem?_eq_some_iff.mp hy).1
    obtain ⟨r,hr,j,hj,c⟩:=h (k+1) (by omega) (by omega)
    rcases c with ⟨c1,c2⟩ | ⟨c1,c2⟩
    ·rw [hy] at c1
     cases c1
     exact (sc r hr (.inr (ih j hj _ c2))).1
    ·rw [hy] at c1
     cases c1
     exact (sc r hr (.inl (ih j hj _ c2))).2
 have hx:x∈ls:=hp.mem_iff.mpr (zjP.mpr ⟨x0,x1⟩)
 obtain ⟨k,hk⟩:=List.getElem?_of_mem hx
 exact z k x hk
theorem ziN.mono {ls:List Int} {rs rs':List zbk} {n:Nat} (h:ziN ls rs n) (hs:∀ r∈rs,r∈rs'):ziN ls rs' n:=fun k k1 kn=>by
 obtain ⟨r,hr,c⟩:=h k k1 kn
 exact ⟨r,hs r hr,c⟩
def zed {α:Type} (l:List α) (k:Nat) (x:α):List α:=l.take k++x::l.drop k
theorem ziy {α β:Type} (f:α→β) (l:List α) (k:Nat) (x:α):(zed l k x).map f=zed (l.map f) k (f x):=by
 unfold zed
 rw [List.map_append,List.map_cons,List.map_take,List.map_drop]
theorem zdl {α:Type} {l:List α} {k:Nat} {x y:α}:y∈zed l k x↔y=x∨y∈l:=by
 unfold zed
 rw [List.mem_append,List.mem_cons]
 constructor
 ·rintro (h | h | h)
  ·exact .inr (List.mem_of_mem_take h)
  ·exact .inl h
  ·exact .inr (List.mem_of_mem_drop h)
 ·rintro (h | h)
  ·exact .inr (.inl h)
  ·rw [← List.take_append_drop k l] at h
   rcases List.mem_append.mp h with h | h
   ·exact .inl h
   ·exact .inr (.inr h)
theorem zdw {α:Type} {l:List α} {k:Nat} {x:α} (h:k≤l.length):(zed l k x).length=l.length+1:=by
 unfold zed
 rw [List.length_append,List.length_cons,List.length_take,List.length_drop]
 omega
theorem zj8 {α:Type} {l:List α} {k:Nat} {x:α} (h:k≤l.length) (i:Nat):(zed l k x)[i]?=if i<k then l[i]? else if i=k then some x else l[i - 1]?:=by
 unfold zed
 have lt:(l.take k).length=k:=by rw [List.length_take];omega
 by_cases c:i<k
 ·rw [if_pos c,List.getElem?_append_left (by omega),List.getElem?_take_of_lt c]
 ·rw [if_neg c,List.getElem?_append_right (by omega),lt]
  by_cases c2:i=k
  ·subst c2
   rw [if_pos rfl,Nat.sub_self]
   rfl
  ·rw [if_neg c2,show i - k=(i - k - 1)+1 by omega,List.getElem?_cons_succ,List.getElem?_drop]
   congr 1
   omega
theorem Tps.ins {α:Type} {f:α→List V} {H:Hp} {ts:List Addr} {bs:List α} {t:Addr} {b:α} {k:Nat} (h:Tps f H ts bs) (hk:k≤ts.length) (e:H t=some (.tup (f b))):Tps f H (zed ts k t) (zed bs k b):=by
 have hk':k≤bs.length:=by rw [← h.1];exact hk
 refine ⟨by rw [zdw hk,zdw hk',h.1],fun i x y e1 e2=>?_⟩
 rw [zj8 hk] at e1
 rw [zj8 hk'] at e2
 split at e1
 ·rename_i c
  rw [if_pos c] at e2
  exact h.2 i x y e1 e2
 ·rename_i c
  rw [if_neg c] at e2
  split at e1
  ·rename_i c2
   rw [if_pos c2] at e2
   cases e1
   cases e2
   exact e
  ·rename_i c2
   rw [if_neg c2] at e2
   exact h.2 _ x y e1 e2
def znk (K:PySem.W.Frag):Sp:=fun vs H Q _=>∃ (p:Addr) (ns:List Int) (st mo ex:Int),vs=[.ref p,.int st,.int mo,.int ex]∧SqL K H p (ns.map V.int)∧ns.length≤63∧0≤st∧st≤10000∧1≤mo∧mo≤60∧0≤ex∧ex≤20 ∧
 ∀ (w rl:Addr) (ts:List Addr) (m:Int) (rs:List zbk) (H':Hp),za1 H H'→zeG H' w rl ts m rs→GW m rs→m≤mo→(rs.length:Int)≤m - 1+ex→m - 1≤(rs.length:Int)→Q (.ref w) H'
def zdc (K:PySem.W.Frag):TS :=
 (zch (za8 (tOp rNe (zac 14) (zac 15))) (zdo (tBM K "list" ze4 (zac 9) (zab (tOp (rI (fun _ j=>0<j) fun i j=>.int (i % j)) (tOp (rI (fun _ j=>0<j∧j.natAbs.log2<9000) fun i j=>.int (i / j)) (zac 10) (tC (.int 3600))) (tOp (rI0 fun i j=>.int (i+j)) (tCB (fun xs H Q=>∃ p ys,xs=[.ref p]∧(SqL K H p ys∨SqT K H p ys)∧Q (.int ys.length) H) (zab (zac 9) zat)) (tC (.int 1)))) (zab (zf5 (zab (zac 14) (zab (zac 15) (zab (zaK zeF [] E0 (zab (tOp (rI (fun _ j=>0<j∧j.natAbs.log2<9000) fun i j=>.int (i / j)) (zac 10) (tC (.int 100))) zat)) zat)))) zat)))) za9)
theorem za2 (K:PySem.W.Frag) (D:zbV) (σ:St) (H:Hp):zdc K D σ H=(zch (za8 (tOp rNe (zac 14) (zac 15))) (zdo (tBM K "list" ze4 (zac 9) (zab (tOp (rI (fun _ j=>0<j) fun i j=>.int (i % j)) (tOp (rI (fun _ j=>0<j∧j.natAbs.log2<9000) fun i j=>.int (i / j)) (zac 10) (tC (.int 3600))) (tOp (rI0 fun i j=>.int (i+j)) (tCB (fun xs H Q=>∃ p ys,xs=[.ref p]∧(SqL K H p ys∨SqT K H p ys)∧Q (.int ys.length) H) (zab (zac 9) zat)) (tC (.int 1)))) (zab (zf5 (zab (zac 14) (zab (zac 15) (zab (zaK zeF [] E0 (zab (tOp (rI (fun _ j=>0<j∧j.natAbs.log2<9000) fun i j=>.int (i / j)) (zac 10) (tC (.int 100))) zat)) zat)))) zat)))) za9) D σ H:=rfl
def zdv (K:PySem.W.Frag):TS :=
 (za0 (tPar 14 15 (zab (tOp (rI (fun _ j=>0<j) fun i j=>.int (i % j)) (zac 10) (zac 4)) (zab (tOp (rI (fun _ j=>0<j) fun i j=>.int (i % j)) (tOp (rI (fun _ j=>0<j∧j.natAbs.log2<9000) fun i j=>.int (i / j)) (zac 10) (zac 4)) (zac 4)) zat)))
 (zdc K))
theorem za7 (K:PySem.W.Frag) (D:zbV) (σ:St) (H:Hp):zdv K D σ H=(za0 (tPar 14 15 (zab (tOp (rI (fun _ j=>0<j) fun i j=>.int (i % j)) (zac 10) (zac 4)) (zab (tOp (rI (fun _ j=>0<j) fun i j=>.int (i % j)) (tOp (rI (fun _ j=>0<j∧j.natAbs.log2<9000) fun i j=>.int (i / j)) (zac 10) (zac 4)) (zac 4)) zat)))
 (zdc K)) D σ H:=rfl
def zdt (K:PySem.W.Frag):TS :=
 (za0 (zbF (zaK (zbJ K) [] E0 (zab (zac 0) (zab (tOp (rI0 fun i j=>.int (i+j)) (tOp (rI0 fun i j=>.int (i+j)) (zac 1) (tC (.int 181))) (zac 8)) zat))) (zar 10))
 (zdv K))
theorem zay (K:PySem.W.Frag) (D:zbV) (σ:St) (H:Hp):zdt K D σ H=(za0 (zbF (zaK (zbJ K) [] E0 (zab (zac 0) (zab (tOp (rI0 fun i j=>.int (i+j)) (tOp (rI0 fun i j=>.int (i+j)) (zac 1) (tC (.int 181))) (zac 8)) zat))) (zar 10))
 (zdv K)) D σ H:=rfl
def zdk (K:PySem.W.Frag):TS :=
 (zdo (tBM K "list" ze4 (zac 9) (zab (zac 13) (zab (tOp (zno K) (zac 12) (zf5 (zab (zaK zeF [] E0 (zab (tOp (rI (fun _ j=>0<j∧j.natAbs.log2<9000) fun i j=>.int (i / j)) (tOp (rI (fun _ j=>0<j∧j.natAbs.log2<9000) fun i j=>.int (i / j)) (zac 10) (zac 8)) (tC (.int 2))) zat)) zat))) zat))))
theorem za3 (K:PySem.W.Frag) (D:zbV) (σ:St) (H:Hp):zdk K D σ H=(zdo (tBM K "list" ze4 (zac 9) (zab (zac 13) (zab (tOp (zno K) (zac 12) (zf5 (zab (zaK zeF [] E0 (zab (tOp (rI (fun _ j=>0<j∧j.natAbs.log2<9000) fun i j=>.int (i / j)) (tOp (rI (fun _ j=>0<j∧j.natAbs.log2<9000) fun i j=>.int (i / j)) (zac 10) (zac 8)) (tC (.int 2))) zat)) zat))) zat)))) D σ H:=rfl
def zdp (K:PySem.W.Frag):TS :=
 (za0 (zbF (tOp (rI (fun _ j=>0<j) fun i j=>.int (i % j)) (zaK (zbJ K) [] E0 (zab (zac 0) (zab (tOp (rI0 fun i j=>.int (i+j)) (tOp (rI0 fun i j=>.int (i+j)) (zac 1) (tC (.int 120))) (zac 8)) zat))) (tOp (rI0 fun i j=>.int (i+j)) (tCB (fun xs H Q=>∃ p ys,xs=[.ref p]∧(SqL K H p ys∨SqT K H p ys)∧Q (.int ys.length) H) (zab (zac 9) zat)) (tC (.int 1)))) (zar 13))
 (zdk K))
theorem za5 (K:PySem.W.Frag) (D:zbV) (σ:St) (H:Hp):zdp K D σ H=(za0 (zbF (tOp (rI (fun _ j=>0<j) fun i j=>.int (i % j)) (zaK (zbJ K) [] E0 (zab (zac 0) (zab (tOp (rI0 fun i j=>.int (i+j)) (tOp (rI0 fun i j=>.int (i+j)) (zac 1) (tC (.int 120))) (zac 8)) zat))) (tOp (rI0 fun i j=>.int (i+j)) (tCB (fun xs H Q=>∃ p ys,xs=[.ref p]∧(SqL K H p ys∨SqT K H p ys)∧Q (.int ys.length) H) (zab (zac 9) zat)) (tC (.int 1)))) (zar 13))
 (zdk K)) D σ H:=rfl
def zdd (K:PySem.W.Frag):TS :=
 (za0 (zbF (tOp (zer K) (zjn (zab (zf5 (zab (tOp (zer K) (zac 6) (zac 8)) (zab (zac 11) zat))) (zab (zf5 (zab (zac 11) (zab (tOp (zer K) (zac 6) (zac 8)) zat))) zat))) (tOp (rI (fun _ j=>0<j) fun i j=>.int (i % j)) (tOp (rI (fun _ j=>0<j∧j.natAbs.log2<9000) fun i j=>.int (i / j)) (zac 10) (zac 8)) (tC (.int 2)))) (zar 12))
 (zdp K))
theorem za6 (K:PySem.W.Frag) (D:zbV) (σ:St) (H:Hp):zdd K D σ H=(za0 (zbF (tOp (zer K) (zjn (zab (zf5 (zab (tOp (zer K) (zac 6) (zac 8)) (zab (zac 11) zat))) (zab (zf5 (zab (zac 11) (zab (tOp (zer K) (zac 6) (zac 8)) zat))) zat))) (tOp (rI (fun _ j=>0<j) fun i j=>.int (i % j)) (tOp (rI (fun _ j=>0<j∧j.natAbs.log2<9000) fun i j=>.int (i / j)) (zac 10) (zac 8)) (tC (.int 2)))) (zar 12))
 (zdp K)) D σ H:=rfl
def zdr (K:PySem.W.Frag):TS :=
 (za0 (zbF (tOp (zer K) (zac 6) (tOp (zer K) (zjn (zab (tOp (rI (fun _ j=>0<j) fun i j=>.int (i % j)) (zac 10) (zac 8)) (zab (tOp (rI0 fun i j=>.int (i - j)) (zac 8) (tC (.int 1))) (zab (tC (.int 0)) (zab (tOp (rI (fun _ j=>0<j) fun i j=>.int (i % j)) (zac 10) (tCB (fun xs H Q=>∃ i j,xs=[.int i,.int j]∧Q (.int (if j<i then j else i)) H) (zab (zac 8) (zab (tC (.int 3)) zat)))) zat))))) (zac 5))) (zar 11))
 (zdd K))
theorem za4 (K:PySem.W.Frag) (D:zbV) (σ:St) (H:Hp):zdr K D σ H=(za0 (zbF (tOp (zer K) (zac 6) (tOp (zer K) (zjn (zab (tOp (rI (fun _ j=>0<j) fun i j=>.int (i % j)) (zac 10) (zac 8)) (zab (tOp (rI0 fun i j=>.int (i - j)) (zac 8) (tC (.int 1))) (zab (tC (.int 0)) (zab (tOp (rI (fun _ j=>0<j) fun i j=>.int (i % j)) (zac 10) (tCB (fun xs H Q=>∃ i j,xs=[.int i,.int j]∧Q (.int (if j<i then j else i)) H) (zab (zac 8) (zab (tC (.int 3)) zat)))) zat))))) (zac 5))) (zar 11))
 (zdd K)) D σ H:=rfl
def zdE (K:PySem.W.Frag):TS :=
 (za0 (zbF (zaK (zbJ K) [] E0 (zab (zac 0) (zab (tOp (rI0 fun i j=>.int (i+j)) (tOp (rI0 fun i j=>.int (i+j)) (zac 1) (tC (.int 60))) (zac 8)) zat))) (zar 10))
 (zdr K))
theorem zaz (K:PySem.W.Frag) (D:zbV) (σ:St) (H:Hp):zdE K D σ H=(za0 (zbF (zaK (zbJ K) [] E0 (zab (zac 0) (zab (tOp (rI0 fun i j=>.int (i+j)) (tOp (rI0 fun i j=>.int (i+j)) (zac 1) (tC (.int 60))) (zac 8)) zat))) (zar 10))
 (zdr K)) D σ H:=rfl
def zds (K:PySem.W.Frag):TS :=
 (za0 (zha (zfE (zab (tOp (rI (fun _ j=>0<j) fun i j=>.int (i % j)) (zaK (zbJ K) [] E0 (zab (zac 0) (zab (tOp (rI0 fun i j=>.int (i+j)) (zac 1) (tC (.int 180))) zat))) (tOp (rI0 fun i j=>.int (i+j)) (zac 3) (tC (.int 1)))) zat)) (zar 8)
 (zdt K))
 (zbW (zf5 (zab (zac 4) (zab (zac 9) zat)))))
theorem zaA (K:PySem.W.Frag) (D:zbV) (σ:St) (H:Hp):zds K D σ H=(za0 (zha (zfE (zab (tOp (rI (fun _ j=>0<j) fun i j=>.int (i % j)) (zaK (zbJ K) [] E0 (zab (zac 0) (zab (tOp (rI0 fun i j=>.int (i+j)) (zac 1) (tC (.int 180))) zat))) (tOp (rI0 fun i j=>.int (i+j)) (zac 3) (tC (.int 1)))) zat)) (zar 8)
 (zdt K))
 (zbW (zf5 (zab (zac 4) (zab (zac 9) zat))))) D σ H:=rfl
def zdC (K:PySem.W.Frag):TS :=
 (zdo (tBM K "list" zbP (zac 6) (zab (tBM K "list" zj6 (zac 7) (zab (tOp (rI (fun _ j=>0<j) fun i j=>.int (i % j)) (zaK (zbJ K) [] E0 (zab (zac 0) (zab (tOp (rI0 fun i j=>.int (i+j)) (tOp (rI0 fun i j=>.int (i+j)) (zac 1) (tC (.int 1))) (zac 8)) zat))) (tCB (fun xs H Q=>∃ p ys,xs=[.ref p]∧(SqL K H p ys∨SqT K H p ys)∧Q (.int ys.length) H) (zab (zac 7) zat))) zat)) zat)))
theorem zaB (K:PySem.W.Frag) (D:zbV) (σ:St) (H:Hp):zdC K D σ H=(zdo (tBM K "list" zbP (zac 6) (zab (tBM K "list" zj6 (zac 7) (zab (tOp (rI (fun _ j=>0<j) fun i j=>.int (i % j)) (zaK (zbJ K) [] E0 (zab (zac 0) (zab (tOp (rI0 fun i j=>.int (i+j)) (tOp (rI0 fun i j=>.int (i+j)) (zac 1) (tC (.int 1))) (zac 8)) zat))) (tCB (fun xs H Q=>∃ p ys,xs=[.ref p]∧(SqL K H p ys∨SqT K H p ys)∧Q (.int ys.length) H) (zab (zac 7) zat))) zat)) zat))) D σ H:=rfl
def zc1 (K:PySem.W.Frag):TS :=
 (za0 (zbF (zjn zat) (zar 9))
 (za0 (zha (zmN (zab (tC (.int 1)) (zab (zac 4) zat))) (zar 8)
 (zdE K))
 (zds K)))
theorem zav (K:PySem.W.Frag) (D:zbV) (σ:St) (H:Hp):zc1 K D σ H=(za0 (zbF (zjn zat) (zar 9))
 (za0 (zha (zmN (zab (tC (.int 1)) (zab (zac 4) zat))) (zar 8)
 (zdE K))
 (zds K))) D σ H:=rfl
def zcR (K:PySem.W.Frag):TS :=
 (za0 (zbF (tCB zfI (zab (zmB (zab (tC (.int 1)) (zab (zac 4) zat))) zat)) (zar 7))
 (za0 (zha (zfE (zab (tOp (rI0 fun i j=>.int (i - j)) (zac 4) (tC (.int 1))) zat)) (zar 8)
 (zdC K))
 (zc1 K)))
theorem zaV (K:PySem.W.Frag) (D:zbV) (σ:St) (H:Hp):zcR K D σ H=(za0 (zbF (tCB zfI (zab (zmB (zab (tC (.int 1)) (zab (zac 4) zat))) zat)) (zar 7))
 (za0 (zha (zfE (zab (tOp (rI0 fun i j=>.int (i - j)) (zac 4) (tC (.int 1))) zat)) (zar 8)
 (zdC K))
 (zc1 K))) D σ H:=rfl
def zez (K:PySem.W.Frag):TS :=
 (za0 (zbF (tOp (rI (fun _ j=>0<j) fun i j=>.int (i % j)) (tOp (rI (fun _ j=>0<j∧j.natAbs.log2<9000) fun i j=>.int (i / j)) (zaK (zbJ K) [] E0 (zab (zac 0) (zab (zac 1) zat))) (zac 2)) (tC (.int 4))) (zar 5))
 (za0 (zbF (zjn (zab (tC (.int 0)) zat)) (zar 6))
 (zcR K)))
theorem zaW (K:PySem.W.Frag) (D:zbV) (σ:St) (H:Hp):zez K D σ H=(za0 (zbF (tOp (rI (fun _ j=>0<j) fun i j=>.int (i % j)) (tOp (rI (fun _ j=>0<j∧j.natAbs.log2<9000) fun i j=>.int (i / j)) (zaK (zbJ K) [] E0 (zab (zac 0) (zab (zac 1) zat))) (zac 2)) (tC (.int 4))) (zar 5))
 (za0 (zbF (zjn (zab (tC (.int 0)) zat)) (zar 6))
 (zcR K))) D σ H:=rfl
def ze2 (K:PySem.W.Frag):TS :=
 (za0 (zbF (tOp (rI0 fun i j=>.int (i+j)) (tC (.int 1)) (tOp (rI (fun _ j=>0<j) fun i j=>.int (i % j)) (zaK (zbJ K) [] E0 (zab (zac 0) (zab (zac 1) zat))) (zac 2))) (zar 4))
 (zez K))
theorem zja {p:Addr} {ns:List Int} {st mo ex:Int} (hS:SqL K H p (ns.map V.int)) (hl:ns.length≤63) (st0:0≤st) (st1:st≤10000) (mo1:1≤mo) (mo60:mo≤60) (ex0:0≤ex) (ex20:ex≤20)
  (q:∀ (w rl:Addr) (ts:List Addr) (m:Int) (rs:List zbk) (H':Hp),za1 H H'→zeG H' w rl ts m rs→GW m rs→m≤mo→(rs.length:Int)≤m - 1+ex→m - 1≤(rs.length:Int)→Q (.ref w) H') :
  ze2 K { nx:=fun _ H'=>Q .non H',rt:=Q } (L2.zbu ["_law_script","_law_start","_law_most","_law_extra","_law_many","_law_shape","_law_labels","_law_left","_law_k","_law_roads","_law_number","_law_other","_law_ends","_law_at","_law_a","_law_b"] [.ref p,.int st,.int mo,.int ex]) H:=by
 unfold ze2
 simp_all only [zay,zaz,zaA,zaB,zav,zac]
 refine ⟨p,ns,st,rfl,hS,hl,st0,by omega,fun r1 r10 r11=>?_⟩
 refine ⟨_,rfl,by omega,?_⟩
 have m1:1≤1+r1 % mo:=by have:=Int.emod_nonneg r1 (show mo≠0 by omega);omega
 have m2:1+r1 % mo≤mo:=by have:=Int.emod_lt_of_pos r1 (show 0<mo by omega);omega
 generalize 1+r1 % mo=m at m1 m2 ⊢
 (try simp only);first | rw [za2] | rw [za7] | rw [za3] | rw [za5] | rw [za6] | rw [za4] | rw [zaV] | rw [zaW]
 simp_all only [zay,zaz,zaA,zaB,zav,zac]
 refine ⟨p,ns,st,rfl,hS,hl,st0,by omega,fun r2 r20 r21=>?_⟩
 refine ⟨_,rfl,by omega,zj0 6 (by omega) (show mo.natAbs<64 by omega),by decide,?_⟩
 have sh0:0≤r2 / mo % 4:=by omega
 have sh4:r2 / mo % 4<4:=by omega
 generalize r2 / mo % 4=shp at sh0 sh4 ⊢
 refine ⟨by decide,fun lab hlab=>?_⟩
 (try simp only);first | rw [za2] | rw [za7] | rw [za3] | rw [za5] | rw [za6] | rw [za4] | rw [zaV] | rw [zaW]
 simp_all only [zay,zaz,zaA,zaB,zav,zac]
 refine ⟨by decide,by decide,by omega,by omega,fun rg hrg=>⟨1,m,zad,by decide,by decide,by omega,by omega,by omega,fun lef hlef=>?_⟩⟩
 refine ⟨by omega,by omega,?_⟩
 have hlef0:H lef=none:=((za1.refl H).add hlab).add hrg |>.free hlef
 have hne:lab≠lef:=zaw (show (L2.upd (L2.upd H lab (.lst [V.int 0])) rg (.rng 1 m)) lab=some (.lst [V.int 0]) by rw [zaq (zaw zad hrg)];exact zad) hlef
 refine zcM (fun i σ H'=>za1 H H'∧∃ (ls lf:List Int) (x:Option V),H' lab=some (.lst (ls.map V.int))∧H' lef=some (.lst (lf.map V.int))∧(ls++lf).Perm (zlO m)∧ls.length=i+1∧ls[0]?=some 0 ∧
  σ=[some (.ref p),some (.int st),some (.int mo),some (.int ex),some (.int m),some (.int shp),some (.ref lab),some (.ref lef),x,none,none,none,none,none,none,none]) ?_ ?_ ?_
 ·refine ⟨(((za1.refl H).add hlab).add hrg).add hlef,[0],(List.range (m - 1).toNat).map (fun k:Nat=>1+(k:Int)),_,?_,?_,?_,rfl,rfl,rfl⟩
  ·rw [zaq hne,zaq (zaw zad hrg)]
   exact zad
  ·rw [zad,List.map_map]
   rfl
  ·rw [zlV m1]
   exact .refl _
 ·rintro i σ H1 hi ⟨s1,ls,lf,x,h1,h2,hp,ll,l0,rfl⟩
  have lt:ls.length+lf.length=m.toNat:=by
   have:=hp.length_eq
   rw [List.length_append] at this
   rw [this]
   unfold zlO
   rw [List.length_map,List.length_range]
  simp_all only [zay,zaz,zaA,zaB,zav,zac]
  refine ⟨.inl ⟨rfl,_,SqL.of h1⟩,.inl ⟨rfl,_,SqL.of h2⟩,?_⟩
  refine ⟨p,ns,_,rfl,s1.seq hS,hl,by omega,by omega,fun r3 r30 r31=>?_⟩
  refine ⟨_,.inl (SqL.of h2),_,rfl,?_⟩
  rw [List.length_map]
  have z0:=Int.emod_nonneg r3 (show (lf.length:Int)≠0 by omega)
  have z1:=Int.emod_lt_of_pos r3 (show 0<(lf.length:Int) by omega)
  generalize r3 % (lf.length:Int)=k at z0 z1
  have hk:k.toNat<lf.length:=by omega
  have ek:lf[k.toNat]?=some lf[k.toNat]:=List.getElem?_eq_getElem hk
  refine ⟨by omega,_,h2,by omega,by omega,_,seqIx z0 (by rw [List.length_map];exact z1),.int lf[k.toNat],by rw [List.getElem?_map,ek];rfl,_,by rw [zaq hne];exact h1,zgo (by rw [List.length_map];omega),?_,ls++[lf[k.toNat]],?_,lf.eraseIdx k.toNat,?_,?_,by rw [List.length_append,ll];rfl,?_⟩
  ·exact (s1.put hlef0).put hlab
  ·rw [zad,List.map_append]
   rfl
  ·rw [zaq hne.symm,zad,zh3]
  ·rw [List.append_assoc]
   exact (List.Perm.append_left ls (zkA ek)).trans hp
  ·rw [List.getElem?_append_left (by omega)]
   exact l0
 ·rintro σ H1 ⟨s1,ls,lf,x,h1,h2,hp,ll,l0,rfl⟩
  have lt:ls.length+lf.length=m.toNat:=by
   have:=hp.length_eq
   rw [List.length_append] at this
   rw [this]
   unfold zlO
   rw [List.length_map,List.length_range]
  have lf0:lf=[]:=List.eq_nil_of_length_eq_zero (by omega)
  rw [lf0,List.append_nil] at hp
  have gl:∀ x∈ls,0≤x∧x<m:=fun x hx=>zjP.mp (hp.mem_iff.mp hx)
  have nd:ls.Nodup:=hp.nodup_iff.mpr zkc
  clear h2
  simp_all only [zay,zaz,zaA,zaB,zav,zac]
  refine ⟨by decide,fun rl hrl=>?_⟩
  refine ⟨by decide,by decide,by omega,by omega,?_⟩
  have n1:rl≠lab:=(zaw h1 hrl).symm
  refine zcM (fun i σ H'=>za1 H1 H'∧∃ (ts:List Addr) (rs:List zbk),H' rl=some (.lst (ts.map V.ref))∧Tps rdv (Off rl rl H') ts rs∧rs.length=i∧(∀ r∈rs,GR m r)∧ziN ls rs i ∧
   ∃ x1 x2 x3 x4 x5,σ=[some (.ref p),some (.int st),some (.int mo),some (.int ex),some (.int m),some (.int shp),some (.ref lab),some (.ref lef),x1,some (.ref rl),x2,x3,x4,x5,none,none]) ?_ ?_ ?_
  ·exact ⟨zaC hrl _,[],[],zad,.nil,rfl,by simp,fun k k1 k2=>by omega,_,_,_,_,_,rfl⟩
  ·rintro i σ H2 hi ⟨s2,ts,rs,hr2,ht2,lr,gr,jn,x1,x2,x3,x4,x5,rfl⟩
   have hS2:=s2.seq (s1.seq hS)
   simp_all only [zay,zaz,zaA,zaB,zav,zac]
   refine ⟨p,ns,_,rfl,hS2,hl,by omega,by omega,fun n n0 n1'=>?_⟩
   have em:(if (3:Int)<1+(i:Int) then (3:Int) else 1+(i:Int))≤1+(i:Int)∧0<(if (3:Int)<1+(i:Int) then (3:Int) else 1+(i:Int)):=by split <;> omega
   (try simp only);first | rw [za2] | rw [za7] | rw [za3] | rw [za5] | rw [za6] | rw [za4] | rw [zaV] | rw [zaW]
   simp_all only [zay,zaz,zaA,zaB,zav,zac]
   generalize (if (3:Int)<1+(i:Int) then (3:Int) else 1+(i:Int))=mn at em ⊢
   refine ⟨by omega,em.2,by decide,fun a1 ha1=>?_⟩
   have s3:=zaC ha1 (.lst [V.int (n % (1+(i:Int))),V.int (1+(i:Int) - 1),V.int 0,V.int (n % mn)])
   have h3:(L2.upd H2 a1 (.lst [V.int (n % (1+(i:Int))),V.int (1+(i:Int) - 1),V.int 0,V.int (n % mn)])) a1=some (.lst [V.int (n % (1+(i:Int))),V.int (1+(i:Int) - 1),V.int 0,V.int (n % mn)]):=zad
   generalize L2.upd H2 a1 (.lst [V.int (n % (1+(i:Int))),V.int (1+(i:Int) - 1),V.int 0,V.int (n % mn)])=H3 at s3 h3 ⊢
   obtain ⟨jx,hj,hjc⟩:=at4 (a:=n % (1+(i:Int))) (b:=1+(i:Int) - 1) (c:=0) (d:=n % mn) sh0 sh4
   have j0:0≤jx∧jx<1+(i:Int):=by
    have z1:=Int.emod_nonneg n (show (1+(i:Int))≠0 by omega)
    have z2:=Int.emod_lt_of_pos n (show 0<(1+(i:Int)) by omega)
    have z3:=Int.emod_nonneg n (show mn≠0 by omega)
    have z4:=Int.emod_lt_of_pos n (show 0<mn by omega)
    omega
   clear hjc
   obtain ⟨ot,ho,ho2⟩:=zjO (ns:=ls) j0.1 (by omega)
   obtain ⟨me,hm,hm2⟩:=zjO (ns:=ls) (k:=1+(i:Int)) (by omega) (by omega)
   have h13:=s3 _ _ (s2 _ _ h1)
   refine ⟨_,SqL.of h3,_,hj,_,_,rfl,SqL.of h13,_,ho,?_⟩
   (try simp only);first | rw [za2] | rw [za7] | rw [za3] | rw [za5] | rw [za6] | rw [za4] | rw [zaV] | rw [zaW]
   simp_all only [zay,zaz,zaA,zaB,zav,zac]
   refine ⟨_,SqL.of h13,_,hm,by decide,fun a2 ha2=>?_⟩
   have s4:=zaC ha2 (.tup [V.int me,V.int ot])
   have h4:(L2.upd H3 a2 (.tup [V.int me,V.int ot])) a2=some (.tup [V.int me,V.int ot]):=zad
   generalize L2.upd H3 a2 (.tup [V.int me,V.int ot])=H4 at s4 h4 ⊢
   have h14:=s4 _ _ h13
   refine ⟨_,SqL.of h14,_,hm,by decide,fun a3 ha3=>?_⟩
   have s5:=zaC ha3 (.tup [V.int ot,V.int me])
   have h5:(L2.upd H4 a3 (.tup [V.int ot,V.int me])) a3=some (.tup [V.int ot,V.int me]):=zad
   generalize L2.upd H4 a3 (.tup [V.int ot,V.int me])=H5 at s5 h5 ⊢
   refine ⟨by decide,fun a4 ha4=>?_⟩
   have s6:=zaC ha4 (.lst [V.ref a2,V.ref a3])
   have h6:(L2.upd H5 a4 (.lst [V.ref a2,V.ref a3])) a4=some (.lst [V.ref a2,V.ref a3]):=zad
   generalize L2.upd H5 a4 (.lst [V.ref a2,V.ref a3])=H6 at s6 h6 ⊢
   obtain ⟨e,he,hec⟩:=at2 (x:=V.ref a2) (y:=V.ref a3) (r:=n / (1+(i:Int)) % 2) (by omega) (by omega)
   obtain ⟨ea,u,v,rfl,hea,huv⟩:∃ (ea:Addr) (u v:Int),e=.ref ea∧H6 ea=some (.tup [V.int u,V.int v])∧((u=me∧v=ot)∨(u=ot∧v=me)):=by
    rcases hec with rfl | rfl
    ·exact ⟨a2,me,ot,rfl,s6 _ _ (s5 _ _ h4),.inl ⟨rfl,rfl⟩⟩
    ·exact ⟨a3,ot,me,rfl,s6 _ _ h5,.inr ⟨rfl,rfl⟩⟩
   have s26:=s3.trans (s4.trans (s5.trans s6))
   have hr6:=s26 _ _ hr2
   have ht6:=ht2.same (zgX rl rl s26)
   have gme:=gl me (zda hm2)
   have got:=gl ot (zda ho2)
   have dif:ot≠me:=zm4 nd ho2 hm2 (by omega)
   refine ⟨by omega,zj0 6 (by omega) (show (1+(i:Int)).natAbs<64 by omega),by decide,_,SqL.of h6,_,he,?_⟩
   (try simp only);first | rw [za2] | rw [za7] | rw [za3] | rw [za5] | rw [za6] | rw [za4] | rw [zaV] | rw [zaW]
   simp_all only [zay,zaz,zaA,zaB,zav,zac]
   refine ⟨p,ns,_,rfl,s26.seq hS2,hl,by omega,by omega,fun n3 n30 n31=>?_⟩
   refine ⟨_,.inl (SqL.of hr6),_,rfl,by omega,?_⟩
   rw [List.length_map]
   have z0:=Int.emod_nonneg n3 (show (ts.length:Int)+1≠0 by omega)
   have z1:=Int.emod_lt_of_pos n3 (show 0<(ts.length:Int)+1 by omega)
   generalize n3 % ((ts.length:Int)+1)=k at z0 z1
   (try simp only);first | rw [za2] | rw [za7] | rw [za3] | rw [za5] | rw [za6] | rw [za4] | rw [zaV] | rw [zaW]
   simp_all only [zay,zaz,zaA,zaB,zav,zac]
   refine ⟨.inl ⟨rfl,_,SqL.of hr6⟩,by omega,zj0 6 (by omega) (show (1+(i:Int)).natAbs<64 by omega),zqd.1,zqd.2,?_⟩
   refine ⟨_,rfl,fun le H7 s7 le1 le2=>⟨by decide,fun a5 ha5=>?_⟩⟩
   have s8:=zaC ha5 (.tup [V.int le])
   have h8:(L2.upd H7 a5 (.tup [V.int le])) a5=some (.tup [V.int le]):=zad
   generalize L2.upd H7 a5 (.tup [V.int le])=H8 at s8 h8 ⊢
   have s68:=s7.trans s8
   refine ⟨_,SqT.of (s68 _ _ hea),_,SqT.of h8,by simp,(show (3:Nat)≤sizeLine by decide),fun z=>by simp at z,fun _ a6 ha6=>?_⟩
   rw [List.cons_append,List.cons_append,List.nil_append]
   have s9:=zaC ha6 (.tup [V.int u,V.int v,V.int le])
   have h9:(L2.upd H8 a6 (.tup [V.int u,V.int v,V.int le])) a6=some (.tup [V.int u,V.int v,V.int le]):=zad
   generalize L2.upd H8 a6 (.tup [V.int u,V.int v,V.int le])=H9 at s9 h9 ⊢
   have s69:=s68.trans s9
   have hr9:=s69 _ _ hr6
   have ht9:=ht6.same (zgX rl rl s69)
   have ltl:=ht9.1
   have big:(1000:Nat)<1000000:=by decide
   refine ⟨_,hr9,z0,by rw [List.length_map];omega,by rw [List.length_map];omega,?_⟩
   have n6:a6≠rl:=(zaw (s68 _ _ hr6) ha6).symm
   have h9':Off rl rl H9 a6=some (.tup (rdv (u,v,le))):=by rw [zlM n6 n6];exact h9
   refine ⟨?_,zed ts k.toNat a6,?_,zed rs k.toNat (u,v,le),?_,?_,fun r hr=>?_,?_⟩
   ·exact (s2.trans (s26.trans s69)).put hrl
   ·rw [zad,ziy]
    rfl
   ·rw [zpv]
    exact ht9.ins (by omega) h9'
   ·rw [zdw (by omega),lr]
   ·rcases zdl.mp hr with rfl | hr
    ·unfold GR
     rcases huv with ⟨rfl,rfl⟩ | ⟨rfl,rfl⟩
     ·exact ⟨gme.1,gme.2,got.1,got.2,dif.symm,le1,le2⟩
     ·exact ⟨got.1,got.2,gme.1,gme.2,dif,le1,le2⟩
    ·exact gr r hr
   ·intro k' k1 k2
    by_cases c:k'≤i
    ·obtain ⟨r,hr,w⟩:=jn k' k1 c
     exact ⟨r,zdl.mpr (.inr hr),w⟩
    ·have ek':k'=i+1:=by omega
     subst ek'
     refine ⟨(u,v,le),zdl.mpr (.inl rfl),jx.toNat,by omega,?_⟩
     have hm3:ls[i+1]?=some me:=by
      have:=hm2
      rw [show (1+(i:Int)).toNat=i+1 by omega] at this
      exact this
     rcases huv with ⟨rfl,rfl⟩ | ⟨rfl,rfl⟩
     ·exact .inl ⟨hm3,ho2⟩
     ·exact .inr ⟨hm3,ho2⟩
  ·rintro σ H2 ⟨s2,ts,rs,hr2,ht2,lr,gr,jn,x1,x2,x3,x4,x5,rfl⟩
   have hS2:=s2.seq (s1.seq hS)
   have emn:m=((m - 1).toNat:Int)+1:=by omega
   simp_all only [zay,zaz,zaA,zaB,zav,zac]
   refine ⟨p,ns,_,rfl,hS2,hl,by omega,by omega,fun n n0 n1'=>?_⟩
   have z0:=Int.emod_nonneg n (show ex+1≠0 by omega)
   have z1:=Int.emod_lt_of_pos n (show 0<ex+1 by omega)
   refine ⟨_,rfl,by omega,by omega,by omega,?_⟩
   generalize n % (ex+1)=cnt at z0 z1 ⊢
   refine zcM (fun i σ H'=>za1 H1 H'∧∃ (ts:List Addr) (rs:List zbk),H' rl=some (.lst (ts.map V.ref))∧Tps rdv (Off rl rl H') ts rs∧m - 1≤(rs.length:Int)∧(rs.length:Int)≤m - 1+i∧(∀ r∈rs,GR m r)∧ziN ls rs (m - 1).toNat ∧
    ∃ x1 x2 x3 x4 x5 x6 x7,σ=[some (.ref p),some (.int st),some (.int mo),some (.int ex),some (.int m),some (.int shp),some (.ref lab),some (.ref lef),x1,some (.ref rl),x2,x3,x4,x5,x6,x7]) ?_ ?_ ?_
   ·exact ⟨s2,ts,rs,hr2,ht2,by omega,by omega,gr,jn,_,_,_,_,_,_,_,rfl⟩
   ·rintro i σ H3 hi ⟨s3,ts,rs,hr3,ht3,lr1,lr2,gr,jn,y1,y2,y3,y4,y5,y6,y7,rfl⟩
    have hS3:=s3.seq (s1.seq hS)
    have lt3:=ht3.1
    simp_all only [zay,zaz,zaA,zaB,zav,zac]
    refine ⟨p,ns,_,rfl,hS3,hl,by omega,by omega,fun n2 n20 n21=>?_⟩
    (try simp only);first | rw [za2] | rw [za7] | rw [za3] | rw [za5] | rw [za6] | rw [za4] | rw [zaV] | rw [zaW]
    simp_all only [zay,zaz,zaA,zaB,zav,zac]
    refine ⟨by omega,by omega,zj0 6 (by omega) (show m.natAbs<64 by omega),by omega,?_⟩
    have a0:=Int.emod_nonneg n2 (show m≠0 by omega)
    have a1:=Int.emod_lt_of_pos n2 (show 0<m by omega)
    have b0:=Int.emod_nonneg (n2 / m) (show m≠0 by omega)
    have b1:=Int.emod_lt_of_pos (n2 / m) (show 0<m by omega)
    generalize n2 % m=av at a0 a1
    generalize n2 / m % m=bv at b0 b1
    (try simp only);first | rw [za2] | rw [za7] | rw [za3] | rw [za5] | rw [za6] | rw [za4] | rw [zaV] | rw [zaW]
    simp_all only [zay,zaz,zaA,zaB,zav,zac]
    refine zdM (fun c=>?_) (fun c=>⟨s3,ts,hr3,rs,ht3,lr1,by omega,gr,jn⟩)
    refine ⟨.inl ⟨rfl,_,SqL.of hr3⟩,zk5.1,zk5.2,_,.inl (SqL.of hr3),by omega,znK.1,znK.2,?_⟩
    rw [List.length_map]
    have k0:=Int.emod_nonneg (n2 / 3600) (show (ts.length:Int)+1≠0 by omega)
    have k1:=Int.emod_lt_of_pos (n2 / 3600) (show 0<(ts.length:Int)+1 by omega)
    generalize n2 / 3600 % ((ts.length:Int)+1)=k at k0 k1
    refine ⟨_,rfl,fun le H7 s7 le1 le2=>⟨by decide,fun a6 ha6=>?_⟩⟩
    have s9:=zaC ha6 (.tup [V.int av,V.int bv,V.int le])
    have h9:(L2.upd H7 a6 (.tup [V.int av,V.int bv,V.int le])) a6=some (.tup [V.int av,V.int bv,V.int le]):=zad
    generalize L2.upd H7 a6 (.tup [V.int av,V.int bv,V.int le])=H9 at s9 h9 ⊢
    have s69:=s7.trans s9
    have hr9:=s69 _ _ hr3
    have ht9:=ht3.same (zgX rl rl s69)
    have ltl:=ht9.1
    have big:(1000:Nat)<1000000:=by decide
    refine ⟨_,hr9,k0,by rw [List.length_map];omega,by rw [List.length_map];omega,?_⟩
    have n6:a6≠rl:=(zaw (s7 _ _ hr3) ha6).symm
    have h9':Off rl rl H9 a6=some (.tup (rdv (av,bv,le))):=by rw [zlM n6 n6];exact h9
    refine ⟨(s3.trans s69).put hrl,zed ts k.toNat a6,?_,zed rs k.toNat (av,bv,le),?_,?_,?_,fun r hr=>?_,?_⟩
    ·rw [zad,ziy]
     rfl
    ·rw [zpv]
     exact ht9.ins (by omega) h9'
    ·rw [zdw (by omega)]
     omega
    ·rw [zdw (by omega)]
     omega
    ·rcases zdl.mp hr with rfl | hr
     ·exact ⟨a0,a1,b0,b1,c,le1,le2⟩
     ·exact gr r hr
    ·exact jn.mono fun r hr=>zdl.mpr (.inr hr)
   ·rintro σ H3 ⟨s3,ts,rs,hr3,ht3,lr1,lr2,gr,jn,y1,y2,y3,y4,y5,y6,y7,rfl⟩
    simp_all only [zay,zaz,zaA,zaB,zav,zac]
    refine ⟨by decide,fun w hw=>?_⟩
    refine q w rl ts m rs _ ((s1.trans s3).add hw) ⟨zad,zaC hw _ _ _ hr3,(ht3.same (zpB rl rl H3)).same (zaC hw _)⟩ ⟨m1,by omega,by omega,gr,jn.conn emn hp l0⟩ m2 (by omega) lr1
theorem zaL:zaN ["_law_script","_law_start","_law_most","_law_extra","_law_many","_law_shape","_law_labels","_law_left","_law_k","_law_roads","_law_number","_law_other","_law_ends","_law_at","_law_a","_law_b"] ["_law_script","_law_start","_law_most","_law_extra"] (zap ze0):=⟨rfl,rfl,rfl,by decide +kernel,rfl,by decide +kernel,by decide +kernel⟩
theorem zjl (T:Txt K mg base a):zcJ P w K mg base CX0 2 a.f__law_web a.d__law_web ["_law_script","_law_start","_law_most","_law_extra"] (znk K):=by
 have G__law_length:=zgC (P:=P) (w:=w) (base:=base) T
 have G__law_mixed:=zeD (P:=P) (w:=w) (base:=base) T
 refine T.F__law_web.ok zaL (fun vs H Q E h=>?_) (fun cdv A outer s H vs Q E hr h=>?_)
 ·obtain ⟨p,ns,st,mo,ex,rfl,hS,hl,st0,st1,mo1,mo60,ex0,ex20,q⟩:=h
  rfl
 obtain ⟨p,ns,st,mo,ex,rfl,hS,hl,st0,st1,mo1,mo60,ex0,ex20,q⟩:=h
 exact ⟨ze2 K,(zaf (zaU (i:=4) zaL.nd rfl (Or.inl rfl) (zaD zbD zao (zaD zbr (zaF G__law_mixed (hr.mono (by decide)) rfl T.m__law_mixed T.F__law_mixed.kp T.b__law_mixed .nil zbl (zaa (pv 0) (zaa (pv 1) zae))) (pv 2))))
 (zaf (zaU (i:=5) zaL.nd rfl (Or.inl rfl) (zaD zbr (zaD zbY (zaF G__law_mixed (hr.mono (by decide)) rfl T.m__law_mixed T.F__law_mixed.kp T.b__law_mixed .nil zbl (zaa (pv 0) (zaa (pv 1) zae))) (pv 2)) zao))
 (zaf (zaU (i:=6) zaL.nd rfl (Or.inl rfl) (zfn (zaa zao zae)))
 (zaf (zaU (i:=7) zaL.nd rfl (Or.inl rfl) (zbX (zgY rfl) rfl T.z_list zcH (zaa (zo5 rfl T.z_range (zaa zao (zaa (pv 4) zae))) zae)))
 (zaf (zdT PassesOwn.never rfl (zdh rfl T.z_range (zaa (zaD zhN (pv 4) zao) zae)) (zaM (i:=8) zaL.nd rfl (Or.inl rfl))
 (zas (zcn (zgA PySem.F.plainAttrs_list PySem.F.slot_list_append PySem.F.type_list_append zgh (pv 6) (zaa (zgA PySem.F.plainAttrs_list PySem.F.slot_list_pop PySem.F.type_list_pop zmo (pv 7) (zaa (zaD zbr (zaF G__law_mixed (hr.mono (by decide)) rfl T.m__law_mixed T.F__law_mixed.kp T.b__law_mixed .nil zbl (zaa (pv 0) (zaa (zaD zbD (zaD zbD (pv 1) zao) (pv 8)) zae))) (zau zaG rfl T.z_len PySem.boot_len (zaa (pv 7) zae))) zae)) zae)))))
 (zaf (zaU (i:=9) zaL.nd rfl (Or.inl rfl) (zfn zae))
 (zaf (zdT PassesOwn.never rfl (zlv rfl T.z_range (zaa zao (zaa (pv 4) zae))) (zaM (i:=8) zaL.nd rfl (Or.inl rfl))
 (zaf (zaU (i:=10) zaL.nd rfl (Or.inl rfl) (zaF G__law_mixed (hr.mono (by decide)) rfl T.m__law_mixed T.F__law_mixed.kp T.b__law_mixed .nil zbl (zaa (pv 0) (zaa (zaD zbD (zaD zbD (pv 1) zao) (pv 8)) zae))))
 (zaf (zaU (i:=11) zaL.nd rfl (Or.inl rfl) (zco zbQ (pv 6) (zco zbQ (zfn (zaa (zaD zbr (pv 10) (pv 8)) (zaa (zaD zhN (pv 8) zao) (zaa zao (zaa (zaD zbr (pv 10) (zau (zhR rfl) rfl T.z_min PyProof.Rows.boot_min (zaa (pv 8) (zaa zao zae)))) zae))))) (pv 5) (fun _ _=>rfl)) (fun _ _=>rfl)))
 (zaf (zaU (i:=12) zaL.nd rfl (Or.inl rfl) (zco zbQ (zfn (zaa (zdx (zaa (zco zbQ (pv 6) (pv 8) (fun _ _=>rfl)) (zaa (pv 11) zae))) (zaa (zdx (zaa (pv 11) (zaa (zco zbQ (pv 6) (pv 8) (fun _ _=>rfl)) zae))) zae))) (zaD zbr (zaD zbY (pv 10) (pv 8)) zao) (fun _ _=>rfl)))
 (zaf (zaU (i:=13) zaL.nd rfl (Or.inl rfl) (zaD zbr (zaF G__law_mixed (hr.mono (by decide)) rfl T.m__law_mixed T.F__law_mixed.kp T.b__law_mixed .nil zbl (zaa (pv 0) (zaa (zaD zbD (zaD zbD (pv 1) zao) (pv 8)) zae))) (zaD zbD (zau zaG rfl T.z_len PySem.boot_len (zaa (pv 9) zae)) zao)))
 (zas (zcn (zgA PySem.F.plainAttrs_list PySem.F.slot_list_insert PySem.F.type_list_insert ziE (pv 9) (zaa (pv 13) (zaa (zaD zoC (pv 12) (zdx (zaa (zaF G__law_length (hr.mono (by decide)) rfl T.m__law_length T.F__law_length.kp T.b__law_length .nil zbl (zaa (zaD zbY (zaD zbY (pv 10) (pv 8)) zao) zae)) zae))) zae))))))))))
 (zaf (zdT PassesOwn.never rfl (zdh rfl T.z_range (zaa (zaD zbr (zaF G__law_mixed (hr.mono (by decide)) rfl T.m__law_mixed T.F__law_mixed.kp T.b__law_mixed .nil zbl (zaa (pv 0) (zaa (zaD zbD (pv 1) zao) zae))) (zaD zbD (pv 3) zao)) zae)) (zaM (i:=8) zaL.nd rfl (Or.inl rfl))
 (zaf (zaU (i:=10) zaL.nd rfl (Or.inl rfl) (zaF G__law_mixed (hr.mono (by decide)) rfl T.m__law_mixed T.F__law_mixed.kp T.b__law_mixed .nil zbl (zaa (pv 0) (zaa (zaD zbD (zaD zbD (pv 1) zao) (pv 8)) zae))))
 (zaf (zpZ (i:=14) (j:=15) rfl zaL.nd rfl rfl (by decide) rfl rfl (zaa (zaD zbr (pv 10) (pv 4)) (zaa (zaD zbr (zaD zbY (pv 10) (pv 4)) (pv 4)) zae)) rfl)
 (zas (zcl (zbb zfU (pv 14) (pv 15) (zbe _)) (zas (zcn (zgA PySem.F.plainAttrs_list PySem.F.slot_list_insert PySem.F.type_list_insert ziE (pv 9) (zaa (zaD zbr (zaD zbY (pv 10) zao) (zaD zbD (zau zaG rfl T.z_len PySem.boot_len (zaa (pv 9) zae)) zao)) (zaa (zdx (zaa (pv 14) (zaa (pv 15) (zaa (zaF G__law_length (hr.mono (by decide)) rfl T.m__law_length T.F__law_length.kp T.b__law_length .nil zbl (zaa (zaD zbY (pv 10) zao) zae)) zae)))) zae))))) zbc)))))
 (zas (zaZ (zdx (zaa (pv 4) (zaa (pv 9) zae))))))))))))),
  zja hS hl st0 st1 mo1 mo60 ex0 ex20 q⟩
def zgP (K:PySem.W.Frag):Sp:=fun vs H Q _=>∃ (p:Addr) (ns:List Int) (st:Int),vs=[.ref p,.int st]∧SqL K H p (ns.map V.int)∧ns.length≤63∧0≤st∧st≤9000 ∧
 ∀ (w rl:Addr) (ts:List Addr) (m:Int) (rs:List zbk) (H':Hp),za1 H H'→zeG H' w rl ts m rs→GW m rs→rs.length≤80→Q (.ref w) H'
def zc9 (K:PySem.W.Frag):TS :=
 (zch (za8 (tOp rEq (tOp (rI (fun _ j=>0<j) fun i j=>.int (i % j)) (zaK (zbJ K) [] E0 (zab (zac 0) (zab (tOp (rI0 fun i j=>.int (i+j)) (zac 1) (tC (.int 199))) zat))) (tC (.int 4))) (tC (.int 1)))) (zbW (zaK (znk K) [] E0 (zab (zac 0) (zab (zac 1) (zab (tC (.int 60)) (zab (tC (.int 15)) zat)))))) za9)
theorem zbR (K:PySem.W.Frag) (D:zbV) (σ:St) (H:Hp):zc9 K D σ H=(zch (za8 (tOp rEq (tOp (rI (fun _ j=>0<j) fun i j=>.int (i % j)) (zaK (zbJ K) [] E0 (zab (zac 0) (zab (tOp (rI0 fun i j=>.int (i+j)) (zac 1) (tC (.int 199))) zat))) (tC (.int 4))) (tC (.int 1)))) (zbW (zaK (znk K) [] E0 (zab (zac 0) (zab (zac 1) (zab (tC (.int 60)) (zab (tC (.int 15)) zat)))))) za9) D σ H:=rfl
def zcF (K:PySem.W.Frag):TS :=
 (za0 (zfK (zc9 K))
 (zbW (zaK (znk K) [] E0 (zab (zac 0) (zab (zac 1) (zab (tC (.int 12)) (zab (tC (.int 6)) zat)))))))
theorem zfW {p:Addr} {ns:List Int} {st:Int} (hS:SqL K H p (ns.map V.int)) (hl:ns.length≤63) (st0:0≤st) (st1:st≤9000)
  (q:∀ (w rl:Addr) (ts:List Addr) (m:Int) (rs:List zbk) (H':Hp),za1 H H'→zeG H' w rl ts m rs→GW m rs→rs.length≤80→Q (.ref w) H') :
  zcF K { nx:=fun _ H'=>Q .non H',rt:=Q } (L2.zbu ["_law_script","_law_start"] [.ref p,.int st]) H:=by
 unfold zcF
 simp_all only [zbR,zac]
 refine ⟨fun σ H'=>H'=H∧σ=[some (.ref p),some (.int st)],?_,?_⟩
 ·simp_all only [zbR,zac]
  refine ⟨p,ns,_,rfl,hS,hl,by omega,by omega,fun r r0 r1=>?_⟩
  refine ⟨_,rfl,by decide,zdM (fun _=>?_) (fun _=>rfl)⟩
  exact ⟨p,ns,st,60,15,rfl,hS,hl,st0,by omega,by decide,by decide,by decide,by decide,fun w rl ts m rs H' s W G e1 e2 _=>q w rl ts m rs H' s W G (by omega)⟩
 ·rintro σ H' ⟨e,rfl⟩
  rw [e]
  simp_all only [zbR,zac]
  exact ⟨p,ns,st,12,6,rfl,hS,hl,st0,by omega,by decide,by decide,by decide,by decide,fun w rl ts m rs H' s W G e1 e2 _=>q w rl ts m rs H' s W G (by omega)⟩
theorem zgu:zaN ["_law_script","_law_start"] ["_law_script","_law_start"] (zap zcA):=⟨rfl,rfl,rfl,by decide +kernel,rfl,by decide +kernel,by decide +kernel⟩
theorem zgk (T:Txt K mg base a):zcJ P w K mg base CX0 3 a.f__law_any_web a.d__law_any_web ["_law_script","_law_start"] (zgP K):=by
 have G__law_mixed:=zeD (P:=P) (w:=w) (base:=base) T
 have G__law_web:=zjl (P:=P) (w:=w) (base:=base) T
 refine T.F__law_any_web.ok zgu (fun vs H Q E h=>?_) (fun cdv A outer s H vs Q E hr h=>?_)
 ·obtain ⟨p,ns,st,rfl,hS,hl,st0,st1,q⟩:=h
  rfl
 obtain ⟨p,ns,st,rfl,hS,hl,st0,st1,q⟩:=h
 exact ⟨zcF K,(zaf (zb1 (zcl (zbb zi7 (zaD zbr (zaF G__law_mixed (hr.mono (by decide)) rfl T.m__law_mixed T.F__law_mixed.kp T.b__law_mixed .nil zbl (zaa (pv 0) (zaa (zaD zbD (pv 1) zao) zae))) zao) zao (zbe _)) (zas (zaZ (zaF G__law_web (hr.mono (by decide)) rfl T.m__law_web T.F__law_web.kp T.b__law_web .nil zbl (zaa (pv 0) (zaa (pv 1) (zaa zao (zaa zao zae))))))) zbc))
 (zas (zaZ (zaF G__law_web (hr.mono (by decide)) rfl T.m__law_web T.F__law_web.kp T.b__law_web .nil zbl (zaa (pv 0) (zaa (pv 1) (zaa zao (zaa zao zae)))))))),
  zfW hS hl st0 st1 q⟩
theorem zi3:∀ (u b:List Nat) (k:Nat),lr k (u++b)≤lr (k+u.length) b
 | [],b,k=>Nat.le_refl _
 | c::u,b,k=>by
  rw [List.cons_append,zcs,List.length_cons]
  by_cases h:c=32∨c=10
  ·rw [if_pos h]
   have h1:=zi3 u b 0
   have h2:=(zgK b (k+(u.length+1))).1
   have h3:lr (0+u.length) b≤lr (k+(u.length+1)) b:=zgK.lr_mono b (by omega)
   omega
  ·rw [if_neg h]
   have:=zi3 u b (k+1)
   rw [show k+(u.length+1)=k+1+u.length by omega]
   exact this
def StR (L k:Nat) (s:Str):Prop:=∀ b,lr 0 (sgn s++b)≤max L (lr k b)
theorem StR.nil {L:Nat}:StR L 0 (Str.ofString ""):=fun b=>by
 show lr 0 ([]++b)≤_
 rw [List.nil_append]
 omega
theorem StR.add {L k m:Nat} {s u:Str} (h:StR L k s) (l:u.length≤m):StR L (k+m) (s++u):=fun b=>by
 rw [zb3,List.append_assoc]
 have h1:=h (sgn u++b)
 have h2:=zi3 (sgn u) b k
 rw [zeX] at l
 have h3:lr (k+(sgn u).length) b≤lr (k+m) b:=zgK.lr_mono b (by omega)
 omega
theorem StR.sep {L k c:Nat} {s u:Str} (h:StR L k s) (hc:c=32∨c=10) (e:u=⟨#[c]⟩) (l:k≤L):StR L 0 (s++u):=fun b=>by
 rw [zb3,List.append_assoc,e]
 have h1:=h (c::b)
 rw [zcs,if_pos hc] at h1
 show lr 0 (sgn s++c::b)≤_
 omega
theorem StR.rn {L k:Nat} {s:Str} (h:StR L k s) (l:k≤L):Rn L s:=by
 have h1:=h []
 rw [List.append_nil] at h1
 have:lr k []=k:=rfl
 unfold Rn
 omega
theorem zbf (s t:Str):(s++t).length=s.length+t.length:=by rw [zeX,zb3,List.length_append,← zeX,← zeX]
theorem zdB {n:Int} (h0:0≤n) (h1:n<10000000):n.natAbs.log2<1920:=by
 by_cases z:n.natAbs=0
 ·rw [z,Nat.log2_zero]
  decide
 ·refine (Nat.log2_lt z).mpr ?_
  have:n.natAbs<10000000:=by omega
  exact Nat.lt_trans this (by decide +kernel)
def SmR (r:zbk):Prop:=(0≤r.1∧r.1<10000000)∧(0≤r.2.1∧r.2.1<10000000)∧0≤r.2.2∧r.2.2<10000000
theorem GR.sm {m:Int} {r:zbk} (h:GR m r) (l:m≤60):SmR r:=by
 obtain ⟨h1,h2,h3,h4,_,h5,h6⟩:=h
 exact ⟨⟨h1,by omega⟩,⟨h3,by omega⟩,by omega,by omega⟩
def zl9 (s:Str) (r:zbk):Str:=s++Str.ofString "road "++Str.ofString (toString r.1)++Str.ofString " "++Str.ofString (toString r.2.1)++Str.ofString " "++Str.ofString (toString r.2.2)++Str.ofString "\n"
def wtx (m:Int) (rs:List zbk):Str:=rs.foldl zl9 (Str.ofString "web "++Str.ofString (toString m)++Str.ofString "\n")
theorem zjc (m:Int) (rs:List zbk) (r:zbk):wtx m (rs++[r])=zl9 (wtx m rs) r:=by
 unfold wtx
 rw [List.foldl_append]
 rfl
theorem zcu {n:Int} (h:0≤n∧n<10000000):(Str.ofString (toString n)).length≤7:=zoj h.1 (by decide) h.2
theorem zmC {s:Str} {r:zbk} (h:SmR r):(zl9 s r).length≤s.length+30:=by
 unfold zl9
 rw [zbf,zbf,zbf,zbf,zbf,zbf,zbf]
 have h1:=zcu h.1
 have h2:=zcu h.2.1
 have h3:=zcu h.2.2
 have l1:(Str.ofString "road ").length=5:=by decide +kernel
 have l2:(Str.ofString " ").length=1:=by decide +kernel
 have l3:(Str.ofString "\n").length=1:=by decide +kernel
 omega
theorem zoF {s:Str} {r:zbk} (h:SmR r) (st:StR 64 0 s):StR 64 0 (zl9 s r):=by
 unfold zl9
 have h1:=zcu h.1
 have h2:=zcu h.2.1
 have h3:=zcu h.2.2
 have l1:(Str.ofString "road ").length≤5:=by decide +kernel
 have l2:(Str.ofString " ").length≤1:=by decide +kernel
 exact (((((((st.add l1).add h1).add l2).add h2).add l2).add h3).sep (.inr rfl) zgD (by decide))
theorem zhz {m:Int} (hm:0≤m∧m<10000000):∀ {rs:List zbk},(∀ r∈rs,SmR r)→StR 64 0 (wtx m rs)∧(wtx m rs).length≤12+30*rs.length:=by
 have base:StR 64 0 (wtx m [])∧(wtx m []).length≤12:=by
  have h1:=zcu hm
  have l1:(Str.ofString "web ").length=4:=by decide +kernel
  have l3:(Str.ofString "\n").length=1:=by decide +kernel
  have e0:Str.ofString "web "=Str.ofString ""++Str.ofString "web ":=by decide +kernel
  refine ⟨?_,?_⟩
  ·show StR 64 0 (Str.ofString "web "++Str.ofString (toString m)++Str.ofString "\n")
   rw [e0]
   exact (((StR.nil.add (Nat.le_of_eq l1)).add h1).sep (.inr rfl) zgD (by decide))
  ·show (Str.ofString "web "++Str.ofString (toString m)++Str.ofString "\n").length≤12
   rw [zbf,zbf]
   omega
 intro rs h
 have key:∀ n,n≤rs.length→StR 64 0 (wtx m (rs.take n))∧(wtx m (rs.take n)).length≤12+30*n:=by
  intro n
  induction n with
  | zero=>intro _;exact base
  | succ n ih =>
   intro hn
   obtain ⟨i1,i2⟩:=ih (by omega)
   have e:rs[n]?=some (rs[n]'hn):=List.getElem?_eq_getElem hn
   have hr:=h _ (zda e)
   rw [List.take_add_one,e]
   show StR 64 0 (wtx m (rs.take n++[_]))∧_
   rw [zjc]
   refine ⟨zoF hr i1,?_⟩
   have:=zmC (s:=wtx m (rs.take n)) hr
   show (wtx m (rs.take n++[_])).length≤_
   rw [zjc]
   omega
 have:=key rs.length (Nat.le_refl _)
 rw [List.take_length] at this
 exact this
def zls (K:PySem.W.Frag):Sp:=fun vs H Q _=>∃ (w rl:Addr) (ts:List Addr) (m:Int) (rs:List zbk),vs=[.ref w]∧zeG H w rl ts m rs∧(0≤m∧m<10000000)∧(∀ r∈rs,SmR r)∧rs.length≤1000∧Q (.str (wtx m rs)) H
def zc6:TS :=
 (zbF (tOp zc7 (tOp zc7 (tOp zc7 (tOp zc7 (tOp zc7 (tOp zc7 (tOp zc7 (zac 1) (tC (.str "road "))) (tCB zhg (zab (zac 2) zat))) (tC (.str " "))) (tCB zhg (zab (zac 3) zat))) (tC (.str " "))) (tCB zhg (zab (zac 4) zat))) (tC (.str "\n"))) (zar 1))
theorem zc8 (D:zbV) (σ:St) (H:Hp):zc6 D σ H=(zbF (tOp zc7 (tOp zc7 (tOp zc7 (tOp zc7 (tOp zc7 (tOp zc7 (tOp zc7 (zac 1) (tC (.str "road "))) (tCB zhg (zab (zac 2) zat))) (tC (.str " "))) (tCB zhg (zab (zac 3) zat))) (tC (.str " "))) (tCB zhg (zab (zac 4) zat))) (tC (.str "\n"))) (zar 1)) D σ H:=rfl
def zea (K:PySem.W.Frag):TS :=
 (za0 (zbF (tOp zc7 (tOp zc7 (tC (.str "web ")) (tCB zhg (zab (tOp (ziW K) (zac 0) (tC (.int 0))) zat))) (tC (.str "\n"))) (zar 1))
 (za0 (zha (ziw K (tOp (ziW K) (zac 0) (tC (.int 1)))) (ziH K 3 (zbv (zar 2) (zbv (zar 3) (zbv (zar 4) ziI))))
 (zc6))
 (zbW (zac 1))))
theorem zik {w rl:Addr} {ts:List Addr} {m:Int} {rs:List zbk} (W:zeG H w rl ts m rs) (hm:0≤m∧m<10000000) (hs:∀ r∈rs,SmR r) (l:rs.length≤1000) (q:Q (.str (wtx m rs)) H):zea K { nx:=fun _ H'=>Q .non H',rt:=Q } (L2.zbu ["_law_web_here","_law_text_here","_law_a","_law_b","_law_length_here"] [.ref w]) H:=by
 unfold zea
 simp_all only [zac]
 have l0:=(zhz hm (rs:=[]) (fun r h=>by cases h)).2
 have lm:=zcu hm
 refine ⟨_,SqT.of W.hw,.int m,zca (j:=0) rfl,m,rfl,zdB hm.1 hm.2,?_⟩
 have l1:(Str.ofString "web ").length=4:=by decide +kernel
 have l3:(Str.ofString "\n").length=1:=by decide +kernel
 have l5:(Str.ofString "road ").length=5:=by decide +kernel
 have l6:(Str.ofString " ").length=1:=by decide +kernel
 refine ⟨zcC (by omega),zcC (by rw [zbf];omega),_,SqT.of W.hw,.ref rl,zca (j:=1) rfl,rl,rfl,⟨_,SqL.of W.hl⟩,?_⟩
 refine ziv (xs:=ts.map V.ref) (fun i σ H'=>H'=H∧∃ x2 x3 x4,σ=[some (.ref w),some (.str (wtx m (rs.take i))),x2,x3,x4]) ⟨rfl,_,_,_,rfl⟩ ?_ ?_ ?_
 ·rintro i σ H' _ ⟨rfl,_⟩
  exact SqL.of W.hl
 ·rintro i x σ H' e ⟨rfl,x2,x3,x4,rfl⟩
  obtain ⟨t,et,rfl⟩:=zdD e
  obtain ⟨r,er,hr⟩:=W.ht.at et
  have li:=(List.getElem?_eq_some_iff.mp er).1
  have lk:=(zhz hm (rs:=rs.take i) (fun r h=>hs r (List.mem_of_mem_take h))).2
  rw [List.length_take] at lk
  obtain ⟨h1,h2,h3⟩:=hs r (zda er)
  have k1:=zcu h1
  have k2:=zcu h2
  have k3:=zcu h3
  have ew:wtx m (rs.take (i+1))=zl9 (wtx m (rs.take i)) r:=by rw [List.take_add_one,er];exact zjc _ _ _
  rw [ew]
  unfold zl9
  generalize wtx m (rs.take i)=s at lk
  have a1:=zbf s (Str.ofString "road ")
  have a2:=zbf (s++Str.ofString "road ") (Str.ofString (toString r.1))
  have a3:=zbf (s++Str.ofString "road "++Str.ofString (toString r.1)) (Str.ofString " ")
  have a4:=zbf (s++Str.ofString "road "++Str.ofString (toString r.1)++Str.ofString " ") (Str.ofString (toString r.2.1))
  have a5:=zbf (s++Str.ofString "road "++Str.ofString (toString r.1)++Str.ofString " "++Str.ofString (toString r.2.1)) (Str.ofString " ")
  have a6:=zbf (s++Str.ofString "road "++Str.ofString (toString r.1)++Str.ofString " "++Str.ofString (toString r.2.1)++Str.ofString " ") (Str.ofString (toString r.2.2))
  unfold zc6
  simp_all only [zc8,zac]
  refine ⟨_,SqT.of hr,rfl,_,_,rfl,_,_,rfl,_,_,rfl,rfl,?_⟩
  exact ⟨zcC (by omega),r.1,rfl,zdB h1.1 h1.2,zcC (by omega),zcC (by omega),r.2.1,rfl,zdB h2.1 h2.2,zcC (by omega),zcC (by omega),r.2.2,rfl,zdB h3.1 h3.2,zcC (by omega),zcC (by omega),rfl⟩
 ·rintro σ H' ⟨rfl,x2,x3,x4,rfl⟩
  rw [List.take_of_length_le (by rw [List.length_map,W.ht.1];exact Nat.le_refl _)]
  simp_all only [zc8,zac]
  exact q
theorem zbT:zaN ["_law_web_here","_law_text_here","_law_a","_law_b","_law_length_here"] ["_law_web_here"] (zap zej):=⟨rfl,rfl,rfl,by decide +kernel,rfl,by decide +kernel,by decide +kernel⟩
theorem zfo (T:Txt K mg base a):zcJ P w K mg base CX0 1 a.f__law_text a.d__law_text ["_law_web_here"] (zls K):=by
 refine T.F__law_text.ok zbT (fun vs H Q E h=>?_) (fun cdv A outer s H vs Q E hr h=>?_)
 ·obtain ⟨w',rl,ts,m,rs,rfl,W,hm,hs,l,q⟩:=h
  rfl
 obtain ⟨w',rl,ts,m,rs,rfl,W,hm,hs,l,q⟩:=h
 exact ⟨zea K,(zaf (zaU (i:=1) zbT.nd rfl (Or.inl rfl) (zaD zcB (zaD zcB zbS (zbX zeJ rfl T.z_str zdH (zaa (zco zfq (pv 0) zao (fun _ _=>rfl)) zae))) zbS))
 (zaf (zdT PassesOwn.never rfl (zgv (zco zfq (pv 0) zao (fun _ _=>rfl))) (zeC rfl (zaX (zaM (i:=2) zbT.nd rfl (Or.inl rfl)) (zaX (zaM (i:=3) zbT.nd rfl (Or.inl rfl)) (zaX (zaM (i:=4) zbT.nd rfl (Or.inl rfl)) zcX))))
 (zas (zaU (i:=1) zbT.nd rfl (Or.inl rfl) (zaD zcB (zaD zcB (zaD zcB (zaD zcB (zaD zcB (zaD zcB (zaD zcB (pv 1) zbS) (zbX zeJ rfl T.z_str zdH (zaa (pv 2) zae))) zbS) (zbX zeJ rfl T.z_str zdH (zaa (pv 3) zae))) zbS) (zbX zeJ rfl T.z_str zdH (zaa (pv 4) zae))) zbS))))
 (zas (zaZ (pv 1))))),
  zik W hm hs l q⟩
theorem zb6 (c:Nat) (x z:Str) (l:List Str):sgn (Str.join ⟨#[c]⟩ (x::z::l))=sgn x++c::sgn (Str.join ⟨#[c]⟩ (z::l)):=zeu _ _ _ _
theorem znL {c:Nat}:∀ {a b u v:List Nat},c∉a→c∉b→a++c::u=b++c::v→a=b∧u=v
 | [],[],u,v,_,_,h=>⟨rfl,(List.cons.inj h).2⟩
 | [],y::b,u,v,_,hb,h=>absurd (List.mem_cons.mpr (.inl (List.cons.inj h).1)) hb
 | x::a,[],u,v,ha,_,h=>absurd (List.mem_cons.mpr (.inl (List.cons.inj h).1.symm)) ha
 | x::a,y::b,u,v,ha,hb,h=>by
  obtain ⟨e,h⟩:=List.cons.inj h
  obtain ⟨e1,e2⟩:=znL (fun m=>ha (List.mem_cons_of_mem _ m)) (fun m=>hb (List.mem_cons_of_mem _ m)) h
  exact ⟨by rw [e,e1],e2⟩
theorem zjD {c:Nat}:∀ {a b:List Str},a≠[]→b≠[]→(∀ x∈a,c∉sgn x)→(∀ x∈b,c∉sgn x)→Str.join ⟨#[c]⟩ a=Str.join ⟨#[c]⟩ b→a=b
 | [],_,na,_,_,_,_=>absurd rfl na
 | _,[],_,nb,_,_,_=>absurd rfl nb
 | [x],[y],_,_,_,_,h=>by rw [show x=y from h]
 | [x],y::z::b,_,_,ha,_,h=>by
  have h2:sgn x=sgn y++c::sgn (Str.join ⟨#[c]⟩ (z::b)):=(congrArg sgn h).trans (zb6 c y z b)
  exact absurd (by rw [h2];exact List.mem_append_right _ (List.mem_cons_self ..)) (ha x (List.mem_cons_self ..))
 | x::z::a,[y],_,_,_,hb,h=>by
  have h2:sgn y=sgn x++c::sgn (Str.join ⟨#[c]⟩ (z::a)):=(congrArg sgn h.symm).trans (zb6 c x z a)
  exact absurd (by rw [h2];exact List.mem_append_right _ (List.mem_cons_self ..)) (hb y (List.mem_cons_self ..))
 | x::z::a,y::w::b,_,_,ha,hb,h=>by
  have h2:=((zb6 c x z a).symm.trans (congrArg sgn h)).trans (zb6 c y w b)
  obtain ⟨e1,e2⟩:=znL (ha x (List.mem_cons_self ..)) (hb y (List.mem_cons_self ..)) h2
  rw [zef e1,zjD (List.cons_ne_nil _ _) (List.cons_ne_nil _ _) (fun u hu=>ha u (List.mem_cons_of_mem _ hu)) (fun u hu=>hb u (List.mem_cons_of_mem _ hu)) (zef e2)]
theorem zgZ {c:Nat} {l:List Str} {s:Str} (n:l≠[]) (f:∀ x∈l,c∉sgn x) (e:Str.join ⟨#[c]⟩ l=s):Txt.split s ⟨#[c]⟩=l:=by
 subst e
 exact zjD (zg7 _ _) n (fun x hx=>StrLaws.split_free _ c x hx) f (StrLaws.join_split _ _)
theorem zlu:sgn (Str.ofString "")=[]:=by decide +kernel
theorem zhQ (c:Nat):∀ l:List Str,sgn (Str.join ⟨#[c]⟩ (l++[Str.ofString ""]))=(l.map fun x=>sgn x++[c]).flatten
 | []=>zlu
 | [x]=>by
  rw [List.cons_append,List.nil_append,zb6,show Str.join ⟨#[c]⟩ [Str.ofString ""]=Str.ofString "" from rfl,zlu,List.map_cons,List.map_nil,List.flatten_cons,List.flatten_nil,List.append_nil]
 | x::z::l=>by
  rw [List.cons_append,List.cons_append,zb6,← List.cons_append,zhQ c (z::l),List.map_cons (l:=z::l),List.flatten_cons,List.append_assoc]
  rfl
theorem zhG:∀ l:List Str,sgn (Str.join (Str.ofString "") l)=(l.map sgn).flatten
 | []=>zlu
 | [x]=>by rw [zga,List.map_cons,List.map_nil,List.flatten_cons,List.flatten_nil,List.append_nil]
 | x::z::l=>by rw [zeu,zhG (z::l),zlu,List.nil_append,List.map_cons (l:=z::l),List.flatten_cons]
def zeU (m:Int):Str:=Str.ofString "web "++Str.ofString (toString m)
def zhu (r:zbk):Str:=Str.ofString "road "++Str.ofString (toString r.1)++Str.ofString " "++Str.ofString (toString r.2.1)++Str.ofString " "++Str.ofString (toString r.2.2)
def zgB (m:Int) (rs:List zbk):List Str:=zeU m::rs.map zhu
theorem zmJ (s:Str) (r:zbk):sgn (zl9 s r)=sgn s++(sgn (zhu r)++[10]):=by
 unfold zl9 zhu
 rw [zgD]
 simp only [zb3,List.append_assoc]
 rfl
theorem zjL:∀ (rs:List zbk) (s:Str),sgn (rs.foldl zl9 s)=sgn s++(rs.map fun r=>sgn (zhu r)++[10]).flatten
 | [],s=>by rw [List.foldl_nil,List.map_nil,List.flatten_nil,List.append_nil]
 | r::rs,s=>by rw [List.foldl_cons,zjL rs,zmJ,List.map_cons,List.flatten_cons,List.append_assoc]
theorem zkU (m:Int) (rs:List zbk):sgn (wtx m rs)=((zgB m rs).map fun x=>sgn x++[10]).flatten:=by
 unfold wtx zgB
 rw [zjL,List.map_cons,List.flatten_cons,List.map_map,zgD]
 rw [zb3]
 rfl
theorem znC (m:Int) (rs:List zbk):Str.join ⟨#[10]⟩ (zgB m rs++[Str.ofString ""])=wtx m rs:=zef ((zhQ 10 _).trans (zkU m rs).symm)
theorem zmW (m:Int) (rs:List zbk):Str.join (Str.ofString "") ((zgB m rs).map fun x=>x++Str.ofString "\n")=wtx m rs:=by
 refine zef ?_
 rw [zhG,zkU,List.map_map]
 congr 1
 refine List.map_congr_left fun x _=>?_
 show sgn (x++Str.ofString "\n")=_
 rw [zb3,zgD]
 rfl
theorem zfJ (c:Nat) (hc:c≠45∧(c<48∨57<c)) (n:Int):c∉sgn (Str.ofString (toString n)):=PyProof.Rows.int_text_free' c hc n
theorem zki (m:Int):10∉sgn (zeU m):=by
 unfold zeU
 rw [zb3,List.mem_append]
 rintro (h | h)
 ·exact absurd h (by decide +kernel)
 ·exact zfJ 10 ⟨by decide,by decide⟩ m h
theorem zlA (r:zbk):10∉sgn (zhu r):=by
 unfold zhu
 simp only [zb3,List.mem_append]
 have f:=fun n=>zfJ 10 ⟨by decide,by decide⟩ n
 have f1:10∉sgn (Str.ofString "road "):=by decide +kernel
 have f2:10∉sgn (Str.ofString " "):=by decide +kernel
 rintro (((((h | h) | h) | h) | h) | h)
 ·exact f1 h
 ·exact f _ h
 ·exact f2 h
 ·exact f _ h
 ·exact f2 h
 ·exact f _ h
theorem zht (m:Int) (rs:List zbk):Txt.split (wtx m rs) (Str.ofString "\n")=zgB m rs++[Str.ofString ""]:=by
 rw [zgD]
 refine zgZ (List.append_ne_nil_of_right_ne_nil _ (List.cons_ne_nil _ _)) (fun x hx=>?_) (znC m rs)
 rcases List.mem_append.mp hx with hx | hx
 ·rcases List.mem_cons.mp hx with rfl | hx
  ·exact zki m
  ·obtain ⟨r,_,rfl⟩:=List.mem_map.mp hx
   exact zlA r
 ·rw [List.mem_singleton.mp hx,zlu]
  exact List.not_mem_nil
theorem zjq (m:Int):Txt.split (zeU m) (Str.ofString " ")=[Str.ofString "web",Str.ofString (toString m)]:=by
 rw [zoG]
 refine zgZ (List.cons_ne_nil _ _) (fun x hx=>?_) (zef ?_)
 ·rcases List.mem_cons.mp hx with rfl | hx
  ·decide +kernel
  ·rw [List.mem_singleton.mp hx]
   exact zfJ 32 ⟨by decide,by decide⟩ m
 ·rw [zb6,zga]
  unfold zeU
  rw [zb3,show sgn (Str.ofString "web ")=sgn (Str.ofString "web")++[32] by decide +kernel,List.append_assoc]
  rfl
theorem zkJ (r:zbk):Txt.split (zhu r) (Str.ofString " ")=[Str.ofString "road",Str.ofString (toString r.1),Str.ofString (toString r.2.1),Str.ofString (toString r.2.2)]:=by
 rw [zoG]
 refine zgZ (List.cons_ne_nil _ _) (fun x hx=>?_) (zef ?_)
 ·rcases List.mem_cons.mp hx with rfl | hx
  ·decide +kernel
  ·have:∃ n:Int,x=Str.ofString (toString n):=by
    simp only [List.mem_cons,List.not_mem_nil,or_false] at hx
    rcases hx with h | h | h
    ·exact ⟨_,h⟩
    ·exact ⟨_,h⟩
    ·exact ⟨_,h⟩
   obtain ⟨n,rfl⟩:=this
   exact zfJ 32 ⟨by decide,by decide⟩ n
 ·rw [zb6,zb6,zb6,zga]
  unfold zhu
  simp only [zb3,List.append_assoc]
  rw [show sgn (Str.ofString "road ")=sgn (Str.ofString "road")++[32] by decide +kernel,show sgn (Str.ofString " ")=[32] by decide +kernel,List.append_assoc]
  rfl
theorem zmy:∀ m:Nat,0<m→(Nat.toDigits 10 m).head?≠some '0':=by
 intro m
 induction m using Nat.strongRecOn with
 | _ m ih =>
  intro h0
  by_cases h:m<10
  ·rw [Nat.toDigits_of_lt_base h]
   have key:∀ k:Nat,k<10→0<k→[Nat.digitChar k].head?≠some '0':=by decide
   exact key m h h0
  ·have hm:m % 10<10:=Nat.mod_lt m (by decide)
   have t:Nat.toDigits 10 (m / 10)++Nat.toDigits 10 (m % 10)=Nat.toDigits 10 (10*(m / 10)+m % 10):=Nat.toDigits_append_toDigits (by decide) (by omega) hm
   rw [Nat.div_add_mod] at t
   rw [← t]
   have i:=ih (m / 10) (by omega) (by omega)
   cases hd:Nat.toDigits 10 (m / 10) with
   | nil =>
    have:=PySem.toDigits_len_ge 10 (m / 10)
    rw [hd] at this
    exact absurd this (by decide)
   | cons a l =>
    rw [hd] at i
    exact i
theorem zfO {n:Int} (h:0≤n∧n<10000000):zgq (Str.ofString (toString n))=some n:=by
 have h1:=PySem.W.KIN.num_reads h.1 (show n<10 ^ 10 by omega)
 obtain ⟨m,rfl⟩:=Int.eq_ofNat_of_zero_le h.1
 have es:=PySem.W.KIN.signs_num m
 have hl:=PySem.toDigits_len_ge 10 m
 have ok:okW (Str.ofString (toString ((m:Nat):Int)))=true:=by
  unfold okW
  rw [es]
  have lw:(Str.ofString (toString ((m:Nat):Int))).length=(Nat.toDigits 10 m).length:=by
   have:=zeX (Str.ofString (toString ((m:Nat):Int)))
   unfold sgn at this
   rw [this,es,List.length_map]
  rw [lw,decide_eq_true hl,Bool.true_and,Bool.and_eq_true]
  refine ⟨List.all_eq_true.mpr fun c hc=>?_,?_⟩
  ·obtain ⟨ch,hch,e⟩:=List.mem_map.mp hc
   have r:=PyProof.Rows.digit_range (Nat.isDigit_of_mem_toDigits (by decide) (by decide) hch)
   unfold dg
   rw [Bool.and_eq_true,decide_eq_true_eq,decide_eq_true_eq,← e]
   exact r
  ·by_cases z:m=0
   ·subst z
    decide +kernel
   ·have nh:¬ ((Nat.toDigits 10 m).map Char.toNat).head?=some 48:=fun e=>by
     rw [List.head?_map] at e
     obtain ⟨ch,e1,e2⟩:=Option.map_eq_some_iff.mp e
     have:ch='0':=Char.toNat_inj'  e2
     rw [this] at e1
     exact zmy m (by omega) e1
    rw [decide_eq_false nh]
    rfl
 unfold zgq
 rw [if_pos ok]
 exact h1
where
 Char.toNat_inj' {c:Char} (h:c.toNat=48):c='0':=by
  apply Char.ext
  apply UInt32.toNat_inj.mp
  exact h
theorem zk1 {m:Int} (h:0≤m∧m<10000000):zf3 (zeU m)=some m:=by
 unfold zf3
 rw [zjq,if_pos ⟨rfl,rfl⟩]
 exact zfO h
theorem zlE {m:Int} {r:zbk} (h:SmR r) (g:GR m r):zfF m (zhu r)=some r:=by
 unfold zfF
 rw [zkJ,if_pos ⟨rfl,rfl⟩]
 show (zdb [Str.ofString (toString r.1),Str.ofString (toString r.2.1),Str.ofString (toString r.2.2)]).bind (zl8 m)=some r
 rw [zcN,zcN,zcN,zfO h.1,zfO h.2.1,zfO h.2.2]
 show zl8 m [r.1,r.2.1,r.2.2]=some r
 unfold zl8
 exact if_pos g
theorem zj9 {m:Int}:∀ {rs:List zbk} (k:Nat) (done:List zbk),(∀ r∈rs,SmR r∧GR m r)→zii (some (m,done)) k (rs.map zhu)=.inr (some (m,done++rs))
 | [],k,done,_=>by rw [List.append_nil];rfl
 | r::rs,k,done,h=>by
  have h0:=h r (List.mem_cons_self ..)
  have e:zd5 (some (m,done)) (zhu r)=some (some (m,done++[r])):=by
   show (zfF m (zhu r)).map _=_
   rw [zlE h0.1 h0.2]
   rfl
  rw [List.map_cons]
  show (match zd5 (some (m,done)) (zhu r) with | none=>Sum.inl k | some s'=>zii s' (k+1) (rs.map zhu))=_
  rw [e]
  show zii (some (m,done++[r])) (k+1) (rs.map zhu)=_
  rw [zj9 (k+1) (done++[r]) (fun x hx=>h x (List.mem_cons_of_mem _ hx)),List.append_assoc]
  rfl
theorem zhU {m:Int} {rs:List zbk} (hm:0≤m∧m<10000000) (h:∀ r∈rs,SmR r∧GR m r):zeT (Txt.split (wtx m rs) (Str.ofString "\n"))=.inr (some (m,rs)):=by
 rw [zht]
 have run:zii none 0 (zgB m rs++[Str.ofString ""]).dropLast=.inr (some (m,rs)):=by
  rw [List.dropLast_concat]
  unfold zgB
  have e:zd5 none (zeU m)=some (some (m,[])):=by
   show (zf3 (zeU m)).map _=_
   rw [zk1 hm]
   rfl
  show (match zd5 none (zeU m) with | none=>Sum.inl 0 | some s'=>zii s' (0+1) (rs.map zhu))=_
  rw [e]
  exact zj9 (0+1) [] h
 refine (zjM run).trans (if_neg ?_)
 rw [List.dropLast_concat,List.getLastD_concat]
 rintro (z | z)
 ·exact List.cons_ne_nil _ _ z
 ·exact z rfl
theorem zmn (m:Int) (rs:List zbk):(Txt.split (wtx m rs) (Str.ofString "\n")).length=rs.length+2:=by
 rw [zht,List.length_append]
 unfold zgB
 rw [List.length_cons,List.length_map]
 rfl
theorem GW.good {m:Int} {rs:List zbk} (G:GW m rs):zmk m rs:=⟨zfe G.gr,G.m1,G.m60,G.l120,G.conn⟩
theorem zjE {m:Int} {rs:List zbk} (G:GW m rs):zkP (Txt.split (wtx m rs) (Str.ofString "\n"))=.inr (m,rs):=by
 have m1:=G.m1
 have m60:=G.m60
 exact znY (zhU ⟨by omega,by omega⟩ fun r hr=>⟨(G.gr r hr).sm m60,G.gr r hr⟩) G.good
theorem zgb {m:Int} {rs:List zbk} (hm:0≤m∧m<10000000) (h:∀ r∈rs,SmR r∧GR m r) (n:¬ zmk m rs):zkP (Txt.split (wtx m rs) (Str.ofString "\n"))=.inl (rs.length+1):=by
 rw [zlk (zhU hm h) n,zmn]
 rfl
theorem zbK (s:Str):Str.empty++s=s:=by
 refine zef ?_
 rw [zb3]
 rfl
def zhC (K:PySem.W.Frag):Sp:=fun vs H Q _=>∃ (w rl:Addr) (ts:List Addr) (m:Int) (rs:List zbk),vs=[.ref w]∧zeG H w rl ts m rs∧(0≤m∧m<10000000)∧(∀ r∈rs,SmR r)∧rs.length≤1000∧∀ D H',za1 H H'→H' D=some (.lst ((zgB m rs).map V.str))→Q (.ref D) H'
def zeY (K:PySem.W.Frag):TS :=
 (za0 (zbF (zac 0) (ziH K 2 (zbv (zar 1) (zbv (zar 2) ziI))))
 (zbW (tOp rCat (zjn (zab (tJ [fS (tC (.str "web ")),fI (zac 1)] Str.empty) zat)) (zgt (ziw K (zac 2)) (ziH K 3 (zbv (zar 0) (zbv (zar 1) (zbv (zar 2) ziI)))) zcf (tJ [fS (tC (.str "road ")),fI (zac 0),fS (tC (.str " ")),fI (zac 1),fS (tC (.str " ")),fI (zac 2)] Str.empty) [none,none,none]))))
theorem ziL {w rl:Addr} {ts:List Addr} {m:Int} {rs:List zbk} (W:zeG H w rl ts m rs) (hm:0≤m∧m<10000000) (hs:∀ r∈rs,SmR r) (l:rs.length≤1000) (q:∀ D H',za1 H H'→H' D=some (.lst ((zgB m rs).map V.str))→Q (.ref D) H'):zeY K { nx:=fun _ H'=>Q .non H',rt:=Q } (L2.zbu ["web","many","roads"] [.ref w]) H:=by
 unfold zeY
 simp_all only [zac]
 have l1:(Str.ofString "web ").length=4:=by decide +kernel
 have l5:(Str.ofString "road ").length=5:=by decide +kernel
 have l6:(Str.ofString " ").length=1:=by decide +kernel
 have lm:=zcu hm
 have le:zeU m=Str.empty++Str.ofString "web "++Str.ofString (toString m):=by rw [zbK];rfl
 refine ⟨_,SqT.of W.hw,rfl,_,_,rfl,_,_,rfl,rfl,zcC (by rw [zbK];omega),m,rfl,zdB hm.1 hm.2,zcC (by rw [zbK,zbf];omega),by decide,fun p hp=>⟨rl,rfl,?_⟩⟩
 rw [← le]
 have s1:=zaC hp (.lst [V.str (zeU m)])
 have h1:L2.upd H p (.lst [V.str (zeU m)]) p=some (.lst [V.str (zeU m)]):=zad
 generalize L2.upd H p (.lst [V.str (zeU m)])=H1 at s1 h1
 refine ⟨⟨_,SqL.of (s1 _ _ W.hl)⟩,fun D hD=>?_⟩
 refine zff (K:=K) (xs:=ts.map V.ref) (fun i ys σ H'=>za1 H1 H'∧ys=((rs.take i).map zhu).map V.str∧∃ x y z,σ=[x,y,z]) ⟨zaC hD _,rfl,_,_,_,rfl⟩ ?_ ?_ ?_
 ·rintro i ys σ H' _ ⟨s,_⟩
  exact SqL.of (s _ _ (s1 _ _ W.hl))
 ·rintro i x ys σ H' e hD' ⟨s,rfl,u,v,z,rfl⟩
  obtain ⟨t,et,rfl⟩:=zdD e
  obtain ⟨r,er,hr⟩:=W.ht.at et
  have li:=(List.getElem?_eq_some_iff.mp er).1
  obtain ⟨h1',h2',h3'⟩:=hs r (zda er)
  have k1:=zcu h1'
  have k2:=zcu h2'
  have k3:=zcu h3'
  refine ⟨t,_,rfl,SqT.of (s _ _ (s1 _ _ hr)),rfl,_,_,rfl,_,_,rfl,_,_,rfl,rfl,?_⟩
  have er':zhu r=Str.empty++Str.ofString "road "++Str.ofString (toString r.1)++Str.ofString " "++Str.ofString (toString r.2.1)++Str.ofString " "++Str.ofString (toString r.2.2):=by rw [zbK];rfl
  refine ⟨zcC (by rw [zbK];omega),_,rfl,r.1,rfl,zdB h1'.1 h1'.2,zcC (by simp only [zbK,zbf];omega),zcC (by simp only [zbK,zbf];omega),_,rfl,r.2.1,rfl,zdB h2'.1 h2'.2,zcC (by simp only [zbK,zbf];omega),zcC (by simp only [zbK,zbf];omega),_,rfl,r.2.2,rfl,zdB h3'.1 h3'.2,zcC (by simp only [zbK,zbf];omega),?_⟩
  rw [← er']
  refine ⟨D,_,_,rfl,rfl,hD',zgo (by rw [List.length_map,List.length_map,List.length_take];omega),_,zad,s.put hD,?_,_,_,_,rfl⟩
  rw [List.take_add_one,er,List.map_append,List.map_append]
  rfl
 ·rintro ys σ H' hD' ⟨s,rfl,u,v,z,rfl⟩
  rw [List.take_of_length_le (by rw [List.length_map,W.ht.1];exact Nat.le_refl _)] at hD'
  refine ⟨D,rfl,_,s _ _ h1,_,hD',?_,fun p2 hp2=>?_⟩
  ·rw [List.length_map,List.length_map]
   exact zcC (by show 1+rs.length≤99999;omega)
  ·exact q p2 _ ((s1.trans s).add hp2) zad
theorem zeh:zaN ["web","many","roads"] ["web"] (zap zdG):=⟨rfl,rfl,rfl,by decide +kernel,rfl,by decide +kernel,by decide +kernel⟩
theorem zjy (T:Txt K mg base a):zcJ P w K mg base CX0 1 a.f_web_rows a.d_web_rows ["web"] (zhC K):=by
 refine T.F_web_rows.ok zeh (fun vs H Q E h=>?_) (fun cdv A outer s H vs Q E hr h=>?_)
 ·obtain ⟨w',rl,ts,m,rs,rfl,W,hm,hs,l,q⟩:=h
  rfl
 obtain ⟨w',rl,ts,m,rs,rfl,W,hm,hs,l,q⟩:=h
 exact ⟨zeY K,(zaf (zl2 (pv 0) (zeC rfl (zaX (zaM (i:=1) zeh.nd rfl (Or.inl rfl)) (zaX (zaM (i:=2) zeh.nd rfl (Or.inl rfl)) zcX))))
 (zas (zaZ (zaD zpN (zfn (zaa (znM (PFs.cons (zj3 zbS) (PFs.cons (zjR (pv 1)) PFs.nil))) zae)) (zg4 (sc:=zap zdG) (N:=["web","many","roads"]) (Nc:=["a","b","length"]) (cap:=[none,none,none]) rfl rfl rfl (.of (by decide +kernel)) (zgv (pv 2)) (fun _ _ _ _=>(zeC rfl (zaX (zaM (i:=0) (show List.Nodup (["a","b","length"]:List Str) from by decide) rfl (Or.inl rfl)) (zaX (zaM (i:=1) (show List.Nodup (["a","b","length"]:List Str) from by decide) rfl (Or.inl rfl)) (zaX (zaM (i:=2) (show List.Nodup (["a","b","length"]:List Str) from by decide) rfl (Or.inl rfl)) zcX))))) (fun _ _ _ _=>zgr) (fun _ _ _ _=>(znM (PFs.cons (zj3 zbS) (PFs.cons (zjR (pv 0)) (PFs.cons (zj3 zbS) (PFs.cons (zjR (pv 1)) (PFs.cons (zj3 zbS) (PFs.cons (zjR (pv 2)) PFs.nil))))))))))))),
  ziL W hm hs l q⟩
def zj7 (K:PySem.W.Frag):Sp:=fun vs H Q _=>∃ (p:Addr) (ss:List Str),vs=[.ref p]∧H p=some (.lst (ss.map V.str))∧(ss.map (·.length)).sum+ss.length≤90000∧∀ H',za1 H H'→Q (.str (Str.join (Str.ofString "") (ss.map fun x=>x++Str.ofString "\n"))) H'
def zgd (K:PySem.W.Frag):TS :=
 (zbW (tBM K "str" (zob K) (tC (.str "")) (zab (zgt (ziw K (zac 0)) (zar 0) zcf (tOp zc7 (zac 0) (tC (.str "\n"))) [none]) zat)))
theorem zkx {p:Addr} {ss:List Str} (hp:H p=some (.lst (ss.map V.str))) (l:(ss.map (·.length)).sum+ss.length≤90000) (q:∀ H',za1 H H'→Q (.str (Str.join (Str.ofString "") (ss.map fun x=>x++Str.ofString "\n"))) H'):zgd K { nx:=fun _ H'=>Q .non H',rt:=Q } (L2.zbu ["rows"] [.ref p]) H:=by
 unfold zgd
 simp_all only [zac]
 have lss:ss.length≤90000:=by omega
 refine ⟨rfl,⟨_,SqL.of hp⟩,fun D hD=>?_⟩
 have e0:(Str.ofString "").length=0:=by decide +kernel
 have l1:(Str.ofString "\n").length=1:=by decide +kernel
 have each:∀ x∈ss,x.length≤90000:=fun x hx=>by
  have:x.length≤(ss.map (·.length)).sum:=zgM.List.le_sum_of_mem' (List.mem_map.mpr ⟨x,hx,rfl⟩)
  omega
 refine zff (K:=K) (xs:=ss.map V.str) (fun i ys σ H'=>za1 H H'∧ys=((ss.take i).map fun x=>x++Str.ofString "\n").map V.str∧∃ x,σ=[x]) ⟨zaC hD _,rfl,_,rfl⟩ ?_ ?_ ?_
 ·rintro i ys σ H' _ ⟨s,_⟩
  exact SqL.of (s _ _ hp)
 ·rintro i x ys σ H' e hD' ⟨s,rfl,u,rfl⟩
  obtain ⟨x,ex,rfl⟩:=zdD e
  have li:=(List.getElem?_eq_some_iff.mp ex).1
  have lx:=each x (zda ex)
  refine ⟨_,rfl,x,_,rfl,rfl,zcC (by omega),D,_,_,rfl,rfl,hD',zg2 (by rw [List.length_map,List.length_map,List.length_take];omega),_,zad,s.put hD,?_,_,rfl⟩
  rw [List.take_add_one,ex,List.map_append,List.map_append]
  rfl
 ·rintro ys σ H' hD' ⟨s,rfl,u,rfl⟩
  rw [List.take_of_length_le (by rw [List.length_map];exact Nat.le_refl _)] at hD'
  refine ⟨D,rfl,_,SqL.of hD',?_,?_⟩
  ·rw [e0,Nat.mul_zero,Nat.add_zero]
   have:∀ l:List Str,((l.map fun x=>x++Str.ofString "\n").map (·.length)).sum=(l.map (·.length)).sum+l.length:=by
    intro l
    induction l with
    | nil=>rfl
    | cons x l ih =>
     rw [List.map_cons,List.map_cons,List.sum_cons,ih,List.map_cons,List.sum_cons,List.length_cons,zbf]
     omega
   rw [this]
   exact zcC (by omega)
  ·show Q (.str (PySem.Builtin.Str.glued _ _)) H'
   rw [StrLaws.glued_eq_join]
   exact q H' s
theorem zkL:zaN ["rows"] ["rows"] (zap zeM):=⟨rfl,rfl,rfl,by decide +kernel,rfl,by decide +kernel,by decide +kernel⟩
theorem zkC (T:Txt K mg base a):zcJ P w K mg base CX0 1 a.f_text_of a.d_text_of ["rows"] (zj7 K):=by
 refine T.F_text_of.ok zkL (fun vs H Q E h=>?_) (fun cdv A outer s H vs Q E hr h=>?_)
 ·obtain ⟨p,ss,rfl,hp,l,q⟩:=h
  rfl
 obtain ⟨p,ss,rfl,hp,l,q⟩:=h
 exact ⟨zgd K,(zas (zaZ (zgA PySem.F.plainAttrs_str PySem.F.slot_str_join PySem.F.type_str_join zoP zbS (zaa (zg4 (sc:=zap zeM) (N:=["rows"]) (Nc:=["row"]) (cap:=[none]) rfl rfl rfl (.of (by decide +kernel)) (zgv (pv 0)) (fun _ _ _ _=>(zaM (i:=0) (show List.Nodup (["row"]:List Str) from by decide) rfl (Or.inl rfl))) (fun _ _ _ _=>zgr) (fun _ _ _ _=>(zaD zcB (pv 0) zbS))) zae)))),
  zkx hp l q⟩
def zf8 (K:PySem.W.Frag):Sp:=fun vs H Q _=>∃ (w rl:Addr) (ts:List Addr) (m:Int) (rs:List zbk),vs=[.ref w]∧zeG H w rl ts m rs∧GW m rs∧∀ H',za1 H H'→Q (.str (wtx m rs)) H'
def zfk (K:PySem.W.Frag) (a:Ad):TS :=
 (za0 (zdo (zaK (ze8 a) [] E0 (zab (zac 0) zat)))
 (zbW (zaK (zj7 K) [] E0 (zab (zaK (zhC K) [] E0 (zab (zac 0) zat)) zat))))
theorem ziO {w rl:Addr} {ts:List Addr} {m:Int} {rs:List zbk} (W:zeG H w rl ts m rs) (G:GW m rs) (q:∀ H',za1 H H'→Q (.str (wtx m rs)) H'):zfk K a { nx:=fun _ H'=>Q .non H',rt:=Q } (L2.zbu ["web"] [.ref w]) H:=by
 unfold zfk
 simp_all only [zac]
 have m1:=G.m1
 have m60:=G.m60
 have l120:=G.l120
 have hm:0≤m∧m<10000000:=⟨by omega,by omega⟩
 have hs:∀ r∈rs,SmR r:=fun r hr=>(G.gr r hr).sm m60
 refine ⟨w,rl,ts,m,rs,rfl,W,by omega,fun _ H1 s1=>⟨w,rl,ts,m,rs,rfl,W.same s1,hm,hs,by omega,fun D H2 s2 hD=>⟨D,_,rfl,hD,?_,fun H3 s3=>?_⟩⟩,fun d hd=>(hd.not G.good).elim⟩
 ·have:=PyProof.Rows.split_weight (wtx m rs) ⟨#[10]⟩ (Nat.le_refl 1)
  rw [← zgD,zht,List.map_append,List.sum_append,List.length_append] at this
  have lw:=(zhz hm hs).2
  omega
 ·rw [zmW]
  exact q H3 (s1.trans (s2.trans s3))
theorem ziU:zaN ["web"] ["web"] (zap ze5):=⟨rfl,rfl,rfl,by decide +kernel,rfl,by decide +kernel,by decide +kernel⟩
theorem ziQ (T:Txt K mg base a):zcJ P w K mg base CX0 6 a.f_web_text a.d_web_text ["web"] (zf8 K):=by
 have G_look_web:=zfX (P:=P) (w:=w) (base:=base) T
 have G_text_of:=zkC (P:=P) (w:=w) (base:=base) T
 have G_web_rows:=zjy (P:=P) (w:=w) (base:=base) T
 refine T.F_web_text.ok ziU (fun vs H Q E h=>?_) (fun cdv A outer s H vs Q E hr h=>?_)
 ·obtain ⟨w',rl,ts,m,rs,rfl,W,G,q⟩:=h
  rfl
 obtain ⟨w',rl,ts,m,rs,rfl,W,G,q⟩:=h
 exact ⟨zfk K a,(zaf (zcn (zaF G_look_web (hr.mono (by decide)) rfl T.m_look_web T.F_look_web.kp T.b_look_web .nil zpO (zaa (pv 0) zae)))
 (zas (zaZ (zaF G_text_of (hr.mono (by decide)) rfl T.m_text_of T.F_text_of.kp T.b_text_of .nil zbl (zaa (zaF G_web_rows (hr.mono (by decide)) rfl T.m_web_rows T.F_web_rows.kp T.b_web_rows .nil zbl (zaa (pv 0) zae)) zae))))),
  ziO W G q⟩
theorem zeG.shows {w rl:Addr} {ts:List Addr} {m:Int} {rs:List zbk} (h:zeG H w rl ts m rs):zde K H (2+1) (.tup [.int m,.lst (rs.map fun r=>.tup [.int r.1,.int r.2.1,.int r.2.2])]) (.ref w):=by
 refine .tup (SqT.of h.hw) rfl fun i x t e1 e2=>?_
 match i,e1,e2 with
 | 0,e1,e2 =>
  cases e1
  cases e2
  exact .int _
 | 1,e1,e2 =>
  cases e1
  cases e2
  refine .lst (SqL.of h.hl) (by rw [List.length_map,List.length_map,h.ht.1]) fun i x t e1 e2=>?_
  obtain ⟨a,ha,rfl⟩:=zdD e1
  obtain ⟨b,hb,rfl⟩:=zdD e2
  refine .tup (SqT.of (h.ht.2 i a b ha hb)) rfl fun j y u f1 f2=>?_
  match j,f1,f2 with
  | 0,f1,f2 =>
   cases f1
   cases f2
   exact .int _
  | 1,f1,f2 =>
   cases f1
   cases f2
   exact .int _
  | 2,f1,f2 =>
   cases f1
   cases f2
   exact .int _
theorem isV {x:Addr} {od:Option Addr} {d:V} {cv dv:Value} {b:Bool} (hc:clsV d=some dv) (h:H x=some (zfC x cv od)) (k:zgS K cv) (e:PySem.W.kitOne K cv dv=some b) (q:Q (.bl b) H):zo6 K [.ref x,d] H Q:=⟨x,d,cv,_,dv,b,rfl,hc,h,k,e,q⟩
def zdy (a:Ad):Sp:=fun vs H Q _=>∃ (w rl:Addr) (ts:List Addr) (m:Int) (rs:List zbk),vs=[.ref w]∧zeG H w rl ts m rs∧(0≤m∧m<10000000)∧(∀ r∈rs,SmR r∧GR m r)∧¬ zmk m rs∧rs.length≤1000∧LT H a.p_lam∧∀ H',Bar a.p_lam H H'→LT H' a.p_lam→Q (.bl true) H'
def zcq (K:PySem.W.Frag) (a:Ad):TS :=
 (za0 (zbF (tC .non) (zar 1))
 (za0 (zoq K (fun E'=>(zdo (zjG (zes a) [] E' (zab (zaK (zls K) [] E0 (zab (zac 0) zat)) zat)))) (.ref a.c_NoText) 2
 (zbF (zac 2) (zar 1)))
 (zbW (zck (tOp (fun x y H Q=>y=.non∧Q (.bl (!decide (x=.non))) H) (zac 1) (tC .non)) (zck (tCB (zo6 K) (zab (zac 1) (zab (tC (.ty "ValueError")) zat))) (tOp rEq (zo3 K (zac 1) "row") (tOp (rI0 fun i j=>.int (i+j)) (tC (.int 1)) (tCB (fun xs H Q=>∃ p ys,xs=[.ref p]∧(SqL K H p ys∨SqT K H p ys)∧Q (.int ys.length) H) (zab (tOp (ziW K) (zac 0) (tC (.int 1))) zat)))))))))
theorem zlQ {m n:Nat} {s:Str} (h:Rn m s) (l:m≤n):Rn n s:=Nat.le_trans h l
theorem zfD {w rl:Addr} {ts:List Addr} {m:Int} {rs:List zbk} (I:Isa K a) (su:PySem.W.subIn K (.ref a.c_NoText) (.ref a.c_NoText)=some true) (xa:zg3 K a.c_NoText "row") (W:zeG H w rl ts m rs) (hm:0≤m∧m<10000000) (hs:∀ r∈rs,SmR r∧GR m r) (ng:¬ zmk m rs) (l:rs.length≤1000) (hP:LT H a.p_lam) (q:∀ H',Bar a.p_lam H H'→LT H' a.p_lam→Q (.bl true) H') :
  zcq K a { nx:=fun _ H'=>Q .non H',rt:=Q } (L2.zbu ["_law_web_here","_law_caught","e"] [.ref w]) H:=by
 unfold zcq
 simp_all only [zac]
 have hs1:∀ r∈rs,SmR r:=fun r hr=>(hs r hr).1
 obtain ⟨st,ln⟩:=zhz hm hs1
 obtain ⟨ps,hps⟩:=hP.tbl
 refine ⟨w,rl,ts,m,rs,rfl,W,hm,hs1,l,_,rfl,hP,zlQ (st.rn (by decide)) (by decide),by omega,fun m' rs' w' rl' ts' H1 e=>?_,fun k dx H1 e b L hdx h1=>⟨I.ec,su,fun x hx=>?_⟩⟩
 ·rw [zgb hm hs ng] at e
  cases e
 ·rw [zgb hm hs ng] at e
  cases e
  have s2:=zaC hx (zfC x (.ref a.c_NoText) (some dx))
  have h2x:L2.upd H1 x (zfC x (.ref a.c_NoText) (some dx)) x=some (zfC x (.ref a.c_NoText) (some dx)):=zad
  have h2d:=s2 _ _ h1
  have b2:Bar a.p_lam H (L2.upd H1 x (zfC x (.ref a.c_NoText) (some dx))):=fun b' o n e=>s2 _ _ (b b' o n e)
  have L2':=L.same s2
  generalize L2.upd H1 x (zfC x (.ref a.c_NoText) (some dx))=H2 at s2 h2x h2d b2 L2'
  have nw:∀ {b':Addr} {o:HO},H b'=some o→(∀ ps,o≠.tbl ps)→H2 b'=some o:=fun {b' o} e n=>b2 b' o (fun z=>by rw [z,hps] at e;cases e;exact n _ rfl) e
  refine isV rfl h2x I.ec I.k_ValueError ⟨true,rfl,?_⟩
  rw [if_pos rfl]
  refine ⟨_,dx,h2x,_,h2d,xa,.int ((rs.length+1:Nat):Int),rfl,_,SqT.of (nw W.hw fun _ z=>by cases z),.ref rl,zca (j:=1) rfl,rl,rfl,_,.inl (SqL.of (nw W.hl fun _ z=>by cases z)),rfl,?_⟩
  have el:V.int ((rs.length+1:Nat):Int)=V.int (1+((ts.map V.ref).length:Int)):=by rw [List.length_map,W.ht.1];congr 1;omega
  rw [decide_eq_true el]
  exact q H2 b2 L2'
theorem zbM:zaN ["_law_web_here","_law_caught","e"] ["_law_web_here"] (zap zcr):=⟨rfl,rfl,rfl,by decide +kernel,rfl,by decide +kernel,by decide +kernel⟩
theorem zfB (T:Txt K mg base a):zcJ P w K mg base CX0 8 a.f__law_not_read a.d__law_not_read ["_law_web_here"] (zdy a):=by
 have G__law_text:=zfo (P:=P) (w:=w) (base:=base) T
 have G_read_web:=zgs (P:=P) (w:=w) (base:=base) T
 refine T.F__law_not_read.ok zbM (fun vs H Q E h=>?_) (fun cdv A outer s H vs Q E hr h=>?_)
 ·obtain ⟨w',rl,ts,m,rs,rfl,W,hm,hs,ng,l,hP,q⟩:=h
  rfl
 obtain ⟨w',rl,ts,m,rs,rfl,W,hm,hs,ng,l,hP,q⟩:=h
 exact ⟨zcq K a,(zaf (zaU (i:=1) zbM.nd rfl (Or.inl rfl) zcI)
 (zaf (znc (i:=2) T.m_NoText T.X_NoText rfl zbM.nd rfl rfl rfl rfl rfl rfl (fun pins E'=>(zas (zcn (zjY G_read_web (hr.mono (by decide)) rfl T.m_read_web T.F_read_web.kp T.b_read_web .nil zpT (zaa (zaF G__law_text (hr.mono (by decide)) rfl T.m__law_text T.F__law_text.kp T.b__law_text .nil zbl (zaa (pv 0) zae)) zae)))))
 (fun ea=>(zas (zaU (i:=1) zbM.nd rfl (Or.inl rfl) (pv 2)))))
 (zas (zaZ (zcL (zcZ zoW (pv 1) zcI (zbe _)) (zcL (zau zh4 rfl T.z_isinstance PyProof.Rows.boot_isinstance (zaa (pv 1) (zaa (zbo rfl T.z_ValueError zf0 rfl) zae))) (zeK (zcZ zi7 (zox (pv 1) rfl) (zaD zbD zao (zau zaG rfl T.z_len PySem.boot_len (zaa (zco zfq (pv 0) zao (fun _ _=>rfl)) zae))) (zbe _))))))))),
  zfD T.I T.su_NoText T.xa_NoText W hm hs ng l hP q⟩
def znE (K:PySem.W.Frag) (P:Addr):Sp:=fun vs H Q _=>∃ (p:Addr) (ns:List Int),vs=[.ref p]∧SqL K H p (ns.map V.int)∧ns.length≤63∧(∀ x∈ns,x.natAbs<2 ^ 2 ^ 20)∧LT H P∧∀ H',Q (.bl true) H'
def webT (m:Int) (rs:List zbk):Tr:=.tup [.int m,.lst (rs.map fun r=>.tup [.int r.1,.int r.2.1,.int r.2.2])]
theorem zeG.shT {w rl:Addr} {ts:List Addr} {m:Int} {rs:List zbk} (h:zeG H w rl ts m rs):ShT H 5 (webT m rs) (.ref w):=by
 refine .tup h.hw rfl fun i x t e1 e2=>?_
 match i,e1,e2 with
 | 0,e1,e2 =>
  cases e1
  cases e2
  exact .int _
 | 1,e1,e2 =>
  cases e1
  cases e2
  refine .lst h.hl (by rw [List.length_map,List.length_map,h.ht.1]) fun i x t e1 e2=>?_
  obtain ⟨a,ha,rfl⟩:=zdD e1
  obtain ⟨b,hb,rfl⟩:=zdD e2
  refine .tup (h.ht.2 i a b ha hb) rfl fun j y u f1 f2=>?_
  match j,f1,f2 with
  | 0,f1,f2 =>
   cases f1
   cases f2
   exact .int _
  | 1,f1,f2 =>
   cases f1
   cases f2
   exact .int _
  | 2,f1,f2 =>
   cases f1
   cases f2
   exact .int _
theorem zeG.bar {P:Addr} {H H':Hp} {ps:Array Value} (hP:H P=some (.tbl ps)) (b:Bar P H H') {w rl:Addr} {ts:List Addr} {m:Int} {rs:List zbk} (h:zeG H w rl ts m rs):zeG H' w rl ts m rs:=by
 refine ⟨b _ _ (fun z=>?_) h.hw,b _ _ (fun z=>?_) h.hl,h.ht.1,fun i x r e1 e2=>b _ _ (fun z=>?_) (h.ht.2 i x r e1 e2)⟩
 ·have:=h.hw
  rw [z,hP] at this
  cases this
 ·have:=h.hl
  rw [z,hP] at this
  cases this
 ·have:=h.ht.2 i x r e1 e2
  rw [z,hP] at this
  cases this
theorem zpS {P b:Addr} {xs ys:List V} (h:LT H P) (hb:H b=some (.lst xs)):LT (L2.upd H b (.lst ys)) P:=by
 rcases h with h | ⟨c',oc,vs,t,n,h1,h2,h3,h4⟩
 ·exact .inl (by rw [zaq (fun z=>by rw [z,hb] at h;cases h)];exact h)
 ·exact .inr ⟨c',oc,vs,t,n,by rw [zaq (fun z=>by rw [z,hb] at h1;cases h1)];exact h1,by rw [zaq (fun z=>by rw [z,hb] at h2;cases h2)];exact h2,h3,h4⟩
theorem zjF {α β:Type} (f:α→β) (x:α):∀ n:Nat,(List.replicate n [f x]).flatten=(List.replicate n x).map f
 | 0=>rfl
 | n+1=>by rw [List.replicate_succ,List.replicate_succ,List.flatten_cons,List.map_cons,zjF f x n];rfl
theorem zo9 {t:Addr} {r:zbk} (h:H t=some (.tup (rdv r))) (n:Nat):Tps rdv H (List.replicate n t) (List.replicate n r):=by
 refine ⟨by rw [List.length_replicate,List.length_replicate],fun i x y e1 e2=>?_⟩
 have h1:=List.eq_of_mem_replicate (zda e1)
 have h2:=List.eq_of_mem_replicate (zda e2)
 rw [h1,h2]
 exact h
def zin (n:Nat):List zbk:=(List.range n).map fun k:Nat=>((k:Int),(k:Int)+1,1+(k:Int) % 3)
theorem zl7 (n:Nat):zin (n+1)=zin n++[((n:Int),(n:Int)+1,1+(n:Int) % 3)]:=by
 unfold zin
 rw [List.range_succ,List.map_append]
 rfl
theorem zmO:∀ r∈zin 60,SmR r∧GR 61 r:=fun r hr=>by
 obtain ⟨k,hk,rfl⟩:=List.mem_map.mp hr
 have:=List.mem_range.mp hk
 exact ⟨⟨⟨by show (0:Int)≤k;omega,by show (k:Int)<_;omega⟩,⟨by show (0:Int)≤k+1;omega,by show (k:Int)+1<_;omega⟩,by show (0:Int)≤1+k % 3;omega,by show (1:Int)+k % 3<_;omega⟩,by show (0:Int)≤k;omega,by show (k:Int)<_;omega,by show (0:Int)≤k+1;omega,by show (k:Int)+1<_;omega,by show (k:Int)≠k+1;omega,by show (1:Int)≤1+k % 3;omega,by show (1:Int)+k % 3≤_;omega⟩
def zi1 (K:PySem.W.Frag) (a:Ad):TS :=
 (za0 (zbF (zaK (zes a) [] E0 (zab (zac 3) zat)) (zar 5))
 (za0 (zfK (zch (zeV (tB (zaK (zgT 5) [] E0 (zab (zac 5) (zab (zac 1) zat))))) (zbW (tC (.bl false))) za9))
 (zdo (tBM0 K "list" zjA (tOp (ziW K) (zac 5) (tC (.int 1)))))))
theorem zdO (K:PySem.W.Frag) (a:Ad) (D:zbV) (σ:St) (H:Hp):zi1 K a D σ H=(za0 (zbF (zaK (zes a) [] E0 (zab (zac 3) zat)) (zar 5))
 (za0 (zfK (zch (zeV (tB (zaK (zgT 5) [] E0 (zab (zac 5) (zab (zac 1) zat))))) (zbW (tC (.bl false))) za9))
 (zdo (tBM0 K "list" zjA (tOp (ziW K) (zac 5) (tC (.int 1))))))) D σ H:=rfl
def zjv (K:PySem.W.Frag):TS :=
 (zch (tOr (zeV (tB (zaK (zgT 5) [] E0 (zab (zaK (zf8 K) [] E0 (zab (zac 2) zat)) (zab (zac 3) zat))))) (za8 (tOp (rNeD K) (zac 2) (zac 1)))) (zbW (tC (.bl false))) za9)
theorem zdL (K:PySem.W.Frag) (D:zbV) (σ:St) (H:Hp):zjv K D σ H=(zch (tOr (zeV (tB (zaK (zgT 5) [] E0 (zab (zaK (zf8 K) [] E0 (zab (zac 2) zat)) (zab (zac 3) zat))))) (za8 (tOp (rNeD K) (zac 2) (zac 1)))) (zbW (tC (.bl false))) za9) D σ H:=rfl
def ziT (a:Ad):TS :=
 (za0 (zbF (zf5 (zab (tC (.int 61)) (zab (zgt (zfE (zab (tC (.int 60)) zat)) (zar 0) zcf (zf5 (zab (zac 0) (zab (tOp (rI0 fun i j=>.int (i+j)) (zac 0) (tC (.int 1))) (zab (tOp (rI0 fun i j=>.int (i+j)) (tC (.int 1)) (tOp (rI (fun _ j=>0<j) fun i j=>.int (i % j)) (zac 0) (tC (.int 3)))) zat)))) [none]) zat))) (zar 6))
 (zbW (zck (zaK (zdy a) [] E0 (zab (zac 6) zat)) (zaK (zdy a) [] E0 (zab (zf5 (zab (tC (.int 2)) (zab (tOp rRep (zjn (zab (zf5 (zab (tC (.int 0)) (zab (tC (.int 1)) (zab (tC (.int 5)) zat)))) zat)) (tC (.int 121))) zat))) zat)))))
theorem zdK (a:Ad) (D:zbV) (σ:St) (H:Hp):ziT a D σ H=(za0 (zbF (zf5 (zab (tC (.int 61)) (zab (zgt (zfE (zab (tC (.int 60)) zat)) (zar 0) zcf (zf5 (zab (zac 0) (zab (tOp (rI0 fun i j=>.int (i+j)) (zac 0) (tC (.int 1))) (zab (tOp (rI0 fun i j=>.int (i+j)) (tC (.int 1)) (tOp (rI (fun _ j=>0<j) fun i j=>.int (i % j)) (zac 0) (tC (.int 3)))) zat)))) [none]) zat))) (zar 6))
 (zbW (zck (zaK (zdy a) [] E0 (zab (zac 6) zat)) (zaK (zdy a) [] E0 (zab (zf5 (zab (tC (.int 2)) (zab (tOp rRep (zjn (zab (zf5 (zab (tC (.int 0)) (zab (tC (.int 1)) (zab (tC (.int 5)) zat)))) zat)) (tC (.int 121))) zat))) zat))))) D σ H:=rfl
def zoc (K:PySem.W.Frag) (a:Ad):TS :=
 (za0 (zbF (zaK (zgP K) [] E0 (zab (zac 0) (zab (tC (.int 0)) zat))) (zar 1))
 (za0 (zbF (zf5 (zab (tOp (ziW K) (zac 1) (tC (.int 0))) (zab (tCB (fun xs H Q=>∃ p ys,xs=[.ref p]∧(SqL K H p ys∨SqT K H p ys)∧∀ l,H l=none→Q (.ref l) (upd H l (.lst ys))) (zab (tOp (ziW K) (zac 1) (tC (.int 1))) zat)) zat))) (zar 2))
 (za0 (zbF (zaK (zls K) [] E0 (zab (zac 1) zat)) (zar 3))
 (za0 (zha (zfE (zab (tC (.int 2)) zat)) (zar 4)
 (za0 (zfK (zjv K))
 (zi1 K a)))
 (ziT a)))))
theorem zpR {p:Addr} {ns:List Int} (hS:SqL K H p (ns.map V.int)) (hl:ns.length≤63) (hP:LT H a.p_lam) (q:∀ H',Q (.bl true) H') :
  zoc K a { nx:=fun _ H'=>Q .non H',rt:=Q } (L2.zbu ["_law_script","_law_web_here","_law_handed","_law_text_here","_law_turn","_law_told","_law_wide"] [.ref p]) H:=by
 unfold zoc
 simp_all only [zac]
 refine ⟨p,ns,0,rfl,hS,hl,by decide,by decide,fun w rl ts m rs H1 s1 W G l80=>?_⟩
 simp_all only [zac]
 have m1:=G.m1
 have m60:=G.m60
 have hm:0≤m∧m<10000000:=⟨by omega,by omega⟩
 have hs:∀ r∈rs,SmR r:=fun r hr=>(G.gr r hr).sm m60
 obtain ⟨st,ln⟩:=zhz hm hs
 refine ⟨_,SqT.of W.hw,.int m,zca (j:=0) rfl,_,SqT.of W.hw,.ref rl,zca (j:=1) rfl,rl,rfl,_,.inl (SqL.of W.hl),fun l2 hl2=>⟨by decide,fun w2 hw2=>?_⟩⟩
 have nw2:l2≠w2:=fun z=>by rw [← z,zad] at hw2;cases hw2
 have s2:za1 H1 (L2.upd (L2.upd H1 l2 (.lst (ts.map V.ref))) w2 (.tup [.int m,.ref l2])):=(zaC hl2 _).add hw2
 have W2:zeG (L2.upd (L2.upd H1 l2 (.lst (ts.map V.ref))) w2 (.tup [.int m,.ref l2])) w2 l2 ts m rs:=⟨zad,by rw [zaq nw2,zad],W.ht.same s2⟩
 generalize L2.upd (L2.upd H1 l2 (.lst (ts.map V.ref))) w2 (.tup [.int m,.ref l2])=H2 at s2 W2
 have W1:=W.same s2
 have hP2:=hP.same (s1.trans s2)
 obtain ⟨ps2,hps2⟩:=hP2.tbl
 refine ⟨w,rl,ts,m,rs,rfl,W1,hm,hs,by omega,by decide,by decide,?_⟩
 refine zcM (fun i σ H'=>Bar a.p_lam H2 H'∧LT H' a.p_lam∧∃ x4 x5,σ=[some (.ref p),some (.ref w),some (.ref w2),some (.str (wtx m rs)),x4,x5,none]) ⟨fun _ _ _ e=>e,hP2,_,_,rfl⟩ ?_ ?_
 ·rintro i σ H3 hi ⟨b3,L3,x4,x5,rfl⟩
  have W13:=W1.bar hps2 b3
  have W23:=W2.bar hps2 b3
  refine ⟨fun σ H'=>za1 H3 H'∧∃ x4,σ=[some (.ref p),some (.ref w),some (.ref w2),some (.str (wtx m rs)),x4,x5,none],?_,?_⟩
  ·unfold zjv
   simp_all only [zdO,zdL,zdK,zac]
   refine ⟨w2,l2,ts,m,rs,rfl,W23,G,fun H4 s4=>⟨.str (wtx m rs),.str (wtx m rs),.str (wtx m rs),rfl,.str _,.str _,fun H5 s5=>⟨true,rfl,?_⟩⟩⟩
   rw [if_neg (fun z=>Bool.noConfusion z)]
   have s35:=s4.trans s5
   exact ⟨2,by decide,_,.inr ⟨(W23.same s35).shows,(W13.same s35).shows⟩,s35⟩
  ·rintro σ H4 ⟨s4,x4,rfl⟩
   unfold zi1
   simp_all only [zdO,zdL,zdK,zac]
   have L4:=L3.same s4
   obtain ⟨ps4,hps4⟩:=L4.tbl
   refine ⟨_,rfl,L4,zlQ (st.rn (by decide)) (by decide),by omega,fun m' rs' w' rl' ts' H5 e b5 L5 hw' hrl' W5=>?_,fun k dx H5 e=>?_⟩
   ·rw [zjE G] at e
    cases e
    have b25:Bar a.p_lam H2 H5:=fun b o n e=>b5 b o n (s4 _ _ (b3 b o n e))
    have W15:=W1.bar hps2 b25
    refine ⟨fun σ H'=>za1 H5 H'∧σ=[some (.ref p),some (.ref w),some (.ref w2),some (.str (wtx m rs)),x4,some (.ref w'),none],?_,?_⟩
    ·simp_all only [zdO,zdL,zdK,zac]
     refine ⟨.ref w',.ref w,_,rfl,W5.shT,W15.shT,fun H6 s6=>⟨true,rfl,?_⟩⟩
     rw [if_neg (fun z=>Bool.noConfusion z)]
     exact s6
    ·rintro σ H6 ⟨s6,rfl⟩
     have W6:=W5.same s6
     simp_all only [zdO,zdL,zdK,zac]
     refine ⟨_,SqT.of W6.hw,.ref rl',zca (j:=1) rfl,.inl ⟨rfl,_,SqL.of W6.hl⟩,rl',rfl,_,W6.hl,fun b o n e=>?_,zpS (L5.same s6) W6.hl⟩
     have e4:=s4 _ _ (b3 b o n e)
     rw [zaq (fun z=>by rw [z,hrl'] at e4;cases e4)]
     exact s6 _ _ (b5 b o n e4)
   ·rw [zjE G] at e
    cases e
 ·rintro σ H3 ⟨b3,L3,x4,x5,rfl⟩
  unfold ziT
  simp only [za0,zbF,zf5,zab,tC,zjQ,zfE]
  refine ⟨60,rfl,by decide,by decide,fun D hD=>?_⟩
  refine zje (n:=60) (fun i ys σ H'=>za1 H3 H'∧(∃ us:List Addr,ys=us.map V.ref∧Tps rdv H' us (zin i))∧∃ x,σ=[x]) ⟨zaC hD _,⟨[],rfl,.nil⟩,_,rfl⟩ ?_ ?_
  ·rintro i ys σ H4 hi hD4 ⟨s4,⟨us,rfl,T⟩,x,rfl⟩
   rw [Int.zero_add]
   have lu:us.length=i:=by rw [T.1];unfold zin;rw [List.length_map,List.length_range]
   refine ⟨_,rfl,_,rfl,_,_,rfl,rfl,_,rfl,_,_,rfl,rfl,(show (0:Int)<3 by decide),_,_,rfl,rfl,(show 3≤sizeLine by decide),fun t ht=>?_⟩
   have nt:t≠D:=(zaw hD4 ht).symm
   refine ⟨D,_,_,rfl,rfl,(zaC ht _) _ _ hD4,zgo (by rw [List.length_map];omega),_,zad,(s4.add ht).put hD,⟨us++[t],by rw [List.map_append];rfl,?_⟩,_,rfl⟩
   rw [zl7]
   refine T.put (fun y u e=>?_) (by rw [zaq nt];exact zad)
   rw [zaq (fun z=>by rw [z,hD4] at e;cases e)]
   exact (zaC ht _) _ _ e
  ·rintro ys σ H4 hD4 ⟨s4,⟨us,rfl,T⟩,x,rfl⟩
   refine ⟨(show 2≤sizeLine by decide),fun w3 hw3=>?_⟩
   have s5:=zaC hw3 (.tup [V.int 61,V.ref D])
   have W5:zeG (L2.upd H4 w3 (.tup [V.int 61,V.ref D])) w3 D us 61 (zin 60):=⟨zad,s5 _ _ hD4,T.same s5⟩
   generalize L2.upd H4 w3 (.tup [V.int 61,V.ref D])=H5 at s5 W5
   refine ⟨_,rfl,w3,D,us,61,zin 60,rfl,W5,by decide,zmO,fun g=>absurd g.2.2.1 (by decide),by decide,L3.same (s4.trans s5),fun H6 b6 L6=>⟨true,rfl,?_⟩⟩
   rw [if_pos rfl]
   refine ⟨(show 3≤sizeLine by decide),fun t ht=>⟨(show 1≤sizeLine by decide),fun u hu=>⟨u,121,_,rfl,rfl,zad,by decide,by decide,(show 1*121≤sizeLine by decide),fun r2 hr2=>⟨(show 2≤sizeLine by decide),fun w4 hw4=>?_⟩⟩⟩⟩
   have n1:t≠u:=fun z=>by rw [← z,zad] at hu;cases hu
   have sA:=(zaC ht (.tup [V.int 0,V.int 1,V.int 5])).add hu (o:=.lst [V.ref t])
   have hA:L2.upd (L2.upd H6 t (.tup [V.int 0,V.int 1,V.int 5])) u (.lst [V.ref t]) t=some (.tup (rdv (0,1,5))):=by rw [zaq n1];exact zad
   generalize L2.upd (L2.upd H6 t (.tup [V.int 0,V.int 1,V.int 5])) u (.lst [V.ref t])=HA at *
   rw [zjF V.ref t] at hw4 ⊢
   have n2:r2≠w4:=fun z=>by rw [← z,zad] at hw4;cases hw4
   have sB:=(zaC hr2 (.lst ((List.replicate (Int.toNat 121) t).map V.ref))).add hw4 (o:=.tup [V.int 2,V.ref r2])
   refine ⟨w4,r2,List.replicate 121 t,2,List.replicate 121 (0,1,5),rfl,⟨zad,by rw [zaq n2];exact zad,(zo9 hA 121).same sB⟩,by decide,fun r hr=>?_,fun g=>?_,by rw [List.length_replicate];decide,L6.same (sA.trans sB),fun H7 _ _=>q H7⟩
   ·rw [List.eq_of_mem_replicate hr]
    exact ⟨⟨⟨by decide,by decide⟩,⟨by decide,by decide⟩,by decide,by decide⟩,by decide⟩
   ·have:=g.2.2.2.1
    rw [List.length_replicate] at this
    exact absurd this (by decide)
theorem zfZ:zaN ["_law_script","_law_web_here","_law_handed","_law_text_here","_law_turn","_law_told","_law_wide"] ["_law_script"] (zap zkZ):=⟨rfl,rfl,rfl,by decide +kernel,rfl,by decide +kernel,by decide +kernel⟩
theorem zqi (T:Txt K mg base a):zcJ P w K mg base CX0 9 a.f_law a.d_law ["_law_script"] (znE K a.p_lam):=by
 have G__law_any_web:=zgk (P:=P) (w:=w) (base:=base) T
 have G__law_not_read:=zfB (P:=P) (w:=w) (base:=base) T
 have G__law_same:=ziF (P:=P) (w:=w) (base:=base) T
 have G__law_text:=zfo (P:=P) (w:=w) (base:=base) T
 have G_read_web:=zgs (P:=P) (w:=w) (base:=base) T
 have G_web_text:=ziQ (P:=P) (w:=w) (base:=base) T
 refine T.F_law.ok zfZ (fun vs H Q E h=>?_) (fun cdv A outer s H vs Q E hr h=>?_)
 ·obtain ⟨p,ns,rfl,hS,hl,hb,hP,q⟩:=h
  rfl
 obtain ⟨p,ns,rfl,hS,hl,hb,hP,q⟩:=h
 exact ⟨zoc K a,(zaf (zaU (i:=1) zfZ.nd rfl (Or.inl rfl) (zaF G__law_any_web (hr.mono (by decide)) rfl T.m__law_any_web T.F__law_any_web.kp T.b__law_any_web .nil zbl (zaa (pv 0) (zaa zao zae))))
 (zaf (zaU (i:=2) zfZ.nd rfl (Or.inl rfl) (zdx (zaa (zco zfq (pv 1) zao (fun _ _=>rfl)) (zaa (zbX zhH rfl T.z_list zcH (zaa (zco zfq (pv 1) zao (fun _ _=>rfl)) zae)) zae))))
 (zaf (zaU (i:=3) zfZ.nd rfl (Or.inl rfl) (zaF G__law_text (hr.mono (by decide)) rfl T.m__law_text T.F__law_text.kp T.b__law_text .nil zbl (zaa (pv 1) zae)))
 (zaf (zdT PassesOwn.never rfl (zdh rfl T.z_range (zaa zao zae)) (zaM (i:=4) zfZ.nd rfl (Or.inl rfl))
 (zaf (zb1 (zcl (PW.pt (zew (zcO (zci (zaF G__law_same (hr.mono (by decide)) rfl T.m__law_same T.F__law_same.kp T.b__law_same .nil zbl (zaa (zaF G_web_text (hr.mono (by decide)) rfl T.m_web_text T.F_web_text.kp T.b_web_text .nil zbl (zaa (pv 2) zae)) (zaa (pv 3) zae))))) (zdA (zbb (zps hr.units) (pv 2) (pv 1) (zbe _))))) (zas (zaZ zgE)) zbc))
 (zaf (zaU (i:=5) zfZ.nd rfl (Or.inl rfl) (zaF G_read_web (hr.mono (by decide)) rfl T.m_read_web T.F_read_web.kp T.b_read_web .nil zp1 (zaa (pv 3) zae)))
 (zaf (zb1 (zcl (zcO (zci (zaF G__law_same (hr.mono (by decide)) rfl T.m__law_same T.F__law_same.kp T.b__law_same .nil zbl (zaa (pv 5) (zaa (pv 1) zae))))) (zas (zaZ zgE)) zbc))
 (zas (zcn (zql PySem.F.plainAttrs_list PySem.F.slot_list_clear PySem.F.type_list_clear zm0 (zco zfq (pv 5) zao (fun _ _=>rfl)))))))))
 (zaf (zaU (i:=6) zfZ.nd rfl (Or.inl rfl) (zdx (zaa zao (zaa (zg4 (sc:=zap zkZ) (N:=["_law_script","_law_web_here","_law_handed","_law_text_here","_law_turn","_law_told","_law_wide"]) (Nc:=["_law_k"]) (cap:=[none]) rfl rfl rfl (.of (by decide +kernel)) (zdh rfl T.z_range (zaa zao zae)) (fun _ _ _ _=>(zaM (i:=0) (show List.Nodup (["_law_k"]:List Str) from by decide) rfl (Or.inl rfl))) (fun _ _ _ _=>zgr) (fun _ _ _ _=>(zdx (zaa (pv 0) (zaa (zaD zbD (pv 0) zao) (zaa (zaD zbD zao (zaD zbr (pv 0) zao)) zae)))))) zae))))
 (zas (zaZ (zcL (zaF G__law_not_read (hr.mono (by decide)) rfl T.m__law_not_read T.F__law_not_read.kp T.b__law_not_read .nil zbl (zaa (pv 6) zae)) (zeK (zaF G__law_not_read (hr.mono (by decide)) rfl T.m__law_not_read T.F__law_not_read.kp T.b__law_not_read .nil zbl (zaa (zdx (zaa zao (zaa (zaD zpu (zfn (zaa (zdx (zaa zao (zaa zao (zaa zao zae)))) zae)) zao) zae))) zae))))))))))),
  zpR hS hl hP q⟩
end
theorem zml {us:List Value} {n:Nat} (h:us.length=n+1):∃ a t,us=a::t∧t.length=n:=by
 cases us with
 | nil=>cases h
 | cons a t=>exact ⟨a,t,rfl,Nat.succ.inj h⟩
theorem zjI {us:List Value} (h:us.length=1):∃ a0,us=[a0]:=by
 obtain ⟨a0,u0,rfl,h0⟩:=zml h
 cases List.eq_nil_of_length_eq_zero h0
 exact ⟨a0,rfl⟩
theorem zpb {us:List Value} (h:us.length=2):∃ a0,∃ a1,us=[a0,a1]:=by
 obtain ⟨a0,u0,rfl,h0⟩:=zml h
 obtain ⟨a1,u1,rfl,h1⟩:=zml h0
 cases List.eq_nil_of_length_eq_zero h1
 exact ⟨a0,a1,rfl⟩
theorem lst3 {us:List Value} (h:us.length=3):∃ a0,∃ a1,∃ a2,us=[a0,a1,a2]:=by
 obtain ⟨a0,u0,rfl,h0⟩:=zml h
 obtain ⟨a1,u1,rfl,h1⟩:=zml h0
 obtain ⟨a2,u2,rfl,h2⟩:=zml h1
 cases List.eq_nil_of_length_eq_zero h2
 exact ⟨a0,a1,a2,rfl⟩
theorem lst4 {us:List Value} (h:us.length=4):∃ a0,∃ a1,∃ a2,∃ a3,us=[a0,a1,a2,a3]:=by
 obtain ⟨a0,u0,rfl,h0⟩:=zml h
 obtain ⟨a1,u1,rfl,h1⟩:=zml h0
 obtain ⟨a2,u2,rfl,h2⟩:=zml h1
 obtain ⟨a3,u3,rfl,h3⟩:=zml h2
 cases List.eq_nil_of_length_eq_zero h3
 exact ⟨a0,a1,a2,a3,rfl⟩
structure Txm (K:PySem.W.Frag) (mg:Str→Option Value) (a:Ad):Prop where
 m:mg "law"=some (.ref a.f_law)
 F:Fun K "law" "law" zkZ a.f_law a.d_law
 p:a.p_lam=150
 T:∀ base:Heap,PySem.W.CodeHd base 154 150→base.BuiltinsAt mg 150→Txt (zbg 150 K) mg base a
theorem zp2 {K:PySem.W.Frag} {mg:Str→Option Value} (hP:K.lookup 150=some (PySem.W.tabObj #[]))
  {f0 f1 f2 f3 f4 f5 f6 f7 f8 f9 f10 f11 f12 f13 f14 f15 f16 f17 f18 f19 f20 f21:Addr} {d0 d1 d2 d3 d4 d5 d6 d7 d8 d9 d10 d11 d12 d13 d14 d15 d16 d17 d18 d19 d20 d21:FuncData}
  {c_HideError c_NoWeb c_NoText:Addr}
  (F0:Fun K "is_whole" "is_whole" ze6 f0 d0) (m0:mg "is_whole"=some (.ref f0))
  (F1:Fun K "is_within" "is_within" zeo f1 d1) (m1:mg "is_within"=some (.ref f1))
  (F2:Fun K "is_road" "is_road" zfS f2 d2) (m2:mg "is_road"=some (.ref f2))
  (F3:Fun K "places_come_to" "places_come_to" zcb f3 d3) (m3:mg "places_come_to"=some (.ref f3))
  (F4:Fun K "look_web" "look_web" zfa f4 d4) (m4:mg "look_web"=some (.ref f4))
  (F5:Fun K "web_rows" "web_rows" zdG f5 d5) (m5:mg "web_rows"=some (.ref f5))
  (F6:Fun K "text_of" "text_of" zeM f6 d6) (m6:mg "text_of"=some (.ref f6))
  (F7:Fun K "web_text" "web_text" ze5 f7 d7) (m7:mg "web_text"=some (.ref f7))
  (F8:Fun K "number_in" "number_in" zcU f8 d8) (m8:mg "number_in"=some (.ref f8))
  (F9:Fun K "numbers_in" "numbers_in" zcx f9 d9) (m9:mg "numbers_in"=some (.ref f9))
  (F10:Fun K "many_in" "many_in" zgg f10 d10) (m10:mg "many_in"=some (.ref f10))
  (F11:Fun K "road_in" "road_in" zf1 f11 d11) (m11:mg "road_in"=some (.ref f11))
  (F12:Fun K "read_rows" "read_rows" zeq f12 d12) (m12:mg "read_rows"=some (.ref f12))
  (F13:zmi K "read_web" "read_web" zdQ f13 d13 154) (m13:mg "read_web"=some (.ref f13))
  (F14:Fun K "_law_mixed" "_law_mixed" zdz f14 d14) (m14:mg "_law_mixed"=some (.ref f14))
  (F15:Fun K "_law_length" "_law_length" zcS f15 d15) (m15:mg "_law_length"=some (.ref f15))
  (F16:Fun K "_law_web" "_law_web" ze0 f16 d16) (m16:mg "_law_web"=some (.ref f16))
  (F17:Fun K "_law_any_web" "_law_any_web" zcA f17 d17) (m17:mg "_law_any_web"=some (.ref f17))
  (F18:Fun K "_law_text" "_law_text" zej f18 d18) (m18:mg "_law_text"=some (.ref f18))
  (F19:Fun K "_law_same" "_law_same" zd8 f19 d19) (m19:mg "_law_same"=some (.ref f19))
  (F20:Fun K "_law_not_read" "_law_not_read" zcr f20 d20) (m20:mg "_law_not_read"=some (.ref f20))
  (F21:Fun K "law" "law" zkZ f21 d21) (m21:mg "law"=some (.ref f21))
  (z_isinstance:mg "isinstance"=none)
  (z_int:mg "int"=none)
  (z_bool:mg "bool"=none)
  (z_list:mg "list"=none)
  (z_len:mg "len"=none)
  (z_all:mg "all"=none)
  (z_range:mg "range"=none)
  (z_tuple:mg "tuple"=none)
  (z_str:mg "str"=none)
  (z_enumerate:mg "enumerate"=none)
  (z_zip:mg "zip"=none)
  (z_min:mg "min"=none)
  (z_ValueError:mg "ValueError"=none)
  (ac_HideError:mg "HideError"=some (.ref c_HideError))
  (ac_NoWeb:mg "NoWeb"=some (.ref c_NoWeb))
  (ac_NoText:mg "NoText"=some (.ref c_NoText))
  {k_MOST_PLACES:PySem.Tok} (ak_MOST_PLACES:mg "MOST_PLACES"=some (.int 60 k_MOST_PLACES))
  {k_MOST_ROADS:PySem.Tok} (ak_MOST_ROADS:mg "MOST_ROADS"=some (.int 120 k_MOST_ROADS))
  {k_MOST_LENGTH:PySem.Tok} (ak_MOST_LENGTH:mg "MOST_LENGTH"=some (.int 1000000 k_MOST_LENGTH))
  {k_MOST_FIGURES:PySem.Tok} (ak_MOST_FIGURES:mg "MOST_FIGURES"=some (.int 2000 k_MOST_FIGURES))
  {k_FIGURES:PySem.Tok} (ak_FIGURES:mg "FIGURES"=some (.str "0123456789" k_FIGURES))
  (xc_HideError:PySem.W.excIn K c_HideError zgx "ValueError.__new__"=true)
  (vsg:PySem.W.specialIn K (.ref c_HideError) "__getattribute__"=some (some (.builtin "type.__getattribute__")))
  (vrd:PySem.W.readsIn K c_HideError (.type "type")=true)
  (vfc:PySem.W.findCls K (.ref c_HideError) (.type "type") "__init__"=some (.val (.builtin "ValueError.__init__")))
  {i_NoWeb:Addr} (vin_NoWeb:PySem.W.findIn K (.ref c_NoWeb) "__init__"=some (some (.ref i_NoWeb)))
  {voc_NoWeb vkV_NoWeb vdc_NoWeb vpm_NoWeb vcd_NoWeb vct_NoWeb:Value} {vod_NoWeb van_NoWeb:Option Addr} {vsl_NoWeb:Array (Option Value)} (vl_NoWeb:K.lookup i_NoWeb=some ⟨voc_NoWeb,vod_NoWeb,.func (PySem.W.fnOf "__init__" "NoWeb.__init__" (zct zcm) (zbz zcm) (zap zcm) .none vkV_NoWeb vdc_NoWeb vpm_NoWeb van_NoWeb vcd_NoWeb vct_NoWeb),vsl_NoWeb⟩)
  (vc_NoWeb:PySem.W.codeIn K vcd_NoWeb "NoWeb.__init__"=true)
  (vk_NoWeb:PySem.W.keepIn K (.ref i_NoWeb)=true)
  {vnm_NoWeb vq_NoWeb:Str} {vN_NoWeb:Addr} {vbs_NoWeb vbm_NoWeb:List Value} {vsn_NoWeb:List Str} {vsub_NoWeb:List Value} {vab_NoWeb:Bool} {vcol_NoWeb:Option Bool} {vdd_NoWeb:Option Addr} {v0_NoWeb v1_NoWeb v2_NoWeb v3_NoWeb v5_NoWeb:Option Value} (vlk_NoWeb:K.lookup c_NoWeb=some (excClassObj vnm_NoWeb vq_NoWeb c_NoWeb vN_NoWeb vbs_NoWeb vbm_NoWeb true vsn_NoWeb vsub_NoWeb vab_NoWeb vcol_NoWeb vdd_NoWeb v0_NoWeb v1_NoWeb v2_NoWeb v3_NoWeb v5_NoWeb "ValueError.__new__"))
  (vtl_NoWeb:PySem.W.tailIn K zgx vbm_NoWeb=true)
  (vfn_NoWeb:PySem.W.isFn K (.ref i_NoWeb)=true)
  (vkp_NoWeb:PySem.W.keepIn K (.ref c_NoWeb)=true)
  (vmo_NoWeb:PySem.W.mroIn K c_NoWeb (.type "object")=some true)
  (vsa_NoWeb:PySem.W.findIn K (.ref c_NoWeb) "__setattr__"=some (some (.builtin "object.__setattr__")))
  (vga_NoWeb:PySem.W.findIn K (.ref c_NoWeb) "__getattribute__"=some (some (.builtin "BaseException.__getattribute__")))
  (vgn_NoWeb:PySem.W.findIn K (.ref c_NoWeb) "__getattr__"=some none)
  (vcl_NoWeb:PySem.W.findIn K (.ref c_NoWeb) "__class__"=some (some (.builtin "object.__class__")))
  (vmb_NoWeb:PySem.W.mroIn K c_NoWeb (.type "BaseException")=some true)
  (vhd_NoWeb:PySem.W.hasDictIn K c_NoWeb=true)
  (vna_NoWeb:PySem.W.findIn K (.ref c_NoWeb) "road"=some none)
  {i_NoText:Addr} (vin_NoText:PySem.W.findIn K (.ref c_NoText) "__init__"=some (some (.ref i_NoText)))
  {voc_NoText vkV_NoText vdc_NoText vpm_NoText vcd_NoText vct_NoText:Value} {vod_NoText van_NoText:Option Addr} {vsl_NoText:Array (Option Value)} (vl_NoText:K.lookup i_NoText=some ⟨voc_NoText,vod_NoText,.func (PySem.W.fnOf "__init__" "NoText.__init__" (zct zb0) (zbz zb0) (zap zb0) .none vkV_NoText vdc_NoText vpm_NoText van_NoText vcd_NoText vct_NoText),vsl_NoText⟩)
  (vc_NoText:PySem.W.codeIn K vcd_NoText "NoText.__init__"=true)
  (vk_NoText:PySem.W.keepIn K (.ref i_NoText)=true)
  {vnm_NoText vq_NoText:Str} {vN_NoText:Addr} {vbs_NoText vbm_NoText:List Value} {vsn_NoText:List Str} {vsub_NoText:List Value} {vab_NoText:Bool} {vcol_NoText:Option Bool} {vdd_NoText:Option Addr} {v0_NoText v1_NoText v2_NoText v3_NoText v5_NoText:Option Value} (vlk_NoText:K.lookup c_NoText=some (excClassObj vnm_NoText vq_NoText c_NoText vN_NoText vbs_NoText vbm_NoText true vsn_NoText vsub_NoText vab_NoText vcol_NoText vdd_NoText v0_NoText v1_NoText v2_NoText v3_NoText v5_NoText "ValueError.__new__"))
  (vtl_NoText:PySem.W.tailIn K zgx vbm_NoText=true)
  (vfn_NoText:PySem.W.isFn K (.ref i_NoText)=true)
  (vkp_NoText:PySem.W.keepIn K (.ref c_NoText)=true)
  (vmo_NoText:PySem.W.mroIn K c_NoText (.type "object")=some true)
  (vsa_NoText:PySem.W.findIn K (.ref c_NoText) "__setattr__"=some (some (.builtin "object.__setattr__")))
  (vga_NoText:PySem.W.findIn K (.ref c_NoText) "__getattribute__"=some (some (.builtin "BaseException.__getattribute__")))
  (vgn_NoText:PySem.W.findIn K (.ref c_NoText) "__getattr__"=some none)
  (vcl_NoText:PySem.W.findIn K (.ref c_NoText) "__class__"=some (some (.builtin "object.__class__")))
  (vmb_NoText:PySem.W.mroIn K c_NoText (.type "BaseException")=some true)
  (vhd_NoText:PySem.W.hasDictIn K c_NoText=true)
  (vna_NoText:PySem.W.findIn K (.ref c_NoText) "row"=some none)
  (su_NoWeb:PySem.W.subIn K (.ref c_NoWeb) (.ref c_NoWeb)=some true)
  (su_NoText:PySem.W.subIn K (.ref c_NoText) (.ref c_NoText)=some true)
  (i_k_NoWeb:PySem.W.kitOne K (.ref c_NoText) (.ref c_NoWeb)=some false)
  (i_k_NoText:PySem.W.kitOne K (.ref c_NoText) (.ref c_NoText)=some true)
  (i_k_ValueError:PySem.W.kitOne K (.ref c_NoText) (.type "ValueError")=some true)
  (i_sub:PySem.W.subIn K (.ref c_NoText) (.ref c_HideError)=some true)
  (e_ga:PySem.W.findIn K (.ref c_NoText) "__getattribute__"=some (some (.builtin "BaseException.__getattribute__")))
  (e_gn:PySem.W.findIn K (.ref c_NoText) "__getattr__"=some none)
  (e_cl:PySem.W.findIn K (.ref c_NoText) "__class__"=some (some (.builtin "object.__class__")))
  (e_mb:PySem.W.mroIn K c_NoText (.type "BaseException")=some true)
  (e_mo:PySem.W.mroIn K c_NoText (.type "object")=some true)
  : Txm K mg ⟨f0,d0,f1,d1,f2,d2,f3,d3,f4,d4,f5,d5,f6,d6,f7,d7,f8,d8,f9,d9,f10,d10,f11,d11,f12,d12,f13,d13,f14,d14,f15,d15,f16,d16,f17,d17,f18,d18,f19,d19,f20,d20,f21,d21,c_HideError,c_NoWeb,c_NoText,i_NoWeb,PySem.W.fnOf "__init__" "NoWeb.__init__" (zct zcm) (zbz zcm) (zap zcm) .none vkV_NoWeb vdc_NoWeb vpm_NoWeb van_NoWeb vcd_NoWeb vct_NoWeb,i_NoText,PySem.W.fnOf "__init__" "NoText.__init__" (zct zb0) (zbz zb0) (zap zb0) .none vkV_NoText vdc_NoText vpm_NoText van_NoText vcd_NoText vct_NoText,k_MOST_PLACES,k_MOST_ROADS,k_MOST_LENGTH,k_MOST_FIGURES,k_FIGURES,150,154⟩:=by
 have G0:=zaT hP F0
 have G1:=zaT hP F1
 have G2:=zaT hP F2
 have G3:=zaT hP F3
 have G4:=zaT hP F4
 have G5:=zaT hP F5
 have G6:=zaT hP F6
 have G7:=zaT hP F7
 have G8:=zaT hP F8
 have G9:=zaT hP F9
 have G10:=zaT hP F10
 have G11:=zaT hP F11
 have G12:=zaT hP F12
 have G13:=F13.drop hP
 have G14:=zaT hP F14
 have G15:=zaT hP F15
 have G16:=zaT hP F16
 have G17:=zaT hP F17
 have G18:=zaT hP F18
 have G19:=zaT hP F19
 have G20:=zaT hP F20
 have G21:=zaT hP F21
 have VF_NoWeb:=zaT hP (zbE (st:=zcm) vl_NoWeb vc_NoWeb vk_NoWeb)
 have vb_NoWeb:=VF_NoWeb.binds (ps:=["self","road"]) fun _ _ _ _ _ _ us hl=>by obtain ⟨_,_,rfl⟩:=zpw hl;rfl
 have VX_NoWeb:=(ExI.mk ⟨_,_,_,_,_,_,_,_,_,_,_,_,_,_,_,vlk_NoWeb,vtl_NoWeb⟩ vin_NoWeb vfn_NoWeb vkp_NoWeb vmo_NoWeb vsa_NoWeb).drop hP
 have VF_NoText:=zaT hP (zbE (st:=zb0) vl_NoText vc_NoText vk_NoText)
 have vb_NoText:=VF_NoText.binds (ps:=["self","row"]) fun _ _ _ _ _ _ us hl=>by obtain ⟨_,_,rfl⟩:=zpw hl;rfl
 have VX_NoText:=(ExI.mk ⟨_,_,_,_,_,_,_,_,_,_,_,_,_,_,_,vlk_NoText,vtl_NoText⟩ vin_NoText vfn_NoText vkp_NoText vmo_NoText vsa_NoText).drop hP
 refine ⟨m21,F21,rfl,fun base hC hB=>⟨G0,G0.binds fun _ _ _ _ _ _ us hl=>by obtain ⟨_,rfl⟩:=zjI hl;rfl,m0,G1,G1.binds fun _ _ _ _ _ _ us hl=>by obtain ⟨_,_,_,rfl⟩:=lst3 hl;rfl,m1,G2,G2.binds fun _ _ _ _ _ _ us hl=>by obtain ⟨_,_,rfl⟩:=zpb hl;rfl,m2,G3,G3.binds fun _ _ _ _ _ _ us hl=>by obtain ⟨_,rfl⟩:=zjI hl;rfl,m3,G4,G4.binds fun _ _ _ _ _ _ us hl=>by obtain ⟨_,rfl⟩:=zjI hl;rfl,m4,G5,G5.binds fun _ _ _ _ _ _ us hl=>by obtain ⟨_,rfl⟩:=zjI hl;rfl,m5,G6,G6.binds fun _ _ _ _ _ _ us hl=>by obtain ⟨_,rfl⟩:=zjI hl;rfl,m6,G7,G7.binds fun _ _ _ _ _ _ us hl=>by obtain ⟨_,rfl⟩:=zjI hl;rfl,m7,G8,G8.binds fun _ _ _ _ _ _ us hl=>by obtain ⟨_,rfl⟩:=zjI hl;rfl,m8,G9,G9.binds fun _ _ _ _ _ _ us hl=>by obtain ⟨_,rfl⟩:=zjI hl;rfl,m9,G10,G10.binds fun _ _ _ _ _ _ us hl=>by obtain ⟨_,rfl⟩:=zjI hl;rfl,m10,G11,G11.binds fun _ _ _ _ _ _ us hl=>by obtain ⟨_,_,rfl⟩:=zpb hl;rfl,m11,G12,G12.binds fun _ _ _ _ _ _ us hl=>by obtain ⟨_,_,rfl⟩:=zpb hl;rfl,m12,G13,G13.fun.binds fun _ _ _ _ _ _ us hl=>by obtain ⟨_,rfl⟩:=zjI hl;rfl,m13,G14,G14.binds fun _ _ _ _ _ _ us hl=>by obtain ⟨_,_,rfl⟩:=zpb hl;rfl,m14,G15,G15.binds fun _ _ _ _ _ _ us hl=>by obtain ⟨_,rfl⟩:=zjI hl;rfl,m15,G16,G16.binds fun _ _ _ _ _ _ us hl=>by obtain ⟨_,_,_,_,rfl⟩:=lst4 hl;rfl,m16,G17,G17.binds fun _ _ _ _ _ _ us hl=>by obtain ⟨_,_,rfl⟩:=zpb hl;rfl,m17,G18,G18.binds fun _ _ _ _ _ _ us hl=>by obtain ⟨_,rfl⟩:=zjI hl;rfl,m18,G19,G19.binds fun _ _ _ _ _ _ us hl=>by obtain ⟨_,_,rfl⟩:=zpb hl;rfl,m19,G20,G20.binds fun _ _ _ _ _ _ us hl=>by obtain ⟨_,rfl⟩:=zjI hl;rfl,m20,G21,G21.binds fun _ _ _ _ _ _ us hl=>by obtain ⟨_,rfl⟩:=zjI hl;rfl,m21,hC,hB,z_isinstance,z_int,z_bool,z_list,z_len,z_all,z_range,z_tuple,z_str,z_enumerate,z_zip,z_min,z_ValueError,ac_HideError,ac_NoWeb,ac_NoText,ak_MOST_PLACES,ak_MOST_ROADS,ak_MOST_LENGTH,ak_MOST_FIGURES,ak_FIGURES,(znw hP _ _ _).trans xc_HideError,(ExB.mk vsg vrd vfc).drop hP,VF_NoWeb,vb_NoWeb,VX_NoWeb,(zg3.mk ⟨vga_NoWeb,vgn_NoWeb,vcl_NoWeb,vmb_NoWeb,vmo_NoWeb⟩ vhd_NoWeb vna_NoWeb).drop hP,VF_NoText,vb_NoText,VX_NoText,(zg3.mk ⟨vga_NoText,vgn_NoText,vcl_NoText,vmb_NoText,vmo_NoText⟩ vhd_NoText vna_NoText).drop hP,(zdI hP _ _).trans su_NoWeb,(zdI hP _ _).trans su_NoText,⟨(zg1 hP _ _).trans i_k_NoWeb,(zg1 hP _ _).trans i_k_NoText,(zg1 hP _ _).trans i_k_ValueError,(zdI hP _ _).trans i_sub,zkO ((zce.mk e_ga e_gn e_cl e_mb e_mo).drop hP) VX_NoText⟩⟩⟩
theorem zp6 {K:PySem.W.Frag} {w:World} {mg:Str→Option Value} {fa:Addr} {P:Program} (hfa:mg "law"=some (.ref fa)) {a:Ad} (M:Txm K mg a) :
  ∃ fd:FuncData,(∀ (s:Shared) (u:Value),BindsTo s fd ⟨[u],[]⟩ [("_law_script",u)])∧∀ base:Heap,(zbg 150 K).In base→base.Ns mainGlobals mg→PySem.W.CodeHd base 154 150→base.BuiltinsAt mg 150→zcJ P w (zbg 150 K) mg base CX0 9 fa fd ["_law_script"] (znE (zbg 150 K) 150):=by
 have e:=hfa.symm.trans M.m
 cases e
 refine ⟨a.d_law,fun s v=>?_,fun base _ _ hC hB=>?_⟩
 ·obtain ⟨oc,od,kV,doc,pm,an,cdv,ct,osl,e,lk,hcd⟩:=M.F.ex
  rw [e]
  exact .of_eq rfl
 ·have h:=zqi (P:=P) (w:=w) (M.T base hC hB)
  rw [M.p] at h
  exact h
theorem walk {l:PySem.W.OpenLaw} {q:Program} {loose:List Str} {XP:(Str→Option Value)→Heap→Prop} {YP:World→Heap→Prop} {d:DefRec} {K:Params→PySem.W.Frag} (hn:l.most=some 63) (hdf:d.params.defaults=[])
  (hY:∀ (w:World) (h:Heap),YP w h→(K w.params).In h) (hPt:∀ w:World,(K w.params).lookup 150=some (PySem.W.tabObj #[])) (hC:∀ (w:World) (h:Heap),(K w.params).In h→PySem.W.CodeHd h 154 150)
  (F:∀ (w:World) (mg:Str→Option Value) (fa:Addr) (h:Heap),(K w.params).In h→h.Ns mainGlobals mg→mg d.name=some (.ref fa) →
   ∃ fd:FuncData,(∀ (s:Shared) (u:Value),BindsTo s fd ⟨[u],[]⟩ [("_law_script",u)])∧∀ base:Heap,(zbg 150 (K w.params)).In base→base.Ns mainGlobals mg→PySem.W.CodeHd base 154 150→base.BuiltinsAt mg 150→zcJ l.prog w (zbg 150 (K w.params)) mg base CX0 9 fa fd ["_law_script"] (znE (zbg 150 (K w.params)) 150)) :
  PySem.W.WalkO q loose XP YP l.row.toRowW d [] (fun f vs=>PySem.call f vs) :=
 L2.znv (n:=63) (k:=9) (x:="_law_script") (sp:=fun w=>znE (zbg 150 (K w.params)) 150) hn (by decide) hdf ⟨rfl,by decide,by decide⟩ hY hPt hC F fun _ _ a ns hb hl hP hS=>⟨a,ns,rfl,hS,hl,hb,.first hP,fun _=>rfl⟩
end My
open PySem PySem.W in
theorem My.walk_at {K:Params→Frag} {w:World} {h:Heap} {l:OpenLaw} {q:Program} {loose:List Str} {XP:(Str→Option Value)→Heap→Prop} {d:DefRec} {C:Prop} (_:(K w.params).In h)
  (use:WalkO q loose XP (fun w h=>(K w.params).In h) l.row.toRowW d [] (fun f vs=>PySem.call f vs)→C) (W:WalkO q loose XP (fun w h=>(K w.params).In h) l.row.toRowW d [] (fun f vs=>PySem.call f vs)):C:=use W
noncomputable section
namespace Hd
open PySem PySem.W.Fast
structure Q (α : Type) where
  a : α
  b : α
  c : α
  d : α
  e : α
  f : α
  g : α
  h : α
class X where
  s : Q (Q (Q Str))
  t : Q (Q (Q String))
  r : Q (Q (Q Obj))
  p : Program
  P : Params
def sp (p : Program) (n : Nat) : Stmt := (p.main.body.drop n).headD (.Pass ⟨0, 0, 0, 0⟩)
def st [x : X] (n : Nat) : Stmt := sp x.p n
def cb : Stmt → List Stmt
  | .ClassDef _ _ _ b .. => b
  | _ => []
def sm [x : X] (n k : Nat) : Stmt := ((cb (st n)).drop k).headD (.Pass ⟨0, 0, 0, 0⟩)
def fn (s : Stmt) (q : Str) (g : Addr) (c : List (Str × Addr)) (d k o m : Value) (a : Option Addr) (z t : Value) (b : Addr) : FuncData := match s with
  | .FunctionDef n p y _ _ _ u .. => ⟨n, q, p, .stmts y, u, g, c, d, k, o, m, a, z, t, b⟩
  | _ => default
abbrev z := W.BT.nil
def N (o : Obj) (l r : W.BT) : W.BT := .node o l r
def L (o : Obj) : W.BT := .node o .nil .nil
def e [x : X] (s : Str) (n : Nat) (v : Value) : DictEntry := ⟨PyData.keyHash x.P s, .str s n, v⟩
def vR (n : Nat) : Option Value := some (.ref n)
def vr (n : Nat) : Value := .ref n
def vO : Value := .int 0 0
def vI (n : Int) : Value := .int n 0
def vS (s : Str) (n : Tok) : Value := .str s n
def vY (s : String) : Value := .type s
def vB (s : String) : Value := .builtin s
section
variable [x : X]
def i0 := e x.s.a.a.d 165 (vS x.s.a.a.e 187)
def i1 := e x.s.a.a.f 166 .none
def i2 := e x.s.a.a.g 167 .none
def i3 := e x.s.a.a.h 168 (vB x.t.a.a.e)
def i4 := e x.s.a.b.a 169 .none
def i5 := e x.s.a.b.b 170 (vr 6)
def i6 := e x.s.a.b.c 171 (vr 4)
def i7 := e x.s.a.b.d 173 (vS x.s.a.a.b 172)
def i8 := e x.s.a.b.e 174 .none
def i9 := e x.s.a.b.f 206 (vr 24)
def i10 := e x.s.a.b.g 196 (vS x.s.a.a.e 187)
def i11 := e x.s.a.b.h 198 (vS x.s.a.b.f 197)
def i12 := e x.s.a.c.a 200 (.int 2 199)
def i13 := e x.s.a.c.b 201 (vr 22)
def i14 := e x.s.a.c.c 203 (vr 25)
def i15 := e x.s.a.a.f 204 .none
def i16 := e x.s.a.c.d 231 (vr 44)
def i17 := e x.s.a.b.g 214 (vS x.s.a.a.e 187)
def i18 := e x.s.a.b.h 216 (vS x.s.a.c.d 215)
def i19 := e x.s.a.c.a 218 (.int 4 217)
def i20 := e x.s.a.c.e 226 (vr 41)
def i21 := e x.s.a.c.b 228 (vr 42)
def i22 := e x.s.a.a.f 229 .none
def i23 := e x.s.a.a.d 165 (vS x.s.a.d.a 275)
def i24 := e x.s.a.d.b 256 (vr 63)
def i25 := e x.s.a.d.c 265 (vr 72)
def i26 := e x.s.a.d.d 274 (vr 79)
def i27 := e x.s.a.d.e 278 (.int 60 277)
def i28 := e x.s.a.d.f 280 (.int 120 279)
def i29 := e x.s.a.d.g 282 (.int 1000000 281)
def i30 := e x.s.a.d.h 293 (vr 86)
def i31 := e x.s.a.b.g 239 (vS x.s.a.a.e 187)
def i32 := e x.s.a.b.h 241 (vS x.s.a.d.b 240)
def i33 := e x.s.a.c.a 243 (.int 9 242)
def i34 := e x.s.a.c.e 251 (vr 60)
def i35 := e x.s.a.c.b 253 (vr 61)
def i36 := e x.s.a.a.f 254 .none
def i37 := e x.s.a.a.d 165 (vS x.s.a.f.c 394)
def i38 := e x.s.a.f.d 305 (vr 93)
def i39 := e x.s.a.f.e 316 (vr 100)
def i40 := e x.s.a.f.f 320 (vS x.s.a.f.g 319)
def i41 := e x.s.a.f.h 322 (.int 2000 321)
def i42 := e x.s.a.g.a 328 (vr 105)
def i43 := e x.s.a.g.b 334 (vr 110)
def i44 := e x.s.a.g.c 341 (vr 117)
def i45 := e x.s.a.g.d 347 (vr 122)
def i46 := e x.s.a.g.e 353 (vr 127)
def i47 := e x.s.a.g.f 361 (vr 134)
def i48 := e x.s.a.g.g 371 (vr 141)
def i49 := e x.s.a.g.h 384 (vr 148)
def i50 := e x.s.a.h.a 393 (vr 155)
def i51 := e x.s.a.h.b 407 (vr 162)
def i52 := e x.s.b.b.e 415 (vr 169)
def i53 := e x.s.b.b.f 437 (vr 176)
def i54 := e x.s.b.b.g 445 (vr 183)
def i55 := e x.s.b.b.h 456 (vr 190)
def i56 := e x.s.b.c.a 466 (vr 197)
def i57 := e x.s.b.c.b 475 (vr 204)
def i58 := e x.s.b.c.c 481 (vr 209)
def zaE : Obj := ⟨(vY x.t.a.a.a), none, (.seq #[] 0), #[]⟩
def zbp : Obj := ⟨.none, none, (.fields #[]), #[]⟩
def znX : Obj := ⟨(vY x.t.a.a.b), none, (.fields #[(vS x.s.a.a.a 182), (vS x.s.a.a.a 183), (vS x.s.a.a.b 184), (vI 1), vO, vO, vO, vO, (vr 11), (.bool false), (vI 181), (vr 12), .none, .none, .none, .none, (vI 185), (vI 1), (vS x.s.a.a.b 186)]), #[]⟩
def znW : Obj := ⟨(vY x.t.a.a.c), none, .plain, #[(vR 13), (vR 3), (vR 3), none, (some (vS x.s.a.a.c 164)), none, (vR 0)]⟩
def b444 : Obj := ⟨(vY x.t.a.a.d), none, (.dict #[i0, i1, i2, i3, i4, i5, i6, i7, i8, i9] 10), #[]⟩
def b445 : Obj := ⟨.none, none, (.fields #[(vI 2), vO, (vr 20)]), #[]⟩
def zpm : Obj := ⟨(vY x.t.a.a.a), none, (.seq #[(vY x.t.a.a.f)] 0), #[]⟩
def zi8 : Obj := ⟨(vY x.t.a.a.g), none, (.fields #[(vB x.t.a.a.h), (vY x.t.a.b.a)]), #[]⟩
def zpl : Obj := ⟨(vY x.t.a.a.d), none, (.dict #[i10, i11, i12, i13] 4), #[]⟩
def zpd : Obj := ⟨(vY x.t.a.a.b), none, (.fields #[(vS x.s.a.b.f 191), (vS x.s.a.b.f 192), (vS x.s.a.a.b 193), (vI 2), vO, vO, vO, vO, (vr 18), (.bool false), (vI 181), (vr 19), .none, .none, .none, .none, (vI 194), (vI 2), (vS x.s.a.a.b 195)]), #[]⟩
def zpp : Obj := ⟨(vY x.t.a.a.c), none, .plain, #[(vR 20), (vR 3), (vR 17), none, (some (vS x.s.a.a.e 187)), none, (vR 0)]⟩
def zpn : Obj := ⟨(vY x.t.a.a.d), none, (.dict #[i10, i12, i13, i14, i15] 3), #[]⟩
def b455 : Obj := ⟨(vY x.t.a.b.a), none, (.cls ⟨x.s.a.b.f, [(vY x.t.a.a.f)], [(vr 24), (vY x.t.a.a.f), (vY x.t.a.b.b), (vY x.t.a.b.c), (vY x.t.a.b.d)], 23, x.s.a.b.f, true, [], [], false, none, false⟩), #[(vR 15), none, (some (vS x.s.a.b.f 189)), (some (vS x.s.a.b.f 197)), (some (vB x.t.a.b.e)), (some (.bool true))]⟩
def zpe : Obj := ⟨(vY x.t.a.b.f), none, (.fields #[(vS x.s.a.c.c 202), (vr 24), (vB x.t.a.b.g), .none]), #[]⟩
def zpg : Obj := ⟨(vY x.t.a.b.h), none, (.fields #[(vr 24), (vr 24), (vr 24)]), #[]⟩
def zpo : Obj := ⟨(vY x.t.a.a.g), none, (.fields #[(vB x.t.a.c.a), (vr 24)]), #[]⟩
def b459 : Obj := ⟨(vY x.t.a.a.d), none, (.dict #[i0, i1, i2, i3, i4, i5, i6, i7, i8, i9, i16] 11), #[]⟩
def b460 : Obj := ⟨.none, none, (.fields #[(vI 2), vO, (vr 20), (vI 4), vO, (vr 33)]), #[]⟩
def b461 : Obj := ⟨(vY x.t.a.b.a), none, (.cls ⟨x.s.a.b.f, [(vY x.t.a.a.f)], [(vr 24), (vY x.t.a.a.f), (vY x.t.a.b.b), (vY x.t.a.b.c), (vY x.t.a.b.d)], 23, x.s.a.b.f, true, [], [(vr 44)], false, none, false⟩), #[(vR 15), none, (some (vS x.s.a.b.f 189)), (some (vS x.s.a.b.f 197)), (some (vB x.t.a.b.e)), (some (.bool true))]⟩
def zne : Obj := ⟨(vY x.t.a.a.a), none, (.seq #[(vr 24)] 0), #[]⟩
def zpq : Obj := ⟨(vY x.t.a.a.d), none, (.dict #[i17, i18, i19, i20, i21] 5), #[]⟩
def zpy : Obj := ⟨.none, none, (.fields #[(vI 6), (vI 4), (vr 40)]), #[]⟩
def zpI : Obj := ⟨(vY x.t.a.a.b), none, (.fields #[(vS x.s.a.c.d 209), (vS x.s.a.c.d 210), (vS x.s.a.a.b 211), (vI 4), vO, vO, vO, vO, (vr 31), (.bool false), (vI 181), (vr 32), .none, .none, .none, .none, (vI 212), (vI 4), (vS x.s.a.a.b 213)]), #[]⟩
def zpK : Obj := ⟨(vY x.t.a.a.c), none, .plain, #[(vR 33), (vR 3), (vR 30), none, (some (vS x.s.a.a.e 187)), none, (vR 0)]⟩
def zpH : Obj := ⟨(vY x.t.a.a.a), none, (.seq #[(vS x.s.a.c.f 222), (vS x.s.a.c.g 223)] 0), #[]⟩
def zpC : Obj := ⟨.none, none, (.func (fn (sm 2 0) x.s.a.c.h 0 [] .none .none .none .none none .none .none 0)), #[]⟩
def zpx : Obj := ⟨(vY x.t.a.a.b), none, (.fields #[(vS x.s.a.c.e 219), (vS x.s.a.c.h 220), (vS x.s.a.a.b 221), (vI 6), (vI 2), vO, vO, (vI 3), (vr 35), (.bool true), (vI 181), (vr 36), .none, (vr 37), (vr 38), (vr 39), (vI 224), (vI 6), (vS x.s.a.a.b 225)]), #[]⟩
def zqh : Obj := ⟨(vY x.t.a.c.b), none, (.func (fn (sm 2 0) x.s.a.c.h 3 [] .none .none .none (vS x.s.a.a.e 187) none (vr 40) .none 0)), #[]⟩
def zp0 : Obj := ⟨(vY x.t.a.a.a), none, (.seq #[(vS x.s.a.c.g 227)] 0), #[]⟩
def zpJ : Obj := ⟨(vY x.t.a.a.d), none, (.dict #[i17, i19, i20, i21, i22] 2), #[]⟩
def zpV : Obj := ⟨(vY x.t.a.b.a), none, (.cls ⟨x.s.a.c.d, [(vr 24)], [(vr 44), (vr 24), (vY x.t.a.a.f), (vY x.t.a.b.b), (vY x.t.a.b.c), (vY x.t.a.b.d)], 43, x.s.a.c.d, true, [], [], false, none, false⟩), #[(vR 28), none, (some (vS x.s.a.c.d 207)), (some (vS x.s.a.c.d 215)), (some (vB x.t.a.b.e)), (some (.bool true))]⟩
def zpW : Obj := ⟨(vY x.t.a.b.h), none, (.fields #[(vr 44), (vr 44), (vr 44)]), #[]⟩
def zqc : Obj := ⟨(vY x.t.a.a.g), none, (.fields #[(vB x.t.a.c.a), (vr 44)]), #[]⟩
def b481 : Obj := ⟨(vY x.t.a.a.d), none, (.dict #[i23, i1, i2, i3, i4, i5, i6, i7, i8, i9, i16, i24, i25, i26, i27, i28, i29, i30] 18), #[]⟩
def b482 : Obj := ⟨.none, none, (.fields #[(vI 2), vO, (vr 20), (vI 4), vO, (vr 33), (vI 9), vO, (vr 52), (vI 15), vO, (vr 71), (vI 17), vO, (vr 78), (vI 23), vO, (vr 85)]), #[]⟩
def b483 : Obj := ⟨(vY x.t.a.b.a), none, (.cls ⟨x.s.a.b.f, [(vY x.t.a.a.f)], [(vr 24), (vY x.t.a.a.f), (vY x.t.a.b.b), (vY x.t.a.b.c), (vY x.t.a.b.d)], 23, x.s.a.b.f, true, [], [(vr 44), (vr 63)], false, none, false⟩), #[(vR 15), none, (some (vS x.s.a.b.f 189)), (some (vS x.s.a.b.f 197)), (some (vB x.t.a.b.e)), (some (.bool true))]⟩
def b486 : Obj := ⟨(vY x.t.a.a.d), none, (.dict #[i31, i32, i33, i34, i35] 5), #[]⟩
def b488 : Obj := ⟨.none, none, (.fields #[(vI 11), (vI 4), (vr 59)]), #[]⟩
def b489 : Obj := ⟨(vY x.t.a.a.b), none, (.fields #[(vS x.s.a.d.b 234), (vS x.s.a.d.b 235), (vS x.s.a.a.b 236), (vI 9), vO, vO, vO, vO, (vr 50), (.bool false), (vI 181), (vr 51), .none, .none, .none, .none, (vI 237), (vI 9), (vS x.s.a.a.b 238)]), #[]⟩
def b490 : Obj := ⟨(vY x.t.a.a.c), none, .plain, #[(vR 52), (vR 3), (vR 49), none, (some (vS x.s.a.a.e 187)), none, (vR 0)]⟩
def b493 : Obj := ⟨(vY x.t.a.a.a), none, (.seq #[(vS x.s.a.c.f 247), (vS x.s.a.e.a 248)] 0), #[]⟩
def b495 : Obj := ⟨.none, none, (.func (fn (sm 3 0) x.s.a.e.b 0 [] .none .none .none .none none .none .none 0)), #[]⟩
def b496 : Obj := ⟨(vY x.t.a.a.b), none, (.fields #[(vS x.s.a.c.e 244), (vS x.s.a.e.b 245), (vS x.s.a.a.b 246), (vI 11), (vI 2), vO, vO, (vI 3), (vr 54), (.bool true), (vI 181), (vr 55), .none, (vr 56), (vr 57), (vr 58), (vI 249), (vI 11), (vS x.s.a.a.b 250)]), #[]⟩
def b497 : Obj := ⟨(vY x.t.a.c.b), none, (.func (fn (sm 3 0) x.s.a.e.b 3 [] .none .none .none (vS x.s.a.a.e 187) none (vr 59) .none 0)), #[]⟩
def b498 : Obj := ⟨(vY x.t.a.a.a), none, (.seq #[(vS x.s.a.e.a 252)] 0), #[]⟩
def b499 : Obj := ⟨(vY x.t.a.a.d), none, (.dict #[i31, i33, i34, i35, i36] 2), #[]⟩
def b500 : Obj := ⟨(vY x.t.a.b.a), none, (.cls ⟨x.s.a.d.b, [(vr 24)], [(vr 63), (vr 24), (vY x.t.a.a.f), (vY x.t.a.b.b), (vY x.t.a.b.c), (vY x.t.a.b.d)], 62, x.s.a.d.b, true, [], [], false, none, false⟩), #[(vR 47), none, (some (vS x.s.a.d.b 232)), (some (vS x.s.a.d.b 240)), (some (vB x.t.a.b.e)), (some (.bool true))]⟩
def b501 : Obj := ⟨(vY x.t.a.b.h), none, (.fields #[(vr 63), (vr 63), (vr 63)]), #[]⟩
def b502 : Obj := ⟨(vY x.t.a.a.g), none, (.fields #[(vB x.t.a.c.a), (vr 63)]), #[]⟩
def b505 : Obj := ⟨(vY x.t.a.a.a), none, (.seq #[(vS x.s.a.e.c 262)] 0), #[]⟩
def b507 : Obj := ⟨.none, none, (.func (fn (st 5) x.s.a.d.c 0 [] .none .none .none .none none .none .none 0)), #[]⟩
def b508 : Obj := ⟨(vY x.t.a.a.b), none, (.fields #[(vS x.s.a.d.c 259), (vS x.s.a.d.c 260), (vS x.s.a.a.b 261), (vI 15), (vI 1), vO, vO, (vI 3), (vr 66), (.bool true), (vI 181), (vr 67), .none, (vr 68), (vr 69), (vr 70), (vI 263), (vI 15), (vS x.s.a.a.b 264)]), #[]⟩
def b509 : Obj := ⟨(vY x.t.a.c.b), none, (.func (fn (st 5) x.s.a.d.c 3 [] .none .none .none (vS x.s.a.e.d 257) none (vr 71) .none 0)), #[]⟩
def b512 : Obj := ⟨(vY x.t.a.a.a), none, (.seq #[(vS x.s.a.e.c 269), (vS x.s.a.e.e 270), (vS x.s.a.e.f 271)] 0), #[]⟩
def b514 : Obj := ⟨.none, none, (.func (fn (st 6) x.s.a.d.d 0 [] .none .none .none .none none .none .none 0)), #[]⟩
def b515 : Obj := ⟨(vY x.t.a.a.b), none, (.fields #[(vS x.s.a.d.d 266), (vS x.s.a.d.d 267), (vS x.s.a.a.b 268), (vI 17), (vI 3), vO, vO, (vI 3), (vr 73), (.bool true), (vI 181), (vr 74), .none, (vr 75), (vr 76), (vr 77), (vI 272), (vI 17), (vS x.s.a.a.b 273)]), #[]⟩
def b516 : Obj := ⟨(vY x.t.a.c.b), none, (.func (fn (st 6) x.s.a.d.d 3 [] .none .none .none (vS x.s.a.e.d 257) none (vr 78) .none 0)), #[]⟩
def b519 : Obj := ⟨(vY x.t.a.a.a), none, (.seq #[(vS x.s.a.e.c 286), (vS x.s.a.e.g 287), (vS x.s.a.e.h 288), (vS x.s.a.f.a 289), (vS x.s.a.f.b 290)] 0), #[]⟩
def b521 : Obj := ⟨.none, none, (.func (fn (st 11) x.s.a.d.h 0 [] .none .none .none .none none .none .none 0)), #[]⟩
def b522 : Obj := ⟨(vY x.t.a.a.b), none, (.fields #[(vS x.s.a.d.h 283), (vS x.s.a.d.h 284), (vS x.s.a.a.b 285), (vI 23), (vI 2), vO, vO, (vI 3), (vr 80), (.bool true), (vI 181), (vr 81), .none, (vr 82), (vr 83), (vr 84), (vI 291), (vI 23), (vS x.s.a.a.b 292)]), #[]⟩
def b523 : Obj := ⟨(vY x.t.a.c.b), none, (.func (fn (st 11) x.s.a.d.h 3 [] .none .none .none (vS x.s.a.d.a 275) none (vr 85) .none 0)), #[]⟩
def b524 : Obj := ⟨(vY x.t.a.a.d), none, (.dict #[i37, i1, i2, i3, i4, i5, i6, i7, i8, i9, i16, i24, i25, i26, i27, i28, i29, i30, i38, i39, i40, i41, i42, i43, i44, i45, i46, i47, i48, i49, i50, i51] 32), #[]⟩
def b525 : Obj := ⟨.none, none, (.fields #[(vI 2), vO, (vr 20), (vI 4), vO, (vr 33), (vI 9), vO, (vr 52), (vI 15), vO, (vr 71), (vI 17), vO, (vr 78), (vI 23), vO, (vr 85), (vI 28), vO, (vr 92), (vI 38), vO, (vr 99), (vI 50), vO, (vr 104), (vI 53), vO, (vr 109), (vI 55), vO, (vr 116), (vI 58), vO, (vr 121), (vI 64), vO, (vr 126), (vI 67), vO, (vr 133), (vI 70), vO, (vr 140), (vI 76), vO, (vr 147), (vI 87), vO, (vr 154), (vI 96), vO, (vr 161)]), #[]⟩
def b528 : Obj := ⟨(vY x.t.a.a.a), none, (.seq #[(vS x.s.a.h.c 297), (vS x.s.a.h.d 298), (vS x.s.a.h.e 299), (vS x.s.a.e.h 300), (vS x.s.a.f.a 301), (vS x.s.a.f.b 302)] 0), #[]⟩
def b530 : Obj := ⟨.none, none, (.func (fn (st 12) x.s.a.f.d 0 [] .none .none .none .none none .none .none 0)), #[]⟩
def b531 : Obj := ⟨(vY x.t.a.a.b), none, (.fields #[(vS x.s.a.f.d 294), (vS x.s.a.f.d 295), (vS x.s.a.a.b 296), (vI 28), (vI 1), vO, vO, (vI 3), (vr 87), (.bool true), (vI 181), (vr 88), .none, (vr 89), (vr 90), (vr 91), (vI 303), (vI 28), (vS x.s.a.a.b 304)]), #[]⟩
def b532 : Obj := ⟨(vY x.t.a.c.b), none, (.func (fn (st 12) x.s.a.f.d 3 [] .none .none .none (vS x.s.a.d.a 275) none (vr 92) .none 0)), #[]⟩
def b535 : Obj := ⟨(vY x.t.a.a.a), none, (.seq #[(vS x.s.a.h.f 309), (vS x.s.a.e.g 310), (vS x.s.a.h.c 311), (vS x.s.a.h.g 312), (vS x.s.a.c.g 313)] 0), #[]⟩
def b537 : Obj := ⟨.none, none, (.func (fn (st 13) x.s.a.f.e 0 [] .none .none .none .none none .none .none 0)), #[]⟩
def b538 : Obj := ⟨(vY x.t.a.a.b), none, (.fields #[(vS x.s.a.f.e 306), (vS x.s.a.f.e 307), (vS x.s.a.a.b 308), (vI 38), (vI 1), vO, vO, (vI 3), (vr 94), (.bool true), (vI 181), (vr 95), .none, (vr 96), (vr 97), (vr 98), (vI 314), (vI 38), (vS x.s.a.a.b 315)]), #[]⟩
def b539 : Obj := ⟨(vY x.t.a.c.b), none, (.func (fn (st 13) x.s.a.f.e 3 [] .none .none .none (vS x.s.a.d.a 275) none (vr 99) .none 0)), #[]⟩
def b542 : Obj := ⟨.none, none, (.func (fn (st 17) x.s.a.g.a 0 [] .none .none .none .none none .none .none 0)), #[]⟩
def b543 : Obj := ⟨(vY x.t.a.a.b), none, (.fields #[(vS x.s.a.g.a 323), (vS x.s.a.g.a 324), (vS x.s.a.a.b 325), (vI 50), (vI 1), vO, vO, (vI 3), (vr 101), (.bool true), (vI 181), (vr 102), .none, .none, .none, (vr 103), (vI 326), (vI 50), (vS x.s.a.a.b 327)]), #[]⟩
def b544 : Obj := ⟨(vY x.t.a.c.b), none, (.func (fn (st 17) x.s.a.g.a 3 [] .none .none .none (vS x.s.a.h.h 317) none (vr 104) .none 0)), #[]⟩
def b547 : Obj := ⟨.none, none, (.func (fn (st 18) x.s.a.g.b 0 [] .none .none .none .none none .none .none 0)), #[]⟩
def b548 : Obj := ⟨(vY x.t.a.a.b), none, (.fields #[(vS x.s.a.g.b 329), (vS x.s.a.g.b 330), (vS x.s.a.a.b 331), (vI 53), (vI 1), vO, vO, (vI 3), (vr 106), (.bool true), (vI 181), (vr 107), .none, .none, .none, (vr 108), (vI 332), (vI 53), (vS x.s.a.a.b 333)]), #[]⟩
def b549 : Obj := ⟨(vY x.t.a.c.b), none, (.func (fn (st 18) x.s.a.g.b 3 [] .none .none .none (vS x.s.a.h.h 317) none (vr 109) .none 0)), #[]⟩
def b552 : Obj := ⟨(vY x.t.a.a.a), none, (.seq #[(vS x.s.a.h.f 338)] 0), #[]⟩
def b554 : Obj := ⟨.none, none, (.func (fn (st 19) x.s.a.g.c 0 [] .none .none .none .none none .none .none 0)), #[]⟩
def b555 : Obj := ⟨(vY x.t.a.a.b), none, (.fields #[(vS x.s.a.g.c 335), (vS x.s.a.g.c 336), (vS x.s.a.a.b 337), (vI 55), (vI 1), vO, vO, (vI 3), (vr 111), (.bool true), (vI 181), (vr 112), .none, (vr 113), (vr 114), (vr 115), (vI 339), (vI 55), (vS x.s.a.a.b 340)]), #[]⟩
def b556 : Obj := ⟨(vY x.t.a.c.b), none, (.func (fn (st 19) x.s.a.g.c 3 [] .none .none .none (vS x.s.a.h.h 317) none (vr 116) .none 0)), #[]⟩
def b559 : Obj := ⟨.none, none, (.func (fn (st 20) x.s.a.g.d 0 [] .none .none .none .none none .none .none 0)), #[]⟩
def b560 : Obj := ⟨(vY x.t.a.a.b), none, (.fields #[(vS x.s.a.g.d 342), (vS x.s.a.g.d 343), (vS x.s.a.a.b 344), (vI 58), (vI 1), vO, vO, (vI 3), (vr 118), (.bool true), (vI 181), (vr 119), .none, .none, .none, (vr 120), (vI 345), (vI 58), (vS x.s.a.a.b 346)]), #[]⟩
def b561 : Obj := ⟨(vY x.t.a.c.b), none, (.func (fn (st 20) x.s.a.g.d 3 [] .none .none .none (vS x.s.a.h.h 317) none (vr 121) .none 0)), #[]⟩
def b564 : Obj := ⟨.none, none, (.func (fn (st 21) x.s.a.g.e 0 [] .none .none .none .none none .none .none 0)), #[]⟩
def b565 : Obj := ⟨(vY x.t.a.a.b), none, (.fields #[(vS x.s.a.g.e 348), (vS x.s.a.g.e 349), (vS x.s.a.a.b 350), (vI 64), (vI 1), vO, vO, (vI 3), (vr 123), (.bool true), (vI 181), (vr 124), .none, .none, .none, (vr 125), (vI 351), (vI 64), (vS x.s.a.a.b 352)]), #[]⟩
def b566 : Obj := ⟨(vY x.t.a.c.b), none, (.func (fn (st 21) x.s.a.g.e 3 [] .none .none .none (vS x.s.a.h.h 317) none (vr 126) .none 0)), #[]⟩
def b569 : Obj := ⟨(vY x.t.a.a.a), none, (.seq #[(vS x.s.a.e.a 357), (vS x.s.b.a.a 358)] 0), #[]⟩
def b571 : Obj := ⟨.none, none, (.func (fn (st 22) x.s.a.g.f 0 [] .none .none .none .none none .none .none 0)), #[]⟩
def b572 : Obj := ⟨(vY x.t.a.a.b), none, (.fields #[(vS x.s.a.g.f 354), (vS x.s.a.g.f 355), (vS x.s.a.a.b 356), (vI 67), (vI 1), vO, vO, (vI 3), (vr 128), (.bool true), (vI 181), (vr 129), .none, (vr 130), (vr 131), (vr 132), (vI 359), (vI 67), (vS x.s.a.a.b 360)]), #[]⟩
def b573 : Obj := ⟨(vY x.t.a.c.b), none, (.func (fn (st 22) x.s.a.g.f 3 [] .none .none .none (vS x.s.a.h.h 317) none (vr 133) .none 0)), #[]⟩
def b576 : Obj := ⟨(vY x.t.a.a.a), none, (.seq #[(vS x.s.a.e.a 365), (vS x.s.a.e.g 366), (vS x.s.b.a.a 367), (vS x.s.b.a.b 368)] 0), #[]⟩
def b578 : Obj := ⟨.none, none, (.func (fn (st 23) x.s.a.g.g 0 [] .none .none .none .none none .none .none 0)), #[]⟩
def b579 : Obj := ⟨(vY x.t.a.a.b), none, (.fields #[(vS x.s.a.g.g 362), (vS x.s.a.g.g 363), (vS x.s.a.a.b 364), (vI 70), (vI 2), vO, vO, (vI 3), (vr 135), (.bool true), (vI 181), (vr 136), .none, (vr 137), (vr 138), (vr 139), (vI 369), (vI 70), (vS x.s.a.a.b 370)]), #[]⟩
def b580 : Obj := ⟨(vY x.t.a.c.b), none, (.func (fn (st 23) x.s.a.g.g 3 [] .none .none .none (vS x.s.a.h.h 317) none (vr 140) .none 0)), #[]⟩
def b583 : Obj := ⟨(vY x.t.a.a.a), none, (.seq #[(vS x.s.b.a.c 375), (vS x.s.b.a.d 376), (vS x.s.b.a.e 377), (vS x.s.b.a.f 378), (vS x.s.a.h.g 379), (vS x.s.a.e.a 380), (vS x.s.a.e.c 381)] 0), #[]⟩
def b585 : Obj := ⟨.none, none, (.func (fn (st 24) x.s.a.g.h 0 [] .none .none .none .none none .none .none 0)), #[]⟩
def b586 : Obj := ⟨(vY x.t.a.a.b), none, (.fields #[(vS x.s.a.g.h 372), (vS x.s.a.g.h 373), (vS x.s.a.a.b 374), (vI 76), (vI 2), vO, vO, (vI 3), (vr 142), (.bool true), (vI 181), (vr 143), .none, (vr 144), (vr 145), (vr 146), (vI 382), (vI 76), (vS x.s.a.a.b 383)]), #[]⟩
def b587 : Obj := ⟨(vY x.t.a.c.b), none, (.func (fn (st 24) x.s.a.g.h 3 [] .none .none .none (vS x.s.a.h.h 317) none (vr 147) .none 0)), #[]⟩
def b590 : Obj := ⟨(vY x.t.a.a.a), none, (.seq #[(vS x.s.b.a.c 388), (vS x.s.b.a.f 389), (vS x.s.a.h.f 390)] 0), #[]⟩
def b592 : Obj := ⟨.none, none, (.func (fn (st 25) x.s.a.h.a 0 [] .none .none .none .none none .none .none 0)), #[]⟩
def b593 : Obj := ⟨(vY x.t.a.a.b), none, (.fields #[(vS x.s.a.h.a 385), (vS x.s.a.h.a 386), (vS x.s.a.a.b 387), (vI 87), (vI 1), vO, vO, (vI 3), (vr 149), (.bool true), (vI 181), (vr 150), .none, (vr 151), (vr 152), (vr 153), (vI 391), (vI 87), (vS x.s.a.a.b 392)]), #[]⟩
def b594 : Obj := ⟨(vY x.t.a.c.b), none, (.func (fn (st 25) x.s.a.h.a 3 [] .none .none .none (vS x.s.a.h.h 317) none (vr 154) .none 0)), #[]⟩
def b597 : Obj := ⟨(vY x.t.a.a.a), none, (.seq #[(vS x.s.b.a.g 399), (vS x.s.b.a.h 400), (vS x.s.b.b.a 401), (vS x.s.b.b.b 402), (vS x.s.b.b.c 403), (vS x.s.b.b.d 404)] 0), #[]⟩
def b599 : Obj := ⟨.none, none, (.func (fn (st 27) x.s.a.h.b 0 [] .none .none .none .none none .none .none 0)), #[]⟩
def b600 : Obj := ⟨(vY x.t.a.a.b), none, (.fields #[(vS x.s.a.h.b 396), (vS x.s.a.h.b 397), (vS x.s.a.a.b 398), (vI 96), (vI 2), vO, vO, (vI 3), (vr 156), (.bool true), (vI 181), (vr 157), .none, (vr 158), (vr 159), (vr 160), (vI 405), (vI 96), (vS x.s.a.a.b 406)]), #[]⟩
def b601 : Obj := ⟨(vY x.t.a.c.b), none, (.func (fn (st 27) x.s.a.h.b 3 [] .none .none .none (vS x.s.a.f.c 394) none (vr 161) .none 0)), #[]⟩
def b602 : Obj := ⟨(vY x.t.a.a.d), none, (.dict #[i37, i1, i2, i3, i4, i5, i6, i7, i8, i9, i16, i24, i25, i26, i27, i28, i29, i30, i38, i39, i40, i41, i42, i43, i44, i45, i46, i47, i48, i49, i50, i51, i52, i53, i54, i55, i56, i57, i58] 39), #[]⟩
def b603 : Obj := ⟨.none, none, (.fields #[(vI 2), vO, (vr 20), (vI 4), vO, (vr 33), (vI 9), vO, (vr 52), (vI 15), vO, (vr 71), (vI 17), vO, (vr 78), (vI 23), vO, (vr 85), (vI 28), vO, (vr 92), (vI 38), vO, (vr 99), (vI 50), vO, (vr 104), (vI 53), vO, (vr 109), (vI 55), vO, (vr 116), (vI 58), vO, (vr 121), (vI 64), vO, (vr 126), (vI 67), vO, (vr 133), (vI 70), vO, (vr 140), (vI 76), vO, (vr 147), (vI 87), vO, (vr 154), (vI 96), vO, (vr 161), (vI 110), vO, (vr 168), (vI 114), vO, (vr 175), (vI 134), vO, (vr 182), (vI 138), vO, (vr 189), (vI 143), vO, (vr 196), (vI 160), vO, (vr 203), (vI 167), vO, (vr 208)]), #[]⟩
def b606 : Obj := ⟨(vY x.t.a.a.a), none, (.seq #[(vS x.s.b.b.d 411), (vS x.s.b.c.d 412)] 0), #[]⟩
def b608 : Obj := ⟨.none, none, (.func (fn (st 28) x.s.b.b.e 0 [] .none .none .none .none none .none .none 0)), #[]⟩
def b609 : Obj := ⟨(vY x.t.a.a.b), none, (.fields #[(vS x.s.b.b.e 408), (vS x.s.b.b.e 409), (vS x.s.a.a.b 410), (vI 110), (vI 1), vO, vO, (vI 3), (vr 163), (.bool true), (vI 181), (vr 164), .none, (vr 165), (vr 166), (vr 167), (vI 413), (vI 110), (vS x.s.a.a.b 414)]), #[]⟩
def b610 : Obj := ⟨(vY x.t.a.c.b), none, (.func (fn (st 28) x.s.b.b.e 3 [] .none .none .none (vS x.s.a.f.c 394) none (vr 168) .none 0)), #[]⟩
def b613 : Obj := ⟨(vY x.t.a.a.a), none, (.seq #[(vS x.s.b.a.g 419), (vS x.s.b.c.e 420), (vS x.s.b.c.f 421), (vS x.s.b.c.g 422), (vS x.s.b.c.h 423), (vS x.s.b.d.a 424), (vS x.s.b.d.b 425), (vS x.s.b.d.c 426), (vS x.s.b.a.h 427), (vS x.s.b.d.d 428), (vS x.s.b.b.d 429), (vS x.s.b.d.e 430), (vS x.s.b.d.f 431), (vS x.s.b.b.a 432), (vS x.s.b.d.g 433), (vS x.s.b.d.h 434)] 0), #[]⟩
def b615 : Obj := ⟨.none, none, (.func (fn (st 29) x.s.b.b.f 0 [] .none .none .none .none none .none .none 0)), #[]⟩
def b616 : Obj := ⟨(vY x.t.a.a.b), none, (.fields #[(vS x.s.b.b.f 416), (vS x.s.b.b.f 417), (vS x.s.a.a.b 418), (vI 114), (vI 4), vO, vO, (vI 3), (vr 170), (.bool true), (vI 181), (vr 171), .none, (vr 172), (vr 173), (vr 174), (vI 435), (vI 114), (vS x.s.a.a.b 436)]), #[]⟩
def b617 : Obj := ⟨(vY x.t.a.c.b), none, (.func (fn (st 29) x.s.b.b.f 3 [] .none .none .none (vS x.s.a.f.c 394) none (vr 175) .none 0)), #[]⟩
def b620 : Obj := ⟨(vY x.t.a.a.a), none, (.seq #[(vS x.s.b.a.g 441), (vS x.s.b.c.e 442)] 0), #[]⟩
def b622 : Obj := ⟨.none, none, (.func (fn (st 30) x.s.b.b.g 0 [] .none .none .none .none none .none .none 0)), #[]⟩
def b623 : Obj := ⟨(vY x.t.a.a.b), none, (.fields #[(vS x.s.b.b.g 438), (vS x.s.b.b.g 439), (vS x.s.a.a.b 440), (vI 134), (vI 2), vO, vO, (vI 3), (vr 177), (.bool true), (vI 181), (vr 178), .none, (vr 179), (vr 180), (vr 181), (vI 443), (vI 134), (vS x.s.a.a.b 444)]), #[]⟩
def b624 : Obj := ⟨(vY x.t.a.c.b), none, (.func (fn (st 30) x.s.b.b.g 3 [] .none .none .none (vS x.s.a.f.c 394) none (vr 182) .none 0)), #[]⟩
def b627 : Obj := ⟨(vY x.t.a.a.a), none, (.seq #[(vS x.s.b.e.a 449), (vS x.s.b.e.b 450), (vS x.s.b.d.g 451), (vS x.s.b.d.h 452), (vS x.s.b.e.c 453)] 0), #[]⟩
def b629 : Obj := ⟨.none, none, (.func (fn (st 31) x.s.b.b.h 0 [] .none .none .none .none none .none .none 0)), #[]⟩
def b630 : Obj := ⟨(vY x.t.a.a.b), none, (.fields #[(vS x.s.b.b.h 446), (vS x.s.b.b.h 447), (vS x.s.a.a.b 448), (vI 138), (vI 1), vO, vO, (vI 3), (vr 184), (.bool true), (vI 181), (vr 185), .none, (vr 186), (vr 187), (vr 188), (vI 454), (vI 138), (vS x.s.a.a.b 455)]), #[]⟩
def b631 : Obj := ⟨(vY x.t.a.c.b), none, (.func (fn (st 31) x.s.b.b.h 3 [] .none .none .none (vS x.s.a.f.c 394) none (vr 189) .none 0)), #[]⟩
def b634 : Obj := ⟨(vY x.t.a.a.a), none, (.seq #[(vS x.s.b.e.d 460), (vS x.s.b.e.e 461), (vS x.s.b.e.f 462), (vS x.s.b.d.e 463)] 0), #[]⟩
def b636 : Obj := ⟨.none, none, (.func (fn (st 32) x.s.b.c.a 0 [] .none .none .none .none none .none .none 0)), #[]⟩
def b637 : Obj := ⟨(vY x.t.a.a.b), none, (.fields #[(vS x.s.b.c.a 457), (vS x.s.b.c.a 458), (vS x.s.a.a.b 459), (vI 143), (vI 2), vO, vO, (vI 3), (vr 191), (.bool true), (vI 181), (vr 192), .none, (vr 193), (vr 194), (vr 195), (vI 464), (vI 143), (vS x.s.a.a.b 465)]), #[]⟩
def b638 : Obj := ⟨(vY x.t.a.c.b), none, (.func (fn (st 32) x.s.b.c.a 3 [] .none .none .none (vS x.s.a.f.c 394) none (vr 196) .none 0)), #[]⟩
def b641 : Obj := ⟨(vY x.t.a.a.a), none, (.seq #[(vS x.s.b.e.a 470), (vS x.s.b.e.g 471), (vS x.s.b.e.h 472)] 0), #[]⟩
def b643 : Obj := ⟨.none, none, (.func (fn (st 33) x.s.b.c.b 0 [] .none .none .none .none none .none .none 0)), #[]⟩
def b644 : Obj := ⟨(vY x.t.a.a.b), none, (.fields #[(vS x.s.b.c.b 467), (vS x.s.b.c.b 468), (vS x.s.a.a.b 469), (vI 160), (vI 1), vO, vO, (vI 3), (vr 198), (.bool true), (vI 181), (vr 199), .none, (vr 200), (vr 201), (vr 202), (vI 473), (vI 160), (vS x.s.a.a.b 474)]), #[]⟩
def b645 : Obj := ⟨(vY x.t.a.c.b), none, (.func (fn (st 33) x.s.b.c.b 3 [] .none .none .none (vS x.s.a.f.c 394) none (vr 203) .none 0)), #[]⟩
def b648 : Obj := ⟨.none, none, (.func (fn (st 34) x.s.b.c.c 0 [] .none .none .none .none none .none .none 0)), #[]⟩
def b649 : Obj := ⟨(vY x.t.a.a.b), none, (.fields #[(vS x.s.b.c.c 476), (vS x.s.b.c.c 477), (vS x.s.a.a.b 478), (vI 167), (vI 1), vO, vO, (vI 3), (vr 205), (.bool true), (vI 181), (vr 206), .none, .none, .none, (vr 207), (vI 479), (vI 167), (vS x.s.a.a.b 480)]), #[]⟩
def b650 : Obj := ⟨(vY x.t.a.c.b), none, (.func (fn (st 34) x.s.b.c.c 3 [] .none .none .none (vS x.s.a.f.c 394) none (vr 208) .none 0)), #[]⟩
def m441 : Heap := ⟨⟨[x.r.a.a.a, x.r.a.a.b, x.r.a.a.c, x.r.a.a.d, x.r.a.a.e, x.r.a.a.f, x.r.a.a.g, x.r.a.a.h, x.r.a.b.a, x.r.a.b.b, x.r.a.b.c, zaE, zbp, znX, znW]⟩, ⟨[], [], [], 0, [], [], false, #[], [], 0, false, false, false, 0, [2000, 10, 10], false, 0, true, [], [], 0, false⟩⟩
def m442 : W.BT := (N x.r.a.a.a (N x.r.a.a.b (N x.r.a.a.d (L x.r.a.a.h) (L zaE)) (N x.r.a.a.f (L x.r.a.b.b) (L znX))) (N x.r.a.a.c (N x.r.a.a.e (L x.r.a.b.a) (L zbp)) (N x.r.a.a.g (L x.r.a.b.c) (L znW))))
def m458 : W.BT := (N x.r.a.a.a (N x.r.a.a.b (N b444 (N x.r.a.a.h (L zpm) (L zpn)) (N zaE (L zbp) (L zpo))) (N x.r.a.a.f (N x.r.a.b.b (L zpl) (L zpe)) (N znX (L zpp) z))) (N x.r.a.a.c (N x.r.a.a.e (N x.r.a.b.a (L zi8) (L b455)) (N b445 (L zpd) z)) (N x.r.a.a.g (N x.r.a.b.c (L zaE) (L zpg)) (N znW (L zaE) z))))
def m480 : W.BT := (N x.r.a.a.a (N x.r.a.a.b (N b459 (N x.r.a.a.h (N zpm (L zaE) z) (N zpn (L zpC) z)) (N zaE (N zbp (L zaE) z) (N zpo (L zpJ) z))) (N x.r.a.a.f (N x.r.a.b.b (N zpl (L zpI) z) (N zpe (L zqh) z)) (N znX (N zpp (L zpH) z) (N zi8 (L zpW) z)))) (N x.r.a.a.c (N x.r.a.a.e (N x.r.a.b.a (N zi8 (L zpy) z) (N b461 (L zpx) z)) (N b460 (N zpd (L zbp) z) (N zne (L zpV) z))) (N x.r.a.a.g (N x.r.a.b.c (N zaE (L zpK) z) (N zpg (L zp0) z)) (N znW (N zaE (L zaE) z) (N zpq (L zqc) z)))))
def m523 : W.BT := (N x.r.a.a.a (N x.r.a.a.b (N b481 (N x.r.a.a.h (N zpm (N zaE (L b500) z) (N zne (L b516) z)) (N zpn (N zpC (L b508) z) (L zbp))) (N zaE (N zbp (N zaE (L zbp) z) (N b488 (L zaE) z)) (N zpo (N zpJ (L b512) z) (L b496)))) (N x.r.a.a.f (N x.r.a.b.b (N zpl (N zpI (L b502) z) (N b486 (L zbp) z)) (N zpe (N zqh (L zaE) z) (L zaE))) (N znX (N zpp (N zpH (L zaE) z) (N b490 (L b522) z)) (N zi8 (N zpW (L b514) z) (L b498))))) (N x.r.a.a.c (N x.r.a.a.e (N x.r.a.b.a (N zi8 (N zpy (L b501) z) (N zi8 (L zaE) z)) (N b483 (N zpx (L b509) z) (L b493))) (N b482 (N zpd (N zbp (L b505) z) (N b489 (L b521) z)) (N zne (N zpV (L zaE) z) (L b497)))) (N x.r.a.a.g (N x.r.a.b.c (N zaE (N zpK (L zaE) z) (N zaE (L b519) z)) (N zpg (N zp0 (L zbp) z) (L b495))) (N znW (N zaE (N zaE (L b507) z) (N zaE (L b523) z)) (N zpq (N zqc (L b515) z) (L b499))))))
def m601 : W.BT := (N x.r.a.a.a (N x.r.a.a.b (N b524 (N x.r.a.a.h (N zpm (N zaE (N b500 (L b566) z) (N zbp (L zaE) z)) (N zne (N b516 (L zbp) z) (L zaE))) (N zpn (N zpC (N b508 (L zaE) z) (L b542)) (N zbp (N zaE (L b590) z) (L zbp)))) (N zaE (N zbp (N zaE (N zbp (L zaE) z) (L b538)) (N b488 (N zaE (L b586) z) (L b554))) (N zpo (N zpJ (N b512 (L b578) z) (L zbp)) (N b496 (N b530 (L b594) z) (L zaE))))) (N x.r.a.a.f (N x.r.a.b.b (N zpl (N zpI (N b502 (L zbp) z) (N zaE (L b600) z)) (N b486 (N zbp (L zaE) z) (L b552))) (N zpe (N zqh (N zaE (L b576) z) (L b544)) (N zaE (N b528 (L b592) z) (L b560)))) (N znX (N zpp (N zpH (N zaE (L b572) z) (L zaE)) (N b490 (N b522 (L zaE) z) (L b556))) (N zi8 (N zpW (N b514 (L b580) z) (L b548)) (N b498 (N b532 (L zbp) z) (L b564)))))) (N x.r.a.a.c (N x.r.a.a.e (N x.r.a.b.a (N zi8 (N zpy (N b501 (L zaE) z) (N b535 (L b599) z)) (N zi8 (N zaE (L b583) z) (L zbp))) (N b483 (N zpx (N b509 (L zbp) z) (L b543)) (N b493 (N zbp (L zaE) z) (L b559)))) (N b525 (N zpd (N zbp (N b505 (L b571) z) (L b539)) (N b489 (N b521 (L b587) z) (L b555))) (N zne (N zpV (N zaE (L b579) z) (L b547)) (N b497 (N b531 (L zaE) z) (L zbp))))) (N x.r.a.a.g (N x.r.a.b.c (N zaE (N zpK (N zaE (L b569) z) (N b537 (L b601) z)) (N zaE (N b519 (L b585) z) (L zaE))) (N zpg (N zp0 (N zbp (L zaE) z) (L zaE)) (N b495 (N zaE (L b593) z) (L b561)))) (N znW (N zaE (N zaE (N b507 (L b573) z) (L zbp)) (N zaE (N b523 (L zbp) z) (L zaE))) (N zpq (N zqc (N b515 (L zaE) z) (L b549)) (N b499 (N zaE (L b597) z) (L b565)))))))
def m650 : W.BT := (N x.r.a.a.a (N x.r.a.a.b (N b602 (N x.r.a.a.h (N zpm (N zaE (N b500 (L b566) (L zaE)) (N zbp (L zaE) z)) (N zne (N b516 (L zbp) (L b648)) (N zaE (L b616) z))) (N zpn (N zpC (N b508 (L zaE) (L zbp)) (N b542 (L b608) z)) (N zbp (N zaE (L b590) z) (N zbp (L b624) z)))) (N zaE (N zbp (N zaE (N zbp (L zaE) (L b636)) (N b538 (L zaE) z)) (N b488 (N zaE (L b586) z) (N b554 (L b620) z))) (N zpo (N zpJ (N b512 (L b578) (L b644)) (N zbp (L zbp) z)) (N b496 (N b530 (L b594) z) (N zaE (L zaE) z))))) (N x.r.a.a.f (N x.r.a.b.b (N zpl (N zpI (N b502 (L zbp) (L b634)) (N zaE (L b600) z)) (N b486 (N zbp (L zaE) (L b650)) (N b552 (L zaE) z))) (N zpe (N zqh (N zaE (L b576) (L zaE)) (N b544 (L b610) z)) (N zaE (N b528 (L b592) z) (N b560 (L zbp) z)))) (N znX (N zpp (N zpH (N zaE (L b572) (L b638)) (N zaE (L b606) z)) (N b490 (N b522 (L zaE) z) (N b556 (L b622) z))) (N zi8 (N zpW (N b514 (L b580) (L zaE)) (N b548 (L zaE) z)) (N b498 (N b532 (L zbp) z) (N b564 (L b630) z)))))) (N x.r.a.a.c (N x.r.a.a.e (N x.r.a.b.a (N zi8 (N zpy (N b501 (L zaE) (L zbp)) (N b535 (L b599) z)) (N zi8 (N zaE (L b583) (L b649)) (N zbp (L b617) z))) (N b483 (N zpx (N b509 (L zbp) (L b641)) (N b543 (L b609) z)) (N b493 (N zbp (L zaE) z) (N b559 (L zaE) z)))) (N b603 (N zpd (N zbp (N b505 (L b571) (L b637)) (N b539 (L zbp) z)) (N b489 (N b521 (L b587) z) (N b555 (L zaE) z))) (N zne (N zpV (N zaE (L b579) (L b645)) (N b547 (L b613) z)) (N b497 (N b531 (L zaE) z) (N zbp (L b629) z))))) (N x.r.a.a.g (N x.r.a.b.c (N zaE (N zpK (N zaE (L b569) (L zaE)) (N b537 (L b601) z)) (N zaE (N b519 (L b585) z) (N zaE (L zbp) z))) (N zpg (N zp0 (N zbp (L zaE) (L b643)) (N zaE (L zaE) z)) (N b495 (N zaE (L b593) z) (N b561 (L b627) z)))) (N znW (N zaE (N zaE (N b507 (L b573) (L zaE)) (N zbp (L zaE) z)) (N zaE (N b523 (L zbp) z) (N zaE (L b623) z))) (N zpq (N zqc (N b515 (L zaE) (L zbp)) (N b549 (L b615) z)) (N b499 (N zaE (L b597) z) (N b565 (L b631) z)))))))
def m651 : Heap := ⟨⟨[x.r.a.a.a, x.r.a.a.b, x.r.a.a.c, b602, x.r.a.a.e, x.r.a.a.f, x.r.a.a.g, x.r.a.a.h, x.r.a.b.a, x.r.a.b.b, x.r.a.b.c, zaE, b603, znX, znW, zpm, zi8, zpl, zaE, zbp, zpd, zpp, zaE, zpn, b483, zpe, zpg, zpo, zne, zi8, zpq, zaE, zpy, zpI, zpK, zaE, zbp, zpH, zaE, zpC, zpx, zqh, zp0, zpJ, zpV, zpW, zqc, zne, zi8, b486, zaE, b488, b489, b490, zaE, zbp, b493, zaE, b495, b496, b497, b498, b499, b500, b501, b502, zaE, zbp, b505, zaE, b507, b508, b509, zaE, zbp, b512, zaE, b514, b515, b516, zaE, zbp, b519, zaE, b521, b522, b523, zaE, zbp, b528, zaE, b530, b531, b532, zaE, zbp, b535, zaE, b537, b538, b539, zaE, zbp, b542, b543, b544, zaE, zbp, b547, b548, b549, zaE, zbp, b552, zaE, b554, b555, b556, zaE, zbp, b559, b560, b561, zaE, zbp, b564, b565, b566, zaE, zbp, b569, zaE, b571, b572, b573, zaE, zbp, b576, zaE, b578, b579, b580, zaE, zbp, b583, zaE, b585, b586, b587, zaE, zbp, b590, zaE, b592, b593, b594, zaE, zbp, b597, zaE, b599, b600, b601, zaE, zbp, b606, zaE, b608, b609, b610, zaE, zbp, b613, zaE, b615, b616, b617, zaE, zbp, b620, zaE, b622, b623, b624, zaE, zbp, b627, zaE, b629, b630, b631, zaE, zbp, b634, zaE, b636, b637, b638, zaE, zbp, b641, zaE, b643, b644, b645, zaE, zbp, b648, b649, b650]⟩, ⟨[], [], [], 0, [], [], false, #[], [], 0, false, false, false, 0, [2000, 10, 10], false, 0, true, [], [], 0, false⟩⟩
end
def m434v (p : Program) : Program := { p with main := { p.main with body := [sp p 1, sp p 2, sp p 3, sp p 5, sp p 6, sp p 8, sp p 9, sp p 10, sp p 11, sp p 12, sp p 13, sp p 15, sp p 16, sp p 17, sp p 18, sp p 19, sp p 20, sp p 21, sp p 22, sp p 23, sp p 24, sp p 25, sp p 27, sp p 28, sp p 29, sp p 30, sp p 31, sp p 32, sp p 33, sp p 34] } }
def m444s (p : Program) : List Stmt := [sp p 0, sp p 1]
def m459s (p : Program) : List Stmt := [sp p 2]
def m481s (p : Program) : List Stmt := [sp p 3, sp p 4, sp p 5, sp p 6, sp p 7, sp p 8, sp p 9, sp p 10, sp p 11]
def m524s (p : Program) : List Stmt := [sp p 12, sp p 13, sp p 14, sp p 15, sp p 16, sp p 17, sp p 18, sp p 19, sp p 20, sp p 21, sp p 22, sp p 23, sp p 24, sp p 25, sp p 26, sp p 27]
def m602s (p : Program) : List Stmt := [sp p 28, sp p 29, sp p 30, sp p 31, sp p 32, sp p 33, sp p 34]
def u0 : Q Str := ⟨Str.ofString "<module>", Str.ofString "/claim/cut.py", Str.ofString "__main__", Str.ofString "__name__", Str.ofString "hideworth.errors", Str.ofString "__doc__", Str.ofString "__package__", Str.ofString "__loader__"⟩
def u1 : Q Str := ⟨Str.ofString "__spec__", Str.ofString "__annotations__", Str.ofString "__builtins__", Str.ofString "__file__", Str.ofString "__cached__", Str.ofString "HideError", Str.ofString "__module__", Str.ofString "__qualname__"⟩
def u2 : Q Str := ⟨Str.ofString "__firstlineno__", Str.ofString "__static_attributes__", Str.ofString "__weakref__", Str.ofString "NoWeb", Str.ofString "__init__", Str.ofString "self", Str.ofString "road", Str.ofString "NoWeb.__init__"⟩
def u3 : Q Str := ⟨Str.ofString "hideworth.webs", Str.ofString "NoText", Str.ofString "is_whole", Str.ofString "is_within", Str.ofString "MOST_PLACES", Str.ofString "MOST_ROADS", Str.ofString "MOST_LENGTH", Str.ofString "is_road"⟩
def u4 : Q Str := ⟨Str.ofString "row", Str.ofString "NoText.__init__", Str.ofString "thing", Str.ofString "hideworth.checks", Str.ofString "least", Str.ofString "most", Str.ofString "many", Str.ofString "a"⟩
def u5 : Q Str := ⟨Str.ofString "b", Str.ofString "length", Str.ofString "law_hideworth_k80_webs_written", Str.ofString "places_come_to", Str.ofString "look_web", Str.ofString "FIGURES", Str.ofString "0123456789", Str.ofString "MOST_FIGURES"⟩
def u6 : Q Str := ⟨Str.ofString "web_rows", Str.ofString "text_of", Str.ofString "web_text", Str.ofString "number_in", Str.ofString "numbers_in", Str.ofString "many_in", Str.ofString "road_in", Str.ofString "read_rows"⟩
def u7 : Q Str := ⟨Str.ofString "read_web", Str.ofString "_law_mixed", Str.ofString "roads", Str.ofString "come", Str.ofString "before", Str.ofString "web", Str.ofString "k", Str.ofString "hideworth.texts"⟩
def u8 : Q Str := ⟨Str.ofString "words", Str.ofString "numbers", Str.ofString "text", Str.ofString "read_row", Str.ofString "rows", Str.ofString "read", Str.ofString "_law_script", Str.ofString "_law_k"⟩
def u9 : Q Str := ⟨Str.ofString "_law_at", Str.ofString "_law_cell", Str.ofString "_law_j", Str.ofString "_law_number", Str.ofString "_law_length", Str.ofString "_law_web", Str.ofString "_law_any_web", Str.ofString "_law_text"⟩
def u10 : Q Str := ⟨Str.ofString "_law_same", Str.ofString "_law_not_read", Str.ofString "law", Str.ofString "_law_way", Str.ofString "_law_start", Str.ofString "_law_most", Str.ofString "_law_extra", Str.ofString "_law_many"⟩
def u11 : Q Str := ⟨Str.ofString "_law_shape", Str.ofString "_law_labels", Str.ofString "_law_left", Str.ofString "_law_roads", Str.ofString "_law_other", Str.ofString "_law_ends", Str.ofString "_law_a", Str.ofString "_law_b"⟩
def u12 : Q Str := ⟨Str.ofString "_law_web_here", Str.ofString "_law_text_here", Str.ofString "_law_length_here", Str.ofString "_law_told", Str.ofString "_law_due", Str.ofString "_law_one", Str.ofString "_law_caught", Str.ofString "e"⟩
def v0 : Q String := ⟨"tuple", "code", "frame", "dict", "__main__.__loader__#opaque", "ValueError", "builtin_function_or_method", "type.__prepare__"⟩
def v1 : Q String := ⟨"type", "Exception", "BaseException", "object", "ValueError.__new__", "getset_descriptor", "ExceptionGroup.__weakref__", "super"⟩
def v2 : Q String := ⟨"object.__init_subclass__", "function", "function", "function", "function", "function", "function", "function"⟩
def w0 (P : Params) : Q Obj := ⟨W.boot_o_0 P, W.boot_o_1 P, W.boot_o_2 P, W.boot_o_3 P, W.boot_o_4 P, W.boot_o_5 P, W.boot_o_6 P, W.boot_o_7 P⟩
def w1 (P : Params) : Q Obj := ⟨W.boot_o_8 P, W.boot_o_9 P, W.boot_o_10 P, W.boot_o_10 P, W.boot_o_10 P, W.boot_o_10 P, W.boot_o_10 P, W.boot_o_10 P⟩
lay_quick u0 u1 u2 u3 u4 u5 u6 u7 u8 u9 u10 u11 u12 v0 v1 v2 w0 w1 PySem.Challenge.pw_hideworth_k80_webs_written
def K (a' b' c' d' e' f' g' h' i' j' k' l' m' : Q Str) (n' o' p' : Q String) (q' r' : Params → Q Obj) (s' : Program) (P : Params) : X := ⟨⟨⟨a',b',c',d',e',f',g',h'⟩,⟨i',j',k',l',m',m',m',m'⟩,⟨i',j',k',l',m',m',m',m'⟩,⟨i',j',k',l',m',m',m',m'⟩,⟨i',j',k',l',m',m',m',m'⟩,⟨i',j',k',l',m',m',m',m'⟩,⟨i',j',k',l',m',m',m',m'⟩,⟨i',j',k',l',m',m',m',m'⟩⟩,⟨⟨n',o',p',p',p',p',p',p'⟩,⟨n',o',p',p',p',p',p',p'⟩,⟨n',o',p',p',p',p',p',p'⟩,⟨n',o',p',p',p',p',p',p'⟩,⟨n',o',p',p',p',p',p',p'⟩,⟨n',o',p',p',p',p',p',p'⟩,⟨n',o',p',p',p',p',p',p'⟩,⟨n',o',p',p',p',p',p',p'⟩⟩,⟨⟨q' P,r' P,r' P,r' P,r' P,r' P,r' P,r' P⟩,⟨q' P,r' P,r' P,r' P,r' P,r' P,r' P,r' P⟩,⟨q' P,r' P,r' P,r' P,r' P,r' P,r' P,r' P⟩,⟨q' P,r' P,r' P,r' P,r' P,r' P,r' P,r' P⟩,⟨q' P,r' P,r' P,r' P,r' P,r' P,r' P,r' P⟩,⟨q' P,r' P,r' P,r' P,r' P,r' P,r' P,r' P⟩,⟨q' P,r' P,r' P,r' P,r' P,r' P,r' P,r' P⟩,⟨q' P,r' P,r' P,r' P,r' P,r' P,r' P,r' P⟩⟩,s',P⟩
def k0 := K u0 u1 u2 u3 u4 u5 u6 u7 u8 u9 u10 u11 u12 v0 v1 v2 w0 w1 PySem.Challenge.pw_hideworth_k80_webs_written
def k1 := K tw13894225608423057668 tw17531079430653816501 tw13809737476558091540 tw2367299412457286945 tw1912701158020654693 tw2188347355606102534 tw16368670287772101220 tw14842115654739255404 tw4717311838995323452 tw594758545415977400 tw10895325593200808953 tw10037743213843438893 tw10009084784789568687 tw15633551313878501473 tw10735261366311057212 tw13734974896645664886 tw1278260381020688717 tw13492767390215788210 tw4970894948723294390
theorem ke : k0 = k1 := by
  unfold k0 k1
  rw [te13894225608423057668, te17531079430653816501, te13809737476558091540, te2367299412457286945, te1912701158020654693, te2188347355606102534, te16368670287772101220, te14842115654739255404, te4717311838995323452, te594758545415977400, te10895325593200808953, te10037743213843438893, te10009084784789568687, te15633551313878501473, te10735261366311057212, te13734974896645664886, te1278260381020688717, te13492767390215788210, te4970894948723294390]
theorem kE {β : Type _} (f : X → β) : (fun P => f (k0 P)) = fun P => f (k1 P) := congrArg (fun y P => f (y P)) ke
end Hd
namespace PySem.W.Fast
def tw12625252565201714481 : Program := Hd.m434v tw4970894948723294390
theorem te12625252565201714481 : Hd.m434v PySem.Challenge.pw_hideworth_k80_webs_written = tw12625252565201714481 := congrArg Hd.m434v te4970894948723294390
def tw15732910932231320297 (P : Params) : Heap := @Hd.m441 (Hd.k1 P)
theorem te15732910932231320297 : (fun P => @Hd.m441 (Hd.k0 P)) = tw15732910932231320297 := Hd.kE @Hd.m441
def tw4764851138674129469 (P : Params) : BT := @Hd.m442 (Hd.k1 P)
theorem te4764851138674129469 : (fun P => @Hd.m442 (Hd.k0 P)) = tw4764851138674129469 := Hd.kE @Hd.m442
def tw1769822158942327813 : List Stmt := Hd.m444s tw4970894948723294390
theorem te1769822158942327813 : Hd.m444s PySem.Challenge.pw_hideworth_k80_webs_written = tw1769822158942327813 := congrArg Hd.m444s te4970894948723294390
def tw11856619682987024507 (P : Params) : BT := @Hd.m458 (Hd.k1 P)
theorem te11856619682987024507 : (fun P => @Hd.m458 (Hd.k0 P)) = tw11856619682987024507 := Hd.kE @Hd.m458
def tw4510538798669258180 : List Stmt := Hd.m459s tw4970894948723294390
theorem te4510538798669258180 : Hd.m459s PySem.Challenge.pw_hideworth_k80_webs_written = tw4510538798669258180 := congrArg Hd.m459s te4970894948723294390
def tw8295151747949045596 (P : Params) : BT := @Hd.m480 (Hd.k1 P)
theorem te8295151747949045596 : (fun P => @Hd.m480 (Hd.k0 P)) = tw8295151747949045596 := Hd.kE @Hd.m480
def tw14397734723273130783 : List Stmt := Hd.m481s tw4970894948723294390
theorem te14397734723273130783 : Hd.m481s PySem.Challenge.pw_hideworth_k80_webs_written = tw14397734723273130783 := congrArg Hd.m481s te4970894948723294390
def tw6164992727862929158 (P : Params) : BT := @Hd.m523 (Hd.k1 P)
theorem te6164992727862929158 : (fun P => @Hd.m523 (Hd.k0 P)) = tw6164992727862929158 := Hd.kE @Hd.m523
def tw9217115145656147895 : List Stmt := Hd.m524s tw4970894948723294390
theorem te9217115145656147895 : Hd.m524s PySem.Challenge.pw_hideworth_k80_webs_written = tw9217115145656147895 := congrArg Hd.m524s te4970894948723294390
def tw1187781234463721000 (P : Params) : BT := @Hd.m601 (Hd.k1 P)
theorem te1187781234463721000 : (fun P => @Hd.m601 (Hd.k0 P)) = tw1187781234463721000 := Hd.kE @Hd.m601
def tw1618409722125472674 : List Stmt := Hd.m602s tw4970894948723294390
theorem te1618409722125472674 : Hd.m602s PySem.Challenge.pw_hideworth_k80_webs_written = tw1618409722125472674 := congrArg Hd.m602s te4970894948723294390
def tw4231660654290571955 (P : Params) : BT := @Hd.m650 (Hd.k1 P)
theorem te4231660654290571955 : (fun P => @Hd.m650 (Hd.k0 P)) = tw4231660654290571955 := Hd.kE @Hd.m650
def tw7014656678860220315 (P : Params) : Heap := @Hd.m651 (Hd.k1 P)
theorem te7014656678860220315 : (fun P => @Hd.m651 (Hd.k0 P)) = tw7014656678860220315 := Hd.kE @Hd.m651
end PySem.W.Fast
end
open PySem PySem.W PyProof.Rows PySem.W.X PySem.W.ZRun
set_option maxRecDepth 100000 in
set_option maxHeartbeats 0 in
theorem PySem.Challenge.cw_hideworth_k80_webs_written_holds : PySem.Challenge.rw_hideworth_k80_webs_written.Holds := by
 w_on;o_law;z_head;(case hw=>w_witness2)
 k_fill
 intro w s0 s1 m0 m1 G Y fa o pm cd doc dV kV ho hd hc hD hm hg xs vs as L h1 h2 h3 h4 h5
 z_open Y L KX ZH ZN ZT
 refine My.walk_at (l:=PySem.Challenge.rw_hideworth_k80_webs_written) KX (fun W=>W w s0 s1 m0 m1 G KX fa o pm cd doc dV kV ho hd hc hD hm hg xs vs as h1 h2 h3 h4 h5) (My.walk (l:=PySem.Challenge.rw_hideworth_k80_webs_written) rfl rfl (fun _ _ h=>h) ?hPt ?hC ?F)
 case hPt =>
  intro w
  k_is
 case hC =>
  intro w h KX
  refine' L2.zo7 KX ?lc (by decide)
  (case lc=>k_is)
 case F =>
  intro w mg fa h KX G hmg
  refine' My.zp6 hmg (My.zp2 ?hP (L2.zbE ?l0 ?c0 ?k0) (mg_of KX G ?a0) (L2.zbE ?l1 ?c1 ?k1) (mg_of KX G ?a1) (L2.zbE ?l2 ?c2 ?k2) (mg_of KX G ?a2) (L2.zbE ?l3 ?c3 ?k3) (mg_of KX G ?a3) (L2.zbE ?l4 ?c4 ?k4) (mg_of KX G ?a4) (L2.zbE ?l5 ?c5 ?k5) (mg_of KX G ?a5) (L2.zbE ?l6 ?c6 ?k6) (mg_of KX G ?a6) (L2.zbE ?l7 ?c7 ?k7) (mg_of KX G ?a7) (L2.zbE ?l8 ?c8 ?k8) (mg_of KX G ?a8) (L2.zbE ?l9 ?c9 ?k9) (mg_of KX G ?a9) (L2.zbE ?l10 ?c10 ?k10) (mg_of KX G ?a10) (L2.zbE ?l11 ?c11 ?k11) (mg_of KX G ?a11) (L2.zbE ?l12 ?c12 ?k12) (mg_of KX G ?a12) (L2.zoX ?l13 ?c13 ?k13) (mg_of KX G ?a13) (L2.zbE ?l14 ?c14 ?k14) (mg_of KX G ?a14) (L2.zbE ?l15 ?c15 ?k15) (mg_of KX G ?a15) (L2.zbE ?l16 ?c16 ?k16) (mg_of KX G ?a16) (L2.zbE ?l17 ?c17 ?k17) (mg_of KX G ?a17) (L2.zbE ?l18 ?c18 ?k18) (mg_of KX G ?a18) (L2.zbE ?l19 ?c19 ?k19) (mg_of KX G ?a19) (L2.zbE ?l20 ?c20 ?k20) (mg_of KX G ?a20) (L2.zbE ?l21 ?c21 ?k21) (mg_of KX G ?a21) (mg_none_of KX G ?z_isinstance) (mg_none_of KX G ?z_int) (mg_none_of KX G ?z_bool) (mg_none_of KX G ?z_list) (mg_none_of KX G ?z_len) (mg_none_of KX G ?z_all) (mg_none_of KX G ?z_range) (mg_none_of KX G ?z_tuple) (mg_none_of KX G ?z_str) (mg_none_of KX G ?z_enumerate) (mg_none_of KX G ?z_zip) (mg_none_of KX G ?z_min) (mg_none_of KX G ?z_ValueError) (mg_of KX G ?ac_HideError) (mg_of KX G ?ac_NoWeb) (mg_of KX G ?ac_NoText) (mg_of KX G ?ak_MOST_PLACES) (mg_of KX G ?ak_MOST_ROADS) (mg_of KX G ?ak_MOST_LENGTH) (mg_of KX G ?ak_MOST_FIGURES) (mg_of KX G ?ak_FIGURES) ?xc_HideError ?vsg ?vrd ?vfc ?vin_NoWeb ?vl_NoWeb ?vc_NoWeb ?vk_NoWeb ?vlk_NoWeb ?vtl_NoWeb ?vfn_NoWeb ?vkp_NoWeb ?vmo_NoWeb ?vsa_NoWeb ?vga_NoWeb ?vgn_NoWeb ?vcl_NoWeb ?vmb_NoWeb ?vhd_NoWeb ?vna_NoWeb ?vin_NoText ?vl_NoText ?vc_NoText ?vk_NoText ?vlk_NoText ?vtl_NoText ?vfn_NoText ?vkp_NoText ?vmo_NoText ?vsa_NoText ?vga_NoText ?vgn_NoText ?vcl_NoText ?vmb_NoText ?vhd_NoText ?vna_NoText ?su_NoWeb ?su_NoText ?i_k_NoWeb ?i_k_NoText ?i_k_ValueError ?i_sub ?e_ga ?e_gn ?e_cl ?e_mb ?e_mo)
  (case hP=>k_is)
  (case ac_HideError=>k_is)
  (case ac_NoWeb=>k_is)
  (case ac_NoText=>k_is)
  (case a0=>k_is)
  (case a1=>k_is)
  (case a2=>k_is)
  (case a3=>k_is)
  (case a4=>k_is)
  (case a5=>k_is)
  (case a6=>k_is)
  (case a7=>k_is)
  (case a8=>k_is)
  (case a9=>k_is)
  (case a10=>k_is)
  (case a11=>k_is)
  (case a12=>k_is)
  (case a13=>k_is)
  (case a14=>k_is)
  (case a15=>k_is)
  (case a16=>k_is)
  (case a17=>k_is)
  (case a18=>k_is)
  (case a19=>k_is)
  (case a20=>k_is)
  (case a21=>k_is)
  (case l0=>k_is)
  (case c0=>k_is)
  (case k0=>k_is)
  (case l1=>k_is)
  (case c1=>k_is)
  (case k1=>k_is)
  (case l2=>k_is)
  (case c2=>k_is)
  (case k2=>k_is)
  (case l3=>k_is)
  (case c3=>k_is)
  (case k3=>k_is)
  (case l4=>k_is)
  (case c4=>k_is)
  (case k4=>k_is)
  (case l5=>k_is)
  (case c5=>k_is)
  (case k5=>k_is)
  (case l6=>k_is)
  (case c6=>k_is)
  (case k6=>k_is)
  (case l7=>k_is)
  (case c7=>k_is)
  (case k7=>k_is)
  (case l8=>k_is)
  (case c8=>k_is)
  (case k8=>k_is)
  (case l9=>k_is)
  (case c9=>k_is)
  (case k9=>k_is)
  (case l10=>k_is)
  (case c10=>k_is)
  (case k10=>k_is)
  (case l11=>k_is)
  (case c11=>k_is)
  (case k11=>k_is)
  (case l12=>k_is)
  (case c12=>k_is)
  (case k12=>k_is)
  (case l13=>k_is)
  (case c13=>k_is)
  (case k13=>k_is)
  (case l14=>k_is)
  (case c14=>k_is)
  (case k14=>k_is)
  (case l15=>k_is)
  (case c15=>k_is)
  (case k15=>k_is)
  (case l16=>k_is)
  (case c16=>k_is)
  (case k16=>k_is)
  (case l17=>k_is)
  (case c17=>k_is)
  (case k17=>k_is)
  (case l18=>k_is)
  (case c18=>k_is)
  (case k18=>k_is)
  (case l19=>k_is)
  (case c19=>k_is)
  (case k19=>k_is)
  (case l20=>k_is)
  (case c20=>k_is)
  (case k20=>k_is)
  (case l21=>k_is)
  (case c21=>k_is)
  (case k21=>k_is)
  (case z_isinstance=>k_is)
  (case z_int=>k_is)
  (case z_bool=>k_is)
  (case z_list=>k_is)
  (case z_len=>k_is)
  (case z_all=>k_is)
  (case z_range=>k_is)
  (case z_tuple=>k_is)
  (case z_str=>k_is)
  (case z_enumerate=>k_is)
  (case z_zip=>k_is)
  (case z_min=>k_is)
  (case z_ValueError=>k_is)
  (case ak_MOST_PLACES=>k_is)
  (case ak_MOST_ROADS=>k_is)
  (case ak_MOST_LENGTH=>k_is)
  (case ak_MOST_FIGURES=>k_is)
  (case ak_FIGURES=>k_is)
  (case xc_HideError=>k_exc)
  (case vsg=>k_is)
  (case vrd=>k_is)
  (case vfc=>k_is)
  (case vin_NoWeb=>k_is)
  (case vl_NoWeb=>k_is)
  (case vc_NoWeb=>k_is)
  (case vk_NoWeb=>k_is)
  (case vlk_NoWeb=>k_is)
  (case vtl_NoWeb=>kernel_rfl)
  (case vfn_NoWeb=>k_is)
  (case vkp_NoWeb=>k_is)
  (case vmo_NoWeb=>k_is)
  (case vsa_NoWeb=>k_is)
  (case vga_NoWeb=>k_is)
  (case vgn_NoWeb=>k_is)
  (case vcl_NoWeb=>k_is)
  (case vmb_NoWeb=>k_is)
  (case vhd_NoWeb=>k_is)
  (case vna_NoWeb=>k_is)
  (case vin_NoText=>k_is)
  (case vl_NoText=>k_is)
  (case vc_NoText=>k_is)
  (case vk_NoText=>k_is)
  (case vlk_NoText=>k_is)
  (case vtl_NoText=>kernel_rfl)
  (case vfn_NoText=>k_is)
  (case vkp_NoText=>k_is)
  (case vmo_NoText=>k_is)
  (case vsa_NoText=>k_is)
  (case vga_NoText=>k_is)
  (case vgn_NoText=>k_is)
  (case vcl_NoText=>k_is)
  (case vmb_NoText=>k_is)
  (case vhd_NoText=>k_is)
  (case vna_NoText=>k_is)
  (case su_NoWeb=>k_is)
  (case su_NoText=>k_is)
  (case i_k_NoWeb=>kit_is)
  (case i_k_NoText=>kit_is)
  (case i_k_ValueError=>kit_is)
  (case i_sub=>k_is)
  (case e_ga=>k_is)
  (case e_gn=>k_is)
  (case e_cl=>k_is)
  (case e_mb=>k_is)
  (case e_mo=>k_is)
