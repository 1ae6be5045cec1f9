import PyProof.Rows.All
import Wide.All
import OpenK.AllK
import Wide.FinOn
import Lean
import PyProof.EqAt
import PyProof.EqKinds
import PyProof.TupleCall
import KE.IntBitsLaws
import PyProof.NeKinds
import KE.KIsAll
import PyProof.ExcAttrAll.ValueError
import KE.RegKIsAll
import OpenK.KOwn
import PyProof.ConsumeWalk
import PyProof.SumWalkG
import PyProof.Rows.SeqCalls
import PyProof.Rows.SeqGen
import PyProof.ZipIter
import PyProof.Rows.ZipGen
import PyProof.Rows.FactsT2
import PyProof.WalkInts
import PyProof.SeqI3
import PyProof.AutoSeq1
import PyProof.WalksEnum
import PyProof.EnumMake
import PyProof.ListRange
import KE.KDictSum
import PyProof.Rows.SortWalk
import PyProof.ExcInit
import PyProof.InstStoreFacts
import KE.KLam
import KE.KMinKey
import KE.KEqDict
import PyProof.StrCalls2
import PyProof.Rows.StrNews2
import PyProof.SliceStr2
import KE.KIntText
import KE.IntTextLaws
import PyProof.Rows.StrSplitJoin
import PyProof.FitsReplace
import PyProof.StrWalks
import PyProof.Rows.FStr
import PyProof.Rows.StrSplitCount
import OpenK.ZGo
import PySem.Challenge.RW_hideworth_k84_whole_what_is_read_is_writ
set_option Elab.async false
set_option linter.all false
set_option maxRecDepth 100000
namespace L2
open PySem PySem.Spec PyProof.Rows
abbrev Key:=Sum Int Str
def znR:Key→Value→Bool
 | .inl k,v=>Value.isInt k v
 | .inr x,v=>Value.isStrOf x v
def keyH (w:World):Key→Int
 | .inl k=>hashInt k
 | .inr x=>hashStr w x
theorem zb4:∀ {k:Key} {v:Value},znR k v=true→(∃ i t,k=Sum.inl i∧v=Value.int i t)∨(∃ x t,k=Sum.inr x∧v=Value.str x t)
 | .inl i,v,h=>by
  obtain ⟨t,e⟩:=Value.isInt_shape (k:=i) (v:=v) h
  exact .inl ⟨i,t,rfl,e⟩
 | .inr x,v,h=>by
  obtain ⟨t,e⟩:=Value.isStrOf_shape (x:=x) (v:=v) h
  exact .inr ⟨x,t,rfl,e⟩
theorem zpC (i:Int) (t:Tok):znR (.inl i) (.int i t)=true:=by simp [znR,Value.isInt]
theorem zpF (x:Str) (t:Tok):znR (.inr x) (.str x t)=true:=by simp [znR,Value.isStrOf]
theorem zv7 (a b:Int):decide ((Sum.inl a:Key)=Sum.inl b)=(a == b):=by
 by_cases e:a=b
 ·subst e;simp
 ·have h:¬ (Sum.inl a:Key)=Sum.inl b:=fun q=>e (Sum.inl.inj q)
  rw [decide_eq_false h]
  exact (beq_eq_false_iff_ne.mpr e).symm
theorem zvZ (a b:Str):decide ((Sum.inr a:Key)=Sum.inr b)=decide (a=b):=by
 by_cases e:a=b
 ·subst e;simp
 ·have h:¬ (Sum.inr a:Key)=Sum.inr b:=fun q=>e (Sum.inr.inj q)
  rw [decide_eq_false h,decide_eq_false e]
theorem zvj (a:Int) (b:Str):decide ((Sum.inl a:Key)=Sum.inr b)=false:=decide_eq_false (fun q=>nomatch q)
theorem zvv (a:Str) (b:Int):decide ((Sum.inr a:Key)=Sum.inl b)=false:=decide_eq_false (fun q=>nomatch q)
def zcp (prog:Program) (w:World):PySem.KeyKind prog w Key where
 is:=znR
 hash:=keyH w
 inj:=fun v a b ha hb=>by
  rcases zb4 ha with ⟨i,t,rfl,rfl⟩ | ⟨x,t,rfl,rfl⟩
  ·rcases zb4 hb with ⟨j,u,rfl,e⟩ | ⟨y,u,rfl,e⟩
   ·injection e with e1 _;rw [e1]
   ·exact nomatch e
  ·rcases zb4 hb with ⟨j,u,rfl,e⟩ | ⟨y,u,rfl,e⟩
   ·exact nomatch e
   ·injection e with e1 _;rw [e1]
 byValue:=fun k v h=>by
  rcases zb4 h with ⟨i,t,rfl,rfl⟩ | ⟨x,t,rfl,rfl⟩ <;> rfl
 pyHash:=fun hv h=>by
  rcases zb4 hv with ⟨i,t,rfl,rfl⟩ | ⟨x,t,rfl,rfl⟩
  ·exact wpAny_pyHash_int h
  ·exact wpAny_pyHash_str h
 eqBool:=fun hu hv h=>by
  rcases zb4 hu with ⟨i,t,rfl,rfl⟩ | ⟨x,t,rfl,rfl⟩
  ·rcases zb4 hv with ⟨j,u,rfl,rfl⟩ | ⟨y,u,rfl,rfl⟩
   ·rw [zv7] at h;exact wpAny_eqBool_int h
   ·rw [zvj] at h;exact SeqAt.EqAt.int_str i t y u _ _ _ _ h
  ·rcases zb4 hv with ⟨j,u,rfl,rfl⟩ | ⟨y,u,rfl,rfl⟩
   ·rw [zvv] at h;exact SeqAt.EqAt.str_int x t j u _ _ _ _ h
   ·rw [zvZ] at h;exact wpAny_eqBool_str h
 «strs»:=fun k x t v h=>by
  rcases zb4 h with ⟨i,u,rfl,e⟩ | ⟨y,u,rfl,e⟩
  ·exact nomatch e
  ·injection e with e1 _
   subst e1
   cases v <;> rfl
theorem zmb (prog:Program) (w:World) (i:Int) (t:Tok):(zcp prog w).is (.inl i) (.int i t)=true:=zpC i t
theorem zlx (prog:Program) (w:World) (x:Str) (t:Tok):(zcp prog w).is (.inr x) (.str x t)=true:=zpF x t
end L2
namespace L2
open PySem PySem.Spec PyProof.Rows
inductive V where
 | non | bl (b:Bool) | int (i:Int) | str (x:Str) | byt (b:Array UInt8) | flt (b:UInt64) | ref (a:Addr) | ty (n:String)
 deriving DecidableEq
def zcs:V→Value→Prop
 | .non,u=>u=Value.none
 | .bl b,u=>u=Value.bool b
 | .int i,u=>∃ t,u=Value.int i t
 | .str x,u=>∃ t,u=Value.str x t
 | .byt b,u=>∃ t,u=Value.bytes b t
 | .flt b,u=>∃ t,u=Value.float b t
 | .ref a,u=>u=Value.ref a
 | .ty n,u=>u=Value.type n
abbrev zbY:List V→List Value→Prop:=Paired zcs
theorem zbY.length {xs:List V} {us:List Value} (r:zbY xs us):xs.length=us.length:=Paired.length r
theorem zbY.get:∀ {xs:List V} {us:List Value} {i:Nat} {x:V},zbY xs us→xs[i]?=some x→∃ u,us[i]?=some u∧zcs x u
 | _,_,_,_,.nil,e=>by simp at e
 | _,_,0,_,.cons r _,e=>by simp at e;subst e;exact ⟨_,rfl,r⟩
 | _,_,i+1,x,.cons _ t,e=>by
  obtain ⟨u,h1,h2⟩:=zbY.get (i:=i) (x:=x) t (by simpa using e)
  exact ⟨u,by simpa using h1,h2⟩
theorem zbY.append:∀ {xs ys:List V} {us ws:List Value},zbY xs us→zbY ys ws→zbY (xs++ys) (us++ws)
 | _,_,_,_,.nil,s=>s
 | _,_,_,_,.cons r t,s=>.cons r (zbY.append t s)
theorem zbY.take:∀ {xs:List V} {us:List Value} (n:Nat),zbY xs us→zbY (xs.take n) (us.take n)
 | _,_,0,_=>.nil
 | _,_,_+1,.nil=>.nil
 | _,_,n+1,.cons r t=>.cons r (zbY.take n t)
theorem zbY.drop:∀ {xs:List V} {us:List Value} (n:Nat),zbY xs us→zbY (xs.drop n) (us.drop n)
 | _,_,0,r=>r
 | _,_,_+1,.nil=>.nil
 | _,_,n+1,.cons _ t=>zbY.drop n t
def zpq:Option V→Option Value→Prop
 | some v,some u=>zcs v u
 | none,none=>True
 | _,_=>False
def KV {κ:Type}:List (κ×V)→List (κ×Value)→Prop:=Paired fun (p:κ×V) (q:κ×Value)=>p.1=q.1∧zcs p.2 q.2
def kV:Key→V
 | .inl i=>.int i
 | .inr x=>.str x
inductive HO where
  | lst (xs:List V)
  | tup (xs:List V)
  | dK (kvs:List (Key×V)) | dT (kvs:List (List Key×V))
  | set (S:Int→Bool) (n:Nat)
  | ins (C dx:Addr) (fs:List (Str×V))
  | own (x:Addr)
  | xd (fs:List (Str×V))
  | met (f x:Addr)
  | rng (lo hi:Int)
  | frz (o:Obj) (u:HO)
  | tbl (ps:Array Value)
  | ext (φ:Heap→Prop)
abbrev Hp:=Addr→Option HO
def upd (H:Hp) (a:Addr) (o:HO):Hp:=fun b=>if b=a then some o else H b
theorem zad {H:Hp} {a:Addr} {o:HO}:upd H a o a=some o:=by unfold upd;rw [if_pos rfl]
theorem zal {H:Hp} {a b:Addr} {o:HO} (h:b≠a):upd H a o b=H b:=by unfold upd;rw [if_neg h]
theorem zli {H:Hp} {a:Addr} {o u:HO}:upd (upd H a o) a u=upd H a u:=by
 funext b;unfold upd;split <;> rfl
theorem ne_of {H:Hp} {a b:Addr} {o u:HO} (h:H a=some o) (h':H b=some u) (d:o≠u):a≠b:=by
 intro e;subst e;rw [h] at h';exact d (Option.some.inj h')
theorem zar {H:Hp} {a b:Addr} {o:HO} (h:H a=some o) (h':H b=none):a≠b:=by
 intro e;subst e;rw [h] at h';cases h'
section
variable (P:Program) (w:World)
def zbS (H:Hp) (h:Heap) (a:Addr):HO→Prop
 | .lst xs=>xs.length≤sizeLine∧∃ (its:List Value) (n:Nat),zbY xs its∧h.get? a=some { cls:=.type "list",data:=.seq its.toArray n }
 | .tup xs=>xs.length≤sizeLine∧∃ its:List Value,zbY xs its∧IsTup h a its.toArray
 | .dK kvs=>kvs.length≤sizeLine∧(a == sysModules)=false∧∃ vs,KV kvs vs∧h.DictOf (zcp P w) a vs
 | .dT kvs=>kvs.length≤sizeLine∧(a == sysModules)=false∧∃ xs:List (List Key×Addr×Value),
   Paired (fun (p:List Key×V) (q:List Key×Addr×Value)=>p.1=q.1∧H q.2.1=some (.tup (p.1.map kV))∧zcs p.2 q.2.2) kvs xs ∧
   ∃ o es ep,h.get? a=some o∧o.ExactDict∧o.data=.dict es ep∧es.toList=xs.map (entryOfKey (tupleKind (zcp P w)))∧(xs.map (·.1)).Nodup
 | .set S n=>h.SetOf (intKind P w) a S n
 | .ins C dx fs=>H dx=some (.own a)∧fs.length≤1000∧dx≠a∧h.get? a=some (PySem.W.instObj C dx) ∧
   ∃ mA,h.Ns1 dx mA∧(∀ f,zpq (fs.lookup f) (mA f))∧PySem.Within mA (fs.map (·.1))
 | .own _=>∃ o,h.get? a=some o
 | .xd fs=>∃ mA,h.Ns1 a mA∧∀ f,zpq (fs.lookup f) (mA f)
 | .rng lo hi=>∃ t u v,h.get? a=some { cls:=.type "range",data:=.fields #[.int lo t,.int hi u,.int 1 v] }
 | .frz o u=>h.get? a=some o∧zbS H h a u
 | .tbl ps=>h.get? a=some { cls:=.none,data:=.fields ps }
 | .met f x=>h.get? a=some (PySem.W.methodObj (.ref f) (.ref x))
 | .ext φ=>φ h∧(∃ o,h.get? a=some o)∧∀ h1 h2:Heap,φ h1→(∀ o,h1.get? a=some o→h2.get? a=some o)→φ h2
def HOk (H:Hp) (h:Heap):Prop:=∀ a o,H a=some o→zbS P w H h a o
end
section
variable {P:Program} {w:World} {H H':Hp} {h h':Heap} {a:Addr} {o:HO}
theorem zbS.lt (x:zbS P w H h a o):a<h.objs.size:=by
 cases o with
 | lst xs=>obtain ⟨_,_,_,_,e⟩:=x;exact Heap.lt_size e
 | tup xs=>obtain ⟨_,_,_,p⟩:=x;exact p.lt
 | dK kvs=>obtain ⟨_,_,_,_,o,_,_,e,_⟩:=x;exact Heap.lt_size e
 | dT kvs=>obtain ⟨_,_,_,_,o,_,_,e,_⟩:=x;exact Heap.lt_size e
 | set S n=>obtain ⟨o,_,_,_,e,_⟩:=x;exact Heap.lt_size e
 | ins C dx fs=>obtain ⟨_,_,_,e,_⟩:=x;exact Heap.lt_size e
 | own y=>obtain ⟨_,e⟩:=x;exact Heap.lt_size e
 | xd fs=>obtain ⟨_,⟨_,_,_,e,_⟩,_⟩:=x;exact Heap.lt_size e
 | rng lo hi=>obtain ⟨_,_,_,e⟩:=x;exact Heap.lt_size e
 | frz ob u=>obtain ⟨e,_⟩:=x;exact Heap.lt_size e
 | tbl ps=>exact Heap.lt_size (show h.get? a=some _ from x)
 | met f y=>exact Heap.lt_size (show h.get? a=some _ from x)
 | ext φ=>obtain ⟨_,⟨_,e⟩,_⟩:=x;exact Heap.lt_size e
theorem Paired.mapP {α β:Type} {F G:α→β→Prop}:∀ {l₁:List α} {l₂:List β},Paired F l₁ l₂→(∀ a b,F a b→G a b)→Paired G l₁ l₂
 | _,_,.nil,_=>.nil
 | _,_,.cons r t,f=>.cons (f _ _ r) (Paired.mapP t f)
theorem zbS.stay (x:zbS P w H h a o) (k:∀ b u,(b=a∨H b=some (.own a))→h.get? b=some u→h'.get? b=some u)
  (ho:∀ b,H b=some (.own a)→H' b=some (.own a)) (ht:∀ b xs,H b=some (.tup xs)→H' b=some (.tup xs)):zbS P w H' h' a o:=by
 induction o with
 | lst xs=>obtain ⟨z,its,n,r,e⟩:=x;exact ⟨z,its,n,r,k _ _ (.inl rfl) e⟩
 | tup xs=>obtain ⟨z,its,r,ob,e,c⟩:=x;exact ⟨z,its,r,ob,k _ _ (.inl rfl) e,c⟩
 | dK kvs=>obtain ⟨z,y,vs,r,ob,es,ep,e,c⟩:=x;exact ⟨z,y,vs,r,ob,es,ep,k _ _ (.inl rfl) e,c⟩
 | dT kvs =>
  obtain ⟨z,y,xs,r,ob,es,ep,e,c⟩:=x
  exact ⟨z,y,xs,Paired.mapP r fun p q z=>⟨z.1,ht _ _ z.2.1,z.2.2⟩,ob,es,ep,k _ _ (.inl rfl) e,c⟩
 | set S n=>obtain ⟨ob,es,ep,t,e,c⟩:=x;exact ⟨ob,es,ep,t,k _ _ (.inl rfl) e,c⟩
 | ins C dx fs =>
  obtain ⟨d,z,ne,e,mA,⟨od,es,ep,e2,c⟩,r⟩:=x
  exact ⟨ho _ d,z,ne,k _ _ (.inl rfl) e,mA,⟨od,es,ep,k _ _ (.inr d) e2,c⟩,r⟩
 | own y=>obtain ⟨ob,e⟩:=x;exact ⟨ob,k _ _ (.inl rfl) e⟩
 | xd fs=>obtain ⟨mA,⟨od,es,ep,e,c⟩,r⟩:=x;exact ⟨mA,⟨od,es,ep,k _ _ (.inl rfl) e,c⟩,r⟩
 | rng lo hi=>obtain ⟨t,u,v,e⟩:=x;exact ⟨t,u,v,k _ _ (.inl rfl) e⟩
 | frz ob u ih=>obtain ⟨e,q⟩:=x;exact ⟨k _ _ (.inl rfl) e,ih q⟩
 | tbl ps =>
  have e:h.get? a=some { cls:=.none,data:=.fields ps }:=x
  show h'.get? a=some { cls:=.none,data:=.fields ps }
  exact k a _ (.inl rfl) e
 | met f y =>
  have e:h.get? a=some (PySem.W.methodObj (.ref f) (.ref y)):=x
  show h'.get? a=some (PySem.W.methodObj (.ref f) (.ref y))
  exact k a _ (.inl rfl) e
 | ext φ=>obtain ⟨p,⟨o,e⟩,st⟩:=x;exact ⟨st _ _ p fun o q=>k _ _ (.inl rfl) q,⟨o,k _ _ (.inl rfl) e⟩,st⟩
theorem HOk.lt (x:HOk P w H h) (e:H a=some o):a<h.objs.size:=(x a o e).lt
theorem HOk.fresh (x:HOk P w H h) (e:h.objs.size≤a):H a=none:=by
 cases q:H a with
 | none=>rfl
 | some u=>exact absurd (Nat.lt_of_lt_of_le (x.lt q) e) (Nat.lt_irrefl _)
theorem HOk.kept (x:HOk P w H h) (k:∀ b u,h.get? b=some u→h'.get? b=some u):HOk P w H h':=fun a o e =>
 (x a o e).stay (fun b u _ q=>k b u q) (fun _ q=>q) fun _ _ q=>q
theorem HOk.laid (x:HOk P w H h) (k:∀ b u,h.get? b=some u→h'.get? b=some u) (hp:h.objs.size≤a) (new:zbS P w (upd H a o) h' a o):HOk P w (upd H a o) h':=fun b u e=>by
 have hn:=x.fresh hp
 by_cases hb:b=a
 ·subst hb;rw [zad] at e;cases e;exact new
 ·rw [zal hb] at e
  exact (x b u e).stay (fun c v _ q=>k c v q) (fun c q=>by rw [zal (zar q hn)];exact q) fun c xs q=>by rw [zal (zar q hn)];exact q
end
def Rd (H:Hp) (a:Addr) (u:HO):Prop:=H a=some u∨∃ o,H a=some (.frz o u)
theorem Rd.ok {P:Program} {w:World} {H:Hp} {h:Heap} {a:Addr} {u:HO} (r:Rd H a u) (x:HOk P w H h):zbS P w H h a u:=by
 rcases r with r | ⟨o,r⟩
 ·exact x a u r
 ·obtain ⟨_,q⟩:=x a _ r
  exact q
def Mut:Option HO→Prop
 | some (.lst _)=>True
 | some (.dK _)=>True
 | some (.dT _)=>True
 | some (.set _ _)=>True
 | some (.ins _ _ _)=>True
 | some (.ext _)=>True
 | _=>False
section
variable {P:Program} {w:World} {H:Hp} {h h':Heap} {x e:Addr} {o':HO}
theorem HOk.write (ok:HOk P w H h) (mu:Mut (H x)) (he:e=x∨H e=some (.own x)) (k:∀ b u,b≠e→h.get? b=some u→h'.get? b=some u) (heo:∃ u,h'.get? e=some u)
  (new:zbS P w (upd H x o') h' x o'):HOk P w (upd H x o') h':=fun b u q=>by
 have nown:∀ c y,H c=some (.own y)→c≠x:=fun c y r z=>by subst z;rw [r] at mu;exact mu
 have ntup:∀ c xs,H c=some (.tup xs)→c≠x:=fun c xs r z=>by subst z;rw [r] at mu;exact mu
 by_cases hb:b=x
 ·subst hb;rw [zad] at q;cases q;exact new
 ·rw [zal hb] at q
  by_cases hbe:b=e
  ·have q':H b=some (.own x):=by
    rcases he with z | z
    ·exact absurd (hbe.trans z) hb
    ·rw [hbe];exact z
   rw [q] at q';cases q'
   obtain ⟨v,hv⟩:=heo
   exact ⟨v,by rw [hbe];exact hv⟩
  ·refine (ok b u q).stay (fun c v hc r=>k c v ?_ r) (fun c r=>by rw [zal (nown c b r)];exact r) fun c xs r=>by rw [zal (ntup c xs r)];exact r
   rcases hc with rfl | hc
   ·exact hbe
   ·rintro rfl
    rcases he with z | z
    ·exact nown c b hc z
    ·rw [hc] at z;cases z;exact hb rfl
end
structure Un (fs ex:List Addr) (H H':Hp) (h h':Heap):Prop where
 keep:∀ b o,h.get? b=some o→H b=none→b∉fs→b∉ex→h'.get? b=some o
 slot:∀ b o,h.get? b=some o→H b=none→b∈fs→b∉ex→∃ sl,h'.get? b=some { o with slots:=sl }
 free:∀ b o,h.get? b=some o→H b=none→b∉ex→H' b=none
 there:∀ b o,h.get? b=some o→b∉ex→∃ o',h'.get? b=some o'
 tups:∀ b xs,H b=some (.tup xs)→H' b=some (.tup xs)
 frzs:∀ b o u,H b=some (.frz o u)→H' b=some (.frz o u)
 tbls:∀ b ps,H b=some (.tbl ps)→∃ more,H' b=some (.tbl (ps++more))
section
variable {fs fs' ex ex':List Addr} {H H1 H2:Hp} {h h1 h2 h':Heap} {a x e:Addr} {o:HO}
theorem Un.any (u:Un fs ex H H1 h h1) {b:Addr} {ob:Obj} (q:h.get? b=some ob) (n:H b=none) (hx:b∉ex):∃ sl,h1.get? b=some { ob with slots:=sl }:=by
 by_cases hb:b∈fs
 ·exact u.slot b ob q n hb hx
 ·exact ⟨ob.slots,u.keep b ob q n hb hx⟩
theorem Un.kept (k:∀ b u,h.get? b=some u→h'.get? b=some u):Un fs ex H H h h' :=
 ⟨fun b ob q _ _ _=>k b ob q,fun b ob q _ _ _=>⟨ob.slots,k b ob q⟩,fun _ _ _ n _=>n,fun b ob q _=>⟨ob,k b ob q⟩,fun _ _ q=>q,fun _ _ _ q=>q,fun _ ps q=>⟨#[],by rw [q];simp⟩⟩
theorem Un.refl:Un fs ex H H h h:=Un.kept fun _ _ q=>q
theorem Un.laid (k:∀ b u,h.get? b=some u→h'.get? b=some u) (hp:h.objs.size≤a) (hn:H a=none):Un fs ex H (upd H a o) h h' where
 keep:=fun b u q _ _ _=>k b u q
 slot:=fun b u q _ _ _=>⟨u.slots,k b u q⟩
 free:=fun b u q n _=>by rw [zal (Nat.ne_of_lt (Nat.lt_of_lt_of_le (Heap.lt_size q) hp))];exact n
 there:=fun b u q _=>⟨u,k b u q⟩
 tups:=fun b xs q=>by rw [zal (zar q hn)];exact q
 frzs:=fun b u xs q=>by rw [zal (zar q hn)];exact q
 tbls:=fun b ps q=>⟨#[],by rw [zal (zar q hn),q];simp⟩
theorem Un.write (mu:Mut (H x)) (he:e=x∨H e=some (.own x)) (k:∀ b u,b≠e→h.get? b=some u→h'.get? b=some u) (heo:∃ u,h'.get? e=some u):Un fs ex H (upd H x o) h h':=by
 have hx:∀ b,H b=none→b≠x:=fun b n z=>by subst z;rw [n] at mu;exact mu
 have hb:∀ b,H b=none→b≠e:=fun b n z=>by
  subst z
  rcases he with r | r
  ·exact hx b n r
  ·rw [n] at r;cases r
 have hm:∀ b u,H b=some u→¬ Mut (some u)→b≠x:=fun b u q nm z=>by subst z;rw [q] at mu;exact nm mu
 refine ⟨fun b u q n _ _=>k b u (hb b n) q,fun b u q n _ _=>⟨u.slots,k b u (hb b n) q⟩,fun b u q n _=>by rw [zal (hx b n)];exact n,fun b u q _=>?_,
  fun b xs q=>by rw [zal (hm b _ q fun z=>z)];exact q,fun b u xs q=>by rw [zal (hm b _ q fun z=>z)];exact q,fun b ps q=>⟨#[],by rw [zal (hm b _ q fun z=>z),q];simp⟩⟩
 by_cases hbe:b=e
 ·subst hbe;exact heo
 ·exact ⟨u,k b u hbe q⟩
end
def trk (h:Heap) (H:Hp):List Addr:=(List.range h.objs.size).filter fun a=>(H a).isSome
def zoU (h:Heap) (H:Hp):Heap:=PySem.W.hideAll h (trk h H)
theorem zpc (h:Heap) (H:Hp):(zoU h H).objs.size=h.objs.size:=PySem.W.hideAll_size _ _
theorem zq4 {h:Heap} {H:Hp} {b:Addr} {o:Obj} (e:h.get? b=some o) (n:H b=none):(zoU h H).get? b=some o :=
 PySem.W.hideAll_get _ e fun hm=>by
  have q:(H b).isSome=true:=(List.mem_filter.mp hm).2
  rw [n] at q;simp at q
theorem zt7 {h:Heap} {H:Hp} {b:Addr} {o:Obj} (e:(zoU h H).get? b=some o):h.get? b=some o∧H b=none:=by
 have e':h.get? b=some o:=PySem.W.of_hideAll (trk h H) e
 refine ⟨e',?_⟩
 cases q:H b with
 | none=>rfl
 | some x =>
  have hm:b∈trk h H:=List.mem_filter.mpr ⟨List.mem_range.mpr (Heap.lt_size e'),by simp [q]⟩
  have z:(zoU h H).get? b=none:=PySem.W.hideAll_none (trk h H) hm
  rw [z] at e;cases e
def ztL (g h:Heap) (L:Addr):List (Addr×Obj):=(List.range h.objs.size).filterMap fun a=>if a=L∨(g.get? a).isSome=true then none else (h.get? a).map fun o=>(a,o)
def zhE (g h:Heap) (L d:Addr):List (Addr×Obj):=(ztL g h L).filter fun p=>decide (p.1≠d)
end L2
namespace L2
open PySem PySem.Spec PyProof.Rows
structure Mod (K:PySem.W.Frag) (mg:Str→Option Value) (base:Heap):Prop where
 kin:K.In base
 glob:base.Ns mainGlobals mg
 blt:∃ mb,base.Ns builtinsNs mb∧∀ x:Str,x≠"__name__"→mb x=bootBuiltins x
 nolimit:base.NoLimit
structure Cx where
 prog:Program
 w:World
 K:PySem.W.Frag
 mg:Str→Option Value
 base:Heap
 A:Around
 N:List Str
 s₀:Shared
 H₀:Hp
 env:Env
 outer:List Env
 stack:List Env
 ex:List Addr
 fn:Str→Bool
 calm:Bool
 pn:List (Addr×Obj)
 xe:Value→Shared→Prop
def frs (l:List Env):List Addr:=l.filterMap (·.frame)
abbrev Cx.fs (X:Cx):List Addr:=frs X.outer
def Vis (sc:Scope) (x:Str):Prop:=sc.names.lookup x=some .local∨sc.names.lookup x=some .cell∨sc.names.lookup x=some .free
def Loc (sc:Scope) (x:Str):Prop:=sc.names.lookup x=some .local∨sc.names.lookup x=some .cell
def Look (env:Env) (h:Heap) (m:Str→Option Value) (x:Str) (u:Value):Prop :=
 (env.kindOf x=some .local∧m x=some u)∨((env.kindOf x=some .cell∨env.kindOf x=some .free)∧∃ c,env.cells.lookup x=some c∧h.IsCell c (some u))
structure Cx.Ok (X:Cx):Prop where
 mod:Mod X.K X.mg X.base
 kind:X.env.scope.kind=.function
 glob:X.env.globals=mainGlobals
 blt:X.env.builtins=builtinsNs
 above:X.s₀.heap.objs.size≤X.env.locals
 inj:∀ x y c,X.env.cells.lookup x=some c→X.env.cells.lookup y=some c→x=y
 has:∀ x,(X.env.kindOf x=some .cell∨X.env.kindOf x=some .free)→∃ c,X.env.cells.lookup x=some c
 cab:∀ x c,X.fn x=true→X.env.cells.lookup x=some c→X.s₀.heap.objs.size≤c
 hd:X.calm=true→X.A.handled=none
 frames:X.A.frames=some X.stack
 stk:X.stack=X.outer∨(X.stack=X.env::X.outer∧X.env.frame=some X.env.locals)
 exf:∀ b∈X.ex,b≠X.env.locals∧∀ x c,X.env.cells.lookup x=some c→c≠b
 bs:∀ b o,X.base.get? b=some o→X.s₀.heap.get? b=some o∧X.H₀ b=none
 bsz:X.base.objs.size≤X.s₀.heap.objs.size
 noex:∀ b o,X.base.get? b=some o→b∉X.ex
 exfs:∀ b∈X.ex,b∉X.fs
 funs:X.s₀.heap.FunFrames X.base X.outer
 frf:∀ b∈X.fs,X.H₀ b=none
structure Inv (X:Cx) (pins:List (Addr×Obj)) (σ:List (Option V)) (H:Hp) (s:Shared):Prop where
 ok:X.Ok
 os:s.os=X.s₀.os
 bare:AllBare s.gens
 base:Un X.fs X.ex X.H₀ H X.s₀.heap s.heap
 loc:∃ m,s.heap.Ns X.env.locals m∧∀ (i:Nat) (x:Str) (v:V),X.N[i]?=some x→σ[i]?=some (some v)→Vis X.env.scope x→∃ u,zcs v u∧Look X.env s.heap m x u
 cell:∀ x c,X.env.cells.lookup x=some c→∃ v,s.heap.IsCell c v
 free:H X.env.locals=none
 freeC:∀ x c,X.env.cells.lookup x=some c→H c=none
 pin:∀ p∈X.pn++pins,s.heap.get? p.1=some p.2∧H p.1=none∧p.1≠X.env.locals∧p.1∉X.fs∧∀ v,p.2.data≠.cell v
 hok:HOk X.prog X.w H s.heap
 len:σ.length=X.N.length
section
variable {X:Cx} {pins:List (Addr×Obj)} {σ:List (Option V)} {H H':Hp} {s:Shared} {h':Heap}
theorem Cx.Ok.nofr (ok:X.Ok) {b:Addr} {o:Obj} (e:X.base.get? b=some o):b∉X.fs:=fun hb=>by
 have:=(ok.funs.mem hb).1
 rw [e] at this;cases this
theorem Inv.bs (I:Inv X pins σ H s):∀ b o,X.base.get? b=some o→s.heap.get? b=some o∧H b=none:=fun b o e =>
 ⟨I.base.keep b o (I.ok.bs b o e).1 (I.ok.bs b o e).2 (I.ok.nofr e) (I.ok.noex b o e),I.base.free b o (I.ok.bs b o e).1 (I.ok.bs b o e).2 (I.ok.noex b o e)⟩
theorem Inv.bk (I:Inv X pins σ H s):∀ b o,X.base.get? b=some o→s.heap.get? b=some o:=fun b o e=>(I.bs b o e).1
theorem Inv.mod (I:Inv X pins σ H s):Mod X.K X.mg X.base:=I.ok.mod
theorem Inv.kIn (I:Inv X pins σ H s):X.K.In s.heap:=I.ok.mod.kin.keeps I.bk
theorem Inv.lt (I:Inv X pins σ H s):X.env.locals<s.heap.objs.size:=let ⟨_,hn,_⟩:=I.loc;hn.lt
theorem Inv.sz (I:Inv X pins σ H s):X.s₀.heap.objs.size≤s.heap.objs.size:=Nat.le_trans I.ok.above (Nat.le_of_lt I.lt)
theorem Inv.nofs (I:Inv X pins σ H s) {a:Addr} (h:s.heap.objs.size≤a):a∉X.fs:=fun hb=>by
 obtain ⟨_,o,ho,_⟩:=I.ok.funs.mem hb
 exact absurd (Nat.lt_of_lt_of_le (Heap.lt_size ho) (Nat.le_trans I.sz h)) (Nat.lt_irrefl _)
theorem Inv.cne (I:Inv X pins σ H s):∀ x c,X.env.cells.lookup x=some c→c≠X.env.locals:=fun x c e z=>by
 obtain ⟨v,o,ho,hd⟩:=I.cell x c e
 obtain ⟨m,⟨o',es,ep,ho',hd',_⟩,_⟩:=I.loc
 rw [z,ho'] at ho;cases ho;rw [hd'] at hd;cases hd
theorem Inv.funs (I:Inv X pins σ H s):s.heap.FunFrames X.base X.outer:=by
 have all:∀ (l:List Env),(∀ b∈frs l,b∈X.fs)→X.s₀.heap.FunFrames X.base l→s.heap.FunFrames X.base l:=by
  intro l
  induction l with
  | nil=>intro _ _;trivial
  | cons env r ih =>
   intro hs hl
   obtain ⟨hk,⟨L,o,hf,hn,ho,hd⟩,hr⟩:=hl
   have hL:L∈X.fs:=hs L (by unfold frs;rw [List.filterMap_cons,hf];exact List.mem_cons_self)
   obtain ⟨sl,e⟩:=I.base.slot L o ho (I.ok.frf L hL) hL fun z=>I.ok.exfs L z hL
   exact ⟨hk,⟨L,_,hf,hn,e,hd⟩,ih (fun b hb=>hs b (by unfold frs;rw [List.filterMap_cons,hf];exact List.mem_cons_of_mem _ hb)) hr⟩
 exact all X.outer (fun _ hb=>hb) I.ok.funs
theorem Inv.stack (I:Inv X pins σ H s):s.heap.FunFrames X.base X.stack:=by
 rcases I.ok.stk with e | ⟨e,hf⟩
 ·rw [e];exact I.funs
 ·rw [e]
  obtain ⟨m,hn,_⟩:=I.loc
  refine .cons (by rw [I.ok.kind];decide) hf hn ?_ I.funs
  exact Heap.get?_none_of_le (Nat.le_trans I.ok.bsz I.ok.above)
theorem Inv.stkSub (I:Inv X pins σ H s):∀ b∈frs X.stack,b∈X.env.locals::X.fs:=fun b hb=>by
 rcases I.ok.stk with e | ⟨e,hf⟩
 ·rw [e] at hb;exact List.mem_cons_of_mem _ hb
 ·rw [e] at hb
  unfold frs at hb
  rw [List.filterMap_cons,hf] at hb
  exact hb
theorem Inv.stkFree (I:Inv X pins σ H s):∀ b∈frs X.stack,H b=none:=fun b hb=>by
 rcases List.mem_cons.mp (I.stkSub b hb) with e | hb
 ·rw [e];exact I.free
 ·obtain ⟨_,o,ho,_⟩:=I.ok.funs.mem hb
  exact I.base.free b o ho (I.ok.frf b hb) fun z=>I.ok.exfs b z hb
theorem Inv.step {g':Array GenState} {t':Nat} {d':Drawn} {ch:List Addr} (I:Inv X pins σ H s)
  (hch:∀ b∈ch,(b∈X.ex∨X.s₀.heap.objs.size≤b)∧b≠X.env.locals∧(∀ x c,X.env.cells.lookup x=some c→c≠b)∧∀ p∈X.pn++pins,p.1≠b)
  (keep:∀ b o,b≠X.env.locals→b∉X.fs→b∉ch→s.heap.get? b=some o→H b=none→h'.get? b=some o)
  (slot:∀ b o,b≠X.env.locals→b∈X.fs→b∉ch→s.heap.get? b=some o→H b=none→∃ sl,h'.get? b=some { o with slots:=sl }) (free:∀ b o,b∉ch→s.heap.get? b=some o→H b=none→H' b=none)
  (there:∀ b o,b∉ch→s.heap.get? b=some o→∃ o',h'.get? b=some o')
  (tups:∀ b xs,H b=some (.tup xs)→H' b=some (.tup xs)) (frzs:∀ b o u,H b=some (.frz o u)→H' b=some (.frz o u)) (tbls:∀ b ps,H b=some (.tbl ps)→∃ more,H' b=some (.tbl (ps++more)))
  (ns:∀ m,s.heap.Ns X.env.locals m→h'.Ns X.env.locals m) (hok:HOk X.prog X.w H' h') (hg:AllBare g') :
  Inv X pins σ H' { s with heap:=h',gens:=g',drawn:=d',toks:=t' }:=by
 have neL:∀ b o,X.s₀.heap.get? b=some o→b≠X.env.locals:=fun b o e=>Nat.ne_of_lt (Nat.lt_of_lt_of_le (Heap.lt_size e) I.ok.above)
 have neC:∀ b o,X.s₀.heap.get? b=some o→b∉X.ex→b∉ch:=fun b o e hx hb=>by
  rcases (hch b hb).1 with z | z
  ·exact hx z
  ·exact absurd (Nat.lt_of_lt_of_le (Heap.lt_size e) z) (Nat.lt_irrefl _)
 have cellK:∀ x c,X.env.cells.lookup x=some c→∀ v,s.heap.IsCell c v→h'.IsCell c v:=fun x c e v ⟨o,ho,hd⟩=>by
  have nch:c∉ch:=fun z=>(hch c z).2.2.1 x c e rfl
  by_cases hc:c∈X.fs
  ·obtain ⟨sl,q⟩:=slot c o (I.cne x c e) hc nch ho (I.freeC x c e)
   exact ⟨_,q,hd⟩
  ·exact ⟨o,keep c o (I.cne x c e) hc nch ho (I.freeC x c e),hd⟩
 refine ⟨I.ok,I.os,hg,⟨fun b o e n hb hx=>?_,fun b o e n hb hx=>?_,fun b o e n hx=>?_,fun b o e hx=>?_,fun b xs e=>tups b xs (I.base.tups b xs e),fun b o xs e=>frzs b o xs (I.base.frzs b o xs e),fun b ps e=>?_⟩,?_,fun x c e=>?_,?_,fun x c e=>?_,fun p hp=>?_,hok,I.len⟩
 ·exact keep b o (neL b o e) hb (neC b o e hx) (I.base.keep b o e n hb hx) (I.base.free b o e n hx)
 ·obtain ⟨sl,e1⟩:=I.base.slot b o e n hb hx
  obtain ⟨sl',e2⟩:=slot b _ (neL b o e) hb (neC b o e hx) e1 (I.base.free b o e n hx)
  exact ⟨sl',e2⟩
 ·obtain ⟨o',e1⟩:=I.base.there b o e hx
  exact free b o' (neC b o e hx) e1 (I.base.free b o e n hx)
 ·obtain ⟨o',e1⟩:=I.base.there b o e hx
  exact there b o' (neC b o e hx) e1
 ·obtain ⟨m1,e1⟩:=I.base.tbls b ps e
  obtain ⟨m2,e2⟩:=tbls b _ e1
  exact ⟨m1++m2,by rw [e2,Array.append_assoc]⟩
 ·obtain ⟨m,hn,hl⟩:=I.loc
  refine ⟨m,ns m hn,fun i x v e1 e2 e3=>?_⟩
  obtain ⟨u,r,l⟩:=hl i x v e1 e2 e3
  refine ⟨u,r,?_⟩
  rcases l with l | ⟨k,c,e,z⟩
  ·exact .inl l
  ·exact .inr ⟨k,c,e,cellK x c e _ z⟩
 ·obtain ⟨v,z⟩:=I.cell x c e
  exact ⟨v,cellK x c e v z⟩
 ·obtain ⟨m,⟨o,_,_,ho,_⟩,_⟩:=I.loc
  exact free _ o (fun z=>(hch _ z).2.1 rfl) ho I.free
 ·obtain ⟨v,o,ho,hd⟩:=I.cell x c e
  exact free c o (fun z=>(hch c z).2.2.1 x c e rfl) ho (I.freeC x c e)
 ·obtain ⟨e,n,ne,nf,d⟩:=I.pin p hp
  have nch:p.1∉ch:=fun z=>(hch p.1 z).2.2.2 p hp rfl
  exact ⟨keep p.1 p.2 ne nf nch e n,free p.1 p.2 nch e n,ne,nf,d⟩
theorem Inv.un {t':Nat} (I:Inv X pins σ H s) (u:Un X.fs [] H H' s.heap h') (hok:HOk X.prog X.w H' h'):Inv X pins σ H' { s with heap:=h',toks:=t' }:=by
 obtain ⟨m,⟨o,es,ep,ho,r⟩,_⟩:=id I.loc
 obtain ⟨sl,hL⟩:=u.any ho I.free (by simp)
 exact I.step (g':=s.gens) (d':=s.drawn) (ch:=[]) (fun _ z=>nomatch z) (fun b o _ hb _ e n=>u.keep b o e n hb (by simp)) (fun b o _ hb _ e n=>u.slot b o e n hb (by simp)) (fun b o _ e n=>u.free b o e n (by simp)) (fun b o _ e=>u.there b o e (by simp)) u.tups u.frzs u.tbls (fun m' hm=>by
  obtain ⟨o',es',ep',ho',r'⟩:=hm
  rw [ho] at ho';cases ho'
  exact ⟨_,es',ep',hL,r'⟩) hok I.bare
theorem Inv.call {g':Array GenState} {t':Nat} {d':Drawn} {ch:List Addr} (I:Inv X pins σ H s) (u:Un (frs X.stack) ch H H' s.heap h') (hok:HOk X.prog X.w H' h') (hg:AllBare g')
  (hch:∀ b∈ch,(b∈X.ex∨X.s₀.heap.objs.size≤b)∧b≠X.env.locals∧(∀ x c,X.env.cells.lookup x=some c→c≠b)∧∀ p∈X.pn++pins,p.1≠b) :
  Inv X pins σ H' { s with heap:=h',gens:=g',drawn:=d',toks:=t' }:=by
 obtain ⟨m,⟨o,es,ep,ho,r⟩,_⟩:=id I.loc
 obtain ⟨sl,hL⟩:=u.any ho I.free fun z=>(hch _ z).2.1 rfl
 exact I.step (ch:=ch) hch (fun b o hL hb hc e n=>u.keep b o e n (fun z=>(List.mem_cons.mp (I.stkSub b z)).elim hL hb) hc) (fun b o _ _ hc e n=>u.any e n hc) (fun b o hc e n=>u.free b o e n hc) (fun b o hc e=>u.there b o e hc) u.tups u.frzs u.tbls (fun m' hm=>by
  obtain ⟨o',es',ep',ho',r'⟩:=hm
  rw [ho] at ho';cases ho'
  exact ⟨_,es',ep',hL,r'⟩) hok hg
theorem Inv.turned {t':Nat} {it:Addr} (I:Inv X pins σ H s) (k:∀ b o,b≠it→s.heap.get? b=some o→h'.get? b=some o) (hn:H it=none) (hL:it≠X.env.locals)
  (h1:it∈X.ex∨X.s₀.heap.objs.size≤it) (h2:∀ x c,X.env.cells.lookup x=some c→c≠it) (h3:∀ p∈X.pn++pins,p.1≠it):Inv X pins σ H { s with heap:=h',toks:=t' }:=by
 have nit:∀ b u,H b=some u→b≠it:=fun b u e z=>by rw [z,hn] at e;cases e
 refine I.step (g':=s.gens) (d':=s.drawn) (ch:=[it]) (fun b hb=>?_) (fun b o _ _ hc e _=>k b o (fun z=>hc (by simp [z])) e) (fun b o _ _ hc e _=>⟨o.slots,k b o (fun z=>hc (by simp [z])) e⟩) (fun _ _ _ _ n=>n)
  (fun b o hc e=>⟨o,k b o (fun z=>hc (by simp [z])) e⟩) (fun _ _ e=>e) (fun _ _ _ e=>e) (fun b ps e=>⟨#[],by rw [e];simp⟩) (fun m hm=>?_) (fun b u e=>?_) I.bare
 ·have e:b=it:=by simpa using hb
  subst e
  exact ⟨h1,hL,h2,h3⟩
 ·obtain ⟨o,es,ep,ho,r⟩:=hm
  exact ⟨o,es,ep,k _ o (Ne.symm hL) ho,r⟩
 ·refine (I.hok b u e).stay (fun c v hc q=>k c v ?_ q) (fun _ q=>q) fun _ _ q=>q
  rcases hc with z | z
  ·rw [z];exact nit b u e
  ·exact nit c _ z
theorem Inv.tok (I:Inv X pins σ H s) (t:Nat):Inv X pins σ H { s with toks:=t }:=I.un (h':=s.heap) (t':=t) Un.refl I.hok
theorem Inv.kept {t':Nat} (I:Inv X pins σ H s) (k:∀ b u,s.heap.get? b=some u→h'.get? b=some u):Inv X pins σ H { s with heap:=h',toks:=t' }:=I.un (Un.kept k) (I.hok.kept k)
theorem Inv.laid {a:Addr} {o:HO} {t':Nat} (I:Inv X pins σ H s) (k:∀ b u,s.heap.get? b=some u→h'.get? b=some u) (hp:s.heap.objs.size≤a) (new:zbS X.prog X.w (upd H a o) h' a o) :
  Inv X pins σ (upd H a o) { s with heap:=h',toks:=t' }:=I.un (Un.laid k hp (I.hok.fresh hp)) (I.hok.laid k hp new)
theorem Inv.write {x e:Addr} {o:HO} {t':Nat} (I:Inv X pins σ H s) (mu:Mut (H x)) (he:e=x∨H e=some (.own x)) (k:∀ b u,b≠e→s.heap.get? b=some u→h'.get? b=some u) (heo:∃ u,h'.get? e=some u)
  (new:zbS X.prog X.w (upd H x o) h' x o):Inv X pins σ (upd H x o) { s with heap:=h',toks:=t' }:=I.un (Un.write mu he k heo) (I.hok.write mu he k heo new)
theorem Inv.pins_of {pins':List (Addr×Obj)} (I:Inv X pins σ H s) (h:∀ p∈pins',s.heap.get? p.1=some p.2∧H p.1=none∧p.1≠X.env.locals∧p.1∉X.fs∧∀ v,p.2.data≠.cell v):Inv X pins' σ H s :=
 ⟨I.ok,I.os,I.bare,I.base,I.loc,I.cell,I.free,I.freeC,fun p hp=>(List.mem_append.mp hp).elim (fun z=>I.pin p (List.mem_append_left _ z)) (h p),I.hok,I.len⟩
theorem zi4 {N:List Str} (hN:N.Nodup) {i j:Nat} {x:Str} (a:N[i]?=some x) (b:N[j]?=some x):i=j:=by
 obtain ⟨h1,e1⟩:=List.getElem?_eq_some_iff.mp a
 obtain ⟨h2,e2⟩:=List.getElem?_eq_some_iff.mp b
 exact (List.getElem_inj hN).mp (e1.trans e2.symm)
theorem zj6 {M:Model} {A:Around} {E:Value→Shared→Prop} {i:Nat} {x:Str} {v:V} {u:Value} {Q:Unit→Shared→Prop} (I:Inv X pins σ H s) (hN:X.N.Nodup) (hi:X.N[i]?=some x) (hx:Loc X.env.scope x) (r:zcs v u)
  (h:∀ s',Inv X pins (σ.set i (some v)) H s'→(∃ a,Heap.SameBut a s.heap s'.heap∧(a=X.env.locals∨X.env.cells.lookup x=some a))→Q () s') (hf:X.fn x=true∨X.env.scope.names.lookup x=some .local:=by first | exact .inl rfl | exact .inr rfl | assumption):wpAny M A (storeName X.env x u) Q E s:=by
 obtain ⟨m,hn,hl⟩:=id I.loc
 have hcls:(X.env.scope.kind == .class || (X.env.scope.kind == .module&&X.env.locals != X.env.globals))=false:=by rw [I.ok.kind];rfl
 have hiσ:i<σ.length:=by rw [I.len];exact (List.getElem?_eq_some_iff.mp hi).1
 have cne:=I.cne
 have tracked:∀ {a:Addr} {h':Heap},(∃ o,s.heap.get? a=some o∧H a=none)→Heap.SameBut a s.heap h'→HOk X.prog X.w H h':=fun {a h'} ha hs b ob e=>by
  obtain ⟨_,_,hfree⟩:=ha
  refine (I.hok b ob e).stay (fun c w' hc q=>(hs.2 c ?_).trans q) (fun _ q=>q) fun _ _ q=>q
  rintro rfl
  rcases hc with rfl | hc
  ·rw [hfree] at e;cases e
  ·rw [hfree] at hc;cases hc
 rcases hx with hk | hk
 ·refine wpAny_storeName_local hk hn (fun h' hn' hs=>?_) hcls
  obtain ⟨oL,_,_,hoL,_⟩:=id hn
  refine h _ ⟨I.ok,I.os,I.bare,⟨fun b o e n hb hx=>?_,fun b o e n hb hx=>?_,I.base.free,fun b o e hx=>?_,I.base.tups,I.base.frzs,I.base.tbls⟩,⟨_,hn',fun j y v' e1 e2 e3=>?_⟩,fun y c e=>?_,I.free,I.freeC,fun p hp=>?_,tracked ⟨oL,hoL,I.free⟩ hs,by simpa using I.len⟩ ⟨_,hs,.inl rfl⟩
  ·exact (hs.2 b (Nat.ne_of_lt (Nat.lt_of_lt_of_le (Heap.lt_size e) I.ok.above))).trans (I.base.keep b o e n hb hx)
  ·obtain ⟨sl,e1⟩:=I.base.slot b o e n hb hx
   exact ⟨sl,(hs.2 b (Nat.ne_of_lt (Nat.lt_of_lt_of_le (Heap.lt_size e) I.ok.above))).trans e1⟩
  ·obtain ⟨o',e1⟩:=I.base.there b o e hx
   exact ⟨o',(hs.2 b (Nat.ne_of_lt (Nat.lt_of_lt_of_le (Heap.lt_size e) I.ok.above))).trans e1⟩
  ·by_cases hj:j=i
   ·subst hj
    rw [hi] at e1;cases e1
    rw [List.getElem?_set_self hiσ] at e2
    cases e2
    exact ⟨u,r,.inl ⟨hk,by simp⟩⟩
   ·rw [List.getElem?_set_ne (Ne.symm hj)] at e2
    obtain ⟨u',r',q⟩:=hl j y v' e1 e2 e3
    refine ⟨u',r',?_⟩
    rcases q with ⟨k,e⟩ | ⟨k,c,e,z⟩
    ·refine .inl ⟨k,?_⟩
     have:y≠x:=fun e=>hj (zi4 hN e1 (e ▸ hi))
     simp [this,e]
    ·exact .inr ⟨k,c,e,z.sameBut hs (cne y c e)⟩
  ·obtain ⟨w',z⟩:=I.cell y c e
   exact ⟨w',z.sameBut hs (cne y c e)⟩
  ·obtain ⟨e,n,ne,nf,d⟩:=I.pin p hp
   exact ⟨(hs.2 p.1 ne).trans e,n,ne,nf,d⟩
 ·have hfn:X.fn x=true:=by
   rcases hf with z | z
   ·exact z
   ·rw [z] at hk;cases hk
  obtain ⟨c,hc⟩:=I.ok.has x (.inl hk)
  obtain ⟨w',z⟩:=I.cell x c hc
  refine wpAny_storeName_cell I.ok.kind hk hc z (fun h' hc' hs=>?_)
  obtain ⟨oc,hoc,hocd⟩:=id z
  refine h { s with heap:=h' } ⟨I.ok,I.os,I.bare,⟨fun b o e n hb hx=>?_,fun b o e n hb hx=>?_,I.base.free,fun b o e hx=>?_,I.base.tups,I.base.frzs,I.base.tbls⟩,⟨m,hn.sameBut hs (Ne.symm (cne x c hc)),fun j y v' e1 e2 e3=>?_⟩,fun y c' e=>?_,I.free,I.freeC,fun p hp=>?_,tracked ⟨oc,hoc,I.freeC x c hc⟩ hs,by simpa using I.len⟩ ⟨c,hs,.inr hc⟩
  ·exact (hs.2 b (Nat.ne_of_lt (Nat.lt_of_lt_of_le (Heap.lt_size e) (I.ok.cab x c hfn hc)))).trans (I.base.keep b o e n hb hx)
  ·obtain ⟨sl,e1⟩:=I.base.slot b o e n hb hx
   exact ⟨sl,(hs.2 b (Nat.ne_of_lt (Nat.lt_of_lt_of_le (Heap.lt_size e) (I.ok.cab x c hfn hc)))).trans e1⟩
  ·obtain ⟨o',e1⟩:=I.base.there b o e hx
   exact ⟨o',(hs.2 b (Nat.ne_of_lt (Nat.lt_of_lt_of_le (Heap.lt_size e) (I.ok.cab x c hfn hc)))).trans e1⟩
  ·by_cases hj:j=i
   ·subst hj
    rw [hi] at e1;cases e1
    rw [List.getElem?_set_self hiσ] at e2
    cases e2
    exact ⟨u,r,.inr ⟨.inl hk,c,hc,hc'⟩⟩
   ·rw [List.getElem?_set_ne (Ne.symm hj)] at e2
    obtain ⟨u',r',q⟩:=hl j y v' e1 e2 e3
    refine ⟨u',r',?_⟩
    rcases q with q | ⟨k,c',e,z'⟩
    ·exact .inl q
    ·refine .inr ⟨k,c',e,z'.sameBut hs ?_⟩
     rintro rfl
     exact hj (zi4 hN e1 (I.ok.inj _ _ _ e hc ▸ hi))
  ·by_cases hcc:c'=c
   ·subst hcc;exact ⟨_,hc'⟩
   ·obtain ⟨w2,z2⟩:=I.cell y c' e
    exact ⟨w2,z2.sameBut hs hcc⟩
  ·obtain ⟨e,n,ne,nf,d⟩:=I.pin p hp
   refine ⟨(hs.2 p.1 ?_).trans e,n,ne,nf,d⟩
   intro q
   rw [q,hoc] at e
   have q':oc=p.2:=Option.some.inj e
   exact d w' (by rw [← q'];exact hocd)
theorem zgi {M:Model} {A:Around} {E:Value→Shared→Prop} {i:Nat} {x:Str} {v:V} {u:Value} {Q:Unit→Shared→Prop} (I:Inv X pins σ H s) (hN:X.N.Nodup) (hi:X.N[i]?=some x) (hx:Loc X.env.scope x) (r:zcs v u)
  (h:∀ s',Inv X pins (σ.set i (some v)) H s'→Q () s') (hf:X.fn x=true∨X.env.scope.names.lookup x=some .local:=by first | exact .inl rfl | exact .inr rfl | assumption):wpAny M A (storeName X.env x u) Q E s :=
 zj6 I hN hi hx r (fun s' I' _=>h s' I') hf
theorem Inv.call' {s':Shared} {ch:List Addr} (I:Inv X pins σ H s) (ho:s'.os=s.os) (u:Un (frs X.stack) ch H H' s.heap s'.heap) (hok:HOk X.prog X.w H' s'.heap) (hg:AllBare s'.gens)
  (hch:∀ b∈ch,(b∈X.ex∨X.s₀.heap.objs.size≤b)∧b≠X.env.locals∧(∀ x c,X.env.cells.lookup x=some c→c≠b)∧∀ p∈X.pn++pins,p.1≠b):Inv X pins σ H' s':=by
 obtain ⟨h',g',d',t',o'⟩:=s'
 have e:o'=s.os:=ho
 subst e
 exact I.call (g':=g') (t':=t') (d':=d') u hok hg hch
end
abbrev XK:=Value→Option Addr→Hp→Prop
abbrev St:=List (Option V)
abbrev VK:=V→Hp→Prop
abbrev TE:=St→Hp→VK→Prop
abbrev TT:=St→Hp→(Bool→Hp→Prop)→Prop
abbrev TA:=St→Hp→(List V→Hp→Prop)→Prop
structure zce where
 nx:St→Hp→Prop
 rt:VK
 bk:St→Hp→Prop:=fun _ _=>False
 ct:St→Hp→Prop:=fun _ _=>False
abbrev TS:=zce→St→Hp→Prop
def EP (X:Cx) (pins:List (Addr×Obj)) (σ:St) (Q:VK) (u:Value) (s':Shared):Prop:=∃ v H',Inv X pins σ H' s'∧zcs v u∧Q v H'
def TP (X:Cx) (pins:List (Addr×Obj)) (σ:St) (Q:Bool→Hp→Prop) (b:Bool) (s':Shared):Prop:=∃ H',Inv X pins σ H' s'∧Q b H'
def AP (X:Cx) (pins:List (Addr×Obj)) (σ:St) (Q:List V→Hp→Prop) (us:List Value) (s':Shared):Prop:=∃ vs H',Inv X pins σ H' s'∧zbY vs us∧Q vs H'
def SP (X:Cx) (pins:List (Addr×Obj)) (D:zce) (f:Flow) (s':Shared):Prop :=
 match f with
 | .next=>∃ σ' H',Inv X pins σ' H' s'∧D.nx σ' H'
 | .brk=>∃ σ' H',Inv X pins σ' H' s'∧D.bk σ' H'
 | .cont=>∃ σ' H',Inv X pins σ' H' s'∧D.ct σ' H'
 | .ret u=>∃ v σ' H',Inv X pins σ' H' s'∧zcs v u∧D.rt v H'
def PE (X:Cx) (e:Expr) (t:TE):Prop :=
 ∀ (pins:List (Addr×Obj)) (s:Shared) (σ:St) (H:Hp) (Q:VK),Inv X pins σ H s→t σ H Q→wpAny (model X.prog X.w) X.A (eval e X.env) (EP X pins σ Q) X.xe s
def PT (X:Cx) (e:Expr) (t:TT):Prop :=
 ∀ (pins:List (Addr×Obj)) (s:Shared) (σ:St) (H:Hp) (Q:Bool→Hp→Prop),Inv X pins σ H s→t σ H Q→wpAny (model X.prog X.w) X.A (isTrue e X.env (eval e X.env)) (TP X pins σ Q) X.xe s
def PW (X:Cx) (e:Expr) (t:TT):Prop :=
 ∀ (whole:Sem Value) (pins:List (Addr×Obj)) (s:Shared) (σ:St) (H:Hp) (Q:Bool→Hp→Prop),Inv X pins σ H s→t σ H Q→wpAny (model X.prog X.w) X.A (isTrue e X.env whole) (TP X pins σ Q) X.xe s
theorem PW.pt {X:Cx} {e:Expr} {t:TT} (h:PW X e t):PT X e t:=h _
def PA (X:Cx) (es:List Expr) (t:TA):Prop :=
 ∀ (pos:Pos) (pins:List (Addr×Obj)) (s:Shared) (σ:St) (H:Hp) (Q:List V→Hp→Prop),Inv X pins σ H s→t σ H Q→wpAny (model X.prog X.w) X.A (spliced (backTo pos (starEach es X.env))) (AP X pins σ Q) X.xe s
def PS (X:Cx) (st:Stmt) (t:TS):Prop :=
 ∀ (pins:List (Addr×Obj)) (s:Shared) (σ:St) (H:Hp) (D:zce),Inv X pins σ H s→t D σ H→wpAny (model X.prog X.w) X.A (exec st X.env) (SP X pins D) X.xe s
def PSs (X:Cx) (st:List Stmt) (t:TS):Prop :=
 ∀ (pins:List (Addr×Obj)) (s:Shared) (σ:St) (H:Hp) (D:zce),Inv X pins σ H s→t D σ H→wpAny (model X.prog X.w) X.A (execs st X.env) (SP X pins D) X.xe s
theorem thn {α:Type} {t:Sem α} {Q Q':α→Shared→Prop} {M:Model} {A:Around} {E:Value→Shared→Prop} {s:Shared} (h:wpAny M A t Q E s) (hQ:∀ a s,Q a s→Q' a s):wpAny M A t Q' E s:=wpAny_mono h hQ fun _ _ x=>x
end L2
namespace L2
open PySem PySem.Spec PyProof.Rows
section
variable {X:Cx}
def zac (i:Nat):TE:=fun σ H Q=>∃ v,σ[i]?=some (some v)∧Q v H
def tC (v:V):TE:=fun _ H Q=>Q v H
theorem zpv {i:Nat} {x:Str} {pos:Pos} (hN:X.N[i]?=some x) (hv:Vis X.env.scope x) (hd:(x == ("__debug__":Str))=false:=by decide) (hcd:(x == ("__classdict__":Str))=false:=by decide):PE X (.Name x pos) (zac i):=by
 intro pins s σ H Q I h
 obtain ⟨v,e,h⟩:=h
 obtain ⟨m,hn,hl⟩:=I.loc
 obtain ⟨u,r,l⟩:=hl i x v hN e hv
 have fin:EP X pins σ Q u s:=⟨v,H,I,r,h⟩
 rcases l with ⟨hk,hm⟩ | ⟨hk,c,hc,hcell⟩
 ·exact wpAny_Name (wpAny_loadName_local I.ok.kind hk hn hm fin) hd
 ·rcases hk with hk | hk
  ·exact wpAny_Name (wpAny_loadName_cell I.ok.kind hk hc hcell fin) hd
  ·exact wpAny_Name (wpAny_loadName_free I.ok.kind hk hc hcell fin hcd) hd
theorem zag {i j pos}:PE X (.Constant (.int i) j pos) (tC (.int i)):=fun _ _ _ H _ I h=>wpAny_Constant_int ⟨.int i,H,I.tok _,⟨_,rfl⟩,h⟩
theorem zia {b j pos}:PE X (.Constant (.bool b) j pos) (tC (.bl b)):=fun _ _ _ H _ I h=>Constant_bool ⟨.bl b,H,I,rfl,h⟩
theorem zco {j pos}:PE X (.Constant .none j pos) (tC .non):=fun _ _ _ H _ I h=>Constant_none ⟨.non,H,I,rfl,h⟩
theorem zay {x j pos}:PE X (.Constant (.str x) j pos) (tC (.str x)):=fun _ _ _ H _ I h=>Calls.Constant_str ⟨.str x,H,I.tok _,⟨_,rfl⟩,h⟩
def Gl (X:Cx) (x:Str):Prop:=X.env.kindOf x=some .globalImplicit
theorem zdK {E:Value→Shared→Prop} {pins:List (Addr×Obj)} {s:Shared} {σ:St} {H:Hp} {x:Str} {u:Value} {pos:Pos} {Q:Value→Shared→Prop} (I:Inv X pins σ H s) (hg:Gl X x) (hm:X.mg x=some u) (h:Q u s)
  (hd:(x == ("__debug__":Str))=false:=by decide):wpAny (model X.prog X.w) X.A (eval (.Name x pos) X.env) Q E s :=
 Calls.Name_function_global I.ok.kind hg (Calls.loadGlobal_global (by rw [I.ok.glob];exact I.mod.glob.keeps I.bk) hm h) hd
theorem zhI {E:Value→Shared→Prop} {pins:List (Addr×Obj)} {s:Shared} {σ:St} {H:Hp} {x:Str} {u:Value} {pos:Pos} {Q:Value→Shared→Prop} (I:Inv X pins σ H s) (hg:Gl X x) (hm:X.mg x=none) (hv:bootBuiltins x=some u) (h:Q u s)
  (hn:x≠"__name__":=by decide) (hd:(x == ("__debug__":Str))=false:=by decide):wpAny (model X.prog X.w) X.A (eval (.Name x pos) X.env) Q E s:=by
 obtain ⟨mb,h1,h2⟩:=I.mod.blt
 exact Calls.Name_function_global I.ok.kind hg (Calls.loadGlobal_builtin (by rw [I.ok.glob];exact I.mod.glob.keeps I.bk) hm (by rw [I.ok.blt];exact h1.keeps I.bk) ((h2 x hn).trans hv) h) hd
theorem zbk {x:Str} {v:V} {u:Value} {pos:Pos} (hg:Gl X x) (hm:X.mg x=some u) (r:zcs v u) (hd:(x == ("__debug__":Str))=false:=by decide):PE X (.Name x pos) (tC v) :=
 fun _ _ _ H _ I h=>zdK I hg hm ⟨v,H,I,r,h⟩ hd
theorem zgB {x:Str} {v:V} {u:Value} {pos:Pos} (hg:Gl X x) (hm:X.mg x=none) (hv:bootBuiltins x=some u) (r:zcs v u) (hn:x≠"__name__":=by decide) (hd:(x == ("__debug__":Str))=false:=by decide):PE X (.Name x pos) (tC v) :=
 fun _ _ _ H _ I h=>zhI I hg hm hv ⟨v,H,I,r,h⟩ hn hd
variable {a b:Expr} {ta tb:TE} {pos:Pos}
def PC (X:Cx) (op:CmpOp) (a b:Expr) (t:TE):Prop :=
 ∀ (pins:List (Addr×Obj)) (s:Shared) (σ:St) (H:Hp) (Q:VK),Inv X pins σ H s→t σ H Q →
  wpAny (model X.prog X.w) X.A (eval a X.env) (fun v s₁=>wpAny (model X.prog X.w) X.A (eval b X.env) (fun u s₂=>wpAny (model X.prog X.w) X.A (compareOp op v u) (EP X pins σ Q) X.xe s₂) X.xe s₁) X.xe s
def tB (t:TE):TT:=fun σ H Q=>t σ H fun x H1=>∃ c,x=.bl c∧Q c H1
theorem zsJ {op:CmpOp} {t:TE} (h:PC X op a b t) (h1:behindInMarks op b=false:=by first | exact nobehind _ (by decide) (by decide) | rfl):PT X (.Compare a [op] [b] pos) (tB t):=by
 intro pins s σ H Q I hw
 refine wpAny_isTrue_Compare1 (thn (h pins s σ H _ I hw) fun v s1 h1=>thn h1 fun u s2 h2=>thn h2 fun c s3 hQ'=>?_) h1
 obtain ⟨x,H1,I1,r1,q1⟩:=hQ'
 obtain ⟨d,rfl,q⟩:=q1
 cases r1
 exact wpAny_truthy_bool ⟨H1,I1,q⟩
theorem zf8 {e:Expr} {t:TE} (h:PE X e t) (he:∀ whole,isTrue e X.env whole=(do let v ← whole;standAt e.pos;holding [v] (truthy v)):=by intro _;rfl):PT X e (tB t):=by
 intro pins s σ H Q I hw
 refine isTrue_plain (thn (h pins s σ H _ I hw) fun v s1 hQ'=>?_) (he _)
 obtain ⟨x,H1,I1,r1,q1⟩:=hQ'
 obtain ⟨d,rfl,q⟩:=q1
 cases r1
 exact wpAny_truthy_bool ⟨H1,I1,q⟩
variable {tA tB':TT} {zhE:List Expr}
def zpE (t u:TT):TT:=fun σ H Q=>t σ H fun c H1=>if c=true then u σ H1 Q else Q false H1
def tOr (t u:TT):TT:=fun σ H Q=>t σ H fun c H1=>if c=true then Q true H1 else u σ H1 Q
def zgX (t:TT):TT:=fun σ H Q=>t σ H fun c H1=>Q (!c) H1
theorem zh6 (ha:PT X a tA):PW X (.BoolOp .And [a] pos) tA:=by
 intro wh pins s σ H Q I h
 refine isTrue_and (thn (ha pins s σ H Q I h) fun c s1 e=>?_)
 cases c with
 | true=>exact isTrue_and_nil e
 | false=>exact e
theorem zdg (ha:PT X a tA):PW X (.BoolOp .Or [a] pos) tA:=by
 intro wh pins s σ H Q I h
 refine isTrue_or (thn (ha pins s σ H Q I h) fun c s1 e=>?_)
 cases c with
 | false=>exact isTrue_or_nil e
 | true=>exact e
theorem zkq (ha:PT X a tA) (hb:PW X (.BoolOp .And (b::zhE) pos) tB'):PW X (.BoolOp .And (a::b::zhE) pos) (zpE tA tB'):=by
 intro wh pins s σ H Q I h
 refine isTrue_and (thn (ha pins s σ H _ I h) fun c s1 hQ'=>?_)
 obtain ⟨H1,I1,q1⟩:=hQ'
 cases c with
 | true=>exact hb wh pins s1 σ H1 Q I1 q1
 | false=>exact ⟨H1,I1,q1⟩
theorem zdJ (ha:PT X a tA) (hb:PW X (.BoolOp .Or (b::zhE) pos) tB'):PW X (.BoolOp .Or (a::b::zhE) pos) (tOr tA tB'):=by
 intro wh pins s σ H Q I h
 refine isTrue_or (thn (ha pins s σ H _ I h) fun c s1 hQ'=>?_)
 obtain ⟨H1,I1,q1⟩:=hQ'
 cases c with
 | true=>exact ⟨H1,I1,q1⟩
 | false=>exact hb wh pins s1 σ H1 Q I1 q1
theorem zef (ha:PT X a tA):PT X (.UnaryOp .Not a pos) (zgX tA):=by
 intro pins s σ H Q I h
 exact isTrue_not (ha pins s σ H (fun c H1=>Q (!c) H1) I h)
def zid (ta tb:TE):TE:=fun σ H Q=>ta σ H fun x H1=>∃ c,x=.bl c∧if c=true then tb σ H1 Q else Q (.bl false) H1
def zt9 (ta:TE):TE:=fun σ H Q=>ta σ H fun x H1=>∃ c,x=.bl c∧Q (.bl (!c)) H1
theorem zqp {op} {t:TE} (h:PE X a t):PE X (.BoolOp op [a] pos) t:=fun pins s σ H Q I hw=>BoolOp_one (h pins s σ H Q I hw)
theorem zjO (ha:PE X a ta) (hb:PE X (.BoolOp .And (b::zhE) pos) tb):PE X (.BoolOp .And (a::b::zhE) pos) (zid ta tb):=by
 intro pins s σ H Q I h
 refine BoolOp_and (thn (ha pins s σ H _ I h) fun v s1 hQ'=>?_)
 obtain ⟨x,H1,I1,r1,q1⟩:=hQ'
 obtain ⟨c,rfl,q1⟩:=q1
 cases r1
 refine wpAny_truthy_bool ?_
 cases c with
 | true=>exact hb pins s1 σ H1 Q I1 q1
 | false=>exact ⟨.bl false,H1,I1,rfl,q1⟩
theorem zvT (ha:PE X a ta):PE X (.UnaryOp .Not a pos) (zt9 ta):=by
 intro pins s σ H Q I h
 refine UnaryOp_ (thn (ha pins s σ H _ I h) fun v s1 hQ'=>?_)
 obtain ⟨x,H1,I1,r1,q1⟩:=hQ'
 obtain ⟨c,rfl,q1⟩:=q1
 cases r1
 exact not_of (wpAny_truthy_bool ⟨.bl (!c),H1,I1,rfl,q1⟩)
def tIf (t:TT) (ta tb:TE):TE:=fun σ H Q=>t σ H fun c H1=>if c=true then ta σ H1 Q else tb σ H1 Q
theorem zdx {c:Expr} (hc:PT X c tA) (ha:PE X a ta) (hb:PE X b tb):PE X (.IfExp c a b pos) (tIf tA ta tb):=by
 intro pins s σ H Q I h
 refine wpAny_IfExp (thn (hc pins s σ H _ I h) fun d s1 hQ'=>?_)
 obtain ⟨H1,I1,q1⟩:=hQ'
 cases d with
 | true=>exact ha pins s1 σ H1 Q I1 q1
 | false=>exact hb pins s1 σ H1 Q I1 q1
end
end L2
namespace L2
open PySem PySem.Spec PyProof.Rows
def SqL (K:PySem.W.Frag) (H:Hp) (a:Addr) (xs:List V):Prop :=
 Rd H a (.lst xs) ∨
  ∃ (o:Obj) (its:Array Value) (n:Nat),K.lookup a=some o∧o.cls=.type "list"∧o.dict=none∧o.data=.seq its n∧its.size≤sizeLine∧zbY xs its.toList
def SqT (K:PySem.W.Frag) (H:Hp) (a:Addr) (xs:List V):Prop :=
 Rd H a (.tup xs) ∨
  ∃ (o:Obj) (its:Array Value) (n:Nat),K.lookup a=some o∧o.cls=.type "tuple"∧o.data=.seq its n∧its.size≤sizeLine∧zbY xs its.toList
def absV:Value→Option V
 | .none=>some .non
 | .bool b=>some (.bl b)
 | .int i _=>some (.int i)
 | .str x _=>some (.str x)
 | .bytes b _=>some (.byt b)
 | .float b _=>some (.flt b)
 | .ref a=>some (.ref a)
 | .type n=>some (.ty n)
 | _=>none
theorem zcs.abs {x:V} {u:Value} (r:zcs x u):absV u=some x:=by
 cases x with
 | non=>cases r;rfl
 | bl _=>cases r;rfl
 | int _=>obtain ⟨t,rfl⟩:=r;rfl
 | str _=>obtain ⟨t,rfl⟩:=r;rfl
 | byt _=>obtain ⟨t,rfl⟩:=r;rfl
 | flt _=>obtain ⟨t,rfl⟩:=r;rfl
 | ref _=>cases r;rfl
 | ty _=>cases r;rfl
theorem zcs.inj {x y:V} {u:Value} (r:zcs x u) (q:zcs y u):x=y:=Option.some.inj (r.abs.symm.trans q.abs)
theorem zbY.inj:∀ {xs ys:List V} {us:List Value},zbY xs us→zbY ys us→xs=ys
 | _,_,_,.nil,.nil=>rfl
 | _,_,_,.cons r t,.cons r' t'=>by rw [r.inj r',zbY.inj t t']
section
variable {X:Cx} {pins:List (Addr×Obj)} {σ:St} {H:Hp} {s:Shared} {a:Addr} {xs ys:List V}
theorem SqL.of {K:PySem.W.Frag} (h:H a=some (.lst xs)):SqL K H a xs:=.inl (.inl h)
theorem SqT.of {K:PySem.W.Frag} (h:H a=some (.tup xs)):SqT K H a xs:=.inl (.inl h)
theorem Inv.list (I:Inv X pins σ H s) (h:SqL X.K H a xs):∃ its:List Value,zbY xs its∧PlainL s.heap a its.toArray∧xs.length≤sizeLine:=by
 rcases h with h | ⟨o,its,n,hk,hc,hd,hs,hz,r⟩
 ·obtain ⟨z,its,n,r,e⟩:=h.ok I.hok
  exact ⟨its,r,⟨_,n,e,rfl,rfl,rfl⟩,z⟩
 ·refine ⟨its.toList,r,⟨o,n,I.kIn a o hk,hc,hd,by simpa using hs⟩,?_⟩
  have e:=r.length
  simp only [Array.length_toList] at e
  (first|lia|omega)
theorem Inv.tuple (I:Inv X pins σ H s) (h:SqT X.K H a xs):∃ its:List Value,zbY xs its∧IsTup s.heap a its.toArray∧xs.length≤sizeLine:=by
 rcases h with h | ⟨o,its,n,hk,hc,hs,hz,r⟩
 ·obtain ⟨z,its,r,p⟩:=h.ok I.hok
  exact ⟨its,r,p,z⟩
 ·refine ⟨its.toList,r,⟨o,I.kIn a o hk,hc,n,by simpa using hs⟩,?_⟩
  have e:=r.length
  simp only [Array.length_toList] at e
  (first|lia|omega)
theorem Inv.list_inj (I:Inv X pins σ H s) (h:SqL X.K H a xs) (h':SqL X.K H a ys):xs=ys:=by
 obtain ⟨its,r,⟨o,n,e,_,_,d⟩,_⟩:=I.list h
 obtain ⟨its',r',⟨o',n',e',_,_,d'⟩,_⟩:=I.list h'
 rw [e] at e';cases e'
 rw [d] at d'
 injection d' with d1 _
 have:its=its':=by simpa using congrArg Array.toList d1
 subst this
 exact r.inj r'
end
abbrev Cx.wish (X:Cx) (E:Value→Shared→Prop):Cx:={ X with xe:=E }
abbrev Cx.nox (X:Cx):Cx:=X.wish fun _ _=>False
theorem Cx.Ok.wish {X:Cx} (ok:X.Ok) (E:Value→Shared→Prop):(X.wish E).Ok :=
 ⟨ok.mod,ok.kind,ok.glob,ok.blt,ok.above,ok.inj,ok.has,ok.cab,ok.hd,ok.frames,ok.stk,ok.exf,ok.bs,ok.bsz,ok.noex,ok.exfs,ok.funs,ok.frf⟩
theorem Cx.Ok.unwish {X:Cx} {E:Value→Shared→Prop} (ok:(X.wish E).Ok):X.Ok :=
 ⟨ok.mod,ok.kind,ok.glob,ok.blt,ok.above,ok.inj,ok.has,ok.cab,ok.hd,ok.frames,ok.stk,ok.exf,ok.bs,ok.bsz,ok.noex,ok.exfs,ok.funs,ok.frf⟩
section
variable {X:Cx} {pins:List (Addr×Obj)} {σ:St} {H:Hp} {s:Shared} {E:Value→Shared→Prop}
theorem Inv.wish (I:Inv X pins σ H s) (E:Value→Shared→Prop):Inv (X.wish E) pins σ H s:=⟨I.ok.wish E,I.os,I.bare,I.base,I.loc,I.cell,I.free,I.freeC,I.pin,I.hok,I.len⟩
theorem Inv.unwish (I:Inv (X.wish E) pins σ H s):Inv X pins σ H s:=⟨I.ok.unwish,I.os,I.bare,I.base,I.loc,I.cell,I.free,I.freeC,I.pin,I.hok,I.len⟩
theorem SP.unwish {D:zce} {f:Flow} {s':Shared} (h:SP (X.wish E) pins D f s'):SP X pins D f s':=by
 cases f with
 | next=>obtain ⟨σ',H',I,q⟩:=h;exact ⟨σ',H',I.unwish,q⟩
 | brk=>obtain ⟨σ',H',I,q⟩:=h;exact ⟨σ',H',I.unwish,q⟩
 | cont=>obtain ⟨σ',H',I,q⟩:=h;exact ⟨σ',H',I.unwish,q⟩
 | ret u=>obtain ⟨v,σ',H',I,r,q⟩:=h;exact ⟨v,σ',H',I.unwish,r,q⟩
theorem PSs.nox {st:List Stmt} {t:TS} (h:PSs X.nox st t):PSs X st t:=fun pins s σ H D I hw =>
 wpAny_mono (h pins s σ H D (I.wish _) hw) (fun _ _ q=>q.unwish) fun _ _ z=>False.elim z
end
section
variable {X:Cx} {st:Stmt} {zhE:List Stmt} {t u:TS} {e:Expr} {te:TE} {pos:Pos}
def zaZ:TS:=fun D σ H=>D.nx σ H
def zaz (t u:TS):TS:=fun D σ H=>t { D with nx:=u D } σ H
theorem zaT:PSs X [] zaZ:=fun _ _ σ H _ I h=>wpAny_execs_nil ⟨σ,H,I,h⟩
theorem zaf (h1:PS X st t) (h2:PSs X zhE u):PSs X (st::zhE) (zaz t u):=by
 intro pins s σ H D I h
 refine wpAny_execs_cons (thn (h1 pins s σ H { D with nx:=u D } I h) fun f s1 q=>?_)
 cases f with
 | next =>
  obtain ⟨σ',H',I',q⟩:=q
  exact h2 pins s1 σ' H' D I' q
 | ret v=>exact q
 | brk=>exact q
 | cont=>exact q
theorem zaj (h1:PS X st t):PSs X [st] t:=by
 intro pins s σ H D I h
 refine wpAny_execs_cons (thn (h1 pins s σ H D I h) fun f s1 q=>?_)
 cases f with
 | next=>exact wpAny_execs_nil q
 | ret v=>exact q
 | brk=>exact q
 | cont=>exact q
def zuG:TS:=fun D σ H=>D.ct σ H
theorem zlW:PS X (.Continue pos) zuG:=fun _ _ σ H _ I h=>wpAny_Continue ⟨σ,H,I,h⟩
theorem Inv.quiet {pins:List (Addr×Obj)} {σ:St} {H:Hp} {s:Shared} (I:Inv X pins σ H s):interactive X.env=false:=by simp [interactive,I.ok.kind]
def zc7 (te:TE):TS:=fun D σ H=>te σ H fun _ H1=>D.nx σ H1
theorem zcq (he:PE X e te) (hs:swapsWith e none pos.line X.env=pure false:=by rfl):PS X (.Expr e pos) (zc7 te):=by
 intro pins s σ H D I h
 exact wpAny_Expr_any (thn (he pins s σ H _ I h) fun v s1 ⟨x,H1,I1,r1,q1⟩=>⟨σ,H1,I1,q1⟩) I.quiet hs
def zb9 (te:TE):TS:=fun D σ H=>te σ H D.rt
theorem zaN (he:PE X e te):PS X (.Return (some e) pos) (zb9 te):=by
 intro pins s σ H D I h
 exact wpAny_Return_some (thn (he pins s σ H _ I h) fun v s1 ⟨x,H1,I1,r1,q1⟩=>⟨x,σ,H1,I1,r1,q1⟩)
def zcn (c:TT) (t u:TS):TS:=fun D σ H=>c σ H fun b H1=>if b=true then t D σ H1 else u D σ H1
theorem zb8 {c:Expr} {a b:List Stmt} {tc:TT} (hc:PT X c tc) (ha:PSs X a t) (hb:PSs X b u):PS X (.If c a b pos) (zcn tc t u):=by
 intro pins s σ H D I h
 refine wpAny_If (thn (hc pins s σ H _ I h) fun d s1 hQ'=>?_)
 obtain ⟨H1,I1,q1⟩:=hQ'
 cases d with
 | true=>exact ha pins s1 σ H1 D I1 q1
 | false=>exact hb pins s1 σ H1 D I1 q1
def zsT:TS:=fun _ _ _=>False
theorem zsy:PS X st zsT:=fun _ _ _ _ _ _ h=>h.elim
end
abbrev TG:=V→St→Hp→(St→Hp→Prop)→Prop
abbrev TGs:=List V→St→Hp→(St→Hp→Prop)→Prop
def PG (X:Cx) (target:Expr) (t:TG):Prop :=
 ∀ (pins:List (Addr×Obj)) (s:Shared) (σ:St) (H:Hp) (v:V) (u:Value) (Q:St→Hp→Prop),Inv X pins σ H s→zcs v u→t v σ H Q →
  wpAny (model X.prog X.w) X.A (assign target X.env u) (fun _ s'=>∃ σ' H',Inv X pins σ' H' s'∧Q σ' H') X.xe s
def PGs (X:Cx) (ts:List Expr) (t:TGs):Prop :=
 ∀ (pins:List (Addr×Obj)) (s:Shared) (σ:St) (H:Hp) (vs:List V) (us:List Value) (Q:St→Hp→Prop),Inv X pins σ H s→zbY vs us→t vs σ H Q →
  wpAny (model X.prog X.w) X.A (assignInOrder ((assignEach ts X.env).map (·.2)) us) (fun _ s'=>∃ σ' H',Inv X pins σ' H' s'∧Q σ' H') X.xe s
section
variable {X:Cx} {pos:Pos}
def zai (i:Nat):TG:=fun v σ H Q=>Q (σ.set i (some v)) H
theorem zaG {i:Nat} {x:Str} (hN:X.N.Nodup) (hi:X.N[i]?=some x) (hx:Loc X.env.scope x) (hf:X.fn x=true∨X.env.scope.names.lookup x=some .local:=by first | exact .inl rfl | exact .inr rfl | assumption):PG X (.Name x pos) (zai i):=by
 intro pins s σ H v u Q I r h
 exact wpAny_assign_Name (zgi I hN hi hx r (fun s' I'=>⟨_,H,I',h⟩) hf)
def zix:TGs:=fun vs σ H Q=>vs=[]∧Q σ H
def zbL (t:TG) (u:TGs):TGs:=fun vs σ H Q=>∃ v r,vs=v::r∧t v σ H fun σ' H'=>u r σ' H' Q
theorem zcX:PGs X [] zix:=by
 intro pins s σ H vs us Q I r h
 obtain ⟨e,h⟩:=h
 subst e
 cases r
 exact assignInOrder_nil ⟨σ,H,I,h⟩
theorem zaO {e:Expr} {es:List Expr} {t:TG} {u:TGs} (h1:PG X e t) (h2:PGs X es u)
  (hs:(assignEach (e::es) X.env).map (·.2)=assign e X.env::(assignEach es X.env).map (·.2):=by rfl):PGs X (e::es) (zbL t u):=by
 intro pins s σ H vs us Q I r h
 obtain ⟨v,vr,e1,h⟩:=h
 subst e1
 cases r with
 | cons r rr =>
  rw [hs]
  refine assignInOrder_cons (thn (h1 pins s σ H _ _ _ I r h) fun _ s1 hQ'=>?_)
  obtain ⟨σ1,H1,I1,q1⟩:=hQ'
  exact h2 pins s1 σ1 H1 _ _ Q I1 rr q1
def ziy (K:PySem.W.Frag) (n:Nat) (t:TGs):TG:=fun v σ H Q=>∃ a xs,v=.ref a∧SqT K H a xs∧xs.length=n∧t xs σ H Q
theorem zdV {es:List Expr} {k:Nat} {t:TGs} {n:Nat} (hc:X.calm=true) (h:PGs X es t)
  (hn:(assignEach es X.env).length=n:=by rfl) (hst:(assignEach es X.env).findIdx? (·.1)=none:=by rfl):PG X (.Tuple es k pos) (ziy X.K n t):=by
 intro pins s σ H v u Q I r hw
 obtain ⟨a,xs,e1,hq,hl,hw⟩:=hw
 subst e1
 cases r
 obtain ⟨its,rv,ht,hz⟩:=I.tuple hq
 refine assign_Tuple_tuple (I.ok.hd hc) ht (by simp [hn,← hl,rv.length]) hst fun h' hx=>?_
 have I1:Inv X pins σ H { s with heap:=h' }:=I.kept (t':=s.toks) fun b o e=>hx b o (Nat.ne_of_lt (Heap.lt_size e)) e
 exact h pins _ σ H xs _ Q I1 (by simpa using rv) hw
def zaU (te:TE) (g:TG):TS:=fun D σ H=>te σ H fun x H1=>g x σ H1 D.nx
theorem zkH {tg e:Expr} {te:TE} {g:TG} (he:PE X e te) (hg:PG X tg g) (hs:swapsWithSole [tg] e pos.line X.env=pure false:=by rfl) (hw:swappedStores [tg] e X.env=pure none:=by rfl)
  (h1:(assignEach [tg] X.env).map (·.2)=[assign tg X.env]:=by rfl):PS X (.Assign [tg] e pos) (zaU te g):=by
 intro pins s σ H D I h
 refine wpAny_Assign_stores (thn (he pins s σ H _ I h) fun v s1 hQ'=>?_) hs hw
 obtain ⟨x,H1,I1,r1,q1⟩:=hQ'
 rw [h1]
 exact thn (hg pins s1 σ H1 x v _ I1 r1 q1) fun _ s2 q=>q
theorem zas {i:Nat} {x:Str} {e:Expr} {te:TE} {pos':Pos} (hN:X.N.Nodup) (hi:X.N[i]?=some x) (hx:Loc X.env.scope x) (he:PE X e te) (hs:swapsWith e (some (.Name x pos')) pos.line X.env=pure false:=by rfl) (hf:X.fn x=true∨X.env.scope.names.lookup x=some .local:=by first | exact .inl rfl | exact .inr rfl | assumption) :
  PS X (.Assign [.Name x pos'] e pos) (zaU te (zai i)):=by
 intro pins s σ H D I h
 refine wpAny_Assign_Name (thn (he pins s σ H _ I h) fun v s1 hQ'=>?_) hs
 obtain ⟨y,H1,I1,r1,q1⟩:=hQ'
 exact zgi I1 hN hi hx r1 (fun s2 I2=>⟨_,H1,I2,q1⟩) hf
def tPar (i j:Nat) (ta:TA):TS:=fun D σ H=>ta σ H fun vs H1=>∃ v w,vs=[v,w]∧D.nx ((σ.set i (some v)).set j (some w)) H1
theorem zvg {i j:Nat} {x y:Str} {a b:Expr} {ta:TA} {px py pt:Pos} {kt k2 pt2} (hc:X.calm=true) (hN:X.N.Nodup) (hi:X.N[i]?=some x) (hj:X.N[j]?=some y) (hij:i≠j)
  (hx:X.env.scope.names.lookup x=some .local) (hy:X.env.scope.names.lookup y=some .local) (ha:PA X [a,b] ta)
  (hw:swappedStores [.Tuple [.Name x px,.Name y py] kt pt] (.Tuple [a,b] k2 pt2) X.env=pure (some [x,y]))
  (hs:swapsWithSole [.Tuple [.Name x px,.Name y py] kt pt] (.Tuple [a,b] k2 pt2) pos.line X.env=pure false:=by rfl) :
  PS X (.Assign [.Tuple [.Name x px,.Name y py] kt pt] (.Tuple [a,b] k2 pt2) pos) (tPar i j ta):=by
 intro pins s σ H D I h
 rw [exec_Assign_arm]
 refine wpAny_bind (wpAny_standAt ?_)
 rw [hs]
 refine wpAny_bind (wpAny_pure ?_)
 rw [if_neg (by decide)]
 refine wpAny_bind (Tuple_ (thn (ha _ pins s σ H _ I h) fun us s1 hQ'=>?_))
 obtain ⟨vs,H1,I1,r1,q1⟩:=hQ'
 obtain ⟨v,w,e1,q1⟩:=q1
 subst e1
 obtain ⟨u1,u2,rfl,rv,rw'⟩:∃ u1 u2,us=[u1,u2]∧zcs v u1∧zcs w u2:=by
  cases r1 with
  | cons p q =>
   cases q with
   | cons p' q' =>
    cases q'
    exact ⟨_,_,rfl,p,p'⟩
 refine wpAny_newObj_type ?_ (by show 2≤sizeLine;decide)
 have I2:Inv X pins σ H1 { s1 with heap:=s1.heap.push { cls:=.type "tuple",data:=.seq [u1,u2].toArray } }:=I1.kept (t':=s1.toks) fun b o e=>Heap.get?_push_of_some _ e
 rw [hw]
 refine wpAny_bind (wpAny_pure ?_)
 show wpAny (model X.prog X.w) X.A (do rule "assign.swapped-stores";let items ← unpackItems (.ref s1.heap.objs.size) 2 none;assignInOrder [fun v=>bindName X.env y v,fun v=>bindName X.env x v] items.reverse;pure Flow.next) _ _ _
 refine wpAny_bind (wpAny_rule (wpAny_bind (unpackItems_tuple (items:=#[u1,u2]) (I.ok.hd hc) (IsTup.new s1.heap _) fun h' hx'=>?_)))
 have I3:=I2.kept (h':=h') (t':=s1.toks) fun b o e=>hx' b o (Nat.ne_of_lt (Heap.lt_size e)) e
 show wpAny _ _ (assignInOrder [fun v=>bindName X.env y v,fun v=>bindName X.env x v] [u2,u1] >>= fun _=>pure Flow.next) _ _ _
 refine wpAny_bind (assignInOrder_cons (wpAny_bindName (zgi I3 hN hj (.inl hy) rw' (fun s2 I4=>?_) (.inr hy))))
 refine assignInOrder_cons (wpAny_bindName (zgi I4 hN hi (.inl hx) rv (fun s3 I5=>assignInOrder_nil (wpAny_pure ?_)) (.inr hx)))
 rw [List.set_comm _ _ (Ne.symm hij)] at I5
 exact ⟨_,H1,I5,q1⟩
end
section
variable {X:Cx} {pos:Pos}
def zpK (c:TT) (tb:TS):TS:=fun D σ H=>∃ W:Nat→St→Hp→Prop,(∃ m,W m σ H)∧∀ m σ H,W m σ H →
 c σ H fun b H1=>if b=true then ∃ N:St→Hp→Prop,(∀ σ' H',N σ' H'→∃ m',m'<m∧W m' σ' H')∧tb { D with nx:=N,ct:=N,bk:=D.nx } σ H1 else D.nx σ H1
theorem zrj {c:Expr} {body:List Stmt} {tc:TT} {tb:TS} (hp:PassesOwn (model X.prog X.w) X.A X.env X.xe) (hc:PT X c tc) (hb:PSs X body tb):PS X (.While c body [] pos) (zpK tc tb):=by
 intro pins s σ H D I h
 obtain ⟨W,⟨m0,w0⟩,turn⟩:=h
 refine wpAny_While (codeAny_whileLoop (fun n s'=>∃ σ' H',Inv X pins σ' H' s'∧W n σ' H') ?_ m0 ⟨σ,H,I,w0⟩)
 rintro n s1 ⟨σ1,H1,I1,w1⟩
 refine wpAny_passesOwn hp (thn (hc pins s1 σ1 H1 _ I1 (turn n σ1 H1 w1)) fun b s2 hQ'=>?_)
 obtain ⟨H2,I2,q2⟩:=hQ'
 cases b with
 | true =>
  obtain ⟨N,hN,q2⟩:=q2
  rw [if_pos rfl]
  refine wpAny_passesOwn hp (thn (hb pins s2 σ1 H2 _ I2 q2) fun f s3 q3=>?_)
  cases f with
  | next =>
   obtain ⟨σ3,H3,I3,n3⟩:=q3
   obtain ⟨m',hm,w3⟩:=hN σ3 H3 n3
   exact ⟨m',hm,σ3,H3,I3,w3⟩
  | cont =>
   obtain ⟨σ3,H3,I3,n3⟩:=q3
   obtain ⟨m',hm,w3⟩:=hN σ3 H3 n3
   exact ⟨m',hm,σ3,H3,I3,w3⟩
  | brk=>exact q3
  | ret v=>exact q3
 | false =>
  rw [if_neg Bool.false_ne_true]
  exact wpAny_execs_nil ⟨σ1,H2,I2,q2⟩
end
structure It where
 go:Nat→Hp→Prop
 yld:Nat→Hp→V→Hp→Prop
 stop:Nat→Hp→Prop
def zl4 (X:Cx) (pins:List (Addr×Obj)) (H:Hp) (b:Addr):Prop :=
 H b=none∧b≠X.env.locals∧b∉X.fs∧(b∈X.ex∨X.s₀.heap.objs.size≤b)∧(∀ x c,X.env.cells.lookup x=some c→c≠b)∧∀ p∈X.pn++pins,p.1≠b
theorem Inv.fpOk {X:Cx} {pins:List (Addr×Obj)} {σ:St} {H H':Hp} {s:Shared} {b:Addr} (I:Inv X pins σ H s) (hb:s.heap.objs.size≤b) (hn:H' b=none):zl4 X pins H' b:=by
 refine ⟨hn,Nat.ne_of_gt (Nat.lt_of_lt_of_le I.lt hb),I.nofs hb,.inr (Nat.le_trans I.sz hb),fun x c e z=>?_,fun p hp z=>?_⟩
 ·obtain ⟨v,q⟩:=I.cell x c e
  exact absurd (Nat.lt_of_lt_of_le q.lt (by rw [z];exact hb)) (Nat.lt_irrefl _)
 ·exact absurd (Nat.lt_of_lt_of_le (Heap.lt_size (I.pin p hp).1) (by rw [z];exact hb)) (Nat.lt_irrefl _)
structure zwT (P:Program) (w:World) (K:PySem.W.Frag) (tg:Expr) (J:It) (fp:List Addr) (it:Addr) (tn:Nat→Heap→Prop):Prop where
 mem:it∈fp
 obj:∀ i h,tn i h→∀ b∈fp,∃ o,h.get? b=some o∧∀ v,o.data≠.cell v
 keep:∀ i h h',tn i h→(∀ b∈fp,∀ o,h.get? b=some o→h'.get? b=some o)→tn i h'
 item:∀ (X:Cx),X.prog=P→X.w=w→X.K=K→X.calm=true→∀ (i:Nat) (pins:List (Addr×Obj)) (s:Shared) (σ:St) (H:Hp) (E:Value→Shared→Prop),Inv X pins σ H s→(∀ b∈fp,zl4 X pins H b)→tn i s.heap→J.go i H →
  wpAny (model P w) X.A (pyNext (.ref it)) (fun r s1=>∃ u,r=some u ∧
   wpAny (model P w) X.A (letOwnedTupleGo tg (.ref it) u) (fun _ s2=>∃ x H',Inv X pins σ H' s2∧zcs x u∧J.yld i H x H'∧tn (i+1) s2.heap∧∀ b∈fp,H' b=none) E s1) E s
 done:∀ (X:Cx),X.prog=P→X.w=w→X.K=K→X.calm=true→∀ (i:Nat) (pins:List (Addr×Obj)) (s:Shared) (σ:St) (H:Hp) (E:Value→Shared→Prop),Inv X pins σ H s→(∀ b∈fp,zl4 X pins H b)→tn i s.heap→J.stop i H →
  wpAny (model P w) X.A (pyNext (.ref it)) (fun r s1=>r=none∧Inv X pins σ H s1) E s
 self:∀ (A:Around) (i:Nat) (s:Shared) (Q:Value→Shared→Prop) (E:Value→Shared→Prop),tn i s.heap→Q (.ref it) s→wpAny (model P w) A (pyIter (.ref it)) Q E s
abbrev TI:=St→Hp→(It→Hp→Prop)→Prop
def PIE (X:Cx) (pins:List (Addr×Obj)) (σ:St) (tg:Expr) (R:It→Hp→Prop) (itv:Value) (s2:Shared):Prop :=
 ∃ (it:Addr) (fp:List Addr) (tn:Nat→Heap→Prop) (J:It) (H':Hp),itv=.ref it∧Inv X pins σ H' s2∧zwT X.prog X.w X.K tg J fp it tn∧tn 0 s2.heap∧(∀ b∈fp,zl4 X pins H' b)∧R J H'
def PI (X:Cx) (tg iter:Expr) (wi:TI):Prop :=
 ∀ (pins:List (Addr×Obj)) (s:Shared) (σ:St) (H:Hp) (R:It→Hp→Prop),Inv X pins σ H s→wi σ H R →
  wpAny (model X.prog X.w) X.A (eval iter X.env) (fun v s1=>wpAny (model X.prog X.w) X.A (pyIter v) (PIE X pins σ tg R) X.xe s1) X.xe s
theorem ztR {M:Model} {A:Around} {E:Value→Shared→Prop} {s:Shared} {tg:Expr} {it:Addr} {u:Value} {o:Obj} {n:String} {vs:Array Value} {Q:Unit→Shared→Prop} (ho:s.heap.get? it=some o) (hc:o.cls=.type n) (hd:o.data=.fields vs)
  (hn:["enumerate","zip","dict_itemiterator","dict_reverseitemiterator","odict_iterator","itertools.zip_longest","itertools.pairwise"].contains n=false) (hQ:Q () s):wpAny M A (letOwnedTupleGo tg (.ref it) u) Q E s:=by
 unfold letOwnedTupleGo
 cases tg <;> first
  | exact wpAny_pure hQ
  | (cases u <;> first
    | exact wpAny_pure hQ
    | (refine wpAny_bind (wpAny_load ho ?_)
       rw [hc,hd]
       show wpAny M A (if (["enumerate","zip","dict_itemiterator","dict_reverseitemiterator","odict_iterator","itertools.zip_longest","itertools.pairwise"].contains n&&vs[0]? == some (rawInt _))=true then _ else _) Q E s
       rw [if_neg (by intro h;rw [hn,Bool.false_and] at h;cases h)]
       exact wpAny_pure hQ))
def Itl (K:PySem.W.Frag) (a:Addr):It :=
 ⟨fun i H=>∃ xs x,SqL K H a xs∧xs[i]?=some x,fun i H x H'=>H'=H∧∀ xs,SqL K H a xs→xs[i]?=some x,fun i H=>∃ xs,SqL K H a xs∧xs.length≤i⟩
def Itr (lo:Int) (n:Nat):It:=⟨fun i _=>i<n,fun i H x H'=>H'=H∧x=.int (lo+i),fun i _=>n≤i⟩
theorem zoD {P:Program} {w:World} {K:PySem.W.Frag} {tg:Expr} (a it:Addr):zwT P w K tg (Itl K a) [it] it (fun i h=>h.IsListIter it a i) where
 mem:=by simp
 obj:=fun i h st b hb=>by
  have e:b=it:=by simpa using hb
  subst e
  obtain ⟨o,e,c,d⟩:=st
  exact ⟨o,e,fun v z=>by rw [d] at z;cases z⟩
 keep:=fun i h h' st k=>st.at fun o e=>k it (by simp) o e
 item:=by
  intro X hP hw hK hc i pins s σ H E I hf st hg
  subst hP hw hK
  obtain ⟨xs,x,hq,hx⟩:=hg
  obtain ⟨its,rv,p,hz⟩:=I.list hq
  obtain ⟨u,hu,ru⟩:=rv.get hx
  obtain ⟨f0,f1,f2,f3,f4,f5⟩:=hf it (by simp)
  refine wpAny_pyNext_list_item st p.isList (x:=u) (by simpa using hu) fun h' st' sb=>?_
  have I1:Inv X pins σ H { s with heap:=h' }:=I.turned (t':=s.toks) (fun b o hb e=>(sb.2 b hb).trans e) f0 f1 f3 f4 f5
  obtain ⟨o,e,c,d⟩:=id st'
  exact ⟨u,rfl,ztR (s:={ s with heap:=h' }) e c d (by decide) ⟨x,H,I1,ru,⟨rfl,fun ys hy=>by rw [I.list_inj hy hq];exact hx⟩,st',fun b hb=>(hf b hb).1⟩⟩
 done:=by
  intro X hP hw hK hc i pins s σ H E I hf st hg
  subst hP hw hK
  obtain ⟨xs,hq,hx⟩:=hg
  obtain ⟨its,rv,p,hz⟩:=I.list hq
  obtain ⟨f0,f1,f2,f3,f4,f5⟩:=hf it (by simp)
  have hl:=rv.length
  exact wpAny_pyNext_list_end (I.ok.hd hc) st p.isList (by simp;(first|lia|omega)) fun h' eb=>⟨rfl,I.turned (t':=s.toks) (fun b o hb e=>eb b o hb e) f0 f1 f3 f4 f5⟩
 self:=fun _ _ _ _ _ st h=>wpAny_pyIter_listiter st h
theorem znr {P:Program} {w:World} {K:PySem.W.Frag} {tg:Expr} (it:Addr) (lo:Int) (n:Nat):zwT P w K tg (Itr lo n) [it] it (fun i h=>IsRangeIter h it (lo+(i:Nat)*1) ((n:Int) - (i:Nat)) 1) where
 mem:=by simp
 obj:=fun i h st b hb=>by
  have e:b=it:=by simpa using hb
  subst e
  exact ⟨_,st,fun v z=>by
   have z':Data.fields _=Data.cell v:=z
   cases z'⟩
 keep:=fun i h h' st k=>k it (by simp) _ st
 item:=by
  intro X hP hw hK hc i pins s σ H E I hf st hg
  subst hP hw hK
  obtain ⟨f0,f1,f2,f3,f4,f5⟩:=hf it (by simp)
  have W:=Walks.range (prog:=X.prog) (w:=X.w) (I.ok.hd hc) it lo 1 n
  refine W.item i s _ _ hg st fun v h' tk hv st' kk=>?_
  obtain ⟨t,rfl⟩:=hv
  have I1:Inv X pins σ H { s with heap:=h',toks:=tk }:=I.turned (fun b o hb e=>kk b o (by simpa using hb) e) f0 f1 f3 f4 f5
  refine ⟨_,rfl,ztR (s:={ s with heap:=h',toks:=tk }) (n:="range_iterator") st' rfl rfl (by decide) ⟨.int (lo+i),H,I1,⟨t,?_⟩,⟨rfl,rfl⟩,st',fun b hb=>(hf b hb).1⟩⟩
  rw [Int.mul_one]
 done:=by
  intro X hP hw hK hc i pins s σ H E I hf st hg
  subst hP hw hK
  obtain ⟨f0,f1,f2,f3,f4,f5⟩:=hf it (by simp)
  exact wpAny_pyNext_range_end (I.ok.hd hc) st (by have:n≤i:=hg;(first|lia|omega)) fun h' eb=>⟨rfl,I.turned (t':=s.toks) (fun b o hb e=>eb b o hb e) f0 f1 f3 f4 f5⟩
 self:=fun _ _ _ _ _ st h=>wpAny_pyIter_rangeiter st h
end L2
namespace L2
open PySem PySem.Spec PyProof.Rows
section
variable {X:Cx} {tg:Expr}
def zfO (K:PySem.W.Frag) (tl:TE):TI:=fun σ H R=>tl σ H fun x H1=>∃ a,x=.ref a∧(∃ xs,SqL K H1 a xs)∧R (Itl K a) H1
theorem zdP {l:Expr} {tl:TE} (hl:PE X l tl):PI X tg l (zfO X.K tl):=by
 intro pins s σ H R I h
 refine thn (hl pins s σ H _ I h) fun v s1 hQ'=>?_
 obtain ⟨x,H1,I1,r1,q1⟩:=hQ'
 obtain ⟨a,e,⟨xs,hq⟩,q⟩:=q1
 subst e
 cases r1
 obtain ⟨its,rv,p,hz⟩:=I1.list hq
 refine wpAny_pyIter_list p.isList ?_
 refine ⟨s1.heap.objs.size,[s1.heap.objs.size],_,_,H1,rfl,I1.kept (t':=s1.toks) fun b o e=>Heap.get?_push_of_some _ e,zoD a _,⟨_,Heap.get?_push_size _ rfl,rfl,rfl⟩,fun b hb=>?_,q⟩
 have e:b=s1.heap.objs.size:=by simpa using hb
 subst e
 exact I1.fpOk (Nat.le_refl _) (I1.hok.fresh (Nat.le_refl _))
theorem zmU {pins:List (Addr×Obj)} {σ:St} {H:Hp} {s:Shared} {R:It→Hp→Prop} {E:Value→Shared→Prop} {lo hi:Int} {t u v:Tok} {tk:Nat} (I:Inv X pins σ H s) (h1:-(2 ^ 62)≤lo) (h2:lo<2 ^ 62) (h3:-(2 ^ 62)≤hi) (h4:hi<2 ^ 62)
  (q:R (Itr lo (hi - lo).toNat) H):wpAny (model X.prog X.w) X.A (pyIter (.ref s.heap.objs.size)) (PIE X pins σ tg R) E { s with heap:=s.heap.push { cls:=.type "range",data:=.fields #[.int lo t,.int hi u,.int 1 v] },toks:=tk }:=by
 refine wpAny_pyIter_range (IsRange.new ..) (small_one h1 h2 h3 h4) ?_
 have I1:Inv X pins σ H { s with heap:=s.heap.push { cls:=.type "range",data:=.fields #[.int lo t,.int hi u,.int 1 v] },toks:=tk }:=I.kept fun b o e=>Heap.get?_push_of_some _ e
 refine ⟨(s.heap.push { cls:=.type "range",data:=.fields #[.int lo t,.int hi u,.int 1 v] }).objs.size,[(s.heap.push { cls:=.type "range",data:=.fields #[.int lo t,.int hi u,.int 1 v] }).objs.size],_,_,H,rfl,
  I1.kept (t':=tk) fun b o e=>Heap.get?_push_of_some _ e,znr _ lo (hi - lo).toNat,?_,fun b hb=>?_,q⟩
 ·have e1:lo+((0:Nat):Int)*1=lo:=by simp
  have e2:(((hi - lo).toNat:Nat):Int) - ((0:Nat):Int)=Builtin.Range.rangeSize lo hi 1:=by rw [rangeSize_one];split <;> (first|lia|omega)
  show IsRangeIter _ _ (lo+((0:Nat):Int)*1) ((((hi - lo).toNat:Nat):Int) - ((0:Nat):Int)) 1
  rw [e1,e2]
  exact Heap.get?_push_size _ rfl
 ·have e:b=(s.heap.push { cls:=.type "range",data:=.fields #[.int lo t,.int hi u,.int 1 v] }).objs.size:=by simpa using hb
  subst e
  exact I1.fpOk (Nat.le_refl _) (I1.hok.fresh (Nat.le_refl _))
def zel (ta:TA):TI:=fun σ H R=>ta σ H fun vs H1=>∃ j:Int,vs=[.int j]∧-(2 ^ 62)≤j∧j<2 ^ 62∧R (Itr 0 j.toNat) H1
def zrE (ta:TA):TI:=fun σ H R=>ta σ H fun vs H1=>∃ i j:Int,vs=[.int i,.int j]∧(-(2 ^ 62)≤i∧i<2 ^ 62∧-(2 ^ 62)≤j∧j<2 ^ 62)∧R (Itr i (j - i).toNat) H1
theorem zcJ {a:Expr} {ta:TA} {p pos:Pos} (hg:Gl X "range") (hm:X.mg "range"=none) (ha:PA X [a] ta) (hs:starEach [a] X.env=[(false,eval a X.env)]:=by rfl):PI X tg (.Call (.Name "range" p) [a] [] pos) (zel ta):=by
 intro pins s σ H R I h
 refine Call_ (zhI I hg hm boot_range (PyProof.Rows.callWith_type1 (thn (ha pos pins s σ H _ I h) fun us s1 hQ'=>?_) hs rfl))
 obtain ⟨vs,H1,I1,r1,q1⟩:=hQ'
 obtain ⟨j,e,q1,q2,q⟩:=q1
 subst e
 cases r1 with
 | cons r rr =>
  cases rr
  obtain ⟨t,rfl⟩:=r
  exact call_range_1 (zmU I1 (by (first|lia|omega)) (by (first|lia|omega)) q1 q2 (by simpa using q))
theorem zqs {a b:Expr} {ta:TA} {p pos:Pos} (hg:Gl X "range") (hm:X.mg "range"=none) (ha:PA X [a,b] ta) (hs:starEach [a,b] X.env=[(false,eval a X.env),(false,eval b X.env)]:=by rfl) (hs2:starEach [b] X.env=[(false,eval b X.env)]:=by rfl) :
  PI X tg (.Call (.Name "range" p) [a,b] [] pos) (zrE ta):=by
 intro pins s σ H R I h
 refine Call_ (zhI I hg hm boot_range (PyProof.Rows.callWith_type1 (thn (ha pos pins s σ H _ I h) fun us s1 hQ'=>?_) (by rw [hs,hs2]) (by rw [hs2];rfl)))
 obtain ⟨vs,H1,I1,r1,q1⟩:=hQ'
 obtain ⟨i,j,e,⟨q1,q2,q3,q4⟩,q⟩:=q1
 subst e
 cases r1 with
 | cons r rr =>
  cases rr with
  | cons r' rr =>
   cases rr
   obtain ⟨t,rfl⟩:=r
   obtain ⟨t',rfl⟩:=r'
   exact call_range_2 (zmU I1 q1 q2 q3 q4 q)
def zfV (wi:TI) (g:TG) (tb:TS):TS:=fun D σ H=>wi σ H fun J H1=>∃ W:Nat→Nat→St→Hp→Prop,(∃ m,W 0 m σ H1)∧∀ i m σ H,W i m σ H →
 (J.stop i H∧D.nx σ H)∨(J.go i H∧∃ N:St→Hp→Prop,(∀ σ' H',N σ' H'→∃ m',m'<m∧W (i+1) m' σ' H')∧∀ x H',J.yld i H x H'→g x σ H' fun σ2 H2=>tb { D with nx:=N,ct:=N,bk:=D.nx } σ2 H2)
def zkk (fp:List Addr) (h:Heap):List (Addr×Obj):=fp.filterMap fun b=>(h.get? b).map fun o=>(b,o)
theorem ze0 {fp:List Addr} {h:Heap} {b:Addr} {o:Obj} (hb:b∈fp) (e:h.get? b=some o):(b,o)∈zkk fp h:=List.mem_filterMap.mpr ⟨b,hb,by rw [e];rfl⟩
theorem zoO {fp:List Addr} {h:Heap} {p:Addr×Obj} (hp:p∈zkk fp h):p.1∈fp∧h.get? p.1=some p.2:=by
 obtain ⟨b,hb,e⟩:=List.mem_filterMap.mp hp
 cases q:h.get? b with
 | none=>rw [q] at e;cases e
 | some o =>
  rw [q] at e
  have e':(b,o)=p:=Option.some.inj e
  subst e'
  exact ⟨hb,q⟩
theorem Inv.pinned {pins:List (Addr×Obj)} {σ:St} {H:Hp} {s:Shared} {fp:List Addr} (I:Inv X pins σ H s) (hf:∀ b∈fp,zl4 X pins H b) (ho:∀ b∈fp,∃ o,s.heap.get? b=some o∧∀ v,o.data≠.cell v):Inv X (pins++zkk fp s.heap) σ H s :=
 I.pins_of fun p hp=>(List.mem_append.mp hp).elim (fun z=>I.pin p (List.mem_append_right _ z)) fun z=>by
  obtain ⟨hb,e⟩:=zoO z
  obtain ⟨f0,f1,f2,_⟩:=hf p.1 hb
  obtain ⟨o,e',d⟩:=ho p.1 hb
  rw [e] at e';cases e'
  exact ⟨e,f0,f1,f2,d⟩
theorem Inv.unpinned {pins pl:List (Addr×Obj)} {σ:St} {H:Hp} {s:Shared} (I:Inv X (pins++pl) σ H s):Inv X pins σ H s:=I.pins_of fun p hp=>I.pin p (List.mem_append_right _ (List.mem_append_left _ hp))
theorem zc6 {iter:Expr} {body:List Stmt} {wi:TI} {g:TG} {tb:TS} {pos:Pos} (hp:PassesOwn (model X.prog X.w) X.A X.env X.xe) (hc:X.calm=true) (hi:PI X tg iter wi) (hg:PG X tg g) (hb:PSs X body tb)
  (hs:∀ x,foldedSetIterable iter X.env x=pure x:=by intro _;rfl):PS X (.For tg iter body [] pos) (zfV wi g tb):=by
 intro pins s σ H D I h
 refine wpAny_For (thn (hi pins s σ H _ I h) fun v s1 h1=>thn h1 fun itv s2 h2=>?_) hs
 obtain ⟨it,fp,tn,J,H2,e,I2,T,st2,f2,W,⟨m0,w0⟩,turn⟩:=h2
 subst e
 have stat:∀ {H':Hp},(∀ b∈fp,H' b=none)→∀ b∈fp,zl4 X pins H' b:=fun hn b hb=>⟨hn b hb,(f2 b hb).2⟩
 refine codeAny_forLoop_any (fun n s'=>∃ i σ' H',Inv X pins σ' H' s'∧tn i s'.heap∧(∀ b∈fp,H' b=none)∧W i n σ' H') ?_ m0 ⟨0,σ,H2,I2,st2,fun b hb=>(f2 b hb).1,w0⟩
 rintro n s3 ⟨i,σ3,H3,I3,st3,fr3,w3⟩
 rcases turn i n σ3 H3 w3 with ⟨stop,qn⟩ | ⟨go,N,hN,step⟩
 ·refine wpAny_passesOwn hp (thn (T.done X rfl rfl rfl hc i pins s3 σ3 H3 X.xe I3 (stat fr3) st3 stop) fun r s4 hQ'=>?_)
  obtain ⟨hr,I4⟩:=hQ'
  subst hr
  exact wpAny_execs_nil ⟨σ3,H3,I4,qn⟩
 ·refine wpAny_passesOwn hp (thn (T.item X rfl rfl rfl hc i pins s3 σ3 H3 X.xe I3 (stat fr3) st3 go) fun r s4 hQ'=>?_)
  obtain ⟨u,hr,h4⟩:=hQ'
  subst hr
  refine wpAny_passesOwn hp (thn h4 fun _ s5 hQ'=>?_)
  obtain ⟨x,H5,I5,r5,y5,st5,fr5⟩:=hQ'
  have I5':=I5.pinned (stat fr5) (T.obj _ _ st5)
  refine wpAny_passesOwn hp (thn (hg _ s5 σ3 H5 x u _ I5' r5 (step x H5 y5)) fun _ s6 hQ'=>?_)
  obtain ⟨σ6,H6,I6,q6⟩:=hQ'
  refine wpAny_passesOwn hp (thn (hb _ s6 σ6 H6 _ I6 q6) fun f s7 q7=>?_)
  have again:∀ {σ7:St} {H7:Hp},Inv X (pins++zkk fp s5.heap) σ7 H7 s7→N σ7 H7→∃ m,m<n∧∃ i σ' H',Inv X pins σ' H' s7∧tn i s7.heap∧(∀ b∈fp,H' b=none)∧W i m σ' H':=fun {σ7 H7} I7 n7=>by
   obtain ⟨m',hm,w7⟩:=hN σ7 H7 n7
   refine ⟨m',hm,i+1,σ7,H7,I7.unpinned,T.keep _ _ _ st5 fun b hb o e=>(I7.pin (b,o) (List.mem_append_right _ (List.mem_append_right _ (ze0 hb e)))).1,fun b hb=>?_,w7⟩
   obtain ⟨o,e,d⟩:=T.obj _ _ st5 b hb
   exact (I7.pin (b,o) (List.mem_append_right _ (List.mem_append_right _ (ze0 hb e)))).2.1
  cases f with
  | next=>obtain ⟨σ7,H7,I7,n7⟩:=q7;exact again I7 n7
  | cont=>obtain ⟨σ7,H7,I7,n7⟩:=q7;exact again I7 n7
  | brk=>obtain ⟨σ7,H7,I7,q7⟩:=q7;exact ⟨σ7,H7,I7.unpinned,q7⟩
  | ret v=>obtain ⟨x7,σ7,H7,I7,r7,q7⟩:=q7;exact ⟨x7,σ7,H7,I7.unpinned,r7,q7⟩
end
theorem zqU {K:PySem.W.Frag} {a:Addr} {xs:List V} {g:TG} {tb:TS} {D:zce} {σ:St} {H:Hp} (Pv:Nat→St→Hp→Prop) (h0:Pv 0 σ H) (hl:∀ i σ H,i≤xs.length→Pv i σ H→SqL K H a xs)
  (hs:∀ i x σ H,xs[i]?=some x→Pv i σ H→g x σ H fun σ2 H2=>tb { D with nx:=Pv (i+1),ct:=Pv (i+1),bk:=D.nx } σ2 H2) (hd:∀ σ H,Pv xs.length σ H→D.nx σ H) :
  ∃ W:Nat→Nat→St→Hp→Prop,(∃ m,W 0 m σ H)∧∀ i m σ H,W i m σ H →
   ((Itl K a).stop i H∧D.nx σ H)∨((Itl K a).go i H∧∃ N:St→Hp→Prop,(∀ σ' H',N σ' H'→∃ m',m'<m∧W (i+1) m' σ' H')∧∀ x H',(Itl K a).yld i H x H'→g x σ H' fun σ2 H2=>tb { D with nx:=N,ct:=N,bk:=D.nx } σ2 H2):=by
 refine ⟨fun i m σ H=>m=xs.length - i∧i≤xs.length∧Pv i σ H,⟨xs.length,by simp,Nat.zero_le _,h0⟩,?_⟩
 rintro i m σ H ⟨rfl,hi,p⟩
 have q:=hl i σ H hi p
 by_cases hlt:i<xs.length
 ·refine .inr ⟨⟨xs,xs[i],q,by simp [hlt]⟩,Pv (i+1),fun σ' H' p'=>⟨xs.length - (i+1),by (first|lia|omega),rfl,hlt,p'⟩,fun x H' y=>?_⟩
  obtain ⟨e,y⟩:=y
  subst e
  exact hs i x σ _ (y xs q) p
 ·have e:i=xs.length:=by (first|lia|omega)
  subst e
  exact .inl ⟨⟨xs,q,Nat.le_refl _⟩,hd σ H p⟩
theorem zpX {lo:Int} {n:Nat} {g:TG} {tb:TS} {D:zce} {σ:St} {H:Hp} (Pv:Nat→St→Hp→Prop) (h0:Pv 0 σ H)
  (hs:∀ i σ H,i<n→Pv i σ H→g (.int (lo+i)) σ H fun σ2 H2=>tb { D with nx:=Pv (i+1),ct:=Pv (i+1),bk:=D.nx } σ2 H2) (hd:∀ σ H,Pv n σ H→D.nx σ H) :
  ∃ W:Nat→Nat→St→Hp→Prop,(∃ m,W 0 m σ H)∧∀ i m σ H,W i m σ H →
   ((Itr lo n).stop i H∧D.nx σ H)∨((Itr lo n).go i H∧∃ N:St→Hp→Prop,(∀ σ' H',N σ' H'→∃ m',m'<m∧W (i+1) m' σ' H')∧∀ x H',(Itr lo n).yld i H x H'→g x σ H' fun σ2 H2=>tb { D with nx:=N,ct:=N,bk:=D.nx } σ2 H2):=by
 refine ⟨fun i m σ H=>m=n - i∧i≤n∧Pv i σ H,⟨n,by simp,Nat.zero_le _,h0⟩,?_⟩
 rintro i m σ H ⟨rfl,hi,p⟩
 by_cases hlt:i<n
 ·refine .inr ⟨hlt,Pv (i+1),fun σ' H' p'=>⟨n - (i+1),by (first|lia|omega),rfl,hlt,p'⟩,fun x H' y=>?_⟩
  obtain ⟨e,y⟩:=y
  subst e y
  exact hs i σ _ hlt p
 ·have e:i=n:=by (first|lia|omega)
  subst e
  exact .inl ⟨Nat.le_refl _,hd σ H p⟩
end L2
namespace L2
open PySem PySem.Spec PyProof.Rows
abbrev R2:=V→V→Hp→VK→Prop
def OpR (X:Cx) (f:Value→Value→Sem Value) (r:R2):Prop :=
 ∀ (pins:List (Addr×Obj)) (s:Shared) (σ:St) (H:Hp) (x y:V) (v u:Value) (Q:VK),Inv X pins σ H s→zcs x v→zcs y u→r x y H Q →
  wpAny (model X.prog X.w) X.A (f v u) (EP X pins σ Q) X.xe s
def UnR (X:Cx) (f:Value→Sem Value) (r:V→Hp→VK→Prop):Prop :=
 ∀ (pins:List (Addr×Obj)) (s:Shared) (σ:St) (H:Hp) (x:V) (v:Value) (Q:VK),Inv X pins σ H s→zcs x v→r x H Q →
  wpAny (model X.prog X.w) X.A (f v) (EP X pins σ Q) X.xe s
def zfb (X:Cx) (f:Value) (r:List V→Hp→VK→Prop):Prop :=
 ∀ (pins:List (Addr×Obj)) (s:Shared) (σ:St) (H:Hp) (xs:List V) (us:List Value) (Q:VK),Inv X pins σ H s→zbY xs us→r xs H Q →
  wpAny (model X.prog X.w) X.A (call f us) (EP X pins σ Q) X.xe s
def TruR (X:Cx) (r:V→Hp→(Bool→Hp→Prop)→Prop):Prop :=
 ∀ (pins:List (Addr×Obj)) (s:Shared) (σ:St) (H:Hp) (x:V) (v:Value) (Q:Bool→Hp→Prop),Inv X pins σ H s→zcs x v→r x H Q →
  wpAny (model X.prog X.w) X.A (truthy v) (TP X pins σ Q) X.xe s
def tOp (r:R2) (ta tb:TE):TE:=fun σ H Q=>ta σ H fun x H1=>tb σ H1 fun y H2=>r x y H2 Q
def tUn (r:V→Hp→VK→Prop) (ta:TE):TE:=fun σ H Q=>ta σ H fun x H1=>r x H1 Q
def rI (C:Int→Int→Prop) (g:Int→Int→V):R2:=fun x y H Q=>∃ i j,x=.int i∧y=.int j∧C i j∧Q (g i j) H
def rI0 (g:Int→Int→V):R2:=fun x y H Q=>∃ i j,x=.int i∧y=.int j∧Q (g i j) H
def rU (g:Int→V):V→Hp→VK→Prop:=fun x H Q=>∃ i,x=.int i∧Q (g i) H
section
variable {X:Cx} {a b c:Expr} {ta tb tc:TE} {pos:Pos}
theorem binT (ha:PE X a ta) (hb:PE X b tb) {pins:List (Addr×Obj)} {s:Shared} {σ:St} {H:Hp} {R:V→V→Hp→Prop} (I:Inv X pins σ H s)
  (h:ta σ H fun x H1=>tb σ H1 fun y H2=>R x y H2) {Q:Value→Shared→Prop} {f:Value→Value→Sem Value}
  (hf:∀ v u s2 x y H2,Inv X pins σ H2 s2→zcs x v→zcs y u→R x y H2→wpAny (model X.prog X.w) X.A (f v u) Q X.xe s2) :
  wpAny (model X.prog X.w) X.A (eval a X.env) (fun v s₁=>wpAny (model X.prog X.w) X.A (eval b X.env) (fun u s₂=>wpAny (model X.prog X.w) X.A (f v u) Q X.xe s₂) X.xe s₁) X.xe s:=by
 refine thn (ha pins s σ H _ I h) fun v s1 hQ'=>?_
 obtain ⟨x,H1,I1,r1,q1⟩:=hQ'
 refine thn (hb pins s1 σ H1 _ I1 q1) fun u s2 hQ'=>?_
 obtain ⟨y,H2,I2,r2,q2⟩:=hQ'
 exact hf v u s2 x y H2 I2 r1 r2 q2
theorem zan {op:Operator} {r:R2} (ho:OpR X (binaryOp op) r) (ha:PE X a ta) (hb:PE X b tb):PE X (.BinOp a op b pos) (tOp r ta tb):=by
 intro pins s σ H Q I h
 exact wpAny_BinOp (binT ha hb I h fun v u s2 x y H2 I2 rx ry q=>ho pins s2 σ H2 x y v u Q I2 rx ry q)
theorem zjz {op:UnaryOp} {r:V→Hp→VK→Prop} (ho:UnR X (unaryOp op) r) (ha:PE X a ta):PE X (.UnaryOp op a pos) (tUn r ta):=by
 intro pins s σ H Q I h
 exact UnaryOp_ (thn (ha pins s σ H _ I h) fun v s1 ⟨x,H1,I1,r1,q1⟩=>ho pins s1 σ H1 x v Q I1 r1 q1)
theorem opI {f:Value→Value→Sem Value} {C:Int→Int→Prop} {g:Int→Int→Int}
  (rule:∀ (i j:Int) (t u:Tok) (s:Shared) (Q:Value→Shared→Prop) (E:Value→Shared→Prop),C i j→Q (.int (g i j) s.toks) { s with toks:=s.toks+1 }→wpAny (model X.prog X.w) X.A (f (.int i t) (.int j u)) Q E s) :
  OpR X f (rI C fun i j=>.int (g i j)):=by
 intro pins s σ H x y v u Q I rx ry h
 obtain ⟨i,j,rfl,rfl,hc,q⟩:=h
 obtain ⟨t,rfl⟩:=rx
 obtain ⟨t',rfl⟩:=ry
 exact rule i j t t' s _ _ hc ⟨.int (g i j),H,I.tok _,⟨_,rfl⟩,q⟩
theorem opI0 {f:Value→Value→Sem Value} {g:Int→Int→Int}
  (rule:∀ (i j:Int) (t u:Tok) (s:Shared) (Q:Value→Shared→Prop) (E:Value→Shared→Prop),Q (.int (g i j) s.toks) { s with toks:=s.toks+1 }→wpAny (model X.prog X.w) X.A (f (.int i t) (.int j u)) Q E s) :
  OpR X f (rI0 fun i j=>.int (g i j)):=by
 intro pins s σ H x y v u Q I rx ry h
 obtain ⟨i,j,rfl,rfl,q⟩:=h
 obtain ⟨t,rfl⟩:=rx
 obtain ⟨t',rfl⟩:=ry
 exact rule i j t t' s _ _ ⟨.int (g i j),H,I.tok _,⟨_,rfl⟩,q⟩
theorem opB0 {f:Value→Value→Sem Value} {g:Int→Int→Bool}
  (rule:∀ (i j:Int) (t u:Tok) (s:Shared) (Q:Value→Shared→Prop) (E:Value→Shared→Prop),Q (.bool (g i j)) s→wpAny (model X.prog X.w) X.A (f (.int i t) (.int j u)) Q E s) :
  OpR X f (rI0 fun i j=>.bl (g i j)):=by
 intro pins s σ H x y v u Q I rx ry h
 obtain ⟨i,j,rfl,rfl,q⟩:=h
 obtain ⟨t,rfl⟩:=rx
 obtain ⟨t',rfl⟩:=ry
 exact rule i j t t' s _ _ ⟨.bl (g i j),H,I,rfl,q⟩
def zk6 (i j:Int):Prop:=0≤j∧j≤1000000∧i.natAbs<2 ^ 64
theorem za0:OpR X (binaryOp .Add) (rI0 fun i j=>.int (i+j)):=opI0 fun _ _ _ _ _ _ _ q=>add_int q
theorem zgU:OpR X (binaryOp .Sub) (rI0 fun i j=>.int (i - j)):=opI0 fun _ _ _ _ _ _ _ q=>sub_int q
theorem za4:OpR X (binaryOp .Mod) (rI (fun _ j=>0<j) fun i j=>.int (i % j)):=opI fun i j _ _ _ _ _ hc q=>by
 have h1:(0:Int)<j:=hc
 exact mod_int' (by (first|lia|omega)) (by rw [Int.fmod_eq_emod_of_nonneg i (by (first|lia|omega))];exact q)
theorem zhN:OpR X (binaryOp .Pow) (rI zk6 fun i j=>.int (i ^ j.toNat)):=opI fun _ _ _ _ _ _ _ hc q=>pow_int_small hc.1 hc.2.1 hc.2.2 q
theorem unI {f:Value→Sem Value} {g:Int→Int}
  (rule:∀ (i:Int) (t:Tok) (s:Shared) (Q:Value→Shared→Prop) (E:Value→Shared→Prop),Q (.int (g i) s.toks) { s with toks:=s.toks+1 }→wpAny (model X.prog X.w) X.A (f (.int i t)) Q E s) :
  UnR X f (rU fun i=>.int (g i)):=by
 intro pins s σ H x v Q I rx h
 obtain ⟨i,rfl,q⟩:=h
 obtain ⟨t,rfl⟩:=rx
 exact rule i t s _ _ ⟨.int (g i),H,I.tok _,⟨_,rfl⟩,q⟩
theorem zgc:UnR X (unaryOp .USub) (rU fun i=>.int (-i)):=unI fun _ _ _ _ _ q=>neg_int q
end
def scal:V→V→Bool
 | .non,.non=>true | .non,.int _=>true | .int _,.non=>true | .non,.bl _=>true | .bl _,.non=>true | .non,.str _=>true | .str _,.non=>true
 | .int _,.int _=>true | .bl _,.bl _=>true | .str _,.str _=>true | .byt _,.byt _=>true
 | .int _,.str _=>true | .str _,.int _=>true | .bl _,.str _=>true | .str _,.bl _=>true
 | _,_=>false
def rEq:R2:=fun x y H Q=>scal x y=true∧Q (.bl (decide (x=y))) H
def rNe:R2:=fun x y H Q=>scal x y=true∧Q (.bl (!decide (x=y))) H
theorem zo8 {i j:Int}:decide (V.int i=V.int j)=(i == j):=by
 rw [Bool.eq_iff_iff]
 simp
theorem zsH {i j:Bool}:decide (V.bl i=V.bl j)=(i == j):=by
 rw [Bool.eq_iff_iff]
 simp
theorem zoB {i j:Str}:decide (V.str i=V.str j)=(i == j):=by
 rw [Bool.eq_iff_iff]
 simp
theorem zpP {i j:Array UInt8}:decide (V.byt i=V.byt j)=(i.toList == j.toList):=by
 rw [Bool.eq_iff_iff]
 cases i
 cases j
 simp
section
variable {X:Cx} {a b c:Expr} {ta tb tc:TE} {pos:Pos}
theorem zbC {pins:List (Addr×Obj)} {σ:St} {H:Hp} {s:Shared} {Q:VK} {k k':Bool} (I:Inv X pins σ H s) (q:Q (.bl k) H) (e:k=k'):EP X pins σ Q (.bool k') s:=by
 subst e
 exact ⟨.bl k,H,I,rfl,q⟩
theorem zej:OpR X (compareOp .Eq) rEq:=by
 intro pins s σ H x y v u Q I rx ry h
 obtain ⟨hs,q⟩:=h
 cases x with
 | non =>
  cases rx
  cases y with
  | non=>cases ry;exact PySem.EqNone.eq_none_none (zbC I q (by simp))
  | bl j=>cases ry;exact PySem.EqNone.eq_none_bool (zbC I q (by simp))
  | int j=>obtain ⟨t',rfl⟩:=ry;exact PySem.EqNone.eq_none_int (zbC I q (by simp))
  | str j=>obtain ⟨t',rfl⟩:=ry;exact PySem.EqNone.eq_none_str (zbC I q (by simp))
  | _=>exact absurd (show false=true from hs) Bool.false_ne_true
 | bl i =>
  cases rx
  cases y with
  | non=>cases ry;exact PySem.EqNone.eq_bool_none (zbC I q (by simp))
  | bl j=>cases ry;exact eq_bool (zbC I q zsH)
  | str j=>obtain ⟨t',rfl⟩:=ry;exact PySem.EqMixed.eq_bool_str (zbC I q (by simp))
  | _=>exact absurd (show false=true from hs) Bool.false_ne_true
 | int i =>
  obtain ⟨t,rfl⟩:=rx
  cases y with
  | non=>cases ry;exact PySem.EqNone.eq_int_none (zbC I q (by simp))
  | int j=>obtain ⟨t',rfl⟩:=ry;exact eq_int (zbC I q zo8)
  | str j=>obtain ⟨t',rfl⟩:=ry;exact PySem.EqMixed.eq_int_str (zbC I q (by simp))
  | _=>exact absurd (show false=true from hs) Bool.false_ne_true
 | str i =>
  obtain ⟨t,rfl⟩:=rx
  cases y with
  | non=>cases ry;exact PySem.EqNone.eq_str_none (zbC I q (by simp))
  | bl j=>cases ry;exact PySem.EqMixed.eq_str_bool (zbC I q (by simp))
  | int j=>obtain ⟨t',rfl⟩:=ry;exact PySem.EqMixed.eq_str_int (zbC I q (by simp))
  | str j=>obtain ⟨t',rfl⟩:=ry;exact eq_str (zbC I q zoB)
  | _=>exact absurd (show false=true from hs) Bool.false_ne_true
 | byt i =>
  obtain ⟨t,rfl⟩:=rx
  cases y with
  | byt j=>obtain ⟨t',rfl⟩:=ry;exact PySem.W.eq_bytes (zbC I q zpP)
  | _=>exact absurd (show false=true from hs) Bool.false_ne_true
 | _=>cases y <;> exact absurd (show false=true from hs) Bool.false_ne_true
theorem zeq:OpR X (compareOp .NotEq) rNe:=by
 intro pins s σ H x y v u Q I rx ry h
 obtain ⟨hs,q⟩:=h
 cases x with
 | non =>
  cases rx
  cases y with
  | non=>cases ry;exact PySem.EqNone.ne_none_none (zbC I q (by simp))
  | bl j=>cases ry;exact PySem.EqNone.ne_none_bool (zbC I q (by simp))
  | int j=>obtain ⟨t',rfl⟩:=ry;exact PySem.EqNone.ne_none_int (zbC I q (by simp))
  | str j=>obtain ⟨t',rfl⟩:=ry;exact PySem.EqNone.ne_none_str (zbC I q (by simp))
  | _=>exact absurd (show false=true from hs) Bool.false_ne_true
 | bl i =>
  cases rx
  cases y with
  | non=>cases ry;exact PySem.EqNone.ne_bool_none (zbC I q (by simp))
  | bl j=>cases ry;exact ne_bool (zbC I q (congrArg not zsH))
  | str j=>obtain ⟨t',rfl⟩:=ry;exact PySem.EqMixed.ne_bool_str (zbC I q (by simp))
  | _=>exact absurd (show false=true from hs) Bool.false_ne_true
 | int i =>
  obtain ⟨t,rfl⟩:=rx
  cases y with
  | non=>cases ry;exact PySem.EqNone.ne_int_none (zbC I q (by simp))
  | int j=>obtain ⟨t',rfl⟩:=ry;exact ne_int (zbC I q (congrArg not zo8))
  | str j=>obtain ⟨t',rfl⟩:=ry;exact PySem.EqMixed.ne_int_str (zbC I q (by simp))
  | _=>exact absurd (show false=true from hs) Bool.false_ne_true
 | str i =>
  obtain ⟨t,rfl⟩:=rx
  cases y with
  | non=>cases ry;exact PySem.EqNone.ne_str_none (zbC I q (by simp))
  | bl j=>cases ry;exact PySem.EqMixed.ne_str_bool (zbC I q (by simp))
  | int j=>obtain ⟨t',rfl⟩:=ry;exact PySem.EqMixed.ne_str_int (zbC I q (by simp))
  | str j=>obtain ⟨t',rfl⟩:=ry;exact ne_str (zbC I q (congrArg not zoB))
  | _=>exact absurd (show false=true from hs) Bool.false_ne_true
 | byt i =>
  obtain ⟨t,rfl⟩:=rx
  cases y with
  | byt j=>obtain ⟨t',rfl⟩:=ry;exact PySem.W.ne_bytes (zbC I q (congrArg not zpP))
  | _=>exact absurd (show false=true from hs) Bool.false_ne_true
 | _=>cases y <;> exact absurd (show false=true from hs) Bool.false_ne_true
theorem zlK:OpR X (compareOp .Lt) (rI0 fun i j=>.bl (decide (i<j))):=opB0 fun _ _ _ _ _ _ _ q=>lt_int q
theorem znx:OpR X (compareOp .LtE) (rI0 fun i j=>.bl (decide (i≤j))):=opB0 fun _ _ _ _ _ _ _ q=>le_int q
theorem zrb:OpR X (compareOp .Gt) (rI0 fun i j=>.bl (decide (j<i))):=opB0 fun _ _ _ _ _ _ _ q=>gt_int q
theorem op_ge:OpR X (compareOp .GtE) (rI0 fun i j=>.bl (decide (j≤i))):=opB0 fun _ _ _ _ _ _ _ q=>ge_int q
theorem zpo:OpR X (compareOp .In) (fun x y H Q=>∃ i j,x=.str i∧y=.str j∧Q (.bl (!(Builtin.Str.occurrences j i 0 j.length 1).isEmpty)) H):=by
 intro pins s σ H x y v u Q I rx ry h
 obtain ⟨i,j,rfl,rfl,q⟩:=h
 obtain ⟨t,rfl⟩:=rx
 obtain ⟨t',rfl⟩:=ry
 exact in_str (zbC I q rfl)
theorem zgV:OpR X (compareOp .Is) (fun x y H Q=>y=.non∧Q (.bl (decide (x=.non))) H):=by
 intro pins s σ H x y v u Q I rx ry h
 obtain ⟨rfl,q⟩:=h
 cases ry
 refine is_none_gen (zbC I q ?_)
 cases x <;> first
  | (cases rx;rfl)
  | (obtain ⟨t,rfl⟩:=rx;rfl)
theorem zaL (b:Expr) {op:CmpOp} (h:op≠.In:=by decide) (h2:op≠.NotIn:=by decide):behindInMarks op b=false:=by
 have e1:(op == CmpOp.In)=false:=by cases op <;> first | rfl | exact absurd rfl h
 have e2:(op == CmpOp.NotIn)=false:=by cases op <;> first | rfl | exact absurd rfl h2
 cases b <;> simp [behindInMarks,e1,e2]
theorem zlu {op:CmpOp} {r:R2} (ho:OpR X (compareOp op) r) (ha:PE X a ta) (hb:PE X b tb) (hm:behindInMarks op b=false):PE X (.Compare a [op] [b] pos) (tOp r ta tb):=by
 intro pins s σ H Q I h
 exact wpAny_Compare1 (binT ha hb I h fun v u s2 x y H2 I2 rx ry q=>ho pins s2 σ H2 x y v u Q I2 rx ry q) hm
def zav (t:TE):TT:=fun σ H Q=>t σ H fun x H'=>∃ k,x=.bl k∧Q k H'
theorem zat {op:CmpOp} {r:R2} (ho:OpR X (compareOp op) r) (ha:PE X a ta) (hb:PE X b tb) (hm:behindInMarks op b=false):PT X (.Compare a [op] [b] pos) (zav (tOp r ta tb)):=by
 intro pins s σ H Q I h
 refine wpAny_isTrue_Compare1 (thn (ha pins s σ H _ I h) fun v s1 ⟨x,H1,I1,r1,q1⟩=>thn (hb pins s1 σ H1 _ I1 q1) fun u s2 ⟨y,H2,I2,r2,q2⟩ =>
  thn (ho pins s2 σ H2 x y v u _ I2 r1 r2 q2) fun c s3 ⟨z,H3,I3,r3,k,e,q3⟩=>?_) hm
 subst e
 cases r3
 exact wpAny_truthy_bool ⟨H3,I3,q3⟩
def zg4 (r r':R2) (ta tb tc:TE):TE:=fun σ H Q=>ta σ H fun x H1=>tb σ H1 fun y H2=>r x y H2 fun z H3=>∃ k,z=.bl k ∧
 (if k=true then tc σ H3 fun w' H4=>r' y w' H4 Q else Q (.bl false) H3)
theorem zrS {op op':CmpOp} {r r':R2} (ho:OpR X (compareOp op) r) (ho':OpR X (compareOp op') r') (ha:PE X a ta) (hb:PE X b tb) (hc:PE X c tc)
  (hm:lastMarks [op,op'] [b,c]=false:=by with_unfolding_all rfl):PE X (.Compare a [op,op'] [b,c] pos) (zg4 r r' ta tb tc):=by
 intro pins s σ H Q I h
 refine Compare_chain (thn (ha pins s σ H _ I h) fun v s1 ⟨x,H1,I1,r1,q1⟩=>chain_link (thn (hb pins s1 σ H1 _ I1 q1) fun u s2 ⟨y,H2,I2,r2,q2⟩ =>
  thn (ho pins s2 σ H2 x y v u _ I2 r1 r2 q2) fun d s3 ⟨z,H3,I3,r3,k,e,q3⟩=>?_)) hm
 subst e
 cases r3
 refine wpAny_truthy_bool ?_
 cases k with
 | false=>exact ite_ff ⟨.bl false,H3,I3,rfl,q3⟩
 | true=>exact ite_tt (chain_last (thn (hc pins s3 σ H3 _ I3 q3) fun w' s4 ⟨z',H4,I4,r4,q4⟩=>ho' pins s4 σ H4 y z' u w' Q I4 r2 r4 q4))
theorem zmI {op op':CmpOp} {r r':R2} (ho:OpR X (compareOp op) r) (ho':OpR X (compareOp op') r') (ha:PE X a ta) (hb:PE X b tb) (hc:PE X c tc)
  (hm:lastMarks [op,op'] [b,c]=false:=by with_unfolding_all rfl):PT X (.Compare a [op,op'] [b,c] pos) (zav (zg4 r r' ta tb tc)):=by
 intro pins s σ H Q I h
 refine isTrue_chain (thn (ha pins s σ H _ I h) fun v s1 ⟨x,H1,I1,r1,q1⟩=>test_link (thn (hb pins s1 σ H1 _ I1 q1) fun u s2 ⟨y,H2,I2,r2,q2⟩ =>
  thn (ho pins s2 σ H2 x y v u _ I2 r1 r2 q2) fun d s3 ⟨z,H3,I3,r3,k,e,q3⟩=>?_)) hm
 subst e
 cases r3
 refine wpAny_truthy_bool ?_
 cases k with
 | false =>
  obtain ⟨k',e',q'⟩:=q3
  cases e'
  exact ite_ff ⟨H3,I3,q'⟩
 | true =>
  refine ite_tt (test_last (thn (hc pins s3 σ H3 _ I3 q3) fun w' s4 ⟨z',H4,I4,r4,q4⟩=>thn (ho' pins s4 σ H4 y z' u w' _ I4 r2 r4 q4) fun d' s5 hQ'=>?_))
  obtain ⟨z2,H5,I5,r5,k2,e2,q5⟩:=hQ'
  subst e2
  cases r5
  exact wpAny_truthy_bool ⟨H5,I5,q5⟩
def zu3 (K:PySem.W.Frag) (x:V) (H:Hp) (k:Bool):Prop :=
 match x with
 | .non=>k=false
 | .bl b=>k=b
 | .int i=>k=(i != 0)
 | .str y=>y.length≤sizeLine∧k=((y.length:Int) != 0)
 | .byt y=>y.size≤sizeLine∧k=((y.size:Int) != 0)
 | .ref p=>(∃ xs,SqL K H p xs∧k=!xs.isEmpty)∨(∃ xs,SqT K H p xs∧k=!xs.isEmpty)∨∃ kvs,H p=some (.dK kvs)∧k=!kvs.isEmpty
 | _=>False
theorem zn6 {κ:Type} {kvs:List (κ×V)} {vs:List (κ×Value)} (r:KV kvs vs):(!vs.isEmpty)=!kvs.isEmpty:=by
 cases r <;> rfl
theorem ziN {xs:List V} {its:List Value} (r:zbY xs its):(!its.toArray.isEmpty)=!xs.isEmpty:=by
 cases r <;> simp
theorem ziH:(sizeLine:Nat)<2 ^ 63:=by rw [sizeLine_eq];decide
theorem zvw:TruR X (fun x H Q=>∃ k,zu3 X.K x H k∧Q k H):=by
 intro pins s σ H x v Q I rx h
 obtain ⟨k,e,q⟩:=h
 have hl:=ziH
 have hs:sizeLine=16777216:=sizeLine_eq
 cases x with
 | non =>
  cases rx
  have e':k=false:=e
  subst e'
  exact truthy_none ⟨H,I,q⟩
 | bl b =>
  cases rx
  have e':k=b:=e
  subst e'
  exact wpAny_truthy_bool ⟨H,I,q⟩
 | int i =>
  obtain ⟨t,rfl⟩:=rx
  have e':k=(i != 0):=e
  subst e'
  exact PySem.P.truthy_int ⟨H,I,q⟩
 | str y =>
  obtain ⟨t,rfl⟩:=rx
  obtain ⟨hy,e'⟩:y.length≤sizeLine∧k=((y.length:Int) != 0):=e
  subst e'
  exact PySem.P.truthy_str (by (first|lia|omega)) ⟨H,I.tok _,q⟩
 | byt y =>
  obtain ⟨t,rfl⟩:=rx
  obtain ⟨hy,e'⟩:y.size≤sizeLine∧k=((y.size:Int) != 0):=e
  subst e'
  exact PySem.W.truthy_bytes (by (first|lia|omega)) ⟨H,I.tok _,q⟩
 | ref p =>
  cases rx
  have e':(∃ xs,SqL X.K H p xs∧k=!xs.isEmpty)∨(∃ xs,SqT X.K H p xs∧k=!xs.isEmpty)∨∃ kvs,H p=some (.dK kvs)∧k=!kvs.isEmpty:=e
  rcases e' with ⟨xs,hx,e'⟩ | ⟨xs,hx,e'⟩ | ⟨kvs,hx,e'⟩
  ·subst e'
   obtain ⟨its,r,pl,hz⟩:=I.list hx
   have hlen:=r.length
   exact wpAny_truthy_list pl.isList (by simp only [List.size_toArray];(first|lia|omega)) ⟨H,I.tok _,by rw [ziN r];exact q⟩
  ·subst e'
   obtain ⟨its,r,pl,hz⟩:=I.tuple hx
   have hlen:=r.length
   exact truthy_tuple pl (by simp only [List.size_toArray];(first|lia|omega)) ⟨H,I.tok _,by rw [ziN r];exact q⟩
  ·subst e'
   obtain ⟨hz,hS,vs,r,m⟩:kvs.length≤sizeLine∧(p == sysModules)=false∧∃ vs,KV kvs vs∧s.heap.DictOf (zcp X.prog X.w) p vs:=I.hok p _ hx
   have hlen:kvs.length=vs.length:=Paired.length r
   exact wpAny_truthy_dict hS m (by (first|lia|omega)) ⟨H,I.tok _,by rw [zn6 r];exact q⟩
 | _=>exact (show False from e).elim
theorem zjm (ha:PE X a ta) (he:∀ whole,isTrue a X.env whole=(do let v ← whole;standAt a.pos;holding [v] (truthy v))) :
  PT X a (fun σ H Q=>ta σ H fun x H'=>∃ k,zu3 X.K x H' k∧Q k H'):=by
 intro pins s σ H Q I h
 exact isTrue_plain (thn (ha pins s σ H _ I h) fun v s1 ⟨x,H1,I1,r1,q1⟩=>zvw pins s1 σ H1 x v Q I1 r1 q1) (he _)
theorem zm8:OpR X (binaryOp .Add) (fun x y H Q=>∃ i j,x=.str i∧y=.str j∧i.length+j.length≤sizeLine∧Q (.str (i++j)) H):=by
 intro pins s σ H x y v u Q I rx ry h
 obtain ⟨i,j,rfl,rfl,hz,q⟩:=h
 obtain ⟨t,rfl⟩:=rx
 obtain ⟨t',rfl⟩:=ry
 exact add_str (fun t' tk=>⟨.str (i++j),H,I.tok _,⟨_,rfl⟩,q⟩) hz
theorem zfc {x:V} {us:List Value} (r:zbY [x] us):∃ u,us=[u]∧zcs x u:=by
 cases r with
 | cons r1 r2=>cases r2;exact ⟨_,rfl,r1⟩
theorem zoe {x y:V} {us:List Value} (r:zbY [x,y] us):∃ u w',us=[u,w']∧zcs x u∧zcs y w':=by
 cases r with
 | cons r1 r2 =>
  cases r2 with
  | cons r3 r4=>cases r4;exact ⟨_,_,rfl,r1,r3⟩
theorem zk2 (hc:X.calm=true):zfb X (.builtin "min") (fun xs H Q=>∃ i j,xs=[.int i,.int j]∧Q (.int (if j<i then j else i)) H):=by
 intro pins s σ H xs us Q I r h
 obtain ⟨i,j,rfl,q⟩:=h
 obtain ⟨u,w',rfl,⟨t,rfl⟩,⟨t',rfl⟩⟩:=zoe r
 refine min_two_ints (I.ok.hd hc) fun h' tk k=>⟨_,H,I.kept k,?_,q⟩
 by_cases hj:j<i
 ·rw [if_pos hj,if_pos hj];exact ⟨_,rfl⟩
 ·rw [if_neg hj,if_neg hj];exact ⟨_,rfl⟩
theorem zpd:zfb X (.type "int") (fun xs H Q=>(∃ i,xs=[.int i]∧Q (.int i) H)∨∃ k,xs=[.bl k]∧Q (.int (if k then 1 else 0)) H):=by
 intro pins s σ H xs us Q I r h
 rcases h with ⟨i,rfl,q⟩ | ⟨k,rfl,q⟩
 ·obtain ⟨u,rfl,t,rfl⟩:=zfc r
  exact call_int_int ⟨.int i,H,I,⟨_,rfl⟩,q⟩
 ·obtain ⟨u,rfl,r1⟩:=zfc r
  cases r1
  exact call_int_bool ⟨.int (if k then 1 else 0),H,I.tok _,⟨_,rfl⟩,q⟩
theorem zkt:zfb X (.type "str") (fun xs H Q=>∃ i,xs=[.int i]∧i.natAbs.log2<1920∧Q (.str (toString i)) H):=by
 intro pins s σ H xs us Q I r h
 obtain ⟨i,rfl,hz,q⟩:=h
 obtain ⟨u,rfl,t,rfl⟩:=zfc r
 exact PySem.P.str_of_int hz ⟨.str _,H,I.tok _,⟨_,rfl⟩,q⟩
def LenV (K:PySem.W.Frag) (x:V) (H:Hp) (n:Nat):Prop :=
 match x with
 | .str y=>y.length≤sizeLine∧n=y.length
 | .byt y=>y.size≤sizeLine∧n=y.size
 | .ref p=>(∃ xs,SqL K H p xs∧n=xs.length)∨∃ xs,SqT K H p xs∧n=xs.length
 | _=>False
theorem zq7:zfb X (.builtin "len") (fun xs H Q=>∃ x n,xs=[x]∧LenV X.K x H n∧Q (.int n) H):=by
 intro pins s σ H xs us Q I r h
 obtain ⟨x,n,rfl,e,q⟩:=h
 obtain ⟨u,rfl,rx⟩:=zfc r
 have hl:=ziH
 have hs:sizeLine=16777216:=sizeLine_eq
 cases x with
 | str y =>
  obtain ⟨t,rfl⟩:=rx
  obtain ⟨hy,e'⟩:y.length≤sizeLine∧n=y.length:=e
  subst e'
  exact len_str (by (first|lia|omega)) ⟨.int _,H,I.tok _,⟨_,rfl⟩,q⟩
 | byt y =>
  obtain ⟨t,rfl⟩:=rx
  obtain ⟨hy,e'⟩:y.size≤sizeLine∧n=y.size:=e
  subst e'
  exact PySem.W.len_bytes (by (first|lia|omega)) ⟨.int _,H,I.tok _,⟨_,rfl⟩,q⟩
 | ref p =>
  cases rx
  have e':(∃ xs,SqL X.K H p xs∧n=xs.length)∨∃ xs,SqT X.K H p xs∧n=xs.length:=e
  rcases e' with ⟨xs,hx,e'⟩ | ⟨xs,hx,e'⟩
  ·subst e'
   obtain ⟨its,r',pl,hz⟩:=I.list hx
   have hlen:=r'.length
   exact Calls.call_len_list pl.isList (by simp only [List.size_toArray];(first|lia|omega)) ⟨.int xs.length,H,I.tok _,⟨_,by simp only [List.size_toArray];rw [hlen]⟩,q⟩
  ·subst e'
   obtain ⟨its,r',pl,hz⟩:=I.tuple hx
   have hlen:=r'.length
   exact len_tuple pl (by simp only [List.size_toArray];(first|lia|omega)) ⟨.int xs.length,H,I.tok _,⟨_,by simp only [List.size_toArray];rw [hlen]⟩,q⟩
 | _=>exact (show False from e).elim
end
end L2
namespace L2
open PySem PySem.Spec PyProof.Rows
structure ObjM (h:Heap) (x dx C:Addr) (mA:Str→Option Value):Prop where
 obj:h.get? x=some (PySem.W.instObj C dx)
 ns:h.Ns1 dx mA
 ne:dx≠x
theorem zkm {h:Heap} {dx:Addr} {mA:Str→Option Value} (n:h.Ns1 dx mA):∃ od,h.get? dx=some od∧∀ name,PySem.W.lookIn name od=some (mA name):=by
 obtain ⟨o,es,ep,ho,hd,hk,_,hm⟩:=n
 refine ⟨o,ho,fun name=>?_⟩
 have e:=hm name
 unfold nsFind findBy at e
 rw [← Array.find?_toList] at e
 unfold PySem.W.lookIn
 rw [hd]
 dsimp only
 split
 ·rename_i y q
  rw [q] at e
  exact congrArg some e
 ·rename_i q
  rw [q] at e
  have a:es.toList.any (·.refKey)=false:=by
   rw [List.any_eq_false]
   intro y hy
   obtain ⟨z,t,hkey⟩:=hk y (Array.mem_toList_iff.mp hy)
   simp [DictEntry.refKey,hkey]
  have a':¬ es.toList.any (·.refKey)=true:=by rw [a];exact Bool.false_ne_true
  rw [if_neg a']
  exact congrArg some e
theorem ObjM.look {h:Heap} {x dx C:Addr} {mA:Str→Option Value} (I:ObjM h x dx C mA):∃ od,PySem.W.InstAt h x (PySem.W.instObj C dx) C (some od)∧∀ name,PySem.W.lookIn name od=some (mA name) :=
 let ⟨od,ho,hl⟩:=zkm I.ns
 ⟨od,⟨I.obj,rfl,rfl,ho⟩,hl⟩
section
variable {prog:Program} {w:World} {A:Around} {E:Value→Shared→Prop} {s:Shared} {K:PySem.W.Frag} {x dx C f:Addr} {mA:Str→Option Value} {name:Str} {v:Value}
end
theorem zpq.some_of {v:V} {o:Option Value} (r:zpq (some v) o):∃ u,o=some u∧zcs v u:=by
 cases o with
 | none=>exact (show False from r).elim
 | some u=>exact ⟨u,rfl,r⟩
theorem zqk {v:V} {u:Value} (r:zcs v u):PySem.W.handedIn u=true:=by
 cases v with
 | non=>cases (show u=Value.none from r);rfl
 | bl b=>cases (show u=Value.bool b from r);rfl
 | int i=>obtain ⟨t,e⟩:=(show ∃ t,u=Value.int i t from r);cases e;rfl
 | str x=>obtain ⟨t,e⟩:=(show ∃ t,u=Value.str x t from r);cases e;rfl
 | byt b=>obtain ⟨t,e⟩:=(show ∃ t,u=Value.bytes b t from r);cases e;rfl
 | flt b=>obtain ⟨t,e⟩:=(show ∃ t,u=Value.float b t from r);cases e;rfl
 | ref a=>cases (show u=Value.ref a from r);rfl
 | ty n=>cases (show u=Value.type n from r);rfl
section
variable {P:Program} {w:World} {H H':Hp} {h h':Heap} {a C dx:Addr} {fs fs':List (Str×V)}
theorem zt1 (hok:HOk P w H h) (e:H a=some (.ins C dx fs)):∃ mA,ObjM h a dx C mA∧(∀ f,zpq (fs.lookup f) (mA f))∧PySem.Within mA (fs.map (·.1))∧fs.length≤1000∧H dx=some (.own a):=by
 obtain ⟨d,z,ne,ob,mA,n,r,q⟩:=(show zbS P w H h a (.ins C dx fs) from hok a _ e)
 exact ⟨mA,⟨ob,n,ne⟩,r,q,z,d⟩
end
structure Cls (K:PySem.W.Frag) (C:Addr):Prop where
 pg:PySem.W.plainGet K C Str.empty=true
 hd:PySem.W.hasDictIn K C=true
 po:PySem.W.plainOver K C=true
 sa:PySem.W.findIn K (.ref C) "__setattr__"=some (some (.builtin "object.__setattr__"))
theorem Cls.get {K:PySem.W.Frag} {C:Addr} (c:Cls K C) (f:Str):PySem.W.plainGet K C f=true:=c.pg
section
variable {X:Cx} {pins:List (Addr×Obj)} {σ:St} {H:Hp} {s:Shared} {a C dx:Addr} {fs:List (Str×V)} {f:Str} {v:V} {A:Around} {E:Value→Shared→Prop}
theorem zuo {prog:Program} {w:World} {env:Env} {e:Expr} {f:Str} {pos:Pos} {s:Shared} {Q:Value→Shared→Prop} (hb:attributeBase e f env (eval e env)=eval e env)
  (h:wpAny (model prog w) A (eval e env) (fun o s₁=>wpAny (model prog w) A (getAttr o f true) Q E s₁) E s):wpAny (model prog w) A (eval (.Attribute e f pos) env) Q E s :=
 Attribute_any_ h (by rw [arm_eval_Attribute,hb])
end
section
variable {X:Cx} {o e value:Expr} {f:Str} {pos pos' tpos:Pos} {ta tv:TE}
end
section
variable {X:Cx} {pins:List (Addr×Obj)} {σ:St} {H:Hp} {s:Shared} {A:Around} {E:Value→Shared→Prop} {Q:Value→Shared→Prop} {c:Value} {b:Bool}
inductive znO (K:PySem.W.Frag) (H:Hp):V→Value→Prop where
 | non:znO K H .non (.type "NoneType")
 | bl (x:Bool):znO K H (.bl x) (.type "bool")
 | int (i:Int):znO K H (.int i) (.type "int")
 | str (x:Str):znO K H (.str x) (.type "str")
 | flt (x:UInt64):znO K H (.flt x) (.type "float")
 | lst {a:Addr} {xs:List V} (e:H a=some (.lst xs)):znO K H (.ref a) (.type "list")
 | frz {a:Addr} {o:Obj} {xs:List V} (e:H a=some (.frz o (.lst xs))):znO K H (.ref a) (.type "list")
 | tup {a:Addr} {xs:List V} (e:H a=some (.tup xs)):znO K H (.ref a) (.type "tuple")
 | dK {a:Addr} {kvs:List (Key×V)} (e:H a=some (.dK kvs)):znO K H (.ref a) (.type "dict")
 | dT {a:Addr} {kvs:List (List Key×V)} (e:H a=some (.dT kvs)):znO K H (.ref a) (.type "dict")
 | ins {a C dx:Addr} {fs:List (Str×V)} (e:H a=some (.ins C dx fs)) (cl:Cls K C) (ha:PySem.W.findIn K (.ref C) "__class__"=some (some (.builtin "object.__class__")))
   (hn:PySem.W.specialIn K (.builtin "object.__class__") "__get__"=some (some (.builtin "getset_descriptor.__get__"))) (htk:PySem.W.takesIn K (.builtin "object.__class__")=some true)
   (hm:PySem.W.mroIn K C (.type "object")=some true):znO K H (.ref a) (.ref C)
theorem zpr {x:V} {u t:Value} (I:Inv X pins σ H s) (rx:zcs x u) (ty:znO X.K H x t) (e:PySem.W.kitOne X.K t c=some b) (h:∀ tk,Q (.bool b) { s with toks:=tk }) :
  wpAny (model X.prog X.w) A (call (.builtin "isinstance") [u,c]) Q E s:=by
 cases ty with
 | non=>cases (show u=Value.none from rx);exact PySem.W.kia_one PySem.W.kitx_none I.kIn True.intro e (fun z=>nomatch z) h
 | bl y=>cases (show u=Value.bool y from rx);exact PySem.W.kia_one PySem.W.kitx_bool I.kIn True.intro e (fun z=>nomatch z) h
 | int i=>obtain ⟨t,q⟩:=(show ∃ t,u=Value.int i t from rx);cases q;exact PySem.W.kia_one PySem.W.kitx_int I.kIn True.intro e (fun z=>nomatch z) h
 | str y=>obtain ⟨t,q⟩:=(show ∃ t,u=Value.str y t from rx);cases q;exact PySem.W.kia_one PySem.W.kitx_str I.kIn True.intro e (fun z=>nomatch z) h
 | flt y=>obtain ⟨t,q⟩:=(show ∃ t,u=Value.float y t from rx);cases q;exact PySem.W.kia_one PySem.W.kitx_float I.kIn True.intro e (fun z=>nomatch z) h
 | @lst a xs ea =>
  cases (show u=Value.ref a from rx)
  obtain ⟨_,_,n,_,h1⟩:=(show zbS X.prog X.w H s.heap a (.lst xs) from I.hok a _ ea)
  exact PySem.W.kia_one PySem.W.kitx_list I.kIn ⟨_,h1,rfl⟩ e (fun z=>nomatch z) h
 | @frz a ob xs ea =>
  cases (show u=Value.ref a from rx)
  obtain ⟨_,_,_,n,_,h1⟩:=(show zbS X.prog X.w H s.heap a (.frz ob (.lst xs)) from I.hok a _ ea)
  exact PySem.W.kia_one PySem.W.kitx_list I.kIn ⟨_,h1,rfl⟩ e (fun z=>nomatch z) h
 | @tup a xs ea =>
  cases (show u=Value.ref a from rx)
  obtain ⟨_,_,_,p⟩:=(show zbS X.prog X.w H s.heap a (.tup xs) from I.hok a _ ea)
  obtain ⟨o,h1,h2,_⟩:=p
  exact PySem.W.kia_one PySem.W.kitx_tuple I.kIn ⟨o,h1,h2⟩ e (fun z=>nomatch z) h
 | @dK a kvs ea =>
  cases (show u=Value.ref a from rx)
  obtain ⟨_,_,vs,_,p⟩:=(show zbS X.prog X.w H s.heap a (.dK kvs) from I.hok a _ ea)
  obtain ⟨o,es,ep,h1,h2,_⟩:=p
  exact PySem.W.kia_one PySem.W.kitx_dict I.kIn ⟨o,h1,h2.1⟩ e (fun z=>nomatch z) h
 | @dT a kvs ea =>
  cases (show u=Value.ref a from rx)
  obtain ⟨_,_,xs,_,o,es,ep,h1,h2,_⟩:=(show zbS X.prog X.w H s.heap a (.dT kvs) from I.hok a _ ea)
  exact PySem.W.kia_one PySem.W.kitx_dict I.kIn ⟨o,h1,h2.1⟩ e (fun z=>nomatch z) h
 | @ins a C dx fs ea cl ha hn htk hm =>
  cases (show u=Value.ref a from rx)
  obtain ⟨mA,O,_⟩:=zt1 I.hok ea
  obtain ⟨od,J,_⟩:=O.look
  exact PySem.W.kia_one (PySem.W.kitx_own (cl.get _) cl.hd ha hn htk hm) I.kIn J e (fun z=>nomatch z) h
end
end L2
namespace L2
open PySem PySem.Spec PyProof.Rows
structure zek (k:Nat) (A:Around):Prop where
 hd:A.handled=none
 dp:A.depth+3*k+5<recursionLimit
 un:A.units+16*k+200<cLine
theorem zek.mono {j k:Nat} {A:Around} (r:zek k A) (h:j≤k):zek j A:=⟨r.hd,by have:=r.dp;(first|lia|omega),by have:=r.un;(first|lia|omega)⟩
theorem zek.deeper {k:Nat} {A:Around} (r:zek (k+1) A) (env:Env):zek k (A.deeper env) :=
 ⟨r.hd,by have:=r.dp;show A.depth+1+3*k+5<_;(first|lia|omega),by have:=r.un;show A.units+3+16*k+200<_;(first|lia|omega)⟩
theorem ziw {A:Around} {C:Addr} {us:List Value} {kw:List (Str×Value)}:(A.under (.builtin "type.__call__" ⟨.ref C::us,kw⟩)).depth=A.depth+1:=by
 first | rfl | simp [Around.under,Code.weight,Code.isCreation,Code.isGuard,Code.isCaller,Code.frames,Code.isFrame,guardIds]
theorem ziu {A:Around} {C:Addr} {us:List Value} {kw:List (Str×Value)}:(A.under (.builtin "type.__call__" ⟨.ref C::us,kw⟩)).units=A.units+1:=by
 first | rfl | simp [Around.under,Code.cUnits,Code.frames,Code.isFrame]
theorem zek.make {k:Nat} {A:Around} (r:zek (k+1) A) (C:Addr) (us:List Value) (kw:List (Str×Value)):zek k (A.under (.builtin "type.__call__" ⟨.ref C::us,kw⟩)) :=
 ⟨r.hd,by have:=r.dp;rw [ziw];(first|lia|omega),by have:=r.un;rw [ziu];(first|lia|omega)⟩
theorem zek.depth {k:Nat} {A:Around} (r:zek k A):A.depth<recursionLimit:=by have:=r.dp;(first|lia|omega)
theorem zek.units {k:Nat} {A:Around} (r:zek k A):A.units+64<cLine:=by have:=r.un;(first|lia|omega)
def zak:TA:=fun _ H Q=>Q [] H
def zab (ta:TE) (tr:TA):TA:=fun σ H Q=>ta σ H fun x H1=>tr σ H1 fun xs H2=>Q (x::xs) H2
section
variable {X:Cx} {e:Expr} {es:List Expr} {te:TE} {t:TA} {pos:Pos}
theorem zae:PA X [] zak:=fun _ _ _ _ H Q I h=>Calls.spliced_nil ⟨[],H,I,.nil,h⟩
theorem zaa (ha:PE X e te) (hr:PA X es t) (hs:starEach (e::es) X.env=(false,eval e X.env)::starEach es X.env:=by rfl):PA X (e::es) (zab te t):=by
 intro pos pins s σ H Q I h
 rw [hs]
 show wpAny _ _ (spliced ((false,eval e X.env)::backTo pos (starEach es X.env))) _ _ s
 refine Calls.spliced_cons (thn (ha pins s σ H _ I h) fun u s1 hQ'=>?_)
 obtain ⟨x,H1,I1,r1,q1⟩:=hQ'
 exact thn (hr pos pins s1 σ H1 _ I1 q1) fun us s2 ⟨xs,H2,I2,r2,q2⟩=>⟨x::xs,H2,I2,.cons r1 r2,q2⟩
def zib (t:TA):TE:=fun σ H Q=>t σ H fun xs H1=>xs.length≤sizeLine∧∀ p,H1 p=none→Q (.ref p) (upd H1 p (.tup xs))
def zdq (t:TA):TE:=fun σ H Q=>t σ H fun xs H1=>xs.length≤sizeLine∧∀ p,H1 p=none→Q (.ref p) (upd H1 p (.lst xs))
theorem zeX {x1} (h:PA X es t):PE X (.Tuple es x1 pos) (zib t):=by
 intro pins s σ H Q I hq
 refine wpAny_Tuple_spliced (thn (h pos pins s σ H _ I hq) fun us s1 ⟨xs,H1,I1,r,z,q⟩=>⟨by rw [← r.length];exact z,?_⟩)
 have hf:H1 s1.heap.objs.size=none:=I1.hok.fresh (Nat.le_refl _)
 refine ⟨.ref s1.heap.objs.size,upd H1 s1.heap.objs.size (.tup xs),I1.laid (t':=s1.toks) (fun b u e=>Heap.get?_push_of_some _ e) (Nat.le_refl _) ?_,rfl,q _ hf⟩
 exact ⟨z,us,r,⟨_,Heap.get?_push_size _ rfl,rfl,_,rfl⟩⟩
theorem zbN (h:PA X es t):PE X (.List es pos) (zdq t):=by
 intro pins s σ H Q I hq
 refine wpAny_List_spliced (thn (h pos pins s σ H _ I hq) fun us s1 ⟨xs,H1,I1,r,z,q⟩=>⟨by rw [← r.length];exact z,?_⟩)
 have hf:H1 s1.heap.objs.size=none:=I1.hok.fresh (Nat.le_refl _)
 refine ⟨.ref s1.heap.objs.size,upd H1 s1.heap.objs.size (.lst xs),I1.laid (t':=s1.toks) (fun b u e=>Heap.get?_push_of_some _ e) (Nat.le_refl _) ?_,rfl,q _ hf⟩
 exact ⟨z,us,0,r,Heap.get?_push_size _ rfl⟩
end
abbrev Sp:=List V→Hp→VK→XK→Prop
abbrev CXT:=List Env→Hp→Shared→XK→Value→Shared→Prop
structure zou (P:Program) (w:World) (K:PySem.W.Frag) (mg:Str→Option Value) (base:Heap) (A:Around) (outer:List Env) (s:Shared) (H:Hp):Prop where
 frames:A.frames=some outer
 mod:Mod K mg base
 bs:∀ b o,base.get? b=some o→s.heap.get? b=some o∧H b=none
 bsz:base.objs.size≤s.heap.objs.size
 funs:s.heap.FunFrames base outer
 frf:∀ b∈frs outer,H b=none
 hok:HOk P w H s.heap
 bare:AllBare s.gens
def CE (outer:List Env) (P:Program) (w:World) (H:Hp) (s:Shared) (Q:VK) (u:Value) (s':Shared):Prop :=
 ∃ v H',s'.os=s.os∧AllBare s'.gens∧Un (frs outer) [] H H' s.heap s'.heap∧HOk P w H' s'.heap∧zcs v u∧Q v H'
def CR (CX:CXT) (outer:List Env) (P:Program) (w:World) (H:Hp) (s:Shared) (Q:VK) (E:XK) (r:Result) (s':Shared):Prop :=
 match r with
 | .ok (.ret u)=>CE outer P w H s Q u s'
 | .ok _=>False
 | .error e=>CX outer H s E e s'
structure zc8 (P:Program) (w:World) (K:PySem.W.Frag) (mg:Str→Option Value) (base:Heap) (CX:CXT) (k:Nat) (f:Addr) (fd:FuncData) (ps:List Str) (sp:Sp):Prop where
 len:∀ vs H Q E,sp vs H Q E→vs.length=ps.length
 run:∀ (A:Around) (outer:List Env) (s:Shared) (H:Hp) (args:Args) (us:List Value) (vs:List V) (Q:VK) (E:XK),zek k A→zou P w K mg base A outer s H→BindsTo s fd args (ps.zip us)→zbY vs us→sp vs H Q E →
  codeAny (model P w) A (.call (.ref f) args) (CR CX outer P w H s Q E) s
theorem zou.make {P:Program} {w:World} {K:PySem.W.Frag} {mg:Str→Option Value} {base:Heap} {A:Around} {outer:List Env} {s:Shared} {H:Hp} (e:zou P w K mg base A outer s H) (C:Addr) (us:List Value) (kw:List (Str×Value)) :
  zou P w K mg base (A.under (.builtin "type.__call__" ⟨.ref C::us,kw⟩)) outer s H:=⟨by first | exact e.frames | (simpa [Around.under,Code.envs,Code.isFrame,pushEnvs] using e.frames),e.mod,e.bs,e.bsz,e.funs,e.frf,e.hok,e.bare⟩
section
variable {X:Cx} {pins:List (Addr×Obj)} {σ:St} {H:Hp} {s s':Shared}
theorem Inv.env0 (I:Inv X pins σ H s):zou X.prog X.w X.K X.mg X.base X.A X.stack s H :=
 ⟨I.ok.frames,I.ok.mod,I.bs,Nat.le_trans I.ok.bsz I.sz,I.stack,I.stkFree,I.hok,I.bare⟩
theorem Inv.after {Q:VK} {u:Value} (I:Inv X pins σ H s) (h:CE X.stack X.prog X.w H s Q u s'):EP X pins σ Q u s':=by
 obtain ⟨v,H',os,bare,un,hok,r,q⟩:=h
 obtain ⟨hh,g,d,t,os'⟩:=s'
 obtain rfl:os'=s.os:=os
 exact ⟨v,H',I.call (h':=hh) (g':=g) (d':=d) (t':=t) (ch:=[]) un hok bare (fun b z=>absurd z (by simp)),r,q⟩
end
def zaH (sp:Sp) (dvs:List V) (E:XK) (t:TA):TE:=fun σ H Q=>t σ H fun vs H1=>sp (vs++dvs) H1 Q E
def zbI (K:PySem.W.Frag) (fd:FuncData) (ps:List Str) (ds:List Value):Prop :=
 ∀ (s:Shared) (us:List Value),K.In s.heap→(us++ds).length=ps.length→BindsTo s fd ⟨us,[]⟩ (ps.zip (us++ds))
theorem zbI.all {K:PySem.W.Frag} {fd:FuncData} {ps:List Str} (h:∀ us:List Value,us.length=ps.length→bindArgs fd ⟨us,[]⟩=pure (ps.zip us)):zbI K fd ps []:=fun s us _ hl=>by
 rw [List.append_nil] at hl ⊢
 exact .of_eq (h us hl)
def zf2 (CX:CXT) (X:Cx) (E:XK):Prop:=∀ (pins:List (Addr×Obj)) (σ:St) (H:Hp) (s:Shared) (e:Value) (s':Shared),Inv X pins σ H s→CX X.stack H s E e s'→X.xe e s'
section
variable {X:Cx} {CX:CXT} {k:Nat} {f C:Addr} {fd:FuncData} {ps:List Str} {sp:Sp} {dvs:List V} {ds:List Value} {E:XK} {x m:Str} {p pos apos:Pos} {e o:Expr} {es:List Expr} {ta:TE} {t:TA}
theorem zwH {pins:List (Addr×Obj)} {σ:St} {H:Hp} {s:Shared} {Q:VK} {us:List Value} {vs:List V} (F:zc8 X.prog X.w X.K X.mg X.base CX k f fd ps sp) (hr:zek k X.A) (hb:zbI X.K fd ps ds) (hd:zbY dvs ds) (hx:zf2 CX X E)
  (I:Inv X pins σ H s) (r:zbY vs us) (h:sp (vs++dvs) H Q E):wpAny (model X.prog X.w) X.A (call (.ref f) us) (EP X pins σ Q) X.xe s:=by
 have r2:zbY (vs++dvs) (us++ds):=r.append hd
 have hl:(us++ds).length=ps.length:=by rw [← r2.length];exact F.len _ _ _ _ h
 refine wpAny_call (codeAny_mono (F.run X.A X.stack s H ⟨us,[]⟩ (us++ds) (vs++dvs) Q E hr I.env0 (hb s us I.kIn hl) r2 h) fun r s' hq=>?_)
 cases r with
 | error e=>exact hx pins σ H s e s' I hq
 | ok fl =>
  cases fl with
  | ret u=>exact I.after hq
  | next=>exact False.elim hq
  | brk=>exact False.elim hq
  | cont=>exact False.elim hq
theorem zau (F:zc8 X.prog X.w X.K X.mg X.base CX k f fd ps sp) (hr:zek k X.A) (hg:Gl X x) (hm:X.mg x=some (.ref f)) (hk:PySem.W.keepIn X.K (.ref f)=true) (hb:zbI X.K fd ps ds) (hd:zbY dvs ds) (hx:zf2 CX X E)
  (ha:PA X (e::es) t) (hdb:(x == ("__debug__":Str))=false:=by decide) (he:starEach (e::es) X.env=(false,eval e X.env)::starEach es X.env:=by rfl) (hpl:(backTo pos (starEach es X.env)).any (·.1)=false:=by rfl) :
  PE X (.Call (.Name x p) (e::es) [] pos) (zaH sp dvs E t):=by
 intro pins s σ H Q I h
 refine wpAny_Call_Name_kw (zdK I hg hm ?_ hdb)
 refine PySem.W.callWith_K (h₀:=X.base) I.ok.mod.kin hk (thn (ha pos pins s σ H _ I h) fun us s1 ⟨vs,H1,I1,r,q⟩=>⟨I1.kIn,?_⟩) he hpl
 exact zwH F hr hb hd hx I1 r q
end
section
variable {X:Cx} {CX:CXT} {k:Nat} {f C:Addr} {fd:FuncData} {ps ks:List Str} {sp:Sp} {E:XK} {x m:Str} {p pos apos kpos:Pos} {e o:Expr} {es:List Expr} {kws:List Keyword} {te ta:TE} {t tk:TA} {nm:Option Str}
variable {g:List Value→List Value→List Value} {gV:List V→List V→List V}
end
structure zaK (N P:List Str) (sc:Scope):Prop where
 kind:sc.kind=.function
 co:sc.isCoroutine=false
 gen:sc.isGenerator=false
 nd:N.Nodup
 pre:N.take P.length=P
 par:∀ x∈P,sc.names.lookup x=some .local∨sc.names.lookup x=some .cell
 nofree:∀ y∈sc.names,y.2≠.free
theorem zkP {kindOf:Str→Option NameKind} {x:Str}:∀ {binds:List (Str×Value)} {m:Str→Option Value},(∀ v,(x,v)∉binds)→bindL kindOf binds m x=m x
 | [],_,_=>rfl
 | (n,v)::r,m,h=>by
  unfold bindL
  rw [zkP fun w hw=>h w (List.mem_cons_of_mem _ hw)]
  split
  ·have:x≠n:=by rintro rfl;exact h v List.mem_cons_self
   simp [this]
  ·rfl
theorem zky {kindOf:Str→Option NameKind} {x:Str}:∀ {binds:List (Str×Value)} {m:Str→Option Value},(∀ v,(x,v)∉binds)→bindC kindOf binds m x=m x
 | [],_,_=>rfl
 | (n,v)::r,m,h=>by
  unfold bindC
  rw [zky fun w hw=>h w (List.mem_cons_of_mem _ hw)]
  split
  ·rfl
  ·have:x≠n:=by rintro rfl;exact h v List.mem_cons_self
   simp [this]
theorem zjT {kindOf:Str→Option NameKind} {x:Str} {v:Value}:∀ {P:List Str} {vs:List Value} {i:Nat} {m:Str→Option Value},P.Nodup→P[i]?=some x→vs[i]?=some v→kindOf x=some .local →
  bindL kindOf (P.zip vs) m x=some v
 | [],_,_,_,_,h,_,_=>by simp at h
 | _::_,[],_,_,_,_,h,_=>by simp at h
 | p::P,w::vs,0,m,nd,h1,h2,hk=>by
  simp at h1 h2;subst h1;subst h2
  show bindL kindOf ((p,w)::P.zip vs) m p=_
  unfold bindL
  rw [zkP fun v hv=>(List.nodup_cons.mp nd).1 (List.of_mem_zip hv).1,if_pos hk]
  simp
 | p::P,w::vs,i+1,m,nd,h1,h2,hk=>by
  show bindL kindOf ((p,w)::P.zip vs) m x=_
  unfold bindL
  exact zjT (i:=i) (List.nodup_cons.mp nd).2 (by simpa using h1) (by simpa using h2) hk
theorem zkJ {kindOf:Str→Option NameKind} {x:Str} {v:Value}:∀ {P:List Str} {vs:List Value} {i:Nat} {m:Str→Option Value},P.Nodup→P[i]?=some x→vs[i]?=some v→kindOf x≠some .local →
  bindC kindOf (P.zip vs) m x=some v
 | [],_,_,_,_,h,_,_=>by simp at h
 | _::_,[],_,_,_,_,h,_=>by simp at h
 | p::P,w::vs,0,m,nd,h1,h2,hk=>by
  simp at h1 h2;subst h1;subst h2
  show bindC kindOf ((p,w)::P.zip vs) m p=_
  unfold bindC
  rw [zky fun v hv=>(List.nodup_cons.mp nd).1 (List.of_mem_zip hv).1,if_neg hk]
  simp
 | p::P,w::vs,i+1,m,nd,h1,h2,hk=>by
  show bindC kindOf ((p,w)::P.zip vs) m x=_
  unfold bindC
  exact zkJ (i:=i) (List.nodup_cons.mp nd).2 (by simpa using h1) (by simpa using h2) hk
def zbA (N:List Str) (vs:List V):St:=vs.map some++List.replicate (N.length - vs.length) none
def zk7 (CX:CXT) (P:Program) (w:World) (K:PySem.W.Frag) (mg:Str→Option Value) (base:Heap) (N:List Str) (qual:Str) (scope:Scope) (f:Addr) (cd:Value) (A:Around) (outer:List Env) (s:Shared) (H:Hp) (E:XK):Cx where
 prog:=P
 w:=w
 K:=K
 mg:=mg
 base:=base
 A:=A.deeper (envOfC qual scope s.heap.objs.size f cd)
 N:=N
 s₀:=s
 H₀:=H
 env:=envOfC qual scope s.heap.objs.size f cd
 outer:=outer
 stack:=envOfC qual scope s.heap.objs.size f cd::outer
 ex:=[]
 calm:=true
 fn:=fun _=>true
 pn:=[]
 xe:=fun e s'=>wpAny (model P w) (A.deeper (envOfC qual scope s.heap.objs.size f cd)) (leaving (envOfC qual scope s.heap.objs.size f cd) e) (fun _ s''=>CX outer H s E e s'') (fun e' s''=>CX outer H s E e' s'') s'
theorem zmT {sc:Scope} {n:Nat} {x:Str} (h:sc.names.lookup x=some .cell):∃ c,(cellsFrom n sc.names []).lookup x=some c:=by
 have q:=PySem.W.cellsFrom_some sc.names n [] (.inl h)
 exact Option.isSome_iff_exists.mp q
theorem zkx {CX:CXT} {P:Program} {w:World} {K:PySem.W.Frag} {mg:Str→Option Value} {base:Heap} {N ps:List Str} {qual:Str} {scope:Scope} {f:Addr} {cd:Value} {A:Around} {outer:List Env} {s s1:Shared} {H:Hp} {E:XK} {us:List Value} {vs:List V}
  (S:zaK N ps scope) (hd:A.handled=none) (e0:zou P w K mg base A outer s H) (hl:vs.length=ps.length) (r:zbY vs us)
  (x:InCallC s s.heap.objs.size (bindL (envOfC qual scope s.heap.objs.size f cd).kindOf (ps.zip us) fun _=>none) (cellsFrom (s.heap.objs.size+1) scope.names []) (bindC (envOfC qual scope s.heap.objs.size f cd).kindOf (ps.zip us) fun _=>none) s1) :
  Inv (zk7 CX P w K mg base N qual scope f cd A outer s H E) [] (zbA N vs) H s1:=by
 have hpl:ps.length≤N.length:=by have:=congrArg List.length S.pre;rw [List.length_take] at this;(first|lia|omega)
 obtain ⟨h1,tk,rfl,hk⟩:=x.done
 have noA:∀ b:Addr,b∉(zk7 CX P w K mg base N qual scope f cd A outer s H E).ex:=fun b z=>absurd (show b∈([]:List Addr) from z) (by simp)
 refine ⟨⟨e0.mod,S.kind,rfl,rfl,Nat.le_refl _,fun y z c h1 h2=>?_,fun y hy=>?_,fun y c _ h=>?_,fun _=>hd,Around.frames_deeper e0.frames,.inr ⟨rfl,rfl⟩,fun b z=>absurd z (noA b),e0.bs,e0.bsz,fun b _ _=>noA b,fun b z=>absurd z (noA b),e0.funs,e0.frf⟩,
  rfl,e0.bare,Un.kept hk,⟨_,x.toInCall.ns,fun i y v h1 h2 h3=>?_⟩,fun y c h=>⟨_,x.cell y c h⟩,e0.hok.fresh (Nat.le_refl _),fun y c h=>?_,fun p hp=>absurd (show p∈([]:List (Addr×Obj)) from hp) (by simp),e0.hok.kept hk,?_⟩
 ·exact name_of_addr x.apart (PySem.mem_of_lookup h1) (PySem.mem_of_lookup h2)
 ·have hy:scope.names.lookup y=some .cell∨scope.names.lookup y=some .free:=hy
  rcases hy with hy | hy
  ·exact zmT hy
  ·exact absurd rfl (S.nofree _ (PySem.mem_of_lookup hy))
 ·exact Nat.le_of_lt (x.above y c (PySem.mem_of_lookup h))
 ·have hi:i<vs.length:=by
   unfold zbA at h2
   by_cases hi:i<vs.length
   ·exact hi
   ·rw [List.getElem?_append_right (by simpa using hi)] at h2
    rw [List.getElem?_replicate] at h2
    split at h2 <;> cases h2
  have ha:vs[i]?=some v:=by
   unfold zbA at h2
   rw [List.getElem?_append_left (by simpa using hi),List.getElem?_map] at h2
   cases e:vs[i]? with
   | none=>rw [e] at h2;cases h2
   | some a=>rw [e] at h2;cases h2;rfl
  obtain ⟨u,hu,rv⟩:=r.get ha
  have hp:ps[i]?=some y:=by
   rw [← S.pre,List.getElem?_take_of_lt (by (first|lia|omega))];exact h1
  have ndP:ps.Nodup:=by rw [← S.pre];exact S.nd.sublist (List.take_sublist _ _)
  refine ⟨u,rv,?_⟩
  rcases S.par y (List.mem_of_getElem? hp) with k | k
  ·exact .inl ⟨k,zjT ndP hp hu k⟩
  ·obtain ⟨c,e⟩:=zmT (n:=s.heap.objs.size+1) k
   refine .inr ⟨.inl k,c,e,?_⟩
   have q:=x.cell y c e
   rw [zkJ ndP hp hu (by show scope.names.lookup y≠_;rw [k];decide)] at q
   exact q
 ·exact e0.hok.fresh (Nat.le_of_lt (x.above y c (PySem.mem_of_lookup h)))
 ·unfold zbA
  show _=N.length
  rw [List.length_append,List.length_map,List.length_replicate]
  (first|lia|omega)
theorem zqX {CX:CXT} {P:Program} {w:World} {K:PySem.W.Frag} {mg:Str→Option Value} {base:Heap} {k:Nat} {f:Addr} {name qual:Str} {params:Arguments} {body:List Stmt} {scope:Scope} {dV kV doc pm cdv ct oc:Value} {an od:Option Addr}
  {osl:Array (Option Value)} {N ps:List Str} {sp:Sp} (lk:K.lookup f=some ⟨oc,od,.func (PySem.W.fnOf name qual params body scope dV kV doc pm an cdv ct),osl⟩) (hcd:PySem.W.codeIn K cdv qual=true) (S:zaK N ps scope)
  (len:∀ vs H Q E,sp vs H Q E→vs.length=ps.length)
  (hbody:∀ (A:Around) (outer:List Env) (s:Shared) (H:Hp) (vs:List V) (Q:VK) (E:XK),zek k (A.deeper (envOfC qual scope s.heap.objs.size f cdv))→sp vs H Q E →
   ∃ t,PSs (zk7 CX P w K mg base N qual scope f cdv A outer s H E) body t∧t { nx:=fun _ H'=>Q .non H',rt:=Q } (zbA N vs) H) :
  zc8 P w K mg base CX (k+1) f (PySem.W.fnOf name qual params body scope dV kV doc pm an cdv ct) ps sp:=by
 refine ⟨len,fun A outer s H args us vs Q E hr e0 hb r hsp=>?_⟩
 have hl:=len _ _ _ _ hsp
 have KX:K.In s.heap:=e0.mod.kin.keeps fun b o e=>(e0.bs b o e).1
 have lim:s.heap.NoLimit:=e0.mod.nolimit.keeps fun b o e=>(e0.bs b o e).1
 have hkind:∀ y∈ps.zip us,scope.names.lookup y.1=some .local∨(scope.names.lookup y.1=some .cell∧((cellsFrom (s.heap.objs.size+1) scope.names []).lookup y.1).isSome=true):=fun ⟨n,v⟩ hy=>by
  rcases S.par n (List.of_mem_zip hy).1 with q | q
  ·exact .inl q
  ·exact .inr ⟨q,PySem.W.cellsFrom_some _ _ _ (.inl q)⟩
 refine codeAny_call_function hr.depth (KX _ _ lk) rfl S.co S.gen rfl (PySem.W.codeRec_of KX hcd) (hb _ _ _ _ ?_)
 refine wpAny_newFunctionEnv_cells S.kind hkind fun env he s1 x=>?_
 subst he
 refine ⟨lim.keeps x.toInCall.keep,codeAny_func ?_⟩
 obtain ⟨t,ht,hq⟩:=hbody A outer s H vs Q E (hr.deeper _) hsp
 have I:Inv (zk7 CX P w K mg base N qual scope f cdv A outer s H E) [] (zbA N vs) H s1:=zkx S hr.hd e0 hl r x
 refine wpAny_mono (ht [] s1 (zbA N vs) H _ I hq) (fun fl s' hs=>?_) fun e s' hs=>hs
 have fin:∀ {σ':St} {H':Hp} {v:V} {u:Value},Inv (zk7 CX P w K mg base N qual scope f cdv A outer s H E) [] σ' H' s'→zcs v u→Q v H'→CE outer P w H s Q u s' :=
  fun {σ' H' v u} J rv q=>⟨v,H',J.os,J.bare,J.base,J.hok,rv,q⟩
 cases fl with
 | ret u =>
  obtain ⟨v,σ',H',J,rv,q⟩:=hs
  exact fin J rv q
 | next =>
  obtain ⟨σ',H',J,q⟩:=hs
  exact fin (v:=V.non) (u:=Value.none) J rfl q
 | brk =>
  obtain ⟨_,_,_,q⟩:=hs
  exact False.elim q
 | cont =>
  obtain ⟨_,_,_,q⟩:=hs
  exact False.elim q
end L2
namespace L2
open PySem PySem.Spec PyProof.Rows
section
variable {X:Cx} {x:Str} {p pos:Pos} {e:Expr} {es:List Expr} {t:TA} {id T:String} {r:List V→Hp→VK→Prop}
def tCB (r:List V→Hp→VK→Prop) (t:TA):TE:=fun σ H Q=>t σ H fun vs H1=>r vs H1 Q
theorem zaq (hc:zfb X (.builtin id) r) (hg:Gl X x) (hm:X.mg x=none) (hv:bootBuiltins x=some (.builtin id)) (ha:PA X (e::es) t) (hn:x≠"__name__":=by decide) (hdb:(x == ("__debug__":Str))=false:=by decide)
  (he:starEach (e::es) X.env=(false,eval e X.env)::starEach es X.env:=by rfl) (hpl:(backTo pos (starEach es X.env)).any (·.1)=false:=by rfl):PE X (.Call (.Name x p) (e::es) [] pos) (tCB r t):=by
 intro pins s σ H Q I h
 refine wpAny_Call_Name_kw (zhI I hg hm hv ?_ hn hdb)
 exact PyProof.Rows.callWith_builtin1 (thn (ha pos pins s σ H _ I h) fun us s1 ⟨vs,H1,I1,r1,q1⟩=>hc pins s1 σ H1 vs us Q I1 r1 q1) he hpl
theorem zby (hc:zfb X (.type T) r) (hg:Gl X x) (hm:X.mg x=none) (hv:bootBuiltins x=some (.type T)) (ha:PA X (e::es) t) (hn:x≠"__name__":=by decide) (hdb:(x == ("__debug__":Str))=false:=by decide)
  (he:starEach (e::es) X.env=(false,eval e X.env)::starEach es X.env:=by rfl) (hpl:(backTo pos (starEach es X.env)).any (·.1)=false:=by rfl):PE X (.Call (.Name x p) (e::es) [] pos) (tCB r t):=by
 intro pins s σ H Q I h
 refine wpAny_Call_Name_kw (zhI I hg hm hv ?_ hn hdb)
 exact PyProof.Rows.callWith_type1 (thn (ha pos pins s σ H _ I h) fun us s1 ⟨vs,H1,I1,r1,q1⟩=>hc pins s1 σ H1 vs us Q I1 r1 q1) he hpl
end
end L2
namespace HT
open PySem PyProof.Rows
section
open PySem.SeqAt
open PySem.AutoSeq1 (wpAny_loadPart')
open PySem.MeetsSeq PySem.MeetsSeq2 PySem.MeetsSeq3
end
section
variable {prog:Program} {w:World} {A:Around} {E:Value→Shared→Prop} {s:Shared}
theorem cat_tup {t b:Addr} {vs ws:List Value} {Q:Value→Shared→Prop} (ht:IsTup s.heap t vs.toArray) (hb:IsTup s.heap b ws.toArray) (hv:vs≠[])
  (h1:ws=[]→Q (.ref t) s) (h2:ws≠[]→Q (.ref s.heap.objs.size) { s with heap:=s.heap.push { cls:=.type "tuple",data:=.seq (vs++ws).toArray } })
  (hsz:vs.length+ws.length≤sizeLine):wpAny (model prog w) A (binaryOp .Add (.ref t) (.ref b)) Q E s:=by
 obtain ⟨⟨cls,dd,data,sl⟩,ho,hc,n,hd⟩:=id ht
 obtain ⟨⟨cls2,dd2,data2,sl2⟩,ho2,hc2,n2,hd2⟩:=id hb
 simp only at hc hd hc2 hd2
 subst hc hd hc2 hd2
 have e:vs.toArray++ws.toArray=(vs++ws).toArray:=by simp
 by_cases hw:ws=[]
 ·exact concat_meets ⟨_,ho,rfl⟩ ⟨_,ho2,rfl⟩ noFill_tuple_add seq_tuple_add PySem.F.slot_tuple_add PySem.F.entry_tuple_add (PySem.F.args_tuple_add_2 _ _)
   (tuple_addW1 t b vs.toArray ws.toArray n n2 dd dd2 sl sl2 (by simpa using hv) (by simp [hw])) ⟨ho,ho2,h1 hw⟩
 ·refine concat_meets ⟨_,ho,rfl⟩ ⟨_,ho2,rfl⟩ noFill_tuple_add seq_tuple_add PySem.F.slot_tuple_add PySem.F.entry_tuple_add (PySem.F.args_tuple_add_2 _ _)
   (tuple_addW2 t b vs.toArray ws.toArray n n2 dd dd2 sl sl2 (by simpa using hv) (by simpa using hw) (by rw [List.size_toArray,List.size_toArray];exact hsz)) ⟨ho,ho2,?_⟩
  rw [e]
  exact h2 hw
def sIx (n d:Nat):Option Int→Nat
 | none=>d
 | some v=>if v<0 then (v+(n:Int)).toNat else min v.toNat n
theorem sIx_none (n d:Nat):sIx n d none=d:=rfl
theorem sIx_nat (n d k:Nat):sIx n d (some (k:Int))=min k n:=by
 show (if (k:Int)<0 then ((k:Int)+(n:Int)).toNat else min (k:Int).toNat n)=min k n
 rw [if_neg (by (first|lia|omega)),Int.toNat_natCast]
theorem sIx_le (n d:Nat) (hd:d≤n) (o:Option Int):sIx n d o≤n:=by
 cases o with
 | none=>exact hd
 | some v =>
  show (if v<0 then (v+(n:Int)).toNat else min v.toNat n)≤n
  by_cases hv:v<0
  ·rw [if_pos hv];(first|lia|omega)
  ·rw [if_neg hv];exact Nat.min_le_right _ _
end
end HT
namespace L2
open PySem PySem.Spec PyProof.Rows
abbrev TO:=St→Hp→(Option Int→Hp→Prop)→Prop
def PO (X:Cx) (e:Option Expr) (t:TO):Prop :=
 ∀ (pins:List (Addr×Obj)) (s:Shared) (σ:St) (H:Hp) (Q:Option Int→Hp→Prop),Inv X pins σ H s→t σ H Q →
  wpAny (model X.prog X.w) X.A (evalPart e X.env) (fun u s'=>∃ o H',Inv X pins σ H' s'∧IsPart u o∧Q o H') X.xe s
def za2:TO:=fun _ H Q=>Q none H
def zcc (t:TE):TO:=fun σ H Q=>t σ H fun x H1=>∃ i,x=.int i∧Q (some i) H1
section
variable {X:Cx} {e:Expr} {te:TE} {lo hi:Option Expr} {tl th:TO} {pos p2:Pos}
theorem zbH:PO X none za2:=by
 intro pins s σ H Q I h
 rw [evalPart_none]
 exact wpAny_pure ⟨none,H,I,.none,h⟩
theorem zbJ (h:PE X e te):PO X (some e) (zcc te):=by
 intro pins s σ H Q I hw
 rw [evalPart_some]
 refine thn (h pins s σ H _ I hw) fun u s1 hQ'=>?_
 obtain ⟨x,H1,I1,r1,q1⟩:=hQ'
 obtain ⟨i,rfl,q⟩:=q1
 obtain ⟨t,rfl⟩:=r1
 exact ⟨some i,H1,I1,.int i t,q⟩
def SlR (X:Cx) (r:V→Option Int→Option Int→Hp→VK→Prop):Prop :=
 ∀ (pins:List (Addr×Obj)) (s:Shared) (σ:St) (H:Hp) (x:V) (v vl vu:Value) (lo hi:Option Int) (sl:Addr) (Q:VK),Inv X pins σ H s→zcs x v→s.heap.IsSliceOf sl vl vu .none→IsPart vl lo→IsPart vu hi→r x lo hi H Q →
  ∃ T id,typeLookup (.type T) "__getitem__"=pure (some (.builtin id))∧s.TypeIs v T∧wpAny (model X.prog X.w) X.A (getItem v (.ref sl)) (EP X pins σ Q) X.xe s
def tSl (r:V→Option Int→Option Int→Hp→VK→Prop) (te:TE) (tl th:TO):TE:=fun σ H Q=>te σ H fun x H1=>tl σ H1 fun l H2=>th σ H2 fun u H3=>r x l u H3 Q
theorem zbc {r:V→Option Int→Option Int→Hp→VK→Prop} (hr:SlR X r) (he:PE X e te) (hl:PO X lo tl) (hu:PO X hi th):PE X (.Subscript e (.Slice lo hi none p2) pos) (tSl r te tl th):=by
 intro pins s σ H Q I h
 refine Subscript_ (thn (he pins s σ H _ I h) fun v s1 hQ'=>?_)
 obtain ⟨x,H1,I1,r1,q1⟩:=hQ'
 refine wpAny_Slice (thn (hl pins s1 σ H1 _ I1 q1) fun vl s2 ⟨l,H2,I2,pl,q2⟩=>thn (hu pins s2 σ H2 _ I2 q2) fun vu s3 hQ'=>?_)
 obtain ⟨u,H3,I3,pu,q3⟩:=hQ'
 rw [evalPart_none]
 refine wpAny_pure ?_
 have I4:Inv X pins σ H3 { s3 with heap:=s3.heap.push { cls:=.type "slice",data:=.fields #[vl,vu,.none] } }:=I3.kept (t':=s3.toks) fun b ob q=>Heap.get?_push_of_some _ q
 obtain ⟨T,id,hT,ht,hg⟩:=hr pins { s3 with heap:=s3.heap.push { cls:=.type "slice",data:=.fields #[vl,vu,.none] } } σ H3 x v vl vu l u s3.heap.objs.size Q I4 r1 (Heap.IsSliceOf.new ..) pl pu q3
 show wpAny (model X.prog X.w) X.A (subscriptTail e (.Slice lo hi none p2) v (.ref s3.heap.objs.size)) (EP X pins σ Q) X.xe { s3 with heap:=s3.heap.push { cls:=.type "slice",data:=.fields #[vl,vu,.none] } }
 exact tail_any (ops:=[.ref s3.heap.objs.size,v]) ht hT hg (by with_unfolding_all rfl)
def zma (xs:List V) (lo hi:Option Int):List V:=(xs.drop (HT.sIx xs.length 0 lo)).take (HT.sIx xs.length xs.length hi - HT.sIx xs.length 0 lo)
theorem zl5 (xs:List V) (lo hi:Option Int):(zma xs lo hi).length≤xs.length:=by
 unfold zma
 rw [List.length_take,List.length_drop]
 (first|lia|omega)
def zrs (K:PySem.W.Frag):R2:=fun x y H Q=>∃ a b xs ys,x=.ref a∧y=.ref b∧SqT K H a xs∧SqT K H b ys∧xs≠[]∧xs.length+ys.length≤sizeLine ∧
 (ys=[]→Q (.ref a) H)∧(ys≠[]→∀ p,H p=none→Q (.ref p) (upd H p (.tup (xs++ys))))
theorem zbY.nil_iff {xs:List V} {us:List Value} (r:zbY xs us):us=[]↔xs=[]:=by
 cases r with
 | nil=>simp
 | cons _ _=>simp
theorem zuU:OpR X (binaryOp .Add) (zrs X.K):=by
 intro pins s σ H x y v u Q I rx ry h
 obtain ⟨a,b,xs,ys,rfl,rfl,ha,hb,hx,hz,q1,q2⟩:=h
 cases rx
 cases ry
 obtain ⟨its,r1,p1,_⟩:=I.tuple ha
 obtain ⟨its2,r2,p2,_⟩:=I.tuple hb
 refine HT.cat_tup p1 p2 (fun z=>hx (r1.nil_iff.mp z)) (fun z=>⟨.ref a,H,I,rfl,q1 (r2.nil_iff.mp z)⟩) (fun z=>?_) (by rw [← r1.length,← r2.length];exact hz)
 refine ⟨.ref s.heap.objs.size,_,I.laid (t':=s.toks) (o:=.tup (xs++ys)) (fun b ob q=>Heap.get?_push_of_some _ q) (Nat.le_refl _) ?_,rfl,q2 (fun w=>z (r2.nil_iff.mpr w)) _ (I.hok.fresh (Nat.le_refl _))⟩
 exact ⟨by rw [List.length_append];exact hz,_,r1.append r2,IsTup.new _ _⟩
end
end L2
namespace L2
open PySem PySem.Spec PyProof.Rows
def ixN (n:Nat) (i:Int):Option Nat:=if 0≤i then (if i<n then some i.toNat else none) else if -(n:Int)≤i then some (i+n).toNat else none
def atI {α:Type} (xs:List α) (i:Int):Option α:=(ixN xs.length i).bind fun j=>xs[j]?
theorem ztt {n:Nat} {i:Int} {j:Nat} (h:ixN n i=some j):seqIndex? i n=some j∧j<n∧-(n:Int)≤i∧i<n:=by
 unfold ixN at h
 by_cases h0:0≤i
 ·rw [if_pos h0] at h
  by_cases h1:i<n
  ·rw [if_pos h1] at h
   have e:i.toNat=j:=Option.some.inj h
   exact ⟨by rw [seqIndex_of h0 h1,e],by (first|lia|omega),by (first|lia|omega),h1⟩
  ·rw [if_neg h1] at h;cases h
 ·rw [if_neg h0] at h
  by_cases h1:-(n:Int)≤i
  ·rw [if_pos h1] at h
   have e:(i+n).toNat=j:=Option.some.inj h
   exact ⟨by rw [seqIndex_neg (by (first|lia|omega)) h1,e],by (first|lia|omega),h1,by (first|lia|omega)⟩
  ·rw [if_neg h1] at h;cases h
theorem zlP {α:Type} {xs:List α} {i:Int} {v:α} (h:atI xs i=some v):∃ j,seqIndex? i xs.length=some j∧xs[j]?=some v∧j<xs.length∧-(xs.length:Int)≤i∧i<xs.length:=by
 unfold atI at h
 cases e:ixN xs.length i with
 | none=>rw [e] at h;cases h
 | some j =>
  rw [e] at h
  obtain ⟨h1,h2,h3,h4⟩:=ztt e
  exact ⟨j,h1,h,h2,h3,h4⟩
theorem zaV {α:Type} {xs:List α} {j:Nat} {v:α} (h:xs[j]?=some v):atI xs (j:Int)=some v:=by
 have hj:j<xs.length:=(List.getElem?_eq_some_iff.mp h).1
 have e:ixN xs.length (j:Int)=some j:=by
  unfold ixN
  rw [if_pos (by (first|lia|omega)),if_pos (by (first|lia|omega))];simp
 unfold atI;rw [e];exact h
theorem zsf {α:Type} (xs:List α) (v:α):atI (xs++[v]) (-1)=some v:=by
 have hl:(xs++[v]).length=xs.length+1:=by simp
 have e:ixN (xs++[v]).length (-1)=some xs.length:=by
  unfold ixN
  rw [hl,if_neg (by decide),if_pos (by (first|lia|omega))]
  congr 1
  (first|lia|omega)
 unfold atI
 rw [e]
 show (xs++[v])[xs.length]?=some v
 simp
def zt3 (b:Expr):Prop:=∀ o i,subscripted b false o i=operate [o,i] (getItem o i)
def IxR (X:Cx) (r:R2):Prop :=
 ∀ (value slice:Expr) (pins:List (Addr×Obj)) (s:Shared) (σ:St) (H:Hp) (x y:V) (v u:Value) (Q:VK),Inv X pins σ H s→zcs x v→zcs y u→r x y H Q →
  subscripted slice false v u=operate [v,u] (getItem v u)→wpAny (model X.prog X.w) X.A (subscriptTail value slice v u) (EP X pins σ Q) X.xe s
def MtR (X:Cx) (id:String) (r:V→List V→Hp→VK→Prop):Prop :=
 ∀ (pins:List (Addr×Obj)) (s:Shared) (σ:St) (H:Hp) (x:V) (xs:List V) (v:Value) (us:List Value) (Q:VK),Inv X pins σ H s→zcs x v→zbY xs us→r x xs H Q →
  wpAny (model X.prog X.w) X.A (call (.builtin id) (v::us)) (EP X pins σ Q) X.xe s
section
variable {X:Cx} {a b:Expr} {ta tb:TE} {pos:Pos}
theorem zbO {r:R2} (hr:IxR X r) (ha:PE X a ta) (hb:PE X b tb) (hs:zt3 b):PE X (.Subscript a b pos) (tOp r ta tb):=by
 intro pins s σ H Q I h
 exact Subscript_ (binT ha hb I h fun v u s2 x y H2 I2 rx ry q=>hr a b pins s2 σ H2 x y v u Q I2 rx ry q (hs _ _))
def zcO (K:PySem.W.Frag):R2:=fun x y H Q=>∃ p xs i v,x=.ref p∧y=.int i∧SqL K H p xs∧atI xs i=some v∧Q v H
def zik (K:PySem.W.Frag):R2:=fun x y H Q=>∃ p xs i v,x=.ref p∧y=.int i∧SqT K H p xs∧atI xs i=some v∧Q v H
def rIxS:R2:=fun x y H Q=>∃ z i c,x=.str z∧y=.int i∧z.length≤sizeLine∧atI z.cps.toList i=some c∧Q (.str ⟨#[c]⟩) H
theorem zaX:IxR X (zcO X.K):=by
 intro value slice pins s σ H x y v u Q I rx ry h hs
 obtain ⟨p,xs,i,z,rfl,rfl,hq,he,q⟩:=h
 cases rx
 obtain ⟨t,rfl⟩:=ry
 obtain ⟨its,r,pl,hz⟩:=I.list hq
 obtain ⟨j,h1,h2,h3,h4,h5⟩:=zlP he
 obtain ⟨w,ew,rw'⟩:=r.get h2
 have hl:=r.length
 have hn:=ziH
 have fin:EP X pins σ Q w s:=⟨z,H,I,rw',q⟩
 by_cases h0:0≤i
 ·have hj:i.toNat=j:=by
   rw [seqIndex_of h0 h5] at h1
   exact Option.some.inj h1
  exact item_listR pl.isList h0 (by (first|lia|omega)) (by rw [hj];simpa using ew) fin hs
 ·have hj:(i+(its.toArray.size:Int)).toNat=j:=by
   rw [seqIndex_neg (by (first|lia|omega)) h4] at h1
   rw [List.size_toArray,← hl]
   exact Option.some.inj h1
  exact subscriptTail_builtinR (x:=w) pl.isList.typeIs slot_list_getitem.lookup
   (wpAny_getItem_list_neg (Q:=fun r s'=>r=w∧EP X pins σ Q r s') pl.isList (by (first|lia|omega)) (by rw [List.size_toArray] <;> (first|lia|omega)) (by (first|lia|omega)) (by rw [hj];simpa using ew) ⟨rfl,fin⟩) hs
theorem zfi:IxR X (zik X.K):=by
 intro value slice pins s σ H x y v u Q I rx ry h hs
 obtain ⟨p,xs,i,z,rfl,rfl,hq,he,q⟩:=h
 cases rx
 obtain ⟨t,rfl⟩:=ry
 obtain ⟨its,r,pl,hz⟩:=I.tuple hq
 obtain ⟨j,h1,h2,h3,h4,h5⟩:=zlP he
 obtain ⟨w,ew,rw'⟩:=r.get h2
 have hl:=r.length
 have hn:=ziH
 have fin:EP X pins σ Q w s:=⟨z,H,I,rw',q⟩
 exact subscriptTail_builtinR (x:=w) pl.typeIs slot_tuple_getitem.lookup
  (getItem_tuple (j:=j) (Q:=fun r s'=>r=w∧EP X pins σ Q r s') pl (by (first|lia|omega)) (by (first|lia|omega)) (by rw [List.size_toArray,← hl];exact h1) (by simpa using ew) ⟨rfl,fin⟩) hs
theorem zwv:IxR X rIxS:=by
 intro value slice pins s σ H x y v u Q I rx ry h hs
 obtain ⟨z,i,c,rfl,rfl,hz,he,q⟩:=h
 obtain ⟨t,rfl⟩:=rx
 obtain ⟨t',rfl⟩:=ry
 obtain ⟨j,h1,h2,h3,h4,h5⟩:=zlP he
 have hl:z.cps.toList.length=z.length:=by simp [Str.length]
 rw [hl] at h1 h4 h5
 have hn:=ziH
 exact tail_any (typeIs_str s z t) slot_str_getitem.lookup (getItem_str (c:=c) (by
  have e1:decide (i< -(2 ^ 63:Int))=false:=decide_eq_false (by (first|lia|omega))
  have e2:decide (i≥2 ^ 63)=false:=decide_eq_false (by (first|lia|omega))
  rw [e1,e2,Bool.or_false]) (by rw [h1];simpa using h2) ⟨.str ⟨#[c]⟩,H,I.tok _,⟨_,rfl⟩,q⟩) hs
theorem zk1 (lo hi:Option Int) (n:Nat):(sliceBounds lo hi none n).1=((HT.sIx n 0 lo:Nat):Int)∧(sliceBounds lo hi none n).2.1=((HT.sIx n n hi:Nat):Int)∧(sliceBounds lo hi none n).2.2=1:=by
 refine ⟨?_,?_,rfl⟩
 ·cases lo with
  | none=>simp [sliceBounds,HT.sIx]
  | some i =>
   simp only [sliceBounds,HT.sIx,Option.getD_none,show (1:Int) > 0 by decide,if_true]
   by_cases h:i<0
   ·simp only [h,if_true] <;> (first|lia|omega)
   ·simp only [h,if_false] <;> (first|lia|omega)
 ·cases hi with
  | none=>simp [sliceBounds,HT.sIx]
  | some i =>
   simp only [sliceBounds,HT.sIx,Option.getD_none,show (1:Int) > 0 by decide,if_true]
   by_cases h:i<0
   ·simp only [h,if_true] <;> (first|lia|omega)
   ·simp only [h,if_false] <;> (first|lia|omega)
theorem zjl (its:List Value) (lo hi:Option Int):slicePick its.toArray lo hi none=((its.drop (HT.sIx its.length 0 lo)).take (HT.sIx its.length its.length hi - HT.sIx its.length 0 lo)).toArray:=by
 obtain ⟨h1,h2,h3⟩:=zk1 lo hi its.toArray.size
 unfold slicePick
 rw [h1,h2,h3]
 simp only [sliceRange_one,pick_run,List.size_toArray] <;> rfl
def zhk (K:PySem.W.Frag):V→Option Int→Option Int→Hp→VK→Prop:=fun x lo hi H Q=>∃ a xs,x=.ref a∧SqL K H a xs∧∀ p,H p=none→Q (.ref p) (upd H p (.lst (zma xs lo hi)))
theorem zcr:SlR X (zhk X.K):=by
 intro pins s σ H x v vl vu lo hi sl Q I rx hs pl pu h
 obtain ⟨a,xs,rfl,hx,q⟩:=h
 cases rx
 obtain ⟨its,r,ht,hz⟩:=I.list hx
 have hlen:=r.length
 refine ⟨"list",_,slot_list_getitem.lookup,ht.isList.typeIs,?_⟩
 refine wpAny_getItem_list_slice ht.isList hs pl pu .none (by simp) ?_ (by rw [List.size_toArray] <;> (first|lia|omega))
 rw [zjl,← hlen]
 refine ⟨.ref s.heap.objs.size,_,I.laid (t':=s.toks) (o:=.lst (zma xs lo hi)) (fun b ob q=>Heap.get?_push_of_some _ q) (Nat.le_refl _) ?_,rfl,q _ (I.hok.fresh (Nat.le_refl _))⟩
 exact ⟨Nat.le_trans (zl5 xs lo hi) hz,_,0,(r.drop (HT.sIx xs.length 0 lo)).take (HT.sIx xs.length xs.length hi - HT.sIx xs.length 0 lo),Heap.get?_push_size _ rfl⟩
def zfa:V→Bool
 | .non=>true
 | .bl _=>true
 | .int _=>true
 | .str _=>true
 | _=>false
def eqV:V→V→Bool
 | .non,.non=>true
 | .bl a,.bl b=>a == b
 | .bl a,.int b=>(if a then 1 else 0) == b
 | .int a,.bl b=>a == (if b then 1 else 0)
 | .int a,.int b=>a == b
 | .str a,.str b=>a == b
 | _,_=>false
theorem zu9 {A:Around} {s:Shared} {y x:V} {u v:Value} (ry:zcs y u) (rx:zcs x v) (fy:zfa y=true) (fx:zfa x=true):SeqAt.EqAt A s u v (eqV y x):=by
 cases y with
 | non =>
  cases ry
  cases x with
  | non=>cases rx;exact SeqAt.EqAt.same _
  | bl b=>cases rx;exact SeqAt.EqAt.none_bool b
  | int b=>obtain ⟨t,rfl⟩:=rx;exact SeqAt.EqAt.none_int b t
  | str b=>obtain ⟨t,rfl⟩:=rx;exact SeqAt.EqAt.none_str b t
  | _=>exact absurd (show false=true from fx) Bool.false_ne_true
 | bl a =>
  cases ry
  cases x with
  | non=>cases rx;exact SeqAt.EqAt.bool_none a
  | bl b=>cases rx;exact SeqAt.EqAt.bool_bool a b
  | int b=>obtain ⟨t,rfl⟩:=rx;exact SeqAt.EqAt.bool_int a b t
  | str b=>obtain ⟨t,rfl⟩:=rx;exact SeqAt.EqAt.bool_str a b t
  | _=>exact absurd (show false=true from fx) Bool.false_ne_true
 | int a =>
  obtain ⟨t',rfl⟩:=ry
  cases x with
  | non=>cases rx;exact SeqAt.EqAt.int_none a t'
  | bl b=>cases rx;exact SeqAt.EqAt.int_bool a t' b
  | int b=>obtain ⟨t,rfl⟩:=rx;exact SeqAt.EqAt.int_int a t' b t
  | str b=>obtain ⟨t,rfl⟩:=rx;exact SeqAt.EqAt.int_str a t' b t
  | _=>exact absurd (show false=true from fx) Bool.false_ne_true
 | str a =>
  obtain ⟨t',rfl⟩:=ry
  cases x with
  | non=>cases rx;exact SeqAt.EqAt.str_none a t'
  | bl b=>cases rx;exact SeqAt.EqAt.str_bool a t' b
  | int b=>obtain ⟨t,rfl⟩:=rx;exact SeqAt.EqAt.str_int a t' b t
  | str b=>obtain ⟨t,rfl⟩:=rx;exact SeqAt.EqAt.str_str a t' b t
  | _=>exact absurd (show false=true from fx) Bool.false_ne_true
 | _=>exact absurd (show false=true from fy) Bool.false_ne_true
def eqU (x:V) (u:Value):Bool:=match u with
 | .none=>eqV .non x
 | .bool b=>eqV (.bl b) x
 | .int i _=>eqV (.int i) x
 | .str z _=>eqV (.str z) x
 | _=>false
theorem zmk {x y:V} {u:Value} (r:zcs y u) (f:zfa y=true):eqU x u=eqV y x:=by
 cases y with
 | non=>cases r;rfl
 | bl b=>cases r;rfl
 | int i=>obtain ⟨t,rfl⟩:=r;rfl
 | str z=>obtain ⟨t,rfl⟩:=r;rfl
 | _=>exact absurd (show false=true from f) Bool.false_ne_true
theorem zhz {x:V}:∀ {xs:List V} {us:List Value},zbY xs us→xs.all zfa=true→us.any (eqU x)=xs.any fun y=>eqV y x
 | _,_,.nil,_=>rfl
 | y::xs,u::us,.cons r t,f=>by
  rw [List.all_cons,Bool.and_eq_true] at f
  rw [List.any_cons,List.any_cons,zmk r f.1,zhz t f.2]
theorem zd8 {A:Around} {s:Shared} {x:V} {v:Value} (rx:zcs x v) (fx:zfa x=true):∀ {xs:List V} {us:List Value},zbY xs us→xs.all zfa=true→∀ u∈us,SeqAt.EqAt A s u v (eqU x u)
 | _,_,.nil,_=>fun u hu=>by cases hu
 | y::xs,u::us,.cons r t,f=>fun u' hu=>by
  rw [List.all_cons,Bool.and_eq_true] at f
  rcases List.mem_cons.mp hu with rfl | hu
  ·rw [zmk r f.1];exact zu9 r rx f.1 fx
  ·exact zd8 rx fx t f.2 u' hu
def inV (x:V) (xs:List V):Bool:=xs.any fun y=>eqV y x
def rIn (K:PySem.W.Frag) (neg:Bool):R2:=fun x y H Q=>∃ p xs,y=.ref p∧(SqL K H p xs∨SqT K H p xs)∧zfa x=true∧xs.all zfa=true∧Q (.bl (if neg then !inV x xs else inV x xs)) H
theorem zpT:OpR X (compareOp .In) (rIn X.K false):=by
 intro pins s σ H x y v u Q I rx ry h
 obtain ⟨p,xs,rfl,hq,fx,fs,q⟩:=h
 cases ry
 rcases hq with hq | hq
 ·obtain ⟨its,r,pl,hz⟩:=I.list hq
  refine SeqAt.in_listAt (eqU x) pl.isList (fun w hw=>zd8 rx fx r fs w (by simpa using hw)) ⟨.bl _,H,I,rfl,?_⟩
  rw [show its.toArray.any (eqU x)=its.any (eqU x) by simp,zhz r fs]
  exact q
 ·obtain ⟨its,r,pl,hz⟩:=I.tuple hq
  refine SeqAt.in_tupleAt (eqU x) pl (fun w hw=>zd8 rx fx r fs w (by simpa using hw)) ⟨.bl _,H,I,rfl,?_⟩
  rw [show its.toArray.any (eqU x)=its.any (eqU x) by simp,zhz r fs]
  exact q
theorem zg0:OpR X (compareOp .NotIn) (rIn X.K true):=by
 intro pins s σ H x y v u Q I rx ry h
 obtain ⟨p,xs,rfl,hq,fx,fs,q⟩:=h
 cases ry
 rcases hq with hq | hq
 ·obtain ⟨its,r,pl,hz⟩:=I.list hq
  refine SeqAt.notIn_listAt (eqU x) pl.isList (fun w hw=>zd8 rx fx r fs w (by simpa using hw)) ⟨.bl _,H,I,rfl,?_⟩
  rw [show its.toArray.any (eqU x)=its.any (eqU x) by simp,zhz r fs]
  exact q
 ·obtain ⟨its,r,pl,hz⟩:=I.tuple hq
  refine SeqAt.notIn_tupleAt (eqU x) pl (fun w hw=>zd8 rx fx r fs w (by simpa using hw)) ⟨.bl _,H,I,rfl,?_⟩
  rw [show its.toArray.any (eqU x)=its.any (eqU x) by simp,zhz r fs]
  exact q
theorem zaF:zfb X (.builtin "len") (fun xs H Q=>∃ p ys,xs=[.ref p]∧(SqL X.K H p ys∨SqT X.K H p ys)∧Q (.int ys.length) H):=by
 intro pins s σ H xs us Q I r h
 obtain ⟨p,ys,rfl,hq,q⟩:=h
 obtain ⟨u,rfl,rx⟩:=zfc r
 cases rx
 have hn:=ziH
 rcases hq with hq | hq
 ·obtain ⟨its,r',pl,hz⟩:=I.list hq
  have hlen:=r'.length
  exact Calls.call_len_list pl.isList (by simp only [List.size_toArray] <;> (first|lia|omega)) ⟨.int ys.length,H,I.tok _,⟨s.toks+1,by rw [List.size_toArray,hlen]⟩,q⟩
 ·obtain ⟨its,r',pl,hz⟩:=I.tuple hq
  have hlen:=r'.length
  exact len_tuple pl (by simp only [List.size_toArray] <;> (first|lia|omega)) ⟨.int ys.length,H,I.tok _,⟨s.toks+1,by rw [List.size_toArray,hlen]⟩,q⟩
theorem zd3:zfb X (.type "tuple") (fun xs H Q=>∃ p ys,xs=[.ref p]∧((SqL X.K H p ys∧∀ l,H l=none→Q (.ref l) (upd H l (.tup ys)))∨(SqT X.K H p ys∧Q (.ref p) H))):=by
 intro pins s σ H xs us Q I r h
 obtain ⟨p,ys,rfl,h⟩:=h
 obtain ⟨u,rfl,rx⟩:=zfc r
 cases rx
 rcases h with ⟨hq,q⟩ | ⟨hq,q⟩
 ·obtain ⟨its,r',pl,hz⟩:=I.list hq
  have hlen:=r'.length
  refine call_tuple_list pl.isList (fun h' kp=>?_) (by simp only [List.size_toArray] <;> (first|lia|omega))
  have I1:Inv X pins σ H { s with heap:=h' }:=I.kept (t':=s.toks) kp
  have I2:Inv X pins σ (upd H h'.objs.size (.tup ys)) { s with heap:=h'.push { cls:=.type "tuple",data:=.seq its.toArray } } :=
   I1.laid (t':=s.toks) (fun b o e=>Heap.get?_push_of_some _ e) (Nat.le_refl _) (show zbS X.prog X.w _ _ _ (.tup ys) from ⟨hz,its,r',IsTup.new _ _⟩)
  exact ⟨.ref h'.objs.size,_,I2,rfl,q _ (I1.hok.fresh (Nat.le_refl _))⟩
 ·obtain ⟨its,r',pl,hz⟩:=I.tuple hq
  exact call_tuple_same pl ⟨.ref p,H,I,rfl,q⟩
def tyV (K:PySem.W.Frag) (T:String) (x:V) (H:Hp):Prop:=match x with
 | .str _=>T="str"
 | .int _=>T="int"
 | .ref p=>(T="list"∧∃ xs,SqL K H p xs)∨(T="tuple"∧∃ o,K.lookup p=some o∧o.cls=.type "tuple"∧o.dict=none) ∨
   (T="dict"∧((∃ kvs,H p=some (.dK kvs))∨∃ kvs,H p=some (.dT kvs)))∨(T="set"∧∃ S n,H p=some (.set S n))
 | _=>False
theorem zwY {pins:List (Addr×Obj)} {σ:St} {H:Hp} {s:Shared} {T:String} {x:V} {v:Value} (I:Inv X pins σ H s) (r:zcs x v) (ty:tyV X.K T x H) :
  s.TypeIs v T∧∀ a,v=.ref a→∃ ob,s.heap.get? a=some ob∧ob.dict=none:=by
 cases x with
 | str z =>
  obtain ⟨t,rfl⟩:=r
  cases (show T="str" from ty)
  exact ⟨typeIs_str s z t,fun _ e=>nomatch e⟩
 | int i =>
  obtain ⟨t,rfl⟩:=r
  cases (show T="int" from ty)
  exact ⟨typeIs_int s i t,fun _ e=>nomatch e⟩
 | ref p =>
  cases r
  rcases ty with ⟨rfl,xs,hq⟩ | ⟨rfl,o,hk,hc,hd⟩ | ⟨rfl,hk⟩ | ⟨rfl,S,n,hk⟩
  ·obtain ⟨its,_,pl,_⟩:=I.list hq
   refine ⟨pl.isList.typeIs,fun a e=>?_⟩
   cases e
   obtain ⟨o,n,e,c,hd,_⟩:=pl
   exact ⟨o,e,hd⟩
  ·refine ⟨⟨o,I.kIn p o hk,hc⟩,fun a e=>?_⟩
   cases e
   exact ⟨o,I.kIn _ o hk,hd⟩
  ·have z:∃ o,s.heap.get? p=some o∧o.ExactDict:=by
    rcases hk with ⟨kvs,hk⟩ | ⟨kvs,hk⟩
    ·obtain ⟨_,_,_,_,o,_,_,e,ex,_⟩:=I.hok p _ hk
     exact ⟨o,e,ex⟩
    ·obtain ⟨_,_,_,_,o,_,_,e,ex,_⟩:=I.hok p _ hk
     exact ⟨o,e,ex⟩
   obtain ⟨o,e,ex⟩:=z
   refine ⟨⟨o,e,ex.1⟩,fun a e2=>?_⟩
   cases e2
   exact ⟨o,e,ex.2.1⟩
  ·obtain ⟨o,_,_,_,e,ex,_⟩:=I.hok p _ hk
   refine ⟨⟨o,e,ex.1⟩,fun a e2=>?_⟩
   cases e2
   exact ⟨o,e,ex.2.1⟩
 | _=>exact False.elim ty
def tBM (K:PySem.W.Frag) (T:String) (r:V→List V→Hp→VK→Prop) (to:TE) (t:TA):TE:=fun σ H Q=>to σ H fun x H1=>tyV K T x H1∧t σ H1 fun xs H2=>r x xs H2 Q
variable {o e:Expr} {es:List Expr} {to:TE} {t:TA} {name:Str} {apos cpos:Pos} {T id:String} {r:V→List V→Hp→VK→Prop}
theorem zcw (pa:PlainAttrs T) (slot:Slot T name id) (hty:typeOf (.builtin id)=pure (.type "method_descriptor")) (hm:MtR X id r) (ho:PE X o to) (ha:PA X (e::es) t)
  (hbase:attributeBase o name X.env (eval o X.env)=eval o X.env:=by rfl)
  (hfew:((backTo cpos (starEach (e::es) X.env)).all (fun x=>!x.1)&&(backToKw cpos (keywordEach [] X.env)).all (fun x=>x.1.isSome)
   && decide ((e::es).length+([]:List Keyword).length+(if ([]:List Keyword).isEmpty then 0 else 1)<30))=true:=by rfl)
  (hline:(apos.endLine == cpos.line)=true:=by rfl) (hs:starEach (e::es) X.env=(false,eval e X.env)::starEach es X.env:=by rfl) (hplain:(backTo cpos (starEach es X.env)).any (·.1)=false:=by rfl) :
  PE X (.Call (.Attribute o name apos) (e::es) [] cpos) (tBM X.K T r to t):=by
 intro pins s σ H Q I h
 refine wpAny_Call_method_late hbase hfew hline rfl (thn (ho pins s σ H _ I h) fun v s1 hQ'=>?_)
 obtain ⟨x,H1,I1,r1,ty,q1⟩:=hQ'
 obtain ⟨h1,h2⟩:=zwY I1 r1 ty
 refine ⟨T,id,pa,slot,hty,h1,h2,?_⟩
 have hA:=ha cpos pins s1 σ H1 _ I1 q1
 rw [hs] at hA ⊢
 refine Calls.callWith_builtin (by show (false || (backTo cpos (starEach es X.env)).any (·.1))=false;rw [hplain] <;> rfl) (Calls.evalArgs_plain ?_)
 exact thn hA fun us s2 ⟨vs,H2,I2,r2,q2⟩=>hm pins s2 σ H2 x vs v us Q I2 r1 r2 q2
end
end L2
namespace L2
open PySem PySem.Spec PyProof.Rows
def MtM (X:Cx) (id:String) (r:V→List V→Hp→VK→Prop):Prop :=
 ∀ (pins:List (Addr×Obj)) (s:Shared) (σ:St) (H:Hp) (x:V) (xs:List V) (v:Value) (us:List Value) (Q:VK),Inv X pins σ H s→zcs x v→zbY xs us→r x xs H Q →
  wpAny (model X.prog X.w) X.A (call (.builtin id) (v::us)) (EP X pins σ Q) X.xe s
theorem zbY.one:∀ {x:V} {us:List Value},zbY [x] us→∃ u,us=[u]∧zcs x u
 | _,_,.cons r .nil=>⟨_,rfl,r⟩
theorem zbY.two:∀ {x y:V} {us:List Value},zbY [x,y] us→∃ u v,us=[u,v]∧zcs x u∧zcs y v
 | _,_,_,.cons r (.cons q .nil)=>⟨_,_,rfl,r,q⟩
theorem zbY.eraseIdx:∀ {xs:List V} {us:List Value} (i:Nat),zbY xs us→zbY (xs.eraseIdx i) (us.eraseIdx i)
 | _,_,_,.nil=>.nil
 | _,_,0,.cons _ t=>t
 | _,_,i+1,.cons r t=>.cons r (zbY.eraseIdx i t)
theorem zjR {α:Type}:∀ (l:List α) (i:Nat),(l.eraseIdx i).length≤l.length
 | [],_=>Nat.le_refl _
 | _::_,0=>Nat.le_succ _
 | _::r,i+1=>Nat.succ_le_succ (zjR r i)
section
variable {X:Cx} {pins:List (Addr×Obj)} {σ:St} {H:Hp} {s:Shared} {l b:Addr} {xs ys zs:List V}
theorem Inv.lset {its its':List Value} {n:Nat} {f:Array Value→Array Value} {t':Nat} (I:Inv X pins σ H s) (hH:H l=some (.lst xs))
  (e:s.heap.get? l=some { cls:=.type "list",data:=.seq its.toArray n }) (hf:f its.toArray=its'.toArray) (hv:zbY ys its') (hz:ys.length≤sizeLine) :
  Inv X pins σ (upd H l (.lst ys)) { s with heap:=s.heap.update l (Obj.mapSeq f),toks:=t' }:=by
 have q:=PySem.IsL.update e f
 rw [hf] at q
 refine I.write (x:=l) (e:=l) (by rw [hH];exact trivial) (.inl rfl) (fun b' u hb hu=>(Heap.get?_update_other s.heap (Obj.mapSeq f) (Ne.symm hb)).trans hu) ⟨_,q⟩ ?_
 exact ⟨hz,its',_,hv,q⟩
theorem Inv.lnew {its:List Value} {t':Nat} (I:Inv X pins σ H s) (hv:zbY ys its) (hz:ys.length≤sizeLine) :
  Inv X pins σ (upd H s.heap.objs.size (.lst ys)) { s with heap:=s.heap.push { cls:=.type "list",data:=.seq its.toArray },toks:=t' } :=
 I.laid (fun _ _ q=>Heap.get?_push_of_some _ q) (Nat.le_refl _) ⟨hz,its,0,hv,Heap.get?_push_size _ rfl⟩
theorem Inv.fresh (I:Inv X pins σ H s):H s.heap.objs.size=none:=I.hok.fresh (Nat.le_refl _)
theorem Inv.lstM (I:Inv X pins σ H s) (hH:H l=some (.lst xs)):xs.length≤sizeLine∧∃ (its:List Value) (n:Nat),zbY xs its∧xs.length=its.length∧s.heap.get? l=some { cls:=.type "list",data:=.seq its.toArray n }:=by
 obtain ⟨z,its,n,r,e⟩:=I.hok l _ hH
 exact ⟨z,its,n,r,r.length,e⟩
end
section
variable {X:Cx}
def zbw:V→List V→Hp→VK→Prop:=fun x vs H Q=>∃ l xs y,x=.ref l∧vs=[y]∧H l=some (.lst xs)∧xs.length<sizeLine∧Q .non (upd H l (.lst (xs++[y])))
theorem zcN:MtM X "list.append" zbw:=by
 intro pins s σ H x vs v us Q I rx rv h
 obtain ⟨l,xs,y,rfl,rfl,hH,hz,q⟩:=h
 cases rx
 obtain ⟨u,rfl,ru⟩:=rv.one
 obtain ⟨z,its,n,r,hl,e⟩:=I.lstM hH
 refine call_meets F.slot_list_append ⟨_,e,rfl⟩ F.entry_list_append (F.args_list_append_2 _ _) (PySem.list_append l its.toArray n u (by rw [List.size_toArray];(first|lia|omega))) ⟨e,?_⟩
 refine ⟨.non,_,I.lset (its':=its++[u]) hH e (by simp) (r.append (.cons ru .nil)) ?_,rfl,q⟩
 rw [List.length_append,List.length_singleton]
 (first|lia|omega)
def zmA:V→List V→Hp→VK→Prop:=fun x vs H Q=>∃ l xs i k y,x=.ref l∧vs=[.int i]∧H l=some (.lst xs)∧-(2 ^ 63)≤i∧i<2 ^ 63∧seqIndex? i xs.length=some k∧xs[k]?=some y∧Q y (upd H l (.lst (xs.eraseIdx k)))
theorem zqK:MtM X "list.pop" zmA:=by
 intro pins s σ H x vs v us Q I rx rv h
 obtain ⟨l,xs,i,k,y,rfl,rfl,hH,h1,h2,hk,hy,q⟩:=h
 cases rx
 obtain ⟨u,rfl,ru⟩:=rv.one
 obtain ⟨t,rfl⟩:=ru
 obtain ⟨z,its,n,r,hl,e⟩:=I.lstM hH
 obtain ⟨w,hw,rw'⟩:=r.get hy
 refine call_meets F.slot_list_pop ⟨_,e,rfl⟩ F.entry_list_pop (F.args_list_pop_2 _ _)
  (MeetsSeq.list_pop_at l its.toArray n i t k w (fitsIndex_both h1 h2) (by rw [List.size_toArray,← hl];exact hk) (by rw [← Array.getElem?_toList];exact hw) (by rw [List.size_toArray];(first|lia|omega))) ⟨e,?_⟩
 refine ⟨y,_,I.lset (its':=its.eraseIdx k) hH e ?_ (r.eraseIdx k) ?_,rw',q⟩
 ·show its.toArray.eraseIdxIfInBounds k=(its.eraseIdx k).toArray
  rw [List.eraseIdxIfInBounds_toArray]
 ·have:=zjR xs k
  (first|lia|omega)
def zgm:R2:=fun x y H Q=>∃ l b xs zs,x=.ref l∧y=.ref b∧H l=some (.lst xs)∧H b=some (.lst zs)∧xs.length+zs.length≤sizeLine∧∀ p,H p=none→Q (.ref p) (upd H p (.lst (xs++zs)))
theorem zc5:OpR X (binaryOp .Add) zgm:=by
 intro pins s σ H x y v u Q I rx ry h
 obtain ⟨l,b,xs,zs,rfl,rfl,hH,hB,hz,q⟩:=h
 cases rx
 cases ry
 obtain ⟨z,its,n,r,hl,e⟩:=I.lstM hH
 obtain ⟨z2,its2,n2,r2,hl2,e2⟩:=I.lstM hB
 refine PySem.P.add_list e e2 ?_ (by rw [List.size_toArray,List.size_toArray];(first|lia|omega))
 have ea:its.toArray++its2.toArray=(its++its2).toArray:=by simp
 rw [ea]
 exact ⟨.ref _,_,I.lnew (t':=s.toks) (r.append r2) (by rw [List.length_append];(first|lia|omega)),rfl,q _ I.fresh⟩
end
section
variable {prog:Program} {w:World} {A:Around} {E:Value→Shared→Prop} {s:Shared}
end
section
variable {X:Cx}
end
end L2
namespace Att
open PySem PySem.W PySem.Calls PyProof.Rows
theorem zhU {P:Params} {h:Heap}:∀ (ns:List Int) (vs:List Value),WellAll P h vs (ns.map WData.int)→IntsAre vs ns:=by
 intro ns
 induction ns with
 | nil =>
  intro vs w
  rw [List.map_nil] at w
  cases w
  exact .nil
 | cons n ns ih =>
  intro vs w
  rw [List.map_cons] at w
  cases w with
  | cons a b =>
   cases a
   exact .cons _ _ (ih _ b)
theorem zoP {l:OpenLaw} {n:Nat} (hn:l.most=some n) {P:Params} {h:Heap} {args:List WData} {vals:List Value}
  (hpre:l.row.toRowW.claim.pre args=true) (hwl:WellAll P h vals args) :
  ∃ a vs ns,vals=[Value.ref a]∧args=[WData.list (ns.map WData.int)]∧h.get? a=some { cls:=.type "list",data:=.seq vs.toArray }∧IntsAre vs ns∧ns.length≤n:=by
 have hsh:WShape.hasAll [] args [.list .int]=true:=(pre_splitW hpre).1
 have hc:l.pre.holds [] { args:=args }=true:=(pre_splitW hpre).2
 obtain ⟨d,r,rfl,h1,h2⟩:=hasAllW_cons hsh
 obtain rfl:=hasAllW_nil h2
 obtain ⟨xs,rfl,h3⟩:=hasW_list h1
 obtain ⟨ns,rfl⟩:=items_int h3
 have hlen:ns.length≤n:=by
  unfold OpenLaw.pre at hc
  have h4:(WTm.not (.lt (.lit (.int (n:Int))) (.len (.arg 0)))).holds [] { args:=[.list (ns.map .int)] }=true:=by
   have h4:=(holds_andW hc).1
   rw [hn] at h4
   exact h4
  have h5:=condW_of h4 (w_not (w_lt w_lit (w_len_list (w_arg rfl))))
  rw [List.length_map] at h5
  refine Nat.le_of_not_lt fun q=>?_
  have q':(n:Int)<((ns.length:Nat):Int):=by (first|lia|omega)
  first
   | (rw [decide_eq_true q'] at h5;exact absurd h5 (by decide))
   | (simp at h5;(first|lia|omega))
 cases hwl with
 | cons w1 w2 =>
  cases w2
  cases w1 with
  | list ho hall=>exact ⟨_,_,ns,rfl,rfl,ho,zhU ns _ hall,hlen⟩
theorem zp9 (l:OpenLaw) (args:List WData):l.row.toRowW.claim.post args (.bool true) args=true :=
 postW_of (r:=l.row.toRowW) (X:=(true == true))
  (show WShape.has [] (.bool true) .bool=true by first | rfl | decide | simp [WShape.has,WShape.arms,WShape.armsAll])
  (show (WTm.eq .res (.lit (.bool true))).value [] { args:=args,res:=some (.bool true),after:=args }=some (.bool (true == true)) from w_eq_bool (w_res rfl) w_lit) rfl
section
variable {prog:Program} {w:World} {A:Around} {E:Value→Shared→Prop} {s:Shared} {K:Frag}
end
end Att
namespace L2
open PySem PySem.Spec PyProof.Rows
theorem zkA:∀ {vs:List Value} {ns:List Int},IntsAre vs ns→zbY (ns.map V.int) vs
 | _,_,.nil=>.nil
 | _,_,.cons n t h=>.cons ⟨t,rfl⟩ (zkA h)
end L2
namespace L2
open PySem PySem.Spec PyProof.Rows
end L2
namespace L2
open PySem PySem.Spec PyProof.Rows
def zdu (s:Stmt):Arguments:=match s with
 | .FunctionDef _ a _ _ _ _ _ _ _ _=>a
 | _=>{ posonlyargs:=[],args:=[],vararg:=none,kwonlyargs:=[],kw_defaults:=[],kwarg:=none,defaults:=[] }
def zca (s:Stmt):List Stmt:=match s with
 | .FunctionDef _ _ b _ _ _ _ _ _ _=>b
 | _=>[]
def zam (s:Stmt):Scope:=match s with
 | .FunctionDef _ _ _ _ _ _ sc _ _ _=>sc
 | _=>{ kind:=.function,names:=[],isGenerator:=false,isCoroutine:=false }
abbrev CX0:CXT:=fun _ _ _ _ _ _=>False
abbrev E0:XK:=fun _ _ _=>False
theorem za8 {X:Cx}:zf2 CX0 X E0:=fun _ _ _ _ _ _ _ h=>h.elim
structure Fun (K:PySem.W.Frag) (x qual:Str) (st:Stmt) (f:Addr) (fd:FuncData):Prop where
 ex:∃ (oc:Value) (od:Option Addr) (kV doc pm:Value) (an:Option Addr) (cdv ct:Value) (osl:Array (Option Value)),
  fd=PySem.W.fnOf x qual (zdu st) (zca st) (zam st) .none kV doc pm an cdv ct∧K.lookup f=some ⟨oc,od,.func fd,osl⟩∧PySem.W.codeIn K cdv qual=true
 kp:PySem.W.keepIn K (.ref f)=true
section
variable {P:Program} {w:World} {K:PySem.W.Frag} {mg:Str→Option Value} {base:Heap}
theorem Fun.ok {x qual:Str} {st:Stmt} {f:Addr} {fd:FuncData} {N ps:List Str} {k:Nat} {sp:Sp} (F:Fun K x qual st f fd) (S:zaK N ps (zam st)) (len:∀ vs H Q E,sp vs H Q E→vs.length=ps.length)
  (hbody:∀ (cdv:Value) (A:Around) (outer:List Env) (s:Shared) (H:Hp) (vs:List V) (Q:VK) (E:XK),zek k (A.deeper (envOfC qual (zam st) s.heap.objs.size f cdv))→sp vs H Q E →
   ∃ t,PSs (zk7 CX0 P w K mg base N qual (zam st) f cdv A outer s H E).nox (zca st) t∧t { nx:=fun _ H'=>Q .non H',rt:=Q } (zbA N vs) H):zc8 P w K mg base CX0 (k+1) f fd ps sp:=by
 obtain ⟨oc,od,kV,doc,pm,an,cdv,ct,osl,rfl,lk,hcd⟩:=F.ex
 refine zqX lk hcd S len fun A outer s H vs Q E hr hsp=>?_
 obtain ⟨t,h,q⟩:=hbody cdv A outer s H vs Q E hr hsp
 exact ⟨t,h.nox,q⟩
theorem Fun.binds {x qual:Str} {st:Stmt} {f:Addr} {fd:FuncData} {ps:List Str} (F:Fun K x qual st f fd)
  (h:∀ (kV doc pm:Value) (an:Option Addr) (cdv ct:Value) (us:List Value),us.length=ps.length→bindArgs (PySem.W.fnOf x qual (zdu st) (zca st) (zam st) .none kV doc pm an cdv ct) ⟨us,[]⟩=pure (ps.zip us)):zbI K fd ps []:=by
 obtain ⟨oc,od,kV,doc,pm,an,cdv,ct,osl,rfl,lk,hcd⟩:=F.ex
 exact .all (h kV doc pm an cdv ct)
theorem zbB {x qual:Str} {st:Stmt} {f:Addr} {oc:Value} {od an:Option Addr} {osl:Array (Option Value)} {kV doc pm cdv ct:Value} (l:K.lookup f=some ⟨oc,od,.func (PySem.W.fnOf x qual (zdu st) (zca st) (zam st) .none kV doc pm an cdv ct),osl⟩)
  (c:PySem.W.codeIn K cdv qual=true) (k:PySem.W.keepIn K (.ref f)=true):Fun K x qual st f (PySem.W.fnOf x qual (zdu st) (zca st) (zam st) .none kV doc pm an cdv ct):=⟨⟨oc,od,kV,doc,pm,an,cdv,ct,osl,rfl,l,c⟩,k⟩
end
theorem zrG {A:Around} {k:Nat} (hr:zek k A):A.units+1<cLine:=Nat.lt_of_le_of_lt (Nat.add_le_add_left (by decide:1≤64) _) hr.units
theorem zkW {n:Nat} (h:n≤1000):n<sizeLine:=Nat.lt_of_le_of_lt h (by decide)
section
variable {X:Cx}
theorem pv (i:Nat) {x:Str} {pos:Pos} (hN:X.N[i]?=some x:=by rfl) (hv:Vis X.env.scope x:=by first | exact Or.inl rfl | exact Or.inr (Or.inl rfl) | exact Or.inr (Or.inr rfl)) (hd:(x == ("__debug__":Str))=false:=by decide)
  (hcd:(x == ("__classdict__":Str))=false:=by decide):PE X (.Name x pos) (zac i):=zpv hN hv hd hcd
end
theorem iteT {A B:Prop} (h:A):if true=true then A else B:=by
 rw [if_pos rfl]
 exact h
theorem zgl {c A B:Prop} [Decidable c] (h1:c→A) (h2:¬ c→B):if c then A else B:=by
 by_cases h:c
 ·rw [if_pos h]
  exact h1 h
 ·rw [if_neg h]
  exact h2 h
def zaJ (H H':Hp):Prop:=∀ b o,H b=some o→H' b=some o
theorem zaJ.refl (H:Hp):zaJ H H:=fun _ _ h=>h
theorem zaJ.trans {H H1 H2:Hp} (a:zaJ H H1) (b:zaJ H1 H2):zaJ H H2:=fun c o h=>b c o (a c o h)
theorem zaJ.free {H H':Hp} (e:zaJ H H') {l:Addr} (h:H' l=Option.none):H l=Option.none:=by
 cases q:H l with
 | none=>rfl
 | some o =>
  rw [e l o q] at h
  cases h
theorem zaJ.seq {K:PySem.W.Frag} {H H':Hp} {a:Addr} {xs:List V} (e:zaJ H H') (h:SqL K H a xs):SqL K H' a xs:=by
 rcases h with (h | ⟨o,h⟩) | h
 ·exact .inl (.inl (e _ _ h))
 ·exact .inl (.inr ⟨o,e _ _ h⟩)
 ·exact .inr h
end L2
namespace L2
open PySem PySem.Spec PyProof.Rows
section
variable {X:Cx}
theorem zbM:OpR X (binaryOp .FloorDiv) (rI (fun _ j=>0<j∧j.natAbs.log2<9000) fun i j=>.int (i / j)):=opI fun i j _ _ _ _ _ hc q=>by
 have h1:(0:Int)<j:=hc.1
 exact floordiv_int (by (first|lia|omega)) (by rw [Int.fdiv_eq_ediv_of_nonneg i (by (first|lia|omega))];exact q) (.inl (PyProof.noPylong_of_log2 hc.2))
theorem zew:OpR X (binaryOp .Mult) (rI IntMulOk fun i j=>.int (i*j)):=opI fun _ _ _ _ _ _ _ hc q=>mul_int q hc
theorem mulR {i j:Int} (h1:-(2 ^ 64)<j) (h2:j<2 ^ 64):IntMulOk i j:=.of_right (intBits_le_64 h1 h2)
theorem zuV {i j:Int} (h1:-(2 ^ 64)<i) (h2:i<2 ^ 64):IntMulOk i j:=.of_left (intBits_le_64 h1 h2)
theorem zmq {j:Int} (m:Nat) (h0:j≠0) (h:j.natAbs<2 ^ m) (hm:m≤9000:=by decide):j.natAbs.log2<9000 :=
 Nat.lt_of_lt_of_le ((Nat.log2_lt (by (first|lia|omega))).mpr h) hm
theorem zjt:bootBuiltins "int"=some (.type "int"):=by decide +kernel
theorem zpg:bootBuiltins "bool"=some (.type "bool"):=by decide +kernel
theorem zc2:bootBuiltins "str"=some (.type "str"):=by decide +kernel
theorem zjU:bootBuiltins "list"=some (.type "list"):=by decide +kernel
theorem zhW:bootBuiltins "ValueError"=some (.type "ValueError"):=by decide +kernel
theorem zdT:bootBuiltins "tuple"=some (.type "tuple"):=by decide +kernel
theorem zk0 (K:PySem.W.Frag):PySem.W.kitOne K (.type "int") (.type "bool")=some false:=by first | rfl | kernel_rfl
def zt2 (a:Addr) (c:Value) (h:Heap):Prop:=∃ oe vs,h.get? a=some oe∧oe.cls=c∧oe.data=.fields vs
def excO (a:Addr) (c:Value):HO:=.ext (zt2 a c)
structure ziE (K:PySem.W.Frag) (c:Value):Prop where
 kit:∀ a:Addr,PySem.W.KitX K (.ref a) c (zt2 a c)
inductive TyX (K:PySem.W.Frag) (H:Hp):V→Value→Prop where
 | of {x:V} {t:Value} (h:znO K H x t):TyX K H x t
 | exc {a:Addr} {c:Value} (h:H a=some (excO a c)) (k:ziE K c):TyX K H (.ref a) c
def clsV:V→Option Value
 | .ty n=>some (.type n)
 | .ref c=>some (.ref c)
 | _=>none
def zm0 (K:PySem.W.Frag):List V→Hp→VK→Prop:=fun xs H Q=>∃ x c t cv b,xs=[x,c]∧clsV c=some cv∧TyX K H x t∧PySem.W.kitOne K t cv=some b∧Q (.bl b) H
def zo1 (sp:Sp) (dvs:List V) (E:St→XK) (t:TA):TE:=fun σ H Q=>t σ H fun vs H1=>sp (vs++dvs) H1 Q (E σ)
theorem zlT {K:PySem.W.Frag} {H:Hp} {Q:VK} {i:Int} (q:Q (.bl true) H):zm0 K [.int i,.ty "int"] H Q:=⟨_,_,_,_,true,rfl,rfl,.of (.int i),rfl,q⟩
theorem zj4 {K:PySem.W.Frag} {H:Hp} {Q:VK} {i:Int} (q:Q (.bl false) H):zm0 K [.int i,.ty "bool"] H Q:=⟨_,_,_,_,false,rfl,rfl,.of (.int i),zk0 K,q⟩
theorem zhH {K:PySem.W.Frag} {H:Hp} {Q:VK} {r:Addr} {xs:List V} (h:H r=some (.tup xs)) (q:Q (.bl true) H):zm0 K [.ref r,.ty "tuple"] H Q:=⟨_,_,_,_,true,rfl,rfl,.of (.tup h),rfl,q⟩
theorem zmx {c:V} {u cv:Value} (r:zcs c u) (h:clsV c=some cv):u=cv:=by
 cases c with
 | ty n=>cases r;exact Option.some.inj h
 | ref a=>cases r;exact Option.some.inj h
 | _=>cases h
theorem zds:zfb X (.builtin "isinstance") (zm0 X.K):=by
 intro pins s σ H xs us Q I r h
 obtain ⟨x,c,t,cv,b,rfl,hc,ty,e,q⟩:=h
 obtain ⟨u,w',rfl,rx,rw'⟩:=zoe r
 obtain rfl:=zmx rw' hc
 cases ty with
 | of ty=>exact zpr I rx ty e fun tk=>⟨.bl b,H,I.tok tk,rfl,q⟩
 | @exc a c h k =>
  cases (show u=Value.ref a from rx)
  obtain ⟨p,_,_⟩:=(show zbS X.prog X.w H s.heap a (excO a t) from I.hok a _ h)
  exact PySem.W.kia_one (k.kit a) I.kIn p e (fun z=>nomatch z) fun tk=>⟨.bl b,H,I.tok tk,rfl,q⟩
def zmw (K:PySem.W.Frag):V→List V→Hp→VK→Prop:=fun x vs H Q=>∃ l xs y,x=.ref l∧vs=[y]∧SqL K H l xs∧zfa y=true∧xs.all zfa=true∧Q (.int ((xs.countP fun z=>eqV z y:Nat):Int)) H
theorem zis {x:V}:∀ {xs:List V} {us:List Value},zbY xs us→xs.all zfa=true→us.countP (eqU x)=xs.countP fun y=>eqV y x
 | _,_,.nil,_=>rfl
 | y::xs,u::us,.cons r t,f=>by
  rw [List.all_cons,Bool.and_eq_true] at f
  rw [List.countP_cons,List.countP_cons,zmk r f.1,zis t f.2]
theorem zrJ:MtR X "list.count" (zmw X.K):=by
 intro pins s σ H x vs v us Q I rx rv h
 obtain ⟨l,xs,y,rfl,rfl,hl,fy,fs,q⟩:=h
 cases rx
 obtain ⟨u,rfl,ru⟩:=rv.one
 obtain ⟨its,r,⟨⟨cls,dd,data,sl⟩,n,e,hc,hdn,hd⟩,_⟩:=I.list hl
 simp only at hc hd
 subst hc hd
 refine call_meets F.slot_list_count ⟨_,e,rfl⟩ F.entry_list_count (F.args_list_count_2 _ _) (SeqAt.list_countAt l its.toArray n dd sl u (eqU y)) ⟨e,fun w hw=>zd8 ru fy r fs w (by simpa using hw),?_⟩
 refine ⟨.int _,H,I.tok _,⟨_,rfl⟩,?_⟩
 rw [List.toList_toArray,zis r fs]
 exact q
def zqg (K:PySem.W.Frag):V→List V→Hp→VK→Prop:=fun x vs H Q=>∃ l xs y j,x=.ref l∧vs=[y]∧SqL K H l xs∧zfa y=true∧xs.all zfa=true∧xs.findIdx? (fun z=>eqV z y)=some j∧j<1000000∧Q (.int (j:Nat)) H
theorem zhM {x:V}:∀ {xs:List V} {us:List Value},zbY xs us→xs.all zfa=true→us.findIdx? (eqU x)=xs.findIdx? fun y=>eqV y x
 | _,_,.nil,_=>rfl
 | y::xs,u::us,.cons r t,f=>by
  rw [List.all_cons,Bool.and_eq_true] at f
  rw [List.findIdx?_cons,List.findIdx?_cons,zmk r f.1,zhM t f.2]
theorem zsl:MtR X "list.index" (zqg X.K):=by
 intro pins s σ H x vs v us Q I rx rv h
 obtain ⟨l,xs,y,j,rfl,rfl,hl,fy,fs,hj,hs,q⟩:=h
 cases rx
 obtain ⟨u,rfl,ru⟩:=rv.one
 obtain ⟨its,r,⟨⟨cls,dd,data,sl⟩,n,e,hc,hdn,hd⟩,_⟩:=I.list hl
 simp only at hc hd
 subst hc hd
 rw [← zhM r fs] at hj
 obtain ⟨hlt,h1,h2⟩:=List.findIdx?_eq_some_iff_getElem.mp hj
 refine call_meets F.slot_list_index ⟨_,e,rfl⟩ F.entry_list_index (F.args_list_index_2 _ _) (SeqAt.list_indexAt l its.toArray n dd sl u (eqU y) j (by simpa using hlt) (by (first|lia|omega)) (by simpa using h1) (fun m hm hmj=>by simpa using h2 m hmj)) ⟨e,fun w hw=>zd8 ru fy r fs w (by simpa using hw),?_⟩
 exact ⟨.int _,H,I.tok _,⟨_,rfl⟩,q⟩
def ztu (K:PySem.W.Frag) (ta:TE):TT:=fun σ H Q=>ta σ H fun x H'=>∃ k,zu3 K x H' k∧Q k H'
def zeh (t:TS):TS:=fun D σ H=>∃ R:St→Hp→Prop,t { D with nx:=R } σ H∧∀ σ' H',R σ' H'→D.nx σ' H'
theorem zbQ {st:Stmt} {t:TS} (h:PS X st t):PS X st (zeh t):=by
 intro pins s σ H D I hw
 obtain ⟨R,hw,hR⟩:=hw
 refine thn (h pins s σ H _ I hw) fun f s' q=>?_
 cases f with
 | next=>obtain ⟨σ',H',I',q⟩:=q;exact ⟨σ',H',I',hR _ _ q⟩
 | brk=>exact q
 | cont=>exact q
 | ret u=>exact q
end
theorem zah {H:Hp} {p:Addr} (h:H p=none) (o:HO):zaJ H (upd H p o):=fun b u q=>by rw [zal (zar q h)];exact q
theorem zaJ.add {H0 H:Hp} {p:Addr} {o:HO} (s:zaJ H0 H) (h:H p=none):zaJ H0 (upd H p o):=s.trans (zah h o)
theorem zaJ.put {H0 H:Hp} {p:Addr} {o:HO} (s:zaJ H0 H) (h:H0 p=none):zaJ H0 (upd H p o):=fun b u q=>by rw [zal (zar q h)];exact s _ _ q
theorem zrU {K:PySem.W.Frag} {i:Int} {H:Hp} {k:Bool}:zu3 K (.int i) H k=(k=(i != 0)):=rfl
theorem zs9 {K:PySem.W.Frag} {i:Bool} {H:Hp} {k:Bool}:zu3 K (.bl i) H k=(k=i):=rfl
theorem zrW (a b:Int):scal (.int a) (.int b)=true:=rfl
theorem ztF (a b:Bool):scal (.bl a) (.bl b)=true:=rfl
theorem zmG {ns:List Int} {k:Int} (h0:0≤k) (h:k<(ns.length:Int)):∃ v:Int,atI (ns.map V.int) k=some (.int v)∧ns[k.toNat]?=some v:=by
 have hk:k.toNat<ns.length:=by (first|lia|omega)
 have ek:k=((k.toNat:Nat):Int):=by (first|lia|omega)
 have q:atI (ns.map V.int) ((k.toNat:Nat):Int)=some (.int ns[k.toNat]):=zaV (by rw [List.getElem?_map,List.getElem?_eq_getElem hk] <;> rfl)
 rw [← ek] at q
 exact ⟨ns[k.toNat],q,List.getElem?_eq_getElem hk⟩
def zrY (J:It) (g:TG) (tb:TS):TS:=fun D σ H=>∃ W:Nat→Nat→St→Hp→Prop,(∃ m,W 0 m σ H)∧∀ i m σ H,W i m σ H →
 (J.stop i H∧D.nx σ H)∨(J.go i H∧∃ N:St→Hp→Prop,(∀ σ' H',N σ' H'→∃ m',m'<m∧W (i+1) m' σ' H')∧∀ x H',J.yld i H x H'→g x σ H' fun σ2 H2=>tb { D with nx:=N,ct:=N,bk:=D.nx } σ2 H2)
theorem ztX {wi:TI} {g:TG} {tb:TS} {D:zce} {σ:St} {H:Hp}:zfV wi g tb D σ H=wi σ H fun J H1=>zrY J g tb D σ H1:=rfl
theorem zcl {lo:Int} {n:Nat} {g:TG} {tb:TS} {D:zce} {σ:St} {H:Hp} (Pv:Nat→St→Hp→Prop) (h0:Pv 0 σ H)
  (hs:∀ i σ H,i<n→Pv i σ H→g (.int (lo+i)) σ H fun σ2 H2=>tb { D with nx:=Pv (i+1),ct:=Pv (i+1),bk:=D.nx } σ2 H2) (hd:∀ σ H,Pv n σ H→D.nx σ H):zrY (Itr lo n) g tb D σ H:=zpX Pv h0 hs hd
theorem zeB {K:PySem.W.Frag} {a:Addr} {xs:List V} {g:TG} {tb:TS} {D:zce} {σ:St} {H:Hp} (Pv:Nat→St→Hp→Prop) (h0:Pv 0 σ H) (hl:∀ i σ H,i≤xs.length→Pv i σ H→SqL K H a xs)
  (hs:∀ i x σ H,xs[i]?=some x→Pv i σ H→g x σ H fun σ2 H2=>tb { D with nx:=Pv (i+1),ct:=Pv (i+1),bk:=D.nx } σ2 H2) (hd:∀ σ H,Pv xs.length σ H→D.nx σ H):zrY (Itl K a) g tb D σ H:=zqU Pv h0 hl hs hd
end L2
namespace L2
open PySem PySem.Spec PyProof.Rows
section
variable {P:Program} {w:World}
structure zts (P:Program) (w:World) (outer:List Env) (H:Hp) (s:Shared) (E:XK) (ea:Addr) (s':Shared) (B:Heap) (cls a0:Value) (H':Hp):Prop where
 os:s'.os=s.os
 bare:AllBare s'.gens
 un:Un (frs outer) [] H H' s.heap s'.heap
 hokB:HOk P w H' B
 fly:Heap.FlyingW B outer ea cls a0 s'.heap
 cov:∀ b o,s.heap.get? b=some o→H b=none→b∉frs outer→B.get? b=some o
 covT:∀ b o,s.heap.get? b=some o→b∉frs outer→∃ o',B.get? b=some o'
 new:s.heap.get? ea=none
 free:H' ea=none
 want:E cls none H'
theorem zts.later {outer:List Env} {H H':Hp} {s s':Shared} {E:XK} {ea:Addr} {B h:Heap} {cls a0:Value} (x:zts P w outer H s E ea s' B cls a0 H') (st:B.StaysIn h) (sm:s'.heap.UpToSlots h)
  (ff:s'.heap.FunFrames B outer):Un (frs outer) [] H H' s.heap h∧HOk P w H' h:=by
 have slot:∀ b o,s'.heap.get? b=some o→b∈frs outer→∃ sl,h.get? b=some { o with slots:=sl }:=fun b o e hb=>by
  obtain ⟨_,o',e',nf⟩:=ff.mem hb
  rw [e] at e'
  cases e'
  exact sm b o e nf
 refine ⟨⟨fun b o e n hb _=>st b o (x.cov b o e n hb),fun b o e n hb hx=>?_,x.un.free,fun b o e hx=>?_,x.un.tups,x.un.frzs,x.un.tbls⟩,x.hokB.kept st⟩
 ·obtain ⟨sl,e1⟩:=x.un.slot b o e n hb hx
  obtain ⟨sl',e2⟩:=slot b _ e1 hb
  exact ⟨sl',e2⟩
 ·by_cases hb:b∈frs outer
  ·obtain ⟨o1,e1⟩:=x.un.there b o e hx
   obtain ⟨sl,e2⟩:=slot b o1 e1 hb
   exact ⟨_,e2⟩
  ·obtain ⟨o',e'⟩:=x.covT b o e hb
   exact ⟨o',st b o' e'⟩
end
section
variable {P:Program} {w:World} {K:PySem.W.Frag} {mg:Str→Option Value} {base:Heap} {N:List Str} {qual:Str} {scope:Scope} {f:Addr} {cd:Value} {A:Around} {outer:List Env} {s₀:Shared} {H₀:Hp} {E:XK}
end
section
variable {P:Program} {w:World} {K:PySem.W.Frag} {mg:Str→Option Value} {base:Heap} {N:List Str} {qual:Str} {scope:Scope} {f:Addr} {cd:Value} {A:Around} {outer:List Env} {s₀:Shared} {H₀:Hp} {E:XK}
end
abbrev zfA:List Value:=[.type "ValueError",.type "Exception",.type "BaseException",.type "object"]
def zsQ (h:Heap) (C:Addr):Prop:=∃ bm N nm q bs hdct sn sub ab col dd k0 k1 k2 k3 k5 mN,h.get? C=some (excClassObj nm q C N bs bm hdct sn sub ab col dd k0 k1 k2 k3 k5 "ValueError.__new__")∧h.Ns N mN∧mN "__init__"=none∧OwnTail h zfA bm
theorem zpa {K:PySem.W.Frag} {h:Heap} {C:Addr} (X:K.In h) (q:PySem.W.excIn K C zfA "ValueError.__new__"=true):zsQ h C:=by
 unfold PySem.W.excIn at q
 split at q
 ·rename_i dd cd sl ho
  split at q
  ·rename_i C2 bm k0 k1 k2 k3 n k5 hm hs
   simp only [Bool.and_eq_true,beq_iff_eq,Bool.not_eq_true'] at q
   obtain ⟨⟨⟨⟨⟨r1,r2⟩,r3⟩,r4⟩,r5⟩,r6⟩:=q
   subst r1 r2
   obtain ⟨a1,a2,a3,a4,a5,a6,a7,a8,a9,a10,a11⟩:=cd
   dsimp only at hm r3 r5 r6
   subst hm r3
   have z:sl=#[k0,k1,k2,k3,some (.builtin "ValueError.__new__"),k5]:=by
    obtain ⟨l⟩:=sl
    exact congrArg Array.mk hs
   subst z
   exact ⟨bm,_,_,_,_,_,_,_,_,_,_,k0,k1,k2,k3,k5,_,X _ _ ho,.of_isNs (PySem.W.isNs_of_in X r5),PySem.W.nsMap_none_of_in X r5 r6,PySem.W.tail_of_in X r4⟩
  ·cases q
 ·cases q
section
variable {X:Cx} {CX:CXT} {k:Nat} {f:Addr} {fd:FuncData} {ps:List Str} {sp:Sp} {dvs:List V} {ds:List Value} {E:St→XK} {x:Str} {p pos:Pos} {e:Expr} {es:List Expr} {t:TA}
def zjw (CX:CXT) (X:Cx) (E:St→XK):Prop:=∀ (pins:List (Addr×Obj)) (σ:St) (H:Hp) (s:Shared) (e:Value) (s':Shared),Inv X pins σ H s→CX X.stack H s (E σ) e s'→X.xe e s'
theorem zrc (F:zc8 X.prog X.w X.K X.mg X.base CX k f fd ps sp) (hr:zek k X.A) (hg:Gl X x) (hm:X.mg x=some (.ref f)) (hk:PySem.W.keepIn X.K (.ref f)=true) (hb:zbI X.K fd ps ds) (hd:zbY dvs ds) (hx:zjw CX X E)
  (ha:PA X (e::es) t) (hdb:(x == ("__debug__":Str))=false:=by decide) (he:starEach (e::es) X.env=(false,eval e X.env)::starEach es X.env:=by rfl) (hpl:(backTo pos (starEach es X.env)).any (·.1)=false:=by rfl) :
  PE X (.Call (.Name x p) (e::es) [] pos) (zo1 sp dvs E t):=by
 intro pins s σ H Q I h
 refine wpAny_Call_Name_kw (zdK I hg hm ?_ hdb)
 refine PySem.W.callWith_K (h₀:=X.base) I.ok.mod.kin hk (thn (ha pos pins s σ H _ I h) fun us s1 ⟨vs,H1,I1,r,q⟩=>⟨I1.kIn,?_⟩) he hpl
 have r2:zbY (vs++dvs) (us++ds):=r.append hd
 have hl:(us++ds).length=ps.length:=by rw [← r2.length];exact F.len _ _ _ _ q
 refine wpAny_call (codeAny_mono (F.run X.A X.stack s1 H1 ⟨us,[]⟩ (us++ds) (vs++dvs) Q (E σ) hr I1.env0 (hb s1 us I1.kIn hl) r2 q) fun res s' hq=>?_)
 cases res with
 | error e=>exact hx pins σ H1 s1 e s' I1 hq
 | ok fl =>
  cases fl with
  | ret u=>exact I1.after hq
  | next=>exact False.elim hq
  | brk=>exact False.elim hq
  | cont=>exact False.elim hq
end
theorem Cx.Ok.pinned {X:Cx} (ok:X.Ok) (pn:List (Addr×Obj)) (xe:Value→Shared→Prop):Cx.Ok { X with pn:=pn,xe:=xe } :=
 ⟨ok.mod,ok.kind,ok.glob,ok.blt,ok.above,ok.inj,ok.has,ok.cab,ok.hd,ok.frames,ok.stk,ok.exf,ok.bs,ok.bsz,ok.noex,ok.exfs,ok.funs,ok.frf⟩
theorem Inv.ofTry {X:Cx} {pins pins':List (Addr×Obj)} {xe:Value→Shared→Prop} {σ:St} {H:Hp} {s:Shared} (I:Inv { X with pn:=X.pn++pins,xe:=xe } pins' σ H s) (ok:X.Ok):Inv X pins σ H s :=
 ⟨ok,I.os,I.bare,I.base,I.loc,I.cell,I.free,I.freeC,fun p hp=>I.pin p (List.mem_append_left _ hp),I.hok,I.len⟩
theorem Inv.track {X:Cx} {pins:List (Addr×Obj)} {σ:St} {H:Hp} {s:Shared} {a:Addr} {o:HO} (I:Inv X pins σ H s) (hn:H a=none) (h0:X.s₀.heap.get? a=none) (hL:a≠X.env.locals) (hc:∀ x c,X.env.cells.lookup x=some c→c≠a)
  (hp:∀ p∈X.pn++pins,p.1≠a) (new:zbS X.prog X.w (upd H a o) s.heap a o):Inv X pins σ (upd H a o) s:=by
 refine ⟨I.ok,I.os,I.bare,⟨I.base.keep,I.base.slot,fun b u q n hx=>?_,I.base.there,fun b xs q=>?_,fun b u xs q=>?_,fun b ps q=>?_⟩,I.loc,I.cell,?_,fun x c e=>?_,fun p q=>?_,fun b u e=>?_,I.len⟩
 ·have nb:b≠a:=fun z=>by rw [z,h0] at q;cases q
  rw [zal nb]
  exact I.base.free b u q n hx
 ·have q2:=I.base.tups b xs q
  rw [zal (zar q2 hn)]
  exact q2
 ·have q2:=I.base.frzs b u xs q
  rw [zal (zar q2 hn)]
  exact q2
 ·obtain ⟨m,q2⟩:=I.base.tbls b ps q
  exact ⟨m,by rw [zal (zar q2 hn)];exact q2⟩
 ·rw [zal hL.symm]
  exact I.free
 ·rw [zal (hc x c e)]
  exact I.freeC x c e
 ·obtain ⟨e,n,r⟩:=I.pin p q
  exact ⟨e,by rw [zal (hp p q)];exact n,r⟩
 ·by_cases hb:b=a
  ·subst hb
   rw [zad] at e
   cases e
   exact new
  ·rw [zal hb] at e
   exact (I.hok b u e).stay (fun c v _ q=>q) (fun c q=>by rw [zal (zar q hn)];exact q) fun c xs q=>by rw [zal (zar q hn)];exact q
theorem ziQ {X:Cx} {pins:List (Addr×Obj)} {σ:St} {H:Hp} {s:Shared} {M:Model} {A:Around} {E:Value→Shared→Prop} {i:Nat} {n:Str} {pos:Pos} {Q:Unit→Shared→Prop} (I:Inv X pins σ H s) (hN:X.N.Nodup) (hi:X.N[i]?=some n)
  (hk:X.env.scope.names.lookup n=some .local) (h:∀ s',Inv X pins (σ.set i none) H s'→Q () s'):wpAny M A (do bindName X.env n .none;unbindBehindTheSuite X.env n pos) Q E s:=by
 obtain ⟨m,hn,hl⟩:=id I.loc
 have hcls:(X.env.scope.kind == .class || (X.env.scope.kind == .module&&X.env.locals != X.env.globals))=false:=by rw [I.ok.kind];rfl
 have hiσ:i<σ.length:=by rw [I.len];exact (List.getElem?_eq_some_iff.mp hi).1
 obtain ⟨oL,_,_,hoL,_⟩:=id hn
 refine wpAny_nameGoes_keeps hk hn hcls fun h' v hn' hs=>?_
 have below:∀ b o,X.s₀.heap.get? b=some o→b≠X.env.locals:=fun b o e=>Nat.ne_of_lt (Nat.lt_of_lt_of_le (Heap.lt_size e) I.ok.above)
 refine h _ ⟨I.ok,I.os,I.bare,⟨fun b o e n hb hx=>?_,fun b o e n hb hx=>?_,I.base.free,fun b o e hx=>?_,I.base.tups,I.base.frzs,I.base.tbls⟩,⟨_,hn',fun j y v' e1 e2 e3=>?_⟩,fun y c e=>?_,I.free,I.freeC,fun p hp=>?_,fun b ob e=>?_,by simpa using I.len⟩
 ·exact (hs.2 b (below b o e)).trans (I.base.keep b o e n hb hx)
 ·obtain ⟨sl,e1⟩:=I.base.slot b o e n hb hx
  exact ⟨sl,(hs.2 b (below b o e)).trans e1⟩
 ·obtain ⟨o',e1⟩:=I.base.there b o e hx
  exact ⟨o',(hs.2 b (below b o e)).trans e1⟩
 ·have hj:j≠i:=fun z=>by
   rw [z,List.getElem?_set_self hiσ] at e2
   cases e2
  rw [List.getElem?_set_ne (Ne.symm hj)] at e2
  obtain ⟨u',r',q⟩:=hl j y v' e1 e2 e3
  refine ⟨u',r',?_⟩
  rcases q with ⟨k,e⟩ | ⟨k,c,e,z⟩
  ·refine .inl ⟨k,?_⟩
   have:y≠n:=fun e=>hj (zi4 hN e1 (e ▸ hi))
   simp [this,e]
  ·exact .inr ⟨k,c,e,z.sameBut hs (I.cne y c e)⟩
 ·obtain ⟨w',z⟩:=I.cell y c e
  exact ⟨w',z.sameBut hs (I.cne y c e)⟩
 ·obtain ⟨e,n,ne,nf,d⟩:=I.pin p hp
  exact ⟨(hs.2 p.1 ne).trans e,n,ne,nf,d⟩
 ·refine (I.hok b ob e).stay (fun c w' hc q=>(hs.2 c ?_).trans q) (fun _ q=>q) fun _ _ q=>q
  rintro rfl
  rcases hc with rfl | hc
  ·rw [I.free] at e;cases e
  ·rw [I.free] at hc;cases hc
theorem zih {M:Model} {A:Around} {E:Value→Shared→Prop} {h:Heap} {g:Array GenState} {d:Drawn} {t:Nat} {os:OsState} {e D:Addr} {oe:Obj} {cls:Value} {Q:Bool→Shared→Prop} (he:h.get? e=some oe) (hcls:oe.cls=cls)
  (O:zsQ h D) (L:PySem.W.Looks M h (isSubtype cls (.ref D)) true) (hq:Q true ⟨h,g,d,t,os⟩):wpAny M A (excMatches (.ref e) (.ref D)) Q E ⟨h,g,d,t,os⟩:=by
 obtain ⟨b1,b2,b3,b4,b5,b6,b7,b8,b9,b10,b11,b12,b13,b14,b15,b16,b17,hD,hN,hni,T⟩:=O
 have hcB:(Value.ref D::b1).contains (.type "BaseException")=true:=by rw [List.contains_cons,T.hasType PySem.F.excBase_ValueError.hasBase,Bool.or_true]
 have f:=tc_notTuple
 unfold excMatches
 repeat (first | (with_reducible refine wpAny_loadPart_at he ?_;rw [hcls]) | with_reducible refine wpAny_loadPart_at hD ?_ | (with_reducible refine wpAny_isSubtype_exc hD ?_;rw [hcB]) | (with_reducible refine L.at ?_) | wp_step)
 exact hq
def Cx.inExc (X:Cx) (ea:Addr):Cx:={ X with A:=X.A.mark (some (.ref ea)),calm:=false }
theorem Inv.toExc {X:Cx} {pins:List (Addr×Obj)} {σ:St} {H:Hp} {s:Shared} {ea:Addr} (I:Inv X pins σ H s) (hf:(X.A.mark (some (.ref ea))).frames=some X.stack):Inv (X.inExc ea) pins σ H s :=
 ⟨⟨I.ok.mod,I.ok.kind,I.ok.glob,I.ok.blt,I.ok.above,I.ok.inj,I.ok.has,I.ok.cab,(by intro z;cases z),hf,I.ok.stk,I.ok.exf,I.ok.bs,I.ok.bsz,I.ok.noex,I.ok.exfs,I.ok.funs,I.ok.frf⟩,I.os,I.bare,I.base,I.loc,I.cell,I.free,I.freeC,I.pin,I.hok,I.len⟩
theorem Inv.ofExc {X:Cx} {pins:List (Addr×Obj)} {σ:St} {H:Hp} {s:Shared} {ea:Addr} (I:Inv (X.inExc ea) pins σ H s) (ok:X.Ok):Inv X pins σ H s :=
 ⟨ok,I.os,I.bare,I.base,I.loc,I.cell,I.free,I.freeC,I.pin,I.hok,I.len⟩
structure zdf (K:PySem.W.Frag) (C:Addr):Prop where
 ga:PySem.W.findIn K (.ref C) "__getattribute__"=some (some (.builtin "BaseException.__getattribute__"))
 gn:PySem.W.findIn K (.ref C) "__getattr__"=some none
 cl:PySem.W.findIn K (.ref C) "__class__"=some (some (.builtin "object.__class__"))
 mb:PySem.W.mroIn K C (.type "BaseException")=some true
 mo:PySem.W.mroIn K C (.type "object")=some true
section
open Builtin Builtin.ObjectAttr Builtin.Getset_descriptor PySem.W
variable {K:PySem.W.Frag} {prog:Program} {w:World} {A:Around} {E:Value→Shared→Prop} {h:Heap} {g:Array GenState} {d:Drawn} {t:Nat} {os:OsState} {a C:Addr} {o:Obj}
theorem znd:splitId "BaseException.__getattribute__"=some ("BaseException","__getattribute__"):=by decide +kernel
theorem znB:builtinKind "BaseException.__getattribute__"=some .slot:=by decide +kernel
theorem zn5 {R:Result→Shared→Prop} (X:K.In h) (Z:zdf K C) (hx:h.get? a=some o) (hc:o.cls=.ref C) (hq:R (.ok (.ret (.ref C))) ⟨h,g,d,t,os⟩) :
  codeAny (model prog w) A (.call (.builtin "getset_descriptor.__get__") ⟨[.builtin "object.__class__",.ref a,.ref C],[]⟩) R ⟨h,g,d,t,os⟩:=by
 have LT:PySem.W.Looks (model prog w) h (typeOf (.ref a)) (.ref C):=hc ▸ (PySem.W.Looks.ld hx).andThen .now
 have LM:=PySem.W.looks_mroIn (M:=model prog w) X Z.mo
 refine codeAny_call_builtin PySem.W.KF.slot_gs.plain PySem.W.KF.entry_gs (PySem.W.KF.slot_gs.check _ _ _ _ _ _ _ _ PySem.W.KF.type_class (PySem.W.KF.args_gs _ _ _) ?_)
 unfold Builtin.«getset_descriptor.__get__»
 unfold descrGet
 rw [PySem.W.dga_obj]
 refine wpAny_bind (wpAny_pure ?_)
 unfold descrGetter descrCheckInstance
 unfold descrNameAndClass isInstance
 simp only [PySem.W.KF.owner_class]
 repeat lk
 refine ⟨Code.quiet_builtin _ (by decide +kernel),codeAny_builtin PySem.W.KF.entry_class ?_⟩
 unfold Builtin.«object.__class__»
 unfold shownTypeOf
 repeat lk
 exact hq
theorem zkb {tk:Tok} {Q:Fin→Shared→Prop} (X:K.In h) (Z:zdf K C) (hx:h.get? a=some o) (hc:o.cls=.ref C) (hq:Q (.done (.ret (.ref C))) ⟨h,g,d,t,os⟩) :
  wpAny (model prog w) A (Builtin.«object.__getattribute__» ⟨[.ref a,.str "__class__" tk],[]⟩) Q E ⟨h,g,d,t,os⟩:=by
 have LC:=PySem.W.looks_findIn (M:=model prog w) X Z.cl
 have h5:(⟨h,g,d,t,os⟩:Shared).TypeIs (.builtin "object.__class__") "getset_descriptor":=F.typeOf_object_class
 have f5:=F.typeOf_object_class
 have f6:=F.slot_gs_get.lookup
 have f7:=F.slot_gs_set.lookup
 repeat (any_goals (first | assumption | (with_reducible refine wpAny_loadPart_at hx ?_;rw [hc]) | with_reducible refine LC.at ?_ | wp_step))
 refine zn5 X Z hx hc ?_
 repeat (any_goals (first | assumption | wp_step))
theorem zgW {M:Model} {v:Value} {Q:Unit→Shared→Prop} (X:K.In h) (Z:zdf K C) (hx:h.get? a=some o) (hc:o.cls=.ref C) (hq:Q () ⟨h,g,d,t,os⟩) :
  wpAny M A (checkBuiltinCall "BaseException.__getattribute__" ⟨[.ref a,v],[]⟩) Q E ⟨h,g,d,t,os⟩:=by
 have LM:=PySem.W.looks_mroIn (M:=M) X Z.mb
 have LT:PySem.W.Looks M h (typeOf (.ref a)) (.ref C):=hc ▸ (PySem.W.Looks.ld hx).andThen .now
 have ao:=F.args_bexc_ga (.ref a) v
 simp only [checkBuiltinCall,znB,znd]
 refine wpAny_bind ?_
 unfold isInstance
 refine wpAny_bind (LT.at (LM.at ?_))
 repeat (any_goals (first | assumption | wp_step))
theorem zoV {tk:Tok} {Q:Value→Shared→Prop} (X:K.In h) (Z:zdf K C) (FB:ExcAttrBase "ValueError" zfA) (hx:h.get? a=some o) (hc:o.cls=.ref C) (hq:Q (.ref C) ⟨h,g,d,t,os⟩) :
  wpAny (model prog w) A (getAttrBy (.ref a) (.str "__class__" tk) false) Q E ⟨h,g,d,t,os⟩:=by
 have LG:=PySem.W.looks_findIn (M:=model prog w) X Z.ga
 have LN:=PySem.W.looks_findIn (M:=model prog w) X Z.gn
 have f3:=FB.ga.bind (.ref a)
 have n2:(Value.builtin "BaseException.__getattribute__" == Value.builtin "object.__getattribute__")=false:=by decide +kernel
 have n1:(onTheHeap (Value.ref C)&&(Value.builtin "BaseException.__getattribute__" == Value.builtin "object.__getattribute__"))=false:=by rw [n2];rfl
 repeat (any_goals (first | assumption | (with_reducible refine wpAny_loadPart_at hx ?_;rw [hc]) | with_reducible refine LG.at ?_ | with_reducible refine LN.at ?_ | wp_step))
 refine codeAny_call_builtin FB.ga.plain F.entry_bexc_ga (zgW X Z hx hc (zkb X Z hx hc ?_))
 repeat (any_goals (first | assumption | wp_step))
theorem zlk {Q:Option Value→Shared→Prop} (X:K.In h) (Z:zdf K C) (FB:ExcAttrBase "ValueError" zfA) (hx:h.get? a=some o) (hc:o.cls=.ref C) (hq:Q (some (.ref C)) ⟨h,g,d,t+1,os⟩) :
  wpAny (model prog w) A (getAttr? (.ref a) "__class__") Q E ⟨h,g,d,t,os⟩:=by
 unfold getAttr? getAttrBy?
 repeat (any_goals (first | assumption | with_reducible apply zoV X Z FB hx hc | wp_step))
end
end L2
namespace L2
open PySem PySem.Spec PyProof.Rows
theorem zpf {env:Env} {x:Str} {c:Addr} (h:env.cells.lookup x=some c):cellOf env x=pure c:=by
 unfold cellOf
 rw [h]
theorem zgG {env:Env}:∀ (l:List (Str×NameKind)) (cs:List (Str×Addr)),(∀ y∈l,y.2=.free→∃ c,env.cells.lookup y.1=some c)→(∀ x c,cs.lookup x=some c→env.cells.lookup x=some c) →
  ∃ cl,(forIn l cs fun (y:Str×NameKind) r=>(if (y.2 == .free)=true then do let c ← cellOf env y.1;pure (ForInStep.yield ((y.1,c)::r)) else pure (ForInStep.yield r):Sem (ForInStep (List (Str×Addr)))))=pure cl ∧
   (∀ x c,cl.lookup x=some c→env.cells.lookup x=some c)∧(∀ y∈l,y.2=.free→∃ c,cl.lookup y.1=some c)∧∀ x,(∃ c,cs.lookup x=some c)→∃ c,cl.lookup x=some c
 | [],cs,_,hc=>⟨cs,by simp,hc,by simp,fun _ h=>h⟩
 | y::l,cs,hf,hc=>by
  have hf':∀ z∈l,z.2=.free→∃ c,env.cells.lookup z.1=some c:=fun z hz=>hf z (List.mem_cons_of_mem _ hz)
  by_cases hy:y.2=.free
  ·obtain ⟨c,e⟩:=hf y List.mem_cons_self hy
   have hc':∀ x d,List.lookup x ((y.1,c)::cs)=some d→env.cells.lookup x=some d:=fun x d q=>by
    rw [List.lookup_cons] at q
    split at q
    ·rename_i b
     cases q
     rw [beq_iff_eq.mp b,e]
    ·exact hc x d q
   obtain ⟨cl,e1,e2,e3,e4⟩:=zgG l ((y.1,c)::cs) hf' hc'
   refine ⟨cl,?_,e2,fun z hz q=>?_,fun x ⟨d,q⟩=>e4 x ?_⟩
   ·rw [List.forIn_cons,if_pos (by rw [hy];rfl),zpf e]
    simpa using e1
   ·rcases List.mem_cons.mp hz with r | r
    ·exact e4 z.1 ⟨c,by rw [r,List.lookup_cons];simp⟩
    ·exact e3 z r q
   ·rw [List.lookup_cons]
    split
    ·exact ⟨_,rfl⟩
    ·exact ⟨d,q⟩
  ·obtain ⟨cl,e1,e2,e3,e4⟩:=zgG l cs hf' hc
   refine ⟨cl,?_,e2,fun z hz q=>?_,e4⟩
   ·rw [List.forIn_cons,if_neg (by simpa using hy)]
    simpa using e1
   ·rcases List.mem_cons.mp hz with r | r
    ·rw [r] at q;exact absurd q hy
    ·exact e3 z r q
theorem zoj {scope:Scope} {env:Env} (h:∀ y∈scope.names,y.2=.free→∃ c,env.cells.lookup y.1=some c) :
  ∃ cl,closureFor scope env=pure cl∧(∀ x c,cl.lookup x=some c→env.cells.lookup x=some c)∧∀ y∈scope.names,y.2=.free→∃ c,cl.lookup y.1=some c:=by
 obtain ⟨cl,e1,e2,e3,_⟩:=zgG scope.names [] h (by simp)
 refine ⟨cl,?_,e2,e3⟩
 unfold closureFor
 simp only [bind_pure]
 exact e1
theorem zjW {P:Program} {w:World} {A:Around} {R:Result→Shared→Prop} {s:Shared} {elt target iter:Expr} {ifs:List Expr} {scope:Scope} {pos:Pos} {it acc:Value} {env:Env} {Z:Value→Shared→Prop} (J:Nat→Shared→Prop)
  (hZ:Z=notedBy (model P w) A env fun e s'=>R (.error e) s')
  (turn:∀ n s,J n s→wpAny (model P w) A (pyNext it) (fun r s1=>match r with
   | none=>R (.ok .next) s1
   | some v=>wpAny (model P w) A (letOwnedTupleGo target it v) (fun _ s2=>wpAny (model P w) A (assign target env v) (fun _ s3 =>
     wpAny (model P w) A (forIn ifs true fun c r=>if r=true then do let ok ← isTrue c env (eval c env);pure (ForInStep.yield ok) else pure (ForInStep.yield r)) (fun ok s4 =>
      if ok=true then wpAny (model P w) A (eval elt env) (fun x s5=>wpAny (model P w) A (call (.builtin "list.append") [acc,x]) (fun _ s6=>∃ m,m<n∧J m s6) Z s5) Z s4
      else ∃ m,m<n∧J m s4) Z s3) Z s2) Z s1) Z s)
  (n:Nat) (h:J n s):codeAny (model P w) A (.compLoop (.ListComp elt [⟨target,iter,ifs,0⟩] scope pos) 0 it acc env) R s:=by
 subst hZ
 refine codeAny_loop rfl J (fun n s hJ=>?_) n h
 show wpAny _ _ (Sem.onRaise (compTurn (.ListComp elt [⟨target,iter,ifs,0⟩] scope pos) 0 it acc env) fun x=>do noteFrame x env;theTreesLotGoes x) _ _ s
 refine wpAny_noted ?_
 rw [compTurn_list]
 refine wpAny_bind (wpAny_standAt (wpAny_bind (thn (turn n s hJ) fun r s1 h1=>?_)))
 cases r with
 | none=>exact wpAny_pure h1
 | some v =>
  refine wpAny_bind (thn h1 fun _ s2 h2=>wpAny_bind (thn h2 fun _ s3 h3=>wpAny_bind (thn h3 fun ok s4 h4=>?_)))
  cases ok with
  | false=>exact wpAny_pure ⟨rfl,h4⟩
  | true=>exact wpAny_bind (wpAny_bind (thn h4 fun x s5 h5=>wpAny_bind (thn h5 fun _ s6 h6=>wpAny_pure (wpAny_pure ⟨rfl,h6⟩))))
def PTs (X:Cx) (ifs:List Expr) (t:TT):Prop:=∀ (pins:List (Addr×Obj)) (s:Shared) (σ:St) (H:Hp) (Q:Bool→Hp→Prop),Inv X pins σ H s→t σ H Q →
 wpAny (model X.prog X.w) X.A (forIn ifs true fun c r=>if r=true then do let ok ← isTrue c X.env (eval c X.env);pure (ForInStep.yield ok) else pure (ForInStep.yield r)) (TP X pins σ Q) X.xe s
def zcC:TT:=fun _ H Q=>Q true H
theorem zfB {X:Cx}:PTs X [] zcC:=fun _ _ _ H _ I h=>wpAny_tests_nil ⟨H,I,h⟩
def zu0 (cap:List (Option Nat)) (σ:St):St:=cap.map fun o=>o.bind fun j=>(σ[j]?).join
def zgg (wi:TI) (g:TG) (tt:TT) (te:TE) (cap:List (Option Nat)):TE:=fun σ H Q=>wi σ H fun J H1=>∀ D,H1 D=none→∃ W:Nat→Nat→St→Hp→Prop,(∃ m,W 0 m (zu0 cap σ) (upd H1 D (.lst [])))∧∀ i m σc Hc,W i m σc Hc →
 (J.stop i Hc∧Q (.ref D) Hc)∨(J.go i Hc∧∃ N:St→Hp→Prop,(∀ σ' H',N σ' H'→∃ m',m'<m∧W (i+1) m' σ' H')∧∀ x H',J.yld i Hc x H'→g x σc H' fun σ2 H2=>tt σ2 H2 fun b H3=>if b=true then te σ2 H3 fun y H4=>zbw (.ref D) [y] H4 fun _ H5=>N σ2 H5 else N σ2 H3)
def Cx.blk (X:Cx) (Nc:List Str) (scope:Scope) (cl:List (Str×Addr)) (s:Shared) (H:Hp) (fp:List Addr):Cx:={ X with
 N:=Nc,s₀:=s,H₀:=H,env:=compEnvC scope cl s.heap.objs.size X.env,outer:=X.stack,stack:=X.stack,ex:=fp,fn:=fun _=>false,pn:=[],xe:=fun _ _=>False }
structure zoa (sc:Scope) (N Nc:List Str) (cap:List (Option Nat)) (scope:Scope):Prop where
 kind:scope.kind=.function
 nocell:∀ y∈scope.names,y.2≠.cell
 free:∀ y∈scope.names,y.2=.free→sc.names.lookup y.1=some .cell∨sc.names.lookup y.1=some .free
 once:∀ y∈scope.names,scope.names.lookup y.1=some y.2
 nd:Nc.Nodup
 len:cap.length=Nc.length
 cap:∀ (i:Nat) (y:Str) (j:Nat),Nc[i]?=some y→cap[i]?=some (some j)→N[j]?=some y∧scope.names.lookup y=some .free
def zsD (sc:Scope) (N Nc:List Str) (cap:List (Option Nat)) (scope:Scope):Bool :=
 scope.kind == .function&&scope.names.all (fun y=>y.2 != .cell&&scope.names.lookup y.1 == some y.2&&(y.2 != .free || sc.names.lookup y.1 == some .cell || sc.names.lookup y.1 == some .free))&&decide Nc.Nodup&&cap.length == Nc.length
  && (Nc.zip cap).all fun p=>p.2.all fun j=>N[j]? == some p.1&&scope.names.lookup p.1 == some .free
theorem zoa.of {sc:Scope} {N Nc:List Str} {cap:List (Option Nat)} {scope:Scope} (h:zsD sc N Nc cap scope=true):zoa sc N Nc cap scope:=by
 unfold zsD at h
 simp only [Bool.and_eq_true,beq_iff_eq,List.all_eq_true,bne_iff_ne,ne_eq,Bool.or_eq_true,decide_eq_true_eq] at h
 obtain ⟨⟨⟨⟨h1,h2⟩,h3⟩,h4⟩,h5⟩:=h
 refine ⟨h1,fun y hy=>(h2 y hy).1.1,fun y hy hf=>?_,fun y hy=>(h2 y hy).1.2,h3,h4,fun i y j e1 e2=>?_⟩
 ·rcases (h2 y hy).2 with (q | q) | q
  ·exact absurd hf q
  ·exact .inl q
  ·exact .inr q
 ·have m:(y,some j)∈Nc.zip cap:=by
   refine List.mem_of_getElem? (i:=i) ?_
   rw [List.getElem?_zip_eq_some]
   exact ⟨e1,e2⟩
  have z:=h5 _ m
  simpa using z
theorem zdG {env:Env} {x:Str}:∀ {names:List (Str×NameKind)} {k:NameKind},((names.map fun (n,k)=>if (k == NameKind.free&&env.scope.kind == .function&&env.kindOf n == some .cell) then (n,NameKind.cell) else (n,k)).lookup x=some k)→k≠.cell∧names.lookup x=some k∨(k=.cell∧(names.lookup x=some .cell∨names.lookup x=some .free))
 | [],_,h=>by simp at h
 | (n,q)::r,k,h=>by
  have ih:=@zdG env x r k
  rw [List.map_cons] at h
  dsimp only at h
  by_cases hx:(x == n)=true
  ·by_cases hc:(q == NameKind.free&&env.scope.kind == .function&&env.kindOf n == some .cell)=true
   ·rw [if_pos hc,List.lookup_cons,hx] at h
    cases h
    rw [Bool.and_eq_true,Bool.and_eq_true] at hc
    refine .inr ⟨rfl,.inr ?_⟩
    rw [List.lookup_cons,hx]
    exact congrArg some (beq_iff_eq.mp hc.1.1)
   ·rw [if_neg hc,List.lookup_cons,hx] at h
    cases h
    rw [List.lookup_cons,hx]
    by_cases z:q=.cell
    ·exact .inr ⟨z,.inl (congrArg some z)⟩
    ·exact .inl ⟨z,rfl⟩
  ·have hx':(x == n)=false:=by simpa using hx
   rw [List.lookup_cons,hx']
   refine ih ?_
   by_cases hc:(q == NameKind.free&&env.scope.kind == .function&&env.kindOf n == some .cell)=true
   ·rw [if_pos hc,List.lookup_cons,hx'] at h
    exact h
   ·rw [if_neg hc,List.lookup_cons,hx'] at h
    exact h
section
variable {X:Cx} {pins:List (Addr×Obj)} {σ:St} {H:Hp} {s:Shared}
theorem zuz {Nc:List Str} {cap:List (Option Nat)} {scope:Scope} {cl:List (Str×Addr)} {fp:List Addr} {h1:Heap} {tk:Nat} {m1:Str→Option Value} (I:Inv X pins σ H s) (B:zoa X.env.scope X.N Nc cap scope)
  (hsub:∀ x c,cl.lookup x=some c→X.env.cells.lookup x=some c) (hfr:∀ y∈scope.names,y.2=.free→∃ c,cl.lookup y.1=some c) (hf:∀ b∈fp,zl4 X pins H b) (hin:∀ b∈fp,b<s.heap.objs.size)
  (hk:∀ b o,s.heap.get? b=some o→h1.get? b=some o) (hn:h1.Ns s.heap.objs.size m1):Inv (X.blk Nc scope cl s H fp) [] (zu0 cap σ) H { s with heap:=h1,toks:=tk }:=by
 have ok:=I.ok
 have bsz:X.base.objs.size≤s.heap.objs.size:=Nat.le_trans ok.bsz I.sz
 refine ⟨⟨ok.mod,B.kind,ok.glob,ok.blt,Nat.le_refl _,fun x y c h1 h2=>ok.inj x y c (hsub x c h1) (hsub y c h2),fun x hx=>?_,(by intro x c z;cases z),ok.hd,ok.frames,.inl rfl,fun b hb=>⟨Nat.ne_of_lt (hin b hb),fun x c e=>(hf b hb).2.2.2.2.1 x c (hsub x c e)⟩,
  I.bs,bsz,fun b o e hb=>?_,fun b hb z=>?_,I.stack,I.stkFree⟩,rfl,I.bare,Un.kept hk,⟨m1,hn,fun i y v e1 e2 e3=>?_⟩,fun x c e=>?_,I.hok.fresh (Nat.le_refl _),fun x c e=>I.freeC x c (hsub x c e),(by intro p hp;cases hp),I.hok.kept hk,?_⟩
 ·have look:∀ k,(relabel scope X.env).names.lookup x=some k→k=.cell∨k=.free→∃ c,cl.lookup x=some c:=fun k q hk=>by
   rcases zdG q with ⟨n1,n2⟩ | ⟨_,n2 | n2⟩
   ·rcases hk with r | r
    ·exact absurd r n1
    ·exact hfr (x,k) (PySem.mem_of_lookup n2) r
   ·exact absurd rfl (B.nocell _ (PySem.mem_of_lookup n2))
   ·exact hfr (x,.free) (PySem.mem_of_lookup n2) rfl
  rcases hx with q | q
  ·exact look _ q (.inl rfl)
  ·exact look _ q (.inr rfl)
 ·rcases (hf b hb).2.2.2.1 with q | q
  ·exact ok.noex b o e q
  ·exact absurd (Nat.lt_of_lt_of_le (Heap.lt_size e) (Nat.le_trans ok.bsz q)) (Nat.lt_irrefl _)
 ·rcases List.mem_cons.mp (I.stkSub b z) with q | q
  ·exact (hf b hb).2.1 q
  ·exact (hf b hb).2.2.1 q
 ·have e2':(cap[i]?).map (fun o=>o.bind fun j=>(σ[j]?).join)=some (some v):=by rw [← List.getElem?_map];exact e2
  obtain ⟨o,ho,eo⟩:=Option.map_eq_some_iff.mp e2'
  obtain ⟨j,rfl,ej⟩:=Option.bind_eq_some_iff.mp eo
  have ej':σ[j]?=some (some v):=by
   cases q:σ[j]? with
   | none=>rw [q] at ej;cases ej
   | some z=>rw [q] at ej;cases ej;rfl
  obtain ⟨c1,c2⟩:=B.cap i y j e1 ho
  have vis:=B.free (y,.free) (PySem.mem_of_lookup c2) rfl
  obtain ⟨m,_,hl⟩:=I.loc
  obtain ⟨u,r,lk⟩:=hl j y v c1 ej' (.inr vis)
  obtain ⟨c',ec⟩:=hfr (y,.free) (PySem.mem_of_lookup c2) rfl
  have ec2:=hsub _ _ ec
  rcases lk with ⟨kl,_⟩ | ⟨_,c,e,z⟩
  ·have kl':X.env.scope.names.lookup y=some .local:=kl
   rcases vis with q | q
   ·have q':X.env.scope.names.lookup y=some .cell:=q
    rw [kl'] at q';cases q'
   ·have q':X.env.scope.names.lookup y=some .free:=q
    rw [kl'] at q';cases q'
  ·have ecc:X.env.cells.lookup y=some c':=ec2
   rw [e] at ecc
   cases ecc
   refine ⟨u,r,.inr ⟨?_,_,ec,?_⟩⟩
   ·rcases e3 with q | q | q
    ·rcases zdG q with ⟨_,n2⟩ | ⟨n1,_⟩
     ·rw [c2] at n2;cases n2
     ·cases n1
    ·exact .inl q
    ·exact .inr q
   ·obtain ⟨o,ho,hd⟩:=z
    exact ⟨o,hk _ _ ho,hd⟩
 ·obtain ⟨v,o,ho,hd⟩:=I.cell x c (hsub x c e)
  exact ⟨v,o,hk _ _ ho,hd⟩
 ·show (zu0 cap σ).length=Nc.length
  rw [zu0,List.length_map,B.len]
theorem zpI {Nc:List Str} {scope:Scope} {cl:List (Str×Addr)} {fp:List Addr} {σc:St} {Hc:Hp} {s':Shared} {h':Heap} (I:Inv X pins σ H s) (hf:∀ b∈fp,zl4 X pins H b) (J:Inv (X.blk Nc scope cl s H fp) [] σc Hc s')
  (hs:Heap.SameBut s.heap.objs.size s'.heap h'):Inv X pins σ Hc { s' with heap:=h' }:=by
 have ne:∀ b o,s.heap.get? b=some o→b≠s.heap.objs.size:=fun b o e=>Nat.ne_of_lt (Heap.lt_size e)
 have u:=J.base
 refine I.call' (ch:=fp) J.os ⟨fun b o e n hb hx=>(hs.2 b (ne b o e)).trans (u.keep b o e n hb hx),fun b o e n hb hx=>?_,u.free,fun b o e hx=>?_,u.tups,u.frzs,u.tbls⟩ (fun b ob e=>?_) J.bare fun b hb=>⟨(hf b hb).2.2.2.1,(hf b hb).2.1,(hf b hb).2.2.2.2.1,(hf b hb).2.2.2.2.2⟩
 ·obtain ⟨sl,q⟩:=u.slot b o e n hb hx
  exact ⟨sl,(hs.2 b (ne b o e)).trans q⟩
 ·obtain ⟨o',q⟩:=u.there b o e hx
  exact ⟨o',(hs.2 b (ne b o e)).trans q⟩
 ·have hC:Hc s.heap.objs.size=none:=J.free
  refine (J.hok b ob e).stay (fun c w' hc q=>(hs.2 c ?_).trans q) (fun _ q=>q) fun _ _ q=>q
  rintro rfl
  rcases hc with z | hc
  ·rw [← z,hC] at e;cases e
  ·rw [hC] at hc;cases hc
end
theorem Inv.turns {X:Cx} {pins:List (Addr×Obj)} {σ:St} {H:Hp} {s:Shared} {h':Heap} {t':Nat} {ch:List Addr} (I:Inv X pins σ H s) (k:∀ b o,b∉ch→s.heap.get? b=some o→h'.get? b=some o) (hf:∀ b∈ch,zl4 X pins H b):Inv X pins σ H { s with heap:=h',toks:=t' }:=by
 refine I.call (g':=s.gens) (d':=s.drawn) (ch:=ch) ⟨fun b o e _ _ hx=>k b o hx e,fun b o e _ _ hx=>⟨o.slots,k b o hx e⟩,fun _ _ _ n _=>n,fun b o e hx=>⟨o,k b o hx e⟩,fun _ _ q=>q,fun _ _ _ q=>q,fun _ ps q=>⟨#[],by rw [q];simp⟩⟩ (fun b u e=>?_) I.bare
  fun b hb=>⟨(hf b hb).2.2.2.1,(hf b hb).2.1,(hf b hb).2.2.2.2.1,(hf b hb).2.2.2.2.2⟩
 refine (I.hok b u e).stay (fun c v hc q=>k c v (fun z=>?_) q) (fun _ q=>q) fun _ _ q=>q
 have n:=(hf c z).1
 rcases hc with r | r
 ·rw [r,e] at n;cases n
 ·rw [r] at n;cases n
theorem zkE {X:Cx} {pins:List (Addr×Obj)} {s:Shared} {σ:St} {H:Hp} {Q:VK} {sc:Scope} {N Nc:List Str} {cap:List (Option Nat)} {elt tg iter:Expr} {ifs:List Expr} {scope:Scope} {pos pos':Pos} {wi:TI} {g:TG} {tt:TT} {te:TE} {use:Option (Value→Sem Unit)} {QQ:Value→Shared→Prop}
  (hc:X.calm=true) (hsc:X.env.scope=sc) (hN:X.N=N) (B:zoa sc N Nc cap scope) (hi:PI X tg iter wi)
  (hg:∀ cl s H fp,PG (X.blk Nc scope cl s H fp) tg g) (ht:∀ cl s H fp,PTs (X.blk Nc scope cl s H fp) ifs tt) (he:∀ cl s H fp,PE (X.blk Nc scope cl s H fp) elt te)
  (hs:∀ x,foldedSetIterable iter X.env x=pure x) (I:Inv X pins σ H s) (h:zgg wi g tt te cap σ H Q)
  (fin:∀ (s3:Shared) (H3:Hp) (cl:List (Str×Addr)) (fp:List Addr) (D:Addr) (σc:St) (Hc:Hp) (s6:Shared),Inv X pins σ H3 s3→(∀ b∈fp,zl4 X pins H3 b)→Inv (X.blk Nc scope cl s3 H3 fp) [] σc Hc s6→Q (.ref D) Hc→compPost (model X.prog X.w) X.A X.xe use QQ (.ref D) s3.heap.objs.size (.ok .next) s6) :
  wpAny (model X.prog X.w) X.A (comprehension (.ListComp elt [⟨tg,iter,ifs,0⟩] scope pos) scope X.env pos' (newList []) false (eval iter X.env) use) QQ X.xe s:=by
 subst hsc hN
 obtain ⟨cl,hclos,hsub,hfr⟩:=zoj (scope:=scope) (env:=X.env) fun y hy hf=>I.ok.has y.1 (B.free y hy hf)
 refine wpAny_comprehension_free (use:=use) rfl hs hclos B.kind (fun y hy hl=>by rw [B.once y hy,hl]) (thn (hi pins s σ H _ I h) fun v s1 h1=>thn h1 fun itv s2 h2=>?_)
 obtain ⟨it,fp,tn,J,H2,rfl,I2,T,st2,f2,hw⟩:=h2
 refine wpAny_newObj_type ?_
 have hfree:H2 s2.heap.objs.size=none:=I2.hok.fresh (Nat.le_refl _)
 have I3:=I2.laid (t':=s2.toks) (o:=.lst []) (fun b u e=>Heap.get?_push_of_some { cls:=.type "list",dict:=none,data:=.seq ([]:List Value).toArray } e) (Nat.le_refl _) ⟨by decide,[],0,.nil,Heap.get?_push_size _ rfl⟩
 obtain ⟨W,⟨m0,w0⟩,turn⟩:=hw _ hfree
 have keep23:∀ b o,s2.heap.get? b=some o→(s2.heap.push { cls:=.type "list",dict:=none,data:=.seq ([]:List Value).toArray }).get? b=some o:=fun b o e=>Heap.get?_push_of_some _ e
 have hin:∀ b∈fp,b<s2.heap.objs.size:=fun b hb=>let ⟨o,e,_⟩:=T.obj 0 _ st2 b hb;Heap.lt_size e
 have f3:∀ b∈fp,zl4 X pins (upd H2 s2.heap.objs.size (.lst [])) b:=fun b hb=>⟨by rw [zal (Nat.ne_of_lt (hin b hb))];exact (f2 b hb).1,(f2 b hb).2⟩
 have st3:=T.keep 0 _ _ st2 fun b _ o e=>keep23 b o e
 have hin3:∀ b∈fp,b<(s2.heap.push { cls:=.type "list",dict:=none,data:=.seq ([]:List Value).toArray }).objs.size:=fun b hb=>let ⟨o,e,_⟩:=T.obj 0 _ st3 b hb;Heap.lt_size e
 clear keep23 hin
 generalize s2.heap.push { cls:=.type "list",dict:=none,data:=.seq ([]:List Value).toArray }=h3 at I3 st3 hin3 ⊢
 generalize upd H2 s2.heap.objs.size (.lst [])=H3 at I3 f3 w0
 generalize s2.heap.objs.size=D at hfree w0 turn ⊢
 refine wpAny_newFunctionEnv B.nocell (by intro y hy;cases hy) (fun h1 hns hsb=>?_) B.kind
 have keep:∀ b o,h3.get? b=some o→h1.get? b=some o:=fun b o e=>(hsb.2 b (Nat.ne_of_lt (Heap.lt_size e))).trans (Heap.get?_push_of_some _ e)
 have I4:=zuz (tk:=s2.toks+([]:List (Str×Value)).length) I3 B hsub hfr f3 hin3 keep hns
 have st4:=T.keep 0 _ _ st3 fun b _ o e=>keep b o e
 have stat:∀ {H':Hp},(∀ b∈fp,H' b=none)→∀ b∈fp,zl4 (X.blk Nc scope cl { s2 with heap:=h3,toks:=s2.toks } H3 fp) [] H' b:=fun hn b hb =>
  ⟨hn b hb,Nat.ne_of_lt (hin3 b hb),fun z=>by
   rcases List.mem_cons.mp (I3.stkSub b z) with q | q
   ·exact (f3 b hb).2.1 q
   ·exact (f3 b hb).2.2.1 q,.inl hb,fun x c e=>(f3 b hb).2.2.2.2.1 x c (hsub x c e),by intro p hp;cases hp⟩
 have hcb:(X.blk Nc scope cl { s2 with heap:=h3,toks:=s2.toks } H3 fp).calm=true:=hc
 have loop:codeAny (model X.prog X.w) X.A (.compLoop (.ListComp elt [⟨tg,iter,ifs,0⟩] scope pos) 0 (.ref it) (.ref D) (compEnvC scope cl h3.objs.size X.env)) (compPost (model X.prog X.w) X.A X.xe use QQ (.ref D) h3.objs.size) { s2 with heap:=h1,toks:=s2.toks+([]:List (Str×Value)).length }:=by
  refine zjW (fun n s'=>∃ i σ' H',Inv (X.blk Nc scope cl { s2 with heap:=h3,toks:=s2.toks } H3 fp) [] σ' H' s'∧tn i s'.heap∧(∀ b∈fp,H' b=none)∧W i n σ' H') rfl ?_ m0 ⟨0,_,H3,I4,st4,fun b hb=>(f3 b hb).1,w0⟩
  rintro n s5 ⟨i,σ5,H5,I5,st5,fr5,w5⟩
  rcases turn i n σ5 H5 w5 with ⟨stop,qn⟩ | ⟨go,N',hN',step⟩
  ·refine thn (T.done (X.blk Nc scope cl { s2 with heap:=h3,toks:=s2.toks } H3 fp) rfl rfl rfl hcb i [] s5 σ5 H5 _ I5 (stat fr5) st5 stop) fun r s6 hQ'=>?_
   obtain ⟨hr,I6⟩:=hQ'
   subst hr
   exact fin { s2 with heap:=h3,toks:=s2.toks } H3 cl fp D σ5 H5 s6 I3 f3 I6 qn
  ·refine thn (T.item (X.blk Nc scope cl { s2 with heap:=h3,toks:=s2.toks } H3 fp) rfl rfl rfl hcb i [] s5 σ5 H5 _ I5 (stat fr5) st5 go) fun r s6 hQ'=>?_
   obtain ⟨u,hr,h6⟩:=hQ'
   subst hr
   refine thn h6 fun _ s7 hQ'=>?_
   obtain ⟨x,H7,I7,r7,y7,st7,fr7⟩:=hQ'
   have I7':=I7.pinned (stat fr7) (T.obj _ _ st7)
   refine wpAny_mono (hg cl _ H3 fp _ s7 σ5 H7 x u _ I7' r7 (step x H7 y7)) (fun _ s8 hQ'=>?_) fun _ _ z=>z.elim
   obtain ⟨σ8,H8,I8,q8⟩:=hQ'
   have again:∀ {H9:Hp} {s9:Shared} {m:Nat},Inv (X.blk Nc scope cl { s2 with heap:=h3,toks:=s2.toks } H3 fp) ([]++zkk fp s7.heap) σ8 H9 s9→m<n→W (i+1) m σ8 H9→∃ m,m<n∧∃ i σ' H',Inv (X.blk Nc scope cl { s2 with heap:=h3,toks:=s2.toks } H3 fp) [] σ' H' s9∧tn i s9.heap∧(∀ b∈fp,H' b=none)∧W i m σ' H':=fun {H9 s9 m} I9 hm w9=>by
    refine ⟨m,hm,i+1,σ8,H9,I9.unpinned,T.keep _ _ _ st7 fun b hb o e=>(I9.pin (b,o) (List.mem_append_right _ (List.mem_append_right _ (ze0 hb e)))).1,fun b hb=>?_,w9⟩
    obtain ⟨o,e,d⟩:=T.obj _ _ st7 b hb
    exact (I9.pin (b,o) (List.mem_append_right _ (List.mem_append_right _ (ze0 hb e)))).2.1
   refine wpAny_mono (ht cl _ H3 fp _ s8 σ8 H8 _ I8 q8) (fun b s9 hQ'=>?_) fun _ _ z=>z.elim
   obtain ⟨H9,I9,q9⟩:=hQ'
   cases b with
   | false =>
    rw [if_neg (by decide)] at q9
    obtain ⟨m',hm,w9⟩:=hN' _ _ q9
    exact again I9 hm w9
   | true =>
    rw [if_pos rfl] at q9
    refine wpAny_mono (he cl _ H3 fp _ s9 σ8 H9 _ I9 q9) (fun u s10 hQ'=>?_) fun _ _ z=>z.elim
    obtain ⟨y,H10,I10,r10,q10⟩:=hQ'
    refine wpAny_mono (zcN (X:=X.blk Nc scope cl { s2 with heap:=h3,toks:=s2.toks } H3 fp) _ s10 σ8 H10 (.ref D) [y] (.ref D) [u] _ I10 rfl (.cons r10 .nil) q10) (fun _ s11 hQ'=>?_) fun _ _ z=>z.elim
    obtain ⟨_,H11,I11,_,q11⟩:=hQ'
    obtain ⟨m',hm,w11⟩:=hN' _ _ q11
    exact again I11 hm w11
 exact codeAny_compStart_list loop (T.self _ 0 _ _ _ st4 loop)
theorem zh5 {X:Cx} {sc:Scope} {N Nc:List Str} {cap:List (Option Nat)} {elt tg iter:Expr} {ifs:List Expr} {scope:Scope} {pos:Pos} {wi:TI} {g:TG} {tt:TT} {te:TE} (hc:X.calm=true) (hsc:X.env.scope=sc) (hN:X.N=N) (B:zoa sc N Nc cap scope) (hi:PI X tg iter wi)
  (hg:∀ cl s H fp,PG (X.blk Nc scope cl s H fp) tg g) (ht:∀ cl s H fp,PTs (X.blk Nc scope cl s H fp) ifs tt) (he:∀ cl s H fp,PE (X.blk Nc scope cl s H fp) elt te)
  (hs:∀ x,foldedSetIterable iter X.env x=pure x:=by intro _;rfl):PE X (.ListComp elt [⟨tg,iter,ifs,0⟩] scope pos) (zgg wi g tt te cap):=by
 intro pins s σ H Q I h
 rw [eval_ListComp]
 refine zkE hc hsc hN B hi hg ht he hs I h fun s3 H3 cl fp D σc Hc s6 I3 f3 I6 q=>?_
 obtain ⟨m,hn,_⟩:=id I6.loc
 exact ⟨m,hn,fun h' hs'=>⟨.ref D,Hc,zpI I3 f3 I6 hs',rfl,q⟩⟩
theorem ziz {X:Cx} {i:Nat} {y:Str} {py spos:Pos} {sc:Scope} {N Nc:List Str} {cap:List (Option Nat)} {elt tg iter:Expr} {ifs:List Expr} {scope:Scope} {pos:Pos} {wi:TI} {g:TG} {tt:TT} {te:TE} (hnd:X.N.Nodup) (hix:X.N[i]?=some y) (hl:X.env.scope.names.lookup y=some .local)
  (hc:X.calm=true) (hsc:X.env.scope=sc) (hN:X.N=N) (B:zoa sc N Nc cap scope) (hi:PI X tg iter wi)
  (hg:∀ cl s H fp,PG (X.blk Nc scope cl s H fp) tg g) (ht:∀ cl s H fp,PTs (X.blk Nc scope cl s H fp) ifs tt) (he:∀ cl s H fp,PE (X.blk Nc scope cl s H fp) elt te)
  (hsw:swapsWith (.ListComp elt [⟨tg,iter,ifs,0⟩] scope pos) (some (.Name y py)) spos.line X.env=pure true:=by rfl)
  (hs:∀ x,foldedSetIterable iter X.env x=pure x:=by intro _;rfl):PS X (.Assign [.Name y py] (.ListComp elt [⟨tg,iter,ifs,0⟩] scope pos) spos) (zaU (zgg wi g tt te cap) (zai i)):=by
 intro pins s σ H D0 I h
 rw [exec_Assign_Name_used _ _ _ _ hsw]
 refine wpAny_bind (wpAny_standAt (wpAny_bind (wpAny_bind (thn (zkE (use:=some (assign (.Name y py) X.env)) (QQ:=fun _ s'=>SP X pins D0 .next s') hc hsc hN B hi hg ht he hs I h fun s3 H3 cl fp D σc Hc s6 I3 f3 I6 q=>?_) fun _ s' hq=>wpAny_pure (wpAny_pure hq)))))
 have I6x:Inv X pins σ Hc s6:=zpI I3 f3 I6 (Heap.SameBut.refl ..)
 obtain ⟨m,hn,_⟩:=id I6.loc
 have hC:Hc s3.heap.objs.size=none:=I6.free
 have fpC:=I3.fpOk (b:=s3.heap.objs.size) (Nat.le_refl _) hC
 refine wpAny_assign_Name (zj6 I6x hnd hix (.inl hl) (v:=.ref D) rfl (fun s7 I7 ch=>?_) (.inr hl))
 obtain ⟨a,same,ha⟩:=ch
 have nC:s3.heap.objs.size≠a:=by
  rcases ha with r | r
  ·rw [r];exact fpC.2.1
  ·exact (fpC.2.2.2.2.1 _ _ r).symm
 refine ⟨m,hn.sameBut same nC,fun h' hs'=>⟨_,_,I7.turns (t':=s7.toks) (ch:=[s3.heap.objs.size]) (fun b o hb e=>(hs'.2 b (by simpa using hb)).trans e) fun b hb=>?_,q⟩⟩
 have e:b=s3.heap.objs.size:=by simpa using hb
 rw [e]
 exact fpC
theorem zpG {K:PySem.W.Frag} {a:Addr} {xs:List V} {g:TG} {tt:TT} {te:TE} {σ:St} {H:Hp} {D:Addr} {Q:VK} (Pv:Nat→List V→St→Hp→Prop) (h0:Pv 0 [] σ (upd H D (.lst []))) (hl:∀ i ys σ H,i≤xs.length→Pv i ys σ H→SqL K H a xs)
  (hs:∀ i x ys σ H,xs[i]?=some x→H D=some (.lst ys)→Pv i ys σ H→g x σ H fun σ2 H2=>tt σ2 H2 fun b H3=>if b=true then te σ2 H3 fun y H4=>zbw (.ref D) [y] H4 fun _ H5=>∃ ys,H5 D=some (.lst ys)∧Pv (i+1) ys σ2 H5 else ∃ ys,H3 D=some (.lst ys)∧Pv (i+1) ys σ2 H3)
  (hd:∀ ys σ H,H D=some (.lst ys)→Pv xs.length ys σ H→Q (.ref D) H) :
  ∃ W:Nat→Nat→St→Hp→Prop,(∃ m,W 0 m σ (upd H D (.lst [])))∧∀ i m σc Hc,W i m σc Hc →
   ((Itl K a).stop i Hc∧Q (.ref D) Hc)∨((Itl K a).go i Hc∧∃ N:St→Hp→Prop,(∀ σ' H',N σ' H'→∃ m',m'<m∧W (i+1) m' σ' H')∧∀ x H',(Itl K a).yld i Hc x H'→g x σc H' fun σ2 H2=>tt σ2 H2 fun b H3=>if b=true then te σ2 H3 fun y H4=>zbw (.ref D) [y] H4 fun _ H5=>N σ2 H5 else N σ2 H3):=by
 refine ⟨fun i m σ H=>m=xs.length - i∧i≤xs.length∧∃ ys,H D=some (.lst ys)∧Pv i ys σ H,⟨_,rfl,Nat.zero_le _,[],zad,h0⟩,?_⟩
 rintro i m σ H ⟨rfl,hi,ys,hD,pv⟩
 have q:=hl i ys σ H hi pv
 by_cases hlt:i<xs.length
 ·refine .inr ⟨⟨xs,xs[i],q,by simp [hlt]⟩,fun σ H=>∃ ys,H D=some (.lst ys)∧Pv (i+1) ys σ H,fun σ' H' p'=>⟨_,by (first|lia|omega),rfl,hlt,p'⟩,fun x H' yl=>?_⟩
  obtain ⟨e,yl⟩:=yl
  subst e
  exact hs i x ys σ _ (yl xs q) hD pv
 ·have e:i=xs.length:=by (first|lia|omega)
  subst e
  exact .inl ⟨⟨xs,q,Nat.le_refl _⟩,hd ys σ H hD pv⟩
theorem zny {lo:Int} {n:Nat} {g:TG} {tt:TT} {te:TE} {σ:St} {H:Hp} {D:Addr} {Q:VK} (Pv:Nat→List V→St→Hp→Prop) (h0:Pv 0 [] σ (upd H D (.lst [])))
  (hs:∀ i ys σ H,i<n→H D=some (.lst ys)→Pv i ys σ H→g (.int (lo+i)) σ H fun σ2 H2=>tt σ2 H2 fun b H3=>if b=true then te σ2 H3 fun y H4=>zbw (.ref D) [y] H4 fun _ H5=>∃ ys,H5 D=some (.lst ys)∧Pv (i+1) ys σ2 H5 else ∃ ys,H3 D=some (.lst ys)∧Pv (i+1) ys σ2 H3)
  (hd:∀ ys σ H,H D=some (.lst ys)→Pv n ys σ H→Q (.ref D) H) :
  ∃ W:Nat→Nat→St→Hp→Prop,(∃ m,W 0 m σ (upd H D (.lst [])))∧∀ i m σc Hc,W i m σc Hc →
   ((Itr lo n).stop i Hc∧Q (.ref D) Hc)∨((Itr lo n).go i Hc∧∃ N:St→Hp→Prop,(∀ σ' H',N σ' H'→∃ m',m'<m∧W (i+1) m' σ' H')∧∀ x H',(Itr lo n).yld i Hc x H'→g x σc H' fun σ2 H2=>tt σ2 H2 fun b H3=>if b=true then te σ2 H3 fun y H4=>zbw (.ref D) [y] H4 fun _ H5=>N σ2 H5 else N σ2 H3):=by
 refine ⟨fun i m σ H=>m=n - i∧i≤n∧∃ ys,H D=some (.lst ys)∧Pv i ys σ H,⟨_,rfl,Nat.zero_le _,[],zad,h0⟩,?_⟩
 rintro i m σ H ⟨rfl,hi,ys,hD,pv⟩
 by_cases hlt:i<n
 ·refine .inr ⟨hlt,fun σ H=>∃ ys,H D=some (.lst ys)∧Pv (i+1) ys σ H,fun σ' H' p'=>⟨_,by (first|lia|omega),rfl,hlt,p'⟩,fun x H' yl=>?_⟩
  obtain ⟨e,yl⟩:=yl
  subst e yl
  exact hs i ys σ _ hlt hD pv
 ·have e:i=n:=by (first|lia|omega)
  subst e
  exact .inl ⟨Nat.le_refl _,hd ys σ H hD pv⟩
end L2
namespace L2
open PySem PySem.Spec PyProof.Rows
theorem zoA (bs:List Bool):(List.range bs.length).all (fun i=>bs.getD i false)=bs.all id:=by
 rw [Bool.eq_iff_iff,List.all_eq_true,List.all_eq_true]
 constructor
 ·intro h x hx
  obtain ⟨i,hi,e⟩:=List.getElem_of_mem hx
  have:=h i (List.mem_range.mpr hi)
  rw [List.getD_eq_getElem?_getD,List.getElem?_eq_getElem hi] at this
  rw [← e]
  exact this
 ·intro h i hi
  have hi:=List.mem_range.mp hi
  rw [List.getD_eq_getElem?_getD,List.getElem?_eq_getElem hi]
  exact h _ (List.getElem_mem hi)
def rAll (K:PySem.W.Frag):List V→Hp→VK→Prop:=fun xs H Q=>∃ (p:Addr) (bs:List Bool),xs=[.ref p]∧SqL K H p (bs.map V.bl)∧Q (.bl (bs.all id)) H
theorem zxa {bs:List Bool} {its:List Value} {i:Nat} {v:Value} (r:zbY (bs.map V.bl) its) (e:its.toArray[i]?=some v):v=.bool (bs.getD i false):=by
 have l:=r.length
 rw [List.length_map] at l
 have e':its[i]?=some v:=by simpa using e
 have hi:i<bs.length:=by rw [l];exact (List.getElem?_eq_some_iff.mp e').1
 obtain ⟨u,hu,ru⟩:=r.get (i:=i) (x:=.bl bs[i]) (by rw [List.getElem?_map,List.getElem?_eq_getElem hi];rfl)
 rw [e'] at hu
 cases hu
 cases ru
 rw [List.getD_eq_getElem?_getD,List.getElem?_eq_getElem hi]
 rfl
theorem zrT {P:Program} {w:World} {A:Around} {bs:List Bool} {its:List Value} (r:zbY (bs.map V.bl) its):TruthOf P w A (fun i v=>its.toArray[i]?=some v) fun i=>bs.getD i false:=fun i v s Q E hP hQ=>by
 rw [zxa r hP]
 exact wpAny_pure hQ
section
variable {X:Cx}
theorem zrp (hc:X.calm=true):zfb X (.builtin "all") (rAll X.K):=by
 intro pins s σ H xs us Q I r h
 obtain ⟨p,bs,rfl,hl,q⟩:=h
 obtain ⟨u,rfl,ru⟩:=r.one
 cases ru
 obtain ⟨its,rv,pl,_⟩:=I.list hl
 have l:=rv.length
 rw [List.length_map] at l
 obtain ⟨o,n,e,_⟩:=id pl
 have hne:p≠s.heap.objs.size:=Nat.ne_of_lt (Heap.lt_size e)
 refine call_all_walk (wpAny_pyIter_list pl.isList ?_)
 refine ⟨s.heap.objs.size,_,_,_,_,_,fun i=>bs.getD i false,rfl,Walks.list (A:=X.A.in1) (I.ok.hd hc) _ p hne its.toArray,⟨⟨_,Heap.get?_push_size _ rfl,rfl,rfl⟩,?_⟩,zrT rv,fun h' tk hk=>⟨.bl _,H,I.kept fun b u eb=>?_,rfl,?_⟩⟩
 ·exact pl.isList.at fun o e=>Heap.get?_push_of_some _ e
 ·exact hk b u (fun z=>Nat.ne_of_lt (Heap.lt_size eb) (by simpa using z)) (Heap.get?_push_of_some _ eb)
 ·rw [List.size_toArray,← l,zoA]
  exact q
end
end L2
namespace L2
open PySem PySem.Spec PyProof.Rows
theorem zfY {o:Obj} {vs:Array Value} (h:o.data=.fields vs):∀ v,o.data≠.cell v:=fun v z=>by rw [h] at z;cases z
end L2
namespace L2
open PySem PySem.Spec PyProof.Rows
inductive Tr where
 | int (i:Int)
 | bl (b:Bool)
 | str (x:Str)
 | non
 | lst (l:List Tr)
 | tup (l:List Tr)
section
variable {X:Cx} {pins:List (Addr×Obj)} {σ:St} {H:Hp} {s:Shared}
end
end L2
namespace L2
open PySem PySem.Spec PyProof.Rows
section
variable {X:Cx}
end
def zh7 (J:It) (g:TG) (tt:TT) (te:TE) (D:Addr) (Q:VK) (σ:St) (H:Hp):Prop:=∃ W:Nat→Nat→St→Hp→Prop,(∃ m,W 0 m σ H)∧∀ i m σc Hc,W i m σc Hc →
 (J.stop i Hc∧Q (.ref D) Hc)∨(J.go i Hc∧∃ N:St→Hp→Prop,(∀ σ' H',N σ' H'→∃ m',m'<m∧W (i+1) m' σ' H')∧∀ x H',J.yld i Hc x H'→g x σc H' fun σ2 H2=>tt σ2 H2 fun b H3=>if b=true then te σ2 H3 fun y H4=>zbw (.ref D) [y] H4 fun _ H5=>N σ2 H5 else N σ2 H3)
theorem zss {wi:TI} {g:TG} {tt:TT} {te:TE} {cap:List (Option Nat)} {σ:St} {H:Hp} {Q:VK}:zgg wi g tt te cap σ H Q=wi σ H fun J H1=>∀ D,H1 D=none→zh7 J g tt te D Q (zu0 cap σ) (upd H1 D (.lst [])):=rfl
theorem ze7 {K:PySem.W.Frag} {a:Addr} {xs:List V} {g:TG} {tt:TT} {te:TE} {σ:St} {H:Hp} {D:Addr} {Q:VK} (Pv:Nat→List V→St→Hp→Prop) (h0:Pv 0 [] σ (upd H D (.lst []))) (hl:∀ i ys σ H,i≤xs.length→Pv i ys σ H→SqL K H a xs)
  (hs:∀ i x ys σ H,xs[i]?=some x→H D=some (.lst ys)→Pv i ys σ H→g x σ H fun σ2 H2=>tt σ2 H2 fun b H3=>if b=true then te σ2 H3 fun y H4=>zbw (.ref D) [y] H4 fun _ H5=>∃ ys,H5 D=some (.lst ys)∧Pv (i+1) ys σ2 H5 else ∃ ys,H3 D=some (.lst ys)∧Pv (i+1) ys σ2 H3)
  (hd:∀ ys σ H,H D=some (.lst ys)→Pv xs.length ys σ H→Q (.ref D) H):zh7 (Itl K a) g tt te D Q σ (upd H D (.lst [])):=zpG Pv h0 hl hs hd
theorem zlU {lo:Int} {n:Nat} {g:TG} {tt:TT} {te:TE} {σ:St} {H:Hp} {D:Addr} {Q:VK} (Pv:Nat→List V→St→Hp→Prop) (h0:Pv 0 [] σ (upd H D (.lst [])))
  (hs:∀ i ys σ H,i<n→H D=some (.lst ys)→Pv i ys σ H→g (.int (lo+i)) σ H fun σ2 H2=>tt σ2 H2 fun b H3=>if b=true then te σ2 H3 fun y H4=>zbw (.ref D) [y] H4 fun _ H5=>∃ ys,H5 D=some (.lst ys)∧Pv (i+1) ys σ2 H5 else ∃ ys,H3 D=some (.lst ys)∧Pv (i+1) ys σ2 H3)
  (hd:∀ ys σ H,H D=some (.lst ys)→Pv n ys σ H→Q (.ref D) H):zh7 (Itr lo n) g tt te D Q σ (upd H D (.lst [])):=zny Pv h0 hs hd
end L2
namespace L2
open PySem PySem.Spec PyProof.Rows
section
variable {X:Cx}
def zgv:V→List V→Hp→VK→Prop:=fun x vs H Q=>∃ l xs k y,x=.ref l∧vs=[.int k,y]∧H l=some (.lst xs)∧0≤k∧k≤(xs.length:Int)∧xs.length<1000000∧Q .non (upd H l (.lst (xs.take k.toNat++y::xs.drop k.toNat)))
theorem zki {xs:List V} {us:List Value} (r:zbY xs us):∀ n:Nat,zbY (xs.take n) (us.take n)∧zbY (xs.drop n) (us.drop n):=by
 induction r with
 | nil=>intro n;rw [List.take_nil,List.take_nil,List.drop_nil,List.drop_nil];exact ⟨.nil,.nil⟩
 | cons h t ih =>
  intro n
  cases n with
  | zero=>exact ⟨.nil,.cons h t⟩
  | succ n=>exact ⟨.cons h (ih n).1,(ih n).2⟩
theorem zkn:MtM X "list.insert" zgv:=by
 intro pins s σ H x vs v us Q I rx rv h
 obtain ⟨l,xs,k,y,rfl,rfl,hH,k0,k1,hz,q⟩:=h
 cases rx
 obtain ⟨u,w,rfl,ru,rw'⟩:=zoe rv
 obtain ⟨tk,rfl⟩:=ru
 obtain ⟨z,its,n,r,hl,e⟩:=I.lstM hH
 have lr:=r.length
 have fit:¬(!Builtin.List.listFitsIndex k)=true:=by
  have:Builtin.List.listFitsIndex k=true:=by
   unfold Builtin.List.listFitsIndex
   simp only [Bool.and_eq_true,decide_eq_true_eq]
   (first|lia|omega)
  rw [this]
  decide
 refine call_meets F.slot_list_insert ⟨_,e,rfl⟩ F.entry_list_insert (F.args_list_insert_3 _ _ _) (AutoSeq1.list_insert_list_int_val_1 l its.toArray n k tk w fit (by rw [List.size_toArray];(first|lia|omega))) ⟨e,?_⟩
 refine ⟨.non,_,I.lset (its':=its.take k.toNat++w::its.drop k.toNat) hH e ?_ ((zki r _).1.append (.cons rw' (zki r _).2)) ?_,rfl,q⟩
 ·have e1:(if k<0 then (k+(its.toArray.size:Int)).toNat else min k.toNat its.toArray.size)=k.toNat:=by
   rw [if_neg (by (first|lia|omega)),List.size_toArray,← lr]
   (first|lia|omega)
  simp only [e1]
  apply Array.toList_inj.mp
  simp
  exact List.take_of_length_le (by rw [List.length_drop];exact Nat.le_refl _)
 ·rw [List.length_append,List.length_cons,List.length_take,List.length_drop]
  have:(1000000:Nat)≤sizeLine:=by decide
  (first|lia|omega)
end
end L2
namespace L2
open PySem PySem.Spec PyProof.Rows
theorem zq5:bootBuiltins "enumerate"=some (.type "enumerate"):=by decide +kernel
def Ite (K:PySem.W.Frag) (p:Addr):It where
 go:=fun i H=>∃ xs a,SqL K H p xs∧xs[i]?=some a
 yld:=fun i H x H'=>∃ t a,x=.ref t∧H t=none∧H'=upd H t (.tup [.int (i:Int),a])∧∀ xs,SqL K H p xs→xs[i]?=some a
 stop:=fun i H=>∃ xs,SqL K H p xs∧i=xs.length
def tnE (e it p:Addr) (i:Nat) (h:Heap):Prop:=(∃ old,IsEnum h e it i old)∧h.IsListIter it p i
theorem zkZ {e it p:Addr} {i:Nat} {h:Heap} (st:tnE e it p i h):∀ b∈[e,it],∃ o,h.get? b=some o∧∀ v,o.data≠.cell v:=fun b hb=>by
 obtain ⟨⟨old,a1⟩,⟨o2,a2,_,d2⟩⟩:=st
 simp only [List.mem_cons,List.not_mem_nil,or_false] at hb
 rcases hb with rfl | rfl
 ·exact ⟨_,a1,zfY rfl⟩
 ·exact ⟨_,a2,zfY d2⟩
theorem zpW {P:Program} {w:World} {K:PySem.W.Frag} {elts:List Expr} {k:Nat} {pos:Pos} {e it p:Addr} (d1:e≠it) (d2:p≠e) (d3:p≠it):zwT P w K (.Tuple elts k pos) (Ite K p) [e,it] e (tnE e it p) where
 mem:=by simp
 obj:=fun i h st=>zkZ st
 keep:=fun i h h' st kk=>by
  obtain ⟨⟨old,a1⟩,a2⟩:=st
  exact ⟨⟨old,kk e (by simp) _ a1⟩,a2.at fun o x=>kk it (by simp) o x⟩
 item:=by
  intro X hP hw hK hc i pins s σ H E I hf st hg
  subst hP hw hK
  obtain ⟨xs,a,hx,ea⟩:=hg
  obtain ⟨its,r1,pl1,z1⟩:=I.list hx
  obtain ⟨ua,eua,rua⟩:=r1.get ea
  have there:=zkZ st
  obtain ⟨s1,s2⟩:=st
  have W:=WalksT.enumerate (prog:=X.prog) (w:=X.w) (A:=X.A) (I.ok.hd hc) e it p d1 d2 d3 its.toArray
  have hi:i<its.toArray.size:=by
   have h1:=(List.getElem?_eq_some_iff.mp eua).1
   rw [List.size_toArray]
   exact h1
  refine W.item i s _ _ hi ⟨s1,s2,pl1.isList⟩ fun T vals h' tk hp hT hTup mid kk=>⟨_,rfl,?_⟩
  obtain ⟨t,u,e1,rfl⟩:=hp
  have e1':u=ua:=by
   have:its[i]?=some u:=by simpa using e1
   rw [eua] at this;cases this;rfl
  subst e1'
  refine W.go elts k pos i T { s with heap:=h',toks:=tk } _ _ mid fun h2 st2 kk2=>?_
  obtain ⟨t1,t2,_⟩:=st2
  have I1:Inv X pins σ H { s with heap:=h2,toks:=tk }:=I.turns (ch:=[e,it]) (fun b o hb q=>kk2 b o hb (kk b o hb q)) fun b hb=>hf b hb
  have nT:H T=none:=I.hok.fresh hT
  have I2:=I1.track (a:=T) (o:=.tup [.int (i:Int),a]) nT (Heap.get?_none_of_le (Nat.le_trans I.sz hT)) (Nat.ne_of_gt (Nat.lt_of_lt_of_le I.lt hT)) (fun x c q=>by
   obtain ⟨v,z⟩:=I.cell x c q
   exact Nat.ne_of_lt (Nat.lt_of_lt_of_le z.lt hT)) (fun y hy=>Nat.ne_of_lt (Nat.lt_of_lt_of_le (Heap.lt_size (I.pin y hy).1) hT)) (by
   refine ⟨by show 2≤sizeLine;decide,[.int i t,u],.cons ⟨t,rfl⟩ (.cons rua .nil),?_⟩
   obtain ⟨o,ho,hcl,hd⟩:=hTup
   exact ⟨o,kk2 T o (W.apart i T h' mid) ho,hcl,hd⟩)
  refine ⟨.ref T,_,I2,rfl,⟨T,a,rfl,nT,rfl,fun xs' h'=>?_⟩,⟨t1,t2⟩,fun b hb=>?_⟩
  ·rw [I.list_inj h' hx];exact ea
  ·obtain ⟨o,q,_⟩:=there b hb
   rw [zal (Nat.ne_of_lt (Nat.lt_of_lt_of_le (Heap.lt_size q) hT))]
   exact (hf b hb).1
 done:=by
  intro X hP hw hK hc i pins s σ H E I hf st hg
  subst hP hw hK
  obtain ⟨xs,hx,rfl⟩:=hg
  obtain ⟨its,r1,pl1,z1⟩:=I.list hx
  obtain ⟨s1,s2⟩:=st
  have W:=WalksT.enumerate (prog:=X.prog) (w:=X.w) (A:=X.A) (I.ok.hd hc) e it p d1 d2 d3 its.toArray
  refine W.done s _ _ ?_ fun h' tk kk=>⟨rfl,I.turns (ch:=[e,it]) (fun b o hb q=>kk b o hb q) fun b hb=>hf b hb⟩
  rw [List.size_toArray,← r1.length]
  exact ⟨s1,s2,pl1.isList⟩
 self:=fun A i s Q E st h=>by
  obtain ⟨⟨old,a1⟩,_⟩:=st
  exact wpAny_pyIter_enum a1 h
def zmZ (K:PySem.W.Frag) (ta:TA):TI:=fun σ H R=>ta σ H fun vs H1=>∃ p,vs=[.ref p]∧(∃ xs,SqL K H1 p xs)∧R (Ite K p) H1
theorem zlz {X:Cx} {a:Expr} {elts:List Expr} {k:Nat} {tp p pos:Pos} {ta:TA} (hg:Gl X "enumerate") (hm:X.mg "enumerate"=none) (ha:PA X [a] ta) (hs:starEach [a] X.env=[(false,eval a X.env)]:=by rfl) :
  PI X (.Tuple elts k tp) (.Call (.Name "enumerate" p) [a] [] pos) (zmZ X.K ta):=by
 intro pins s σ H R I h
 refine Call_ (zhI I hg hm zq5 (PyProof.Rows.callWith_type1 (thn (ha pos pins s σ H _ I h) fun us s1 hQ'=>?_) (by rw [hs];rfl) rfl))
 obtain ⟨vs,H1,I1,r1,q1⟩:=hQ'
 obtain ⟨p1,rfl,⟨xs,hx⟩,q⟩:=q1
 obtain ⟨u,rfl,ru⟩:=r1.one
 cases ru
 obtain ⟨its,_,pl1,_⟩:=I1.list hx
 have a1:p1<s1.heap.objs.size:=by obtain ⟨_,e,_⟩:=pl1.isList;exact Heap.lt_size e
 refine call_enumerate_list pl1.isList fun h' he hi hsz hk=>?_
 refine wpAny_pyIter_enum he ?_
 refine ⟨_,_,_,_,H1,rfl,I1.kept (t':=s1.toks) hk,zpW (Nat.succ_ne_self _) (Nat.ne_of_lt (Nat.lt_succ_of_lt a1)) (Nat.ne_of_lt a1),⟨⟨_,he⟩,hi⟩,fun b hb=>?_,q⟩
 have hb':s1.heap.objs.size≤b:=by
  simp only [List.mem_cons,List.not_mem_nil,or_false] at hb
  rcases hb with h | h <;> rw [h] <;> first | exact Nat.le_refl _ | exact Nat.le_add_right _ _
 exact I1.fpOk hb' (I1.hok.fresh hb')
theorem zhs {K:PySem.W.Frag} {p:Addr} {xs:List V} {g:TG} {tb:TS} {D:zce} {σ:St} {H:Hp} (Pv:Nat→St→Hp→Prop) (h0:Pv 0 σ H) (hl:∀ i σ H,i≤xs.length→Pv i σ H→SqL K H p xs)
  (hs:∀ i x t σ H,xs[i]?=some x→Pv i σ H→H t=none→g (.ref t) σ (upd H t (.tup [.int (i:Int),x])) fun σ2 H2=>tb { D with nx:=Pv (i+1),ct:=Pv (i+1),bk:=D.nx } σ2 H2) (hd:∀ σ H,Pv xs.length σ H→D.nx σ H):zrY (Ite K p) g tb D σ H:=by
 refine ⟨fun i m σ H=>m=xs.length - i∧i≤xs.length∧Pv i σ H,⟨_,rfl,Nat.zero_le _,h0⟩,?_⟩
 rintro i m σ H ⟨rfl,hi,pv⟩
 have hx:=hl i σ H hi pv
 by_cases hlt:i<xs.length
 ·refine .inr ⟨⟨xs,xs[i],hx,by simp [hlt]⟩,Pv (i+1),fun σ' H' p'=>⟨_,by (first|lia|omega),rfl,hlt,p'⟩,fun x H' yl=>?_⟩
  obtain ⟨t,a,rfl,ht,rfl,e1⟩:=yl
  exact hs i a t σ H (e1 xs hx) pv ht
 ·have e:i=xs.length:=by (first|lia|omega)
  subst e
  exact .inl ⟨⟨xs,hx,rfl⟩,hd σ H pv⟩
end L2
namespace L2
open PySem PySem.Spec PyProof.Rows
section
variable {κ:Type} [DecidableEq κ]
def zgf (kvs:List (κ×V)) (k:κ):Option V:=(kvs.find? fun kv=>decide (kv.1=k)).map (·.2)
def zg1 (kvs:List (κ×V)) (k:κ) (v:V):List (κ×V) :=
 if (kvs.any fun kv=>decide (kv.1=k))=true then kvs.map (fun kv=>if kv.1=k then (kv.1,v) else kv) else kvs++[(k,v)]
theorem zcz {p:κ×V} {r:List (κ×V)} {k:κ} (e:p.1=k):zgf (p::r) k=some p.2:=by simp [zgf,List.find?_cons,e]
theorem zcm {p:κ×V} {r:List (κ×V)} {k:κ} (e:¬ p.1=k):zgf (p::r) k=zgf r k:=by simp [zgf,List.find?_cons,e]
theorem ze2 (k:κ):∀ kvs:List (κ×V),(kvs.any fun kv=>decide (kv.1=k))=(zgf kvs k).isSome
 | []=>rfl
 | p::r=>by
  rw [List.any_cons]
  by_cases e:p.1=k
  ·simp only [zcz e,decide_eq_true e,Bool.true_or,Option.isSome_some]
  ·rw [zcm e,decide_eq_false e,Bool.false_or];exact ze2 k r
theorem zmC (k j:κ) (y:V):∀ kvs:List (κ×V),zgf (kvs.map fun kv=>if kv.1=k then (kv.1,y) else kv) j=(zgf kvs j).map fun x=>if j=k then y else x
 | []=>rfl
 | p::r=>by
  have ih:=zmC k j y r
  rw [List.map_cons]
  by_cases h:p.1=k
  ·rw [if_pos h]
   by_cases e:p.1=j
   ·rw [zcz (p:=(p.1,y)) e,zcz e,Option.map_some,if_pos (e.symm.trans h)]
   ·rw [zcm (p:=(p.1,y)) e,zcm e,ih]
  ·rw [if_neg h]
   by_cases e:p.1=j
   ·rw [zcz (p:=p) e,zcz e,Option.map_some,if_neg (fun z=>h (e.trans z))]
   ·rw [zcm (p:=p) e,zcm e,ih]
theorem zkK (k j:κ) (y:V):∀ kvs:List (κ×V),zgf kvs k=none→zgf (kvs++[(k,y)]) j=if j=k then some y else zgf kvs j
 | [],_=>by
  by_cases e:k=j
  ·rw [if_pos e.symm];exact zcz (p:=(k,y)) e
  ·rw [if_neg (fun z=>e z.symm)];exact zcm (p:=(k,y)) e
 | p::r,hn=>by
  rw [List.cons_append]
  have hk:¬ p.1=k:=fun z=>by rw [zcz z] at hn;cases hn
  rw [zcm hk] at hn
  have ih:=zkK k j y r hn
  by_cases e:p.1=j
  ·rw [zcz e,zcz e,if_neg (fun z=>hk (e.trans z))]
  ·rw [zcm e,zcm e,ih]
theorem zrh (kvs:List (κ×V)) (k j:κ) (y:V):zgf (zg1 kvs k y) j=if j=k then some y else zgf kvs j:=by
 unfold zg1
 by_cases a:(kvs.any fun kv=>decide (kv.1=k))=true
 ·rw [if_pos a,zmC]
  rw [ze2] at a
  by_cases e:j=k
  ·obtain ⟨x,hx⟩:=Option.isSome_iff_exists.mp a
   rw [if_pos e,e,hx,Option.map_some,if_pos rfl]
  ·rw [if_neg e]
   cases zgf kvs j with
   | none=>rfl
   | some x=>rw [Option.map_some,if_neg e]
 ·rw [if_neg a]
  refine zkK k j y kvs ?_
  rw [ze2] at a
  cases q:zgf kvs k with
  | none=>rfl
  | some x=>rw [q] at a;exact (a rfl).elim
theorem zfL (kvs:List (κ×V)) (k:κ) (v:V):(zg1 kvs k v).length≤kvs.length+1:=by
 unfold zg1
 split
 ·rw [List.length_map];(first|lia|omega)
 ·rw [List.length_append,List.length_cons,List.length_nil];(first|lia|omega)
theorem zqV {kvs:List (κ×V)} {k:κ} (v:V) (h:zgf kvs k=none):zg1 kvs k v=kvs++[(k,v)]:=by
 unfold zg1
 rw [ze2,h]
 exact if_neg (by decide)
theorem zpq.isSome_eq {o:Option V} {u:Option Value} (r:zpq o u):o.isSome=u.isSome:=by
 cases o with
 | none=>cases u with
  | none=>rfl
  | some _=>exact (show False from r).elim
 | some _=>cases u with
  | none=>exact (show False from r).elim
  | some _=>rfl
theorem KV.val {kvs:List (κ×V)} {vs:List (κ×Value)} (r:KV kvs vs) (k:κ):zpq (zgf kvs k) (valueAt vs k):=by
 unfold KV at r
 induction r with
 | nil=>exact True.intro
 | @cons p q ps qs h t ih =>
  obtain ⟨h1,h2⟩:=h
  by_cases e:p.1=k
  ·have e':q.1=k:=h1.symm.trans e
   have b:valueAt (q::qs) k=some q.2:=by simp [valueAt,List.find?_cons,e']
   rw [zcz e,b];exact h2
  ·have e':¬ q.1=k:=fun z=>e (h1.trans z)
   have b:valueAt (q::qs) k=valueAt qs k:=by simp [valueAt,List.find?_cons,e']
   rw [zcm e,b];exact ih
theorem KV.any {kvs:List (κ×V)} {vs:List (κ×Value)} (r:KV kvs vs) (k:κ):(kvs.any fun kv=>decide (kv.1=k))=vs.any fun kv=>decide (kv.1=k):=by
 unfold KV at r
 induction r with
 | nil=>rfl
 | cons h t ih=>rw [List.any_cons,List.any_cons,ih,h.1]
theorem KV.repl {kvs:List (κ×V)} {vs:List (κ×Value)} (r:KV kvs vs) (k:κ) {y:V} {u:Value} (ry:zcs y u) :
  KV (kvs.map fun kv=>if kv.1=k then (kv.1,y) else kv) (vs.map fun kv=>if kv.1=k then (kv.1,u) else kv):=by
 unfold KV at r ⊢
 induction r with
 | nil=>exact .nil
 | @cons p q ps qs h t ih =>
  rw [List.map_cons,List.map_cons]
  refine .cons ?_ ih
  obtain ⟨h1,h2⟩:=h
  by_cases e:p.1=k
  ·rw [if_pos e,if_pos (h1.symm.trans e)];exact ⟨h1,ry⟩
  ·rw [if_neg e,if_neg (fun z=>e (h1.trans z))];exact ⟨h1,h2⟩
theorem KV.put {kvs:List (κ×V)} {vs:List (κ×Value)} (r:KV kvs vs) (k:κ) {y:V} {u:Value} (ry:zcs y u):KV (zg1 kvs k y) (stored vs k u):=by
 unfold zg1 stored
 rw [r.any k]
 by_cases e:(vs.any fun kv=>decide (kv.1=k))=true
 ·rw [if_pos e,if_pos e];exact r.repl k ry
 ·rw [if_neg e,if_neg e];exact Paired.snoc r ⟨rfl,ry⟩
theorem KV.length {kvs:List (κ×V)} {vs:List (κ×Value)} (r:KV kvs vs):kvs.length=vs.length:=Paired.length r
end
theorem zr2 {P:Program} {w:World} {k:Key} {u:Value} (r:zcs (kV k) u):(zcp P w).is k u=true:=by
 cases k with
 | inl i=>obtain ⟨t,e⟩:=(show ∃ t,u=Value.int i t from r);subst e;exact zmb P w i t
 | inr x=>obtain ⟨t,e⟩:=(show ∃ t,u=Value.str x t from r);subst e;exact zlx P w x t
theorem zkd {P:Program} {w:World}:∀ {ks:List Key} {us:List Value},zbY (ks.map kV) us→ItemsAre (zcp P w) ks us
 | [],_,r=>by rw [List.map_nil] at r;cases r;exact .nil
 | k::ks,_,r=>by
  rw [List.map_cons] at r
  cases r with
  | cons h t=>exact .cons (zr2 h) (zkd t)
abbrev KT (H:Hp):List (List Key×V)→List (List Key×Addr×Value)→Prop:=Paired fun p q=>p.1=q.1∧H q.2.1=some (.tup (p.1.map kV))∧zcs p.2 q.2.2
theorem KT.val {H:Hp} {kvs:List (List Key×V)} {xs:List (List Key×Addr×Value)} (r:KT H kvs xs) (k:List Key):zpq (zgf kvs k) ((atKey xs k).map (·.2)):=by
 induction r with
 | nil=>exact True.intro
 | @cons p q ps qs h t ih =>
  obtain ⟨h1,_,h2⟩:=h
  by_cases e:p.1=k
  ·have e':q.1=k:=h1.symm.trans e
   have b:atKey (q::qs) k=some q.2:=by simp [atKey,List.find?_cons,e']
   rw [zcz e,b];exact h2
  ·have e':¬ q.1=k:=fun z=>e (h1.trans z)
   have b:atKey (q::qs) k=atKey qs k:=by simp [atKey,List.find?_cons,e']
   rw [zcm e,b];exact ih
theorem KT.repl {H:Hp} {kvs:List (List Key×V)} {xs:List (List Key×Addr×Value)} (r:KT H kvs xs) (k:List Key) {y:V} {u:Value} (ry:zcs y u) :
  KT H (kvs.map fun kv=>if kv.1=k then (kv.1,y) else kv) (xs.map (putAt k u)):=by
 induction r with
 | nil=>exact .nil
 | @cons p q ps qs h t ih =>
  rw [List.map_cons,List.map_cons]
  refine .cons ?_ ih
  obtain ⟨h1,h2,h3⟩:=h
  unfold putAt
  by_cases e:p.1=k
  ·rw [if_pos e,if_pos (h1.symm.trans e)];exact ⟨h1,h2,ry⟩
  ·rw [if_neg e,if_neg (fun z=>e (h1.trans z))];exact ⟨h1,h2,h3⟩
theorem KT.put {H:Hp} {kvs:List (List Key×V)} {xs:List (List Key×Addr×Value)} (r:KT H kvs xs) (k:List Key) {b:Addr} {y:V} {u:Value} (hb:H b=some (.tup (k.map kV))) (ry:zcs y u) :
  KT H (zg1 kvs k y) (storedH xs k b u):=by
 have e:(kvs.any fun kv=>decide (kv.1=k))=(atKey xs k).isSome:=by
  rw [ze2,(r.val k).isSome_eq,Option.isSome_map]
 unfold zg1 storedH
 rw [e]
 by_cases q:(atKey xs k).isSome=true
 ·rw [if_pos q,if_pos q];exact r.repl k ry
 ·rw [if_neg q,if_neg q];exact Paired.snoc r ⟨rfl,hb,ry⟩
theorem KT.keeps {H H':Hp} {kvs:List (List Key×V)} {xs:List (List Key×Addr×Value)} (r:KT H kvs xs) (ht:∀ b ys,H b=some (.tup ys)→H' b=some (.tup ys)):KT H' kvs xs :=
 Paired.mapP r fun _ _ z=>⟨z.1,ht _ _ z.2.1,z.2.2⟩
section
variable {P:Program} {w:World} {H:Hp} {h:Heap} {a:Addr}
theorem zwA {u:HO} (ok:HOk P w H h) (e:Rd H a u):zbS P w H h a u:=e.ok ok
theorem ztb {kvs:List (Key×V)} (ok:HOk P w H h) (e:Rd H a (.dK kvs)):kvs.length≤sizeLine∧(a == sysModules)=false∧∃ vs,KV kvs vs∧h.DictOf (zcp P w) a vs :=
 show zbS P w H h a (.dK kvs) from zwA ok e
theorem zwi {kvs:List (Key×V)} (ok:HOk P w H h) (e:H a=some (.dK kvs)):kvs.length≤sizeLine∧(a == sysModules)=false∧∃ vs,KV kvs vs∧h.DictOf (zcp P w) a vs:=ztb ok (.inl e)
theorem zpV {ks:List Key} (ok:HOk P w H h) (e:H a=some (.tup (ks.map kV))):(tupleKind (zcp P w)).is h ks a:=by
 obtain ⟨_,its,r,o,h1,h2,n,h3⟩:=(show zbS P w H h a (.tup (ks.map kV)) from ok a _ e)
 exact ⟨o,its.toArray,n,h1,h2,h3,by simpa using zkd r⟩
theorem zvb {kvs:List (List Key×V)} (ok:HOk P w H h) (e:Rd H a (.dT kvs)):kvs.length≤sizeLine∧(a == sysModules)=false ∧
  ∃ xs,KT H kvs xs∧h.DictOfH (tupleKind (zcp P w)) a xs:=by
 obtain ⟨z,y,xs,r,o,es,ep,h1,h2,h3,h4,h5⟩:=(show zbS P w H h a (.dT kvs) from zwA ok e)
 refine ⟨z,y,xs,r,o,es,ep,h1,h2,h3,h4,fun x hx=>?_,h5⟩
 have all:∀ {l:List (List Key×V)} {m:List (List Key×Addr×Value)},KT H l m→∀ x∈m,(tupleKind (zcp P w)).is h x.1 x.2.1:=by
  intro l m q
  induction q with
  | nil=>intro x hx;exact nomatch hx
  | @cons p q ps qs hq t ih =>
   intro x hx
   rcases List.mem_cons.mp hx with e | hx
   ·subst e
    exact zpV ok (by rw [← hq.1];exact hq.2.1)
   ·exact ih x hx
 exact all r x hx
theorem dt_of {kvs:List (List Key×V)} (ok:HOk P w H h) (e:H a=some (.dT kvs)):kvs.length≤sizeLine∧(a == sysModules)=false ∧
  ∃ xs,KT H kvs xs∧h.DictOfH (tupleKind (zcp P w)) a xs:=zvb ok (.inl e)
end
def zuZ (H:Hp) (a:Addr) (y:V) (r:Option V):Prop :=
 (∃ kvs k,Rd H a (.dK kvs)∧y=kV k∧r=zgf kvs k)∨∃ kvs k b,Rd H a (.dT kvs)∧y=.ref b∧H b=some (.tup (k.map kV))∧r=zgf kvs k
def zsO (H:Hp) (a:Addr) (y v:V) (H':Hp):Prop :=
 (∃ kvs k,H a=some (.dK kvs)∧y=kV k∧kvs.length<sizeLine∧H'=upd H a (.dK (zg1 kvs k v))) ∨
 ∃ kvs k b,H a=some (.dT kvs)∧y=.ref b∧H b=some (.tup (k.map kV))∧kvs.length<sizeLine∧H'=upd H a (.dT (zg1 kvs k v))
theorem zuZ.k {H:Hp} {a:Addr} {kvs:List (Key×V)} {k:Key} (e:H a=some (.dK kvs)):zuZ H a (kV k) (zgf kvs k):=.inl ⟨kvs,k,.inl e,rfl,rfl⟩
theorem zsO.k {H:Hp} {a:Addr} {kvs:List (Key×V)} {k:Key} {v:V} (e:H a=some (.dK kvs)) (hl:kvs.length<sizeLine):zsO H a (kV k) v (upd H a (.dK (zg1 kvs k v))):=.inl ⟨kvs,k,e,rfl,hl,rfl⟩
section
variable {X:Cx} {pins:List (Addr×Obj)} {σ:St} {H:Hp} {s:Shared} {a:Addr} {y v:V} {u r:Value} {o:Option V} {A:Around} {E:Value→Shared→Prop}
theorem Inv.big (I:Inv X pins σ H s):sysModules<s.heap.objs.size:=by
 have h:mainGlobals<s.heap.objs.size:=(I.mod.glob.keeps I.bk).lt
 exact Nat.lt_trans (by decide) h
theorem d_in {Q:Value→Shared→Prop} (hu:A.units+1<cLine) (I:Inv X pins σ H s) (g:zuZ H a y o) (ry:zcs y u) (h:∀ s',Inv X pins σ H s'→Q (.bool o.isSome) s') :
  wpAny (model X.prog X.w) A (compareOp .In u (.ref a)) Q E s:=by
 rcases g with ⟨kvs,k,e,ey,l⟩ | ⟨kvs,k,b,e,ey,eb,l⟩
 ·subst ey
  obtain ⟨z,hd,vs,rel,dd⟩:=ztb I.hok e
  refine wpAny_in_of (zr2 ry) hd dd.mapOf ?_
  rw [← (rel.val k).isSome_eq,← l]
  exact h _ (I.tok _)
 ·subst ey
  cases (show u=Value.ref b from ry)
  obtain ⟨z,hd,xs,rel,dd⟩:=zvb I.hok e
  refine wpAny_in_heap (tupleKind_room_in1 hu) (zpV I.hok eb) hd dd ?_
  have q:=(rel.val k).isSome_eq
  rw [Option.isSome_map] at q
  rw [← q,← l]
  exact h _ (I.tok _)
theorem zlX {h':Heap} {t':Nat} {ob:HO} (I:Inv X pins σ H s) (mu:Mut (H a)) (hs:Heap.SameBut a s.heap h') (he:∃ q,h'.get? a=some q) (new:zbS X.prog X.w (upd H a ob) h' a ob) :
  Inv X pins σ (upd H a ob) { s with heap:=h',toks:=t' } :=
 I.write (x:=a) (e:=a) mu (.inl rfl) (fun b q hb z=>(hs.2 b hb).trans z) he new
theorem zsR {P:Program} {w:World} {H':Hp} {h':Heap} {kvs:List (Key×V)} {vs:List (Key×Value)} (z:kvs.length≤sizeLine) (hd:(a == sysModules)=false) (rel:KV kvs vs) (dd:h'.DictOf (zcp P w) a vs) :
  zbS P w H' h' a (.dK kvs):=⟨z,hd,vs,rel,dd⟩
theorem zqA {H':Hp} {Q:Unit→Shared→Prop} (hu:A.units+1<cLine) (I:Inv X pins σ H s) (g:zsO H a y v H') (ry:zcs y u) (rv:zcs v r) (h:∀ s',Inv X pins σ H' s'→Q () s') :
  wpAny (model X.prog X.w) A (setItem (.ref a) u r) Q E s:=by
 rcases g with ⟨kvs,k,e,ey,l,eH⟩ | ⟨kvs,k,b,e,ey,eb,l,eH⟩
 ·subst ey eH
  obtain ⟨z,hd,vs,rel,dd⟩:=zwi I.hok e
  have hz:vs.length≤sizeLine:=by rw [← rel.length];exact z
  have hl:(zg1 kvs k v).length≤sizeLine:=by have:=zfL kvs k v;(first|lia|omega)
  refine wpAny_setItem_pairs (hsz:=hz) (zr2 ry) dd fun h' dd' hs=>h _ ?_
  have he:∃ q,h'.get? a=some q:=let ⟨q,_,_,hq,_⟩:=dd';⟨q,hq⟩
  exact zlX I (by rw [e];exact True.intro) hs he (zsR hl hd (rel.put k rv) dd')
 ·subst ey eH
  cases (show u=Value.ref b from ry)
  obtain ⟨z,hd,xs,rel,dd⟩:=dt_of I.hok e
  have hz:xs.length≤sizeLine:=by rw [← Paired.length rel];exact z
  have hl:(zg1 kvs k v).length≤sizeLine:=by have:=zfL kvs k v;(first|lia|omega)
  refine wpAny_setItem_heap (hsz:=hz) (tupleKind_room_in1 hu) (zpV I.hok eb) dd fun h' dd' hs=>h _ ?_
  obtain ⟨q,es,ep,hq,h2,h3,h4,_,h5⟩:=dd'
  refine zlX I (by rw [e];exact True.intro) hs ⟨q,hq⟩ ⟨hl,hd,_,(rel.put k eb rv).keeps fun c ys ec=>?_,q,es,ep,hq,h2,h3,h4,h5⟩
  rw [zal (ne_of ec e (fun z=>nomatch z))]
  exact ec
end
section
variable {X:Cx} {pins:List (Addr×Obj)} {σ:St} {H:Hp} {s:Shared} {a:Addr} {kvs:List (Key×V)} {k:Key} {u:Value} {A:Around} {E:Value→Shared→Prop}
theorem d_len {Q:Value→Shared→Prop} (I:Inv X pins σ H s) (e:Rd H a (.dK kvs)) (h:∀ t s',Inv X pins σ H s'→Q (.int kvs.length t) s'):wpAny (model X.prog X.w) A (call (.builtin "len") [.ref a]) Q E s:=by
 obtain ⟨z,hd,vs,rel,dd⟩:=ztb I.hok e
 refine call_len_dict hd dd (by rw [← rel.length];rw [sizeLine_eq] at z;(first|lia|omega)) ?_
 rw [← rel.length]
 exact h _ _ (I.tok _)
end
def zuX (ty td:TE):TE:=fun σ H Q=>ty σ H fun y H1=>td σ H1 fun x H2=>∃ a o,x=.ref a∧zuZ H2 a y o∧Q (.bl o.isSome) H2
def zm9 (td ty tv:TE):TS:=fun D σ H=>tv σ H fun v H1=>td σ H1 fun x H2=>ty σ H2 fun y H3=>∃ a H4,x=.ref a∧zsO H3 a y v H4∧D.nx σ H4
section
variable {X:Cx} {o i e value:Expr} {pos pos' tpos:Pos} {td ty tv:TE}
theorem zsA (hu:X.A.units+1<cLine) (hi:PE X i ty) (ho:PE X o td):PC X .In i o (zuX ty td):=by
 intro pins s σ H Q I h
 refine thn (hi pins s σ H _ I h) fun iv s1 ⟨y,H1,I1,ry,q1⟩=>thn (ho pins s1 σ H1 _ I1 q1) fun u s2 hQ'=>?_
 obtain ⟨x,H2,I2,rx,a,ov,ex,g,q2⟩:=hQ'
 subst ex
 obtain rfl:u=Value.ref a:=rx
 exact d_in hu I2 g ry fun s3 I3=>⟨.bl ov.isSome,H2,I3,rfl,q2⟩
theorem zp0 (hu:X.A.units+1<cLine) (ho:PE X o td) (hi:PE X i ty) (hv:PE X value tv) (hs:swapsWith value (some (.Subscript o i pos')) pos.line X.env=pure false) :
  PS X (.Assign [.Subscript o i pos'] value pos) (zm9 td ty tv):=by
 intro pins s σ H D I h
 refine wpAny_Assign_Subscript (thn (hv pins s σ H _ I h) fun r s1 ⟨v,H1,I1,rv,q1⟩=>thn (ho pins s1 σ H1 _ I1 q1) fun u s2 ⟨x,H2,I2,rx,q2⟩=>thn (hi pins s2 σ H2 _ I2 q2) fun iv s3 hQ'=>?_) hs
 obtain ⟨y,H3,I3,ry,a,H4,ex,g,q3⟩:=hQ'
 subst ex
 obtain rfl:u=Value.ref a:=rx
 exact zqA hu I3 g ry rv fun s4 I4=>⟨σ,H4,I4,q3⟩
end
theorem zr7 {P:Program} {w:World} {H:Hp} (h:Heap) (hb:sysModules<h.objs.size):zbS P w H (h.push { cls:=.type "dict",data:=.dict #[] }) h.objs.size (.dK []) :=
 ⟨Nat.zero_le _,beq_eq_false_iff_ne.mpr (Ne.symm (Nat.ne_of_lt hb)),[],.nil,Heap.DictOf.new h⟩
section
variable {X:Cx} {pos:Pos}
end
def zmO:List (TE×TE)→St→Hp→(List (V×V)→Hp→Prop)→Prop
 | [],_,H,Q=>Q [] H
 | (tk,tv)::r,σ,H,Q=>tk σ H fun x H1=>tv σ H1 fun y H2=>zmO r σ H2 fun ps H3=>Q ((x,y)::ps) H3
abbrev VV:List (V×V)→List (Value×Value)→Prop:=Paired fun p q=>zcs p.1 q.1∧zcs p.2 q.2
def PPs (X:Cx) (pos:Pos) (keys:List (Option Expr)) (values:List Expr) (trs:List (TE×TE)):Prop :=
 ∀ (pins:List (Addr×Obj)) (s:Shared) (σ:St) (H:Hp) (Q:List (V×V)→Hp→Prop),Inv X pins σ H s→zmO trs σ H Q →
  wpAny (model X.prog X.w) X.A (evalPairs (pairTrees keys values X.env pos)) (fun vs s'=>∃ ps H',Inv X pins σ H' s'∧VV ps vs∧Q ps H') X.xe s
theorem zuT {X:Cx} {pos:Pos}:PPs X pos [] [] []:=fun pins s σ H Q I h=>pairTrees_nil_walk ⟨[],H,I,.nil,h⟩
theorem zrN {X:Cx} {pos:Pos} {k v:Expr} {ks:List (Option Expr)} {vs:List Expr} {tk tv:TE} {trs:List (TE×TE)} (hk:PE X k tk) (hv:PE X v tv) (hr:PPs X pos ks vs trs) :
  PPs X pos (some k::ks) (v::vs) ((tk,tv)::trs):=fun pins s σ H Q I h =>
 pairTrees_cons_walk (thn (hk pins s σ H _ I h) fun u s1 ⟨x,H1,I1,rx,q1⟩=>thn (hv pins s1 σ H1 _ I1 q1) fun w2 s2 ⟨y,H2,I2,ry,q2⟩ =>
  thn (hr pins s2 σ H2 _ I2 q2) fun ws s3 ⟨ps,H3,I3,rel,q3⟩=>⟨(x,y)::ps,H3,I3,.cons ⟨rx,ry⟩ rel,q3⟩)
def zjM (kvs more:List (Key×V)):List (Key×V):=more.foldl (fun acc kv=>zg1 acc kv.1 kv.2) kvs
theorem KV.merge:∀ {more:List (Key×V)} {rs:List (Key×Value)} {kvs:List (Key×V)} {vs:List (Key×Value)},KV more rs→KV kvs vs→KV (zjM kvs more) (merged vs rs):=by
 intro more rs kvs vs r
 unfold KV at r
 induction r generalizing kvs vs with
 | nil=>intro q;exact q
 | @cons p q ps qs h t ih =>
  intro r0
  have e:KV (zg1 kvs p.1 p.2) (stored vs q.1 q.2):=by
   have:=r0.put p.1 h.2
   rw [← h.1];exact this
  exact ih e
theorem zfW:∀ (more kvs:List (Key×V)),(zjM kvs more).length≤kvs.length+more.length
 | [],kvs=>by show kvs.length≤kvs.length+0;(first|lia|omega)
 | p::r,kvs=>by
  have h1:=zfW r (zg1 kvs p.1 p.2)
  have h2:=zfL kvs p.1 p.2
  show (zjM (zg1 kvs p.1 p.2) r).length≤_
  rw [List.length_cons];(first|lia|omega)
theorem ziL {P:Program} {w:World}:∀ {kvs:List (Key×V)} {ws:List (Value×Value)},VV (kvs.map fun kv=>(kV kv.1,kv.2)) ws→∃ rs,Carries (zcp P w) ws rs∧KV kvs rs
 | [],_,r=>by rw [List.map_nil] at r;cases r;exact ⟨[],True.intro,.nil⟩
 | p::kvs,_,r=>by
  rw [List.map_cons] at r
  cases r with
  | @cons a b as bs h t =>
   obtain ⟨rs,c,q⟩:=ziL (P:=P) (w:=w) t
   obtain ⟨b1,b2⟩:=b
   exact ⟨(p.1,b2)::rs,⟨zr2 h.1,rfl,c⟩,.cons ⟨rfl,h.2⟩ q⟩
def ztT (trs:List (TE×TE)):TE:=fun σ H Q=>∀ p,H p=none→zmO trs σ (upd H p (.dK [])) fun ps H2=>H2 p=some (.dK [])∧∃ kvs:List (Key×V),ps=kvs.map (fun kv=>(kV kv.1,kv.2))∧kvs.length≤15∧Q (.ref p) (upd H2 p (.dK (zjM [] kvs)))
theorem zuL {X:Cx} {pos:Pos} {keys:List (Option Expr)} {values:List Expr} {trs:List (TE×TE)} (h:PPs X pos keys values trs) (hall:keys.all (·.isSome)=true) (hl:keys.length=values.length) (h0:keys≠[])
  (h15:keys.length≤15):PE X (.Dict keys values pos) (ztT trs):=by
 intro pins s σ H Q I q
 have hn:=I.hok.fresh (Nat.le_refl s.heap.objs.size)
 have I1:=I.laid (a:=s.heap.objs.size) (o:=.dK []) (h':=s.heap.push { cls:=.type "dict",data:=.dict #[] }) (t':=s.toks) (fun _ _ q=>Heap.get?_push_of_some _ q) (Nat.le_refl _) (zr7 s.heap I.big)
 refine wpAny_Dict_walk (knd:=zcp X.prog X.w) hall hl h0 h15 (thn (h pins _ σ _ _ I1 (q _ hn)) fun ws s2 hQ'=>?_)
 obtain ⟨ps,H2,I2,rel,e,kvs,ep,lk,q2⟩:=hQ'
 subst ep
 obtain ⟨rs,c,rk⟩:=ziL (P:=X.prog) (w:=X.w) rel
 obtain ⟨z,hd,vs0,r0,dd⟩:=zwi I2.hok e
 cases r0
 refine ⟨rs,c,dd,fun h' dd' hs=>⟨.ref s.heap.objs.size,_,?_,rfl,q2⟩⟩
 have hz:(zjM [] kvs).length≤sizeLine:=by
  have h1:=zfW kvs []
  rw [List.length_nil] at h1
  rw [sizeLine_eq];(first|lia|omega)
 have he:∃ q,h'.get? s.heap.objs.size=some q:=let ⟨q,_,_,hq,_⟩:=dd';⟨q,hq⟩
 exact zlX I2 (by rw [e];exact True.intro) hs he (zsR hz hd (rk.merge .nil) dd')
section
variable {X:Cx} {pins:List (Addr×Obj)} {σ:St} {H:Hp} {s:Shared} {a:Addr} {y d:V} {u r:Value} {o:Option V} {A:Around} {E:Value→Shared→Prop}
end
section
variable {X:Cx} {o e f:Expr} {apos cpos:Pos} {td ty tx:TE}
end
section
variable {X:Cx} {pins:List (Addr×Obj)} {σ:St} {H:Hp} {s:Shared} {a:Addr} {kvs:List (Key×V)} {A:Around} {E:Value→Shared→Prop}
end
section
variable {X:Cx} {pins:List (Addr×Obj)} {σ:St} {H:Hp} {s:Shared} {a:Addr} {y:V} {u:Value} {A:Around} {E:Value→Shared→Prop}
end
end L2
namespace L2
open PySem PySem.Spec PyProof.Rows
section
variable {X:Cx}
theorem zhn:zfb X (.builtin "len") (fun xs H Q=>∃ a kvs,xs=[V.ref a]∧H a=some (.dK kvs)∧Q (.int kvs.length) H):=by
 intro pins s σ H xs us Q I r h
 obtain ⟨a,kvs,rfl,ha,q⟩:=h
 obtain ⟨u,rfl,ru⟩:=zfc r
 cases ru
 exact d_len I (.inl ha) fun t s' I'=>⟨.int kvs.length,H,I',⟨t,rfl⟩,q⟩
end
end L2
namespace L2
open PySem PySem.Spec PyProof.Rows
def znf:List V→Hp→VK→Prop:=fun xs H Q=>∃ a kvs,xs=[V.ref a]∧H a=some (.dK kvs)∧Q (.int kvs.length) H
def zr5 (ta:TA):TE:=fun σ H Q=>ta σ H fun vs H1=>∃ i j:Int,vs=[.int i,.int j]∧(-(2 ^ 62)≤i∧i<2 ^ 62∧-(2 ^ 62)≤j∧j<2 ^ 62)∧∀ p,H1 p=none→Q (.ref p) (upd H1 p (.rng i j))
def zhd:List V→Hp→VK→Prop:=fun xs H Q=>∃ (p:Addr) (i j:Int),xs=[.ref p]∧H p=some (.rng i j)∧(-(2 ^ 62)≤i∧i<2 ^ 62∧-(2 ^ 62)≤j∧j<2 ^ 62)∧j - i≤1000∧∀ l,H l=none→Q (.ref l) (upd H l (.lst ((List.range (j - i).toNat).map fun k:Nat=>V.int (i+(k:Int)))))
section
variable {X:Cx}
theorem zq9 {pins:List (Addr×Obj)} {σ:St} {H:Hp} {s:Shared} {lo hi:Int} {t u v:Tok} {tk:Nat} {Q:VK} (I:Inv X pins σ H s) (q:∀ p,H p=none→Q (.ref p) (upd H p (.rng lo hi))) :
  EP X pins σ Q (.ref s.heap.objs.size) { s with heap:=s.heap.push { cls:=.type "range",data:=.fields #[.int lo t,.int hi u,.int 1 v] },toks:=tk } :=
 ⟨.ref s.heap.objs.size,_,I.laid (a:=s.heap.objs.size) (o:=.rng lo hi) (t':=tk) (fun _ _ q=>Heap.get?_push_of_some _ q) (Nat.le_refl _) (show zbS X.prog X.w _ _ _ (.rng lo hi) from ⟨t,u,v,Heap.get?_push_size _ rfl⟩),rfl,q _ (I.hok.fresh (Nat.le_refl _))⟩
theorem zur {a b:Expr} {ta:TA} {p pos:Pos} (hg:Gl X "range") (hm:X.mg "range"=none) (ha:PA X [a,b] ta) (hs:starEach [a,b] X.env=[(false,eval a X.env),(false,eval b X.env)]:=by rfl) (hs2:starEach [b] X.env=[(false,eval b X.env)]:=by rfl) :
  PE X (.Call (.Name "range" p) [a,b] [] pos) (zr5 ta):=by
 intro pins s σ H Q I h
 refine Call_ (zhI I hg hm boot_range (PyProof.Rows.callWith_type1 (thn (ha pos pins s σ H _ I h) fun us s1 hQ'=>?_) (by rw [hs,hs2]) (by rw [hs2];rfl)))
 obtain ⟨vs,H1,I1,r1,q1⟩:=hQ'
 obtain ⟨i,j,e,⟨q1,q2,q3,q4⟩,q⟩:=q1
 subst e
 cases r1 with
 | cons r rr =>
  cases rr with
  | cons r' rr =>
   cases rr
   obtain ⟨t,rfl⟩:=r
   obtain ⟨t',rfl⟩:=r'
   exact call_range_2 (zq9 I1 q)
theorem zo2:∀ {xs:List V} {us:List Value},xs.length=us.length→(∀ (j:Nat) x u,xs[j]?=some x→us[j]?=some u→zcs x u)→zbY xs us
 | [],[],_,_=>.nil
 | [],_::_,h,_=>by simp at h
 | _::_,[],h,_=>by simp at h
 | x::xs,u::us,h,r=>.cons (r 0 x u rfl rfl) (zo2 (by simpa using h) fun j y v e1 e2=>r (j+1) y v e1 e2)
theorem znv {lo:Int} {acc:Array Value} {n:Nat} (h:ItemsOf (fun i v=>∃ t,v=.int (lo+i*1) t) acc n):zbY ((List.range n).map fun k:Nat=>V.int (lo+(k:Int))) acc.toList:=by
 refine zo2 (by rw [List.length_map,List.length_range,Array.length_toList,h.1]) fun j x u e1 e2=>?_
 rw [List.getElem?_map,Option.map_eq_some_iff] at e1
 obtain ⟨k,hk,rfl⟩:=e1
 obtain ⟨l1,l2⟩:=List.getElem?_eq_some_iff.mp hk
 rw [List.getElem_range] at l2
 subst l2
 obtain ⟨t,rfl⟩:=h.2 j u (by rw [← Array.getElem?_toList];exact e2)
 exact ⟨t,by rw [Int.mul_one]⟩
theorem zjC (hc:X.calm=true):zfb X (.type "list") zhd:=by
 intro pins s σ H xs us Q I r h
 obtain ⟨p,i,j,rfl,hp,⟨h1,h2,h3,h4⟩,hl,q⟩:=h
 obtain ⟨u,rfl,rx⟩:=zfc r
 cases rx
 obtain ⟨t,u,v,e⟩:=(show zbS X.prog X.w H s.heap p (.rng i j) from I.hok p _ hp)
 refine call_list_range (n:=(j - i).toNat) (I.ok.hd hc) e (small_one h1 h2 h3 h4) (by rw [rangeSize_one];split <;> (first|lia|omega)) (by (first|lia|omega)) fun h' tk acc c' kp e' it=>?_
 exact ⟨.ref s.heap.objs.size,_,I.laid (t':=tk) kp (Nat.le_refl _) (show zbS X.prog X.w _ h' _ (.lst _) from ⟨by simp [sizeLine_eq];(first|lia|omega),acc.toList,c',znv it,e'⟩),rfl,q _ (I.hok.fresh (Nat.le_refl _))⟩
end
end L2
namespace L2
open PySem PySem.Spec PyProof.Rows
def zrg (K:PySem.W.Frag) (a:Addr) (xs:List V):Prop:=∃ (o:Obj) (its:Array Value) (n:Nat),K.lookup a=some o∧o.cls=.type "tuple"∧o.data=.seq its n∧its.size≤sizeLine∧zbY xs its.toList
theorem SqT.ofK {K:PySem.W.Frag} {H:Hp} {a:Addr} {xs:List V} (h:zrg K a xs):SqT K H a xs:=.inr h
section
variable {X:Cx}
end
end L2
namespace L2
open PySem
theorem ztJ {v:V} {σ:List (Option V)} {H:Hp} {Q:VK}:zac 0 (some v::σ) H Q=Q v H:=by simp [zac]
theorem ztj {x0:Option V} {v:V} {σ:List (Option V)} {H:Hp} {Q:VK}:zac 1 (x0::some v::σ) H Q=Q v H:=by simp [zac]
theorem ztG {x0 x1:Option V} {v:V} {σ:List (Option V)} {H:Hp} {Q:VK}:zac 2 (x0::x1::some v::σ) H Q=Q v H:=by simp [zac]
theorem zuu {x0 x1 x2:Option V} {v:V} {σ:List (Option V)} {H:Hp} {Q:VK}:zac 3 (x0::x1::x2::some v::σ) H Q=Q v H:=by simp [zac]
theorem ztK {x0 x1 x2 x3:Option V} {v:V} {σ:List (Option V)} {H:Hp} {Q:VK}:zac 4 (x0::x1::x2::x3::some v::σ) H Q=Q v H:=by simp [zac]
theorem zui {x0 x1 x2 x3 x4:Option V} {v:V} {σ:List (Option V)} {H:Hp} {Q:VK}:zac 5 (x0::x1::x2::x3::x4::some v::σ) H Q=Q v H:=by simp [zac]
theorem zuJ {x0 x1 x2 x3 x4 x5:Option V} {v:V} {σ:List (Option V)} {H:Hp} {Q:VK}:zac 6 (x0::x1::x2::x3::x4::x5::some v::σ) H Q=Q v H:=by simp [zac]
theorem ztI {x0 x1 x2 x3 x4 x5 x6:Option V} {v:V} {σ:List (Option V)} {H:Hp} {Q:VK}:zac 7 (x0::x1::x2::x3::x4::x5::x6::some v::σ) H Q=Q v H:=by simp [zac]
theorem ztk {x0 x1 x2 x3 x4 x5 x6 x7:Option V} {v:V} {σ:List (Option V)} {H:Hp} {Q:VK}:zac 8 (x0::x1::x2::x3::x4::x5::x6::x7::some v::σ) H Q=Q v H:=by simp [zac]
theorem zuB {x0 x1 x2 x3 x4 x5 x6 x7 x8:Option V} {v:V} {σ:List (Option V)} {H:Hp} {Q:VK}:zac 9 (x0::x1::x2::x3::x4::x5::x6::x7::x8::some v::σ) H Q=Q v H:=by simp [zac]
theorem zqO {x0 x1 x2 x3 x4 x5 x6 x7 x8 x9:Option V} {v:V} {σ:List (Option V)} {H:Hp} {Q:VK}:zac 10 (x0::x1::x2::x3::x4::x5::x6::x7::x8::x9::some v::σ) H Q=Q v H:=by simp [zac]
theorem zrt {x0 x1 x2 x3 x4 x5 x6 x7 x8 x9 x10:Option V} {v:V} {σ:List (Option V)} {H:Hp} {Q:VK}:zac 11 (x0::x1::x2::x3::x4::x5::x6::x7::x8::x9::x10::some v::σ) H Q=Q v H:=by simp [zac]
theorem zsu {x0 x1 x2 x3 x4 x5 x6 x7 x8 x9 x10 x11:Option V} {v:V} {σ:List (Option V)} {H:Hp} {Q:VK}:zac 12 (x0::x1::x2::x3::x4::x5::x6::x7::x8::x9::x10::x11::some v::σ) H Q=Q v H:=by simp [zac]
theorem zsq {x0 x1 x2 x3 x4 x5 x6 x7 x8 x9 x10 x11 x12:Option V} {v:V} {σ:List (Option V)} {H:Hp} {Q:VK}:zac 13 (x0::x1::x2::x3::x4::x5::x6::x7::x8::x9::x10::x11::x12::some v::σ) H Q=Q v H:=by simp [zac]
theorem zsn {x0 x1 x2 x3 x4 x5 x6 x7 x8 x9 x10 x11 x12 x13:Option V} {v:V} {σ:List (Option V)} {H:Hp} {Q:VK}:zac 14 (x0::x1::x2::x3::x4::x5::x6::x7::x8::x9::x10::x11::x12::x13::some v::σ) H Q=Q v H:=by simp [zac]
theorem zrr {x0 x1 x2 x3 x4 x5 x6 x7 x8 x9 x10 x11 x12 x13 x14:Option V} {v:V} {σ:List (Option V)} {H:Hp} {Q:VK}:zac 15 (x0::x1::x2::x3::x4::x5::x6::x7::x8::x9::x10::x11::x12::x13::x14::some v::σ) H Q=Q v H:=by simp [zac]
theorem zsj {x0:Option V} {v:V} {σ:List (Option V)} {H:Hp} {Q:St→Hp→Prop}:zai 0 v (x0::σ) H Q=Q (some v::σ) H:=rfl
theorem zsp {x0 x1:Option V} {v:V} {σ:List (Option V)} {H:Hp} {Q:St→Hp→Prop}:zai 1 v (x0::x1::σ) H Q=Q (x0::some v::σ) H:=rfl
theorem zsw {x0 x1 x2:Option V} {v:V} {σ:List (Option V)} {H:Hp} {Q:St→Hp→Prop}:zai 2 v (x0::x1::x2::σ) H Q=Q (x0::x1::some v::σ) H:=rfl
theorem zsi {x0 x1 x2 x3:Option V} {v:V} {σ:List (Option V)} {H:Hp} {Q:St→Hp→Prop}:zai 3 v (x0::x1::x2::x3::σ) H Q=Q (x0::x1::x2::some v::σ) H:=rfl
theorem zrn {x0 x1 x2 x3 x4:Option V} {v:V} {σ:List (Option V)} {H:Hp} {Q:St→Hp→Prop}:zai 4 v (x0::x1::x2::x3::x4::σ) H Q=Q (x0::x1::x2::x3::some v::σ) H:=rfl
theorem zrL {x0 x1 x2 x3 x4 x5:Option V} {v:V} {σ:List (Option V)} {H:Hp} {Q:St→Hp→Prop}:zai 5 v (x0::x1::x2::x3::x4::x5::σ) H Q=Q (x0::x1::x2::x3::x4::some v::σ) H:=rfl
theorem zro {x0 x1 x2 x3 x4 x5 x6:Option V} {v:V} {σ:List (Option V)} {H:Hp} {Q:St→Hp→Prop}:zai 6 v (x0::x1::x2::x3::x4::x5::x6::σ) H Q=Q (x0::x1::x2::x3::x4::x5::some v::σ) H:=rfl
theorem zqT {x0 x1 x2 x3 x4 x5 x6 x7:Option V} {v:V} {σ:List (Option V)} {H:Hp} {Q:St→Hp→Prop}:zai 7 v (x0::x1::x2::x3::x4::x5::x6::x7::σ) H Q=Q (x0::x1::x2::x3::x4::x5::x6::some v::σ) H:=rfl
theorem zq8 {x0 x1 x2 x3 x4 x5 x6 x7 x8:Option V} {v:V} {σ:List (Option V)} {H:Hp} {Q:St→Hp→Prop}:zai 8 v (x0::x1::x2::x3::x4::x5::x6::x7::x8::σ) H Q=Q (x0::x1::x2::x3::x4::x5::x6::x7::some v::σ) H:=rfl
theorem zrK {x0 x1 x2 x3 x4 x5 x6 x7 x8 x9:Option V} {v:V} {σ:List (Option V)} {H:Hp} {Q:St→Hp→Prop}:zai 9 v (x0::x1::x2::x3::x4::x5::x6::x7::x8::x9::σ) H Q=Q (x0::x1::x2::x3::x4::x5::x6::x7::x8::some v::σ) H:=rfl
theorem zoN {x0 x1 x2 x3 x4 x5 x6 x7 x8 x9 x10:Option V} {v:V} {σ:List (Option V)} {H:Hp} {Q:St→Hp→Prop}:zai 10 v (x0::x1::x2::x3::x4::x5::x6::x7::x8::x9::x10::σ) H Q=Q (x0::x1::x2::x3::x4::x5::x6::x7::x8::x9::some v::σ) H:=rfl
theorem zqj {x0 x1 x2 x3 x4 x5 x6 x7 x8 x9 x10 x11:Option V} {v:V} {σ:List (Option V)} {H:Hp} {Q:St→Hp→Prop}:zai 11 v (x0::x1::x2::x3::x4::x5::x6::x7::x8::x9::x10::x11::σ) H Q=Q (x0::x1::x2::x3::x4::x5::x6::x7::x8::x9::x10::some v::σ) H:=rfl
theorem zqf {x0 x1 x2 x3 x4 x5 x6 x7 x8 x9 x10 x11 x12:Option V} {v:V} {σ:List (Option V)} {H:Hp} {Q:St→Hp→Prop}:zai 12 v (x0::x1::x2::x3::x4::x5::x6::x7::x8::x9::x10::x11::x12::σ) H Q=Q (x0::x1::x2::x3::x4::x5::x6::x7::x8::x9::x10::x11::some v::σ) H:=rfl
theorem zqy {x0 x1 x2 x3 x4 x5 x6 x7 x8 x9 x10 x11 x12 x13:Option V} {v:V} {σ:List (Option V)} {H:Hp} {Q:St→Hp→Prop}:zai 13 v (x0::x1::x2::x3::x4::x5::x6::x7::x8::x9::x10::x11::x12::x13::σ) H Q=Q (x0::x1::x2::x3::x4::x5::x6::x7::x8::x9::x10::x11::x12::some v::σ) H:=rfl
theorem rI_c {C:Int→Int→Prop} {g:Int→Int→V} {a b:Int} {H:Hp} {Q:VK}:rI C g (.int a) (.int b) H Q=(C a b∧Q (g a b) H):=by simp [rI]
theorem rI0_c {g:Int→Int→V} {a b:Int} {H:Hp} {Q:VK}:rI0 g (.int a) (.int b) H Q=Q (g a b) H:=by simp [rI0]
theorem zwb {K:PySem.W.Frag} {p:Addr} {i:Int} {H:Hp} {Q:VK}:zcO K (.ref p) (.int i) H Q=∃ xs,SqL K H p xs∧∃ v,atI xs i=some v∧Q v H:=by simp [zcO]
theorem zvc {K:PySem.W.Frag} {p:Addr} {i:Int} {H:Hp} {Q:VK}:zik K (.ref p) (.int i) H Q=∃ xs,SqT K H p xs∧∃ v,atI xs i=some v∧Q v H:=by simp [zik]
theorem ex_bl {c:Bool} {Q:Bool→Prop}:(∃ k,V.bl c=V.bl k∧Q k)=Q c:=by simp
theorem zwC {c:Int} {Q:Int→Prop}:(∃ k,V.int c=V.int k∧Q k)=Q c:=by simp
theorem zvG {c:Addr} {Q:Addr→Prop}:(∃ k,V.ref c=V.ref k∧Q k)=Q c:=by simp
theorem zwf {c:Int} {Q:Int→Prop}:(∃ k,[V.int c]=[V.int k]∧Q k)=Q c:=by simp
theorem zwm {c:Addr} {Q:Addr→Prop}:(∃ k,[V.ref c]=[V.ref k]∧Q k)=Q c:=by simp
end L2
namespace Att
open PySem PySem.W PySem.Calls PyProof.Rows
theorem zhO {x:Int}:∀ {ns:List Int},x∈ns→WData.weight (.int x)≤WData.weightAll (ns.map WData.int)
 | [],h=>absurd h (List.not_mem_nil)
 | y::ns,h=>by
  rw [List.map_cons,WData.weightAll]
  rcases List.mem_cons.mp h with e | e
  ·rw [← e]
   (first|lia|omega)
  ·have:=zhO e
   (first|lia|omega)
theorem zuD {ns:List Int} (h:WData.layableAll [WData.list (ns.map WData.int)]=true):∀ x∈ns,x.natAbs<2 ^ 2 ^ 20:=by
 intro x hx
 have h1:(WData.list (ns.map WData.int)).layable=true:=(layW_cons h).1
 have h2:WData.weight (.list (ns.map WData.int))≤2 ^ 20:=by
  unfold WData.layable at h1
  rw [Bool.and_eq_true] at h1
  exact of_decide_eq_true h1.2
 rw [WData.weight] at h2
 have h3:=Nat.le_trans (zhO hx) h2
 rw [WData.weight] at h3
 by_cases h0:x=0
 ·subst h0
  exact Nat.two_pow_pos _
 ·rw [if_neg (by simpa using h0)] at h3
  have hn:x.natAbs≠0:=fun e=>h0 (Int.natAbs_eq_zero.mp e)
  exact (Nat.log2_lt hn).mp h3
theorem attach_callL {l:OpenLaw} {n:Nat} {q:Program} {loose:List Str} {XP:(Str→Option Value)→Heap→Prop} {YP:World→Heap→Prop} {d:DefRec}
  (hn:l.most=some n) (hdf:d.params.defaults=[])
  (call:∀ (w:World) (s₀ s₁:Shared) (mg mb:Str→Option Value) (fa:Addr) (o:Obj) (pm cd doc:Value) (a:Addr) (vs:List Value) (ns:List Int),(∀ x∈ns,x.natAbs<2 ^ 2 ^ 20) →
   Ground q loose [] XP w s₀ mg mb s₁.heap→YP w s₁.heap →
   s₁.heap.get? fa=some o→o.data=.func (docDef d.name d.params d.body d.scope pm cd doc)→s₁.heap.CodeRec cd d.name→mg d.name=some (.ref fa) →
   s₁.heap.get? a=some { cls:=.type "list",data:=.seq vs.toArray }→IntsAre vs ns→ns.length≤n→s₁.gens=#[] →
   codeAny (model l.prog w) callerA (.call (.ref fa) ⟨[.ref a],[]⟩) (fun r s'=>r=.ok (.ret (.bool true))∧OldK s₁.heap s'.heap∧s'.os=s₁.os∧AllBare s'.gens) s₁) :
  WalkO q loose XP YP l.row.toRowW d [] (fun f vs=>PySem.call f vs):=by
 intro w s₀ s₁ mg mb G Y fa o pm cd doc dV kV ho hd hcd hD hmg hg args vals as hpre hlay hrd hwl hlo
 obtain rfl:dV=.none:=Dflts.none hD hdf
 obtain rfl:kV=.none:=Dflts.noKw hD
 obtain ⟨a,vs,ns,rfl,rfl,hobj,hints,hlen⟩:=zoP hn hpre hwl
 refine enter_call (codeAny_mono (call w s₀ s₁ mg mb fa o pm cd doc a vs ns (zuD hlay) G Y ho (fd_plain hd) hcd hmg hobj hints hlen hg) fun r s' hq=>?_)
 obtain ⟨rfl,h2,h3,h4⟩:=hq
 exact ⟨.inl ⟨.bool true,.bool true,[],rfl,fun _=>rfl,.bool true,zp9 l _,fun _=>⟨List.Pairwise.nil,fun _ hm=>(nomatch hm)⟩⟩,h2,h3,h4⟩
end Att
namespace L2
open PySem PySem.Spec PyProof.Rows
end L2
namespace L2
open PySem PySem.Spec PyProof.Rows
section
variable {α β:Type}
def Kd:Sem α→Prop
 | .pure _=>True
 | .raise _=>True
 | .unsupported _=>True
 | .finish _=>True
 | .rule _ k=>Kd (k ())
 | .at _ k=>Kd (k ())
 | .load _ _ k=>∀ o,Kd (k o)
 | .update _ _ f k=>(∀ o:Obj,(f o).dict=o.dict∧(f o).isFreed=o.isFreed)∧Kd (k ())
 | .alloc _ k=>∀ a,Kd (k a)
 | .loadIfAlive _ k=>∀ o,Kd (k o)
 | .point _ k=>Kd (k ())
 | .fresh k=>∀ n,Kd (k n)
 | .ask k=>∀ n,Kd (k n)
 | .handled _ k=>∀ n,Kd (k n)
 | .stack k=>∀ l,Kd (k l)
 | .thread k=>∀ n,Kd (k n)
 | _=>False
theorem zaS {f:α→Sem β} (hf:∀ x,Kd (f x)):∀ {t:Sem α},Kd t→Kd (t >>= f)
 | .pure a,_=>hf a
 | .raise _,_=>trivial
 | .unsupported _,_=>trivial
 | .finish _,_=>trivial
 | .rule _ k,h=>zaS hf (t:=k ()) h
 | .at _ k,h=>zaS hf (t:=k ()) h
 | .load _ _ k,h=>fun o=>zaS hf (t:=k o) (h o)
 | .update _ _ _ k,h=>⟨h.1,zaS hf (t:=k ()) h.2⟩
 | .alloc _ k,h=>fun o=>zaS hf (t:=k o) (h o)
 | .loadIfAlive _ k,h=>fun o=>zaS hf (t:=k o) (h o)
 | .point _ k,h=>zaS hf (t:=k ()) h
 | .fresh k,h=>fun o=>zaS hf (t:=k o) (h o)
 | .ask k,h=>fun o=>zaS hf (t:=k o) (h o)
 | .handled _ k,h=>fun o=>zaS hf (t:=k o) (h o)
 | .stack k,h=>fun o=>zaS hf (t:=k o) (h o)
 | .thread k,h=>fun o=>zaS hf (t:=k o) (h o)
 | .register ..,h=>h.elim
 | .choose ..,h=>h.elim
 | .os ..,h=>h.elim
 | .call ..,h=>h.elim
 | .newGen ..,h=>h.elim
 | .genState ..,h=>h.elim
 | .resume ..,h=>h.elim
 | .yield ..,h=>h.elim
 | .fork ..,h=>h.elim
 | .await ..,h=>h.elim
def zka (e:Addr) (od:Option Addr) (h:Heap):Prop:=∃ o,h.get? e=some o∧o.dict=od
theorem zgy {M:Model} {Γ:PySem.Ctx} {Q:α→Pos→Shared→Prop} {E:Value→Pos→Shared→Prop} {e:Addr} {od:Option Addr}:∀ {t:Sem α} {p:Pos} {s:Shared},Kd t→zka e od s.heap→Sem.wp M Γ t Q E p s →
  Sem.wp M Γ t (fun a p s'=>Q a p s'∧zka e od s'.heap) E p s
 | .pure _,_,_,_,d,h=>⟨h,d⟩
 | .raise _,_,_,_,_,h=>h
 | .unsupported _,_,_,_,_,h=>h
 | .finish _,_,_,_,_,h=>h
 | .rule _ k,_,_,c,d,h=>zgy (t:=k ()) c d h
 | .at _ k,_,_,c,d,h=>zgy (t:=k ()) c d h
 | .load _ _ k,_,_,c,d,⟨o,ho,h⟩=>⟨o,ho,zgy (t:=k o) (c o) d h⟩
 | .update a _ f k,p,s,c,d,⟨hi,h⟩=>by
  refine ⟨hi,zgy (t:=k ()) c.2 ?_ h⟩
  obtain ⟨o,ho,hd⟩:=d
  by_cases ea:a=e
  ·subst ea
   have nf:o.isFreed=false:=(Heap.get?_some_iff.mp ho).2
   exact ⟨f o,Heap.get?_update_self f ho (by rw [(c.1 o).2];exact nf),by rw [(c.1 o).1];exact hd⟩
  ·exact ⟨o,(Heap.get?_update_other _ f ea).trans ho,hd⟩
 | .alloc o k,p,s,c,⟨o',ho,hd⟩,h=>zgy (t:=k _) (c _) ⟨o',Heap.get?_push_of_some _ ho,hd⟩ h
 | .loadIfAlive _ k,_,_,c,d,h=>zgy (t:=k _) (c _) d h
 | .point _ k,_,_,c,d,h=>zgy (t:=k ()) c d h
 | .fresh k,_,_,c,d,h=>zgy (t:=k _) (c _) d h
 | .ask k,_,_,c,d,h=>zgy (t:=k _) (c _) d h
 | .handled _ k,_,_,c,d,h=>zgy (t:=k _) (c _) d h
 | .stack k,_,_,c,d,h=>zgy (t:=k _) (c _) d h
 | .thread k,_,_,c,d,h=>zgy (t:=k _) (c _) d h
 | .register ..,_,_,c,_,_=>c.elim
 | .choose ..,_,_,c,_,_=>c.elim
 | .os ..,_,_,c,_,_=>c.elim
 | .call ..,_,_,c,_,_=>c.elim
 | .newGen ..,_,_,c,_,_=>c.elim
 | .genState ..,_,_,c,_,_=>c.elim
 | .resume ..,_,_,c,_,_=>c.elim
 | .yield ..,_,_,c,_,_=>c.elim
 | .fork ..,_,_,c,_,_=>c.elim
 | .await ..,_,_,c,_,_=>c.elim
theorem ziC {M:Model} {A:Around} {t:Sem α} {Q:α→Shared→Prop} {E:Value→Shared→Prop} {s:Shared} {e:Addr} {od:Option Addr} (c:Kd t) (d:zka e od s.heap) (h:wpAny M A t (fun a s'=>zka e od s'.heap→Q a s') E s):wpAny M A t Q E s:=fun Γ p hΓ =>
 Sem.wp_mono M Γ t (fun _ _ _ z=>z.1 z.2) (fun _ _ _ z=>z) p s (zgy c d (h Γ p hΓ))
end
theorem zkl (f:Array Value→Array Value) (o:Obj):(Obj.mapFields f o).dict=o.dict∧(Obj.mapFields f o).isFreed=o.isFreed:=by
 obtain ⟨c,d,dat,sl⟩:=o
 cases dat <;> exact ⟨rfl,rfl⟩
theorem zb0 {α:Type} (a:α):Kd (pure a:Sem α):=trivial
theorem zfd {α:Type} (w:String):Kd (unsupported w:Sem α):=trivial
theorem zll (a:Addr):Kd (load a):=fun _=>trivial
theorem zjD:Kd stack:=fun _=>trivial
theorem zso (o:Obj):Kd (alloc o):=fun _=>trivial
theorem zs6 {a:Addr} {f:Obj→Obj} (h:∀ o:Obj,(f o).dict=o.dict∧(f o).isFreed=o.isFreed):Kd (update a f):=⟨h,trivial⟩
theorem zjN {α:Type} {c:Prop} [Decidable c] {a b:Sem α} (h1:Kd a) (h2:Kd b):Kd (if c then a else b):=by
 split
 ·exact h1
 ·exact h2
theorem zhj (v:Value) (i:Nat):Kd (field v i):=by
 unfold field fieldsOf
 refine zaS (fun x=>?_) ?_
 ·split
  ·exact zb0 _
  ·exact zfd _
 ·split
  ·refine zaS (fun o=>?_) (zll _)
   split
   ·exact zb0 _
   ·exact zfd _
  ·exact zfd _
theorem zfC (v:Value) (i:Nat) (x:Value):Kd (setField v i x):=by
 unfold setField updateField
 split
 ·refine zaS (fun o=>?_) (zll _)
  split
  ·exact zjN (zs6 (zkl _)) (zfd _)
  ·exact zfd _
 ·exact zfd _
theorem zjV (ty:String) (vs:List Value):Kd (newFields ty vs):=by
 unfold newFields newObj newObjAsIs
 simp only
 split
 ·exact zfd _
 ·exact zaS (fun _=>zb0 _) (zso _)
theorem zfn:∀ l:List Env,Kd (readyFrames l)
 | []=>trivial
 | env::outer=>by
  have ih:=zfn outer
  unfold readyFrames
  split
  ·refine zaS (fun o=>?_) (zll _)
   refine zjN (zb0 _) ?_
   refine zaS (fun im=>?_) ?_
   ·refine zaS (fun bk=>?_) ?_
    ·exact zaS (fun _=>ih) (zs6 fun o=>⟨rfl,by obtain ⟨c,d,dat,sl⟩:=o;cases dat <;> rfl⟩)
    ·unfold keptBack underTheClaimsCaller
     split
     ·refine zjN (zb0 _) ?_
      exact zaS (fun _=>zb0 _) (zaS (fun _=>zb0 _) zjD)
     ·exact zb0 _
   ·unfold behindIsImport
    refine zjN (zb0 _) (zjN (zb0 _) ?_)
    exact zaS (fun _=>zb0 _) (zhj _ _)
  ·exact zfd _
theorem zm5 (env:Env):Kd (PySem.frameOf env):=by
 unfold PySem.frameOf frameEnvs
 refine zaS (fun x=>?_) (zaS (fun _=>zb0 _) zjD)
 refine zaS (fun y=>?_) ?_
 ·split
  ·exact zb0 _
  ·exact zfd _
 ·unfold frameObject
  split
  ·exact zb0 _
  ·exact zaS (fun _=>zb0 _) (zfn _)
theorem zhw (f:Addr) (b:Bool):Kd (entryPlaceOf f b):=by
 unfold entryPlaceOf
 refine zaS (fun x=>?_) zjD
 split
 ·exact zb0 _
 ·exact zb0 _
theorem zgS (e:Value) (env:Env):Kd (noteFrame e env):=by
 unfold noteFrame EntryCells.newEntry
 split
 ·refine zaS (fun head=>?_) (zhj _ _)
  have zhE:∀ f:Addr,Kd (do let a ← PySem.frameOf env;let pl ← entryPlaceOf f (head != .none);let b ← newFields "traceback" ([head,a,.none,rawInt f,.none]++(if pl.isEmpty then List.replicate 6 .none else pl));setField e 1 b):=fun f =>
   zaS (fun _=>zaS (fun _=>zaS (fun _=>zfC _ _ _) (zjV _ _)) (zhw _ _)) (zm5 _)
  refine zjN ?_ (zhE _)
  refine zaS (fun x=>zjN (zb0 _) ?_) (zhj _ _)
  exact zaS (fun _=>zhE _) (zfC _ _ _)
 ·exact zfd _
theorem zeR (e:Value) (f:Option Addr):Kd (setFlight e f):=by
 unfold setFlight
 exact zaS (fun _=>zjN (zfC _ _ _) (zb0 _)) (zhj _ _)
theorem zgu (env:Env) (e:Value):Kd (leaving env e):=by
 unfold leaving
 exact zaS (fun _=>zeR _ _) (zgS _ _)
structure ExI (K:PySem.W.Frag) (C fI:Addr):Prop where
 lk:∃ nm q N bs bm sn sub ab col dd k0 k1 k2 k3 k5,K.lookup C=some (excClassObj nm q C N bs bm true sn sub ab col dd k0 k1 k2 k3 k5 "ValueError.__new__")∧PySem.W.tailIn K zfA bm=true
 ini:PySem.W.findIn K (.ref C) "__init__"=some (some (.ref fI))
 fn:PySem.W.isFn K (.ref fI)=true
 kp:PySem.W.keepIn K (.ref C)=true
 mo:PySem.W.mroIn K C (.type "object")=some true
 sa:PySem.W.findIn K (.ref C) "__setattr__"=some (some (.builtin "object.__setattr__"))
section
variable {K:PySem.W.Frag} {prog:Program} {w:World} {A:Around} {E:Value→Shared→Prop} {h:Heap} {g:Array GenState} {d:Drawn} {t:Nat} {os:OsState} {C fI:Addr} {us:List Value}
theorem ztm {bm:List Value} {nm q:Str} {N:Addr} {bs:List Value} {hdct:Bool} {sn:List Str} {sub:List Value} {ab:Bool} {col:Option Bool} {dd:Option Addr} {k0 k1 k2 k3 k5:Option Value} {Q:Fin→Shared→Prop} (X:K.In h) (Z:ExI K C fI)
  (kC:h.get? C=some (excClassObj nm q C N bs bm hdct sn sub ab col dd k0 k1 k2 k3 k5 "ValueError.__new__")) (T:OwnTail h zfA bm) (hl:us.length≤sizeLine)
  (hq:∀ h1 x,x=h.objs.size+1→Heap.MadeExcOf h h1 x (.ref C) us→wpAny (model prog w) A (call (.ref fI) (.ref x::us)) (fun r s'=>r=.none∧Q (.done (.ret (.ref x))) s') E ⟨h1,g,d,t,os⟩) :
  wpAny (model prog w) A (Builtin.«type.__call__» ⟨.ref C::us,[]⟩) Q E ⟨h,g,d,t,os⟩:=by
 have F:=PySem.F.excBase_ValueError
 repeat (first | (with_reducible refine wpAny_loadPart_at kC ?_) | (with_reducible refine wpAny_madeBy_exc kC ?_) | wp_step)
 refine codeAny_call_builtin_code (Code.quiet_builtin _ F.quiet) (wpAny_check_new_subT F T kC (codeAny_exc_new_subT F T kC ?_ hl))
 show wpAny _ _ _ _ _ _
 have st:∀ b o,h.get? b=some o→((h.push { cls:=.type "tuple",data:=.seq us.toArray }).push { cls:=.ref C,data:=.fields #[.ref h.objs.size,.none,.none,.none,.bool false,.none] }).get? b=some o :=
  fun b o e=>Heap.get?_push_of_some _ (Heap.get?_push_of_some _ e)
 have gx:((h.push { cls:=.type "tuple",data:=.seq us.toArray }).push { cls:=.ref C,data:=.fields #[.ref h.objs.size,.none,.none,.none,.bool false,.none] }).get? (h.objs.size+1) =
   some { cls:=.ref C,data:=.fields #[.ref h.objs.size,.none,.none,.none,.bool false,.none] }:=by heap_get
 have gt:((h.push { cls:=.type "tuple",data:=.seq us.toArray }).push { cls:=.ref C,data:=.fields #[.ref h.objs.size,.none,.none,.none,.bool false,.none] }).get? h.objs.size =
   some { cls:=.type "tuple",data:=.seq us.toArray }:=Heap.get?_push_of_some _ (Heap.get?_push_at rfl rfl)
 generalize ((h.push { cls:=.type "tuple",data:=.seq us.toArray }).push { cls:=.ref C,data:=.fields #[.ref h.objs.size,.none,.none,.none,.bool false,.none] })=h1 at st gx gt ⊢
 have X1:K.In h1:=fun a o e=>st a o (X a o e)
 have k1:=st _ _ kC
 have LI:=PySem.W.looks_findIn (M:=model prog w) X1 Z.ini
 have cC:(Value.ref C::bm).contains (.ref C)=true:=by simp
 unfold isInstance
 repeat (first | (with_reducible refine wpAny_loadPart_at gx ?_) | (with_reducible refine wpAny_isSubtype_exc k1 ?_;rw [cC]) | (with_reducible refine LI.at ?_) | wp_step)
 refine (PySem.W.bind_fn (M:=model prog w) X1 (.ref (h.objs.size+1)) (beq_iff_eq.mp Z.fn)).at ?_
 refine wpAny_bind (wpAny_mono (hq h1 (h.objs.size+1) rfl ⟨st,Heap.get?_none_of_le (Nat.le_succ _),h.objs.size,gx,Heap.get?_none_of_le (Nat.le_refl _),gt⟩) (fun r s' z=>?_) fun _ _ z=>z)
 obtain ⟨rfl,z⟩:=z
 refine wpAny_pure ?_
 wp_walk
 exact z
theorem zp8 {Q:Value→Shared→Prop} (X:K.In h) (Z:ExI K C fI) (hl:us.length≤sizeLine)
  (hq:∀ h1 x,x=h.objs.size+1→Heap.MadeExcOf h h1 x (.ref C) us→wpAny (model prog w) (A.under (.builtin "type.__call__" ⟨.ref C::us,[]⟩)) (call (.ref fI) (.ref x::us)) (fun r s'=>r=.none∧Q (.ref x) s') E ⟨h1,g,d,t,os⟩) :
  wpAny (model prog w) A (call (.ref C) us) Q E ⟨h,g,d,t,os⟩:=by
 obtain ⟨nm,q,N,bs,bm,sn,sub,ab,col,dd,k0,k1,k2,k3,k5,lk,tl⟩:=Z.lk
 have kC:=X _ _ lk
 have l1:=tc_lookup
 have l2:=tc_bind (.ref C)
 have l3:(⟨h,g,d,t,os⟩:Shared).TypeIs (.ref C) "type":=⟨_,kC,rfl⟩
 refine wpAny_call (codeAny_of_tree ?_)
 show wpAny _ _ (callAny (.ref C) _) _ _ _
 repeat (any_goals (first | assumption | (with_reducible refine wpAny_loadPart_at kC ?_) | wp_step))
 refine ⟨rfl,codeAny_call_builtin_at (Code.quiet_builtin _ (by decide +kernel)) entry_typeCall (wpAny_check_type_call_sub kC ?_)⟩
 exact ztm X Z kC (PySem.W.tail_of_in X tl) hl hq
end
def zot (x:Addr) (C:Addr):HO:=.ext fun h=>∃ o t0,h.get? x=some o∧o.cls=.ref C∧o.dict=none∧o.data=.fields #[.ref t0,.none,.none,.none,.bool false,.none]
def zoo (x:Addr) (C dx:Addr):HO:=.ext fun h=>∃ o t0,h.get? x=some o∧o.cls=.ref C∧o.dict=some dx∧o.data=.fields #[.ref t0,.none,.none,.none,.bool false,.none]
structure ExB (K:PySem.W.Frag) (D:Addr):Prop where
 sg:PySem.W.specialIn K (.ref D) "__getattribute__"=some (some (.builtin "type.__getattribute__"))
 rd:PySem.W.readsIn K D (.type "type")=true
 fc:PySem.W.findCls K (.ref D) (.type "type") "__init__"=some (.val (.builtin "ValueError.__init__"))
theorem zsk {H:Hp} {x:Addr} {o:HO} (h:H x=some o):upd H x o=H:=by
 funext b
 unfold upd
 split
 ·rename_i e
  rw [e,h]
 ·rfl
section
variable {X:Cx} {pins:List (Addr×Obj)} {σ:St} {H:Hp} {s:Shared}
theorem zpR {A:Around} {E:Value→Shared→Prop} {Q:Value→Shared→Prop} {x C:Addr} {us:List Value} (I:Inv X pins σ H s) (hx:H x=some (zot x C)) (Z:∃ fI,ExI X.K C fI) (hl:us.length≤sizeLine)
  (h:∀ s',Inv X pins σ H s'→Q .none s'):wpAny (model X.prog X.w) A (call (.builtin "ValueError.__init__") (.ref x::us)) Q E s:=by
 obtain ⟨fI,Z⟩:=Z
 obtain ⟨nm,q,N,bs,bm,sn,sub,ab,col,dd,k0,k1,k2,k3,k5,lk,tl⟩:=Z.lk
 have kC:=I.kIn _ _ lk
 have T:=PySem.W.tail_of_in I.kIn tl
 have F:=PySem.F.excBase_ValueError
 obtain ⟨⟨o,t0,ho,hc,hd,hdat⟩,_⟩:=(I.hok x _ hx:zbS X.prog X.w H s.heap x (zot x C))
 obtain ⟨hh,g,d,t,os⟩:=s
 obtain ⟨oc,od,odt,osl⟩:=o
 dsimp only at hc hd hdat
 subst hc hd hdat
 refine wpAny_call (codeAny_call_builtin F.init.plain F.initEntry (wpAny_check_init_subT F T kC ho rfl ?_))
 wp_walk
 have I1:Inv X pins σ H { heap:=hh.push { cls:=.type "tuple",data:=.seq us.toArray },gens:=g,drawn:=d,toks:=t,os:=os }:=I.kept (t':=t) fun b u e=>Heap.get?_push_of_some _ e
 have gx:(hh.push { cls:=.type "tuple",data:=.seq us.toArray }).get? x=some ⟨.ref C,none,.fields #[.ref t0,.none,.none,.none,.bool false,.none],osl⟩:=Heap.get?_push_of_some _ ho
 have gy:=Heap.get?_update_self (Obj.mapFields fun z=>z.setIfInBounds 0 (Value.ref hh.objs.size)) gx rfl
 have I2:=I1.write (x:=x) (e:=x) (o:=zot x C) (t':=t) (h':=(hh.push { cls:=.type "tuple",data:=.seq us.toArray }).update x (Obj.mapFields fun z=>z.setIfInBounds 0 (Value.ref hh.objs.size)))
  (by rw [hx];exact True.intro) (.inl rfl) (fun b u nb e=>(Heap.get?_update_other _ _ (Ne.symm nb)).trans e) ⟨_,gy⟩ ⟨⟨_,_,gy,rfl,rfl,rfl⟩,⟨_,gy⟩,fun _ _ ⟨o,t0,e,r⟩ k=>⟨o,t0,k o e,r⟩⟩
 rw [zsk hx] at I2
 exact h _ I2
end
theorem zlZ {h:Heap} {self:Value} {what:Str} {l:List Value} (T:OwnTail h zfA l) (hb:refuseLoop self what zfA=pure ()):refuseLoop self what l=pure ():=by
 induction T with
 | base=>exact hb
 | own _ _ _ _ ih=>rw [refuseLoop_ref,ih]
section
open Builtin Builtin.ObjectAttr
variable {K:PySem.W.Frag} {prog:Program} {w:World} {A:Around} {E:Value→Shared→Prop} {h:Heap} {g:Array GenState} {d:Drawn} {t:Nat} {os:OsState} {C fI x:Addr} {v:Value} {name:Str} {o:Obj}
theorem zuc {tk:Tok} {R:Result→Shared→Prop} (X:K.In h) (Z:ExI K C fI) (na:PySem.W.findIn K (.ref C) name=some none) (hx:h.get? x=some o) (hc:o.cls=.ref C) (hd:o.dict=none) {fs:Array Value} (hf:o.data=.fields fs)
  (hq:∀ h' tk',h'.get? x=some { o with dict:=some h.objs.size }→h'.Ns1 h.objs.size (fun y=>if y=name then some v else none)→(∀ b u,b≠x→h.get? b=some u→h'.get? b=some u)→R (.ok (.ret .none)) ⟨h',g,d,tk',os⟩) :
  codeAny (model prog w) A (.call (.builtin "object.__setattr__") ⟨[.ref x,.str name tk,v],[]⟩) R ⟨h,g,d,t,os⟩:=by
 obtain ⟨nm,q,N,bs,bm,sn,sub,ab,col,dd,k0,k1,k2,k3,k5,lk,tl⟩:=Z.lk
 have kC:=X _ _ lk
 have T:=PySem.W.tail_of_in X tl
 have S:=PySem.F.store_ValueError
 have LN:=PySem.W.looks_findIn (M:=model prog w) X na
 have pass:refuseLoop (.ref x) "__setattr__" (.ref C::bm)=pure ():=by
  rw [refuseLoop_ref]
  exact zlZ T (S.passes _)
 have cO:(Value.ref C::bm).contains (.type "object")=true:=by rw [List.contains_cons,T.hasType S.hasOwner,Bool.or_true]
 have LT:PySem.W.Looks (model prog w) h (typeOf (.ref x)) (.ref C):=hc ▸ (PySem.W.Looks.ld hx).andThen .now
 have LS:PySem.W.Looks (model prog w) h (isInstance (.ref x) (.type "object")) true:=LT.andThen (PySem.W.looks_mroIn X Z.mo)
 refine codeAny_call_builtin S.slot.plain S.entry (@PySem.W.check_slot (model prog w) _ _ ⟨h,g,d,t,os⟩ "object.__setattr__" "object" "__setattr__" (.ref x) [.str name tk,v] [] _ S.kind S.split LS (S.args (.ref x) (.str name tk) v) ?_)
 unfold Builtin.«object.__setattr__»
 repeat (first | rw [refuse_eq] | rw [pass] | (with_reducible refine wpAny_loadPart_at hx ?_;rw [hc]) | (with_reducible refine wpAny_mroOf_exc kC ?_) | (with_reducible refine LN.at ?_) | wp_step)
 obtain ⟨oc,od,odt,osl⟩:=o
 dsimp only at hc hd hf
 subst hc hd hf
 dsimp only
 rw [if_neg (by simp [typeHasDict])]
 have gx:(h.push { cls:=.type "dict",data:=.dict #[] }).get? x=some ⟨.ref C,none,.fields fs,osl⟩:=Heap.get?_push_of_some _ hx
 have ns:x≠h.objs.size:=Nat.ne_of_lt (Heap.lt_size hx)
 refine wpAny_bind (wpAny_alloc' (wpAny_bind (wpAny_update' gx (wpAny_pure ?_))))
 have gy:=Heap.get?_update_self (fun o:Obj=>{ cls:=o.cls,dict:=some h.objs.size,data:=o.data,slots:=o.slots }) gx rfl
 have gd:((h.push { cls:=.type "dict",data:=.dict #[] }).update x fun o=>{ cls:=o.cls,dict:=some h.objs.size,data:=o.data,slots:=o.slots }).get? h.objs.size=some { cls:=.type "dict",data:=.dict #[] } :=
  (Heap.get?_update_other _ _ ns).trans (Heap.get?_push_at rfl rfl)
 have keep:∀ b u,b≠x→h.get? b=some u→((h.push { cls:=.type "dict",data:=.dict #[] }).update x fun o=>{ cls:=o.cls,dict:=some h.objs.size,data:=o.data,slots:=o.slots }).get? b=some u:=fun b u nb e =>
  (Heap.get?_update_other _ _ (Ne.symm nb)).trans (Heap.get?_push_of_some _ e)
 generalize ((h.push { cls:=.type "dict",data:=.dict #[] }).update x fun o=>{ cls:=o.cls,dict:=some h.objs.size,data:=o.data,slots:=o.slots })=h2 at gy gd keep ⊢
 have nn:h2.Ns h.objs.size (fun _=>none):=⟨_,#[],_,gd,rfl,fun e he=>absurd he (by simp),fun _=>rfl⟩
 show wpAny _ _ (storeInDict h.objs.size (.str name tk) name v) _ _ _
 unfold storeInDict newKeyGuard
 refine wpAny_bind (wpAny_pure (wpAny_bind (wpAny_nsSet1 (Heap.Ns1.of_empty nn) fun h3 n3 s3=>?_)))
 obtain ⟨oD,eD,pD,aD,bD,cD⟩:=n3.count (Within.cons name v Within.nil)
 refine wpAny_bind (wpAny_lookBehind aD (by rw [bD];exact pastItsLine_dict (Nat.le_trans cD (by rw [List.length_cons,List.length_nil,sizeLine_eq];(first|lia|omega)))) ?_)
 wp_walk
 exact hq h3 _ ((s3.2 x ns).trans gy) n3 fun b u nb e=>(s3.2 b (Nat.ne_of_lt (Heap.lt_size e))).trans (keep b u nb e)
end
def tBI (K:PySem.W.Frag) (t:TA):TE:=fun σ H Q=>t σ H fun vs H1=>∃ x v C,vs=[.ref x,v]∧H1 x=some (zot x C)∧(∃ fI,ExI K C fI)∧Q .non H1
def zuK (K:PySem.W.Frag) (to tv:TE) (f:Str):TS:=fun D σ H=>tv σ H fun v H1=>to σ H1 fun x H2=>∃ a C,x=.ref a∧H2 a=some (zot a C)∧(∃ fI,ExI K C fI)∧PySem.W.findIn K (.ref C) f=some none ∧
 ∀ dx,H2 dx=none→dx≠a→D.nx σ (upd (upd H2 a (zoo a C dx)) dx (.xd [(f,v)]))
section
variable {X:Cx} {x:Str} {D:Addr} {np apos pos pos':Pos} {e o value:Expr} {es:List Expr} {t:TA} {to tv:TE} {f:Str}
theorem zfu {pl:Sem Bool} (hg:Gl X x) (hm:X.mg x=some (.ref D)) (B:ExB X.K D) (ha:PA X (e::es) t) (hdb:(x == ("__debug__":Str))=false:=by decide)
  (hst:starEach (e::es) X.env=(false,eval e X.env)::starEach es X.env:=by rfl) (hpl:(backTo pos (starEach es X.env)).any (·.1)=false:=by rfl)
  (ht:eval (.Call (.Attribute (.Name x np) "__init__" apos) (e::es) [] pos) X.env=(do
   let ov ← eval (.Name x np) X.env
   standAt apos.atName
   let (f,first) ← holding [ov] (getMethod ov "__init__" pl)
   callWith pos f first (backTo pos (starEach (e::es) X.env)) (backToKw pos (keywordEach [] X.env))):=by rfl) :
  PE X (.Call (.Attribute (.Name x np) "__init__" apos) (e::es) [] pos) (tBI X.K t):=by
 intro pins s σ H Q I h
 refine PySem.W.methodCall_KW (pl:=pl) (zdK I hg hm ?_ hdb) ht
 refine PySem.W.method_cls I.kIn B.sg (PySem.W.cls_value I.kIn B.rd B.fc rfl ?_)
 have I1:=I.tok (s.toks+1)
 have hA:=ha pos pins _ σ H _ I1 h
 rw [hst] at hA ⊢
 refine Calls.callWith_builtin (by show (false || (backTo pos (starEach es X.env)).any (·.1))=false;rw [hpl] <;> rfl) (Calls.evalArgs_plain ?_)
 refine thn hA fun us s2 hQ'=>?_
 obtain ⟨vs,H2,I2,r2,y,v,C,e1,e2,Z,q⟩:=hQ'
 subst e1
 obtain ⟨u1,u2,rfl,r3,r4⟩:=r2.two
 cases r3
 exact zpR (us:=[u2]) I2 e2 Z (by show 1≤sizeLine;decide) fun s' I'=>⟨.non,H2,I',rfl,q⟩
theorem zlG (ho:PE X o to) (hv:PE X value tv) (hs:swapsWith value (some (.Attribute o f pos')) pos.line X.env=pure false):PS X (.Assign [.Attribute o f pos'] value pos) (zuK X.K to tv f):=by
 intro pins s σ H D I h
 refine plainObj_wpAny_Assign_Attribute (thn (hv pins s σ H _ I h) fun u s1 ⟨y,H1,I1,ry,q⟩=>thn (ho pins s1 σ H1 _ I1 q) fun ov s2 hQ'=>?_) hs
 obtain ⟨z,H2,I2,rx,a,C,ex,ea,⟨fI,Z⟩,na,q2⟩:=hQ'
 subst ex
 obtain rfl:ov=Value.ref a:=rx
 obtain ⟨⟨ox,t0,hx,hc,hd,hf⟩,_⟩:=(I2.hok a _ ea:zbS X.prog X.w H2 s2.heap a (zot a C))
 have J:PySem.W.InstAt s2.heap a ox C none:=⟨hx,hc,by unfold PySem.W.notCls;rw [hf],by rw [hd];exact True.intro⟩
 refine PySem.W.set_plain I2.kIn J Z.sa ?_
 obtain ⟨hh,g,d,tk,os⟩:=s2
 refine zuc I2.kIn Z na hx hc hd hf fun h3 tk3 gx n3 keep=>?_
 have fr:H2 hh.objs.size=none:=I2.hok.fresh (Nat.le_refl _)
 have ne:hh.objs.size≠a:=(Nat.ne_of_lt (Heap.lt_size hx)).symm
 have W:=I2.write (x:=a) (e:=a) (o:=zoo a C hh.objs.size) (t':=tk3) (h':=h3) (by rw [ea];exact True.intro) (.inl rfl) (fun b v nb e=>keep b v nb e) ⟨_,gx⟩ ⟨⟨_,t0,gx,hc,rfl,hf⟩,⟨_,gx⟩,fun _ _ ⟨o,t0,e,r⟩ k=>⟨o,t0,k o e,r⟩⟩
 have fr2:upd H2 a (zoo a C hh.objs.size) hh.objs.size=none:=by rw [zal ne];exact fr
 have V:=W.track (a:=hh.objs.size) (o:=.xd [(f,y)]) fr2 (Heap.get?_none_of_le I2.sz) (fun z=>?_) (fun y c e z=>?_) (fun p hp z=>?_) ⟨_,n3,fun k=>?_⟩
 ·exact ⟨σ,_,V,q2 _ fr ne⟩
 ·obtain ⟨m,⟨o,_,_,e,_⟩,_⟩:=I2.loc
  exact absurd z.symm (Nat.ne_of_lt (Heap.lt_size e))
 ·obtain ⟨v,o,e1,_⟩:=I2.cell y c e
  exact absurd z (Nat.ne_of_lt (Heap.lt_size e1))
 ·exact absurd z (Nat.ne_of_lt (Heap.lt_size (I2.pin p hp).1))
 ·show zpq (List.lookup k [(f,y)]) (if k=f then some u else none)
  by_cases c:k=f
  ·subst c
   rw [if_pos rfl]
   simp only [List.lookup,beq_self_eq_true]
   exact ry
  ·rw [if_neg c]
   have:(k == f)=false:=beq_eq_false_iff_ne.mpr c
   simp only [List.lookup,this]
   exact trivial
end
section
variable {X:Cx} {CX:CXT} {k:Nat} {f C:Addr} {fd:FuncData} {ps:List Str} {sp:Sp} {E:XK} {x:Str} {p pos:Pos} {e:Expr} {es:List Expr} {t:TA}
theorem Inv.laidAt {pins:List (Addr×Obj)} {σ:St} {H:Hp} {s:Shared} {h':Heap} {a:Addr} {o:HO} (I:Inv X pins σ H s) (kp:∀ b u,s.heap.get? b=some u→h'.get? b=some u) (hp:s.heap.objs.size≤a) (new:zbS X.prog X.w (upd H a o) h' a o) :
  Inv X pins σ (upd H a o) { s with heap:=h' }:=I.laid (t':=s.toks) kp hp new
theorem zpz {pins:List (Addr×Obj)} {σ:St} {H:Hp} {s:Shared} {Q:VK} {us:List Value} {vs:List V} (Z:ExI X.K C f) (F:zc8 X.prog X.w X.K X.mg X.base CX k f fd ps sp) (hr:zek (k+1) X.A) (hb:zbI X.K fd ps []) (hx:zf2 CX X E)
  (I:Inv X pins σ H s) (r:zbY vs us) (hl:us.length≤sizeLine) (h:∀ y,H y=none→X.s₀.heap.get? y=none→sp (.ref y::vs) (upd H y (zot y C)) (fun v H2=>v=.non∧Q (.ref y) H2) E) :
  wpAny (model X.prog X.w) X.A (call (.ref C) us) (EP X pins σ Q) X.xe s:=by
 obtain ⟨hh,g,d,tk,os⟩:=s
 refine zp8 I.kIn Z hl fun h1 y ey M=>?_
 have hy:hh.objs.size≤y:=by rw [ey];exact Nat.le_succ _
 obtain ⟨t0,gy,_,_⟩:=M.there
 have I2:=I.laidAt (a:=y) (o:=zot y C) M.keeps hy ⟨⟨_,t0,gy,rfl,rfl,rfl⟩,⟨_,gy⟩,fun _ _ ⟨o,t0,e,r⟩ k=>⟨o,t0,k o e,r⟩⟩
 have hq:=h y (I.hok.fresh hy) (Heap.get?_none_of_le (Nat.le_trans I.sz hy))
 have r2:zbY (V.ref y::vs) (Value.ref y::us):=.cons rfl r
 have hl2:(Value.ref y::us++[]).length=ps.length:=by
  rw [List.append_nil,← r2.length]
  exact F.len _ _ _ _ hq
 have B:=hb _ (Value.ref y::us) I2.kIn hl2
 rw [List.append_nil] at B
 refine wpAny_call (codeAny_mono (F.run _ X.stack _ _ ⟨Value.ref y::us,[]⟩ (Value.ref y::us) _ _ E (hr.make C us []) (I2.env0.make C us []) B r2 hq) fun res s' hq'=>?_)
 cases res with
 | error e=>exact hx pins σ _ _ e s' I2 hq'
 | ok fl =>
  cases fl with
  | ret u =>
   obtain ⟨v,H',I3,rv,ev,q3⟩:=I2.after hq'
   subst ev
   exact ⟨rv,⟨V.ref y,H',I3,rfl,q3⟩⟩
  | next=>exact False.elim hq'
  | brk=>exact False.elim hq'
  | cont=>exact False.elim hq'
end
def CXV (P:Program) (w:World):CXT:=fun outer H s E e s'=>∃ (ea:Addr) (B:Heap) (cls a0:Value) (H':Hp) (od:Option Addr),e=.ref ea∧zts P w outer H s (fun c _ H'=>E c od H') ea s' B cls a0 H'∧zka ea od s'.heap
def zeg (H:Hp) (x:Addr):Hp:=fun b=>if b=x then none else H b
theorem zba {H:Hp} {x b:Addr} (h:b≠x):zeg H x b=H b:=if_neg h
theorem zdS {H:Hp} {x:Addr}:zeg H x x=none:=if_pos rfl
theorem zhD {H:Hp} {x b:Addr} {u:HO} (h:zeg H x b=some u):b≠x∧H b=some u:=by
 unfold zeg at h
 split at h
 ·cases h
 ·rename_i n
  exact ⟨n,h⟩
section
variable {P:Program} {w:World} {K:PySem.W.Frag} {mg:Str→Option Value} {base:Heap} {N:List Str} {qual:Str} {scope:Scope} {f:Addr} {cd:Value} {A:Around} {outer:List Env} {s₀:Shared} {H₀:Hp} {E:XK}
theorem zw5:zf2 (CXV P w) (zk7 (CXV P w) P w K mg base N qual scope f cd A outer s₀ H₀ E) E:=by
 intro pins σ H s e s' I h
 obtain ⟨ea,B,cls,a0,H',od,rfl,x,dd⟩:=h
 have hfr:=I.ok.frames
 have ff:=x.fly.2.2.1
 refine ziC (zgu _ _) dd (wpAny_leaves_onW (base:=B) (L:=s₀.heap.objs.size) hfr rfl x.fly fun h' fl sm dd'=>?_)
 obtain ⟨un2,hok2⟩:=x.later fl.1 sm ff
 have neL:∀ b o,s₀.heap.get? b=some o→b≠s₀.heap.objs.size:=fun b o e=>Nat.ne_of_lt (Heap.lt_size e)
 have notin:∀ b o,s₀.heap.get? b=some o→b∉frs outer→b∉frs (envOfC qual scope s₀.heap.objs.size f cd::outer):=fun b o e hb z=>by
  rcases List.mem_cons.mp (I.stkSub b z) with q | q
  ·exact neL b o e q
  ·exact hb q
 have un:Un (frs outer) [] H₀ H' s₀.heap h':=by
  refine ⟨fun b o e n hb hx=>?_,fun b o e n hb hx=>?_,fun b o e n hx=>?_,fun b o e hx=>?_,fun b xs e=>x.un.tups b xs (I.base.tups b xs e),fun b o u e=>x.un.frzs b o u (I.base.frzs b o u e),fun b ps e=>?_⟩
  ·exact un2.keep b o (I.base.keep b o e n hb hx) (I.base.free b o e n hx) (notin b o e hb) (by simp)
  ·obtain ⟨sl,e1⟩:=I.base.slot b o e n hb hx
   obtain ⟨sl',e2⟩:=un2.any e1 (I.base.free b o e n hx) (by simp)
   exact ⟨sl',e2⟩
  ·obtain ⟨o',e1⟩:=I.base.there b o e hx
   exact x.un.free b o' e1 (I.base.free b o e n hx) (by simp)
  ·obtain ⟨o',e1⟩:=I.base.there b o e hx
   exact un2.there b o' e1 (by simp)
  ·obtain ⟨m1,e1⟩:=I.base.tbls b ps e
   obtain ⟨m2,e2⟩:=x.un.tbls b _ e1
   exact ⟨m1++m2,by rw [e2,Array.append_assoc]⟩
 refine ⟨ea,B,cls,a0,H',od,rfl,⟨x.os.trans I.os,x.bare,un,x.hokB,fl,fun b o e n hb=>?_,fun b o e hb=>?_,?_,x.free,x.want⟩,dd'⟩
 ·exact x.cov b o (I.base.keep b o e n hb (by intro z;cases z)) (I.base.free b o e n (by intro z;cases z)) (notin b o e hb)
 ·obtain ⟨o',e1⟩:=I.base.there b o e (by intro z;cases z)
  exact x.covT b o' e1 (notin b o e hb)
 ·cases q:s₀.heap.get? ea with
  | none=>rfl
  | some o =>
   obtain ⟨o',e1⟩:=I.base.there ea o q (by intro z;cases z)
   rw [x.new] at e1
   cases e1
end
def zlD (X:Cx) (E:XK):Prop:=∀ (pins:List (Addr×Obj)) (σ:St) (H:Hp) (s:Shared) (y C dx:Addr),Inv X pins σ H s→H y=some (zoo y C dx)→X.s₀.heap.get? y=none→E (.ref C) (some dx) (zeg H y)→X.xe (.ref y) s
section
variable {P:Program} {w:World} {K:PySem.W.Frag} {mg:Str→Option Value} {base:Heap} {N:List Str} {qual:Str} {scope:Scope} {f:Addr} {cd:Value} {A:Around} {outer:List Env} {s₀:Shared} {H₀:Hp} {E:XK}
theorem zgw:zlD (zk7 (CXV P w) P w K mg base N qual scope f cd A outer s₀ H₀ E) E:=by
 intro pins σ H s y C dx I hy n0 q
 replace n0:s₀.heap.get? y=none:=n0
 obtain ⟨⟨oy,t0,gy,cy,dy,fy⟩,_⟩:=(I.hok y _ hy:zbS _ _ H s.heap y (zoo y C dx))
 have hfr:=I.ok.frames
 have hst:s.heap.FunFrames base (envOfC qual scope s₀.heap.objs.size f cd::outer):=I.stack
 have fresh:∀ b∈frs (envOfC qual scope s₀.heap.objs.size f cd::outer),H b=none:=I.stkFree
 have yf:y∉frs (envOfC qual scope s₀.heap.objs.size f cd::outer):=fun z=>by rw [fresh y z] at hy;cases hy
 have inB:∀ b o,s.heap.get? b=some o→b≠y→b∉frs (envOfC qual scope s₀.heap.objs.size f cd::outer)→(PySem.W.hideAll s.heap (y::frs (envOfC qual scope s₀.heap.objs.size f cd::outer))).get? b=some o:=fun b o e ny n =>
  PySem.W.hideAll_get _ e (fun z=>(List.mem_cons.mp z).elim ny n)
 have st0:(PySem.W.hideAll s.heap (y::frs (envOfC qual scope s₀.heap.objs.size f cd::outer))).StaysIn s.heap:=fun b o q=>PySem.W.of_hideAll _ q
 have hl:s.heap.FunFrames (PySem.W.hideAll s.heap (y::frs (envOfC qual scope s₀.heap.objs.size f cd::outer))) (envOfC qual scope s₀.heap.objs.size f cd::outer) :=
  PySem.W.funFrames_hide hst fun env he a ha=>List.mem_cons_of_mem _ (List.mem_filterMap.mpr ⟨env,he,ha⟩)
 have yB:(PySem.W.hideAll s.heap (y::frs (envOfC qual scope s₀.heap.objs.size f cd::outer))).get? y=none:=PySem.W.hideAll_none _ List.mem_cons_self
 generalize PySem.W.hideAll s.heap (y::frs (envOfC qual scope s₀.heap.objs.size f cd::outer))=B at inB st0 hl yB
 refine ziC (zgu _ _) ⟨oy,gy,dy⟩ (wpAny_leaving_firstW (base:=B) (L:=s₀.heap.objs.size) (a0:=.ref t0) hfr hl rfl gy st0 yB fy rfl rfl fun h2 lf d2=>?_)
 obtain ⟨x1,⟨_,_,x2⟩,x3,x4⟩:=lf
 have neL:∀ b o,s₀.heap.get? b=some o→b≠s₀.heap.objs.size:=fun b o e=>Nat.ne_of_lt (Heap.lt_size e)
 have ney:∀ b o,s₀.heap.get? b=some o→b≠y:=fun b o e z=>by rw [z,n0] at e;cases e
 have notin:∀ b o,s₀.heap.get? b=some o→b∉frs outer→b∉frs (envOfC qual scope s₀.heap.objs.size f cd::outer):=fun b o e hb z=>by
  rcases List.mem_cons.mp (I.stkSub b z) with q | q
  ·exact neL b o e q
  ·exact hb q
 have slot:∀ b o,s.heap.get? b=some o→b∈frs outer→∃ sl,h2.get? b=some { o with slots:=sl }:=fun b o e hb=>by
  obtain ⟨_,o',e',nf⟩:=hl.2.2.mem hb
  rw [e] at e'
  cases e'
  exact x4 b o e nf
 have hokB:HOk P w (zeg H y) B:=fun b u e=>by
  obtain ⟨nb,e'⟩:=zhD e
  refine (I.hok b u e').stay (fun c v hc q=>inB c v q (fun z=>?_) fun z=>?_) (fun c q=>?_) fun c xs q=>?_
  ·rcases hc with r | r
   ·exact nb (r.symm.trans z)
   ·rw [z,hy] at r
    cases r
  ·rcases hc with r | r
   ·rw [r] at z
    rw [fresh b z] at e'
    cases e'
   ·rw [fresh c z] at r
    cases r
  ·rw [zba fun z=>by rw [z,hy] at q;cases q]
   exact q
  ·rw [zba fun z=>by rw [z,hy] at q;cases q]
   exact q
 have un:Un (frs outer) [] H₀ (zeg H y) s₀.heap h2:=by
  refine ⟨fun b o e n hb hx=>?_,fun b o e n hb hx=>?_,fun b o e n hx=>?_,fun b o e hx=>?_,fun b xs e=>?_,fun b o u e=>?_,fun b ps e=>?_⟩
  ·exact x1 b o (inB b o (I.base.keep b o e n hb hx) (ney b o e) (notin b o e hb))
  ·obtain ⟨sl,e1⟩:=I.base.slot b o e n hb hx
   obtain ⟨sl',e2⟩:=slot b _ e1 hb
   exact ⟨sl',e2⟩
  ·rw [zba (ney b o e)]
   exact I.base.free b o e n hx
  ·obtain ⟨o',e1⟩:=I.base.there b o e hx
   by_cases hb:b∈frs outer
   ·obtain ⟨sl,e2⟩:=slot b o' e1 hb
    exact ⟨_,e2⟩
   ·exact ⟨o',x1 b o' (inB b o' e1 (ney b o e) (notin b o e hb))⟩
  ·have z:=I.base.tups b xs e
   rw [zba fun q=>by rw [q,hy] at z;cases z]
   exact z
  ·have z:=I.base.frzs b o u e
   rw [zba fun q=>by rw [q,hy] at z;cases z]
   exact z
  ·obtain ⟨m,z⟩:=I.base.tbls b ps e
   refine ⟨m,?_⟩
   rw [zba fun q=>by rw [q,hy] at z;cases z]
   exact z
 rw [cy] at x3
 refine ⟨y,B,.ref C,.ref t0,zeg H y,some dx,rfl,⟨I.os,I.bare,un,hokB,⟨x1,yB,x2,x3⟩,fun b o e n hb=>?_,fun b o e hb=>?_,n0,zdS,q⟩,d2⟩
 ·exact inB b o (I.base.keep b o e n hb (by intro z;cases z)) (ney b o e) (notin b o e hb)
 ·obtain ⟨o',e1⟩:=I.base.there b o e (by intro z;cases z)
  exact ⟨o',inB b o' e1 (ney b o e) (notin b o e hb)⟩
end
section
variable {P:Program} {w:World} {K:PySem.W.Frag} {mg:Str→Option Value} {base:Heap} {N:List Str} {qual:Str} {scope:Scope} {f:Addr} {cd:Value} {A:Around} {outer:List Env} {s₀:Shared} {H₀:Hp} {E:XK}
end
section
variable {K:PySem.W.Frag} {prog:Program} {w:World} {A:Around} {E:Value→Shared→Prop} {s:Shared} {env:Env} {C fI:Addr}
theorem zph {xs:Sem Value} {Q:Flow→Shared→Prop} (Z:ExI K C fI) (hh:A.handled=none)
  (h:wpAny (model prog w) A xs (fun v s1=>∃ y o fs,v=.ref y∧K.In s1.heap∧s1.heap.get? y=some o∧o.cls=.ref C∧o.data=.fields fs∧fs[1]?=some .none∧E (.ref y) s1) E s):wpAny (model prog w) A (raiseStmt env (some xs) none) Q E s:=by
 obtain ⟨nm,q,N,bs,bm,sn,sub,ab,col,dd,k0,k1,k2,k3,k5,lk,tl⟩:=Z.lk
 unfold raiseStmt
 refine wpAny_bind (wpAny_mono h (fun v s1 z=>?_) fun _ _ z=>z)
 obtain ⟨y,o,fs,rfl,X,gy,cy,fy,f1,hE⟩:=z
 obtain ⟨hp,g,d,tk,os⟩:=s1
 have kC:=X _ _ lk
 have T:=PySem.W.tail_of_in X tl
 have cB:(Value.ref C::bm).contains (.type "BaseException")=true:=by rw [List.contains_cons,T.hasType PySem.F.excBase_ValueError.hasBase,Bool.or_true]
 obtain ⟨oc,od,odt,osl⟩:=o
 dsimp only at cy fy
 subst cy fy
 repeat (first | (with_reducible refine wpAny_loadPart_at gy ?_) | (with_reducible refine wpAny_loadPart_at kC ?_) | (with_reducible refine wpAny_isSubtype_exc kC ?_;rw [cB]) | wp_step)
 rw [f1]
 refine wpAny_pure ?_
 rw [if_neg (by decide)]
 exact wpAny_pure (wpAny_raiseNew_none hh hE)
end
def zkS (C:Addr) (nm:Str):Sp:=fun vs H Q _=>∃ y v,vs=[.ref y,v]∧H y=some (zot y C)∧∀ dx,H dx=none→dx≠y→Q .non (upd (upd H y (zoo y C dx)) dx (.xd [(nm,v)]))
def zcb (C:Addr) (nm:Str) (E:XK) (t:TA):TS:=fun _ σ H=>t σ H fun vs H1=>∃ v,vs=[v]∧∀ dx,H1 dx=none→E (.ref C) (some dx) (upd H1 dx (.xd [(nm,v)]))
theorem zkV {H:Hp} {y dx:Addr} {o u:HO} (h:H y=none) (n:dx≠y):zeg (upd (upd H y o) dx u) y=upd H dx u:=by
 funext b
 unfold zeg upd
 by_cases e:b=y
 ·rw [if_pos e,if_neg (by rw [e];exact n.symm),e,h]
 ·rw [if_neg e]
  by_cases e2:b=dx
  ·rw [if_pos e2,if_pos e2]
  ·rw [if_neg e2,if_neg e,if_neg e2]
theorem zc4 {X:Cx} {CX:CXT} {k:Nat} {C f:Addr} {fd:FuncData} {ps:List Str} {nm x:Str} {E:XK} {np cpos pos:Pos} {e:Expr} {es:List Expr} {t:TA} (Z:ExI X.K C f) (F:zc8 X.prog X.w X.K X.mg X.base CX k f fd ps (zkS C nm)) (hr:zek (k+1) X.A) (hg:Gl X x) (hm:X.mg x=some (.ref C))
  (hb:zbI X.K fd ps []) (hx:zf2 CX X E0) (hc:X.calm=true) (hT:zlD X E) (ha:PA X (e::es) t) (hdb:(x == ("__debug__":Str))=false:=by decide) (he:starEach (e::es) X.env=(false,eval e X.env)::starEach es X.env:=by rfl) (hpl:(backTo cpos (starEach es X.env)).any (·.1)=false:=by rfl) :
  PS X (.Raise (some (.Call (.Name x np) (e::es) [] cpos)) none pos) (zcb C nm E t):=by
 intro pins s σ H D I h
 rw [arm_exec_Raise]
 refine wpAny_bind (wpAny_standAt (zph Z (I.ok.hd hc) (wpAny_bind (wpAny_mono (Q:=fun v s1=>∃ y o fs,v=.ref y∧X.K.In s1.heap∧s1.heap.get? y=some o∧o.cls=.ref C∧o.data=.fields fs∧fs[1]?=some .none∧X.xe (.ref y) s1) ?_ (fun v s3 h3=>wpAny_bind (wpAny_standAt (wpAny_pure h3))) fun _ _ z=>z))))
 refine wpAny_Call_Name_kw (zdK I hg hm ?_ hdb)
 refine PySem.W.callWith_K (h₀:=X.base) I.ok.mod.kin Z.kp (thn (ha cpos pins s σ H _ I h) fun us s1 ⟨vs,H1,I1,r,v,e1,q⟩=>⟨I1.kIn,?_⟩) he hpl
 subst e1
 obtain ⟨u,rfl,ru⟩:=zfc r
 refine thn (zpz (Q:=fun z H2=>∃ y dx,z=.ref y∧X.s₀.heap.get? y=none∧H2 y=some (zoo y C dx)∧E (.ref C) (some dx) (zeg H2 y)) Z F hr hb hx I1 r (by show 1≤sizeLine;decide) fun y hy n0=>?_) fun z s2 ⟨v2,H2,I2,rz,y,dx,ev,n0,hy,hE⟩=>?_
 ·refine ⟨y,v,rfl,zad,fun dx hd nd=>⟨rfl,y,dx,rfl,n0,?_,?_⟩⟩
  ·rw [zal nd.symm,zad]
  ·rw [zli] 
   have hd1:H1 dx=none:=by rw [zal nd] at hd;exact hd
   rw [zkV hy nd]
   exact q dx hd1
 ·subst ev
  obtain rfl:z=Value.ref y:=rz
  obtain ⟨⟨oy,t0,gy,cy,dy,fy⟩,_⟩:=(I2.hok y _ hy:zbS X.prog X.w H2 s2.heap y (zoo y C dx))
  exact ⟨y,oy,_,rfl,I2.kIn,gy,cy,fy,rfl,hT pins σ H2 s2 y C dx I2 hy n0 hE⟩
theorem Fun.okV {P:Program} {w:World} {K:PySem.W.Frag} {mg:Str→Option Value} {base:Heap} {x qual:Str} {st:Stmt} {f:Addr} {fd:FuncData} {N ps:List Str} {k:Nat} {sp:Sp} (F:Fun K x qual st f fd) (S:zaK N ps (zam st)) (len:∀ vs H Q E,sp vs H Q E→vs.length=ps.length)
  (hbody:∀ (cdv:Value) (A:Around) (outer:List Env) (s:Shared) (H:Hp) (vs:List V) (Q:VK) (E:XK),zek k (A.deeper (envOfC qual (zam st) s.heap.objs.size f cdv))→sp vs H Q E →
   ∃ t,PSs (zk7 (CXV P w) P w K mg base N qual (zam st) f cdv A outer s H E) (zca st) t∧t { nx:=fun _ H'=>Q .non H',rt:=Q } (L2.zbA N vs) H):zc8 P w K mg base (CXV P w) (k+1) f fd ps sp:=by
 obtain ⟨oc,od,kV,doc,pm,an,cdv,ct,osl,rfl,lk,hcd⟩:=F.ex
 exact zqX lk hcd S len fun A outer s H vs Q E hr hsp=>hbody cdv A outer s H vs Q E hr hsp
def zmB (a:Addr) (c:Value) (od:Option Addr) (h:Heap):Prop:=∃ oe vs,h.get? a=some oe∧oe.cls=c∧oe.data=.fields vs∧oe.dict=od
def zfw (a:Addr) (c:Value) (od:Option Addr):HO:=.ext (zmB a c od)
theorem zmB.is {a:Addr} {c:Value} {od:Option Addr} {h:Heap} (x:zmB a c od h):zt2 a c h:=let ⟨oe,vs,e1,e2,e3,_⟩:=x;⟨oe,vs,e1,e2,e3⟩
def ztY (K:PySem.W.Frag) (tb:(St→XK)→TS) (D:Value) (i:Nat) (th:TS):TS:=fun d σ H =>
 tb (fun σ' c od H'=>ziE K c∧PySem.W.subIn K c D=some true∧∀ a,H' a=none→th { d with nx:=fun σ2 H2=>d.nx (σ2.set i none) H2,bk:=fun σ2 H2=>d.bk (σ2.set i none) H2,ct:=fun σ2 H2=>d.ct (σ2.set i none) H2 } (σ'.set i (some (.ref a))) (upd H' a (zfw a c od))) d σ H
def Cx.inTryV (X:Cx) (pins:List (Addr×Obj)) (E:St→XK):Cx:={ X with
 pn:=X.pn++pins
 xe:=fun e s'=>∃ pins' σ H s,Inv { X with pn:=X.pn++pins } pins' σ H s∧CXV X.prog X.w X.stack H s (E σ) e s' }
theorem Inv.toTryV {X:Cx} {pins:List (Addr×Obj)} {σ:St} {H:Hp} {s:Shared} (I:Inv X pins σ H s) (E:St→XK):Inv (X.inTryV pins E) [] σ H s :=
 ⟨I.ok.pinned _ _,I.os,I.bare,I.base,I.loc,I.cell,I.free,I.freeC,fun p hp=>I.pin p (by rw [List.append_nil] at hp;exact hp),I.hok,I.len⟩
theorem zsM {X:Cx} {pins:List (Addr×Obj)} {E:St→XK}:zjw (CXV X.prog X.w) (X.inTryV pins E) E:=fun pins' σ H s e s' I h =>
 ⟨pins',σ,H,s,⟨I.ok.pinned _ _,I.os,I.bare,I.base,I.loc,I.cell,I.free,I.freeC,I.pin,I.hok,I.len⟩,h⟩
theorem SP.ofTryV {X:Cx} {pins pins':List (Addr×Obj)} {E:St→XK} {D:zce} {f:Flow} {s':Shared} (ok:X.Ok) (h:SP (X.inTryV pins E) pins' D f s'):SP X pins D f s':=by
 cases f with
 | next=>obtain ⟨σ',H',I,q⟩:=h;exact ⟨σ',H',I.ofTry ok,q⟩
 | brk=>obtain ⟨σ',H',I,q⟩:=h;exact ⟨σ',H',I.ofTry ok,q⟩
 | cont=>obtain ⟨σ',H',I,q⟩:=h;exact ⟨σ',H',I.ofTry ok,q⟩
 | ret u=>obtain ⟨v,σ',H',I,r,q⟩:=h;exact ⟨v,σ',H',I.ofTry ok,r,q⟩
theorem zs8 {X:Cx} {i:Nat} {D:Addr} {x n:Str} {np pos hpos:Pos} {body:List Stmt} {b₀:Stmt} {suite:List Stmt} {tb:(St→XK)→TS} {th:TS} (hm:X.mg x=some (.ref D)) (hq:PySem.W.excIn X.K D zfA "ValueError.__new__"=true)
  (hg:Gl X x) (hN:X.N.Nodup) (hi:X.N[i]?=some n) (hl:X.env.scope.names.lookup n=some .local) (hxe:X.xe=fun _ _=>False) (hst:X.stack=X.env::X.outer) (hfr:X.env.frame=some X.env.locals) (hex:X.ex=[])
  (hb:∀ pins E,PSs (X.inTryV pins E) body (tb E)) (hh:∀ ea,PSs (X.inExc ea) (b₀::suite) th) (hd:(x == ("__debug__":Str))=false:=by decide) :
  PS X (.Try body [.ExceptHandler (some (.Name x np)) (some n) (b₀::suite) hpos] [] [] pos) (ztY X.K tb (.ref D) i th):=by
 intro pins s σ H d I h
 refine wpAny_Try_except (wpAny_mono (hb pins _ [] s σ H d (I.toTryV _) h) (fun f s₁ q=>?_) fun e s₁ q=>?_)
 ·have q':=SP.ofTryV I.ok q
  cases f with
  | next=>exact wpAny_execs_nil q'
  | brk=>exact q'
  | cont=>exact q'
  | ret u=>exact q'
 obtain ⟨pins',σ',H1,s1,I1,ea,B,cls,a0,H',od,rfl,x,dd⟩:=q
 replace I1:Inv X pins σ' H1 s1:=Inv.ofTry (xe:=X.xe) I1 I.ok
 obtain ⟨hec,hsub,hth⟩:=x.want
 have fly:=x.fly
 rw [hst] at fly
 have ff:=x.fly.2.2.1
 have hfrm:X.A.frames=some (X.env::X.outer):=by rw [← hst];exact I.ok.frames
 refine ziC (zgS _ _) dd (wpAny_looks_onW (base:=B) (L:=X.env.locals) hfrm hfr fly fun h4 hd4 sm4 d4=>?_)
 refine ziC (zeR _ _) d4 (wpAny_landsW hd4 fun h5 fl5 sm5 d5=>?_)
 have invAt:∀ {h:Heap} {tk:Nat},B.StaysIn h→s₁.heap.UpToSlots h→Inv X pins σ' H' { s₁ with heap:=h,toks:=tk }:=fun {h tk} st sm=>by
  obtain ⟨un,hok⟩:=x.later st sm ff
  exact I1.call' (ch:=[]) x.os un hok x.bare fun b z=>nomatch z
 have I5:Inv X pins σ' H' { s₁ with heap:=h5 }:=invAt (tk:=s₁.toks) fl5.1 (sm4.trans sm5)
 have fmark:(X.A.mark (some (.ref ea))).frames=some X.stack:=I.ok.frames
 refine wpAny_handleBy_cons (codeAny_handlers_test ?_) (by intro q;cases q)
 refine zdK (X:=X.inExc ea) (I5.toExc fmark) hg hm ?_ hd
 have kin5:=I5.kIn
 obtain ⟨oe,hoe,hcls⟩:=fl5.there
 refine zih (cls:=cls) hoe hcls (zpa kin5 hq) (PySem.W.looks_subIn kin5 hsub) ?_
 refine codeAny_handlers_suite_as ?_
 refine ziC (zeR _ _) d5 (lands_againW fl5 fun h6 fl6 sm6 d6=>?_)
 have I6:Inv X pins σ' H' { s₁ with heap:=h6 }:=invAt (tk:=s₁.toks) fl6.1 ((sm4.trans sm5).trans sm6)
 have noat:∀ b o,s1.heap.get? b=some o→b≠ea:=fun b o e z=>by rw [z,x.new] at e;cases e
 have n0:X.s₀.heap.get? ea=none:=by
  cases q:X.s₀.heap.get? ea with
  | none=>rfl
  | some o =>
   obtain ⟨o',e1⟩:=I1.base.there ea o q (by rw [hex];intro z;cases z)
   exact absurd rfl (noat ea o' e1)
 have nL:ea≠X.env.locals:=by
  obtain ⟨m,⟨o,_,_,e,_⟩,_⟩:=I1.loc
  exact (noat _ o e).symm
 have nC:∀ y c,X.env.cells.lookup y=some c→c≠ea:=fun y c e=>by
  obtain ⟨v,z⟩:=I1.cell y c e
  obtain ⟨o,e1,_⟩:=z
  exact noat c o e1
 have nP:∀ p∈X.pn++pins,p.1≠ea:=fun p hp=>noat _ _ (I1.pin p hp).1
 have isx:zmB ea cls od h6:=by
  obtain ⟨_,_,_,oe,vs,_,_,_,he,hc,hd,_⟩:=fl6
  obtain ⟨o',e',ed⟩:=d6
  rw [he] at e'
  cases e'
  exact ⟨oe,vs,he,hc.1,hd,ed⟩
 have I7:=I6.track (o:=zfw ea cls od) x.free n0 nL nC nP ⟨isx,by obtain ⟨oe,_,he,_⟩:=isx;exact ⟨oe,he⟩,fun h1 h2 ⟨oe,vs,he,r⟩ k=>⟨oe,vs,k oe he,r⟩⟩
 refine zgi (X:=X.inExc ea) (v:=.ref ea) (I7.toExc fmark) hN hi (.inl hl) rfl (fun s8 I8=>?_) (.inr hl)
 refine wpAny_mono (hh ea pins s8 _ _ _ I8 (hth ea x.free)) (fun f s9 q=>?_) fun e s9 q=>?_
 ·cases f with
  | next =>
   obtain ⟨σ9,H9,I9,r⟩:=q
   exact ziQ (I9.ofExc I.ok) hN hi hl fun s10 I10=>⟨_,_,I10,r⟩
  | brk =>
   obtain ⟨σ9,H9,I9,r⟩:=q
   exact ziQ (I9.ofExc I.ok) hN hi hl fun s10 I10=>⟨_,_,I10,r⟩
  | cont =>
   obtain ⟨σ9,H9,I9,r⟩:=q
   exact ziQ (I9.ofExc I.ok) hN hi hl fun s10 I10=>⟨_,_,I10,r⟩
  | ret u =>
   obtain ⟨v,σ9,H9,I9,rv,r⟩:=q
   exact ziQ (I9.ofExc I.ok) hN hi hl fun s10 I10=>⟨v,_,_,I10,rv,r⟩
 ·rw [show (X.inExc ea).xe=X.xe from rfl,hxe] at q
  exact q.elim
section
open Builtin Builtin.ObjectAttr PySem.W
variable {K:PySem.W.Frag} {prog:Program} {w:World} {A:Around} {E:Value→Shared→Prop} {h:Heap} {g:Array GenState} {d:Drawn} {t:Nat} {os:OsState} {a C dx:Addr}
theorem zkF {f:Str} {tk:Tok} {v:Value} {o:Obj} {od:Option Obj} {Q:Fin→Shared→Prop} (X:K.In h) (J:PySem.W.InstAt h a o C od) (hf:PySem.W.findObj K C od f=some (.value v)) (hq:Q (.done (.ret v)) ⟨h,g,d,t,os⟩) :
  wpAny (model prog w) A (Builtin.«object.__getattribute__» ⟨[.ref a,.str f tk],[]⟩) Q E ⟨h,g,d,t,os⟩:=by
 have L0:=J.type (M:=model prog w)
 have L1:=PySem.W.looks_find (M:=model prog w) X J hf
 refine wpAny_bind (wpAny_pure (wpAny_bind (wpAny_pure (wpAny_bind (L0.at (wpAny_bind (L1.at ?_)))))))
 exact wpAny_pure hq
theorem ztA {f:Str} {v:Value} {b:Bool} {o:Obj} {od:Option Obj} {Q:Value→Shared→Prop} (X:K.In h) (Z:zdf K C) (J:PySem.W.InstAt h a o C od) (hf:PySem.W.findObj K C od f=some (.value v)) (hv:PySem.W.handedIn v=true) (hq:Q v ⟨h,g,d,t+1,os⟩) :
  wpAny (model prog w) A (getAttr (.ref a) f b) Q E ⟨h,g,d,t,os⟩:=by
 have FB:=PySem.F.attrBase_ValueError
 have LG:=PySem.W.looks_findIn (M:=model prog w) X Z.ga
 have LN:=PySem.W.looks_findIn (M:=model prog w) X Z.gn
 have hx:=J.at_
 have hc:=J.cls
 have f3:=FB.ga.bind (.ref a)
 have n2:(Value.builtin "BaseException.__getattribute__" == Value.builtin "object.__getattribute__")=false:=by decide +kernel
 have n1:(onTheHeap (Value.ref C)&&(Value.builtin "BaseException.__getattribute__" == Value.builtin "object.__getattribute__"))=false:=by rw [n2];rfl
 unfold getAttr
 repeat (any_goals (first | assumption | (with_reducible refine wpAny_loadPart_at hx ?_;rw [hc]) | with_reducible refine LG.at ?_ | with_reducible refine LN.at ?_ | wp_step))
 rw [show (b&&onTheHeap (Value.builtin "BaseException.__getattribute__"))=false from Bool.and_false _,if_neg Bool.false_ne_true]
 repeat (any_goals (first | assumption | wp_step))
 refine codeAny_call_builtin FB.ga.plain F.entry_bexc_ga (zgW X Z hx hc (zkF X J hf ?_))
 show wpAny _ _ (handedOut v) _ _ _
 rw [PySem.W.handedOut_of hv]
 exact wpAny_pure hq
end
structure zif (K:PySem.W.Frag) (C:Addr) (f:Str):Prop where
 five:zdf K C
 hd:PySem.W.hasDictIn K C=true
 na:PySem.W.findIn K (.ref C) f=some none
def zgk (K:PySem.W.Frag) (ta:TE) (f:Str):TE:=fun σ H Q=>ta σ H fun x H1=>∃ a C dx fs v,x=.ref a∧H1 a=some (zfw a (.ref C) (some dx))∧H1 dx=some (.xd fs)∧zif K C f∧fs.lookup f=some v∧Q v H1
def zbZ (K:PySem.W.Frag):List V→Hp→VK→Prop:=fun xs H Q=>∃ a c cv od dv b,xs=[.ref a,c]∧clsV c=some dv∧H a=some (zfw a cv od)∧ziE K cv∧PySem.W.kitOne K cv dv=some b∧Q (.bl b) H
section
variable {X:Cx} {e:Expr} {f:Str} {pos:Pos} {ta:TE}
theorem zgC (he:PE X e ta) (hb:attributeBase e f X.env (eval e X.env)=eval e X.env):PE X (.Attribute e f pos) (zgk X.K ta f):=by
 intro pins s σ H Q I h
 refine zuo hb (thn (he pins s σ H _ I h) fun u s1 hQ'=>?_)
 obtain ⟨x,H1,I1,rx,a,C,dx,fs,v,ex,ea,ed,Z,l,q⟩:=hQ'
 subst ex
 obtain rfl:u=Value.ref a:=rx
 obtain ⟨⟨oe,vs,ge,ce,fe,de⟩,_⟩:=(I1.hok a _ ea:zbS X.prog X.w H1 s1.heap a (zfw a (.ref C) (some dx)))
 obtain ⟨mA,ns,r⟩:=(I1.hok dx _ ed:zbS X.prog X.w H1 s1.heap dx (.xd fs))
 obtain ⟨u,hu,ru⟩:=zpq.some_of (v:=v) (o:=mA f) (by rw [← l];exact r f)
 obtain ⟨oD,gD,lD⟩:=zkm ns
 have J:PySem.W.InstAt s1.heap a oe C (some oD):=⟨ge,ce,by unfold PySem.W.notCls;rw [fe],by rw [de];exact gD⟩
 have I2:=I1.tok (s1.toks+1)
 obtain ⟨hh,g,d,t,os⟩:=s1
 exact ztA I1.kIn Z.five J (PySem.W.findObj_own Z.hd Z.na rfl (by rw [lD,hu])) (zqk ru) ⟨v,H1,I2,ru,q⟩
theorem zaI:zfb X (.builtin "isinstance") (zbZ X.K):=by
 intro pins s σ H xs us Q I r h
 obtain ⟨a,c,cv,od,dv,b,rfl,hc,ha,k,e,q⟩:=h
 obtain ⟨u,w',rfl,rx,rw'⟩:=zoe r
 obtain rfl:=zmx rw' hc
 cases (show u=Value.ref a from rx)
 obtain ⟨p,_,_⟩:=(show zbS X.prog X.w H s.heap a (zfw a cv od) from I.hok a _ ha)
 exact PySem.W.kia_one (k.kit a) I.kIn p.is e (fun z=>nomatch z) fun tk=>⟨.bl b,H,I.tok tk,rfl,q⟩
end
theorem zns {K:PySem.W.Frag} {C fI:Addr} (Z:zdf K C) (ZI:ExI K C fI):ziE K (.ref C):=by
 obtain ⟨nm,q,N,bs,bm,sn,sub,ab,col,dd,k0,k1,k2,k3,k5,lk,tl⟩:=ZI.lk
 exact ⟨fun x=>{
  ty:=fun M h _ p=>by
   obtain ⟨oe,vs,e,c,_⟩:=p
   exact c ▸ (PySem.W.Looks.ld e).andThen .now
  it:=fun M h X _=>by
   have hC:=X _ _ lk
   intro A' Q' E' s' k q
   unfold isType loadHead
   exact wpAny_bind (wpAny_loadPart (k _ _ hC) (wpAny_pure q))
  ne:=fun h tp dd its n sl X htp=>by
   have hC:=X _ _ lk
   refine Bool.eq_false_iff.mpr fun q=>?_
   have e:C=tp:=Value.ref.inj (beq_iff_eq.mp q)
   subst e
   rw [hC] at htp
   have z:=congrArg Obj.data (Option.some.inj htp)
   exact nomatch z
  ca:=fun {prog w A E Q s} X p q=>by
   obtain ⟨h,g,d,t,os⟩:=s
   obtain ⟨oe,vs,e,c,_⟩:=p
   exact zlk X Z PySem.F.attrBase_ValueError e c q }⟩
theorem zlc {K:PySem.W.Frag} {C fI:Addr} {nm:Str} {H:Hp} {Q:VK} {y:Addr} {v:V} (Z:ExI K C fI) (na:PySem.W.findIn K (.ref C) nm=some none) (hy:H y=some (zot y C)) (q:∀ dx,H dx=none→dx≠y→Q .non (upd (upd H y (zoo y C dx)) dx (.xd [(nm,v)]))) :
  (zaz (zc7 (tBI K (zab (zac 0) (zab (zac 1) zak)))) (zuK K (zac 0) (zac 1) nm)) { nx:=fun _ H'=>Q .non H',rt:=Q } [some (.ref y),some v] H:=by
 simp only [zaz,zc7,tBI,zab,zak,zac,zuK,List.getElem?_cons_zero,List.getElem?_cons_succ,Option.some.injEq,exists_eq_left']
 exact ⟨y,v,C,rfl,hy,⟨_,Z⟩,y,C,rfl,hy,⟨_,Z⟩,na,q⟩
def zpL:Stmt→List Stmt
 | .ClassDef _ _ _ b _ _ _ _ _ _ _=>b
 | _=>[]
theorem zww {us:List Value} (h:us.length=2):∃ x y,us=[x,y]:=match us,h with | [x,y],_=>⟨x,y,rfl⟩
end L2
namespace L2
open PySem PySem.Spec PyProof.Rows
def zqz (fs:List (Addr×Sp)) (E:St→XK) (tf:TE) (t:TA):TE:=fun σ H Q=>tf σ H fun x H1=>∃ p∈fs,x=.ref p.1∧t σ H1 fun vs H2=>p.2 vs H2 Q (E σ)
section
variable {X:Cx} {CX:CXT} {k:Nat} {f:Addr} {fd:FuncData} {ps:List Str} {sp:Sp} {E:St→XK} {pos:Pos} {fe e:Expr} {es:List Expr} {tf:TE} {t:TA}
def zu1 (X:Cx) (E:St→XK) (f:Addr) (sp:Sp):Prop:=PySem.W.keepIn X.K (.ref f)=true∧∀ (pins:List (Addr×Obj)) (σ:St) (H:Hp) (s:Shared) (Q:VK) (us:List Value) (vs:List V),Inv X pins σ H s→zbY vs us→sp vs H Q (E σ) →
 wpAny (model X.prog X.w) X.A (call (.ref f) us) (EP X pins σ Q) X.xe s
theorem zs4 (F:zc8 X.prog X.w X.K X.mg X.base CX k f fd ps sp) (hr:zek k X.A) (hk:PySem.W.keepIn X.K (.ref f)=true) (hb:zbI X.K fd ps []) (hx:zjw CX X E):zu1 X E f sp:=by
 refine ⟨hk,fun pins σ H s Q us vs I r q=>?_⟩
 have hl:us.length=ps.length:=by rw [← r.length];exact F.len _ _ _ _ q
 refine wpAny_call (codeAny_mono (F.run X.A X.stack s H ⟨us,[]⟩ us vs Q (E σ) hr I.env0 (by have:=hb s us I.kIn (by rw [List.append_nil];exact hl);rw [List.append_nil] at this;exact this) r q) fun res s' hq=>?_)
 cases res with
 | error e=>exact hx pins σ H s e s' I hq
 | ok fl =>
  cases fl with
  | ret u=>exact I.after hq
  | next=>exact False.elim hq
  | brk=>exact False.elim hq
  | cont=>exact False.elim hq
theorem zsb:∀ p∈([]:List (Addr×Sp)),zu1 X E p.1 p.2:=fun _ h=>nomatch h
theorem zku {fs:List (Addr×Sp)} (h:zu1 X E f sp) (hs:∀ p∈fs,zu1 X E p.1 p.2):∀ p∈(f,sp)::fs,zu1 X E p.1 p.2:=fun p hp=>by
 rcases List.mem_cons.mp hp with rfl | hp
 ·exact h
 ·exact hs p hp
theorem zr6 {fs:List (Addr×Sp)} (hf:PE X fe tf) (hc:∀ p∈fs,zu1 X E p.1 p.2) (ha:PA X (e::es) t)
  (arm:eval (.Call fe (e::es) [] pos) X.env=(do callWith pos (← eval fe X.env) [] (backTo pos (starEach (e::es) X.env)) []):=by rfl)
  (he:starEach (e::es) X.env=(false,eval e X.env)::starEach es X.env:=by rfl) (hpl:(backTo pos (starEach es X.env)).any (·.1)=false:=by rfl) :
  PE X (.Call fe (e::es) [] pos) (zqz fs E tf t):=by
 intro pins s σ H Q I h
 rw [arm]
 refine wpAny_bind (thn (hf pins s σ H _ I h) fun u s1 hQ'=>?_)
 obtain ⟨x,H1,I1,rx,p,hp,ex,q⟩:=hQ'
 subst ex
 obtain rfl:u=Value.ref p.1:=rx
 obtain ⟨hk,run⟩:=hc p hp
 exact PySem.W.callWith_K (h₀:=X.base) I.ok.mod.kin hk (thn (ha pos pins s1 σ H1 _ I1 q) fun us s2 ⟨vs,H2,I2,r,q2⟩=>⟨I2.kIn,run pins σ H2 s2 Q us vs I2 r q2⟩) he hpl
end
end L2
namespace L2
open PySem PySem.Spec PyProof.Rows
def zld (P:Program) (w:World) (K:PySem.W.Frag) (mg:Str→Option Value) (base:Heap) (N:List Str) (qual:Str) (scope:Scope) (f:Addr) (cd:Value) (cl:List (Str×Addr)) (A:Around) (outer:List Env) (s:Shared) (H:Hp):Cx where
 prog:=P
 w:=w
 K:=K
 mg:=mg
 base:=base
 A:=A.deeper (PySem.W.envX qual scope s.heap.objs.size f cd cl)
 N:=N
 s₀:=s
 H₀:=H
 env:=PySem.W.envX qual scope s.heap.objs.size f cd cl
 outer:=outer
 stack:=PySem.W.envX qual scope s.heap.objs.size f cd cl::outer
 ex:=[]
 calm:=true
 fn:=fun y=>(cl.lookup y).isNone
 pn:=[]
 xe:=fun _ _=>False
structure zrR (H:Hp) (h:Heap) (sc:Scope) (cl:List (Str×Addr)) (Ns:List Str) (vs:List V):Prop where
 len:vs.length=Ns.length
 at':∀ (i:Nat) (y:Str),Ns[i]?=some y→∃ c uy vy,cl.lookup y=some c∧sc.names.lookup y=some .free∧h.IsCell c (some uy)∧vs[i]?=some vy∧zcs vy uy
 has:∀ y,sc.names.lookup y=some .free→∃ c,cl.lookup y=some c
 cel:∀ y c,cl.lookup y=some c→H c=none∧∃ v,h.IsCell c v
 inj:∀ y z c,cl.lookup y=some c→cl.lookup z=some c→y=z
def Bar (P:Addr) (H H':Hp):Prop:=∀ b o,b≠P→H b=some o→H' b=some o
def zct (H:Hp) (P:Addr) (pos:Pos) (qual:Str):Prop:=H P=some (.tbl #[]) ∨
 ∃ (c':Addr) (oc:Obj) (vs:Array Value) (t:Nat),c'≠P∧H P=some (.tbl #[rawInt pos.line,rawInt pos.col,.ref c'])∧H c'=some (.frz oc (.own c'))∧oc.data=.fields vs∧vs[1]?=some (.str qual t)
section
variable {X:Cx} {pins:List (Addr×Obj)} {σ:St} {H:Hp} {s:Shared} {c P:Addr} {pos:Pos} {qual:Str} {params:Arguments} {body:Expr} {scope:Scope} {clos:List (Str×Addr)} {Q:Value→Shared→Prop} {E:Value→Shared→Prop}
theorem zun {ps ps':Array Value} {h h':Heap} {Pg:Program} {w:World} {c':Addr} {oc:Obj} (ok:HOk Pg w H h) (hP:H P=some (.tbl ps)) (hc:H c'=none) (hx:∀ b o,b≠P→h.get? b=some o→h'.get? b=some o)
  (e1:h'.get? P=some { cls:=.none,data:=.fields ps' }) (e2:h'.get? c'=some oc):HOk Pg w (upd (upd H P (.tbl ps')) c' (.frz oc (.own c'))) h':=by
 have ncP:c'≠P:=fun z=>by rw [z,hP] at hc;cases hc
 intro b u e
 by_cases q:b=c'
 ·subst q
  rw [zad] at e
  cases e
  exact ⟨e2,oc,e2⟩
 ·rw [zal q] at e
  by_cases q2:b=P
  ·subst q2
   rw [zad] at e
   cases e
   exact e1
  ·rw [zal q2] at e
   refine (ok b u e).stay (fun d v hd r=>hx d v (fun z=>?_) r) (fun d r=>?_) fun d xs r=>?_
   ·rcases hd with rfl | hd
    ·exact q2 z
    ·rw [z,hP] at hd;cases hd
   ·rw [zal (fun z=>by rw [z,hc] at r;cases r),zal (fun z=>by rw [z,hP] at r;cases r)];exact r
   ·rw [zal (fun z=>by rw [z,hc] at r;cases r),zal (fun z=>by rw [z,hP] at r;cases r)];exact r
theorem zvY {ps more:Array Value} {fs ex:List Addr} {h h':Heap} {c':Addr} {oc:Obj} (hP:H P=some (.tbl ps)) (hc:H c'=none) (hf:h.objs.size≤c') (hx:∀ b o,b≠P→h.get? b=some o→h'.get? b=some o) (hPt:∃ o,h'.get? P=some o) :
  Un fs ex H (upd (upd H P (.tbl (ps++more))) c' (.frz oc (.own c'))) h h':=by
 have nP:∀ b,H b=none→b≠P:=fun b n z=>by rw [z,hP] at n;cases n
 have nc:∀ b u,H b=some u→b≠c':=fun b u e z=>by rw [z,hc] at e;cases e
 refine ⟨fun b o q n _ _=>hx b o (nP b n) q,fun b o q n _ _=>⟨o.slots,hx b o (nP b n) q⟩,fun b o q n _=>?_,fun b o q _=>?_,fun b xs q=>?_,fun b o u q=>?_,fun b ps' q=>?_⟩
 ·rw [zal (Nat.ne_of_lt (Nat.lt_of_lt_of_le (Heap.lt_size q) hf)),zal (nP b n)];exact n
 ·by_cases z:b=P
  ·rw [z];exact hPt
  ·exact ⟨o,hx b o z q⟩
 ·rw [zal (nc b _ q),zal (fun z=>by rw [z,hP] at q;cases q)];exact q
 ·rw [zal (nc b _ q),zal (fun z=>by rw [z,hP] at q;cases q)];exact q
 ·rw [zal (nc b _ q)]
  by_cases z:b=P
  ·subst z
   rw [hP] at q
   cases q
   exact ⟨more,zad⟩
  ·rw [zal z]
   exact ⟨#[],by rw [q];simp⟩
theorem zmJ (I:Inv X pins σ H s) (hcode:X.env.code=.ref c) (C:PySem.W.CodeHd X.base c P) (hB:X.base.BuiltinsAt X.mg P) (hL:zct H P pos qual) (hcl:closureFor scope X.env=pure clos) (hdef:defaultsOf params X.env=([],[]))
  (hq:X.env.qual++"<lambda>"=qual)
  (h:∀ (q c':Addr) (pm ctv:Value) (H':Hp) (s':Shared) (oc:Obj) (vs:Array Value) (t:Nat),Inv X pins σ H' s'→Bar P H H'→zct H' P pos qual→s'.heap.get? q=some (PySem.W.kla_obj "<lambda>" qual params body scope clos pm c' ctv) →
   H' c'=some (.frz oc (.own c'))→oc.data=.fields vs→vs[1]?=some (.str qual t)→zl4 X pins H' q→Q (.ref q) s') :
  wpAny (model X.prog X.w) X.A (eval (.Lambda params body scope pos) X.env) Q E s:=by
 have hg:s.heap.Ns mainGlobals X.mg:=I.ok.mod.glob.keeps I.bk
 have C':=C.keeps I.bk
 obtain ⟨bm,ob,b1,b2,b3,b4,b5,b6⟩:=hB
 have hgP:∀ ps,H P=some (.tbl ps)→mainGlobals≠P:=fun ps hP z=>by
  have e:=I.hok P _ hP
  obtain ⟨o,es,ep,e',d,_⟩:=hg
  rw [z] at e'
  have e:s.heap.get? P=some { cls:=.none,data:=.fields ps }:=e
  rw [e'] at e
  cases e
  cases d
 refine PySem.W.kla_eval hdef ?_
 rw [hq]
 rcases hL with hP | ⟨c',oc,vs,t,ne,hP,hc,hd,hv⟩
 ·refine PySem.W.kla_makeFunction (mg:=X.mg) (ps:=#[]) hcl I.ok.glob hg hcode C' (I.hok P _ hP) trivial rfl (hgP _ hP) ⟨bm,ob,b1,b2,b3,b4,I.bk _ _ b5,b6⟩ fun c' ctv h' tk hx hge hlt hrec htb=>?_
  obtain ⟨c₂,oc,vs,t,e2,hoc,hd,hv⟩:=hrec
  cases e2
  have hcn:H c'=none:=I.hok.fresh hge
  have hx':∀ b o,b≠P→s.heap.get? b=some o→(h'.push (PySem.W.kla_obj "<lambda>" qual params body scope clos ((X.mg "__name__").getD .none) c' ctv)).get? b=some o:=fun b o q e=>Heap.get?_push_of_some _ (hx b o q e)
  have e1:(h'.push (PySem.W.kla_obj "<lambda>" qual params body scope clos ((X.mg "__name__").getD .none) c' ctv)).get? P=some { cls:=.none,data:=.fields (#[]++#[rawInt pos.line,rawInt pos.col,.ref c']) }:=Heap.get?_push_of_some _ htb
  have e2:(h'.push (PySem.W.kla_obj "<lambda>" qual params body scope clos ((X.mg "__name__").getD .none) c' ctv)).get? c'=some oc:=Heap.get?_push_of_some _ hoc
  have ncP:c'≠P:=fun z=>by rw [z,hP] at hcn;cases hcn
  have J:=I.un (t':=tk) (zvY (more:=#[rawInt pos.line,rawInt pos.col,.ref c']) (oc:=oc) hP hcn hge hx' ⟨_,e1⟩) (zun I.hok hP hcn hx' e1 e2)
  have hsz:s.heap.objs.size≤h'.objs.size:=Nat.le_trans hge (Nat.le_of_lt hlt)
  have nq:H h'.objs.size=none:=I.hok.fresh hsz
  refine h h'.objs.size c' _ ctv _ _ oc vs t J (fun b o nb e=>?_) (.inr ⟨c',oc,vs,t,ncP,?_,zad,hd,hv⟩) (Heap.get?_push_size _ rfl) zad hd hv (I.fpOk hsz ?_)
  ·rw [zal (fun z=>by rw [z,hcn] at e;cases e),zal nb];exact e
  ·rw [zal (Ne.symm ncP),zad];rfl
  ·rw [zal (Nat.ne_of_gt hlt),zal (fun z=>by rw [z,hP] at nq;cases nq)];exact nq
 ·have hf:codeAmong pos (#[rawInt pos.line,rawInt pos.col,Value.ref c']:Array Value).toList=some (.ref c'):=by simp [codeAmong,rawInt]
  refine PySem.W.kla_makeFunctionHit (mg:=X.mg) (ps:=#[rawInt pos.line,rawInt pos.col,.ref c']) hcl I.ok.glob hg hcode C' (I.hok P _ hP) trivial hf ⟨bm,ob,b1,b2,b3,b4,I.bk _ _ b5,b6⟩ fun ctv h' tk hk hsz=>?_
  have J:=I.kept (t':=tk) (h':=h'.push (PySem.W.kla_obj "<lambda>" qual params body scope clos ((X.mg "__name__").getD .none) c' ctv)) fun b u e=>Heap.get?_push_of_some _ (hk b u e)
  exact h h'.objs.size c' _ ctv H _ oc vs t J (fun _ _ _ e=>e) (.inr ⟨c',oc,vs,t,ne,hP,hc,hd,hv⟩) (Heap.get?_push_size _ rfl) hc hd hv (I.fpOk hsz (I.hok.fresh hsz))
end
end L2
namespace L2
open PySem PySem.Spec PyProof.Rows
structure zuY (X:Cx) (sc:Scope) (cl:List (Str×Addr)) (Ns:List Str) (js:List Nat):Prop where
 len:js.length=Ns.length
 at':∀ (i:Nat) (y:Str),Ns[i]?=some y→∃ j c,js[i]?=some j∧X.N[j]?=some y∧X.env.scope.names.lookup y=some .cell∧cl.lookup y=some c∧sc.names.lookup y=some .free
 has:∀ y,sc.names.lookup y=some .free→∃ c,cl.lookup y=some c
 sub:∀ y c,cl.lookup y=some c→X.env.cells.lookup y=some c
theorem zct.tbl {H:Hp} {P:Addr} {pos:Pos} {qual:Str} (h:zct H P pos qual):∃ ps,H P=some (.tbl ps):=by
 rcases h with h | ⟨_,_,_,_,_,h,_⟩ <;> exact ⟨_,h⟩
section
variable {X:Cx} {e body:Expr} {t:TA} {tb:TE} {pos p kp lpos:Pos} {c P:Addr} {params:Arguments} {scope:Scope} {clos:List (Str×Addr)} {qual x:Str} {Ns:List Str} {js:List Nat} {k:Nat}
theorem zuY.taken {pins:List (Addr×Obj)} {σ:St} {H:Hp} {s:Shared} {ws:List V} (C:zuY X scope clos Ns js) (I:Inv X pins σ H s) (hw:js.map (fun j=>σ[j]?)=ws.map (fun w=>some (some w))):zrR H s.heap scope clos Ns ws:=by
 have hl:ws.length=js.length:=by
  have:=congrArg List.length hw
  rw [List.length_map,List.length_map] at this
  exact this.symm
 refine ⟨hl.trans C.len,fun i y hi=>?_,C.has,fun y d hd=>⟨I.freeC y d (C.sub y d hd),I.cell y d (C.sub y d hd)⟩,fun y z d h1 h2=>I.ok.inj y z d (C.sub y d h1) (C.sub z d h2)⟩
 obtain ⟨j,d,e1,e2,e3,e4,e5⟩:=C.at' i y hi
 have g:=congrArg (fun l=>l[i]?) hw
 simp only [List.getElem?_map,e1,Option.map_some] at g
 cases hwi:ws[i]? with
 | none=>rw [hwi] at g;cases g
 | some vy =>
  rw [hwi] at g
  have g:some (σ[j]?)=some (some (some vy)):=g
  have g':σ[j]?=some (some vy):=Option.some.inj g
  obtain ⟨m,_,hlk⟩:=I.loc
  obtain ⟨u,ru,lk⟩:=hlk j y vy e2 g' (.inr (.inl e3))
  rcases lk with ⟨k1,_⟩ | ⟨_,d',f1,f2⟩
  ·have k1:X.env.scope.names.lookup y=some .local:=k1
   rw [e3] at k1
   cases k1
  ·have:=C.sub y d e4
   rw [this] at f1
   cases f1
   exact ⟨d,u,vy,e4,e5,f2,rfl,ru⟩
end
end L2
namespace L2
open PySem PySem.Spec PyProof.Rows
def zbb (P:Addr) (K:PySem.W.Frag):PySem.W.Frag:=K.filter fun x=>x.1 != P
theorem zaM {P b:Addr} (h:b≠P):∀ {K:PySem.W.Frag},(zbb P K).lookup b=K.lookup b
 | []=>rfl
 | (a,o)::K=>by
  unfold zbb
  by_cases q:a=P
  ·rw [List.filter_cons_of_neg (by simpa using q)]
   show (zbb P K).lookup b=_
   rw [zaM h,List.lookup_cons,show (b == a)=false from beq_eq_false_iff_ne.mpr (by rw [q];exact h)]
  ·rw [List.filter_cons_of_pos (by simpa using q),List.lookup_cons,List.lookup_cons]
   show (match b == a with | true=>some o | false=>(zbb P K).lookup b)=_
   rw [zaM h]
   cases b == a <;> rfl
theorem zaw {P:Addr}:∀ {K:PySem.W.Frag},(zbb P K).lookup P=none
 | []=>rfl
 | (a,o)::K=>by
  unfold zbb
  by_cases q:a=P
  ·rw [List.filter_cons_of_neg (by simpa using q)]
   exact zaw (K:=K)
  ·rw [List.filter_cons_of_pos (by simpa using q),List.lookup_cons,show (P == a)=false from beq_eq_false_iff_ne.mpr (Ne.symm q)]
   exact zaw (K:=K)
theorem zpi {P:Addr} {K:PySem.W.Frag} {h:Heap} (KX:K.In h):(zbb P K).In h:=fun b o e=>by
 by_cases q:b=P
 ·rw [q,zaw] at e;cases e
 ·rw [zaM q] at e;exact KX b o e
section
open PySem.W
variable {P:Addr} {K:Frag}
theorem zjb (hP:K.lookup P=some (tabObj #[])) (a:Addr) (x:Str):nsIn (zbb P K) a x=nsIn K a x:=by
 unfold nsIn
 by_cases q:a=P
 ·rw [q,zaw,hP]
 ·rw [zaM q]
theorem zrk (hP:K.lookup P=some (tabObj #[])) (x:Str) (v:Value):ownIn (zbb P K) x v=ownIn K x v:=by
 unfold ownIn
 cases v with
 | ref a =>
  by_cases q:a=P
  ·simp only [q,zaw,hP]
  ·simp only [zaM q,zjb hP]
 | _=>rfl
theorem ziK (hP:K.lookup P=some (tabObj #[])) (x:Str):∀ l:List Value,alongIn (zbb P K) x l=alongIn K x l
 | []=>rfl
 | c::r=>by simp only [alongIn,zrk hP,ziK hP x r]
theorem zb7 (hP:K.lookup P=some (tabObj #[])) (t:Value) (x:Str):findIn (zbb P K) t x=findIn K t x:=by
 unfold findIn
 cases t with
 | ref a =>
  by_cases q:a=P
  ·simp only [q,zaw,hP]
  ·simp only [zaM q,ziK hP]
 | _=>rfl
theorem ziS (hP:K.lookup P=some (tabObj #[])) (C:Addr):clsIn (zbb P K) C=clsIn K C:=by
 unfold clsIn
 by_cases q:C=P
 ·rw [q,zaw,hP]
 ·rw [zaM q]
theorem zdW {a:Addr} (q:a≠P):typeIn (zbb P K) (.ref a)=typeIn K (.ref a):=by
 unfold typeIn
 simp only [zaM q]
theorem zhC (hP:K.lookup P=some (tabObj #[])) (a:Addr):keepIn (zbb P K) (.ref a)=keepIn K (.ref a):=by
 unfold keepIn
 by_cases q:a=P
 ·simp only [q,zaw,hP]
 ·simp only [zaM q,specialIn,zdW q,zb7 hP]
theorem zkX (hP:K.lookup P=some (tabObj #[])) (cd:Value) (x:Str) (h:codeIn K cd x=true):codeIn (zbb P K) cd x=true:=by
 unfold codeIn at h ⊢
 cases cd with
 | ref c =>
  by_cases q:c=P
  ·simp only [q,hP] at h
   cases h
  ·simp only [zaM q]
   exact h
 | _=>exact h
theorem zap (hP:K.lookup P=some (tabObj #[])) {x qual:Str} {st:Stmt} {f:Addr} {fd:FuncData} (F:Fun K x qual st f fd):Fun (zbb P K) x qual st f fd:=by
 obtain ⟨⟨oc,od,kV,doc,pm,an,cdv,ct,osl,e,l,c⟩,k⟩:=F
 have q:f≠P:=fun z=>by rw [z,hP] at l;cases l
 exact ⟨⟨oc,od,kV,doc,pm,an,cdv,ct,osl,e,(zaM q).trans l,zkX hP _ _ c⟩,(zhC hP f).trans k⟩
theorem ztP (hP:K.lookup P=some (tabObj #[])) {f:Addr} (h:isFn K (.ref f)=true):f≠P:=fun z=>by
 have e:typeIn K (.ref f)=some .none:=by
  show (K.lookup f).map (·.cls)=_
  rw [z,hP]
  rfl
 unfold isFn at h
 rw [e] at h
 exact absurd h (by decide)
structure zom (K:Frag) (x qual:Str) (st:Stmt) (f:Addr) (fd:FuncData) (c:Addr):Prop where
 ex:∃ (oc:Value) (od:Option Addr) (kV doc pm:Value) (an:Option Addr) (ct:Value) (osl:Array (Option Value)),
  fd=fnOf x qual (zdu st) (zca st) (zam st) .none kV doc pm an (.ref c) ct∧K.lookup f=some ⟨oc,od,.func fd,osl⟩∧codeIn K (.ref c) qual=true
 kp:keepIn K (.ref f)=true
theorem zqi {x qual:Str} {st:Stmt} {f c:Addr} {oc:Value} {od an:Option Addr} {osl:Array (Option Value)} {kV doc pm ct:Value} (l:K.lookup f=some ⟨oc,od,.func (fnOf x qual (zdu st) (zca st) (zam st) .none kV doc pm an (.ref c) ct),osl⟩)
  (cc:codeIn K (.ref c) qual=true) (k:keepIn K (.ref f)=true):zom K x qual st f (fnOf x qual (zdu st) (zca st) (zam st) .none kV doc pm an (.ref c) ct) c:=⟨⟨oc,od,kV,doc,pm,an,ct,osl,rfl,l,cc⟩,k⟩
theorem zom.fun {x qual:Str} {st:Stmt} {f c:Addr} {fd:FuncData} (F:zom K x qual st f fd c):Fun K x qual st f fd:=by
 obtain ⟨⟨oc,od,kV,doc,pm,an,ct,osl,e,l,cc⟩,k⟩:=F
 exact ⟨⟨oc,od,kV,doc,pm,an,.ref c,ct,osl,e,l,cc⟩,k⟩
theorem zom.drop (hP:K.lookup P=some (tabObj #[])) {x qual:Str} {st:Stmt} {f c:Addr} {fd:FuncData} (F:zom K x qual st f fd c):zom (zbb P K) x qual st f fd c:=by
 obtain ⟨⟨oc,od,kV,doc,pm,an,ct,osl,e,l,cc⟩,k⟩:=F
 have q:f≠P:=fun z=>by rw [z,hP] at l;cases l
 exact ⟨⟨oc,od,kV,doc,pm,an,ct,osl,e,(zaM q).trans l,zkX hP _ _ cc⟩,(zhC hP f).trans k⟩
end
end L2
namespace L2
open PySem PySem.Spec PyProof.Rows
section
variable {X:Cx} {o e value:Expr} {f:Str} {pos pos':Pos} {ta tv:TE} {C:Addr}
end
theorem zuY.one {X:Cx} {sc:Scope} {x:Str} {c:Addr} {j:Nat} (hN:X.N[j]?=some x) (hk:X.env.scope.names.lookup x=some .cell) (hc:X.env.cells.lookup x=some c) (hf:sc.names.lookup x=some .free) (hall:∀ z∈sc.names,z.2=.free→z.1=x) :
  zuY X sc [(x,c)] [x] [j]:=by
 have l1:([(x,c)]:List (Str×Addr)).lookup x=some c:=by simp [List.lookup]
 refine ⟨rfl,fun i y hi=>?_,fun y hy=>?_,fun y d hd=>?_⟩
 ·cases i with
  | zero =>
   have hi:some x=some y:=hi
   cases hi
   exact ⟨j,c,rfl,hN,hk,l1,hf⟩
  | succ i=>cases hi
 ·have:=hall _ (PySem.mem_of_lookup hy) rfl
  have e:y=x:=this
  rw [e]
  exact ⟨c,l1⟩
 ·rw [List.lookup_cons] at hd
  cases q:y == x with
  | true =>
   rw [q] at hd
   cases hd
   rw [beq_iff_eq.mp q]
   exact hc
  | false =>
   rw [q] at hd
   cases hd
theorem zct.same {H H':Hp} {P:Addr} {pos:Pos} {qual:Str} (h:zct H P pos qual) (s:∀ b o,H b=some o→H' b=some o):zct H' P pos qual:=by
 rcases h with h | ⟨c',oc,vs,t,e1,e2,e3,e4⟩
 ·exact .inl (s _ _ h)
 ·exact .inr ⟨c',oc,vs,t,e1,s _ _ e2,s _ _ e3,e4⟩
theorem zct.first {H:Hp} {P:Addr} {pos:Pos} {qual:Str} (h:H P=some (.tbl #[])):zct H P pos qual:=.inl h
theorem zct.new {H:Hp} {P x:Addr} {pos:Pos} {qual:Str} (h:zct H P pos qual) (e:H x=none):x≠P:=fun z=>by
 obtain ⟨u,h⟩:=h.tbl
 rw [z,h] at e
 cases e
theorem zpD {K:PySem.W.Frag} {h:Heap} {c P:Addr} {od:Option Addr} {sl:Array (Option Value)} {v0 v1 v2 v3 v4 v5 v6 v8 v12 v13 v14 v15 v16 v17:Value} {fl tx:Int} {tg tt tf:Tok} {inF:Bool} {file:Str} (X:K.In h)
  (l:K.lookup c=some ⟨.type "code",od,.fields #[v0,v1,v2,v3,v4,v5,v6,.int fl tg,v8,.bool inF,.int tx tt,.ref P,v12,v13,v14,v15,v16,v17,.str file tf],sl⟩) (ne:c≠P):PySem.W.CodeHd h c P :=
 ⟨_,_,_,_,_,_,_,_,_,X _ _ l,rfl,rfl,rfl,rfl,rfl,rfl,rfl,rfl,ne⟩
end L2
namespace L2
open PySem PySem.Spec PyProof.Rows
section
variable {X:Cx}
end
section
open PySem.W
variable {P:Addr} {K:Frag}
theorem zhg (hP:K.lookup P=some (tabObj #[])) (C:Addr) (b:Value):mroIn (zbb P K) C b=mroIn K C b:=by
 unfold mroIn
 rw [ziS hP]
theorem zd9 (hP:K.lookup P=some (tabObj #[])) (t b:Value):subIn (zbb P K) t b=subIn K t b:=by
 unfold subIn
 cases t with
 | ref D=>exact zhg hP D b
 | _=>rfl
theorem zaA (hP:K.lookup P=some (tabObj #[])) (t c:Value):kitOne (zbb P K) t c=kitOne K t c:=by
 unfold kitOne kitCls
 cases c with
 | ref C =>
  simp only [zd9 hP,ziS hP]
  by_cases q:C=P
  ·have e:clsIn K C=none:=by
    unfold clsIn
    rw [q,hP]
   rw [e]
   rfl
  ·rw [zdW q]
 | type T=>simp only [zd9 hP]
 | _=>rfl
theorem zjP (hP:K.lookup P=some (tabObj #[])) (a:Addr):nsOkIn (zbb P K) a=nsOkIn K a:=by
 unfold nsOkIn
 by_cases q:a=P
 ·rw [q,zaw,hP]
 ·rw [zaM q]
theorem zhu (hP:K.lookup P=some (tabObj #[])) (b:List Value):∀ l,tailIn (zbb P K) b l=tailIn K b l
 | []=>rfl
 | v::r=>by
  unfold tailIn
  cases v with
  | ref A =>
   by_cases q:A=P
   ·simp only [q,zaw,hP]
   ·simp only [zaM q,zjP hP,zjb hP,zhu hP b r]
  | _=>rfl
theorem zha (hP:K.lookup P=some (tabObj #[])) (C:Addr) (b:List Value) (n:String):excIn (zbb P K) C b n=excIn K C b n:=by
 unfold excIn
 by_cases q:C=P
 ·rw [q,zaw,hP]
 ·simp only [zaM q,zjP hP,zjb hP,zhu hP]
end
end L2
namespace L2
open PySem PySem.Spec PyProof.Rows
def zbE:R2:=fun x y H Q=>∃ i j:Str,x=.str i∧y=.str j∧i.length+j.length≤sizeLine∧Q (.str (i++j)) H
def rInS:R2:=fun x y H Q=>∃ i j:Str,x=.str i∧y=.str j∧Q (.bl (!(Builtin.Str.occurrences j i 0 j.length 1).isEmpty)) H
def zof:List V→Hp→VK→Prop:=fun xs H Q=>∃ y:Str,xs=[.str y]∧y.length≤sizeLine∧Q (.int y.length) H
def zdX:List V→Hp→VK→Prop:=fun xs H Q=>∃ i:Int,xs=[.int i]∧i.natAbs.log2<1920∧Q (.str (toString i)) H
def zrI:List V→Hp→VK→Prop:=fun xs H Q=>∃ (x:Str) (n:Int),xs=[.str x]∧x.length≤640∧PySem.intText? x=some n∧Q (.int n) H
def zdD:V→List V→Hp→VK→Prop:=fun x vs H Q=>∃ s c:Str,x=.str s∧vs=[.str c]∧1≤c.length∧s.length≤1000000∧∀ p,H p=none→Q (.ref p) (upd H p (.lst ((Txt.split s c).map V.str)))
def zlY:V→List V→Hp→VK→Prop:=fun x vs H Q=>∃ s c:Str,x=.str s∧vs=[.str c]∧1≤c.length∧s.length≤1000000∧∀ p,H p=none→Q (.ref p) (upd H p (.tup [.str (Txt.partition s c).1,.str (Txt.partition s c).2.1,.str (Txt.partition s c).2.2]))
def zjq:V→List V→Hp→VK→Prop:=fun x vs H Q=>∃ s c:Str,x=.str s∧vs=[.str c]∧Q (.bl (Txt.startswith s c)) H
def ziV:V→List V→Hp→VK→Prop:=fun x vs H Q=>∃ s c:Str,x=.str s∧vs=[.str c]∧Q (.int (Txt.count s c)) H
def zg5 (K:PySem.W.Frag):V→List V→Hp→VK→Prop:=fun x vs H Q=>∃ (s:Str) (p:Addr) (ts:List Str),x=.str s∧vs=[.ref p]∧SqL K H p (ts.map V.str)∧(ts.map (·.length)).sum+ts.length*s.length≤sizeLine∧Q (.str (Txt.join s ts)) H
section
variable {X:Cx}
theorem zbl:OpR X (binaryOp .Add) zbE:=zm8
theorem zvU:OpR X (compareOp .In) rInS:=zpo
theorem zhP:zfb X (.builtin "len") zof:=by
 intro pins s σ H xs us Q I r h
 obtain ⟨y,rfl,hy,q⟩:=h
 exact zq7 pins s σ H _ us Q I r ⟨_,_,rfl,⟨hy,rfl⟩,q⟩
theorem zcv:zfb X (.type "str") zdX:=zkt
theorem zpn:zfb X (.type "int") zrI:=by
 intro pins s σ H xs us Q I r h
 obtain ⟨x,n,rfl,hl,hn,q⟩:=h
 obtain ⟨u,rfl,t,rfl⟩:=zfc r
 exact PySem.W.KIN.call_text hn hl ⟨.int n,H,I.tok _,⟨_,rfl⟩,q⟩
theorem zkf:∀ l:List (Str×Tok),zbY ((l.map (·.1)).map V.str) (strValues l)
 | []=>.nil
 | p::l=>.cons ⟨_,rfl⟩ (zkf l)
theorem zjL:∀ {ts:List Str} {us:List Value},zbY (ts.map V.str) us→∃ l:List (Str×Tok),us=strValues l∧l.map (·.1)=ts
 | [],_,.nil=>⟨[],rfl,rfl⟩
 | t::ts,_,.cons ⟨k,e⟩ r=>by
  obtain ⟨l,e1,e2⟩:=zjL r
  exact ⟨(t,k)::l,by rw [e,e1];rfl,by rw [← e2];rfl⟩
theorem zdi:MtM X "str.split" zdD:=by
 intro pins s σ H x vs v us Q I rx rv h
 obtain ⟨x,y,rfl,rfl,hy,hx,q⟩:=h
 obtain ⟨t,rfl⟩:=rx
 obtain ⟨w,rfl,u,rfl⟩:=zfc rv
 have sz:(1000000:Nat)+2≤sizeLine:=by decide
 have hy':(y.length == 0)=false:=beq_eq_false_iff_ne.mpr (by (first|lia|omega))
 have lo:=StrLaws.occ_length_le x y 0 x.length (x.length+1)
 have lp:=PySem.length_partsBetween x (Builtin.Str.occurrences x y 0 x.length (x.length+1)) y.length
 have ls:(Txt.split x y).length≤sizeLine:=by
  have:=PyProof.Rows.split_weight x y hy
  (first|lia|omega)
 have fin:∀ (l:List (Str×Tok)) (k:Nat),l.map (·.1)=Txt.split x y→EP X pins σ Q (.ref s.heap.objs.size) { s with toks:=k,heap:=s.heap.push { cls:=.type "list",data:=.seq (strValues l).toArray } }:=fun l k e=>by
  refine ⟨.ref _,_,I.laid (t':=k) (fun b o e=>Heap.get?_push_of_some _ e) (Nat.le_refl _) ?_,rfl,q _ (I.hok.fresh (Nat.le_refl _))⟩
  exact ⟨by rw [List.length_map];exact ls,strValues l,0,by rw [← e];exact zkf l,Heap.get?_push_size _ rfl⟩
 cases h1:(decide (x.length<y.length) || decide (Builtin.Str.strKind x<Builtin.Str.strKind y))
 ·cases hf:(Builtin.Str.occurrences x y 0 x.length (x.length+1)).isEmpty
  ·refine call_meets F.slot_str_split (typeIs_str _ _ _) F.entry_str_split (F.args_str_split_2 _ _) (meets_str_split_sep x y t u h1 hy' hf (by (first|lia|omega)) (by (first|lia|omega))) ?_
   show wants _ _ _ { s with toks:=_,heap:=s.heap.push { cls:=.type "list",data:=.seq (strsFrom s.toks (Builtin.Str.partsBetween x (Builtin.Str.occurrences x y 0 x.length (x.length+1)) y.length)).toArray } }
   rw [strsFrom_eq]
   exact fin (numbered s.toks _) _ ((numbered_texts _ _).trans ((if_neg (ne_true_of_eq_false h1)).trans (if_neg (ne_true_of_eq_false hf))).symm)
  ·exact call_meets F.slot_str_split (typeIs_str _ _ _) F.entry_str_split (F.args_str_split_2 _ _) (meets_str_split_not_found x y t u h1 hy' hf) (fin [(x,t)] s.toks ((if_neg (ne_true_of_eq_false h1)).trans (if_pos hf)).symm)
 ·exact call_meets F.slot_str_split (typeIs_str _ _ _) F.entry_str_split (F.args_str_split_2 _ _) (meets_str_split_cannot_occur x y t u h1) (fin [(x,t)] s.toks (if_pos h1).symm)
theorem zql:MtM X "str.partition" zlY:=by
 intro pins s σ H x vs v us Q I rx rv h
 obtain ⟨x,y,rfl,rfl,hy,hx,q⟩:=h
 obtain ⟨t,rfl⟩:=rx
 obtain ⟨w,rfl,u,rfl⟩:=zfc rv
 have sz:(1000000:Nat)+2≤sizeLine:=by decide
 have hy':(y.length == 0)=false:=beq_eq_false_iff_ne.mpr (by (first|lia|omega))
 have fin:∀ (ta tb tc:Tok) (k:Nat),EP X pins σ Q (.ref s.heap.objs.size) { s with toks:=k,heap:=s.heap.push { cls:=.type "tuple",data:=.seq [.str (Txt.partition x y).1 ta,.str (Txt.partition x y).2.1 tb,.str (Txt.partition x y).2.2 tc].toArray } }:=fun ta tb tc k=>by
  refine ⟨.ref _,_,I.laid (t':=k) (fun b o e=>Heap.get?_push_of_some _ e) (Nat.le_refl _) ?_,rfl,q _ (I.hok.fresh (Nat.le_refl _))⟩
  exact ⟨(by decide:3≤sizeLine),_,.cons ⟨_,rfl⟩ (.cons ⟨_,rfl⟩ (.cons ⟨_,rfl⟩ .nil)),_,Heap.get?_push_size _ rfl,rfl,0,rfl⟩
 refine call_meets F.slot_str_partition (typeIs_str _ _ _) F.entry_str_partition (F.args_str_partition_2 _ _) (meets_str_partition x y t u hy' (by (first|lia|omega))) ?_
 have h':=fin
 unfold Txt.partition at h'
 revert h'
 cases Builtin.Str.occurrences x y 0 x.length 1 with
 | nil=>intro h';exact h' _ _ _ _
 | cons i r=>intro h';exact h' _ _ _ _
theorem zoW:MtM X "str.startswith" zjq:=by
 intro pins s σ H x vs v us Q I rx rv h
 obtain ⟨x,y,rfl,rfl,q⟩:=h
 obtain ⟨t,rfl⟩:=rx
 obtain ⟨w,rfl,u,rfl⟩:=zfc rv
 exact SC.startswith ⟨.bl _,H,I,rfl,q⟩
theorem zo9:MtM X "str.count" ziV:=by
 intro pins s σ H x vs v us Q I rx rv h
 obtain ⟨x,y,rfl,rfl,q⟩:=h
 obtain ⟨t,rfl⟩:=rx
 obtain ⟨w,rfl,u,rfl⟩:=zfc rv
 exact SC.count ⟨.int _,H,I.tok _,⟨_,rfl⟩,q⟩
theorem zfr:MtM X "str.join" (zg5 X.K):=by
 intro pins s σ H x vs v us Q I rx rv h
 obtain ⟨x,p,ts,rfl,rfl,hp,hx,q⟩:=h
 obtain ⟨t,rfl⟩:=rx
 obtain ⟨w,rfl,ru⟩:=zfc rv
 cases ru
 obtain ⟨its,r,pl,_⟩:=I.list hp
 obtain ⟨l,rfl,el⟩:=zjL r
 refine SC.join pl.isList el ?_ fun t' k=>⟨.str _,H,I.tok _,⟨_,rfl⟩,q⟩
 show (!Builtin.Str.tooLong (ts.toArray.foldl (fun a p=>a+p.length+x.length) 0))=true
 rw [StrLaws.joinTotal]
 unfold Builtin.Str.tooLong
 rw [decide_eq_false (by (first|lia|omega))]
 rfl
end
def Its (x:Str):It:=⟨fun i _=>i<x.cps.size,fun i H v H'=>H'=H∧∃ c,x.cps[i]?=some c∧v=.str ⟨#[c]⟩,fun i _=>x.cps.size≤i⟩
def iStr (tl:TE):TI:=fun σ H R=>tl σ H fun v H1=>∃ x,v=.str x∧R (Its x) H1
theorem zmL {P:Program} {w:World} {K:PySem.W.Frag} {tg:Expr} (ty:String) (hty:ty="str_ascii_iterator"∨ty="str_iterator") (it:Addr) (x:Str) (t:Tok):zwT P w K tg (Its x) [it] it (fun i h=>h.IsStrIter it ty x t i) where
 mem:=by simp
 obj:=fun i h st b hb=>by
  have e:b=it:=by simpa using hb
  subst e
  obtain ⟨o,e,c,d⟩:=st
  exact ⟨o,e,fun v z=>by rw [d] at z;cases z⟩
 keep:=fun i h h' st k=>let ⟨o,ho,r⟩:=st;⟨o,k it (by simp) o ho,r⟩
 item:=by
  intro X hP hw hK hc i pins s σ H E I hf st hg
  subst hP hw hK
  obtain ⟨f0,f1,f2,f3,f4,f5⟩:=hf it (by simp)
  have W:Walks X.prog X.w X.A it [it] [it] x.cps.size (SignAt x) (fun i h=>h.IsStrIter it ty x t i):=by
   rcases hty with rfl | rfl
   ·exact Walks.strAscii (I.ok.hd hc) it x t
   ·exact Walks.strWide (I.ok.hd hc) it x t
  refine W.item i s _ _ hg st fun v h' tk hv st' kk=>?_
  obtain ⟨c,u,hcu,rfl⟩:=hv
  have I1:Inv X pins σ H { s with heap:=h',toks:=tk }:=I.turned (fun b o hb e=>kk b o (by simpa using hb) e) f0 f1 f3 f4 f5
  obtain ⟨o,e,cl,d⟩:=id st'
  refine ⟨_,rfl,ztR (s:={ s with heap:=h',toks:=tk }) (n:=ty) e cl d ?_ ⟨.str ⟨#[c]⟩,H,I1,⟨u,rfl⟩,⟨rfl,c,hcu,rfl⟩,st',fun b hb=>(hf b hb).1⟩⟩
  rcases hty with rfl | rfl <;> decide
 done:=by
  intro X hP hw hK hc i pins s σ H E I hf st hg
  subst hP hw hK
  obtain ⟨f0,f1,f2,f3,f4,f5⟩:=hf it (by simp)
  have hx:x.cps[i]?=none:=by
   have:x.cps.size≤i:=hg
   simp [this]
  rcases hty with rfl | rfl
  ·exact wpAny_pyNext_ascii_end (I.ok.hd hc) st hx fun h' eb=>⟨rfl,I.turned (t':=s.toks) (fun b o hb e=>eb b o hb e) f0 f1 f3 f4 f5⟩
  ·exact wpAny_pyNext_wide_end (I.ok.hd hc) st hx fun h' eb=>⟨rfl,I.turned (t':=s.toks) (fun b o hb e=>eb b o hb e) f0 f1 f3 f4 f5⟩
 self:=fun _ _ _ _ _ st h=>by
  rcases hty with rfl | rfl
  ·exact wpAny_pyIter_striter_ascii st h
  ·exact wpAny_pyIter_striter_wide st h
section
variable {X:Cx} {tg:Expr}
theorem zwL {l:Expr} {tl:TE} (hl:PE X l tl):PI X tg l (iStr tl):=by
 intro pins s σ H R I h
 refine thn (hl pins s σ H _ I h) fun v s1 hQ'=>?_
 obtain ⟨x,H1,I1,r1,q1⟩:=hQ'
 obtain ⟨x,rfl,q⟩:=q1
 obtain ⟨t,rfl⟩:=r1
 have fp:∀ b∈[s1.heap.objs.size],zl4 X pins H1 b:=fun b hb=>by
  have e:b=s1.heap.objs.size:=by simpa using hb
  subst e
  exact I1.fpOk (Nat.le_refl _) (I1.hok.fresh (Nat.le_refl _))
 cases ha:x.cps.all (·<128)
 ·exact wpAny_pyIter_wide ha ⟨s1.heap.objs.size,[s1.heap.objs.size],_,_,H1,rfl,I1.kept (t':=s1.toks) fun b o e=>Heap.get?_push_of_some _ e,zmL "str_iterator" (.inr rfl) _ x t,⟨_,Heap.get?_push_size _ rfl,rfl,rfl⟩,fp,q⟩
 ·exact wpAny_pyIter_ascii ha ⟨s1.heap.objs.size,[s1.heap.objs.size],_,_,H1,rfl,I1.kept (t':=s1.toks) fun b o e=>Heap.get?_push_of_some _ e,zmL "str_ascii_iterator" (.inl rfl) _ x t,⟨_,Heap.get?_push_size _ rfl,rfl,rfl⟩,fp,q⟩
end
theorem zp7 {x:Str} {g:TG} {tt:TT} {te:TE} {σ:St} {H:Hp} {D:Addr} {Q:VK} (Pv:Nat→List V→St→Hp→Prop) (h0:Pv 0 [] σ (upd H D (.lst [])))
  (hs:∀ i c ys σ H,x.cps[i]?=some c→H D=some (.lst ys)→Pv i ys σ H→g (.str ⟨#[c]⟩) σ H fun σ2 H2=>tt σ2 H2 fun b H3=>if b=true then te σ2 H3 fun y H4=>zbw (.ref D) [y] H4 fun _ H5=>∃ ys,H5 D=some (.lst ys)∧Pv (i+1) ys σ2 H5 else ∃ ys,H3 D=some (.lst ys)∧Pv (i+1) ys σ2 H3)
  (hd:∀ ys σ H,H D=some (.lst ys)→Pv x.cps.size ys σ H→Q (.ref D) H):zh7 (Its x) g tt te D Q σ (upd H D (.lst [])):=by
 refine ⟨fun i m σ H=>m=x.cps.size - i∧i≤x.cps.size∧∃ ys,H D=some (.lst ys)∧Pv i ys σ H,⟨_,rfl,Nat.zero_le _,[],zad,h0⟩,?_⟩
 rintro i m σ H ⟨rfl,hi,ys,hD,pv⟩
 by_cases hlt:i<x.cps.size
 ·refine .inr ⟨hlt,fun σ H=>∃ ys,H D=some (.lst ys)∧Pv (i+1) ys σ H,fun σ' H' p'=>⟨_,by (first|lia|omega),rfl,hlt,p'⟩,fun v H' yl=>?_⟩
  obtain ⟨e,c,hc,rfl⟩:=yl
  subst e
  exact hs i c ys σ _ hc hD pv
 ·have e:i=x.cps.size:=by (first|lia|omega)
  subst e
  exact .inl ⟨Nat.le_refl _,hd ys σ H hD pv⟩
def zqE:V→Option Int→Option Int→Hp→VK→Prop:=fun x lo hi H Q=>∃ z:Str,x=.str z∧z.length≤sizeLine∧Q (.str ⟨((z.cps.toList.drop (HT.sIx z.length 0 lo)).take (HT.sIx z.length z.length hi - HT.sIx z.length 0 lo)).toArray⟩) H
theorem zhF (lo hi:Option Int) (n:Nat):Builtin.Str.strSliceIndices lo hi 1 n=sliceRange (HT.sIx n 0 lo:Nat) (HT.sIx n n hi:Nat) 1:=by
 have one:(1:Int) > 0:=by decide
 have e1:∀ v:Int,max (0:Int) (min (if v<0 then v+n else v) n)=((HT.sIx n 0 (some v):Nat):Int):=fun v=>by
  show _=(((if v<0 then (v+(n:Int)).toNat else min v.toNat n):Nat):Int)
  by_cases h:v<0
  ·rw [if_pos h,if_pos h];(first|lia|omega)
  ·rw [if_neg h,if_neg h];(first|lia|omega)
 have e2:∀ v:Int,max (0:Int) (min (if v<0 then v+n else v) n)=((HT.sIx n n (some v):Nat):Int):=e1
 unfold Builtin.Str.strSliceIndices
 simp only [one,if_true]
 cases lo with
 | none =>
  cases hi with
  | none=>rfl
  | some v=>rw [← e2 v];rfl
 | some v =>
  cases hi with
  | none=>rw [← e1 v];rfl
  | some u=>rw [← e1 v,← e2 u]
theorem zht {X:Cx}:SlR X zqE:=by
 intro pins s σ H x v vl vu lo hi sl Q I rx hs pl pu h
 obtain ⟨z,rfl,hz,q⟩:=h
 obtain ⟨t,rfl⟩:=rx
 refine ⟨"str",_,F.slot_str_getitem.lookup,typeIs_str _ _ _,?_⟩
 obtain ⟨l,rfl,el⟩:∃ l:Option (Int×Tok),vl=partValue l∧l.map (·.1)=lo:=by
  cases pl with
  | none=>exact ⟨none,rfl,rfl⟩
  | int i t=>exact ⟨some (i,t),rfl,rfl⟩
 obtain ⟨u,rfl,eu⟩:∃ l:Option (Int×Tok),vu=partValue l∧l.map (·.1)=hi:=by
  cases pu with
  | none=>exact ⟨none,rfl,rfl⟩
  | int i t=>exact ⟨some (i,t),rfl,rfl⟩
 have ep:(slicePicked z l u none).filterMap (z.cps[·]?)=(z.cps.toList.drop (HT.sIx z.length 0 lo)).take (HT.sIx z.length z.length hi - HT.sIx z.length 0 lo):=by
  unfold slicePicked
  rw [el,eu]
  show (Builtin.Str.strSliceIndices lo hi 1 z.length).filterMap (z.cps[·]?)=_
  rw [zhF,sliceRange_one,pick_run]
 refine wpAny_getItem_str_slice (l:=l) (u:=u) (st:=none) hs rfl ?_
 unfold sliceMade
 rw [ep]
 cases hw:(((none:Option (Int×Tok)).map (·.1)).getD 1 == 1&&(slicePicked z l u none).length == z.length)
 ·refine ⟨?_,.str _,H,I.tok _,⟨_,rfl⟩,q⟩
  show (List.toArray _).size≤sizeLine
  rw [List.size_toArray,List.length_take,List.length_drop]
  have:z.cps.toList.length=z.length:=by simp [Str.length]
  (first|lia|omega)
 ·refine ⟨.str z,H,I,⟨t,rfl⟩,?_⟩
  have e:(z.cps.toList.drop (HT.sIx z.length 0 lo)).take (HT.sIx z.length z.length hi - HT.sIx z.length 0 lo)=z.cps.toList:=by
   have hl:(slicePicked z l u none).length=z.length:=by simpa using hw
   have hp:slicePicked z l u none=(List.range (HT.sIx z.length z.length hi - HT.sIx z.length 0 lo)).map (HT.sIx z.length 0 lo+·):=by
    unfold slicePicked
    rw [el,eu]
    show Builtin.Str.strSliceIndices lo hi 1 z.length=_
    rw [zhF,sliceRange_one]
   rw [hp,List.length_map,List.length_range] at hl
   have h1:=HT.sIx_le z.length z.length (Nat.le_refl _) hi
   have h0:=HT.sIx_le z.length 0 (Nat.zero_le _) lo
   have lz:z.cps.toList.length=z.length:=by simp [Str.length]
   rw [hl]
   by_cases n0:z.length=0
   ·have:z.cps.toList=[]:=List.eq_nil_of_length_eq_zero (by (first|lia|omega))
    rw [this,List.drop_nil,List.take_nil]
   ·rw [show HT.sIx z.length 0 lo=0 by (first|lia|omega),List.drop_zero,List.take_of_length_le (by (first|lia|omega))]
  rw [e] at q
  exact q
end L2
namespace L2
open PySem PySem.Spec PyProof.Rows
section
variable {P:Program} {w:World} {H H':Hp} {h h':Heap} {c:Addr} {o:Obj}
theorem zmf (x:HOk P w H h) (hc:H c=some (.frz o (.own c))):HOk P w (zeg H c) h:=fun b u e=>by
 obtain ⟨n,e⟩:=zhD e
 refine (x b u e).stay (fun _ _ _ q=>q) (fun d q=>?_) fun d xs q=>?_
 ·rw [zba (fun z=>by rw [z,hc] at q;cases q)];exact q
 ·rw [zba (fun z=>by rw [z,hc] at q;cases q)];exact q
theorem zle (x:HOk P w H h) (hc:H c=none) (e:h.get? c=some o):HOk P w (upd H c (.frz o (.own c))) h:=fun b u q=>by
 by_cases z:b=c
 ·subst z
  rw [zad] at q
  cases q
  exact ⟨e,o,e⟩
 ·rw [zal z] at q
  refine (x b u q).stay (fun _ _ _ r=>r) (fun d r=>?_) fun d xs r=>?_
  ·rw [zal (zar r hc)];exact r
  ·rw [zal (zar r hc)];exact r
theorem zsZ {fs:List Addr} (u:Un fs [] (upd H c (.frz o (.own c))) H' h h') (hc:H c=none) (e:h.get? c=some o) (ec:h'.get? c=some o):Un fs [] H (zeg H' c) h h':=by
 have up:∀ b,b≠c→H b=none→upd H c (.frz o (.own c)) b=none:=fun b n q=>by rw [zal n];exact q
 refine ⟨fun b ob q n hb hx=>?_,fun b ob q n hb hx=>?_,fun b ob q n hx=>?_,fun b ob q hx=>u.there b ob q hx,fun b xs q=>?_,fun b ob v q=>?_,fun b ps q=>?_⟩
 ·by_cases z:b=c
  ·subst z
   rw [e] at q
   cases q
   exact ec
  ·exact u.keep b ob q (up b z n) hb hx
 ·by_cases z:b=c
  ·subst z
   rw [e] at q
   cases q
   exact ⟨o.slots,ec⟩
  ·exact u.slot b ob q (up b z n) hb hx
 ·by_cases z:b=c
  ·rw [z];exact zdS
  ·rw [zba z];exact u.free b ob q (up b z n) hx
 ·have z:b≠c:=fun z=>by rw [z,hc] at q;cases q
  rw [zba z]
  exact u.tups b xs (by rw [zal z];exact q)
 ·have z:b≠c:=fun z=>by rw [z,hc] at q;cases q
  rw [zba z]
  exact u.frzs b ob v (by rw [zal z];exact q)
 ·have z:b≠c:=fun z=>by rw [z,hc] at q;cases q
  rw [zba z]
  exact u.tbls b ps (by rw [zal z];exact q)
theorem zvi {fs:List Addr} (u:Un fs [] (zeg H c) H' h h') (hc:H c=some (.frz o (.own c))) (e:h.get? c=some o):Un fs [] H (upd H' c (.frz o (.own c))) h h':=by
 have nb:∀ b,H b=none→b≠c:=fun b n z=>by rw [z,hc] at n;cases n
 refine ⟨fun b ob q n hb hx=>?_,fun b ob q n hb hx=>?_,fun b ob q n hx=>?_,fun b ob q hx=>u.there b ob q hx,fun b xs q=>?_,fun b ob v q=>?_,fun b ps q=>?_⟩
 ·exact u.keep b ob q (by rw [zba (nb b n)];exact n) hb hx
 ·exact u.slot b ob q (by rw [zba (nb b n)];exact n) hb hx
 ·rw [zal (nb b n)]
  exact u.free b ob q (by rw [zba (nb b n)];exact n) hx
 ·have z:b≠c:=fun z=>by rw [z,hc] at q;cases q
  rw [zal z]
  exact u.tups b xs (by rw [zba z];exact q)
 ·by_cases z:b=c
  ·subst z
   rw [hc] at q
   cases q
   exact zad
  ·rw [zal z]
   exact u.frzs b ob v (by rw [zba z];exact q)
 ·have z:b≠c:=fun z=>by rw [z,hc] at q;cases q
  rw [zal z]
  exact u.tbls b ps (by rw [zba z];exact q)
theorem zvB {outer:List Env} {s s':Shared} {Q:VK} {u:Value} (x:CE outer P w (upd H c (.frz o (.own c))) s (fun v H'=>Q v (zeg H' c)) u s') (hc:H c=none) (e:s.heap.get? c=some o):CE outer P w H s Q u s':=by
 obtain ⟨v,H',os,bare,un,hok,r,q⟩:=x
 exact ⟨v,_,os,bare,zsZ un hc e (hok c _ (un.frzs c _ _ zad)).1,zmf hok (un.frzs c _ _ zad),r,q⟩
theorem zv4 {outer:List Env} {s s':Shared} {Q:VK} {u:Value} (x:CE outer P w (zeg H c) s (fun v H'=>Q v (upd H' c (.frz o (.own c)))) u s') (hc:H c=some (.frz o (.own c))) (e:s.heap.get? c=some o) (hf:c∉frs outer):CE outer P w H s Q u s':=by
 obtain ⟨v,H',os,bare,un,hok,r,q⟩:=x
 have fr:H' c=none:=un.free c o e zdS (by simp)
 exact ⟨v,_,os,bare,zvi un hc e,zle hok fr (un.keep c o e zdS hf (by simp)),r,q⟩
theorem zuy {outer:List Env} {s s':Shared} {E:XK} {v:Value} (x:CXV P w outer (upd H c (.frz o (.own c))) s (fun k od H'=>E k od (zeg H' c)) v s') (hc:H c=none) (e:s.heap.get? c=some o) (hf:c∉frs outer):CXV P w outer H s E v s':=by
 obtain ⟨ea,B,cls,a0,H',od,rfl,x,d⟩:=x
 have fc:H' c=some (.frz o (.own c)):=x.un.frzs c _ _ zad
 have eB:B.get? c=some o:=(x.hokB c _ fc).1
 refine ⟨ea,B,cls,a0,zeg H' c,od,rfl,⟨x.os,x.bare,?_,zmf x.hokB fc,x.fly,fun b ob q n hb=>?_,x.covT,x.new,?_,x.want⟩,d⟩
 ·exact zsZ x.un hc e (x.fly.1 c o eB)
 ·by_cases z:b=c
  ·subst z
   rw [e] at q
   cases q
   exact eB
  ·exact x.cov b ob q (by rw [zal z];exact n) hb
 ·unfold zeg
  split
  ·rfl
  ·exact x.free
end
theorem zj2 {P:Program} {w:World} {K:PySem.W.Frag} {mg:Str→Option Value} {base:Heap} {A:Around} {outer:List Env} {s:Shared} {H:Hp} {q c':Addr} {nm qual x y:Str} {params:Arguments} {body:Expr} {scope:Scope} {cl:List (Str×Addr)}
  {pm ctv u1 u2:Value} {v1 v2:V} {Ns:List Str} {vs:List V} {Q:VK} {t:TE} (e0:zou P w K mg base A outer s H) (hroom:A.depth<recursionLimit) (hh:A.handled=none)
  (ho:s.heap.get? q=some (PySem.W.kla_obj nm qual params body scope cl pm c' ctv)) (hcd:s.heap.CodeRec (.ref c') qual)
  (hbind:bindArgs (PySem.W.kla_fn nm qual params body scope cl pm (.ref c') ctv) ⟨[u1,u2],[]⟩=pure [(x,u1),(y,u2)]) (hne:x≠y) (hlx:scope.names.lookup x=some .local) (hly:scope.names.lookup y=some .local) (hk:scope.kind=.function) (hco:scope.isCoroutine=false) (hgen:scope.isGenerator=false)
  (hcell:∀ y∈scope.names,y.2≠.cell) (T:zrR H s.heap scope cl Ns vs) (r1:zcs v1 u1) (r2:zcs v2 u2) (hb:PE (zld P w K mg base (x::y::Ns) qual scope q (.ref c') cl A outer s H) body t) {Q0:VK} (hQ:∀ v H',(∀ y c,cl.lookup y=some c→H' c=none)→Q0 v H'→Q v H') (h:t (some v1::some v2::vs.map some) H Q0) :
  codeAny (model P w) A (.call (.ref q) ⟨[u1,u2],[]⟩) (fun r s'=>match r with | .ok (.ret u')=>CE outer P w H s Q u' s' | _=>False) s:=by
 have lim:s.heap.NoLimit:=e0.mod.nolimit.keeps fun b o e=>(e0.bs b o e).1
 refine PySem.W.kla_callFunE hroom ho rfl hco hgen rfl hcd ?_
 rw [hbind]
 refine wpAny_pure (wpAny_newFunctionEnv hcell (fun z hz=>?_) (fun h₁ hns hsb=>⟨lim.fresh _ hsb,?_⟩) hk)
 ·rcases List.mem_cons.mp hz with rfl | hz
  ·exact hlx
  ·rw [List.mem_singleton.mp hz];exact hly
 have hk₁:∀ b o,s.heap.get? b=some o→h₁.get? b=some o:=fun b o e=>hsb.extBut b o (Nat.ne_of_lt (Heap.lt_size e)) (Heap.get?_push_of_some _ e)
 have I:Inv (zld P w K mg base (x::y::Ns) qual scope q (.ref c') cl A outer s H) [] (some v1::some v2::vs.map some) H { s with heap:=h₁,toks:=s.toks+2 }:=by
  have noA:∀ b:Addr,b∉(zld P w K mg base (x::y::Ns) qual scope q (.ref c') cl A outer s H).ex:=fun b z=>absurd (show b∈([]:List Addr) from z) (by simp)
  refine ⟨⟨e0.mod,hk,rfl,rfl,Nat.le_refl _,T.inj,fun y hy=>?_,fun y c hf e=>?_,fun _=>hh,Around.frames_deeper e0.frames,.inr ⟨rfl,rfl⟩,fun b z=>absurd z (noA b),e0.bs,e0.bsz,fun b _ _=>noA b,fun b z=>absurd z (noA b),e0.funs,e0.frf⟩,
   rfl,e0.bare,Un.kept hk₁,⟨_,hns,fun i z v' h1 h2 h3=>?_⟩,fun y c e=>?_,e0.hok.fresh (Nat.le_refl _),fun y c e=>(T.cel y c e).1,fun p hp=>absurd (show p∈([]:List (Addr×Obj)) from hp) (by simp),e0.hok.kept hk₁,?_⟩
  ·have hy:scope.names.lookup y=some .cell∨scope.names.lookup y=some .free:=hy
   rcases hy with hy | hy
   ·exact absurd rfl (hcell _ (PySem.mem_of_lookup hy))
   ·exact T.has y hy
  ·have hf:(cl.lookup y).isNone=true:=hf
   have e:cl.lookup y=some c:=e
   rw [e] at hf
   cases hf
  ·match i,h1,h2 with
   | 0,h1,h2 =>
    have h1:some x=some z:=h1
    have h2:some (some v1)=some (some v'):=h2
    cases h1
    cases h2
    refine ⟨u1,r1,.inl ⟨hlx,?_⟩⟩
    show List.lookup x [(y,u2),(x,u1)]=some u1
    rw [List.lookup_cons,beq_eq_false_iff_ne.mpr hne]
    simp
   | 1,h1,h2 =>
    have h1:some y=some z:=h1
    have h2:some (some v2)=some (some v'):=h2
    cases h1
    cases h2
    refine ⟨u2,r2,.inl ⟨hly,?_⟩⟩
    show List.lookup y [(y,u2),(x,u1)]=some u2
    simp
   | i+2,h1,h2 =>
    have h1:Ns[i]?=some z:=h1
    obtain ⟨c,uy,vy,e1,e2,e3,e4,e5⟩:=T.at' i z h1
    have h2:(vs.map some)[i]?=some (some v'):=h2
    rw [List.getElem?_map,e4] at h2
    cases h2
    obtain ⟨oc,z1,z2⟩:=e3
    exact ⟨uy,e5,.inr ⟨.inr e2,c,e1,⟨oc,hk₁ _ _ z1,z2⟩⟩⟩
  ·obtain ⟨v',oc,z1,z2⟩:=(T.cel y c e).2
   exact ⟨v',oc,hk₁ _ _ z1,z2⟩
  ·show (some v1::some v2::vs.map some).length=(x::y::Ns).length
   rw [List.length_cons,List.length_cons,List.length_map,List.length_cons,List.length_cons,T.len]
 refine PySem.W.kla_codeExpr (wpAny_mono (hb [] _ _ H _ I h) (fun u' s' hs=>?_) fun _ _ z=>z.elim)
 obtain ⟨v',H',J,rv',q'⟩:=hs
 exact ⟨v',H',J.os,J.bare,J.base,J.hok,rv',hQ v' H' (fun y c e=>J.freeC y c e) q'⟩
def zut (e:Expr) (qual y:Str) (H:Hp) (q c:Addr) (w:V):Prop:=∃ (params:Arguments) (body:Expr) (scope:Scope) (lpos:Pos) (pm ctv:Value) (c':Addr) (oc:Obj) (ovs:Array Value) (t:Nat) (ou:Obj) (uv:Value),
 e=.Lambda params body scope lpos∧H q=some (.frz (PySem.W.kla_obj "<lambda>" qual params body scope [(y,c)] pm c' ctv) (.own q))∧H c'=some (.frz oc (.own c'))∧oc.data=.fields ovs∧ovs[1]?=some (.str qual t)∧c'≠c∧q≠c ∧
 H c=some (.frz ou (.own c))∧ou.data=.cell (some uv)∧zcs w uv
theorem zut.same {e:Expr} {qual y:Str} {H H':Hp} {q c:Addr} {w:V} (h:zut e qual y H q c w) (s:zaJ H H'):zut e qual y H' q c w:=by
 obtain ⟨a1,a2,a3,a4,a5,a6,a7,a8,a9,a10,a11,a12,b1,b2,b3,b4,b5,b6,b7,b8,b9⟩:=h
 exact ⟨a1,a2,a3,a4,a5,a6,a7,a8,a9,a10,a11,a12,b1,s _ _ b2,s _ _ b3,b4,b5,b6,b7,s _ _ b8,b9⟩
def zmz (e:Expr) (qual y:Str) (i:Nat) (tb:TE) (ta:TA):TE:=fun σ H Q=>∃ q,σ[i]?=some (some (.ref q))∧ta σ H fun vs H1=>∃ u1 u2 c w,vs=[u1,u2]∧zut e qual y H1 q c w∧tb [some u1,some u2,some w] (zeg H1 c) fun v H2=>H2 c=none→∀ F,H1 c=some F→Q v (upd H2 c F)
section
variable {X:Cx} {x y z f:Str} {p pos lpos:Pos} {e1 e2 body:Expr} {params:Arguments} {scope:Scope} {qual:Str} {ta:TA} {tb:TE} {i k:Nat}
theorem zrw (hN:X.N[i]?=some f) (hv:Vis X.env.scope f) (hr:zek (k+1) X.A) (ha:PA X [e1,e2] ta)
  (hbind:∀ (cl:List (Str×Addr)) (pm cd ctv u1 u2:Value),bindArgs (PySem.W.kla_fn "<lambda>" qual params body scope cl pm cd ctv) ⟨[u1,u2],[]⟩=pure [(x,u1),(z,u2)]) (hne:x≠z) (hlx:scope.names.lookup x=some .local) (hlz:scope.names.lookup z=some .local) (hk:scope.kind=.function) (hco:scope.isCoroutine=false) (hgen:scope.isGenerator=false)
  (hcell:∀ y∈scope.names,y.2≠.cell) (hfree:scope.names.lookup y=some .free) (hall:∀ n∈scope.names,n.2=.free→n.1=y)
  (hb:∀ (c:Addr) (f:Addr) (cd:Value) (A:Around) (outer:List Env) (s:Shared) (H:Hp),zek k (zld X.prog X.w X.K X.mg X.base [x,z,y] qual scope f cd [(y,c)] A outer s H).A→PE (zld X.prog X.w X.K X.mg X.base [x,z,y] qual scope f cd [(y,c)] A outer s H) body tb)
  (hd:(f == ("__debug__":Str))=false:=by decide) (hcd:(f == ("__classdict__":Str))=false:=by decide)
  (he:starEach [e1,e2] X.env=(false,eval e1 X.env)::starEach [e2] X.env:=by rfl) (hpl:(backTo pos (starEach [e2] X.env)).any (·.1)=false:=by rfl) :
  PE X (.Call (.Name f p) [e1,e2] [] pos) (zmz (.Lambda params body scope lpos) qual y i tb ta):=by
 intro pins s σ H Q I h
 obtain ⟨q,hq,h⟩:=h
 refine wpAny_Call_Name_kw (thn (zpv (pos:=p) hN hv hd hcd pins s σ H (fun v H1=>v=.ref q∧H1=H) I ⟨.ref q,hq,rfl,rfl⟩) fun fv s1 hQ'=>?_)
 obtain ⟨v,H1,I1,r1,e,eH⟩:=hQ'
 subst e
 subst eH
 cases r1
 refine PySem.W.callWith_of (P:=fun h=>∃ (cl:List (Str×Addr)) (pm ctv:Value) (c':Addr),h.get? q=some (PySem.W.kla_obj "<lambda>" qual params body scope cl pm c' ctv)) (by rw [he];show ((false || (backTo pos (starEach [e2] X.env)).any (·.1)) || false)=false;rw [hpl];rfl) (fun h ⟨cl,pm,ctv,c',e⟩=>⟨.frame,.inl rfl,(PySem.W.Looks.ld (part:=none) e).andThen .now⟩) ?_
 have hA:=ha pos pins s1 σ H1 _ I1 h
 rw [he] at hA ⊢
 refine Calls.evalArgs_plain (thn hA fun us s2 hQ'=>?_)
 obtain ⟨vs,H2,I2,r2,q2⟩:=hQ'
 obtain ⟨v1,v2,c,w,rfl,L,q2⟩:=q2
 obtain ⟨pa,bo,sc,lp,pm,ctv,c',oc,ovs,tk,ou,uv,eL,hq2,hc',hd',hv',nc',nq,hc,hdc,rw'⟩:=L
 cases eL
 obtain ⟨u1,u2,rfl,ru1,ru2⟩:=zoe r2
 have eq2:s2.heap.get? q=some (PySem.W.kla_obj "<lambda>" qual params body scope [(y,c)] pm c' ctv):=(I2.hok q _ hq2).1
 have ec':s2.heap.get? c'=some oc:=(I2.hok c' _ hc').1
 have ecell:s2.heap.get? c=some ou:=(I2.hok c _ hc).1
 refine ⟨⟨_,pm,ctv,c',eq2⟩,?_⟩
 have e0:=I2.env0
 have e0':zou X.prog X.w X.K X.mg X.base X.A X.stack s2 (zeg H2 c):=⟨e0.frames,e0.mod,fun b o e=>⟨(e0.bs b o e).1,by
  unfold zeg
  split
  ·rfl
  ·exact (e0.bs b o e).2⟩,e0.bsz,e0.funs,fun b hb=>by
  unfold zeg
  split
  ·rfl
  ·exact e0.frf b hb,zmf e0.hok hc,e0.bare⟩
 have T:zrR (zeg H2 c) s2.heap scope [(y,c)] [y] [w]:=by
  have l1:([(y,c)]:List (Str×Addr)).lookup y=some c:=by simp [List.lookup]
  have only:∀ n d,([(y,c)]:List (Str×Addr)).lookup n=some d→n=y∧d=c:=fun n d e=>by
   rw [List.lookup_cons] at e
   cases q:n == y with
   | true =>
    rw [q] at e
    cases e
    exact ⟨beq_iff_eq.mp q,rfl⟩
   | false =>
    rw [q] at e
    cases e
  refine ⟨rfl,fun j n hj=>?_,fun n hn=>?_,fun n d e=>?_,fun n m d h1 h2=>?_⟩
  ·match j,hj with
   | 0,hj =>
    cases hj
    exact ⟨c,uv,w,l1,hfree,⟨ou,ecell,hdc⟩,rfl,rw'⟩
  ·have:=hall _ (PySem.mem_of_lookup hn) rfl
   have e:n=y:=this
   rw [e]
   exact ⟨c,l1⟩
  ·obtain ⟨_,rfl⟩:=only n d e
   exact ⟨zdS,_,ou,ecell,hdc⟩
  ·rw [(only n d h1).1,(only m d h2).1]
 refine wpAny_call (codeAny_mono (zj2 (t:=tb) (Ns:=[y]) (vs:=[w]) (x:=x) (y:=z) (v1:=v1) (v2:=v2) e0' hr.depth hr.hd eq2 ⟨c',oc,ovs,tk,rfl,ec',hd',hv'⟩ (hbind _ _ _ _ _ _) hne hlx hlz hk hco hgen hcell T ru1 ru2 (hb _ _ _ _ _ _ _ (hr.deeper _)) (Q:=fun v H3=>∀ F,H2 c=some F→Q v (upd H3 c F)) (fun v H' hf q=>q (hf y c (by simp [List.lookup]))) q2) fun r s' hq=>?_)
 have nfr:c∉frs X.stack:=fun z=>by rw [I2.stkFree c z] at hc;cases hc
 cases r with
 | error e=>exact hq.elim
 | ok fl =>
  cases fl with
  | ret u =>
   have hq:CE X.stack X.prog X.w (zeg H2 c) s2 _ u s':=hq
   refine I2.after (zv4 (o:=ou) ?_ hc ecell nfr)
   obtain ⟨v,H',os,bare,un,hok,r,q⟩:=hq
   exact ⟨v,H',os,bare,un,hok,r,q _ hc⟩
  | next=>exact hq.elim
  | brk=>exact hq.elim
  | cont=>exact hq.elim
end
theorem Inv.trackF {X:Cx} {pins:List (Addr×Obj)} {σ:St} {H:Hp} {s:Shared} {q:Addr} {o:Obj} (I:Inv X pins σ H s) (fq:zl4 X pins H q) (hex:X.ex=[]) (e:s.heap.get? q=some o):Inv X pins σ (upd H q (.frz o (.own q))) s:=by
 obtain ⟨f0,f1,f2,f3,f4,f5⟩:=fq
 have f3:X.s₀.heap.objs.size≤q:=by
  rcases f3 with z | z
  ·rw [hex] at z;cases z
  ·exact z
 refine ⟨I.ok,I.os,I.bare,⟨I.base.keep,I.base.slot,fun b ob r n hx=>?_,I.base.there,fun b xs r=>?_,fun b ob u r=>?_,fun b ps r=>?_⟩,I.loc,I.cell,?_,fun x c ec=>?_,fun p hp=>?_,zle I.hok f0 e,I.len⟩
 ·rw [zal (Nat.ne_of_lt (Nat.lt_of_lt_of_le (Heap.lt_size r) f3))]
  exact I.base.free b ob r n hx
 ·have:=I.base.tups b xs r
  rw [zal (zar this f0)]
  exact this
 ·have:=I.base.frzs b ob u r
  rw [zal (zar this f0)]
  exact this
 ·obtain ⟨more,hm⟩:=I.base.tbls b ps r
  exact ⟨more,by rw [zal (zar hm f0)];exact hm⟩
 ·rw [zal (Ne.symm f1)]
  exact I.free
 ·rw [zal (f4 x c ec)]
  exact I.freeC x c ec
 ·obtain ⟨p1,p2,p3,p4,p5⟩:=I.pin p hp
  exact ⟨p1,by rw [zal (f5 p hp)];exact p2,p3,p4,p5⟩
def zpe (P:Addr) (e:Expr) (lpos:Pos) (qual y:Str) (j:Nat) (sp:Sp) (E:XK) (te:TE):TE:=fun σ H Q=>te σ H fun v H1=>∃ w,σ[j]?=some (some w)∧zct H1 P lpos qual ∧
 ∀ (q c:Addr) (H3 H4:Hp),Bar P H1 H3→zct H3 P lpos qual→H1 q=none→H3 c=none→H1 c=none→zaJ H3 H4→zut e qual y H4 q c w→sp [v,.ref q] H4 (fun r H5=>Q r (zeg H5 c)) (fun k od H5=>E k od (zeg H5 c))
section
variable {X:Cx} {x y:Str} {p pos lpos:Pos} {e body:Expr} {params:Arguments} {scope:Scope} {qual:Str} {te:TE} {j k:Nat} {f c cc P:Addr} {fd:FuncData} {ps:List Str} {sp:Sp} {E:XK}
theorem zsc (F:zc8 X.prog X.w X.K X.mg X.base (CXV X.prog X.w) k f fd ps sp) (hr:zek k X.A) (hg:Gl X x) (hm:X.mg x=some (.ref f)) (hk:PySem.W.keepIn X.K (.ref f)=true) (hb:zbI X.K fd ps []) (hx:zf2 (CXV X.prog X.w) X E) (h1:PE X e te)
  (hcode:X.env.code=.ref cc) (C:PySem.W.CodeHd X.base cc P) (hB:X.base.BuiltinsAt X.mg P) (hcl:closureFor scope X.env=pure [(y,c)]) (hdef:defaultsOf params X.env=([],[])) (hq:X.env.qual++"<lambda>"=qual) (hcap:zuY X scope [(y,c)] [y] [j]) (hex:X.ex=[]) (hfn:X.fn y=true)
  (hdb:(x == ("__debug__":Str))=false:=by decide) (he:starEach [e,.Lambda params body scope lpos] X.env=(false,eval e X.env)::starEach [.Lambda params body scope lpos] X.env:=by rfl)
  (he2:starEach [.Lambda params body scope lpos] X.env=(false,eval (.Lambda params body scope lpos) X.env)::starEach [] X.env:=by rfl) (hpl:(backTo pos (starEach [.Lambda params body scope lpos] X.env)).any (·.1)=false:=by rfl) :
  PE X (.Call (.Name x p) [e,.Lambda params body scope lpos] [] pos) (zpe P (.Lambda params body scope lpos) lpos qual y j sp E te):=by
 intro pins s σ H Q I h
 refine wpAny_Call_Name_kw (zdK I hg hm ?_ hdb)
 refine PySem.W.callWith_K (h₀:=X.base) I.ok.mod.kin hk ?_ he hpl
 rw [he]
 show wpAny _ _ (spliced ((false,eval e X.env)::backTo pos (starEach [.Lambda params body scope lpos] X.env))) _ _ s
 refine Calls.spliced_cons (thn (h1 pins s σ H _ I h) fun u s1 hQ'=>?_)
 obtain ⟨v,H1,I1,r1,w,hw,hL,q1⟩:=hQ'
 rw [he2]
 show wpAny _ _ (spliced ((false,eval (.Lambda params body scope lpos) X.env)::backTo pos (starEach [] X.env))) _ _ s1
 refine Calls.spliced_cons (zmJ I1 hcode C hB hL hcl hdef hq fun qa c' pm ctv H2 s2 oc ovs ot I2 bar hL2 hqa hc' hd hv fq=>?_)
 refine Calls.spliced_nil ⟨I2.kIn,?_⟩
 obtain ⟨j',c2,ej,eN,ek,el,ef⟩:=hcap.at' 0 y rfl
 have ec2:c2=c:=by
  have l1:([(y,c)]:List (Str×Addr)).lookup y=some c:=by simp [List.lookup]
  rw [l1] at el
  exact (Option.some.inj el).symm
 subst ec2
 have hcx:X.env.cells.lookup y=some c2:=hcap.sub y c2 el
 have T:=hcap.taken I2 (ws:=[w]) (by
  have:j=j':=by
   have e:some j=some j':=ej
   exact Option.some.inj e
  show [σ[j]?]=[some (some w)]
  rw [hw])
 obtain ⟨c3,uy,vy,t1,_,t3,t4,t5⟩:=T.at' 0 y rfl
 cases t4
 have ec3:c3=c2:=by
  rw [el] at t1
  exact (Option.some.inj t1).symm
 subst ec3
 obtain ⟨ou,eou,hou⟩:=t3
 have fc:H2 c3=none:=I2.freeC y c3 hcx
 have fc1:H1 c3=none:=I1.freeC y c3 hcx
 have nqc:qa≠c3:=fun z=>by
  rw [z,eou] at hqa
  cases hqa
  cases hou
 have ncc:c'≠c3:=fun z=>by rw [z,fc] at hc';cases hc'
 have fq2:H2 qa=none:=fq.1
 have nqP:qa≠P:=fun z=>by
  obtain ⟨ps,hP⟩:=hL2.tbl
  rw [z,hP] at fq2
  cases fq2
 have I3:=I2.trackF fq hex hqa
 have fc3:upd H2 qa (.frz (PySem.W.kla_obj "<lambda>" qual params body scope [(y,c3)] pm c' ctv) (.own qa)) c3=none:=by rw [zal (Ne.symm nqc)];exact fc
 have cab:X.s₀.heap.objs.size≤c3:=I2.ok.cab y c3 hfn hcx
 have nfr:c3∉frs X.stack:=fun z=>by
  rcases List.mem_cons.mp (I2.stkSub c3 z) with e | hb
  ·exact I2.cne y c3 hcx e
  ·obtain ⟨_,o',ho',_⟩:=I2.ok.funs.mem hb
   exact absurd (Nat.lt_of_lt_of_le (Heap.lt_size ho') cab) (Nat.lt_irrefl _)
 have q3:upd H2 qa (.frz (PySem.W.kla_obj "<lambda>" qual params body scope [(y,c3)] pm c' ctv) (.own qa)) qa=some (.frz (PySem.W.kla_obj "<lambda>" qual params body scope [(y,c3)] pm c' ctv) (.own qa)):=zad
 have hc3:upd H2 qa (.frz (PySem.W.kla_obj "<lambda>" qual params body scope [(y,c3)] pm c' ctv) (.own qa)) c'=some (.frz oc (.own c')):=by rw [zal (fun z=>by rw [z,fq2] at hc';cases hc')];exact hc'
 have bar3:Bar P H1 (upd H2 qa (.frz (PySem.W.kla_obj "<lambda>" qual params body scope [(y,c3)] pm c' ctv) (.own qa))):=fun b o n e=>by
  have:=bar b o n e
  rw [zal (zar this fq2)]
  exact this
 have hL3:zct (upd H2 qa (.frz (PySem.W.kla_obj "<lambda>" qual params body scope [(y,c3)] pm c' ctv) (.own qa))) P lpos qual:=hL2.same fun b o e=>by rw [zal (zar e fq2)];exact e
 have fq1:H1 qa=none:=by
  cases z:H1 qa with
  | none=>rfl
  | some o =>
   rw [bar qa o nqP z] at fq2
   cases fq2
 generalize upd H2 qa (.frz (PySem.W.kla_obj "<lambda>" qual params body scope [(y,c3)] pm c' ctv) (.own qa))=H3 at I3 fc3 q3 hc3 bar3 hL3
 have S4:zaJ H3 (upd H3 c3 (.frz ou (.own c3))):=zah fc3 _
 have sp4:=q1 qa c3 H3 (upd H3 c3 (.frz ou (.own c3))) bar3 hL3 fq1 fc3 fc1 S4 ⟨params,body,scope,lpos,pm,ctv,c',oc,ovs,ot,ou,uy,rfl,S4 _ _ q3,S4 _ _ hc3,hd,hv,ncc,nqc,zad,hou,t5⟩
 have e0:=I3.env0
 have e04:zou X.prog X.w X.K X.mg X.base X.A X.stack s2 (upd H3 c3 (.frz ou (.own c3))):=by
  refine ⟨e0.frames,e0.mod,fun b o e=>⟨(e0.bs b o e).1,?_⟩,e0.bsz,e0.funs,fun b hb=>?_,zle e0.hok fc3 eou,e0.bare⟩
  ·have lt:b<c3:=Nat.lt_of_lt_of_le (Nat.lt_of_lt_of_le (Heap.lt_size e) I2.ok.bsz) cab
   rw [zal (Nat.ne_of_lt lt)]
   exact (e0.bs b o e).2
  ·rw [zal (fun z=>nfr (by rw [← z];exact hb))]
   exact e0.frf b hb
 have r2:zbY [v,.ref qa] [u,.ref qa]:=.cons r1 (.cons rfl .nil)
 have hl:([u,Value.ref qa]++[]).length=ps.length:=by
  have:=F.len _ _ _ _ sp4
  rw [← this]
  rfl
 have hbb:=hb s2 [u,.ref qa] I3.kIn hl
 rw [List.append_nil] at hbb
 refine wpAny_call (codeAny_mono (F.run X.A X.stack s2 _ ⟨[u,.ref qa],[]⟩ [u,.ref qa] [v,.ref qa] _ _ hr e04 hbb r2 sp4) fun r s' hq=>?_)
 cases r with
 | error e=>exact hx pins σ H3 s2 e s' I3 (zuy hq fc3 eou nfr)
 | ok fl =>
  cases fl with
  | ret u=>exact I3.after (zvB hq fc3 eou)
  | next=>exact False.elim hq
  | brk=>exact False.elim hq
  | cont=>exact False.elim hq
end
end L2
namespace L2
open PySem PySem.Spec PyProof.Rows
section
open PySem.W
variable {P:Addr} {K:Frag}
theorem zeI (hP:K.lookup P=some (tabObj #[])) (v:Value) (n:Str):specialIn (zbb P K) v n=specialIn K v n:=by
 unfold specialIn
 cases v with
 | ref a =>
  by_cases q:a=P
  ·subst q
   have e1:typeIn (zbb a K) (.ref a)=none:=by show ((zbb a K).lookup a).map (·.cls)=none;rw [zaw];rfl
   have e2:typeIn K (.ref a)=some .none:=by show (K.lookup a).map (·.cls)=_;rw [hP];rfl
   rw [e1,e2]
   rfl
  ·rw [zdW q]
   simp only [zb7 hP]
 | _=>simp only [zb7 hP,typeIn]
theorem znX (hP:K.lookup P=some (tabObj #[])) (v:Value):takesIn (zbb P K) v=takesIn K v:=by
 unfold takesIn
 simp only [zeI hP]
theorem zlI (hP:K.lookup P=some (tabObj #[])) (c mc:Value) (n:Str):findCls (zbb P K) c mc n=findCls K c mc n:=by
 unfold findCls
 simp only [zb7 hP,zeI hP,znX hP]
 congr 1
 funext ma
 congr 1
 funext mg
 congr 1
 funext data
 have key:∀ (a:Value) (f:Value→Option CFound),(a=.ref P→f .none=none)→(typeIn (zbb P K) a).bind f=(typeIn K a).bind f:=fun a f hf=>by
  cases a with
  | ref b =>
   by_cases q:b=P
   ·subst q
    have e1:typeIn (zbb b K) (.ref b)=none:=by show ((zbb b K).lookup b).map (·.cls)=none;rw [zaw];rfl
    have e2:typeIn K (.ref b)=some .none:=by show (K.lookup b).map (·.cls)=_;rw [hP];rfl
    rw [e1,e2]
    exact (hf rfl).symm
   ·rw [zdW q]
  | _=>rfl
 split
 ·rfl
 ·congr 1
  funext o
  cases o with
  | none=>rfl
  | some a =>
   dsimp only
   split
   ·rfl
   ·refine key a _ fun z=>?_
    have e3:specialIn K a "__get__"=none:=by
     rw [z]
     unfold specialIn
     have e2:typeIn K (.ref P)=some .none:=by show (K.lookup P).map (·.cls)=_;rw [hP];rfl
     rw [e2]
     rfl
    rw [e3,if_neg (by decide)]
    rfl
theorem ztf (hP:K.lookup P=some (tabObj #[])) {a:Addr} {T:String} (h:typeIn K (.ref a)=some (.type T)):a≠P:=fun z=>by
 have e:typeIn K (.ref a)=some .none:=by
  show (K.lookup a).map (·.cls)=_
  rw [z,hP]
  rfl
 rw [e] at h
 cases h
theorem ExB.drop (hP:K.lookup P=some (tabObj #[])) {D:Addr} (x:ExB K D):ExB (zbb P K) D:=by
 obtain ⟨h1,h2,h3⟩:=x
 refine ⟨(zeI hP _ _).trans h1,?_,(zlI hP _ _ _).trans h3⟩
 unfold readsIn at h2 ⊢
 rw [Bool.and_eq_true,Bool.and_eq_true,Bool.and_eq_true,Bool.and_eq_true] at h2
 have ne:=ztf hP (T:="type") (beq_iff_eq.mp h2.1.1.1.2)
 rw [zjb hP,zdW ne,zb7 hP,zb7 hP,zd9 hP]
 simp only [Bool.and_eq_true]
 exact h2
theorem ExI.drop (hP:K.lookup P=some (tabObj #[])) {C f:Addr} (x:ExI K C f):ExI (zbb P K) C f:=by
 obtain ⟨⟨a1,a2,a3,a4,a5,a6,a7,a8,a9,a10,a11,a12,a13,a14,a15,lk,tl⟩,h2,h3,h4,h5,h6⟩:=x
 have nC:C≠P:=fun z=>by rw [z,hP] at lk;cases lk
 have nf:=ztP hP h3
 refine ⟨⟨a1,a2,a3,a4,a5,a6,a7,a8,a9,a10,a11,a12,a13,a14,a15,(zaM nC).trans lk,(zhu hP _ _).trans tl⟩,(zb7 hP _ _).trans h2,?_,(zhC hP _).trans h4,(zhg hP _ _).trans h5,(zb7 hP _ _).trans h6⟩
 unfold isFn at h3 ⊢
 rw [zdW nf]
 exact h3
theorem zdf.drop (hP:K.lookup P=some (tabObj #[])) {C:Addr} (x:zdf K C):zdf (zbb P K) C :=
 ⟨(zb7 hP _ _).trans x.ga,(zb7 hP _ _).trans x.gn,(zb7 hP _ _).trans x.cl,(zhg hP _ _).trans x.mb,(zhg hP _ _).trans x.mo⟩
theorem zif.drop (hP:K.lookup P=some (tabObj #[])) {C:Addr} {f:Str} (x:zif K C f):zif (zbb P K) C f:=by
 refine ⟨x.five.drop hP,?_,(zb7 hP _ _).trans x.na⟩
 have:=x.hd
 unfold hasDictIn at this ⊢
 rw [ziS hP]
 exact this
theorem zrg.drop (hP:K.lookup P=some (tabObj #[])) {a:Addr} {xs:List V} (x:zrg K a xs):zrg (zbb P K) a xs:=by
 obtain ⟨o,its,n,lk,r⟩:=x
 refine ⟨o,its,n,(zaM fun z=>?_).trans lk,r⟩
 rw [z,hP] at lk
 cases lk
 cases r.1
theorem zom.okV {Pg:Program} {w:World} {mg:Str→Option Value} {base:Heap} {x qual:Str} {st:Stmt} {f c:Addr} {fd:FuncData} {N ps:List Str} {k:Nat} {sp:Sp} (F:zom K x qual st f fd c) (S:zaK N ps (zam st)) (len:∀ vs H Q E,sp vs H Q E→vs.length=ps.length)
  (hbody:∀ (A:Around) (outer:List Env) (s:Shared) (H:Hp) (vs:List V) (Q:VK) (E:XK),zek k (A.deeper (envOfC qual (zam st) s.heap.objs.size f (.ref c)))→sp vs H Q E →
   ∃ t,PSs (zk7 (CXV Pg w) Pg w K mg base N qual (zam st) f (.ref c) A outer s H E) (zca st) t∧t { nx:=fun _ H'=>Q .non H',rt:=Q } (zbA N vs) H):zc8 Pg w K mg base (CXV Pg w) (k+1) f fd ps sp:=by
 obtain ⟨⟨oc,od,kV,doc,pm,an,ct,osl,rfl,lk,hcd⟩,_⟩:=F
 exact zqX lk hcd S len fun A outer s H vs Q E hr hsp=>hbody A outer s H vs Q E hr hsp
end
end L2
namespace L2
open PySem PySem.Spec PyProof.Rows
def rInN (K:PySem.W.Frag):R2:=fun x y H Q=>∃ p xs,x=.non∧y=.ref p∧SqL K H p xs∧(∀ z∈xs,z=.non∨(∃ i:Int,z=.int i)∨∃ a ys,z=.ref a∧SqT K H a ys)∧Q (.bl (xs.any fun z=>decide (z=.non))) H
def eqN:Value→Bool
 | .none=>true
 | _=>false
theorem zoT:∀ {xs:List V} {us:List Value},zbY xs us→(∀ z∈xs,z=.non∨(∃ i:Int,z=.int i)∨∃ a,z=.ref a)→us.any eqN=xs.any fun z=>decide (z=.non)
 | _,_,.nil,_=>rfl
 | y::xs,u::us,.cons r t,f=>by
  rw [List.any_cons,List.any_cons,zoT t fun z hz=>f z (List.mem_cons_of_mem _ hz)]
  congr 1
  rcases f y List.mem_cons_self with rfl | ⟨i,rfl⟩ | ⟨a,rfl⟩
  ·cases r;rfl
  ·obtain ⟨k,rfl⟩:=r;rfl
  ·cases r;rfl
theorem zw2 {X:Cx} (hu:X.A.units+64<cLine):OpR X (compareOp .In) (rInN X.K):=by
 intro pins s σ H x y v u Q I rx ry h
 obtain ⟨p,xs,rfl,rfl,hq,fs,q⟩:=h
 cases rx
 cases ry
 obtain ⟨its,r,pl,hz⟩:=I.list hq
 refine SeqAt.in_listAt eqN pl.isList (fun w hw=>?_) ⟨.bl _,H,I,rfl,?_⟩
 ·have hw:w∈its:=by simpa using hw
  obtain ⟨j,hj⟩:=List.mem_iff_getElem?.mp hw
  have lj:=(List.getElem?_eq_some_iff.mp hj).1
  have ex:xs[j]?=some (xs[j]'(by rw [r.length];exact lj)):=List.getElem?_eq_getElem _
  obtain ⟨w',hw',rw'⟩:=r.get ex
  rw [hj] at hw'
  cases hw'
  rcases fs _ (List.mem_of_getElem? ex) with e | ⟨i,e⟩ | ⟨a,ys,e,ht⟩
  ·rw [e] at rw'
   cases rw'
   exact SeqAt.EqAt.same _
  ·rw [e] at rw'
   obtain ⟨k,rfl⟩:=rw'
   exact SeqAt.EqAt.int_none i k
  ·rw [e] at rw'
   cases rw'
   obtain ⟨_,_,pt,_⟩:=I.tuple ht
   exact SeqAt.EqAt.tuple_none pt (by show X.A.units+1<cLine;(first|lia|omega))
 ·rw [show its.toArray.any eqN=its.any eqN by simp,zoT r fun z hz=>(fs z hz).imp id (Or.imp id fun ⟨a,_,e,_⟩=>⟨a,e⟩)]
  exact q
end L2
namespace L2
open PySem PySem.Spec PyProof.Rows
def ztn (e:Expr) (qual:Str) (H:Hp) (q:Addr):Prop:=∃ (params:Arguments) (body:Expr) (scope:Scope) (lpos:Pos) (pm ctv:Value) (c':Addr) (oc:Obj) (ovs:Array Value) (t:Nat),
 e=.Lambda params body scope lpos∧H q=some (.frz (PySem.W.kla_obj "<lambda>" qual params body scope [] pm c' ctv) (.own q))∧H c'=some (.frz oc (.own c'))∧oc.data=.fields ovs∧ovs[1]?=some (.str qual t)
theorem ztn.same {e:Expr} {qual:Str} {H H':Hp} {q:Addr} (h:ztn e qual H q) (s:zaJ H H'):ztn e qual H' q:=by
 obtain ⟨a1,a2,a3,a4,a5,a6,a7,a8,a9,a10,b1,b2,b3,b4⟩:=h
 exact ⟨a1,a2,a3,a4,a5,a6,a7,a8,a9,a10,b1,s _ _ b2,s _ _ b3,b4⟩
def zmE (e:Expr) (qual:Str) (i:Nat) (tb:TE) (ta:TA):TE:=fun σ H Q=>∃ q,σ[i]?=some (some (.ref q))∧ta σ H fun vs H1=>∃ u1 u2,vs=[u1,u2]∧ztn e qual H1 q∧tb [some u1,some u2] H1 Q
section
variable {X:Cx} {x z f:Str} {p pos lpos:Pos} {e1 e2 body:Expr} {params:Arguments} {scope:Scope} {qual:Str} {ta:TA} {tb:TE} {i k:Nat}
theorem zre (hN:X.N[i]?=some f) (hv:Vis X.env.scope f) (hr:zek (k+1) X.A) (ha:PA X [e1,e2] ta)
  (hbind:∀ (cl:List (Str×Addr)) (pm cd ctv u1 u2:Value),bindArgs (PySem.W.kla_fn "<lambda>" qual params body scope cl pm cd ctv) ⟨[u1,u2],[]⟩=pure [(x,u1),(z,u2)]) (hne:x≠z) (hlx:scope.names.lookup x=some .local) (hlz:scope.names.lookup z=some .local) (hk:scope.kind=.function) (hco:scope.isCoroutine=false) (hgen:scope.isGenerator=false)
  (hcell:∀ y∈scope.names,y.2≠.cell) (hall:∀ n∈scope.names,n.2≠.free)
  (hb:∀ (f:Addr) (cd:Value) (A:Around) (outer:List Env) (s:Shared) (H:Hp),zek k (zld X.prog X.w X.K X.mg X.base [x,z] qual scope f cd [] A outer s H).A→PE (zld X.prog X.w X.K X.mg X.base [x,z] qual scope f cd [] A outer s H) body tb)
  (hd:(f == ("__debug__":Str))=false:=by decide) (hcd:(f == ("__classdict__":Str))=false:=by decide)
  (he:starEach [e1,e2] X.env=(false,eval e1 X.env)::starEach [e2] X.env:=by rfl) (hpl:(backTo pos (starEach [e2] X.env)).any (·.1)=false:=by rfl) :
  PE X (.Call (.Name f p) [e1,e2] [] pos) (zmE (.Lambda params body scope lpos) qual i tb ta):=by
 intro pins s σ H Q I h
 obtain ⟨q,hq,h⟩:=h
 refine wpAny_Call_Name_kw (thn (zpv (pos:=p) hN hv hd hcd pins s σ H (fun v H1=>v=.ref q∧H1=H) I ⟨.ref q,hq,rfl,rfl⟩) fun fv s1 hQ'=>?_)
 obtain ⟨v,H1,I1,r1,e,eH⟩:=hQ'
 subst e
 subst eH
 cases r1
 refine PySem.W.callWith_of (P:=fun h=>∃ (cl:List (Str×Addr)) (pm ctv:Value) (c':Addr),h.get? q=some (PySem.W.kla_obj "<lambda>" qual params body scope cl pm c' ctv)) (by rw [he];show ((false || (backTo pos (starEach [e2] X.env)).any (·.1)) || false)=false;rw [hpl];rfl) (fun h ⟨cl,pm,ctv,c',e⟩=>⟨.frame,.inl rfl,(PySem.W.Looks.ld (part:=none) e).andThen .now⟩) ?_
 have hA:=ha pos pins s1 σ H1 _ I1 h
 rw [he] at hA ⊢
 refine Calls.evalArgs_plain (thn hA fun us s2 hQ'=>?_)
 obtain ⟨vs,H2,I2,r2,q2⟩:=hQ'
 obtain ⟨v1,v2,rfl,L,q2⟩:=q2
 obtain ⟨pa,bo,sc,lp,pm,ctv,c',oc,ovs,tk,eL,hq2,hc',hd',hv'⟩:=L
 cases eL
 obtain ⟨u1,u2,rfl,ru1,ru2⟩:=zoe r2
 have eq2:s2.heap.get? q=some (PySem.W.kla_obj "<lambda>" qual params body scope [] pm c' ctv):=(I2.hok q _ hq2).1
 have ec':s2.heap.get? c'=some oc:=(I2.hok c' _ hc').1
 refine ⟨⟨_,pm,ctv,c',eq2⟩,?_⟩
 have e0:=I2.env0
 have T:zrR H2 s2.heap scope [] [] []:=by
  refine ⟨rfl,fun j n hj=>?_,fun n hn=>?_,fun n d e=>?_,fun n m d h1 h2=>?_⟩
  ·cases hj
  ·exact absurd rfl (hall _ (PySem.mem_of_lookup hn))
  ·cases e
  ·cases h1
 refine wpAny_call (codeAny_mono (zj2 (t:=tb) (Ns:=[]) (vs:=[]) (x:=x) (y:=z) (v1:=v1) (v2:=v2) e0 hr.depth hr.hd eq2 ⟨c',oc,ovs,tk,rfl,ec',hd',hv'⟩ (hbind _ _ _ _ _ _) hne hlx hlz hk hco hgen hcell T ru1 ru2 (hb _ _ _ _ _ _ (hr.deeper _)) (Q:=Q) (fun v H' _ q=>q) q2) fun r s' hq=>?_)
 cases r with
 | error e=>exact hq.elim
 | ok fl =>
  cases fl with
  | ret u=>exact I2.after hq
  | next=>exact hq.elim
  | brk=>exact hq.elim
  | cont=>exact hq.elim
end
def zp3 (P:Addr) (e:Expr) (lpos:Pos) (qual:Str) (sp:Sp) (E:XK) (te:TE):TE:=fun σ H Q=>te σ H fun v H1=>zct H1 P lpos qual ∧
 ∀ (q:Addr) (H3:Hp),Bar P H1 H3→zct H3 P lpos qual→H1 q=none→ztn e qual H3 q→sp [v,.ref q] H3 Q E
section
variable {X:Cx} {x:Str} {p pos lpos:Pos} {e body:Expr} {params:Arguments} {scope:Scope} {qual:Str} {te:TE} {k:Nat} {f cc P:Addr} {fd:FuncData} {ps:List Str} {sp:Sp} {E:XK}
theorem zry (F:zc8 X.prog X.w X.K X.mg X.base (CXV X.prog X.w) k f fd ps sp) (hr:zek k X.A) (hg:Gl X x) (hm:X.mg x=some (.ref f)) (hk:PySem.W.keepIn X.K (.ref f)=true) (hb:zbI X.K fd ps []) (hx:zf2 (CXV X.prog X.w) X E) (h1:PE X e te)
  (hcode:X.env.code=.ref cc) (C:PySem.W.CodeHd X.base cc P) (hB:X.base.BuiltinsAt X.mg P) (hcl:closureFor scope X.env=pure []) (hdef:defaultsOf params X.env=([],[])) (hq:X.env.qual++"<lambda>"=qual) (hex:X.ex=[])
  (hdb:(x == ("__debug__":Str))=false:=by decide) (he:starEach [e,.Lambda params body scope lpos] X.env=(false,eval e X.env)::starEach [.Lambda params body scope lpos] X.env:=by rfl)
  (he2:starEach [.Lambda params body scope lpos] X.env=(false,eval (.Lambda params body scope lpos) X.env)::starEach [] X.env:=by rfl) (hpl:(backTo pos (starEach [.Lambda params body scope lpos] X.env)).any (·.1)=false:=by rfl) :
  PE X (.Call (.Name x p) [e,.Lambda params body scope lpos] [] pos) (zp3 P (.Lambda params body scope lpos) lpos qual sp E te):=by
 intro pins s σ H Q I h
 refine wpAny_Call_Name_kw (zdK I hg hm ?_ hdb)
 refine PySem.W.callWith_K (h₀:=X.base) I.ok.mod.kin hk ?_ he hpl
 rw [he]
 show wpAny _ _ (spliced ((false,eval e X.env)::backTo pos (starEach [.Lambda params body scope lpos] X.env))) _ _ s
 refine Calls.spliced_cons (thn (h1 pins s σ H _ I h) fun u s1 hQ'=>?_)
 obtain ⟨v,H1,I1,r1,hL,q1⟩:=hQ'
 rw [he2]
 show wpAny _ _ (spliced ((false,eval (.Lambda params body scope lpos) X.env)::backTo pos (starEach [] X.env))) _ _ s1
 refine Calls.spliced_cons (zmJ I1 hcode C hB hL hcl hdef hq fun qa c' pm ctv H2 s2 oc ovs ot I2 bar hL2 hqa hc' hd hv fq=>?_)
 refine Calls.spliced_nil ⟨I2.kIn,?_⟩
 have fq2:H2 qa=none:=fq.1
 have nqP:qa≠P:=fun z=>by
  obtain ⟨ps,hP⟩:=hL2.tbl
  rw [z,hP] at fq2
  cases fq2
 have I3:=I2.trackF fq hex hqa
 have q3:upd H2 qa (.frz (PySem.W.kla_obj "<lambda>" qual params body scope [] pm c' ctv) (.own qa)) qa=some (.frz (PySem.W.kla_obj "<lambda>" qual params body scope [] pm c' ctv) (.own qa)):=zad
 have hc3:upd H2 qa (.frz (PySem.W.kla_obj "<lambda>" qual params body scope [] pm c' ctv) (.own qa)) c'=some (.frz oc (.own c')):=by rw [zal (fun z=>by rw [z,fq2] at hc';cases hc')];exact hc'
 have bar3:Bar P H1 (upd H2 qa (.frz (PySem.W.kla_obj "<lambda>" qual params body scope [] pm c' ctv) (.own qa))):=fun b o n e=>by
  have:=bar b o n e
  rw [zal (zar this fq2)]
  exact this
 have hL3:zct (upd H2 qa (.frz (PySem.W.kla_obj "<lambda>" qual params body scope [] pm c' ctv) (.own qa))) P lpos qual:=hL2.same fun b o e=>by rw [zal (zar e fq2)];exact e
 have fq1:H1 qa=none:=by
  cases z:H1 qa with
  | none=>rfl
  | some o =>
   rw [bar qa o nqP z] at fq2
   cases fq2
 generalize upd H2 qa (.frz (PySem.W.kla_obj "<lambda>" qual params body scope [] pm c' ctv) (.own qa))=H3 at I3 q3 hc3 bar3 hL3
 have sp4:=q1 qa H3 bar3 hL3 fq1 ⟨params,body,scope,lpos,pm,ctv,c',oc,ovs,ot,rfl,q3,hc3,hd,hv⟩
 have r2:zbY [v,.ref qa] [u,.ref qa]:=.cons r1 (.cons rfl .nil)
 have hl:([u,Value.ref qa]++[]).length=ps.length:=by
  have:=F.len _ _ _ _ sp4
  rw [← this]
  rfl
 have hbb:=hb s2 [u,.ref qa] I3.kIn hl
 rw [List.append_nil] at hbb
 refine wpAny_call (codeAny_mono (F.run X.A X.stack s2 _ ⟨[u,.ref qa],[]⟩ [u,.ref qa] [v,.ref qa] _ _ hr I3.env0 hbb r2 sp4) fun r s' hq=>?_)
 cases r with
 | error e=>exact hx pins σ H3 s2 e s' I3 hq
 | ok fl =>
  cases fl with
  | ret u=>exact I3.after hq
  | next=>exact False.elim hq
  | brk=>exact False.elim hq
  | cont=>exact False.elim hq
end
end L2
namespace L2
open PySem PySem.Spec PyProof.Rows
def f2 (o:Obj):Option Value:=match o.data with
 | .fields vs=>vs[2]?
 | _=>none
section
variable {α β:Type}
def Kf:Sem α→Prop
 | .pure _=>True
 | .unsupported _=>True
 | .rule _ k=>Kf (k ())
 | .at _ k=>Kf (k ())
 | .load _ _ k=>∀ o,Kf (k o)
 | .update _ _ f k=>(∀ o:Obj,f2 (f o)=f2 o∧(f o).isFreed=o.isFreed)∧Kf (k ())
 | .alloc _ k=>∀ a,Kf (k a)
 | .stack k=>∀ l,Kf (k l)
 | _=>False
theorem za9 {f:α→Sem β} (hf:∀ x,Kf (f x)):∀ {t:Sem α},Kf t→Kf (t >>= f)
 | .pure a,_=>hf a
 | .unsupported _,_=>trivial
 | .rule _ k,h=>za9 hf (t:=k ()) h
 | .at _ k,h=>za9 hf (t:=k ()) h
 | .load _ _ k,h=>fun o=>za9 hf (t:=k o) (h o)
 | .update _ _ _ k,h=>⟨h.1,za9 hf (t:=k ()) h.2⟩
 | .alloc _ k,h=>fun o=>za9 hf (t:=k o) (h o)
 | .stack k,h=>fun o=>za9 hf (t:=k o) (h o)
 | .raise _,h=>h.elim
 | .finish _,h=>h.elim
 | .loadIfAlive _ _,h=>h.elim
 | .point _ _,h=>h.elim
 | .fresh _,h=>h.elim
 | .ask _,h=>h.elim
 | .handled _ _,h=>h.elim
 | .thread _,h=>h.elim
 | .register ..,h=>h.elim
 | .choose ..,h=>h.elim
 | .os ..,h=>h.elim
 | .call ..,h=>h.elim
 | .newGen ..,h=>h.elim
 | .genState ..,h=>h.elim
 | .resume ..,h=>h.elim
 | .yield ..,h=>h.elim
 | .fork ..,h=>h.elim
 | .await ..,h=>h.elim
def zpk (e:Addr) (h:Heap):Prop:=∃ o,h.get? e=some o∧f2 o=some .none
theorem zlO {M:Model} {Γ:PySem.Ctx} {Q:α→Pos→Shared→Prop} {E E':Value→Pos→Shared→Prop} {e:Addr}:∀ {t:Sem α} {p:Pos} {s:Shared},Kf t→zpk e s.heap→Sem.wp M Γ t Q E p s →
  Sem.wp M Γ t (fun a p s'=>Q a p s'∧zpk e s'.heap) E' p s
 | .pure _,_,_,_,d,h=>⟨h,d⟩
 | .unsupported _,_,_,_,_,h=>h
 | .rule _ k,_,_,c,d,h=>zlO (t:=k ()) c d h
 | .at _ k,_,_,c,d,h=>zlO (t:=k ()) c d h
 | .load _ _ k,_,_,c,d,⟨o,ho,h⟩=>⟨o,ho,zlO (t:=k o) (c o) d h⟩
 | .update a _ f k,p,s,c,d,⟨hi,h⟩=>by
  refine ⟨hi,zlO (t:=k ()) c.2 ?_ h⟩
  obtain ⟨o,ho,hd⟩:=d
  by_cases ea:a=e
  ·subst ea
   have nf:o.isFreed=false:=(Heap.get?_some_iff.mp ho).2
   exact ⟨f o,Heap.get?_update_self f ho (by rw [(c.1 o).2];exact nf),by rw [(c.1 o).1];exact hd⟩
  ·exact ⟨o,(Heap.get?_update_other _ f ea).trans ho,hd⟩
 | .alloc o k,p,s,c,⟨o',ho,hd⟩,h=>zlO (t:=k _) (c _) ⟨o',Heap.get?_push_of_some _ ho,hd⟩ h
 | .stack k,_,_,c,d,h=>zlO (t:=k _) (c _) d h
 | .raise _,_,_,c,_,_=>c.elim
 | .finish _,_,_,c,_,_=>c.elim
 | .loadIfAlive _ _,_,_,c,_,_=>c.elim
 | .point _ _,_,_,c,_,_=>c.elim
 | .fresh _,_,_,c,_,_=>c.elim
 | .ask _,_,_,c,_,_=>c.elim
 | .handled _ _,_,_,c,_,_=>c.elim
 | .thread _,_,_,c,_,_=>c.elim
 | .register ..,_,_,c,_,_=>c.elim
 | .choose ..,_,_,c,_,_=>c.elim
 | .os ..,_,_,c,_,_=>c.elim
 | .call ..,_,_,c,_,_=>c.elim
 | .newGen ..,_,_,c,_,_=>c.elim
 | .genState ..,_,_,c,_,_=>c.elim
 | .resume ..,_,_,c,_,_=>c.elim
 | .yield ..,_,_,c,_,_=>c.elim
 | .fork ..,_,_,c,_,_=>c.elim
 | .await ..,_,_,c,_,_=>c.elim
theorem zmH {M:Model} {A:Around} {t:Sem α} {Q:α→Shared→Prop} {E E':Value→Shared→Prop} {s:Shared} {e:Addr} (c:Kf t) (d:zpk e s.heap) (h:wpAny M A t (fun a s'=>zpk e s'.heap→Q a s') E s):wpAny M A t Q E' s:=fun Γ p hΓ =>
 Sem.wp_mono M Γ t (fun _ _ _ z=>z.1 z.2) (fun _ _ _ z=>z) p s (zlO c d (h Γ p hΓ))
end
theorem zw1 {i:Nat} (hi:i≠2) (x:Value) (o:Obj):f2 (Obj.mapFields (·.setIfInBounds i x) o)=f2 o∧(Obj.mapFields (·.setIfInBounds i x) o).isFreed=o.isFreed:=by
 obtain ⟨c,d,dat,sl⟩:=o
 cases dat <;> first | exact ⟨Array.getElem?_setIfInBounds_ne hi,rfl⟩ | exact ⟨rfl,rfl⟩
theorem zb5 {α:Type} (a:α):Kf (pure a:Sem α):=trivial
theorem zfg {α:Type} (w:String):Kf (unsupported w:Sem α):=trivial
theorem zlC (a:Addr):Kf (load a):=fun _=>trivial
theorem zjH:Kf stack:=fun _=>trivial
theorem zkU {α:Type} {c:Prop} [Decidable c] {a b:Sem α} (h1:Kf a) (h2:Kf b):Kf (if c then a else b):=by
 split
 ·exact h1
 ·exact h2
theorem zhf (v:Value) (i:Nat):Kf (field v i):=by
 unfold field fieldsOf
 refine za9 (fun x=>?_) ?_
 ·split
  ·exact zb5 _
  ·exact zfg _
 ·split
  ·refine za9 (fun o=>?_) (zlC _)
   split
   ·exact zb5 _
   ·exact zfg _
  ·exact zfg _
theorem zfD {i:Nat} (hi:i≠2) (v x:Value):Kf (setField v i x):=by
 unfold setField updateField
 split
 ·refine za9 (fun o=>?_) (zlC _)
  split
  ·exact zkU ⟨zw1 hi _,trivial⟩ (zfg _)
  ·exact zfg _
 ·exact zfg _
theorem zkw (ty:String) (vs:List Value):Kf (newFields ty vs):=by
 unfold newFields newObj newObjAsIs
 simp only
 split
 ·exact zfg _
 ·exact za9 (fun _=>zb5 _) (show Kf (alloc _) from fun _=>trivial)
theorem zfl:∀ l:List Env,Kf (readyFrames l)
 | []=>trivial
 | env::outer=>by
  have ih:=zfl outer
  unfold readyFrames
  split
  ·refine za9 (fun o=>?_) (zlC _)
   refine zkU (zb5 _) ?_
   refine za9 (fun im=>?_) ?_
   ·refine za9 (fun bk=>?_) ?_
    ·exact za9 (fun _=>ih) ⟨fun o=>⟨rfl,by obtain ⟨c,d,dat,sl⟩:=o;cases dat <;> rfl⟩,trivial⟩
    ·unfold keptBack underTheClaimsCaller
     split
     ·refine zkU (zb5 _) ?_
      exact za9 (fun _=>zb5 _) (za9 (fun _=>zb5 _) zjH)
     ·exact zb5 _
   ·unfold behindIsImport
    refine zkU (zb5 _) (zkU (zb5 _) ?_)
    exact za9 (fun _=>zb5 _) (zhf _ _)
  ·exact zfg _
theorem zm7 (env:Env):Kf (PySem.frameOf env):=by
 unfold PySem.frameOf frameEnvs
 refine za9 (fun x=>?_) (za9 (fun _=>zb5 _) zjH)
 refine za9 (fun y=>?_) ?_
 ·split
  ·exact zb5 _
  ·exact zfg _
 ·unfold frameObject
  split
  ·exact zb5 _
  ·exact za9 (fun _=>zb5 _) (zfl _)
theorem zhL (f:Addr) (b:Bool):Kf (entryPlaceOf f b):=by
 unfold entryPlaceOf
 refine za9 (fun x=>?_) zjH
 split
 ·exact zb5 _
 ·exact zb5 _
theorem zg2 (e:Value) (env:Env):Kf (noteFrame e env):=by
 unfold noteFrame EntryCells.newEntry
 split
 ·refine za9 (fun head=>?_) (zhf _ _)
  have zhE:∀ f:Addr,Kf (do let a ← PySem.frameOf env;let pl ← entryPlaceOf f (head != .none);let b ← newFields "traceback" ([head,a,.none,rawInt f,.none]++(if pl.isEmpty then List.replicate 6 .none else pl));setField e 1 b):=fun f =>
   za9 (fun _=>za9 (fun _=>za9 (fun _=>zfD (by decide) _ _) (zkw _ _)) (zhL _ _)) (zm7 _)
  refine zkU ?_ (zhE _)
  refine za9 (fun x=>zkU (zb5 _) ?_) (zhf _ _)
  exact za9 (fun _=>zhE _) (zfD (by decide) _ _)
 ·exact zfg _
theorem zeU (e:Value) (f:Option Addr):Kf (setFlight e f):=by
 unfold setFlight
 exact za9 (fun _=>zkU (zfD (by decide) _ _) (zb5 _)) (zhf _ _)
theorem zmV (env:Env) (e:Value):Kf (leaving env e):=by
 unfold leaving
 exact za9 (fun _=>zeU _ _) (zg2 _ _)
def CXW (P:Program) (w:World):CXT:=fun outer H s E e s'=>CXV P w outer H s E e s'∧∃ ea,e=.ref ea∧zpk ea s'.heap
theorem Inv.xeq {X:Cx} {pins:List (Addr×Obj)} {σ:St} {H:Hp} {s:Shared} {xe:Value→Shared→Prop} (I:Inv X pins σ H s):Inv { X with xe:=xe } pins σ H s :=
 ⟨⟨I.ok.mod,I.ok.kind,I.ok.glob,I.ok.blt,I.ok.above,I.ok.inj,I.ok.has,I.ok.cab,I.ok.hd,I.ok.frames,I.ok.stk,I.ok.exf,I.ok.bs,I.ok.bsz,I.ok.noex,I.ok.exfs,I.ok.funs,I.ok.frf⟩,I.os,I.bare,I.base,I.loc,I.cell,I.free,I.freeC,I.pin,I.hok,I.len⟩
section
variable {P:Program} {w:World} {K:PySem.W.Frag} {mg:Str→Option Value} {base:Heap} {N:List Str} {qual:Str} {scope:Scope} {f:Addr} {cd:Value} {A:Around} {outer:List Env} {s₀:Shared} {H₀:Hp} {E:XK}
theorem zls:zlD (zk7 (CXW P w) P w K mg base N qual scope f cd A outer s₀ H₀ E) E:=by
 intro pins σ H s y C dx I hy n0 q
 have I':Inv (zk7 (CXV P w) P w K mg base N qual scope f cd A outer s₀ H₀ E) pins σ H s:=I.xeq
 have h:=zgw pins σ H s y C dx I' hy n0 q
 obtain ⟨⟨oy,t0,gy,cy,dy,fy⟩,_⟩:=(I.hok y _ hy:zbS _ _ H s.heap y (zoo y C dx))
 exact zmH (zmV _ _) ⟨oy,gy,by unfold f2;rw [fy];rfl⟩ (wpAny_mono h (fun _ s' z d=>⟨z,y,rfl,d⟩) fun _ _ z=>z)
end
theorem zwr {P:Program} {w:World} {X:Cx}:zf2 (CXW P w) X E0:=fun _ _ _ _ _ _ _ ⟨⟨_,_,_,_,_,_,_,x,_⟩,_⟩=>x.want.elim
theorem Fun.okW {P:Program} {w:World} {K:PySem.W.Frag} {mg:Str→Option Value} {base:Heap} {x qual:Str} {st:Stmt} {f:Addr} {fd:FuncData} {N ps:List Str} {k:Nat} {sp:Sp} (F:Fun K x qual st f fd) (S:zaK N ps (zam st)) (len:∀ vs H Q E,sp vs H Q E→vs.length=ps.length)
  (hbody:∀ (cdv:Value) (A:Around) (outer:List Env) (s:Shared) (H:Hp) (vs:List V) (Q:VK) (E:XK),zek k (A.deeper (envOfC qual (zam st) s.heap.objs.size f cdv))→sp vs H Q E →
   ∃ t,PSs (zk7 (CXW P w) P w K mg base N qual (zam st) f cdv A outer s H E) (zca st) t∧t { nx:=fun _ H'=>Q .non H',rt:=Q } (L2.zbA N vs) H):zc8 P w K mg base (CXW P w) (k+1) f fd ps sp:=by
 obtain ⟨oc,od,kV,doc,pm,an,cdv,ct,osl,rfl,lk,hcd⟩:=F.ex
 exact zqX lk hcd S len fun A outer s H vs Q E hr hsp=>hbody cdv A outer s H vs Q E hr hsp
structure zob (k:Nat) (A:Around):Prop where
 dp:A.depth+3*k+5<recursionLimit
 un:A.units+16*k+200<cLine
theorem zek.h {k:Nat} {A:Around} (r:zek k A) (v:Option Value):zob k (A.mark v):=⟨r.dp,r.un⟩
theorem zob.make {k:Nat} {A:Around} (r:zob (k+1) A) (C:Addr) (us:List Value) (kw:List (Str×Value)):zob k (A.under (.builtin "type.__call__" ⟨.ref C::us,kw⟩)) :=
 ⟨by rw [ziw];have:=r.dp;(first|lia|omega),by rw [ziu];have:=r.un;(first|lia|omega)⟩
structure zrV (P:Program) (w:World) (K:PySem.W.Frag) (mg:Str→Option Value) (base:Heap) (k:Nat) (f:Addr) (fd:FuncData) (ps:List Str) (sp:Sp):Prop where
 len:∀ vs H Q E,sp vs H Q E→vs.length=ps.length
 run:∀ (A:Around) (outer:List Env) (s:Shared) (H:Hp) (args:Args) (us:List Value) (vs:List V) (Q:VK) (E:XK),zob k A→zou P w K mg base A outer s H→BindsTo s fd args (ps.zip us)→zbY vs us→sp vs H Q E →
  codeAny (model P w) A (.call (.ref f) args) (CR CX0 outer P w H s Q E) s
def cxH (P:Program) (w:World) (K:PySem.W.Frag) (mg:Str→Option Value) (base:Heap) (N:List Str) (qual:Str) (scope:Scope) (f:Addr) (cd:Value) (A:Around) (outer:List Env) (s:Shared) (H:Hp) (E:XK):Cx:={ zk7 CX0 P w K mg base N qual scope f cd A outer s H E with calm:=false }
theorem Fun.okH {P:Program} {w:World} {K:PySem.W.Frag} {mg:Str→Option Value} {base:Heap} {x qual:Str} {st:Stmt} {f:Addr} {fd:FuncData} {N ps:List Str} {k:Nat} {sp:Sp} (F:Fun K x qual st f fd) (S:zaK N ps (zam st)) (len:∀ vs H Q E,sp vs H Q E→vs.length=ps.length)
  (hbody:∀ (cdv:Value) (A:Around) (outer:List Env) (s:Shared) (H:Hp) (vs:List V) (Q:VK) (E:XK),sp vs H Q E →
   ∃ t,PSs (cxH P w K mg base N qual (zam st) f cdv A outer s H E) (zca st) t∧t { nx:=fun _ H'=>Q .non H',rt:=Q } (L2.zbA N vs) H):zrV P w K mg base k f fd ps sp:=by
 obtain ⟨oc,od,kV,doc,pm,an,cdv,ct,osl,rfl,lk,hcd⟩:=F.ex
 refine ⟨len,fun A outer s H args us vs Q E hr e0 hb r hsp=>?_⟩
 have hl:=len _ _ _ _ hsp
 have KX:K.In s.heap:=e0.mod.kin.keeps fun b o e=>(e0.bs b o e).1
 have lim:s.heap.NoLimit:=e0.mod.nolimit.keeps fun b o e=>(e0.bs b o e).1
 have hkind:∀ y∈ps.zip us,(zam st).names.lookup y.1=some .local∨((zam st).names.lookup y.1=some .cell∧((cellsFrom (s.heap.objs.size+1) (zam st).names []).lookup y.1).isSome=true):=fun ⟨n,v⟩ hy=>by
  rcases S.par n (List.of_mem_zip hy).1 with q | q
  ·exact .inl q
  ·exact .inr ⟨q,PySem.W.cellsFrom_some _ _ _ (.inl q)⟩
 refine codeAny_call_function (by have:=hr.dp;(first|lia|omega)) (KX _ _ lk) rfl S.co S.gen rfl (PySem.W.codeRec_of KX hcd) (hb _ _ _ _ ?_)
 refine wpAny_newFunctionEnv_cells S.kind hkind fun env he s1 x=>?_
 subst he
 refine ⟨lim.keeps x.toInCall.keep,codeAny_func ?_⟩
 obtain ⟨t,ht,hq⟩:=hbody cdv A outer s H vs Q E hsp
 have e1:zou P w K mg base { A with handled:=none } outer s H:=⟨e0.frames,e0.mod,e0.bs,e0.bsz,e0.funs,e0.frf,e0.hok,e0.bare⟩
 have I0:Inv (zk7 CX0 P w K mg base N qual (zam st) f cdv { A with handled:=none } outer s H E) [] (zbA N vs) H s1:=zkx S rfl e1 hl r x
 have I:Inv (cxH P w K mg base N qual (zam st) f cdv A outer s H E) [] (zbA N vs) H s1 :=
  ⟨⟨I0.ok.mod,I0.ok.kind,I0.ok.glob,I0.ok.blt,I0.ok.above,I0.ok.inj,I0.ok.has,I0.ok.cab,(by intro z;cases z),Around.frames_deeper e0.frames,I0.ok.stk,I0.ok.exf,I0.ok.bs,I0.ok.bsz,I0.ok.noex,I0.ok.exfs,I0.ok.funs,I0.ok.frf⟩,I0.os,I0.bare,I0.base,I0.loc,I0.cell,I0.free,I0.freeC,I0.pin,I0.hok,I0.len⟩
 refine wpAny_mono (ht [] s1 (zbA N vs) H _ I hq) (fun fl s' hs=>?_) fun e s' hs=>hs
 have fin:∀ {σ':St} {H':Hp} {v:V} {u:Value},Inv (cxH P w K mg base N qual (zam st) f cdv A outer s H E) [] σ' H' s'→zcs v u→Q v H'→CE outer P w H s Q u s' :=
  fun {σ' H' v u} J rv q=>⟨v,H',J.os,J.bare,J.base,J.hok,rv,q⟩
 cases fl with
 | ret u =>
  obtain ⟨v,σ',H',J,rv,q⟩:=hs
  exact fin J rv q
 | next =>
  obtain ⟨σ',H',J,q⟩:=hs
  exact fin (v:=V.non) (u:=Value.none) J rfl q
 | brk =>
  obtain ⟨_,_,_,q⟩:=hs
  exact False.elim q
 | cont =>
  obtain ⟨_,_,_,q⟩:=hs
  exact False.elim q
theorem ziZ:entryFor table "proto.unchain"=some Builtin.«proto.unchain»:=entryFor_of_fast (by kernel_rfl)
theorem zfS {α:Type} {prog:Program} {w:World} {A:Around} {E:Value→Shared→Prop} {s:Shared} {y ea:Addr} {oy oe:Obj} {fy:Array Value} {Q:α→Shared→Prop} (hh:A.handled=some (.ref ea)) (ne:ea≠y) (ge:s.heap.get? ea=some oe) (fe:f2 oe=some .none)
  (gy:s.heap.get? y=some oy) (dy:oy.data=.fields fy) (h2:2<fy.size) (h:E (.ref y) { s with heap:=s.heap.update y (Obj.mapFields (·.setIfInBounds 2 (.ref ea))) }):wpAny (model prog w) A (raiseNew (.ref y):Sem α) Q E s:=by
 obtain ⟨vs,de,e2⟩:∃ vs,oe.data=.fields vs∧vs[2]?=some Value.none:=by
  unfold f2 at fe
  split at fe
  ·exact ⟨_,by assumption,fe⟩
  ·cases fe
 unfold raiseNew
 refine wpAny_bind (wpAny_handled ?_)
 rw [hh]
 have nb:(Value.ref ea != Value.ref y)=true:=by simpa using ne
 simp only [nb,if_true]
 refine wpAny_bind (wpAny_holding (wpAny_runValue (codeAny_builtin ziZ ?_)))
 unfold Builtin.«proto.unchain»
 refine wpAny_bind (wpAny_field ge de e2 ?_)
 rw [if_pos (show (Value.none == Value.none)=true by decide)]
 wp_walk
 rw [dy]
 dsimp only
 rw [if_pos h2]
 exact wpAny_update' gy (wpAny_throw h)
def excE (x:Addr) (C dx:Addr):HO:=.ext fun h=>∃ o t0 c2,h.get? x=some o∧o.cls=.ref C∧o.dict=some dx∧o.data=.fields #[.ref t0,.none,c2,.none,.bool false,.none]
def zoQ (X:Cx) (E:XK):Prop:=∀ (pins:List (Addr×Obj)) (σ:St) (H:Hp) (s:Shared) (y C dx:Addr),Inv X pins σ H s→H y=some (excE y C dx)→X.s₀.heap.get? y=none→E (.ref C) (some dx) (zeg H y)→X.xe (.ref y) s
section
variable {P:Program} {w:World} {K:PySem.W.Frag} {mg:Str→Option Value} {base:Heap} {N:List Str} {qual:Str} {scope:Scope} {f:Addr} {cd:Value} {A:Around} {outer:List Env} {s₀:Shared} {H₀:Hp} {E:XK}
theorem ztz:zoQ (zk7 (CXV P w) P w K mg base N qual scope f cd A outer s₀ H₀ E) E:=by
 intro pins σ H s y C dx I hy n0 q
 replace n0:s₀.heap.get? y=none:=n0
 obtain ⟨⟨oy,t0,c2,gy,cy,dy,fy⟩,_⟩:=(I.hok y _ hy:zbS _ _ H s.heap y (excE y C dx))
 have hfr:=I.ok.frames
 have hst:s.heap.FunFrames base (envOfC qual scope s₀.heap.objs.size f cd::outer):=I.stack
 have fresh:∀ b∈frs (envOfC qual scope s₀.heap.objs.size f cd::outer),H b=none:=I.stkFree
 have yf:y∉frs (envOfC qual scope s₀.heap.objs.size f cd::outer):=fun z=>by rw [fresh y z] at hy;cases hy
 have inB:∀ b o,s.heap.get? b=some o→b≠y→b∉frs (envOfC qual scope s₀.heap.objs.size f cd::outer)→(PySem.W.hideAll s.heap (y::frs (envOfC qual scope s₀.heap.objs.size f cd::outer))).get? b=some o:=fun b o e ny n =>
  PySem.W.hideAll_get _ e (fun z=>(List.mem_cons.mp z).elim ny n)
 have st0:(PySem.W.hideAll s.heap (y::frs (envOfC qual scope s₀.heap.objs.size f cd::outer))).StaysIn s.heap:=fun b o q=>PySem.W.of_hideAll _ q
 have hl:s.heap.FunFrames (PySem.W.hideAll s.heap (y::frs (envOfC qual scope s₀.heap.objs.size f cd::outer))) (envOfC qual scope s₀.heap.objs.size f cd::outer) :=
  PySem.W.funFrames_hide hst fun env he a ha=>List.mem_cons_of_mem _ (List.mem_filterMap.mpr ⟨env,he,ha⟩)
 have yB:(PySem.W.hideAll s.heap (y::frs (envOfC qual scope s₀.heap.objs.size f cd::outer))).get? y=none:=PySem.W.hideAll_none _ List.mem_cons_self
 generalize PySem.W.hideAll s.heap (y::frs (envOfC qual scope s₀.heap.objs.size f cd::outer))=B at inB st0 hl yB
 refine ziC (zgu _ _) ⟨oy,gy,dy⟩ (wpAny_leaving_firstW (base:=B) (L:=s₀.heap.objs.size) (a0:=.ref t0) hfr hl rfl gy st0 yB fy rfl rfl fun h2 lf d2=>?_)
 obtain ⟨x1,⟨_,_,x2⟩,x3,x4⟩:=lf
 have neL:∀ b o,s₀.heap.get? b=some o→b≠s₀.heap.objs.size:=fun b o e=>Nat.ne_of_lt (Heap.lt_size e)
 have ney:∀ b o,s₀.heap.get? b=some o→b≠y:=fun b o e z=>by rw [z,n0] at e;cases e
 have notin:∀ b o,s₀.heap.get? b=some o→b∉frs outer→b∉frs (envOfC qual scope s₀.heap.objs.size f cd::outer):=fun b o e hb z=>by
  rcases List.mem_cons.mp (I.stkSub b z) with q | q
  ·exact neL b o e q
  ·exact hb q
 have slot:∀ b o,s.heap.get? b=some o→b∈frs outer→∃ sl,h2.get? b=some { o with slots:=sl }:=fun b o e hb=>by
  obtain ⟨_,o',e',nf⟩:=hl.2.2.mem hb
  rw [e] at e'
  cases e'
  exact x4 b o e nf
 have hokB:HOk P w (zeg H y) B:=fun b u e=>by
  obtain ⟨nb,e'⟩:=zhD e
  refine (I.hok b u e').stay (fun c v hc q=>inB c v q (fun z=>?_) fun z=>?_) (fun c q=>?_) fun c xs q=>?_
  ·rcases hc with r | r
   ·exact nb (r.symm.trans z)
   ·rw [z,hy] at r
    cases r
  ·rcases hc with r | r
   ·rw [r] at z
    rw [fresh b z] at e'
    cases e'
   ·rw [fresh c z] at r
    cases r
  ·rw [zba fun z=>by rw [z,hy] at q;cases q]
   exact q
  ·rw [zba fun z=>by rw [z,hy] at q;cases q]
   exact q
 have un:Un (frs outer) [] H₀ (zeg H y) s₀.heap h2:=by
  refine ⟨fun b o e n hb hx=>?_,fun b o e n hb hx=>?_,fun b o e n hx=>?_,fun b o e hx=>?_,fun b xs e=>?_,fun b o u e=>?_,fun b ps e=>?_⟩
  ·exact x1 b o (inB b o (I.base.keep b o e n hb hx) (ney b o e) (notin b o e hb))
  ·obtain ⟨sl,e1⟩:=I.base.slot b o e n hb hx
   obtain ⟨sl',e2⟩:=slot b _ e1 hb
   exact ⟨sl',e2⟩
  ·rw [zba (ney b o e)]
   exact I.base.free b o e n hx
  ·obtain ⟨o',e1⟩:=I.base.there b o e hx
   by_cases hb:b∈frs outer
   ·obtain ⟨sl,e2⟩:=slot b o' e1 hb
    exact ⟨_,e2⟩
   ·exact ⟨o',x1 b o' (inB b o' e1 (ney b o e) (notin b o e hb))⟩
  ·have z:=I.base.tups b xs e
   rw [zba fun q=>by rw [q,hy] at z;cases z]
   exact z
  ·have z:=I.base.frzs b o u e
   rw [zba fun q=>by rw [q,hy] at z;cases z]
   exact z
  ·obtain ⟨m,z⟩:=I.base.tbls b ps e
   refine ⟨m,?_⟩
   rw [zba fun q=>by rw [q,hy] at z;cases z]
   exact z
 rw [cy] at x3
 refine ⟨y,B,.ref C,.ref t0,zeg H y,some dx,rfl,⟨I.os,I.bare,un,hokB,⟨x1,yB,x2,x3⟩,fun b o e n hb=>?_,fun b o e hb=>?_,n0,zdS,q⟩,d2⟩
 ·exact inB b o (I.base.keep b o e n hb (by intro z;cases z)) (ney b o e) (notin b o e hb)
 ·obtain ⟨o',e1⟩:=I.base.there b o e (by intro z;cases z)
  exact ⟨o',inB b o' e1 (ney b o e) (notin b o e hb)⟩
end
section
variable {X:Cx} {k:Nat} {f C ea:Addr} {fd:FuncData} {ps:List Str} {sp:Sp}
theorem zoR {pins:List (Addr×Obj)} {σ:St} {H:Hp} {s:Shared} {Q:VK} {us:List Value} {vs:List V} (Z:ExI X.K C f) (F:zrV X.prog X.w X.K X.mg X.base k f fd ps sp) (hr:zob (k+1) X.A) (hb:zbI X.K fd ps [])
  (I:Inv X pins σ H s) (r:zbY vs us) (hl:us.length≤sizeLine) (h:∀ y,H y=none→X.s₀.heap.get? y=none→s.heap.get? y=none→sp (.ref y::vs) (upd H y (zot y C)) (fun v H2=>v=.non∧Q (.ref y) H2) E0) :
  wpAny (model X.prog X.w) X.A (call (.ref C) us) (EP X pins σ Q) X.xe s:=by
 obtain ⟨hh,g,d,tk,os⟩:=s
 refine zp8 I.kIn Z hl fun h1 y ey M=>?_
 have hy:hh.objs.size≤y:=by rw [ey];exact Nat.le_succ _
 obtain ⟨t0,gy,_,_⟩:=M.there
 have I2:=I.laidAt (a:=y) (o:=zot y C) M.keeps hy ⟨⟨_,t0,gy,rfl,rfl,rfl⟩,⟨_,gy⟩,fun _ _ ⟨o,t0,e,r⟩ k=>⟨o,t0,k o e,r⟩⟩
 have hq:=h y (I.hok.fresh hy) (Heap.get?_none_of_le (Nat.le_trans I.sz hy)) (Heap.get?_none_of_le hy)
 have r2:zbY (V.ref y::vs) (Value.ref y::us):=.cons rfl r
 have hl2:(Value.ref y::us++[]).length=ps.length:=by
  rw [List.append_nil,← r2.length]
  exact F.len _ _ _ _ hq
 have B:=hb _ (Value.ref y::us) I2.kIn hl2
 rw [List.append_nil] at B
 refine wpAny_call (codeAny_mono (F.run _ X.stack _ _ ⟨Value.ref y::us,[]⟩ (Value.ref y::us) _ _ E0 (hr.make C us []) (I2.env0.make C us []) B r2 hq) fun res s' hq'=>?_)
 cases res with
 | error e=>exact False.elim hq'
 | ok fl =>
  cases fl with
  | ret u =>
   obtain ⟨v,H',I3,rv,ev,q3⟩:=I2.after hq'
   subst ev
   exact ⟨rv,⟨V.ref y,H',I3,rfl,q3⟩⟩
  | next=>exact False.elim hq'
  | brk=>exact False.elim hq'
  | cont=>exact False.elim hq'
end
section
variable {K:PySem.W.Frag} {prog:Program} {w:World} {A:Around} {E:Value→Shared→Prop} {s:Shared} {env:Env} {C fI:Addr}
theorem znn {xs:Sem Value} {Q:Flow→Shared→Prop} {ea:Addr} (Z:ExI K C fI) (hh:A.handled=some (.ref ea))
  (h:wpAny (model prog w) A xs (fun v s1=>∃ y o fs oe,v=.ref y∧K.In s1.heap∧s1.heap.get? y=some o∧o.cls=.ref C∧o.data=.fields fs∧fs[1]?=some .none∧2<fs.size∧ea≠y∧s1.heap.get? ea=some oe∧f2 oe=some .none∧E (.ref y) { s1 with heap:=s1.heap.update y (Obj.mapFields (·.setIfInBounds 2 (.ref ea))) }) E s) :
  wpAny (model prog w) A (raiseStmt env (some xs) none) Q E s:=by
 obtain ⟨nm,q,N,bs,bm,sn,sub,ab,col,dd,k0,k1,k2,k3,k5,lk,tl⟩:=Z.lk
 unfold raiseStmt
 refine wpAny_bind (wpAny_mono h (fun v s1 z=>?_) fun _ _ z=>z)
 obtain ⟨y,o,fs,oe,rfl,X,gy,cy,fy,f1,fz,ne,ge,fe,hE⟩:=z
 obtain ⟨hp,g,d,tk,os⟩:=s1
 have kC:=X _ _ lk
 have T:=PySem.W.tail_of_in X tl
 have cB:(Value.ref C::bm).contains (.type "BaseException")=true:=by rw [List.contains_cons,T.hasType PySem.F.excBase_ValueError.hasBase,Bool.or_true]
 obtain ⟨oc,od,odt,osl⟩:=o
 dsimp only at cy fy
 subst cy fy
 repeat (first | (with_reducible refine wpAny_loadPart_at gy ?_) | (with_reducible refine wpAny_loadPart_at kC ?_) | (with_reducible refine wpAny_isSubtype_exc kC ?_;rw [cB]) | wp_step)
 rw [f1]
 refine wpAny_pure ?_
 rw [if_neg (by decide)]
 exact wpAny_pure (zfS hh ne ge fe gy rfl fz hE)
end
def zuH (K:PySem.W.Frag) (tb:(St→XK)→TS) (D:Value) (C:Addr) (nm:Str) (E:XK) (t:TA):TS:=fun d σ H =>
 tb (fun σ' c _ H'=>PySem.W.subIn K c D=some true∧zcb C nm E t d σ' H') d σ H
def Cx.inTryW (X:Cx) (pins:List (Addr×Obj)) (E:St→XK):Cx:={ X with
 pn:=X.pn++pins
 xe:=fun e s'=>∃ pins' σ H s,Inv { X with pn:=X.pn++pins } pins' σ H s∧CXW X.prog X.w X.stack H s (E σ) e s' }
theorem Inv.toTryW {X:Cx} {pins:List (Addr×Obj)} {σ:St} {H:Hp} {s:Shared} (I:Inv X pins σ H s) (E:St→XK):Inv (X.inTryW pins E) [] σ H s :=
 ⟨I.ok.pinned _ _,I.os,I.bare,I.base,I.loc,I.cell,I.free,I.freeC,fun p hp=>I.pin p (by rw [List.append_nil] at hp;exact hp),I.hok,I.len⟩
theorem zvE {X:Cx} {pins:List (Addr×Obj)} {E:St→XK}:zjw (CXW X.prog X.w) (X.inTryW pins E) E:=fun pins' σ H s e s' I h =>
 ⟨pins',σ,H,s,⟨I.ok.pinned _ _,I.os,I.bare,I.base,I.loc,I.cell,I.free,I.freeC,I.pin,I.hok,I.len⟩,h⟩
theorem SP.ofTryW {X:Cx} {pins pins':List (Addr×Obj)} {E:St→XK} {D:zce} {f:Flow} {s':Shared} (ok:X.Ok) (h:SP (X.inTryW pins E) pins' D f s'):SP X pins D f s':=by
 cases f with
 | next=>obtain ⟨σ',H',I,q⟩:=h;exact ⟨σ',H',I.ofTry ok,q⟩
 | brk=>obtain ⟨σ',H',I,q⟩:=h;exact ⟨σ',H',I.ofTry ok,q⟩
 | cont=>obtain ⟨σ',H',I,q⟩:=h;exact ⟨σ',H',I.ofTry ok,q⟩
 | ret u=>obtain ⟨v,σ',H',I,r,q⟩:=h;exact ⟨v,σ',H',I.ofTry ok,r,q⟩
end L2
namespace L2
open PySem PySem.Spec PyProof.Rows
abbrev TF:=St→Hp→(Str→Hp→Prop)→Prop
def PF (X:Cx) (e:Expr) (t:TF):Prop:=∀ (pins:List (Addr×Obj)) (s:Shared) (σ:St) (H:Hp) (Q:Str→Hp→Prop),Inv X pins σ H s→t σ H Q →
 wpAny (model X.prog X.w) X.A (eval e X.env) (fun u s'=>∃ x tk H',u=.str x tk∧Inv X pins σ H' s'∧Q x H') X.xe s
def fS (t:TE):TF:=fun σ H Q=>t σ H fun v H1=>∃ x,v=.str x∧Q x H1
def fI (t:TE):TF:=fun σ H Q=>t σ H fun v H1=>∃ i:Int,v=.int i∧i.natAbs.log2<1920∧Q (toString i) H1
def tJ:List TF→Str→TE
 | [],out=>fun _ H Q=>Q (.str out) H
 | f::fs,out=>fun σ H Q=>f σ H fun y H1=>(out++y).length≤sizeLine∧tJ fs (out++y) σ H1 Q
inductive PFs (X:Cx):List Expr→List TF→Prop
 | nil:PFs X [] []
 | cons {e:Expr} {es:List Expr} {t:TF} {ts:List TF}:PF X e t→PFs X es ts→PFs X (e::es) (t::ts)
section
variable {X:Cx} {e e1 e2:Expr} {es:List Expr} {t:TE} {pos:Pos}
theorem zks (h:PE X e t):PF X e (fS t):=by
 intro pins s σ H Q I q
 refine thn (h pins s σ H _ I q) fun u s1 hQ'=>?_
 obtain ⟨v,H1,I1,r,x,e,q1⟩:=hQ'
 subst e
 obtain ⟨k,rfl⟩:=r
 exact ⟨x,k,H1,rfl,I1,q1⟩
theorem zir (h:PE X e t):PF X (.FormattedValue e (-1) none pos) (fI t):=by
 intro pins s σ H Q I q
 refine FormattedValue_plain (thn (h pins s σ H _ I q) fun u s1 hQ'=>?_)
 obtain ⟨v,H1,I1,r,i,e,hi,q1⟩:=hQ'
 subst e
 obtain ⟨k,rfl⟩:=r
 exact formatField_int_small hi ⟨_,_,H1,rfl,I1.tok _,q1⟩
theorem ziF {pins:List (Addr×Obj)} {σ:St} {Q:VK}:∀ {es:List Expr} {ts:List TF},PFs X es ts→∀ {out:Str} {s:Shared} {H:Hp},out.length≤sizeLine→Inv X pins σ H s→tJ ts out σ H Q→wpAny (model X.prog X.w) X.A (joinParts out (evalEach es X.env)) (EP X pins σ Q) X.xe s
 | [],_,.nil,out,s,H,l,I,q=>joinParts_nil ⟨.str out,H,I.tok _,⟨_,rfl⟩,q⟩ l
 | e::es,_,.cons h hs,out,s,H,l,I,q=>by
  show wpAny _ _ (joinParts out (eval e X.env::evalEach es X.env)) _ _ _
  refine joinParts_cons (thn (h pins s σ H _ I q) fun u s1 hQ'=>?_)
  obtain ⟨x,k,H1,e,I1,l1,q1⟩:=hQ'
  subst e
  exact ⟨l1,ziF hs l1 I1 q1⟩
theorem zo7 {ts:List TF} (h:PFs X (e1::e2::es) ts):PE X (.JoinedStr (e1::e2::es) pos) (tJ ts Str.empty):=by
 intro pins s σ H Q I q
 exact JoinedStr_many (ziF h (by decide) I q)
end
end L2
namespace L2
open PySem PySem.Spec PyProof.Rows
theorem zkQ {K:PySem.W.Frag} {M:Model} {A:Around} {E:Value→Shared→Prop} {h:Heap} {g:Array GenState} {d:Drawn} {t:Nat} {os:OsState} {e D fD:Addr} {oe:Obj} {cls:Value} {Q:Bool→Shared→Prop} (he:h.get? e=some oe) (hcls:oe.cls=cls)
  (X:K.In h) (Z:ExI K D fD) (L:PySem.W.Looks M h (isSubtype cls (.ref D)) true) (hq:Q true ⟨h,g,d,t,os⟩):wpAny M A (excMatches (.ref e) (.ref D)) Q E ⟨h,g,d,t,os⟩:=by
 obtain ⟨nm,q,N,bs,bm,sn,sub,ab,col,dd,k0,k1,k2,k3,k5,lk,tl⟩:=Z.lk
 have hD:=X _ _ lk
 have T:=PySem.W.tail_of_in X tl
 have hcB:(Value.ref D::bm).contains (.type "BaseException")=true:=by rw [List.contains_cons,T.hasType PySem.F.excBase_ValueError.hasBase,Bool.or_true]
 have f:=tc_notTuple
 unfold excMatches
 repeat (first | (with_reducible refine wpAny_loadPart_at he ?_;rw [hcls]) | with_reducible refine wpAny_loadPart_at hD ?_ | (with_reducible refine wpAny_isSubtype_exc hD ?_;rw [hcB]) | (with_reducible refine L.at ?_) | wp_step)
 exact hq
theorem zr8 {X:Cx} {k:Nat} {C D f:Addr} {fd:FuncData} {ps:List Str} {nm x n:Str} {E:XK} {np xp cpos rpos pos hpos:Pos} {e:Expr} {es:List Expr} {body:List Stmt} {tb:(St→XK)→TS} {t:TA}
  (hmD:X.mg x=some (.ref D)) {fD:Addr} (hq:ExI X.K D fD) (hgD:Gl X x)
  (Z:ExI X.K C f) (F:zrV X.prog X.w X.K X.mg X.base k f fd ps (zkS C nm)) (hr:zek (k+1) X.A) (hg:Gl X n) (hm:X.mg n=some (.ref C)) (hb:zbI X.K fd ps []) (hT:zoQ X E)
  (hst:X.stack=X.env::X.outer) (hfr:X.env.frame=some X.env.locals) (hex:X.ex=[]) (hp:∀ v,PassesOwnAt (model X.prog X.w) (X.A.mark v) X.A X.env X.xe)
  (hbd:∀ pins E',PSs (X.inTryW pins E') body (tb E')) (ha:∀ ea,PA (X.inExc ea) (e::es) t) (hd:(x == ("__debug__":Str))=false:=by decide) (hdb:(n == ("__debug__":Str))=false:=by decide)
  (he:starEach (e::es) X.env=(false,eval e X.env)::starEach es X.env:=by rfl) (hpl:(backTo cpos (starEach es X.env)).any (·.1)=false:=by rfl) :
  PS X (.Try body [.ExceptHandler (some (.Name x xp)) none [.Raise (some (.Call (.Name n np) (e::es) [] cpos)) none rpos] hpos] [] [] pos) (zuH X.K tb (.ref D) C nm E t):=by
 intro pins s σ H d I h
 refine wpAny_Try_except (wpAny_mono (hbd pins _ [] s σ H d (I.toTryW _) h) (fun f s₁ q=>?_) fun e s₁ q=>?_)
 ·have q':=SP.ofTryW I.ok q
  cases f with
  | next=>exact wpAny_execs_nil q'
  | brk=>exact q'
  | cont=>exact q'
  | ret u=>exact q'
 obtain ⟨pins',σ',H1,s1,I1,⟨ea,B,cls,a0,H',od,rfl,x,dd⟩,ea',ee,cc⟩:=q
 cases ee
 replace I1:Inv X pins σ' H1 s1:=Inv.ofTry (xe:=X.xe) I1 I.ok
 obtain ⟨hsub,hth⟩:=x.want
 have fly:=x.fly
 rw [hst] at fly
 have ff:=x.fly.2.2.1
 have hfrm:X.A.frames=some (X.env::X.outer):=by rw [← hst];exact I.ok.frames
 refine zmH (zg2 _ _) cc (wpAny_looks_onW (E:=fun _ _=>False) (base:=B) (L:=X.env.locals) hfrm hfr fly fun h4 hd4 sm4 c4=>?_)
 refine zmH (zeU _ _) c4 (wpAny_landsW (E:=fun _ _=>False) hd4 fun h5 fl5 sm5 c5=>?_)
 have invAt:∀ {h:Heap} {tk:Nat},B.StaysIn h→s₁.heap.UpToSlots h→Inv X pins σ' H' { s₁ with heap:=h,toks:=tk }:=fun {h tk} st sm=>by
  obtain ⟨un,hok⟩:=x.later st sm ff
  exact I1.call' (ch:=[]) x.os un hok x.bare fun b z=>nomatch z
 have I5:Inv X pins σ' H' { s₁ with heap:=h5 }:=invAt (tk:=s₁.toks) fl5.1 (sm4.trans sm5)
 have fmark:(X.A.mark (some (.ref ea))).frames=some X.stack:=I.ok.frames
 refine wpAny_handleBy_cons (codeAny_handlers_test ?_) (by intro q;cases q)
 refine zdK (X:=X.inExc ea) (I5.toExc fmark) hgD hmD ?_ hd
 have kin5:=I5.kIn
 obtain ⟨oe,hoe,hcls⟩:=fl5.there
 refine zkQ (cls:=cls) hoe hcls kin5 hq (PySem.W.looks_subIn kin5 hsub) ?_
 refine codeAny_handlers_suite ?_
 refine zmH (zeU _ _) c5 (lands_againW (E:=fun _ _=>False) fl5 fun h6 fl6 sm6 c6=>?_)
 have I6:Inv X pins σ' H' { s₁ with heap:=h6 }:=invAt (tk:=s₁.toks) fl6.1 ((sm4.trans sm5).trans sm6)
 have noat:∀ b o,s1.heap.get? b=some o→b≠ea:=fun b o e z=>by rw [z,x.new] at e;cases e
 have nL:ea≠X.env.locals:=by
  obtain ⟨m,⟨o,_,_,e,_⟩,_⟩:=I1.loc
  exact (noat _ o e).symm
 obtain ⟨oc,goc,f2c⟩:=c6
 have I7:Inv X ((ea,oc)::pins) σ' H' { s₁ with heap:=h6 }:=I6.pins_of fun p hp=>by
  rcases List.mem_cons.mp hp with rfl | hp
  ·refine ⟨goc,x.free,nL,fun z=>?_,fun v z=>?_⟩
   ·obtain ⟨_,o',e',nf⟩:=I1.ok.funs.mem z
    obtain ⟨o'',e''⟩:=I1.base.there ea o' e' (by rw [hex];intro z;cases z)
    exact noat ea o'' e'' rfl
   ·unfold f2 at f2c
    rw [show oc.data=.cell v from z] at f2c
    cases f2c
  ·exact I6.pin p (List.mem_append_right _ hp)
 refine wpAny_passesOwnAt (hp _) ?_
 have I8:=I7.toExc fmark
 refine wpAny_execs_cons ?_
 rw [arm_exec_Raise]
 refine wpAny_bind (wpAny_standAt (znn (ea:=ea) Z rfl (wpAny_bind (wpAny_mono (Q:=fun v s1=>∃ y o fs oe,v=.ref y∧X.K.In s1.heap∧s1.heap.get? y=some o∧o.cls=.ref C∧o.data=.fields fs∧fs[1]?=some .none∧2<fs.size∧ea≠y∧s1.heap.get? ea=some oe∧f2 oe=some .none∧X.xe (.ref y) { s1 with heap:=s1.heap.update y (Obj.mapFields (·.setIfInBounds 2 (.ref ea))) }) ?_ (fun v s3 h3=>wpAny_bind (wpAny_standAt (wpAny_pure h3))) fun _ _ z=>z))))
 refine wpAny_Call_Name_kw (zdK (X:=X.inExc ea) I8 hg hm ?_ hdb)
 refine PySem.W.callWith_K (h₀:=X.base) I.ok.mod.kin Z.kp (thn (ha ea cpos _ _ σ' H' _ I8 hth) fun us s9 ⟨vs,H9,I9,r,v,e1,q⟩=>⟨I9.kIn,?_⟩) he hpl
 subst e1
 obtain ⟨u,rfl,ru⟩:=zfc r
 refine thn (zoR (X:=X.inExc ea) (Q:=fun z H2=>∃ y dx,z=.ref y∧ea≠y∧X.s₀.heap.get? y=none∧H2 y=some (zoo y C dx)∧E (.ref C) (some dx) (zeg H2 y)) Z F (hr.h _) hb I9 r (by show 1≤sizeLine;decide) fun y hy n0 n1=>?_) fun z s10 ⟨v2,H10,I10,rz,y,dx,ev,ny,n0,hy,hE⟩=>?_
 ·have nye:ea≠y:=fun z=>by
   have:=(I9.pin (ea,oc) (List.mem_append_right _ List.mem_cons_self)).1
   rw [show (ea,oc).1=y from z,n1] at this
   cases this
  refine ⟨y,v,rfl,zad,fun dx hd nd=>⟨rfl,y,dx,rfl,nye,n0,?_,?_⟩⟩
  ·rw [zal nd.symm,zad]
  ·rw [zli]
   have hd1:H9 dx=none:=by rw [zal nd] at hd;exact hd
   rw [zkV hy nd]
   exact q dx hd1
 ·subst ev
  obtain rfl:z=Value.ref y:=rz
  obtain ⟨⟨oy,t0,gy,cy,dy,fy⟩,_⟩:=(I10.hok y _ hy:zbS X.prog X.w H10 s10.heap y (zoo y C dx))
  have ge:=(I10.pin (ea,oc) (List.mem_append_right _ List.mem_cons_self)).1
  refine ⟨y,oy,_,oc,rfl,I10.kIn,gy,cy,fy,rfl,(by show 2<6;decide),ny,ge,f2c,?_⟩
  obtain ⟨kc,kd,kdt,ksl⟩:=oy
  dsimp only at cy dy fy
  subst cy dy fy
  have gy2:=Heap.get?_update_self (Obj.mapFields (·.setIfInBounds 2 (Value.ref ea))) gy rfl
  have I11:=(I10.ofExc I.ok).write (x:=y) (e:=y) (o:=excE y C dx) (t':=s10.toks) (h':=s10.heap.update y (Obj.mapFields (·.setIfInBounds 2 (Value.ref ea)))) (by rw [hy];exact True.intro) (.inl rfl) (fun b u nb e=>(Heap.get?_update_other _ _ (Ne.symm nb)).trans e) ⟨_,gy2⟩
   ⟨⟨_,t0,_,gy2,rfl,rfl,rfl⟩,⟨_,gy2⟩,fun _ _ ⟨o,t0,c2,e,r⟩ k=>⟨o,t0,c2,k o e,r⟩⟩
  refine hT _ σ' _ _ y C dx I11 zad n0 ?_
  have ed:zeg (upd H10 y (excE y C dx)) y=zeg H10 y:=by
   funext b
   unfold zeg
   split
   ·rfl
   ·rename_i nb
    exact zal nb
  rw [ed]
  exact hE
end L2
namespace L2
open PySem PySem.Spec PyProof.Rows
theorem znk {Pg:Program} {w:World} {K:PySem.W.Frag} {mg mb:Str→Option Value} {CX:CXT} {k:Nat} {fa a c P c2 P2:Addr} {fd:FuncData} {x:Str} {sp:Sp} {s₁:Shared} {vs:List Value} {ns:List Int}
  (KX:K.In s₁.heap) (hPP:P≠P2) (hPK:K.lookup P=none) (hPt:s₁.heap.get? P=some (PySem.W.tabObj #[])) (hC:PySem.W.CodeHd s₁.heap c P) (hB:s₁.heap.BuiltinsAt mg P)
  (hPK2:K.lookup P2=none) (hPt2:s₁.heap.get? P2=some (PySem.W.tabObj #[])) (hC2:PySem.W.CodeHd s₁.heap c2 P2) (hB2:s₁.heap.BuiltinsAt mg P2)
  (hns:s₁.heap.Ns mainGlobals mg) (hb:s₁.heap.Ns builtinsNs mb) (hbb:∀ x:Str,x≠"__name__"→mb x=bootBuiltins x) (hlim:s₁.heap.NoLimit) (hg:s₁.gens=#[])
  (ha:s₁.heap.get? a=some { cls:=.type "list",data:=.seq vs.toArray }) (hi:IntsAre vs ns) (hl:ns.length≤sizeLine) (hr:zek k callerA)
  (F:∀ base:Heap,K.In base→base.Ns mainGlobals mg→PySem.W.CodeHd base c P→base.BuiltinsAt mg P→PySem.W.CodeHd base c2 P2→base.BuiltinsAt mg P2→zc8 Pg w K mg base CX k fa fd [x] sp) (hbind:∀ (s:Shared) (u:Value),BindsTo s fd ⟨[u],[]⟩ [(x,u)])
  (hsp:∀ H:Hp,H P=some (.tbl #[])→H P2=some (.tbl #[])→SqL K H a (ns.map V.int)→sp [.ref a] H (fun v _=>v=.bl true) fun _ _ _=>False)
  (hCX:∀ H e s',CX [] H s₁ (fun _ _ _=>False) e s'→False) :
  codeAny (model Pg w) callerA (.call (.ref fa) ⟨[.ref a],[]⟩) (fun r s'=>r=.ok (.ret (.bool true))∧OldK s₁.heap s'.heap∧s'.os=s₁.os∧AllBare s'.gens) s₁:=by
 have rv:=zkA hi
 have lenV:=hi.length
 have naP:a≠P:=fun z=>by rw [z,hPt] at ha;cases ha
 have naP2:a≠P2:=fun z=>by rw [z,hPt2] at ha;cases ha
 have core:∀ H:Hp,H P=some (.tbl #[])→H P2=some (.tbl #[])→SqL K H a (ns.map V.int)→HOk Pg w H s₁.heap→(∀ b,H b≠none→(b=P∨b=P2)∨(b=a∧H a=some (.frz { cls:=.type "list",data:=.seq vs.toArray } (.lst (ns.map V.int)))))→(H a≠none→K.lookup a=none) →
   codeAny (model Pg w) callerA (.call (.ref fa) ⟨[.ref a],[]⟩) (fun r s'=>r=.ok (.ret (.bool true))∧OldK s₁.heap s'.heap∧s'.os=s₁.os∧AllBare s'.gens) s₁:=by
  intro H hHP hHP2 hS hok hA hK
  have base_of:∀ {b:Addr} {o:Obj},s₁.heap.get? b=some o→H b=none→(zoU s₁.heap H).get? b=some o:=fun e n=>zq4 e n
  have free:∀ {b:Addr} {o:Obj},s₁.heap.get? b=some o→b≠P→b≠P2→(∀ its n,o.data≠.seq its n)→H b=none:=fun {b o} e nP nP2 d=>by
   cases q:H b with
   | none=>rfl
   | some u =>
    rcases hA b (by rw [q];simp) with (z | z) | ⟨z,_⟩
    ·exact absurd z nP
    ·exact absurd z nP2
    ·subst z
     rw [ha] at e;cases e
     exact absurd rfl (d _ _)
  have noP:∀ {b:Addr} {o:Obj},s₁.heap.get? b=some o→(∀ ps,o.data≠.fields ps)→b≠P:=fun {b o} e d z=>by
   subst z
   rw [hPt] at e;cases e
   exact d _ rfl
  have noP2:∀ {b:Addr} {o:Obj},s₁.heap.get? b=some o→(∀ ps,o.data≠.fields ps)→b≠P2:=fun {b o} e d z=>by
   subst z
   rw [hPt2] at e;cases e
   exact d _ rfl
  have nsK:∀ {b:Addr} {m:Str→Option Value},s₁.heap.Ns b m→(zoU s₁.heap H).Ns b m:=fun {b m} ⟨o,es,ep,e,d,r⟩ =>
   ⟨o,es,ep,base_of e (free e (noP e fun ps z=>by rw [d] at z;cases z) (noP2 e fun ps z=>by rw [d] at z;cases z) fun its n z=>by rw [d] at z;cases z),d,r⟩
  have hKb:K.In (zoU s₁.heap H):=fun b o e=>base_of (KX b o e) (by
   cases q:H b with
   | none=>rfl
   | some u =>
    rcases hA b (by rw [q];simp) with (z | z) | ⟨z,_⟩
    ·rw [z,hPK] at e;cases e
    ·rw [z,hPK2] at e;cases e
    ·subst z
     rw [hK (by rw [q];simp)] at e;cases e)
  have hM:Mod K mg (zoU s₁.heap H):=⟨hKb,nsK hns,⟨mb,nsK hb,hbb⟩,let ⟨mc,h1,h2⟩:=hlim;⟨mc,nsK h1,h2⟩⟩
  have hCO:∀ {c P:Addr},PySem.W.CodeHd s₁.heap c P→(∀ o,s₁.heap.get? c=some o→H c=none)→PySem.W.CodeHd (zoU s₁.heap H) c P:=fun {c P} h f=>by
   obtain ⟨o,ovs,file,tf,flags,tg,inF,text,tt,e1,e2,e3,r⟩:=h
   exact ⟨o,ovs,file,tf,flags,tg,inF,text,tt,base_of e1 (f o e1),e2,e3,r⟩
  have fC:∀ {c P':Addr},PySem.W.CodeHd s₁.heap c P'→∀ o,s₁.heap.get? c=some o→H c=none:=fun {c P'} h o e=>by
   obtain ⟨o',ovs,file,tf,flags,tg,inF,text,tt,e1,e2,e3,r⟩:=h
   rw [e1] at e;cases e
   refine free e1 (fun z=>?_) (fun z=>?_) fun its n z=>by rw [e3] at z;cases z
   ·rw [z,hPt] at e1
    cases e1
    cases e2
   ·rw [z,hPt2] at e1
    cases e1
    cases e2
  have hC':=hCO hC (fC hC)
  have hC2':=hCO hC2 (fC hC2)
  have hBO:∀ {P':Addr},s₁.heap.BuiltinsAt mg P'→(zoU s₁.heap H).BuiltinsAt mg P':=fun {P'} h=>by
   obtain ⟨bm,ob,b1,b2,b3,b4,b5,b6,b7,b8⟩:=h
   refine ⟨bm,ob,b1,b2,b3,b4,base_of b5 (free b5 (fun z=>?_) (fun z=>?_) fun its n z=>by rw [b8] at z;cases z),b6,b7,b8⟩
   ·rw [z,hPt] at b5;cases b5;cases b8
   ·rw [z,hPt2] at b5;cases b5;cases b8
  have hB':=hBO hB
  have hB2':=hBO hB2
  have e0:zou Pg w K mg (zoU s₁.heap H) callerA [] s₁ H:=⟨rfl,hM,fun b o e=>zt7 e,Nat.le_of_eq (zpc _ _),trivial,fun b hb=>absurd (show b∈([]:List Addr) from hb) (by simp),hok,.of_eq hg⟩
  refine codeAny_mono ((F _ hKb (nsK hns) hC' hB' hC2' hB2').run callerA [] s₁ H ⟨[.ref a],[]⟩ [.ref a] [.ref a] _ _ hr e0 (hbind s₁ (.ref a)) (.cons rfl .nil) (hsp H hHP hHP2 hS)) fun r s' h=>?_
  cases r with
  | error e=>exact (hCX H e s' h).elim
  | ok fl =>
   cases fl with
   | next=>exact False.elim h
   | brk=>exact False.elim h
   | cont=>exact False.elim h
   | ret u =>
    obtain ⟨v,H',os,bare,un,hok',r',q⟩:=h
    have q':v=.bl true:=q
    subst q'
    obtain rfl:u=Value.bool true:=r'
    refine ⟨rfl,⟨fun b o e=>?_,fun b o e=>un.there b o e (by simp)⟩,os,bare⟩
    by_cases zP:b=P
    ·subst zP
     rw [hPt] at e
     cases e
     obtain ⟨more,hm⟩:=un.tbls b _ hHP
     have ht':s'.heap.get? b=some { cls:=.none,data:=.fields (#[]++more) }:=hok' b _ hm
     exact .inr (.inl ⟨(hC.tab hPt).isCodeTable,rfl,#[],more,rfl,ht'⟩)
    by_cases zP2:b=P2
    ·subst zP2
     rw [hPt2] at e
     cases e
     obtain ⟨more,hm⟩:=un.tbls b _ hHP2
     have ht':s'.heap.get? b=some { cls:=.none,data:=.fields (#[]++more) }:=hok' b _ hm
     exact .inr (.inl ⟨(hC2.tab hPt2).isCodeTable,rfl,#[],more,rfl,ht'⟩)
    ·refine .inl ?_
     cases q:H b with
     | none=>exact un.keep b o e q (by intro z;exact absurd (show b∈([]:List Addr) from z) (by simp)) (by simp)
     | some u =>
      rcases hA b (by rw [q];simp) with (z | z) | ⟨z,z1⟩
      ·exact absurd z zP
      ·exact absurd z zP2
      ·subst z
       have z2:=un.frzs b _ _ z1
       obtain ⟨e1,_⟩:=hok b _ z1
       obtain ⟨e2,_⟩:=hok' b _ z2
       rw [e] at e1;cases e1
       exact e2
 have two:∀ {b:Addr} {u:HO} {R:Option HO},(if b=P then some (HO.tbl #[]) else if b=P2 then some (HO.tbl #[]) else R)=some u→(b=P∧u=.tbl #[])∨(b=P2∧u=.tbl #[])∨(b≠P∧b≠P2∧R=some u):=fun {b u R} z=>by
  by_cases q:b=P
  ·rw [if_pos q] at z
   cases z
   exact .inl ⟨q,rfl⟩
  ·rw [if_neg q] at z
   by_cases q2:b=P2
   ·rw [if_pos q2] at z
    cases z
    exact .inr (.inl ⟨q2,rfl⟩)
   ·rw [if_neg q2] at z
    exact .inr (.inr ⟨q,q2,z⟩)
 cases hk:K.lookup a with
 | some o =>
  have e:=KX a o hk
  rw [ha] at e
  cases e
  refine core (fun b=>if b=P then some (.tbl #[]) else if b=P2 then some (.tbl #[]) else none) (if_pos rfl) ((if_neg (Ne.symm hPP)).trans (if_pos rfl)) (.inr ⟨_,vs.toArray,_,hk,rfl,rfl,rfl,by rw [List.size_toArray,lenV];exact hl,by simpa using rv⟩) (fun b u z=>?_) (fun b z=>?_) fun z=>absurd ((if_neg naP).trans (if_neg naP2)) z
  ·rcases two z with ⟨rfl,rfl⟩ | ⟨rfl,rfl⟩ | ⟨_,_,z⟩
   ·exact hPt
   ·exact hPt2
   ·cases z
  ·obtain ⟨u,z⟩:=Option.ne_none_iff_exists'.mp z
   rcases two z with ⟨q,_⟩ | ⟨q,_⟩ | ⟨_,_,z⟩
   ·exact .inl (.inl q)
   ·exact .inl (.inr q)
   ·cases z
 | none =>
  refine core (fun b=>if b=P then some (.tbl #[]) else if b=P2 then some (.tbl #[]) else if b=a then some (.frz { cls:=.type "list",data:=.seq vs.toArray } (.lst (ns.map V.int))) else none) (if_pos rfl) ((if_neg (Ne.symm hPP)).trans (if_pos rfl)) (.inl (.inr ⟨{ cls:=.type "list",data:=.seq vs.toArray },(if_neg naP).trans ((if_neg naP2).trans (if_pos rfl))⟩)) (fun b u z=>?_) (fun b z=>?_) fun _=>hk
  ·rcases two z with ⟨rfl,rfl⟩ | ⟨rfl,rfl⟩ | ⟨_,_,z⟩
   ·exact hPt
   ·exact hPt2
   ·by_cases hb:b=a
    ·subst hb
     rw [if_pos rfl] at z
     cases z
     exact ⟨ha,by rw [List.length_map];exact hl,vs,_,rv,ha⟩
    ·rw [if_neg hb] at z
     cases z
  ·obtain ⟨u,z⟩:=Option.ne_none_iff_exists'.mp z
   rcases two z with ⟨q,_⟩ | ⟨q,_⟩ | ⟨_,_,z⟩
   ·exact .inl (.inl q)
   ·exact .inl (.inr q)
   ·by_cases hb:b=a
    ·exact .inr ⟨hb,(if_neg naP).trans ((if_neg naP2).trans (if_pos rfl))⟩
    ·rw [if_neg hb] at z
     cases z
theorem zpY {l:PySem.W.OpenLaw} {n k:Nat} {q:Program} {loose:List Str} {XP:(Str→Option Value)→Heap→Prop} {YP:World→Heap→Prop} {d:DefRec} {K:Params→PySem.W.Frag} {sp:World→Sp} {x:Str} {c P c2 P2:Addr}
  (hn:l.most=some n) (hn2:n≤sizeLine) (hdf:d.params.defaults=[]) (hr:zek k callerA)
  (hY:∀ (w:World) (h:Heap),YP w h→(K w.params).In h)
  (hPP:P≠P2) (hPt:∀ w:World,(K w.params).lookup P=some (PySem.W.tabObj #[])) (hPt2:∀ w:World,(K w.params).lookup P2=some (PySem.W.tabObj #[])) (hC:∀ (w:World) (h:Heap),(K w.params).In h→PySem.W.CodeHd h c P) (hC2:∀ (w:World) (h:Heap),(K w.params).In h→PySem.W.CodeHd h c2 P2)
  (F:∀ (w:World) (mg:Str→Option Value) (fa:Addr) (h:Heap),(K w.params).In h→h.Ns mainGlobals mg→mg d.name=some (.ref fa) →
   ∃ fd:FuncData,(∀ (s:Shared) (u:Value),BindsTo s fd ⟨[u],[]⟩ [(x,u)]) ∧
    ∀ base:Heap,(zbb P2 (zbb P (K w.params))).In base→base.Ns mainGlobals mg→PySem.W.CodeHd base c P→base.BuiltinsAt mg P→PySem.W.CodeHd base c2 P2→base.BuiltinsAt mg P2→zc8 l.prog w (zbb P2 (zbb P (K w.params))) mg base CX0 k fa fd [x] (sp w))
  (hsp:∀ (w:World) (H:Hp) (a:Addr) (ns:List Int),(∀ x∈ns,x.natAbs<2 ^ 2 ^ 20)→ns.length≤n→H P=some (.tbl #[])→H P2=some (.tbl #[])→SqL (zbb P2 (zbb P (K w.params))) H a (ns.map V.int)→sp w [.ref a] H (fun v _=>v=.bl true) fun _ _ _=>False) :
  PySem.W.WalkO q loose XP YP l.row.toRowW d [] (fun f vs=>PySem.call f vs):=by
 refine Att.attach_callL hn hdf fun w s₀ s₁ mg mb fa o pm cd doc a vs ns hb0 G Y ho hd hcd hmg hobj hints hlen hg=>?_
 have KX:=hY w _ Y
 obtain ⟨fd,hb,hF⟩:=F w mg fa _ KX G.T.g hmg
 have hP:=KX _ _ (hPt w)
 have hP2:=KX _ _ (hPt2 w)
 obtain ⟨bm,ob,b1,b2,b3,b4,b5,b6⟩:=G.T.bmain
 have hBt:∀ {P:Addr},s₁.heap.get? P=some (PySem.W.tabObj #[])→s₁.heap.BuiltinsAt mg P:=fun {P} hP=>by
  refine ⟨bm,ob,b1,b2,fun z=>?_,fun z=>?_,b3,b4,b5,b6⟩
  ·obtain ⟨o',es,ep,e,d',_⟩:=G.T.g
   rw [z,e] at b3;cases b3;rw [d'] at b6;cases b6
  ·rw [z,hP] at b3;cases b3;cases b4
 exact znk (zpi (zpi KX)) hPP ((zaM hPP).trans zaw) hP (hC w _ KX) (hBt hP) zaw hP2 (hC2 w _ KX) (hBt hP2) G.T.g G.T.b G.T.builtins G.T.nolimit hg hobj hints (Nat.le_trans hlen hn2) hr hF hb (fun H hP' hP2' hS=>hsp w H a ns hb0 hlen hP' hP2' hS) fun H e s' z=>z
end L2
set_option maxHeartbeats 4000000
local macro_rules
 | `(tactic| simp_all only [$xs,*])=>do
  let ds ← ("ztJ ztj ztG zuu ztK zui zuJ ztI ztk zuB zqO zrt zsu zsq zsn zrr rI_c rI0_c zwb zvc ex_bl zwC zvG zwf zwm zsp zsw zsi zrn zrL zro zqT zq8 zrK zoN zqj zqf zqy zbE zdX zmA zr5 zhd zrs zss zgv zbw tBM ztX zel zrE zfO zaz zaZ zaU ziy zbL zix tCB zab zak tC tOp zav zcn zb9 zc7 zdq zib tPar zaH rNe zsj zdD ziV zg5 zgk zcC tSl za2 zcc zhk zgm tUn zpE tOr rU rEq zqz ztY rIxS zof zqE zlY zmz zpe zcb rIn zmZ ztu zgX zuH zmE zp3 zo1 tIf tJ rInS zrI zjq iStr znf rAll zg4 tB zuX ztT zmO zid rInN zmw zt9".splitOn " ").toArray.mapM fun s=>`(Lean.Parser.Tactic.simpLemma| ↓ $(Lean.mkIdent s.toName):ident)
  let ps ← ("fS fI zu0 Option.bind_some Option.bind_none Option.join_some Option.map_some List.getElem?_cons_zero List.getElem?_cons_succ V.str.injEq V.ty.injEq zac rI rI0 zcO zik L2.zbA zrU zs9 zrW ztF List.map_cons List.map_nil List.length_cons List.length_nil List.replicate List.cons_append List.nil_append List.append_nil Option.some.injEq exists_eq_left' exists_eq_left exists_and_left List.cons.injEq V.int.injEq V.ref.injEq V.bl.injEq and_true true_and List.set_cons_zero List.set_cons_succ Nat.reduceAdd Nat.reduceSub Int.reduceToNat Int.reducePow Int.reduceNeg Int.reduceMul Int.reduceAdd Int.reduceSub decide_eq_true_eq Bool.not_eq_true' decide_eq_false_iff_not exists_const and_assoc exists_eq exists_eq' if_true if_false Bool.false_eq_true Bool.true_eq_false reduceCtorEq not_true_eq_false not_false_eq_true zm9".splitOn " ").toArray.mapM fun s=>`(Lean.Parser.Tactic.simpLemma| $(Lean.mkIdent s.toName):ident)
  `(tactic| simp only [$xs,*,$ds,*,$ps,*])
namespace My
local macro_rules | `(tactic| omega)=>`(tactic| lia)
open PySem L2
def top (i:Nat):Stmt:=PySem.Challenge.pw_hideworth_k84_whole_what_is_read_is_writ.main.body.getD i (.Pass ⟨0,0,0,0⟩)
abbrev zgN:Stmt:=top 21
abbrev zfN:Stmt:=top 22
abbrev zh4:Stmt:=top 28
abbrev zc9:Stmt:=top 29
abbrev zgF:Stmt:=top 30
abbrev zfT:Stmt:=top 31
abbrev ze8:Stmt:=top 35
abbrev zeF:Stmt:=top 36
abbrev zdy:Stmt:=top 37
abbrev zf0:Stmt:=top 38
abbrev zgQ:Stmt:=top 39
abbrev zeQ:Stmt:=top 40
abbrev zd2:Stmt:=top 41
abbrev zdA:Stmt:=top 42
abbrev zgp:Stmt:=top 43
abbrev zf5:Stmt:=top 44
abbrev zhX:Stmt:=top 45
abbrev zhq:Stmt:=top 46
abbrev zgA:Stmt:=top 47
abbrev zfs:Stmt:=top 48
abbrev ze9:Stmt:=top 49
abbrev zdC:Stmt:=top 50
abbrev zeJ:Stmt:=top 52
abbrev zer:Stmt:=top 53
abbrev zea:Stmt:=top 54
abbrev zgx:Stmt:=top 55
abbrev zfz:Stmt:=top 56
abbrev zeP:Stmt:=top 57
abbrev zcW:Stmt:=top 58
abbrev zfx:Stmt:=top 59
abbrev zfM:Stmt:=top 60
abbrev zqh:Stmt:=top 61
abbrev zdh:Stmt:=(zpL (top 16)).getD 0 (.Pass ⟨0,0,0,0⟩)
abbrev zcM:Stmt:=(zpL (top 18)).getD 0 (.Pass ⟨0,0,0,0⟩)
def zu2:Expr:=match (zca ze9).getD 0 (.Pass ⟨0,0,0,0⟩) with
 | .Assign _ (.Call _ [_,e] _ _) _=>e
 | _=>.Constant .none 0 ⟨0,0,0,0⟩
def zsz:Pos:=match zu2 with
 | .Lambda _ _ _ p=>p
 | _=>⟨0,0,0,0⟩
def znG:Expr:=match (zca zdC).getD 2 (.Pass ⟨0,0,0,0⟩) with
 | .Return (some (.Tuple [_,.Call _ [_,e] _ _] _ _)) _=>e
 | _=>.Constant .none 0 ⟨0,0,0,0⟩
def zox:Pos:=match znG with
 | .Lambda _ _ _ p=>p
 | _=>⟨0,0,0,0⟩
set_option genInjectivity false in
set_option genSizeOf false in
structure Ad where
 f_is_whole:Addr
 d_is_whole:FuncData
 f_is_within:Addr
 d_is_within:FuncData
 f_is_road:Addr
 d_is_road:FuncData
 f_places_come_to:Addr
 d_places_come_to:FuncData
 f_look_web:Addr
 d_look_web:FuncData
 f_look_kind:Addr
 d_look_kind:FuncData
 f_web_rows:Addr
 d_web_rows:FuncData
 f_thing_text:Addr
 d_thing_text:FuncData
 f_paper_rows:Addr
 d_paper_rows:FuncData
 f_text_of:Addr
 d_text_of:FuncData
 f_web_text:Addr
 d_web_text:FuncData
 f_paper_text:Addr
 d_paper_text:FuncData
 f_number_in:Addr
 d_number_in:FuncData
 f_numbers_in:Addr
 d_numbers_in:FuncData
 f_thing_in:Addr
 d_thing_in:FuncData
 f_plan_in:Addr
 d_plan_in:FuncData
 f_many_in:Addr
 d_many_in:FuncData
 f_road_in:Addr
 d_road_in:FuncData
 f_share_in:Addr
 d_share_in:FuncData
 f_read_rows:Addr
 d_read_rows:FuncData
 f_read_web:Addr
 d_read_web:FuncData
 f_read_paper:Addr
 d_read_paper:FuncData
 f__law_mixed:Addr
 d__law_mixed:FuncData
 f__law_class:Addr
 d__law_class:FuncData
 f__law_length:Addr
 d__law_length:FuncData
 f__law_web:Addr
 d__law_web:FuncData
 f__law_text:Addr
 d__law_text:FuncData
 f__law_paper:Addr
 d__law_paper:FuncData
 f__law_paper_text:Addr
 d__law_paper_text:FuncData
 f__law_bent:Addr
 d__law_bent:FuncData
 f__law_told:Addr
 d__law_told:FuncData
 f_law:Addr
 d_law:FuncData
 c_HideError:Addr
 c_NoNumber:Addr
 c_NoTable:Addr
 c_NoBoxes:Addr
 c_NoBudget:Addr
 c_NoOrder:Addr
 c_NoWeights:Addr
 c_TooGreat:Addr
 c_NoKind:Addr
 c_NoTree:Addr
 c_NoTurns:Addr
 c_NoPlay:Addr
 c_NoRow:Addr
 c_NoName:Addr
 c_NoRoad:Addr
 c_NoWeb:Addr
 c_NoPlan:Addr
 c_NoText:Addr
 c_NoPaper:Addr
 i_NoWeb:Addr
 j_NoWeb:FuncData
 i_NoText:Addr
 j_NoText:FuncData
 k_MOST_PLACES:Tok
 k_MOST_ROADS:Tok
 k_MOST_LENGTH:Tok
 k_MOST_FIGURES:Tok
 k_FIGURES:Tok
 t_KINDS:Addr
 p_lam:Addr
 p_lam2:Addr
 cd_lam:Addr
 cd_lam2:Addr
structure Isa (K:PySem.W.Frag) (a:Ad):Prop where
 k_NoNumber:PySem.W.kitOne K (.ref a.c_NoText) (.ref a.c_NoNumber)=some false
 k_NoTable:PySem.W.kitOne K (.ref a.c_NoText) (.ref a.c_NoTable)=some false
 k_NoBoxes:PySem.W.kitOne K (.ref a.c_NoText) (.ref a.c_NoBoxes)=some false
 k_NoBudget:PySem.W.kitOne K (.ref a.c_NoText) (.ref a.c_NoBudget)=some false
 k_NoOrder:PySem.W.kitOne K (.ref a.c_NoText) (.ref a.c_NoOrder)=some false
 k_NoWeights:PySem.W.kitOne K (.ref a.c_NoText) (.ref a.c_NoWeights)=some false
 k_TooGreat:PySem.W.kitOne K (.ref a.c_NoText) (.ref a.c_TooGreat)=some false
 k_NoKind:PySem.W.kitOne K (.ref a.c_NoText) (.ref a.c_NoKind)=some false
 k_NoTree:PySem.W.kitOne K (.ref a.c_NoText) (.ref a.c_NoTree)=some false
 k_NoTurns:PySem.W.kitOne K (.ref a.c_NoText) (.ref a.c_NoTurns)=some false
 k_NoPlay:PySem.W.kitOne K (.ref a.c_NoText) (.ref a.c_NoPlay)=some false
 k_NoRow:PySem.W.kitOne K (.ref a.c_NoText) (.ref a.c_NoRow)=some false
 k_NoName:PySem.W.kitOne K (.ref a.c_NoText) (.ref a.c_NoName)=some false
 k_NoRoad:PySem.W.kitOne K (.ref a.c_NoText) (.ref a.c_NoRoad)=some false
 k_NoWeb:PySem.W.kitOne K (.ref a.c_NoText) (.ref a.c_NoWeb)=some false
 k_NoPlan:PySem.W.kitOne K (.ref a.c_NoText) (.ref a.c_NoPlan)=some false
 k_NoText:PySem.W.kitOne K (.ref a.c_NoText) (.ref a.c_NoText)=some true
 k_NoPaper:PySem.W.kitOne K (.ref a.c_NoText) (.ref a.c_NoPaper)=some false
 k_ValueError:PySem.W.kitOne K (.ref a.c_NoText) (.type "ValueError")=some true
 sub:PySem.W.subIn K (.ref a.c_NoText) (.ref a.c_HideError)=some true
 ec:ziE K (.ref a.c_NoText)
structure Txt (K:PySem.W.Frag) (mg:Str→Option Value) (base:Heap) (a:Ad):Prop where
 F_is_whole:Fun K "is_whole" "is_whole" zgN a.f_is_whole a.d_is_whole
 b_is_whole:zbI K a.d_is_whole ["thing"] []
 m_is_whole:mg "is_whole"=some (.ref a.f_is_whole)
 F_is_within:Fun K "is_within" "is_within" zfN a.f_is_within a.d_is_within
 b_is_within:zbI K a.d_is_within ["thing","least","most"] []
 m_is_within:mg "is_within"=some (.ref a.f_is_within)
 F_is_road:Fun K "is_road" "is_road" zh4 a.f_is_road a.d_is_road
 b_is_road:zbI K a.d_is_road ["thing","many"] []
 m_is_road:mg "is_road"=some (.ref a.f_is_road)
 F_places_come_to:Fun K "places_come_to" "places_come_to" zc9 a.f_places_come_to a.d_places_come_to
 b_places_come_to:zbI K a.d_places_come_to ["roads"] []
 m_places_come_to:mg "places_come_to"=some (.ref a.f_places_come_to)
 F_look_web:Fun K "look_web" "look_web" zgF a.f_look_web a.d_look_web
 b_look_web:zbI K a.d_look_web ["web"] []
 m_look_web:mg "look_web"=some (.ref a.f_look_web)
 F_look_kind:Fun K "look_kind" "look_kind" zfT a.f_look_kind a.d_look_kind
 b_look_kind:zbI K a.d_look_kind ["kind"] []
 m_look_kind:mg "look_kind"=some (.ref a.f_look_kind)
 F_web_rows:Fun K "web_rows" "web_rows" ze8 a.f_web_rows a.d_web_rows
 b_web_rows:zbI K a.d_web_rows ["web"] []
 m_web_rows:mg "web_rows"=some (.ref a.f_web_rows)
 F_thing_text:Fun K "thing_text" "thing_text" zeF a.f_thing_text a.d_thing_text
 b_thing_text:zbI K a.d_thing_text ["kind","thing"] []
 m_thing_text:mg "thing_text"=some (.ref a.f_thing_text)
 F_paper_rows:Fun K "paper_rows" "paper_rows" zdy a.f_paper_rows a.d_paper_rows
 b_paper_rows:zbI K a.d_paper_rows ["kind","paper"] []
 m_paper_rows:mg "paper_rows"=some (.ref a.f_paper_rows)
 F_text_of:Fun K "text_of" "text_of" zf0 a.f_text_of a.d_text_of
 b_text_of:zbI K a.d_text_of ["rows"] []
 m_text_of:mg "text_of"=some (.ref a.f_text_of)
 F_web_text:Fun K "web_text" "web_text" zgQ a.f_web_text a.d_web_text
 b_web_text:zbI K a.d_web_text ["web"] []
 m_web_text:mg "web_text"=some (.ref a.f_web_text)
 F_paper_text:Fun K "paper_text" "paper_text" zeQ a.f_paper_text a.d_paper_text
 b_paper_text:zbI K a.d_paper_text ["kind","paper"] []
 m_paper_text:mg "paper_text"=some (.ref a.f_paper_text)
 F_number_in:Fun K "number_in" "number_in" zd2 a.f_number_in a.d_number_in
 b_number_in:zbI K a.d_number_in ["word"] []
 m_number_in:mg "number_in"=some (.ref a.f_number_in)
 F_numbers_in:Fun K "numbers_in" "numbers_in" zdA a.f_numbers_in a.d_numbers_in
 b_numbers_in:zbI K a.d_numbers_in ["words"] []
 m_numbers_in:mg "numbers_in"=some (.ref a.f_numbers_in)
 F_thing_in:Fun K "thing_in" "thing_in" zgp a.f_thing_in a.d_thing_in
 b_thing_in:zbI K a.d_thing_in ["kind","word"] []
 m_thing_in:mg "thing_in"=some (.ref a.f_thing_in)
 F_plan_in:Fun K "plan_in" "plan_in" zf5 a.f_plan_in a.d_plan_in
 b_plan_in:zbI K a.d_plan_in ["kind","words"] []
 m_plan_in:mg "plan_in"=some (.ref a.f_plan_in)
 F_many_in:Fun K "many_in" "many_in" zhX a.f_many_in a.d_many_in
 b_many_in:zbI K a.d_many_in ["row"] []
 m_many_in:mg "many_in"=some (.ref a.f_many_in)
 F_road_in:Fun K "road_in" "road_in" zhq a.f_road_in a.d_road_in
 b_road_in:zbI K a.d_road_in ["row","many"] []
 m_road_in:mg "road_in"=some (.ref a.f_road_in)
 F_share_in:Fun K "share_in" "share_in" zgA a.f_share_in a.d_share_in
 b_share_in:zbI K a.d_share_in ["row","kind"] []
 m_share_in:mg "share_in"=some (.ref a.f_share_in)
 F_read_rows:Fun K "read_rows" "read_rows" zfs a.f_read_rows a.d_read_rows
 b_read_rows:zbI K a.d_read_rows ["text","read_row"] []
 m_read_rows:mg "read_rows"=some (.ref a.f_read_rows)
 F_read_web:zom K "read_web" "read_web" ze9 a.f_read_web a.d_read_web a.cd_lam
 b_read_web:zbI K a.d_read_web ["text"] []
 m_read_web:mg "read_web"=some (.ref a.f_read_web)
 F_read_paper:zom K "read_paper" "read_paper" zdC a.f_read_paper a.d_read_paper a.cd_lam2
 b_read_paper:zbI K a.d_read_paper ["text"] []
 m_read_paper:mg "read_paper"=some (.ref a.f_read_paper)
 F__law_mixed:Fun K "_law_mixed" "_law_mixed" zeJ a.f__law_mixed a.d__law_mixed
 b__law_mixed:zbI K a.d__law_mixed ["_law_script","_law_k"] []
 m__law_mixed:mg "_law_mixed"=some (.ref a.f__law_mixed)
 F__law_class:Fun K "_law_class" "_law_class" zer a.f__law_class a.d__law_class
 b__law_class:zbI K a.d__law_class ["_law_caught"] []
 m__law_class:mg "_law_class"=some (.ref a.f__law_class)
 F__law_length:Fun K "_law_length" "_law_length" zea a.f__law_length a.d__law_length
 b__law_length:zbI K a.d__law_length ["_law_number"] []
 m__law_length:mg "_law_length"=some (.ref a.f__law_length)
 F__law_web:Fun K "_law_web" "_law_web" zgx a.f__law_web a.d__law_web
 b__law_web:zbI K a.d__law_web ["_law_script","_law_start","_law_most","_law_extra"] []
 m__law_web:mg "_law_web"=some (.ref a.f__law_web)
 F__law_text:Fun K "_law_text" "_law_text" zfz a.f__law_text a.d__law_text
 b__law_text:zbI K a.d__law_text ["_law_web_here"] []
 m__law_text:mg "_law_text"=some (.ref a.f__law_text)
 F__law_paper:Fun K "_law_paper" "_law_paper" zeP a.f__law_paper a.d__law_paper
 b__law_paper:zbI K a.d__law_paper ["_law_script","_law_start","_law_kind"] []
 m__law_paper:mg "_law_paper"=some (.ref a.f__law_paper)
 F__law_paper_text:Fun K "_law_paper_text" "_law_paper_text" zcW a.f__law_paper_text a.d__law_paper_text
 b__law_paper_text:zbI K a.d__law_paper_text ["_law_kind","_law_paper_here"] []
 m__law_paper_text:mg "_law_paper_text"=some (.ref a.f__law_paper_text)
 F__law_bent:Fun K "_law_bent" "_law_bent" zfx a.f__law_bent a.d__law_bent
 b__law_bent:zbI K a.d__law_bent ["_law_text_here","_law_draws"] []
 m__law_bent:mg "_law_bent"=some (.ref a.f__law_bent)
 F__law_told:Fun K "_law_told" "_law_told" zfM a.f__law_told a.d__law_told
 b__law_told:zbI K a.d__law_told ["_law_way","_law_text_here"] []
 m__law_told:mg "_law_told"=some (.ref a.f__law_told)
 F_law:Fun K "law" "law" zqh a.f_law a.d_law
 b_law:zbI K a.d_law ["_law_script"] []
 m_law:mg "law"=some (.ref a.f_law)
 hC:PySem.W.CodeHd base a.cd_lam a.p_lam
 hB:base.BuiltinsAt mg a.p_lam
 hC2:PySem.W.CodeHd base a.cd_lam2 a.p_lam2
 hB2:base.BuiltinsAt mg a.p_lam2
 hpp:a.p_lam≠a.p_lam2
 z_isinstance:mg "isinstance"=none
 z_int:mg "int"=none
 z_bool:mg "bool"=none
 z_list:mg "list"=none
 z_len:mg "len"=none
 z_all:mg "all"=none
 z_range:mg "range"=none
 z_tuple:mg "tuple"=none
 z_str:mg "str"=none
 z_enumerate:mg "enumerate"=none
 z_min:mg "min"=none
 z_ValueError:mg "ValueError"=none
 m_HideError:mg "HideError"=some (.ref a.c_HideError)
 m_NoNumber:mg "NoNumber"=some (.ref a.c_NoNumber)
 m_NoTable:mg "NoTable"=some (.ref a.c_NoTable)
 m_NoBoxes:mg "NoBoxes"=some (.ref a.c_NoBoxes)
 m_NoBudget:mg "NoBudget"=some (.ref a.c_NoBudget)
 m_NoOrder:mg "NoOrder"=some (.ref a.c_NoOrder)
 m_NoWeights:mg "NoWeights"=some (.ref a.c_NoWeights)
 m_TooGreat:mg "TooGreat"=some (.ref a.c_TooGreat)
 m_NoKind:mg "NoKind"=some (.ref a.c_NoKind)
 m_NoTree:mg "NoTree"=some (.ref a.c_NoTree)
 m_NoTurns:mg "NoTurns"=some (.ref a.c_NoTurns)
 m_NoPlay:mg "NoPlay"=some (.ref a.c_NoPlay)
 m_NoRow:mg "NoRow"=some (.ref a.c_NoRow)
 m_NoName:mg "NoName"=some (.ref a.c_NoName)
 m_NoRoad:mg "NoRoad"=some (.ref a.c_NoRoad)
 m_NoWeb:mg "NoWeb"=some (.ref a.c_NoWeb)
 m_NoPlan:mg "NoPlan"=some (.ref a.c_NoPlan)
 m_NoText:mg "NoText"=some (.ref a.c_NoText)
 m_NoPaper:mg "NoPaper"=some (.ref a.c_NoPaper)
 m_MOST_PLACES:mg "MOST_PLACES"=some (.int 60 a.k_MOST_PLACES)
 m_MOST_ROADS:mg "MOST_ROADS"=some (.int 120 a.k_MOST_ROADS)
 m_MOST_LENGTH:mg "MOST_LENGTH"=some (.int 1000000 a.k_MOST_LENGTH)
 m_MOST_FIGURES:mg "MOST_FIGURES"=some (.int 2000 a.k_MOST_FIGURES)
 m_FIGURES:mg "FIGURES"=some (.str "0123456789" a.k_FIGURES)
 m_KINDS:mg "KINDS"=some (.ref a.t_KINDS)
 u_KINDS:zrg K a.t_KINDS [.str "walk",.str "spread"]
 x_HideError:PySem.W.excIn K a.c_HideError zfA "ValueError.__new__"=true
 x_NoKind:PySem.W.excIn K a.c_NoKind zfA "ValueError.__new__"=true
 B:ExB K a.c_HideError
 I_NoWeb:Fun K "__init__" "NoWeb.__init__" zdh a.i_NoWeb a.j_NoWeb
 bi_NoWeb:zbI K a.j_NoWeb ["self","road"] []
 X_NoWeb:ExI K a.c_NoWeb a.i_NoWeb
 xa_NoWeb:zif K a.c_NoWeb "road"
 I_NoText:Fun K "__init__" "NoText.__init__" zcM a.i_NoText a.j_NoText
 bi_NoText:zbI K a.j_NoText ["self","row"] []
 X_NoText:ExI K a.c_NoText a.i_NoText
 xa_NoText:zif K a.c_NoText "row"
 su_NoWeb:PySem.W.subIn K (.ref a.c_NoWeb) (.ref a.c_NoWeb)=some true
 I:Isa K a
theorem zus:zk6 10 18:=⟨by decide,by decide,by decide⟩
theorem logA:(0:Int)<1000000000000000000∧(Int.natAbs 1000000000000000000).log2<9000:=by decide +kernel
theorem logB:(0:Int)<2147483587∧(Int.natAbs 2147483587).log2<9000:=by decide +kernel
theorem log8:(0:Int)<8∧(Int.natAbs 8).log2<9000:=by decide +kernel
def zi6:Sp:=fun vs H Q _=>∃ a:Int,vs=[.int a]∧Q (.bl true) H
def zbg (K:PySem.W.Frag):Sp:=fun vs H Q _=>∃ (a:Addr) (ns:List Int) (k:Int),vs=[.ref a,.int k]∧SqL K H a (ns.map V.int)∧ns.length≤63∧0≤k∧k<1000000∧∀ r:Int,0≤r→r<2147483587→Q (.int r) H
theorem zep {α β:Type} {f:α→β} {l:List α} {i:Nat} {y:β} (h:(l.map f)[i]?=some y):∃ x,l[i]?=some x∧y=f x:=by
 rw [List.getElem?_map] at h
 obtain ⟨x,h1,h2⟩:=Option.map_eq_some_iff.mp h
 exact ⟨x,h1,h2.symm⟩
def Tps {α:Type} (f:α→List V) (H:Hp) (ts:List Addr) (bs:List α):Prop:=ts.length=bs.length∧∀ (i:Nat) t b,ts[i]?=some t→bs[i]?=some b→H t=some (.tup (f b))
theorem Tps.same {α:Type} {f:α→List V} {H H':Hp} {ts:List Addr} {bs:List α} (h:Tps f H ts bs) (s:zaJ H H'):Tps f H' ts bs:=⟨h.1,fun i t b e1 e2=>s _ _ (h.2 i t b e1 e2)⟩
theorem Tps.nil {α:Type} {f:α→List V} {H:Hp}:Tps f H [] ([]:List α):=⟨rfl,fun i t b e=>by simp at e⟩
theorem Tps.put {α:Type} {f:α→List V} {H H':Hp} {ts:List Addr} {bs:List α} {t:Addr} {b:α} (h:Tps f H ts bs) (s:∀ (x:Addr) (u:List V),H x=some (.tup u)→H' x=some (.tup u)) (e:H' t=some (.tup (f b))):Tps f H' (ts++[t]) (bs++[b]):=by
 refine ⟨by rw [List.length_append,List.length_append,h.1];rfl,fun i x y e1 e2=>?_⟩
 by_cases c:i<ts.length
 ·rw [List.getElem?_append_left c] at e1
  rw [List.getElem?_append_left (by rw [← h.1];exact c)] at e2
  exact s _ _ (h.2 i x y e1 e2)
 ·have c1:ts.length≤i:=by omega
  rw [List.getElem?_append_right c1] at e1
  rw [List.getElem?_append_right (by rw [← h.1];exact c1),← h.1] at e2
  have z:i - ts.length=0:=by
   have:=(List.getElem?_eq_some_iff.mp e1).1
   simp only [List.length_cons,List.length_nil] at this
   omega
  rw [z] at e1 e2
  simp only [List.getElem?_cons_zero,Option.some.injEq] at e1 e2
  rw [← e1,← e2]
  exact e
theorem Tps.at {α:Type} {f:α→List V} {H:Hp} {ts:List Addr} {bs:List α} (h:Tps f H ts bs) {i:Nat} {t:Addr} (e:ts[i]?=some t):∃ b,bs[i]?=some b∧H t=some (.tup (f b)):=by
 have hi:=(List.getElem?_eq_some_iff.mp e).1
 rw [h.1] at hi
 exact ⟨bs[i],List.getElem?_eq_getElem hi,h.2 i t _ e (List.getElem?_eq_getElem hi)⟩
theorem zcQ {α:Type} {l:List α} {i:Nat} {x:α} (e:l[i]?=some x):x∈l:=List.mem_of_getElem? e
def Off (p c:Addr) (H:Hp):Hp:=fun b=>if b=p∨b=c then none else H b
theorem zvq (p c:Addr) (H:Hp):zaJ (Off p c H) H:=fun b o h=>by
 unfold Off at h
 split at h
 ·cases h
 ·exact h
theorem zp2 {p c b:Addr} {H:Hp} (h1:b≠p) (h2:b≠c):Off p c H b=H b:=if_neg (fun z=>z.elim h1 h2)
theorem zv5 {p c b:Addr} {H:Hp} {o:HO} (h:Off p c H b=some o):b≠p∧b≠c:=by
 unfold Off at h
 split at h
 ·cases h
 ·rename_i z
  exact ⟨fun e=>z (.inl e),fun e=>z (.inr e)⟩
theorem zwF {p c:Addr} {H:Hp} {o:HO}:Off p c (upd H p o)=Off p c H:=by
 funext b
 unfold Off upd
 split
 ·rfl
 ·rename_i z
  rw [if_neg fun e=>z (.inl e)]
theorem zi7 {H H':Hp} (p c:Addr) (s:zaJ H H'):zaJ (Off p c H) (Off p c H'):=fun b o h=>by
 have n:=zv5 h
 rw [zp2 n.1 n.2] at h ⊢
 exact s _ _ h
theorem zuQ {c:TT} {tb:TS} {D:zce} {σ:St} {H:Hp} (W:Nat→St→Hp→Prop) {m:Nat} (h0:W m σ H)
  (hs:∀ m σ H,W m σ H→c σ H fun b H1=>if b=true then ∃ N:St→Hp→Prop,(∀ σ' H',N σ' H'→∃ m',m'<m∧W m' σ' H')∧tb { D with nx:=N,ct:=N,bk:=D.nx } σ H1 else D.nx σ H1):zpK c tb D σ H:=⟨W,⟨m,h0⟩,hs⟩
abbrev zcd:=Int×Int×Int
abbrev rdv (r:zcd):List V:=[.int r.1,.int r.2.1,.int r.2.2]
def GR (m:Int) (r:zcd):Prop:=0≤r.1∧r.1<m∧0≤r.2.1∧r.2.1<m∧r.1≠r.2.1∧1≤r.2.2∧r.2.2≤1000000
instance (m:Int) (r:zcd):Decidable (GR m r):=by unfold GR;infer_instance
def zsC (m:Int) (rs:List zcd):Prop:=∀ S:Int→Prop,S 0→(∀ r∈rs,S r.1∨S r.2.1→S r.1∧S r.2.1)→∀ x,0≤x→x<m→S x
structure GW (m:Int) (rs:List zcd):Prop where
 m1:1≤m
 m60:m≤60
 l120:rs.length≤120
 gr:∀ r∈rs,GR m r
 conn:zsC m rs
structure zjJ (H:Hp) (w rl:Addr) (ts:List Addr) (m:Int) (rs:List zcd):Prop where
 hw:H w=some (.tup [.int m,.ref rl])
 hl:H rl=some (.lst (ts.map V.ref))
 ht:Tps rdv H ts rs
theorem zjJ.same {H H':Hp} {w rl:Addr} {ts:List Addr} {m:Int} {rs:List zcd} (h:zjJ H w rl ts m rs) (s:zaJ H H'):zjJ H' w rl ts m rs:=⟨s _ _ h.hw,s _ _ h.hl,h.ht.same s⟩
def shs (f:Int→Int→Option Int) (r:zcd):Int→Int→Option Int:=fun x y =>
 if x=r.2.1∧y=r.1 then some (min ((f r.1 r.2.1).getD r.2.2) r.2.2) else if x=r.1∧y=r.2.1 then some (min ((f r.1 r.2.1).getD r.2.2) r.2.2) else f x y
def sh (rs:List zcd):Int→Int→Option Int:=rs.foldl shs fun _ _=>none
def zd1:Sp:=fun vs H Q _=>∃ x l m:Int,vs=[.int x,.int l,.int m]∧Q (.bl (decide (l≤x∧x≤m))) H
def zga:Sp:=fun vs H Q _=>∃ (t:Addr) (r:zcd) (m:Int),vs=[.ref t,.int m]∧H t=some (.tup (rdv r))∧Q (.bl (decide (GR m r))) H
def zp6:Sp:=fun vs H Q _=>∃ (rl:Addr) (ts:List Addr) (rs:List zcd) (m:Int),vs=[.ref rl]∧H rl=some (.lst (ts.map V.ref))∧Tps rdv H ts rs∧1≤m∧m≤60∧(∀ r∈rs,GR m r)∧∀ (d:Addr) (kvs:List (Key×V)) (H':Hp),zaJ H H'→H' d=some (.dK kvs)→(m≤(kvs.length:Int)↔zsC m rs)→Q (.ref d) H'
theorem zlF {K:PySem.W.Frag} {H:Hp} {Q:VK} {r:Addr} {xs:List V} (h:H r=some (.lst xs)) (q:Q (.bl true) H):zm0 K [.ref r,.ty "list"] H Q:=⟨_,_,_,_,true,rfl,rfl,.of (.lst h),rfl,q⟩
def zi9 (m:Int):List zcd→Option Nat
 | []=>none
 | r::rs=>if GR m r then (zi9 m rs).map (·+1) else some 0
theorem zmR {m:Int}:∀ {rs:List zcd} {i:Nat} {r:zcd},rs[i]?=some r→¬ GR m r→(∀ (j:Nat) q,j<i→rs[j]?=some q→GR m q)→zi9 m rs=some i
 | x::rs,0,r,e,h,_=>by
  cases e
  unfold zi9
  rw [if_neg h]
 | x::rs,i+1,r,e,h,hb=>by
  unfold zi9
  rw [if_pos (hb 0 x (Nat.succ_pos _) rfl),zmR (rs:=rs) e h fun j q hj hq=>hb (j+1) q (Nat.succ_lt_succ hj) hq]
  rfl
theorem zgt {m:Int}:∀ {rs:List zcd},(∀ r∈rs,GR m r)→zi9 m rs=none
 | [],_=>rfl
 | x::rs,h=>by
  unfold zi9
  rw [if_pos (h x (by simp)),zgt fun r hr=>h r (by simp [hr])]
  rfl
def zru (m:Int) (rs:List zcd):Prop:=zi9 m rs=none∧1≤m∧m≤60∧rs.length≤120∧zsC m rs
def zrl (m:Int) (rs:List zcd) (d:Int):Prop:=(∃ k:Nat,zi9 m rs=some k∧d=k)∨(zi9 m rs=none∧¬ (1≤m∧m≤60∧rs.length≤120∧zsC m rs)∧d=-1)
theorem zrl.not {m:Int} {rs:List zcd} {d:Int} (h:zrl m rs d) (g:zru m rs):False:=by
 rcases h with ⟨k,h1,h2⟩ | ⟨h1,h2,_⟩
 ·rw [g.1] at h1
  cases h1
 ·exact h2 g.2
def zgM (a:Ad):Sp:=fun vs H Q E=>∃ (w rl:Addr) (ts:List Addr) (m:Int) (rs:List zcd),vs=[.ref w]∧zjJ H w rl ts m rs∧rs.length≤99999∧(zru m rs→∀ H',zaJ H H'→Q .non H')∧(∀ d,zrl m rs d→∀ (dx:Addr) (H':Hp),zaJ H H'→H' dx=none→E (.ref a.c_NoWeb) (some dx) (L2.upd H' dx (.xd [("road",.int d)])))
def dg (c:Nat):Bool:=decide (48≤c)&&decide (c≤57)
theorem zqm:(Str.ofString "0123456789").cps.toList=[48,49,50,51,52,53,54,55,56,57]:=by decide +kernel
theorem zw0 (c:Nat):(!(Builtin.Str.occurrences (Str.ofString "0123456789") ⟨#[c]⟩ 0 (Str.ofString "0123456789").length 1).isEmpty)=dg c:=by
 rw [StrLaws.found_one,zqm]
 unfold dg
 by_cases h:48≤c∧c≤57
 ·rw [decide_eq_true h.1,decide_eq_true h.2,decide_eq_true]
  ·rfl
  ·have:c=48∨c=49∨c=50∨c=51∨c=52∨c=53∨c=54∨c=55∨c=56∨c=57:=by omega
   rcases this with rfl | rfl | rfl | rfl | rfl | rfl | rfl | rfl | rfl | rfl <;> decide
 ·rw [decide_eq_false (p:=c∈_)]
  ·cases z:(decide (48≤c)&&decide (c≤57)) with
   | false=>rfl
   | true =>
    rw [Bool.and_eq_true,decide_eq_true_eq,decide_eq_true_eq] at z
    exact absurd z h
  ·intro m
   simp only [List.mem_cons,List.not_mem_nil,or_false] at m
   omega
theorem znp:(Str.ofString "0").cps.toList=[48]:=by decide +kernel
theorem zth (w:Str):Txt.startswith w (Str.ofString "0")=decide (w.cps.toList.head?=some 48):=by
 unfold Txt.startswith
 rw [StrLaws.subAt_eq,znp]
 have l1:(Str.ofString "0").length=1:=by decide +kernel
 have lw:w.length=w.cps.toList.length:=by simp [Str.length]
 rw [l1,lw,List.drop_zero]
 cases h:w.cps.toList with
 | nil=>rfl
 | cons c l =>
  show (decide (0+1≤(c::l).length)&&([c] == [48]))=decide (some c=some 48)
  rw [decide_eq_true (show 0+1≤(c::l).length by rw [List.length_cons];omega),Bool.true_and]
  by_cases z:c=48
  ·rw [z];rfl
  ·rw [decide_eq_false (fun y=>z (Option.some.inj y))]
   simp [z]
def okW (w:Str):Bool:=decide (1≤w.length)&&w.cps.toList.all dg&&!(decide (w.cps.toList.head?=some 48)&&!decide (w=Str.ofString "0"))
def zdQ (w:Str):Option Int:=if okW w=true then PySem.intText? w else none
def zla:Option Int→V
 | none=>.non
 | some n=>.int n
theorem zrP {w:Str} (h:w.cps.toList.all dg=true) (l1:1≤w.length) (l2:w.length≤4300):∃ n:Int,PySem.intText? w=some n∧0≤n:=by
 have lw:w.length=w.cps.toList.length:=by simp [Str.length]
 refine ⟨_,PySem.intText_digits (fun c hc=>?_) (fun z=>?_) l2,Int.natCast_nonneg _⟩
 ·have:=List.all_eq_true.mp h c hc
  unfold dg at this
  rw [Bool.and_eq_true,decide_eq_true_eq,decide_eq_true_eq] at this
  exact this
 ·rw [lw,z] at l1
  exact absurd l1 (by decide)
def lr:Nat→List Nat→Nat
 | k,[]=>k
 | k,c::l=>if c=32∨c=10 then max k (lr 0 l) else lr (k+1) l
theorem zcB (k c:Nat) (l:List Nat):lr k (c::l)=if c=32∨c=10 then max k (lr 0 l) else lr (k+1) l:=rfl
theorem zhx:∀ (l:List Nat) (k:Nat),k≤lr k l∧lr 0 l≤lr k l∧lr k l≤k+lr 0 l
 | [],k=>⟨Nat.le_refl _,Nat.zero_le _,Nat.le_refl _⟩
 | c::l,k=>by
  rw [zcB,zcB]
  by_cases h:c=32∨c=10
  ·rw [if_pos h,if_pos h]
   omega
  ·rw [if_neg h,if_neg h]
   have h1:=zhx l (k+1)
   have h2:=zhx l (0+1)
   have h3:∀ j,lr j l=max j (lr 0 l)∨True:=fun j=>.inr trivial
   refine ⟨by omega,?_,?_⟩
   ·exact lr_mono l (by omega)
   ·exact lr_shift l k 1
where
 lr_mono:∀ (l:List Nat) {j k:Nat},j≤k→lr j l≤lr k l
  | [],j,k,h=>h
  | c::l,j,k,h=>by
   rw [zcB,zcB]
   by_cases z:c=32∨c=10
   ·rw [if_pos z,if_pos z];omega
   ·rw [if_neg z,if_neg z]
    exact lr_mono l (by omega)
 lr_shift:∀ (l:List Nat) (j k:Nat),lr (j+k) l≤j+lr k l
  | [],j,k=>Nat.le_refl _
  | c::l,j,k=>by
   rw [zcB,zcB]
   by_cases z:c=32∨c=10
   ·rw [if_pos z,if_pos z];omega
   ·rw [if_neg z,if_neg z]
    exact lr_shift l j (k+1)
theorem zg3:∀ (a b:List Nat) (k:Nat),lr k (a++b)≤lr k a+lr 0 b∧lr k a≤lr k (a++b)∧lr 0 b≤lr k (a++b)
 | [],b,k=>by
  have:=zhx b k
  exact ⟨this.2.2,this.1,this.2.1⟩
 | c::a,b,k=>by
  rw [List.cons_append,zcB,zcB]
  by_cases h:c=32∨c=10
  ·rw [if_pos h,if_pos h]
   have:=zg3 a b 0
   omega
  ·rw [if_neg h,if_neg h]
   exact zg3 a b (k+1)
theorem zmQ (s:Nat) (hs:s=32∨s=10):∀ (a b:List Nat) (k:Nat),lr k (a++s::b)=max (lr k a) (lr 0 b)
 | [],b,k=>by rw [List.nil_append,zcB,if_pos hs];rfl
 | c::a,b,k=>by
  rw [List.cons_append,zcB,zcB]
  by_cases h:c=32∨c=10
  ·rw [if_pos h,if_pos h,zmQ s hs a b 0];omega
  ·rw [if_neg h,if_neg h]
   exact zmQ s hs a b (k+1)
theorem zl6:∀ (l:List Nat) (k:Nat),32∉l→10∉l→lr k l=k+l.length
 | [],k,_,_=>rfl
 | c::l,k,h1,h2=>by
  rw [zcB,if_neg (fun z=>z.elim (fun e=>h1 (e ▸ List.mem_cons_self ..)) (fun e=>h2 (e ▸ List.mem_cons_self ..))),zl6 l _ (fun m=>h1 (List.mem_cons_of_mem _ m)) (fun m=>h2 (List.mem_cons_of_mem _ m)),List.length_cons]
  omega
theorem zpm:∀ (l:List Nat) (k:Nat),lr k l≤k+l.length
 | [],k=>Nat.le_refl _
 | c::l,k=>by
  rw [zcB,List.length_cons]
  have h1:=zpm l 0
  have h2:=zpm l (k+1)
  by_cases h:c=32∨c=10
  ·rw [if_pos h];omega
  ·rw [if_neg h];omega
theorem zuN (l:List Nat) (n:Nat):lr 0 (l.take n)≤lr 0 l:=by
 have:=(zg3 (l.take n) (l.drop n) 0).2.1
 rw [List.take_append_drop] at this
 exact this
theorem ztl (l:List Nat) (n:Nat):lr 0 (l.drop n)≤lr 0 l:=by
 have:=(zg3 (l.take n) (l.drop n) 0).2.2
 rw [List.take_append_drop] at this
 exact this
def sgn (s:Str):List Nat:=s.cps.toList
theorem zcA (s:Str):s.length=(sgn s).length:=by simp [sgn,Str.length]
theorem zb3 (s t:Str):sgn (s++t)=sgn s++sgn t:=by
 unfold sgn
 rw [Str.cps_append',Array.toList_append]
where
 Str.cps_append':(s++t).cps=s.cps++t.cps:=rfl
theorem zsP (l:List Nat):sgn ⟨l.toArray⟩=l:=rfl
theorem zdd {s t:Str} (h:sgn s=sgn t):s=t:=by
 cases s
 cases t
 exact congrArg _ (Array.toList_inj.mp h)
def Rn (n:Nat) (s:Str):Prop:=lr 0 (sgn s)≤n
theorem zeE (y x:Str):Str.join y [x]=x:=rfl
theorem zdo (y x z:Str) (l:List Str):sgn (Str.join y (x::z::l))=sgn x++(sgn y++sgn (Str.join y (z::l))):=by
 show sgn (x++y++Str.join y (z::l))=_
 rw [zb3,zb3,List.append_assoc]
theorem zme {c n:Nat} (hc:c=32∨c=10):∀ {l:List Str},(∀ x∈l,Rn n x)→Rn n (Str.join ⟨#[c]⟩ l)
 | [],_=>Nat.zero_le _
 | [x],h=>h x (List.mem_cons_self ..)
 | x::z::l,h=>by
  unfold Rn
  rw [zdo]
  show lr 0 (sgn x++c::sgn (Str.join ⟨#[c]⟩ (z::l)))≤n
  rw [zmQ c hc]
  have h1:=h x (List.mem_cons_self ..)
  have h2:=zme hc (l:=z::l) fun y hy=>h y (List.mem_cons_of_mem _ hy)
  unfold Rn at h1 h2
  omega
theorem zpA {c n:Nat}:∀ {l:List Str},Rn n (Str.join ⟨#[c]⟩ l)→∀ x∈l,Rn n x
 | [x],h,y,hy=>by rw [List.mem_singleton.mp hy];exact h
 | x::z::l,h,y,hy=>by
  unfold Rn at h
  rw [zdo] at h
  have h:lr 0 (sgn x++c::sgn (Str.join ⟨#[c]⟩ (z::l)))≤n:=h
  rcases List.mem_cons.mp hy with rfl | hy
  ·exact Nat.le_trans (zg3 _ _ 0).2.1 h
  ·refine zpA (c:=c) (l:=z::l) ?_ y hy
   have h2:=(zg3 (sgn x) (c::sgn (Str.join ⟨#[c]⟩ (z::l))) 0).2.2
   have h3:=(zg3 [c] (sgn (Str.join ⟨#[c]⟩ (z::l))) 0).2.2
   exact Nat.le_trans h3 (Nat.le_trans h2 h)
theorem zdz {c n:Nat} {s:Str} (h:Rn n s):∀ x∈Txt.split s ⟨#[c]⟩,Rn n x:=zpA (c:=c) (by rw [StrLaws.join_split];exact h)
theorem ziv {c:Nat} {s x:Str} {l:List Str} (e:Txt.split s ⟨#[c]⟩=x::l):sgn x=(sgn s).takeWhile (fun d=>decide (d≠c))∧(l=[]→s=x)∧(l≠[]→∃ z,sgn s=sgn x++c::z):=by
 have hf:=StrLaws.split_free s c x (by rw [e];exact List.mem_cons_self ..)
 have hj:=StrLaws.join_split s ⟨#[c]⟩
 rw [e] at hj
 have tw:∀ (a b:List Nat),c∉a→(a++c::b).takeWhile (fun d=>decide (d≠c))=a:=fun a b h=>by
  rw [List.takeWhile_append_of_pos (p:=fun d=>decide (d≠c)) (fun d hd=>decide_eq_true (fun (z:d=c)=>h (z ▸ hd))),List.takeWhile_cons_of_neg (by simp),List.append_nil]
 have tn:∀ (a:List Nat),c∉a→a.takeWhile (fun d=>decide (d≠c))=a:=fun a h=>by
  have:=List.takeWhile_append_of_pos (p:=fun d=>decide (d≠c)) (l₁:=a) (l₂:=[]) (fun d hd=>decide_eq_true (fun (z:d=c)=>h (z ▸ hd)))
  rw [List.append_nil,List.takeWhile_nil,List.append_nil] at this
  exact this
 cases l with
 | nil =>
  have hj:x=s:=hj
  subst hj
  exact ⟨(tn _ hf).symm,fun _=>rfl,fun h=>absurd rfl h⟩
 | cons z l =>
  have e2:=zdo ⟨#[c]⟩ x z l
  rw [hj] at e2
  refine ⟨?_,fun h=>(by cases h),fun _=>⟨_,e2⟩⟩
  rw [e2]
  exact (tw _ _ hf).symm
theorem zck (s y:Str):Txt.split s y≠[]:=by
 unfold Txt.split
 split
 ·exact List.cons_ne_nil _ _
 ·split
  ·exact List.cons_ne_nil _ _
  ·intro h
   rw [StrLaws.partsBetween_eq] at h
   obtain ⟨p,r,e⟩:=StrLaws.partsFrom_ne s y.length 0 (Builtin.Str.occurrences s y 0 s.length (s.length+1))
   rw [e] at h
   cases h
theorem split_len (s:Str) (c:Nat):(Txt.split s ⟨#[c]⟩).length≤s.length+1:=by
 have:=PyProof.Rows.split_weight s ⟨#[c]⟩ (Nat.le_refl 1)
 omega
theorem zdk (s:Str) (c:Nat):∀ x∈Txt.split s ⟨#[c]⟩,x.length≤s.length:=fun x hx=>by
 have h:=PyProof.Rows.split_weight s ⟨#[c]⟩ (Nat.le_refl 1)
 have:x.length≤((Txt.split s ⟨#[c]⟩).map (·.length)).sum:=List.le_sum_of_mem' (List.mem_map.mpr ⟨x,hx,rfl⟩)
 have l1:1≤(Txt.split s ⟨#[c]⟩).length:=List.length_pos_of_mem hx
 omega
where
 List.le_sum_of_mem':∀ {l:List Nat} {n:Nat},n∈l→n≤l.sum
  | a::l,n,h=>by
   rw [List.sum_cons]
   rcases List.mem_cons.mp h with rfl | h
   ·omega
   ·have:=List.le_sum_of_mem' h
    omega
theorem parti (s:Str) (c:Nat):sgn (Txt.partition s ⟨#[c]⟩).1=(sgn s).takeWhile (fun d=>decide (d≠c)):=by
 have key:∀ (l:List Nat) (i:Nat),(∀ k,k<i→l[k]?≠some c)→l[i]?=some c→l.takeWhile (fun d=>decide (d≠c))=l.take i:=by
  intro l
  induction l with
  | nil=>intro i _ h;cases h
  | cons a l ih =>
   intro i h1 h2
   cases i with
   | zero =>
    have:a=c:=Option.some.inj h2
    rw [List.takeWhile_cons_of_neg (by simp [this]),List.take_zero]
   | succ i =>
    have na:a≠c:=fun z=>h1 0 (Nat.succ_pos _) (by rw [z];rfl)
    rw [List.takeWhile_cons_of_pos (by simp [na]),List.take_succ_cons,ih i (fun k hk=>h1 (k+1) (by omega)) h2]
 have keyN:∀ l:List Nat,(∀ k:Nat,l[k]?≠some c)→l.takeWhile (fun d=>decide (d≠c))=l:=by
  intro l
  induction l with
  | nil=>intro _;rfl
  | cons a l ih =>
   intro h1
   have na:a≠c:=fun z=>h1 0 (by rw [z];rfl)
   rw [List.takeWhile_cons_of_pos (by simp [na]),ih (fun k=>h1 (k+1))]
 unfold Txt.partition
 rcases StrLaws.occ_head s ⟨#[c]⟩ 1 (Nat.le_refl 1) with ⟨e,hn⟩ | ⟨i,r,e,hi,hn⟩
 ·rw [e]
  show sgn s=_
  rw [keyN (sgn s) fun k hk=>hn k ((StrLaws.subAt_one s c k).mpr hk)]
 ·rw [e]
  have hi':=(StrLaws.subAt_one s c i).mp hi
  rw [key (sgn s) i (fun k hk z=>hn k hk ((StrLaws.subAt_one s c k).mpr z)) hi']
  show (Builtin.Str.strSub s 0 i).cps.toList=_
  rw [StrLaws.strSub_toList,List.drop_zero,Nat.sub_zero]
  rfl
theorem zqw {i:Int} (h0:0≤i) {k:Nat} (hk:0<k) (h:i<10 ^ k):(Str.ofString (toString i)).length≤k:=PyProof.Rows.toString_length_le h0 hk h
section
variable {P:Program} {w:World} {mg:Str→Option Value} {base:Heap}
variable {K:PySem.W.Frag} {H:Hp} {Q:VK} {a:Ad}
def zgr (K:PySem.W.Frag):TS :=
 (zb9 (zid (tCB (zm0 K) (zab (zac 0) (zab (tC (.ty "int")) zak))) (zt9 (tCB (zm0 K) (zab (zac 0) (zab (tC (.ty "bool")) zak))))))
theorem zlh {x:Int} (q:Q (.bl true) H):zgr K { nx:=fun _ H'=>Q .non H',rt:=Q } (L2.zbA ["thing"] [.int x]) H:=by
 unfold zgr
 simp_all only [zac]
 refine zlT ⟨_,rfl,iteT ?_⟩
 exact zj4 ⟨_,rfl,q⟩
theorem zlq:zaK ["thing"] ["thing"] (zam zgN):=⟨rfl,rfl,rfl,by decide +kernel,rfl,by decide +kernel,by decide +kernel⟩
theorem zhG (T:Txt K mg base a):zc8 P w K mg base CX0 1 a.f_is_whole a.d_is_whole ["thing"] zi6:=by
 refine T.F_is_whole.ok zlq (fun vs H Q E h=>?_) (fun cdv A outer s H vs Q E hr h=>?_)
 ·obtain ⟨x,rfl,q⟩:=h
  rfl
 obtain ⟨x,rfl,q⟩:=h
 exact ⟨zgr K,(zaj (zaN (zjO (zaq zds rfl T.z_isinstance PyProof.Rows.boot_isinstance (zaa (pv 0) (zaa (zgB rfl T.z_int zjt rfl) zae))) (zqp (zvT (zaq zds rfl T.z_isinstance PyProof.Rows.boot_isinstance (zaa (pv 0) (zaa (zgB rfl T.z_bool zpg rfl) zae)))))))),
  zlh q⟩
def zfP:TS :=
 (zb9 (zid (zaH zi6 [] E0 (zab (zac 0) zak)) (zg4 (rI0 fun i j=>.bl (decide (i≤j))) (rI0 fun i j=>.bl (decide (i≤j))) (zac 1) (zac 0) (zac 2))))
theorem zkI {x l m:Int} (q:Q (.bl (decide (l≤x∧x≤m))) H):zfP { nx:=fun _ H'=>Q .non H',rt:=Q } (L2.zbA ["thing","least","most"] [.int x,.int l,.int m]) H:=by
 unfold zfP
 simp_all only [zac]
 refine ⟨x,rfl,true,rfl,iteT ?_⟩
 refine zgl (fun c=>?_) (fun c=>?_)
 ·rw [show decide (l≤x∧x≤m)=decide (x≤m) from by simp [c]] at q
  exact q
 ·rw [show decide (l≤x∧x≤m)=false from by simp [c]] at q
  exact q
theorem zj7:zaK ["thing","least","most"] ["thing","least","most"] (zam zfN):=⟨rfl,rfl,rfl,by decide +kernel,rfl,by decide +kernel,by decide +kernel⟩
theorem zj1 (T:Txt K mg base a):zc8 P w K mg base CX0 2 a.f_is_within a.d_is_within ["thing","least","most"] zd1:=by
 have G_is_whole:=zhG (P:=P) (w:=w) (base:=base) T
 refine T.F_is_within.ok zj7 (fun vs H Q E h=>?_) (fun cdv A outer s H vs Q E hr h=>?_)
 ·obtain ⟨x,l,m,rfl,q⟩:=h
  rfl
 obtain ⟨x,l,m,rfl,q⟩:=h
 exact ⟨zfP,(zaj (zaN (zjO (zau G_is_whole (hr.mono (by decide)) rfl T.m_is_whole T.F_is_whole.kp T.b_is_whole .nil za8 (zaa (pv 0) zae)) (zqp (zrS znx znx (pv 1) (pv 0) (pv 2)))))),
  zkI q⟩
def zhS (K:PySem.W.Frag):TS :=
 (zaz (zaU (zac 0) (ziy K 3 (zbL (zai 2) (zbL (zai 3) (zbL (zai 4) zix)))))
 (zb9 (zid (zaH zd1 [] E0 (zab (zac 2) (zab (tC (.int 0)) (zab (tOp (rI0 fun i j=>.int (i - j)) (zac 1) (tC (.int 1))) zak)))) (zid (zaH zd1 [] E0 (zab (zac 3) (zab (tC (.int 0)) (zab (tOp (rI0 fun i j=>.int (i - j)) (zac 1) (tC (.int 1))) zak)))) (zid (tOp rNe (zac 2) (zac 3)) (zaH zd1 [] E0 (zab (zac 4) (zab (tC (.int 1)) (zab (tC (.int 1000000)) zak)))))))))
theorem zcZ (K:PySem.W.Frag) (D:zce) (σ:St) (H:Hp):zhS K D σ H=(zaz (zaU (zac 0) (ziy K 3 (zbL (zai 2) (zbL (zai 3) (zbL (zai 4) zix)))))
 (zb9 (zid (zaH zd1 [] E0 (zab (zac 2) (zab (tC (.int 0)) (zab (tOp (rI0 fun i j=>.int (i - j)) (zac 1) (tC (.int 1))) zak)))) (zid (zaH zd1 [] E0 (zab (zac 3) (zab (tC (.int 0)) (zab (tOp (rI0 fun i j=>.int (i - j)) (zac 1) (tC (.int 1))) zak)))) (zid (tOp rNe (zac 2) (zac 3)) (zaH zd1 [] E0 (zab (zac 4) (zab (tC (.int 1)) (zab (tC (.int 1000000)) zak))))))))) D σ H:=rfl
def zhJ (K:PySem.W.Frag):TS :=
 (zcn (tOr (zgX (tB (tCB (zm0 K) (zab (zac 0) (zab (tC (.ty "tuple")) zak))))) (zav (tOp rNe (tCB (fun xs H Q=>∃ p ys,xs=[.ref p]∧(SqL K H p ys∨SqT K H p ys)∧Q (.int ys.length) H) (zab (zac 0) zak)) (tC (.int 3))))) (zb9 (tC (.bl false))) zaZ)
theorem zc1 (K:PySem.W.Frag) (D:zce) (σ:St) (H:Hp):zhJ K D σ H=(zcn (tOr (zgX (tB (tCB (zm0 K) (zab (zac 0) (zab (tC (.ty "tuple")) zak))))) (zav (tOp rNe (tCB (fun xs H Q=>∃ p ys,xs=[.ref p]∧(SqL K H p ys∨SqT K H p ys)∧Q (.int ys.length) H) (zab (zac 0) zak)) (tC (.int 3))))) (zb9 (tC (.bl false))) zaZ) D σ H:=rfl
def zh1 (K:PySem.W.Frag):TS :=
 (zaz (zeh (zhJ K))
 (zhS K))
theorem zni {t:Addr} {r:zcd} {m:Int} (ht:H t=some (.tup (rdv r))) (q:Q (.bl (decide (GR m r))) H):zh1 K { nx:=fun _ H'=>Q .non H',rt:=Q } (L2.zbA ["thing","many","a","b","length"] [.ref t,.int m]) H:=by
 unfold zh1
 simp_all only [zcZ,zc1,zac]
 refine ⟨fun σ H'=>H'=H∧σ=[some (.ref t),some (.int m),none,none,none],?_,?_⟩
 ·simp_all only [zcZ,zc1,zac]
  refine zhH ht ⟨true,rfl,?_⟩
  refine zgl (fun z=>absurd z (by decide)) (fun _=>?_)
  refine ⟨_,.inr (SqT.of ht),?_⟩
  exact zgl (fun z=>absurd rfl z) (fun _=>rfl)
 ·rintro σ H' ⟨e,rfl⟩
  rw [e]
  simp_all only [zcZ,zc1,zac]
  refine ⟨_,SqT.of ht,rfl,_,_,rfl,_,_,rfl,_,_,rfl,rfl,?_⟩
  refine ⟨_,_,_,rfl,_,rfl,zgl (fun c1=>?_) (fun c1=>?_)⟩
  ·have c1:=of_decide_eq_true c1
   refine ⟨_,_,_,rfl,_,rfl,zgl (fun c2=>?_) (fun c2=>?_)⟩
   ·have c2:=of_decide_eq_true c2
    simp_all only [zcZ,zc1,zac]
    refine zgl (fun c3=>?_) (fun c3=>?_)
    ·refine ⟨_,_,_,rfl,?_⟩
     rw [show decide (GR m r)=decide (1≤r.2.2∧r.2.2≤1000000) from decide_eq_decide.mpr ⟨fun z=>z.2.2.2.2.2,fun z=>⟨by omega,by omega,by omega,by omega,c3,z⟩⟩] at q
     exact q
    ·rw [decide_eq_false (p:=GR m r) fun z=>c3 z.2.2.2.2.1] at q
     exact q
   ·rw [decide_eq_false (p:=GR m r) fun z=>c2 (decide_eq_true ⟨z.2.2.1,by have:=z.2.2.2.1;omega⟩)] at q
    exact q
  ·rw [decide_eq_false (p:=GR m r) fun z=>c1 (decide_eq_true ⟨z.1,by have:=z.2.1;omega⟩)] at q
   exact q
theorem ze4:zaK ["thing","many","a","b","length"] ["thing","many"] (zam zh4):=⟨rfl,rfl,rfl,by decide +kernel,rfl,by decide +kernel,by decide +kernel⟩
theorem ziB (T:Txt K mg base a):zc8 P w K mg base CX0 3 a.f_is_road a.d_is_road ["thing","many"] zga:=by
 have G_is_within:=zj1 (P:=P) (w:=w) (base:=base) T
 refine T.F_is_road.ok ze4 (fun vs H Q E h=>?_) (fun cdv A outer s H vs Q E hr h=>?_)
 ·obtain ⟨t,r,m,rfl,ht,q⟩:=h
  rfl
 obtain ⟨t,r,m,rfl,ht,q⟩:=h
 exact ⟨zh1 K,(zaf (zbQ (zb8 (PW.pt (zdJ (zef (zf8 (zaq zds rfl T.z_isinstance PyProof.Rows.boot_isinstance (zaa (pv 0) (zaa (zgB rfl T.z_tuple zdT rfl) zae))))) (zdg (zat zeq (zaq zaF rfl T.z_len PySem.boot_len (zaa (pv 0) zae)) zag (zaL _))))) (zaj (zaN zia)) zaT))
 (zaf (zkH (pv 0) (zdV rfl (zaO (zaG (i:=2) ze4.nd rfl (Or.inl rfl)) (zaO (zaG (i:=3) ze4.nd rfl (Or.inl rfl)) (zaO (zaG (i:=4) ze4.nd rfl (Or.inl rfl)) zcX)))))
 (zaj (zaN (zjO (zau G_is_within (hr.mono (by decide)) rfl T.m_is_within T.F_is_within.kp T.b_is_within .nil za8 (zaa (pv 2) (zaa zag (zaa (zan zgU (pv 1) zag) zae)))) (zjO (zau G_is_within (hr.mono (by decide)) rfl T.m_is_within T.F_is_within.kp T.b_is_within .nil za8 (zaa (pv 3) (zaa zag (zaa (zan zgU (pv 1) zag) zae)))) (zjO (zlu zeq (pv 2) (pv 3) (zaL _)) (zqp (zau G_is_within (hr.mono (by decide)) rfl T.m_is_within T.F_is_within.kp T.b_is_within .nil za8 (zaa (pv 4) (zaa zag (zaa (zbk rfl T.m_MOST_LENGTH ⟨_,rfl⟩) zae)))))))))))),
  zni ht q⟩
theorem zf4 {α:Type} [DecidableEq α]:∀ (a b:List α),a.Nodup→(∀ x∈a,x∈b)→a.length≤b.length
 | [],b,_,_=>Nat.zero_le _
 | x::a,b,nd,h=>by
  obtain ⟨n1,n2⟩:=List.nodup_cons.mp nd
  have hx:=h x (by simp)
  have ih:=zf4 a (b.erase x) n2 fun y hy=>(List.mem_erase_of_ne fun (e:y=x)=>n1 (e ▸ hy)).mpr (h y (by simp [hy]))
  rw [List.length_erase_of_mem hx] at ih
  have:=List.length_pos_of_mem hx
  rw [List.length_cons]
  omega
def Dm (kvs:List (Key×V)) (x:Int):Prop:=zgf kvs (.inl x)≠none
def zc3 {κ:Type} (kvs:List (κ×V)):List κ:=kvs.map (·.1)
theorem zlm {κ:Type} [DecidableEq κ] (kvs:List (κ×V)) (k:κ):zgf kvs k≠none↔k∈zc3 kvs:=by
 induction kvs with
 | nil=>simp [zgf,zc3]
 | cons p r ih =>
  by_cases e:p.1=k
  ·rw [zcz e]
   simp [zc3,e]
  ·rw [zcm e,ih]
   unfold zc3
   rw [List.map_cons,List.mem_cons]
   exact ⟨.inr,fun h=>h.resolve_left fun z=>e z.symm⟩
theorem zjh {κ:Type} [DecidableEq κ] (kvs:List (κ×V)) (k:κ) (v:V):zc3 (zg1 kvs k v)=if zgf kvs k=none then zc3 kvs++[k] else zc3 kvs:=by
 by_cases c:zgf kvs k=none
 ·rw [if_pos c,zqV v c]
  simp [zc3]
 ·rw [if_neg c]
  unfold zg1
  rw [ze2,if_pos (Option.isSome_iff_ne_none.mpr c)]
  unfold zc3
  rw [List.map_map]
  refine List.map_congr_left fun p _=>?_
  simp only [Function.comp]
  split <;> rfl
theorem ze3 {κ:Type} (kvs:List (κ×V)):(zc3 kvs).length=kvs.length:=List.length_map ..
theorem zqn {κ:Type} [DecidableEq κ] (kvs:List (κ×V)) (k:κ) (v:V):(zg1 kvs k v).length=if zgf kvs k=none then kvs.length+1 else kvs.length:=by
 rw [← ze3,zjh]
 split
 ·rw [List.length_append,ze3]
  rfl
 ·rw [ze3]
theorem zkT (kvs:List (Key×V)) (y x:Int) (v:V):Dm (zg1 kvs (.inl y) v) x↔x=y∨Dm kvs x:=by
 unfold Dm
 rw [zrh]
 by_cases e:x=y
 ·subst e
  simp
 ·rw [if_neg fun z=>e (Sum.inl.inj z)]
  exact ⟨.inr,fun h=>h.resolve_left e⟩
def Clo (rs:List zcd) (S:Int→Prop):Prop:=∀ r∈rs,S r.1∨S r.2.1→S r.1∧S r.2.1
structure Cm (m:Int) (rs:List zcd) (kvs:List (Key×V)):Prop where
 nd:(zc3 kvs).Nodup
 inR:∀ k∈zc3 kvs,∃ x:Int,k=.inl x∧0≤x∧x<m
 zero:Dm kvs 0
 least:∀ S:Int→Prop,S 0→Clo rs S→∀ x,Dm kvs x→S x
theorem Cm.put {m:Int} {rs:List zcd} {kvs:List (Key×V)} (h:Cm m rs kvs) {y:Int} (v:V) (y0:0≤y) (y1:y<m) (hy:∀ S:Int→Prop,S 0→Clo rs S→S y):Cm m rs (zg1 kvs (.inl y) v):=by
 refine ⟨?_,?_,(zkT ..).mpr (.inr h.zero),fun S s0 sc x hx=>?_⟩
 ·rw [zjh]
  split
  ·rename_i c
   refine List.nodup_append.mpr ⟨h.nd,by simp,fun a ha b hb e=>?_⟩
   have:b=.inl y:=by simpa using hb
   subst this
   subst e
   exact (zlm ..).mpr ha c
  ·exact h.nd
 ·rw [zjh]
  split
  ·intro k hk
   rcases List.mem_append.mp hk with z | z
   ·exact h.inR k z
   ·exact ⟨y,by simpa using z,y0,y1⟩
  ·exact h.inR
 ·rcases (zkT ..).mp hx with rfl | z
  ·exact hy S s0 sc
  ·exact h.least S s0 sc x z
theorem Cm.le {m:Int} {rs:List zcd} {kvs:List (Key×V)} (h:Cm m rs kvs) (m0:0≤m):(kvs.length:Int)≤m:=by
 have:=zf4 (zc3 kvs) ((List.range m.toNat).map fun k:Nat=>(Sum.inl (k:Int):Key)) h.nd fun k hk=>by
  obtain ⟨x,rfl,x0,x1⟩:=h.inR k hk
  exact List.mem_map.mpr ⟨x.toNat,List.mem_range.mpr (by omega),by rw [Int.toNat_of_nonneg x0]⟩
 rw [ze3,List.length_map,List.length_range] at this
 omega
theorem Cm.all {m:Int} {rs:List zcd} {kvs:List (Key×V)} (h:Cm m rs kvs) (m0:0≤m):m≤(kvs.length:Int)↔∀ x,0≤x→x<m→Dm kvs x:=by
 constructor
 ·intro hl x x0 x1
  refine Classical.byContradiction fun c=>?_
  have hx:(Sum.inl x:Key)∉zc3 kvs:=fun z=>c ((zlm ..).mpr z)
  have:=zf4 (Sum.inl x::zc3 kvs) ((List.range m.toNat).map fun k:Nat=>(Sum.inl (k:Int):Key)) (List.nodup_cons.mpr ⟨hx,h.nd⟩) fun k hk=>by
   have:∃ y:Int,k=.inl y∧0≤y∧y<m:=by
    rcases List.mem_cons.mp hk with z | z
    ·exact ⟨x,z,x0,x1⟩
    ·exact h.inR k z
   obtain ⟨y,rfl,y0,y1⟩:=this
   exact List.mem_map.mpr ⟨y.toNat,List.mem_range.mpr (by omega),by rw [Int.toNat_of_nonneg y0]⟩
  rw [List.length_cons,ze3,List.length_map,List.length_range] at this
  omega
 ·intro hx
  have:=zf4 ((List.range m.toNat).map fun k:Nat=>(Sum.inl (k:Int):Key)) (zc3 kvs) ?_ fun k hk=>?_
  ·rw [ze3,List.length_map,List.length_range] at this
   omega
  ·refine List.nodup_iff_pairwise_ne.mpr (List.pairwise_map.mpr ((List.nodup_iff_pairwise_ne.mp List.nodup_range).imp fun h e=>h ?_))
   have:=Sum.inl.inj e
   omega
  ·obtain ⟨x,hx1,rfl⟩:=List.mem_map.mp hk
   have:=List.mem_range.mp hx1
   exact (zlm ..).mp (hx x (by omega) (by omega))
theorem Cm.conn {m:Int} {rs:List zcd} {kvs:List (Key×V)} (h:Cm m rs kvs) (m0:0≤m) (c:Clo rs (Dm kvs)):m≤(kvs.length:Int)↔zsC m rs:=by
 rw [h.all m0]
 exact ⟨fun z S s0 sc x x0 x1=>h.least S s0 sc x (z x x0 x1),fun z x x0 x1=>z (Dm kvs) h.zero c x x0 x1⟩
def zcL:TS :=
 (zcn (tOr (tB (zuX (zac 3) (zac 1))) (tB (zuX (zac 4) (zac 1)))) (zaz (zm9 (zac 1) (zac 3) (tC (.bl true)))
 (zm9 (zac 1) (zac 4) (tC (.bl true)))) zaZ)
theorem zci (D:zce) (σ:St) (H:Hp):zcL D σ H=(zcn (tOr (tB (zuX (zac 3) (zac 1))) (tB (zuX (zac 4) (zac 1)))) (zaz (zm9 (zac 1) (zac 3) (tC (.bl true)))
 (zm9 (zac 1) (zac 4) (tC (.bl true)))) zaZ) D σ H:=rfl
def zdB (K:PySem.W.Frag):TS :=
 (zaz (zaU (tCB znf (zab (zac 1) zak)) (zai 2))
 (zfV (zfO K (zac 0)) (ziy K 3 (zbL (zai 3) (zbL (zai 4) (zbL (zai 5) zix))))
 (zcL)))
theorem zcj (K:PySem.W.Frag) (D:zce) (σ:St) (H:Hp):zdB K D σ H=(zaz (zaU (tCB znf (zab (zac 1) zak)) (zai 2))
 (zfV (zfO K (zac 0)) (ziy K 3 (zbL (zai 3) (zbL (zai 4) (zbL (zai 5) zix))))
 (zcL))) D σ H:=rfl
def zdc (K:PySem.W.Frag):TS :=
 (zaz (zaU (ztT (((tC (.int 0)),(tC (.bl true)))::[])) (zai 1))
 (zaz (zaU (tC (.int 0)) (zai 2))
 (zaz (zpK (zav (tOp (rI0 fun i j=>.bl (decide (i<j))) (zac 2) (tCB znf (zab (zac 1) zak)))) (zdB K))
 (zb9 (zac 1)))))
theorem zgI {rl:Addr} {ts:List Addr} {rs:List zcd} {m:Int} (hl:H rl=some (.lst (ts.map V.ref))) (ht:Tps rdv H ts rs) (m1:1≤m) (m60:m≤60) (gr:∀ r∈rs,GR m r)
  (q:∀ (d:Addr) (kvs:List (Key×V)) (H':Hp),zaJ H H'→H' d=some (.dK kvs)→(m≤(kvs.length:Int)↔zsC m rs)→Q (.ref d) H') :
  zdc K { nx:=fun _ H'=>Q .non H',rt:=Q } (L2.zbA ["roads","come","before","a","b","length"] [.ref rl]) H:=by
 unfold zdc
 simp_all only [zci,zcj,zac]
 refine fun d hd=>⟨zad,[(.inl 0,.bl true)],rfl,by decide,?_⟩
 refine zuQ (m:=100) (fun n σ H'=>∃ (kvs:List (Key×V)) (bf:Int) (x y z:Option V),σ=[some (.ref rl),some (.ref d),some (.int bf),x,y,z]∧zaJ H H'∧H' d=some (.dK kvs)∧Cm m rs kvs∧0≤bf∧bf≤(kvs.length:Int)∧(bf=(kvs.length:Int)→Clo rs (Dm kvs))∧n=(100 - bf).toNat) ?_ ?_
 ·refine ⟨[(.inl 0,.bl true)],0,_,_,_,rfl,?_,zad,⟨by decide,?_,(fun z=>nomatch z),fun S s0 _ x hx=>?_⟩,by decide,by decide,(fun z=>absurd z (by decide)),by decide⟩
  ·rw [zli]
   exact zah hd _
  ·intro k hk
   have:k=.inl 0:=by simpa [zc3] using hk
   exact ⟨0,this,by decide,by omega⟩
  ·have:x=0:=by
    refine Classical.byContradiction fun c=>hx ?_
    exact zcm (p:=(Sum.inl 0,V.bl true)) fun z=>c (Sum.inl.inj z).symm
   subst this
   exact s0
 ·rintro n σ H1 ⟨kvs,bf,x,y,z,rfl,s1,h1,C,b0,b1,bc,rfl⟩
  simp_all only [zci,zcj,zac]
  refine ⟨_,h1,?_⟩
  have hle:=C.le (by omega)
  refine zgl (fun c=>?_) (fun c=>?_)
  ·refine ⟨_,fun _ _ h=>h,_,h1,?_⟩
   refine ⟨⟨_,SqL.of (s1 _ _ hl)⟩,?_⟩
   refine zeB (K:=K) (xs:=ts.map V.ref) (fun i σ H'=>∃ (kv:List (Key×V)) (x y z:Option V),σ=[some (.ref rl),some (.ref d),some (.int kvs.length),x,y,z]∧zaJ H H'∧H' d=some (.dK kv)∧Cm m rs kv∧kvs.length≤kv.length∧(kv.length=kvs.length→Clo (rs.take i) (Dm kv))) ⟨kvs,_,_,_,rfl,s1,h1,C,Nat.le_refl _,fun _ r hr=>by simp at hr⟩ ?_ ?_ ?_
   ·rintro i σ H' _ ⟨kv,x,y,z,rfl,s,_⟩
    exact SqL.of (s _ _ hl)
   ·rintro i t σ H2 hx ⟨kv,x,y,z,rfl,s2,h2,C2,l2,c2⟩
    obtain ⟨t,et,rfl⟩:=zep hx
    obtain ⟨r,er,hr0⟩:=ht.at et
    have hr2:=s2 _ _ hr0
    have gr':=gr r (zcQ er)
    have mr:=zcQ er
    have stepc:∀ {kv':List (Key×V)},(∀ x,Dm kv' x↔Dm kv x)→kv.length=kvs.length→(Dm kv r.1∨Dm kv r.2.1→Dm kv r.1∧Dm kv r.2.1)→Clo (rs.take (i+1)) (Dm kv'):=by
     intro kv' e el hr' r' hr1
     rw [List.take_add_one,er] at hr1
     rw [e,e]
     rcases List.mem_append.mp hr1 with w | w
     ·exact c2 el r' w
     ·have:r'=r:=by simpa using w
      subst this
      exact hr'
    simp_all only [zci,zcj,zac]
    refine ⟨_,SqT.of hr2,rfl,_,_,rfl,_,_,rfl,_,_,rfl,rfl,?_⟩
    refine ⟨_,zuZ.k (k:=.inl r.1) h2,?_⟩
    have yes:Dm kv r.1∨Dm kv r.2.1→∀ (H3:Hp),H3=H2→∃ (H4:Hp),zsO H3 d (.int r.1) (.bl true) H4∧∃ (H5:Hp),zsO H4 d (.int r.2.1) (.bl true) H5∧zaJ H H5∧∃ (kv:List (Key×V)),H5 d=some (.dK kv)∧Cm m rs kv∧kvs.length≤kv.length∧(kv.length=kvs.length→Clo (rs.take (i+1)) (Dm kv)):=by
     rintro hor H3 rfl
     have hS:∀ S:Int→Prop,S 0→Clo rs S→S r.1∧S r.2.1:=fun S s0 sc=>sc r mr (hor.imp (C2.least S s0 sc _) (C2.least S s0 sc _))
     have C3:=C2.put (.bl true) gr'.1 gr'.2.1 fun S s0 sc=>(hS S s0 sc).1
     have C4:=C3.put (.bl true) gr'.2.2.1 gr'.2.2.2.1 fun S s0 sc=>(hS S s0 sc).2
     have le2:=C2.le (by omega)
     have le3:=C3.le (by omega)
     have big:(100:Nat)<sizeLine:=by decide
     have e3:=zqn kv (.inl r.1) (.bl true)
     have e4:=zqn (zg1 kv (.inl r.1) (.bl true)) (.inl r.2.1) (.bl true)
     refine ⟨_,zsO.k (k:=.inl r.1) h2 (by omega),_,zsO.k (k:=.inl r.2.1) zad (by omega),?_,_,zad,C4,?_,fun el=>?_⟩
     ·exact (s2.put hd).put hd
     ·rw [e4,e3]
      split <;> split <;> omega
     ·have k3:zgf kv (.inl r.1)≠none:=fun z=>by
       rw [if_pos z] at e3
       rw [el] at e4
       split at e4 <;> omega
      rw [if_neg k3] at e3
      have k4:zgf (zg1 kv (.inl r.1) (.bl true)) (.inl r.2.1)≠none:=fun z=>by
       rw [if_pos z,el] at e4
       omega
      have d4:Dm kv r.2.1:=by
       have:=(zkT kv r.1 r.2.1 (.bl true)).mp k4
       rcases this with z | z
       ·exact absurd z.symm gr'.2.2.2.2.1
       ·exact z
      refine stepc (fun x=>?_) ?_ fun _=>⟨k3,d4⟩
      ·rw [zkT,zkT]
       exact ⟨fun z=>z.elim (fun e=>by rw [e];exact d4) (fun z=>z.elim (fun e=>by rw [e];exact k3) id),fun z=>.inr (.inr z)⟩
      ·rw [if_neg k4,el] at e4
       omega
    refine zgl (fun c3=>?_) (fun c3=>?_)
    ·exact yes (.inl (Option.isSome_iff_ne_none.mp c3)) H2 rfl
    refine ⟨_,zuZ.k (k:=.inl r.2.1) h2,?_⟩
    refine zgl (fun c4=>?_) (fun c4=>?_)
    ·exact yes (.inr (Option.isSome_iff_ne_none.mp c4)) H2 rfl
    refine ⟨s2,kv,h2,C2,l2,fun el=>stepc (fun _=>Iff.rfl) el fun z=>?_⟩
    exact (z.elim (fun z=>c3 (Option.isSome_iff_ne_none.mpr z)) (fun z=>c4 (Option.isSome_iff_ne_none.mpr z))).elim
   ·rintro σ H2 ⟨kv,x,y,z,rfl,s2,h2,C2,l2,c2⟩
    have e:(rs.take (ts.map V.ref).length)=rs:=List.take_of_length_le (by rw [List.length_map,ht.1];exact Nat.le_refl _)
    rw [e] at c2
    refine ⟨_,?_,kv,_,_,_,_,rfl,s2,h2,C2,by omega,by omega,fun z=>c2 (by omega),rfl⟩
    omega
  ·refine q d kvs H1 s1 h1 (C.conn (by omega) (bc (by omega)))
theorem zbm:zaK ["roads","come","before","a","b","length"] ["roads"] (zam zc9):=⟨rfl,rfl,rfl,by decide +kernel,rfl,by decide +kernel,by decide +kernel⟩
theorem zgq (T:Txt K mg base a):zc8 P w K mg base CX0 1 a.f_places_come_to a.d_places_come_to ["roads"] zp6:=by
 refine T.F_places_come_to.ok zbm (fun vs H Q E h=>?_) (fun cdv A outer s H vs Q E hr h=>?_)
 ·obtain ⟨rl,ts,rs,m,rfl,hl,ht,m1,m60,gr,q⟩:=h
  rfl
 obtain ⟨rl,ts,rs,m,rfl,hl,ht,m1,m60,gr,q⟩:=h
 exact ⟨zdc K,(zaf (zas (i:=1) zbm.nd rfl (Or.inl rfl) (zuL (zrN zag zia zuT) rfl rfl (fun z=>nomatch z) (by decide)))
 (zaf (zas (i:=2) zbm.nd rfl (Or.inl rfl) zag)
 (zaf (zrj PassesOwn.never (zat zlK (pv 2) (zaq zhn rfl T.z_len PySem.boot_len (zaa (pv 1) zae)) (zaL _)) (zaf (zas (i:=2) zbm.nd rfl (Or.inl rfl) (zaq zhn rfl T.z_len PySem.boot_len (zaa (pv 1) zae)))
 (zaj (zc6 PassesOwn.never rfl (zdP (pv 0)) (zdV rfl (zaO (zaG (i:=3) zbm.nd rfl (Or.inl rfl)) (zaO (zaG (i:=4) zbm.nd rfl (Or.inl rfl)) (zaO (zaG (i:=5) zbm.nd rfl (Or.inl rfl)) zcX))))
 (zaj (zb8 (PW.pt (zdJ (zsJ (zsA (zrG hr) (pv 3) (pv 1))) (zdg (zsJ (zsA (zrG hr) (pv 4) (pv 1)))))) (zaf (zp0 (zrG hr) (pv 1) (pv 3) zia rfl)
 (zaj (zp0 (zrG hr) (pv 1) (pv 4) zia rfl))) zaT))))))
 (zaj (zaN (pv 1)))))),
  zgI hl ht m1 m60 gr q⟩
theorem zoy:zaK ["self","road"] ["self","road"] (zam zdh):=⟨rfl,rfl,rfl,by decide +kernel,rfl,by decide +kernel,by decide +kernel⟩
theorem zjB (T:Txt K mg base a):zc8 P w K mg base CX0 1 a.i_NoWeb a.j_NoWeb ["self","road"] (zkS a.c_NoWeb "road"):=by
 refine T.I_NoWeb.ok zoy (fun vs H Q E h=>?_) (fun cdv A outer s H vs Q E hr h=>?_)
 ·obtain ⟨y,v,rfl,hy,q⟩:=h
  rfl
 obtain ⟨y,v,rfl,hy,q⟩:=h
 exact ⟨_,(zaf (zcq (zfu rfl T.m_HideError T.B (zaa (pv 0) (zaa (pv 1) zae)))) (zaj (zlG (pv 0) (pv 1) rfl))),zlc T.X_NoWeb T.xa_NoWeb.na hy q⟩
def zeH (K:PySem.W.Frag) (a:Ad) (E:XK):TS :=
 (zcn (tOr (zgX (zav (zg4 (rI0 fun i j=>.bl (decide (i≤j))) (rI0 fun i j=>.bl (decide (i≤j))) (tC (.int 1)) (zac 1) (tC (.int 60))))) (tOr (zav (tOp (rI0 fun i j=>.bl (decide (j<i))) (tCB (fun xs H Q=>∃ p ys,xs=[.ref p]∧(SqL K H p ys∨SqT K H p ys)∧Q (.int ys.length) H) (zab (zac 2) zak)) (tC (.int 120)))) (zav (tOp (rI0 fun i j=>.bl (decide (i<j))) (tCB znf (zab (zaH zp6 [] E0 (zab (zac 2) zak)) zak)) (zac 1))))) (zcb a.c_NoWeb "road" E (zab (tUn (rU fun i=>.int (-i)) (tC (.int 1))) zak)) zaZ)
theorem zcg (K:PySem.W.Frag) (a:Ad) (E:XK) (D:zce) (σ:St) (H:Hp):zeH K a E D σ H=(zcn (tOr (zgX (zav (zg4 (rI0 fun i j=>.bl (decide (i≤j))) (rI0 fun i j=>.bl (decide (i≤j))) (tC (.int 1)) (zac 1) (tC (.int 60))))) (tOr (zav (tOp (rI0 fun i j=>.bl (decide (j<i))) (tCB (fun xs H Q=>∃ p ys,xs=[.ref p]∧(SqL K H p ys∨SqT K H p ys)∧Q (.int ys.length) H) (zab (zac 2) zak)) (tC (.int 120)))) (zav (tOp (rI0 fun i j=>.bl (decide (i<j))) (tCB znf (zab (zaH zp6 [] E0 (zab (zac 2) zak)) zak)) (zac 1))))) (zcb a.c_NoWeb "road" E (zab (tUn (rU fun i=>.int (-i)) (tC (.int 1))) zak)) zaZ) D σ H:=rfl
def zgT (K:PySem.W.Frag) (a:Ad) (E:XK):TS :=
 (zaz (zaU (zac 0) (ziy K 2 (zbL (zai 1) (zbL (zai 2) zix))))
 (zaz (zfV (zmZ K (zab (zac 2) zak)) (ziy K 2 (zbL (zai 3) (zbL (zai 4) zix)))
 (zcn (zgX (tB (zaH zga [] E0 (zab (zac 4) (zab (zac 1) zak))))) (zcb a.c_NoWeb "road" E (zab (zac 3) zak)) zaZ))
 (zeH K a E)))
theorem zch (K:PySem.W.Frag) (a:Ad) (E:XK) (D:zce) (σ:St) (H:Hp):zgT K a E D σ H=(zaz (zaU (zac 0) (ziy K 2 (zbL (zai 1) (zbL (zai 2) zix))))
 (zaz (zfV (zmZ K (zab (zac 2) zak)) (ziy K 2 (zbL (zai 3) (zbL (zai 4) zix)))
 (zcn (zgX (tB (zaH zga [] E0 (zab (zac 4) (zab (zac 1) zak))))) (zcb a.c_NoWeb "road" E (zab (zac 3) zak)) zaZ))
 (zeH K a E))) D σ H:=rfl
def zgY (K:PySem.W.Frag) (a:Ad) (E:XK):TS :=
 (zcn (tOr (zgX (tB (tCB (zm0 K) (zab (zac 0) (zab (tC (.ty "tuple")) zak))))) (tOr (zav (tOp rNe (tCB (fun xs H Q=>∃ p ys,xs=[.ref p]∧(SqL K H p ys∨SqT K H p ys)∧Q (.int ys.length) H) (zab (zac 0) zak)) (tC (.int 2)))) (tOr (zgX (tB (zaH zi6 [] E0 (zab (tOp (zik K) (zac 0) (tC (.int 0))) zak)))) (zgX (tB (tCB (zm0 K) (zab (tOp (zik K) (zac 0) (tC (.int 1))) (zab (tC (.ty "list")) zak)))))))) (zcb a.c_NoWeb "road" E (zab (tUn (rU fun i=>.int (-i)) (tC (.int 1))) zak)) zaZ)
theorem zcf (K:PySem.W.Frag) (a:Ad) (E:XK) (D:zce) (σ:St) (H:Hp):zgY K a E D σ H=(zcn (tOr (zgX (tB (tCB (zm0 K) (zab (zac 0) (zab (tC (.ty "tuple")) zak))))) (tOr (zav (tOp rNe (tCB (fun xs H Q=>∃ p ys,xs=[.ref p]∧(SqL K H p ys∨SqT K H p ys)∧Q (.int ys.length) H) (zab (zac 0) zak)) (tC (.int 2)))) (tOr (zgX (tB (zaH zi6 [] E0 (zab (tOp (zik K) (zac 0) (tC (.int 0))) zak)))) (zgX (tB (tCB (zm0 K) (zab (tOp (zik K) (zac 0) (tC (.int 1))) (zab (tC (.ty "list")) zak)))))))) (zcb a.c_NoWeb "road" E (zab (tUn (rU fun i=>.int (-i)) (tC (.int 1))) zak)) zaZ) D σ H:=rfl
def zgs (K:PySem.W.Frag) (a:Ad) (E:XK):TS :=
 (zaz (zeh (zgY K a E))
 (zgT K a E))
theorem zl0 {E:XK} {w rl:Addr} {ts:List Addr} {m:Int} {rs:List zcd} (W:zjJ H w rl ts m rs) (l200:rs.length≤99999) (q:zru m rs→∀ H',zaJ H H'→Q .non H') (e:∀ d,zrl m rs d→∀ (dx:Addr) (H':Hp),zaJ H H'→H' dx=none→E (.ref a.c_NoWeb) (some dx) (L2.upd H' dx (.xd [("road",.int d)]))) :
  zgs K a E { nx:=fun _ H'=>Q .non H',rt:=Q } (L2.zbA ["web","many","roads","k","road"] [.ref w]) H:=by
 unfold zgs
 simp_all only [zcg,zch,zcf,zac]
 refine ⟨fun σ H'=>H'=H∧σ=[some (.ref w),none,none,none,none],?_,?_⟩
 ·simp_all only [zcg,zch,zcf,zac]
  refine zhH W.hw ⟨true,rfl,?_⟩
  refine zgl (fun z=>absurd z (by decide)) (fun _=>?_)
  refine ⟨_,.inr (SqT.of W.hw),?_⟩
  refine zgl (fun z=>absurd rfl z) (fun _=>?_)
  refine ⟨_,SqT.of W.hw,_,rfl,m,rfl,true,rfl,?_⟩
  refine zgl (fun z=>absurd z (by decide)) (fun _=>?_)
  refine ⟨_,SqT.of W.hw,_,rfl,zlF W.hl ⟨true,rfl,?_⟩⟩
  exact zgl (fun z=>absurd z (by decide)) (fun _=>rfl)
 ·rintro σ H' ⟨e',rfl⟩
  rw [e']
  simp_all only [zcg,zch,zcf,zac]
  refine ⟨_,SqT.of W.hw,rfl,_,_,rfl,_,_,rfl,rfl,?_⟩
  refine ⟨_,rfl,⟨_,SqL.of W.hl⟩,?_⟩
  refine zhs (K:=K) (xs:=ts.map V.ref) (fun i σ H'=>zaJ H H'∧(∀ (j:Nat) r,j<i→rs[j]?=some r→GR m r)∧∃ x y,σ=[some (.ref w),some (.int m),some (.ref rl),x,y]) ⟨.refl _,fun j r hj=>by omega,_,_,rfl⟩ ?_ ?_ ?_
  ·rintro i σ H' _ ⟨s,_⟩
   exact SqL.of (s _ _ W.hl)
  ·rintro i t u σ H1 hx ⟨s,hg,x,y,rfl⟩ hu
   obtain ⟨t,et,rfl⟩:=zep hx
   obtain ⟨r,er,hr0⟩:=W.ht.at et
   simp_all only [zcg,zch,zcf,zac]
   refine ⟨_,SqT.of zad,rfl,_,_,rfl,_,_,rfl,rfl,?_⟩
   have s2:=s.add hu (o:=.tup [.int (i:Int),.ref t])
   refine ⟨t,r,m,rfl,s2 _ _ hr0,?_⟩
   by_cases c:GR m r
   ·rw [decide_eq_true c]
    refine ⟨true,rfl,zgl (fun z=>absurd z (by decide)) (fun _=>⟨s2,fun j q hj hq=>?_⟩)⟩
    rcases Nat.lt_or_eq_of_le (Nat.lt_succ_iff.mp hj) with h | h
    ·exact hg j q h hq
    ·rw [h,er] at hq
     cases hq
     exact c
   ·rw [decide_eq_false c]
    refine ⟨false,rfl,zgl (fun _=>?_) (fun z=>absurd rfl z)⟩
    exact fun dx hd=>e _ (.inl ⟨i,zmR er c hg,rfl⟩) dx _ s2 hd
  ·rintro σ H1 ⟨s,hg,x,y,rfl⟩
   rw [List.length_map,W.ht.1] at hg
   have gr:∀ r∈rs,GR m r:=fun r hr=>by
    obtain ⟨j,hj,e⟩:=List.mem_iff_getElem.mp hr
    exact hg j r hj (by rw [List.getElem?_eq_getElem hj,e])
   have bn:=zgt gr
   simp_all only [zcg,zch,zcf,zac]
   have no:¬ (1≤m∧m≤60∧rs.length≤120∧zsC m rs)→∀ H2,zaJ H H2→∀ (dx:Addr),H2 dx=none→E (Value.ref a.c_NoWeb) (some dx) (L2.upd H2 dx (HO.xd [("road",V.int (-1))])):=fun n H2 s2 dx hd=>e _ (.inr ⟨bn,n,rfl⟩) dx H2 s2 hd
   refine zgl (fun m1=>?_) (fun z=>no (fun n=>z n.1) _ s)
   refine zgl (fun z=>no (fun n=>z n.2.1) _ s) (fun z=>?_)
   have m60:m≤60:=Decidable.not_not.mp z
   refine ⟨_,.inl (SqL.of (s _ _ W.hl)),?_⟩
   rw [List.length_map,W.ht.1]
   refine zgl (fun z=>no (fun n=>by have:=n.2.2.1;omega) _ s) (fun z=>?_)
   refine ⟨rl,ts,rs,m,rfl,s _ _ W.hl,W.ht.same s,m1,m60,gr,fun d kvs H2 s2 h2 hc=>?_⟩
   refine ⟨_,rfl,kvs,h2,zgl (fun y=>no (fun n=>?_) _ (s.trans s2)) (fun y=>q ⟨bn,m1,m60,by omega,hc.mp (by omega)⟩ _ (s.trans s2))⟩
   have:=hc.mpr n.2.2.2
   omega
theorem zdp:zaK ["web","many","roads","k","road"] ["web"] (zam zgF):=⟨rfl,rfl,rfl,by decide +kernel,rfl,by decide +kernel,by decide +kernel⟩
theorem zhR (T:Txt K mg base a):zc8 P w K mg base (CXW P w) 5 a.f_look_web a.d_look_web ["web"] (zgM a):=by
 have G_is_road:=ziB (P:=P) (w:=w) (base:=base) T
 have G_is_whole:=zhG (P:=P) (w:=w) (base:=base) T
 have G_places_come_to:=zgq (P:=P) (w:=w) (base:=base) T
 have G__NoWeb:=zjB (P:=P) (w:=w) (base:=base) T
 refine T.F_look_web.okW zdp (fun vs H Q E h=>?_) (fun cdv A outer s H vs Q E hr h=>?_)
 ·obtain ⟨w',rl,ts,m,rs,rfl,W,l200,q,e⟩:=h
  rfl
 obtain ⟨w',rl,ts,m,rs,rfl,W,l200,q,e⟩:=h
 exact ⟨zgs K a E,(zaf (zbQ (zb8 (PW.pt (zdJ (zef (zf8 (zaq zds rfl T.z_isinstance PyProof.Rows.boot_isinstance (zaa (pv 0) (zaa (zgB rfl T.z_tuple zdT rfl) zae))))) (zdJ (zat zeq (zaq zaF rfl T.z_len PySem.boot_len (zaa (pv 0) zae)) zag (zaL _)) (zdJ (zef (zf8 (zau G_is_whole (hr.mono (by decide)) rfl T.m_is_whole T.F_is_whole.kp T.b_is_whole .nil za8 (zaa (zbO zfi (pv 0) zag (fun _ _=>rfl)) zae)))) (zdg (zef (zf8 (zaq zds rfl T.z_isinstance PyProof.Rows.boot_isinstance (zaa (zbO zfi (pv 0) zag (fun _ _=>rfl)) (zaa (zgB rfl T.z_list zjU rfl) zae)))))))))) (zaj (zc4 T.X_NoWeb G__NoWeb (hr.mono (by decide)) rfl T.m_NoWeb T.bi_NoWeb za8 rfl zls (zaa (zjz zgc zag) zae))) zaT))
 (zaf (zkH (pv 0) (zdV rfl (zaO (zaG (i:=1) zdp.nd rfl (Or.inl rfl)) (zaO (zaG (i:=2) zdp.nd rfl (Or.inl rfl)) zcX))))
 (zaf (zc6 PassesOwn.leaving rfl (zlz rfl T.z_enumerate (zaa (pv 2) zae)) (zdV rfl (zaO (zaG (i:=3) zdp.nd rfl (Or.inl rfl)) (zaO (zaG (i:=4) zdp.nd rfl (Or.inl rfl)) zcX)))
 (zaj (zb8 (zef (zf8 (zau G_is_road (hr.mono (by decide)) rfl T.m_is_road T.F_is_road.kp T.b_is_road .nil za8 (zaa (pv 4) (zaa (pv 1) zae))))) (zaj (zc4 T.X_NoWeb G__NoWeb (hr.mono (by decide)) rfl T.m_NoWeb T.bi_NoWeb za8 rfl zls (zaa (pv 3) zae))) zaT)))
 (zaj (zb8 (PW.pt (zdJ (zef (zmI znx znx zag (pv 1) (zbk rfl T.m_MOST_PLACES ⟨_,rfl⟩))) (zdJ (zat zrb (zaq zaF rfl T.z_len PySem.boot_len (zaa (pv 2) zae)) (zbk rfl T.m_MOST_ROADS ⟨_,rfl⟩) (zaL _)) (zdg (zat zlK (zaq zhn rfl T.z_len PySem.boot_len (zaa (zau G_places_come_to (hr.mono (by decide)) rfl T.m_places_come_to T.F_places_come_to.kp T.b_places_come_to .nil za8 (zaa (pv 2) zae)) zae)) (pv 1) (zaL _)))))) (zaj (zc4 T.X_NoWeb G__NoWeb (hr.mono (by decide)) rfl T.m_NoWeb T.bi_NoWeb za8 rfl zls (zaa (zjz zgc zag) zae))) zaT))))),
  zl0 W l200 q e⟩
inductive Sh (H:Hp):Tr→V→Prop where
 | int (i:Int):Sh H (.int i) (.int i)
 | bl (b:Bool):Sh H (.bl b) (.bl b)
 | str (x:Str):Sh H (.str x) (.str x)
 | non:Sh H .non .non
 | lst {p:Addr} {xs:List V} {ts:List Tr} (h:H p=some (.lst xs)) (l:xs.length=ts.length) (e:∀ (i:Nat) x t,xs[i]?=some x→ts[i]?=some t→Sh H t x):Sh H (.lst ts) (.ref p)
 | tup {p:Addr} {xs:List V} {ts:List Tr} (h:H p=some (.tup xs)) (l:xs.length=ts.length) (e:∀ (i:Nat) x t,xs[i]?=some x→ts[i]?=some t→Sh H t x):Sh H (.tup ts) (.ref p)
theorem Sh.same {H H':Hp} {t:Tr} {v:V} (h:Sh H t v) (s:zaJ H H'):Sh H' t v:=by
 induction h with
 | int i=>exact .int i
 | bl b=>exact .bl b
 | str x=>exact .str x
 | non=>exact .non
 | lst h l _ ih=>exact .lst (s _ _ h) l ih
 | tup h l _ ih=>exact .tup (s _ _ h) l ih
structure ShL (H:Hp) (ts:List Tr) (xs:List V):Prop where
 len:xs.length=ts.length
 el:∀ (i:Nat) x t,xs[i]?=some x→ts[i]?=some t→Sh H t x
theorem ShL.nil:ShL H [] []:=⟨rfl,fun i x t e _=>by cases e⟩
theorem ShL.one {t:Tr} {x:V} (h:Sh H t x):ShL H [t] [x]:=⟨rfl,fun i y u e1 e2=>by
 match i,e1,e2 with
 | 0,e1,e2=>cases e1;cases e2;exact h⟩
theorem ShL.append {ts us:List Tr} {xs ys:List V} (h:ShL H ts xs) (g:ShL H us ys):ShL H (ts++us) (xs++ys):=by
 refine ⟨by rw [List.length_append,List.length_append,h.len,g.len],fun i x t e1 e2=>?_⟩
 by_cases c:i<xs.length
 ·rw [List.getElem?_append_left c] at e1
  rw [List.getElem?_append_left (by rw [← h.len];exact c)] at e2
  exact h.el i x t e1 e2
 ·rw [List.getElem?_append_right (by omega)] at e1
  rw [List.getElem?_append_right (by rw [← h.len];omega),← h.len] at e2
  exact g.el _ x t e1 e2
theorem ShL.cons {t:Tr} {ts:List Tr} {x:V} {xs:List V} (h:Sh H t x) (g:ShL H ts xs):ShL H (t::ts) (x::xs):=(ShL.one h).append g
theorem ShL.same {H':Hp} {ts:List Tr} {xs:List V} (h:ShL H ts xs) (s:zaJ H H'):ShL H' ts xs:=⟨h.len,fun i x t e1 e2=>(h.el i x t e1 e2).same s⟩
theorem ShL.sh {ts:List Tr} {xs:List V} {p:Addr} (h:ShL H ts xs) (e:H p=some (.lst xs)):Sh H (.lst ts) (.ref p):=.lst e h.len h.el
theorem ShL.tp {ts:List Tr} {xs:List V} {p:Addr} (h:ShL H ts xs) (e:H p=some (.tup xs)):Sh H (.tup ts) (.ref p):=.tup e h.len h.el
theorem ShL.ints (ns:List Int):ShL H (ns.map Tr.int) (ns.map V.int):=⟨by rw [List.length_map,List.length_map],fun i x t e1 e2=>by
 obtain ⟨n,hn,rfl⟩:=zep e1
 obtain ⟨m,hm,rfl⟩:=zep e2
 rw [hn] at hm
 cases hm
 exact .int _⟩
theorem ShL.put {ts:List Tr} {xs:List V} {p:Addr} (h:ShL H ts xs) (hp:H p=none):Sh (L2.upd H p (.lst xs)) (.lst ts) (.ref p):=(h.same (zah hp _)).sh zad
theorem zda {n:Nat} (h:n<100000):n<sizeLine:=Nat.lt_of_lt_of_le h (by decide)
def NwH (H H':Hp):Hp:=fun a=>if H a=none then H' a else none
theorem zdn {A X:Hp} {a:Addr} {o:HO}:NwH A X a=some o↔A a=none∧X a=some o:=by
 unfold NwH
 by_cases h:A a=none
 ·rw [if_pos h];exact ⟨fun z=>⟨h,z⟩,fun z=>z.2⟩
 ·rw [if_neg h];exact ⟨fun z=>(by cases z),fun z=>absurd z.1 h⟩
theorem zcK {A X B Y:Hp} (h:∀ a o,A a=none→X a=some o→B a=none∧Y a=some o):zaJ (NwH A X) (NwH B Y):=fun a o e=>by
 have:=zdn.mp e
 exact zdn.mpr (h a o this.1 this.2)
theorem zpB {A X:Hp}:zaJ (NwH A X) X:=fun _ _ e=>(zdn.mp e).2
theorem zhK {A B X Y:Hp} (s:zaJ B A) (t:zaJ X Y):zaJ (NwH A X) (NwH B Y):=zcK fun a o e1 e2=>⟨s.free e1,t _ _ e2⟩
theorem zmS {K:PySem.W.Frag} {a:Addr} {xs:List V} {te:TE} {σ:St} {H:Hp} {D:Addr} {Q:VK} (Rl:Nat→Hp→V→Prop) (st:∀ i H H' v,zaJ H H'→Rl i H v→Rl i H' v) (hl:SqL K H a xs) (hD:H D=none) (hx:xs.length≤99999)
  (hs:∀ (i:Nat) x H' (R:VK),xs[i]?=some x→zaJ H H'→(∀ y H'',zaJ H' H''→Rl i (NwH H' H'') y→R y H'')→te (σ.set 0 (some x)) H' R)
  (hd:∀ H' ys,zaJ H H'→ys.length=xs.length→(∀ (i:Nat) y,ys[i]?=some y→Rl i (NwH H H') y)→H' D=some (.lst ys)→Q (.ref D) H'):zh7 (Itl K a) (zai 0) zcC te D Q σ (L2.upd H D (.lst [])):=by
 refine ze7 (xs:=xs) (fun i ys σ' H'=>zaJ H H'∧(∀ x,σ'.set 0 x=σ.set 0 x)∧i≤xs.length∧ys.length=i∧∀ (j:Nat) y,ys[j]?=some y→Rl j (NwH (L2.upd H D (.lst [])) H') y) ⟨zah hD _,fun _=>rfl,Nat.zero_le _,rfl,fun j y e=>by cases e⟩ ?_ ?_ ?_
 ·rintro i ys σ' H' _ ⟨s,_⟩
  exact s.seq hl
 ·rintro i x ys σ' H' e hD' ⟨s,es,hi,ly,hr⟩
  have li:=(List.getElem?_eq_some_iff.mp e).1
  show te (σ'.set 0 (some x)) H' _
  rw [es]
  refine hs i x H' _ e s fun y H'' s2 hy=>?_
  refine ⟨D,_,_,rfl,rfl,s2 _ _ hD',zda (by omega),_,zad,(s.trans s2).put hD,fun y=>by rw [List.set_set],by omega,by rw [List.length_append,ly];rfl,?_⟩
  intro j z ez
  have nD:∀ b,L2.upd H D (.lst []) b=none→b≠D:=fun b hb z=>by rw [z,zad] at hb;cases hb
  by_cases c:j<ys.length
  ·rw [List.getElem?_append_left c] at ez
   refine st j _ _ z (zcK fun b o e1 e2=>⟨e1,?_⟩) (hr j z ez)
   rw [zal (nD b e1)]
   exact s2 _ _ e2
  ·rw [List.getElem?_append_right (by omega)] at ez
   have l1:=(List.getElem?_eq_some_iff.mp ez).1
   rw [List.length_singleton] at l1
   have ej:j - ys.length=0:=by omega
   rw [ej] at ez
   cases ez
   have ei:j=i:=by omega
   subst ei
   refine st j _ _ y (zcK fun b o e1 e2=>?_) hy
   have nb:b≠D:=fun z=>by rw [z,hD'] at e1;cases e1
   rw [zal nb,zal nb]
   exact ⟨s.free e1,e2⟩
 ·rintro ys σ' H' hD' ⟨s,es,_,ly,hr⟩
  exact hd H' ys s ly (fun i y e=>st i _ _ y (zhK (zah hD _) (.refl _)) (hr i y e)) hD'
theorem zm2 {x:Str} {te:TE} {σ:St} {H:Hp} {D:Addr} {Q:VK} (f:Nat→Bool) (hx:x.length≤99999) (hD:H D=none)
  (hs:∀ (i:Nat) c H' (R:VK),x.cps[i]?=some c→zaJ H H'→(∀ H'',zaJ H' H''→R (.bl (f c)) H'')→te (σ.set 0 (some (.str ⟨#[c]⟩))) H' R)
  (hd:∀ H',zaJ H H'→H' D=some (.lst ((x.cps.toList.map f).map V.bl))→Q (.ref D) H'):zh7 (Its x) (zai 0) zcC te D Q σ (L2.upd H D (.lst [])):=by
 have lx:x.length=x.cps.toList.length:=by simp [Str.length]
 have lx2:x.cps.size=x.cps.toList.length:=by simp
 refine zp7 (x:=x) (fun i ys σ' H'=>zaJ H H'∧(∀ x,σ'.set 0 x=σ.set 0 x)∧ys=((x.cps.toList.take i).map f).map V.bl) ⟨zah hD _,fun _=>rfl,rfl⟩ ?_ ?_
 ·rintro i c ys σ' H' e hD' ⟨s,es,rfl⟩
  have ec:x.cps.toList[i]?=some c:=by rw [Array.getElem?_toList];exact e
  show te (σ'.set 0 _) H' _
  rw [es]
  refine hs i _ H' _ e s fun H'' s2=>?_
  refine ⟨D,_,_,rfl,rfl,s2 _ _ hD',zda (by rw [List.length_map,List.length_map,List.length_take];omega),_,zad,(s.trans s2).put hD,fun y=>by rw [List.set_set],?_⟩
  rw [List.take_add_one,ec,List.map_append,List.map_append]
  rfl
 ·rintro ys σ' H' hD' ⟨s,es,rfl⟩
  rw [List.take_of_length_le (by omega)] at hD'
  exact hd H' s hD'
def EvS (te:TE) (σ:St) (H:Hp) (t:Tr):Prop:=∀ (H1:Hp) (R:VK),zaJ H H1→(∀ v H',zaJ H1 H'→Sh H' t v→R v H')→te σ H1 R
def EvA (ta:TA) (σ:St) (H:Hp) (ts:List Tr):Prop:=∀ (H1:Hp) (R:List V→Hp→Prop),zaJ H H1→(∀ vs H',zaJ H1 H'→ShL H' ts vs→R vs H')→ta σ H1 R
def EvO (to:TO) (σ:St) (H:Hp) (o:Option Int):Prop:=∀ (H1:Hp) (R:Option Int→Hp→Prop),zaJ H H1→(∀ H',zaJ H1 H'→R o H')→to σ H1 R
section
variable {σ:St} {te ta tb:TE} {tas:TA} {tl th:TO} {t:Tr} {ts us:List Tr} {i j:Int} {o1 o2:Option Int}
theorem EvS.var {k:Nat} {v:V} (h:σ[k]?=some (some v)) (s:Sh H t v):EvS (zac k) σ H t:=fun H1 _ s1 q=>⟨v,h,q v H1 (.refl _) (s.same s1)⟩
theorem EvS.con {v:V} (s:∀ H',Sh H' t v):EvS (tC v) σ H t:=fun H1 _ _ q=>q v H1 (.refl _) (s H1)
theorem EvS.int:EvS (tC (.int i)) σ H (.int i):=.con fun _=>.int i
theorem EvA.nil:EvA zak σ H []:=fun H1 _ _ q=>q [] H1 (.refl _) .nil
theorem EvA.cons (e:EvS te σ H t) (a:EvA tas σ H ts):EvA (zab te tas) σ H (t::ts):=fun H1 _ s q=>e H1 _ s fun v H2 s2 sh=>a H2 _ (s.trans s2) fun vs H3 s3 shs=>q (v::vs) H3 (s2.trans s3) (.cons (sh.same s3) shs)
theorem EvS.lst (a:EvA tas σ H ts) (l:ts.length≤sizeLine):EvS (zdq tas) σ H (.lst ts):=fun H1 _ s q=>a H1 _ s fun vs H2 s2 sh=>⟨by rw [sh.len];exact l,fun p hp=>q _ _ (s2.add hp) (sh.put hp)⟩
theorem EvS.add (a:EvS ta σ H (.int i)) (b:EvS tb σ H (.int j)):EvS (tOp (rI0 fun i j=>.int (i+j)) ta tb) σ H (.int (i+j)):=fun H1 _ s q=>a H1 _ s fun v H2 s2 sh=>b H2 _ (s.trans s2) fun u H3 s3 sh2=>by
 cases sh
 cases sh2
 exact ⟨_,_,rfl,rfl,q _ _ (s2.trans s3) (.int _)⟩
theorem EvS.cat (a:EvS ta σ H (.lst ts)) (b:EvS tb σ H (.lst us)) (l:ts.length+us.length≤sizeLine):EvS (tOp zgm ta tb) σ H (.lst (ts++us)):=fun H1 _ s q=>a H1 _ s fun v H2 s2 sh=>b H2 _ (s.trans s2) fun u H3 s3 sh2=>by
 cases sh.same s3 with
 | lst h1 l1 e1 =>
  cases sh2 with
  | lst h2 l2 e2=>exact ⟨_,_,_,_,rfl,rfl,h1,h2,by rw [l1,l2];exact l,fun p hp=>q _ _ ((s2.trans s3).add hp) ((ShL.append ⟨l1,e1⟩ ⟨l2,e2⟩).put hp)⟩
theorem EvO.no:EvO za2 σ H none:=fun _ _ _ q=>q _ (.refl _)
theorem EvO.at (a:EvS ta σ H (.int i)):EvO (zcc ta) σ H (some i):=fun H1 R s q=>a H1 _ s fun v H2 s2 sh=>by
 cases sh
 exact ⟨i,rfl,q H2 s2⟩
theorem zpu {g:TG} {T:TS} {D:zce} (e:EvS te σ H t) (k:∀ v H',zaJ H H'→Sh H' t v→g v σ H' (T D)):zaz (zaU te g) T D σ H:=e H _ (.refl _) k
end
def zgz:Str:="read_web.<locals>.<lambda>"
abbrev LT (H:Hp) (P:Addr):Prop:=zct H P zsz zgz
def zdv (ws:List Str):Option (List Int):=ws.mapM zdQ
theorem zcU (w:Str) (ws:List Str):zdv (w::ws)=(zdQ w).bind fun n=>(zdv ws).bind fun ns=>some (n::ns):=by
 unfold zdv
 rw [List.mapM_cons]
 rfl
theorem zgK:∀ {ws:List Str},zdv ws=none↔inV .non (ws.map fun w=>zla (zdQ w))=true
 | []=>by constructor <;> intro h <;> cases h
 | w::ws=>by
  rw [zcU,List.map_cons]
  have ih:=zgK (ws:=ws)
  show _↔(eqV (zla (zdQ w)) .non || inV .non (ws.map fun w=>zla (zdQ w)))=true
  cases hn:zdQ w with
  | none=>exact ⟨fun _=>rfl,fun _=>rfl⟩
  | some n =>
   show ((zdv ws).bind fun ns=>some (n::ns))=none↔(false || inV .non (ws.map fun w=>zla (zdQ w)))=true
   rw [Bool.false_or,← ih]
   cases zdv ws with
   | none=>exact ⟨fun _=>rfl,fun _=>rfl⟩
   | some ns=>exact ⟨fun h=>(by cases h),fun h=>(by cases h)⟩
theorem zgH:∀ {ws:List Str} {ns:List Int},zdv ws=some ns→(ws.map fun w=>zla (zdQ w))=ns.map V.int
 | [],ns,h=>by cases h;rfl
 | w::ws,ns,h=>by
  rw [zcU] at h
  cases hn:zdQ w with
  | none=>rw [hn] at h;cases h
  | some n =>
   rw [hn] at h
   have h:((zdv ws).bind fun ns=>some (n::ns))=some ns:=h
   cases hs:zdv ws with
   | none=>rw [hs] at h;cases h
   | some ms =>
    rw [hs] at h
    cases h
    rw [List.map_cons,List.map_cons,zgH hs,hn]
    rfl
def zgo (row:Str):Option Int:=if (Txt.split row (Str.ofString " ")).length=2∧(Txt.split row (Str.ofString " ")).getD 0 ""=Str.ofString "web" then zdQ ((Txt.split row (Str.ofString " ")).getD 1 "") else none
def zu8 (m:Int):List Int→Option zcd
 | [x,y,l]=>if GR m (x,y,l) then some (x,y,l) else none
 | _=>none
def zgd (m:Int) (row:Str):Option zcd:=if (Txt.split row (Str.ofString " ")).length=4∧(Txt.split row (Str.ofString " ")).getD 0 ""=Str.ofString "road" then (zdv ((Txt.split row (Str.ofString " ")).drop 1)).bind (zu8 m) else none
abbrev Rdd:=Option (Int×List zcd)
def zdI (s:Rdd) (row:Str):Option Rdd:=match s with
 | none=>(zgo row).map fun m=>some (m,[])
 | some (m,rs)=>(zgd m row).map fun r=>some (m,rs++[r])
def zg7:Rdd→Nat→List Str→Nat ⊕ Rdd
 | s,_,[]=>.inr s
 | s,k,row::rows=>match zdI s row with
  | none=>.inl k
  | some s'=>zg7 s' (k+1) rows
theorem zrd {s:Rdd} {k:Nat} {rows:List Str} {row:Str} (e:rows[k]?=some row) (h:zdI s row=none):zg7 s k (rows.drop k)=.inl k:=by
 obtain ⟨l,e'⟩:=List.getElem?_eq_some_iff.mp e
 rw [List.drop_eq_getElem_cons l,e']
 show (match zdI s row with | none=>Sum.inl k | some s'=>zg7 s' (k+1) (rows.drop (k+1)))=_
 rw [h]
theorem zto {s s':Rdd} {k:Nat} {rows:List Str} {row:Str} (e:rows[k]?=some row) (h:zdI s row=some s'):zg7 s k (rows.drop k)=zg7 s' (k+1) (rows.drop (k+1)):=by
 obtain ⟨l,e'⟩:=List.getElem?_eq_some_iff.mp e
 rw [List.drop_eq_getElem_cons l,e']
 show (match zdI s row with | none=>Sum.inl k | some s'=>zg7 s' (k+1) (rows.drop (k+1)))=_
 rw [h]
theorem zr9 {s:Rdd} {k:Nat} {rows:List Str} (l:rows.length≤k):zg7 s k (rows.drop k)=.inr s:=by
 rw [List.drop_eq_nil_of_le l]
 rfl
def zed (rows:List Str):Nat ⊕ Rdd:=match zg7 none 0 rows.dropLast with
 | .inl k=>.inl k
 | .inr s=>if rows.dropLast=[]∨rows.getLastD ""≠"" then .inl (rows.length - 1) else .inr s
theorem zmN {rows:List Str} {k:Nat} (h:zg7 none 0 rows.dropLast=.inl k):zed rows=.inl k:=by
 unfold zed
 rw [h]
theorem zq1 {rows:List Str} {s:Rdd} (h:zg7 none 0 rows.dropLast=.inr s):zed rows=if rows.dropLast=[]∨rows.getLastD ""≠"" then .inl (rows.length - 1) else .inr s:=by
 unfold zed
 rw [h]
open Classical in
noncomputable def zjK (rows:List Str):Nat ⊕ (Int×List zcd):=match zed rows with
 | .inl k=>.inl k
 | .inr none=>.inl (rows.length - 1)
 | .inr (some (m,rs))=>if zru m rs then .inr (m,rs) else .inl (rows.length - 1)
def ze6:Str:="read_paper.<locals>.<lambda>"
abbrev LT2 (H:Hp) (P:Addr):Prop:=zct H P zox ze6
def thO (sp:Bool) (w:Str):Option Tr:=if sp then match zdv (Txt.split w "-") with
  | some [x,y]=>some (.tup [.int x,.int y])
  | _=>none
 else (zdQ w).map Tr.int
def plO (sp:Bool) (ws:List Str):Option (List Tr):=ws.mapM (thO sp)
def kdS (sp:Bool):Str:=if sp then Str.ofString "spread" else Str.ofString "walk"
def shO (sp:Bool) (row:Str):Option Tr :=
 let ws:=Txt.split row " "
 if ws.getD 0 ""=kdS sp∧(if sp then 2 else 3)≤ws.length then
  (zdQ (ws.getD 1 "")).bind fun n=>if n<1 then none else (plO sp (ws.drop 2)).map fun p=>.tup [.lst p,.int n]
 else none
def zmy:Option Tr→Hp→V→Prop
 | none,_,v=>v=.non
 | some t,H,v=>Sh H t v∧v≠.non
def zgn (sp:Bool) (rows:List Str):Nat ⊕ List Tr:=match (rows.dropLast.map (shO sp)).findIdx? (fun o=>o.isNone) with
 | some k=>.inl k
 | none=>if rows.dropLast=[]∨rows.getLastD ""≠"" then .inl (rows.length - 1) else .inr (rows.dropLast.filterMap (shO sp))
theorem zlj {sp:Bool} {rows:List Str} {k:Nat} {r:Str} (hk:rows.dropLast[k]?=some r) (h:shO sp r=none) (hb:∀ (i:Nat) r,i<k→rows.dropLast[i]?=some r→shO sp r≠none):zgn sp rows=.inl k:=by
 have e:(rows.dropLast.map (shO sp)).findIdx? (fun o=>o.isNone)=some k:=by
  rw [List.findIdx?_eq_some_iff_getElem]
  have hl:=(List.getElem?_eq_some_iff.mp hk).1
  refine ⟨by rw [List.length_map];exact hl,?_,fun j hj=>?_⟩
  ·rw [List.getElem_map,(List.getElem?_eq_some_iff.mp hk).2,h];rfl
  ·rw [List.getElem_map]
   have:=hb j _ hj (List.getElem?_eq_getElem (by omega))
   intro z
   exact this (Option.isNone_iff_eq_none.mp z)
 unfold zgn
 rw [e]
theorem zua {sp:Bool} {rows:List Str} (hb:∀ (i:Nat) r,rows.dropLast[i]?=some r→shO sp r≠none):zgn sp rows=if rows.dropLast=[]∨rows.getLastD ""≠"" then .inl (rows.length - 1) else .inr (rows.dropLast.filterMap (shO sp)):=by
 have e:(rows.dropLast.map (shO sp)).findIdx? (fun o=>o.isNone)=none:=by
  rw [List.findIdx?_eq_none_iff]
  intro x hx
  obtain ⟨r,hr,rfl⟩:=List.mem_map.mp hx
  obtain ⟨i,hi⟩:=List.mem_iff_getElem?.mp hr
  have:=hb i r hi
  cases h:shO sp r with
  | none=>exact absurd h this
  | some t=>rfl
 unfold zgn
 rw [e]
def zoq (kd:Str) (rows:List Str):Nat ⊕ (Bool×List Tr):=if kd=kdS false then (match zgn false rows with | .inl k=>.inl k | .inr ts=>.inr (false,ts))
 else if kd=kdS true then (match zgn true rows with | .inl k=>.inl k | .inr ts=>.inr (true,ts)) else .inl 0
def zlw (text:Str):Nat ⊕ (Bool×List Tr):=zoq (Txt.partition text " ").1 (Txt.split text "\n")
theorem zs2 (xs:List V) (k:Nat):zma xs none (some (k:Int))=xs.take k:=by
 unfold zma
 rw [HT.sIx_none,HT.sIx_nat,List.drop_zero,Nat.sub_zero]
 by_cases h:k≤xs.length
 ·rw [Nat.min_eq_left h]
 ·rw [Nat.min_eq_right (by omega),List.take_of_length_le (Nat.le_refl _),List.take_of_length_le (by omega)]
theorem zpy (xs:List V) (k:Nat):zma xs (some (k:Int)) none=xs.drop k:=by
 unfold zma
 rw [HT.sIx_none,HT.sIx_nat]
 by_cases h:k≤xs.length
 ·rw [Nat.min_eq_left h,List.take_of_length_le (by rw [List.length_drop];exact Nat.le_refl _)]
 ·rw [Nat.min_eq_right (by omega),List.drop_eq_nil_of_le (Nat.le_refl _),List.drop_eq_nil_of_le (by omega),List.take_nil]
theorem zic:Str.ofString " "=⟨#[32]⟩:=by decide +kernel
theorem zcG:Str.ofString "\n"=⟨#[10]⟩:=by decide +kernel
theorem zs7:Str.ofString "-"=⟨#[45]⟩:=by decide +kernel
def znQ:Sp:=fun vs H Q _=>∃ w:Str,vs=[.str w]∧w.length≤640∧∀ H',zaJ H H'→Q (zla (zdQ w)) H'
def zf9 (K:PySem.W.Frag):TS :=
 (zaz (zeh (zcn (zpE (tB (tBM K "str" zjq (zac 0) (zab (tC (.str "0")) zak))) (zav (tOp rNe (zac 0) (tC (.str "0"))))) (zb9 (tC .non)) zaZ))
 (zb9 (tCB zrI (zab (zac 0) zak))))
theorem zde (K:PySem.W.Frag) (D:zce) (σ:St) (H:Hp):zf9 K D σ H=(zaz (zeh (zcn (zpE (tB (tBM K "str" zjq (zac 0) (zab (tC (.str "0")) zak))) (zav (tOp rNe (zac 0) (tC (.str "0"))))) (zb9 (tC .non)) zaZ))
 (zb9 (tCB zrI (zab (zac 0) zak)))) D σ H:=rfl
def zfZ (K:PySem.W.Frag):TS :=
 (zcn (tOr (zgX (zav (zg4 (rI0 fun i j=>.bl (decide (i≤j))) (rI0 fun i j=>.bl (decide (i≤j))) (tC (.int 1)) (tCB zof (zab (zac 0) zak)) (tC (.int 2000))))) (zgX (tB (tCB (rAll K) (zab (zgg (iStr (zac 0)) (zai 0) zcC (tOp rInS (zac 0) (tC (.str "0123456789"))) [none]) zak))))) (zb9 (tC .non)) zaZ)
theorem zdb (K:PySem.W.Frag) (D:zce) (σ:St) (H:Hp):zfZ K D σ H=(zcn (tOr (zgX (zav (zg4 (rI0 fun i j=>.bl (decide (i≤j))) (rI0 fun i j=>.bl (decide (i≤j))) (tC (.int 1)) (tCB zof (zab (zac 0) zak)) (tC (.int 2000))))) (zgX (tB (tCB (rAll K) (zab (zgg (iStr (zac 0)) (zai 0) zcC (tOp rInS (zac 0) (tC (.str "0123456789"))) [none]) zak))))) (zb9 (tC .non)) zaZ) D σ H:=rfl
def zfR (K:PySem.W.Frag):TS :=
 (zaz (zeh (zfZ K))
 (zf9 K))
theorem all_map {α:Type} {f:α→Bool}:∀ (l:List α),(l.map f).all id=l.all f
 | []=>rfl
 | a::l=>by rw [List.map_cons,List.all_cons,List.all_cons,all_map l];rfl
theorem zbR {n:Nat} (h:n≤99999):n≤sizeLine:=Nat.le_trans h (by decide)
theorem zkv {w:Str} (l:w.length≤640) (q:∀ H',zaJ H H'→Q (zla (zdQ w)) H'):zfR K { nx:=fun _ H'=>Q .non H',rt:=Q } (L2.zbA ["word"] [.str w]) H:=by
 unfold zfR
 have lw:w.length=w.cps.toList.length:=by simp [Str.length]
 have qn:okW w=false→∀ H',zaJ H H'→Q .non H':=fun e H' s=>by
  have:=q H' s
  unfold zdQ at this
  rw [if_neg (by rw [e];exact Bool.false_ne_true)] at this
  exact this
 simp_all only [zac]
 refine ⟨fun σ H'=>zaJ H H'∧1≤w.length∧w.cps.toList.all dg=true∧σ=[some (.str w)],?_,?_⟩
 ·simp_all only [zde,zdb,zac]
  refine ⟨zbR (by omega),?_⟩
  by_cases l1:(1:Int)≤(w.length:Int)
  ·rw [if_pos l1,if_neg (by omega)]
   intro D hD
   refine zm2 dg (by omega) hD ?_ ?_
   ·intro i c H' R hc s r
    refine ⟨_,rfl,_,_,rfl,rfl,?_⟩
    rw [zw0]
    exact r H' (.refl _)
   ·intro H' s hD'
    refine ⟨_,rfl,_,SqL.of hD',?_⟩
    rw [all_map]
    cases ha:w.cps.toList.all dg with
    | false =>
     rw [if_pos rfl]
     exact qn (by unfold okW;rw [ha,Bool.and_false,Bool.false_and]) H' s
    | true =>
     rw [if_neg (by decide)]
     exact ⟨s,by omega,rfl⟩
  ·rw [if_neg l1]
   exact qn (by unfold okW;rw [decide_eq_false (by omega),Bool.false_and,Bool.false_and]) H (.refl _)
 ·rintro σ H1 ⟨s1,l1,hd,rfl⟩
  have e0:okW w=!(decide (w.cps.toList.head?=some 48)&&!decide (w=Str.ofString "0")):=by
   unfold okW
   rw [hd,decide_eq_true l1,Bool.true_and,Bool.true_and]
  refine ⟨fun σ H'=>zaJ H H'∧okW w=true∧σ=[some (.str w)],?_,?_⟩
  ·simp_all only [zde,zdb,zac]
   refine ⟨rfl,?_⟩
   rw [zth]
   by_cases h1:w.cps.toList.head?=some 48
   ·rw [if_pos (decide_eq_true h1)]
    refine ⟨rfl,?_⟩
    by_cases h2:w=Str.ofString "0"
    ·rw [if_neg (fun z=>z h2)]
     exact ⟨s1,by rw [e0,decide_eq_true h1,decide_eq_true h2];rfl⟩
    ·rw [if_pos h2]
     exact qn (by rw [e0,decide_eq_true h1,decide_eq_false h2];rfl) H1 s1
   ·rw [if_neg (by rw [decide_eq_false h1];exact Bool.false_ne_true)]
    exact ⟨s1,by rw [e0,decide_eq_false h1];rfl⟩
  ·rintro σ H2 ⟨s2,hk,rfl⟩
   obtain ⟨n,hn,_⟩:=zrP hd l1 (by omega)
   have q2:=q H2 s2
   unfold zdQ at q2
   rw [if_pos hk,hn] at q2
   simp_all only [zde,zdb,zac]
   exact ⟨l,n,hn,q2⟩
theorem zkC:zaK ["word"] ["word"] (zam zd2):=⟨rfl,rfl,rfl,by decide +kernel,rfl,by decide +kernel,by decide +kernel⟩
theorem zdw (T:Txt K mg base a):zc8 P w K mg base CX0 1 a.f_number_in a.d_number_in ["word"] znQ:=by
 refine T.F_number_in.ok zkC (fun vs H Q E h=>?_) (fun cdv A outer s H vs Q E hr h=>?_)
 ·obtain ⟨w,rfl,l,q⟩:=h
  rfl
 obtain ⟨w,rfl,l,q⟩:=h
 exact ⟨zfR K,(zaf (zbQ (zb8 (PW.pt (zdJ (zef (zmI znx znx zag (zaq zhP rfl T.z_len PySem.boot_len (zaa (pv 0) zae)) (zbk rfl T.m_MOST_FIGURES ⟨_,rfl⟩))) (zdg (zef (zf8 (zaq (zrp rfl) rfl T.z_all PyProof.Rows.boot_all (zaa (zh5 (sc:=zam zd2) (N:=["word"]) (Nc:=["sign"]) (cap:=[none]) rfl rfl rfl (.of (by decide +kernel)) (zwL (pv 0)) (fun _ _ _ _=>(zaG (i:=0) (show List.Nodup (["sign"]:List Str) from by decide) rfl (Or.inl rfl))) (fun _ _ _ _=>zfB) (fun _ _ _ _=>(zlu zvU (pv 0) (zbk rfl T.m_FIGURES ⟨_,rfl⟩) (by with_unfolding_all rfl)))) zae))))))) (zaj (zaN zco)) zaT))
 (zaf (zbQ (zb8 (PW.pt (zkq (zf8 (zcw PySem.F.plainAttrs_str PySem.F.slot_str_startswith PySem.F.type_str_startswith zoW (pv 0) (zaa zay zae))) (zh6 (zat zeq (pv 0) zay (zaL _))))) (zaj (zaN zco)) zaT))
 (zaj (zaN (zby zpn rfl T.z_int zjt (zaa (pv 0) zae)))))),
  zkv l q⟩
def zkL (K:PySem.W.Frag):Sp:=fun vs H Q _=>∃ (p:Addr) (ws:List Str),vs=[.ref p]∧SqL K H p (ws.map V.str)∧ws.length≤99999∧(∀ w∈ws,w.length≤640)∧(zdv ws=none→∀ H',zaJ H H'→Q .non H')∧∀ ns,zdv ws=some ns→∀ D H',zaJ H H'→H D=none→H' D=some (.lst (ns.map V.int))→Q (.ref D) H'
def zev (K:PySem.W.Frag):TS :=
 (zaz (zaU (zgg (zfO K (zac 0)) (zai 0) zcC (zaH znQ [] E0 (zab (zac 0) zak)) [none]) (zai 1))
 (zb9 (tIf (zav (tOp (rIn K false) (tC .non) (zac 1))) (tC .non) (zac 1))))
theorem zoF (ws:List Str):(ws.map fun w=>zla (zdQ w)).all zfa=true:=by
 rw [List.all_map]
 refine List.all_eq_true.mpr fun w _=>?_
 show zfa (zla (zdQ w))=true
 cases zdQ w <;> rfl
theorem zoH {a D:Addr} {ws:List Str} {te:TE} {σ:St} (hl:SqL K H a (ws.map V.str)) (hD:H D=none) (hx:ws.length≤99999)
  (hs:∀ (i:Nat) w H' (R:VK),ws[i]?=some w→zaJ H H'→(∀ H'',zaJ H' H''→R (zla (zdQ w)) H'')→te (σ.set 0 (some (.str w))) H' R)
  (hd:∀ H',zaJ H H'→H' D=some (.lst (ws.map fun w=>zla (zdQ w)))→Q (.ref D) H'):zh7 (Itl K a) (zai 0) zcC te D Q σ (L2.upd H D (.lst [])):=by
 refine zmS (fun i _ v=>∃ w,ws[i]?=some w∧v=zla (zdQ w)) (fun _ _ _ _ _ h=>h) hl hD (by rw [List.length_map];exact hx) ?_ ?_
 ·intro i x H' R e s r
  obtain ⟨w,hw,rfl⟩:=zep e
  exact hs i w H' R hw s fun H'' s2=>r _ H'' s2 ⟨w,hw,rfl⟩
 ·intro H' ys s ly hr hD'
  refine hd H' s ?_
  have ey:ys=ws.map fun w=>zla (zdQ w):=by
   refine List.ext_getElem? fun i=>?_
   by_cases c:i<ys.length
   ·obtain ⟨w,hw,e⟩:=hr i _ (List.getElem?_eq_getElem c)
    rw [List.getElem?_eq_getElem c,List.getElem?_map,hw,e]
    rfl
   ·rw [List.getElem?_eq_none (by omega),List.getElem?_eq_none (by rw [List.length_map] at ly ⊢;omega)]
  rw [← ey]
  exact hD'
theorem zji {p:Addr} {ws:List Str} (hp:SqL K H p (ws.map V.str)) (lw:ws.length≤99999) (lws:∀ w∈ws,w.length≤640) (q0:zdv ws=none→∀ H',zaJ H H'→Q .non H') (q1:∀ ns,zdv ws=some ns→∀ D H',zaJ H H'→H D=none→H' D=some (.lst (ns.map V.int))→Q (.ref D) H'):zev K { nx:=fun _ H'=>Q .non H',rt:=Q } (L2.zbA ["words","numbers"] [.ref p]) H:=by
 unfold zev
 simp_all only [zac]
 refine ⟨⟨_,hp⟩,fun D hD=>zoH hp hD lw ?_ ?_⟩
 ·intro i w H' R e s r
  exact ⟨_,rfl,w,rfl,lws w (zcQ e),r⟩
 ·intro H' s hD'
  refine ⟨D,rfl,_,.inl (SqL.of hD'),rfl,zoF ws,?_⟩
  cases hn:zdv ws with
  | none =>
   rw [if_pos (zgK.mp hn)]
   exact q0 hn H' s
  | some ns =>
   rw [if_neg (fun z=>by rw [zgK.mpr z] at hn;cases hn)]
   rw [zgH hn] at hD'
   exact q1 ns hn D H' s hD hD'
theorem zf3:zaK ["words","numbers"] ["words"] (zam zdA):=⟨rfl,rfl,rfl,by decide +kernel,rfl,by decide +kernel,by decide +kernel⟩
theorem zgb (T:Txt K mg base a):zc8 P w K mg base CX0 2 a.f_numbers_in a.d_numbers_in ["words"] (zkL K):=by
 have G_number_in:=zdw (P:=P) (w:=w) (base:=base) T
 refine T.F_numbers_in.ok zf3 (fun vs H Q E h=>?_) (fun cdv A outer s H vs Q E hr h=>?_)
 ·obtain ⟨p,ws,rfl,hp,lw,lws,q0,q1⟩:=h
  rfl
 obtain ⟨p,ws,rfl,hp,lw,lws,q0,q1⟩:=h
 exact ⟨zev K,(zaf (ziz (i:=1) zf3.nd rfl rfl (sc:=zam zdA) (N:=["words","numbers"]) (Nc:=["word"]) (cap:=[none]) rfl rfl rfl (.of (by decide +kernel)) (zdP (pv 0)) (fun _ _ _ _=>(zaG (i:=0) (show List.Nodup (["word"]:List Str) from by decide) rfl (Or.inl rfl))) (fun _ _ _ _=>zfB) (fun _ _ _ _=>(zau G_number_in (hr.mono (by decide)) rfl T.m_number_in T.F_number_in.kp T.b_number_in .nil za8 (zaa (pv 0) zae))))
 (zaj (zaN (zdx (zat zpT zco (pv 1) (by with_unfolding_all rfl)) zco (pv 1))))),
  zji hp lw lws q0 q1⟩
def zvM:Sp:=fun vs H Q _=>∃ (sp:Bool) (w:Str),vs=[.str (kdS sp),.str w]∧w.length≤640∧∀ v H',zaJ H H'→zmy (thO sp w) (NwH H H') v→Q v H'
def zeN (K:PySem.W.Frag):TS :=
 (zaz (zaU (zaH (zkL K) [] E0 (zab (tBM K "str" zdD (zac 1) (zab (tC (.str "-")) zak)) zak)) (zai 2))
 (zb9 (tIf (tOr (zav (tOp (fun x y H Q=>y=.non∧Q (.bl (decide (x=.non))) H) (zac 2) (tC .non))) (zav (tOp rNe (tCB (fun xs H Q=>∃ p ys,xs=[.ref p]∧(SqL K H p ys∨SqT K H p ys)∧Q (.int ys.length) H) (zab (zac 2) zak)) (tC (.int 2))))) (tC .non) (tCB (fun xs H Q=>∃ p ys,xs=[.ref p]∧((SqL K H p ys∧∀ l,H l=none→Q (.ref l) (upd H l (.tup ys)))∨(SqT K H p ys∧Q (.ref p) H))) (zab (zac 2) zak)))))
theorem zdl (K:PySem.W.Frag) (D:zce) (σ:St) (H:Hp):zeN K D σ H=(zaz (zaU (zaH (zkL K) [] E0 (zab (tBM K "str" zdD (zac 1) (zab (tC (.str "-")) zak)) zak)) (zai 2))
 (zb9 (tIf (tOr (zav (tOp (fun x y H Q=>y=.non∧Q (.bl (decide (x=.non))) H) (zac 2) (tC .non))) (zav (tOp rNe (tCB (fun xs H Q=>∃ p ys,xs=[.ref p]∧(SqL K H p ys∨SqT K H p ys)∧Q (.int ys.length) H) (zab (zac 2) zak)) (tC (.int 2))))) (tC .non) (tCB (fun xs H Q=>∃ p ys,xs=[.ref p]∧((SqL K H p ys∧∀ l,H l=none→Q (.ref l) (upd H l (.tup ys)))∨(SqT K H p ys∧Q (.ref p) H))) (zab (zac 2) zak))))) D σ H:=rfl
def zgR (K:PySem.W.Frag):TS :=
 (zaz (zeh (zcn (zav (tOp rEq (zac 0) (tC (.str "walk")))) (zb9 (zaH znQ [] E0 (zab (zac 1) zak))) zaZ))
 (zeN K))
theorem zoG:kdS false=Str.ofString "walk":=rfl
theorem zqY:kdS true=Str.ofString "spread":=rfl
theorem zgZ:¬ Str.ofString "spread"=Str.ofString "walk":=by decide +kernel
theorem zuS {o:Option Int}:zmy (o.map Tr.int) H (zla o):=by
 cases o with
 | none=>exact rfl
 | some n=>exact ⟨.int n,fun z=>by cases z⟩
theorem zlE {sp:Bool} {w:Str} (lw:w.length≤640) (q:∀ v H',zaJ H H'→zmy (thO sp w) (NwH H H') v→Q v H'):zgR K { nx:=fun _ H'=>Q .non H',rt:=Q } (L2.zbA ["kind","word","ends"] [.str (kdS sp),.str w]) H:=by
 unfold zgR
 simp_all only [zdl,zac]
 refine ⟨fun σ H'=>zaJ H H'∧sp=true∧σ=[some (.str (kdS sp)),some (.str w),none],?_,?_⟩
 ·simp_all only [zdl,zac]
  refine ⟨rfl,?_⟩
  cases sp
  ·rw [if_pos zoG]
   exact ⟨w,rfl,lw,fun H' s=>q _ H' s zuS⟩
  ·rw [if_neg (by rw [zqY];exact zgZ)]
   exact ⟨.refl _,rfl⟩
 ·rintro σ H1 ⟨s1,rfl,rfl⟩
  unfold zeN
  simp_all only [zdl,zac]
  have lp:∀ x∈Txt.split w (Str.ofString "-"),x.length≤w.length:=by rw [zs7];exact zdk w 45
  have lq:(Txt.split w (Str.ofString "-")).length≤w.length+1:=by rw [zs7];exact split_len w 45
  refine ⟨rfl,by decide +kernel,by omega,fun p hp=>⟨p,_,rfl,SqL.of zad,by omega,fun x hx=>Nat.le_trans (lp x hx) lw,fun hn H2 s2=>?_,fun ns hn D H2 s2 hD hD2=>?_⟩⟩
  ·show ite _ _ _
   rw [if_pos rfl]
   refine q _ H2 (s1.trans ((zah hp _).trans s2)) ?_
   unfold thO
   rw [if_pos rfl]
   show zmy (match zdv (Txt.split w (Str.ofString "-")) with | some [x,y]=>_ | _=>none) _ _
   rw [hn]
   rfl
  ·show ite _ _ _
   rw [if_neg (fun z=>V.noConfusion z)]
   refine ⟨D,rfl,_,.inl (SqL.of hD2),?_⟩
   have s3:zaJ H H2:=s1.trans ((zah hp _).trans s2)
   have et:thO true w=(match some ns with | some [x,y]=>some (Tr.tup [.int x,.int y]) | _=>none):=by
    rw [← hn]
    rfl
   rw [List.length_map]
   by_cases l2:(ns.length:Int)=2
   ·rw [if_neg (fun z=>z l2)]
    obtain ⟨x,y,rfl⟩:∃ x y,ns=[x,y]:=by
     match ns,l2 with
     | [x,y],_=>exact ⟨x,y,rfl⟩
     | [],h=>exact absurd h (by decide)
     | [_],h=>rw [List.length_singleton] at h;omega
     | _::_::_::l,h=>rw [List.length_cons,List.length_cons,List.length_cons] at h;omega
    refine ⟨D,rfl,_,.inl ⟨SqL.of hD2,fun l hl=>q _ _ (s3.add hl) ?_⟩⟩
    rw [et]
    refine ⟨ShL.tp (ShL.ints [x,y]) (zdn.mpr ⟨s3.free hl,zad⟩),fun z=>by cases z⟩
   ·rw [if_pos l2]
    refine q _ H2 s3 ?_
    rw [et]
    split
    ·rename_i x y e
     cases e
     exact absurd rfl l2
    ·rfl
theorem zhB:zaK ["kind","word","ends"] ["kind","word"] (zam zgp):=⟨rfl,rfl,rfl,by decide +kernel,rfl,by decide +kernel,by decide +kernel⟩
theorem zlo (T:Txt K mg base a):zc8 P w K mg base CX0 3 a.f_thing_in a.d_thing_in ["kind","word"] zvM:=by
 have G_number_in:=zdw (P:=P) (w:=w) (base:=base) T
 have G_numbers_in:=zgb (P:=P) (w:=w) (base:=base) T
 refine T.F_thing_in.ok zhB (fun vs H Q E h=>?_) (fun cdv A outer s H vs Q E hr h=>?_)
 ·obtain ⟨sp,w,rfl,lw,q⟩:=h
  rfl
 obtain ⟨sp,w,rfl,lw,q⟩:=h
 exact ⟨zgR K,(zaf (zbQ (zb8 (zat zej (pv 0) zay (zaL _)) (zaj (zaN (zau G_number_in (hr.mono (by decide)) rfl T.m_number_in T.F_number_in.kp T.b_number_in .nil za8 (zaa (pv 1) zae)))) zaT))
 (zaf (zas (i:=2) zhB.nd rfl (Or.inl rfl) (zau G_numbers_in (hr.mono (by decide)) rfl T.m_numbers_in T.F_numbers_in.kp T.b_numbers_in .nil za8 (zaa (zcw PySem.F.plainAttrs_str PySem.F.slot_str_split PySem.F.type_str_split zdi (pv 1) (zaa zay zae)) zae)))
 (zaj (zaN (zdx (PW.pt (zdJ (zat zgV (pv 2) zco (zaL _)) (zdg (zat zeq (zaq zaF rfl T.z_len PySem.boot_len (zaa (pv 2) zae)) zag (zaL _))))) zco (zby zd3 rfl T.z_tuple zdT (zaa (pv 2) zae))))))),
  zlE lw q⟩
def zi0 (K:PySem.W.Frag):Sp:=fun vs H Q _=>∃ (sp:Bool) (p:Addr) (ws:List Str),vs=[.str (kdS sp),.ref p]∧SqL K H p (ws.map V.str)∧ws.length≤99999∧(∀ w∈ws,w.length≤640)∧∀ v H',zaJ H H'→zmy ((plO sp ws).map Tr.lst) (NwH H H') v→Q v H'
def zhy (K:PySem.W.Frag):TS :=
 (zaz (zaU (zgg (zfO K (zac 1)) (zai 0) zcC (zaH zvM [] E0 (zab (zac 1) (zab (zac 0) zak))) [none,some 0]) (zai 2))
 (zb9 (tIf (zav (tOp (rInN K) (tC .non) (zac 2))) (tC .non) (zac 2))))
theorem zmy.same {o:Option Tr} {H H':Hp} {v:V} (h:zmy o H v) (s:zaJ H H'):zmy o H' v:=by
 cases o with
 | none=>exact h
 | some t=>exact ⟨h.1.same s,h.2⟩
theorem zoz (sp:Bool) (w:Str):thO sp w=none∨(∃ n,thO sp w=some (.int n))∨∃ ts,thO sp w=some (.tup ts):=by
 unfold thO
 cases sp
 ·show (zdQ w).map Tr.int=none∨_
  cases zdQ w with
  | none=>exact .inl rfl
  | some n=>exact .inr (.inl ⟨n,rfl⟩)
 ·show (match zdv (Txt.split w "-") with | some [x,y]=>some (Tr.tup [.int x,.int y]) | _=>none)=none∨_
  split
  ·exact .inr (.inr ⟨_,rfl⟩)
  ·exact .inl rfl
theorem zmD (sp:Bool) (w:Str) (ws:List Str):plO sp (w::ws)=(thO sp w).bind fun n=>(plO sp ws).bind fun ns=>some (n::ns):=by
 unfold plO
 rw [List.mapM_cons]
 rfl
theorem zsY (sp:Bool):∀ {ws:List Str} {ys:List V},ys.length=ws.length→(∀ (i:Nat) y w,ys[i]?=some y→ws[i]?=some w→zmy (thO sp w) H y)→((ys.any fun z=>decide (z=.non))=true∧plO sp ws=none)∨((ys.any fun z=>decide (z=.non))=false∧∃ ts,plO sp ws=some ts∧ShL H ts ys)
 | [],[],_,_=>.inr ⟨rfl,[],rfl,.nil⟩
 | w::ws,y::ys,l,h=>by
  have h0:=h 0 y w rfl rfl
  have ih:=zsY sp (ws:=ws) (ys:=ys) (by rw [List.length_cons,List.length_cons] at l;omega) fun i y w e1 e2=>h (i+1) y w e1 e2
  rw [List.any_cons,zmD]
  cases ht:thO sp w with
  | none =>
   rw [ht] at h0
   have h0:y=.non:=h0
   exact .inl ⟨by rw [decide_eq_true h0];rfl,rfl⟩
  | some t =>
   rw [ht] at h0
   rw [decide_eq_false h0.2,Bool.false_or]
   rcases ih with ⟨a1,a2⟩ | ⟨a1,ts,a2,a3⟩
   ·exact .inl ⟨a1,by rw [a2];rfl⟩
   ·exact .inr ⟨a1,t::ts,by rw [a2];rfl,.cons h0.1 a3⟩
theorem znL {sp:Bool} {p:Addr} {ws:List Str} (hp:SqL K H p (ws.map V.str)) (lw:ws.length≤99999) (lws:∀ w∈ws,w.length≤640) (q:∀ v H',zaJ H H'→zmy ((plO sp ws).map Tr.lst) (NwH H H') v→Q v H'):zhy K { nx:=fun _ H'=>Q .non H',rt:=Q } (L2.zbA ["kind","words","plan"] [.str (kdS sp),.ref p]) H:=by
 unfold zhy
 simp_all only [zac]
 refine ⟨⟨_,hp⟩,fun D hD=>zmS (fun i H v=>∃ w,ws[i]?=some w∧zmy (thO sp w) H v) (fun i H H' v s h=>by obtain ⟨w,e,h⟩:=h;exact ⟨w,e,h.same s⟩) hp hD (by rw [List.length_map];exact lw) ?_ ?_⟩
 ·intro i x H' R e s r
  obtain ⟨w,hw,rfl⟩:=zep e
  exact ⟨_,rfl,_,rfl,sp,w,rfl,lws w (zcQ hw),fun v H'' s2 h=>r v H'' s2 ⟨w,hw,h⟩⟩
 ·intro H' ys s ly hr hD'
  rw [List.length_map] at ly
  refine ⟨D,rfl,ys,SqL.of hD',?_,?_⟩
  ·intro z hz
   obtain ⟨i,hi⟩:=List.mem_iff_getElem?.mp hz
   obtain ⟨w,hw,h⟩:=hr i z hi
   rcases zoz sp w with e | ⟨n,e⟩ | ⟨ts,e⟩
   ·rw [e] at h
    exact .inl h
   ·rw [e] at h
    obtain ⟨h,_⟩:=h
    cases h
    exact .inr (.inl ⟨_,rfl⟩)
   ·rw [e] at h
    obtain ⟨h,_⟩:=h
    cases h with
    | tup hh=>exact .inr (.inr ⟨_,rfl,_,SqT.of (zpB _ _ hh)⟩)
  ·rcases zsY sp (H:=NwH H H') ly (fun i y w e1 e2=>by
    obtain ⟨w',e3,h⟩:=hr i y e1
    rw [e2] at e3
    cases e3
    exact h) with ⟨a1,a2⟩ | ⟨a1,ts,a2,a3⟩
   ·rw [if_pos a1]
    exact q _ H' s (by rw [a2];exact rfl)
   ·rw [if_neg (by rw [a1];exact Bool.false_ne_true)]
    refine q _ H' s ?_
    rw [a2]
    exact ⟨a3.sh (zdn.mpr ⟨hD,hD'⟩),fun z=>by cases z⟩
theorem ziq:zaK ["kind","words","plan"] ["kind","words"] (zam zf5):=⟨rfl,rfl,rfl,by decide +kernel,rfl,by decide +kernel,by decide +kernel⟩
theorem zn3 (T:Txt K mg base a):zc8 P w K mg base CX0 4 a.f_plan_in a.d_plan_in ["kind","words"] (zi0 K):=by
 have G_thing_in:=zlo (P:=P) (w:=w) (base:=base) T
 refine T.F_plan_in.ok ziq (fun vs H Q E h=>?_) (fun cdv A outer s H vs Q E hr h=>?_)
 ·obtain ⟨sp,p,ws,rfl,hp,lw,lws,q⟩:=h
  rfl
 obtain ⟨sp,p,ws,rfl,hp,lw,lws,q⟩:=h
 exact ⟨zhy K,(zaf (ziz (i:=2) ziq.nd rfl rfl (sc:=zam zf5) (N:=["kind","words","plan"]) (Nc:=["word","kind"]) (cap:=[none,some 0]) rfl rfl rfl (.of (by decide +kernel)) (zdP (pv 1)) (fun _ _ _ _=>(zaG (i:=0) (show List.Nodup (["word","kind"]:List Str) from by decide) rfl (Or.inl rfl))) (fun _ _ _ _=>zfB) (fun _ _ _ _=>(zau G_thing_in (hr.mono (by decide)) rfl T.m_thing_in T.F_thing_in.kp T.b_thing_in .nil za8 (zaa (pv 1) (zaa (pv 0) zae)))))
 (zaj (zaN (zdx (zat (zw2 hr.units) zco (pv 2) (by with_unfolding_all rfl)) zco (pv 2))))),
  znL hp lw lws q⟩
def zl2:Sp:=fun vs H Q _=>∃ (sp:Bool) (row:Str),vs=[.str row,.str (kdS sp)]∧Rn 640 row∧10∉sgn row∧row.length≤90000∧∀ v H',zaJ H H'→zmy (shO sp row) (NwH H H') v→Q v H'
def zes (K:PySem.W.Frag):TS :=
 (zaz (zaU (zaH znQ [] E0 (zab (tOp (zcO K) (zac 2) (tC (.int 1))) zak)) (zai 3))
 (zaz (zaU (zaH (zi0 K) [] E0 (zab (zac 1) (zab (tSl (zhk K) (zac 2) (zcc (tC (.int 2))) za2) zak))) (zai 4))
 (zb9 (tIf (tOr (zav (tOp (fun x y H Q=>y=.non∧Q (.bl (decide (x=.non))) H) (zac 3) (tC .non))) (tOr (zav (tOp (rI0 fun i j=>.bl (decide (i<j))) (zac 3) (tC (.int 1)))) (zav (tOp (fun x y H Q=>y=.non∧Q (.bl (decide (x=.non))) H) (zac 4) (tC .non))))) (tC .non) (zib (zab (zac 4) (zab (zac 3) zak)))))))
theorem zdm (K:PySem.W.Frag) (D:zce) (σ:St) (H:Hp):zes K D σ H=(zaz (zaU (zaH znQ [] E0 (zab (tOp (zcO K) (zac 2) (tC (.int 1))) zak)) (zai 3))
 (zaz (zaU (zaH (zi0 K) [] E0 (zab (zac 1) (zab (tSl (zhk K) (zac 2) (zcc (tC (.int 2))) za2) zak))) (zai 4))
 (zb9 (tIf (tOr (zav (tOp (fun x y H Q=>y=.non∧Q (.bl (decide (x=.non))) H) (zac 3) (tC .non))) (tOr (zav (tOp (rI0 fun i j=>.bl (decide (i<j))) (zac 3) (tC (.int 1)))) (zav (tOp (fun x y H Q=>y=.non∧Q (.bl (decide (x=.non))) H) (zac 4) (tC .non))))) (tC .non) (zib (zab (zac 4) (zab (zac 3) zak))))))) D σ H:=rfl
def zeY (K:PySem.W.Frag):TS :=
 (zcn (tOr (zav (tOp rNe (tOp (zcO K) (zac 2) (tC (.int 0))) (zac 1))) (zav (tOp (rI0 fun i j=>.bl (decide (i<j))) (tCB (fun xs H Q=>∃ p ys,xs=[.ref p]∧(SqL K H p ys∨SqT K H p ys)∧Q (.int ys.length) H) (zab (zac 2) zak)) (tIf (zav (tOp rEq (zac 1) (tC (.str "walk")))) (tC (.int 3)) (tC (.int 2)))))) (zb9 (tC .non)) zaZ)
theorem zdr (K:PySem.W.Frag) (D:zce) (σ:St) (H:Hp):zeY K D σ H=(zcn (tOr (zav (tOp rNe (tOp (zcO K) (zac 2) (tC (.int 0))) (zac 1))) (zav (tOp (rI0 fun i j=>.bl (decide (i<j))) (tCB (fun xs H Q=>∃ p ys,xs=[.ref p]∧(SqL K H p ys∨SqT K H p ys)∧Q (.int ys.length) H) (zab (zac 2) zak)) (tIf (zav (tOp rEq (zac 1) (tC (.str "walk")))) (tC (.int 3)) (tC (.int 2)))))) (zb9 (tC .non)) zaZ) D σ H:=rfl
def zgE (K:PySem.W.Frag):TS :=
 (zaz (zaU (tBM K "str" zdD (zac 0) (zab (tC (.str " ")) zak)) (zai 2))
 (zaz (zeh (zeY K))
 (zes K)))
theorem zhe {row:Str} (hr:Rn 640 row) (h10:10∉sgn row):∀ w∈Txt.split row (Str.ofString " "),w.length≤640:=fun w hw=>by
 rw [zic] at hw
 have h1:=zdz hr w hw
 have h2:=StrLaws.split_free row 32 w hw
 unfold Rn at h1
 rw [zl6 (sgn w) _ h2 (fun m=>h10 (part_sub hw m))] at h1
 rw [zcA]
 omega
where
 part_sub {c d:Nat} {row w:Str} (hw:w∈Txt.split row ⟨#[c]⟩) (m:d∈sgn w):d∈sgn row:=by
  have key:∀ l:List Str,w∈l→d∈sgn (Str.join ⟨#[c]⟩ l):=by
   intro l
   induction l with
   | nil=>intro h;cases h
   | cons x l ih =>
    intro h
    cases l with
    | nil=>rw [List.mem_singleton.mp h] at m;exact m
    | cons z l =>
     rw [zdo]
     rcases List.mem_cons.mp h with rfl | h
     ·exact List.mem_append_left _ m
     ·exact List.mem_append_right _ (List.mem_append_right _ (ih h))
  have:=key _ hw
  rw [StrLaws.join_split] at this
  exact this
theorem zlv {sp:Bool} {row:Str} (hr:Rn 640 row) (h10:10∉sgn row) (lr:row.length≤90000) (q:∀ v H',zaJ H H'→zmy (shO sp row) (NwH H H') v→Q v H'):zgE K { nx:=fun _ H'=>Q .non H',rt:=Q } (L2.zbA ["row","kind","words","weight","plan"] [.str row,.str (kdS sp)]) H:=by
 unfold zgE
 simp_all only [zdm,zdr,zac]
 refine ⟨rfl,by decide +kernel,by omega,fun p hp=>?_⟩
 have lws:=zhe hr h10
 have lw:(Txt.split row (Str.ofString " ")).length≤90001:=by
  rw [zic]
  have:=split_len row 32
  omega
 obtain ⟨w0,wr,ew⟩:∃ w0 wr,Txt.split row (Str.ofString " ")=w0::wr:=by
  cases e:Txt.split row (Str.ofString " ") with
  | nil=>exact absurd e (zck _ _)
  | cons a l=>exact ⟨a,l,rfl⟩
 refine ⟨fun σ H'=>H'=L2.upd H p (.lst ((Txt.split row (Str.ofString " ")).map V.str))∧w0=kdS sp∧(if sp then 2 else 3)≤(Txt.split row (Str.ofString " ")).length∧σ=[some (.str row),some (.str (kdS sp)),some (.ref p),none,none],?_,?_⟩
 ·unfold zeY
  have eS:shO sp row=if w0=kdS sp∧(if sp then 2 else 3)≤wr.length+1 then (zdQ (wr.getD 0 "")).bind fun n=>if n<1 then none else (plO sp (wr.drop 1)).map fun p=>.tup [.lst p,.int n] else none:=by
   unfold shO
   show (if (Txt.split row (Str.ofString " ")).getD 0 ""=kdS sp∧(if sp then 2 else 3)≤(Txt.split row (Str.ofString " ")).length then _ else none)=_
   rw [ew]
   rfl
  have qn:shO sp row=none→Q .non (L2.upd H p (.lst ((Txt.split row (Str.ofString " ")).map V.str))):=fun e=>q _ _ (zah hp _) (by rw [e];rfl)
  rw [ew] at qn ⊢
  simp_all only [zdm,zdr,zac]
  refine ⟨_,SqL.of zad,.str w0,zaV (j:=0) rfl,rfl,?_⟩
  by_cases e0:w0=kdS sp
  ·rw [if_neg (fun z=>z (by rw [e0]))]
   refine ⟨_,.inl (SqL.of zad),rfl,?_⟩
   rw [List.length_cons,List.length_map]
   cases sp
   ·rw [if_pos zoG]
    by_cases l3:((wr.length+1:Nat):Int)<3
    ·rw [if_pos l3]
     exact qn (by rw [eS,if_neg (fun z=>by have:=z.2;rw [if_neg Bool.false_ne_true] at this;omega)])
    ·rw [if_neg l3]
     exact ⟨e0,by rw [if_neg Bool.false_ne_true];omega⟩
   ·rw [if_neg (by rw [zqY];exact zgZ)]
    by_cases l3:((wr.length+1:Nat):Int)<2
    ·rw [if_pos l3]
     exact qn (by rw [eS,if_neg (fun z=>by have:=z.2;rw [if_pos rfl] at this;omega)])
    ·rw [if_neg l3]
     exact ⟨e0,by rw [if_pos rfl];omega⟩
  ·rw [if_pos (fun z=>e0 (V.str.inj z))]
   exact qn (by rw [eS,if_neg (fun z=>e0 z.1)])
 ·rintro σ H1 ⟨rfl,hk,hl,rfl⟩
  unfold zes
  have eS:shO sp row=(zdQ (wr.getD 0 "")).bind fun n=>if n<1 then none else (plO sp (wr.drop 1)).map fun p=>.tup [.lst p,.int n]:=by
   unfold shO
   show (if (Txt.split row (Str.ofString " ")).getD 0 ""=kdS sp∧(if sp then 2 else 3)≤(Txt.split row (Str.ofString " ")).length then _ else none)=_
   rw [if_pos ⟨by rw [ew];exact hk,hl⟩,ew]
   rfl
  rw [ew] at hl lws lw ⊢
  obtain ⟨w1,wt,rfl⟩:∃ w1 wt,wr=w1::wt:=by
   cases wr with
   | nil =>
    rw [List.length_singleton] at hl
    cases sp <;> exact absurd hl (by decide)
   | cons a l=>exact ⟨a,l,rfl⟩
  simp_all only [zdm,zdr,zac]
  refine ⟨_,SqL.of zad,.str w1,zaV (j:=1) rfl,w1,rfl,lws w1 (by simp),fun H1 s1=>⟨_,SqL.of (s1 _ _ zad),fun p2 hp2=>?_⟩⟩
  have ec:zma (V.str w0::V.str w1::wt.map V.str) (some 2) none=wt.map V.str:=by
   exact zpy _ 2
  rw [ec]
  refine ⟨sp,p2,wt,rfl,SqL.of zad,by rw [List.length_cons,List.length_cons] at lw;omega,fun x hx=>lws x (by simp [hx]),fun v H2 s2 h2=>?_⟩
  have s3:zaJ H H2:=((zah hp _).trans s1).trans ((zah hp2 _).trans s2)
  have eS:shO sp row=(zdQ w1).bind fun n=>if n<1 then none else (plO sp wt).map fun p=>.tup [.lst p,.int n]:=eS
  cases hn:zdQ w1 with
  | none =>
   show ite (V.non=V.non) _ _
   rw [if_pos rfl]
   exact q _ H2 s3 (by rw [eS,hn];rfl)
  | some n =>
   rw [hn] at eS
   have eS:shO sp row=if n<1 then none else (plO sp wt).map fun p=>.tup [.lst p,.int n]:=eS
   show ite _ _ _
   rw [if_neg (fun z=>V.noConfusion z)]
   refine ⟨n,rfl,?_⟩
   by_cases n1:n<1
   ·rw [if_pos n1]
    exact q _ H2 s3 (by rw [eS,if_pos n1];rfl)
   ·rw [if_neg n1]
    rw [if_neg n1] at eS
    cases hp:plO sp wt with
    | none =>
     rw [hp] at h2 eS
     have h2:v=V.non:=h2
     rw [if_pos h2]
     exact q _ H2 s3 (by rw [eS];rfl)
    | some ts =>
     rw [hp] at h2 eS
     rw [if_neg h2.2]
     refine ⟨by decide,fun p3 hp3=>q _ _ (s3.add hp3) ?_⟩
     rw [eS]
     refine ⟨ShL.tp (.cons (h2.1.same ?_) (.one (.int n))) (zdn.mpr ⟨s3.free hp3,zad⟩),fun z=>by cases z⟩
     exact zhK (((zah ‹H p=none› _).trans s1).trans (zah hp2 _)) (zah hp3 _)
theorem zeb:zaK ["row","kind","words","weight","plan"] ["row","kind"] (zam zgA):=⟨rfl,rfl,rfl,by decide +kernel,rfl,by decide +kernel,by decide +kernel⟩
theorem zlJ (T:Txt K mg base a):zc8 P w K mg base CX0 5 a.f_share_in a.d_share_in ["row","kind"] zl2:=by
 have G_number_in:=zdw (P:=P) (w:=w) (base:=base) T
 have G_plan_in:=zn3 (P:=P) (w:=w) (base:=base) T
 refine T.F_share_in.ok zeb (fun vs H Q E h=>?_) (fun cdv A outer s H vs Q E hr h=>?_)
 ·obtain ⟨sp,row,rfl,hR,h10,lr,q⟩:=h
  rfl
 obtain ⟨sp,row,rfl,hR,h10,lr,q⟩:=h
 exact ⟨zgE K,(zaf (zas (i:=2) zeb.nd rfl (Or.inl rfl) (zcw PySem.F.plainAttrs_str PySem.F.slot_str_split PySem.F.type_str_split zdi (pv 0) (zaa zay zae)))
 (zaf (zbQ (zb8 (PW.pt (zdJ (zat zeq (zbO zaX (pv 2) zag (fun _ _=>rfl)) (pv 1) (zaL _)) (zdg (zat zlK (zaq zaF rfl T.z_len PySem.boot_len (zaa (pv 2) zae)) (zdx (zat zej (pv 1) zay (zaL _)) zag zag) (zaL _))))) (zaj (zaN zco)) zaT))
 (zaf (zas (i:=3) zeb.nd rfl (Or.inl rfl) (zau G_number_in (hr.mono (by decide)) rfl T.m_number_in T.F_number_in.kp T.b_number_in .nil za8 (zaa (zbO zaX (pv 2) zag (fun _ _=>rfl)) zae)))
 (zaf (zas (i:=4) zeb.nd rfl (Or.inl rfl) (zau G_plan_in (hr.mono (by decide)) rfl T.m_plan_in T.F_plan_in.kp T.b_plan_in .nil za8 (zaa (pv 1) (zaa (zbc zcr (pv 2) (zbJ zag) zbH) zae))))
 (zaj (zaN (zdx (PW.pt (zdJ (zat zgV (pv 3) zco (zaL _)) (zdJ (zat zlK (pv 3) zag (zaL _)) (zdg (zat zgV (pv 4) zco (zaL _)))))) zco (zeX (zaa (pv 4) (zaa (pv 3) zae)))))))))),
  zlv hR h10 lr q⟩
theorem zgj (row:Str):∃ w0 wr,Txt.split row (Str.ofString " ")=w0::wr:=by
 cases e:Txt.split row (Str.ofString " ") with
 | nil=>exact absurd e (zck _ _)
 | cons a l=>exact ⟨a,l,rfl⟩
theorem zkM {ws:List Str} {ns:List Int} (h:zdv ws=some ns):ns.length=ws.length:=by
 have:=congrArg List.length (zgH h)
 rw [List.length_map,List.length_map] at this
 exact this.symm
theorem len1 {α:Type} {l:List α} (h:l.length=1):∃ a,l=[a]:=by
 match l,h with
 | [a],_=>exact ⟨a,rfl⟩
theorem len3 {α:Type} {l:List α} (h:l.length=3):∃ a b c,l=[a,b,c]:=by
 match l,h with
 | [a,b,c],_=>exact ⟨a,b,c,rfl⟩
def zmu:Sp:=fun vs H Q _=>∃ row:Str,vs=[.str row]∧Rn 640 row∧10∉sgn row∧row.length≤90000∧∀ H',zaJ H H'→Q (zla (zgo row)) H'
def zh3 (K:PySem.W.Frag):TS :=
 (zaz (zaU (tBM K "str" zdD (zac 0) (zab (tC (.str " ")) zak)) (zai 1))
 (zb9 (tIf (zpE (zav (tOp rEq (tCB (fun xs H Q=>∃ p ys,xs=[.ref p]∧(SqL K H p ys∨SqT K H p ys)∧Q (.int ys.length) H) (zab (zac 1) zak)) (tC (.int 2)))) (zav (tOp rEq (tOp (zcO K) (zac 1) (tC (.int 0))) (tC (.str "web"))))) (zaH znQ [] E0 (zab (tOp (zcO K) (zac 1) (tC (.int 1))) zak)) (tC .non))))
theorem zn7 {row:Str} (hr:Rn 640 row) (h10:10∉sgn row) (lr:row.length≤90000) (q:∀ H',zaJ H H'→Q (zla (zgo row)) H'):zh3 K { nx:=fun _ H'=>Q .non H',rt:=Q } (L2.zbA ["row","words"] [.str row]) H:=by
 unfold zh3
 simp_all only [zac]
 refine ⟨rfl,by decide +kernel,by omega,fun p hp=>?_⟩
 have lws:=zhe hr h10
 obtain ⟨w0,wr,ew⟩:=zgj row
 unfold zgo at q
 rw [ew] at q lws ⊢
 have q0:¬ ((w0::wr).length=2∧(w0::wr).getD 0 ""=Str.ofString "web")→∀ H',zaJ H H'→Q .non H':=fun c H' s=>by
  have:=q H' s
  rw [if_neg c] at this
  exact this
 refine ⟨_,.inl (SqL.of zad),?_⟩
 rw [List.length_map]
 by_cases l2:(w0::wr).length=2
 ·rw [if_pos (by rw [l2];rfl)]
  refine ⟨_,SqL.of zad,.str w0,zaV (j:=0) rfl,rfl,?_⟩
  by_cases e0:w0=Str.ofString "web"
  ·rw [if_pos (by rw [e0])]
   obtain ⟨w1,rfl⟩:=len1 (l:=wr) (Nat.succ.inj l2)
   refine ⟨_,SqL.of zad,.str w1,zaV (j:=1) rfl,w1,rfl,lws w1 (by simp),fun H' s=>?_⟩
   have:=q H' ((zah hp _).trans s)
   rw [if_pos ⟨l2,e0⟩] at this
   exact this
  ·rw [if_neg (fun z=>e0 (V.str.inj z))]
   exact q0 (fun z=>e0 z.2) _ (zah hp _)
 ·rw [if_neg (fun z=>l2 (by omega))]
  exact q0 (fun z=>l2 z.1) _ (zah hp _)
theorem ziM:zaK ["row","words"] ["row"] (zam zhX):=⟨rfl,rfl,rfl,by decide +kernel,rfl,by decide +kernel,by decide +kernel⟩
theorem zn0 (T:Txt K mg base a):zc8 P w K mg base CX0 2 a.f_many_in a.d_many_in ["row"] zmu:=by
 have G_number_in:=zdw (P:=P) (w:=w) (base:=base) T
 refine T.F_many_in.ok ziM (fun vs H Q E h=>?_) (fun cdv A outer s H vs Q E hr h=>?_)
 ·obtain ⟨row,rfl,hR,h10,lr,q⟩:=h
  rfl
 obtain ⟨row,rfl,hR,h10,lr,q⟩:=h
 exact ⟨zh3 K,(zaf (zas (i:=1) ziM.nd rfl (Or.inl rfl) (zcw PySem.F.plainAttrs_str PySem.F.slot_str_split PySem.F.type_str_split zdi (pv 0) (zaa zay zae)))
 (zaj (zaN (zdx (PW.pt (zkq (zat zej (zaq zaF rfl T.z_len PySem.boot_len (zaa (pv 1) zae)) zag (zaL _)) (zh6 (zat zej (zbO zaX (pv 1) zag (fun _ _=>rfl)) zay (zaL _))))) (zau G_number_in (hr.mono (by decide)) rfl T.m_number_in T.F_number_in.kp T.b_number_in .nil za8 (zaa (zbO zaX (pv 1) zag (fun _ _=>rfl)) zae)) zco)))),
  zn7 hR h10 lr q⟩
def zhm:Sp:=fun vs H Q _=>∃ (row:Str) (m:Int),vs=[.str row,.int m]∧Rn 640 row∧10∉sgn row∧row.length≤90000∧(zgd m row=none→∀ H',zaJ H H'→Q .non H')∧∀ r,zgd m row=some r→∀ t H',zaJ H H'→H t=none→H' t=some (.tup (rdv r))→Q (.ref t) H'
def zfv (K:PySem.W.Frag):TS :=
 (zaz (zaU (zaH (zkL K) [] E0 (zab (tSl (zhk K) (zac 2) (zcc (tC (.int 1))) za2) zak)) (zai 3))
 (zb9 (tIf (tOr (zav (tOp (fun x y H Q=>y=.non∧Q (.bl (decide (x=.non))) H) (zac 3) (tC .non))) (zgX (tB (zaH zga [] E0 (zab (tCB (fun xs H Q=>∃ p ys,xs=[.ref p]∧((SqL K H p ys∧∀ l,H l=none→Q (.ref l) (upd H l (.tup ys)))∨(SqT K H p ys∧Q (.ref p) H))) (zab (zac 3) zak)) (zab (zac 1) zak)))))) (tC .non) (tCB (fun xs H Q=>∃ p ys,xs=[.ref p]∧((SqL K H p ys∧∀ l,H l=none→Q (.ref l) (upd H l (.tup ys)))∨(SqT K H p ys∧Q (.ref p) H))) (zab (zac 3) zak)))))
theorem zfj (K:PySem.W.Frag) (D:zce) (σ:St) (H:Hp):zfv K D σ H=(zaz (zaU (zaH (zkL K) [] E0 (zab (tSl (zhk K) (zac 2) (zcc (tC (.int 1))) za2) zak)) (zai 3))
 (zb9 (tIf (tOr (zav (tOp (fun x y H Q=>y=.non∧Q (.bl (decide (x=.non))) H) (zac 3) (tC .non))) (zgX (tB (zaH zga [] E0 (zab (tCB (fun xs H Q=>∃ p ys,xs=[.ref p]∧((SqL K H p ys∧∀ l,H l=none→Q (.ref l) (upd H l (.tup ys)))∨(SqT K H p ys∧Q (.ref p) H))) (zab (zac 3) zak)) (zab (zac 1) zak)))))) (tC .non) (tCB (fun xs H Q=>∃ p ys,xs=[.ref p]∧((SqL K H p ys∧∀ l,H l=none→Q (.ref l) (upd H l (.tup ys)))∨(SqT K H p ys∧Q (.ref p) H))) (zab (zac 3) zak))))) D σ H:=rfl
def zfG (K:PySem.W.Frag):TS :=
 (zcn (tOr (zav (tOp rNe (tCB (fun xs H Q=>∃ p ys,xs=[.ref p]∧(SqL K H p ys∨SqT K H p ys)∧Q (.int ys.length) H) (zab (zac 2) zak)) (tC (.int 4)))) (zav (tOp rNe (tOp (zcO K) (zac 2) (tC (.int 0))) (tC (.str "road"))))) (zb9 (tC .non)) zaZ)
theorem zfe (K:PySem.W.Frag) (D:zce) (σ:St) (H:Hp):zfG K D σ H=(zcn (tOr (zav (tOp rNe (tCB (fun xs H Q=>∃ p ys,xs=[.ref p]∧(SqL K H p ys∨SqT K H p ys)∧Q (.int ys.length) H) (zab (zac 2) zak)) (tC (.int 4)))) (zav (tOp rNe (tOp (zcO K) (zac 2) (tC (.int 0))) (tC (.str "road"))))) (zb9 (tC .non)) zaZ) D σ H:=rfl
def zhQ (K:PySem.W.Frag):TS :=
 (zaz (zaU (tBM K "str" zdD (zac 0) (zab (tC (.str " ")) zak)) (zai 2))
 (zaz (zeh (zfG K))
 (zfv K)))
theorem zno {row:Str} {m:Int} (hr:Rn 640 row) (h10:10∉sgn row) (lr:row.length≤90000) (q0:zgd m row=none→∀ H',zaJ H H'→Q .non H') (q1:∀ r,zgd m row=some r→∀ t H',zaJ H H'→H t=none→H' t=some (.tup (rdv r))→Q (.ref t) H'):zhQ K { nx:=fun _ H'=>Q .non H',rt:=Q } (L2.zbA ["row","many","words","numbers"] [.str row,.int m]) H:=by
 unfold zhQ
 simp_all only [zac]
 refine ⟨rfl,by decide +kernel,by omega,fun p hp=>?_⟩
 have lws:=zhe hr h10
 obtain ⟨w0,wr,ew⟩:=zgj row
 unfold zgd at q0 q1
 rw [ew] at q0 q1 lws ⊢
 have s1:zaJ H (L2.upd H p (.lst ((w0::wr).map V.str))):=zah hp _
 have h1:L2.upd H p (.lst ((w0::wr).map V.str)) p=some (.lst ((w0::wr).map V.str)):=zad
 generalize L2.upd H p (.lst ((w0::wr).map V.str))=H1 at s1 h1
 have bad:¬ ((w0::wr).length=4∧(w0::wr).getD 0 ""=Str.ofString "road")→Q .non H1:=fun c=>q0 (if_neg c) _ s1
 refine ⟨fun σ H'=>H'=H1∧wr.length=3∧w0=Str.ofString "road"∧σ=[some (.str row),some (.int m),some (.ref p),none],?_,?_⟩
 ·unfold zfG
  simp_all only [zfj,zfe,zac]
  refine ⟨_,.inl (SqL.of h1),?_⟩
  rw [List.length_map]
  by_cases l4:(w0::wr).length=4
  ·rw [if_neg (fun z=>z (by rw [l4];rfl))]
   refine ⟨_,SqL.of h1,.str w0,zaV (j:=0) rfl,rfl,?_⟩
   by_cases e0:w0=Str.ofString "road"
   ·rw [if_neg (fun z=>z (by rw [e0]))]
    exact ⟨Nat.succ.inj l4,e0⟩
   ·rw [if_pos (fun z=>e0 (V.str.inj z))]
    exact bad (fun z=>e0 z.2)
  ·rw [if_pos (fun z=>l4 (by omega))]
   exact bad (fun z=>l4 z.1)
 ·rintro σ H2 ⟨rfl,l3,e0,rfl⟩
  rw [if_pos ⟨by rw [List.length_cons,l3],e0⟩] at q0 q1
  unfold zfv
  simp_all only [zfj,zfe,zac]
  refine ⟨_,SqL.of h1,fun p2 hp2=>?_⟩
  rw [show zma ((w0::wr).map V.str) (some 1) none=wr.map V.str from zpy _ 1]
  have s2:zaJ H2 (L2.upd H2 p2 (.lst (wr.map V.str))):=zah hp2 _
  refine ⟨p2,wr,rfl,SqL.of zad,by omega,fun x hx=>lws x (by simp [hx]),fun hn H3 s3=>?_,fun ns hn D H3 s3 hD hD3=>?_⟩
  ·show ite _ _ _
   rw [if_pos rfl]
   exact q0 (by rw [show (w0::wr).drop 1=wr from rfl,hn];rfl) _ (s1.trans (s2.trans s3))
  ·show ite _ _ _
   rw [if_neg (fun z=>V.noConfusion z)]
   obtain ⟨x,y,l,rfl⟩:=len3 (l:=ns) (by rw [zkM hn,l3])
   have s4:zaJ H H3:=s1.trans (s2.trans s3)
   have ed:(w0::wr).drop 1=wr:=rfl
   have er:(zdv ((w0::wr).drop 1)).bind (zu8 m)=if GR m (x,y,l) then some (x,y,l) else none:=by rw [ed,hn];rfl
   rw [er] at q0 q1
   refine ⟨D,rfl,_,.inl ⟨SqL.of hD3,fun t ht=>⟨t,(x,y,l),m,rfl,zad,_,rfl,?_⟩⟩⟩
   by_cases g:GR m (x,y,l)
   ·rw [decide_eq_true g,if_neg (by decide)]
    rw [if_pos g] at q1
    refine ⟨D,rfl,_,.inl ⟨SqL.of ((zah ht _) _ _ hD3),fun t2 ht2=>?_⟩⟩
    exact q1 _ rfl t2 _ ((s4.add ht).add ht2) ((s4.add ht).free ht2) zad
   ·rw [decide_eq_false g,if_pos rfl]
    rw [if_neg g] at q0
    exact q0 rfl _ (s4.add ht)
theorem zgD:zaK ["row","many","words","numbers"] ["row","many"] (zam zhq):=⟨rfl,rfl,rfl,by decide +kernel,rfl,by decide +kernel,by decide +kernel⟩
theorem zok (T:Txt K mg base a):zc8 P w K mg base CX0 4 a.f_road_in a.d_road_in ["row","many"] zhm:=by
 have G_is_road:=ziB (P:=P) (w:=w) (base:=base) T
 have G_numbers_in:=zgb (P:=P) (w:=w) (base:=base) T
 refine T.F_road_in.ok zgD (fun vs H Q E h=>?_) (fun cdv A outer s H vs Q E hr h=>?_)
 ·obtain ⟨row,m,rfl,hR,h10,lr,q0,q1⟩:=h
  rfl
 obtain ⟨row,m,rfl,hR,h10,lr,q0,q1⟩:=h
 exact ⟨zhQ K,(zaf (zas (i:=2) zgD.nd rfl (Or.inl rfl) (zcw PySem.F.plainAttrs_str PySem.F.slot_str_split PySem.F.type_str_split zdi (pv 0) (zaa zay zae)))
 (zaf (zbQ (zb8 (PW.pt (zdJ (zat zeq (zaq zaF rfl T.z_len PySem.boot_len (zaa (pv 2) zae)) zag (zaL _)) (zdg (zat zeq (zbO zaX (pv 2) zag (fun _ _=>rfl)) zay (zaL _))))) (zaj (zaN zco)) zaT))
 (zaf (zas (i:=3) zgD.nd rfl (Or.inl rfl) (zau G_numbers_in (hr.mono (by decide)) rfl T.m_numbers_in T.F_numbers_in.kp T.b_numbers_in .nil za8 (zaa (zbc zcr (pv 2) (zbJ zag) zbH) zae)))
 (zaj (zaN (zdx (PW.pt (zdJ (zat zgV (pv 3) zco (zaL _)) (zdg (zef (zf8 (zau G_is_road (hr.mono (by decide)) rfl T.m_is_road T.F_is_road.kp T.b_is_road .nil za8 (zaa (zby zd3 rfl T.z_tuple zdT (zaa (pv 3) zae)) (zaa (pv 1) zae)))))))) zco (zby zd3 rfl T.z_tuple zdT (zaa (pv 3) zae)))))))),
  zno hR h10 lr q0 q1⟩
theorem ziA:zaK ["self","row"] ["self","row"] (zam zcM):=⟨rfl,rfl,rfl,by decide +kernel,rfl,by decide +kernel,by decide +kernel⟩
theorem zdR (T:Txt K mg base a):zc8 P w K mg base CX0 1 a.i_NoText a.j_NoText ["self","row"] (zkS a.c_NoText "row"):=by
 refine T.I_NoText.ok ziA (fun vs H Q E h=>?_) (fun cdv A outer s H vs Q E hr h=>?_)
 ·obtain ⟨y,v,rfl,hy,q⟩:=h
  rfl
 obtain ⟨y,v,rfl,hy,q⟩:=h
 exact ⟨_,(zaf (zcq (zfu rfl T.m_HideError T.B (zaa (pv 0) (zaa (pv 1) zae)))) (zaj (zlG (pv 0) (pv 1) rfl))),zlc T.X_NoText T.xa_NoText.na hy q⟩
theorem zho (T:Txt K mg base a):zrV P w K mg base 1 a.i_NoText a.j_NoText ["self","row"] (zkS a.c_NoText "row"):=by
 refine T.I_NoText.okH ziA (fun vs H Q E h=>?_) (fun cdv A outer s H vs Q E h=>?_)
 ·obtain ⟨y,v,rfl,hy,q⟩:=h
  rfl
 obtain ⟨y,v,rfl,hy,q⟩:=h
 exact ⟨_,(zaf (zcq (zfu rfl T.m_HideError T.B (zaa (pv 0) (zaa (pv 1) zae)))) (zaj (zlG (pv 0) (pv 1) rfl))),zlc T.X_NoText T.xa_NoText.na hy q⟩
def RdS (s:Rdd) (H:Hp) (xs:List V):Prop:=match s with
 | none=>xs=[]
 | some (m,rs)=>∃ ts:List Addr,xs=V.int m::ts.map V.ref∧Tps rdv H ts rs
theorem RdS.keep {s:Rdd} {H H':Hp} {xs:List V} (h:RdS s H xs) (k:∀ b ys,H b=some (.tup ys)→H' b=some (.tup ys)):RdS s H' xs:=by
 match s,h with
 | none,h=>exact h
 | some (m,rs),⟨ts,e,T⟩=>exact ⟨ts,e,T.1,fun i x r e1 e2=>k _ _ (T.2 i x r e1 e2)⟩
def ziD (a:Ad):Sp:=fun vs H Q E=>∃ (text:Str) (q:Addr),vs=[.str text,.ref q]∧ztn zu2 zgz H q∧Rn 640 text∧text.length≤80000 ∧
 (∀ m rs D ts H',zed (Txt.split text (Str.ofString "\n"))=.inr (some (m,rs))→zaJ H H'→H D=none→H' D=some (.lst (V.int m::ts.map V.ref))→Tps rdv H' ts rs→rs.length+2=(Txt.split text (Str.ofString "\n")).length→Q (.ref D) H') ∧
 ∀ (k:Nat) dx H',zed (Txt.split text (Str.ofString "\n"))=.inl k→zaJ H H'→H dx=none→H' dx=some (.xd [("row",.int k)])→E (.ref a.c_NoText) (some dx) H'
def zdZ (K:PySem.W.Frag) (a:Ad) (E:XK):TS :=
 (zcn (tOr (zgX (ztu K (zac 3))) (zav (tOp rNe (tOp (zcO K) (zac 2) (tUn (rU fun i=>.int (-i)) (tC (.int 1)))) (tC (.str ""))))) (zcb a.c_NoText "row" E (zab (tCB (fun xs H Q=>∃ p ys,xs=[.ref p]∧(SqL K H p ys∨SqT K H p ys)∧Q (.int ys.length) H) (zab (zac 3) zak)) zak)) zaZ)
theorem zcy (K:PySem.W.Frag) (a:Ad) (E:XK) (D:zce) (σ:St) (H:Hp):zdZ K a E D σ H=(zcn (tOr (zgX (ztu K (zac 3))) (zav (tOp rNe (tOp (zcO K) (zac 2) (tUn (rU fun i=>.int (-i)) (tC (.int 1)))) (tC (.str ""))))) (zcb a.c_NoText "row" E (zab (tCB (fun xs H Q=>∃ p ys,xs=[.ref p]∧(SqL K H p ys∨SqT K H p ys)∧Q (.int ys.length) H) (zab (zac 3) zak)) zak)) zaZ) D σ H:=rfl
def zdj (a:Ad) (E:XK):TS :=
 (zcn (zav (tOp (fun x y H Q=>y=.non∧Q (.bl (decide (x=.non))) H) (zac 6) (tC .non))) (zcb a.c_NoText "row" E (zab (zac 4) zak)) zaZ)
theorem zcx (a:Ad) (E:XK) (D:zce) (σ:St) (H:Hp):zdj a E D σ H=(zcn (zav (tOp (fun x y H Q=>y=.non∧Q (.bl (decide (x=.non))) H) (zac 6) (tC .non))) (zcb a.c_NoText "row" E (zab (zac 4) zak)) zaZ) D σ H:=rfl
def zec (K:PySem.W.Frag) (a:Ad) (E:XK):TS :=
 (zaz (zaU (zmE zu2 zgz 1 (tIf (ztu K (zac 1)) (zaH zhm [] E0 (zab (zac 0) (zab (tOp (zcO K) (zac 1) (tC (.int 0))) zak))) (zaH zmu [] E0 (zab (zac 0) zak))) (zab (zac 5) (zab (zac 3) zak))) (zai 6))
 (zaz (zeh (zdj a E))
 (zc7 (tBM K "list" zbw (zac 3) (zab (zac 6) zak)))))
theorem zb6 (K:PySem.W.Frag) (a:Ad) (E:XK) (D:zce) (σ:St) (H:Hp):zec K a E D σ H=(zaz (zaU (zmE zu2 zgz 1 (tIf (ztu K (zac 1)) (zaH zhm [] E0 (zab (zac 0) (zab (tOp (zcO K) (zac 1) (tC (.int 0))) zak))) (zaH zmu [] E0 (zab (zac 0) zak))) (zab (zac 5) (zab (zac 3) zak))) (zai 6))
 (zaz (zeh (zdj a E))
 (zc7 (tBM K "list" zbw (zac 3) (zab (zac 6) zak))))) D σ H:=rfl
def zfK (K:PySem.W.Frag) (a:Ad) (E:XK):TS :=
 (zaz (zaU (tBM K "str" zdD (zac 0) (zab (tC (.str "\n")) zak)) (zai 2))
 (zaz (zaU (zdq zak) (zai 3))
 (zaz (zfV (zmZ K (zab (tSl (zhk K) (zac 2) za2 (zcc (tUn (rU fun i=>.int (-i)) (tC (.int 1))))) zak)) (ziy K 2 (zbL (zai 4) (zbL (zai 5) zix)))
 (zec K a E))
 (zaz (zeh (zdZ K a E))
 (zb9 (zac 3))))))
theorem zqt {xs:List V} {v:V} {n:Nat} (l:xs.length=n+1) (h:xs[n]?=some v):atI xs (-1)=some v:=by
 have e:xs=xs.dropLast++[v]:=by
  have ne:xs≠[]:=fun z=>by rw [z] at l;cases l
  have:=List.dropLast_concat_getLast ne
  rw [List.getLast_eq_getElem] at this
  have hv:xs[xs.length - 1]'(by omega)=v:=by
   have h2:xs[xs.length - 1]?=some v:=by rw [l];exact h
   exact (List.getElem?_eq_some_iff.mp h2).2
  rw [hv] at this
  exact this.symm
 rw [e]
 exact zsf _ _
theorem zjj (xs:List V):zma xs none (some (-1))=xs.dropLast:=by
 unfold zma
 show List.take (HT.sIx xs.length xs.length (some (-1)) - 0) (List.drop 0 xs)=_
 rw [List.drop_zero,Nat.sub_zero,List.dropLast_eq_take]
 have:HT.sIx xs.length xs.length (some (-1))=xs.length - 1:=by
  show (if (-1:Int)<0 then ((-1:Int)+(xs.length:Int)).toNat else min (-1:Int).toNat xs.length)=_
  rw [if_pos (by decide)]
  omega
 rw [this]
theorem zty {R:VK} {s:Rdd} {r:Str} {xs:List V} {rd:Addr} (hx:H rd=some (.lst xs)) (sx:RdS s H xs) (k1:Rn 640 r) (k2:10∉sgn r) (k3:r.length≤90000)
  (hR:∀ v H3,zaJ H H3→(zdI s r=none→v=.non)→(∀ s',zdI s r=some s'→v≠.non∧s'≠none∧RdS s' H3 (xs++[v]))→R v H3) :
  ∃ k,zu3 K (.ref rd) H k∧if k=true then ∃ x,SqL K H rd x∧∃ x_1,atI x 0=some x_1∧zhm [.str r,x_1] H R E0 else zmu [.str r] H R E0:=by
 match s,sx with
 | none,sx =>
  have sx:xs=[]:=sx
  subst sx
  refine ⟨_,.inl ⟨[],SqL.of hx,rfl⟩,?_⟩
  rw [if_neg (show ¬ (![].isEmpty)=true from fun z=>Bool.noConfusion z)]
  refine ⟨r,rfl,k1,k2,k3,fun H3 s3=>hR _ H3 s3 (fun h=>?_) (fun s' h=>?_)⟩
  ·cases hm:zgo r with
   | none=>rfl
   | some m =>
    have h:(zgo r).map (fun m=>some (m,([]:List zcd)))=none:=h
    rw [hm] at h
    cases h
  ·have h:(zgo r).map (fun m=>some (m,([]:List zcd)))=some s':=h
   cases hm:zgo r with
   | none=>rw [hm] at h;cases h
   | some m =>
    rw [hm] at h
    cases h
    exact ⟨fun z=>V.noConfusion z,(fun z=>by cases z),[],rfl,.nil⟩
 | some (m,rs),⟨ts,e,T⟩ =>
  subst e
  refine ⟨_,.inl ⟨_,SqL.of hx,rfl⟩,?_⟩
  rw [if_pos (show (!(V.int m::ts.map V.ref).isEmpty)=true from rfl)]
  refine ⟨_,SqL.of hx,.int m,zaV (j:=0) rfl,r,m,rfl,k1,k2,k3,fun hn H3 s3=>hR _ H3 s3 (fun _=>rfl) (fun s' h=>?_),fun r' hr' t H3 s3 ht ht3=>hR _ H3 s3 (fun h=>?_) (fun s' h=>?_)⟩
  ·have h:(zgd m r).map (fun r=>some (m,rs++[r]))=some s':=h
   rw [hn] at h
   cases h
  ·have h:(zgd m r).map (fun r=>some (m,rs++[r]))=none:=h
   rw [hr'] at h
   cases h
  ·have h:(zgd m r).map (fun r=>some (m,rs++[r]))=some s':=h
   rw [hr'] at h
   cases h
   exact ⟨fun z=>V.noConfusion z,(fun z=>by cases z),ts++[t],by rw [List.map_append];rfl,T.put (fun x u e=>s3 _ _ e) ht3⟩
theorem zke {E:XK} {text:Str} {q:Addr} (L:ztn zu2 zgz H q) (hr:Rn 640 text) (lt:text.length≤80000)
  (q1:∀ m rs D ts H',zed (Txt.split text (Str.ofString "\n"))=.inr (some (m,rs))→zaJ H H'→H D=none→H' D=some (.lst (V.int m::ts.map V.ref))→Tps rdv H' ts rs→rs.length+2=(Txt.split text (Str.ofString "\n")).length→Q (.ref D) H')
  (q2:∀ (k:Nat) dx H',zed (Txt.split text (Str.ofString "\n"))=.inl k→zaJ H H'→H dx=none→H' dx=some (.xd [("row",.int k)])→E (.ref a.c_NoText) (some dx) H'):zfK K a E { nx:=fun _ H'=>Q .non H',rt:=Q } (L2.zbA ["text","read_row","rows","read","k","row","thing"] [.str text,.ref q]) H:=by
 unfold zfK
 simp_all only [zac]
 refine ⟨rfl,by decide +kernel,by omega,fun p hp=>⟨by decide,fun rd hrd=>?_⟩⟩
 generalize eR:Txt.split text (Str.ofString "\n")=rows at *
 have rne:rows≠[]:=by rw [← eR];exact zck _ _
 have rln:rows.length≤80001:=by
  rw [← eR,zcG]
  have:=split_len text 10
  omega
 have rok:∀ r∈rows,Rn 640 r∧10∉sgn r∧r.length≤90000:=fun r h=>by
  rw [← eR,zcG] at h
  exact ⟨zdz hr r h,StrLaws.split_free text 10 r h,Nat.le_trans (zdk text 10 r h) (by omega)⟩
 have npr:p≠rd:=fun z=>by rw [z,zad] at hrd;cases hrd
 refine ⟨_,SqL.of (by rw [zal npr];exact zad),fun sl hsl=>⟨⟨_,SqL.of zad⟩,?_⟩⟩
 rw [zjj]
 have nsr:sl≠rd:=fun z=>by rw [z,zad] at hsl;cases hsl
 have nsp:sl≠p:=fun z=>by rw [z,zal npr,zad] at hsl;cases hsl
 generalize eH:L2.upd (L2.upd (L2.upd H p (.lst (rows.map V.str))) rd (.lst [])) sl (.lst (rows.map V.str).dropLast)=H0
 have s0:zaJ H H0:=by rw [← eH];exact ((zah hp _).add hrd).add hsl
 have h0p:H0 p=some (.lst (rows.map V.str)):=by rw [← eH,zal nsp.symm,zal npr,zad]
 have h0s:H0 sl=some (.lst (rows.map V.str).dropLast):=by rw [← eH,zad]
 have h0r:H0 rd=some (.lst []):=by rw [← eH,zal nsr.symm,zad]
 have hHr:H rd=none:=(zah hp _).free hrd
 have ld:(rows.map V.str).dropLast.length=rows.length - 1:=by rw [List.length_dropLast,List.length_map]
 have edl:(rows.map V.str).dropLast=rows.dropLast.map V.str:=List.map_dropLast.symm
 refine zhs (xs:=(rows.map V.str).dropLast) (fun i σ H'=>Bar rd H0 H'∧i≤rows.length - 1∧(∃ (s:Rdd) (xs:List V),H' rd=some (.lst xs)∧xs.length=i∧RdS s H' xs∧(i≠0→s≠none)∧zg7 none 0 rows.dropLast=zg7 s i (rows.dropLast.drop i))∧∃ x4 x5 x6,σ=[some (.str text),some (.ref q),some (.ref p),some (.ref rd),x4,x5,x6]) ⟨fun _ _ _ e=>e,Nat.zero_le _,⟨none,[],h0r,rfl,rfl,fun z=>absurd rfl z,rfl⟩,_,_,_,rfl⟩ ?_ ?_ ?_
 ·rintro i σ H' _ ⟨b,_⟩
  exact SqL.of (b _ _ nsr h0s)
 ·rintro i x t σ H' e ⟨b,hi,⟨s,xs,hx,lx,sx,sn,run⟩,x4,x5,x6,rfl⟩ ht
  rw [edl] at e
  obtain ⟨r,er,rfl⟩:=zep e
  have li:=(List.getElem?_eq_some_iff.mp e).1
  rw [List.length_map,List.length_dropLast] at li
  obtain ⟨k1,k2,k3⟩:=rok r (List.dropLast_subset _ (zcQ er))
  unfold zec
  simp_all only [zb6,zac]
  have ntr:t≠rd:=fun z=>by rw [z,hx] at ht;cases ht
  have sH':zaJ H H':=fun b' o e=>b _ _ (zar e hHr) (s0 _ _ e)
  have s1:zaJ H' (L2.upd H' t (.tup [.int i,.str r])):=zah ht _
  have h1t:L2.upd H' t (.tup [.int i,.str r]) t=some (.tup [.int i,.str r]):=zad
  generalize L2.upd H' t (.tup [.int i,.str r])=H1 at s1 h1t
  have hx1:=s1 _ _ hx
  refine ⟨_,SqT.of h1t,rfl,_,_,rfl,_,_,rfl,rfl,L.same (sH'.trans s1),?_⟩
  refine zty hx1 (sx.keep fun b ys e=>s1 _ _ e) k1 k2 k3 fun v H3 s3 en es=>?_
  have s4:zaJ H' H3:=s1.trans s3
  refine ⟨fun σ H4=>H4=H3∧v≠.non∧σ=[some (.str text),some (.ref q),some (.ref p),some (.ref rd),some (.int i),some (.str r),some v],?_,?_⟩
  ·unfold zdj
   simp_all only [zcy,zcx,zb6,zac]
   by_cases hv:v=.non
   ·rw [if_pos hv]
    intro dx hdx
    refine q2 i dx _ ?_ ((sH'.trans s4).add hdx) ((sH'.trans s4).free hdx) zad
    have en:zdI s r=none:=by
     cases h:zdI s r with
     | none=>rfl
     | some t=>exact absurd hv (es t h).1
    exact zmN (run.trans (zrd er en))
   ·rw [if_neg hv]
    exact hv
  ·rintro σ H4 ⟨rfl,hv,rfl⟩
   simp_all only [zcy,zcx,zb6,zac]
   have hx4:H4 rd=some (.lst xs):=s4 _ _ hx
   obtain ⟨s',hs'⟩:∃ s',zdI s r=some s':=by
    cases h:zdI s r with
    | none=>exact absurd (en h) hv
    | some s'=>exact ⟨s',rfl⟩
   have bb:Bar rd H0 (L2.upd H4 rd (.lst (xs++[v]))):=fun b' o n e=>by
    rw [zal n]
    exact s4 _ _ (b b' o n e)
   refine ⟨.inl ⟨rfl,xs,SqL.of hx4⟩,xs,hx4,zda (by omega),bb,by omega,s',xs++[v],zad,by rw [List.length_append,lx];rfl,(es s' hs').2.2.keep fun b' ys e'=>?_,fun _=>(es s' hs').2.1,run.trans (zto er hs')⟩
   rw [zal fun z=>by rw [z,hx4] at e';cases e']
   exact e'
 ·rintro σ H' ⟨b,_,⟨s,xs,hx,lx,sx,sn,run⟩,x4,x5,x6,rfl⟩
  rw [ld] at lx sn run
  have sH':zaJ H H':=fun b' o e=>b _ _ (zar e hHr) (s0 _ _ e)
  rw [zr9 (by rw [List.length_dropLast];exact Nat.le_refl _)] at run
  have eo:=zq1 run
  obtain ⟨r0,hr0⟩:∃ r0,rows[rows.length - 1]?=some r0:=⟨_,List.getElem?_eq_getElem (by have:=List.length_pos_iff.mpr rne;omega)⟩
  have hl0:rows.getLastD ""=r0:=by
   rw [List.getLastD_eq_getLast?,List.getLast?_eq_getElem?,hr0]
   rfl
  have hat:atI (rows.map V.str) (-1)=some (.str r0):=zqt (n:=rows.length - 1) (by rw [List.length_map];have:=List.length_pos_iff.mpr rne;omega) (by rw [List.getElem?_map,hr0];rfl)
  have hdl:rows.dropLast=[]↔rows.length - 1=0:=by rw [← List.length_eq_zero_iff,List.length_dropLast]
  refine ⟨fun σ H4=>H4=H'∧rows.length - 1≠0∧r0=Str.ofString ""∧σ=[some (.str text),some (.ref q),some (.ref p),some (.ref rd),x4,x5,x6],?_,?_⟩
  ·unfold zdZ
   simp_all only [zcy,zcx,zb6,zac]
   have bad:zed rows=.inl (rows.length - 1)→∃ x,(SqL K H' rd x∨SqT K H' rd x)∧∀ dx,H' dx=none→E (.ref a.c_NoText) (some dx) (L2.upd H' dx (.xd [(Str.ofString "row",.int x.length)])):=fun e=>⟨_,.inl (SqL.of hx),fun dx hdx=>q2 _ dx _ (by rw [e,lx]) (sH'.add hdx) (sH'.free hdx) zad⟩
   refine ⟨_,.inl ⟨xs,SqL.of hx,rfl⟩,?_⟩
   cases hxs:xs with
   | nil =>
    rw [hxs] at lx
    rw [if_pos (show (!([]:List V).isEmpty)=false from rfl)]
    exact bad (eo.trans (if_pos (.inl (hdl.mpr lx.symm))))
   | cons x0 xt =>
    rw [if_neg (show ¬ (!(x0::xt).isEmpty)=false from fun z=>Bool.noConfusion z)]
    have l0:rows.length - 1≠0:=by rw [← lx,hxs,List.length_cons];omega
    refine ⟨_,SqL.of (b _ _ npr h0p),_,hat,rfl,?_⟩
    by_cases he:r0=Str.ofString ""
    ·rw [if_neg (fun z=>z (by rw [he]))]
     exact ⟨l0,he⟩
    ·rw [if_pos (fun z=>he (V.str.inj z))]
     exact bad (eo.trans (if_pos (.inr (by rw [hl0];exact he))))
  ·rintro σ H4 ⟨rfl,hz,he,rfl⟩
   simp_all only [zcy,zcx,zb6,zac]
   match s,sx,eo,sn hz with
   | none,_,_,z=>exact absurd rfl z
   | some (m,rs),⟨ts,e,T⟩,eo,_ =>
    rw [e,List.length_cons,List.length_map,T.1] at lx
    refine q1 m rs rd ts _ (eo.trans (if_neg ?_)) sH' hHr (by rw [← e];exact hx) T (by omega)
    rw [hdl,hl0]
    rintro (z | z)
    ·exact hz z
    ·exact z he
theorem zbd:zaK ["text","read_row","rows","read","k","row","thing"] ["text","read_row"] (zam zfs):=⟨rfl,rfl,rfl,by decide +kernel,rfl,by decide +kernel,by decide +kernel⟩
theorem zj0 (T:Txt K mg base a):zc8 P w K mg base (CXV P w) 6 a.f_read_rows a.d_read_rows ["text","read_row"] (ziD a):=by
 have G_many_in:=zn0 (P:=P) (w:=w) (base:=base) T
 have G_road_in:=zok (P:=P) (w:=w) (base:=base) T
 have G__NoText:=zdR (P:=P) (w:=w) (base:=base) T
 refine T.F_read_rows.okV zbd (fun vs H Q E h=>?_) (fun cdv A outer s H vs Q E hr h=>?_)
 ·obtain ⟨text,q,rfl,L,hR,lt,q1,q2⟩:=h
  rfl
 obtain ⟨text,q,rfl,L,hR,lt,q1,q2⟩:=h
 exact ⟨zfK K a E,(zaf (zas (i:=2) zbd.nd rfl (Or.inl rfl) (zcw PySem.F.plainAttrs_str PySem.F.slot_str_split PySem.F.type_str_split zdi (pv 0) (zaa zay zae)))
 (zaf (zas (i:=3) zbd.nd rfl (Or.inl rfl) (zbN zae))
 (zaf (zc6 PassesOwn.leaving rfl (zlz rfl T.z_enumerate (zaa (zbc zcr (pv 2) zbH (zbJ (zjz zgc zag))) zae)) (zdV rfl (zaO (zaG (i:=4) zbd.nd rfl (Or.inl rfl)) (zaO (zaG (i:=5) zbd.nd rfl (Or.inl rfl)) zcX)))
 (zaf (zas (i:=6) zbd.nd rfl (Or.inl rfl) (zre (i:=1) (k:=4) rfl (Or.inl rfl) (hr.mono (by decide)) (zaa (pv 5) (zaa (pv 3) zae)) (fun _ _ _ _ _ _=>rfl) (by decide) rfl rfl rfl rfl rfl (by decide +kernel) (by decide +kernel) (fun _ _ _ _ _ _ hr=>(zdx (zjm (pv 1) (fun _=>rfl)) (zau G_road_in (hr.mono (by decide)) rfl T.m_road_in T.F_road_in.kp T.b_road_in .nil za8 (zaa (pv 0) (zaa (zbO zaX (pv 1) zag (fun _ _=>rfl)) zae))) (zau G_many_in (hr.mono (by decide)) rfl T.m_many_in T.F_many_in.kp T.b_many_in .nil za8 (zaa (pv 0) zae))))))
 (zaf (zbQ (zb8 (zat zgV (pv 6) zco (zaL _)) (zaj (zc4 T.X_NoText G__NoText (hr.mono (by decide)) rfl T.m_NoText T.bi_NoText za8 rfl zgw (zaa (pv 4) zae))) zaT))
 (zaj (zcq (zcw PySem.F.plainAttrs_list PySem.F.slot_list_append PySem.F.type_list_append zcN (pv 3) (zaa (pv 6) zae)))))))
 (zaf (zbQ (zb8 (PW.pt (zdJ (zef (zjm (pv 3) (fun _=>rfl))) (zdg (zat zeq (zbO zaX (pv 2) (zjz zgc zag) (fun _ _=>rfl)) zay (zaL _))))) (zaj (zc4 T.X_NoText G__NoText (hr.mono (by decide)) rfl T.m_NoText T.bi_NoText za8 rfl zgw (zaa (zaq zaF rfl T.z_len PySem.boot_len (zaa (pv 3) zae)) zae))) zaT))
 (zaj (zaN (pv 3))))))),
  zke L hR lt q1 q2⟩
def zhZ (a:Ad):Sp:=fun vs H Q E=>∃ text:Str,vs=[.str text]∧LT H a.p_lam∧Rn 640 text∧text.length≤80000 ∧
 (∀ m rs w rl ts H',zjK (Txt.split text (Str.ofString "\n"))=.inr (m,rs)→Bar a.p_lam H H'→LT H' a.p_lam→H w=none→H rl=none→zjJ H' w rl ts m rs→Q (.ref w) H') ∧
 ∀ (k:Nat) dx H',zjK (Txt.split text (Str.ofString "\n"))=.inl k→Bar a.p_lam H H'→LT H' a.p_lam→H dx=none→H' dx=some (.xd [("row",.int k)])→E (.ref a.c_NoText) (some dx) H'
def zgP (K:PySem.W.Frag) (a:Ad) (E:XK):TS :=
 (zaz (zaU (zp3 a.p_lam zu2 zsz zgz (ziD a) E (zac 0)) (zai 1))
 (zaz (zaU (zib (zab (tOp (zcO K) (zac 1) (tC (.int 0))) (zab (tSl (zhk K) (zac 1) (zcc (tC (.int 1))) za2) zak))) (zai 2))
 (zaz (zuH K (fun E'=>(zc7 (zo1 (zgM a) [] E' (zab (zac 2) zak)))) (.ref a.c_NoWeb) a.c_NoText "row" E (zab (tCB (fun xs H Q=>∃ p ys,xs=[.ref p]∧(SqL K H p ys∨SqT K H p ys)∧Q (.int ys.length) H) (zab (zac 1) zak)) zak))
 (zb9 (zac 2)))))
theorem zjk {rows:List Str} {k:Nat} (h:zed rows=.inl k):zjK rows=.inl k:=by
 unfold zjK
 rw [h]
theorem zpS {rows:List Str} {m:Int} {rs:List zcd} (h:zed rows=.inr (some (m,rs))) (g:zru m rs):zjK rows=.inr (m,rs):=by
 unfold zjK
 rw [h]
 exact if_pos g
theorem zlN {rows:List Str} {m:Int} {rs:List zcd} (h:zed rows=.inr (some (m,rs))) (g:¬ zru m rs):zjK rows=.inl (rows.length - 1):=by
 unfold zjK
 rw [h]
 exact if_neg g
theorem zlt {E:XK} {text:Str} (su:PySem.W.subIn K (.ref a.c_NoWeb) (.ref a.c_NoWeb)=some true) (hP:LT H a.p_lam) (hr:Rn 640 text) (lt:text.length≤80000)
  (q1:∀ m rs w rl ts H',zjK (Txt.split text (Str.ofString "\n"))=.inr (m,rs)→Bar a.p_lam H H'→LT H' a.p_lam→H w=none→H rl=none→zjJ H' w rl ts m rs→Q (.ref w) H')
  (q2:∀ (k:Nat) dx H',zjK (Txt.split text (Str.ofString "\n"))=.inl k→Bar a.p_lam H H'→LT H' a.p_lam→H dx=none→H' dx=some (.xd [("row",.int k)])→E (.ref a.c_NoText) (some dx) H'):zgP K a E { nx:=fun _ H'=>Q .non H',rt:=Q } (L2.zbA ["text","read","web"] [.str text]) H:=by
 unfold zgP
 simp_all only [zac]
 refine ⟨hP,fun qf H3 hb hl3 hq L=>?_⟩
 obtain ⟨ps3,hp3⟩:=hl3.tbl
 have new3:∀ b,H3 b=none→H b=none:=fun b e=>by
  have nP:b≠a.p_lam:=fun z=>by rw [z,hp3] at e;cases e
  cases h:H b with
  | none=>rfl
  | some o=>rw [hb b o nP h] at e;cases e
 have bar:∀ H',zaJ H3 H'→Bar a.p_lam H H':=fun H' s b o n e=>s _ _ (hb b o n e)
 have l80:(Txt.split text (Str.ofString "\n")).length≤80001:=by
  rw [zcG]
  have:=split_len text 10
  omega
 refine ⟨text,qf,rfl,L,hr,lt,fun m rs D ts H4 eo s4 hD hD4 T lrs=>?_,fun k dx H4 eo s4 hdx h4=>q2 k dx H4 (zjk eo) (bar H4 s4) (hl3.same s4) (new3 dx hdx) h4⟩
 refine ⟨D,rfl,_,SqL.of hD4,.int m,zaV (j:=0) rfl,D,rfl,_,SqL.of hD4,fun rl hrl=>⟨by decide,fun w hw=>?_⟩⟩
 rw [show zma (V.int m::ts.map V.ref) (some 1) none=ts.map V.ref from zpy _ 1] at hw ⊢
 have nw:rl≠w:=fun z=>by rw [← z,zad] at hw;cases hw
 have s5:zaJ H4 (L2.upd (L2.upd H4 rl (.lst (ts.map V.ref))) w (.tup [.int m,.ref rl])):=(zah hrl _).add hw
 have W:zjJ (L2.upd (L2.upd H4 rl (.lst (ts.map V.ref))) w (.tup [.int m,.ref rl])) w rl ts m rs:=⟨zad,by rw [zal nw,zad],T.same s5⟩
 have nwH:H4 w=none:=by rw [zal nw.symm] at hw;exact hw
 generalize L2.upd (L2.upd H4 rl (.lst (ts.map V.ref))) w (.tup [.int m,.ref rl])=H5 at s5 W
 refine ⟨w,rl,ts,m,rs,rfl,W,by omega,fun g H6 s6=>?_,fun d hd dx H6 s6 hdx=>⟨su,?_⟩⟩
 ·exact q1 m rs w rl ts H6 (zpS eo g) (bar H6 (s4.trans (s5.trans s6))) (hl3.same (s4.trans (s5.trans s6))) (new3 w (s4.free nwH)) (new3 rl (s4.free hrl)) (W.same s6)
 ·have s7:=(s4.trans (s5.trans s6)).add hdx (o:=HO.xd [("road",V.int d)])
  have hD7:=((s5.trans s6).add hdx (o:=HO.xd [("road",V.int d)])) _ _ hD4
  generalize L2.upd H6 dx (HO.xd [("road",V.int d)])=H7 at s7 hD7
  have e7:(V.int m::ts.map V.ref).length=(Txt.split text (Str.ofString "\n")).length - 1:=by rw [List.length_cons,List.length_map,T.1];omega
  have fin:∀ dx2,H7 dx2=none→E (.ref a.c_NoText) (some dx2) (L2.upd H7 dx2 (HO.xd [(Str.ofString "row",V.int (V.int m::ts.map V.ref).length)])):=fun dx2 hdx2=>q2 _ dx2 _ (zlN eo fun g=>hd.not g) (bar _ (s7.add hdx2)) (hl3.same (s7.add hdx2)) (new3 dx2 (s7.free hdx2)) (by rw [zad,e7])
  first | exact ⟨_,.inl (SqL.of hD7),fin⟩ | exact ⟨D,rfl,_,.inl (SqL.of hD7),fin⟩ | exact ⟨_,rfl,D,rfl,_,.inl (SqL.of hD7),_,rfl,fin⟩
theorem zfI:zaK ["text","read","web"] ["text"] (zam ze9):=⟨rfl,rfl,rfl,by decide +kernel,rfl,by decide +kernel,by decide +kernel⟩
theorem zlg (T:Txt K mg base a):zc8 P w K mg base (CXV P w) 7 a.f_read_web a.d_read_web ["text"] (zhZ a):=by
 have G_look_web:=zhR (P:=P) (w:=w) (base:=base) T
 have G_read_rows:=zj0 (P:=P) (w:=w) (base:=base) T
 have GH_NoText:=zho (P:=P) (w:=w) (base:=base) T
 refine T.F_read_web.okV zfI (fun vs H Q E h=>?_) (fun A outer s H vs Q E hr h=>?_)
 ·obtain ⟨text,rfl,hP,hR,lt,q1,q2⟩:=h
  rfl
 obtain ⟨text,rfl,hP,hR,lt,q1,q2⟩:=h
 exact ⟨zgP K a E,(zaf (zas (i:=1) zfI.nd rfl (Or.inl rfl) (zry G_read_rows (hr.mono (by decide)) rfl T.m_read_rows T.F_read_rows.kp T.b_read_rows zw5 (pv 0) rfl T.hC T.hB rfl rfl rfl rfl))
 (zaf (zas (i:=2) zfI.nd rfl (Or.inl rfl) (zeX (zaa (zbO zaX (pv 1) zag (fun _ _=>rfl)) (zaa (zbc zcr (pv 1) (zbJ zag) zbH) zae))))
 (zaf (zr8 T.m_NoWeb T.X_NoWeb rfl T.X_NoText GH_NoText (hr.mono (by decide)) rfl T.m_NoText T.bi_NoText ztz rfl rfl rfl (fun _=>PassesOwnAt.leaving) (fun pins E'=>(zaj (zcq (zrc G_look_web (hr.mono (by decide)) rfl T.m_look_web T.F_look_web.kp T.b_look_web .nil zvE (zaa (pv 2) zae)))))
 (fun ea=>(zaa (zaq zaF rfl T.z_len PySem.boot_len (zaa (pv 1) zae)) zae)))
 (zaj (zaN (pv 2)))))),
  zlt T.su_NoWeb hP hR lt q1 q2⟩
def zhV (a:Ad):Sp:=fun vs H Q E=>∃ (text:Str) (q c:Addr) (sp:Bool),vs=[.str text,.ref q]∧zut znG ze6 "kind" H q c (.str (kdS sp))∧Rn 640 text∧text.length≤80000 ∧
 (∀ ts v H',zgn sp (Txt.split text "\n")=.inr ts→zaJ H H'→Sh (NwH H H') (.lst ts) v→Q v H') ∧
 ∀ (k:Nat) dx H',zgn sp (Txt.split text "\n")=.inl k→zaJ H H'→H dx=none→H' dx=some (.xd [("row",.int k)])→E (.ref a.c_NoText) (some dx) H'
def zfk (K:PySem.W.Frag) (a:Ad) (E:XK):TS :=
 (zcn (tOr (zgX (ztu K (zac 3))) (zav (tOp rNe (tOp (zcO K) (zac 2) (tUn (rU fun i=>.int (-i)) (tC (.int 1)))) (tC (.str ""))))) (zcb a.c_NoText "row" E (zab (tCB (fun xs H Q=>∃ p ys,xs=[.ref p]∧(SqL K H p ys∨SqT K H p ys)∧Q (.int ys.length) H) (zab (zac 3) zak)) zak)) zaZ)
theorem zbD (K:PySem.W.Frag) (a:Ad) (E:XK) (D:zce) (σ:St) (H:Hp):zfk K a E D σ H=(zcn (tOr (zgX (ztu K (zac 3))) (zav (tOp rNe (tOp (zcO K) (zac 2) (tUn (rU fun i=>.int (-i)) (tC (.int 1)))) (tC (.str ""))))) (zcb a.c_NoText "row" E (zab (tCB (fun xs H Q=>∃ p ys,xs=[.ref p]∧(SqL K H p ys∨SqT K H p ys)∧Q (.int ys.length) H) (zab (zac 3) zak)) zak)) zaZ) D σ H:=rfl
def zc0 (a:Ad) (E:XK):TS :=
 (zcn (zav (tOp (fun x y H Q=>y=.non∧Q (.bl (decide (x=.non))) H) (zac 6) (tC .non))) (zcb a.c_NoText "row" E (zab (zac 4) zak)) zaZ)
theorem zbF (a:Ad) (E:XK) (D:zce) (σ:St) (H:Hp):zc0 a E D σ H=(zcn (zav (tOp (fun x y H Q=>y=.non∧Q (.bl (decide (x=.non))) H) (zac 6) (tC .non))) (zcb a.c_NoText "row" E (zab (zac 4) zak)) zaZ) D σ H:=rfl
def zdE (K:PySem.W.Frag) (a:Ad) (E:XK):TS :=
 (zaz (zaU (zmz znG ze6 "kind" 1 (zaH zl2 [] E0 (zab (zac 0) (zab (zac 2) zak))) (zab (zac 5) (zab (zac 3) zak))) (zai 6))
 (zaz (zeh (zc0 a E))
 (zc7 (tBM K "list" zbw (zac 3) (zab (zac 6) zak)))))
theorem zbG (K:PySem.W.Frag) (a:Ad) (E:XK) (D:zce) (σ:St) (H:Hp):zdE K a E D σ H=(zaz (zaU (zmz znG ze6 "kind" 1 (zaH zl2 [] E0 (zab (zac 0) (zab (zac 2) zak))) (zab (zac 5) (zab (zac 3) zak))) (zai 6))
 (zaz (zeh (zc0 a E))
 (zc7 (tBM K "list" zbw (zac 3) (zab (zac 6) zak))))) D σ H:=rfl
def zeD (K:PySem.W.Frag) (a:Ad) (E:XK):TS :=
 (zaz (zaU (tBM K "str" zdD (zac 0) (zab (tC (.str "\n")) zak)) (zai 2))
 (zaz (zaU (zdq zak) (zai 3))
 (zaz (zfV (zmZ K (zab (tSl (zhk K) (zac 2) za2 (zcc (tUn (rU fun i=>.int (-i)) (tC (.int 1))))) zak)) (ziy K 2 (zbL (zai 4) (zbL (zai 5) zix)))
 (zdE K a E))
 (zaz (zeh (zfk K a E))
 (zb9 (zac 3))))))
theorem zjg {E:XK} {text:Str} {q c:Addr} {sp:Bool} (L:zut znG ze6 "kind" H q c (.str (kdS sp))) (hr:Rn 640 text) (lt:text.length≤80000)
  (q1:∀ ts v H',zgn sp (Txt.split text (Str.ofString "\n"))=.inr ts→zaJ H H'→Sh (NwH H H') (.lst ts) v→Q v H')
  (q2:∀ (k:Nat) dx H',zgn sp (Txt.split text (Str.ofString "\n"))=.inl k→zaJ H H'→H dx=none→H' dx=some (.xd [("row",.int k)])→E (.ref a.c_NoText) (some dx) H'):zeD K a E { nx:=fun _ H'=>Q .non H',rt:=Q } (L2.zbA ["text","read_row","rows","read","k","row","thing"] [.str text,.ref q]) H:=by
 unfold zeD
 simp_all only [zbD,zbF,zbG,zac]
 refine ⟨rfl,by decide +kernel,by omega,fun p hp=>⟨by decide,fun rd hrd=>?_⟩⟩
 generalize eR:Txt.split text (Str.ofString "\n")=rows at *
 have rne:rows≠[]:=by rw [← eR];exact zck _ _
 have rln:rows.length≤80001:=by
  rw [← eR,zcG]
  have:=split_len text 10
  omega
 have rok:∀ r∈rows,Rn 640 r∧10∉sgn r∧r.length≤90000:=fun r h=>by
  rw [← eR,zcG] at h
  exact ⟨zdz hr r h,StrLaws.split_free text 10 r h,Nat.le_trans (zdk text 10 r h) (by omega)⟩
 have npr:p≠rd:=fun z=>by rw [z,zad] at hrd;cases hrd
 refine ⟨_,SqL.of (by rw [zal npr];exact zad),fun sl hsl=>⟨⟨_,SqL.of zad⟩,?_⟩⟩
 rw [zjj]
 have nsr:sl≠rd:=fun z=>by rw [z,zad] at hsl;cases hsl
 have nsp:sl≠p:=fun z=>by rw [z,zal npr,zad] at hsl;cases hsl
 generalize eH:L2.upd (L2.upd (L2.upd H p (.lst (rows.map V.str))) rd (.lst [])) sl (.lst (rows.map V.str).dropLast)=H0
 have s0:zaJ H H0:=by rw [← eH];exact ((zah hp _).add hrd).add hsl
 have h0p:H0 p=some (.lst (rows.map V.str)):=by rw [← eH,zal nsp.symm,zal npr,zad]
 have h0s:H0 sl=some (.lst (rows.map V.str).dropLast):=by rw [← eH,zad]
 have h0r:H0 rd=some (.lst []):=by rw [← eH,zal nsr.symm,zad]
 have hHr:H rd=none:=(zah hp _).free hrd
 have ld:(rows.map V.str).dropLast.length=rows.length - 1:=by rw [List.length_dropLast,List.length_map]
 have edl:(rows.map V.str).dropLast=rows.dropLast.map V.str:=List.map_dropLast.symm
 refine zhs (xs:=(rows.map V.str).dropLast) (fun i σ H'=>Bar rd H0 H'∧i≤rows.length - 1∧(∀ (j:Nat) r,j<i→rows.dropLast[j]?=some r→shO sp r≠none)∧(∃ xs,H' rd=some (.lst xs)∧xs.length=i∧ShL (NwH H0 H') ((rows.dropLast.take i).filterMap (shO sp)) xs)∧∃ x4 x5 x6,σ=[some (.str text),some (.ref q),some (.ref p),some (.ref rd),x4,x5,x6]) ⟨fun _ _ _ e=>e,Nat.zero_le _,fun j r h=>absurd h (Nat.not_lt_zero _),⟨[],h0r,rfl,.nil⟩,_,_,_,rfl⟩ ?_ ?_ ?_
 ·rintro i σ H' _ ⟨b,_⟩
  exact SqL.of (b _ _ nsr h0s)
 ·rintro i x t σ H' e ⟨b,hi,hb,⟨xs,hx,lx,sx⟩,x4,x5,x6,rfl⟩ ht
  rw [edl] at e
  obtain ⟨r,er,rfl⟩:=zep e
  have li:=(List.getElem?_eq_some_iff.mp e).1
  rw [List.length_map,List.length_dropLast] at li
  obtain ⟨k1,k2,k3⟩:=rok r (List.dropLast_subset _ (zcQ er))
  unfold zdE
  simp_all only [zbD,zbF,zbG,zac]
  have ntr:t≠rd:=fun z=>by rw [z,hx] at ht;cases ht
  have sH':zaJ H H':=fun b' o e=>b _ _ (zar e hHr) (s0 _ _ e)
  have sHt:zaJ H (L2.upd H' t (.tup [.int i,.str r])):=sH'.add ht
  refine ⟨_,SqT.of zad,rfl,_,_,rfl,_,_,rfl,rfl,c,_,L.same sHt,sp,r,rfl,k1,k2,k3,fun v H2 s2 h2 hc F hF=>?_⟩
  have s3:zaJ (L2.upd H' t (.tup [.int i,.str r])) (L2.upd H2 c F):=fun b' o e=>by
   by_cases z:b'=c
   ·rw [z] at e ⊢
    rw [zad,← hF,e]
   ·rw [zal z]
    exact s2 _ _ (by rw [zba z];exact e)
  have h3:zmy (shO sp r) (NwH (L2.upd H' t (.tup [.int i,.str r])) (L2.upd H2 c F)) v:=h2.same (zcK fun b' o e1 e2=>by
   have z:b'≠c:=fun z=>by rw [z,hc] at e2;cases e2
   rw [zba z] at e1
   exact ⟨e1,by rw [zal z];exact e2⟩)
  generalize L2.upd H2 c F=H3 at s3 h3
  have s4:zaJ H' H3:=(zah ht _).trans s3
  refine ⟨fun σ H4=>H4=H3∧v≠.non∧σ=[some (.str text),some (.ref q),some (.ref p),some (.ref rd),some (.int i),some (.str r),some v],?_,?_⟩
  ·unfold zc0
   simp_all only [zbD,zbF,zbG,zac]
   by_cases hv:v=.non
   ·rw [if_pos hv]
    intro dx hdx
    refine q2 i dx _ ?_ ((sH'.trans s4).add hdx) ((sH'.trans s4).free hdx) zad
    have en:shO sp r=none:=by
     cases h:shO sp r with
     | none=>rfl
     | some t=>rw [h] at h3;exact absurd hv h3.2
    exact zlj er en hb
   ·rw [if_neg hv]
    exact hv
  ·rintro σ H4 ⟨rfl,hv,rfl⟩
   simp_all only [zbD,zbF,zbG,zac]
   have hx4:H4 rd=some (.lst xs):=s4 _ _ hx
   have bb:Bar rd H0 (L2.upd H4 rd (.lst (xs++[v]))):=fun b' o n e=>by
    rw [zal n]
    exact s4 _ _ (b b' o n e)
   refine ⟨.inl ⟨rfl,xs,SqL.of hx4⟩,xs,hx4,zda (by omega),bb,by omega,fun j r' hj e'=>?_,xs++[v],zad,by rw [List.length_append,lx];rfl,?_⟩
   ·by_cases z:j<i
    ·exact hb j r' z e'
    ·have:j=i:=by omega
     subst this
     rw [er] at e'
     cases e'
     intro z
     rw [z] at h3
     exact hv h3
   ·have nr:∀ b',H0 b'=none→b'≠rd:=fun b' h z=>by rw [z,h0r] at h;cases h
    rw [List.take_add_one,er,List.filterMap_append]
    refine ShL.append (sx.same (zcK fun b' o e1 e2=>⟨e1,by rw [zal (nr b' e1)];exact s4 _ _ e2⟩)) ?_
    cases ho:shO sp r with
    | none=>rw [ho] at h3;exact absurd h3 hv
    | some t' =>
     rw [ho] at h3
     have:List.filterMap (shO sp) (some r).toList=[t']:=by simp [ho]
     rw [this]
     refine .one (h3.1.same (zcK fun b' o e1 e2=>?_))
     have e3:H' b'=none:=(zah ht _).free e1
     have z1:b'≠rd:=fun z=>by rw [z,hx] at e3;cases e3
     refine ⟨?_,by rw [zal z1];exact e2⟩
     cases h0:H0 b' with
     | none=>rfl
     | some o'=>rw [b _ _ z1 h0] at e3;cases e3
 ·rintro σ H' ⟨b,_,hb,⟨xs,hx,lx,sx⟩,x4,x5,x6,rfl⟩
  rw [ld] at hb lx sx
  have sH':zaJ H H':=fun b' o e=>b _ _ (zar e hHr) (s0 _ _ e)
  have hall:∀ (j:Nat) r,rows.dropLast[j]?=some r→shO sp r≠none:=fun j r e=>hb j r (by have:=(List.getElem?_eq_some_iff.mp e).1;rw [List.length_dropLast] at this;exact this) e
  have eo:=zua hall
  obtain ⟨r0,hr0⟩:∃ r0,rows[rows.length - 1]?=some r0:=⟨_,List.getElem?_eq_getElem (by have:=List.length_pos_iff.mpr rne;omega)⟩
  have hl0:rows.getLastD ""=r0:=by
   rw [List.getLastD_eq_getLast?,List.getLast?_eq_getElem?,hr0]
   rfl
  have hat:atI (rows.map V.str) (-1)=some (.str r0):=zqt (n:=rows.length - 1) (by rw [List.length_map];have:=List.length_pos_iff.mpr rne;omega) (by rw [List.getElem?_map,hr0];rfl)
  have hdl:rows.dropLast=[]↔rows.length - 1=0:=by rw [← List.length_eq_zero_iff,List.length_dropLast]
  refine ⟨fun σ H4=>H4=H'∧rows.length - 1≠0∧r0=Str.ofString ""∧σ=[some (.str text),some (.ref q),some (.ref p),some (.ref rd),x4,x5,x6],?_,?_⟩
  ·simp_all only [zbD,zbF,zbG,zac]
   have bad:zgn sp rows=.inl (rows.length - 1)→∃ x,(SqL K H' rd x∨SqT K H' rd x)∧∀ dx,H' dx=none→E (.ref a.c_NoText) (some dx) (L2.upd H' dx (.xd [(Str.ofString "row",.int x.length)])):=fun e=>⟨_,.inl (SqL.of hx),fun dx hdx=>q2 _ dx _ (by rw [e,lx]) (sH'.add hdx) (sH'.free hdx) zad⟩
   refine ⟨_,.inl ⟨xs,SqL.of hx,rfl⟩,?_⟩
   cases hxs:xs with
   | nil =>
    rw [hxs] at lx
    rw [if_pos (show (!([]:List V).isEmpty)=false from rfl)]
    exact bad (eo.trans (if_pos (.inl (hdl.mpr lx.symm))))
   | cons x0 xt =>
    rw [if_neg (show ¬ (!(x0::xt).isEmpty)=false from fun z=>Bool.noConfusion z)]
    have l0:rows.length - 1≠0:=by rw [← lx,hxs,List.length_cons];omega
    refine ⟨_,SqL.of (b _ _ npr h0p),_,hat,rfl,?_⟩
    by_cases he:r0=Str.ofString ""
    ·rw [if_neg (fun z=>z (by rw [he]))]
     exact ⟨l0,he⟩
    ·rw [if_pos (fun z=>he (V.str.inj z))]
     exact bad (eo.trans (if_pos (.inr (by rw [hl0];exact he))))
  ·rintro σ H4 ⟨rfl,hz,he,rfl⟩
   simp_all only [zbD,zbF,zbG,zac]
   refine q1 _ _ _ (eo.trans (if_neg ?_)) sH' (ShL.sh (p:=rd) (xs:=xs) ?_ (zdn.mpr ⟨hHr,hx⟩))
   ·rw [hdl,hl0]
    rintro (z | z)
    ·exact hz z
    ·exact z he
   ·rw [List.take_of_length_le (by rw [List.length_dropLast];exact Nat.le_refl _)] at sx
    exact sx.same (zhK s0 (.refl _))
theorem ziO (T:Txt K mg base a):zc8 P w K mg base (CXV P w) 7 a.f_read_rows a.d_read_rows ["text","read_row"] (zhV a):=by
 have G_share_in:=zlJ (P:=P) (w:=w) (base:=base) T
 have G__NoText:=zdR (P:=P) (w:=w) (base:=base) T
 refine T.F_read_rows.okV zbd (fun vs H Q E h=>?_) (fun cdv A outer s H vs Q E hr h=>?_)
 ·obtain ⟨text,q,c,sp,rfl,L,hR,lt,q1,q2⟩:=h
  rfl
 obtain ⟨text,q,c,sp,rfl,L,hR,lt,q1,q2⟩:=h
 exact ⟨zeD K a E,(zaf (zas (i:=2) zbd.nd rfl (Or.inl rfl) (zcw PySem.F.plainAttrs_str PySem.F.slot_str_split PySem.F.type_str_split zdi (pv 0) (zaa zay zae)))
 (zaf (zas (i:=3) zbd.nd rfl (Or.inl rfl) (zbN zae))
 (zaf (zc6 PassesOwn.leaving rfl (zlz rfl T.z_enumerate (zaa (zbc zcr (pv 2) zbH (zbJ (zjz zgc zag))) zae)) (zdV rfl (zaO (zaG (i:=4) zbd.nd rfl (Or.inl rfl)) (zaO (zaG (i:=5) zbd.nd rfl (Or.inl rfl)) zcX)))
 (zaf (zas (i:=6) zbd.nd rfl (Or.inl rfl) (zrw (i:=1) (k:=5) rfl (Or.inl rfl) (hr.mono (by decide)) (zaa (pv 5) (zaa (pv 3) zae)) (fun _ _ _ _ _ _=>rfl) (by decide) rfl rfl rfl rfl rfl (by decide +kernel) rfl (by decide +kernel) (fun _ _ _ _ _ _ _ hr=>(zau G_share_in (hr.mono (by decide)) rfl T.m_share_in T.F_share_in.kp T.b_share_in .nil za8 (zaa (pv 0) (zaa (pv 2) zae))))))
 (zaf (zbQ (zb8 (zat zgV (pv 6) zco (zaL _)) (zaj (zc4 T.X_NoText G__NoText (hr.mono (by decide)) rfl T.m_NoText T.bi_NoText za8 rfl zgw (zaa (pv 4) zae))) zaT))
 (zaj (zcq (zcw PySem.F.plainAttrs_list PySem.F.slot_list_append PySem.F.type_list_append zcN (pv 3) (zaa (pv 6) zae)))))))
 (zaf (zbQ (zb8 (PW.pt (zdJ (zef (zjm (pv 3) (fun _=>rfl))) (zdg (zat zeq (zbO zaX (pv 2) (zjz zgc zag) (fun _ _=>rfl)) zay (zaL _))))) (zaj (zc4 T.X_NoText G__NoText (hr.mono (by decide)) rfl T.m_NoText T.bi_NoText za8 rfl zgw (zaa (zaq zaF rfl T.z_len PySem.boot_len (zaa (pv 3) zae)) zae))) zaT))
 (zaj (zaN (pv 3))))))),
  zjg L hR lt q1 q2⟩
def zft (a:Ad):Sp:=fun vs H Q E=>∃ text:Str,vs=[.str text]∧LT2 H a.p_lam2∧Rn 640 text∧text.length≤80000 ∧
 (∀ sp ts v H',zlw text=.inr (sp,ts)→Bar a.p_lam2 H H'→LT2 H' a.p_lam2→Sh (NwH H H') (.tup [.str (kdS sp),.lst ts]) v→Q v H') ∧
 ∀ (k:Nat) dx H',zlw text=.inl k→Bar a.p_lam2 H H'→LT2 H' a.p_lam2→H dx=none→H' dx=some (.xd [("row",.int k)])→E (.ref a.c_NoText) (some dx) H'
def zeO (K:PySem.W.Frag) (a:Ad) (E:XK):TS :=
 (zaz (zaU (tOp (zik K) (tBM K "str" zlY (zac 0) (zab (tC (.str " ")) zak)) (tC (.int 0))) (zai 1))
 (zaz (zeh (zcn (zav (tOp (rIn K true) (zac 1) (tC (.ref a.t_KINDS)))) (zcb a.c_NoText "row" E (zab (tC (.int 0)) zak)) zaZ))
 (zb9 (zib (zab (zac 1) (zab (zpe a.p_lam2 znG zox ze6 "kind" 1 (zhV a) E (zac 0)) zak))))))
theorem ziY {E:XK} {text:Str} (hP:LT2 H a.p_lam2) (hK:zrg K a.t_KINDS [.str "walk",.str "spread"]) (hr:Rn 640 text) (lt:text.length≤80000)
  (q1:∀ sp ts v H',zlw text=.inr (sp,ts)→Bar a.p_lam2 H H'→LT2 H' a.p_lam2→Sh (NwH H H') (.tup [.str (kdS sp),.lst ts]) v→Q v H')
  (q2:∀ (k:Nat) dx H',zlw text=.inl k→Bar a.p_lam2 H H'→LT2 H' a.p_lam2→H dx=none→H' dx=some (.xd [("row",.int k)])→E (.ref a.c_NoText) (some dx) H'):zeO K a E { nx:=fun _ H'=>Q .non H',rt:=Q } (L2.zbA ["text","kind"] [.str text]) H:=by
 unfold zeO
 simp_all only [zac]
 refine ⟨rfl,by decide +kernel,by omega,fun p hp=>⟨_,SqT.of zad,_,zaV (j:=0) rfl,?_⟩⟩
 have e1:(Txt.partition text (Str.ofString " ")).1=(Txt.partition text " ").1:=rfl
 generalize eH:L2.upd H p (.tup [.str (Txt.partition text (Str.ofString " ")).1,.str (Txt.partition text (Str.ofString " ")).2.1,.str (Txt.partition text (Str.ofString " ")).2.2])=H1
 have s1:zaJ H H1:=by rw [← eH];exact zah hp _
 generalize hkd:(Txt.partition text (Str.ofString " ")).1=kd
 have et:zlw text=if kd=kdS false then (match zgn false (Txt.split text (Str.ofString "\n")) with | .inl k=>.inl k | .inr ts=>.inr (false,ts)) else if kd=kdS true then (match zgn true (Txt.split text (Str.ofString "\n")) with | .inl k=>.inl k | .inr ts=>.inr (true,ts)) else .inl 0:=by
  rw [← hkd]
  rfl
 refine ⟨fun σ H'=>H'=H1∧(∃ sp,kd=kdS sp)∧σ=[some (.str text),some (.str kd)],?_,?_⟩
 ·simp_all only [zac]
  have einv:inV (.str kd) [.str "walk",.str "spread"]=(decide (kd=kdS false) || decide (kd=kdS true)):=by
   show ((Str.ofString "walk" == kd) || ((Str.ofString "spread" == kd) || false))=_
   rw [Bool.or_false]
   congr 1
   ·rw [Bool.eq_iff_iff,beq_iff_eq,decide_eq_true_eq]
    exact eq_comm
   ·rw [Bool.eq_iff_iff,beq_iff_eq,decide_eq_true_eq]
    exact eq_comm
  refine ⟨_,.inr (SqT.ofK hK),rfl,rfl,?_⟩
  rw [einv]
  by_cases k1:kd=kdS false
  ·rw [decide_eq_true k1,if_neg (by simp)]
   exact ⟨_,k1⟩
  ·by_cases k2:kd=kdS true
   ·rw [decide_eq_true k2,if_neg (by simp)]
    exact ⟨_,k2⟩
   ·rw [decide_eq_false k1,decide_eq_false k2,if_pos (show (false || false)=false from rfl)]
    intro dx hdx
    refine q2 0 dx _ (by rw [et,if_neg k1,if_neg k2]) (fun b o n e=>(s1.add hdx) _ _ e) (hP.same (s1.add hdx)) (s1.free hdx) zad
 ·rintro σ H' ⟨rfl,⟨sp,rfl⟩,rfl⟩
  have et2:zlw text=match zgn sp (Txt.split text (Str.ofString "\n")) with | .inl k=>.inl k | .inr ts=>.inr (sp,ts):=by
   rw [et]
   cases sp
   ·rw [if_pos rfl]
   ·rw [if_neg (by rw [zqY];exact zgZ),if_pos rfl]
  simp_all only [zac]
  refine ⟨hP.same s1,fun qf c H3 H4 hb hl3 hq hc3 hc1 s4 L=>?_⟩
  have hl4:LT2 H4 a.p_lam2:=hl3.same s4
  obtain ⟨ps4,hp4⟩:=hl4.tbl
  have hcs:∃ F,H4 c=some F:=by
   obtain ⟨a1,a2,a3,a4,a5,a6,a7,a8,a9,a10,a11,a12,b1,b2,b3,b4,b5,b6,b7,b8,b9⟩:=L
   exact ⟨_,b8⟩
  obtain ⟨F,hF⟩:=hcs
  have bH4:Bar a.p_lam2 H H4:=fun b o n e=>s4 _ _ (hb b o n (s1 _ _ e))
  have bH5:∀ H5,zaJ H4 H5→Bar a.p_lam2 H (zeg H5 c):=fun H5 s5 b o n e=>by
   have e3:=hb b o n (s1 _ _ e)
   have nc:b≠c:=fun z=>by rw [z,hc3] at e3;cases e3
   rw [zba nc]
   exact s5 _ _ (s4 _ _ e3)
  have lH5:∀ H5,zaJ H4 H5→LT2 (zeg H5 c) a.p_lam2:=fun H5 s5=>hl3.same fun b o e3=>by
   have nc:b≠c:=fun z=>by rw [z,hc3] at e3;cases e3
   rw [zba nc]
   exact s5 _ _ (s4 _ _ e3)
  have new4:∀ b,H4 b=none→H b=none∧b≠c:=fun b e=>by
   refine ⟨?_,fun z=>by rw [z,hF] at e;cases e⟩
   have nP:b≠a.p_lam2:=fun z=>by rw [z,hp4] at e;cases e
   cases h:H b with
   | none=>rfl
   | some o=>rw [bH4 b o nP h] at e;cases e
  refine ⟨text,qf,c,sp,rfl,L,hr,lt,fun ts v H5 eo s5 h5=>⟨by decide,fun p3 hp3=>?_⟩,fun k dx H5 eo s5 hdx h5=>?_⟩
  ·have np:p3≠a.p_lam2:=(lH5 H5 s5).new hp3
   refine q1 sp ts _ _ ?_ (fun b o n e=>by rw [zal (zar (bH5 H5 s5 b o n e) hp3)];exact bH5 H5 s5 b o n e) ((lH5 H5 s5).same (zah hp3 _)) ?_
   ·rw [et2,show zgn sp (Txt.split text (Str.ofString "\n"))=.inr ts from eo]
   ·have hHp:H p3=none:=by
     cases h:H p3 with
     | none=>rfl
     | some o=>rw [bH5 H5 s5 p3 o np h] at hp3;cases hp3
    refine ShL.tp (.cons (.str _) (.one (h5.same (zcK fun b o e1 e2=>?_)))) (zdn.mpr ⟨hHp,zad⟩)
    obtain ⟨n1,n2⟩:=new4 b e1
    have e3:zeg H5 c b=some o:=by rw [zba n2];exact e2
    exact ⟨n1,by rw [zal (zar e3 hp3)];exact e3⟩
  ·obtain ⟨n1,n2⟩:=new4 dx hdx
   exact q2 k dx _ (by rw [et2,show zgn sp (Txt.split text (Str.ofString "\n"))=.inl k from eo]) (bH5 H5 s5) (lH5 H5 s5) n1 (by rw [zba n2];exact h5)
theorem zf7:zaK ["text","kind"] ["text"] (zam zdC):=⟨rfl,rfl,rfl,by decide +kernel,rfl,by decide +kernel,by decide +kernel⟩
theorem ziT (T:Txt K mg base a):zc8 P w K mg base (CXV P w) 8 a.f_read_paper a.d_read_paper ["text"] (zft a):=by
 have G_read_rowsP:=ziO (P:=P) (w:=w) (base:=base) T
 have G__NoText:=zdR (P:=P) (w:=w) (base:=base) T
 refine T.F_read_paper.okV zf7 (fun vs H Q E h=>?_) (fun A outer s H vs Q E hr h=>?_)
 ·obtain ⟨text,rfl,hP,hR,lt,q1,q2⟩:=h
  rfl
 obtain ⟨text,rfl,hP,hR,lt,q1,q2⟩:=h
 exact ⟨zeO K a E,(zaf (zas (i:=1) zf7.nd rfl (Or.inr rfl) (zbO zfi (zcw PySem.F.plainAttrs_str PySem.F.slot_str_partition PySem.F.type_str_partition zql (pv 0) (zaa zay zae)) zag (fun _ _=>rfl)))
 (zaf (zbQ (zb8 (zat zg0 (pv 1) (zbk rfl T.m_KINDS rfl) (by with_unfolding_all rfl)) (zaj (zc4 T.X_NoText G__NoText (hr.mono (by decide)) rfl T.m_NoText T.bi_NoText za8 rfl zgw (zaa zag zae))) zaT))
 (zaj (zaN (zeX (zaa (pv 1) (zaa (zsc G_read_rowsP (hr.mono (by decide)) rfl T.m_read_rows T.F_read_rows.kp T.b_read_rows zw5 (pv 0) rfl T.hC2 T.hB2 rfl rfl rfl (zuY.one (j:=1) rfl rfl rfl rfl (by decide +kernel)) rfl rfl) zae))))))),
  ziY hP T.u_KINDS hR lt q1 q2⟩
def zfm:TS :=
 (zaz (zaU (tOp (rI0 fun i j=>.int (i+j)) (tOp (rI (fun _ j=>0<j) fun i j=>.int (i % j)) (zac 3) (tOp (rI zk6 fun i j=>.int (i ^ j.toNat)) (tC (.int 10)) (tC (.int 18)))) (tOp (rI IntMulOk fun i j=>.int (i*j)) (tC (.int 48271)) (tOp (rI0 fun i j=>.int (i+j)) (zac 1) (tC (.int 1))))) (zai 5))
 (zaz (zaU (tOp (rI0 fun i j=>.int (i+j)) (tOp (rI (fun _ j=>0<j) fun i j=>.int (i % j)) (tOp (rI IntMulOk fun i j=>.int (i*j)) (zac 5) (zac 5)) (tC (.int 2147483629))) (tOp (rI IntMulOk fun i j=>.int (i*j)) (tC (.int 69621)) (zac 1))) (zai 5))
 (zb9 (tOp (rI (fun _ j=>0<j) fun i j=>.int (i % j)) (tOp (rI IntMulOk fun i j=>.int (i*j)) (zac 5) (zac 5)) (tC (.int 2147483587))))))
theorem za6 (D:zce) (σ:St) (H:Hp):zfm D σ H=(zaz (zaU (tOp (rI0 fun i j=>.int (i+j)) (tOp (rI (fun _ j=>0<j) fun i j=>.int (i % j)) (zac 3) (tOp (rI zk6 fun i j=>.int (i ^ j.toNat)) (tC (.int 10)) (tC (.int 18)))) (tOp (rI IntMulOk fun i j=>.int (i*j)) (tC (.int 48271)) (tOp (rI0 fun i j=>.int (i+j)) (zac 1) (tC (.int 1))))) (zai 5))
 (zaz (zaU (tOp (rI0 fun i j=>.int (i+j)) (tOp (rI (fun _ j=>0<j) fun i j=>.int (i % j)) (tOp (rI IntMulOk fun i j=>.int (i*j)) (zac 5) (zac 5)) (tC (.int 2147483629))) (tOp (rI IntMulOk fun i j=>.int (i*j)) (tC (.int 69621)) (zac 1))) (zai 5))
 (zb9 (tOp (rI (fun _ j=>0<j) fun i j=>.int (i % j)) (tOp (rI IntMulOk fun i j=>.int (i*j)) (zac 5) (zac 5)) (tC (.int 2147483587)))))) D σ H:=rfl
def zff (K:PySem.W.Frag):TS :=
 (zcn (zav (tOp (rI0 fun i j=>.bl (decide (j<i))) (tCB (fun xs H Q=>∃ p ys,xs=[.ref p]∧(SqL K H p ys∨SqT K H p ys)∧Q (.int ys.length) H) (zab (zac 0) zak)) (tC (.int 0)))) (zaU (tOp (zcO K) (zac 0) (tOp (rI (fun _ j=>0<j) fun i j=>.int (i % j)) (zac 1) (tCB (fun xs H Q=>∃ i j,xs=[.int i,.int j]∧Q (.int (if j<i then j else i)) H) (zab (tC (.int 63)) (zab (tCB (fun xs H Q=>∃ p ys,xs=[.ref p]∧(SqL K H p ys∨SqT K H p ys)∧Q (.int ys.length) H) (zab (zac 0) zak)) zak))))) (zai 3)) zaZ)
theorem za7 (K:PySem.W.Frag) (D:zce) (σ:St) (H:Hp):zff K D σ H=(zcn (zav (tOp (rI0 fun i j=>.bl (decide (j<i))) (tCB (fun xs H Q=>∃ p ys,xs=[.ref p]∧(SqL K H p ys∨SqT K H p ys)∧Q (.int ys.length) H) (zab (zac 0) zak)) (tC (.int 0)))) (zaU (tOp (zcO K) (zac 0) (tOp (rI (fun _ j=>0<j) fun i j=>.int (i % j)) (zac 1) (tCB (fun xs H Q=>∃ i j,xs=[.int i,.int j]∧Q (.int (if j<i then j else i)) H) (zab (tC (.int 63)) (zab (tCB (fun xs H Q=>∃ p ys,xs=[.ref p]∧(SqL K H p ys∨SqT K H p ys)∧Q (.int ys.length) H) (zab (zac 0) zak)) zak))))) (zai 3)) zaZ) D σ H:=rfl
def zdN:TS :=
 (zcn (zav (tOp (rI0 fun i j=>.bl (decide (j<i))) (zac 3) (tC (.int 0)))) (zb9 (tOp (rI (fun _ j=>0<j) fun i j=>.int (i % j)) (zac 3) (tC (.int 2147483587)))) zaZ)
theorem za3 (D:zce) (σ:St) (H:Hp):zdN D σ H=(zcn (zav (tOp (rI0 fun i j=>.bl (decide (j<i))) (zac 3) (tC (.int 0)))) (zb9 (tOp (rI (fun _ j=>0<j) fun i j=>.int (i % j)) (zac 3) (tC (.int 2147483587)))) zaZ) D σ H:=rfl
def zfo (K:PySem.W.Frag):TS :=
 (zcn (zpE (zav (tOp (rI0 fun i j=>.bl (decide (i<j))) (zac 2) (tCB (fun xs H Q=>∃ p ys,xs=[.ref p]∧(SqL K H p ys∨SqT K H p ys)∧Q (.int ys.length) H) (zab (zac 0) zak)))) (zav (tOp (rI0 fun i j=>.bl (decide (j≤i))) (tOp (zcO K) (zac 0) (zac 2)) (tOp (rI zk6 fun i j=>.int (i ^ j.toNat)) (tC (.int 10)) (tC (.int 18)))))) (zaz (zaU (tOp (rI (fun _ j=>0<j∧j.natAbs.log2<9000) fun i j=>.int (i / j)) (tOp (zcO K) (zac 0) (zac 2)) (tOp (rI zk6 fun i j=>.int (i ^ j.toNat)) (tC (.int 10)) (tC (.int 18)))) (zai 3))
 (zaz (zfV (zel (zab (tOp (rI (fun _ j=>0<j) fun i j=>.int (i % j)) (zac 1) (tC (.int 8))) zak)) (zai 4)
 (zaU (tOp (rI (fun _ j=>0<j∧j.natAbs.log2<9000) fun i j=>.int (i / j)) (zac 3) (tC (.int 2147483587))) (zai 3)))
 (zdN))) zaZ)
theorem za5 (K:PySem.W.Frag) (D:zce) (σ:St) (H:Hp):zfo K D σ H=(zcn (zpE (zav (tOp (rI0 fun i j=>.bl (decide (i<j))) (zac 2) (tCB (fun xs H Q=>∃ p ys,xs=[.ref p]∧(SqL K H p ys∨SqT K H p ys)∧Q (.int ys.length) H) (zab (zac 0) zak)))) (zav (tOp (rI0 fun i j=>.bl (decide (j≤i))) (tOp (zcO K) (zac 0) (zac 2)) (tOp (rI zk6 fun i j=>.int (i ^ j.toNat)) (tC (.int 10)) (tC (.int 18)))))) (zaz (zaU (tOp (rI (fun _ j=>0<j∧j.natAbs.log2<9000) fun i j=>.int (i / j)) (tOp (zcO K) (zac 0) (zac 2)) (tOp (rI zk6 fun i j=>.int (i ^ j.toNat)) (tC (.int 10)) (tC (.int 18)))) (zai 3))
 (zaz (zfV (zel (zab (tOp (rI (fun _ j=>0<j) fun i j=>.int (i % j)) (zac 1) (tC (.int 8))) zak)) (zai 4)
 (zaU (tOp (rI (fun _ j=>0<j∧j.natAbs.log2<9000) fun i j=>.int (i / j)) (zac 3) (tC (.int 2147483587))) (zai 3)))
 (zdN))) zaZ) D σ H:=rfl
def zex (K:PySem.W.Frag):TS :=
 (zaz (zaU (tOp (rI (fun _ j=>0<j) fun i j=>.int (i % j)) (tOp (rI (fun _ j=>0<j∧j.natAbs.log2<9000) fun i j=>.int (i / j)) (zac 1) (tC (.int 8))) (tC (.int 63))) (zai 2))
 (zaz (zeh (zfo K))
 (zaz (zaU (tC (.int 0)) (zai 3))
 (zaz (zeh (zff K))
 (zfm)))))
theorem zjG {p:Addr} {ns:List Int} {k:Int} (hS:SqL K H p (ns.map V.int)) (hl:ns.length≤63) (k0:0≤k) (k1:k<1000000) (q:∀ r:Int,0≤r→r<2147483587→Q (.int r) H) :
  zex K { nx:=fun _ H'=>Q .non H',rt:=Q } (L2.zbA ["_law_script","_law_k","_law_at","_law_cell","_law_j","_law_number"] [.ref p,.int k]) H:=by
 unfold zex
 simp_all only [za6,za7,za3,za5,zac]
 have el:((ns.map V.int).length:Int)=(ns.length:Int):=by rw [List.length_map]
 refine ⟨log8.1,log8.2,by decide,fun σ H'=>H'=H∧∃ t c j,σ=[some (.ref p),some (.int k),t,c,j,none],?_,?_⟩
 ·simp_all only [za6,za7,za3,za5,zac]
  refine ⟨_,.inl hS,?_⟩
  rw [el]
  refine zgl (fun c=>?_) (fun c=>?_)
  ·obtain ⟨v,hv,_⟩:=zmG (ns:=ns) (k:=k / 8 % 63) (by omega) c
   refine ⟨_,hS,_,hv,?_⟩
   simp_all only [za6,za7,za3,za5,zac]
   refine ⟨zus,?_⟩
   refine zgl (fun c2=>?_) (fun c2=>trivial)
   ·refine ⟨_,hS,_,hv,zus,_,rfl,logA.1,logA.2,by decide,by omega,by omega,?_⟩
    refine zcl (fun _ σ H'=>H'=H∧∃ t c j,σ=[some (.ref p),some (.int k),t,some (.int c),j,none]) ⟨rfl,_,_,_,rfl⟩ ?_ ?_
    ·rintro i σ H' hi ⟨rfl,t,c,j,rfl⟩
     simp_all only [za6,za7,za3,za5,zac]
     exact ⟨logB.1,logB.2⟩
    ·rintro σ H' ⟨rfl,t,c,j,rfl⟩
     simp_all only [za6,za7,za3,za5,zac]
     refine zgl (fun c3=>?_) (fun c3=>?_)
     ·exact ⟨by decide,q _ (Int.emod_nonneg _ (by decide)) (Int.emod_lt_of_pos _ (by decide))⟩
     ·trivial
  ·trivial
 ·rintro σ H' ⟨e,t,c,j,rfl⟩
  rw [e]
  simp_all only [za6,za7,za3,za5,zac]
  refine ⟨fun σ H'=>H'=H∧∃ t c j,σ=[some (.ref p),some (.int k),t,some (.int c),j,none],?_,?_⟩
  ·simp_all only [za6,za7,za3,za5,zac]
   refine ⟨_,.inl hS,?_⟩
   rw [el]
   refine zgl (fun c=>?_) (fun c=>trivial)
   refine ⟨_,.inl hS,?_⟩
   rw [el]
   have hm:0<(if (ns.length:Int)<63 then (ns.length:Int) else 63):=by split <;> omega
   obtain ⟨v,hv,_⟩:=zmG (ns:=ns) (k:=k % if (ns.length:Int)<63 then (ns.length:Int) else 63) (Int.emod_nonneg _ (by omega)) (Int.lt_of_lt_of_le (Int.emod_lt_of_pos _ hm) (by split <;> omega))
   exact ⟨hm,_,hS,_,hv,_,rfl⟩
  ·rintro σ H' ⟨e,t,c,j,rfl⟩
   rw [e]
   simp_all only [za6,za7,za3,za5,zac]
   have b1:=Int.emod_nonneg c (show (1000000000000000000:Int)≠0 by decide)
   have b2:=Int.emod_lt_of_pos c (show (0:Int)<1000000000000000000 by decide)
   generalize c % 1000000000000000000=z at b1 b2 ⊢
   have m1:IntMulOk (z+48271*(k+1)) (z+48271*(k+1)):=mulR (by omega) (by omega)
   generalize (z+48271*(k+1))*(z+48271*(k+1))=y
   have b3:=Int.emod_nonneg y (show (2147483629:Int)≠0 by decide)
   have b4:=Int.emod_lt_of_pos y (show (0:Int)<2147483629 by decide)
   generalize y % 2147483629=x at b3 b4 ⊢
   exact ⟨zus,by decide,zuV (by decide) (by decide),m1,by decide,zuV (by decide) (by decide),mulR (by omega) (by omega),by decide,q _ (Int.emod_nonneg _ (by decide)) (Int.emod_lt_of_pos _ (by decide))⟩
theorem zbz:zaK ["_law_script","_law_k","_law_at","_law_cell","_law_j","_law_number"] ["_law_script","_law_k"] (zam zeJ):=⟨rfl,rfl,rfl,by decide +kernel,rfl,by decide +kernel,by decide +kernel⟩
theorem zd0 (T:Txt K mg base a):zc8 P w K mg base CX0 1 a.f__law_mixed a.d__law_mixed ["_law_script","_law_k"] (zbg K):=by
 refine T.F__law_mixed.ok zbz (fun vs H Q E h=>?_) (fun cdv A outer s H vs Q E hr h=>?_)
 ·obtain ⟨p,ns,k,rfl,hS,hl,k0,k1,q⟩:=h
  rfl
 obtain ⟨p,ns,k,rfl,hS,hl,k0,k1,q⟩:=h
 exact ⟨zex K,(zaf (zas (i:=2) zbz.nd rfl (Or.inl rfl) (zan za4 (zan zbM (pv 1) zag) zag))
 (zaf (zbQ (zb8 (PW.pt (zkq (zat zlK (pv 2) (zaq zaF rfl T.z_len PySem.boot_len (zaa (pv 0) zae)) (zaL _)) (zh6 (zat op_ge (zbO zaX (pv 0) (pv 2) (fun _ _=>rfl)) (zan zhN zag zag) (zaL _))))) (zaf (zas (i:=3) zbz.nd rfl (Or.inl rfl) (zan zbM (zbO zaX (pv 0) (pv 2) (fun _ _=>rfl)) (zan zhN zag zag)))
 (zaf (zc6 PassesOwn.never rfl (zcJ rfl T.z_range (zaa (zan za4 (pv 1) zag) zae)) (zaG (i:=4) zbz.nd rfl (Or.inl rfl))
 (zaj (zas (i:=3) zbz.nd rfl (Or.inl rfl) (zan zbM (pv 3) zag))))
 (zaj (zb8 (zat zrb (pv 3) zag (zaL _)) (zaj (zaN (zan za4 (pv 3) zag))) zaT)))) zaT))
 (zaf (zas (i:=3) zbz.nd rfl (Or.inl rfl) zag)
 (zaf (zbQ (zb8 (zat zrb (zaq zaF rfl T.z_len PySem.boot_len (zaa (pv 0) zae)) zag (zaL _)) (zaj (zas (i:=3) zbz.nd rfl (Or.inl rfl) (zbO zaX (pv 0) (zan za4 (pv 1) (zaq (zk2 rfl) rfl T.z_min PyProof.Rows.boot_min (zaa zag (zaa (zaq zaF rfl T.z_len PySem.boot_len (zaa (pv 0) zae)) zae)))) (fun _ _=>rfl)))) zaT))
 (zaf (zas (i:=5) zbz.nd rfl (Or.inl rfl) (zan za0 (zan za4 (pv 3) (zan zhN zag zag)) (zan zew zag (zan za0 (pv 1) zag))))
 (zaf (zas (i:=5) zbz.nd rfl (Or.inl rfl) (zan za0 (zan za4 (zan zew (pv 5) (pv 5)) zag) (zan zew zag (pv 1))))
 (zaj (zaN (zan za4 (zan zew (pv 5) (pv 5)) zag))))))))),
  zjG hS hl k0 k1 q⟩
def zhA (a:Ad):Sp:=fun vs H Q _=>∃ (r:Addr) (od:Option Addr),vs=[.ref r]∧H r=some (zfw r (.ref a.c_NoText) od)∧∀ H',zaJ H H'→Q (.int 2) H'
def zdL (K:PySem.W.Frag):TS :=
 (zcn (tOr (zav (tOp rNe (tBM K "list" (zmw K) (zac 1) (zab (tC (.bl true)) zak)) (tC (.int 1)))) (zgX (tB (tCB (zbZ K) (zab (zac 0) (zab (tC (.ty "ValueError")) zak)))))) (zb9 (tUn (rU fun i=>.int (-i)) (tC (.int 2)))) zaZ)
theorem zbV (K:PySem.W.Frag) (D:zce) (σ:St) (H:Hp):zdL K D σ H=(zcn (tOr (zav (tOp rNe (tBM K "list" (zmw K) (zac 1) (zab (tC (.bl true)) zak)) (tC (.int 1)))) (zgX (tB (tCB (zbZ K) (zab (zac 0) (zab (tC (.ty "ValueError")) zak)))))) (zb9 (tUn (rU fun i=>.int (-i)) (tC (.int 2)))) zaZ) D σ H:=rfl
def zfq (K:PySem.W.Frag) (a:Ad):TS :=
 (zaz (zaU (zdq (zab (tCB (zbZ K) (zab (zac 0) (zab (tC (.ref a.c_NoWeb)) zak))) (zab (tCB (zbZ K) (zab (zac 0) (zab (tC (.ref a.c_NoPlan)) zak))) (zab (tCB (zbZ K) (zab (zac 0) (zab (tC (.ref a.c_NoText)) zak))) zak)))) (zai 1))
 (zaz (zaU (tOp zgm (zac 1) (zdq (zab (tCB (zbZ K) (zab (zac 0) (zab (tC (.ref a.c_NoKind)) zak))) (zab (tCB (zbZ K) (zab (zac 0) (zab (tC (.ref a.c_TooGreat)) zak))) (zab (tCB (zbZ K) (zab (zac 0) (zab (tC (.ref a.c_NoTree)) zak))) zak))))) (zai 1))
 (zaz (zaU (tOp zgm (zac 1) (zdq (zab (tCB (zbZ K) (zab (zac 0) (zab (tC (.ref a.c_NoWeights)) zak))) (zab (tCB (zbZ K) (zab (zac 0) (zab (tC (.ref a.c_NoTurns)) zak))) (zab (tCB (zbZ K) (zab (zac 0) (zab (tC (.ref a.c_NoNumber)) zak))) zak))))) (zai 1))
 (zaz (zaU (tOp zgm (zac 1) (zdq (zab (tCB (zbZ K) (zab (zac 0) (zab (tC (.ref a.c_NoBoxes)) zak))) (zab (tCB (zbZ K) (zab (zac 0) (zab (tC (.ref a.c_NoBudget)) zak))) (zab (tCB (zbZ K) (zab (zac 0) (zab (tC (.ref a.c_NoName)) zak))) zak))))) (zai 1))
 (zaz (zaU (tOp zgm (zac 1) (zdq (zab (tCB (zbZ K) (zab (zac 0) (zab (tC (.ref a.c_NoOrder)) zak))) (zab (tCB (zbZ K) (zab (zac 0) (zab (tC (.ref a.c_NoPlay)) zak))) (zab (tCB (zbZ K) (zab (zac 0) (zab (tC (.ref a.c_NoRoad)) zak))) zak))))) (zai 1))
 (zaz (zaU (tOp zgm (zac 1) (zdq (zab (tCB (zbZ K) (zab (zac 0) (zab (tC (.ref a.c_NoRow)) zak))) (zab (tCB (zbZ K) (zab (zac 0) (zab (tC (.ref a.c_NoTable)) zak))) (zab (tCB (zbZ K) (zab (zac 0) (zab (tC (.ref a.c_NoPaper)) zak))) zak))))) (zai 1))
 (zaz (zeh (zdL K))
 (zb9 (tBM K "list" (zqg K) (zac 1) (zab (tC (.bl true)) zak))))))))))
theorem zbX (K:PySem.W.Frag) (a:Ad) (D:zce) (σ:St) (H:Hp):zfq K a D σ H=(zaz (zaU (zdq (zab (tCB (zbZ K) (zab (zac 0) (zab (tC (.ref a.c_NoWeb)) zak))) (zab (tCB (zbZ K) (zab (zac 0) (zab (tC (.ref a.c_NoPlan)) zak))) (zab (tCB (zbZ K) (zab (zac 0) (zab (tC (.ref a.c_NoText)) zak))) zak)))) (zai 1))
 (zaz (zaU (tOp zgm (zac 1) (zdq (zab (tCB (zbZ K) (zab (zac 0) (zab (tC (.ref a.c_NoKind)) zak))) (zab (tCB (zbZ K) (zab (zac 0) (zab (tC (.ref a.c_TooGreat)) zak))) (zab (tCB (zbZ K) (zab (zac 0) (zab (tC (.ref a.c_NoTree)) zak))) zak))))) (zai 1))
 (zaz (zaU (tOp zgm (zac 1) (zdq (zab (tCB (zbZ K) (zab (zac 0) (zab (tC (.ref a.c_NoWeights)) zak))) (zab (tCB (zbZ K) (zab (zac 0) (zab (tC (.ref a.c_NoTurns)) zak))) (zab (tCB (zbZ K) (zab (zac 0) (zab (tC (.ref a.c_NoNumber)) zak))) zak))))) (zai 1))
 (zaz (zaU (tOp zgm (zac 1) (zdq (zab (tCB (zbZ K) (zab (zac 0) (zab (tC (.ref a.c_NoBoxes)) zak))) (zab (tCB (zbZ K) (zab (zac 0) (zab (tC (.ref a.c_NoBudget)) zak))) (zab (tCB (zbZ K) (zab (zac 0) (zab (tC (.ref a.c_NoName)) zak))) zak))))) (zai 1))
 (zaz (zaU (tOp zgm (zac 1) (zdq (zab (tCB (zbZ K) (zab (zac 0) (zab (tC (.ref a.c_NoOrder)) zak))) (zab (tCB (zbZ K) (zab (zac 0) (zab (tC (.ref a.c_NoPlay)) zak))) (zab (tCB (zbZ K) (zab (zac 0) (zab (tC (.ref a.c_NoRoad)) zak))) zak))))) (zai 1))
 (zaz (zaU (tOp zgm (zac 1) (zdq (zab (tCB (zbZ K) (zab (zac 0) (zab (tC (.ref a.c_NoRow)) zak))) (zab (tCB (zbZ K) (zab (zac 0) (zab (tC (.ref a.c_NoTable)) zak))) (zab (tCB (zbZ K) (zab (zac 0) (zab (tC (.ref a.c_NoPaper)) zak))) zak))))) (zai 1))
 (zaz (zeh (zdL K))
 (zb9 (tBM K "list" (zqg K) (zac 1) (zab (tC (.bl true)) zak)))))))))) D σ H:=rfl
def zfp:TS :=
 (zcn (zav (tOp (fun x y H Q=>y=.non∧Q (.bl (decide (x=.non))) H) (zac 0) (tC .non))) (zb9 (tUn (rU fun i=>.int (-i)) (tC (.int 1)))) zaZ)
theorem zbW (D:zce) (σ:St) (H:Hp):zfp D σ H=(zcn (zav (tOp (fun x y H Q=>y=.non∧Q (.bl (decide (x=.non))) H) (zac 0) (tC .non))) (zb9 (tUn (rU fun i=>.int (-i)) (tC (.int 1)))) zaZ) D σ H:=rfl
def zeM (K:PySem.W.Frag) (a:Ad):TS :=
 (zaz (zeh (zfp))
 (zfq K a))
theorem isV {x:Addr} {od:Option Addr} {d:V} {cv dv:Value} {b:Bool} (hc:clsV d=some dv) (h:H x=some (zfw x cv od)) (k:ziE K cv) (e:PySem.W.kitOne K cv dv=some b) (q:Q (.bl b) H):zbZ K [.ref x,d] H Q:=⟨x,d,cv,_,dv,b,rfl,hc,h,k,e,q⟩
theorem zjy {r:Addr} {od:Option Addr} (I:Isa K a) (hr:H r=some (zfw r (.ref a.c_NoText) od)) (q:∀ H',zaJ H H'→Q (.int 2) H'):zeM K a { nx:=fun _ H'=>Q .non H',rt:=Q } (L2.zbA ["_law_caught","_law_tests"] [.ref r]) H:=by
 unfold zeM
 simp_all only [zbV,zbX,zbW,zac]
 refine ⟨fun σ H'=>H'=H∧σ=[some (.ref r),none],?_,?_⟩
 ·simp_all only [zbV,zbX,zbW,zac]
 rintro σ H' ⟨e,rfl⟩
 rw [e]
 simp_all only [zbV,zbX,zbW,zac]
 refine isV rfl hr I.ec I.k_NoWeb ?_
 refine isV rfl hr I.ec I.k_NoPlan ?_
 refine isV rfl hr I.ec I.k_NoText ?_
 refine ⟨by decide,fun p0 n0=>?_⟩
 have s0:=zah n0 (.lst [V.bl false,V.bl false,V.bl true])
 have l0:(L2.upd H p0 (.lst [V.bl false,V.bl false,V.bl true])) p0=some (.lst [V.bl false,V.bl false,V.bl true]):=zad
 generalize L2.upd H p0 (.lst [V.bl false,V.bl false,V.bl true])=G0 at s0 l0 ⊢
 have h0:=s0 _ _ hr
 refine isV rfl h0 I.ec I.k_NoKind ?_
 refine isV rfl h0 I.ec I.k_TooGreat ?_
 refine isV rfl h0 I.ec I.k_NoTree ?_
 refine ⟨by decide,fun p1 n1=>?_⟩
 have s1:=zah n1 (.lst [V.bl false,V.bl false,V.bl false])
 have l1:(L2.upd G0 p1 (.lst [V.bl false,V.bl false,V.bl false])) p1=some (.lst [V.bl false,V.bl false,V.bl false]):=zad
 generalize L2.upd G0 p1 (.lst [V.bl false,V.bl false,V.bl false])=G1 at s1 l1 ⊢
 refine ⟨_,s1 _ _ l0,_,l1,by decide,fun u1 m1=>?_⟩
 simp only [List.cons_append,List.nil_append]
 have t1:=zah m1 (.lst [V.bl false,V.bl false,V.bl true,V.bl false,V.bl false,V.bl false])
 have k1:(L2.upd G1 u1 (.lst [V.bl false,V.bl false,V.bl true,V.bl false,V.bl false,V.bl false])) u1=some (.lst [V.bl false,V.bl false,V.bl true,V.bl false,V.bl false,V.bl false]):=zad
 generalize L2.upd G1 u1 (.lst [V.bl false,V.bl false,V.bl true,V.bl false,V.bl false,V.bl false])=F1 at t1 k1 ⊢
 have z1:=(s0.trans s1).trans t1
 have h1:=z1 _ _ hr
 refine isV rfl h1 I.ec I.k_NoWeights ?_
 refine isV rfl h1 I.ec I.k_NoTurns ?_
 refine isV rfl h1 I.ec I.k_NoNumber ?_
 refine ⟨by decide,fun p2 n2=>?_⟩
 have s2:=zah n2 (.lst [V.bl false,V.bl false,V.bl false])
 have l2:(L2.upd F1 p2 (.lst [V.bl false,V.bl false,V.bl false])) p2=some (.lst [V.bl false,V.bl false,V.bl false]):=zad
 generalize L2.upd F1 p2 (.lst [V.bl false,V.bl false,V.bl false])=G2 at s2 l2 ⊢
 refine ⟨_,s2 _ _ k1,_,l2,by decide,fun u2 m2=>?_⟩
 simp only [List.cons_append,List.nil_append]
 have t2:=zah m2 (.lst [V.bl false,V.bl false,V.bl true,V.bl false,V.bl false,V.bl false,V.bl false,V.bl false,V.bl false])
 have k2:(L2.upd G2 u2 (.lst [V.bl false,V.bl false,V.bl true,V.bl false,V.bl false,V.bl false,V.bl false,V.bl false,V.bl false])) u2=some (.lst [V.bl false,V.bl false,V.bl true,V.bl false,V.bl false,V.bl false,V.bl false,V.bl false,V.bl false]):=zad
 generalize L2.upd G2 u2 (.lst [V.bl false,V.bl false,V.bl true,V.bl false,V.bl false,V.bl false,V.bl false,V.bl false,V.bl false])=F2 at t2 k2 ⊢
 have z2:=(z1.trans s2).trans t2
 have h2:=z2 _ _ hr
 refine isV rfl h2 I.ec I.k_NoBoxes ?_
 refine isV rfl h2 I.ec I.k_NoBudget ?_
 refine isV rfl h2 I.ec I.k_NoName ?_
 refine ⟨by decide,fun p3 n3=>?_⟩
 have s3:=zah n3 (.lst [V.bl false,V.bl false,V.bl false])
 have l3:(L2.upd F2 p3 (.lst [V.bl false,V.bl false,V.bl false])) p3=some (.lst [V.bl false,V.bl false,V.bl false]):=zad
 generalize L2.upd F2 p3 (.lst [V.bl false,V.bl false,V.bl false])=G3 at s3 l3 ⊢
 refine ⟨_,s3 _ _ k2,_,l3,by decide,fun u3 m3=>?_⟩
 simp only [List.cons_append,List.nil_append]
 have t3:=zah m3 (.lst [V.bl false,V.bl false,V.bl true,V.bl false,V.bl false,V.bl false,V.bl false,V.bl false,V.bl false,V.bl false,V.bl false,V.bl false])
 have k3:(L2.upd G3 u3 (.lst [V.bl false,V.bl false,V.bl true,V.bl false,V.bl false,V.bl false,V.bl false,V.bl false,V.bl false,V.bl false,V.bl false,V.bl false])) u3=some (.lst [V.bl false,V.bl false,V.bl true,V.bl false,V.bl false,V.bl false,V.bl false,V.bl false,V.bl false,V.bl false,V.bl false,V.bl false]):=zad
 generalize L2.upd G3 u3 (.lst [V.bl false,V.bl false,V.bl true,V.bl false,V.bl false,V.bl false,V.bl false,V.bl false,V.bl false,V.bl false,V.bl false,V.bl false])=F3 at t3 k3 ⊢
 have z3:=(z2.trans s3).trans t3
 have h3:=z3 _ _ hr
 refine isV rfl h3 I.ec I.k_NoOrder ?_
 refine isV rfl h3 I.ec I.k_NoPlay ?_
 refine isV rfl h3 I.ec I.k_NoRoad ?_
 refine ⟨by decide,fun p4 n4=>?_⟩
 have s4:=zah n4 (.lst [V.bl false,V.bl false,V.bl false])
 have l4:(L2.upd F3 p4 (.lst [V.bl false,V.bl false,V.bl false])) p4=some (.lst [V.bl false,V.bl false,V.bl false]):=zad
 generalize L2.upd F3 p4 (.lst [V.bl false,V.bl false,V.bl false])=G4 at s4 l4 ⊢
 refine ⟨_,s4 _ _ k3,_,l4,by decide,fun u4 m4=>?_⟩
 simp only [List.cons_append,List.nil_append]
 have t4:=zah m4 (.lst [V.bl false,V.bl false,V.bl true,V.bl false,V.bl false,V.bl false,V.bl false,V.bl false,V.bl false,V.bl false,V.bl false,V.bl false,V.bl false,V.bl false,V.bl false])
 have k4:(L2.upd G4 u4 (.lst [V.bl false,V.bl false,V.bl true,V.bl false,V.bl false,V.bl false,V.bl false,V.bl false,V.bl false,V.bl false,V.bl false,V.bl false,V.bl false,V.bl false,V.bl false])) u4=some (.lst [V.bl false,V.bl false,V.bl true,V.bl false,V.bl false,V.bl false,V.bl false,V.bl false,V.bl false,V.bl false,V.bl false,V.bl false,V.bl false,V.bl false,V.bl false]):=zad
 generalize L2.upd G4 u4 (.lst [V.bl false,V.bl false,V.bl true,V.bl false,V.bl false,V.bl false,V.bl false,V.bl false,V.bl false,V.bl false,V.bl false,V.bl false,V.bl false,V.bl false,V.bl false])=F4 at t4 k4 ⊢
 have z4:=(z3.trans s4).trans t4
 have h4:=z4 _ _ hr
 refine isV rfl h4 I.ec I.k_NoRow ?_
 refine isV rfl h4 I.ec I.k_NoTable ?_
 refine isV rfl h4 I.ec I.k_NoPaper ?_
 refine ⟨by decide,fun p5 n5=>?_⟩
 have s5:=zah n5 (.lst [V.bl false,V.bl false,V.bl false])
 have l5:(L2.upd F4 p5 (.lst [V.bl false,V.bl false,V.bl false])) p5=some (.lst [V.bl false,V.bl false,V.bl false]):=zad
 generalize L2.upd F4 p5 (.lst [V.bl false,V.bl false,V.bl false])=G5 at s5 l5 ⊢
 refine ⟨_,s5 _ _ k4,_,l5,by decide,fun u5 m5=>?_⟩
 simp only [List.cons_append,List.nil_append]
 have t5:=zah m5 (.lst [V.bl false,V.bl false,V.bl true,V.bl false,V.bl false,V.bl false,V.bl false,V.bl false,V.bl false,V.bl false,V.bl false,V.bl false,V.bl false,V.bl false,V.bl false,V.bl false,V.bl false,V.bl false])
 have k5:(L2.upd G5 u5 (.lst [V.bl false,V.bl false,V.bl true,V.bl false,V.bl false,V.bl false,V.bl false,V.bl false,V.bl false,V.bl false,V.bl false,V.bl false,V.bl false,V.bl false,V.bl false,V.bl false,V.bl false,V.bl false])) u5=some (.lst [V.bl false,V.bl false,V.bl true,V.bl false,V.bl false,V.bl false,V.bl false,V.bl false,V.bl false,V.bl false,V.bl false,V.bl false,V.bl false,V.bl false,V.bl false,V.bl false,V.bl false,V.bl false]):=zad
 generalize L2.upd G5 u5 (.lst [V.bl false,V.bl false,V.bl true,V.bl false,V.bl false,V.bl false,V.bl false,V.bl false,V.bl false,V.bl false,V.bl false,V.bl false,V.bl false,V.bl false,V.bl false,V.bl false,V.bl false,V.bl false])=F5 at t5 k5 ⊢
 have z5:=(z4.trans s5).trans t5
 have h5:=z5 _ _ hr
 refine ⟨fun σ H'=>H'=F5∧σ=[some (.ref r),some (.ref u5)],?_,?_⟩
 ·simp_all only [zbV,zbX,zbW,zac]
  refine ⟨.inl ⟨rfl,_,SqL.of k5⟩,_,SqL.of k5,rfl,rfl,?_⟩
  refine zgl (fun z=>absurd rfl z) (fun _=>?_)
  exact isV rfl h5 I.ec I.k_ValueError ⟨true,rfl,zgl (fun z=>absurd z (by decide)) (fun _=>rfl)⟩
 rintro σ H' ⟨e,rfl⟩
 rw [e]
 simp_all only [zbV,zbX,zbW,zac]
 exact ⟨.inl ⟨rfl,_,SqL.of k5⟩,_,_,_,2,rfl,rfl,SqL.of k5,rfl,rfl,rfl,by decide,q _ z5⟩
theorem zb1:zaK ["_law_caught","_law_tests"] ["_law_caught"] (zam zer):=⟨rfl,rfl,rfl,by decide +kernel,rfl,by decide +kernel,by decide +kernel⟩
theorem zjr (T:Txt K mg base a):zc8 P w K mg base CX0 1 a.f__law_class a.d__law_class ["_law_caught"] (zhA a):=by
 refine T.F__law_class.ok zb1 (fun vs H Q E h=>?_) (fun cdv A outer s H vs Q E hr h=>?_)
 ·obtain ⟨r,od,rfl,h,q⟩:=h
  rfl
 obtain ⟨r,od,rfl,h,q⟩:=h
 exact ⟨zeM K a,(zaf (zbQ (zb8 (zat zgV (pv 0) zco (zaL _)) (zaj (zaN (zjz zgc zag))) zaT))
 (zaf (zas (i:=1) zb1.nd rfl (Or.inl rfl) (zbN (zaa (zaq zaI rfl T.z_isinstance PyProof.Rows.boot_isinstance (zaa (pv 0) (zaa (zbk rfl T.m_NoWeb rfl) zae))) (zaa (zaq zaI rfl T.z_isinstance PyProof.Rows.boot_isinstance (zaa (pv 0) (zaa (zbk rfl T.m_NoPlan rfl) zae))) (zaa (zaq zaI rfl T.z_isinstance PyProof.Rows.boot_isinstance (zaa (pv 0) (zaa (zbk rfl T.m_NoText rfl) zae))) zae)))))
 (zaf (zas (i:=1) zb1.nd rfl (Or.inl rfl) (zan zc5 (pv 1) (zbN (zaa (zaq zaI rfl T.z_isinstance PyProof.Rows.boot_isinstance (zaa (pv 0) (zaa (zbk rfl T.m_NoKind rfl) zae))) (zaa (zaq zaI rfl T.z_isinstance PyProof.Rows.boot_isinstance (zaa (pv 0) (zaa (zbk rfl T.m_TooGreat rfl) zae))) (zaa (zaq zaI rfl T.z_isinstance PyProof.Rows.boot_isinstance (zaa (pv 0) (zaa (zbk rfl T.m_NoTree rfl) zae))) zae))))))
 (zaf (zas (i:=1) zb1.nd rfl (Or.inl rfl) (zan zc5 (pv 1) (zbN (zaa (zaq zaI rfl T.z_isinstance PyProof.Rows.boot_isinstance (zaa (pv 0) (zaa (zbk rfl T.m_NoWeights rfl) zae))) (zaa (zaq zaI rfl T.z_isinstance PyProof.Rows.boot_isinstance (zaa (pv 0) (zaa (zbk rfl T.m_NoTurns rfl) zae))) (zaa (zaq zaI rfl T.z_isinstance PyProof.Rows.boot_isinstance (zaa (pv 0) (zaa (zbk rfl T.m_NoNumber rfl) zae))) zae))))))
 (zaf (zas (i:=1) zb1.nd rfl (Or.inl rfl) (zan zc5 (pv 1) (zbN (zaa (zaq zaI rfl T.z_isinstance PyProof.Rows.boot_isinstance (zaa (pv 0) (zaa (zbk rfl T.m_NoBoxes rfl) zae))) (zaa (zaq zaI rfl T.z_isinstance PyProof.Rows.boot_isinstance (zaa (pv 0) (zaa (zbk rfl T.m_NoBudget rfl) zae))) (zaa (zaq zaI rfl T.z_isinstance PyProof.Rows.boot_isinstance (zaa (pv 0) (zaa (zbk rfl T.m_NoName rfl) zae))) zae))))))
 (zaf (zas (i:=1) zb1.nd rfl (Or.inl rfl) (zan zc5 (pv 1) (zbN (zaa (zaq zaI rfl T.z_isinstance PyProof.Rows.boot_isinstance (zaa (pv 0) (zaa (zbk rfl T.m_NoOrder rfl) zae))) (zaa (zaq zaI rfl T.z_isinstance PyProof.Rows.boot_isinstance (zaa (pv 0) (zaa (zbk rfl T.m_NoPlay rfl) zae))) (zaa (zaq zaI rfl T.z_isinstance PyProof.Rows.boot_isinstance (zaa (pv 0) (zaa (zbk rfl T.m_NoRoad rfl) zae))) zae))))))
 (zaf (zas (i:=1) zb1.nd rfl (Or.inl rfl) (zan zc5 (pv 1) (zbN (zaa (zaq zaI rfl T.z_isinstance PyProof.Rows.boot_isinstance (zaa (pv 0) (zaa (zbk rfl T.m_NoRow rfl) zae))) (zaa (zaq zaI rfl T.z_isinstance PyProof.Rows.boot_isinstance (zaa (pv 0) (zaa (zbk rfl T.m_NoTable rfl) zae))) (zaa (zaq zaI rfl T.z_isinstance PyProof.Rows.boot_isinstance (zaa (pv 0) (zaa (zbk rfl T.m_NoPaper rfl) zae))) zae))))))
 (zaf (zbQ (zb8 (PW.pt (zdJ (zat zeq (zcw PySem.F.plainAttrs_list PySem.F.slot_list_count PySem.F.type_list_count zrJ (pv 1) (zaa zia zae)) zag (zaL _)) (zdg (zef (zf8 (zaq zaI rfl T.z_isinstance PyProof.Rows.boot_isinstance (zaa (pv 0) (zaa (zgB rfl T.z_ValueError zhW rfl) zae)))))))) (zaj (zaN (zjz zgc zag))) zaT))
 (zaj (zaN (zcw PySem.F.plainAttrs_list PySem.F.slot_list_index PySem.F.type_list_index zsl (pv 1) (zaa zia zae)))))))))))),
  zjy T.I h q⟩
theorem pow6:zk6 10 6:=⟨by decide,by decide,by decide⟩
theorem zvC:(0:Int)<4∧(Int.natAbs 4).log2<9000:=by decide +kernel
theorem at4 {a b c d r:Int} (h0:0≤r) (h1:r<4):∃ v:Int,atI [V.int a,V.int b,V.int c,V.int d] r=some (.int v)∧(v=a∨v=b∨v=c∨v=d):=by
 have:r=0∨r=1∨r=2∨r=3:=by omega
 rcases this with rfl | rfl | rfl | rfl
 ·exact ⟨a,rfl,by simp⟩
 ·exact ⟨b,rfl,by simp⟩
 ·exact ⟨c,rfl,by simp⟩
 ·exact ⟨d,rfl,by simp⟩
def zf6:Sp:=fun vs H Q _=>∃ n:Int,vs=[.int n]∧∀ (l:Int) (H':Hp),zaJ H H'→1≤l→l≤1000000→Q (.int l) H'
def zd6 (K:PySem.W.Frag):TS :=
 (zaz (zaU (tOp (rI (fun _ j=>0<j) fun i j=>.int (i % j)) (zac 0) (tC (.int 4))) (zai 1))
 (zaz (zaU (tOp (rI (fun _ j=>0<j∧j.natAbs.log2<9000) fun i j=>.int (i / j)) (zac 0) (tC (.int 4))) (zai 0))
 (zb9 (tOp (zcO K) (zdq (zab (tOp (rI0 fun i j=>.int (i+j)) (tC (.int 1)) (tOp (rI (fun _ j=>0<j) fun i j=>.int (i % j)) (zac 0) (tC (.int 9)))) (zab (tOp (rI0 fun i j=>.int (i+j)) (tC (.int 1)) (tOp (rI (fun _ j=>0<j) fun i j=>.int (i % j)) (zac 0) (tOp (rI zk6 fun i j=>.int (i ^ j.toNat)) (tC (.int 10)) (tC (.int 6))))) (zab (tOp (rI0 fun i j=>.int (i - j)) (tOp (rI zk6 fun i j=>.int (i ^ j.toNat)) (tC (.int 10)) (tC (.int 6))) (tOp (rI (fun _ j=>0<j) fun i j=>.int (i % j)) (zac 0) (tC (.int 3)))) (zab (tOp (rI0 fun i j=>.int (i+j)) (tC (.int 1)) (tOp (rI (fun _ j=>0<j) fun i j=>.int (i % j)) (zac 0) (tC (.int 2)))) zak))))) (zac 1)))))
theorem zim {n:Int} (q:∀ (l:Int) (H':Hp),zaJ H H'→1≤l→l≤1000000→Q (.int l) H') :
  zd6 K { nx:=fun _ H'=>Q .non H',rt:=Q } (L2.zbA ["_law_number","_law_way"] [.int n]) H:=by
 unfold zd6
 simp_all only [zac]
 obtain ⟨v,hv,hc⟩:=at4 (a:=1+n / 4 % 9) (b:=1+n / 4 % 1000000) (c:=1000000 - n / 4 % 3) (d:=1+n / 4 % 2) (r:=n % 4) (by omega) (by omega)
 refine ⟨by decide,zvC.1,zvC.2,by decide,pow6,by decide,pow6,by decide,by decide,by decide,fun p hp=>?_⟩
 refine ⟨_,SqL.of zad,_,hv,?_⟩
 exact q v _ (zah hp _) (by omega) (by omega)
theorem zdF:zaK ["_law_number","_law_way"] ["_law_number"] (zam zea):=⟨rfl,rfl,rfl,by decide +kernel,rfl,by decide +kernel,by decide +kernel⟩
theorem zil (T:Txt K mg base a):zc8 P w K mg base CX0 1 a.f__law_length a.d__law_length ["_law_number"] zf6:=by
 refine T.F__law_length.ok zdF (fun vs H Q E h=>?_) (fun cdv A outer s H vs Q E hr h=>?_)
 ·obtain ⟨n,rfl,q⟩:=h
  rfl
 obtain ⟨n,rfl,q⟩:=h
 exact ⟨zd6 K,(zaf (zas (i:=1) zdF.nd rfl (Or.inl rfl) (zan za4 (pv 0) zag))
 (zaf (zas (i:=0) zdF.nd rfl (Or.inl rfl) (zan zbM (pv 0) zag))
 (zaj (zaN (zbO zaX (zbN (zaa (zan za0 zag (zan za4 (pv 0) zag)) (zaa (zan za0 zag (zan za4 (pv 0) (zan zhN zag zag))) (zaa (zan zgU (zan zhN zag zag) (zan za4 (pv 0) zag)) (zaa (zan za0 zag (zan za4 (pv 0) zag)) zae))))) (pv 1) (fun _ _=>rfl)))))),
  zim q⟩
theorem seqIx {i:Int} {n:Nat} (h0:0≤i) (h1:i<n):PySem.seqIndex? i n=some i.toNat:=by
 unfold PySem.seqIndex?
 have e:¬ i<0:=by omega
 simp [e,h0,h1]
def zoX (m:Int):List Int:=(List.range m.toNat).map fun k:Nat=>(k:Int)
theorem zmr {m x:Int}:x∈zoX m↔0≤x∧x<m:=by
 unfold zoX
 rw [List.mem_map]
 constructor
 ·rintro ⟨k,hk,rfl⟩
  have:=List.mem_range.mp hk
  omega
 ·rintro ⟨h0,h1⟩
  exact ⟨x.toNat,List.mem_range.mpr (by omega),by omega⟩
theorem znY {m:Int}:(zoX m).Nodup:=by
 unfold zoX
 refine List.nodup_iff_pairwise_ne.mpr (List.pairwise_map.mpr ((List.nodup_iff_pairwise_ne.mp List.nodup_range).imp fun h e=>h ?_))
 omega
theorem zqo {m:Int} (h:1≤m):zoX m=0::(List.range (m - 1).toNat).map fun k:Nat=>1+(k:Int):=by
 unfold zoX
 rw [show m.toNat=(m - 1).toNat+1 by omega,List.range_succ_eq_map,List.map_cons,List.map_map]
 refine congrArg (List.cons 0) (List.map_congr_left fun k _=>?_)
 simp only [Function.comp]
 omega
theorem zkB {α β:Type} (f:α→β):∀ (l:List α) (k:Nat),(l.map f).eraseIdx k=(l.eraseIdx k).map f
 | [],k=>by simp
 | x::l,0=>rfl
 | x::l,k+1=>by
  rw [List.map_cons,List.eraseIdx_cons_succ,List.eraseIdx_cons_succ,List.map_cons,zkB f l k]
theorem znw {α:Type} {l:List α} {k:Nat} {x:α} (h:l[k]?=some x):(x::l.eraseIdx k).Perm l:=by
 induction l generalizing k with
 | nil=>simp at h
 | cons y l ih =>
  cases k with
  | zero =>
   simp only [List.getElem?_cons_zero,Option.some.injEq] at h
   subst h
   exact .refl _
  | succ k =>
   rw [List.getElem?_cons_succ] at h
   rw [List.eraseIdx_cons_succ]
   exact (List.Perm.swap y x _).trans ((ih h).cons y)
theorem zsr {α:Type} {l:List α} (nd:l.Nodup) {i j:Nat} {x y:α} (h1:l[i]?=some x) (h2:l[j]?=some y) (c:i<j):x≠y:=by
 obtain ⟨l1,e1⟩:=List.getElem?_eq_some_iff.mp h1
 obtain ⟨l2,e2⟩:=List.getElem?_eq_some_iff.mp h2
 rw [← e1,← e2]
 exact List.pairwise_iff_getElem.mp (List.nodup_iff_pairwise_ne.mp nd) i j l1 l2 c
theorem at2 {x y:V} {r:Int} (h0:0≤r) (h1:r<2):∃ v,atI [x,y] r=some v∧(v=x∨v=y):=by
 have:r=0∨r=1:=by omega
 rcases this with rfl | rfl
 ·exact ⟨x,rfl,.inl rfl⟩
 ·exact ⟨y,rfl,.inr rfl⟩
theorem zpt:(0:Int)<3600∧(Int.natAbs 3600).log2<9000:=by decide +kernel
theorem zs0:(0:Int)<100∧(Int.natAbs 100).log2<9000:=by decide +kernel
theorem zwB:(0:Int)<2∧(Int.natAbs 2).log2<9000:=by decide +kernel
def zlA (ls:List Int) (rs:List zcd) (n:Nat):Prop:=∀ k,1≤k→k≤n→∃ r∈rs,∃ j,j<k∧((ls[k]?=some r.1∧ls[j]?=some r.2.1)∨(ls[k]?=some r.2.1∧ls[j]?=some r.1))
theorem zlA.conn {ls:List Int} {rs:List zcd} {n:Nat} {m:Int} (h:zlA ls rs n) (hm:m=n+1) (hp:ls.Perm (zoX m)) (h0:ls[0]?=some 0):zsC m rs:=by
 intro S s0 sc x x0 x1
 have hl:ls.length=n+1:=by
  rw [hp.length_eq]
  unfold zoX
  rw [List.length_map,List.length_range]
  omega
 have z:∀ (k:Nat) (y:Int),ls[k]?=some y→S y:=by
  intro k
  induction k using Nat.strongRecOn with
  | ind k ih =>
   intro y hy
   cases k with
   | zero =>
    rw [h0] at hy
    cases hy
    exact s0
   | succ k =>
    have lk:=(List.getElem?_eq_some_iff.mp hy).1
    obtain ⟨r,hr,j,hj,c⟩:=h (k+1) (by omega) (by omega)
    rcases c with ⟨c1,c2⟩ | ⟨c1,c2⟩
    ·rw [hy] at c1
     cases c1
     exact (sc r hr (.inr (ih j hj _ c2))).1
    ·rw [hy] at c1
     cases c1
     exact (sc r hr (.inl (ih j hj _ c2))).2
 have hx:x∈ls:=hp.mem_iff.mpr (zmr.mpr ⟨x0,x1⟩)
 obtain ⟨k,hk⟩:=List.getElem?_of_mem hx
 exact z k x hk
theorem zlA.mono {ls:List Int} {rs rs':List zcd} {n:Nat} (h:zlA ls rs n) (hs:∀ r∈rs,r∈rs'):zlA ls rs' n:=fun k k1 kn=>by
 obtain ⟨r,hr,c⟩:=h k k1 kn
 exact ⟨r,hs r hr,c⟩
def zfE {α:Type} (l:List α) (k:Nat) (x:α):List α:=l.take k++x::l.drop k
theorem zjX {α β:Type} (f:α→β) (l:List α) (k:Nat) (x:α):(zfE l k x).map f=zfE (l.map f) k (f x):=by
 unfold zfE
 rw [List.map_append,List.map_cons,List.map_take,List.map_drop]
theorem zeu {α:Type} {l:List α} {k:Nat} {x y:α}:y∈zfE l k x↔y=x∨y∈l:=by
 unfold zfE
 rw [List.mem_append,List.mem_cons]
 constructor
 ·rintro (h | h | h)
  ·exact .inr (List.mem_of_mem_take h)
  ·exact .inl h
  ·exact .inr (List.mem_of_mem_drop h)
 ·rintro (h | h)
  ·exact .inr (.inl h)
  ·rw [← List.take_append_drop k l] at h
   rcases List.mem_append.mp h with h | h
   ·exact .inl h
   ·exact .inr (.inr h)
theorem zen {α:Type} {l:List α} {k:Nat} {x:α} (h:k≤l.length):(zfE l k x).length=l.length+1:=by
 unfold zfE
 rw [List.length_append,List.length_cons,List.length_take,List.length_drop]
 omega
theorem zmt {α:Type} {l:List α} {k:Nat} {x:α} (h:k≤l.length) (i:Nat):(zfE l k x)[i]?=if i<k then l[i]? else if i=k then some x else l[i - 1]?:=by
 unfold zfE
 have lt:(l.take k).length=k:=by rw [List.length_take];omega
 by_cases c:i<k
 ·rw [if_pos c,List.getElem?_append_left (by omega),List.getElem?_take_of_lt c]
 ·rw [if_neg c,List.getElem?_append_right (by omega),lt]
  by_cases c2:i=k
  ·subst c2
   rw [if_pos rfl,Nat.sub_self]
   rfl
  ·rw [if_neg c2,show i - k=(i - k - 1)+1 by omega,List.getElem?_cons_succ,List.getElem?_drop]
   congr 1
   omega
theorem Tps.ins {α:Type} {f:α→List V} {H:Hp} {ts:List Addr} {bs:List α} {t:Addr} {b:α} {k:Nat} (h:Tps f H ts bs) (hk:k≤ts.length) (e:H t=some (.tup (f b))):Tps f H (zfE ts k t) (zfE bs k b):=by
 have hk':k≤bs.length:=by rw [← h.1];exact hk
 refine ⟨by rw [zen hk,zen hk',h.1],fun i x y e1 e2=>?_⟩
 rw [zmt hk] at e1
 rw [zmt hk'] at e2
 split at e1
 ·rename_i c
  rw [if_pos c] at e2
  exact h.2 i x y e1 e2
 ·rename_i c
  rw [if_neg c] at e2
  split at e1
  ·rename_i c2
   rw [if_pos c2] at e2
   cases e1
   cases e2
   exact e
  ·rename_i c2
   rw [if_neg c2] at e2
   exact h.2 _ x y e1 e2
def zvs (K:PySem.W.Frag):Sp:=fun vs H Q _=>∃ (p:Addr) (ns:List Int) (st mo ex:Int),vs=[.ref p,.int st,.int mo,.int ex]∧SqL K H p (ns.map V.int)∧ns.length≤63∧0≤st∧st≤10000∧1≤mo∧mo≤60∧0≤ex∧ex≤20 ∧
 ∀ (w rl:Addr) (ts:List Addr) (m:Int) (rs:List zcd) (H':Hp),zaJ H H'→zjJ H' w rl ts m rs→GW m rs→m≤mo→(rs.length:Int)≤m - 1+ex→m - 1≤(rs.length:Int)→Q (.ref w) H'
def zeL (K:PySem.W.Frag):TS :=
 (zcn (zav (tOp rNe (zac 14) (zac 15))) (zc7 (tBM K "list" zgv (zac 9) (zab (tOp (rI (fun _ j=>0<j) fun i j=>.int (i % j)) (tOp (rI (fun _ j=>0<j∧j.natAbs.log2<9000) fun i j=>.int (i / j)) (zac 10) (tC (.int 3600))) (tOp (rI0 fun i j=>.int (i+j)) (tCB (fun xs H Q=>∃ p ys,xs=[.ref p]∧(SqL K H p ys∨SqT K H p ys)∧Q (.int ys.length) H) (zab (zac 9) zak)) (tC (.int 1)))) (zab (zib (zab (zac 14) (zab (zac 15) (zab (zaH zf6 [] E0 (zab (tOp (rI (fun _ j=>0<j∧j.natAbs.log2<9000) fun i j=>.int (i / j)) (zac 10) (tC (.int 100))) zak)) zak)))) zak)))) zaZ)
theorem zbr (K:PySem.W.Frag) (D:zce) (σ:St) (H:Hp):zeL K D σ H=(zcn (zav (tOp rNe (zac 14) (zac 15))) (zc7 (tBM K "list" zgv (zac 9) (zab (tOp (rI (fun _ j=>0<j) fun i j=>.int (i % j)) (tOp (rI (fun _ j=>0<j∧j.natAbs.log2<9000) fun i j=>.int (i / j)) (zac 10) (tC (.int 3600))) (tOp (rI0 fun i j=>.int (i+j)) (tCB (fun xs H Q=>∃ p ys,xs=[.ref p]∧(SqL K H p ys∨SqT K H p ys)∧Q (.int ys.length) H) (zab (zac 9) zak)) (tC (.int 1)))) (zab (zib (zab (zac 14) (zab (zac 15) (zab (zaH zf6 [] E0 (zab (tOp (rI (fun _ j=>0<j∧j.natAbs.log2<9000) fun i j=>.int (i / j)) (zac 10) (tC (.int 100))) zak)) zak)))) zak)))) zaZ) D σ H:=rfl
def zeo (K:PySem.W.Frag):TS :=
 (zaz (tPar 14 15 (zab (tOp (rI (fun _ j=>0<j) fun i j=>.int (i % j)) (zac 10) (zac 4)) (zab (tOp (rI (fun _ j=>0<j) fun i j=>.int (i % j)) (tOp (rI (fun _ j=>0<j∧j.natAbs.log2<9000) fun i j=>.int (i / j)) (zac 10) (zac 4)) (zac 4)) zak)))
 (zeL K))
theorem zbs (K:PySem.W.Frag) (D:zce) (σ:St) (H:Hp):zeo K D σ H=(zaz (tPar 14 15 (zab (tOp (rI (fun _ j=>0<j) fun i j=>.int (i % j)) (zac 10) (zac 4)) (zab (tOp (rI (fun _ j=>0<j) fun i j=>.int (i % j)) (tOp (rI (fun _ j=>0<j∧j.natAbs.log2<9000) fun i j=>.int (i / j)) (zac 10) (zac 4)) (zac 4)) zak)))
 (zeL K)) D σ H:=rfl
def zeT (K:PySem.W.Frag):TS :=
 (zaz (zaU (zaH (zbg K) [] E0 (zab (zac 0) (zab (tOp (rI0 fun i j=>.int (i+j)) (tOp (rI0 fun i j=>.int (i+j)) (zac 1) (tC (.int 181))) (zac 8)) zak))) (zai 10))
 (zeo K))
theorem zaD (K:PySem.W.Frag) (D:zce) (σ:St) (H:Hp):zeT K D σ H=(zaz (zaU (zaH (zbg K) [] E0 (zab (zac 0) (zab (tOp (rI0 fun i j=>.int (i+j)) (tOp (rI0 fun i j=>.int (i+j)) (zac 1) (tC (.int 181))) (zac 8)) zak))) (zai 10))
 (zeo K)) D σ H:=rfl
def zem (K:PySem.W.Frag):TS :=
 (zc7 (tBM K "list" zgv (zac 9) (zab (zac 13) (zab (tOp (zrs K) (zac 12) (zib (zab (zaH zf6 [] E0 (zab (tOp (rI (fun _ j=>0<j∧j.natAbs.log2<9000) fun i j=>.int (i / j)) (tOp (rI (fun _ j=>0<j∧j.natAbs.log2<9000) fun i j=>.int (i / j)) (zac 10) (zac 8)) (tC (.int 2))) zak)) zak))) zak))))
theorem zbu (K:PySem.W.Frag) (D:zce) (σ:St) (H:Hp):zem K D σ H=(zc7 (tBM K "list" zgv (zac 9) (zab (zac 13) (zab (tOp (zrs K) (zac 12) (zib (zab (zaH zf6 [] E0 (zab (tOp (rI (fun _ j=>0<j∧j.natAbs.log2<9000) fun i j=>.int (i / j)) (tOp (rI (fun _ j=>0<j∧j.natAbs.log2<9000) fun i j=>.int (i / j)) (zac 10) (zac 8)) (tC (.int 2))) zak)) zak))) zak)))) D σ H:=rfl
def zet (K:PySem.W.Frag):TS :=
 (zaz (zaU (tOp (rI (fun _ j=>0<j) fun i j=>.int (i % j)) (zaH (zbg K) [] E0 (zab (zac 0) (zab (tOp (rI0 fun i j=>.int (i+j)) (tOp (rI0 fun i j=>.int (i+j)) (zac 1) (tC (.int 120))) (zac 8)) zak))) (tOp (rI0 fun i j=>.int (i+j)) (tCB (fun xs H Q=>∃ p ys,xs=[.ref p]∧(SqL K H p ys∨SqT K H p ys)∧Q (.int ys.length) H) (zab (zac 9) zak)) (tC (.int 1)))) (zai 13))
 (zem K))
theorem zbp (K:PySem.W.Frag) (D:zce) (σ:St) (H:Hp):zet K D σ H=(zaz (zaU (tOp (rI (fun _ j=>0<j) fun i j=>.int (i % j)) (zaH (zbg K) [] E0 (zab (zac 0) (zab (tOp (rI0 fun i j=>.int (i+j)) (tOp (rI0 fun i j=>.int (i+j)) (zac 1) (tC (.int 120))) (zac 8)) zak))) (tOp (rI0 fun i j=>.int (i+j)) (tCB (fun xs H Q=>∃ p ys,xs=[.ref p]∧(SqL K H p ys∨SqT K H p ys)∧Q (.int ys.length) H) (zab (zac 9) zak)) (tC (.int 1)))) (zai 13))
 (zem K)) D σ H:=rfl
def zeZ (K:PySem.W.Frag):TS :=
 (zaz (zaU (tOp (zcO K) (zdq (zab (zib (zab (tOp (zcO K) (zac 6) (zac 8)) (zab (zac 11) zak))) (zab (zib (zab (zac 11) (zab (tOp (zcO K) (zac 6) (zac 8)) zak))) zak))) (tOp (rI (fun _ j=>0<j) fun i j=>.int (i % j)) (tOp (rI (fun _ j=>0<j∧j.natAbs.log2<9000) fun i j=>.int (i / j)) (zac 10) (zac 8)) (tC (.int 2)))) (zai 12))
 (zet K))
theorem zbq (K:PySem.W.Frag) (D:zce) (σ:St) (H:Hp):zeZ K D σ H=(zaz (zaU (tOp (zcO K) (zdq (zab (zib (zab (tOp (zcO K) (zac 6) (zac 8)) (zab (zac 11) zak))) (zab (zib (zab (zac 11) (zab (tOp (zcO K) (zac 6) (zac 8)) zak))) zak))) (tOp (rI (fun _ j=>0<j) fun i j=>.int (i % j)) (tOp (rI (fun _ j=>0<j∧j.natAbs.log2<9000) fun i j=>.int (i / j)) (zac 10) (zac 8)) (tC (.int 2)))) (zai 12))
 (zet K)) D σ H:=rfl
def zeC (K:PySem.W.Frag):TS :=
 (zaz (zaU (tOp (zcO K) (zac 6) (tOp (zcO K) (zdq (zab (tOp (rI (fun _ j=>0<j) fun i j=>.int (i % j)) (zac 10) (zac 8)) (zab (tOp (rI0 fun i j=>.int (i - j)) (zac 8) (tC (.int 1))) (zab (tC (.int 0)) (zab (tOp (rI (fun _ j=>0<j) fun i j=>.int (i % j)) (zac 10) (tCB (fun xs H Q=>∃ i j,xs=[.int i,.int j]∧Q (.int (if j<i then j else i)) H) (zab (zac 8) (zab (tC (.int 3)) zak)))) zak))))) (zac 5))) (zai 11))
 (zeZ K))
theorem zbv (K:PySem.W.Frag) (D:zce) (σ:St) (H:Hp):zeC K D σ H=(zaz (zaU (tOp (zcO K) (zac 6) (tOp (zcO K) (zdq (zab (tOp (rI (fun _ j=>0<j) fun i j=>.int (i % j)) (zac 10) (zac 8)) (zab (tOp (rI0 fun i j=>.int (i - j)) (zac 8) (tC (.int 1))) (zab (tC (.int 0)) (zab (tOp (rI (fun _ j=>0<j) fun i j=>.int (i % j)) (zac 10) (tCB (fun xs H Q=>∃ i j,xs=[.int i,.int j]∧Q (.int (if j<i then j else i)) H) (zab (zac 8) (zab (tC (.int 3)) zak)))) zak))))) (zac 5))) (zai 11))
 (zeZ K)) D σ H:=rfl
def zeS (K:PySem.W.Frag):TS :=
 (zaz (zaU (zaH (zbg K) [] E0 (zab (zac 0) (zab (tOp (rI0 fun i j=>.int (i+j)) (tOp (rI0 fun i j=>.int (i+j)) (zac 1) (tC (.int 60))) (zac 8)) zak))) (zai 10))
 (zeC K))
theorem zaC (K:PySem.W.Frag) (D:zce) (σ:St) (H:Hp):zeS K D σ H=(zaz (zaU (zaH (zbg K) [] E0 (zab (zac 0) (zab (tOp (rI0 fun i j=>.int (i+j)) (tOp (rI0 fun i j=>.int (i+j)) (zac 1) (tC (.int 60))) (zac 8)) zak))) (zai 10))
 (zeC K)) D σ H:=rfl
def zeV (K:PySem.W.Frag):TS :=
 (zaz (zfV (zel (zab (tOp (rI (fun _ j=>0<j) fun i j=>.int (i % j)) (zaH (zbg K) [] E0 (zab (zac 0) (zab (tOp (rI0 fun i j=>.int (i+j)) (zac 1) (tC (.int 180))) zak))) (tOp (rI0 fun i j=>.int (i+j)) (zac 3) (tC (.int 1)))) zak)) (zai 8)
 (zeT K))
 (zb9 (zib (zab (zac 4) (zab (zac 9) zak)))))
theorem zaE (K:PySem.W.Frag) (D:zce) (σ:St) (H:Hp):zeV K D σ H=(zaz (zfV (zel (zab (tOp (rI (fun _ j=>0<j) fun i j=>.int (i % j)) (zaH (zbg K) [] E0 (zab (zac 0) (zab (tOp (rI0 fun i j=>.int (i+j)) (zac 1) (tC (.int 180))) zak))) (tOp (rI0 fun i j=>.int (i+j)) (zac 3) (tC (.int 1)))) zak)) (zai 8)
 (zeT K))
 (zb9 (zib (zab (zac 4) (zab (zac 9) zak))))) D σ H:=rfl
def zeK (K:PySem.W.Frag):TS :=
 (zc7 (tBM K "list" zbw (zac 6) (zab (tBM K "list" zmA (zac 7) (zab (tOp (rI (fun _ j=>0<j) fun i j=>.int (i % j)) (zaH (zbg K) [] E0 (zab (zac 0) (zab (tOp (rI0 fun i j=>.int (i+j)) (tOp (rI0 fun i j=>.int (i+j)) (zac 1) (tC (.int 1))) (zac 8)) zak))) (tCB (fun xs H Q=>∃ p ys,xs=[.ref p]∧(SqL K H p ys∨SqT K H p ys)∧Q (.int ys.length) H) (zab (zac 7) zak))) zak)) zak)))
theorem zaB (K:PySem.W.Frag) (D:zce) (σ:St) (H:Hp):zeK K D σ H=(zc7 (tBM K "list" zbw (zac 6) (zab (tBM K "list" zmA (zac 7) (zab (tOp (rI (fun _ j=>0<j) fun i j=>.int (i % j)) (zaH (zbg K) [] E0 (zab (zac 0) (zab (tOp (rI0 fun i j=>.int (i+j)) (tOp (rI0 fun i j=>.int (i+j)) (zac 1) (tC (.int 1))) (zac 8)) zak))) (tCB (fun xs H Q=>∃ p ys,xs=[.ref p]∧(SqL K H p ys∨SqT K H p ys)∧Q (.int ys.length) H) (zab (zac 7) zak))) zak)) zak))) D σ H:=rfl
def zd7 (K:PySem.W.Frag):TS :=
 (zaz (zaU (zdq zak) (zai 9))
 (zaz (zfV (zrE (zab (tC (.int 1)) (zab (zac 4) zak))) (zai 8)
 (zeS K))
 (zeV K)))
theorem zax (K:PySem.W.Frag) (D:zce) (σ:St) (H:Hp):zd7 K D σ H=(zaz (zaU (zdq zak) (zai 9))
 (zaz (zfV (zrE (zab (tC (.int 1)) (zab (zac 4) zak))) (zai 8)
 (zeS K))
 (zeV K))) D σ H:=rfl
def zd4 (K:PySem.W.Frag):TS :=
 (zaz (zaU (tCB zhd (zab (zr5 (zab (tC (.int 1)) (zab (zac 4) zak))) zak)) (zai 7))
 (zaz (zfV (zel (zab (tOp (rI0 fun i j=>.int (i - j)) (zac 4) (tC (.int 1))) zak)) (zai 8)
 (zeK K))
 (zd7 K)))
theorem zbf (K:PySem.W.Frag) (D:zce) (σ:St) (H:Hp):zd4 K D σ H=(zaz (zaU (tCB zhd (zab (zr5 (zab (tC (.int 1)) (zab (zac 4) zak))) zak)) (zai 7))
 (zaz (zfV (zel (zab (tOp (rI0 fun i j=>.int (i - j)) (zac 4) (tC (.int 1))) zak)) (zai 8)
 (zeK K))
 (zd7 K))) D σ H:=rfl
def zge (K:PySem.W.Frag):TS :=
 (zaz (zaU (tOp (rI (fun _ j=>0<j) fun i j=>.int (i % j)) (tOp (rI (fun _ j=>0<j∧j.natAbs.log2<9000) fun i j=>.int (i / j)) (zaH (zbg K) [] E0 (zab (zac 0) (zab (zac 1) zak))) (zac 2)) (tC (.int 4))) (zai 5))
 (zaz (zaU (zdq (zab (tC (.int 0)) zak)) (zai 6))
 (zd4 K)))
theorem zbe (K:PySem.W.Frag) (D:zce) (σ:St) (H:Hp):zge K D σ H=(zaz (zaU (tOp (rI (fun _ j=>0<j) fun i j=>.int (i % j)) (tOp (rI (fun _ j=>0<j∧j.natAbs.log2<9000) fun i j=>.int (i / j)) (zaH (zbg K) [] E0 (zab (zac 0) (zab (zac 1) zak))) (zac 2)) (tC (.int 4))) (zai 5))
 (zaz (zaU (zdq (zab (tC (.int 0)) zak)) (zai 6))
 (zd4 K))) D σ H:=rfl
def zgO (K:PySem.W.Frag):TS :=
 (zaz (zaU (tOp (rI0 fun i j=>.int (i+j)) (tC (.int 1)) (tOp (rI (fun _ j=>0<j) fun i j=>.int (i % j)) (zaH (zbg K) [] E0 (zab (zac 0) (zab (zac 1) zak))) (zac 2))) (zai 4))
 (zge K))
theorem zmh {p:Addr} {ns:List Int} {st mo ex:Int} (hS:SqL K H p (ns.map V.int)) (hl:ns.length≤63) (st0:0≤st) (st1:st≤10000) (mo1:1≤mo) (mo60:mo≤60) (ex0:0≤ex) (ex20:ex≤20)
  (q:∀ (w rl:Addr) (ts:List Addr) (m:Int) (rs:List zcd) (H':Hp),zaJ H H'→zjJ H' w rl ts m rs→GW m rs→m≤mo→(rs.length:Int)≤m - 1+ex→m - 1≤(rs.length:Int)→Q (.ref w) H') :
  zgO K { nx:=fun _ H'=>Q .non H',rt:=Q } (L2.zbA ["_law_script","_law_start","_law_most","_law_extra","_law_many","_law_shape","_law_labels","_law_left","_law_k","_law_roads","_law_number","_law_other","_law_ends","_law_at","_law_a","_law_b"] [.ref p,.int st,.int mo,.int ex]) H:=by
 unfold zgO
 simp_all only [zaD,zaC,zaE,zaB,zax,zac]
 refine ⟨p,ns,st,rfl,hS,hl,st0,by omega,fun r1 r10 r11=>?_⟩
 refine ⟨_,rfl,by omega,?_⟩
 have m1:1≤1+r1 % mo:=by have:=Int.emod_nonneg r1 (show mo≠0 by omega);omega
 have m2:1+r1 % mo≤mo:=by have:=Int.emod_lt_of_pos r1 (show 0<mo by omega);omega
 generalize 1+r1 % mo=m at m1 m2 ⊢
 (try simp only);first | rw [zbr] | rw [zbs] | rw [zbu] | rw [zbp] | rw [zbq] | rw [zbv] | rw [zbf] | rw [zbe]
 simp_all only [zaD,zaC,zaE,zaB,zax,zac]
 refine ⟨p,ns,st,rfl,hS,hl,st0,by omega,fun r2 r20 r21=>?_⟩
 refine ⟨_,rfl,by omega,zmq 6 (by omega) (show mo.natAbs<64 by omega),by decide,?_⟩
 have sh0:0≤r2 / mo % 4:=by omega
 have sh4:r2 / mo % 4<4:=by omega
 generalize r2 / mo % 4=shp at sh0 sh4 ⊢
 refine ⟨by decide,fun lab hlab=>?_⟩
 (try simp only);first | rw [zbr] | rw [zbs] | rw [zbu] | rw [zbp] | rw [zbq] | rw [zbv] | rw [zbf] | rw [zbe]
 simp_all only [zaD,zaC,zaE,zaB,zax,zac]
 refine ⟨by decide,by decide,by omega,by omega,fun rg hrg=>⟨1,m,zad,by decide,by decide,by omega,by omega,by omega,fun lef hlef=>?_⟩⟩
 refine ⟨by omega,by omega,?_⟩
 have hlef0:H lef=none:=((zaJ.refl H).add hlab).add hrg |>.free hlef
 have hne:lab≠lef:=zar (show (L2.upd (L2.upd H lab (.lst [V.int 0])) rg (.rng 1 m)) lab=some (.lst [V.int 0]) by rw [zal (zar zad hrg)];exact zad) hlef
 refine zcl (fun i σ H'=>zaJ H H'∧∃ (ls lf:List Int) (x:Option V),H' lab=some (.lst (ls.map V.int))∧H' lef=some (.lst (lf.map V.int))∧(ls++lf).Perm (zoX m)∧ls.length=i+1∧ls[0]?=some 0 ∧
  σ=[some (.ref p),some (.int st),some (.int mo),some (.int ex),some (.int m),some (.int shp),some (.ref lab),some (.ref lef),x,none,none,none,none,none,none,none]) ?_ ?_ ?_
 ·refine ⟨(((zaJ.refl H).add hlab).add hrg).add hlef,[0],(List.range (m - 1).toNat).map (fun k:Nat=>1+(k:Int)),_,?_,?_,?_,rfl,rfl,rfl⟩
  ·rw [zal hne,zal (zar zad hrg)]
   exact zad
  ·rw [zad,List.map_map]
   rfl
  ·rw [zqo m1]
   exact .refl _
 ·rintro i σ H1 hi ⟨s1,ls,lf,x,h1,h2,hp,ll,l0,rfl⟩
  have lt:ls.length+lf.length=m.toNat:=by
   have:=hp.length_eq
   rw [List.length_append] at this
   rw [this]
   unfold zoX
   rw [List.length_map,List.length_range]
  simp_all only [zaD,zaC,zaE,zaB,zax,zac]
  refine ⟨.inl ⟨rfl,_,SqL.of h1⟩,.inl ⟨rfl,_,SqL.of h2⟩,?_⟩
  refine ⟨p,ns,_,rfl,s1.seq hS,hl,by omega,by omega,fun r3 r30 r31=>?_⟩
  refine ⟨_,.inl (SqL.of h2),_,rfl,?_⟩
  rw [List.length_map]
  have z0:=Int.emod_nonneg r3 (show (lf.length:Int)≠0 by omega)
  have z1:=Int.emod_lt_of_pos r3 (show 0<(lf.length:Int) by omega)
  generalize r3 % (lf.length:Int)=k at z0 z1
  have hk:k.toNat<lf.length:=by omega
  have ek:lf[k.toNat]?=some lf[k.toNat]:=List.getElem?_eq_getElem hk
  refine ⟨by omega,_,h2,by omega,by omega,_,seqIx z0 (by rw [List.length_map];exact z1),.int lf[k.toNat],by rw [List.getElem?_map,ek];rfl,_,by rw [zal hne];exact h1,zkW (by rw [List.length_map];omega),?_,ls++[lf[k.toNat]],?_,lf.eraseIdx k.toNat,?_,?_,by rw [List.length_append,ll];rfl,?_⟩
  ·exact (s1.put hlef0).put hlab
  ·rw [zad,List.map_append]
   rfl
  ·rw [zal hne.symm,zad,zkB]
  ·rw [List.append_assoc]
   exact (List.Perm.append_left ls (znw ek)).trans hp
  ·rw [List.getElem?_append_left (by omega)]
   exact l0
 ·rintro σ H1 ⟨s1,ls,lf,x,h1,h2,hp,ll,l0,rfl⟩
  have lt:ls.length+lf.length=m.toNat:=by
   have:=hp.length_eq
   rw [List.length_append] at this
   rw [this]
   unfold zoX
   rw [List.length_map,List.length_range]
  have lf0:lf=[]:=List.eq_nil_of_length_eq_zero (by omega)
  rw [lf0,List.append_nil] at hp
  have gl:∀ x∈ls,0≤x∧x<m:=fun x hx=>zmr.mp (hp.mem_iff.mp hx)
  have nd:ls.Nodup:=hp.nodup_iff.mpr znY
  clear h2
  simp_all only [zaD,zaC,zaE,zaB,zax,zac]
  refine ⟨by decide,fun rl hrl=>?_⟩
  refine ⟨by decide,by decide,by omega,by omega,?_⟩
  have n1:rl≠lab:=(zar h1 hrl).symm
  refine zcl (fun i σ H'=>zaJ H1 H'∧∃ (ts:List Addr) (rs:List zcd),H' rl=some (.lst (ts.map V.ref))∧Tps rdv (Off rl rl H') ts rs∧rs.length=i∧(∀ r∈rs,GR m r)∧zlA ls rs i ∧
   ∃ x1 x2 x3 x4 x5,σ=[some (.ref p),some (.int st),some (.int mo),some (.int ex),some (.int m),some (.int shp),some (.ref lab),some (.ref lef),x1,some (.ref rl),x2,x3,x4,x5,none,none]) ?_ ?_ ?_
  ·exact ⟨zah hrl _,[],[],zad,.nil,rfl,by simp,fun k k1 k2=>by omega,_,_,_,_,_,rfl⟩
  ·rintro i σ H2 hi ⟨s2,ts,rs,hr2,ht2,lr,gr,jn,x1,x2,x3,x4,x5,rfl⟩
   have hS2:=s2.seq (s1.seq hS)
   simp_all only [zaD,zaC,zaE,zaB,zax,zac]
   refine ⟨p,ns,_,rfl,hS2,hl,by omega,by omega,fun n n0 n1'=>?_⟩
   have em:(if (3:Int)<1+(i:Int) then (3:Int) else 1+(i:Int))≤1+(i:Int)∧0<(if (3:Int)<1+(i:Int) then (3:Int) else 1+(i:Int)):=by split <;> omega
   (try simp only);first | rw [zbr] | rw [zbs] | rw [zbu] | rw [zbp] | rw [zbq] | rw [zbv] | rw [zbf] | rw [zbe]
   simp_all only [zaD,zaC,zaE,zaB,zax,zac]
   generalize (if (3:Int)<1+(i:Int) then (3:Int) else 1+(i:Int))=mn at em ⊢
   refine ⟨by omega,em.2,by decide,fun a1 ha1=>?_⟩
   have s3:=zah ha1 (.lst [V.int (n % (1+(i:Int))),V.int (1+(i:Int) - 1),V.int 0,V.int (n % mn)])
   have h3:(L2.upd H2 a1 (.lst [V.int (n % (1+(i:Int))),V.int (1+(i:Int) - 1),V.int 0,V.int (n % mn)])) a1=some (.lst [V.int (n % (1+(i:Int))),V.int (1+(i:Int) - 1),V.int 0,V.int (n % mn)]):=zad
   generalize L2.upd H2 a1 (.lst [V.int (n % (1+(i:Int))),V.int (1+(i:Int) - 1),V.int 0,V.int (n % mn)])=H3 at s3 h3 ⊢
   obtain ⟨jx,hj,hjc⟩:=at4 (a:=n % (1+(i:Int))) (b:=1+(i:Int) - 1) (c:=0) (d:=n % mn) sh0 sh4
   have j0:0≤jx∧jx<1+(i:Int):=by
    have z1:=Int.emod_nonneg n (show (1+(i:Int))≠0 by omega)
    have z2:=Int.emod_lt_of_pos n (show 0<(1+(i:Int)) by omega)
    have z3:=Int.emod_nonneg n (show mn≠0 by omega)
    have z4:=Int.emod_lt_of_pos n (show 0<mn by omega)
    omega
   clear hjc
   obtain ⟨ot,ho,ho2⟩:=zmG (ns:=ls) j0.1 (by omega)
   obtain ⟨me,hm,hm2⟩:=zmG (ns:=ls) (k:=1+(i:Int)) (by omega) (by omega)
   have h13:=s3 _ _ (s2 _ _ h1)
   refine ⟨_,SqL.of h3,_,hj,_,_,rfl,SqL.of h13,_,ho,?_⟩
   (try simp only);first | rw [zbr] | rw [zbs] | rw [zbu] | rw [zbp] | rw [zbq] | rw [zbv] | rw [zbf] | rw [zbe]
   simp_all only [zaD,zaC,zaE,zaB,zax,zac]
   refine ⟨_,SqL.of h13,_,hm,by decide,fun a2 ha2=>?_⟩
   have s4:=zah ha2 (.tup [V.int me,V.int ot])
   have h4:(L2.upd H3 a2 (.tup [V.int me,V.int ot])) a2=some (.tup [V.int me,V.int ot]):=zad
   generalize L2.upd H3 a2 (.tup [V.int me,V.int ot])=H4 at s4 h4 ⊢
   have h14:=s4 _ _ h13
   refine ⟨_,SqL.of h14,_,hm,by decide,fun a3 ha3=>?_⟩
   have s5:=zah ha3 (.tup [V.int ot,V.int me])
   have h5:(L2.upd H4 a3 (.tup [V.int ot,V.int me])) a3=some (.tup [V.int ot,V.int me]):=zad
   generalize L2.upd H4 a3 (.tup [V.int ot,V.int me])=H5 at s5 h5 ⊢
   refine ⟨by decide,fun a4 ha4=>?_⟩
   have s6:=zah ha4 (.lst [V.ref a2,V.ref a3])
   have h6:(L2.upd H5 a4 (.lst [V.ref a2,V.ref a3])) a4=some (.lst [V.ref a2,V.ref a3]):=zad
   generalize L2.upd H5 a4 (.lst [V.ref a2,V.ref a3])=H6 at s6 h6 ⊢
   obtain ⟨e,he,hec⟩:=at2 (x:=V.ref a2) (y:=V.ref a3) (r:=n / (1+(i:Int)) % 2) (by omega) (by omega)
   obtain ⟨ea,u,v,rfl,hea,huv⟩:∃ (ea:Addr) (u v:Int),e=.ref ea∧H6 ea=some (.tup [V.int u,V.int v])∧((u=me∧v=ot)∨(u=ot∧v=me)):=by
    rcases hec with rfl | rfl
    ·exact ⟨a2,me,ot,rfl,s6 _ _ (s5 _ _ h4),.inl ⟨rfl,rfl⟩⟩
    ·exact ⟨a3,ot,me,rfl,s6 _ _ h5,.inr ⟨rfl,rfl⟩⟩
   have s26:=s3.trans (s4.trans (s5.trans s6))
   have hr6:=s26 _ _ hr2
   have ht6:=ht2.same (zi7 rl rl s26)
   have gme:=gl me (zcQ hm2)
   have got:=gl ot (zcQ ho2)
   have dif:ot≠me:=zsr nd ho2 hm2 (by omega)
   refine ⟨by omega,zmq 6 (by omega) (show (1+(i:Int)).natAbs<64 by omega),by decide,_,SqL.of h6,_,he,?_⟩
   (try simp only);first | rw [zbr] | rw [zbs] | rw [zbu] | rw [zbp] | rw [zbq] | rw [zbv] | rw [zbf] | rw [zbe]
   simp_all only [zaD,zaC,zaE,zaB,zax,zac]
   refine ⟨p,ns,_,rfl,s26.seq hS2,hl,by omega,by omega,fun n3 n30 n31=>?_⟩
   refine ⟨_,.inl (SqL.of hr6),_,rfl,by omega,?_⟩
   rw [List.length_map]
   have z0:=Int.emod_nonneg n3 (show (ts.length:Int)+1≠0 by omega)
   have z1:=Int.emod_lt_of_pos n3 (show 0<(ts.length:Int)+1 by omega)
   generalize n3 % ((ts.length:Int)+1)=k at z0 z1
   (try simp only);first | rw [zbr] | rw [zbs] | rw [zbu] | rw [zbp] | rw [zbq] | rw [zbv] | rw [zbf] | rw [zbe]
   simp_all only [zaD,zaC,zaE,zaB,zax,zac]
   refine ⟨.inl ⟨rfl,_,SqL.of hr6⟩,by omega,zmq 6 (by omega) (show (1+(i:Int)).natAbs<64 by omega),zwB.1,zwB.2,?_⟩
   refine ⟨_,rfl,fun le H7 s7 le1 le2=>⟨by decide,fun a5 ha5=>?_⟩⟩
   have s8:=zah ha5 (.tup [V.int le])
   have h8:(L2.upd H7 a5 (.tup [V.int le])) a5=some (.tup [V.int le]):=zad
   generalize L2.upd H7 a5 (.tup [V.int le])=H8 at s8 h8 ⊢
   have s68:=s7.trans s8
   refine ⟨_,SqT.of (s68 _ _ hea),_,SqT.of h8,by simp,(show (3:Nat)≤sizeLine by decide),fun z=>by simp at z,fun _ a6 ha6=>?_⟩
   rw [List.cons_append,List.cons_append,List.nil_append]
   have s9:=zah ha6 (.tup [V.int u,V.int v,V.int le])
   have h9:(L2.upd H8 a6 (.tup [V.int u,V.int v,V.int le])) a6=some (.tup [V.int u,V.int v,V.int le]):=zad
   generalize L2.upd H8 a6 (.tup [V.int u,V.int v,V.int le])=H9 at s9 h9 ⊢
   have s69:=s68.trans s9
   have hr9:=s69 _ _ hr6
   have ht9:=ht6.same (zi7 rl rl s69)
   have ltl:=ht9.1
   have big:(1000:Nat)<1000000:=by decide
   refine ⟨_,hr9,z0,by rw [List.length_map];omega,by rw [List.length_map];omega,?_⟩
   have n6:a6≠rl:=(zar (s68 _ _ hr6) ha6).symm
   have h9':Off rl rl H9 a6=some (.tup (rdv (u,v,le))):=by rw [zp2 n6 n6];exact h9
   refine ⟨?_,zfE ts k.toNat a6,?_,zfE rs k.toNat (u,v,le),?_,?_,fun r hr=>?_,?_⟩
   ·exact (s2.trans (s26.trans s69)).put hrl
   ·rw [zad,zjX]
    rfl
   ·rw [zwF]
    exact ht9.ins (by omega) h9'
   ·rw [zen (by omega),lr]
   ·rcases zeu.mp hr with rfl | hr
    ·unfold GR
     rcases huv with ⟨rfl,rfl⟩ | ⟨rfl,rfl⟩
     ·exact ⟨gme.1,gme.2,got.1,got.2,dif.symm,le1,le2⟩
     ·exact ⟨got.1,got.2,gme.1,gme.2,dif,le1,le2⟩
    ·exact gr r hr
   ·intro k' k1 k2
    by_cases c:k'≤i
    ·obtain ⟨r,hr,w⟩:=jn k' k1 c
     exact ⟨r,zeu.mpr (.inr hr),w⟩
    ·have ek':k'=i+1:=by omega
     subst ek'
     refine ⟨(u,v,le),zeu.mpr (.inl rfl),jx.toNat,by omega,?_⟩
     have hm3:ls[i+1]?=some me:=by
      have:=hm2
      rw [show (1+(i:Int)).toNat=i+1 by omega] at this
      exact this
     rcases huv with ⟨rfl,rfl⟩ | ⟨rfl,rfl⟩
     ·exact .inl ⟨hm3,ho2⟩
     ·exact .inr ⟨hm3,ho2⟩
  ·rintro σ H2 ⟨s2,ts,rs,hr2,ht2,lr,gr,jn,x1,x2,x3,x4,x5,rfl⟩
   have hS2:=s2.seq (s1.seq hS)
   have emn:m=((m - 1).toNat:Int)+1:=by omega
   simp_all only [zaD,zaC,zaE,zaB,zax,zac]
   refine ⟨p,ns,_,rfl,hS2,hl,by omega,by omega,fun n n0 n1'=>?_⟩
   have z0:=Int.emod_nonneg n (show ex+1≠0 by omega)
   have z1:=Int.emod_lt_of_pos n (show 0<ex+1 by omega)
   refine ⟨_,rfl,by omega,by omega,by omega,?_⟩
   generalize n % (ex+1)=cnt at z0 z1 ⊢
   refine zcl (fun i σ H'=>zaJ H1 H'∧∃ (ts:List Addr) (rs:List zcd),H' rl=some (.lst (ts.map V.ref))∧Tps rdv (Off rl rl H') ts rs∧m - 1≤(rs.length:Int)∧(rs.length:Int)≤m - 1+i∧(∀ r∈rs,GR m r)∧zlA ls rs (m - 1).toNat ∧
    ∃ x1 x2 x3 x4 x5 x6 x7,σ=[some (.ref p),some (.int st),some (.int mo),some (.int ex),some (.int m),some (.int shp),some (.ref lab),some (.ref lef),x1,some (.ref rl),x2,x3,x4,x5,x6,x7]) ?_ ?_ ?_
   ·exact ⟨s2,ts,rs,hr2,ht2,by omega,by omega,gr,jn,_,_,_,_,_,_,_,rfl⟩
   ·rintro i σ H3 hi ⟨s3,ts,rs,hr3,ht3,lr1,lr2,gr,jn,y1,y2,y3,y4,y5,y6,y7,rfl⟩
    have hS3:=s3.seq (s1.seq hS)
    have lt3:=ht3.1
    simp_all only [zaD,zaC,zaE,zaB,zax,zac]
    refine ⟨p,ns,_,rfl,hS3,hl,by omega,by omega,fun n2 n20 n21=>?_⟩
    (try simp only);first | rw [zbr] | rw [zbs] | rw [zbu] | rw [zbp] | rw [zbq] | rw [zbv] | rw [zbf] | rw [zbe]
    simp_all only [zaD,zaC,zaE,zaB,zax,zac]
    refine ⟨by omega,by omega,zmq 6 (by omega) (show m.natAbs<64 by omega),by omega,?_⟩
    have a0:=Int.emod_nonneg n2 (show m≠0 by omega)
    have a1:=Int.emod_lt_of_pos n2 (show 0<m by omega)
    have b0:=Int.emod_nonneg (n2 / m) (show m≠0 by omega)
    have b1:=Int.emod_lt_of_pos (n2 / m) (show 0<m by omega)
    generalize n2 % m=av at a0 a1
    generalize n2 / m % m=bv at b0 b1
    (try simp only);first | rw [zbr] | rw [zbs] | rw [zbu] | rw [zbp] | rw [zbq] | rw [zbv] | rw [zbf] | rw [zbe]
    simp_all only [zaD,zaC,zaE,zaB,zax,zac]
    refine zgl (fun c=>?_) (fun c=>⟨s3,ts,hr3,rs,ht3,lr1,by omega,gr,jn⟩)
    refine ⟨.inl ⟨rfl,_,SqL.of hr3⟩,zpt.1,zpt.2,_,.inl (SqL.of hr3),by omega,zs0.1,zs0.2,?_⟩
    rw [List.length_map]
    have k0:=Int.emod_nonneg (n2 / 3600) (show (ts.length:Int)+1≠0 by omega)
    have k1:=Int.emod_lt_of_pos (n2 / 3600) (show 0<(ts.length:Int)+1 by omega)
    generalize n2 / 3600 % ((ts.length:Int)+1)=k at k0 k1
    refine ⟨_,rfl,fun le H7 s7 le1 le2=>⟨by decide,fun a6 ha6=>?_⟩⟩
    have s9:=zah ha6 (.tup [V.int av,V.int bv,V.int le])
    have h9:(L2.upd H7 a6 (.tup [V.int av,V.int bv,V.int le])) a6=some (.tup [V.int av,V.int bv,V.int le]):=zad
    generalize L2.upd H7 a6 (.tup [V.int av,V.int bv,V.int le])=H9 at s9 h9 ⊢
    have s69:=s7.trans s9
    have hr9:=s69 _ _ hr3
    have ht9:=ht3.same (zi7 rl rl s69)
    have ltl:=ht9.1
    have big:(1000:Nat)<1000000:=by decide
    refine ⟨_,hr9,k0,by rw [List.length_map];omega,by rw [List.length_map];omega,?_⟩
    have n6:a6≠rl:=(zar (s7 _ _ hr3) ha6).symm
    have h9':Off rl rl H9 a6=some (.tup (rdv (av,bv,le))):=by rw [zp2 n6 n6];exact h9
    refine ⟨(s3.trans s69).put hrl,zfE ts k.toNat a6,?_,zfE rs k.toNat (av,bv,le),?_,?_,?_,fun r hr=>?_,?_⟩
    ·rw [zad,zjX]
     rfl
    ·rw [zwF]
     exact ht9.ins (by omega) h9'
    ·rw [zen (by omega)]
     omega
    ·rw [zen (by omega)]
     omega
    ·rcases zeu.mp hr with rfl | hr
     ·exact ⟨a0,a1,b0,b1,c,le1,le2⟩
     ·exact gr r hr
    ·exact jn.mono fun r hr=>zeu.mpr (.inr hr)
   ·rintro σ H3 ⟨s3,ts,rs,hr3,ht3,lr1,lr2,gr,jn,y1,y2,y3,y4,y5,y6,y7,rfl⟩
    simp_all only [zaD,zaC,zaE,zaB,zax,zac]
    refine ⟨by decide,fun w hw=>?_⟩
    refine q w rl ts m rs _ ((s1.trans s3).add hw) ⟨zad,zah hw _ _ _ hr3,(ht3.same (zvq rl rl H3)).same (zah hw _)⟩ ⟨m1,by omega,by omega,gr,jn.conn emn hp l0⟩ m2 (by omega) lr1
theorem za1:zaK ["_law_script","_law_start","_law_most","_law_extra","_law_many","_law_shape","_law_labels","_law_left","_law_k","_law_roads","_law_number","_law_other","_law_ends","_law_at","_law_a","_law_b"] ["_law_script","_law_start","_law_most","_law_extra"] (zam zgx):=⟨rfl,rfl,rfl,by decide +kernel,rfl,by decide +kernel,by decide +kernel⟩
theorem zlS (T:Txt K mg base a):zc8 P w K mg base CX0 2 a.f__law_web a.d__law_web ["_law_script","_law_start","_law_most","_law_extra"] (zvs K):=by
 have G__law_length:=zil (P:=P) (w:=w) (base:=base) T
 have G__law_mixed:=zd0 (P:=P) (w:=w) (base:=base) T
 refine T.F__law_web.ok za1 (fun vs H Q E h=>?_) (fun cdv A outer s H vs Q E hr h=>?_)
 ·obtain ⟨p,ns,st,mo,ex,rfl,hS,hl,st0,st1,mo1,mo60,ex0,ex20,q⟩:=h
  rfl
 obtain ⟨p,ns,st,mo,ex,rfl,hS,hl,st0,st1,mo1,mo60,ex0,ex20,q⟩:=h
 exact ⟨zgO K,(zaf (zas (i:=4) za1.nd rfl (Or.inl rfl) (zan za0 zag (zan za4 (zau G__law_mixed (hr.mono (by decide)) rfl T.m__law_mixed T.F__law_mixed.kp T.b__law_mixed .nil za8 (zaa (pv 0) (zaa (pv 1) zae))) (pv 2))))
 (zaf (zas (i:=5) za1.nd rfl (Or.inl rfl) (zan za4 (zan zbM (zau G__law_mixed (hr.mono (by decide)) rfl T.m__law_mixed T.F__law_mixed.kp T.b__law_mixed .nil za8 (zaa (pv 0) (zaa (pv 1) zae))) (pv 2)) zag))
 (zaf (zas (i:=6) za1.nd rfl (Or.inl rfl) (zbN (zaa zag zae)))
 (zaf (zas (i:=7) za1.nd rfl (Or.inl rfl) (zby (zjC rfl) rfl T.z_list zjU (zaa (zur rfl T.z_range (zaa zag (zaa (pv 4) zae))) zae)))
 (zaf (zc6 PassesOwn.never rfl (zcJ rfl T.z_range (zaa (zan zgU (pv 4) zag) zae)) (zaG (i:=8) za1.nd rfl (Or.inl rfl))
 (zaj (zcq (zcw PySem.F.plainAttrs_list PySem.F.slot_list_append PySem.F.type_list_append zcN (pv 6) (zaa (zcw PySem.F.plainAttrs_list PySem.F.slot_list_pop PySem.F.type_list_pop zqK (pv 7) (zaa (zan za4 (zau G__law_mixed (hr.mono (by decide)) rfl T.m__law_mixed T.F__law_mixed.kp T.b__law_mixed .nil za8 (zaa (pv 0) (zaa (zan za0 (zan za0 (pv 1) zag) (pv 8)) zae))) (zaq zaF rfl T.z_len PySem.boot_len (zaa (pv 7) zae))) zae)) zae)))))
 (zaf (zas (i:=9) za1.nd rfl (Or.inl rfl) (zbN zae))
 (zaf (zc6 PassesOwn.never rfl (zqs rfl T.z_range (zaa zag (zaa (pv 4) zae))) (zaG (i:=8) za1.nd rfl (Or.inl rfl))
 (zaf (zas (i:=10) za1.nd rfl (Or.inl rfl) (zau G__law_mixed (hr.mono (by decide)) rfl T.m__law_mixed T.F__law_mixed.kp T.b__law_mixed .nil za8 (zaa (pv 0) (zaa (zan za0 (zan za0 (pv 1) zag) (pv 8)) zae))))
 (zaf (zas (i:=11) za1.nd rfl (Or.inl rfl) (zbO zaX (pv 6) (zbO zaX (zbN (zaa (zan za4 (pv 10) (pv 8)) (zaa (zan zgU (pv 8) zag) (zaa zag (zaa (zan za4 (pv 10) (zaq (zk2 rfl) rfl T.z_min PyProof.Rows.boot_min (zaa (pv 8) (zaa zag zae)))) zae))))) (pv 5) (fun _ _=>rfl)) (fun _ _=>rfl)))
 (zaf (zas (i:=12) za1.nd rfl (Or.inl rfl) (zbO zaX (zbN (zaa (zeX (zaa (zbO zaX (pv 6) (pv 8) (fun _ _=>rfl)) (zaa (pv 11) zae))) (zaa (zeX (zaa (pv 11) (zaa (zbO zaX (pv 6) (pv 8) (fun _ _=>rfl)) zae))) zae))) (zan za4 (zan zbM (pv 10) (pv 8)) zag) (fun _ _=>rfl)))
 (zaf (zas (i:=13) za1.nd rfl (Or.inl rfl) (zan za4 (zau G__law_mixed (hr.mono (by decide)) rfl T.m__law_mixed T.F__law_mixed.kp T.b__law_mixed .nil za8 (zaa (pv 0) (zaa (zan za0 (zan za0 (pv 1) zag) (pv 8)) zae))) (zan za0 (zaq zaF rfl T.z_len PySem.boot_len (zaa (pv 9) zae)) zag)))
 (zaj (zcq (zcw PySem.F.plainAttrs_list PySem.F.slot_list_insert PySem.F.type_list_insert zkn (pv 9) (zaa (pv 13) (zaa (zan zuU (pv 12) (zeX (zaa (zau G__law_length (hr.mono (by decide)) rfl T.m__law_length T.F__law_length.kp T.b__law_length .nil za8 (zaa (zan zbM (zan zbM (pv 10) (pv 8)) zag) zae)) zae))) zae))))))))))
 (zaf (zc6 PassesOwn.never rfl (zcJ rfl T.z_range (zaa (zan za4 (zau G__law_mixed (hr.mono (by decide)) rfl T.m__law_mixed T.F__law_mixed.kp T.b__law_mixed .nil za8 (zaa (pv 0) (zaa (zan za0 (pv 1) zag) zae))) (zan za0 (pv 3) zag)) zae)) (zaG (i:=8) za1.nd rfl (Or.inl rfl))
 (zaf (zas (i:=10) za1.nd rfl (Or.inl rfl) (zau G__law_mixed (hr.mono (by decide)) rfl T.m__law_mixed T.F__law_mixed.kp T.b__law_mixed .nil za8 (zaa (pv 0) (zaa (zan za0 (zan za0 (pv 1) zag) (pv 8)) zae))))
 (zaf (zvg (i:=14) (j:=15) rfl za1.nd rfl rfl (by decide) rfl rfl (zaa (zan za4 (pv 10) (pv 4)) (zaa (zan za4 (zan zbM (pv 10) (pv 4)) (pv 4)) zae)) rfl)
 (zaj (zb8 (zat zeq (pv 14) (pv 15) (zaL _)) (zaj (zcq (zcw PySem.F.plainAttrs_list PySem.F.slot_list_insert PySem.F.type_list_insert zkn (pv 9) (zaa (zan za4 (zan zbM (pv 10) zag) (zan za0 (zaq zaF rfl T.z_len PySem.boot_len (zaa (pv 9) zae)) zag)) (zaa (zeX (zaa (pv 14) (zaa (pv 15) (zaa (zau G__law_length (hr.mono (by decide)) rfl T.m__law_length T.F__law_length.kp T.b__law_length .nil za8 (zaa (zan zbM (pv 10) zag) zae)) zae)))) zae))))) zaT)))))
 (zaj (zaN (zeX (zaa (pv 4) (zaa (pv 9) zae))))))))))))),
  zmh hS hl st0 st1 mo1 mo60 ex0 ex20 q⟩
theorem zmg:∀ (u b:List Nat) (k:Nat),lr k (u++b)≤lr (k+u.length) b
 | [],b,k=>Nat.le_refl _
 | c::u,b,k=>by
  rw [List.cons_append,zcB,List.length_cons]
  by_cases h:c=32∨c=10
  ·rw [if_pos h]
   have h1:=zmg u b 0
   have h2:=(zhx b (k+(u.length+1))).1
   have h3:lr (0+u.length) b≤lr (k+(u.length+1)) b:=zhx.lr_mono b (by omega)
   omega
  ·rw [if_neg h]
   have:=zmg u b (k+1)
   rw [show k+(u.length+1)=k+1+u.length by omega]
   exact this
def StR (L k:Nat) (s:Str):Prop:=∀ b,lr 0 (sgn s++b)≤max L (lr k b)
theorem StR.nil {L:Nat}:StR L 0 (Str.ofString ""):=fun b=>by
 show lr 0 ([]++b)≤_
 rw [List.nil_append]
 omega
theorem StR.add {L k m:Nat} {s u:Str} (h:StR L k s) (l:u.length≤m):StR L (k+m) (s++u):=fun b=>by
 rw [zb3,List.append_assoc]
 have h1:=h (sgn u++b)
 have h2:=zmg (sgn u) b k
 rw [zcA] at l
 have h3:lr (k+(sgn u).length) b≤lr (k+m) b:=zhx.lr_mono b (by omega)
 omega
theorem StR.sep {L k c:Nat} {s u:Str} (h:StR L k s) (hc:c=32∨c=10) (e:u=⟨#[c]⟩) (l:k≤L):StR L 0 (s++u):=fun b=>by
 rw [zb3,List.append_assoc,e]
 have h1:=h (c::b)
 rw [zcB,if_pos hc] at h1
 show lr 0 (sgn s++c::b)≤_
 omega
theorem StR.mono {L j k:Nat} {s:Str} (h:StR L j s) (l:j≤k):StR L k s:=fun b=>by
 have h1:=h b
 have h2:lr j b≤lr k b:=zhx.lr_mono b l
 omega
theorem StR.rn {L k:Nat} {s:Str} (h:StR L k s) (l:k≤L):Rn L s:=by
 have h1:=h []
 rw [List.append_nil] at h1
 have:lr k []=k:=rfl
 unfold Rn
 omega
theorem zaQ (s t:Str):(s++t).length=s.length+t.length:=by rw [zcA,zb3,List.length_append,← zcA,← zcA]
theorem zeW {n:Int} (h0:0≤n) (h1:n<10000000):n.natAbs.log2<1920:=by
 by_cases z:n.natAbs=0
 ·rw [z,Nat.log2_zero]
  decide
 ·refine (Nat.log2_lt z).mpr ?_
  have:n.natAbs<10000000:=by omega
  exact Nat.lt_trans this (by decide +kernel)
def SmR (r:zcd):Prop:=(0≤r.1∧r.1<10000000)∧(0≤r.2.1∧r.2.1<10000000)∧0≤r.2.2∧r.2.2<10000000
theorem GR.sm {m:Int} {r:zcd} (h:GR m r) (l:m≤60):SmR r:=by
 obtain ⟨h1,h2,h3,h4,_,h5,h6⟩:=h
 exact ⟨⟨h1,by omega⟩,⟨h3,by omega⟩,by omega,by omega⟩
def zo3 (s:Str) (r:zcd):Str:=s++Str.ofString "road "++Str.ofString (toString r.1)++Str.ofString " "++Str.ofString (toString r.2.1)++Str.ofString " "++Str.ofString (toString r.2.2)++Str.ofString "\n"
def wtx (m:Int) (rs:List zcd):Str:=rs.foldl zo3 (Str.ofString "web "++Str.ofString (toString m)++Str.ofString "\n")
theorem zln (m:Int) (rs:List zcd) (r:zcd):wtx m (rs++[r])=zo3 (wtx m rs) r:=by
 unfold wtx
 rw [List.foldl_append]
 rfl
theorem zdt {n:Int} (h:0≤n∧n<10000000):(Str.ofString (toString n)).length≤7:=zqw h.1 (by decide) h.2
theorem zrM {s:Str} {r:zcd} (h:SmR r):(zo3 s r).length≤s.length+30:=by
 unfold zo3
 rw [zaQ,zaQ,zaQ,zaQ,zaQ,zaQ,zaQ]
 have h1:=zdt h.1
 have h2:=zdt h.2.1
 have h3:=zdt h.2.2
 have l1:(Str.ofString "road ").length=5:=by decide +kernel
 have l2:(Str.ofString " ").length=1:=by decide +kernel
 have l3:(Str.ofString "\n").length=1:=by decide +kernel
 omega
theorem zuf {s:Str} {r:zcd} (h:SmR r) (st:StR 64 0 s):StR 64 0 (zo3 s r):=by
 unfold zo3
 have h1:=zdt h.1
 have h2:=zdt h.2.1
 have h3:=zdt h.2.2
 have l1:(Str.ofString "road ").length≤5:=by decide +kernel
 have l2:(Str.ofString " ").length≤1:=by decide +kernel
 exact (((((((st.add l1).add h1).add l2).add h2).add l2).add h3).sep (.inr rfl) zcG (by decide))
theorem zms {m:Int} (hm:0≤m∧m<10000000):∀ {rs:List zcd},(∀ r∈rs,SmR r)→StR 64 0 (wtx m rs)∧(wtx m rs).length≤12+30*rs.length:=by
 have base:StR 64 0 (wtx m [])∧(wtx m []).length≤12:=by
  have h1:=zdt hm
  have l1:(Str.ofString "web ").length=4:=by decide +kernel
  have l3:(Str.ofString "\n").length=1:=by decide +kernel
  have e0:Str.ofString "web "=Str.ofString ""++Str.ofString "web ":=by decide +kernel
  refine ⟨?_,?_⟩
  ·show StR 64 0 (Str.ofString "web "++Str.ofString (toString m)++Str.ofString "\n")
   rw [e0]
   exact (((StR.nil.add (Nat.le_of_eq l1)).add h1).sep (.inr rfl) zcG (by decide))
  ·show (Str.ofString "web "++Str.ofString (toString m)++Str.ofString "\n").length≤12
   rw [zaQ,zaQ]
   omega
 intro rs h
 have key:∀ n,n≤rs.length→StR 64 0 (wtx m (rs.take n))∧(wtx m (rs.take n)).length≤12+30*n:=by
  intro n
  induction n with
  | zero=>intro _;exact base
  | succ n ih =>
   intro hn
   obtain ⟨i1,i2⟩:=ih (by omega)
   have e:rs[n]?=some (rs[n]'hn):=List.getElem?_eq_getElem hn
   have hr:=h _ (zcQ e)
   rw [List.take_add_one,e]
   show StR 64 0 (wtx m (rs.take n++[_]))∧_
   rw [zln]
   refine ⟨zuf hr i1,?_⟩
   have:=zrM (s:=wtx m (rs.take n)) hr
   show (wtx m (rs.take n++[_])).length≤_
   rw [zln]
   omega
 have:=key rs.length (Nat.le_refl _)
 rw [List.take_length] at this
 exact this
def zsI (K:PySem.W.Frag):Sp:=fun vs H Q _=>∃ (w rl:Addr) (ts:List Addr) (m:Int) (rs:List zcd),vs=[.ref w]∧zjJ H w rl ts m rs∧(0≤m∧m<10000000)∧(∀ r∈rs,SmR r)∧rs.length≤1000∧Q (.str (wtx m rs)) H
def zd5:TS :=
 (zaU (tOp zbE (tOp zbE (tOp zbE (tOp zbE (tOp zbE (tOp zbE (tOp zbE (zac 1) (tC (.str "road "))) (tCB zdX (zab (zac 2) zak))) (tC (.str " "))) (tCB zdX (zab (zac 3) zak))) (tC (.str " "))) (tCB zdX (zab (zac 4) zak))) (tC (.str "\n"))) (zai 1))
theorem zei (D:zce) (σ:St) (H:Hp):zd5 D σ H=(zaU (tOp zbE (tOp zbE (tOp zbE (tOp zbE (tOp zbE (tOp zbE (tOp zbE (zac 1) (tC (.str "road "))) (tCB zdX (zab (zac 2) zak))) (tC (.str " "))) (tCB zdX (zab (zac 3) zak))) (tC (.str " "))) (tCB zdX (zab (zac 4) zak))) (tC (.str "\n"))) (zai 1)) D σ H:=rfl
def zfF (K:PySem.W.Frag):TS :=
 (zaz (zaU (tOp zbE (tOp zbE (tC (.str "web ")) (tCB zdX (zab (tOp (zik K) (zac 0) (tC (.int 0))) zak))) (tC (.str "\n"))) (zai 1))
 (zaz (zfV (zfO K (tOp (zik K) (zac 0) (tC (.int 1)))) (ziy K 3 (zbL (zai 2) (zbL (zai 3) (zbL (zai 4) zix))))
 (zd5))
 (zb9 (zac 1))))
theorem zkz {w rl:Addr} {ts:List Addr} {m:Int} {rs:List zcd} (W:zjJ H w rl ts m rs) (hm:0≤m∧m<10000000) (hs:∀ r∈rs,SmR r) (l:rs.length≤1000) (q:Q (.str (wtx m rs)) H):zfF K { nx:=fun _ H'=>Q .non H',rt:=Q } (L2.zbA ["_law_web_here","_law_text_here","_law_a","_law_b","_law_length_here"] [.ref w]) H:=by
 unfold zfF
 simp_all only [zac]
 have l0:=(zms hm (rs:=[]) (fun r h=>by cases h)).2
 have lm:=zdt hm
 refine ⟨_,SqT.of W.hw,.int m,zaV (j:=0) rfl,m,rfl,zeW hm.1 hm.2,?_⟩
 have l1:(Str.ofString "web ").length=4:=by decide +kernel
 have l3:(Str.ofString "\n").length=1:=by decide +kernel
 have l5:(Str.ofString "road ").length=5:=by decide +kernel
 have l6:(Str.ofString " ").length=1:=by decide +kernel
 refine ⟨zbR (by omega),zbR (by rw [zaQ];omega),_,SqT.of W.hw,.ref rl,zaV (j:=1) rfl,rl,rfl,⟨_,SqL.of W.hl⟩,?_⟩
 refine zeB (xs:=ts.map V.ref) (fun i σ H'=>H'=H∧∃ x2 x3 x4,σ=[some (.ref w),some (.str (wtx m (rs.take i))),x2,x3,x4]) ⟨rfl,_,_,_,rfl⟩ ?_ ?_ ?_
 ·rintro i σ H' _ ⟨rfl,_⟩
  exact SqL.of W.hl
 ·rintro i x σ H' e ⟨rfl,x2,x3,x4,rfl⟩
  obtain ⟨t,et,rfl⟩:=zep e
  obtain ⟨r,er,hr⟩:=W.ht.at et
  have li:=(List.getElem?_eq_some_iff.mp er).1
  have lk:=(zms hm (rs:=rs.take i) (fun r h=>hs r (List.mem_of_mem_take h))).2
  rw [List.length_take] at lk
  obtain ⟨h1,h2,h3⟩:=hs r (zcQ er)
  have k1:=zdt h1
  have k2:=zdt h2
  have k3:=zdt h3
  have ew:wtx m (rs.take (i+1))=zo3 (wtx m (rs.take i)) r:=by rw [List.take_add_one,er];exact zln _ _ _
  rw [ew]
  unfold zo3
  generalize wtx m (rs.take i)=s at lk
  have a1:=zaQ s (Str.ofString "road ")
  have a2:=zaQ (s++Str.ofString "road ") (Str.ofString (toString r.1))
  have a3:=zaQ (s++Str.ofString "road "++Str.ofString (toString r.1)) (Str.ofString " ")
  have a4:=zaQ (s++Str.ofString "road "++Str.ofString (toString r.1)++Str.ofString " ") (Str.ofString (toString r.2.1))
  have a5:=zaQ (s++Str.ofString "road "++Str.ofString (toString r.1)++Str.ofString " "++Str.ofString (toString r.2.1)) (Str.ofString " ")
  have a6:=zaQ (s++Str.ofString "road "++Str.ofString (toString r.1)++Str.ofString " "++Str.ofString (toString r.2.1)++Str.ofString " ") (Str.ofString (toString r.2.2))
  unfold zd5
  simp_all only [zei,zac]
  refine ⟨_,SqT.of hr,rfl,_,_,rfl,_,_,rfl,_,_,rfl,rfl,?_⟩
  exact ⟨zbR (by omega),r.1,rfl,zeW h1.1 h1.2,zbR (by omega),zbR (by omega),r.2.1,rfl,zeW h2.1 h2.2,zbR (by omega),zbR (by omega),r.2.2,rfl,zeW h3.1 h3.2,zbR (by omega),zbR (by omega),rfl⟩
 ·rintro σ H' ⟨rfl,x2,x3,x4,rfl⟩
  rw [List.take_of_length_le (by rw [List.length_map,W.ht.1];exact Nat.le_refl _)]
  simp_all only [zei,zac]
  exact q
theorem zcF:zaK ["_law_web_here","_law_text_here","_law_a","_law_b","_law_length_here"] ["_law_web_here"] (zam zfz):=⟨rfl,rfl,rfl,by decide +kernel,rfl,by decide +kernel,by decide +kernel⟩
theorem zkG (T:Txt K mg base a):zc8 P w K mg base CX0 1 a.f__law_text a.d__law_text ["_law_web_here"] (zsI K):=by
 refine T.F__law_text.ok zcF (fun vs H Q E h=>?_) (fun cdv A outer s H vs Q E hr h=>?_)
 ·obtain ⟨w',rl,ts,m,rs,rfl,W,hm,hs,l,q⟩:=h
  rfl
 obtain ⟨w',rl,ts,m,rs,rfl,W,hm,hs,l,q⟩:=h
 exact ⟨zfF K,(zaf (zas (i:=1) zcF.nd rfl (Or.inl rfl) (zan zbl (zan zbl zay (zby zcv rfl T.z_str zc2 (zaa (zbO zfi (pv 0) zag (fun _ _=>rfl)) zae))) zay))
 (zaf (zc6 PassesOwn.never rfl (zdP (zbO zfi (pv 0) zag (fun _ _=>rfl))) (zdV rfl (zaO (zaG (i:=2) zcF.nd rfl (Or.inl rfl)) (zaO (zaG (i:=3) zcF.nd rfl (Or.inl rfl)) (zaO (zaG (i:=4) zcF.nd rfl (Or.inl rfl)) zcX))))
 (zaj (zas (i:=1) zcF.nd rfl (Or.inl rfl) (zan zbl (zan zbl (zan zbl (zan zbl (zan zbl (zan zbl (zan zbl (pv 1) zay) (zby zcv rfl T.z_str zc2 (zaa (pv 2) zae))) zay) (zby zcv rfl T.z_str zc2 (zaa (pv 3) zae))) zay) (zby zcv rfl T.z_str zc2 (zaa (pv 4) zae))) zay))))
 (zaj (zaN (pv 1))))),
  zkz W hm hs l q⟩
theorem zsK (sp:Bool):(kdS sp=Str.ofString "walk")↔sp=false:=by
 cases sp
 ·exact ⟨fun _=>rfl,fun _=>rfl⟩
 ·exact ⟨fun z=>absurd z zgZ,fun z=>by cases z⟩
theorem zwg (sp:Bool):(if kdS sp=Str.ofString "walk" then (1:Int) else 0)=(if sp=true then 0 else 1):=by
 cases sp
 ·rw [if_pos ((zsK false).mpr rfl),if_neg Bool.false_ne_true]
 ·rw [if_neg (fun z=>by cases (zsK true).mp z),if_pos rfl]
def big:Int:=1000000000000000000000000000000
def PTh (sp:Bool) (H:Hp) (y:V):Prop:=if sp then ∃ u a b,y=.ref u∧H u=some (.tup [.int a,.int b])∧0≤a∧a<big∧0≤b∧b<big else ∃ n,y=.int n∧0≤n∧n<big
theorem PTh.same {sp:Bool} {H H':Hp} {y:V} (h:PTh sp H y) (s:zaJ H H'):PTh sp H' y:=by
 unfold PTh at h ⊢
 cases sp
 ·exact h
 ·rw [if_pos rfl] at h ⊢
  obtain ⟨u,a,b,e,h1,h2⟩:=h
  exact ⟨u,a,b,e,s _ _ h1,h2⟩
def PSh (sp:Bool) (H:Hp) (x:V):Prop:=∃ (t l:Addr) (w:Int) (ys:List V),x=.ref t∧H t=some (.tup [.ref l,.int w])∧0≤w∧w<big∧H l=some (.lst ys)∧ys.length≤9∧∀ y∈ys,PTh sp H y
theorem PSh.same {sp:Bool} {H H':Hp} {x:V} (h:PSh sp H x) (s:zaJ H H'):PSh sp H' x:=by
 obtain ⟨t,l,w,ys,e,h1,h2,h3,h4,h5,h6⟩:=h
 exact ⟨t,l,w,ys,e,s _ _ h1,h2,h3,s _ _ h4,h5,fun y hy=>(h6 y hy).same s⟩
def zqB (K:PySem.W.Frag):Sp:=fun vs H Q _=>∃ (p:Addr) (ns:List Int) (st:Int) (sp:Bool),vs=[.ref p,.int st,.str (kdS sp)]∧0≤st∧st≤1000∧SqL K H p (ns.map V.int)∧ns.length≤63∧∀ r xs H',zaJ H H'→H' r=some (.lst xs)→xs.length≤4→(∀ x∈xs,PSh sp H' x)→Q (.ref r) H'
def zcu (K:PySem.W.Frag):TS :=
 (zaz (zaU (zaH (zbg K) [] E0 (zab (zac 0) (zab (tOp (rI0 fun i j=>.int (i+j)) (tOp (rI0 fun i j=>.int (i+j)) (tOp (rI0 fun i j=>.int (i+j)) (zac 1) (tC (.int 10))) (tOp (rI IntMulOk fun i j=>.int (i*j)) (tC (.int 10)) (zac 4))) (zac 7)) zak))) (zai 10))
 (zaz (zaU (tOp (zcO K) (zdq (zab (tOp (rI (fun _ j=>0<j) fun i j=>.int (i % j)) (tOp (rI (fun _ j=>0<j∧j.natAbs.log2<9000) fun i j=>.int (i / j)) (zac 10) (tC (.int 3))) (tC (.int 8))) (zab (tOp (rI (fun _ j=>0<j) fun i j=>.int (i % j)) (tOp (rI (fun _ j=>0<j∧j.natAbs.log2<9000) fun i j=>.int (i / j)) (zac 10) (tC (.int 3))) (tC (.int 100))) (zab (tOp (rI0 fun i j=>.int (i - j)) (tOp (rI zk6 fun i j=>.int (i ^ j.toNat)) (tC (.int 10)) (tC (.int 29))) (zac 10)) zak)))) (tOp (rI (fun _ j=>0<j) fun i j=>.int (i % j)) (zac 10) (tC (.int 3)))) (zai 11))
 (zcn (zav (tOp rEq (zac 2) (tC (.str "walk")))) (zc7 (tBM K "list" zbw (zac 9) (zab (zac 11) zak))) (zc7 (tBM K "list" zbw (zac 9) (zab (zib (zab (zac 11) (zab (tOp (rI (fun _ j=>0<j) fun i j=>.int (i % j)) (tOp (rI (fun _ j=>0<j∧j.natAbs.log2<9000) fun i j=>.int (i / j)) (zac 10) (tC (.int 24))) (tC (.int 60))) zak))) zak))))))
theorem zbj (K:PySem.W.Frag) (D:zce) (σ:St) (H:Hp):zcu K D σ H=(zaz (zaU (zaH (zbg K) [] E0 (zab (zac 0) (zab (tOp (rI0 fun i j=>.int (i+j)) (tOp (rI0 fun i j=>.int (i+j)) (tOp (rI0 fun i j=>.int (i+j)) (zac 1) (tC (.int 10))) (tOp (rI IntMulOk fun i j=>.int (i*j)) (tC (.int 10)) (zac 4))) (zac 7)) zak))) (zai 10))
 (zaz (zaU (tOp (zcO K) (zdq (zab (tOp (rI (fun _ j=>0<j) fun i j=>.int (i % j)) (tOp (rI (fun _ j=>0<j∧j.natAbs.log2<9000) fun i j=>.int (i / j)) (zac 10) (tC (.int 3))) (tC (.int 8))) (zab (tOp (rI (fun _ j=>0<j) fun i j=>.int (i % j)) (tOp (rI (fun _ j=>0<j∧j.natAbs.log2<9000) fun i j=>.int (i / j)) (zac 10) (tC (.int 3))) (tC (.int 100))) (zab (tOp (rI0 fun i j=>.int (i - j)) (tOp (rI zk6 fun i j=>.int (i ^ j.toNat)) (tC (.int 10)) (tC (.int 29))) (zac 10)) zak)))) (tOp (rI (fun _ j=>0<j) fun i j=>.int (i % j)) (zac 10) (tC (.int 3)))) (zai 11))
 (zcn (zav (tOp rEq (zac 2) (tC (.str "walk")))) (zc7 (tBM K "list" zbw (zac 9) (zab (zac 11) zak))) (zc7 (tBM K "list" zbw (zac 9) (zab (zib (zab (zac 11) (zab (tOp (rI (fun _ j=>0<j) fun i j=>.int (i % j)) (tOp (rI (fun _ j=>0<j∧j.natAbs.log2<9000) fun i j=>.int (i / j)) (zac 10) (tC (.int 24))) (tC (.int 60))) zak))) zak)))))) D σ H:=rfl
def zcY (K:PySem.W.Frag):TS :=
 (zaz (zaU (tOp (zcO K) (zdq (zab (tOp (rI0 fun i j=>.int (i+j)) (tC (.int 1)) (tOp (rI (fun _ j=>0<j) fun i j=>.int (i % j)) (tOp (rI (fun _ j=>0<j∧j.natAbs.log2<9000) fun i j=>.int (i / j)) (zac 5) (tC (.int 4))) (tC (.int 9)))) (zab (tOp (rI0 fun i j=>.int (i - j)) (tOp (rI zk6 fun i j=>.int (i ^ j.toNat)) (tC (.int 10)) (tC (.int 29))) (zac 5)) (zab (tOp (rI0 fun i j=>.int (i+j)) (tC (.int 1)) (tOp (rI (fun _ j=>0<j∧j.natAbs.log2<9000) fun i j=>.int (i / j)) (zac 5) (tC (.int 4)))) (zab (zac 6) zak))))) (tOp (rI (fun _ j=>0<j) fun i j=>.int (i % j)) (zac 5) (tC (.int 4)))) (zai 8))
 (zaz (zaU (zdq zak) (zai 9))
 (zaz (zfV (zel (zab (tOp (rI0 fun i j=>.int (i+j)) (tOp (rI (fun _ j=>0<j) fun i j=>.int (i % j)) (zaH (zbg K) [] E0 (zab (zac 0) (zab (tOp (rI0 fun i j=>.int (i+j)) (tOp (rI0 fun i j=>.int (i+j)) (zac 1) (tC (.int 5))) (zac 4)) zak))) (tC (.int 9))) (tCB (fun xs H Q=>(∃ i,xs=[.int i]∧Q (.int i) H)∨∃ k,xs=[.bl k]∧Q (.int (if k then 1 else 0)) H) (zab (tOp rEq (zac 2) (tC (.str "walk"))) zak))) zak)) (zai 7)
 (zcu K))
 (zc7 (tBM K "list" zbw (zac 3) (zab (zib (zab (zac 9) (zab (zac 8) zak))) zak))))))
theorem zbo (K:PySem.W.Frag) (D:zce) (σ:St) (H:Hp):zcY K D σ H=(zaz (zaU (tOp (zcO K) (zdq (zab (tOp (rI0 fun i j=>.int (i+j)) (tC (.int 1)) (tOp (rI (fun _ j=>0<j) fun i j=>.int (i % j)) (tOp (rI (fun _ j=>0<j∧j.natAbs.log2<9000) fun i j=>.int (i / j)) (zac 5) (tC (.int 4))) (tC (.int 9)))) (zab (tOp (rI0 fun i j=>.int (i - j)) (tOp (rI zk6 fun i j=>.int (i ^ j.toNat)) (tC (.int 10)) (tC (.int 29))) (zac 5)) (zab (tOp (rI0 fun i j=>.int (i+j)) (tC (.int 1)) (tOp (rI (fun _ j=>0<j∧j.natAbs.log2<9000) fun i j=>.int (i / j)) (zac 5) (tC (.int 4)))) (zab (zac 6) zak))))) (tOp (rI (fun _ j=>0<j) fun i j=>.int (i % j)) (zac 5) (tC (.int 4)))) (zai 8))
 (zaz (zaU (zdq zak) (zai 9))
 (zaz (zfV (zel (zab (tOp (rI0 fun i j=>.int (i+j)) (tOp (rI (fun _ j=>0<j) fun i j=>.int (i % j)) (zaH (zbg K) [] E0 (zab (zac 0) (zab (tOp (rI0 fun i j=>.int (i+j)) (tOp (rI0 fun i j=>.int (i+j)) (zac 1) (tC (.int 5))) (zac 4)) zak))) (tC (.int 9))) (tCB (fun xs H Q=>(∃ i,xs=[.int i]∧Q (.int i) H)∨∃ k,xs=[.bl k]∧Q (.int (if k then 1 else 0)) H) (zab (tOp rEq (zac 2) (tC (.str "walk"))) zak))) zak)) (zai 7)
 (zcu K))
 (zc7 (tBM K "list" zbw (zac 3) (zab (zib (zab (zac 9) (zab (zac 8) zak))) zak)))))) D σ H:=rfl
def zdM (K:PySem.W.Frag):TS :=
 (zaz (zaU (zaH (zbg K) [] E0 (zab (zac 0) (zab (tOp (rI0 fun i j=>.int (i+j)) (tOp (rI0 fun i j=>.int (i+j)) (zac 1) (tC (.int 1))) (zac 4)) zak))) (zai 5))
 (zaz (zaU (tC (.int 1)) (zai 6))
 (zaz (zfV (zel (zab (tOp (rI (fun _ j=>0<j) fun i j=>.int (i % j)) (tOp (rI (fun _ j=>0<j∧j.natAbs.log2<9000) fun i j=>.int (i / j)) (zac 5) (tC (.int 4))) (tC (.int 30))) zak)) (zai 7)
 (zaU (tOp (rI IntMulOk fun i j=>.int (i*j)) (tC (.int 10)) (zac 6)) (zai 6)))
 (zcY K))))
theorem zbn (K:PySem.W.Frag) (D:zce) (σ:St) (H:Hp):zdM K D σ H=(zaz (zaU (zaH (zbg K) [] E0 (zab (zac 0) (zab (tOp (rI0 fun i j=>.int (i+j)) (tOp (rI0 fun i j=>.int (i+j)) (zac 1) (tC (.int 1))) (zac 4)) zak))) (zai 5))
 (zaz (zaU (tC (.int 1)) (zai 6))
 (zaz (zfV (zel (zab (tOp (rI (fun _ j=>0<j) fun i j=>.int (i % j)) (tOp (rI (fun _ j=>0<j∧j.natAbs.log2<9000) fun i j=>.int (i / j)) (zac 5) (tC (.int 4))) (tC (.int 30))) zak)) (zai 7)
 (zaU (tOp (rI IntMulOk fun i j=>.int (i*j)) (tC (.int 10)) (zac 6)) (zai 6)))
 (zcY K)))) D σ H:=rfl
def zeG (K:PySem.W.Frag):TS :=
 (zaz (zaU (zdq zak) (zai 3))
 (zaz (zfV (zel (zab (tOp (rI0 fun i j=>.int (i+j)) (tC (.int 1)) (tOp (rI (fun _ j=>0<j) fun i j=>.int (i % j)) (zaH (zbg K) [] E0 (zab (zac 0) (zab (zac 1) zak))) (tC (.int 4)))) zak)) (zai 4)
 (zdM K))
 (zb9 (zac 3))))
theorem PTh.int {n:Int} (h0:0≤n) (h1:n<big):PTh false H (.int n):=by
 unfold PTh
 rw [if_neg Bool.false_ne_true]
 exact ⟨n,rfl,h0,h1⟩
theorem PTh.tup {a b:Int} {u:Addr} (h:H u=some (.tup [.int a,.int b])) (a0:0≤a) (a1:a<big) (b0:0≤b) (b1:b<big):PTh true H (.ref u):=by
 unfold PTh
 rw [if_pos rfl]
 exact ⟨u,a,b,rfl,h,a0,a1,b0,b1⟩
theorem pick3 {i a b c:Int} (h:∀ x,x=a∨x=b∨x=c→0≤x∧x<big):∃ v:Int,atI [V.int a,V.int b,V.int c] (i % 3)=some (.int v)∧0≤v∧v<big:=by
 have:i % 3=0∨i % 3=1∨i % 3=2:=by omega
 rcases this with e | e | e
 ·exact ⟨a,by rw [e];exact zaV (j:=0) rfl,h a (.inl rfl)⟩
 ·exact ⟨b,by rw [e];exact zaV (j:=1) rfl,h b (.inr (.inl rfl))⟩
 ·exact ⟨c,by rw [e];exact zaV (j:=2) rfl,h c (.inr (.inr rfl))⟩
theorem pick4 {i a b c d:Int} (h:∀ x,x=a∨x=b∨x=c∨x=d→0≤x∧x<big):∃ v:Int,atI [V.int a,V.int b,V.int c,V.int d] (i % 4)=some (.int v)∧0≤v∧v<big:=by
 have:i % 4=0∨i % 4=1∨i % 4=2∨i % 4=3:=by omega
 rcases this with e | e | e | e
 ·exact ⟨a,by rw [e];exact zaV (j:=0) rfl,h a (.inl rfl)⟩
 ·exact ⟨b,by rw [e];exact zaV (j:=1) rfl,h b (.inr (.inl rfl))⟩
 ·exact ⟨c,by rw [e];exact zaV (j:=2) rfl,h c (.inr (.inr (.inl rfl)))⟩
 ·exact ⟨d,by rw [e];exact zaV (j:=3) rfl,h d (.inr (.inr (.inr rfl)))⟩
theorem zvI:zk6 10 29:=⟨by decide,by decide,by decide⟩
theorem zte {D:zce} {p pl:Addr} {ns:List Int} {sp:Bool} {st i j:Int} {ys:List V} {x3 x5 x6 x8 x10 x11:Option V} (st0:0≤st) (st1:st≤1000) (hS:SqL K H p (ns.map V.int)) (hl:ns.length≤63) (i0:0≤i) (i4:i<4) (j0:0≤j) (j9:j<10) (hpl:H pl=some (.lst ys)) (ly:ys.length≤9)
  (good:∀ y H' z10 z11,Bar pl H H'→H' pl=some (.lst (ys++[y]))→PTh sp (NwH H H') y→D.nx [some (.ref p),some (.int st),some (.str (kdS sp)),x3,some (.int i),x5,x6,some (.int j),x8,some (.ref pl),z10,z11] H') :
  zcu K D [some (.ref p),some (.int st),some (.str (kdS sp)),x3,some (.int i),x5,x6,some (.int j),x8,some (.ref pl),x10,x11] H:=by
 unfold zcu
 simp_all only [zbj,zbo,zbn,zac]
 refine ⟨zuV (by decide) (by decide),p,ns,_,rfl,hS,hl,by omega,by omega,fun r r0 r1=>⟨r,rfl,by decide,by decide +kernel,by decide,r,rfl,by decide,by decide +kernel,by decide,zvI,r,rfl,by decide,fun tp htp=>⟨r,rfl,by decide,_,SqL.of zad,?_⟩⟩⟩
 obtain ⟨v,hv,v0,v1⟩:=pick3 (i:=r) (a:=r / 3 % 8) (b:=r / 3 % 100) (c:=100000000000000000000000000000 - r) fun x hx=>by
  unfold big
  rcases hx with rfl | rfl | rfl <;> omega
 refine ⟨.int v,hv,rfl,?_⟩
 generalize eH:L2.upd H tp (.lst [.int (r / 3 % 8),.int (r / 3 % 100),.int (100000000000000000000000000000 - r)])=H1
 have s1:zaJ H H1:=by rw [← eH];exact zah htp _
 have h1:=s1 _ _ hpl
 cases sp
 ·rw [if_pos zoG]
  refine ⟨.inl ⟨rfl,_,SqL.of h1⟩,ys,h1,zda (by omega),good _ _ _ _ (fun b o n e=>by rw [zal n];exact s1 _ _ e) zad (.int v0 v1)⟩
 ·rw [if_neg (show ¬ kdS true=Str.ofString "walk" from zgZ)]
  refine ⟨.inl ⟨rfl,_,SqL.of h1⟩,r,rfl,by decide,by decide +kernel,by decide,by decide,fun u hu=>⟨ys,(zah hu _) _ _ h1,zda (by omega),good _ _ _ _ (fun b o n e=>by rw [zal n];exact (zah hu _) _ _ (s1 _ _ e)) zad (.tup (a:=v) (b:=r / 24 % 60) (zdn.mpr ⟨s1.free hu,?_⟩) v0 v1 (by omega) (by unfold big;omega))⟩⟩
  have n1:u≠pl:=fun z=>by rw [z,h1] at hu;cases hu
  rw [zal n1,zad]
theorem zjp {p:Addr} {ns:List Int} {st:Int} {sp:Bool} (st0:0≤st) (st1:st≤1000) (hS:SqL K H p (ns.map V.int)) (hl:ns.length≤63) (q:∀ r xs H',zaJ H H'→H' r=some (.lst xs)→xs.length≤4→(∀ x∈xs,PSh sp H' x)→Q (.ref r) H'):zeG K { nx:=fun _ H'=>Q .non H',rt:=Q } (L2.zbA ["_law_script","_law_start","_law_kind","_law_paper_here","_law_k","_law_number","_law_ten","_law_j","_law_weight","_law_plan","_law_draw","_law_place"] [.ref p,.int st,.str (kdS sp)]) H:=by
 unfold zeG
 simp_all only [zbj,zbo,zbn,zac]
 refine ⟨by decide,fun pp hpp=>⟨p,ns,_,rfl,(zah hpp _).seq hS,hl,by omega,by omega,fun r r0 r1=>⟨r,rfl,by decide,by omega,by omega,?_⟩⟩⟩
 generalize eH:L2.upd H pp (.lst [])=H0
 have s0:zaJ H H0:=by rw [← eH];exact zah hpp _
 have h0:H0 pp=some (.lst []):=by rw [← eH,zad]
 have toS:∀ H',Bar pp H0 H'→zaJ H H':=fun H' b b' o e=>b _ _ (zar e hpp) (s0 _ _ e)
 refine zcl (fun i σ H'=>Bar pp H0 H'∧(∃ xs,H' pp=some (.lst xs)∧xs.length=i∧∀ x∈xs,PSh sp (NwH H0 H') x)∧∃ z4 z5 z6 z7 z8 z9 z10 z11,σ=[some (.ref p),some (.int st),some (.str (kdS sp)),some (.ref pp),z4,z5,z6,z7,z8,z9,z10,z11]) ⟨fun _ _ _ e=>e,⟨[],h0,rfl,fun x h=>by cases h⟩,_,_,_,_,_,_,_,_,rfl⟩ ?_ ?_
 ·rintro i σ H' hi ⟨b,⟨xs,hx,lx,sx⟩,z4,z5,z6,z7,z8,z9,z10,z11,rfl⟩
  have hi4:i<4:=by omega
  rw [Int.zero_add]
  unfold zdM
  simp_all only [zbj,zbo,zbn,zac]
  refine ⟨p,ns,_,rfl,(toS H' b).seq hS,hl,by omega,by omega,fun r r0 r1=>⟨r,rfl,by decide,by decide +kernel,by decide,by omega,by omega,?_⟩⟩
  refine zcl (fun j σ H2=>H2=H'∧∃ (c:Nat) (z7:Option V),c≤10 ^ j∧σ=[some (.ref p),some (.int st),some (.str (kdS sp)),some (.ref pp),some (.int i),some (.int r),some (.int c),z7,z8,z9,z10,z11]) ⟨rfl,1,_,Nat.le_refl _,rfl⟩ ?_ ?_
  ·rintro j σ H2 hj ⟨rfl,c,z7,hc,rfl⟩
   simp_all only [zbj,zbo,zbn,zac]
   refine ⟨zuV (by decide) (by decide),10*c,?_,rfl⟩
   rw [Nat.pow_succ]
   omega
  rintro σ H2 ⟨rfl,c,z7,hc,rfl⟩
  have hc2:c≤10 ^ 29:=Nat.le_trans hc (Nat.pow_le_pow_right (by decide) (by omega))
  unfold zcY
  simp_all only [zbj,zbo,zbn,zac]
  have hc3:(c:Int)<big:=by
   have:(10:Nat) ^ 29=100000000000000000000000000000:=by decide
   unfold big
   omega
  refine ⟨by decide,by decide +kernel,by decide,zvI,by decide,by decide +kernel,by decide,fun tq htq=>⟨by decide,_,SqL.of zad,?_⟩⟩
  obtain ⟨wg,hw,w0,w1⟩:=pick4 (i:=r) (a:=1+r / 4 % 9) (b:=100000000000000000000000000000 - r) (c:=1+r / 4) (d:=(c:Int)) fun x hx=>by
   rcases hx with rfl | rfl | rfl | rfl
   ·unfold big;omega
   ·unfold big;omega
   ·unfold big;omega
   ·exact ⟨Int.natCast_nonneg _,hc3⟩
  refine ⟨.int wg,hw,by decide,fun pl hpl=>?_⟩
  have npl:pl≠pp:=fun z=>by
   have:=(zah htq (.lst [.int (1+r / 4 % 9),.int (100000000000000000000000000000 - r),.int (1+r / 4),.int (c:Int)])) _ _ hx
   rw [z,this] at hpl
   cases hpl
  have hHpl:H2 pl=none:=(zah htq _).free hpl
  generalize eH3:L2.upd (L2.upd H2 tq (.lst [.int (1+r / 4 % 9),.int (100000000000000000000000000000 - r),.int (1+r / 4),.int (c:Int)])) pl (.lst [])=H3
  have s3:zaJ H2 H3:=by rw [← eH3];exact (zah htq _).add hpl
  have h3l:H3 pl=some (.lst []):=by rw [← eH3,zad]
  have ei:=zwg sp
  have hb2:0≤(if sp=true then (0:Int) else 1)∧(if sp=true then (0:Int) else 1)≤1:=by cases sp <;> decide
  have sHs:∀ H4,Bar pl H3 H4→zaJ H H4:=fun H4 b4 b' o e=>b4 _ _ (fun z=>by rw [z] at e;rw [toS H2 b _ _ e] at hHpl;cases hHpl) (s3 _ _ (toS H2 b _ _ e))
  refine ⟨p,ns,_,rfl,s3.seq ((toS H2 b).seq hS),hl,by omega,by omega,fun m m0 m1=>⟨m,rfl,by decide,rfl,.inr ?_⟩⟩
  rw [ei]
  refine ⟨by omega,by omega,?_⟩
  refine zcl (fun j σ H4=>Bar pl H3 H4∧(∃ ys,H4 pl=some (.lst ys)∧ys.length=j∧∀ y∈ys,PTh sp (NwH H3 H4) y)∧∃ z7 z10 z11,σ=[some (.ref p),some (.int st),some (.str (kdS sp)),some (.ref pp),some (.int i),some (.int r),some (.int c),z7,some (.int wg),some (.ref pl),z10,z11]) ⟨fun _ _ _ e=>e,⟨[],h3l,rfl,fun y h=>by cases h⟩,_,_,_,rfl⟩ ?_ ?_
  ·rintro j σ H4 hj ⟨b4,⟨ys,hy,ly,sy⟩,y7,y10,y11,rfl⟩
   rw [Int.zero_add]
   refine zte (sp:=sp) st0 st1 ((sHs H4 b4).seq hS) hl (by omega) (by omega) (by omega) (by omega) hy (by omega) fun y H5 z10 z11 b5 h5 sh5=>?_
   refine ⟨fun b' o n e=>b5 _ _ n (b4 b' o n e),⟨ys++[y],h5,by rw [List.length_append,ly];rfl,fun z hz=>?_⟩,_,_,_,rfl⟩
   have nb:∀ b',H3 b'=none→b'≠pl:=fun b' h z=>by rw [z,h3l] at h;cases h
   rcases List.mem_append.mp hz with hz | hz
   ·exact (sy z hz).same (zcK fun b' o e1 e2=>⟨e1,b5 _ _ (nb b' e1) e2⟩)
   ·rw [List.mem_singleton.mp hz]
    refine sh5.same (zcK fun b' o e1 e2=>⟨?_,e2⟩)
    cases h0:H3 b' with
    | none=>rfl
    | some o' =>
     have n:b'≠pl:=fun z=>by rw [z,hy] at e1;cases e1
     rw [b4 _ _ n h0] at e1
     cases e1
  ·rintro σ H4 ⟨b4,⟨ys,hy,ly,sy⟩,y7,y10,y11,rfl⟩
   have hx4:H4 pp=some (.lst xs):=b4 _ _ npl.symm (s3 _ _ hx)
   have b04:Bar pp H0 H4:=fun b' o n e=>b4 _ _ (fun z=>by rw [z] at e;rw [b _ _ (z ▸ n) e] at hHpl;cases hHpl) (s3 _ _ (b b' o n e))
   simp_all only [zbj,zbo,zbn,zac]
   refine ⟨.inl ⟨rfl,_,SqL.of hx4⟩,by decide,fun tt htt=>⟨xs,(zah htt _) _ _ hx4,zda (by omega),?_⟩⟩
   have nt1:tt≠pp:=fun z=>by rw [z,hx4] at htt;cases htt
   have nt2:tt≠pl:=fun z=>by rw [z,hy] at htt;cases htt
   have no0:∀ b',H4 b'=none→b'≠pp→H0 b'=none:=fun b' h n=>by
    cases h0:H0 b' with
    | none=>rfl
    | some o=>rw [b04 _ _ n h0] at h;cases h
   refine ⟨fun b' o n e=>by rw [zal n];exact (zah htt _) _ _ (b04 b' o n e),⟨xs++[.ref tt],zad,by rw [List.length_append,lx];rfl,fun x hxx=>?_⟩⟩
   have n0:∀ b',H0 b'=none→b'≠pp:=fun b' h z=>by rw [z,h0] at h;cases h
   rcases List.mem_append.mp hxx with hxx | hxx
   ·refine (sx x hxx).same (zcK fun b' o e1 e2=>⟨e1,?_⟩)
    have e3:=b4 _ _ (fun z=>by rw [z,hHpl] at e2;cases e2) (s3 _ _ e2)
    rw [zal (n0 b' e1),zal (zar e3 htt)]
    exact e3
   ·rw [List.mem_singleton.mp hxx]
    have hl0:H0 pl=none:=by
     cases h0:H0 pl with
     | none=>rfl
     | some o=>rw [b _ _ npl h0] at hHpl;cases hHpl
    refine ⟨tt,pl,wg,ys,rfl,zdn.mpr ⟨no0 tt htt nt1,by rw [zal nt1,zad]⟩,w0,w1,zdn.mpr ⟨hl0,?_⟩,by omega,fun y hyy=>(sy y hyy).same (zcK fun b' o e1 e2=>?_)⟩
    ·rw [zal npl,zal nt2.symm]
     exact hy
    ·have m1:b'≠pp:=fun z=>by rw [z,s3 _ _ hx] at e1;cases e1
     have m2:b'≠tt:=zar e2 htt
     refine ⟨?_,by rw [zal m1,zal m2];exact e2⟩
     cases h0:H0 b' with
     | none=>rfl
     | some o'=>rw [s3 _ _ (b _ _ m1 h0)] at e1;cases e1
 ·rintro σ H' ⟨b,⟨xs,hx,lx,sx⟩,z4,z5,z6,z7,z8,z9,z10,z11,rfl⟩
  simp_all only [zbj,zbo,zbn,zac]
  exact q pp xs H' (toS H' b) hx (by omega) fun x hx=>(sx x hx).same zpB
theorem zaY:zaK ["_law_script","_law_start","_law_kind","_law_paper_here","_law_k","_law_number","_law_ten","_law_j","_law_weight","_law_plan","_law_draw","_law_place"] ["_law_script","_law_start","_law_kind"] (zam zeP):=⟨rfl,rfl,rfl,by decide +kernel,rfl,by decide +kernel,by decide +kernel⟩
theorem ziU (T:Txt K mg base a):zc8 P w K mg base CX0 2 a.f__law_paper a.d__law_paper ["_law_script","_law_start","_law_kind"] (zqB K):=by
 have G__law_mixed:=zd0 (P:=P) (w:=w) (base:=base) T
 refine T.F__law_paper.ok zaY (fun vs H Q E h=>?_) (fun cdv A outer s H vs Q E hr h=>?_)
 ·obtain ⟨p,ns,st,sp,rfl,st0,st1,hS,hl,q⟩:=h
  rfl
 obtain ⟨p,ns,st,sp,rfl,st0,st1,hS,hl,q⟩:=h
 exact ⟨zeG K,(zaf (zas (i:=3) zaY.nd rfl (Or.inl rfl) (zbN zae))
 (zaf (zc6 PassesOwn.never rfl (zcJ rfl T.z_range (zaa (zan za0 zag (zan za4 (zau G__law_mixed (hr.mono (by decide)) rfl T.m__law_mixed T.F__law_mixed.kp T.b__law_mixed .nil za8 (zaa (pv 0) (zaa (pv 1) zae))) zag)) zae)) (zaG (i:=4) zaY.nd rfl (Or.inl rfl))
 (zaf (zas (i:=5) zaY.nd rfl (Or.inl rfl) (zau G__law_mixed (hr.mono (by decide)) rfl T.m__law_mixed T.F__law_mixed.kp T.b__law_mixed .nil za8 (zaa (pv 0) (zaa (zan za0 (zan za0 (pv 1) zag) (pv 4)) zae))))
 (zaf (zas (i:=6) zaY.nd rfl (Or.inl rfl) zag)
 (zaf (zc6 PassesOwn.never rfl (zcJ rfl T.z_range (zaa (zan za4 (zan zbM (pv 5) zag) zag) zae)) (zaG (i:=7) zaY.nd rfl (Or.inl rfl))
 (zaj (zas (i:=6) zaY.nd rfl (Or.inl rfl) (zan zew zag (pv 6)))))
 (zaf (zas (i:=8) zaY.nd rfl (Or.inl rfl) (zbO zaX (zbN (zaa (zan za0 zag (zan za4 (zan zbM (pv 5) zag) zag)) (zaa (zan zgU (zan zhN zag zag) (pv 5)) (zaa (zan za0 zag (zan zbM (pv 5) zag)) (zaa (pv 6) zae))))) (zan za4 (pv 5) zag) (fun _ _=>rfl)))
 (zaf (zas (i:=9) zaY.nd rfl (Or.inl rfl) (zbN zae))
 (zaf (zc6 PassesOwn.never rfl (zcJ rfl T.z_range (zaa (zan za0 (zan za4 (zau G__law_mixed (hr.mono (by decide)) rfl T.m__law_mixed T.F__law_mixed.kp T.b__law_mixed .nil za8 (zaa (pv 0) (zaa (zan za0 (zan za0 (pv 1) zag) (pv 4)) zae))) zag) (zby zpd rfl T.z_int zjt (zaa (zlu zej (pv 2) zay (zaL _)) zae))) zae)) (zaG (i:=7) zaY.nd rfl (Or.inl rfl))
 (zaf (zas (i:=10) zaY.nd rfl (Or.inl rfl) (zau G__law_mixed (hr.mono (by decide)) rfl T.m__law_mixed T.F__law_mixed.kp T.b__law_mixed .nil za8 (zaa (pv 0) (zaa (zan za0 (zan za0 (zan za0 (pv 1) zag) (zan zew zag (pv 4))) (pv 7)) zae))))
 (zaf (zas (i:=11) zaY.nd rfl (Or.inl rfl) (zbO zaX (zbN (zaa (zan za4 (zan zbM (pv 10) zag) zag) (zaa (zan za4 (zan zbM (pv 10) zag) zag) (zaa (zan zgU (zan zhN zag zag) (pv 10)) zae)))) (zan za4 (pv 10) zag) (fun _ _=>rfl)))
 (zaj (zb8 (zat zej (pv 2) zay (zaL _)) (zaj (zcq (zcw PySem.F.plainAttrs_list PySem.F.slot_list_append PySem.F.type_list_append zcN (pv 9) (zaa (pv 11) zae)))) (zaj (zcq (zcw PySem.F.plainAttrs_list PySem.F.slot_list_append PySem.F.type_list_append zcN (pv 9) (zaa (zeX (zaa (pv 11) (zaa (zan za4 (zan zbM (pv 10) zag) zag) zae))) zae)))))))))
 (zaj (zcq (zcw PySem.F.plainAttrs_list PySem.F.slot_list_append PySem.F.type_list_append zcN (pv 3) (zaa (zeX (zaa (pv 9) (zaa (pv 8) zae))) zae)))))))))))
 (zaj (zaN (pv 3))))),
  zjp st0 st1 hS hl q⟩
theorem zjE {n:Int} (h0:0≤n) (h1:n<big):(Str.ofString (toString n)).length≤30:=zqw h0 (by decide) h1
theorem zjI {n:Int} (h0:0≤n) (h1:n<big):n.natAbs.log2<1920:=by
 refine (Nat.log2_lt' (by decide)).mpr ?_
 unfold big at h1
 have:n.natAbs<1000000000000000000000000000000:=by omega
 exact Nat.lt_trans this (by decide)
where
 Nat.log2_lt' {n k:Nat} (h:k≠0):n.log2<k↔n<2 ^ k:=by
  by_cases z:n=0
  ·subst z
   rw [Nat.log2_zero]
   exact ⟨fun _=>Nat.two_pow_pos k,fun _=>by omega⟩
  ·exact Nat.log2_lt z
theorem ztD (sp:Bool):(kdS sp).length≤6:=by cases sp <;> decide +kernel
def zo4 (K:PySem.W.Frag):Sp:=fun vs H Q _=>∃ (sp:Bool) (r:Addr) (xs:List V),vs=[.str (kdS sp),.ref r]∧H r=some (.lst xs)∧xs.length≤4∧(∀ x∈xs,PSh sp H x)∧∀ s,Rn 64 s→s.length≤2800→Q (.str s) H
def zb2 (K:PySem.W.Frag):TS :=
 (zcn (zav (tOp rEq (zac 0) (tC (.str "walk")))) (zaU (tOp zbE (tOp zbE (zac 2) (tC (.str " "))) (tCB zdX (zab (zac 5) zak))) (zai 2)) (zaU (tOp zbE (tOp zbE (tOp zbE (tOp zbE (zac 2) (tC (.str " "))) (tCB zdX (zab (tOp (zik K) (zac 5) (tC (.int 0))) zak))) (tC (.str "-"))) (tCB zdX (zab (tOp (zik K) (zac 5) (tC (.int 1))) zak))) (zai 2)))
theorem zbi (K:PySem.W.Frag) (D:zce) (σ:St) (H:Hp):zb2 K D σ H=(zcn (zav (tOp rEq (zac 0) (tC (.str "walk")))) (zaU (tOp zbE (tOp zbE (zac 2) (tC (.str " "))) (tCB zdX (zab (zac 5) zak))) (zai 2)) (zaU (tOp zbE (tOp zbE (tOp zbE (tOp zbE (zac 2) (tC (.str " "))) (tCB zdX (zab (tOp (zik K) (zac 5) (tC (.int 0))) zak))) (tC (.str "-"))) (tCB zdX (zab (tOp (zik K) (zac 5) (tC (.int 1))) zak))) (zai 2))) D σ H:=rfl
def zcD (K:PySem.W.Frag):TS :=
 (zaz (zaU (tOp zbE (tOp zbE (tOp zbE (zac 2) (zac 0)) (tC (.str " "))) (tCB zdX (zab (zac 4) zak))) (zai 2))
 (zaz (zfV (zfO K (zac 3)) (zai 5)
 (zb2 K))
 (zaU (tOp zbE (zac 2) (tC (.str "\n"))) (zai 2))))
theorem zbh (K:PySem.W.Frag) (D:zce) (σ:St) (H:Hp):zcD K D σ H=(zaz (zaU (tOp zbE (tOp zbE (tOp zbE (zac 2) (zac 0)) (tC (.str " "))) (tCB zdX (zab (zac 4) zak))) (zai 2))
 (zaz (zfV (zfO K (zac 3)) (zai 5)
 (zb2 K))
 (zaU (tOp zbE (zac 2) (tC (.str "\n"))) (zai 2)))) D σ H:=rfl
def zcS (K:PySem.W.Frag):TS :=
 (zaz (zaU (tC (.str "")) (zai 2))
 (zaz (zfV (zfO K (zac 1)) (ziy K 2 (zbL (zai 3) (zbL (zai 4) zix)))
 (zcD K))
 (zb9 (zac 2))))
theorem zf1 {sp:Bool} {r:Addr} {xs:List V} (hr:H r=some (.lst xs)) (lx:xs.length≤4) (hx:∀ x∈xs,PSh sp H x) (q:∀ s,Rn 64 s→s.length≤2800→Q (.str s) H):zcS K { nx:=fun _ H'=>Q .non H',rt:=Q } (L2.zbA ["_law_kind","_law_paper_here","_law_text_here","_law_plan","_law_weight","_law_thing"] [.str (kdS sp),.ref r]) H:=by
 unfold zcS
 simp_all only [zbi,zbh,zac]
 refine ⟨⟨_,SqL.of hr⟩,?_⟩
 refine zeB (xs:=xs) (fun i σ H'=>H'=H∧∃ (s:Str) (z3 z4 z5:Option V),StR 64 0 s∧s.length≤700*i∧σ=[some (.str (kdS sp)),some (.ref r),some (.str s),z3,z4,z5]) ⟨rfl,_,_,_,_,StR.nil,(by decide +kernel),rfl⟩ ?_ ?_ ?_
 ·rintro i σ H' _ ⟨rfl,_⟩
  exact SqL.of hr
 ·rintro i x σ H' e ⟨rfl,s,z3,z4,z5,h1,h2,rfl⟩
  have li:=(List.getElem?_eq_some_iff.mp e).1
  obtain ⟨t,l,w,ys,rfl,ht,w0,w1,hl,ly,hys⟩:=hx x (zcQ e)
  unfold zcD
  simp_all only [zbi,zbh,zac]
  have k6:=ztD sp
  have hw:=zjE w0 w1
  have l1:(Str.ofString " ").length=1:=by decide +kernel
  have l2:(Str.ofString "\n").length=1:=by decide +kernel
  have l3:(Str.ofString "-").length=1:=by decide +kernel
  refine ⟨_,SqT.of ht,rfl,_,_,rfl,_,_,rfl,rfl,?_⟩
  have lx1:=zaQ s (kdS sp)
  have lx2:=zaQ (s++kdS sp) (Str.ofString " ")
  have lx3:=zaQ (s++kdS sp++Str.ofString " ") (Str.ofString (toString w))
  have st1:StR 64 30 (s++kdS sp++Str.ofString " "++Str.ofString (toString w)):=((h1.add k6).sep (.inl rfl) zic (by decide)).add hw
  refine ⟨zbR (by omega),zbR (by omega),w,rfl,zjI w0 w1,zbR (by omega),l,rfl,⟨_,SqL.of hl⟩,?_⟩
  generalize s++kdS sp++Str.ofString " "++Str.ofString (toString w)=s1 at lx3 st1
  refine zeB (xs:=ys) (fun j σ H2=>H2=H'∧∃ (s2:Str) (z5:Option V),StR 64 61 s2∧s2.length≤s1.length+62*j∧σ=[some (.str (kdS sp)),some (.ref r),some (.str s2),some (.ref l),some (.int w),z5]) ⟨rfl,s1,_,st1.mono (by decide),by omega,rfl⟩ ?_ ?_ ?_
  ·rintro j σ H2 _ ⟨rfl,_⟩
   exact SqL.of hl
  ·rintro j y σ H2 ey ⟨rfl,s2,z5,g1,g2,rfl⟩
   have lj:=(List.getElem?_eq_some_iff.mp ey).1
   have hy:=hys y (zcQ ey)
   have lx4:=zaQ s2 (Str.ofString " ")
   unfold zb2
   simp_all only [zbi,zbh,zac]
   refine ⟨rfl,?_⟩
   cases sp
   ·rw [if_pos zoG]
    unfold PTh at hy
    rw [if_neg Bool.false_ne_true] at hy
    obtain ⟨n,rfl,n0,n1⟩:=hy
    have hn:=zjE n0 n1
    have lx5:=zaQ (s2++Str.ofString " ") (Str.ofString (toString n))
    exact ⟨zbR (by omega),n,rfl,zjI n0 n1,zbR (by omega),_,((g1.sep (.inl rfl) zic (by decide)).add hn).mono (by decide),by omega,rfl⟩
   ·rw [if_neg (show ¬ kdS true=Str.ofString "walk" from zgZ)]
    unfold PTh at hy
    rw [if_pos rfl] at hy
    obtain ⟨u,a,b,rfl,hu,a0,a1,b0,b1⟩:=hy
    have ha:=zjE a0 a1
    have hb:=zjE b0 b1
    have lx5:=zaQ (s2++Str.ofString " ") (Str.ofString (toString a))
    have lx6:=zaQ (s2++Str.ofString " "++Str.ofString (toString a)) (Str.ofString "-")
    have lx7:=zaQ (s2++Str.ofString " "++Str.ofString (toString a)++Str.ofString "-") (Str.ofString (toString b))
    exact ⟨zbR (by omega),u,rfl,_,SqT.of hu,.int a,zaV (j:=0) rfl,a,rfl,zjI a0 a1,zbR (by omega),zbR (by omega),u,rfl,_,SqT.of hu,.int b,zaV (j:=1) rfl,b,rfl,zjI b0 b1,zbR (by omega),_,(((g1.sep (.inl rfl) zic (by decide)).add ha).add (Nat.le_of_eq l3)).add hb,by omega,rfl⟩
  ·rintro σ H2 ⟨rfl,s2,z5,g1,g2,rfl⟩
   have lx4:=zaQ s2 (Str.ofString "\n")
   simp_all only [zbi,zbh,zac]
   exact ⟨zbR (by omega),_,g1.sep (.inr rfl) zcG (by decide),by omega,rfl⟩
 ·rintro σ H' ⟨rfl,s,z3,z4,z5,h1,h2,rfl⟩
  simp_all only [zbi,zbh,zac]
  exact q s (h1.rn (by decide)) (by omega)
theorem zaR:zaK ["_law_kind","_law_paper_here","_law_text_here","_law_plan","_law_weight","_law_thing"] ["_law_kind","_law_paper_here"] (zam zcW):=⟨rfl,rfl,rfl,by decide +kernel,rfl,by decide +kernel,by decide +kernel⟩
theorem zfX (T:Txt K mg base a):zc8 P w K mg base CX0 1 a.f__law_paper_text a.d__law_paper_text ["_law_kind","_law_paper_here"] (zo4 K):=by
 refine T.F__law_paper_text.ok zaR (fun vs H Q E h=>?_) (fun cdv A outer s H vs Q E hr h=>?_)
 ·obtain ⟨sp,r,xs,rfl,hR,lx,hx,q⟩:=h
  rfl
 obtain ⟨sp,r,xs,rfl,hR,lx,hx,q⟩:=h
 exact ⟨zcS K,(zaf (zas (i:=2) zaR.nd rfl (Or.inl rfl) zay)
 (zaf (zc6 PassesOwn.never rfl (zdP (pv 1)) (zdV rfl (zaO (zaG (i:=3) zaR.nd rfl (Or.inl rfl)) (zaO (zaG (i:=4) zaR.nd rfl (Or.inl rfl)) zcX)))
 (zaf (zas (i:=2) zaR.nd rfl (Or.inl rfl) (zan zbl (zan zbl (zan zbl (pv 2) (pv 0)) zay) (zby zcv rfl T.z_str zc2 (zaa (pv 4) zae))))
 (zaf (zc6 PassesOwn.never rfl (zdP (pv 3)) (zaG (i:=5) zaR.nd rfl (Or.inl rfl))
 (zaj (zb8 (zat zej (pv 0) zay (zaL _)) (zaj (zas (i:=2) zaR.nd rfl (Or.inl rfl) (zan zbl (zan zbl (pv 2) zay) (zby zcv rfl T.z_str zc2 (zaa (pv 5) zae))))) (zaj (zas (i:=2) zaR.nd rfl (Or.inl rfl) (zan zbl (zan zbl (zan zbl (zan zbl (pv 2) zay) (zby zcv rfl T.z_str zc2 (zaa (zbO zfi (pv 5) zag (fun _ _=>rfl)) zae))) zay) (zby zcv rfl T.z_str zc2 (zaa (zbO zfi (pv 5) zag (fun _ _=>rfl)) zae))))))))
 (zaj (zas (i:=2) zaR.nd rfl (Or.inl rfl) (zan zbl (pv 2) zay))))))
 (zaj (zaN (pv 2))))),
  zf1 hR lx hx q⟩
def zhc (ts:List Str):Nat:=(ts.map (·.length)).sum+ts.length
theorem zhl (a b:List Str):zhc (a++b)=zhc a+zhc b:=by
 unfold zhc
 rw [List.map_append,List.sum_append,List.length_append]
 omega
theorem zhr (a:List Str) (n:Nat):zhc (a.take n)≤zhc a:=by
 have:=zhl (a.take n) (a.drop n)
 rw [List.take_append_drop] at this
 omega
theorem zkp (a:List Str) (n:Nat):zhc (a.drop n)≤zhc a:=by
 have:=zhl (a.take n) (a.drop n)
 rw [List.take_append_drop] at this
 omega
theorem zqQ {a:List Str} {x:Str} (h:x∈a):x.length+1≤zhc a:=by
 obtain ⟨n,hn⟩:=List.mem_iff_getElem?.mp h
 have h1:=zkp a n
 rw [List.drop_eq_getElem_cons (List.getElem?_eq_some_iff.mp hn).1,(List.getElem?_eq_some_iff.mp hn).2] at h1
 unfold zhc at h1
 rw [List.map_cons,List.sum_cons,List.length_cons] at h1
 unfold zhc
 omega
theorem zkc (c:Nat) (ts:List Str):(Txt.join ⟨#[c]⟩ ts).length≤zhc ts:=by
 show (PySem.Builtin.Str.glued ⟨#[c]⟩ ts).length≤_
 rw [StrLaws.glued_eq_join]
 cases ts with
 | nil=>exact Nat.le_refl 0
 | cons a l =>
  rw [PyProof.Rows.len_join_cons]
  unfold zhc
  rw [List.length_cons]
  show _+l.length*1≤_
  omega
theorem zdH {m n:Nat} {s:Str} (h:Rn m s) (l:m≤n):Rn n s:=Nat.le_trans h l
def EvT (te:TE) (σ:St) (H:Hp) (R N:Nat):Prop:=∀ (H1:Hp) (Q:VK),zaJ H H1→(∀ s H',zaJ H1 H'→Rn R s→s.length≤N→Q (.str s) H')→te σ H1 Q
def EvL (te:TE) (σ:St) (H:Hp) (R N:Nat):Prop:=∀ (H1:Hp) (Q:VK),zaJ H H1→(∀ p ts H',zaJ H1 H'→H' p=some (.lst (ts.map V.str))→(∀ x∈ts,Rn R x)→zhc ts≤N→Q (.ref p) H')→te σ H1 Q
section
variable {σ:St} {te ta tb:TE} {tl th:TO} {R N R2 N2:Nat} {o1 o2:Option Int}
theorem EvT.var {k:Nat} {s:Str} (h:σ[k]?=some (some (.str s))) (r:Rn R s) (l:s.length≤N):EvT (zac k) σ H R N:=fun H1 _ _ q=>⟨_,h,q s H1 (.refl _) r l⟩
theorem EvT.cat (a:EvT ta σ H R N) (b:EvT tb σ H R2 N2) (l:N+N2≤99999):EvT (tOp zbE ta tb) σ H (R+R2) (N+N2):=fun H1 _ s q=>a H1 _ s fun x H2 s2 rx lx=>b H2 _ (s.trans s2) fun y H3 s3 ry ly=>⟨x,y,rfl,rfl,zbR (by omega),q _ H3 (s2.trans s3) (by
  unfold Rn at rx ry ⊢
  rw [zb3]
  have:=(zg3 (sgn x) (sgn y) 0).1
  omega) (by rw [zaQ];omega)⟩
theorem EvT.sl (a:EvT ta σ H R N) (lo:EvO tl σ H o1) (hi:EvO th σ H o2) (l:N≤99999):EvT (tSl zqE ta tl th) σ H R N:=fun H1 _ s q=>a H1 _ s fun x H2 s2 rx lx=>lo H2 _ (s.trans s2) fun H3 s3=>hi H3 _ ((s.trans s2).trans s3) fun H4 s4=>⟨x,rfl,zbR (by omega),q _ H4 (s2.trans (s3.trans s4)) (by
  unfold Rn at rx ⊢
  rw [zsP]
  exact Nat.le_trans (zuN _ _) (Nat.le_trans (ztl _ _) rx)) (by
  rw [zcA,zsP,List.length_take,List.length_drop]
  have:=zcA x
  unfold sgn at this
  omega)⟩
theorem EvL.var {k:Nat} {p:Addr} {ts:List Str} (h:σ[k]?=some (some (.ref p))) (hp:H p=some (.lst (ts.map V.str))) (r:∀ x∈ts,Rn R x) (l:zhc ts≤N):EvL (zac k) σ H R N:=fun H1 _ s q=>⟨_,h,q p ts H1 (.refl _) (s _ _ hp) r l⟩
theorem EvL.sl (a:EvL ta σ H R N) (lo:EvO tl σ H o1) (hi:EvO th σ H o2):EvL (tSl (zhk K) ta tl th) σ H R N:=fun H1 _ s q=>a H1 _ s fun p ts H2 s2 hp r l=>lo H2 _ (s.trans s2) fun H3 s3=>hi H3 _ ((s.trans s2).trans s3) fun H4 s4=>⟨p,_,rfl,SqL.of ((s3.trans s4) _ _ hp),fun p2 hp2=>by
  have e:zma (ts.map V.str) o1 o2=(((ts.drop (HT.sIx ts.length 0 o1)).take (HT.sIx ts.length ts.length o2 - HT.sIx ts.length 0 o1))).map V.str:=by
   unfold zma
   rw [List.length_map,List.map_take,List.map_drop]
  rw [e]
  exact q p2 _ _ ((s2.trans (s3.trans s4)).add hp2) zad (fun x hx=>r x (List.mem_of_mem_drop (List.mem_of_mem_take hx))) (Nat.le_trans (zhr _ _) (Nat.le_trans (zkp _ _) l))⟩
theorem EvL.cat (a:EvL ta σ H R N) (b:EvL tb σ H R N2) (l:N+N2≤999999):EvL (tOp zgm ta tb) σ H R (N+N2):=fun H1 _ s q=>a H1 _ s fun p ts H2 s2 hp r1 l1=>b H2 _ (s.trans s2) fun p2 us H3 s3 hp2 r2 l2=>⟨p,p2,_,_,rfl,rfl,s3 _ _ hp,hp2,by
  rw [List.length_map,List.length_map]
  unfold zhc at l1 l2
  exact Nat.le_trans (show ts.length+us.length≤999999 by omega) (by decide),fun p3 hp3=>by
  rw [← List.map_append]
  refine q p3 _ _ ((s2.trans s3).add hp3) zad (fun x hx=>?_) (by rw [zhl];omega)
  rcases List.mem_append.mp hx with hx | hx
  ·exact r1 x hx
  ·exact r2 x hx⟩
theorem EvL.one (a:EvT ta σ H R N):EvL (zdq (zab ta zak)) σ H R (N+1):=fun H1 _ s q=>a H1 _ s fun x H2 s2 r l=>⟨zbR (show 1≤99999 by decide),fun p hp=>q p [x] _ (s2.add hp) zad (fun y hy=>by rw [List.mem_singleton.mp hy];exact r) (by
  show x.length+0+1≤_
  omega)⟩
theorem EvT.join (a:EvL ta σ H R N) (l:N≤999999):EvT (tBM K "str" (zg5 K) (tC (.str (Str.ofString "\n"))) (zab ta zak)) σ H R N:=fun H1 _ s q=>⟨rfl,a H1 _ s fun p ts H2 s2 hp r l1=>⟨_,p,ts,rfl,rfl,SqL.of hp,by
  rw [zcG]
  unfold zhc at l1
  show _+ts.length*1≤_
  exact Nat.le_trans (show (ts.map (·.length)).sum+ts.length*1≤999999 by omega) (by decide),by
  rw [zcG]
  refine q _ _ s2 ?_ (Nat.le_trans (zkc 10 ts) l1)
  show Rn R (PySem.Builtin.Str.glued ⟨#[10]⟩ ts)
  rw [StrLaws.glued_eq_join]
  exact zme (.inr rfl) r⟩⟩
theorem EvT.ix {k j n:Nat} {p:Addr} {ts:List Str} (h:σ[k]?=some (some (.ref p))) (hp:H p=some (.lst (ts.map V.str))) (r:∀ x∈ts,Rn R x) (l:zhc ts≤N) (hj:σ[j]?=some (some (.int n))) (hn:n<ts.length):EvT (tOp (zcO K) (zac k) (zac j)) σ H R N:=fun H1 _ s q=>by
 have e:ts[n]?=some ts[n]:=List.getElem?_eq_getElem hn
 exact ⟨_,h,_,hj,p,_,_,.str ts[n],rfl,rfl,SqL.of (s _ _ hp),zaV (by rw [List.getElem?_map,e];rfl),q _ H1 (.refl _) (r _ (zcQ e)) (by have:=zqQ (zcQ e);omega)⟩
theorem zpp {D:zce} {n wy:Int} (h8:σ[8]?=some (some (.int wy))) (e:EvT te σ H R N) (q:∀ s H',zaJ H H'→Rn R s→s.length≤N→D.rt (.str s) H') (k:D.nx σ H):zeh (zcn (zav (tOp rEq (zac 8) (tC (.int n)))) (zb9 te) zaZ) D σ H:=by
 refine ⟨fun σ' H'=>σ'=σ∧H'=H,⟨_,h8,rfl,_,rfl,?_⟩,by rintro _ _ ⟨rfl,rfl⟩;exact k⟩
 show if decide (V.int wy=V.int n)=true then _ else _
 split
 ·exact e H _ (.refl _) q
 ·exact ⟨rfl,rfl⟩
theorem ze5 {T:TS} {D:zce} {n wy:Int} (h8:σ[8]?=some (some (.int wy))) (e:EvT te σ H R N) (q:∀ s H',zaJ H H'→Rn R s→s.length≤N→D.rt (.str s) H') (k:T D σ H):zaz (zeh (zcn (zav (tOp rEq (zac 8) (tC (.int n)))) (zb9 te) zaZ)) T D σ H:=zpp h8 e q k
end
theorem zk5 {σ:St} {s:Str}:EvS (tC (.str s)) σ H (.str s):=.con fun _=>.str s
theorem zt0 {ss:List Str} {v:V} (h:Sh H (.lst (ss.map Tr.str)) v):∃ u,v=.ref u∧H u=some (.lst (ss.map V.str)):=by
 cases h with
 | @lst u xs _ h l e =>
  refine ⟨u,rfl,?_⟩
  have:xs=ss.map V.str:=by
   refine List.ext_getElem? fun i=>?_
   rw [List.length_map] at l
   by_cases c:i<xs.length
   ·have es:ss[i]?=some (ss[i]'(by omega)):=List.getElem?_eq_getElem _
    have:=e i _ (.str (ss[i]'(by omega))) (List.getElem?_eq_getElem c) (by rw [List.getElem?_map,es];rfl)
    rw [List.getElem?_eq_getElem c,List.getElem?_map,es]
    generalize xs[i]=y at this
    cases this
    rfl
   ·rw [List.getElem?_eq_none (by omega),List.getElem?_eq_none (by rw [List.length_map];omega)]
  rw [← this]
  exact h
def zqu (K:PySem.W.Frag):Sp:=fun vs H Q _=>∃ (text:Str) (p:Addr) (ds:List Int) (L:Nat),vs=[.str text,.ref p]∧H p=some (.lst (ds.map V.int))∧ds.length=5∧(∀ d∈ds,0≤d)∧10≤L∧Rn L text∧text.length≤30000∧∀ s H',zaJ H H'→Rn (2*L+2) s→s.length≤3*text.length+40→Q (.str s) H'
def zjv (K:PySem.W.Frag):TS :=
 (zcn (zav (tOp rEq (zac 8) (tC (.int 7)))) (zaz (zaU (zdq (zab (tC (.str "")) (zab (tC (.str "road 0 1 0")) (zab (tC (.str "road 0 0 5")) (zab (tC (.str "web 2")) (zab (tC (.str "walk 1 0")) (zab (tC (.str "spread 1 0-1")) (zab (tC (.str "road 00 1 5")) (zab (tC (.str "walk 0 0")) zak))))))))) (zai 9))
 (zaz (zaU (tOp zgm (zac 9) (zdq (zab (tC (.str "road 0 1 1000001")) (zab (tC (.str "walk 1")) (zab (tC (.str "spread 2")) (zab (tC (.str "road 0 1 5 ")) (zab (tC (.str "spread 1 0-")) (zab (tC (.str "walk 1  0")) zak)))))))) (zai 9))
 (zaz (zaU (tOp zgm (zac 9) (zdq (zab (tC (.str "web 61")) (zab (tC (.str "web 0")) zak)))) (zai 9))
 (zb9 (tBM K "str" (zg5 K) (tC (.str "\n")) (zab (tOp zgm (tOp zgm (tSl (zhk K) (zac 5) za2 (zcc (zac 6))) (zdq (zab (tOp (zcO K) (zac 9) (tOp (rI (fun _ j=>0<j) fun i j=>.int (i % j)) (tOp (zcO K) (zac 1) (tC (.int 1))) (tCB (fun xs H Q=>∃ p ys,xs=[.ref p]∧(SqL K H p ys∨SqT K H p ys)∧Q (.int ys.length) H) (zab (zac 9) zak)))) zak))) (tSl (zhk K) (zac 5) (zcc (zac 6)) za2)) zak)))))) zaZ)
def zi1 (K:PySem.W.Frag):TS :=
 (zcn (zav (tOp rEq (zac 8) (tC (.int 6)))) (zb9 (tBM K "str" (zg5 K) (tC (.str "\n")) (zab (tOp zgm (tOp zgm (tSl (zhk K) (zac 5) za2 (zcc (zac 6))) (zdq (zab (tOp (zcO K) (zac 5) (zac 7)) zak))) (tSl (zhk K) (zac 5) (zcc (tOp (rI0 fun i j=>.int (i+j)) (zac 6) (tC (.int 1)))) za2)) zak))) zaZ)
def ziX (K:PySem.W.Frag):TS :=
 (zcn (zav (tOp rEq (zac 8) (tC (.int 5)))) (zb9 (tBM K "str" (zg5 K) (tC (.str "\n")) (zab (tOp zgm (tOp zgm (tSl (zhk K) (zac 5) za2 (zcc (zac 6))) (zdq (zab (tOp (zcO K) (zac 5) (zac 7)) zak))) (tSl (zhk K) (zac 5) (zcc (zac 6)) za2)) zak))) zaZ)
def zje (K:PySem.W.Frag):TS :=
 (zcn (zav (tOp rEq (zac 8) (tC (.int 4)))) (zb9 (tBM K "str" (zg5 K) (tC (.str "\n")) (zab (tOp zgm (tSl (zhk K) (zac 5) za2 (zcc (zac 6))) (tSl (zhk K) (zac 5) (zcc (tOp (rI0 fun i j=>.int (i+j)) (zac 6) (tC (.int 1)))) za2)) zak))) zaZ)
def zi2 (K:PySem.W.Frag):TS :=
 (zaz (zeh (zje K))
 (zaz (zeh (ziX K))
 (zaz (zeh (zi1 K))
 (zaz (zeh (zjv K))
 (zb9 (tOp zbE (zac 0) (zac 0)))))))
def zi5:TS :=
 (zcn (zav (tOp rEq (zac 8) (tC (.int 2)))) (zb9 (tOp zbE (tSl zqE (zac 0) za2 (zcc (zac 3))) (tSl zqE (zac 0) (zcc (tOp (rI0 fun i j=>.int (i+j)) (zac 3) (tC (.int 1)))) za2))) zaZ)
def zjd (K:PySem.W.Frag):TS :=
 (zaz (zeh (zi5))
 (zaz (zeh (zcn (zav (tOp rEq (zac 8) (tC (.int 3)))) (zb9 (tSl zqE (zac 0) za2 (zcc (zac 3)))) zaZ))
 (zi2 K)))
def zjA:TS :=
 (zcn (zav (tOp rEq (zac 8) (tC (.int 1)))) (zb9 (tOp zbE (tOp zbE (tSl zqE (zac 0) za2 (zcc (zac 3))) (zac 4)) (tSl zqE (zac 0) (zcc (tOp (rI0 fun i j=>.int (i+j)) (zac 3) (tC (.int 1)))) za2))) zaZ)
def zjF:TS :=
 (zcn (zav (tOp rEq (zac 8) (tC (.int 0)))) (zb9 (tOp zbE (tOp zbE (tSl zqE (zac 0) za2 (zcc (zac 3))) (zac 4)) (tSl zqE (zac 0) (zcc (zac 3)) za2))) zaZ)
def zfU (K:PySem.W.Frag):TS :=
 (zaz (zaU (tC (.str " 0123456789-\nwebroadlkspA.~")) (zai 2))
 (zaz (zaU (tOp (rI (fun _ j=>0<j) fun i j=>.int (i % j)) (tOp (zcO K) (zac 1) (tC (.int 0))) (tOp (rI0 fun i j=>.int (i+j)) (tCB zof (zab (zac 0) zak)) (tC (.int 1)))) (zai 3))
 (zaz (zaU (tOp rIxS (zac 2) (tOp (rI (fun _ j=>0<j) fun i j=>.int (i % j)) (tOp (zcO K) (zac 1) (tC (.int 1))) (tCB zof (zab (zac 2) zak)))) (zai 4))
 (zaz (zaU (tBM K "str" zdD (zac 0) (zab (tC (.str "\n")) zak)) (zai 5))
 (zaz (zaU (tOp (rI (fun _ j=>0<j) fun i j=>.int (i % j)) (tOp (zcO K) (zac 1) (tC (.int 2))) (tCB (fun xs H Q=>∃ p ys,xs=[.ref p]∧(SqL K H p ys∨SqT K H p ys)∧Q (.int ys.length) H) (zab (zac 5) zak))) (zai 6))
 (zaz (zaU (tOp (rI (fun _ j=>0<j) fun i j=>.int (i % j)) (tOp (zcO K) (zac 1) (tC (.int 3))) (tCB (fun xs H Q=>∃ p ys,xs=[.ref p]∧(SqL K H p ys∨SqT K H p ys)∧Q (.int ys.length) H) (zab (zac 5) zak))) (zai 7))
 (zaz (zaU (tOp (rI (fun _ j=>0<j) fun i j=>.int (i % j)) (tOp (zcO K) (zac 1) (tC (.int 4))) (tC (.int 9))) (zai 8))
 (zaz (zeh (zjF))
 (zaz (zeh (zjA))
 (zjd K))))))))))
def zsV:List Str:=[Str.ofString "",Str.ofString "road 0 1 0",Str.ofString "road 0 0 5",Str.ofString "web 2",Str.ofString "walk 1 0",Str.ofString "spread 1 0-1",Str.ofString "road 00 1 5",Str.ofString "walk 0 0",Str.ofString "road 0 1 1000001",Str.ofString "walk 1",Str.ofString "spread 2",Str.ofString "road 0 1 5 ",Str.ofString "spread 1 0-",Str.ofString "walk 1  0",Str.ofString "web 61",Str.ofString "web 0"]
theorem zv2:∀ x∈zsV,Rn 10 x∧x.length≤16:=by
 have:(zsV.all fun x=>decide (lr 0 (sgn x)≤10)&&decide (x.length≤16))=true:=by decide +kernel
 intro x hx
 have h:=List.all_eq_true.mp this x hx
 rw [Bool.and_eq_true,decide_eq_true_eq,decide_eq_true_eq] at h
 exact h
theorem ze1:(Str.ofString " 0123456789-\nwebroadlkspA.~").length=27:=by decide +kernel
theorem zkY {text:Str} {p:Addr} {ds:List Int} {L:Nat} (hp:H p=some (.lst (ds.map V.int))) (l5:ds.length=5) (d0:∀ d∈ds,0≤d) (l10:10≤L) (hr:Rn L text) (lt:text.length≤30000) (q:∀ s H',zaJ H H'→Rn (2*L+2) s→s.length≤3*text.length+40→Q (.str s) H'):zfU K { nx:=fun _ H'=>Q .non H',rt:=Q } (L2.zbA ["_law_text_here","_law_draws","_law_some","_law_at","_law_sign","_law_rows","_law_row","_law_to","_law_way","_law_odd"] [.str text,.ref p]) H:=by
 obtain ⟨d1,d2,d3,d4,d5,rfl⟩:∃ d1 d2 d3 d4 d5,ds=[d1,d2,d3,d4,d5]:=by
  match ds,l5 with
  | [a,b,c,d,e],_=>exact ⟨a,b,c,d,e,rfl⟩
 unfold zfU
 simp_all only [zac]
 refine ⟨_,SqL.of hp,.int d1,zaV (j:=0) rfl,zbR (by omega),d1,rfl,by omega,_,SqL.of hp,.int d2,zaV (j:=1) rfl,by rw [ze1];decide,d2,rfl,by rw [ze1];decide,by rw [ze1];decide,?_⟩
 obtain ⟨c,hc⟩:∃ c,atI (Str.ofString " 0123456789-\nwebroadlkspA.~").cps.toList (d2 % ((Str.ofString " 0123456789-\nwebroadlkspA.~").length:Int))=some c:=by
  have lS:(Str.ofString " 0123456789-\nwebroadlkspA.~").cps.toList.length=27:=by
   have:=zcA (Str.ofString " 0123456789-\nwebroadlkspA.~")
   rw [ze1] at this
   exact this.symm
  obtain ⟨n,hn⟩:∃ n:Nat,d2 % ((Str.ofString " 0123456789-\nwebroadlkspA.~").length:Int)=(n:Int):=⟨(d2 % ((Str.ofString " 0123456789-\nwebroadlkspA.~").length:Int)).toNat,by rw [ze1];omega⟩
  rw [hn]
  exact ⟨_,zaV (List.getElem?_eq_getElem (by rw [lS];rw [ze1] at hn;omega))⟩
 refine ⟨c,hc,rfl,by decide +kernel,by omega,fun pr hpr=>?_⟩
 have ms:zhc (Txt.split text (Str.ofString "\n"))≤text.length+1:=by
  rw [zcG]
  exact PyProof.Rows.split_weight text ⟨#[10]⟩ (Nat.le_refl 1)
 have mr:∀ x∈Txt.split text (Str.ofString "\n"),Rn L x:=by
  rw [zcG]
  exact zdz hr
 have mn:Txt.split text (Str.ofString "\n")≠[]:=zck _ _
 generalize Txt.split text (Str.ofString "\n")=rows at *
 have l1:0<rows.length:=List.length_pos_iff.mpr mn
 generalize eH:L2.upd H pr (.lst (rows.map V.str))=H1
 have s1:zaJ H H1:=by rw [← eH];exact zah hpr _
 have h1r:H1 pr=some (.lst (rows.map V.str)):=by rw [← eH,zad]
 have h1p:=s1 _ _ hp
 refine ⟨_,SqL.of h1p,.int d3,zaV (j:=2) rfl,_,.inl (SqL.of h1r),d3,rfl,by rw [List.length_map];omega,_,SqL.of h1p,.int d4,zaV (j:=3) rfl,_,.inl (SqL.of h1r),d4,rfl,by rw [List.length_map];omega,_,SqL.of h1p,.int d5,zaV (j:=4) rfl,d5,rfl,by decide,?_⟩
 rw [List.length_map]
 obtain ⟨n4,e4,l4⟩:∃ n:Nat,d4 % (rows.length:Int)=(n:Int)∧n<rows.length:=⟨(d4 % (rows.length:Int)).toNat,by have:=Int.emod_nonneg d4 (show (rows.length:Int)≠0 by omega);omega,by have:=Int.emod_nonneg d4 (show (rows.length:Int)≠0 by omega);have:=Int.emod_lt_of_pos d4 (show (0:Int)<rows.length by omega);omega⟩
 rw [e4]
 generalize d1 % ((text.length:Int)+1)=at'
 generalize d3 % (rows.length:Int)=rw'
 generalize d5 % 9=wy
 have rs:Rn 1 (⟨#[c]⟩:Str):=zpm [c] 0
 have ls:(⟨#[c]⟩:Str).length≤1:=Nat.le_refl 1
 generalize (⟨#[c]⟩:Str)=sgc at rs ls
 generalize eσ:[some (V.str text),some (V.ref p),some (V.str (Str.ofString " 0123456789-\nwebroadlkspA.~")),some (V.int at'),some (V.str sgc),some (V.ref pr),some (V.int rw'),some (V.int (n4:Int)),some (V.int wy),none]=σ
 have g0:σ[0]?=some (some (.str text)):=by rw [← eσ];rfl
 have g3:σ[3]?=some (some (.int at')):=by rw [← eσ];rfl
 have g4:σ[4]?=some (some (.str sgc)):=by rw [← eσ];rfl
 have g5:σ[5]?=some (some (.ref pr)):=by rw [← eσ];rfl
 have g6:σ[6]?=some (some (.int rw')):=by rw [← eσ];rfl
 have g7:σ[7]?=some (some (.int (n4:Int))):=by rw [← eσ];rfl
 have g8:σ[8]?=some (some (.int wy)):=by rw [← eσ];rfl
 have vT:EvT (zac 0) σ H1 L text.length:=.var g0 hr (Nat.le_refl _)
 have vS:EvT (zac 4) σ H1 1 1:=.var g4 rs ls
 have vA:EvO (zcc (zac 3)) σ H1 (some at'):=.at (.var g3 (.int _))
 have vA1:EvO (zcc (tOp (rI0 fun i j=>.int (i+j)) (zac 3) (tC (.int 1)))) σ H1 (some (at'+1)):=.at (.add (.var g3 (.int _)) .int)
 have vR:EvO (zcc (zac 6)) σ H1 (some rw'):=.at (.var g6 (.int _))
 have vR1:EvO (zcc (tOp (rI0 fun i j=>.int (i+j)) (zac 6) (tC (.int 1)))) σ H1 (some (rw'+1)):=.at (.add (.var g6 (.int _)) .int)
 have vL:EvL (zac 5) σ H1 L (text.length+1):=.var g5 h1r mr ms
 have vI:EvT (tOp (zcO K) (zac 5) (zac 7)) σ H1 L (text.length+1):=.ix g5 h1r mr ms g7 l4
 have fin:∀ {R N:Nat},R≤2*L+2→N≤3*text.length+40→∀ s H',zaJ H1 H'→Rn R s→s.length≤N→Q (.str s) H':=fun h1 h2 s H' s2 r l=>q s H' (s1.trans s2) (zdH r h1) (Nat.le_trans l h2)
 refine zpp g8 (((vT.sl .no vA (by omega)).cat vS (by omega)).cat (vT.sl vA .no (by omega)) (by omega)) (fin (by omega) (by omega)) ?_
 refine ze5 g8 (((vT.sl .no vA (by omega)).cat vS (by omega)).cat (vT.sl vA1 .no (by omega)) (by omega)) (fin (by omega) (by omega)) ?_
 refine ze5 g8 ((vT.sl .no vA (by omega)).cat (vT.sl vA1 .no (by omega)) (by omega)) (fin (by omega) (by omega)) ?_
 refine ze5 g8 (vT.sl .no vA (by omega)) (fin (by omega) (by omega)) ?_
 refine ze5 g8 (.join ((vL.sl .no vR).cat (vL.sl vR1 .no) (by omega)) (by omega)) (fin (by omega) (by omega)) ?_
 refine ze5 g8 (.join (((vL.sl .no vR).cat (.one vI) (by omega)).cat (vL.sl vR .no) (by omega)) (by omega)) (fin (by omega) (by omega)) ?_
 refine ze5 g8 (.join (((vL.sl .no vR).cat (.one vI) (by omega)).cat (vL.sl vR1 .no) (by omega)) (by omega)) (fin (by omega) (by omega)) ?_
 refine ⟨fun σ' H'=>σ'=σ∧H'=H1,⟨_,g8,rfl,_,rfl,?_⟩,?_⟩
 ·show if decide (V.int wy=V.int 7)=true then _ else _
  split
  ·have g1:σ[1]?=some (some (.ref p)):=by rw [← eσ];rfl
   have ln:9<σ.length:=by rw [← eσ];exact (by decide:9<10)
   have at9:∀ (v w:V) (σ:St),9<σ.length→(σ.set 9 (some v))[9]?=some (some v):=fun v w σ h=>List.getElem?_set_self h
   have ne9:∀ (v:V) (σ:St) (k:Nat) (o:Option V),k≠9→σ[k]?=some o→(σ.set 9 (some v))[k]?=some o:=fun v σ k o h e=>by rw [List.getElem?_set_ne (fun z=>h z.symm)];exact e
   refine zpu (EvS.lst (.cons zk5 (.cons zk5 (.cons zk5 (.cons zk5 (.cons zk5 (.cons zk5 (.cons zk5 (.cons zk5 .nil)))))))) (by decide)) fun v1 H2 s2 sh2=>?_
   refine zpu (σ:=σ.set 9 (some v1)) (EvS.cat (.var (at9 v1 v1 σ ln) sh2) (EvS.lst (.cons zk5 (.cons zk5 (.cons zk5 (.cons zk5 (.cons zk5 (.cons zk5 .nil)))))) (by decide)) (by decide)) fun v2 H3 s3 sh3=>?_
   refine zpu (σ:=(σ.set 9 (some v1)).set 9 (some v2)) (EvS.cat (.var (at9 v2 v1 _ (by rw [List.length_set];exact ln)) sh3) (EvS.lst (.cons zk5 (.cons zk5 .nil)) (by decide)) (by decide)) fun v3 H4 s4 sh4=>?_
   obtain ⟨u,rfl,hu⟩:=zt0 (show Sh H4 (.lst (zsV.map Tr.str)) v3 from sh4)
   show zb9 _ _ (((σ.set 9 (some v1)).set 9 (some v2)).set 9 (some (.ref u))) H4
   rw [List.set_set,List.set_set]
   have s14:zaJ H1 H4:=(s2.trans s3).trans s4
   have u1:=at9 (.ref u) v1 σ ln
   have k1:=ne9 (.ref u) σ 1 _ (by decide) g1
   have k5:=ne9 (.ref u) σ 5 _ (by decide) g5
   have k6:=ne9 (.ref u) σ 6 _ (by decide) g6
   have wL:EvL (zac 5) (σ.set 9 (some (.ref u))) H4 L (text.length+1):=EvL.var k5 (s14 _ _ h1r) mr ms
   have wR:EvO (zcc (zac 6)) (σ.set 9 (some (.ref u))) H4 (some rw'):=.at (.var k6 (.int _))
   obtain ⟨m,em,lm⟩:∃ m:Nat,d2 % 16=(m:Int)∧m<16:=⟨(d2 % 16).toNat,by omega,by omega⟩
   have eo:zsV[m]?=some (zsV[m]'lm):=List.getElem?_eq_getElem _
   have wO:EvT (tOp (zcO K) (zac 9) (tOp (rI (fun _ j=>0<j) fun i j=>.int (i % j)) (tOp (zcO K) (zac 1) (tC (.int 1))) (tCB (fun xs H Q=>∃ p ys,xs=[.ref p]∧(SqL K H p ys∨SqT K H p ys)∧Q (.int ys.length) H) (zab (zac 9) zak)))) (σ.set 9 (some (.ref u))) H4 L 16:=fun H5 R s5 r5=>by
    refine ⟨_,u1,_,k1,p,_,1,.int d2,rfl,rfl,SqL.of (s5 _ _ (s14 _ _ h1p)),zaV (j:=1) rfl,_,u1,u,_,rfl,.inl (SqL.of (s5 _ _ hu)),d2,_,rfl,rfl,(by rw [List.length_map];show (0:Int)<((zsV.length:Nat):Int);decide),u,_,_,.str (zsV[m]'lm),rfl,rfl,SqL.of (s5 _ _ hu),?_,?_⟩
    ·rw [List.length_map,show ((zsV.length:Nat):Int)=16 from rfl,em]
     exact zaV (by rw [List.getElem?_map,eo];rfl)
    ·have:=zv2 _ (zcQ eo)
     exact r5 _ H5 (.refl _) (zdH this.1 (by omega)) this.2
   exact EvT.join (((wL.sl .no wR).cat (.one wO) (by omega)).cat (wL.sl wR .no) (by omega)) (by omega) _ _ (.refl _) fun s H' s5 r l=>q s H' (s1.trans (s14.trans s5)) (zdH r (by omega)) (by omega)
  ·exact ⟨rfl,rfl⟩
 ·rintro _ _ ⟨rfl,rfl⟩
  exact vT.cat vT (by omega) _ _ (.refl _) (fin (by omega) (by omega))
theorem zbt:zaK ["_law_text_here","_law_draws","_law_some","_law_at","_law_sign","_law_rows","_law_row","_law_to","_law_way","_law_odd"] ["_law_text_here","_law_draws"] (zam zfx):=⟨rfl,rfl,rfl,by decide +kernel,rfl,by decide +kernel,by decide +kernel⟩
theorem zj8 (T:Txt K mg base a):zc8 P w K mg base CX0 1 a.f__law_bent a.d__law_bent ["_law_text_here","_law_draws"] (zqu K):=by
 refine T.F__law_bent.ok zbt (fun vs H Q E h=>?_) (fun cdv A outer s H vs Q E hr h=>?_)
 ·obtain ⟨text,p,ds,L,rfl,hp,l5,d0,l10,hR,lt,q⟩:=h
  rfl
 obtain ⟨text,p,ds,L,rfl,hp,l5,d0,l10,hR,lt,q⟩:=h
 exact ⟨zfU K,(zaf (zas (i:=2) zbt.nd rfl (Or.inl rfl) zay)
 (zaf (zas (i:=3) zbt.nd rfl (Or.inl rfl) (zan za4 (zbO zaX (pv 1) zag (fun _ _=>rfl)) (zan za0 (zaq zhP rfl T.z_len PySem.boot_len (zaa (pv 0) zae)) zag)))
 (zaf (zas (i:=4) zbt.nd rfl (Or.inl rfl) (zbO zwv (pv 2) (zan za4 (zbO zaX (pv 1) zag (fun _ _=>rfl)) (zaq zhP rfl T.z_len PySem.boot_len (zaa (pv 2) zae))) (fun _ _=>rfl)))
 (zaf (zas (i:=5) zbt.nd rfl (Or.inl rfl) (zcw PySem.F.plainAttrs_str PySem.F.slot_str_split PySem.F.type_str_split zdi (pv 0) (zaa zay zae)))
 (zaf (zas (i:=6) zbt.nd rfl (Or.inl rfl) (zan za4 (zbO zaX (pv 1) zag (fun _ _=>rfl)) (zaq zaF rfl T.z_len PySem.boot_len (zaa (pv 5) zae))))
 (zaf (zas (i:=7) zbt.nd rfl (Or.inl rfl) (zan za4 (zbO zaX (pv 1) zag (fun _ _=>rfl)) (zaq zaF rfl T.z_len PySem.boot_len (zaa (pv 5) zae))))
 (zaf (zas (i:=8) zbt.nd rfl (Or.inl rfl) (zan za4 (zbO zaX (pv 1) zag (fun _ _=>rfl)) zag))
 (zaf (zbQ (zb8 (zat zej (pv 8) zag (zaL _)) (zaj (zaN (zan zbl (zan zbl (zbc zht (pv 0) zbH (zbJ (pv 3))) (pv 4)) (zbc zht (pv 0) (zbJ (pv 3)) zbH)))) zaT))
 (zaf (zbQ (zb8 (zat zej (pv 8) zag (zaL _)) (zaj (zaN (zan zbl (zan zbl (zbc zht (pv 0) zbH (zbJ (pv 3))) (pv 4)) (zbc zht (pv 0) (zbJ (zan za0 (pv 3) zag)) zbH)))) zaT))
 (zaf (zbQ (zb8 (zat zej (pv 8) zag (zaL _)) (zaj (zaN (zan zbl (zbc zht (pv 0) zbH (zbJ (pv 3))) (zbc zht (pv 0) (zbJ (zan za0 (pv 3) zag)) zbH)))) zaT))
 (zaf (zbQ (zb8 (zat zej (pv 8) zag (zaL _)) (zaj (zaN (zbc zht (pv 0) zbH (zbJ (pv 3))))) zaT))
 (zaf (zbQ (zb8 (zat zej (pv 8) zag (zaL _)) (zaj (zaN (zcw PySem.F.plainAttrs_str PySem.F.slot_str_join PySem.F.type_str_join zfr zay (zaa (zan zc5 (zbc zcr (pv 5) zbH (zbJ (pv 6))) (zbc zcr (pv 5) (zbJ (zan za0 (pv 6) zag)) zbH)) zae)))) zaT))
 (zaf (zbQ (zb8 (zat zej (pv 8) zag (zaL _)) (zaj (zaN (zcw PySem.F.plainAttrs_str PySem.F.slot_str_join PySem.F.type_str_join zfr zay (zaa (zan zc5 (zan zc5 (zbc zcr (pv 5) zbH (zbJ (pv 6))) (zbN (zaa (zbO zaX (pv 5) (pv 7) (fun _ _=>rfl)) zae))) (zbc zcr (pv 5) (zbJ (pv 6)) zbH)) zae)))) zaT))
 (zaf (zbQ (zb8 (zat zej (pv 8) zag (zaL _)) (zaj (zaN (zcw PySem.F.plainAttrs_str PySem.F.slot_str_join PySem.F.type_str_join zfr zay (zaa (zan zc5 (zan zc5 (zbc zcr (pv 5) zbH (zbJ (pv 6))) (zbN (zaa (zbO zaX (pv 5) (pv 7) (fun _ _=>rfl)) zae))) (zbc zcr (pv 5) (zbJ (zan za0 (pv 6) zag)) zbH)) zae)))) zaT))
 (zaf (zbQ (zb8 (zat zej (pv 8) zag (zaL _)) (zaf (zas (i:=9) zbt.nd rfl (Or.inl rfl) (zbN (zaa zay (zaa zay (zaa zay (zaa zay (zaa zay (zaa zay (zaa zay (zaa zay zae))))))))))
 (zaf (zas (i:=9) zbt.nd rfl (Or.inl rfl) (zan zc5 (pv 9) (zbN (zaa zay (zaa zay (zaa zay (zaa zay (zaa zay (zaa zay zae)))))))))
 (zaf (zas (i:=9) zbt.nd rfl (Or.inl rfl) (zan zc5 (pv 9) (zbN (zaa zay (zaa zay zae)))))
 (zaj (zaN (zcw PySem.F.plainAttrs_str PySem.F.slot_str_join PySem.F.type_str_join zfr zay (zaa (zan zc5 (zan zc5 (zbc zcr (pv 5) zbH (zbJ (pv 6))) (zbN (zaa (zbO zaX (pv 9) (zan za4 (zbO zaX (pv 1) zag (fun _ _=>rfl)) (zaq zaF rfl T.z_len PySem.boot_len (zaa (pv 9) zae))) (fun _ _=>rfl)) zae))) (zbc zcr (pv 5) (zbJ (pv 6)) zbH)) zae))))))) zaT))
 (zaj (zaN (zan zbl (pv 0) (pv 0))))))))))))))))))),
  zkY hp l5 d0 l10 hR lt q⟩
theorem zcI (c:Nat) (x z:Str) (l:List Str):sgn (Str.join ⟨#[c]⟩ (x::z::l))=sgn x++c::sgn (Str.join ⟨#[c]⟩ (z::l)):=zdo _ _ _ _
theorem zsU {c:Nat}:∀ {a b u v:List Nat},c∉a→c∉b→a++c::u=b++c::v→a=b∧u=v
 | [],[],u,v,_,_,h=>⟨rfl,(List.cons.inj h).2⟩
 | [],y::b,u,v,_,hb,h=>absurd (List.mem_cons.mpr (.inl (List.cons.inj h).1)) hb
 | x::a,[],u,v,ha,_,h=>absurd (List.mem_cons.mpr (.inl (List.cons.inj h).1.symm)) ha
 | x::a,y::b,u,v,ha,hb,h=>by
  obtain ⟨e,h⟩:=List.cons.inj h
  obtain ⟨e1,e2⟩:=zsU (fun m=>ha (List.mem_cons_of_mem _ m)) (fun m=>hb (List.mem_cons_of_mem _ m)) h
  exact ⟨by rw [e,e1],e2⟩
theorem zmo {c:Nat}:∀ {a b:List Str},a≠[]→b≠[]→(∀ x∈a,c∉sgn x)→(∀ x∈b,c∉sgn x)→Str.join ⟨#[c]⟩ a=Str.join ⟨#[c]⟩ b→a=b
 | [],_,na,_,_,_,_=>absurd rfl na
 | _,[],_,nb,_,_,_=>absurd rfl nb
 | [x],[y],_,_,_,_,h=>by rw [show x=y from h]
 | [x],y::z::b,_,_,ha,_,h=>by
  have h2:sgn x=sgn y++c::sgn (Str.join ⟨#[c]⟩ (z::b)):=(congrArg sgn h).trans (zcI c y z b)
  exact absurd (by rw [h2];exact List.mem_append_right _ (List.mem_cons_self ..)) (ha x (List.mem_cons_self ..))
 | x::z::a,[y],_,_,_,hb,h=>by
  have h2:sgn y=sgn x++c::sgn (Str.join ⟨#[c]⟩ (z::a)):=(congrArg sgn h.symm).trans (zcI c x z a)
  exact absurd (by rw [h2];exact List.mem_append_right _ (List.mem_cons_self ..)) (hb y (List.mem_cons_self ..))
 | x::z::a,y::w::b,_,_,ha,hb,h=>by
  have h2:=((zcI c x z a).symm.trans (congrArg sgn h)).trans (zcI c y w b)
  obtain ⟨e1,e2⟩:=zsU (ha x (List.mem_cons_self ..)) (hb y (List.mem_cons_self ..)) h2
  rw [zdd e1,zmo (List.cons_ne_nil _ _) (List.cons_ne_nil _ _) (fun u hu=>ha u (List.mem_cons_of_mem _ hu)) (fun u hu=>hb u (List.mem_cons_of_mem _ hu)) (zdd e2)]
theorem zhb {c:Nat} {l:List Str} {s:Str} (n:l≠[]) (f:∀ x∈l,c∉sgn x) (e:Str.join ⟨#[c]⟩ l=s):Txt.split s ⟨#[c]⟩=l:=by
 subst e
 exact zmo (zck _ _) n (fun x hx=>StrLaws.split_free _ c x hx) f (StrLaws.join_split _ _)
theorem znV:sgn (Str.ofString "")=[]:=by decide +kernel
theorem zgh (c:Nat):∀ l:List Str,sgn (Str.join ⟨#[c]⟩ (l++[Str.ofString ""]))=(l.map fun x=>sgn x++[c]).flatten
 | []=>znV
 | [x]=>by
  rw [List.cons_append,List.nil_append,zcI,show Str.join ⟨#[c]⟩ [Str.ofString ""]=Str.ofString "" from rfl,znV,List.map_cons,List.map_nil,List.flatten_cons,List.flatten_nil,List.append_nil]
 | x::z::l=>by
  rw [List.cons_append,List.cons_append,zcI,← List.cons_append,zgh c (z::l),List.map_cons (l:=z::l),List.flatten_cons,List.append_assoc]
  rfl
theorem zh2:∀ l:List Str,sgn (Str.join (Str.ofString "") l)=(l.map sgn).flatten
 | []=>znV
 | [x]=>by rw [zeE,List.map_cons,List.map_nil,List.flatten_cons,List.flatten_nil,List.append_nil]
 | x::z::l=>by rw [zdo,zh2 (z::l),znV,List.nil_append,List.map_cons (l:=z::l),List.flatten_cons]
def zg9 (m:Int):Str:=Str.ofString "web "++Str.ofString (toString m)
def zne (r:zcd):Str:=Str.ofString "road "++Str.ofString (toString r.1)++Str.ofString " "++Str.ofString (toString r.2.1)++Str.ofString " "++Str.ofString (toString r.2.2)
def zjY (m:Int) (rs:List zcd):List Str:=zg9 m::rs.map zne
theorem zrD (s:Str) (r:zcd):sgn (zo3 s r)=sgn s++(sgn (zne r)++[10]):=by
 unfold zo3 zne
 rw [zcG]
 simp only [zb3,List.append_assoc]
 rfl
theorem zmp:∀ (rs:List zcd) (s:Str),sgn (rs.foldl zo3 s)=sgn s++(rs.map fun r=>sgn (zne r)++[10]).flatten
 | [],s=>by rw [List.foldl_nil,List.map_nil,List.flatten_nil,List.append_nil]
 | r::rs,s=>by rw [List.foldl_cons,zmp rs,zrD,List.map_cons,List.flatten_cons,List.append_assoc]
theorem zpl (m:Int) (rs:List zcd):sgn (wtx m rs)=((zjY m rs).map fun x=>sgn x++[10]).flatten:=by
 unfold wtx zjY
 rw [zmp,List.map_cons,List.flatten_cons,List.map_map,zcG]
 rw [zb3]
 rfl
theorem zri (m:Int) (rs:List zcd):Str.join ⟨#[10]⟩ (zjY m rs++[Str.ofString ""])=wtx m rs:=zdd ((zgh 10 _).trans (zpl m rs).symm)
theorem zrf (m:Int) (rs:List zcd):Str.join (Str.ofString "") ((zjY m rs).map fun x=>x++Str.ofString "\n")=wtx m rs:=by
 refine zdd ?_
 rw [zh2,zpl,List.map_map]
 congr 1
 refine List.map_congr_left fun x _=>?_
 show sgn (x++Str.ofString "\n")=_
 rw [zb3,zcG]
 rfl
theorem zhi (c:Nat) (hc:c≠45∧(c<48∨57<c)) (n:Int):c∉sgn (Str.ofString (toString n)):=PyProof.Rows.int_text_free' c hc n
theorem znb (m:Int):10∉sgn (zg9 m):=by
 unfold zg9
 rw [zb3,List.mem_append]
 rintro (h | h)
 ·exact absurd h (by decide +kernel)
 ·exact zhi 10 ⟨by decide,by decide⟩ m h
theorem zqd (r:zcd):10∉sgn (zne r):=by
 unfold zne
 simp only [zb3,List.mem_append]
 have f:=fun n=>zhi 10 ⟨by decide,by decide⟩ n
 have f1:10∉sgn (Str.ofString "road "):=by decide +kernel
 have f2:10∉sgn (Str.ofString " "):=by decide +kernel
 rintro (((((h | h) | h) | h) | h) | h)
 ·exact f1 h
 ·exact f _ h
 ·exact f2 h
 ·exact f _ h
 ·exact f2 h
 ·exact f _ h
theorem zmv (m:Int) (rs:List zcd):Txt.split (wtx m rs) (Str.ofString "\n")=zjY m rs++[Str.ofString ""]:=by
 rw [zcG]
 refine zhb (List.append_ne_nil_of_right_ne_nil _ (List.cons_ne_nil _ _)) (fun x hx=>?_) (zri m rs)
 rcases List.mem_append.mp hx with hx | hx
 ·rcases List.mem_cons.mp hx with rfl | hx
  ·exact znb m
  ·obtain ⟨r,_,rfl⟩:=List.mem_map.mp hx
   exact zqd r
 ·rw [List.mem_singleton.mp hx,znV]
  exact List.not_mem_nil
theorem zlf (m:Int):Txt.split (zg9 m) (Str.ofString " ")=[Str.ofString "web",Str.ofString (toString m)]:=by
 rw [zic]
 refine zhb (List.cons_ne_nil _ _) (fun x hx=>?_) (zdd ?_)
 ·rcases List.mem_cons.mp hx with rfl | hx
  ·decide +kernel
  ·rw [List.mem_singleton.mp hx]
   exact zhi 32 ⟨by decide,by decide⟩ m
 ·rw [zcI,zeE]
  unfold zg9
  rw [zb3,show sgn (Str.ofString "web ")=sgn (Str.ofString "web")++[32] by decide +kernel,List.append_assoc]
  rfl
theorem znA (r:zcd):Txt.split (zne r) (Str.ofString " ")=[Str.ofString "road",Str.ofString (toString r.1),Str.ofString (toString r.2.1),Str.ofString (toString r.2.2)]:=by
 rw [zic]
 refine zhb (List.cons_ne_nil _ _) (fun x hx=>?_) (zdd ?_)
 ·rcases List.mem_cons.mp hx with rfl | hx
  ·decide +kernel
  ·have:∃ n:Int,x=Str.ofString (toString n):=by
    simp only [List.mem_cons,List.not_mem_nil,or_false] at hx
    rcases hx with h | h | h
    ·exact ⟨_,h⟩
    ·exact ⟨_,h⟩
    ·exact ⟨_,h⟩
   obtain ⟨n,rfl⟩:=this
   exact zhi 32 ⟨by decide,by decide⟩ n
 ·rw [zcI,zcI,zcI,zeE]
  unfold zne
  simp only [zb3,List.append_assoc]
  rw [show sgn (Str.ofString "road ")=sgn (Str.ofString "road")++[32] by decide +kernel,show sgn (Str.ofString " ")=[32] by decide +kernel,List.append_assoc]
  rfl
where
 Char.toNat_inj' {c:Char} (h:c.toNat=48):c='0':=by
  apply Char.ext
  apply UInt32.toNat_inj.mp
  exact h
theorem GW.good {m:Int} {rs:List zcd} (G:GW m rs):zru m rs:=⟨zgt G.gr,G.m1,G.m60,G.l120,G.conn⟩
theorem zbP (s:Str):Str.empty++s=s:=by
 refine zdd ?_
 rw [zb3]
 rfl
def zjQ (K:PySem.W.Frag):Sp:=fun vs H Q _=>∃ (w rl:Addr) (ts:List Addr) (m:Int) (rs:List zcd),vs=[.ref w]∧zjJ H w rl ts m rs∧(0≤m∧m<10000000)∧(∀ r∈rs,SmR r)∧rs.length≤1000∧∀ D H',zaJ H H'→H' D=some (.lst ((zjY m rs).map V.str))→Q (.ref D) H'
def zgL (K:PySem.W.Frag):TS :=
 (zaz (zaU (zac 0) (ziy K 2 (zbL (zai 1) (zbL (zai 2) zix))))
 (zb9 (tOp zgm (zdq (zab (tJ [fS (tC (.str "web ")),fI (zac 1)] Str.empty) zak)) (zgg (zfO K (zac 2)) (ziy K 3 (zbL (zai 0) (zbL (zai 1) (zbL (zai 2) zix)))) zcC (tJ [fS (tC (.str "road ")),fI (zac 0),fS (tC (.str " ")),fI (zac 1),fS (tC (.str " ")),fI (zac 2)] Str.empty) [none,none,none]))))
theorem zl9 {w rl:Addr} {ts:List Addr} {m:Int} {rs:List zcd} (W:zjJ H w rl ts m rs) (hm:0≤m∧m<10000000) (hs:∀ r∈rs,SmR r) (l:rs.length≤1000) (q:∀ D H',zaJ H H'→H' D=some (.lst ((zjY m rs).map V.str))→Q (.ref D) H'):zgL K { nx:=fun _ H'=>Q .non H',rt:=Q } (L2.zbA ["web","many","roads"] [.ref w]) H:=by
 unfold zgL
 simp_all only [zac]
 have l1:(Str.ofString "web ").length=4:=by decide +kernel
 have l5:(Str.ofString "road ").length=5:=by decide +kernel
 have l6:(Str.ofString " ").length=1:=by decide +kernel
 have lm:=zdt hm
 have le:zg9 m=Str.empty++Str.ofString "web "++Str.ofString (toString m):=by rw [zbP];rfl
 refine ⟨_,SqT.of W.hw,rfl,_,_,rfl,_,_,rfl,rfl,zbR (by rw [zbP];omega),m,rfl,zeW hm.1 hm.2,zbR (by rw [zbP,zaQ];omega),by decide,fun p hp=>⟨rl,rfl,?_⟩⟩
 rw [← le]
 have s1:=zah hp (.lst [V.str (zg9 m)])
 have h1:L2.upd H p (.lst [V.str (zg9 m)]) p=some (.lst [V.str (zg9 m)]):=zad
 generalize L2.upd H p (.lst [V.str (zg9 m)])=H1 at s1 h1
 refine ⟨⟨_,SqL.of (s1 _ _ W.hl)⟩,fun D hD=>?_⟩
 refine ze7 (K:=K) (xs:=ts.map V.ref) (fun i ys σ H'=>zaJ H1 H'∧ys=((rs.take i).map zne).map V.str∧∃ x y z,σ=[x,y,z]) ⟨zah hD _,rfl,_,_,_,rfl⟩ ?_ ?_ ?_
 ·rintro i ys σ H' _ ⟨s,_⟩
  exact SqL.of (s _ _ (s1 _ _ W.hl))
 ·rintro i x ys σ H' e hD' ⟨s,rfl,u,v,z,rfl⟩
  obtain ⟨t,et,rfl⟩:=zep e
  obtain ⟨r,er,hr⟩:=W.ht.at et
  have li:=(List.getElem?_eq_some_iff.mp er).1
  obtain ⟨h1',h2',h3'⟩:=hs r (zcQ er)
  have k1:=zdt h1'
  have k2:=zdt h2'
  have k3:=zdt h3'
  refine ⟨t,_,rfl,SqT.of (s _ _ (s1 _ _ hr)),rfl,_,_,rfl,_,_,rfl,_,_,rfl,rfl,?_⟩
  have er':zne r=Str.empty++Str.ofString "road "++Str.ofString (toString r.1)++Str.ofString " "++Str.ofString (toString r.2.1)++Str.ofString " "++Str.ofString (toString r.2.2):=by rw [zbP];rfl
  refine ⟨zbR (by rw [zbP];omega),_,rfl,r.1,rfl,zeW h1'.1 h1'.2,zbR (by simp only [zbP,zaQ];omega),zbR (by simp only [zbP,zaQ];omega),_,rfl,r.2.1,rfl,zeW h2'.1 h2'.2,zbR (by simp only [zbP,zaQ];omega),zbR (by simp only [zbP,zaQ];omega),_,rfl,r.2.2,rfl,zeW h3'.1 h3'.2,zbR (by simp only [zbP,zaQ];omega),?_⟩
  rw [← er']
  refine ⟨D,_,_,rfl,rfl,hD',zkW (by rw [List.length_map,List.length_map,List.length_take];omega),_,zad,s.put hD,?_,_,_,_,rfl⟩
  rw [List.take_add_one,er,List.map_append,List.map_append]
  rfl
 ·rintro ys σ H' hD' ⟨s,rfl,u,v,z,rfl⟩
  rw [List.take_of_length_le (by rw [List.length_map,W.ht.1];exact Nat.le_refl _)] at hD'
  refine ⟨D,rfl,_,s _ _ h1,_,hD',?_,fun p2 hp2=>?_⟩
  ·rw [List.length_map,List.length_map]
   exact zbR (by show 1+rs.length≤99999;omega)
  ·exact q p2 _ ((s1.trans s).add hp2) zad
theorem zfy:zaK ["web","many","roads"] ["web"] (zam ze8):=⟨rfl,rfl,rfl,by decide +kernel,rfl,by decide +kernel,by decide +kernel⟩
theorem zlV (T:Txt K mg base a):zc8 P w K mg base CX0 1 a.f_web_rows a.d_web_rows ["web"] (zjQ K):=by
 refine T.F_web_rows.ok zfy (fun vs H Q E h=>?_) (fun cdv A outer s H vs Q E hr h=>?_)
 ·obtain ⟨w',rl,ts,m,rs,rfl,W,hm,hs,l,q⟩:=h
  rfl
 obtain ⟨w',rl,ts,m,rs,rfl,W,hm,hs,l,q⟩:=h
 exact ⟨zgL K,(zaf (zkH (pv 0) (zdV rfl (zaO (zaG (i:=1) zfy.nd rfl (Or.inl rfl)) (zaO (zaG (i:=2) zfy.nd rfl (Or.inl rfl)) zcX))))
 (zaj (zaN (zan zc5 (zbN (zaa (zo7 (PFs.cons (zks zay) (PFs.cons (zir (pv 1)) PFs.nil))) zae)) (zh5 (sc:=zam ze8) (N:=["web","many","roads"]) (Nc:=["a","b","length"]) (cap:=[none,none,none]) rfl rfl rfl (.of (by decide +kernel)) (zdP (pv 2)) (fun _ _ _ _=>(zdV rfl (zaO (zaG (i:=0) (show List.Nodup (["a","b","length"]:List Str) from by decide) rfl (Or.inl rfl)) (zaO (zaG (i:=1) (show List.Nodup (["a","b","length"]:List Str) from by decide) rfl (Or.inl rfl)) (zaO (zaG (i:=2) (show List.Nodup (["a","b","length"]:List Str) from by decide) rfl (Or.inl rfl)) zcX))))) (fun _ _ _ _=>zfB) (fun _ _ _ _=>(zo7 (PFs.cons (zks zay) (PFs.cons (zir (pv 0)) (PFs.cons (zks zay) (PFs.cons (zir (pv 1)) (PFs.cons (zks zay) (PFs.cons (zir (pv 2)) PFs.nil))))))))))))),
  zl9 W hm hs l q⟩
def zjs (K:PySem.W.Frag):Sp:=fun vs H Q _=>∃ (p:Addr) (ss:List Str),vs=[.ref p]∧H p=some (.lst (ss.map V.str))∧(ss.map (·.length)).sum+ss.length≤90000∧∀ H',zaJ H H'→Q (.str (Str.join (Str.ofString "") (ss.map fun x=>x++Str.ofString "\n"))) H'
def zh0 (K:PySem.W.Frag):TS :=
 (zb9 (tBM K "str" (zg5 K) (tC (.str "")) (zab (zgg (zfO K (zac 0)) (zai 0) zcC (tOp zbE (zac 0) (tC (.str "\n"))) [none]) zak)))
theorem znD {p:Addr} {ss:List Str} (hp:H p=some (.lst (ss.map V.str))) (l:(ss.map (·.length)).sum+ss.length≤90000) (q:∀ H',zaJ H H'→Q (.str (Str.join (Str.ofString "") (ss.map fun x=>x++Str.ofString "\n"))) H'):zh0 K { nx:=fun _ H'=>Q .non H',rt:=Q } (L2.zbA ["rows"] [.ref p]) H:=by
 unfold zh0
 simp_all only [zac]
 have lss:ss.length≤90000:=by omega
 refine ⟨rfl,⟨_,SqL.of hp⟩,fun D hD=>?_⟩
 have e0:(Str.ofString "").length=0:=by decide +kernel
 have l1:(Str.ofString "\n").length=1:=by decide +kernel
 have each:∀ x∈ss,x.length≤90000:=fun x hx=>by
  have:x.length≤(ss.map (·.length)).sum:=zdk.List.le_sum_of_mem' (List.mem_map.mpr ⟨x,hx,rfl⟩)
  omega
 refine ze7 (K:=K) (xs:=ss.map V.str) (fun i ys σ H'=>zaJ H H'∧ys=((ss.take i).map fun x=>x++Str.ofString "\n").map V.str∧∃ x,σ=[x]) ⟨zah hD _,rfl,_,rfl⟩ ?_ ?_ ?_
 ·rintro i ys σ H' _ ⟨s,_⟩
  exact SqL.of (s _ _ hp)
 ·rintro i x ys σ H' e hD' ⟨s,rfl,u,rfl⟩
  obtain ⟨x,ex,rfl⟩:=zep e
  have li:=(List.getElem?_eq_some_iff.mp ex).1
  have lx:=each x (zcQ ex)
  refine ⟨_,rfl,x,_,rfl,rfl,zbR (by omega),D,_,_,rfl,rfl,hD',zda (by rw [List.length_map,List.length_map,List.length_take];omega),_,zad,s.put hD,?_,_,rfl⟩
  rw [List.take_add_one,ex,List.map_append,List.map_append]
  rfl
 ·rintro ys σ H' hD' ⟨s,rfl,u,rfl⟩
  rw [List.take_of_length_le (by rw [List.length_map];exact Nat.le_refl _)] at hD'
  refine ⟨D,rfl,_,SqL.of hD',?_,?_⟩
  ·rw [e0,Nat.mul_zero,Nat.add_zero]
   have:∀ l:List Str,((l.map fun x=>x++Str.ofString "\n").map (·.length)).sum=(l.map (·.length)).sum+l.length:=by
    intro l
    induction l with
    | nil=>rfl
    | cons x l ih =>
     rw [List.map_cons,List.map_cons,List.sum_cons,ih,List.map_cons,List.sum_cons,List.length_cons,zaQ]
     omega
   rw [this]
   exact zbR (by omega)
  ·show Q (.str (PySem.Builtin.Str.glued _ _)) H'
   rw [StrLaws.glued_eq_join]
   exact q H' s
theorem zmW:zaK ["rows"] ["rows"] (zam zf0):=⟨rfl,rfl,rfl,by decide +kernel,rfl,by decide +kernel,by decide +kernel⟩
theorem ziG (T:Txt K mg base a):zc8 P w K mg base CX0 1 a.f_text_of a.d_text_of ["rows"] (zjs K):=by
 refine T.F_text_of.ok zmW (fun vs H Q E h=>?_) (fun cdv A outer s H vs Q E hr h=>?_)
 ·obtain ⟨p,ss,rfl,hp,l,q⟩:=h
  rfl
 obtain ⟨p,ss,rfl,hp,l,q⟩:=h
 exact ⟨zh0 K,(zaj (zaN (zcw PySem.F.plainAttrs_str PySem.F.slot_str_join PySem.F.type_str_join zfr zay (zaa (zh5 (sc:=zam zf0) (N:=["rows"]) (Nc:=["row"]) (cap:=[none]) rfl rfl rfl (.of (by decide +kernel)) (zdP (pv 0)) (fun _ _ _ _=>(zaG (i:=0) (show List.Nodup (["row"]:List Str) from by decide) rfl (Or.inl rfl))) (fun _ _ _ _=>zfB) (fun _ _ _ _=>(zan zbl (pv 0) zay))) zae)))),
  znD hp l q⟩
def zhv (K:PySem.W.Frag):Sp:=fun vs H Q _=>∃ (w rl:Addr) (ts:List Addr) (m:Int) (rs:List zcd),vs=[.ref w]∧zjJ H w rl ts m rs∧GW m rs∧∀ H',zaJ H H'→Q (.str (wtx m rs)) H'
def zgJ (K:PySem.W.Frag) (a:Ad):TS :=
 (zaz (zc7 (zaH (zgM a) [] E0 (zab (zac 0) zak)))
 (zb9 (zaH (zjs K) [] E0 (zab (zaH (zjQ K) [] E0 (zab (zac 0) zak)) zak))))
theorem zmc {w rl:Addr} {ts:List Addr} {m:Int} {rs:List zcd} (W:zjJ H w rl ts m rs) (G:GW m rs) (q:∀ H',zaJ H H'→Q (.str (wtx m rs)) H'):zgJ K a { nx:=fun _ H'=>Q .non H',rt:=Q } (L2.zbA ["web"] [.ref w]) H:=by
 unfold zgJ
 simp_all only [zac]
 have m1:=G.m1
 have m60:=G.m60
 have l120:=G.l120
 have hm:0≤m∧m<10000000:=⟨by omega,by omega⟩
 have hs:∀ r∈rs,SmR r:=fun r hr=>(G.gr r hr).sm m60
 refine ⟨w,rl,ts,m,rs,rfl,W,by omega,fun _ H1 s1=>⟨w,rl,ts,m,rs,rfl,W.same s1,hm,hs,by omega,fun D H2 s2 hD=>⟨D,_,rfl,hD,?_,fun H3 s3=>?_⟩⟩,fun d hd=>(hd.not G.good).elim⟩
 ·have:=PyProof.Rows.split_weight (wtx m rs) ⟨#[10]⟩ (Nat.le_refl 1)
  rw [← zcG,zmv,List.map_append,List.sum_append,List.length_append] at this
  have lw:=(zms hm hs).2
  omega
 ·rw [zrf]
  exact q H3 (s1.trans (s2.trans s3))
theorem zlL:zaK ["web"] ["web"] (zam zgQ):=⟨rfl,rfl,rfl,by decide +kernel,rfl,by decide +kernel,by decide +kernel⟩
theorem zly (T:Txt K mg base a):zc8 P w K mg base CX0 6 a.f_web_text a.d_web_text ["web"] (zhv K):=by
 have G_look_web:=zhR (P:=P) (w:=w) (base:=base) T
 have G_text_of:=ziG (P:=P) (w:=w) (base:=base) T
 have G_web_rows:=zlV (P:=P) (w:=w) (base:=base) T
 refine T.F_web_text.ok zlL (fun vs H Q E h=>?_) (fun cdv A outer s H vs Q E hr h=>?_)
 ·obtain ⟨w',rl,ts,m,rs,rfl,W,G,q⟩:=h
  rfl
 obtain ⟨w',rl,ts,m,rs,rfl,W,G,q⟩:=h
 exact ⟨zgJ K a,(zaf (zcq (zau G_look_web (hr.mono (by decide)) rfl T.m_look_web T.F_look_web.kp T.b_look_web .nil zwr (zaa (pv 0) zae)))
 (zaj (zaN (zau G_text_of (hr.mono (by decide)) rfl T.m_text_of T.F_text_of.kp T.b_text_of .nil za8 (zaa (zau G_web_rows (hr.mono (by decide)) rfl T.m_web_rows T.F_web_rows.kp T.b_web_rows .nil za8 (zaa (pv 0) zae)) zae))))),
  zmc W G q⟩
theorem zmK:∀ d:Nat,d<10→(Nat.digitChar d).toNat=48+d:=by decide
theorem zpH:∀ (n:Nat) (ds:List Nat),ds.length=n→(∀ c∈ds,48≤c∧c≤57)→ds≠[]→(ds.head?=some 48→ds.length=1)→(Nat.toDigits 10 (PySem.NumText.digitsVal ds)).map Char.toNat=ds:=by
 intro n
 induction n with
 | zero=>intro ds l _ ne;exact absurd (List.eq_nil_of_length_eq_zero l) ne
 | succ n ih =>
  intro ds l hd ne h0
  obtain ⟨i,c,rfl⟩:∃ i c,ds=i++[c]:=⟨ds.dropLast,ds.getLast ne,(List.dropLast_concat_getLast ne).symm⟩
  have hc:=hd c (List.mem_append_right _ (List.mem_singleton.mpr rfl))
  have li:i.length=n:=by rw [List.length_append] at l;exact Nat.succ.inj l
  have hc10:c - 48<10:=by omega
  rw [PySem.NumText.digitsVal_snoc]
  cases hi:i with
  | nil =>
   rw [show PySem.NumText.digitsVal []*10+(c - 48)=c - 48 by rw [show PySem.NumText.digitsVal []=0 from rfl];omega,Nat.toDigits_of_lt_base hc10]
   show [(Nat.digitChar (c - 48)).toNat]=[c]
   rw [zmK _ hc10]
   congr 1
   omega
  | cons a l' =>
   rw [← hi]
   have nh:i.head?≠some 48:=fun e=>by
    have:=h0 (by rw [hi] at e ⊢;exact e)
    rw [List.length_append,hi] at this
    simp at this
   have ihh:=ih i li (fun c hc=>hd c (List.mem_append_left _ hc)) (by rw [hi];exact List.cons_ne_nil _ _) (fun e=>absurd e nh)
   have pos:0<PySem.NumText.digitsVal i:=by
    rcases Nat.eq_zero_or_pos (PySem.NumText.digitsVal i) with z | z
    ·rw [z] at ihh
     refine absurd ?_ nh
     rw [← ihh]
     decide
    ·exact z
   have t:=Nat.toDigits_append_toDigits (b:=10) (n:=PySem.NumText.digitsVal i) (d:=c - 48) (by decide) pos hc10
   rw [show PySem.NumText.digitsVal i*10+(c - 48)=10*PySem.NumText.digitsVal i+(c - 48) by omega,← t,List.map_append,ihh,Nat.toDigits_of_lt_base hc10]
   show i++[(Nat.digitChar (c - 48)).toNat]=_
   rw [zmK _ hc10,show 48+(c - 48)=c by omega]
theorem zcH {w:Str} {n:Int} (l:w.length≤640) (h:zdQ w=some n):Str.ofString (toString n)=w∧0≤n:=by
 unfold zdQ at h
 by_cases hk:okW w=true
 ·rw [if_pos hk] at h
  unfold okW at hk
  simp only [Bool.and_eq_true,decide_eq_true_eq,Bool.not_eq_true',Bool.and_eq_false_iff,decide_eq_false_iff_not,Bool.not_eq_false'] at hk
  obtain ⟨⟨h1,h2⟩,h3⟩:=hk
  have hd:∀ c∈w.cps.toList,48≤c∧c≤57:=fun c hc=>by
   have:=List.all_eq_true.mp h2 c hc
   unfold dg at this
   rw [Bool.and_eq_true,decide_eq_true_eq,decide_eq_true_eq] at this
   exact this
  have lw:w.length=w.cps.toList.length:=zcA w
  have ne:w.cps.toList≠[]:=fun z=>by rw [lw,z] at h1;exact absurd h1 (by decide)
  have e:=PySem.intText_digits hd ne (by omega)
  rw [e] at h
  cases h
  refine ⟨zdd ?_,Int.natCast_nonneg _⟩
  show (Str.ofString (toString ((PySem.NumText.digitsVal w.cps.toList:Nat):Int))).cps.toList=w.cps.toList
  rw [PySem.W.KIN.signs_num]
  refine zpH _ _ rfl hd ne fun hh=>?_
  rcases h3 with h3 | h3
  ·exact absurd hh h3
  ·rw [h3]
   decide +kernel
 ·rw [if_neg hk] at h
  cases h
theorem zjx {w:Str} {n:Int} (l:w.length≤540) (h:zdQ w=some n):n.natAbs.log2<1920:=by
 obtain ⟨e,n0⟩:=zcH (by omega) h
 obtain ⟨m,rfl⟩:=Int.eq_ofNat_of_zero_le n0
 have lw:(Nat.toDigits 10 m).length≤540:=by
  have:=zcA (Str.ofString (toString ((m:Nat):Int)))
  unfold sgn at this
  rw [PySem.W.KIN.signs_num,List.length_map,e] at this
  omega
 have hm:m<10 ^ 540:=by
  rcases Nat.lt_or_ge m (10 ^ 540) with h | h
  ·exact h
  ·have:=PyProof.Rows.digits10_ge h
   omega
 show m.log2<1920
 by_cases z:m=0
 ·rw [z,Nat.log2_zero]
  decide
 ·exact (Nat.log2_lt z).mpr (Nat.lt_trans hm (by decide +kernel))
theorem znN {row:Str} {m:Int} (hw:∀ w∈Txt.split row (Str.ofString " "),w.length≤640) (h:zgo row=some m):row=zg9 m:=by
 unfold zgo at h
 by_cases c:(Txt.split row (Str.ofString " ")).length=2∧(Txt.split row (Str.ofString " ")).getD 0 ""=Str.ofString "web"
 ·rw [if_pos c] at h
  obtain ⟨w0,wr,ew⟩:=zgj row
  have hj:=StrLaws.join_split row (Str.ofString " ")
  rw [ew] at c h hw hj
  obtain ⟨w1,rfl⟩:=len1 (l:=wr) (Nat.succ.inj c.1)
  have e1:=(zcH (hw w1 (by simp)) h).1
  have e0:w0=Str.ofString "web":=c.2
  have hs:=StrLaws.join_split (zg9 m) (Str.ofString " ")
  rw [zlf,e1] at hs
  rw [← hj,e0,hs]
 ·rw [if_neg c] at h
  cases h
theorem zna {row:Str} {m:Int} {r:zcd} (hw:∀ w∈Txt.split row (Str.ofString " "),w.length≤640) (h:zgd m row=some r):row=zne r∧GR m r:=by
 unfold zgd at h
 by_cases c:(Txt.split row (Str.ofString " ")).length=4∧(Txt.split row (Str.ofString " ")).getD 0 ""=Str.ofString "road"
 ·rw [if_pos c] at h
  obtain ⟨w0,wr,ew⟩:=zgj row
  have hj:=StrLaws.join_split row (Str.ofString " ")
  rw [ew] at c h hw hj
  obtain ⟨w1,w2,w3,rfl⟩:=len3 (l:=wr) (Nat.succ.inj c.1)
  have e0:w0=Str.ofString "road":=c.2
  rw [show (w0::[w1,w2,w3]).drop 1=[w1,w2,w3] from rfl,zcU,zcU,zcU] at h
  cases h1:zdQ w1 with
  | none=>rw [h1] at h;cases h
  | some x =>
   cases h2:zdQ w2 with
   | none=>rw [h1,h2] at h;cases h
   | some y =>
    cases h3:zdQ w3 with
    | none=>rw [h1,h2,h3] at h;cases h
    | some z =>
     rw [h1,h2,h3] at h
     have h:(if GR m (x,y,z) then some (x,y,z) else none)=some r:=h
     by_cases g:GR m (x,y,z)
     ·rw [if_pos g] at h
      cases h
      refine ⟨?_,g⟩
      have hs:=StrLaws.join_split (zne (x,y,z)) (Str.ofString " ")
      rw [znA,(zcH (hw w1 (by simp)) h1).1,(zcH (hw w2 (by simp)) h2).1,(zcH (hw w3 (by simp)) h3).1] at hs
      rw [← hj,e0,hs]
     ·rw [if_neg g] at h
      cases h
 ·rw [if_neg c] at h
  cases h
theorem zkr {m:Int}:∀ {rows:List Str} {k:Nat} {done:List zcd} {s':Rdd},(∀ row∈rows,∀ w∈Txt.split row (Str.ofString " "),w.length≤640)→zg7 (some (m,done)) k rows=.inr s'→∃ rs,s'=some (m,done++rs)∧rows=rs.map zne∧∀ r∈rs,GR m r
 | [],k,done,s',_,h=>by
  cases h
  exact ⟨[],by rw [List.append_nil],rfl,fun r hr=>by cases hr⟩
 | row::rows,k,done,s',hw,h=>by
  have h:(match zdI (some (m,done)) row with | none=>Sum.inl k | some s'=>zg7 s' (k+1) rows)=.inr s':=h
  cases hr:zgd m row with
  | none =>
   have e:zdI (some (m,done)) row=none:=by
    show (zgd m row).map _=none
    rw [hr]
    rfl
   rw [e] at h
   cases h
  | some r =>
   have e:zdI (some (m,done)) row=some (some (m,done++[r])):=by
    show (zgd m row).map _=_
    rw [hr]
    rfl
   rw [e] at h
   have h:zg7 (some (m,done++[r])) (k+1) rows=.inr s':=h
   obtain ⟨rs,e1,e2,e3⟩:=zkr (fun row hr=>hw row (List.mem_cons_of_mem _ hr)) h
   obtain ⟨c1,c2⟩:=zna (hw row (List.mem_cons_self ..)) hr
   exact ⟨r::rs,by rw [e1,List.append_assoc];rfl,by rw [List.map_cons,← c1,← e2],fun x hx=>(List.mem_cons.mp hx).elim (fun z=>by rw [z];exact c2) (e3 x)⟩
theorem zm1 {rows:List Str} {m:Int} {rs:List zcd} (ne:rows≠[]) (hw:∀ row∈rows,∀ w∈Txt.split row (Str.ofString " "),w.length≤640) (h:zed rows=.inr (some (m,rs))):rows=zjY m rs++[Str.ofString ""]∧∀ r∈rs,GR m r:=by
 have sub:∀ row∈rows.dropLast,∀ w∈Txt.split row (Str.ofString " "),w.length≤640:=fun row hr=>hw row (List.dropLast_subset _ hr)
 unfold zed at h
 cases hr:zg7 none 0 rows.dropLast with
 | inl k=>rw [hr] at h;cases h
 | inr s =>
  rw [hr] at h
  have h:(if rows.dropLast=[]∨rows.getLastD ""≠"" then (Sum.inl (rows.length - 1):Nat ⊕ Rdd) else .inr s)=.inr (some (m,rs)):=h
  by_cases c:rows.dropLast=[]∨rows.getLastD ""≠""
  ·rw [if_pos c] at h
   cases h
  ·rw [if_neg c] at h
   cases h
   have c1:rows.dropLast≠[]:=fun z=>c (.inl z)
   have c2:rows.getLastD ""=Str.ofString "":=Decidable.not_not.mp fun z=>c (.inr z)
   have el:rows.dropLast++[Str.ofString ""]=rows:=by
    rw [← c2,List.getLastD_eq_getLast?,List.getLast?_eq_some_getLast ne]
    exact List.dropLast_concat_getLast ne
   cases hd:rows.dropLast with
   | nil=>exact absurd hd c1
   | cons row l =>
    rw [hd] at hr sub el
    have hr:(match zdI none row with | none=>Sum.inl 0 | some s'=>zg7 s' (0+1) l)=.inr (some (m,rs)):=hr
    cases hm:zgo row with
    | none =>
     have e:zdI none row=none:=by
      show (zgo row).map _=none
      rw [hm]
      rfl
     rw [e] at hr
     cases hr
    | some m' =>
     have e:zdI none row=some (some (m',[])):=by
      show (zgo row).map _=_
      rw [hm]
      rfl
     rw [e] at hr
     have hr:zg7 (some (m',[])) (0+1) l=.inr (some (m,rs)):=hr
     obtain ⟨rs',e1,e2,e3⟩:=zkr (fun r hr=>sub r (List.mem_cons_of_mem _ hr)) hr
     cases e1
     refine ⟨?_,e3⟩
     rw [← el,znN (sub row (List.mem_cons_self ..)) hm,e2]
     rfl
theorem ziI {s:Str} {n:Nat} (hr:Rn n s):∀ row∈Txt.split s (Str.ofString "\n"),∀ w∈Txt.split row (Str.ofString " "),w.length≤n:=fun row hrow w hw=>by
 rw [zcG] at hrow
 have h1:=zdz hr row hrow
 have h2:=StrLaws.split_free s 10 row hrow
 rw [zic] at hw
 have h3:=zdz h1 w hw
 have h4:=StrLaws.split_free row 32 w hw
 unfold Rn at h3
 rw [zl6 (sgn w) _ h4 (fun m=>h2 (zhe.part_sub hw m))] at h3
 rw [zcA]
 omega
theorem zo5 {s:Str} {m:Int} {rs:List zcd} (hr:Rn 640 s) (h:zjK (Txt.split s (Str.ofString "\n"))=.inr (m,rs)):wtx m rs=s∧GW m rs:=by
 cases hw:zed (Txt.split s (Str.ofString "\n")) with
 | inl k=>rw [zjk hw] at h;cases h
 | inr o =>
  cases o with
  | none=>unfold zjK at h;rw [hw] at h;cases h
  | some p =>
   obtain ⟨m',rs'⟩:=p
   by_cases g:zru m' rs'
   ·rw [zpS hw g] at h
    cases h
    obtain ⟨e,gr⟩:=zm1 (zck _ _) (ziI hr) hw
    refine ⟨?_,g.2.1,g.2.2.1,g.2.2.2.1,gr,g.2.2.2.2⟩
    have j1:=StrLaws.join_split s (Str.ofString "\n")
    have j2:=StrLaws.join_split (wtx m rs) (Str.ofString "\n")
    rw [zmv,← e,j1] at j2
    exact j2.symm
   ·rw [zlN hw g] at h
    cases h
theorem zsW:∀ {rows:List Str} {s:Rdd} {j k:Nat},zg7 s j rows=.inl k→j≤k∧k<j+rows.length∧∀ more,zg7 s j (rows.take (k+1 - j)++more)=.inl k
 | [],s,j,k,h=>by cases h
 | row::rows,s,j,k,h=>by
  have h:(match zdI s row with | none=>Sum.inl j | some s'=>zg7 s' (j+1) rows)=.inl k:=h
  cases hs:zdI s row with
  | none =>
   rw [hs] at h
   cases h
   refine ⟨Nat.le_refl _,by rw [List.length_cons];omega,fun more=>?_⟩
   rw [show j+1 - j=1 by omega]
   show (match zdI s row with | none=>Sum.inl j | some s'=>zg7 s' (j+1) (rows.take 0++more))=_
   rw [hs]
  | some s' =>
   rw [hs] at h
   have h:zg7 s' (j+1) rows=.inl k:=h
   obtain ⟨h1,h2,h3⟩:=zsW h
   refine ⟨by omega,by rw [List.length_cons];omega,fun more=>?_⟩
   rw [show k+1 - j=(k+1 - (j+1))+1 by omega,List.take_succ_cons]
   show (match zdI s row with | none=>Sum.inl j | some s'=>zg7 s' (j+1) (rows.take (k+1 - (j+1))++more))=_
   rw [hs]
   exact h3 more
theorem zfh {α:Type} (l:List α) {k:Nat} (h:k+1≤l.length - 1):l.dropLast.take (k+1)=l.take (k+1):=by
 rw [List.dropLast_eq_take,List.take_take]
 congr 1
 omega
theorem zvR {rows:List Str} {k:Nat} (ne:rows≠[]) (h:zjK rows=.inl k):k≤rows.length - 1∧(k<rows.length - 1→∀ more,zjK (rows.take (k+1)++more++[Str.ofString ""])=.inl k):=by
 have l1:=List.length_pos_iff.mpr ne
 have key:zed rows=.inl k∨k=rows.length - 1:=by
  cases hw:zed rows with
  | inl k'=>rw [zjk hw] at h;cases h;exact .inl rfl
  | inr o =>
   cases o with
   | none=>unfold zjK at h;rw [hw] at h;cases h;exact .inr rfl
   | some p =>
    obtain ⟨m',rs'⟩:=p
    by_cases g:zru m' rs'
    ·rw [zpS hw g] at h
     cases h
    ·rw [zlN hw g] at h
     cases h
     exact .inr rfl
 rcases key with h | h
 ·unfold zed at h
  cases hr:zg7 none 0 rows.dropLast with
  | inl k' =>
   rw [hr] at h
   cases h
   obtain ⟨_,h2,h3⟩:=zsW hr
   rw [List.length_dropLast] at h2
   refine ⟨by omega,fun _ more=>zjk (zmN ?_)⟩
   rw [List.dropLast_concat,← zfh rows (by omega)]
   exact h3 more
  | inr s =>
   rw [hr] at h
   have h:(if rows.dropLast=[]∨rows.getLastD ""≠"" then (Sum.inl (rows.length - 1):Nat ⊕ Rdd) else .inr s)=.inl k:=h
   by_cases c:rows.dropLast=[]∨rows.getLastD ""≠""
   ·rw [if_pos c] at h
    cases h
    exact ⟨Nat.le_refl _,fun z=>absurd z (Nat.lt_irrefl _)⟩
   ·rw [if_neg c] at h
    cases h
 ·exact ⟨by omega,fun z=>by omega⟩
def lwO (rows:List Str):Nat ⊕ (Bool×List Tr):=zoq ((Txt.split (rows.headD "") " ").headD "") rows
theorem zhh {rows:List Str} {kd:Str} (h:∀ sp,zgn sp rows=.inl 0):zoq kd rows=.inl 0:=by
 unfold zoq
 rw [h,h]
 split
 ·rfl
 ·split <;> rfl
theorem zo0 {rows:List Str} {sp:Bool}:zoq (kdS sp) rows=match zgn sp rows with | .inl k=>.inl k | .inr ts=>.inr (sp,ts):=by
 unfold zoq
 cases sp
 ·exact (if_pos rfl).trans (by cases zgn false rows <;> rfl)
 ·exact (if_neg (by rw [zqY];exact zgZ)).trans ((if_pos rfl).trans (by cases zgn true rows <;> rfl))
theorem zlB {rows:List Str} {kd:Str} (h:∀ sp,kd≠kdS sp):zoq kd rows=.inl 0:=by
 unfold zoq
 rw [if_neg (h false),if_neg (h true)]
theorem zpO (sp:Bool) (r:Str):zgn sp [r]=.inl 0:=rfl
theorem zwd {p:Nat→Bool}:∀ (a b:List Nat),(∀ x∈a,p x=true)→(a++b).takeWhile p=a++b.takeWhile p:=fun a b h=>List.takeWhile_append_of_pos h
theorem zo6 {sp:Bool} {r w:Str} (e:Txt.split r (Str.ofString " ")=[w]):shO sp r=none:=by
 unfold shO
 show (if (Txt.split r (Str.ofString " ")).getD 0 ""=kdS sp∧(if sp then 2 else 3)≤(Txt.split r (Str.ofString " ")).length then _ else none)=none
 rw [if_neg]
 rintro ⟨_,h⟩
 rw [e,List.length_singleton] at h
 cases sp <;> exact absurd h (by decide)
theorem zpx (text:Str):zlw text=lwO (Txt.split text (Str.ofString "\n")):=by
 show zoq (Txt.partition text (Str.ofString " ")).1 (Txt.split text (Str.ofString "\n"))=zoq ((Txt.split ((Txt.split text (Str.ofString "\n")).headD "") (Str.ofString " ")).headD "") (Txt.split text (Str.ofString "\n"))
 have hp:=parti text 32
 rw [← zic] at hp
 cases e:Txt.split text (Str.ofString "\n") with
 | nil=>exact absurd e (zck _ _)
 | cons r0 zhE =>
  rw [show (r0::zhE).headD ""=r0 from rfl]
  rw [zcG] at e
  obtain ⟨h1,h2,h3⟩:=ziv e
  have f0:=StrLaws.split_free text 10 r0 (by rw [e];exact List.mem_cons_self ..)
  cases e2:Txt.split r0 (Str.ofString " ") with
  | nil=>exact absurd e2 (zck _ _)
  | cons w0 wr =>
   rw [show (w0::wr).headD ""=w0 from rfl]
   have e2':=e2
   rw [zic] at e2'
   obtain ⟨g1,g2,g3⟩:=ziv e2'
   have fw:=StrLaws.split_free r0 32 w0 (by rw [e2'];exact List.mem_cons_self ..)
   cases wr with
   | cons w1 wt =>
    obtain ⟨z,hz⟩:=g3 (List.cons_ne_nil _ _)
    have key:∃ z2,sgn text=sgn w0++32::z2:=by
     cases zhE with
     | nil =>
      rw [h2 rfl]
      exact ⟨z,hz⟩
     | cons r1 zhE =>
      obtain ⟨z3,hz3⟩:=h3 (List.cons_ne_nil _ _)
      exact ⟨z++10::z3,by rw [hz3,hz,List.append_assoc];rfl⟩
    obtain ⟨z2,hz2⟩:=key
    have ek:(Txt.partition text (Str.ofString " ")).1=w0:=by
     apply zdd
     rw [hp,hz2,zwd (p:=fun d=>decide (d≠32)) (sgn w0) _ fun x hx=>decide_eq_true (fun (y:x=32)=>fw (y ▸ hx)),List.takeWhile_cons_of_neg (by simp),List.append_nil]
    rw [ek]
   | nil =>
    have er:r0=w0:=g2 rfl
    subst er
    cases zhE with
    | nil =>
     rw [zhh (fun sp=>zpO sp r0),zhh (fun sp=>zpO sp r0)]
    | cons r1 zhE =>
     have ob:∀ sp,zgn sp (r0::r1::zhE)=.inl 0:=fun sp=>zlj (k:=0) (r:=r0) rfl (zo6 e2) (fun i r h=>absurd h (Nat.not_lt_zero _))
     rw [zhh ob,zhh ob]
theorem zvV {sp:Bool} {rows:List Str} {k:Nat} (ne:rows≠[]) (h:zgn sp rows=.inl k):k≤rows.length - 1∧(k<rows.length - 1→∀ more,zgn sp (rows.take (k+1)++more++[Str.ofString ""])=.inl k):=by
 have l1:=List.length_pos_iff.mpr ne
 unfold zgn at h
 cases hf:(rows.dropLast.map (shO sp)).findIdx? (fun o=>o.isNone) with
 | some k' =>
  rw [hf] at h
  cases h
  rw [List.findIdx?_eq_some_iff_getElem] at hf
  obtain ⟨hl,hb,hs⟩:=hf
  rw [List.length_map,List.length_dropLast] at hl
  refine ⟨by omega,fun _ more=>?_⟩
  have lt:(rows.take (k+1)).length=k+1:=by rw [List.length_take];omega
  have at':∀ j,j≤k→(rows.take (k+1)++more++[Str.ofString ""]).dropLast[j]?=rows.dropLast[j]?:=fun j hj=>by
   rw [List.dropLast_concat,List.getElem?_append_left (by omega),List.getElem?_take_of_lt (by omega),List.getElem?_dropLast,if_pos (by omega)]
  obtain ⟨r,hr⟩:∃ r,rows.dropLast[k]?=some r:=⟨_,List.getElem?_eq_getElem (by rw [List.length_dropLast];omega)⟩
  refine zlj (r:=r) (by rw [at' k (Nat.le_refl _)];exact hr) ?_ (fun j r' hj er=>?_)
  ·rw [List.getElem_map,(List.getElem?_eq_some_iff.mp hr).2] at hb
   exact Option.isNone_iff_eq_none.mp hb
  ·rw [at' j (by omega)] at er
   have:=hs j hj
   rw [List.getElem_map,(List.getElem?_eq_some_iff.mp er).2] at this
   intro z
   rw [z] at this
   exact this rfl
 | none =>
  rw [hf] at h
  have h:(if rows.dropLast=[]∨rows.getLastD ""≠"" then (Sum.inl (rows.length - 1):Nat ⊕ List Tr) else .inr (rows.dropLast.filterMap (shO sp)))=.inl k:=h
  by_cases c:rows.dropLast=[]∨rows.getLastD ""≠""
  ·rw [if_pos c] at h
   cases h
   exact ⟨Nat.le_refl _,fun z=>absurd z (Nat.lt_irrefl _)⟩
  ·rw [if_neg c] at h
   cases h
theorem zwU {text:Str} {k:Nat} (h:zlw text=.inl k):k≤(Txt.split text (Str.ofString "\n")).length - 1∧(k<(Txt.split text (Str.ofString "\n")).length - 1→∀ text2 more,Txt.split text2 (Str.ofString "\n")=(Txt.split text (Str.ofString "\n")).take (k+1)++more++[Str.ofString ""]→zlw text2=.inl k):=by
 rw [zpx] at h
 have ne:=zck text (Str.ofString "\n")
 generalize Txt.split text (Str.ofString "\n")=rows at *
 unfold lwO at h
 have hd:∀ more,(rows.take (k+1)++more++[Str.ofString ""]).headD ""=rows.headD "":=fun more=>by
  cases rows with
  | nil=>exact absurd rfl ne
  | cons r l=>rfl
 have fin:∀ kd,zoq kd rows=.inl k→k≤rows.length - 1∧(k<rows.length - 1→∀ more,zoq kd (rows.take (k+1)++more++[Str.ofString ""])=.inl k):=by
  intro kd h
  by_cases hk:∃ sp,kd=kdS sp
  ·obtain ⟨sp,rfl⟩:=hk
   rw [zo0] at h
   cases ho:zgn sp rows with
   | inr ts=>rw [ho] at h;cases h
   | inl k' =>
    rw [ho] at h
    cases h
    obtain ⟨h1,h2⟩:=zvV ne ho
    refine ⟨h1,fun z more=>?_⟩
    rw [zo0,h2 z more]
  ·rw [zlB fun sp z=>hk ⟨sp,z⟩] at h
   cases h
   exact ⟨Nat.zero_le _,fun _ more=>zlB fun sp z=>hk ⟨sp,z⟩⟩
 obtain ⟨h1,h2⟩:=fin _ h
 refine ⟨h1,fun z text2 more e=>?_⟩
 rw [zpx,e]
 unfold lwO
 rw [hd more]
 exact h2 z more
theorem zmd {sp:Bool} {row:Str} {t:Tr} (h:shO sp row=some t):∃ (w1:Str) (wt:List Str) (n:Int) (p:List Tr),Txt.split row (Str.ofString " ")=kdS sp::w1::wt∧zdQ w1=some n∧plO sp wt=some p∧t=.tup [.lst p,.int n]:=by
 unfold shO at h
 have h:(if (Txt.split row (Str.ofString " ")).getD 0 ""=kdS sp∧(if sp then 2 else 3)≤(Txt.split row (Str.ofString " ")).length then (zdQ ((Txt.split row (Str.ofString " ")).getD 1 "")).bind fun n=>if n<1 then none else (plO sp ((Txt.split row (Str.ofString " ")).drop 2)).map fun p=>Tr.tup [.lst p,.int n] else none)=some t:=h
 by_cases hc:(Txt.split row (Str.ofString " ")).getD 0 ""=kdS sp∧(if sp then 2 else 3)≤(Txt.split row (Str.ofString " ")).length
 ·rw [if_pos hc] at h
  obtain ⟨w0,wr,ew⟩:=zgj row
  rw [ew] at h hc ⊢
  cases wr with
  | nil =>
   have:=hc.2
   rw [List.length_singleton] at this
   cases sp <;> exact absurd this (by decide)
  | cons w1 wt =>
   have h0:w0=kdS sp:=hc.1
   have h:((zdQ w1).bind fun n=>if n<1 then none else (plO sp wt).map fun p=>Tr.tup [.lst p,.int n])=some t:=h
   cases h1:zdQ w1 with
   | none=>rw [h1] at h;cases h
   | some n =>
    rw [h1] at h
    have h:(if n<1 then none else (plO sp wt).map fun p=>Tr.tup [.lst p,.int n])=some t:=h
    split at h
    ·cases h
    ·cases h2:plO sp wt with
     | none=>rw [h2] at h;cases h
     | some p =>
      rw [h2] at h
      cases h
      exact ⟨w1,wt,n,p,by rw [h0],h1,h2,rfl⟩
 ·rw [if_neg hc] at h
  cases h
theorem ztQ {α β:Type} {f:α→Option β}:∀ {l:List α},(∀ x∈l,f x≠none)→(l.filterMap f).length=l.length∧∀ (i:Nat) x y,l[i]?=some x→(l.filterMap f)[i]?=some y→f x=some y
 | [],_=>⟨rfl,fun i x y e=>by cases e⟩
 | a::l,h=>by
  obtain ⟨ih1,ih2⟩:=ztQ (l:=l) fun x hx=>h x (List.mem_cons_of_mem _ hx)
  cases e:f a with
  | none=>exact absurd e (h a (List.mem_cons_self ..))
  | some b =>
   rw [List.filterMap_cons_some e]
   refine ⟨by rw [List.length_cons,List.length_cons,ih1],fun i x y e1 e2=>?_⟩
   cases i with
   | zero=>cases e1;cases e2;exact e
   | succ i=>exact ih2 i x y e1 e2
theorem zqx {text:Str} {sp:Bool} {ts:List Tr} (h:zlw text=.inr (sp,ts)):∃ rows:List Str,Txt.split text (Str.ofString "\n")=rows++[Str.ofString ""]∧ts.length=rows.length∧∀ (i:Nat) r t,rows[i]?=some r→ts[i]?=some t→shO sp r=some t:=by
 have ne:=zck text (Str.ofString "\n")
 rw [zpx] at h
 generalize Txt.split text (Str.ofString "\n")=rows at *
 unfold lwO at h
 generalize (Txt.split (rows.headD "") " ").headD ""=kd at h
 by_cases hk:∃ sp,kd=kdS sp
 ·obtain ⟨sp',rfl⟩:=hk
  rw [zo0] at h
  cases ho:zgn sp' rows with
  | inl k=>rw [ho] at h;cases h
  | inr us =>
   rw [ho] at h
   cases h
   unfold zgn at ho
   cases hf:(rows.dropLast.map (shO sp)).findIdx? (fun o=>o.isNone) with
   | some k'=>rw [hf] at ho;cases ho
   | none =>
    rw [hf] at ho
    have ho:(if rows.dropLast=[]∨rows.getLastD ""≠"" then (Sum.inl (rows.length - 1):Nat ⊕ List Tr) else .inr (rows.dropLast.filterMap (shO sp)))=.inr ts:=ho
    by_cases c:rows.dropLast=[]∨rows.getLastD ""≠""
    ·rw [if_pos c] at ho
     cases ho
    ·rw [if_neg c] at ho
     cases ho
     have c2:rows.getLastD ""=Str.ofString "":=Decidable.not_not.mp fun z=>c (.inr z)
     have el:rows=rows.dropLast++[Str.ofString ""]:=by
      rw [← c2,List.getLastD_eq_getLast?,List.getLast?_eq_some_getLast ne]
      exact (List.dropLast_concat_getLast ne).symm
     have all:∀ x∈rows.dropLast,shO sp x≠none:=fun x hx z=>by
      rw [List.findIdx?_eq_none_iff] at hf
      have:=hf (shO sp x) (List.mem_map.mpr ⟨x,hx,rfl⟩)
      rw [z] at this
      cases this
     exact ⟨rows.dropLast,el,(ztQ all).1,(ztQ all).2⟩
 ·rw [zlB fun sp z=>hk ⟨sp,z⟩] at h
  cases h
theorem zpw {text:Str} {rows:List Str} (e:Txt.split text (Str.ofString "\n")=rows++[Str.ofString ""]):Str.join (Str.ofString "") (rows.map fun x=>x++Str.ofString "\n")=text:=by
 have j:=StrLaws.join_split text (Str.ofString "\n")
 rw [e,zcG] at j
 refine zdd ?_
 rw [← j,zgh,zh2,List.map_map]
 congr 1
 refine List.map_congr_left fun x _=>?_
 show sgn (x++Str.ofString "\n")=_
 rw [zb3,zcG]
 rfl
def zit:Sp:=fun vs H Q _=>∃ kd:Str,vs=[.str kd]∧(kd="walk"∨kd="spread")∧Q .non H
def zfH (K:PySem.W.Frag) (a:Ad):TS :=
 (zcn (zav (tOp (rIn K true) (zac 0) (tC (.ref a.t_KINDS)))) zsT zaZ)
theorem zkO {kd:Str} (hK:zrg K a.t_KINDS [.str "walk",.str "spread"]) (h:kd="walk"∨kd="spread") (q:Q .non H):zfH K a { nx:=fun _ H'=>Q .non H',rt:=Q } (L2.zbA ["kind"] [.str kd]) H:=by
 unfold zfH
 simp_all only [zac]
 refine ⟨_,.inr (SqT.ofK hK),rfl,rfl,?_⟩
 rcases h with rfl | rfl
 ·exact zgl (fun z=>absurd z (by decide +kernel)) (fun _=>q)
 ·exact zgl (fun z=>absurd z (by decide +kernel)) (fun _=>q)
theorem zko:zaK ["kind"] ["kind"] (zam zfT):=⟨rfl,rfl,rfl,by decide +kernel,rfl,by decide +kernel,by decide +kernel⟩
theorem zkN (T:Txt K mg base a):zc8 P w K mg base CX0 1 a.f_look_kind a.d_look_kind ["kind"] zit:=by
 refine T.F_look_kind.ok zko (fun vs H Q E h=>?_) (fun cdv A outer s H vs Q E hr h=>?_)
 ·obtain ⟨kd,rfl,h,q⟩:=h
  rfl
 obtain ⟨kd,rfl,h,q⟩:=h
 exact ⟨zfH K a,(zaj (zb8 (zat zg0 (pv 0) (zbk rfl T.m_KINDS rfl) (by with_unfolding_all rfl)) (zaj zsy) zaT)),
  zkO T.u_KINDS h q⟩
def zjf:Sp:=fun vs H Q _=>∃ (sp:Bool) (w:Str) (th:Tr) (v:V),vs=[.str (kdS sp),v]∧thO sp w=some th∧Sh H th v∧w.length≤540∧Q (.str w) H
def zez (K:PySem.W.Frag):TS :=
 (zaz (zeh (zcn (zav (tOp rEq (zac 0) (tC (.str "walk")))) (zb9 (tCB zdX (zab (zac 1) zak))) zaZ))
 (zaz (zaU (zac 1) (ziy K 2 (zbL (zai 2) (zbL (zai 3) zix))))
 (zb9 (tJ [fI (zac 2),fS (tC (.str "-")),fI (zac 3)] Str.empty))))
theorem zjn {sp:Bool} {w:Str} {th:Tr} {v:V} (h:thO sp w=some th) (hs:Sh H th v) (lw:w.length≤540) (q:Q (.str w) H):zez K { nx:=fun _ H'=>Q .non H',rt:=Q } (L2.zbA ["kind","thing","a","b"] [.str (kdS sp),v]) H:=by
 unfold zez
 simp_all only [zac]
 cases sp
 ·have h:(zdQ w).map Tr.int=some th:=h
  cases hn:zdQ w with
  | none=>rw [hn] at h;cases h
  | some n =>
   rw [hn] at h
   cases h
   cases hs
   refine ⟨fun _ _=>False,?_,fun _ _ z=>z.elim⟩
   simp_all only [zac]
   refine ⟨rfl,?_⟩
   rw [if_pos zoG]
   refine ⟨zjx lw hn,?_⟩
   rw [(zcH (by omega) hn).1]
   exact q
 ·have h:(match zdv (Txt.split w (Str.ofString "-")) with | some [x,y]=>some (Tr.tup [.int x,.int y]) | _=>none)=some th:=h
  refine ⟨fun σ H'=>H'=H∧σ=[some (.str (kdS true)),some v,none,none],?_,?_⟩
  ·simp_all only [zac]
   refine ⟨rfl,?_⟩
   rw [if_neg (show ¬ kdS true=Str.ofString "walk" from zgZ)]
   trivial
  ·rintro σ H' ⟨rfl,rfl⟩
   have hj:=StrLaws.join_split w (Str.ofString "-")
   have lp:∀ x∈Txt.split w (Str.ofString "-"),x.length≤w.length:=by rw [zs7];exact zdk w 45
   cases hn:zdv (Txt.split w (Str.ofString "-")) with
   | none=>rw [hn] at h;cases h
   | some ns =>
    rw [hn] at h
    obtain ⟨x,y,rfl⟩:∃ x y,ns=[x,y]:=by
     match ns,h with
     | [x,y],_=>exact ⟨x,y,rfl⟩
    cases h
    have l2:=zkM hn
    generalize Txt.split w (Str.ofString "-")=ws at *
    obtain ⟨wa,wb,rfl⟩:∃ wa wb,ws=[wa,wb]:=by
     match ws,l2 with
     | [wa,wb],_=>exact ⟨wa,wb,rfl⟩
    rw [zcU,zcU] at hn
    cases ha:zdQ wa with
    | none=>rw [ha] at hn;cases hn
    | some x' =>
     cases hb:zdQ wb with
     | none=>rw [ha,hb] at hn;cases hn
     | some y' =>
      rw [ha,hb] at hn
      cases hn
      have la:=lp wa (by simp)
      have lb:=lp wb (by simp)
      have ea:=(zcH (by omega) ha).1
      have eb:=(zcH (by omega) hb).1
      have l1:(Str.ofString "-").length=1:=by decide +kernel
      have hw:sgn w=sgn wa++(sgn (Str.ofString "-")++sgn wb):=by rw [← hj,zdo,zeE]
      have lj:wa.length+1+wb.length=w.length:=by
       rw [zcA w,hw,List.length_append,List.length_append,← zcA,← zcA,← zcA]
       omega
      cases hs with
      | @tup pp xs _ hp l e =>
       obtain ⟨u1,u2,rfl⟩:∃ u1 u2,xs=[u1,u2]:=by
        match xs,l with
        | [u1,u2],_=>exact ⟨u1,u2,rfl⟩
       have e1:=e 0 u1 (.int x) rfl rfl
       have e2:=e 1 u2 (.int y) rfl rfl
       cases e1
       cases e2
       simp_all only [zac]
       refine ⟨_,SqT.of hp,rfl,_,_,rfl,_,_,rfl,rfl,x,rfl,zjx (by omega) ha,?_⟩
       rw [ea]
       refine ⟨zbR (by rw [zbP];omega),zbR (by rw [zbP,zaQ];omega),y,rfl,zjx (by omega) hb,?_⟩
       rw [eb]
       refine ⟨zbR (by rw [zbP,zaQ,zaQ];omega),?_⟩
       rw [zbP]
       have:wa++Str.ofString "-"++wb=w:=by
        refine zdd ?_
        rw [hw,zb3,zb3,List.append_assoc]
       rw [this]
       exact q
theorem zdY:zaK ["kind","thing","a","b"] ["kind","thing"] (zam zeF):=⟨rfl,rfl,rfl,by decide +kernel,rfl,by decide +kernel,by decide +kernel⟩
theorem ziR (T:Txt K mg base a):zc8 P w K mg base CX0 1 a.f_thing_text a.d_thing_text ["kind","thing"] zjf:=by
 refine T.F_thing_text.ok zdY (fun vs H Q E h=>?_) (fun cdv A outer s H vs Q E hr h=>?_)
 ·obtain ⟨sp,w',th,v,rfl,h,hs,lw,q⟩:=h
  rfl
 obtain ⟨sp,w',th,v,rfl,h,hs,lw,q⟩:=h
 exact ⟨zez K,(zaf (zbQ (zb8 (zat zej (pv 0) zay (zaL _)) (zaj (zaN (zby zcv rfl T.z_str zc2 (zaa (pv 1) zae)))) zaT))
 (zaf (zkH (pv 1) (zdV rfl (zaO (zaG (i:=2) zdY.nd rfl (Or.inl rfl)) (zaO (zaG (i:=3) zdY.nd rfl (Or.inl rfl)) zcX))))
 (zaj (zaN (zo7 (PFs.cons (zir (pv 2)) (PFs.cons (zks zay) (PFs.cons (zir (pv 3)) PFs.nil)))))))),
  zjn h hs lw q⟩
def zhp:Sp:=fun vs H Q _=>∃ (sp:Bool) (v:V) (ts:List Tr) (rows:List Str),vs=[.str (kdS sp),v]∧Sh H (.lst ts) v∧ts.length=rows.length∧(∀ (i:Nat) r t,rows[i]?=some r→ts[i]?=some t→shO sp r=some t)∧(∀ r∈rows,r.length≤90000∧∀ w∈Txt.split r (Str.ofString " "),w.length≤540)∧rows.length≤90000∧∀ D H',zaJ H H'→H' D=some (.lst (rows.map V.str))→Q (.ref D) H'
def zdO (K:PySem.W.Frag):TS :=
 (zaz (zaU (tOp zgm (zdq (zab (zac 0) (zab (tCB zdX (zab (zac 4) zak)) zak))) (zgg (zfO K (zac 3)) (zai 0) zcC (zaH zjf [] E0 (zab (zac 1) (zab (zac 0) zak))) [none,some 0])) (zai 5))
 (zc7 (tBM K "list" zbw (zac 2) (zab (tBM K "str" (zg5 K) (tC (.str " ")) (zab (zac 5) zak)) zak))))
theorem zdU (K:PySem.W.Frag) (D:zce) (σ:St) (H:Hp):zdO K D σ H=(zaz (zaU (tOp zgm (zdq (zab (zac 0) (zab (tCB zdX (zab (zac 4) zak)) zak))) (zgg (zfO K (zac 3)) (zai 0) zcC (zaH zjf [] E0 (zab (zac 1) (zab (zac 0) zak))) [none,some 0])) (zai 5))
 (zc7 (tBM K "list" zbw (zac 2) (zab (tBM K "str" (zg5 K) (tC (.str " ")) (zab (zac 5) zak)) zak)))) D σ H:=rfl
def zey (K:PySem.W.Frag):TS :=
 (zaz (zaU (zdq zak) (zai 2))
 (zaz (zfV (zfO K (zac 1)) (ziy K 2 (zbL (zai 3) (zbL (zai 4) zix)))
 (zdO K))
 (zb9 (zac 2))))
theorem zsE {sp:Bool}:∀ {ws:List Str} {ts:List Tr},plO sp ws=some ts→ts.length=ws.length∧∀ (i:Nat) w t,ws[i]?=some w→ts[i]?=some t→thO sp w=some t
 | [],ts,h=>by
  cases h
  exact ⟨rfl,fun i w t e=>by cases e⟩
 | w::ws,ts,h=>by
  rw [zmD] at h
  cases h1:thO sp w with
  | none=>rw [h1] at h;cases h
  | some t1 =>
   cases h2:plO sp ws with
   | none=>rw [h1,h2] at h;cases h
   | some t2 =>
    rw [h1,h2] at h
    cases h
    obtain ⟨i1,i2⟩:=zsE h2
    refine ⟨by rw [List.length_cons,List.length_cons,i1],fun i w' t e1 e2=>?_⟩
    cases i with
    | zero=>cases e1;cases e2;exact h1
    | succ i=>exact i2 i w' t e1 e2
theorem zi3 {sp:Bool} {v:V} {ts:List Tr} {rows:List Str} (hs:Sh H (.lst ts) v) (le:ts.length=rows.length) (hc:∀ (i:Nat) r t,rows[i]?=some r→ts[i]?=some t→shO sp r=some t) (hw:∀ r∈rows,r.length≤90000∧∀ w∈Txt.split r (Str.ofString " "),w.length≤540) (lr:rows.length≤90000) (q:∀ D H',zaJ H H'→H' D=some (.lst (rows.map V.str))→Q (.ref D) H'):zey K { nx:=fun _ H'=>Q .non H',rt:=Q } (L2.zbA ["kind","paper","rows","plan","weight","words"] [.str (kdS sp),v]) H:=by
 cases hs with
 | @lst pp xs _ hp lx ex =>
  unfold zey
  simp_all only [zac]
  refine ⟨by decide,fun D hD=>⟨⟨_,SqL.of ((zah hD _) _ _ hp)⟩,?_⟩⟩
  refine zeB (xs:=xs) (fun i σ H'=>zaJ H H'∧H' D=some (.lst ((rows.take i).map V.str))∧∃ x3 x4 x5,σ=[some (.str (kdS sp)),some (.ref pp),some (.ref D),x3,x4,x5]) ⟨zah hD _,zad,_,_,_,rfl⟩ ?_ ?_ ?_
  ·rintro i σ H' _ ⟨s,_⟩
   exact SqL.of (s _ _ hp)
  ·rintro i x σ H1 e ⟨s1,h1,x3,x4,x5,rfl⟩
   have li:=(List.getElem?_eq_some_iff.mp e).1
   have er:rows[i]?=some rows[i]:=List.getElem?_eq_getElem (by omega)
   have et:ts[i]?=some ts[i]:=List.getElem?_eq_getElem (by omega)
   have hx:=ex i x _ e et
   have hr:=hc i _ _ er et
   obtain ⟨r1,r2⟩:=hw _ (zcQ er)
   generalize rows[i]=row at er hr r1 r2
   generalize ts[i]=t at et hx hr
   obtain ⟨w1,wt,n,p,ew,hn,hpl,rfl⟩:=zmd hr
   have sw:=PyProof.Rows.split_weight row (Str.ofString " ") (by decide +kernel)
   have hj:=StrLaws.join_split row (Str.ofString " ")
   rw [ew] at r2 sw hj
   rw [List.map_cons,List.map_cons,List.sum_cons,List.sum_cons,List.length_cons,List.length_cons] at sw
   have l1:=r2 w1 (by simp)
   cases hx with
   | @tup tt us _ htt lu eu =>
    obtain ⟨u1,u2,rfl⟩:∃ u1 u2,us=[u1,u2]:=by
     match us,lu with
     | [u1,u2],_=>exact ⟨u1,u2,rfl⟩
    have e1:=eu 0 u1 (.lst p) rfl rfl
    have e2:=eu 1 u2 (.int n) rfl rfl
    cases e2
    cases e1 with
    | @lst pl ys _ hpl' ly ey =>
     refine ⟨tt,_,rfl,SqT.of (s1 _ _ htt),rfl,_,_,rfl,_,_,rfl,rfl,?_⟩
     unfold zdO
     simp_all only [zdU,zac]
     refine ⟨zjx l1 hn,by decide,fun p1 hp1=>?_⟩
     rw [(zcH (by omega) hn).1]
     have s2:=zah hp1 (.lst [V.str (kdS sp),V.str w1])
     have h2:L2.upd H1 p1 (.lst [V.str (kdS sp),V.str w1]) p1=some (.lst [V.str (kdS sp),V.str w1]):=zad
     generalize L2.upd H1 p1 (.lst [V.str (kdS sp),V.str w1])=H2 at s2 h2
     have s12:=s1.trans s2
     obtain ⟨lp,tp⟩:=zsE hpl
     refine ⟨⟨_,SqL.of (s12 _ _ hpl')⟩,fun D1 hD1=>?_⟩
     refine ze7 (K:=K) (xs:=ys) (fun j zs σ H'=>zaJ H2 H'∧zs=(wt.take j).map V.str∧∃ x,σ=[x,some (.str (kdS sp))]) ⟨zah hD1 _,rfl,_,rfl⟩ ?_ ?_ ?_
     ·rintro j zs σ H' _ ⟨s,_⟩
      exact SqL.of (s _ _ (s12 _ _ hpl'))
     ·rintro j y zs σ H' ej hD' ⟨s,rfl,u,rfl⟩
      have lj:=(List.getElem?_eq_some_iff.mp ej).1
      have ew':wt[j]?=some wt[j]:=List.getElem?_eq_getElem (by omega)
      have ep:p[j]?=some p[j]:=List.getElem?_eq_getElem (by omega)
      refine ⟨_,rfl,_,rfl,sp,wt[j],p[j],y,rfl,tp j _ _ ew' ep,(ey j y _ ej ep).same (s12.trans s),r2 _ (by simp),D1,_,_,rfl,rfl,hD',zda (by rw [List.length_map,List.length_take];omega),_,zad,s.put hD1,?_,_,rfl⟩
      rw [List.take_add_one,ew',List.map_append]
      rfl
     ·rintro zs σ H3 hD3 ⟨s3,rfl,u,rfl⟩
      rw [List.take_of_length_le (by omega)] at hD3
      refine ⟨D1,rfl,_,s3 _ _ h2,_,hD3,zbR (by rw [List.length_map];show 2+wt.length≤_;omega),fun p3 hp3=>?_⟩
      have s4:=zah hp3 (.lst ([V.str (kdS sp),V.str w1]++wt.map V.str))
      have h4:L2.upd H3 p3 (.lst ([V.str (kdS sp),V.str w1]++wt.map V.str)) p3=some (.lst ((kdS sp::w1::wt).map V.str)):=zad
      generalize L2.upd H3 p3 (.lst ([V.str (kdS sp),V.str w1]++wt.map V.str))=H4 at s4 h4
      have s14:=(s2.trans s3).trans s4
      have hD4:=s14 _ _ h1
      have e1:(Str.ofString " ").length=1:=by decide +kernel
      refine ⟨.inl ⟨rfl,_,SqL.of hD4⟩,rfl,_,SqL.of h4,?_,_,hD4,zda (by rw [List.length_map,List.length_take];omega),?_,?_⟩
      ·rw [e1,List.map_cons,List.map_cons,List.sum_cons,List.sum_cons,List.length_cons,List.length_cons]
       exact Nat.le_trans (show _≤999999 by omega) (by decide)
      ·exact (s1.trans s14).put hD
      ·rw [zad,List.take_add_one,er,List.map_append]
       show some (HO.lst (_++[V.str (PySem.Builtin.Str.glued _ _)]))=_
       rw [StrLaws.glued_eq_join,hj]
       rfl
  ·rintro σ H1 ⟨s1,h1,x3,x4,x5,rfl⟩
   rw [List.take_of_length_le (by omega)] at h1
   simp_all only [zdU,zac]
   exact q D H1 s1 h1
theorem zcP:zaK ["kind","paper","rows","plan","weight","words"] ["kind","paper"] (zam zdy):=⟨rfl,rfl,rfl,by decide +kernel,rfl,by decide +kernel,by decide +kernel⟩
theorem zja (T:Txt K mg base a):zc8 P w K mg base CX0 2 a.f_paper_rows a.d_paper_rows ["kind","paper"] zhp:=by
 have G_thing_text:=ziR (P:=P) (w:=w) (base:=base) T
 refine T.F_paper_rows.ok zcP (fun vs H Q E h=>?_) (fun cdv A outer s H vs Q E hr h=>?_)
 ·obtain ⟨sp,v,ts,rows,rfl,hs,le,hc,hw,lr,q⟩:=h
  rfl
 obtain ⟨sp,v,ts,rows,rfl,hs,le,hc,hw,lr,q⟩:=h
 exact ⟨zey K,(zaf (zas (i:=2) zcP.nd rfl (Or.inl rfl) (zbN zae))
 (zaf (zc6 PassesOwn.never rfl (zdP (pv 1)) (zdV rfl (zaO (zaG (i:=3) zcP.nd rfl (Or.inl rfl)) (zaO (zaG (i:=4) zcP.nd rfl (Or.inl rfl)) zcX)))
 (zaf (zas (i:=5) zcP.nd rfl (Or.inl rfl) (zan zc5 (zbN (zaa (pv 0) (zaa (zby zcv rfl T.z_str zc2 (zaa (pv 4) zae)) zae))) (zh5 (sc:=zam zdy) (N:=["kind","paper","rows","plan","weight","words"]) (Nc:=["thing","kind"]) (cap:=[none,some 0]) rfl rfl rfl (.of (by decide +kernel)) (zdP (pv 3)) (fun _ _ _ _=>(zaG (i:=0) (show List.Nodup (["thing","kind"]:List Str) from by decide) rfl (Or.inl rfl))) (fun _ _ _ _=>zfB) (fun _ _ _ _=>(zau G_thing_text (hr.mono (by decide)) rfl T.m_thing_text T.F_thing_text.kp T.b_thing_text .nil za8 (zaa (pv 1) (zaa (pv 0) zae)))))))
 (zaj (zcq (zcw PySem.F.plainAttrs_list PySem.F.slot_list_append PySem.F.type_list_append zcN (pv 2) (zaa (zcw PySem.F.plainAttrs_str PySem.F.slot_str_join PySem.F.type_str_join zfr zay (zaa (pv 5) zae)) zae))))))
 (zaj (zaN (pv 2))))),
  zi3 hs le hc hw lr q⟩
def zfJ:Sp:=fun vs H Q _=>∃ (sp:Bool) (v:V) (ts:List Tr) (text:Str),vs=[.str (kdS sp),v]∧Sh H (.lst ts) v∧zlw text=.inr (sp,ts)∧Rn 540 text∧text.length≤80000∧∀ H',zaJ H H'→Q (.str text) H'
def zeA (K:PySem.W.Frag):TS :=
 (zaz (zc7 (zaH zit [] E0 (zab (zac 0) zak)))
 (zb9 (zaH (zjs K) [] E0 (zab (zaH zhp [] E0 (zab (zac 0) (zab (zac 1) zak))) zak))))
theorem ziW {sp:Bool} {v:V} {ts:List Tr} {text:Str} (hs:Sh H (.lst ts) v) (ht:zlw text=.inr (sp,ts)) (hr:Rn 540 text) (lt:text.length≤80000) (q:∀ H',zaJ H H'→Q (.str text) H'):zeA K { nx:=fun _ H'=>Q .non H',rt:=Q } (L2.zbA ["kind","paper"] [.str (kdS sp),v]) H:=by
 unfold zeA
 simp_all only [zac]
 obtain ⟨rows,e,le,hc⟩:=zqx ht
 have hw:=ziI hr
 have sw:=PyProof.Rows.split_weight text (Str.ofString "\n") (by decide +kernel)
 have sl:∀ x∈Txt.split text (Str.ofString "\n"),x.length≤text.length:=by rw [zcG];exact zdk text 10
 rw [e,List.map_append,List.sum_append,List.length_append] at sw
 rw [e] at hw sl
 refine ⟨_,rfl,?_,sp,v,ts,rows,rfl,hs,le,hc,fun r hr=>⟨?_,hw r (List.mem_append_left _ hr)⟩,by omega,fun D H1 s1 hD=>⟨D,rows,rfl,hD,by omega,fun H2 s2=>?_⟩⟩
 ·cases sp
  ·exact .inl rfl
  ·exact .inr rfl
 ·have:=sl r (List.mem_append_left _ hr)
  omega
 ·rw [zpw e]
  exact q H2 (s1.trans s2)
theorem zjo:zaK ["kind","paper"] ["kind","paper"] (zam zeQ):=⟨rfl,rfl,rfl,by decide +kernel,rfl,by decide +kernel,by decide +kernel⟩
theorem ziP (T:Txt K mg base a):zc8 P w K mg base CX0 3 a.f_paper_text a.d_paper_text ["kind","paper"] zfJ:=by
 have G_look_kind:=zkN (P:=P) (w:=w) (base:=base) T
 have G_paper_rows:=zja (P:=P) (w:=w) (base:=base) T
 have G_text_of:=ziG (P:=P) (w:=w) (base:=base) T
 refine T.F_paper_text.ok zjo (fun vs H Q E h=>?_) (fun cdv A outer s H vs Q E hr h=>?_)
 ·obtain ⟨sp,v,ts,text,rfl,hs,ht,hR,lt,q⟩:=h
  rfl
 obtain ⟨sp,v,ts,text,rfl,hs,ht,hR,lt,q⟩:=h
 exact ⟨zeA K,(zaf (zcq (zau G_look_kind (hr.mono (by decide)) rfl T.m_look_kind T.F_look_kind.kp T.b_look_kind .nil za8 (zaa (pv 0) zae)))
 (zaj (zaN (zau G_text_of (hr.mono (by decide)) rfl T.m_text_of T.F_text_of.kp T.b_text_of .nil za8 (zaa (zau G_paper_rows (hr.mono (by decide)) rfl T.m_paper_rows T.F_paper_rows.kp T.b_paper_rows .nil za8 (zaa (pv 0) (zaa (pv 1) zae))) zae))))),
  ziW hs ht hR lt q⟩
structure Lm (a:Ad) (H:Hp):Prop where
 l1:LT H a.p_lam
 l2:LT2 H a.p_lam2
theorem Lm.same {H H':Hp} (h:Lm a H) (s:zaJ H H'):Lm a H':=⟨h.l1.same s,h.l2.same s⟩
def Br (a:Ad) (H H':Hp):Prop:=∀ b o,b≠a.p_lam→b≠a.p_lam2→H b=some o→H' b=some o
theorem Br.same {H H':Hp} (s:zaJ H H'):Br a H H':=fun b o _ _ e=>s _ _ e
theorem Br.trans {H H1 H2:Hp} (h:Br a H H1) (g:Br a H1 H2):Br a H H2:=fun b o n1 n2 e=>g b o n1 n2 (h b o n1 n2 e)
theorem Br.get {H H':Hp} (h:Br a H H') (L:Lm a H) {b:Addr} {o:HO} (e:H b=some o) (n:∀ ps,o≠.tbl ps):H' b=some o:=by
 obtain ⟨p1,h1⟩:=L.l1.tbl
 obtain ⟨p2,h2⟩:=L.l2.tbl
 exact h b o (fun z=>by rw [z,h1] at e;cases e;exact n _ rfl) (fun z=>by rw [z,h2] at e;cases e;exact n _ rfl) e
theorem zmi {P P2:Addr} {pos:Pos} {qual:Str} {H H':Hp} {ps:Array Value} (h:zct H P2 pos qual) (hP:H P=some (.tbl ps)) (b:Bar P H H') (n:P2≠P):zct H' P2 pos qual:=by
 rcases h with h | ⟨c',oc,vs,t,n',h1,h2,h3,h4⟩
 ·exact .inl (b _ _ n h)
 ·exact .inr ⟨c',oc,vs,t,n',b _ _ n h1,b _ _ (fun z=>by rw [z,hP] at h2;cases h2) h2,h3,h4⟩
def zr4 (way:Int) (text:Str) (k:Nat):Prop:=(way=0∧zjK (Txt.split text (Str.ofString "\n"))=.inl k)∨(way=1∧zlw text=.inl k)
def zjZ (a:Ad):Sp:=fun vs H Q _=>∃ (way:Int) (text:Str),vs=[.int way,.str text]∧(way=0∨way=1)∧Lm a H∧Rn 540 text∧text.length≤80000 ∧
 (∀ m rs t w rl ts H',way=0→zjK (Txt.split text (Str.ofString "\n"))=.inr (m,rs)→Br a H H'→Lm a H'→H' t=some (.tup [.ref w,.non])→zjJ H' w rl ts m rs→Q (.ref t) H') ∧
 (∀ sp ts t v H',way=1→zlw text=.inr (sp,ts)→Br a H H'→Lm a H'→H' t=some (.tup [v,.non])→Sh H' (.tup [.str (kdS sp),.lst ts]) v→Q (.ref t) H') ∧
 ∀ (k:Nat) t x dx H',zr4 way text k→Br a H H'→Lm a H'→H' t=some (.tup [.non,.ref x])→H' x=some (zfw x (.ref a.c_NoText) (some dx))→H' dx=some (.xd [("row",.int k)])→Q (.ref t) H'
def zfQ (K:PySem.W.Frag) (a:Ad):TS :=
 (zaz (zaU (tC .non) (zai 2))
 (zaz (zaU (tC .non) (zai 3))
 (zaz (ztY K (fun E'=>(zaU (zqz ((a.f_read_web,(zhZ a))::((a.f_read_paper,(zft a))::[])) E' (tOp (zcO K) (zdq (zab (tC (.ref a.f_read_web)) (zab (tC (.ref a.f_read_paper)) zak))) (zac 0)) (zab (zac 1) zak)) (zai 3))) (.ref a.c_HideError) 4
 (zaU (zac 4) (zai 2)))
 (zb9 (zib (zab (zac 3) (zab (zac 2) zak)))))))
theorem zj5 {way:Int} {text:Str} (I:Isa K a) (hpp:a.p_lam≠a.p_lam2) (hw:way=0∨way=1) (L:Lm a H) (hr:Rn 540 text) (lt:text.length≤80000)
 (q0:∀ m rs t w rl ts H',way=0→zjK (Txt.split text (Str.ofString "\n"))=.inr (m,rs)→Br a H H'→Lm a H'→H' t=some (.tup [.ref w,.non])→zjJ H' w rl ts m rs→Q (.ref t) H')
 (q1:∀ sp ts t v H',way=1→zlw text=.inr (sp,ts)→Br a H H'→Lm a H'→H' t=some (.tup [v,.non])→Sh H' (.tup [.str (kdS sp),.lst ts]) v→Q (.ref t) H')
 (q2:∀ (k:Nat) t x dx H',zr4 way text k→Br a H H'→Lm a H'→H' t=some (.tup [.non,.ref x])→H' x=some (zfw x (.ref a.c_NoText) (some dx))→H' dx=some (.xd [("row",.int k)])→Q (.ref t) H'):zfQ K a { nx:=fun _ H'=>Q .non H',rt:=Q } (L2.zbA ["_law_way","_law_text_here","_law_caught","_law_told_here","e"] [.int way,.str text]) H:=by
 unfold zfQ
 simp_all only [zac]
 have r640:Rn 640 text:=zdH hr (by decide)
 refine ⟨by decide,fun lf hlf=>?_⟩
 have s1:=zah hlf (.lst [V.ref a.f_read_web,V.ref a.f_read_paper])
 have h1:L2.upd H lf (.lst [V.ref a.f_read_web,V.ref a.f_read_paper]) lf=some (.lst [V.ref a.f_read_web,V.ref a.f_read_paper]):=zad
 generalize L2.upd H lf (.lst [V.ref a.f_read_web,V.ref a.f_read_paper])=H1 at s1 h1
 have L1:=L.same s1
 have fin:∀ {H2:Hp} {k:Nat} {dx:Addr},zr4 way text k→Br a H H2→Lm a H2→H2 dx=some (.xd [("row",.int k)])→∀ x,H2 x=none→2≤sizeLine∧∀ t,L2.upd H2 x (zfw x (.ref a.c_NoText) (some dx)) t=none→Q (.ref t) (L2.upd (L2.upd H2 x (zfw x (.ref a.c_NoText) (some dx))) t (.tup [.non,.ref x])):=fun {H2 k dx} bw br Lk hd x hx=>⟨by decide,fun t ht=>by
  have s2:zaJ H2 (L2.upd (L2.upd H2 x (zfw x (.ref a.c_NoText) (some dx))) t (.tup [.non,.ref x])):=(zah hx _).add ht
  have nxt:x≠t:=fun z=>by rw [← z,zad] at ht;cases ht
  exact q2 k t x dx _ bw (br.trans (.same s2)) (Lk.same s2) zad (by rw [zal nxt,zad]) (s2 _ _ hd)⟩
 obtain ⟨ps1,hp1⟩:=L1.l1.tbl
 obtain ⟨ps2,hp2⟩:=L1.l2.tbl
 rcases hw with rfl | rfl
 ·have br:∀ {H2:Hp},Bar a.p_lam H1 H2→Br a H H2:=fun b=>(Br.same s1).trans fun b' o n1 _ e=>b b' o n1 e
  refine ⟨_,SqL.of h1,.ref a.f_read_web,zaV (j:=0) rfl,(a.f_read_web,zhZ a),by simp,rfl,text,rfl,L1.l1,r640,lt,fun m rs w rl ts H2 e b Lk n1 n2 W=>⟨by decide,fun t ht=>?_⟩,fun k dx H2 e b Lk hdx hd=>⟨I.ec,I.sub,fin (.inl ⟨rfl,e⟩) (br b) ⟨Lk,zmi L1.l2 hp1 b hpp.symm⟩ hd⟩⟩
  exact q0 m rs t w rl ts _ rfl e ((br b).trans (.same (zah ht _))) (Lm.same ⟨Lk,zmi L1.l2 hp1 b hpp.symm⟩ (zah ht _)) zad (W.same (zah ht _))
 ·have br:∀ {H2:Hp},Bar a.p_lam2 H1 H2→Br a H H2:=fun b=>(Br.same s1).trans fun b' o _ n2 e=>b b' o n2 e
  refine ⟨_,SqL.of h1,.ref a.f_read_paper,zaV (j:=1) rfl,(a.f_read_paper,zft a),by simp,rfl,text,rfl,L1.l2,r640,lt,fun sp ts v H2 e b Lk sh=>⟨by decide,fun t ht=>?_⟩,fun k dx H2 e b Lk hdx hd=>⟨I.ec,I.sub,fin (.inr ⟨rfl,e⟩) (br b) ⟨zmi L1.l1 hp2 b hpp,Lk⟩ hd⟩⟩
  exact q1 sp ts t v _ rfl e ((br b).trans (.same (zah ht _))) (Lm.same ⟨zmi L1.l1 hp2 b hpp,Lk⟩ (zah ht _)) zad (sh.same (zpB.trans (zah ht _)))
theorem zcE:zaK ["_law_way","_law_text_here","_law_caught","_law_told_here","e"] ["_law_way","_law_text_here"] (zam zfM):=⟨rfl,rfl,rfl,by decide +kernel,rfl,by decide +kernel,by decide +kernel⟩
theorem zkg (T:Txt K mg base a):zc8 P w K mg base CX0 9 a.f__law_told a.d__law_told ["_law_way","_law_text_here"] (zjZ a):=by
 have G_read_paper:=ziT (P:=P) (w:=w) (base:=base) T
 have G_read_web:=zlg (P:=P) (w:=w) (base:=base) T
 refine T.F__law_told.ok zcE (fun vs H Q E h=>?_) (fun cdv A outer s H vs Q E hr h=>?_)
 ·obtain ⟨way,text,rfl,hw,L,hR,lt,q0,q1,q2⟩:=h
  rfl
 obtain ⟨way,text,rfl,hw,L,hR,lt,q0,q1,q2⟩:=h
 exact ⟨zfQ K a,(zaf (zas (i:=2) zcE.nd rfl (Or.inl rfl) zco)
 (zaf (zas (i:=3) zcE.nd rfl (Or.inl rfl) zco)
 (zaf (zs8 (i:=4) T.m_HideError T.x_HideError rfl zcE.nd rfl rfl rfl rfl rfl rfl (fun pins E'=>(zaj (zas (i:=3) zcE.nd rfl (Or.inl rfl) (zr6 (zbO zaX (zbN (zaa (zbk rfl T.m_read_web rfl) (zaa (zbk rfl T.m_read_paper rfl) zae))) (pv 0) (fun _ _=>rfl)) (zku (zs4 G_read_web (hr.mono (by decide)) T.F_read_web.kp T.b_read_web zsM) (zku (zs4 G_read_paper (hr.mono (by decide)) T.F_read_paper.kp T.b_read_paper zsM) zsb)) (zaa (pv 1) zae)))))
 (fun ea=>(zaj (zas (i:=2) zcE.nd rfl (Or.inl rfl) (pv 4)))))
 (zaj (zaN (zeX (zaa (pv 3) (zaa (pv 2) zae)))))))),
  zj5 T.I T.hpp hw L hR lt q0 q1 q2⟩
def zrv (K:PySem.W.Frag) (P P2:Addr):Sp:=fun vs H Q _=>∃ (p:Addr) (ns:List Int),vs=[.ref p]∧SqL K H p (ns.map V.int)∧ns.length≤63∧(∀ x∈ns,x.natAbs<2 ^ 2 ^ 20)∧LT H P∧LT2 H P2∧∀ H',Q (.bl true) H'
def zi8 (K:PySem.W.Frag) (a:Ad):TS :=
 (zaz (zaU (tSl (zhk K) (tBM K "str" zdD (zac 4) (zab (tC (.str "\n")) zak)) za2 (zcc (tUn (rU fun i=>.int (-i)) (tC (.int 1))))) (zai 8))
 (zcn (zav (tOp (rI0 fun i j=>.bl (decide (i<j))) (zgk K (zac 7) "row") (tCB (fun xs H Q=>∃ p ys,xs=[.ref p]∧(SqL K H p ys∨SqT K H p ys)∧Q (.int ys.length) H) (zab (zac 8) zak)))) (zaz (zaU (tSl (zhk K) (tBM K "str" zdD (tOp (zcO K) (zac 1) (tOp (rI0 fun i j=>.int (i - j)) (tC (.int 1)) (zac 3))) (zab (tC (.str "\n")) zak)) za2 (zcc (tOp (rI (fun _ j=>0<j) fun i j=>.int (i % j)) (zaH (zbg K) [] E0 (zab (zac 0) (zab (tOp (rI0 fun i j=>.int (i+j)) (tC (.int 350)) (zac 3)) zak))) (tC (.int 4))))) (zai 9))
 (zaz (zaU (tOp (zik K) (zaH (zjZ a) [] E0 (zab (zac 3) (zab (tOp zbE (tBM K "str" (zg5 K) (tC (.str "\n")) (zab (tOp zgm (tSl (zhk K) (zac 8) za2 (zcc (tOp (rI0 fun i j=>.int (i+j)) (zgk K (zac 7) "row") (tC (.int 1))))) (zac 9)) zak)) (tC (.str "\n"))) zak))) (tC (.int 1))) (zai 10))
 (zcn (tOr (zav (tOp rNe (zaH (zhA a) [] E0 (zab (zac 10) zak)) (tC (.int 2)))) (zav (tOp rNe (zgk K (zac 10) "row") (zgk K (zac 7) "row")))) (zb9 (tC (.bl false))) zaZ))) zaZ))
theorem zcV (K:PySem.W.Frag) (a:Ad) (D:zce) (σ:St) (H:Hp):zi8 K a D σ H=(zaz (zaU (tSl (zhk K) (tBM K "str" zdD (zac 4) (zab (tC (.str "\n")) zak)) za2 (zcc (tUn (rU fun i=>.int (-i)) (tC (.int 1))))) (zai 8))
 (zcn (zav (tOp (rI0 fun i j=>.bl (decide (i<j))) (zgk K (zac 7) "row") (tCB (fun xs H Q=>∃ p ys,xs=[.ref p]∧(SqL K H p ys∨SqT K H p ys)∧Q (.int ys.length) H) (zab (zac 8) zak)))) (zaz (zaU (tSl (zhk K) (tBM K "str" zdD (tOp (zcO K) (zac 1) (tOp (rI0 fun i j=>.int (i - j)) (tC (.int 1)) (zac 3))) (zab (tC (.str "\n")) zak)) za2 (zcc (tOp (rI (fun _ j=>0<j) fun i j=>.int (i % j)) (zaH (zbg K) [] E0 (zab (zac 0) (zab (tOp (rI0 fun i j=>.int (i+j)) (tC (.int 350)) (zac 3)) zak))) (tC (.int 4))))) (zai 9))
 (zaz (zaU (tOp (zik K) (zaH (zjZ a) [] E0 (zab (zac 3) (zab (tOp zbE (tBM K "str" (zg5 K) (tC (.str "\n")) (zab (tOp zgm (tSl (zhk K) (zac 8) za2 (zcc (tOp (rI0 fun i j=>.int (i+j)) (zgk K (zac 7) "row") (tC (.int 1))))) (zac 9)) zak)) (tC (.str "\n"))) zak))) (tC (.int 1))) (zai 10))
 (zcn (tOr (zav (tOp rNe (zaH (zhA a) [] E0 (zab (zac 10) zak)) (tC (.int 2)))) (zav (tOp rNe (zgk K (zac 10) "row") (zgk K (zac 7) "row")))) (zb9 (tC (.bl false))) zaZ))) zaZ)) D σ H:=rfl
def zju (K:PySem.W.Frag) (a:Ad):TS :=
 (zcn (tOr (zav (tOp rNe (zaH (zhA a) [] E0 (zab (zac 7) zak)) (tC (.int 2)))) (tOr (zav (tOp (rI0 fun i j=>.bl (decide (i<j))) (zgk K (zac 7) "row") (tC (.int 0)))) (zav (tOp (rI0 fun i j=>.bl (decide (j<i))) (zgk K (zac 7) "row") (tBM K "str" ziV (zac 4) (zab (tC (.str "\n")) zak)))))) (zb9 (tC (.bl false))) zaZ)
theorem zcR (K:PySem.W.Frag) (a:Ad) (D:zce) (σ:St) (H:Hp):zju K a D σ H=(zcn (tOr (zav (tOp rNe (zaH (zhA a) [] E0 (zab (zac 7) zak)) (tC (.int 2)))) (tOr (zav (tOp (rI0 fun i j=>.bl (decide (i<j))) (zgk K (zac 7) "row") (tC (.int 0)))) (zav (tOp (rI0 fun i j=>.bl (decide (j<i))) (zgk K (zac 7) "row") (tBM K "str" ziV (zac 4) (zab (tC (.str "\n")) zak)))))) (zb9 (tC (.bl false))) zaZ) D σ H:=rfl
def zhY (K:PySem.W.Frag):TS :=
 (zcn (tOr (zpE (zav (tOp rEq (zac 3) (tC (.int 0)))) (zav (tOp rNe (zaH (zhv K) [] E0 (zab (zac 6) zak)) (zac 4)))) (zpE (zav (tOp rEq (zac 3) (tC (.int 1)))) (zav (tOp rNe (zaH zfJ [] E0 (zab (tOp (zik K) (zac 6) (tC (.int 0))) (zab (tOp (zik K) (zac 6) (tC (.int 1))) zak))) (zac 4))))) (zb9 (tC (.bl false))) zaZ)
theorem zcT (K:PySem.W.Frag) (D:zce) (σ:St) (H:Hp):zhY K D σ H=(zcn (tOr (zpE (zav (tOp rEq (zac 3) (tC (.int 0)))) (zav (tOp rNe (zaH (zhv K) [] E0 (zab (zac 6) zak)) (zac 4)))) (zpE (zav (tOp rEq (zac 3) (tC (.int 1)))) (zav (tOp rNe (zaH zfJ [] E0 (zab (tOp (zik K) (zac 6) (tC (.int 0))) (zab (tOp (zik K) (zac 6) (tC (.int 1))) zak))) (zac 4))))) (zb9 (tC (.bl false))) zaZ) D σ H:=rfl
def zjc (K:PySem.W.Frag):TS :=
 (zaU (zaH (zqu K) [] E0 (zab (zac 4) (zab (zgg (zel (zab (tC (.int 5)) zak)) (zai 0) zcC (zaH (zbg K) [] E0 (zab (zac 1) (zab (tOp (rI0 fun i j=>.int (i+j)) (tOp (rI0 fun i j=>.int (i+j)) (tOp (rI0 fun i j=>.int (i+j)) (tC (.int 300)) (tOp (rI IntMulOk fun i j=>.int (i*j)) (tC (.int 20)) (zac 3))) (tOp (rI IntMulOk fun i j=>.int (i*j)) (tC (.int 5)) (zac 2))) (zac 0)) zak))) [none,some 0,some 5,some 3]) zak))) (zai 4))
theorem zbU (K:PySem.W.Frag) (D:zce) (σ:St) (H:Hp):zjc K D σ H=(zaU (zaH (zqu K) [] E0 (zab (zac 4) (zab (zgg (zel (zab (tC (.int 5)) zak)) (zai 0) zcC (zaH (zbg K) [] E0 (zab (zac 1) (zab (tOp (rI0 fun i j=>.int (i+j)) (tOp (rI0 fun i j=>.int (i+j)) (tOp (rI0 fun i j=>.int (i+j)) (tC (.int 300)) (tOp (rI IntMulOk fun i j=>.int (i*j)) (tC (.int 20)) (zac 3))) (tOp (rI IntMulOk fun i j=>.int (i*j)) (tC (.int 5)) (zac 2))) (zac 0)) zak))) [none,some 0,some 5,some 3]) zak))) (zai 4)) D σ H:=rfl
def zhT (K:PySem.W.Frag) (a:Ad):TS :=
 (zaz (zaU (zaH (zjZ a) [] E0 (zab (zac 3) (zab (zac 4) zak))) (ziy K 2 (zbL (zai 6) (zbL (zai 7) zix))))
 (zaz (zeh (zcn (zav (tOp (fun x y H Q=>y=.non∧Q (.bl (decide (x=.non))) H) (zac 7) (tC .non))) (zaz (zeh (zhY K))
 zuG) zaZ))
 (zaz (zeh (zju K a))
 (zi8 K a))))
theorem zbT (K:PySem.W.Frag) (a:Ad) (D:zce) (σ:St) (H:Hp):zhT K a D σ H=(zaz (zaU (zaH (zjZ a) [] E0 (zab (zac 3) (zab (zac 4) zak))) (ziy K 2 (zbL (zai 6) (zbL (zai 7) zix))))
 (zaz (zeh (zcn (zav (tOp (fun x y H Q=>y=.non∧Q (.bl (decide (x=.non))) H) (zac 7) (tC .non))) (zaz (zeh (zhY K))
 zuG) zaZ))
 (zaz (zeh (zju K a))
 (zi8 K a)))) D σ H:=rfl
def zlH (K:PySem.W.Frag) (a:Ad):TS :=
 (zaz (zaU (tOp (zcO K) (zac 1) (zac 3)) (zai 4))
 (zaz (zfV (zel (zab (tOp (rI0 fun i j=>.int (i+j)) (tC (.int 1)) (tOp (rI (fun _ j=>0<j) fun i j=>.int (i % j)) (zaH (zbg K) [] E0 (zab (zac 0) (zab (tOp (rI0 fun i j=>.int (i+j)) (tC (.int 291)) (zac 3)) zak))) (tC (.int 3)))) zak)) (zai 5)
 (zjc K))
 (zhT K a)))
theorem zbK (K:PySem.W.Frag) (a:Ad) (D:zce) (σ:St) (H:Hp):zlH K a D σ H=(zaz (zaU (tOp (zcO K) (zac 1) (zac 3)) (zai 4))
 (zaz (zfV (zel (zab (tOp (rI0 fun i j=>.int (i+j)) (tC (.int 1)) (tOp (rI (fun _ j=>0<j) fun i j=>.int (i % j)) (zaH (zbg K) [] E0 (zab (zac 0) (zab (tOp (rI0 fun i j=>.int (i+j)) (tC (.int 291)) (zac 3)) zak))) (tC (.int 3)))) zak)) (zai 5)
 (zjc K))
 (zhT K a))) D σ H:=rfl
def ztO (K:PySem.W.Frag) (a:Ad):TS :=
 (zaz (zaU (zdq (zab (zaH (zsI K) [] E0 (zab (zaH (zvs K) [] E0 (zab (zac 0) (zab (tC (.int 0)) (zab (tC (.int 8)) (zab (tC (.int 6)) zak))))) zak)) zak)) (zai 1))
 (zaz (zaU (tOp (zcO K) (zdq (zab (tC (.str "walk")) (zab (tC (.str "spread")) zak))) (tOp (rI (fun _ j=>0<j) fun i j=>.int (i % j)) (zaH (zbg K) [] E0 (zab (zac 0) (zab (tC (.int 290)) zak))) (tC (.int 2)))) (zai 2))
 (zaz (zc7 (tBM K "list" zbw (zac 1) (zab (zaH (zo4 K) [] E0 (zab (zac 2) (zab (zaH (zqB K) [] E0 (zab (zac 0) (zab (tC (.int 200)) (zab (zac 2) zak)))) zak))) zak)))
 (zaz (zfV (zel (zab (tC (.int 2)) zak)) (zai 3)
 (zlH K a))
 (zb9 (tC (.bl true)))))))
theorem Br.seq {H H':Hp} {b:Addr} {xs:List V} (h:Br a H H') (L:Lm a H) (e:SqL K H b xs):SqL K H' b xs:=by
 rcases e with (e | ⟨o,e⟩) | e
 ·exact .inl (.inl (h.get L e fun _ z=>by cases z))
 ·exact .inl (.inr ⟨o,h.get L e fun _ z=>by cases z⟩)
 ·exact .inr e
theorem zoZ {rows:List Str} (ne:rows≠[]) (f:∀ x∈rows,10∉sgn x):Txt.split (Txt.join (Str.ofString "\n") rows++Str.ofString "\n") (Str.ofString "\n")=rows++[Str.ofString ""]:=by
 rw [zcG]
 refine zhb (List.append_ne_nil_of_right_ne_nil _ (List.cons_ne_nil _ _)) (fun x hx=>?_) (zdd ?_)
 ·rcases List.mem_append.mp hx with hx | hx
  ·exact f x hx
  ·rw [List.mem_singleton.mp hx,znV]
   exact List.not_mem_nil
 ·show _=sgn (PySem.Builtin.Str.glued _ _++_)
  rw [StrLaws.glued_eq_join,zgh,zb3]
  have:∀ l:List Str,l≠[]→sgn (Str.join ⟨#[10]⟩ l)++[10]=(l.map fun x=>sgn x++[10]).flatten:=by
   intro l
   induction l with
   | nil=>intro h;exact absurd rfl h
   | cons x l ih =>
    intro _
    cases l with
    | nil=>rw [zeE,List.map_cons,List.map_nil,List.flatten_cons,List.flatten_nil,List.append_nil]
    | cons z l=>rw [zcI,List.map_cons (l:=z::l),List.flatten_cons,← ih (List.cons_ne_nil _ _),List.append_assoc,List.append_assoc];rfl
  exact (this rows ne).symm
theorem zog (s:Str):Txt.count s (Str.ofString "\n")=((Txt.split s (Str.ofString "\n")).length:Int) - 1:=by
 have h1:=PyProof.Rows.split_len s 10
 have h2:=PyProof.Rows.count_is s 10
 rw [zcG]
 unfold PyProof.Rows.cnt at h1
 omega
theorem zvW {way:Int} {s:Str} {k:Nat} (h:zr4 way s k):k≤(Txt.split s (Str.ofString "\n")).length - 1∧(k<(Txt.split s (Str.ofString "\n")).length - 1→∀ text2 more,Txt.split text2 (Str.ofString "\n")=(Txt.split s (Str.ofString "\n")).take (k+1)++more++[Str.ofString ""]→zr4 way text2 k):=by
 rcases h with ⟨e,h⟩ | ⟨e,h⟩
 ·obtain ⟨h1,h2⟩:=zvR (zck _ _) h
  exact ⟨h1,fun z text2 more e2=>.inl ⟨e,by rw [e2];exact h2 z more⟩⟩
 ·obtain ⟨h1,h2⟩:=zwU h
  exact ⟨h1,fun z text2 more e2=>.inr ⟨e,h2 z text2 more e2⟩⟩
theorem zr4.one {way:Int} {s:Str} {k k':Nat} (h:zr4 way s k) (g:zr4 way s k'):k=k':=by
 rcases h with ⟨e,h⟩ | ⟨e,h⟩
 ·rcases g with ⟨_,g⟩ | ⟨e',_⟩
  ·rw [h] at g
   cases g
   rfl
  ·omega
 ·rcases g with ⟨e',_⟩ | ⟨_,g⟩
  ·omega
  ·rw [h] at g
   cases g
   rfl
theorem zux {D:zce} {p tx:Addr} {ns:List Int} {way:Int} {kd s s0 s1:Str} {x5 x6 x7 x8 x9 x10:Option V} (I:Isa K a) (xa:zif K a.c_NoText "row") (hS:SqL K H p (ns.map V.int)) (hl:ns.length≤63) (L:Lm a H) (hw:way=0∨way=1) (htx:H tx=some (.lst [.str s0,.str s1])) (r0:Rn 64 s0∧s0.length≤2800) (r1:Rn 64 s1∧s1.length≤2800) (hr:Rn 526 s) (ls:s.length≤76120)
  (k:∀ y4 y5 y6 y7 y8 y9 y10 H',Br a H H'→Lm a H'→D.nx [some (.ref p),some (.ref tx),some (.str kd),some (.int way),y4,y5,y6,y7,y8,y9,y10] H'∧D.ct [some (.ref p),some (.ref tx),some (.str kd),some (.int way),y4,y5,y6,y7,y8,y9,y10] H') :
  zhT K a D [some (.ref p),some (.ref tx),some (.str kd),some (.int way),some (.str s),x5,x6,x7,x8,x9,x10] H:=by
 unfold zhT
 simp_all only [zbU,zbT,zbK,zac]
 have r540:Rn 540 s:=zdH hr (by decide)
 refine ⟨way,s,rfl,hw,L,r540,by omega,fun m rs t w rl ts H1 ew e b L1 ht W=>?_,fun sp ts t v H1 ew e b L1 ht sh=>?_,fun kk t x dx H1 bw b L1 ht hx hd=>?_⟩
 ·refine ⟨t,rfl,_,SqT.of ht,rfl,_,_,rfl,_,_,rfl,rfl,?_⟩
  refine ⟨fun _ _=>False,?_,fun _ _ z=>z.elim⟩
  simp_all only [zbU,zbT,zbK,zac]
  obtain ⟨ew1,G⟩:=zo5 (zdH hr (by decide)) e
  refine ⟨fun σ H'=>zaJ H1 H'∧σ=[some (.ref p),some (.ref tx),some (.str kd),some (.int way),some (.str s),x5,some (.ref w),some .non,x8,x9,x10],?_,?_⟩
  ·unfold zhY
   simp_all only [zcV,zcR,zcT,zbU,zbT,zbK,zac]
   rw [if_pos ew]
   refine ⟨w,rl,ts,m,rs,rfl,W,G,fun H2 s2=>⟨rfl,?_⟩⟩
   rw [ew1,if_neg (fun z=>z rfl),if_neg (by omega)]
   exact s2
  ·rintro σ H2 ⟨s2,rfl⟩
   exact (k _ _ _ _ _ _ _ H2 (b.trans (.same s2)) (L1.same s2)).2
 ·refine ⟨t,rfl,_,SqT.of ht,rfl,_,_,rfl,_,_,rfl,rfl,?_⟩
  refine ⟨fun _ _=>False,?_,fun _ _ z=>z.elim⟩
  cases sh with
  | @tup tt us _ htt lu eu =>
   obtain ⟨u1,u2,rfl⟩:∃ u1 u2,us=[u1,u2]:=by
    match us,lu with
    | [u1,u2],_=>exact ⟨u1,u2,rfl⟩
   have e1:=eu 0 u1 (.str (kdS sp)) rfl rfl
   have e2:=eu 1 u2 (.lst ts) rfl rfl
   cases e1
   simp_all only [zbU,zbT,zbK,zac]
   refine ⟨fun σ H'=>zaJ H1 H'∧σ=[some (.ref p),some (.ref tx),some (.str kd),some (.int way),some (.str s),x5,some (.ref tt),some .non,x8,x9,x10],?_,?_⟩
   ·unfold zhY
    simp_all only [zcV,zcR,zcT,zbU,zbT,zbK,zac]
    rw [if_neg (by omega),if_pos ew]
    refine ⟨_,SqT.of htt,.str (kdS sp),zaV (j:=0) rfl,_,SqT.of htt,u2,zaV (j:=1) rfl,sp,u2,ts,s,rfl,e2,e,r540,by omega,fun H2 s2=>⟨rfl,?_⟩⟩
    rw [if_neg (fun z=>z rfl)]
    exact s2
   ·rintro σ H2 ⟨s2,rfl⟩
    exact (k _ _ _ _ _ _ _ H2 (b.trans (.same s2)) (L1.same s2)).2
 ·refine ⟨t,rfl,_,SqT.of ht,rfl,_,_,rfl,_,_,rfl,rfl,?_⟩
  obtain ⟨kle,knext⟩:=zvW bw
  refine ⟨fun σ H'=>H'=H1∧σ=[some (.ref p),some (.ref tx),some (.str kd),some (.int way),some (.str s),x5,some .non,some (.ref x),x8,x9,x10],?_,?_⟩
  ·simp_all only [zbU,zbT,zbK,zac]
  ·rintro σ H2 ⟨rfl,rfl⟩
   refine ⟨fun σ H'=>zaJ H2 H'∧σ=[some (.ref p),some (.ref tx),some (.str kd),some (.int way),some (.str s),x5,some .non,some (.ref x),x8,x9,x10],?_,?_⟩
   ·unfold zju
    simp_all only [zcV,zcR,zcT,zbU,zbT,zbK,zac]
    refine ⟨x,some dx,rfl,hx,fun H3 s3=>⟨rfl,?_⟩⟩
    rw [if_neg (fun z=>z rfl)]
    refine ⟨_,dx,s3 _ _ hx,_,s3 _ _ hd,xa,.int kk,rfl,kk,rfl,?_⟩
    rw [if_neg (by omega)]
    refine ⟨_,dx,s3 _ _ hx,_,s3 _ _ hd,xa,.int kk,rfl,rfl,kk,rfl,?_⟩
    rw [zog,if_neg (by have:=List.length_pos_iff.mpr (zck s (Str.ofString "\n"));omega)]
    exact s3
   ·rintro σ H3 ⟨s3,rfl⟩
    unfold zi8
    simp_all only [zcV,zcR,zcT,zbU,zbT,zbK,zac]
    refine ⟨rfl,by decide +kernel,by omega,fun p1 hp1=>⟨_,SqL.of zad,fun p2 hp2=>?_⟩⟩
    rw [zjj]
    have mr:∀ r∈Txt.split s (Str.ofString "\n"),Rn 526 r∧10∉sgn r:=fun r h=>by
     rw [zcG] at h
     exact ⟨zdz hr r h,StrLaws.split_free s 10 r h⟩
    have ms:zhc (Txt.split s (Str.ofString "\n"))≤s.length+1:=by
     rw [zcG]
     exact PyProof.Rows.split_weight s ⟨#[10]⟩ (Nat.le_refl 1)
    generalize eR:Txt.split s (Str.ofString "\n")=rows at *
    have edl:(rows.map V.str).dropLast=rows.dropLast.map V.str:=List.map_dropLast.symm
    rw [edl]
    have s4:zaJ H3 (L2.upd (L2.upd H3 p1 (.lst (rows.map V.str))) p2 (.lst (rows.dropLast.map V.str))):=(zah hp1 _).add hp2
    have h4:L2.upd (L2.upd H3 p1 (.lst (rows.map V.str))) p2 (.lst (rows.dropLast.map V.str)) p2=some (.lst (rows.dropLast.map V.str)):=zad
    generalize L2.upd (L2.upd H3 p1 (.lst (rows.map V.str))) p2 (.lst (rows.dropLast.map V.str))=H4 at s4 h4
    have s24:=s3.trans s4
    have bH4:Br a H H4:=b.trans (.same s24)
    have L4:=L1.same s24
    have hx4:=s24 _ _ hx
    have hd4:=s24 _ _ hd
    refine ⟨_,dx,hx4,_,hd4,xa,.int kk,rfl,_,.inl (SqL.of h4),kk,rfl,?_⟩
    rw [List.length_map,List.length_dropLast]
    by_cases c:(kk:Int)<((rows.length - 1:Nat):Int)
    ·rw [if_pos c]
     have tx4:=bH4.get L htx fun _ z=>by cases z
     obtain ⟨so,hso,ro,lo⟩:∃ so,atI [V.str s0,V.str s1] (1 - way)=some (.str so)∧Rn 64 so∧so.length≤2800:=by
      rcases hw with rfl | rfl
      ·exact ⟨s1,rfl,r1⟩
      ·exact ⟨s0,rfl,r0⟩
     refine ⟨_,SqL.of tx4,.str so,hso,rfl,so,rfl,by decide +kernel,by omega,fun p3 hp3=>?_⟩
     have s5:=zah hp3 (.lst ((Txt.split so (Str.ofString "\n")).map V.str))
     have h5:L2.upd H4 p3 (.lst ((Txt.split so (Str.ofString "\n")).map V.str)) p3=some (.lst ((Txt.split so (Str.ofString "\n")).map V.str)):=zad
     generalize L2.upd H4 p3 (.lst ((Txt.split so (Str.ofString "\n")).map V.str))=H5 at s5 h5
     refine ⟨p,ns,_,rfl,s5.seq (bH4.seq L hS),hl,by omega,by omega,fun r4 r40 r41=>?_⟩
     obtain ⟨n4,e4,l4⟩:∃ n:Nat,r4 % 4=(n:Int)∧n≤3:=⟨(r4 % 4).toNat,by omega,by omega⟩
     refine ⟨r4,rfl,by decide,_,SqL.of h5,fun p4 hp4=>?_⟩
     rw [e4,zs2,← List.map_take]
     have mo:∀ r∈(Txt.split so (Str.ofString "\n")).take n4,Rn 526 r∧10∉sgn r:=fun r h=>by
      have h:=List.mem_of_mem_take h
      rw [zcG] at h
      exact ⟨zdH (zdz ro r h) (by decide),StrLaws.split_free so 10 r h⟩
     have mos:zhc ((Txt.split so (Str.ofString "\n")).take n4)≤so.length+1:=by
      refine Nat.le_trans (zhr _ _) ?_
      rw [zcG]
      exact PyProof.Rows.split_weight so ⟨#[10]⟩ (Nat.le_refl 1)
     generalize (Txt.split so (Str.ofString "\n")).take n4=oth at *
     have s6:=zah hp4 (.lst (oth.map V.str))
     have h6:L2.upd H5 p4 (.lst (oth.map V.str)) p4=some (.lst (oth.map V.str)):=zad
     generalize L2.upd H5 p4 (.lst (oth.map V.str))=H6 at s6 h6
     have s46:=s5.trans s6
     refine ⟨rfl,_,dx,s46 _ _ hx4,_,s46 _ _ hd4,xa,.int kk,rfl,kk,rfl,_,SqL.of (s46 _ _ h4),fun p5 hp5=>?_⟩
     rw [show ((kk:Int)+1)=((kk+1:Nat):Int) from rfl,zs2,← List.map_take,zfh rows (by omega)]
     have s7:=zah hp5 (.lst ((rows.take (kk+1)).map V.str))
     have h7:L2.upd H6 p5 (.lst ((rows.take (kk+1)).map V.str)) p5=some (.lst ((rows.take (kk+1)).map V.str)):=zad
     generalize L2.upd H6 p5 (.lst ((rows.take (kk+1)).map V.str))=H7 at s7 h7
     have wX:zhc (rows.take (kk+1)++oth)≤78922:=by
      rw [zhl]
      have:=zhr rows (kk+1)
      omega
     have lX:(rows.take (kk+1)++oth).length≤78922:=by
      unfold zhc at wX
      omega
     have neX:rows.take (kk+1)++oth≠[]:=fun z=>by
      have:=congrArg List.length z
      rw [List.length_append,List.length_take,List.length_nil] at this
      omega
     have fX:∀ r∈rows.take (kk+1)++oth,Rn 526 r∧10∉sgn r:=fun r h=>by
      rcases List.mem_append.mp h with h | h
      ·exact mr r (List.mem_of_mem_take h)
      ·exact mo r h
     refine ⟨_,h7,_,s7 _ _ h6,?_,fun p6 hp6=>?_⟩
     ·rw [← List.length_append,← List.map_append,List.length_map]
      exact zbR (by omega)
     rw [← List.map_append]
     have s8:=s46.trans (s7.trans (zah hp6 (.lst ((rows.take (kk+1)++oth).map V.str))))
     have h8:L2.upd H7 p6 (.lst ((rows.take (kk+1)++oth).map V.str)) p6=some (.lst ((rows.take (kk+1)++oth).map V.str)):=zad
     generalize L2.upd H7 p6 (.lst ((rows.take (kk+1)++oth).map V.str))=H8 at s8 h8
     have bad2:zr4 way (Txt.join (Str.ofString "\n") (rows.take (kk+1)++oth)++Str.ofString "\n") kk:=by
      have:=knext (by omega) (Txt.join (Str.ofString "\n") (rows.take (kk+1)++oth)++Str.ofString "\n") oth (zoZ neX fun r h=>(fX r h).2)
      exact this
     have lJ:(Txt.join (Str.ofString "\n") (rows.take (kk+1)++oth)).length≤78922:=by
      rw [zcG]
      exact Nat.le_trans (zkc 10 _) wX
     have rJ:Rn 540 (Txt.join (Str.ofString "\n") (rows.take (kk+1)++oth)++Str.ofString "\n"):=by
      have:Rn 526 (PySem.Builtin.Str.glued ⟨#[10]⟩ (rows.take (kk+1)++oth)):=by
       rw [StrLaws.glued_eq_join]
       exact zme (.inr rfl) fun r h=>(fX r h).1
      unfold Rn at this ⊢
      rw [zcG,zb3]
      show lr 0 (sgn (PySem.Builtin.Str.glued ⟨#[10]⟩ (rows.take (kk+1)++oth))++10::[])≤540
      rw [zmQ 10 (.inr rfl)]
      show max _ 0≤_
      omega
     have l1:(Str.ofString "\n").length=1:=by decide +kernel
     generalize eT:Txt.join (Str.ofString "\n") (rows.take (kk+1)++oth)=tj at *
     refine ⟨_,SqL.of h8,?_,?_⟩
     ·rw [l1,Nat.mul_one]
      unfold zhc at wX
      exact zbR (by omega)
     rw [eT]
     refine ⟨zbR (by omega),way,tj++Str.ofString "\n",rfl,hw,L4.same s8,rJ,by rw [zaQ];omega,fun m rs t2 w rl ts H9 ew e=>?_,fun sp ts t2 v H9 ew e=>?_,fun k2 t2 x2 dx2 H9 bw2 b9 L9 ht2 hx2 hd2=>?_⟩
     ·rcases bad2 with ⟨_,z⟩ | ⟨z,_⟩
      ·rw [z] at e
       cases e
      ·omega
     ·rcases bad2 with ⟨z,_⟩ | ⟨_,z⟩
      ·omega
      ·rw [z] at e
       cases e
     ·have ek:=bad2.one bw2
      subst ek
      have L8:=L4.same s8
      have hx9:=b9.get L8 (s8 _ _ hx4) fun _ z=>by unfold zfw at z;cases z
      have hd9:=b9.get L8 (s8 _ _ hd4) fun _ z=>by cases z
      refine ⟨t2,rfl,_,SqT.of ht2,.ref x2,zaV (j:=1) rfl,x2,some dx2,rfl,hx2,fun H10 s10=>⟨rfl,?_⟩⟩
      rw [if_neg (fun z=>z rfl)]
      refine ⟨x2,rfl,_,dx2,s10 _ _ hx2,_,s10 _ _ hd2,xa,.int kk,rfl,_,dx,s10 _ _ hx9,_,s10 _ _ hd9,xa,.int kk,rfl,rfl,?_⟩
      rw [if_neg (fun z=>z rfl)]
      exact (k _ _ _ _ _ _ _ H10 (bH4.trans ((Br.same s8).trans (b9.trans (.same s10)))) (L9.same s10)).1
    ·rw [if_neg c]
     exact (k _ _ _ _ _ _ _ H4 bH4 L4).1
theorem zvn {p:Addr} {ns:List Int} (I:Isa K a) (xa:zif K a.c_NoText "row") (hS:SqL K H p (ns.map V.int)) (hl:ns.length≤63) (L:Lm a H) (q:∀ H',Q (.bl true) H') :
  ztO K a { nx:=fun _ H'=>Q .non H',rt:=Q } (L2.zbA ["_law_script","_law_texts","_law_kind","_law_way","_law_text_here","_law_k","_law_told_here","_law_caught","_law_rows","_law_other","_law_again"] [.ref p]) H:=by
 unfold ztO
 simp_all only [zac]
 refine ⟨p,ns,0,8,6,rfl,hS,hl,by decide,by decide,by decide,by decide,by decide,by decide,fun w rl ts m rs H1 s1 W G m8 lr1 lr2=>⟨w,rl,ts,m,rs,rfl,W,⟨by have:=G.m1;omega,by omega⟩,fun r hr=>(G.gr r hr).sm (by omega),by omega,?_⟩⟩
 obtain ⟨rs0,ls0⟩:=zms (m:=m) ⟨by have:=G.m1;omega,by omega⟩ (rs:=rs) fun r hr=>(G.gr r hr).sm (by omega)
 have rs1:Rn 64 (wtx m rs):=rs0.rn (by decide)
 have ls1:(wtx m rs).length≤2800:=by omega
 generalize wtx m rs=s0 at rs1 ls1
 refine ⟨by decide,fun tx htx=>⟨by decide,fun kl hkl=>?_⟩⟩
 have ntk:tx≠kl:=fun z=>by rw [← z,zad] at hkl;cases hkl
 have s2:zaJ H1 (L2.upd (L2.upd H1 tx (.lst [V.str s0])) kl (.lst [V.str (Str.ofString "walk"),V.str (Str.ofString "spread")])):=(zah htx _).add hkl
 have h2t:L2.upd (L2.upd H1 tx (.lst [V.str s0])) kl (.lst [V.str (Str.ofString "walk"),V.str (Str.ofString "spread")]) tx=some (.lst [V.str s0]):=by rw [zal ntk,zad]
 have h2k:L2.upd (L2.upd H1 tx (.lst [V.str s0])) kl (.lst [V.str (Str.ofString "walk"),V.str (Str.ofString "spread")]) kl=some (.lst [V.str (Str.ofString "walk"),V.str (Str.ofString "spread")]):=zad
 generalize L2.upd (L2.upd H1 tx (.lst [V.str s0])) kl (.lst [V.str (Str.ofString "walk"),V.str (Str.ofString "spread")])=H2 at s2 h2t h2k
 have sH2:=s1.trans s2
 refine ⟨p,ns,290,rfl,sH2.seq hS,hl,by decide,by decide,fun rk rk0 rk1=>⟨rk,rfl,by decide,_,SqL.of h2k,?_⟩⟩
 obtain ⟨sp,hsp⟩:∃ sp:Bool,atI [V.str (Str.ofString "walk"),V.str (Str.ofString "spread")] (rk % 2)=some (.str (kdS sp)):=by
  have:rk % 2=0∨rk % 2=1:=by omega
  rcases this with e | e <;> rw [e]
  ·exact ⟨false,rfl⟩
  ·exact ⟨true,rfl⟩
 refine ⟨_,hsp,.inl ⟨rfl,_,SqL.of h2t⟩,p,ns,200,sp,rfl,by decide,by decide,sH2.seq hS,hl,fun r xs H3 s3 h3 lx hx=>⟨sp,r,xs,rfl,h3,lx,hx,fun s1' rs2 ls2=>?_⟩⟩
 have h3t:=s3 _ _ h2t
 refine ⟨_,h3t,zda (show 1<100000 by decide),by decide,by decide,?_⟩
 have hHtx:H tx=none:=s1.free htx
 have s4:zaJ H (L2.upd H3 tx (.lst ([V.str s0]++[V.str s1']))):=(sH2.trans s3).put hHtx
 have h4:L2.upd H3 tx (.lst ([V.str s0]++[V.str s1'])) tx=some (.lst [V.str s0,V.str s1']):=zad
 generalize L2.upd H3 tx (.lst ([V.str s0]++[V.str s1']))=H4 at s4 h4
 have L4:=L.same s4
 have hS4:=s4.seq hS
 refine zcl (fun i σ H'=>Br a H4 H'∧Lm a H'∧∃ x3 x4 x5 x6 x7 x8 x9 x10,σ=[some (.ref p),some (.ref tx),some (.str (kdS sp)),x3,x4,x5,x6,x7,x8,x9,x10]) ⟨.same (.refl _),L4,_,_,_,_,_,_,_,_,rfl⟩ ?_ ?_
 ·rintro i σ H5 hi ⟨b5,L5,x3,x4,x5,x6,x7,x8,x9,x10,rfl⟩
  rw [Int.zero_add]
  have hS5:=b5.seq L4 hS4
  have h5:=b5.get L4 h4 fun _ z=>by cases z
  have hw:(i:Int)=0∨(i:Int)=1:=by omega
  obtain ⟨st,hst,rt,lt⟩:∃ st,atI [V.str s0,V.str s1'] (i:Int)=some (.str st)∧Rn 64 st∧st.length≤2800:=by
   rcases hw with e | e <;> rw [e]
   ·exact ⟨s0,rfl,rs1,ls1⟩
   ·exact ⟨s1',rfl,rs2,ls2⟩
  unfold zlH
  simp_all only [zbK,zac]
  refine ⟨_,SqL.of h5,.str st,hst,p,ns,_,rfl,hS5,hl,by omega,by omega,fun r r0 r1=>⟨r,rfl,by decide,by omega,by omega,?_⟩⟩
  have hn:(1+r % 3).toNat≤3:=by omega
  generalize (1+r % 3).toNat=n at hn
  refine zcl (fun j σ H'=>zaJ H5 H'∧∃ (s:Str) (z5:Option V),((j=0∧Rn 64 s∧s.length≤2800)∨(j=1∧Rn 130 s∧s.length≤8440)∨(j=2∧Rn 262 s∧s.length≤25360)∨(j=3∧Rn 526 s∧s.length≤76120))∧σ=[some (.ref p),some (.ref tx),some (.str (kdS sp)),some (.int (i:Int)),some (.str s),z5,x6,x7,x8,x9,x10]) ⟨.refl _,st,_,.inl ⟨rfl,rt,lt⟩,rfl⟩ ?_ ?_
  ·rintro j σ H6 hj ⟨s6,s,z5,hs,rfl⟩
   rw [Int.zero_add]
   unfold zjc
   simp_all only [zcV,zcR,zcT,zbU,zbT,zbK,zac]
   refine ⟨by decide,by decide,fun D hD=>?_⟩
   refine zlU (fun k ys σ' H'=>zaJ H6 H'∧(∃ ds:List Int,ys=ds.map V.int∧ds.length=k∧∀ d∈ds,0≤d)∧∃ x,σ'=[x,some (.ref p),some (.int (j:Int)),some (.int (i:Int))]) ⟨zah hD _,⟨[],rfl,rfl,fun d h=>by cases h⟩,_,rfl⟩ ?_ ?_
   ·rintro k ys σ' H' hk hD' ⟨s7,⟨ds,rfl,ld,d0⟩,x,rfl⟩
    simp_all only [zcV,zcR,zcT,zbU,zbT,zbK,zac]
    refine ⟨zuV (by decide) (by decide),zuV (by decide) (by decide),p,ns,_,rfl,(s6.trans s7).seq hS5,hl,by omega,by omega,fun r r0 r1=>⟨_,hD',zda (by rw [List.length_map];omega),_,zad,s7.put hD,ds++[r],by rw [List.map_append];rfl,by rw [List.length_append,ld];rfl,fun d hd=>?_⟩⟩
    rcases List.mem_append.mp hd with hd | hd
    ·exact d0 d hd
    ·rw [List.mem_singleton.mp hd]
     exact r0
   ·rintro ys σ' H' hD' ⟨s7,⟨ds,rfl,ld,d0⟩,x,rfl⟩
    obtain ⟨Lb,hL⟩:∃ L,10≤L∧Rn L s∧s.length≤30000∧∀ s':Str,Rn (2*L+2) s'→s'.length≤3*s.length+40→(False∧Rn 64 s'∧s'.length≤2800∨j+1=1∧Rn 130 s'∧s'.length≤8440∨j+1=2∧Rn 262 s'∧s'.length≤25360∨j+1=3∧Rn 526 s'∧s'.length≤76120):=by
     rcases hs with ⟨h0,h1,h2⟩ | ⟨h0,h1,h2⟩ | ⟨h0,h1,h2⟩ | ⟨h0,h1,h2⟩
     ·exact ⟨64,by decide,h1,by omega,fun s' r l=>.inr (.inl ⟨by omega,r,by omega⟩)⟩
     ·exact ⟨130,by decide,h1,by omega,fun s' r l=>.inr (.inr (.inl ⟨by omega,r,by omega⟩))⟩
     ·exact ⟨262,by decide,h1,by omega,fun s' r l=>.inr (.inr (.inr ⟨by omega,r,by omega⟩))⟩
     ·omega
    exact ⟨s,D,ds,Lb,rfl,hD',ld,d0,hL.1,hL.2.1,hL.2.2.1,fun s' H3 s4 r l=>⟨s6.trans (s7.trans s4),s',hL.2.2.2 s' r l,rfl⟩⟩
  ·rintro σ H6 ⟨s6,s,z5,hs,rfl⟩
   have hr:Rn 526 s∧s.length≤76120:=by
    rcases hs with ⟨_,h1,h2⟩ | ⟨_,h1,h2⟩ | ⟨_,h1,h2⟩ | ⟨_,h1,h2⟩
    ·exact ⟨zdH h1 (by decide),by omega⟩
    ·exact ⟨zdH h1 (by decide),by omega⟩
    ·exact ⟨zdH h1 (by decide),by omega⟩
    ·exact ⟨h1,h2⟩
   refine zux I xa (s6.seq hS5) hl (L5.same s6) hw (s6 _ _ h5) ⟨rs1,ls1⟩ ⟨rs2,ls2⟩ hr.1 hr.2 fun y4 y5 y6 y7 y8 y9 y10 H7 b7 L7=>?_
   have b47:Br a H4 H7:=b5.trans ((Br.same s6).trans b7)
   exact ⟨⟨b47,L7,_,_,_,_,_,_,_,_,rfl⟩,⟨b47,L7,_,_,_,_,_,_,_,_,rfl⟩⟩
 ·rintro σ H5 ⟨b5,L5,x3,x4,x5,x6,x7,x8,x9,x10,rfl⟩
  simp_all only [zcV,zcR,zcT,zbU,zbT,zbK,zac]
  exact q H5
theorem zee:zaK ["_law_script","_law_texts","_law_kind","_law_way","_law_text_here","_law_k","_law_told_here","_law_caught","_law_rows","_law_other","_law_again"] ["_law_script"] (zam zqh):=⟨rfl,rfl,rfl,by decide +kernel,rfl,by decide +kernel,by decide +kernel⟩
theorem zv6 (T:Txt K mg base a):zc8 P w K mg base CX0 10 a.f_law a.d_law ["_law_script"] (zrv K a.p_lam a.p_lam2):=by
 have G__law_bent:=zj8 (P:=P) (w:=w) (base:=base) T
 have G__law_class:=zjr (P:=P) (w:=w) (base:=base) T
 have G__law_mixed:=zd0 (P:=P) (w:=w) (base:=base) T
 have G__law_paper:=ziU (P:=P) (w:=w) (base:=base) T
 have G__law_paper_text:=zfX (P:=P) (w:=w) (base:=base) T
 have G__law_text:=zkG (P:=P) (w:=w) (base:=base) T
 have G__law_told:=zkg (P:=P) (w:=w) (base:=base) T
 have G__law_web:=zlS (P:=P) (w:=w) (base:=base) T
 have G_paper_text:=ziP (P:=P) (w:=w) (base:=base) T
 have G_web_text:=zly (P:=P) (w:=w) (base:=base) T
 refine T.F_law.ok zee (fun vs H Q E h=>?_) (fun cdv A outer s H vs Q E hr h=>?_)
 ·obtain ⟨p,ns,rfl,hS,hl,hb,hP,hP2,q⟩:=h
  rfl
 obtain ⟨p,ns,rfl,hS,hl,hb,hP,hP2,q⟩:=h
 exact ⟨ztO K a,(zaf (zas (i:=1) zee.nd rfl (Or.inl rfl) (zbN (zaa (zau G__law_text (hr.mono (by decide)) rfl T.m__law_text T.F__law_text.kp T.b__law_text .nil za8 (zaa (zau G__law_web (hr.mono (by decide)) rfl T.m__law_web T.F__law_web.kp T.b__law_web .nil za8 (zaa (pv 0) (zaa zag (zaa zag (zaa zag zae))))) zae)) zae)))
 (zaf (zas (i:=2) zee.nd rfl (Or.inl rfl) (zbO zaX (zbN (zaa zay (zaa zay zae))) (zan za4 (zau G__law_mixed (hr.mono (by decide)) rfl T.m__law_mixed T.F__law_mixed.kp T.b__law_mixed .nil za8 (zaa (pv 0) (zaa zag zae))) zag) (fun _ _=>rfl)))
 (zaf (zcq (zcw PySem.F.plainAttrs_list PySem.F.slot_list_append PySem.F.type_list_append zcN (pv 1) (zaa (zau G__law_paper_text (hr.mono (by decide)) rfl T.m__law_paper_text T.F__law_paper_text.kp T.b__law_paper_text .nil za8 (zaa (pv 2) (zaa (zau G__law_paper (hr.mono (by decide)) rfl T.m__law_paper T.F__law_paper.kp T.b__law_paper .nil za8 (zaa (pv 0) (zaa zag (zaa (pv 2) zae)))) zae))) zae)))
 (zaf (zc6 PassesOwn.never rfl (zcJ rfl T.z_range (zaa zag zae)) (zaG (i:=3) zee.nd rfl (Or.inr rfl))
 (zaf (zas (i:=4) zee.nd rfl (Or.inl rfl) (zbO zaX (pv 1) (pv 3) (fun _ _=>rfl)))
 (zaf (zc6 PassesOwn.never rfl (zcJ rfl T.z_range (zaa (zan za0 zag (zan za4 (zau G__law_mixed (hr.mono (by decide)) rfl T.m__law_mixed T.F__law_mixed.kp T.b__law_mixed .nil za8 (zaa (pv 0) (zaa (zan za0 zag (pv 3)) zae))) zag)) zae)) (zaG (i:=5) zee.nd rfl (Or.inr rfl))
 (zaj (zas (i:=4) zee.nd rfl (Or.inl rfl) (zau G__law_bent (hr.mono (by decide)) rfl T.m__law_bent T.F__law_bent.kp T.b__law_bent .nil za8 (zaa (pv 4) (zaa (zh5 (sc:=zam zqh) (N:=["_law_script","_law_texts","_law_kind","_law_way","_law_text_here","_law_k","_law_told_here","_law_caught","_law_rows","_law_other","_law_again"]) (Nc:=["_law_j","_law_script","_law_k","_law_way"]) (cap:=[none,some 0,some 5,some 3]) rfl rfl rfl (.of (by decide +kernel)) (zcJ rfl T.z_range (zaa zag zae)) (fun _ _ _ _=>(zaG (i:=0) (show List.Nodup (["_law_j","_law_script","_law_k","_law_way"]:List Str) from by decide) rfl (Or.inl rfl))) (fun _ _ _ _=>zfB) (fun _ _ _ _=>(zau G__law_mixed (hr.mono (by decide)) rfl T.m__law_mixed T.F__law_mixed.kp T.b__law_mixed .nil za8 (zaa (pv 1) (zaa (zan za0 (zan za0 (zan za0 zag (zan zew zag (pv 3))) (zan zew zag (pv 2))) (pv 0)) zae))))) zae))))))
 (zaf (zkH (zau G__law_told (hr.mono (by decide)) rfl T.m__law_told T.F__law_told.kp T.b__law_told .nil za8 (zaa (pv 3) (zaa (pv 4) zae))) (zdV rfl (zaO (zaG (i:=6) zee.nd rfl (Or.inl rfl)) (zaO (zaG (i:=7) zee.nd rfl (Or.inl rfl)) zcX))))
 (zaf (zbQ (zb8 (zat zgV (pv 7) zco (zaL _)) (zaf (zbQ (zb8 (PW.pt (zdJ (PW.pt (zkq (zat zej (pv 3) zag (zaL _)) (zh6 (zat zeq (zau G_web_text (hr.mono (by decide)) rfl T.m_web_text T.F_web_text.kp T.b_web_text .nil za8 (zaa (pv 6) zae)) (pv 4) (zaL _))))) (zdg (PW.pt (zkq (zat zej (pv 3) zag (zaL _)) (zh6 (zat zeq (zau G_paper_text (hr.mono (by decide)) rfl T.m_paper_text T.F_paper_text.kp T.b_paper_text .nil za8 (zaa (zbO zfi (pv 6) zag (fun _ _=>rfl)) (zaa (zbO zfi (pv 6) zag (fun _ _=>rfl)) zae))) (pv 4) (zaL _)))))))) (zaj (zaN zia)) zaT))
 (zaj zlW)) zaT))
 (zaf (zbQ (zb8 (PW.pt (zdJ (zat zeq (zau G__law_class (hr.mono (by decide)) rfl T.m__law_class T.F__law_class.kp T.b__law_class .nil za8 (zaa (pv 7) zae)) zag (zaL _)) (zdJ (zat zlK (zgC (pv 7) rfl) zag (zaL _)) (zdg (zat zrb (zgC (pv 7) rfl) (zcw PySem.F.plainAttrs_str PySem.F.slot_str_count PySem.F.type_str_count zo9 (pv 4) (zaa zay zae)) (zaL _)))))) (zaj (zaN zia)) zaT))
 (zaf (zas (i:=8) zee.nd rfl (Or.inl rfl) (zbc zcr (zcw PySem.F.plainAttrs_str PySem.F.slot_str_split PySem.F.type_str_split zdi (pv 4) (zaa zay zae)) zbH (zbJ (zjz zgc zag))))
 (zaj (zb8 (zat zlK (zgC (pv 7) rfl) (zaq zaF rfl T.z_len PySem.boot_len (zaa (pv 8) zae)) (zaL _)) (zaf (zas (i:=9) zee.nd rfl (Or.inl rfl) (zbc zcr (zcw PySem.F.plainAttrs_str PySem.F.slot_str_split PySem.F.type_str_split zdi (zbO zaX (pv 1) (zan zgU zag (pv 3)) (fun _ _=>rfl)) (zaa zay zae)) zbH (zbJ (zan za4 (zau G__law_mixed (hr.mono (by decide)) rfl T.m__law_mixed T.F__law_mixed.kp T.b__law_mixed .nil za8 (zaa (pv 0) (zaa (zan za0 zag (pv 3)) zae))) zag))))
 (zaf (zas (i:=10) zee.nd rfl (Or.inl rfl) (zbO zfi (zau G__law_told (hr.mono (by decide)) rfl T.m__law_told T.F__law_told.kp T.b__law_told .nil za8 (zaa (pv 3) (zaa (zan zbl (zcw PySem.F.plainAttrs_str PySem.F.slot_str_join PySem.F.type_str_join zfr zay (zaa (zan zc5 (zbc zcr (pv 8) zbH (zbJ (zan za0 (zgC (pv 7) rfl) zag))) (pv 9)) zae)) zay) zae))) zag (fun _ _=>rfl)))
 (zaj (zb8 (PW.pt (zdJ (zat zeq (zau G__law_class (hr.mono (by decide)) rfl T.m__law_class T.F__law_class.kp T.b__law_class .nil za8 (zaa (pv 10) zae)) zag (zaL _)) (zdg (zat zeq (zgC (pv 10) rfl) (zgC (pv 7) rfl) (zaL _))))) (zaj (zaN zia)) zaT)))) zaT)))))))))
 (zaj (zaN zia)))))),
  zvn T.I T.xa_NoText hS hl ⟨hP,hP2⟩ q⟩
end
theorem zqH {us:List Value} {n:Nat} (h:us.length=n+1):∃ a t,us=a::t∧t.length=n:=by
 cases us with
 | nil=>cases h
 | cons a t=>exact ⟨a,t,rfl,Nat.succ.inj h⟩
theorem zk9 {us:List Value} (h:us.length=1):∃ a0,us=[a0]:=by
 obtain ⟨a0,u0,rfl,h0⟩:=zqH h
 cases List.eq_nil_of_length_eq_zero h0
 exact ⟨a0,rfl⟩
theorem zmX {us:List Value} (h:us.length=2):∃ a0,∃ a1,us=[a0,a1]:=by
 obtain ⟨a0,u0,rfl,h0⟩:=zqH h
 obtain ⟨a1,u1,rfl,h1⟩:=zqH h0
 cases List.eq_nil_of_length_eq_zero h1
 exact ⟨a0,a1,rfl⟩
theorem lst3 {us:List Value} (h:us.length=3):∃ a0,∃ a1,∃ a2,us=[a0,a1,a2]:=by
 obtain ⟨a0,u0,rfl,h0⟩:=zqH h
 obtain ⟨a1,u1,rfl,h1⟩:=zqH h0
 obtain ⟨a2,u2,rfl,h2⟩:=zqH h1
 cases List.eq_nil_of_length_eq_zero h2
 exact ⟨a0,a1,a2,rfl⟩
theorem lst4 {us:List Value} (h:us.length=4):∃ a0,∃ a1,∃ a2,∃ a3,us=[a0,a1,a2,a3]:=by
 obtain ⟨a0,u0,rfl,h0⟩:=zqH h
 obtain ⟨a1,u1,rfl,h1⟩:=zqH h0
 obtain ⟨a2,u2,rfl,h2⟩:=zqH h1
 obtain ⟨a3,u3,rfl,h3⟩:=zqH h2
 cases List.eq_nil_of_length_eq_zero h3
 exact ⟨a0,a1,a2,a3,rfl⟩
structure Txm (K:PySem.W.Frag) (mg:Str→Option Value) (a:Ad):Prop where
 m:mg "law"=some (.ref a.f_law)
 F:Fun K "law" "law" zqh a.f_law a.d_law
 p:a.p_lam=402
 p2:a.p_lam2=409
 T:∀ base:Heap,PySem.W.CodeHd base 406 402→base.BuiltinsAt mg 402→PySem.W.CodeHd base 413 409→base.BuiltinsAt mg 409→Txt (zbb 409 (zbb 402 K)) mg base a
theorem zvd {K:PySem.W.Frag} {mg:Str→Option Value} (hP:K.lookup 402=some (PySem.W.tabObj #[])) (hP2:K.lookup 409=some (PySem.W.tabObj #[]))
  {f0 f1 f2 f3 f4 f5 f6 f7 f8 f9 f10 f11 f12 f13 f14 f15 f16 f17 f18 f19 f20 f21 f22 f23 f24 f25 f26 f27 f28 f29 f30 f31:Addr} {d0 d1 d2 d3 d4 d5 d6 d7 d8 d9 d10 d11 d12 d13 d14 d15 d16 d17 d18 d19 d20 d21 d22 d23 d24 d25 d26 d27 d28 d29 d30 d31:FuncData}
  {c_HideError c_NoNumber c_NoTable c_NoBoxes c_NoBudget c_NoOrder c_NoWeights c_TooGreat c_NoKind c_NoTree c_NoTurns c_NoPlay c_NoRow c_NoName c_NoRoad c_NoWeb c_NoPlan c_NoText c_NoPaper:Addr}
  (F0:Fun K "is_whole" "is_whole" zgN f0 d0) (m0:mg "is_whole"=some (.ref f0))
  (F1:Fun K "is_within" "is_within" zfN f1 d1) (m1:mg "is_within"=some (.ref f1))
  (F2:Fun K "is_road" "is_road" zh4 f2 d2) (m2:mg "is_road"=some (.ref f2))
  (F3:Fun K "places_come_to" "places_come_to" zc9 f3 d3) (m3:mg "places_come_to"=some (.ref f3))
  (F4:Fun K "look_web" "look_web" zgF f4 d4) (m4:mg "look_web"=some (.ref f4))
  (F5:Fun K "look_kind" "look_kind" zfT f5 d5) (m5:mg "look_kind"=some (.ref f5))
  (F6:Fun K "web_rows" "web_rows" ze8 f6 d6) (m6:mg "web_rows"=some (.ref f6))
  (F7:Fun K "thing_text" "thing_text" zeF f7 d7) (m7:mg "thing_text"=some (.ref f7))
  (F8:Fun K "paper_rows" "paper_rows" zdy f8 d8) (m8:mg "paper_rows"=some (.ref f8))
  (F9:Fun K "text_of" "text_of" zf0 f9 d9) (m9:mg "text_of"=some (.ref f9))
  (F10:Fun K "web_text" "web_text" zgQ f10 d10) (m10:mg "web_text"=some (.ref f10))
  (F11:Fun K "paper_text" "paper_text" zeQ f11 d11) (m11:mg "paper_text"=some (.ref f11))
  (F12:Fun K "number_in" "number_in" zd2 f12 d12) (m12:mg "number_in"=some (.ref f12))
  (F13:Fun K "numbers_in" "numbers_in" zdA f13 d13) (m13:mg "numbers_in"=some (.ref f13))
  (F14:Fun K "thing_in" "thing_in" zgp f14 d14) (m14:mg "thing_in"=some (.ref f14))
  (F15:Fun K "plan_in" "plan_in" zf5 f15 d15) (m15:mg "plan_in"=some (.ref f15))
  (F16:Fun K "many_in" "many_in" zhX f16 d16) (m16:mg "many_in"=some (.ref f16))
  (F17:Fun K "road_in" "road_in" zhq f17 d17) (m17:mg "road_in"=some (.ref f17))
  (F18:Fun K "share_in" "share_in" zgA f18 d18) (m18:mg "share_in"=some (.ref f18))
  (F19:Fun K "read_rows" "read_rows" zfs f19 d19) (m19:mg "read_rows"=some (.ref f19))
  (F20:zom K "read_web" "read_web" ze9 f20 d20 406) (m20:mg "read_web"=some (.ref f20))
  (F21:zom K "read_paper" "read_paper" zdC f21 d21 413) (m21:mg "read_paper"=some (.ref f21))
  (F22:Fun K "_law_mixed" "_law_mixed" zeJ f22 d22) (m22:mg "_law_mixed"=some (.ref f22))
  (F23:Fun K "_law_class" "_law_class" zer f23 d23) (m23:mg "_law_class"=some (.ref f23))
  (F24:Fun K "_law_length" "_law_length" zea f24 d24) (m24:mg "_law_length"=some (.ref f24))
  (F25:Fun K "_law_web" "_law_web" zgx f25 d25) (m25:mg "_law_web"=some (.ref f25))
  (F26:Fun K "_law_text" "_law_text" zfz f26 d26) (m26:mg "_law_text"=some (.ref f26))
  (F27:Fun K "_law_paper" "_law_paper" zeP f27 d27) (m27:mg "_law_paper"=some (.ref f27))
  (F28:Fun K "_law_paper_text" "_law_paper_text" zcW f28 d28) (m28:mg "_law_paper_text"=some (.ref f28))
  (F29:Fun K "_law_bent" "_law_bent" zfx f29 d29) (m29:mg "_law_bent"=some (.ref f29))
  (F30:Fun K "_law_told" "_law_told" zfM f30 d30) (m30:mg "_law_told"=some (.ref f30))
  (F31:Fun K "law" "law" zqh f31 d31) (m31:mg "law"=some (.ref f31))
  (z_isinstance:mg "isinstance"=none)
  (z_int:mg "int"=none)
  (z_bool:mg "bool"=none)
  (z_list:mg "list"=none)
  (z_len:mg "len"=none)
  (z_all:mg "all"=none)
  (z_range:mg "range"=none)
  (z_tuple:mg "tuple"=none)
  (z_str:mg "str"=none)
  (z_enumerate:mg "enumerate"=none)
  (z_min:mg "min"=none)
  (z_ValueError:mg "ValueError"=none)
  (ac_HideError:mg "HideError"=some (.ref c_HideError))
  (ac_NoNumber:mg "NoNumber"=some (.ref c_NoNumber))
  (ac_NoTable:mg "NoTable"=some (.ref c_NoTable))
  (ac_NoBoxes:mg "NoBoxes"=some (.ref c_NoBoxes))
  (ac_NoBudget:mg "NoBudget"=some (.ref c_NoBudget))
  (ac_NoOrder:mg "NoOrder"=some (.ref c_NoOrder))
  (ac_NoWeights:mg "NoWeights"=some (.ref c_NoWeights))
  (ac_TooGreat:mg "TooGreat"=some (.ref c_TooGreat))
  (ac_NoKind:mg "NoKind"=some (.ref c_NoKind))
  (ac_NoTree:mg "NoTree"=some (.ref c_NoTree))
  (ac_NoTurns:mg "NoTurns"=some (.ref c_NoTurns))
  (ac_NoPlay:mg "NoPlay"=some (.ref c_NoPlay))
  (ac_NoRow:mg "NoRow"=some (.ref c_NoRow))
  (ac_NoName:mg "NoName"=some (.ref c_NoName))
  (ac_NoRoad:mg "NoRoad"=some (.ref c_NoRoad))
  (ac_NoWeb:mg "NoWeb"=some (.ref c_NoWeb))
  (ac_NoPlan:mg "NoPlan"=some (.ref c_NoPlan))
  (ac_NoText:mg "NoText"=some (.ref c_NoText))
  (ac_NoPaper:mg "NoPaper"=some (.ref c_NoPaper))
  {k_MOST_PLACES:PySem.Tok} (ak_MOST_PLACES:mg "MOST_PLACES"=some (.int 60 k_MOST_PLACES))
  {k_MOST_ROADS:PySem.Tok} (ak_MOST_ROADS:mg "MOST_ROADS"=some (.int 120 k_MOST_ROADS))
  {k_MOST_LENGTH:PySem.Tok} (ak_MOST_LENGTH:mg "MOST_LENGTH"=some (.int 1000000 k_MOST_LENGTH))
  {k_MOST_FIGURES:PySem.Tok} (ak_MOST_FIGURES:mg "MOST_FIGURES"=some (.int 2000 k_MOST_FIGURES))
  {k_FIGURES:PySem.Tok} (ak_FIGURES:mg "FIGURES"=some (.str "0123456789" k_FIGURES))
  {t_KINDS:Addr} (at_KINDS:mg "KINDS"=some (.ref t_KINDS)) {tk0_KINDS:Tok} {tk1_KINDS:Tok} {od_KINDS:Option Addr} {n_KINDS:Nat} {sl_KINDS:Array (Option Value)} (lt_KINDS:K.lookup t_KINDS=some ⟨.type "tuple",od_KINDS,.seq #[.str "walk" tk0_KINDS,.str "spread" tk1_KINDS] n_KINDS,sl_KINDS⟩)
  (xc_HideError:PySem.W.excIn K c_HideError zfA "ValueError.__new__"=true)
  (xc_NoKind:PySem.W.excIn K c_NoKind zfA "ValueError.__new__"=true)
  (vsg:PySem.W.specialIn K (.ref c_HideError) "__getattribute__"=some (some (.builtin "type.__getattribute__")))
  (vrd:PySem.W.readsIn K c_HideError (.type "type")=true)
  (vfc:PySem.W.findCls K (.ref c_HideError) (.type "type") "__init__"=some (.val (.builtin "ValueError.__init__")))
  {i_NoWeb:Addr} (vin_NoWeb:PySem.W.findIn K (.ref c_NoWeb) "__init__"=some (some (.ref i_NoWeb)))
  {voc_NoWeb vkV_NoWeb vdc_NoWeb vpm_NoWeb vcd_NoWeb vct_NoWeb:Value} {vod_NoWeb van_NoWeb:Option Addr} {vsl_NoWeb:Array (Option Value)} (vl_NoWeb:K.lookup i_NoWeb=some ⟨voc_NoWeb,vod_NoWeb,.func (PySem.W.fnOf "__init__" "NoWeb.__init__" (zdu zdh) (zca zdh) (zam zdh) .none vkV_NoWeb vdc_NoWeb vpm_NoWeb van_NoWeb vcd_NoWeb vct_NoWeb),vsl_NoWeb⟩)
  (vc_NoWeb:PySem.W.codeIn K vcd_NoWeb "NoWeb.__init__"=true)
  (vk_NoWeb:PySem.W.keepIn K (.ref i_NoWeb)=true)
  {vnm_NoWeb vq_NoWeb:Str} {vN_NoWeb:Addr} {vbs_NoWeb vbm_NoWeb:List Value} {vsn_NoWeb:List Str} {vsub_NoWeb:List Value} {vab_NoWeb:Bool} {vcol_NoWeb:Option Bool} {vdd_NoWeb:Option Addr} {v0_NoWeb v1_NoWeb v2_NoWeb v3_NoWeb v5_NoWeb:Option Value} (vlk_NoWeb:K.lookup c_NoWeb=some (excClassObj vnm_NoWeb vq_NoWeb c_NoWeb vN_NoWeb vbs_NoWeb vbm_NoWeb true vsn_NoWeb vsub_NoWeb vab_NoWeb vcol_NoWeb vdd_NoWeb v0_NoWeb v1_NoWeb v2_NoWeb v3_NoWeb v5_NoWeb "ValueError.__new__"))
  (vtl_NoWeb:PySem.W.tailIn K zfA vbm_NoWeb=true)
  (vfn_NoWeb:PySem.W.isFn K (.ref i_NoWeb)=true)
  (vkp_NoWeb:PySem.W.keepIn K (.ref c_NoWeb)=true)
  (vmo_NoWeb:PySem.W.mroIn K c_NoWeb (.type "object")=some true)
  (vsa_NoWeb:PySem.W.findIn K (.ref c_NoWeb) "__setattr__"=some (some (.builtin "object.__setattr__")))
  (vga_NoWeb:PySem.W.findIn K (.ref c_NoWeb) "__getattribute__"=some (some (.builtin "BaseException.__getattribute__")))
  (vgn_NoWeb:PySem.W.findIn K (.ref c_NoWeb) "__getattr__"=some none)
  (vcl_NoWeb:PySem.W.findIn K (.ref c_NoWeb) "__class__"=some (some (.builtin "object.__class__")))
  (vmb_NoWeb:PySem.W.mroIn K c_NoWeb (.type "BaseException")=some true)
  (vhd_NoWeb:PySem.W.hasDictIn K c_NoWeb=true)
  (vna_NoWeb:PySem.W.findIn K (.ref c_NoWeb) "road"=some none)
  {i_NoText:Addr} (vin_NoText:PySem.W.findIn K (.ref c_NoText) "__init__"=some (some (.ref i_NoText)))
  {voc_NoText vkV_NoText vdc_NoText vpm_NoText vcd_NoText vct_NoText:Value} {vod_NoText van_NoText:Option Addr} {vsl_NoText:Array (Option Value)} (vl_NoText:K.lookup i_NoText=some ⟨voc_NoText,vod_NoText,.func (PySem.W.fnOf "__init__" "NoText.__init__" (zdu zcM) (zca zcM) (zam zcM) .none vkV_NoText vdc_NoText vpm_NoText van_NoText vcd_NoText vct_NoText),vsl_NoText⟩)
  (vc_NoText:PySem.W.codeIn K vcd_NoText "NoText.__init__"=true)
  (vk_NoText:PySem.W.keepIn K (.ref i_NoText)=true)
  {vnm_NoText vq_NoText:Str} {vN_NoText:Addr} {vbs_NoText vbm_NoText:List Value} {vsn_NoText:List Str} {vsub_NoText:List Value} {vab_NoText:Bool} {vcol_NoText:Option Bool} {vdd_NoText:Option Addr} {v0_NoText v1_NoText v2_NoText v3_NoText v5_NoText:Option Value} (vlk_NoText:K.lookup c_NoText=some (excClassObj vnm_NoText vq_NoText c_NoText vN_NoText vbs_NoText vbm_NoText true vsn_NoText vsub_NoText vab_NoText vcol_NoText vdd_NoText v0_NoText v1_NoText v2_NoText v3_NoText v5_NoText "ValueError.__new__"))
  (vtl_NoText:PySem.W.tailIn K zfA vbm_NoText=true)
  (vfn_NoText:PySem.W.isFn K (.ref i_NoText)=true)
  (vkp_NoText:PySem.W.keepIn K (.ref c_NoText)=true)
  (vmo_NoText:PySem.W.mroIn K c_NoText (.type "object")=some true)
  (vsa_NoText:PySem.W.findIn K (.ref c_NoText) "__setattr__"=some (some (.builtin "object.__setattr__")))
  (vga_NoText:PySem.W.findIn K (.ref c_NoText) "__getattribute__"=some (some (.builtin "BaseException.__getattribute__")))
  (vgn_NoText:PySem.W.findIn K (.ref c_NoText) "__getattr__"=some none)
  (vcl_NoText:PySem.W.findIn K (.ref c_NoText) "__class__"=some (some (.builtin "object.__class__")))
  (vmb_NoText:PySem.W.mroIn K c_NoText (.type "BaseException")=some true)
  (vhd_NoText:PySem.W.hasDictIn K c_NoText=true)
  (vna_NoText:PySem.W.findIn K (.ref c_NoText) "row"=some none)
  (su_NoWeb:PySem.W.subIn K (.ref c_NoWeb) (.ref c_NoWeb)=some true)
  (i_k_NoNumber:PySem.W.kitOne K (.ref c_NoText) (.ref c_NoNumber)=some false)
  (i_k_NoTable:PySem.W.kitOne K (.ref c_NoText) (.ref c_NoTable)=some false)
  (i_k_NoBoxes:PySem.W.kitOne K (.ref c_NoText) (.ref c_NoBoxes)=some false)
  (i_k_NoBudget:PySem.W.kitOne K (.ref c_NoText) (.ref c_NoBudget)=some false)
  (i_k_NoOrder:PySem.W.kitOne K (.ref c_NoText) (.ref c_NoOrder)=some false)
  (i_k_NoWeights:PySem.W.kitOne K (.ref c_NoText) (.ref c_NoWeights)=some false)
  (i_k_TooGreat:PySem.W.kitOne K (.ref c_NoText) (.ref c_TooGreat)=some false)
  (i_k_NoKind:PySem.W.kitOne K (.ref c_NoText) (.ref c_NoKind)=some false)
  (i_k_NoTree:PySem.W.kitOne K (.ref c_NoText) (.ref c_NoTree)=some false)
  (i_k_NoTurns:PySem.W.kitOne K (.ref c_NoText) (.ref c_NoTurns)=some false)
  (i_k_NoPlay:PySem.W.kitOne K (.ref c_NoText) (.ref c_NoPlay)=some false)
  (i_k_NoRow:PySem.W.kitOne K (.ref c_NoText) (.ref c_NoRow)=some false)
  (i_k_NoName:PySem.W.kitOne K (.ref c_NoText) (.ref c_NoName)=some false)
  (i_k_NoRoad:PySem.W.kitOne K (.ref c_NoText) (.ref c_NoRoad)=some false)
  (i_k_NoWeb:PySem.W.kitOne K (.ref c_NoText) (.ref c_NoWeb)=some false)
  (i_k_NoPlan:PySem.W.kitOne K (.ref c_NoText) (.ref c_NoPlan)=some false)
  (i_k_NoText:PySem.W.kitOne K (.ref c_NoText) (.ref c_NoText)=some true)
  (i_k_NoPaper:PySem.W.kitOne K (.ref c_NoText) (.ref c_NoPaper)=some false)
  (i_k_ValueError:PySem.W.kitOne K (.ref c_NoText) (.type "ValueError")=some true)
  (i_sub:PySem.W.subIn K (.ref c_NoText) (.ref c_HideError)=some true)
  (e_ga:PySem.W.findIn K (.ref c_NoText) "__getattribute__"=some (some (.builtin "BaseException.__getattribute__")))
  (e_gn:PySem.W.findIn K (.ref c_NoText) "__getattr__"=some none)
  (e_cl:PySem.W.findIn K (.ref c_NoText) "__class__"=some (some (.builtin "object.__class__")))
  (e_mb:PySem.W.mroIn K c_NoText (.type "BaseException")=some true)
  (e_mo:PySem.W.mroIn K c_NoText (.type "object")=some true)
  : Txm K mg ⟨f0,d0,f1,d1,f2,d2,f3,d3,f4,d4,f5,d5,f6,d6,f7,d7,f8,d8,f9,d9,f10,d10,f11,d11,f12,d12,f13,d13,f14,d14,f15,d15,f16,d16,f17,d17,f18,d18,f19,d19,f20,d20,f21,d21,f22,d22,f23,d23,f24,d24,f25,d25,f26,d26,f27,d27,f28,d28,f29,d29,f30,d30,f31,d31,c_HideError,c_NoNumber,c_NoTable,c_NoBoxes,c_NoBudget,c_NoOrder,c_NoWeights,c_TooGreat,c_NoKind,c_NoTree,c_NoTurns,c_NoPlay,c_NoRow,c_NoName,c_NoRoad,c_NoWeb,c_NoPlan,c_NoText,c_NoPaper,i_NoWeb,PySem.W.fnOf "__init__" "NoWeb.__init__" (zdu zdh) (zca zdh) (zam zdh) .none vkV_NoWeb vdc_NoWeb vpm_NoWeb van_NoWeb vcd_NoWeb vct_NoWeb,i_NoText,PySem.W.fnOf "__init__" "NoText.__init__" (zdu zcM) (zca zcM) (zam zcM) .none vkV_NoText vdc_NoText vpm_NoText van_NoText vcd_NoText vct_NoText,k_MOST_PLACES,k_MOST_ROADS,k_MOST_LENGTH,k_MOST_FIGURES,k_FIGURES,t_KINDS,402,409,406,413⟩:=by
 have hQ:(zbb 402 K).lookup 409=some (PySem.W.tabObj #[]):=(zaM (by decide)).trans hP2
 have G0:=zap hQ (zap hP F0)
 have G1:=zap hQ (zap hP F1)
 have G2:=zap hQ (zap hP F2)
 have G3:=zap hQ (zap hP F3)
 have G4:=zap hQ (zap hP F4)
 have G5:=zap hQ (zap hP F5)
 have G6:=zap hQ (zap hP F6)
 have G7:=zap hQ (zap hP F7)
 have G8:=zap hQ (zap hP F8)
 have G9:=zap hQ (zap hP F9)
 have G10:=zap hQ (zap hP F10)
 have G11:=zap hQ (zap hP F11)
 have G12:=zap hQ (zap hP F12)
 have G13:=zap hQ (zap hP F13)
 have G14:=zap hQ (zap hP F14)
 have G15:=zap hQ (zap hP F15)
 have G16:=zap hQ (zap hP F16)
 have G17:=zap hQ (zap hP F17)
 have G18:=zap hQ (zap hP F18)
 have G19:=zap hQ (zap hP F19)
 have G20:=((F20).drop hP).drop hQ
 have G21:=((F21).drop hP).drop hQ
 have G22:=zap hQ (zap hP F22)
 have G23:=zap hQ (zap hP F23)
 have G24:=zap hQ (zap hP F24)
 have G25:=zap hQ (zap hP F25)
 have G26:=zap hQ (zap hP F26)
 have G27:=zap hQ (zap hP F27)
 have G28:=zap hQ (zap hP F28)
 have G29:=zap hQ (zap hP F29)
 have G30:=zap hQ (zap hP F30)
 have G31:=zap hQ (zap hP F31)
 have VF_NoWeb:=zap hQ (zap hP (zbB (st:=zdh) vl_NoWeb vc_NoWeb vk_NoWeb))
 have vb_NoWeb:=VF_NoWeb.binds (ps:=["self","road"]) fun _ _ _ _ _ _ us hl=>by obtain ⟨_,_,rfl⟩:=zww hl;rfl
 have VX_NoWeb:=((ExI.mk ⟨_,_,_,_,_,_,_,_,_,_,_,_,_,_,_,vlk_NoWeb,vtl_NoWeb⟩ vin_NoWeb vfn_NoWeb vkp_NoWeb vmo_NoWeb vsa_NoWeb).drop hP).drop hQ
 have VF_NoText:=zap hQ (zap hP (zbB (st:=zcM) vl_NoText vc_NoText vk_NoText))
 have vb_NoText:=VF_NoText.binds (ps:=["self","row"]) fun _ _ _ _ _ _ us hl=>by obtain ⟨_,_,rfl⟩:=zww hl;rfl
 have VX_NoText:=((ExI.mk ⟨_,_,_,_,_,_,_,_,_,_,_,_,_,_,_,vlk_NoText,vtl_NoText⟩ vin_NoText vfn_NoText vkp_NoText vmo_NoText vsa_NoText).drop hP).drop hQ
 refine ⟨m31,F31,rfl,rfl,fun base hC hB hC2 hB2=>⟨G0,G0.binds fun _ _ _ _ _ _ us hl=>by obtain ⟨_,rfl⟩:=zk9 hl;rfl,m0,G1,G1.binds fun _ _ _ _ _ _ us hl=>by obtain ⟨_,_,_,rfl⟩:=lst3 hl;rfl,m1,G2,G2.binds fun _ _ _ _ _ _ us hl=>by obtain ⟨_,_,rfl⟩:=zmX hl;rfl,m2,G3,G3.binds fun _ _ _ _ _ _ us hl=>by obtain ⟨_,rfl⟩:=zk9 hl;rfl,m3,G4,G4.binds fun _ _ _ _ _ _ us hl=>by obtain ⟨_,rfl⟩:=zk9 hl;rfl,m4,G5,G5.binds fun _ _ _ _ _ _ us hl=>by obtain ⟨_,rfl⟩:=zk9 hl;rfl,m5,G6,G6.binds fun _ _ _ _ _ _ us hl=>by obtain ⟨_,rfl⟩:=zk9 hl;rfl,m6,G7,G7.binds fun _ _ _ _ _ _ us hl=>by obtain ⟨_,_,rfl⟩:=zmX hl;rfl,m7,G8,G8.binds fun _ _ _ _ _ _ us hl=>by obtain ⟨_,_,rfl⟩:=zmX hl;rfl,m8,G9,G9.binds fun _ _ _ _ _ _ us hl=>by obtain ⟨_,rfl⟩:=zk9 hl;rfl,m9,G10,G10.binds fun _ _ _ _ _ _ us hl=>by obtain ⟨_,rfl⟩:=zk9 hl;rfl,m10,G11,G11.binds fun _ _ _ _ _ _ us hl=>by obtain ⟨_,_,rfl⟩:=zmX hl;rfl,m11,G12,G12.binds fun _ _ _ _ _ _ us hl=>by obtain ⟨_,rfl⟩:=zk9 hl;rfl,m12,G13,G13.binds fun _ _ _ _ _ _ us hl=>by obtain ⟨_,rfl⟩:=zk9 hl;rfl,m13,G14,G14.binds fun _ _ _ _ _ _ us hl=>by obtain ⟨_,_,rfl⟩:=zmX hl;rfl,m14,G15,G15.binds fun _ _ _ _ _ _ us hl=>by obtain ⟨_,_,rfl⟩:=zmX hl;rfl,m15,G16,G16.binds fun _ _ _ _ _ _ us hl=>by obtain ⟨_,rfl⟩:=zk9 hl;rfl,m16,G17,G17.binds fun _ _ _ _ _ _ us hl=>by obtain ⟨_,_,rfl⟩:=zmX hl;rfl,m17,G18,G18.binds fun _ _ _ _ _ _ us hl=>by obtain ⟨_,_,rfl⟩:=zmX hl;rfl,m18,G19,G19.binds fun _ _ _ _ _ _ us hl=>by obtain ⟨_,_,rfl⟩:=zmX hl;rfl,m19,G20,G20.fun.binds fun _ _ _ _ _ _ us hl=>by obtain ⟨_,rfl⟩:=zk9 hl;rfl,m20,G21,G21.fun.binds fun _ _ _ _ _ _ us hl=>by obtain ⟨_,rfl⟩:=zk9 hl;rfl,m21,G22,G22.binds fun _ _ _ _ _ _ us hl=>by obtain ⟨_,_,rfl⟩:=zmX hl;rfl,m22,G23,G23.binds fun _ _ _ _ _ _ us hl=>by obtain ⟨_,rfl⟩:=zk9 hl;rfl,m23,G24,G24.binds fun _ _ _ _ _ _ us hl=>by obtain ⟨_,rfl⟩:=zk9 hl;rfl,m24,G25,G25.binds fun _ _ _ _ _ _ us hl=>by obtain ⟨_,_,_,_,rfl⟩:=lst4 hl;rfl,m25,G26,G26.binds fun _ _ _ _ _ _ us hl=>by obtain ⟨_,rfl⟩:=zk9 hl;rfl,m26,G27,G27.binds fun _ _ _ _ _ _ us hl=>by obtain ⟨_,_,_,rfl⟩:=lst3 hl;rfl,m27,G28,G28.binds fun _ _ _ _ _ _ us hl=>by obtain ⟨_,_,rfl⟩:=zmX hl;rfl,m28,G29,G29.binds fun _ _ _ _ _ _ us hl=>by obtain ⟨_,_,rfl⟩:=zmX hl;rfl,m29,G30,G30.binds fun _ _ _ _ _ _ us hl=>by obtain ⟨_,_,rfl⟩:=zmX hl;rfl,m30,G31,G31.binds fun _ _ _ _ _ _ us hl=>by obtain ⟨_,rfl⟩:=zk9 hl;rfl,m31,hC,hB,hC2,hB2,Nat.ne_of_beq_eq_false rfl,z_isinstance,z_int,z_bool,z_list,z_len,z_all,z_range,z_tuple,z_str,z_enumerate,z_min,z_ValueError,ac_HideError,ac_NoNumber,ac_NoTable,ac_NoBoxes,ac_NoBudget,ac_NoOrder,ac_NoWeights,ac_TooGreat,ac_NoKind,ac_NoTree,ac_NoTurns,ac_NoPlay,ac_NoRow,ac_NoName,ac_NoRoad,ac_NoWeb,ac_NoPlan,ac_NoText,ac_NoPaper,ak_MOST_PLACES,ak_MOST_ROADS,ak_MOST_LENGTH,ak_MOST_FIGURES,ak_FIGURES,at_KINDS,zrg.drop hQ (zrg.drop hP ⟨_,_,_,lt_KINDS,rfl,rfl,(show 2≤sizeLine by decide),(.cons ⟨_,rfl⟩ (.cons ⟨_,rfl⟩ .nil))⟩),(zha hQ _ _ _).trans ((zha hP _ _ _).trans xc_HideError),(zha hQ _ _ _).trans ((zha hP _ _ _).trans xc_NoKind),((ExB.mk vsg vrd vfc).drop hP).drop hQ,VF_NoWeb,vb_NoWeb,VX_NoWeb,((zif.mk ⟨vga_NoWeb,vgn_NoWeb,vcl_NoWeb,vmb_NoWeb,vmo_NoWeb⟩ vhd_NoWeb vna_NoWeb).drop hP).drop hQ,VF_NoText,vb_NoText,VX_NoText,((zif.mk ⟨vga_NoText,vgn_NoText,vcl_NoText,vmb_NoText,vmo_NoText⟩ vhd_NoText vna_NoText).drop hP).drop hQ,(zd9 hQ _ _).trans ((zd9 hP _ _).trans su_NoWeb),⟨(zaA hQ _ _).trans ((zaA hP _ _).trans i_k_NoNumber),(zaA hQ _ _).trans ((zaA hP _ _).trans i_k_NoTable),(zaA hQ _ _).trans ((zaA hP _ _).trans i_k_NoBoxes),(zaA hQ _ _).trans ((zaA hP _ _).trans i_k_NoBudget),(zaA hQ _ _).trans ((zaA hP _ _).trans i_k_NoOrder),(zaA hQ _ _).trans ((zaA hP _ _).trans i_k_NoWeights),(zaA hQ _ _).trans ((zaA hP _ _).trans i_k_TooGreat),(zaA hQ _ _).trans ((zaA hP _ _).trans i_k_NoKind),(zaA hQ _ _).trans ((zaA hP _ _).trans i_k_NoTree),(zaA hQ _ _).trans ((zaA hP _ _).trans i_k_NoTurns),(zaA hQ _ _).trans ((zaA hP _ _).trans i_k_NoPlay),(zaA hQ _ _).trans ((zaA hP _ _).trans i_k_NoRow),(zaA hQ _ _).trans ((zaA hP _ _).trans i_k_NoName),(zaA hQ _ _).trans ((zaA hP _ _).trans i_k_NoRoad),(zaA hQ _ _).trans ((zaA hP _ _).trans i_k_NoWeb),(zaA hQ _ _).trans ((zaA hP _ _).trans i_k_NoPlan),(zaA hQ _ _).trans ((zaA hP _ _).trans i_k_NoText),(zaA hQ _ _).trans ((zaA hP _ _).trans i_k_NoPaper),(zaA hQ _ _).trans ((zaA hP _ _).trans i_k_ValueError),(zd9 hQ _ _).trans ((zd9 hP _ _).trans i_sub),zns (((zdf.mk e_ga e_gn e_cl e_mb e_mo).drop hP).drop hQ) VX_NoText⟩⟩⟩
theorem zvQ {K:PySem.W.Frag} {w:World} {mg:Str→Option Value} {fa:Addr} {P:Program} (hfa:mg "law"=some (.ref fa)) {a:Ad} (M:Txm K mg a) :
  ∃ fd:FuncData,(∀ (s:Shared) (u:Value),BindsTo s fd ⟨[u],[]⟩ [("_law_script",u)])∧∀ base:Heap,(zbb 409 (zbb 402 K)).In base→base.Ns mainGlobals mg→PySem.W.CodeHd base 406 402→base.BuiltinsAt mg 402→PySem.W.CodeHd base 413 409→base.BuiltinsAt mg 409→zc8 P w (zbb 409 (zbb 402 K)) mg base CX0 10 fa fd ["_law_script"] (zrv (zbb 409 (zbb 402 K)) 402 409):=by
 have e:=hfa.symm.trans M.m
 cases e
 refine ⟨a.d_law,fun s v=>?_,fun base _ _ hC hB hC2 hB2=>?_⟩
 ·obtain ⟨oc,od,kV,doc,pm,an,cdv,ct,osl,e,lk,hcd⟩:=M.F.ex
  rw [e]
  exact .of_eq rfl
 ·have h:=zv6 (P:=P) (w:=w) (M.T base hC hB hC2 hB2)
  rw [M.p,M.p2] at h
  exact h
theorem walk {l:PySem.W.OpenLaw} {q:Program} {loose:List Str} {XP:(Str→Option Value)→Heap→Prop} {YP:World→Heap→Prop} {d:DefRec} {K:Params→PySem.W.Frag} (hn:l.most=some 63) (hdf:d.params.defaults=[])
  (hY:∀ (w:World) (h:Heap),YP w h→(K w.params).In h) (hPt:∀ w:World,(K w.params).lookup 402=some (PySem.W.tabObj #[])) (hPt2:∀ w:World,(K w.params).lookup 409=some (PySem.W.tabObj #[])) (hC:∀ (w:World) (h:Heap),(K w.params).In h→PySem.W.CodeHd h 406 402) (hC2:∀ (w:World) (h:Heap),(K w.params).In h→PySem.W.CodeHd h 413 409)
  (F:∀ (w:World) (mg:Str→Option Value) (fa:Addr) (h:Heap),(K w.params).In h→h.Ns mainGlobals mg→mg d.name=some (.ref fa) →
   ∃ fd:FuncData,(∀ (s:Shared) (u:Value),BindsTo s fd ⟨[u],[]⟩ [("_law_script",u)])∧∀ base:Heap,(zbb 409 (zbb 402 ((K w.params)))).In base→base.Ns mainGlobals mg→PySem.W.CodeHd base 406 402→base.BuiltinsAt mg 402→PySem.W.CodeHd base 413 409→base.BuiltinsAt mg 409→zc8 l.prog w (zbb 409 (zbb 402 ((K w.params)))) mg base CX0 10 fa fd ["_law_script"] (zrv (zbb 409 (zbb 402 ((K w.params)))) 402 409)) :
  PySem.W.WalkO q loose XP YP l.row.toRowW d [] (fun f vs=>PySem.call f vs) :=
 L2.zpY (n:=63) (k:=10) (x:="_law_script") (sp:=fun w=>zrv (zbb 409 (zbb 402 ((K w.params)))) 402 409) hn (by decide) hdf ⟨rfl,by decide,by decide⟩ hY (by decide) hPt hPt2 hC hC2 F fun _ _ a ns hb hl hP hP2 hS=>⟨a,ns,rfl,hS,hl,hb,.first hP,.first hP2,fun _=>rfl⟩
end My
open PySem PySem.W in
theorem My.walk_at {K:Params→Frag} {w:World} {h:Heap} {l:OpenLaw} {q:Program} {loose:List Str} {XP:(Str→Option Value)→Heap→Prop} {d:DefRec} {C:Prop} (_:(K w.params).In h)
  (use:WalkO q loose XP (fun w h=>(K w.params).In h) l.row.toRowW d [] (fun f vs=>PySem.call f vs)→C) (W:WalkO q loose XP (fun w h=>(K w.params).In h) l.row.toRowW d [] (fun f vs=>PySem.call f vs)):C:=use W
noncomputable section
namespace Hd
open PySem PySem.W.Fast
structure Q (α:Type) where
  a:α
  b:α
  c:α
  d:α
  e:α
  f:α
  g:α
  h:α
class X where
  s:Q (Q (Q Str))
  t:Q (Q (Q String))
  r:Q (Q (Q Obj))
  p:Program
  P:Params
def sp (p:Program) (n:Nat):Stmt:=(p.main.body.drop n).headD (.Pass ⟨0,0,0,0⟩)
def st [x:X] (n:Nat):Stmt:=sp x.p n
def cb:Stmt→List Stmt
  | .ClassDef _ _ _ b ..=>b
  | _=>[]
def sm [x:X] (n k:Nat):Stmt:=((cb (st n)).drop k).headD (.Pass ⟨0,0,0,0⟩)
def fn (s:Stmt) (q:Str) (g:Addr) (c:List (Str×Addr)) (d k o m:Value) (a:Option Addr) (z t:Value) (b:Addr):FuncData:=match s with
  | .FunctionDef n p y _ _ _ u ..=>⟨n,q,p,.stmts y,u,g,c,d,k,o,m,a,z,t,b⟩
  | _=>default
abbrev z:=W.BT.nil
def N (o:Obj) (l r:W.BT):W.BT:=.node o l r
def L (o:Obj):W.BT:=.node o .nil .nil
def e [x:X] (s:Str) (n:Nat) (v:Value):DictEntry:=⟨PyData.keyHash x.P s,.str s n,v⟩
def vR (n:Nat):Option Value:=some (.ref n)
def vr (n:Nat):Value:=.ref n
def vO:Value:=.int 0 0
def vI (n:Int):Value:=.int n 0
def vS (s:Str) (n:Tok):Value:=.str s n
def vY (s:String):Value:=.type s
def vB (s:String):Value:=.builtin s
section
variable [x:X]
abbrev s0:=x.s.a.a.e
abbrev r1:=x.r.a.a.a
abbrev r2:=x.r.a.a.b
abbrev r3:=x.r.a.a.c
abbrev r4:=x.r.a.a.e
abbrev r5:=x.r.a.a.f
abbrev r6:=x.r.a.a.g
abbrev r7:=x.r.a.a.h
abbrev r8:=x.r.a.b.a
abbrev r9:=x.r.a.b.b
abbrev r10:=x.r.a.b.c
abbrev s11:=x.s.a.a.f
abbrev s12:=x.s.a.b.g
abbrev s13:=x.s.a.b.h
abbrev s14:=x.s.a.c.a
abbrev s15:=x.s.a.c.b
abbrev t16:=x.t.a.c.a
abbrev s17:=x.s.b.a.b
abbrev s18:=x.s.b.d.b
abbrev s19:=x.s.a.b.f
abbrev s20:=x.s.a.e.c
abbrev s21:=x.s.a.f.c
abbrev s22:=x.s.b.c.f
abbrev s23:=x.s.a.c.d
abbrev s24:=x.s.a.c.e
abbrev s25:=x.s.a.c.f
abbrev s26:=x.s.a.c.g
abbrev s27:=x.s.a.c.h
abbrev s28:=x.s.a.d.a
abbrev s29:=x.s.a.d.b
abbrev s30:=x.s.a.d.c
abbrev s31:=x.s.a.d.d
abbrev s32:=x.s.a.d.e
abbrev s33:=x.s.a.d.f
abbrev s34:=x.s.a.d.g
abbrev s35:=x.s.a.d.h
abbrev s36:=x.s.a.e.a
abbrev s37:=x.s.a.e.b
abbrev s38:=x.s.a.e.g
abbrev s39:=x.s.a.f.b
abbrev s40:=x.s.a.f.e
abbrev s41:=x.s.a.f.f
abbrev s42:=x.s.a.f.g
abbrev s43:=x.s.a.f.h
abbrev s44:=x.s.a.g.e
abbrev s45:=x.s.b.a.c
abbrev s46:=x.s.b.a.d
abbrev s47:=x.s.b.a.e
abbrev s48:=x.s.b.b.a
abbrev s49:=x.s.b.b.b
abbrev s50:=x.s.b.b.c
abbrev s51:=x.s.b.b.d
abbrev s52:=x.s.b.b.e
abbrev s53:=x.s.b.b.f
abbrev s54:=x.s.b.b.g
abbrev s55:=x.s.b.b.h
abbrev s56:=x.s.b.c.a
abbrev s57:=x.s.b.d.c
abbrev s58:=x.s.b.d.d
abbrev s59:=x.s.b.d.e
abbrev s60:=x.s.b.d.f
abbrev s61:=x.s.b.d.g
abbrev s62:=x.s.b.d.h
abbrev s63:=x.s.b.e.a
abbrev s64:=x.s.b.e.b
abbrev s65:=x.s.b.e.c
abbrev s66:=x.s.b.e.d
abbrev s67:=x.s.b.e.e
abbrev s68:=x.s.b.e.f
abbrev s69:=x.s.c.a.g
abbrev s70:=x.s.c.a.h
abbrev s71:=x.s.c.b.a
abbrev s72:=x.s.c.b.b
abbrev s73:=x.s.c.b.c
abbrev t74:=x.t.a.a.a
abbrev s75:=x.s.a.g.h
def i0:=e x.s.a.a.d 165 (vS s0 187)
def i1:=e s11 166 .none
def i2:=e x.s.a.a.g 167 .none
def i3:=e x.s.a.a.h 168 (vB x.t.a.a.e)
def i4:=e x.s.a.b.a 169 .none
def i5:=e x.s.a.b.b 170 (vr 6)
def i6:=e x.s.a.b.c 171 (vr 4)
def i7:=e x.s.a.b.d 173 (vS x.s.a.a.b 172)
def i8:=e x.s.a.b.e 174 .none
def i9:=e s19 206 (vr 24)
def i10:=e s12 196 (vS s0 187)
def i11:=e s13 198 (vS s19 197)
def i12:=e s14 200 (.int 2 199)
def i13:=e s15 201 (vr 22)
def i14:=e x.s.a.c.c 203 (vr 25)
def i15:=e s11 204 .none
def i16:=e s23 222 (vr 37)
def i17:=e s12 214 (vS s0 187)
def i18:=e s13 216 (vS s23 215)
def i19:=e s14 218 (.int 4 217)
def i20:=e s15 219 (vr 35)
def i21:=e s11 220 .none
def i22:=e s24 238 (vr 49)
def i23:=e s12 230 (vS s0 187)
def i24:=e s13 232 (vS s24 231)
def i25:=e s14 234 (.int 6 233)
def i26:=e s15 235 (vr 47)
def i27:=e s11 236 .none
def i28:=e s25 254 (vr 61)
def i29:=e s12 246 (vS s0 187)
def i30:=e s13 248 (vS s25 247)
def i31:=e s14 250 (.int 8 249)
def i32:=e s15 251 (vr 59)
def i33:=e s11 252 .none
def i34:=e s26 270 (vr 73)
def i35:=e s12 262 (vS s0 187)
def i36:=e s13 264 (vS s26 263)
def i37:=e s14 266 (.int 10 265)
def i38:=e s15 267 (vr 71)
def i39:=e s11 268 .none
def i40:=e s27 286 (vr 85)
def i41:=e s12 278 (vS s0 187)
def i42:=e s13 280 (vS s27 279)
def i43:=e s14 282 (.int 12 281)
def i44:=e s15 283 (vr 83)
def i45:=e s11 284 .none
def i46:=e s28 302 (vr 97)
def i47:=e s12 294 (vS s0 187)
def i48:=e s13 296 (vS s28 295)
def i49:=e s14 298 (.int 14 297)
def i50:=e s15 299 (vr 95)
def i51:=e s11 300 .none
def i52:=e s29 318 (vr 109)
def i53:=e s12 310 (vS s0 187)
def i54:=e s13 312 (vS s29 311)
def i55:=e s14 314 (.int 16 313)
def i56:=e s15 315 (vr 107)
def i57:=e s11 316 .none
def i58:=e s30 334 (vr 121)
def i59:=e s12 326 (vS s0 187)
def i60:=e s13 328 (vS s30 327)
def i61:=e s14 330 (.int 18 329)
def i62:=e s15 331 (vr 119)
def i63:=e s11 332 .none
def i64:=e s31 350 (vr 133)
def i65:=e s12 342 (vS s0 187)
def i66:=e s13 344 (vS s31 343)
def i67:=e s14 346 (.int 20 345)
def i68:=e s15 347 (vr 131)
def i69:=e s11 348 .none
def i70:=e s32 366 (vr 145)
def i71:=e s12 358 (vS s0 187)
def i72:=e s13 360 (vS s32 359)
def i73:=e s14 362 (.int 22 361)
def i74:=e s15 363 (vr 143)
def i75:=e s11 364 .none
def i76:=e s33 382 (vr 157)
def i77:=e s12 374 (vS s0 187)
def i78:=e s13 376 (vS s33 375)
def i79:=e s14 378 (.int 24 377)
def i80:=e s15 379 (vr 155)
def i81:=e s11 380 .none
def i82:=e s34 398 (vr 169)
def i83:=e s12 390 (vS s0 187)
def i84:=e s13 392 (vS s34 391)
def i85:=e s14 394 (.int 26 393)
def i86:=e s15 395 (vr 167)
def i87:=e s11 396 .none
def i88:=e s35 414 (vr 181)
def i89:=e s12 406 (vS s0 187)
def i90:=e s13 408 (vS s35 407)
def i91:=e s14 410 (.int 28 409)
def i92:=e s15 411 (vr 179)
def i93:=e s11 412 .none
def i94:=e s36 430 (vr 193)
def i95:=e s12 422 (vS s0 187)
def i96:=e s13 424 (vS s36 423)
def i97:=e s14 426 (.int 30 425)
def i98:=e s15 427 (vr 191)
def i99:=e s11 428 .none
def zub:=e s37 455 (vr 212)
def i101:=e s12 438 (vS s0 187)
def i102:=e s13 440 (vS s37 439)
def i103:=e s14 442 (.int 32 441)
def i104:=e s20 450 (vr 209)
def i105:=e s15 452 (vr 210)
def i106:=e s11 453 .none
def zuW:=e s38 480 (vr 231)
def i108:=e s12 463 (vS s0 187)
def i109:=e s13 465 (vS s38 464)
def i110:=e s14 467 (.int 37 466)
def i111:=e s20 475 (vr 228)
def i112:=e s15 477 (vr 229)
def i113:=e s11 478 .none
def zvz:=e s39 505 (vr 250)
def i115:=e s12 488 (vS s0 187)
def i116:=e s13 490 (vS s39 489)
def i117:=e s14 492 (.int 42 491)
def i118:=e s20 500 (vr 247)
def i119:=e s15 502 (vr 248)
def i120:=e s11 503 .none
def i121:=e x.s.a.a.d 165 (vS s40 549)
def i122:=e s41 530 (vr 269)
def i123:=e s42 539 (vr 278)
def i124:=e s43 548 (vr 285)
def i125:=e x.s.a.g.a 552 (.int 60 551)
def i126:=e x.s.a.g.b 554 (.int 120 553)
def i127:=e x.s.a.g.c 556 (.int 1000000 555)
def i128:=e x.s.a.g.d 559 (vr 286)
def i129:=e s44 570 (vr 293)
def i130:=e s12 513 (vS s0 187)
def i131:=e s13 515 (vS s41 514)
def i132:=e s14 517 (.int 47 516)
def i133:=e s20 525 (vr 266)
def i134:=e s15 527 (vr 267)
def i135:=e s11 528 .none
def i136:=e x.s.a.a.d 165 (vS s17 601)
def i137:=e s45 582 (vr 300)
def i138:=e s46 593 (vr 307)
def i139:=e s47 600 (vr 314)
def i140:=e x.s.b.a.f 604 (vS x.s.b.a.g 603)
def i141:=e x.s.b.a.h 606 (.int 2000 605)
def i142:=e s48 612 (vr 319)
def i143:=e s49 622 (vr 326)
def i144:=e s50 628 (vr 331)
def i145:=e s51 634 (vr 336)
def i146:=e s52 641 (vr 343)
def i147:=e s53 649 (vr 350)
def i148:=e s54 655 (vr 355)
def i149:=e s55 661 (vr 360)
def i150:=e s56 670 (vr 367)
def i151:=e x.s.a.a.d 165 (vS s18 736)
def i152:=e s57 676 (vr 372)
def i153:=e s58 684 (vr 379)
def i154:=e s59 694 (vr 386)
def i155:=e s60 705 (vr 393)
def i156:=e s61 718 (vr 400)
def i157:=e s62 727 (vr 407)
def i158:=e s63 735 (vr 414)
def i159:=e s64 749 (vr 421)
def i160:=e s65 757 (vr 428)
def i161:=e s66 765 (vr 435)
def i162:=e s67 787 (vr 442)
def i163:=e s68 798 (vr 449)
def i164:=e s69 816 (vr 456)
def i165:=e s70 828 (vr 463)
def i166:=e s71 844 (vr 470)
def i167:=e s72 855 (vr 477)
def i168:=e s73 861 (vr 482)
def h0 (p0:Array Value):Obj:=⟨(vY t74),none,(.seq p0 0),#[]⟩
def h1 (p0:Array Value):Obj:=⟨.none,none,(.fields p0),#[]⟩
def h2 (p0:Str) (p1:Tok) (p2:Str) (p3 p4:Tok) (p5:Int) (p6 p7:Value) (p8:Nat) (p9:Value) (p10:Nat) (p11 p12 p13:Value) (p14:Int) (p15:Tok):Obj:=⟨(vY x.t.a.a.b),none,(.fields #[(vS p0 p1),(vS p2 p3),(vS x.s.a.a.b p4),(vI p5),p6,vO,vO,p7,(vr p8),p9,(vI 181),(vr p10),.none,p11,p12,p13,(vI p14),(vI p5),(vS x.s.a.a.b p15)]),#[]⟩
def h3 (p0 p1:Nat) (p2:Str) (p3:Tok):Obj:=⟨(vY x.t.a.a.c),none,.plain,#[(vR p0),(vR 3),(vR p1),none,(some (vS p2 p3)),none,(vR 0)]⟩
def h4 (p0:Array DictEntry) (p1:Nat):Obj:=⟨(vY x.t.a.a.d),none,(.dict p0 p1),#[]⟩
def h5 (p0:String) (p1:Value):Obj:=⟨(vY x.t.a.a.g),none,(.fields #[(vB p0),p1]),#[]⟩
def h6 (p0:List Value):Obj:=⟨(vY x.t.a.b.a),none,(.cls ⟨s19,[(vY x.t.a.a.f)],[(vr 24),(vY x.t.a.a.f),(vY x.t.a.b.b),(vY x.t.a.b.c),(vY x.t.a.b.d)],23,s19,true,[],p0,false,none,false⟩),#[(vR 15),none,(some (vS s19 189)),(some (vS s19 197)),(some (vB x.t.a.b.e)),(some (.bool true))]⟩
def h7 (p0:Nat):Obj:=⟨(vY x.t.a.b.h),none,(.fields #[(vr p0),(vr p0),(vr p0)]),#[]⟩
def h8 (p0:Str) (p1 p2 p3:Nat) (p4 p5:Tok):Obj:=⟨(vY x.t.a.b.a),none,(.cls ⟨p0,[(vr 24)],[(vr p1),(vr 24),(vY x.t.a.a.f),(vY x.t.a.b.b),(vY x.t.a.b.c),(vY x.t.a.b.d)],p2,p0,true,[],[],false,none,false⟩),#[(vR p3),none,(some (vS p0 p4)),(some (vS p0 p5)),(some (vB x.t.a.b.e)),(some (.bool true))]⟩
def h9 (p0:Nat) (p1:Str):Obj:=⟨.none,none,(.func (fn (sm p0 0) p1 0 [] .none .none .none .none none .none .none 0)),#[]⟩
def h10 (p0:Nat) (p1:Str) (p2:Nat):Obj:=⟨(vY x.t.a.c.b),none,(.func (fn (sm p0 0) p1 3 [] .none .none .none (vS s0 187) none (vr p2) .none 0)),#[]⟩
def h11 (p0:Nat) (p1:Str):Obj:=⟨.none,none,(.func (fn (st p0) p1 0 [] .none .none .none .none none .none .none 0)),#[]⟩
def h12 (p0:Nat) (p1 p2:Str) (p3:Tok) (p4:Nat):Obj:=⟨(vY x.t.a.c.b),none,(.func (fn (st p0) p1 3 [] .none .none .none (vS p2 p3) none (vr p4) .none 0)),#[]⟩
def zao:=h0 #[]
def zaP:=h1 #[]
def zg8:=h2 x.s.a.a.a 182 x.s.a.a.a 183 184 1 vO vO 11 (.bool false) 12 .none .none .none 185 186
def zg6:=h3 13 3 x.s.a.a.c 164
def b855:=h4 #[i0,i1,i2,i3,i4,i5,i6,i7,i8,i9] 10
def b856:=h1 #[(vI 2),vO,(vr 20)]
def zij:=h0 #[(vY x.t.a.a.f)]
def zaW:=h5 x.t.a.a.h (vY x.t.a.b.a)
def zh9:=h4 #[i10,i11,i12,i13] 4
def zio:=h2 s19 191 s19 192 193 2 vO vO 18 (.bool false) 19 .none .none .none 194 195
def zii:=h3 20 17 s0 187
def zie:=h4 #[i10,i12,i13,i14,i15] 3
def b866:=h6 []
def zin:Obj:=⟨(vY x.t.a.b.f),none,(.fields #[(vS x.s.a.c.c 202),(vr 24),(vB x.t.a.b.g),.none]),#[]⟩
def zh8:=h7 24
def zig:=h5 t16 (vr 24)
def b870:=h4 #[i0,i1,i2,i3,i4,i5,i6,i7,i8,i9,i16] 11
def b871:=h1 #[(vI 2),vO,(vr 20),(vI 4),vO,(vr 33)]
def b872:=h6 [(vr 37)]
def zbx:=h0 #[(vr 24)]
def ziJ:=h4 #[i17,i18,i19,i20] 4
def zlr:=h2 s23 209 s23 210 211 4 vO vO 31 (.bool false) 32 .none .none .none 212 213
def zmm:=h3 33 30 s0 187
def zk3:=h4 #[i17,i19,i20,i21] 2
def zlb:=h8 s23 37 36 28 207 215
def zk8:=h7 37
def zj3:=h5 t16 (vr 37)
def b885:=h4 #[i0,i1,i2,i3,i4,i5,i6,i7,i8,i9,i16,i22] 12
def b886:=h1 #[(vI 2),vO,(vr 20),(vI 4),vO,(vr 33),(vI 6),vO,(vr 45)]
def b887:=h6 [(vr 37),(vr 49)]
def zmM:=h4 #[i23,i24,i25,i26] 4
def zl3:=h2 s24 225 s24 226 227 6 vO vO 43 (.bool false) 44 .none .none .none 228 229
def zml:=h3 45 42 s0 187
def zkD:=h4 #[i23,i25,i26,i27] 2
def zl1:=h8 s24 49 48 40 223 231
def zmP:=h7 49
def zj9:=h5 t16 (vr 49)
def b900:=h4 #[i0,i1,i2,i3,i4,i5,i6,i7,i8,i9,i16,i22,i28] 13
def b901:=h1 #[(vI 2),vO,(vr 20),(vI 4),vO,(vr 33),(vI 6),vO,(vr 45),(vI 8),vO,(vr 57)]
def b902:=h6 [(vr 37),(vr 49),(vr 61)]
def zmj:=h4 #[i29,i30,i31,i32] 4
def zlQ:=h2 s25 241 s25 242 243 8 vO vO 55 (.bool false) 56 .none .none .none 244 245
def zmF:=h3 57 54 s0 187
def zk4:=h4 #[i29,i31,i32,i33] 2
def zmn:=h8 s25 61 60 52 239 247
def znW:=h7 61
def zow:=h5 t16 (vr 61)
def b915:=h4 #[i0,i1,i2,i3,i4,i5,i6,i7,i8,i9,i16,i22,i28,i34] 14
def b916:=h1 #[(vI 2),vO,(vr 20),(vI 4),vO,(vr 33),(vI 6),vO,(vr 45),(vI 8),vO,(vr 57),(vI 10),vO,(vr 69)]
def b917:=h6 [(vr 37),(vr 49),(vr 61),(vr 73)]
def zoI:=h4 #[i35,i36,i37,i38] 4
def zop:=h2 s26 257 s26 258 259 10 vO vO 67 (.bool false) 68 .none .none .none 260 261
def zqe:=h3 69 66 s0 187
def zqC:=h4 #[i35,i37,i38,i39] 2
def zpN:=h8 s26 73 72 64 255 263
def zp5:=h7 73
def znH:=h5 t16 (vr 73)
def b930:=h4 #[i0,i1,i2,i3,i4,i5,i6,i7,i8,i9,i16,i22,i28,i34,i40] 15
def b931:=h1 #[(vI 2),vO,(vr 20),(vI 4),vO,(vr 33),(vI 6),vO,(vr 45),(vI 8),vO,(vr 57),(vI 10),vO,(vr 69),(vI 12),vO,(vr 81)]
def b932:=h6 [(vr 37),(vr 49),(vr 61),(vr 73),(vr 85)]
def zpQ:=h4 #[i41,i42,i43,i44] 4
def zon:=h2 s27 273 s27 274 275 12 vO vO 79 (.bool false) 80 .none .none .none 276 277
def zqv:=h3 81 78 s0 187
def zov:=h4 #[i41,i43,i44,i45] 2
def zoE:=h8 s27 85 84 76 271 279
def zqb:=h7 85
def zm6:=h5 t16 (vr 85)
def b945:=h4 #[i0,i1,i2,i3,i4,i5,i6,i7,i8,i9,i16,i22,i28,i34,i40,i46] 16
def b946:=h1 #[(vI 2),vO,(vr 20),(vI 4),vO,(vr 33),(vI 6),vO,(vr 45),(vI 8),vO,(vr 57),(vI 10),vO,(vr 69),(vI 12),vO,(vr 81),(vI 14),vO,(vr 93)]
def b947:=h6 [(vr 37),(vr 49),(vr 61),(vr 73),(vr 85),(vr 97)]
def zoS:=h4 #[i47,i48,i49,i50] 4
def zor:=h2 s28 289 s28 290 291 14 vO vO 91 (.bool false) 92 .none .none .none 292 293
def zoY:=h3 93 90 s0 187
def zos:=h4 #[i47,i49,i50,i51] 2
def zqa:=h8 s28 97 96 88 287 295
def zqG:=h7 97
def zqI:=h5 t16 (vr 97)
def b960:=h4 #[i0,i1,i2,i3,i4,i5,i6,i7,i8,i9,i16,i22,i28,i34,i40,i46,i52] 17
def b961:=h1 #[(vI 2),vO,(vr 20),(vI 4),vO,(vr 33),(vI 6),vO,(vr 45),(vI 8),vO,(vr 57),(vI 10),vO,(vr 69),(vI 12),vO,(vr 81),(vI 14),vO,(vr 93),(vI 16),vO,(vr 105)]
def b962:=h6 [(vr 37),(vr 49),(vr 61),(vr 73),(vr 85),(vr 97),(vr 109)]
def zsX:=h4 #[i53,i54,i55,i56] 4
def zsG:=h2 s29 305 s29 306 307 16 vO vO 103 (.bool false) 104 .none .none .none 308 309
def zsF:=h3 105 102 s0 187
def zqF:=h4 #[i53,i55,i56,i57] 2
def zqD:=h8 s29 109 108 100 303 311
def zs1:=h7 109
def zqM:=h5 t16 (vr 109)
def b975:=h4 #[i0,i1,i2,i3,i4,i5,i6,i7,i8,i9,i16,i22,i28,i34,i40,i46,i52,i58] 18
def b976:=h1 #[(vI 2),vO,(vr 20),(vI 4),vO,(vr 33),(vI 6),vO,(vr 45),(vI 8),vO,(vr 57),(vI 10),vO,(vr 69),(vI 12),vO,(vr 81),(vI 14),vO,(vr 93),(vI 16),vO,(vr 105),(vI 18),vO,(vr 117)]
def b977:=h6 [(vr 37),(vr 49),(vr 61),(vr 73),(vr 85),(vr 97),(vr 109),(vr 121)]
def zsL:=h4 #[i59,i60,i61,i62] 4
def zs3:=h2 s30 321 s30 322 323 18 vO vO 115 (.bool false) 116 .none .none .none 324 325
def zsN:=h3 117 114 s0 187
def zs5:=h4 #[i59,i61,i62,i63] 2
def zsm:=h8 s30 121 120 112 319 327
def zsS:=h7 121
def zr3:=h5 t16 (vr 121)
def b990:=h4 #[i0,i1,i2,i3,i4,i5,i6,i7,i8,i9,i16,i22,i28,i34,i40,i46,i52,i58,i64] 19
def b991:=h1 #[(vI 2),vO,(vr 20),(vI 4),vO,(vr 33),(vI 6),vO,(vr 45),(vI 8),vO,(vr 57),(vI 10),vO,(vr 69),(vI 12),vO,(vr 81),(vI 14),vO,(vr 93),(vI 16),vO,(vr 105),(vI 18),vO,(vr 117),(vI 20),vO,(vr 129)]
def b992:=h6 [(vr 37),(vr 49),(vr 61),(vr 73),(vr 85),(vr 97),(vr 109),(vr 121),(vr 133)]
def zsB:=h4 #[i65,i66,i67,i68] 4
def ztp:=h2 s31 337 s31 338 339 20 vO vO 127 (.bool false) 128 .none .none .none 340 341
def zuv:=h3 129 126 s0 187
def zjS:=h4 #[i65,i67,i68,i69] 2
def zlR:=h8 s31 133 132 124 335 343
def znZ:=h7 133
def zl8:=h5 t16 (vr 133)
def b1005:=h4 #[i0,i1,i2,i3,i4,i5,i6,i7,i8,i9,i16,i22,i28,i34,i40,i46,i52,i58,i64,i70] 20
def b1006:=h1 #[(vI 2),vO,(vr 20),(vI 4),vO,(vr 33),(vI 6),vO,(vr 45),(vI 8),vO,(vr 57),(vI 10),vO,(vr 69),(vI 12),vO,(vr 81),(vI 14),vO,(vr 93),(vI 16),vO,(vr 105),(vI 18),vO,(vr 117),(vI 20),vO,(vr 129),(vI 22),vO,(vr 141)]
def b1007:=h6 [(vr 37),(vr 49),(vr 61),(vr 73),(vr 85),(vr 97),(vr 109),(vr 121),(vr 133),(vr 145)]
def zod:=h4 #[i71,i72,i73,i74] 4
def zm4:=h2 s32 353 s32 354 355 22 vO vO 139 (.bool false) 140 .none .none .none 356 357
def znl:=h3 141 138 s0 187
def zl7:=h4 #[i71,i73,i74,i75] 2
def zkh:=h8 s32 145 144 136 351 359
def znJ:=h7 145
def zlp:=h5 t16 (vr 145)
def b1020:=h4 #[i0,i1,i2,i3,i4,i5,i6,i7,i8,i9,i16,i22,i28,i34,i40,i46,i52,i58,i64,i70,i76] 21
def b1021:=h1 #[(vI 2),vO,(vr 20),(vI 4),vO,(vr 33),(vI 6),vO,(vr 45),(vI 8),vO,(vr 57),(vI 10),vO,(vr 69),(vI 12),vO,(vr 81),(vI 14),vO,(vr 93),(vI 16),vO,(vr 105),(vI 18),vO,(vr 117),(vI 20),vO,(vr 129),(vI 22),vO,(vr 141),(vI 24),vO,(vr 153)]
def b1022:=h6 [(vr 37),(vr 49),(vr 61),(vr 73),(vr 85),(vr 97),(vr 109),(vr 121),(vr 133),(vr 145),(vr 157)]
def znc:=h4 #[i77,i78,i79,i80] 4
def znu:=h2 s33 369 s33 370 371 24 vO vO 151 (.bool false) 152 .none .none .none 372 373
def zlM:=h3 153 150 s0 187
def znU:=h4 #[i77,i79,i80,i81] 2
def zm3:=h8 s33 157 156 148 367 375
def znE:=h7 157
def zkR:=h5 t16 (vr 157)
def b1035:=h4 #[i0,i1,i2,i3,i4,i5,i6,i7,i8,i9,i16,i22,i28,i34,i40,i46,i52,i58,i64,i70,i76,i82] 22
def b1036:=h1 #[(vI 2),vO,(vr 20),(vI 4),vO,(vr 33),(vI 6),vO,(vr 45),(vI 8),vO,(vr 57),(vI 10),vO,(vr 69),(vI 12),vO,(vr 81),(vI 14),vO,(vr 93),(vI 16),vO,(vr 105),(vI 18),vO,(vr 117),(vI 20),vO,(vr 129),(vI 22),vO,(vr 141),(vI 24),vO,(vr 153),(vI 26),vO,(vr 165)]
def b1037:=h6 [(vr 37),(vr 49),(vr 61),(vr 73),(vr 85),(vr 97),(vr 109),(vr 121),(vr 133),(vr 145),(vr 157),(vr 169)]
def zkj:=h4 #[i83,i84,i85,i86] 4
def znF:=h2 s34 385 s34 386 387 26 vO vO 163 (.bool false) 164 .none .none .none 388 389
def znm:=h3 165 162 s0 187
def znK:=h4 #[i83,i85,i86,i87] 2
def znI:=h8 s34 169 168 160 383 391
def zmY:=h7 169
def zn2:=h5 t16 (vr 169)
def b1050:=h4 #[i0,i1,i2,i3,i4,i5,i6,i7,i8,i9,i16,i22,i28,i34,i40,i46,i52,i58,i64,i70,i76,i82,i88] 23
def b1051:=h1 #[(vI 2),vO,(vr 20),(vI 4),vO,(vr 33),(vI 6),vO,(vr 45),(vI 8),vO,(vr 57),(vI 10),vO,(vr 69),(vI 12),vO,(vr 81),(vI 14),vO,(vr 93),(vI 16),vO,(vr 105),(vI 18),vO,(vr 117),(vI 20),vO,(vr 129),(vI 22),vO,(vr 141),(vI 24),vO,(vr 153),(vI 26),vO,(vr 165),(vI 28),vO,(vr 177)]
def b1052:=h6 [(vr 37),(vr 49),(vr 61),(vr 73),(vr 85),(vr 97),(vr 109),(vr 121),(vr 133),(vr 145),(vr 157),(vr 169),(vr 181)]
def znC:=h4 #[i89,i90,i91,i92] 4
def znM:=h2 s35 401 s35 402 403 28 vO vO 175 (.bool false) 176 .none .none .none 404 405
def zn8:=h3 177 174 s0 187
def znS:=h4 #[i89,i91,i92,i93] 2
def znP:=h8 s35 181 180 172 399 407
def zol:=h7 181
def znj:=h5 t16 (vr 181)
def b1065:=h4 #[i0,i1,i2,i3,i4,i5,i6,i7,i8,i9,i16,i22,i28,i34,i40,i46,i52,i58,i64,i70,i76,i82,i88,i94] 24
def b1066:=h1 #[(vI 2),vO,(vr 20),(vI 4),vO,(vr 33),(vI 6),vO,(vr 45),(vI 8),vO,(vr 57),(vI 10),vO,(vr 69),(vI 12),vO,(vr 81),(vI 14),vO,(vr 93),(vI 16),vO,(vr 105),(vI 18),vO,(vr 117),(vI 20),vO,(vr 129),(vI 22),vO,(vr 141),(vI 24),vO,(vr 153),(vI 26),vO,(vr 165),(vI 28),vO,(vr 177),(vI 30),vO,(vr 189)]
def b1067:=h6 [(vr 37),(vr 49),(vr 61),(vr 73),(vr 85),(vr 97),(vr 109),(vr 121),(vr 133),(vr 145),(vr 157),(vr 169),(vr 181),(vr 193)]
def znz:=h4 #[i95,i96,i97,i98] 4
def zoc:=h2 s36 417 s36 418 419 30 vO vO 187 (.bool false) 188 .none .none .none 420 421
def zn4:=h3 189 186 s0 187
def zpj:=h4 #[i95,i97,i98,i99] 2
def zpb:=h8 s36 193 192 184 415 423
def zqr:=h7 193
def zng:=h5 t16 (vr 193)
def b1080:=h4 #[i0,i1,i2,i3,i4,i5,i6,i7,i8,i9,i16,i22,i28,i34,i40,i46,i52,i58,i64,i70,i76,i82,i88,i94,zub] 25
def b1081:=h1 #[(vI 2),vO,(vr 20),(vI 4),vO,(vr 33),(vI 6),vO,(vr 45),(vI 8),vO,(vr 57),(vI 10),vO,(vr 69),(vI 12),vO,(vr 81),(vI 14),vO,(vr 93),(vI 16),vO,(vr 105),(vI 18),vO,(vr 117),(vI 20),vO,(vr 129),(vI 22),vO,(vr 141),(vI 24),vO,(vr 153),(vI 26),vO,(vr 165),(vI 28),vO,(vr 177),(vI 30),vO,(vr 189),(vI 32),vO,(vr 201)]
def b1082:=h6 [(vr 37),(vr 49),(vr 61),(vr 73),(vr 85),(vr 97),(vr 109),(vr 121),(vr 133),(vr 145),(vr 157),(vr 169),(vr 181),(vr 193),(vr 212)]
def zpJ:=h4 #[i101,i102,i103,i104,i105] 5
def zoi:=h1 #[(vI 34),(vI 4),(vr 208)]
def zoJ:=h2 s37 433 s37 434 435 32 vO vO 199 (.bool false) 200 .none .none .none 436 437
def zp4:=h3 201 198 s0 187
def znq:=h0 #[(vS x.s.a.e.d 446),(vS x.s.a.e.e 447)]
def zpM:=h9 16 x.s.a.e.f
def zoL:=h2 s20 443 x.s.a.e.f 444 445 34 (vI 2) (vI 3) 203 (.bool true) 204 (vr 205) (vr 206) (vr 207) 448 449
def zoh:=h10 16 x.s.a.e.f 208
def zn1:=h0 #[(vS x.s.a.e.e 451)]
def zoM:=h4 #[i101,i103,i104,i105,i106] 2
def zn9:=h8 s37 212 211 196 431 439
def zpU:=h7 212
def zp1:=h5 t16 (vr 212)
def b1102:=h4 #[i0,i1,i2,i3,i4,i5,i6,i7,i8,i9,i16,i22,i28,i34,i40,i46,i52,i58,i64,i70,i76,i82,i88,i94,zub,zuW] 26
def b1103:=h1 #[(vI 2),vO,(vr 20),(vI 4),vO,(vr 33),(vI 6),vO,(vr 45),(vI 8),vO,(vr 57),(vI 10),vO,(vr 69),(vI 12),vO,(vr 81),(vI 14),vO,(vr 93),(vI 16),vO,(vr 105),(vI 18),vO,(vr 117),(vI 20),vO,(vr 129),(vI 22),vO,(vr 141),(vI 24),vO,(vr 153),(vI 26),vO,(vr 165),(vI 28),vO,(vr 177),(vI 30),vO,(vr 189),(vI 32),vO,(vr 201),(vI 37),vO,(vr 220)]
def b1104:=h6 [(vr 37),(vr 49),(vr 61),(vr 73),(vr 85),(vr 97),(vr 109),(vr 121),(vr 133),(vr 145),(vr 157),(vr 169),(vr 181),(vr 193),(vr 212),(vr 231)]
def znt:=h4 #[i108,i109,i110,i111,i112] 5
def znh:=h1 #[(vI 39),(vI 4),(vr 227)]
def zqq:=h2 s38 458 s38 459 460 37 vO vO 218 (.bool false) 219 .none .none .none 461 462
def zoK:=h3 220 217 s0 187
def znT:=h0 #[(vS x.s.a.e.d 471),(vS x.s.a.e.h 472)]
def zps:=h9 17 x.s.a.f.a
def zqS:=h2 s20 468 x.s.a.f.a 469 470 39 (vI 2) (vI 3) 222 (.bool true) 223 (vr 224) (vr 225) (vr 226) 473 474
def zoC:=h10 17 x.s.a.f.a 227
def zpZ:=h0 #[(vS x.s.a.e.h 476)]
def ztN:=h4 #[i108,i110,i111,i112,i113] 2
def zuj:=h8 s38 231 230 215 456 464
def ztM:=h7 231
def zrZ:=h5 t16 (vr 231)
def b1124:=h4 #[i0,i1,i2,i3,i4,i5,i6,i7,i8,i9,i16,i22,i28,i34,i40,i46,i52,i58,i64,i70,i76,i82,i88,i94,zub,zuW,zvz] 27
def b1125:=h1 #[(vI 2),vO,(vr 20),(vI 4),vO,(vr 33),(vI 6),vO,(vr 45),(vI 8),vO,(vr 57),(vI 10),vO,(vr 69),(vI 12),vO,(vr 81),(vI 14),vO,(vr 93),(vI 16),vO,(vr 105),(vI 18),vO,(vr 117),(vI 20),vO,(vr 129),(vI 22),vO,(vr 141),(vI 24),vO,(vr 153),(vI 26),vO,(vr 165),(vI 28),vO,(vr 177),(vI 30),vO,(vr 189),(vI 32),vO,(vr 201),(vI 37),vO,(vr 220),(vI 42),vO,(vr 239)]
def b1126:=h6 [(vr 37),(vr 49),(vr 61),(vr 73),(vr 85),(vr 97),(vr 109),(vr 121),(vr 133),(vr 145),(vr 157),(vr 169),(vr 181),(vr 193),(vr 212),(vr 231),(vr 250)]
def zrO:=h4 #[i115,i116,i117,i118,i119] 5
def ztv:=h1 #[(vI 44),(vI 4),(vr 246)]
def zt6:=h2 s39 483 s39 484 485 42 vO vO 237 (.bool false) 238 .none .none .none 486 487
def zqP:=h3 239 236 s0 187
def zsd:=h0 #[(vS x.s.a.e.d 496),(vS s21 497)]
def zqR:=h9 18 x.s.a.f.d
def zq2:=h2 s20 493 x.s.a.f.d 494 495 44 (vI 2) (vI 3) 241 (.bool true) 242 (vr 243) (vr 244) (vr 245) 498 499
def zq6:=h10 18 x.s.a.f.d 246
def zsv:=h0 #[(vS s21 501)]
def zr0:=h4 #[i115,i117,i118,i119,i120] 2
def zrH:=h8 s39 250 249 234 481 489
def zqW:=h7 250
def zrF:=h5 t16 (vr 250)
def b1146:=h4 #[i121,i1,i2,i3,i4,i5,i6,i7,i8,i9,i16,i22,i28,i34,i40,i46,i52,i58,i64,i70,i76,i82,i88,i94,zub,zuW,zvz,i122,i123,i124,i125,i126,i127,i128,i129] 35
def b1147:=h1 #[(vI 2),vO,(vr 20),(vI 4),vO,(vr 33),(vI 6),vO,(vr 45),(vI 8),vO,(vr 57),(vI 10),vO,(vr 69),(vI 12),vO,(vr 81),(vI 14),vO,(vr 93),(vI 16),vO,(vr 105),(vI 18),vO,(vr 117),(vI 20),vO,(vr 129),(vI 22),vO,(vr 141),(vI 24),vO,(vr 153),(vI 26),vO,(vr 165),(vI 28),vO,(vr 177),(vI 30),vO,(vr 189),(vI 32),vO,(vr 201),(vI 37),vO,(vr 220),(vI 42),vO,(vr 239),(vI 47),vO,(vr 258),(vI 53),vO,(vr 277),(vI 55),vO,(vr 284),(vI 62),vO,(vr 292)]
def zqc:=h6 [(vr 37),(vr 49),(vr 61),(vr 73),(vr 85),(vr 97),(vr 109),(vr 121),(vr 133),(vr 145),(vr 157),(vr 169),(vr 181),(vr 193),(vr 212),(vr 231),(vr 250),(vr 269)]
def zsx:=h4 #[i130,i131,i132,i133,i134] 5
def zrx:=h1 #[(vI 49),(vI 4),(vr 265)]
def zra:=h2 s41 508 s41 509 510 47 vO vO 256 (.bool false) 257 .none .none .none 511 512
def zrB:=h3 258 255 s0 187
def ztU:=h0 #[(vS x.s.a.e.d 521),(vS x.s.a.g.f 522)]
def zrz:=h9 19 x.s.a.g.g
def zrQ:=h2 s20 518 x.s.a.g.g 519 520 49 (vI 2) (vI 3) 260 (.bool true) 261 (vr 262) (vr 263) (vr 264) 523 524
def zuC:=h10 19 x.s.a.g.g 265
def zqL:=h0 #[(vS x.s.a.g.f 526)]
def zq0:=h4 #[i130,i132,i133,i134,i135] 2
def ztr:=h8 s41 269 268 253 506 514
def ztS:=h7 269
def zrq:=h5 t16 (vr 269)
def zud:=h0 #[(vS s75 536)]
def zsa:=h11 21 s42
def zqN:=h2 s42 533 s42 534 535 53 (vI 1) (vI 3) 272 (.bool true) 273 (vr 274) (vr 275) (vr 276) 537 538
def zt4:=h12 21 s42 x.s.a.h.a 531 277
def ztW:=h0 #[(vS s75 543),(vS x.s.a.h.b 544),(vS x.s.a.h.c 545)]
def zq3:=h11 22 s43
def ztB:=h2 s43 540 s43 541 542 55 (vI 3) (vI 3) 279 (.bool true) 280 (vr 281) (vr 282) (vr 283) 546 547
def ztw:=h12 22 s43 x.s.a.h.a 531 284
def zuq:=h0 #[(vS x.s.a.h.d 557),(vS x.s.a.h.e 558)]
def zqJ:=h0 #[(vS s75 563),(vS x.s.a.h.f 564),(vS x.s.a.h.g 565),(vS x.s.a.h.h 566),(vS x.s.b.a.a 567)]
def zr1:=h11 28 s44
def zrA:=h2 s44 560 s44 561 562 62 (vI 2) (vI 3) 287 (.bool true) 288 (vr 289) (vr 290) (vr 291) 568 569
def zuI:=h12 28 s44 s40 549 292
def b1190:=h4 #[i136,i1,i2,i3,i4,i5,i6,i7,i8,i9,i16,i22,i28,i34,i40,i46,i52,i58,i64,i70,i76,i82,i88,i94,zub,zuW,zvz,i122,i123,i124,i125,i126,i127,i128,i129,i137,i138,i139,i140,i141,i142,i143,i144,i145,i146,i147,i148,i149,i150] 49
def b1191:=h1 #[(vI 2),vO,(vr 20),(vI 4),vO,(vr 33),(vI 6),vO,(vr 45),(vI 8),vO,(vr 57),(vI 10),vO,(vr 69),(vI 12),vO,(vr 81),(vI 14),vO,(vr 93),(vI 16),vO,(vr 105),(vI 18),vO,(vr 117),(vI 20),vO,(vr 129),(vI 22),vO,(vr 141),(vI 24),vO,(vr 153),(vI 26),vO,(vr 165),(vI 28),vO,(vr 177),(vI 30),vO,(vr 189),(vI 32),vO,(vr 201),(vI 37),vO,(vr 220),(vI 42),vO,(vr 239),(vI 47),vO,(vr 258),(vI 53),vO,(vr 277),(vI 55),vO,(vr 284),(vI 62),vO,(vr 292),(vI 67),vO,(vr 299),(vI 77),vO,(vr 306),(vI 86),vO,(vr 313),(vI 92),vO,(vr 318),(vI 95),vO,(vr 325),(vI 100),vO,(vr 330),(vI 106),vO,(vr 335),(vI 108),vO,(vr 342),(vI 111),vO,(vr 349),(vI 114),vO,(vr 354),(vI 120),vO,(vr 359),(vI 123),vO,(vr 366)]
def ztq:=h0 #[(vS x.s.b.c.b 574),(vS x.s.b.c.c 575),(vS x.s.b.c.d 576),(vS x.s.a.h.g 577),(vS x.s.a.h.h 578),(vS x.s.b.a.a 579)]
def ztd:=h11 29 s45
def ztC:=h2 s45 571 s45 572 573 67 (vI 1) (vI 3) 294 (.bool true) 295 (vr 296) (vr 297) (vr 298) 580 581
def zue:=h12 29 s45 s40 549 299
def zuk:=h0 #[(vS x.s.b.c.e 586),(vS x.s.a.h.f 587),(vS x.s.b.c.b 588),(vS x.s.a.g.f 589),(vS x.s.a.e.e 590)]
def ztg:=h11 30 s46
def zul:=h2 s46 583 s46 584 585 77 (vI 1) (vI 3) 301 (.bool true) 302 (vr 303) (vr 304) (vr 305) 591 592
def ztx:=h12 30 s46 s40 549 306
def zug:=h0 #[(vS s22 597)]
def zuO:=h11 31 s47
def zuP:=h2 s47 594 s47 595 596 86 (vI 1) (vI 3) 308 (.bool true) 309 (vr 310) (vr 311) (vr 312) 598 599
def zum:=h12 31 s47 s40 549 313
def ztE:=h11 35 s48
def zuF:=h2 s48 607 s48 608 609 92 (vI 1) (vI 3) 315 (.bool true) 316 .none .none (vr 317) 610 611
def zt8:=h12 35 s48 s17 601 318
def ztc:=h0 #[(vS s22 616),(vS s75 617),(vS x.s.a.h.g 618),(vS x.s.a.h.h 619)]
def zst:=h11 36 s49
def zsh:=h2 s49 613 s49 614 615 95 (vI 2) (vI 3) 320 (.bool true) 321 (vr 322) (vr 323) (vr 324) 620 621
def zti:=h12 36 s49 s17 601 325
def zta:=h11 37 s50
def zuE:=h2 s50 623 s50 624 625 100 (vI 2) (vI 3) 327 (.bool true) 328 .none .none (vr 329) 626 627
def zrC:=h12 37 s50 s17 601 330
def zrm:=h11 38 s51
def zuM:=h2 s51 629 s51 630 631 106 (vI 1) (vI 3) 332 (.bool true) 333 .none .none (vr 334) 632 633
def ztH:=h12 38 s51 s17 601 335
def ztV:=h0 #[(vS x.s.b.c.e 638)]
def zt5:=h11 39 s52
def zuA:=h2 s52 635 s52 636 637 108 (vI 1) (vI 3) 337 (.bool true) 338 (vr 339) (vr 340) (vr 341) 639 640
def zrX:=h12 39 s52 s17 601 342
def zsg:=h0 #[(vS s22 645),(vS x.s.b.c.g 646)]
def zuw:=h11 40 s53
def ztZ:=h2 s53 642 s53 643 644 111 (vI 2) (vI 3) 344 (.bool true) 345 (vr 346) (vr 347) (vr 348) 647 648
def zqZ:=h12 40 s53 s17 601 349
def zse:=h11 41 s54
def zup:=h2 s54 650 s54 651 652 114 (vI 1) (vI 3) 351 (.bool true) 352 .none .none (vr 353) 653 654
def zwN:=h12 41 s54 s17 601 354
def zvf:=h11 42 s55
def zwP:=h2 s55 656 s55 657 658 120 (vI 1) (vI 3) 356 (.bool true) 357 .none .none (vr 358) 659 660
def zvF:=h12 42 s55 s17 601 359
def zuh:=h0 #[(vS s22 665),(vS x.s.b.c.h 666),(vS x.s.b.d.a 667)]
def zuR:=h11 43 s56
def zvK:=h2 s56 662 s56 663 664 123 (vI 2) (vI 3) 361 (.bool true) 362 (vr 363) (vr 364) (vr 365) 668 669
def zv8:=h12 43 s56 s17 601 366
def b1266:=h4 #[i151,i1,i2,i3,i4,i5,i6,i7,i8,i9,i16,i22,i28,i34,i40,i46,i52,i58,i64,i70,i76,i82,i88,i94,zub,zuW,zvz,i122,i123,i124,i125,i126,i127,i128,i129,i137,i138,i139,i140,i141,i142,i143,i144,i145,i146,i147,i148,i149,i150,i152,i153,i154,i155,i156,i157,i158,i159,i160,i161,i162,i163] 61
def b1267:=h1 #[(vI 2),vO,(vr 20),(vI 4),vO,(vr 33),(vI 6),vO,(vr 45),(vI 8),vO,(vr 57),(vI 10),vO,(vr 69),(vI 12),vO,(vr 81),(vI 14),vO,(vr 93),(vI 16),vO,(vr 105),(vI 18),vO,(vr 117),(vI 20),vO,(vr 129),(vI 22),vO,(vr 141),(vI 24),vO,(vr 153),(vI 26),vO,(vr 165),(vI 28),vO,(vr 177),(vI 30),vO,(vr 189),(vI 32),vO,(vr 201),(vI 37),vO,(vr 220),(vI 42),vO,(vr 239),(vI 47),vO,(vr 258),(vI 53),vO,(vr 277),(vI 55),vO,(vr 284),(vI 62),vO,(vr 292),(vI 67),vO,(vr 299),(vI 77),vO,(vr 306),(vI 86),vO,(vr 313),(vI 92),vO,(vr 318),(vI 95),vO,(vr 325),(vI 100),vO,(vr 330),(vI 106),vO,(vr 335),(vI 108),vO,(vr 342),(vI 111),vO,(vr 349),(vI 114),vO,(vr 354),(vI 120),vO,(vr 359),(vI 123),vO,(vr 366),(vI 128),vO,(vr 371),(vI 131),vO,(vr 378),(vI 134),vO,(vr 385),(vI 140),vO,(vr 392),(vI 147),vO,(vr 399),(vI 158),vO,(vr 406),(vI 166),vO,(vr 413),(vI 172),vO,(vr 420),(vI 186),vO,(vr 427),(vI 198),vO,(vr 434),(vI 202),vO,(vr 441),(vI 222),vO,(vr 448)]
def zvl:=h11 44 s57
def zwJ:=h2 s57 671 s57 672 673 128 (vI 2) (vI 3) 368 (.bool true) 369 .none .none (vr 370) 674 675
def zwl:=h12 44 s57 s17 601 371
def zwo:=h0 #[(vS s21 680),(vS x.s.b.e.g 681)]
def zw4:=h11 45 s58
def zvD:=h2 s58 677 s58 678 679 131 (vI 1) (vI 3) 373 (.bool true) 374 (vr 375) (vr 376) (vr 377) 682 683
def zwe:=h12 45 s58 s17 601 378
def zvy:=h0 #[(vS s21 688),(vS x.s.a.h.f 689),(vS x.s.b.e.g 690),(vS x.s.b.e.h 691)]
def zwc:=h11 46 s59
def zvP:=h2 s59 685 s59 686 687 134 (vI 2) (vI 3) 380 (.bool true) 381 (vr 382) (vr 383) (vr 384) 692 693
def zwz:=h12 46 s59 s17 601 385
def zwI:=h0 #[(vS s21 698),(vS s22 699),(vS x.s.b.e.g 700),(vS x.s.b.f.a 701),(vS x.s.b.f.b 702)]
def zwM:=h11 47 s60
def zwR:=h2 s60 695 s60 696 697 140 (vI 2) (vI 3) 387 (.bool true) 388 (vr 389) (vr 390) (vr 391) 703 704
def zu6:=h12 47 s60 s17 601 392
def zwk:Obj:=⟨(vY t74),none,(.seq #[(vS x.s.b.f.c 709),(vS x.s.b.f.d 710),(vS x.s.b.f.e 711),(vS x.s.b.f.f 712),(vS x.s.a.g.f 713),(vS s21 714),(vS s75 715)] 0),#[]⟩
def zwS:=h11 48 s61
def zvp:=h2 s61 706 s61 707 708 147 (vI 2) (vI 3) 394 (.bool true) 395 (vr 396) (vr 397) (vr 398) 716 717
def zv1:=h12 48 s61 s17 601 399
def zwy:=h0 #[(vS x.s.b.f.c 722),(vS x.s.b.f.f 723),(vS x.s.b.c.e 724)]
def zu5:=h11 49 s62
def zwX:=h2 s62 719 s62 720 721 158 (vI 1) (vI 3) 401 (.bool true) 402 (vr 403) (vr 404) (vr 405) 725 726
def zvN:=h12 49 s62 s17 601 406
def zve:=h0 #[(vS x.s.b.f.c 731)]
def zws:=h0 #[(vS s22 732)]
def zwW:=h11 50 s63
def zwj:=h2 s63 728 s63 729 730 166 (vI 1) (vI 3) 408 (.bool true) 409 (vr 410) (vr 411) (vr 412) 733 734
def zwO:=h12 50 s63 s17 601 413
def zw7:=h0 #[(vS x.s.b.f.g 741),(vS x.s.b.f.h 742),(vS x.s.b.g.a 743),(vS x.s.b.g.b 744),(vS x.s.b.g.c 745),(vS x.s.b.g.d 746)]
def zwV:=h11 52 s64
def zvL:=h2 s64 738 s64 739 740 172 (vI 2) (vI 3) 415 (.bool true) 416 (vr 417) (vr 418) (vr 419) 747 748
def zvX:=h12 52 s64 s18 736 420
def zwu:=h0 #[(vS x.s.b.g.e 753),(vS x.s.b.g.f 754)]
def zvS:=h11 53 s65
def zvH:=h2 s65 750 s65 751 752 186 (vI 1) (vI 3) 422 (.bool true) 423 (vr 424) (vr 425) (vr 426) 755 756
def zwG:=h12 53 s65 s18 736 427
def zwx:=h0 #[(vS x.s.b.g.d 761),(vS x.s.b.g.g 762)]
def zv0:=h11 54 s66
def zvk:=h2 s66 758 s66 759 760 198 (vI 1) (vI 3) 429 (.bool true) 430 (vr 431) (vr 432) (vr 433) 763 764
def zvA:=h12 54 s66 s18 736 434
def zwE:Obj:=⟨(vY t74),none,(.seq #[(vS x.s.b.f.g 769),(vS x.s.b.g.h 770),(vS x.s.b.h.a 771),(vS x.s.b.h.b 772),(vS x.s.b.h.c 773),(vS x.s.b.h.d 774),(vS x.s.b.h.e 775),(vS x.s.b.h.f 776),(vS x.s.b.f.h 777),(vS x.s.b.h.g 778),(vS x.s.b.g.d 779),(vS x.s.b.h.h 780),(vS x.s.c.a.a 781),(vS x.s.b.g.a 782),(vS x.s.c.a.b 783),(vS x.s.c.a.c 784)] 0),#[]⟩
def zw3:=h11 55 s67
def zwK:=h2 s67 766 s67 767 768 202 (vI 4) (vI 3) 436 (.bool true) 437 (vr 438) (vr 439) (vr 440) 785 786
def zwa:=h12 55 s67 s18 736 441
def zvJ:=h0 #[(vS x.s.c.a.d 791),(vS x.s.c.a.e 792),(vS x.s.c.a.b 793),(vS x.s.c.a.c 794),(vS x.s.c.a.f 795)]
def zwq:=h11 56 s68
def zu4:=h2 s68 788 s68 789 790 222 (vI 1) (vI 3) 443 (.bool true) 444 (vr 445) (vr 446) (vr 447) 796 797
def zw9:=h12 56 s68 s18 736 448
def zvx:=h4 #[i151,i1,i2,i3,i4,i5,i6,i7,i8,i9,i16,i22,i28,i34,i40,i46,i52,i58,i64,i70,i76,i82,i88,i94,zub,zuW,zvz,i122,i123,i124,i125,i126,i127,i128,i129,i137,i138,i139,i140,i141,i142,i143,i144,i145,i146,i147,i148,i149,i150,i152,i153,i154,i155,i156,i157,i158,i159,i160,i161,i162,i163,i164,i165,i166,i167,i168] 66
def zwp:=h1 #[(vI 2),vO,(vr 20),(vI 4),vO,(vr 33),(vI 6),vO,(vr 45),(vI 8),vO,(vr 57),(vI 10),vO,(vr 69),(vI 12),vO,(vr 81),(vI 14),vO,(vr 93),(vI 16),vO,(vr 105),(vI 18),vO,(vr 117),(vI 20),vO,(vr 129),(vI 22),vO,(vr 141),(vI 24),vO,(vr 153),(vI 26),vO,(vr 165),(vI 28),vO,(vr 177),(vI 30),vO,(vr 189),(vI 32),vO,(vr 201),(vI 37),vO,(vr 220),(vI 42),vO,(vr 239),(vI 47),vO,(vr 258),(vI 53),vO,(vr 277),(vI 55),vO,(vr 284),(vI 62),vO,(vr 292),(vI 67),vO,(vr 299),(vI 77),vO,(vr 306),(vI 86),vO,(vr 313),(vI 92),vO,(vr 318),(vI 95),vO,(vr 325),(vI 100),vO,(vr 330),(vI 106),vO,(vr 335),(vI 108),vO,(vr 342),(vI 111),vO,(vr 349),(vI 114),vO,(vr 354),(vI 120),vO,(vr 359),(vI 123),vO,(vr 366),(vI 128),vO,(vr 371),(vI 131),vO,(vr 378),(vI 134),vO,(vr 385),(vI 140),vO,(vr 392),(vI 147),vO,(vr 399),(vI 158),vO,(vr 406),(vI 166),vO,(vr 413),(vI 172),vO,(vr 420),(vI 186),vO,(vr 427),(vI 198),vO,(vr 434),(vI 202),vO,(vr 441),(vI 222),vO,(vr 448),(vI 227),vO,(vr 455),(vI 245),vO,(vr 462),(vI 256),vO,(vr 469),(vI 284),vO,(vr 476),(vI 292),vO,(vr 481)]
def zw6:Obj:=⟨(vY t74),none,(.seq #[(vS x.s.b.f.g 802),(vS x.s.b.g.h 803),(vS x.s.c.b.d 804),(vS x.s.c.b.e 805),(vS x.s.b.f.h 806),(vS x.s.b.g.d 807),(vS x.s.c.b.f 808),(vS x.s.b.g.c 809),(vS x.s.c.b.g 810),(vS x.s.c.b.h 811),(vS x.s.c.c.a 812),(vS x.s.c.c.b 813)] 0),#[]⟩
def zvO:=h11 57 s69
def zwh:=h2 s69 799 s69 800 801 227 (vI 3) (vI 3) 450 (.bool true) 451 (vr 452) (vr 453) (vr 454) 814 815
def zvh:=h12 57 s69 s18 736 455
def zwQ:=h0 #[(vS x.s.c.b.d 820),(vS x.s.c.b.e 821),(vS x.s.c.a.e 822),(vS x.s.c.b.h 823),(vS x.s.c.b.g 824),(vS x.s.c.c.c 825)]
def zv9:=h11 58 s70
def zu7:=h2 s70 817 s70 818 819 245 (vI 2) (vI 3) 457 (.bool true) 458 (vr 459) (vr 460) (vr 461) 826 827
def zvt:=h12 58 s70 s18 736 462
def zvr:Obj:=⟨(vY t74),none,(.seq #[(vS x.s.c.a.e 832),(vS x.s.c.c.d 833),(vS x.s.c.c.e 834),(vS x.s.b.g.a 835),(vS x.s.c.c.f 836),(vS x.s.c.c.g 837),(vS x.s.c.c.h 838),(vS x.s.c.d.a 839),(vS x.s.b.g.g 840),(vS x.s.c.d.b 841)] 0),#[]⟩
def zwD:=h11 59 s71
def zvm:=h2 s71 829 s71 830 831 256 (vI 2) (vI 3) 464 (.bool true) 465 (vr 466) (vr 467) (vr 468) 842 843
def zv3:=h12 59 s71 s18 736 469
def zvu:=h0 #[(vS x.s.b.g.g 848),(vS x.s.c.a.e 849),(vS x.s.b.g.e 850),(vS x.s.c.d.c 851),(vS x.s.c.d.d 852)]
def zw8:=h11 60 s72
def zwZ:=h2 s72 845 s72 846 847 284 (vI 2) (vI 3) 471 (.bool true) 472 (vr 473) (vr 474) (vr 475) 853 854
def zwt:=h12 60 s72 s18 736 476
def zvo:=h11 61 s73
def zwn:=h2 s73 856 s73 857 858 292 (vI 1) (vI 3) 478 (.bool true) 479 .none .none (vr 480) 859 860
def zva:=h12 61 s73 s18 736 481
def m852:Heap:=⟨⟨[r1,r2,r3,x.r.a.a.d,r4,r5,r6,r7,r8,r9,r10,zao,zaP,zg8,zg6]⟩,⟨[],[],[],0,[],[],false,#[],[],0,false,false,false,0,[2000,10,10],false,0,true,[],[],0,false⟩⟩
def q0:=L zao
def q1:=L zaP
def q2:=L zaW
def q3:=N zaP q0 z
def q4:=L zbx
def q5:=N zh9 (L zlr) (L zl1)
def q6:=N zbx q1 z
def q7:=N zao (L zmm) (L zmP)
def q8:=N zij (N zao (L zow) z) q0
def q9:=N zaW (L zl3) (L zmn)
def q10:=N ziJ (L zml) (L znW)
def q11:=N zao q0 z
def q12:=N zig (N zao (L znH) z) q0
def q13:=N zin (N zaW (L zpN) z) (L zlQ)
def q14:=N zaP q4 z
def q15:=N zbx (L zqC) z
def q16:=N zh8 (N zmM (L zp5) z) (L zmF)
def q17:=N zie (N zj3 q0 z) (N zao (L zm6) z)
def q18:=N zii (N zlb (L zop) z) (N zaW (L zoE) z)
def q19:=N zio (N zk3 q1 z) (N zbx (L zov) z)
def q20:=N zao (N zk8 (L zqe) z) (N zmj (L zqb) z)
def q21:=N zaP (N zao q0 (L zqI)) (N zj9 q0 z)
def q22:=N zh9 (N zlr q2 (L zqa)) (N zl1 (L zon) z)
def q23:=N zaW (N zaP q4 (L zos)) (N zkD q1 z)
def q24:=N zmm (L zoI) (L zqG)
def q25:=N zao q24 (N zmP (L zqv) z)
def q26:=N zij (N zao (L zow) q0) (N zao q0 (L zqM))
def q27:=N zaW (L zpN) (L zsG)
def q28:=N zaW (N zl3 q2 (L zqD)) (N zmn (L zor) z)
def q29:=N zbx (L zqC) q1
def q30:=N zbx (N zaP q4 (L zqF)) (N zk4 q1 z)
def q31:=N zmM (L zp5) (L zsF)
def q32:=N zk8 (L zqe) (L zsX)
def q33:=N zml (L zpQ) (L zs1)
def q34:=N ziJ q33 (N znW (L zoY) z)
def q35:=N zig (N zao (L znH) q0) (N zao q0 (L zr3))
def q36:=N zin q27 (N zlQ q2 (L zsm))
def q37:=N zaW (L zoE) (L zs3)
def q38:=N zaP q4 (L zs5)
def q39:=N zmP (L zqv) (L zsL)
def q40:=N zmF (L zoS) (L zsS)
def q41:=N zmj (L zqb) (L zsN)
def q42:=N zao (N zow q0 z) q0
def q43:=N zj3 (N zao (L zl8) z) q0
def q44:=N zie q43 (N zao (L zm6) q0)
def q45:=N zao q11 (L zqI)
def q46:=N zlr (N zaW (L ztp) z) (L zqa)
def q47:=N zlb (N zop (L zlR) z) q2
def q48:=N zk3 (N zaP (L zjS) z) q4
def q49:=N zio q48 (N zbx (L zov) q1)
def q50:=N zmm (N zoI (L zuv) z) (L zqG)
def q51:=N zk8 (N zqe (L znZ) z) (L zsX)
def q52:=N znW (L zoY) (L zsB)
def q53:=N zao q11 (L zqM)
def q54:=N zj9 (N zao (L zlp) z) q0
def q55:=N zao (N znH q0 z) q0
def q56:=N zl1 (N zon (L zkh) z) q2
def q57:=N zaW (N zpN q2 z) (L zsG)
def q58:=N zl3 (N zaW (L zm4) z) (L zqD)
def q59:=N zkD (N zaP (L zl7) z) q4
def q60:=N zaW (N zaP q6 (L zos)) q59
def q61:=N zbx (N zqC q4 z) q1
def q62:=N zmP (N zqv (L znJ) z) (L zsL)
def q63:=N zmM (N zp5 (L zod) z) (L zsF)
def q64:=N zml (N zpQ (L znl) z) (L zs1)
def q65:=N zao (N zow q0 z) (N zao (L zkR) z)
def q66:=N zao (N zm6 q0 z) q0
def q67:=N zao q11 (L zr3)
def q68:=N zlQ (N zaW (L znu) z) (L zsm)
def q69:=N zaW (N zoE q2 z) (L zs3)
def q70:=N zmn (N zor (L zm3) z) q2
def q71:=N zaP q6 (L zs5)
def q72:=N zbx (N zov q4 z) q1
def q73:=N zk4 (N zaP (L znU) z) q4
def q74:=N zbx (N zaP q6 (L zqF)) q73
def q75:=N zmF (N zoS (L zlM) z) (L zsS)
def q76:=N zmj (N zqb (L znc) z) (L zsN)
def q77:=N znW (N zoY (L znE) z) (L zsB)
def q78:=N zj3 (N zao (L zl8) z) q11
def q79:=N zao q11 (N zqI q0 z)
def q80:=N zao (N znH q0 z) (N zao (L zn2) z)
def q81:=N zlr (N zaW (L ztp) z) (N zqa q2 z)
def q82:=N zaW (N zpN q2 z) (N zsG (L znI) z)
def q83:=N zlb (N zop (L zlR) z) (N zaW (L znF) z)
def q84:=N zaP q6 (N zos q4 z)
def q85:=N zbx (N zqC q4 z) (N zaP (L znK) z)
def q86:=N zk3 (N zaP (L zjS) z) q6
def q87:=N zmm (N zoI (L zuv) z) (N zqG (L zkj) z)
def q88:=N zmM (N zp5 (L zod) z) (N zsF (L zmY) z)
def q89:=N zk8 (N zqe (L znZ) z) (N zsX (L znm) z)
def q90:=N zao q11 (N zqM q0 z)
def q91:=N zao (N zm6 q0 z) (N zao (L znj) z)
def q92:=N zj9 (N zao (L zlp) z) q11
def q93:=N zl1 (N zon (L zkh) z) (N zaW (L znM) z)
def q94:=N zii q83 (N zaW (N zoE q2 z) (N zs3 (L znP) z))
def q95:=N zl3 (N zaW (L zm4) z) (N zqD q2 z)
def q96:=N zkD (N zaP (L zl7) z) q6
def q97:=N zio q86 (N zbx (N zov q4 z) (N zaP (L znS) z))
def q98:=N zaP q6 (N zqF q4 z)
def q99:=N zmP (N zqv (L znJ) z) (N zsL (L zn8) z)
def q100:=N zao q89 (N zmj (N zqb (L znc) z) (N zsN (L zol) z))
def q101:=N zml (N zpQ (L znl) z) (N zs1 (L znC) z)
def q102:=N zao (N zow q0 q0) (N zao (L zkR) z)
def q103:=N zao q0 (L zng)
def q104:=N zao q103 (N zqI q0 z)
def q105:=N zao q11 (N zr3 q0 z)
def q106:=N zaW (L ztp) (L zpb)
def q107:=N zlr q106 (N zqa q2 z)
def q108:=N zlQ (N zaW (L znu) z) (N zsm q2 z)
def q109:=N zmn (N zor (L zm3) z) (N zaW (L zoc) z)
def q110:=N zbx q1 (L zpj)
def q111:=N zaP q110 (N zos q4 z)
def q112:=N zaP q6 (N zs5 q4 z)
def q113:=N zk4 (N zaP (L znU) z) q6
def q114:=N zoI (L zuv) (L zqr)
def q115:=N zmm q114 (N zqG (L zkj) z)
def q116:=N zmF (N zoS (L zlM) z) (N zsS (L znz) z)
def q117:=N znW (N zoY (L znE) z) (N zsB (L zn4) z)
def q118:=N zao q0 (L zpM)
def q119:=N zao q118 (N zqM q0 z)
def q120:=N zao (L zl8) q0
def q121:=N zao (L zlp) (L zoM)
def q122:=N zao (N znH q0 q0) (N zao (L zn2) z)
def q123:=N zon (L zkh) (L zoh)
def q124:=N zl1 q123 (N zaW (L znM) z)
def q125:=N zpN q2 (L zoJ)
def q126:=N zop (L zlR) q2
def q127:=N zoE q2 (L zpU)
def q128:=N zaW q127 (N zs3 (L znP) z)
def q129:=N zaW (L zm4) (L znq)
def q130:=N zl3 q129 (N zqD q2 z)
def q131:=N zaP (L zl7) (L zoL)
def q132:=N zqC q4 (L zoi)
def q133:=N zaP (L zjS) q4
def q134:=N zov q4 (L zn9)
def q135:=N zbx q134 (N zaP (L znS) z)
def q136:=N zbx q1 q1
def q137:=N zaP q136 (N zqF q4 z)
def q138:=N zqv (L znJ) (L zn1)
def q139:=N zmP q138 (N zsL (L zn8) z)
def q140:=N zp5 (L zod) (L zp4)
def q141:=N zmM q140 (N zsF (L zmY) z)
def q142:=N zqe (L znZ) (L zpJ)
def q143:=N zqb (L znc) (L zp1)
def q144:=N zmj q143 (N zsN (L zol) z)
def q145:=N zpQ (L znl) q0
def q146:=N zml q145 (N zs1 (L znC) z)
def q147:=N zao (N zow q0 q0) (N zao (L zkR) q1)
def q148:=N zao q0 (L zuj)
def q149:=N zao q103 (N zqI q0 (L zqS))
def q150:=N zao q0 (L znh)
def q151:=N zlr q106 (N zqa q2 q0)
def q152:=N zsG (L znI) (L zrZ)
def q153:=N zaW (L znu) (L znt)
def q154:=N zlb q126 (N zaW (L znF) (L zpZ))
def q155:=N zmn (N zor (L zm3) (L zoK)) (N zaW (L zoc) z)
def q156:=N zaP q110 (N zos q4 (L znT))
def q157:=N zaP (L znK) (L ztM)
def q158:=N zk3 q133 (N zbx q1 (L zoC))
def q159:=N zaP (L znU) (L zqq)
def q160:=N zmm q114 (N zqG (L zkj) (L zps))
def q161:=N zoS (L zlM) q0
def q162:=N zsX (L znm) (L ztN)
def q163:=N znW (N zoY (L znE) q0) (N zsB (L zn4) z)
def q164:=N zqM q0 (L zt6)
def q165:=N zao (L znj) (L zq6)
def q166:=N zao q0 (L zsd)
def q167:=N zao (L zn2) q2
def q168:=N zr3 q0 (L zqW)
def q169:=N zaW (L znM) q0
def q170:=N zsm q2 (L zr0)
def q171:=N zs3 (L znP) (L zqR)
def q172:=N zbx q1 (L zqP)
def q173:=N zs5 q4 (L zsv)
def q174:=N zaP (L znS) q0
def q175:=N zqF q4 (L zrO)
def q176:=N zbx q1 (L zrF)
def q177:=N zsL (L zn8) q1
def q178:=N zsF (L zmY) q4
def q179:=N zsS (L znz) (L zrH)
def q180:=N zsN (L zol) (L zq2)
def q181:=N zs1 (L znC) (L ztv)
def q182:=N znu (L ztW) z
def q183:=N znF (L zuI) z
def q184:=N zm4 (L ztr) z
def q185:=N zm3 (L ztw) z
def q186:=N zaP q1 z
def q187:=N znU (L ztB) z
def q188:=N znJ (L zud) z
def q189:=N zod (L zuC) z
def q190:=N znZ (L ztU) z
def q191:=N znc (L zt4) z
def q192:=N znl (L ztS) z
def q193:=N znE (L zuq) z
def q194:=N zpM (L zuM) z
def q195:=N zt6 (L zv8) z
def q196:=N zuj (L zwP) z
def q197:=N zqS (L zwN) z
def q198:=N zoM (L ztV) z
def q199:=N zoJ (L zta) z
def q200:=N zpU (L zt5) z
def q201:=N zaW q0 z
def q202:=N zoK (L ztZ) z
def q203:=N zoL (L ztH) z
def q204:=N ztM (L zvF) z
def q205:=N zqq (L zuw) z
def q206:=N zqr (L ztc) z
def q207:=N zps (L zup) z
def q208:=N zp4 (L zuE) z
def q209:=N zpJ (L zti) z
def q210:=N ztN (L zvf) z
def q211:=N zp1 (L zuA) z
def q212:=N ztv (L zvK) z
def q213:=N zow (N zao (L zsx) q0) (N zao (L zt8) (L zwq))
def q214:=N zao (L zrq) (L zvp)
def q215:=N zqM (N zao (L zuk) (L zwx)) q195
def q216:=N zl8 q0 (L zwM)
def q217:=N zao (N zao q1 q1) q196
def q218:=N zao q0 (L zvN)
def q219:=N zao (N znj q0 q0) (N zq6 (L zwo) z)
def q220:=N zao (L zrB) q0
def q221:=N zqI (N zao (L zr1) (L zwV)) q197
def q222:=N zlp q0 (L zwy)
def q223:=N zao (N zao (L ztx) (L zvA)) (N zsd (L zwJ) z)
def q224:=N zao (L zqL) q1
def q225:=N zao (N zn2 (L ztC) (L zvH)) (N zaW (L zuh) z)
def q226:=N zao (L zq3) (L zws)
def q227:=N zr3 (N zao q0 q0) (N zqW (L zwe) z)
def q228:=N zaW (N ztp (L zrx) (L zvP)) (N zpb q1 (L zw9))
def q229:=N zaW (L zqJ) (L zw7)
def q230:=N zaW (N znM (L ztg) (L zv0)) (N zao q1 z)
def q231:=N zaW (L zrQ) (L zu6)
def q232:=N zsG (N znI q0 q0) (N zrZ q0 z)
def q233:=N znu (L ztW) q1
def q234:=N zsm (N zaW (L zuP) (L zwK)) (N zr0 (L zw4) z)
def q235:=N zlR q1 (L zwI)
def q236:=N zaW (N znF (L zuI) (L zvX)) (N zpZ q1 z)
def q237:=N zaW (L zqN) (L zu5)
def q238:=N zs3 (N znP q1 q1) (N zqR q0 z)
def q239:=N zm4 (L ztr) q0
def q240:=N zqD (N zaW q0 q0) (N zao (L zuR) z)
def q241:=N zm3 (L ztw) (L zwj)
def q242:=N zaW (N zoc (L ztE) (L zvJ)) q6
def q243:=N zbx (N zaP q0 (L zwc)) (N zpj q0 (L zu4))
def q244:=N zl7 q0 (L zv1)
def q245:=N zbx (N zaP q0 q0) (N zqP q0 z)
def q246:=N zbx (L zrz) (L zwR)
def q247:=N zaP (N znK (L ztq) (L zwu)) q204
def q248:=N zs5 (N zbx (L zuO) (L zw3)) (N zsv q0 z)
def q249:=N zbx (N zaP (L zrA) (L zvL)) (N zoC q0 z)
def q250:=N zbx (L zsa) q0
def q251:=N zaP (N znS q0 q0) (N zao (L zwl) z)
def q252:=N zaP (L zq0) (L zwk)
def q253:=N zqF (N zbx (L zue) (L zwG)) (N zrO q0 z)
def q254:=N znU (L ztB) (L zwW)
def q255:=N zbx (N zaP q1 q1) (N zrF q0 z)
def q256:=N zuv (L zra) (L zwz)
def q257:=N znJ (L zud) q1
def q258:=N zsL (N zn8 (L zul) (L zvk)) (N zaP (L zvl) z)
def q259:=N zod (L zuC) q0
def q260:=N zsF (N zmY (L ztd) (L zvS)) q6
def q261:=N zlM q0 (L zve)
def q262:=N zsS (N znz (L zum) (L zwa)) (N zrH (L zvD) z)
def q263:=N znZ (L ztU) q0
def q264:=N zsX (N znm q0 q0) q210
def q265:=N znc (L zt4) (L zwX)
def q266:=N zsN (N zol (L zug) (L zwE)) (N zq2 q1 z)
def q267:=N znl (L ztS) (L zwS)
def q268:=N zs1 (N znC q1 q1) q212
def q269:=N znE (L zuq) (L zwO)
def q270:=N zsB (N zn4 (L zuF) q0) (N zaW (L zvy) z)
def m853:=N r1 (N r2 (N x.r.a.a.d (L r7) q0) (N r5 (L r9) (L zg8))) (N r3 (N r4 (L r8) q1) (N r6 (L r10) (L zg6)))
def m869:=N r1 (N r2 (N b855 (N r7 (L zij) (L zie)) (N zao q1 (L zig))) (N r5 (N r9 (L zh9) (L zin)) (N zg8 (L zii) z))) (N r3 (N r4 (N r8 q2 (L b866)) (N b856 (L zio) z)) (N r6 (N r10 q0 (L zh8)) (N zg6 q0 z)))
def m884:=N r1 (N r2 (N b870 (N r7 (N zij q0 z) (N zie (L zj3) z)) (N zao q3 (L zig))) (N r5 (N r9 (N zh9 (L zlr) z) (L zin)) (N zg8 (N zii (L zlb) z) q2))) (N r3 (N r4 (N r8 (N zaW q1 z) (L b872)) (N b871 (N zio (L zk3) z) q4)) (N r6 (N r10 (N zao (L zmm) z) (L zh8)) (N zg6 (N zao (L zk8) z) (L ziJ))))
def m899:=N r1 (N r2 (N b885 (N r7 (N zij q0 q0) (N zie (L zj3) z)) (N zao (N zaP q0 (L zj9)) (N zig q0 z))) (N r5 (N r9 q5 (N zin q2 z)) (N zg8 (N zii (L zlb) z) (N zaW (L zl3) z)))) (N r3 (N r4 (N r8 (N zaW q1 (L zkD)) (N b887 q4 z)) (N b886 (N zio (L zk3) z) q6)) (N r6 (N r10 q7 (N zh8 (L zmM) z)) (N zg6 (N zao (L zk8) z) (N ziJ (L zml) z))))
def m914:=N r1 (N r2 (N b900 (N r7 q8 (N zie (L zj3) q0)) (N zao (N zaP q0 (L zj9)) (N zig q0 q0))) (N r5 (N r9 q5 (N zin q2 (L zlQ))) (N zg8 (N zii (L zlb) q2) q9))) (N r3 (N r4 (N r8 (N zaW q1 (L zkD)) (N b902 q4 q1)) (N b901 (N zio (L zk3) q4) (N zbx q1 (L zk4)))) (N r6 (N r10 q7 (N zh8 (L zmM) (L zmF))) (N zg6 (N zao (L zk8) (L zmj)) q10)))
def m929:=N r1 (N r2 (N b915 (N r7 q8 (N zie (N zj3 q0 z) q0)) (N zao (N zaP q11 (L zj9)) q12)) (N r5 (N r9 (N zh9 (N zlr q2 z) (L zl1)) q13) (N zg8 (N zii (N zlb (L zop) z) q2) q9))) (N r3 (N r4 (N r8 (N zaW q14 (L zkD)) (N b917 q15 q1)) (N b916 (N zio (N zk3 q1 z) q4) (N zbx q1 (L zk4)))) (N r6 (N r10 (N zao (N zmm (L zoI) z) (L zmP)) q16) (N zg6 (N zao (N zk8 (L zqe) z) (L zmj)) q10)))
def m944:=N r1 (N r2 (N b930 (N r7 (N zij (N zao (L zow) z) q11) q17) (N zao (N zaP q11 (N zj9 q0 z)) q12)) (N r5 (N r9 (N zh9 (N zlr q2 z) (N zl1 (L zon) z)) q13) (N zg8 q18 (N zaW (N zl3 q2 z) (L zmn))))) (N r3 (N r4 (N r8 (N zaW q14 (N zkD q1 z)) (N b932 q15 q1)) (N b931 q19 (N zbx q14 (L zk4)))) (N r6 (N r10 (N zao (N zmm (L zoI) z) (N zmP (L zqv) z)) q16) (N zg6 q20 (N ziJ (N zml (L zpQ) z) (L znW)))))
def m959:=N r1 (N r2 (N b945 (N r7 (N zij (N zao (L zow) q0) q11) q17) (N zao q21 (N zig (N zao (L znH) z) q11))) (N r5 (N r9 q22 (N zin (N zaW (L zpN) z) (N zlQ q2 z))) (N zg8 q18 (N zaW (N zl3 q2 z) (N zmn (L zor) z))))) (N r3 (N r4 (N r8 q23 (N b947 q15 q14)) (N b946 q19 (N zbx q14 (N zk4 q1 z)))) (N r6 (N r10 q25 (N zh8 (N zmM (L zp5) z) (N zmF (L zoS) z))) (N zg6 q20 (N ziJ (N zml (L zpQ) z) (N znW (L zoY) z)))))
def m974:=N r1 (N r2 (N b960 (N r7 q26 (N zie (N zj3 q0 q0) (N zao (L zm6) z))) (N zao q21 (N zig (N zao (L znH) q0) q11))) (N r5 (N r9 q22 (N zin q27 (N zlQ q2 z))) (N zg8 (N zii (N zlb (L zop) q2) (N zaW (L zoE) z)) q28))) (N r3 (N r4 (N r8 q23 (N b962 q29 q14)) (N b961 (N zio (N zk3 q1 q4) (N zbx (L zov) z)) q30)) (N r6 (N r10 q25 (N zh8 q31 (N zmF (L zoS) z))) (N zg6 (N zao q32 (N zmj (L zqb) z)) q34)))
def m989:=N r1 (N r2 (N b975 (N r7 q26 (N zie (N zj3 q0 q0) (N zao (L zm6) q0))) (N zao (N zaP (N zao q0 (L zqI)) (N zj9 q0 q0)) q35)) (N r5 (N r9 (N zh9 (N zlr q2 (L zqa)) (N zl1 (L zon) q2)) q36) (N zg8 (N zii (N zlb (L zop) q2) q37) q28))) (N r3 (N r4 (N r8 (N zaW (N zaP q4 (L zos)) (N zkD q1 q4)) (N b977 q29 q38)) (N b976 (N zio (N zk3 q1 q4) (N zbx (L zov) q1)) q30)) (N r6 (N r10 (N zao q24 q39) (N zh8 q31 q40)) (N zg6 (N zao q32 q41) q34)))
def m1004:=N r1 (N r2 (N b990 (N r7 (N zij q42 (N zao q0 (L zqM))) q44) (N zao (N zaP q45 (N zj9 q0 q0)) q35)) (N r5 (N r9 (N zh9 q46 (N zl1 (L zon) q2)) q36) (N zg8 (N zii q47 q37) (N zaW (N zl3 q2 (L zqD)) (N zmn (L zor) q2))))) (N r3 (N r4 (N r8 (N zaW (N zaP q6 (L zos)) (N zkD q1 q4)) (N b992 q29 q38)) (N b991 q49 (N zbx (N zaP q4 (L zqF)) (N zk4 q1 q4)))) (N r6 (N r10 (N zao q50 q39) (N zh8 q31 q40)) (N zg6 (N zao q51 q41) (N ziJ q33 q52))))
def m1019:=N r1 (N r2 (N b1005 (N r7 (N zij q42 q53) q44) (N zao (N zaP q45 q54) (N zig q55 (N zao q0 (L zr3))))) (N r5 (N r9 (N zh9 q46 q56) (N zin q57 (N zlQ q2 (L zsm)))) (N zg8 (N zii q47 q37) (N zaW q58 (N zmn (L zor) q2))))) (N r3 (N r4 (N r8 q60 (N b1007 q61 q38)) (N b1006 q49 (N zbx (N zaP q6 (L zqF)) (N zk4 q1 q4)))) (N r6 (N r10 (N zao q50 q62) (N zh8 q63 q40)) (N zg6 (N zao q51 q41) (N ziJ q64 q52))))
def m1034:=N r1 (N r2 (N b1020 (N r7 (N zij q65 q53) (N zie q43 q66)) (N zao (N zaP q45 q54) (N zig q55 q67))) (N r5 (N r9 (N zh9 q46 q56) (N zin q57 q68)) (N zg8 (N zii q47 q69) (N zaW q58 q70)))) (N r3 (N r4 (N r8 q60 (N b1022 q61 q71)) (N b1021 (N zio q48 q72) q74)) (N r6 (N r10 (N zao q50 q62) (N zh8 q63 q75)) (N zg6 (N zao q51 q76) (N ziJ q64 q77))))
def m1049:=N r1 (N r2 (N b1035 (N r7 (N zij q65 q53) (N zie q78 q66)) (N zao (N zaP q79 q54) (N zig q80 q67))) (N r5 (N r9 (N zh9 q81 q56) (N zin q82 q68)) (N zg8 (N zii q83 q69) (N zaW q58 q70)))) (N r3 (N r4 (N r8 (N zaW q84 q59) (N b1037 q85 q71)) (N b1036 (N zio q86 q72) q74)) (N r6 (N r10 (N zao q87 q62) (N zh8 q88 q75)) (N zg6 (N zao q89 q76) (N ziJ q64 q77))))
def m1064:=N r1 (N r2 (N b1050 (N r7 (N zij q65 q90) (N zie q78 q91)) (N zao (N zaP q79 q92) (N zig q80 q67))) (N r5 (N r9 (N zh9 q81 q93) (N zin q82 q68)) (N zg8 q94 (N zaW q95 q70)))) (N r3 (N r4 (N r8 (N zaW q84 q96) (N b1052 q85 q71)) (N b1051 q97 (N zbx q98 q73))) (N r6 (N r10 (N zao q87 q99) (N zh8 q88 q75)) (N zg6 q100 (N ziJ q101 q77))))
def m1079:=N r1 (N r2 (N b1065 (N r7 (N zij q102 q90) (N zie q78 q91)) (N zao (N zaP q104 q92) (N zig q80 q105))) (N r5 (N r9 (N zh9 q107 q93) (N zin q82 q108)) (N zg8 q94 (N zaW q95 q109)))) (N r3 (N r4 (N r8 (N zaW q111 q96) (N b1067 q85 q112)) (N b1066 q97 (N zbx q98 q113))) (N r6 (N r10 (N zao q115 q99) (N zh8 q88 q116)) (N zg6 q100 (N ziJ q101 q117))))
def m1101:=N r1 (N r2 (N b1080 (N r7 (N zij q102 q119) (N zie (N zj3 q120 q11) q91)) (N zao (N zaP q104 (N zj9 q121 q11)) (N zig q122 q105))) (N r5 (N r9 (N zh9 q107 q124) (N zin (N zaW q125 (N zsG (L znI) z)) q108)) (N zg8 (N zii (N zlb q126 (N zaW (L znF) z)) q128) (N zaW q130 q109)))) (N r3 (N r4 (N r8 (N zaW q111 (N zkD q131 q6)) (N b1082 (N zbx q132 (N zaP (L znK) z)) q112)) (N b1081 (N zio (N zk3 q133 q6) q135) (N zbx q137 q113))) (N r6 (N r10 (N zao q115 q139) (N zh8 q141 q116)) (N zg6 (N zao (N zk8 q142 (N zsX (L znm) z)) q144) (N ziJ q146 q117))))
def m1123:=N r1 (N r2 (N b1102 (N r7 (N zij q147 q119) (N zie (N zj3 q120 q148) (N zao (N zm6 q0 q4) (N zao (L znj) z)))) (N zao (N zaP q149 (N zj9 q121 q11)) (N zig q122 (N zao q150 (N zr3 q0 z))))) (N r5 (N r9 (N zh9 q151 q124) (N zin (N zaW q125 q152) (N zlQ q153 (N zsm q2 z)))) (N zg8 (N zii q154 q128) (N zaW q130 q155)))) (N r3 (N r4 (N r8 (N zaW q156 (N zkD q131 q6)) (N b1104 (N zbx q132 q157) (N zaP (N zbx q1 q2) (N zs5 q4 z)))) (N b1103 (N zio q158 q135) (N zbx q137 (N zk4 q159 q6)))) (N r6 (N r10 (N zao q160 q139) (N zh8 q141 (N zmF q161 (N zsS (L znz) z)))) (N zg6 (N zao (N zk8 q142 q162) q144) (N ziJ q146 q163))))
def m1145:=N r1 (N r2 (N b1124 (N r7 (N zij q147 (N zao q118 q164)) (N zie (N zj3 q120 q148) (N zao (N zm6 q0 q4) q165))) (N zao (N zaP q149 (N zj9 q121 q166)) (N zig (N zao (N znH q0 q0) q167) (N zao q150 q168)))) (N r5 (N r9 (N zh9 q151 (N zl1 q123 q169)) (N zin (N zaW q125 q152) (N zlQ q153 q170))) (N zg8 (N zii q154 (N zaW q127 q171)) (N zaW (N zl3 q129 (N zqD q2 q0)) q155)))) (N r3 (N r4 (N r8 (N zaW q156 (N zkD q131 q172)) (N b1126 (N zbx q132 q157) (N zaP (N zbx q1 q2) q173))) (N b1125 (N zio q158 (N zbx q134 q174)) (N zbx (N zaP q136 q175) (N zk4 q159 q176)))) (N r6 (N r10 (N zao q160 (N zmP q138 q177)) (N zh8 (N zmM q140 q178) (N zmF q161 q179))) (N zg6 (N zao (N zk8 q142 q162) (N zmj q143 q180)) (N ziJ (N zml q145 q181) q163))))
def m1189:=N r1 (N r2 (N b1146 (N r7 (N zij (N zao (N zow (N zao (L zsx) z) q0) (N zao (N zkR q0 z) q1)) (N zao (N zao (N zao (L zrq) z) (L zpM)) q164)) (N zie (N zj3 (N zao (N zl8 q0 z) q0) q148) (N zao (N zm6 q11 q4) q165))) (N zao (N zaP (N zao (N zao (N zao (L zrB) z) (L zng)) (N zqI (N zao (L zr1) z) (L zqS))) (N zj9 (N zao (N zlp q0 z) (L zoM)) q166)) (N zig (N zao (N znH (N zao (L zqL) z) q0) q167) (N zao (N zao (N zao (L zq3) z) (L znh)) q168)))) (N r5 (N r9 (N zh9 (N zlr (N zaW (N ztp (L zrx) z) (L zpb)) (N zqa (N zaW (L zqJ) z) q0)) (N zl1 (N zon (N zkh q1 z) (L zoh)) q169)) (N zin (N zaW (N zpN (N zaW (L zrQ) z) (L zoJ)) q152) (N zlQ (N zaW q182 (L znt)) q170))) (N zg8 (N zii (N zlb (N zop (N zlR q1 z) q2) (N zaW q183 (L zpZ))) (N zaW (N zoE (N zaW (L zqN) z) (L zpU)) q171)) (N zaW (N zl3 (N zaW q184 (L znq)) (N zqD q2 q0)) (N zmn (N zor q185 (L zoK)) (N zaW (L zoc) q4)))))) (N r3 (N r4 (N r8 (N zaW (N zaP (N zbx q3 (L zpj)) (N zos q6 (L znT))) (N zkD (N zaP (N zl7 q0 z) (L zoL)) q172)) (N zqc (N zbx (N zqC (N zbx (L zrz) z) (L zoi)) q157) (N zaP (N zbx q186 q2) q173))) (N b1147 (N zio (N zk3 (N zaP (N zjS q0 z) q4) (N zbx (N zaP (L zrA) z) (L zoC))) (N zbx (N zov (N zbx (L zsa) z) (L zn9)) q174)) (N zbx (N zaP (N zbx (N zaP (L zq0) z) q1) q175) (N zk4 (N zaP q187 (L zqq)) q176)))) (N r6 (N r10 (N zao (N zmm (N zoI (N zuv (L zra) z) (L zqr)) (N zqG (N zkj q0 z) (L zps))) (N zmP (N zqv q188 (L zn1)) q177)) (N zh8 (N zmM (N zp5 q189 (L zp4)) q178) (N zmF (N zoS (N zlM q0 z) q0) q179))) (N zg6 (N zao (N zk8 (N zqe q190 (L zpJ)) q162) (N zmj (N zqb q191 (L zp1)) q180)) (N ziJ (N zml (N zpQ q192 q0) q181) (N znW (N zoY q193 q0) (N zsB (L zn4) q2))))))
def m1265:=N r1 (N r2 (N b1190 (N r7 (N zij (N zao (N zow (N zao (L zsx) z) (N zao (L zt8) z)) (N zao (N zkR q0 z) q3)) (N zao (N zao (N zao (L zrq) z) q194) (N zqM (N zao (L zuk) z) q195))) (N zie (N zj3 (N zao (N zl8 q0 z) q11) (N zao (N zao q1 z) q196)) (N zao (N zm6 q11 (N zbx (L zrX) z)) (N zao (N znj q0 z) (L zq6))))) (N zao (N zaP (N zao (N zao (N zao (L zrB) z) (N zng q0 z)) (N zqI (N zao (L zr1) z) q197)) (N zj9 (N zao (N zlp q0 z) q198) (N zao (N zao (L ztx) z) (L zsd)))) (N zig (N zao (N znH (N zao (L zqL) z) (N zao (L zrC) z)) (N zao (N zn2 (L ztC) z) (N zaW (L zuh) z))) (N zao (N zao (N zao (L zq3) z) (N znh q0 z)) (N zr3 q11 (L zqW)))))) (N r5 (N r9 (N zh9 (N zlr (N zaW (N ztp (L zrx) z) (N zpb q1 z)) (N zqa (N zaW (L zqJ) z) (N zao (L zse) z))) (N zl1 (N zon (N zkh q1 z) (N zoh q0 z)) (N zaW (N znM (L ztg) z) q0))) (N zin (N zaW (N zpN (N zaW (L zrQ) z) q199) (N zsG (N znI q0 z) (N zrZ q0 z))) (N zlQ (N zaW q182 (N znt q1 z)) (N zsm (N zaW (L zuP) z) (L zr0))))) (N zg8 (N zii (N zlb (N zop (N zlR q1 z) (N zaW (L zsh) z)) (N zaW q183 (N zpZ q1 z))) (N zaW (N zoE (N zaW (L zqN) z) q200) (N zs3 (N znP q1 z) (L zqR)))) (N zaW (N zl3 (N zaW q184 (N znq q1 z)) (N zqD q201 (N zao (L zuR) z))) (N zmn (N zor q185 q202) (N zaW (N zoc (L ztE) z) q4)))))) (N r3 (N r4 (N r8 (N zaW (N zaP (N zbx q3 (N zpj q0 z)) (N zos q6 (N znT q1 z))) (N zkD (N zaP (N zl7 q0 z) q203) (N zbx q3 (L zqP)))) (N zqc (N zbx (N zqC (N zbx (L zrz) z) (N zoi q1 z)) (N zaP (N znK (L ztq) z) q204)) (N zaP (N zbx q186 q201) (N zs5 (N zbx (L zuO) z) (L zsv))))) (N b1191 (N zio (N zk3 (N zaP (N zjS q0 z) (N zbx (L zst) z)) (N zbx (N zaP (L zrA) z) (N zoC q0 z))) (N zbx (N zov (N zbx (L zsa) z) (N zn9 q0 z)) (N zaP (N znS q0 z) q0))) (N zbx (N zaP (N zbx (N zaP (L zq0) z) q3) (N zqF (N zbx (L zue) z) (N zrO q0 z))) (N zk4 (N zaP q187 q205) (N zbx q186 (L zrF)))))) (N r6 (N r10 (N zao (N zmm (N zoI (N zuv (L zra) z) q206) (N zqG (N zkj q0 z) q207)) (N zmP (N zqv q188 (N zn1 q1 z)) (N zsL (N zn8 (L zul) z) q1))) (N zh8 (N zmM (N zp5 q189 q208) (N zsF (N zmY (L ztd) z) q6)) (N zmF (N zoS (N zlM q0 z) (N zao (L zsg) z)) (N zsS (N znz (L zum) z) (L zrH))))) (N zg6 (N zao (N zk8 (N zqe q190 q209) (N zsX (N znm q0 z) q210)) (N zmj (N zqb q191 q211) (N zsN (N zol (L zug) z) (L zq2)))) (N ziJ (N zml (N zpQ q192 (N zao (L zrm) z)) (N zs1 (N znC q1 z) q212)) (N znW (N zoY q193 (N zao (L zqZ) z)) (N zsB (N zn4 (L zuF) z) q2))))))
def m1349:=N r1 (N r2 (N b1266 (N r7 (N zij (N zao q213 (N zao (N zkR q0 q0) q3)) (N zao (N zao q214 q194) q215)) (N zie (N zj3 (N zao q216 q11) q217) (N zao (N zm6 q218 (N zbx (L zrX) z)) q219))) (N zao (N zaP (N zao (N zao q220 (N zng q0 z)) q221) (N zj9 (N zao q222 q198) q223)) (N zig (N zao (N znH q224 (N zao (L zrC) z)) q225) (N zao (N zao q226 (N znh q0 z)) q227)))) (N r5 (N r9 (N zh9 (N zlr q228 (N zqa q229 (N zao (L zse) z))) (N zl1 (N zon (N zkh q1 q0) (N zoh q0 z)) q230)) (N zin (N zaW (N zpN q231 q199) q232) (N zlQ (N zaW q233 (N znt q1 z)) q234))) (N zg8 (N zii (N zlb (N zop q235 (N zaW (L zsh) z)) q236) (N zaW (N zoE q237 q200) q238)) (N zaW (N zl3 (N zaW q239 (N znq q1 z)) q240) (N zmn (N zor q241 q202) q242))))) (N r3 (N r4 (N r8 (N zaW (N zaP q243 (N zos q136 (N znT q1 z))) (N zkD (N zaP q244 q203) q245)) (N zqc (N zbx (N zqC q246 (N zoi q1 z)) q247) (N zaP (N zbx (N zaP q1 q0) q201) q248))) (N b1267 (N zio (N zk3 (N zaP (N zjS q0 q1) (N zbx (L zst) z)) q249) (N zbx (N zov q250 (N zn9 q0 z)) q251)) (N zbx (N zaP (N zbx q252 q3) q253) (N zk4 (N zaP q254 q205) q255)))) (N r6 (N r10 (N zao (N zmm (N zoI q256 q206) (N zqG (N zkj q0 q0) q207)) (N zmP (N zqv q257 (N zn1 q1 z)) q258)) (N zh8 (N zmM (N zp5 q259 q208) q260) (N zmF (N zoS q261 (N zao (L zsg) z)) q262))) (N zg6 (N zao (N zk8 (N zqe q263 q209) q264) (N zmj (N zqb q265 q211) q266)) (N ziJ (N zml (N zpQ q267 (N zao (L zrm) z)) q268) (N znW (N zoY q269 (N zao (L zqZ) z)) q270)))))
def m1384:=N r1 (N r2 (N zvx (N r7 (N zij (N zao q213 (N zao (N zkR q0 q0) (N zaP q0 q1))) (N zao (N zao q214 (N zpM (L zuM) (L zvt))) q215)) (N zie (N zj3 (N zao q216 (N zao q0 (L zwh))) q217) (N zao (N zm6 q218 (N zbx (L zrX) q0)) q219))) (N zao (N zaP (N zao (N zao q220 (N zng q0 q1)) q221) (N zj9 (N zao q222 (N zoM (L ztV) q0)) q223)) (N zig (N zao (N znH q224 (N zao (L zrC) (L zwQ))) q225) (N zao (N zao q226 (N znh q0 (L zw8))) q227)))) (N r5 (N r9 (N zh9 (N zlr q228 (N zqa q229 (N zao (L zse) (L zwn)))) (N zl1 (N zon (N zkh q1 q0) (N zoh q0 q1)) q230)) (N zin (N zaW (N zpN q231 (N zoJ (L zta) q0)) q232) (N zlQ (N zaW q233 (N znt q1 (L zvu))) q234))) (N zg8 (N zii (N zlb (N zop q235 (N zaW (L zsh) q0)) q236) (N zaW (N zoE q237 (N zpU (L zt5) (L zvm))) q238)) (N zaW (N zl3 (N zaW q239 (N znq q1 (L zv9))) q240) (N zmn (N zor q241 (N zoK (L ztZ) (L zwt))) q242))))) (N r3 (N r4 (N r8 (N zaW (N zaP q243 (N zos q136 (N znT q1 (L zvo)))) (N zkD (N zaP q244 (N zoL (L ztH) q0)) q245)) (N zqc (N zbx (N zqC q246 (N zoi q1 (L zvh))) q247) (N zaP (N zbx (N zaP q1 q0) (N zaW q0 q1)) q248))) (N zwp (N zio (N zk3 (N zaP (N zjS q0 q1) (N zbx (L zst) (L zw6))) q249) (N zbx (N zov q250 (N zn9 q0 (L zwD))) q251)) (N zbx (N zaP (N zbx q252 (N zaP q0 q0)) q253) (N zk4 (N zaP q254 (N zqq (L zuw) (L zwZ))) q255)))) (N r6 (N r10 (N zao (N zmm (N zoI q256 (N zqr (L ztc) q0)) (N zqG (N zkj q0 q0) (N zps (L zup) (L zva)))) (N zmP (N zqv q257 (N zn1 q1 (L zvr))) q258)) (N zh8 (N zmM (N zp5 q259 (N zp4 (L zuE) q1)) q260) (N zmF (N zoS q261 (N zao (L zsg) q0)) q262))) (N zg6 (N zao (N zk8 (N zqe q263 (N zpJ (L zti) (L zvO))) q264) (N zmj (N zqb q265 (N zp1 (L zuA) (L zv3))) q266)) (N ziJ (N zml (N zpQ q267 (N zao (L zrm) (L zu7))) q268) (N znW (N zoY q269 (N zao (L zqZ) q0)) q270)))))
def m1385:Heap:=⟨⟨[r1,r2,r3,zvx,r4,r5,r6,r7,r8,r9,r10,zao,zwp,zg8,zg6,zij,zaW,zh9,zao,zaP,zio,zii,zao,zie,zqc,zin,zh8,zig,zbx,zaW,ziJ,zao,zaP,zlr,zmm,zao,zk3,zlb,zk8,zj3,zbx,zaW,zmM,zao,zaP,zl3,zml,zao,zkD,zl1,zmP,zj9,zbx,zaW,zmj,zao,zaP,zlQ,zmF,zao,zk4,zmn,znW,zow,zbx,zaW,zoI,zao,zaP,zop,zqe,zao,zqC,zpN,zp5,znH,zbx,zaW,zpQ,zao,zaP,zon,zqv,zao,zov,zoE,zqb,zm6,zbx,zaW,zoS,zao,zaP,zor,zoY,zao,zos,zqa,zqG,zqI,zbx,zaW,zsX,zao,zaP,zsG,zsF,zao,zqF,zqD,zs1,zqM,zbx,zaW,zsL,zao,zaP,zs3,zsN,zao,zs5,zsm,zsS,zr3,zbx,zaW,zsB,zao,zaP,ztp,zuv,zao,zjS,zlR,znZ,zl8,zbx,zaW,zod,zao,zaP,zm4,znl,zao,zl7,zkh,znJ,zlp,zbx,zaW,znc,zao,zaP,znu,zlM,zao,znU,zm3,znE,zkR,zbx,zaW,zkj,zao,zaP,znF,znm,zao,znK,znI,zmY,zn2,zbx,zaW,znC,zao,zaP,znM,zn8,zao,znS,znP,zol,znj,zbx,zaW,znz,zao,zaP,zoc,zn4,zao,zpj,zpb,zqr,zng,zbx,zaW,zpJ,zao,zoi,zoJ,zp4,zao,zaP,znq,zao,zpM,zoL,zoh,zn1,zoM,zn9,zpU,zp1,zbx,zaW,znt,zao,znh,zqq,zoK,zao,zaP,znT,zao,zps,zqS,zoC,zpZ,ztN,zuj,ztM,zrZ,zbx,zaW,zrO,zao,ztv,zt6,zqP,zao,zaP,zsd,zao,zqR,zq2,zq6,zsv,zr0,zrH,zqW,zrF,zbx,zaW,zsx,zao,zrx,zra,zrB,zao,zaP,ztU,zao,zrz,zrQ,zuC,zqL,zq0,ztr,ztS,zrq,zao,zaP,zud,zao,zsa,zqN,zt4,zao,zaP,ztW,zao,zq3,ztB,ztw,zuq,zao,zaP,zqJ,zao,zr1,zrA,zuI,zao,zaP,ztq,zao,ztd,ztC,zue,zao,zaP,zuk,zao,ztg,zul,ztx,zao,zaP,zug,zao,zuO,zuP,zum,zao,zaP,ztE,zuF,zt8,zao,zaP,ztc,zao,zst,zsh,zti,zao,zaP,zta,zuE,zrC,zao,zaP,zrm,zuM,ztH,zao,zaP,ztV,zao,zt5,zuA,zrX,zao,zaP,zsg,zao,zuw,ztZ,zqZ,zao,zaP,zse,zup,zwN,zao,zaP,zvf,zwP,zvF,zao,zaP,zuh,zao,zuR,zvK,zv8,zao,zaP,zvl,zwJ,zwl,zao,zaP,zwo,zao,zw4,zvD,zwe,zao,zaP,zvy,zao,zwc,zvP,zwz,zao,zaP,zwI,zao,zwM,zwR,zu6,zao,zaP,zwk,zao,zwS,zvp,zv1,zao,zaP,zwy,zao,zu5,zwX,zvN,zao,zaP,zve,zws,zwW,zwj,zwO,zao,zaP,zw7,zao,zwV,zvL,zvX,zao,zaP,zwu,zao,zvS,zvH,zwG,zao,zaP,zwx,zao,zv0,zvk,zvA,zao,zaP,zwE,zao,zw3,zwK,zwa,zao,zaP,zvJ,zao,zwq,zu4,zw9,zao,zaP,zw6,zao,zvO,zwh,zvh,zao,zaP,zwQ,zao,zv9,zu7,zvt,zao,zaP,zvr,zao,zwD,zvm,zv3,zao,zaP,zvu,zao,zw8,zwZ,zwt,zao,zaP,zvo,zwn,zva]⟩,⟨[],[],[],0,[],[],false,#[],[],0,false,false,false,0,[2000,10,10],false,0,true,[],[],0,false⟩⟩
end
def m845v (p:Program):Program:={ p with main:={ p.main with body:=[sp p 1,sp p 2,sp p 3,sp p 4,sp p 5,sp p 6,sp p 7,sp p 8,sp p 9,sp p 10,sp p 11,sp p 12,sp p 13,sp p 14,sp p 15,sp p 16,sp p 17,sp p 18,sp p 19,sp p 21,sp p 22,sp p 24,sp p 25,sp p 26,sp p 27,sp p 28,sp p 29,sp p 30,sp p 31,sp p 33,sp p 34,sp p 35,sp p 36,sp p 37,sp p 38,sp p 39,sp p 40,sp p 41,sp p 42,sp p 43,sp p 44,sp p 45,sp p 46,sp p 47,sp p 48,sp p 49,sp p 50,sp p 52,sp p 53,sp p 54,sp p 55,sp p 56,sp p 57,sp p 58,sp p 59,sp p 60,sp p 61] } }
def m855s (p:Program):List Stmt:=[sp p 0,sp p 1]
def m870s (p:Program):List Stmt:=[sp p 2]
def m885s (p:Program):List Stmt:=[sp p 3]
def m900s (p:Program):List Stmt:=[sp p 4]
def m915s (p:Program):List Stmt:=[sp p 5]
def m930s (p:Program):List Stmt:=[sp p 6]
def m945s (p:Program):List Stmt:=[sp p 7]
def m960s (p:Program):List Stmt:=[sp p 8]
def m975s (p:Program):List Stmt:=[sp p 9]
def m990s (p:Program):List Stmt:=[sp p 10]
def m1005s (p:Program):List Stmt:=[sp p 11]
def m1020s (p:Program):List Stmt:=[sp p 12]
def m1035s (p:Program):List Stmt:=[sp p 13]
def m1050s (p:Program):List Stmt:=[sp p 14]
def m1065s (p:Program):List Stmt:=[sp p 15]
def m1080s (p:Program):List Stmt:=[sp p 16]
def m1102s (p:Program):List Stmt:=[sp p 17]
def m1124s (p:Program):List Stmt:=[sp p 18]
def m1146s (p:Program):List Stmt:=[sp p 19,sp p 20,sp p 21,sp p 22,sp p 23,sp p 24,sp p 25,sp p 26,sp p 27,sp p 28]
def m1190s (p:Program):List Stmt:=[sp p 29,sp p 30,sp p 31,sp p 32,sp p 33,sp p 34,sp p 35,sp p 36,sp p 37,sp p 38,sp p 39,sp p 40,sp p 41,sp p 42,sp p 43]
def m1266s (p:Program):List Stmt:=[sp p 44,sp p 45,sp p 46,sp p 47,sp p 48,sp p 49,sp p 50,sp p 51,sp p 52,sp p 53,sp p 54,sp p 55,sp p 56]
def m1350s (p:Program):List Stmt:=[sp p 57,sp p 58,sp p 59,sp p 60,sp p 61]
def u0:Q Str:=⟨Str.ofString "<module>",Str.ofString "/claim/cut.py",Str.ofString "__main__",Str.ofString "__name__",Str.ofString "hideworth.errors",Str.ofString "__doc__",Str.ofString "__package__",Str.ofString "__loader__"⟩
def u1:Q Str:=⟨Str.ofString "__spec__",Str.ofString "__annotations__",Str.ofString "__builtins__",Str.ofString "__file__",Str.ofString "__cached__",Str.ofString "HideError",Str.ofString "__module__",Str.ofString "__qualname__"⟩
def u2:Q Str:=⟨Str.ofString "__firstlineno__",Str.ofString "__static_attributes__",Str.ofString "__weakref__",Str.ofString "NoNumber",Str.ofString "NoTable",Str.ofString "NoBoxes",Str.ofString "NoBudget",Str.ofString "NoOrder"⟩
def u3:Q Str:=⟨Str.ofString "NoWeights",Str.ofString "TooGreat",Str.ofString "NoKind",Str.ofString "NoTree",Str.ofString "NoTurns",Str.ofString "NoPlay",Str.ofString "NoRow",Str.ofString "NoName"⟩
def u4:Q Str:=⟨Str.ofString "NoRoad",Str.ofString "NoWeb",Str.ofString "__init__",Str.ofString "self",Str.ofString "road",Str.ofString "NoWeb.__init__",Str.ofString "NoPlan",Str.ofString "at"⟩
def u5:Q Str:=⟨Str.ofString "NoPlan.__init__",Str.ofString "NoText",Str.ofString "row",Str.ofString "NoText.__init__",Str.ofString "hideworth.webs",Str.ofString "NoPaper",Str.ofString "is_whole",Str.ofString "is_within"⟩
def u6:Q Str:=⟨Str.ofString "MOST_PLACES",Str.ofString "MOST_ROADS",Str.ofString "MOST_LENGTH",Str.ofString "KINDS",Str.ofString "is_road",Str.ofString "k",Str.ofString "NoPaper.__init__",Str.ofString "thing"⟩
def u7:Q Str:=⟨Str.ofString "hideworth.checks",Str.ofString "least",Str.ofString "most",Str.ofString "walk",Str.ofString "spread",Str.ofString "many",Str.ofString "a",Str.ofString "b"⟩
def u8:Q Str:=⟨Str.ofString "length",Str.ofString "hideworth.texts",Str.ofString "places_come_to",Str.ofString "look_web",Str.ofString "look_kind",Str.ofString "FIGURES",Str.ofString "0123456789",Str.ofString "MOST_FIGURES"⟩
def u9:Q Str:=⟨Str.ofString "web_rows",Str.ofString "thing_text",Str.ofString "paper_rows",Str.ofString "text_of",Str.ofString "web_text",Str.ofString "paper_text",Str.ofString "number_in",Str.ofString "numbers_in"⟩
def u10:Q Str:=⟨Str.ofString "thing_in",Str.ofString "roads",Str.ofString "come",Str.ofString "before",Str.ofString "web",Str.ofString "kind",Str.ofString "paper",Str.ofString "word"⟩
def u11:Q Str:=⟨Str.ofString "ends",Str.ofString "law_hideworth_k84_whole_what_is_read_is_writ",Str.ofString "plan_in",Str.ofString "many_in",Str.ofString "road_in",Str.ofString "share_in",Str.ofString "read_rows",Str.ofString "read_web"⟩
def u12:Q Str:=⟨Str.ofString "read_paper",Str.ofString "_law_mixed",Str.ofString "_law_class",Str.ofString "_law_length",Str.ofString "_law_web",Str.ofString "_law_text",Str.ofString "words",Str.ofString "numbers"⟩
def u13:Q Str:=⟨Str.ofString "weight",Str.ofString "plan",Str.ofString "text",Str.ofString "read_row",Str.ofString "rows",Str.ofString "read",Str.ofString "_law_script",Str.ofString "_law_k"⟩
def u14:Q Str:=⟨Str.ofString "_law_at",Str.ofString "_law_cell",Str.ofString "_law_j",Str.ofString "_law_number",Str.ofString "_law_caught",Str.ofString "_law_tests",Str.ofString "_law_way",Str.ofString "_law_start"⟩
def u15:Q Str:=⟨Str.ofString "_law_most",Str.ofString "_law_extra",Str.ofString "_law_many",Str.ofString "_law_shape",Str.ofString "_law_labels",Str.ofString "_law_left",Str.ofString "_law_roads",Str.ofString "_law_other"⟩
def u16:Q Str:=⟨Str.ofString "_law_ends",Str.ofString "_law_a",Str.ofString "_law_b",Str.ofString "_law_web_here",Str.ofString "_law_text_here",Str.ofString "_law_length_here",Str.ofString "_law_paper",Str.ofString "_law_paper_text"⟩
def u17:Q Str:=⟨Str.ofString "_law_bent",Str.ofString "_law_told",Str.ofString "law",Str.ofString "_law_kind",Str.ofString "_law_paper_here",Str.ofString "_law_ten",Str.ofString "_law_weight",Str.ofString "_law_plan"⟩
def u18:Q Str:=⟨Str.ofString "_law_draw",Str.ofString "_law_place",Str.ofString "_law_thing",Str.ofString "_law_draws",Str.ofString "_law_some",Str.ofString "_law_sign",Str.ofString "_law_rows",Str.ofString "_law_row"⟩
def u19:Q Str:=⟨Str.ofString "_law_to",Str.ofString "_law_odd",Str.ofString "_law_told_here",Str.ofString "e",Str.ofString "e",Str.ofString "e",Str.ofString "e",Str.ofString "e"⟩
def v0:Q String:=⟨"tuple","code","frame","dict","__main__.__loader__#opaque","ValueError","builtin_function_or_method","type.__prepare__"⟩
def v1:Q String:=⟨"type","Exception","BaseException","object","ValueError.__new__","getset_descriptor","ExceptionGroup.__weakref__","super"⟩
def v2:Q String:=⟨"object.__init_subclass__","function","function","function","function","function","function","function"⟩
def w0 (P:Params):Q Obj:=⟨W.boot_o_0 P,W.boot_o_1 P,W.boot_o_2 P,W.boot_o_3 P,W.boot_o_4 P,W.boot_o_5 P,W.boot_o_6 P,W.boot_o_7 P⟩
def w1 (P:Params):Q Obj:=⟨W.boot_o_8 P,W.boot_o_9 P,W.boot_o_10 P,W.boot_o_10 P,W.boot_o_10 P,W.boot_o_10 P,W.boot_o_10 P,W.boot_o_10 P⟩
lay_quick u0 u1 u2 u3 u4 u5 u6 u7 u8 u9 u10 u11 u12 u13 u14 u15 u16 u17 u18 u19 v0 v1 v2 w0 w1 PySem.Challenge.pw_hideworth_k84_whole_what_is_read_is_writ
def K (a' b' c' d' e' f' g' h' i' j' k' l' m' n' o' p' q' r' s' t':Q Str) (u' v' w':Q String) (x' y':Params→Q Obj) (z':Program) (P:Params):X:=⟨⟨⟨a',b',c',d',e',f',g',h'⟩,⟨i',j',k',l',m',n',o',p'⟩,⟨q',r',s',t',t',t',t',t'⟩,⟨q',r',s',t',t',t',t',t'⟩,⟨q',r',s',t',t',t',t',t'⟩,⟨q',r',s',t',t',t',t',t'⟩,⟨q',r',s',t',t',t',t',t'⟩,⟨q',r',s',t',t',t',t',t'⟩⟩,⟨⟨u',v',w',w',w',w',w',w'⟩,⟨u',v',w',w',w',w',w',w'⟩,⟨u',v',w',w',w',w',w',w'⟩,⟨u',v',w',w',w',w',w',w'⟩,⟨u',v',w',w',w',w',w',w'⟩,⟨u',v',w',w',w',w',w',w'⟩,⟨u',v',w',w',w',w',w',w'⟩,⟨u',v',w',w',w',w',w',w'⟩⟩,⟨⟨x' P,y' P,y' P,y' P,y' P,y' P,y' P,y' P⟩,⟨x' P,y' P,y' P,y' P,y' P,y' P,y' P,y' P⟩,⟨x' P,y' P,y' P,y' P,y' P,y' P,y' P,y' P⟩,⟨x' P,y' P,y' P,y' P,y' P,y' P,y' P,y' P⟩,⟨x' P,y' P,y' P,y' P,y' P,y' P,y' P,y' P⟩,⟨x' P,y' P,y' P,y' P,y' P,y' P,y' P,y' P⟩,⟨x' P,y' P,y' P,y' P,y' P,y' P,y' P,y' P⟩,⟨x' P,y' P,y' P,y' P,y' P,y' P,y' P,y' P⟩⟩,z',P⟩
def k0:=K u0 u1 u2 u3 u4 u5 u6 u7 u8 u9 u10 u11 u12 u13 u14 u15 u16 u17 u18 u19 v0 v1 v2 w0 w1 PySem.Challenge.pw_hideworth_k84_whole_what_is_read_is_writ
def k1:=K tw13894225608423057668 tw17531079430653816501 tw13809737476558091540 tw2367299412457286945 tw1912701158020654693 tw2188347355606102534 tw16368670287772101220 tw14842115654739255404 tw4717311838995323452 tw594758545415977400 tw10895325593200808953 tw10037743213843438893 tw10009084784789568687 tw5084553986333570498 tw16641277437810104112 tw11875653558476324687 tw1672153094372761355 tw4580522010931877059 tw15163288008780518816 tw2560371371167247513 tw15633551313878501473 tw10735261366311057212 tw13734974896645664886 tw1278260381020688717 tw13492767390215788210 tw12676454457991912263
theorem ke:k0=k1:=by
  unfold k0 k1
  rw [te13894225608423057668,te17531079430653816501,te13809737476558091540,te2367299412457286945,te1912701158020654693,te2188347355606102534,te16368670287772101220,te14842115654739255404,te4717311838995323452,te594758545415977400,te10895325593200808953,te10037743213843438893,te10009084784789568687,te5084553986333570498,te16641277437810104112,te11875653558476324687,te1672153094372761355,te4580522010931877059,te15163288008780518816,te2560371371167247513,te15633551313878501473,te10735261366311057212,te13734974896645664886,te1278260381020688717,te13492767390215788210,te12676454457991912263]
theorem kE {β:Type _} (f:X→β):(fun P=>f (k0 P))=fun P=>f (k1 P):=congrArg (fun y P=>f (y P)) ke
end Hd
namespace PySem.W.Fast
def tw17836949087957341651:Program:=Hd.m845v tw12676454457991912263
theorem te17836949087957341651:Hd.m845v PySem.Challenge.pw_hideworth_k84_whole_what_is_read_is_writ=tw17836949087957341651:=congrArg Hd.m845v te12676454457991912263
def tw11882959103621711495 (P:Params):Heap:=@Hd.m852 (Hd.k1 P)
theorem te11882959103621711495:(fun P=>@Hd.m852 (Hd.k0 P))=tw11882959103621711495:=Hd.kE @Hd.m852
def tw12063509932001756462 (P:Params):BT:=@Hd.m853 (Hd.k1 P)
theorem te12063509932001756462:(fun P=>@Hd.m853 (Hd.k0 P))=tw12063509932001756462:=Hd.kE @Hd.m853
def tw7217540849804921421:List Stmt:=Hd.m855s tw12676454457991912263
theorem te7217540849804921421:Hd.m855s PySem.Challenge.pw_hideworth_k84_whole_what_is_read_is_writ=tw7217540849804921421:=congrArg Hd.m855s te12676454457991912263
def tw14656121318715314480 (P:Params):BT:=@Hd.m869 (Hd.k1 P)
theorem te14656121318715314480:(fun P=>@Hd.m869 (Hd.k0 P))=tw14656121318715314480:=Hd.kE @Hd.m869
def tw10170006949019711102:List Stmt:=Hd.m870s tw12676454457991912263
theorem te10170006949019711102:Hd.m870s PySem.Challenge.pw_hideworth_k84_whole_what_is_read_is_writ=tw10170006949019711102:=congrArg Hd.m870s te12676454457991912263
def tw14147847937838403929 (P:Params):BT:=@Hd.m884 (Hd.k1 P)
theorem te14147847937838403929:(fun P=>@Hd.m884 (Hd.k0 P))=tw14147847937838403929:=Hd.kE @Hd.m884
def tw13481814392112993366:List Stmt:=Hd.m885s tw12676454457991912263
theorem te13481814392112993366:Hd.m885s PySem.Challenge.pw_hideworth_k84_whole_what_is_read_is_writ=tw13481814392112993366:=congrArg Hd.m885s te12676454457991912263
def tw18440971443489406544 (P:Params):BT:=@Hd.m899 (Hd.k1 P)
theorem te18440971443489406544:(fun P=>@Hd.m899 (Hd.k0 P))=tw18440971443489406544:=Hd.kE @Hd.m899
def tw1767545383687501216:List Stmt:=Hd.m900s tw12676454457991912263
theorem te1767545383687501216:Hd.m900s PySem.Challenge.pw_hideworth_k84_whole_what_is_read_is_writ=tw1767545383687501216:=congrArg Hd.m900s te12676454457991912263
def tw17179042282751639372 (P:Params):BT:=@Hd.m914 (Hd.k1 P)
theorem te17179042282751639372:(fun P=>@Hd.m914 (Hd.k0 P))=tw17179042282751639372:=Hd.kE @Hd.m914
def tw16732344466675053755:List Stmt:=Hd.m915s tw12676454457991912263
theorem te16732344466675053755:Hd.m915s PySem.Challenge.pw_hideworth_k84_whole_what_is_read_is_writ=tw16732344466675053755:=congrArg Hd.m915s te12676454457991912263
def tw16329159252844656404 (P:Params):BT:=@Hd.m929 (Hd.k1 P)
theorem te16329159252844656404:(fun P=>@Hd.m929 (Hd.k0 P))=tw16329159252844656404:=Hd.kE @Hd.m929
def tw3108916988983513449:List Stmt:=Hd.m930s tw12676454457991912263
theorem te3108916988983513449:Hd.m930s PySem.Challenge.pw_hideworth_k84_whole_what_is_read_is_writ=tw3108916988983513449:=congrArg Hd.m930s te12676454457991912263
def tw8890606213190938840 (P:Params):BT:=@Hd.m944 (Hd.k1 P)
theorem te8890606213190938840:(fun P=>@Hd.m944 (Hd.k0 P))=tw8890606213190938840:=Hd.kE @Hd.m944
def tw15406405198471455085:List Stmt:=Hd.m945s tw12676454457991912263
theorem te15406405198471455085:Hd.m945s PySem.Challenge.pw_hideworth_k84_whole_what_is_read_is_writ=tw15406405198471455085:=congrArg Hd.m945s te12676454457991912263
def tw4635216838076418631 (P:Params):BT:=@Hd.m959 (Hd.k1 P)
theorem te4635216838076418631:(fun P=>@Hd.m959 (Hd.k0 P))=tw4635216838076418631:=Hd.kE @Hd.m959
def tw9708410729417042873:List Stmt:=Hd.m960s tw12676454457991912263
theorem te9708410729417042873:Hd.m960s PySem.Challenge.pw_hideworth_k84_whole_what_is_read_is_writ=tw9708410729417042873:=congrArg Hd.m960s te12676454457991912263
def tw8552243238137056903 (P:Params):BT:=@Hd.m974 (Hd.k1 P)
theorem te8552243238137056903:(fun P=>@Hd.m974 (Hd.k0 P))=tw8552243238137056903:=Hd.kE @Hd.m974
def tw11243033591540894349:List Stmt:=Hd.m975s tw12676454457991912263
theorem te11243033591540894349:Hd.m975s PySem.Challenge.pw_hideworth_k84_whole_what_is_read_is_writ=tw11243033591540894349:=congrArg Hd.m975s te12676454457991912263
def tw5966614039422237884 (P:Params):BT:=@Hd.m989 (Hd.k1 P)
theorem te5966614039422237884:(fun P=>@Hd.m989 (Hd.k0 P))=tw5966614039422237884:=Hd.kE @Hd.m989
def tw6842372127486527869:List Stmt:=Hd.m990s tw12676454457991912263
theorem te6842372127486527869:Hd.m990s PySem.Challenge.pw_hideworth_k84_whole_what_is_read_is_writ=tw6842372127486527869:=congrArg Hd.m990s te12676454457991912263
def tw7443070774836567480 (P:Params):BT:=@Hd.m1004 (Hd.k1 P)
theorem te7443070774836567480:(fun P=>@Hd.m1004 (Hd.k0 P))=tw7443070774836567480:=Hd.kE @Hd.m1004
def tw14828454654902734795:List Stmt:=Hd.m1005s tw12676454457991912263
theorem te14828454654902734795:Hd.m1005s PySem.Challenge.pw_hideworth_k84_whole_what_is_read_is_writ=tw14828454654902734795:=congrArg Hd.m1005s te12676454457991912263
def tw18154144656749727589 (P:Params):BT:=@Hd.m1019 (Hd.k1 P)
theorem te18154144656749727589:(fun P=>@Hd.m1019 (Hd.k0 P))=tw18154144656749727589:=Hd.kE @Hd.m1019
def tw17451584409448595756:List Stmt:=Hd.m1020s tw12676454457991912263
theorem te17451584409448595756:Hd.m1020s PySem.Challenge.pw_hideworth_k84_whole_what_is_read_is_writ=tw17451584409448595756:=congrArg Hd.m1020s te12676454457991912263
def tw14787393417353377956 (P:Params):BT:=@Hd.m1034 (Hd.k1 P)
theorem te14787393417353377956:(fun P=>@Hd.m1034 (Hd.k0 P))=tw14787393417353377956:=Hd.kE @Hd.m1034
def tw5943322697969656609:List Stmt:=Hd.m1035s tw12676454457991912263
theorem te5943322697969656609:Hd.m1035s PySem.Challenge.pw_hideworth_k84_whole_what_is_read_is_writ=tw5943322697969656609:=congrArg Hd.m1035s te12676454457991912263
def tw4786299021762512823 (P:Params):BT:=@Hd.m1049 (Hd.k1 P)
theorem te4786299021762512823:(fun P=>@Hd.m1049 (Hd.k0 P))=tw4786299021762512823:=Hd.kE @Hd.m1049
def tw4075578145686720224:List Stmt:=Hd.m1050s tw12676454457991912263
theorem te4075578145686720224:Hd.m1050s PySem.Challenge.pw_hideworth_k84_whole_what_is_read_is_writ=tw4075578145686720224:=congrArg Hd.m1050s te12676454457991912263
def tw17350650253671382921 (P:Params):BT:=@Hd.m1064 (Hd.k1 P)
theorem te17350650253671382921:(fun P=>@Hd.m1064 (Hd.k0 P))=tw17350650253671382921:=Hd.kE @Hd.m1064
def tw7386391371826362864:List Stmt:=Hd.m1065s tw12676454457991912263
theorem te7386391371826362864:Hd.m1065s PySem.Challenge.pw_hideworth_k84_whole_what_is_read_is_writ=tw7386391371826362864:=congrArg Hd.m1065s te12676454457991912263
def tw14661177685407615391 (P:Params):BT:=@Hd.m1079 (Hd.k1 P)
theorem te14661177685407615391:(fun P=>@Hd.m1079 (Hd.k0 P))=tw14661177685407615391:=Hd.kE @Hd.m1079
def tw1500504827440920865:List Stmt:=Hd.m1080s tw12676454457991912263
theorem te1500504827440920865:Hd.m1080s PySem.Challenge.pw_hideworth_k84_whole_what_is_read_is_writ=tw1500504827440920865:=congrArg Hd.m1080s te12676454457991912263
def tw885896061813608094 (P:Params):BT:=@Hd.m1101 (Hd.k1 P)
theorem te885896061813608094:(fun P=>@Hd.m1101 (Hd.k0 P))=tw885896061813608094:=Hd.kE @Hd.m1101
def tw2425192821993238888:List Stmt:=Hd.m1102s tw12676454457991912263
theorem te2425192821993238888:Hd.m1102s PySem.Challenge.pw_hideworth_k84_whole_what_is_read_is_writ=tw2425192821993238888:=congrArg Hd.m1102s te12676454457991912263
def tw2681339028047609672 (P:Params):BT:=@Hd.m1123 (Hd.k1 P)
theorem te2681339028047609672:(fun P=>@Hd.m1123 (Hd.k0 P))=tw2681339028047609672:=Hd.kE @Hd.m1123
def tw2464595363643692250:List Stmt:=Hd.m1124s tw12676454457991912263
theorem te2464595363643692250:Hd.m1124s PySem.Challenge.pw_hideworth_k84_whole_what_is_read_is_writ=tw2464595363643692250:=congrArg Hd.m1124s te12676454457991912263
def tw4400705376516169641 (P:Params):BT:=@Hd.m1145 (Hd.k1 P)
theorem te4400705376516169641:(fun P=>@Hd.m1145 (Hd.k0 P))=tw4400705376516169641:=Hd.kE @Hd.m1145
def tw11130902165338126437:List Stmt:=Hd.m1146s tw12676454457991912263
theorem te11130902165338126437:Hd.m1146s PySem.Challenge.pw_hideworth_k84_whole_what_is_read_is_writ=tw11130902165338126437:=congrArg Hd.m1146s te12676454457991912263
def tw17521367708095278852 (P:Params):BT:=@Hd.m1189 (Hd.k1 P)
theorem te17521367708095278852:(fun P=>@Hd.m1189 (Hd.k0 P))=tw17521367708095278852:=Hd.kE @Hd.m1189
def tw1982922700341228736:List Stmt:=Hd.m1190s tw12676454457991912263
theorem te1982922700341228736:Hd.m1190s PySem.Challenge.pw_hideworth_k84_whole_what_is_read_is_writ=tw1982922700341228736:=congrArg Hd.m1190s te12676454457991912263
def tw16493578837434243525 (P:Params):BT:=@Hd.m1265 (Hd.k1 P)
theorem te16493578837434243525:(fun P=>@Hd.m1265 (Hd.k0 P))=tw16493578837434243525:=Hd.kE @Hd.m1265
def tw13445443587035945258:List Stmt:=Hd.m1266s tw12676454457991912263
theorem te13445443587035945258:Hd.m1266s PySem.Challenge.pw_hideworth_k84_whole_what_is_read_is_writ=tw13445443587035945258:=congrArg Hd.m1266s te12676454457991912263
def tw18244713170637430174 (P:Params):BT:=@Hd.m1349 (Hd.k1 P)
theorem te18244713170637430174:(fun P=>@Hd.m1349 (Hd.k0 P))=tw18244713170637430174:=Hd.kE @Hd.m1349
def tw8107087244741969503:List Stmt:=Hd.m1350s tw12676454457991912263
theorem te8107087244741969503:Hd.m1350s PySem.Challenge.pw_hideworth_k84_whole_what_is_read_is_writ=tw8107087244741969503:=congrArg Hd.m1350s te12676454457991912263
def tw9791937419352129979 (P:Params):BT:=@Hd.m1384 (Hd.k1 P)
theorem te9791937419352129979:(fun P=>@Hd.m1384 (Hd.k0 P))=tw9791937419352129979:=Hd.kE @Hd.m1384
def tw7574149610091531342 (P:Params):Heap:=@Hd.m1385 (Hd.k1 P)
theorem te7574149610091531342:(fun P=>@Hd.m1385 (Hd.k0 P))=tw7574149610091531342:=Hd.kE @Hd.m1385
end PySem.W.Fast
end
open PySem PySem.W PyProof.Rows PySem.W.X PySem.W.ZRun
set_option maxRecDepth 100000 in
set_option maxHeartbeats 0 in
theorem PySem.Challenge.cw_hideworth_k84_whole_what_is_read_is_writ_holds : PySem.Challenge.rw_hideworth_k84_whole_what_is_read_is_writ.Holds := by
 w_on;o_law;z_head;(case hw=>w_witness2)
 k_fill
 intro w s0 s1 m0 m1 G Y fa o pm cd doc dV kV ho hd hc hD hm hg xs vs as L h1 h2 h3 h4 h5
 z_open Y L KX ZH ZN ZT
 refine My.walk_at (l:=PySem.Challenge.rw_hideworth_k84_whole_what_is_read_is_writ) KX (fun W=>W w s0 s1 m0 m1 G KX fa o pm cd doc dV kV ho hd hc hD hm hg xs vs as h1 h2 h3 h4 h5) (My.walk (l:=PySem.Challenge.rw_hideworth_k84_whole_what_is_read_is_writ) rfl rfl (fun _ _ h=>h) ?hPt ?hPt2 ?hC ?hC2 ?F)
 case hPt =>
  intro w
  k_is
 case hPt2 =>
  intro w
  k_is
 case hC =>
  intro w h KX
  refine' L2.zpD KX ?lc (by decide)
  (case lc=>k_is)
 case hC2 =>
  intro w h KX
  refine' L2.zpD KX ?lc2 (by decide)
  (case lc2=>k_is)
 case F =>
  intro w mg fa h KX G hmg
  refine' My.zvQ hmg (My.zvd ?hP ?hP2 (L2.zbB ?l0 ?c0 ?k0) (mg_of KX G ?a0) (L2.zbB ?l1 ?c1 ?k1) (mg_of KX G ?a1) (L2.zbB ?l2 ?c2 ?k2) (mg_of KX G ?a2) (L2.zbB ?l3 ?c3 ?k3) (mg_of KX G ?a3) (L2.zbB ?l4 ?c4 ?k4) (mg_of KX G ?a4) (L2.zbB ?l5 ?c5 ?k5) (mg_of KX G ?a5) (L2.zbB ?l6 ?c6 ?k6) (mg_of KX G ?a6) (L2.zbB ?l7 ?c7 ?k7) (mg_of KX G ?a7) (L2.zbB ?l8 ?c8 ?k8) (mg_of KX G ?a8) (L2.zbB ?l9 ?c9 ?k9) (mg_of KX G ?a9) (L2.zbB ?l10 ?c10 ?k10) (mg_of KX G ?a10) (L2.zbB ?l11 ?c11 ?k11) (mg_of KX G ?a11) (L2.zbB ?l12 ?c12 ?k12) (mg_of KX G ?a12) (L2.zbB ?l13 ?c13 ?k13) (mg_of KX G ?a13) (L2.zbB ?l14 ?c14 ?k14) (mg_of KX G ?a14) (L2.zbB ?l15 ?c15 ?k15) (mg_of KX G ?a15) (L2.zbB ?l16 ?c16 ?k16) (mg_of KX G ?a16) (L2.zbB ?l17 ?c17 ?k17) (mg_of KX G ?a17) (L2.zbB ?l18 ?c18 ?k18) (mg_of KX G ?a18) (L2.zbB ?l19 ?c19 ?k19) (mg_of KX G ?a19) (L2.zqi ?l20 ?c20 ?k20) (mg_of KX G ?a20) (L2.zqi ?l21 ?c21 ?k21) (mg_of KX G ?a21) (L2.zbB ?l22 ?c22 ?k22) (mg_of KX G ?a22) (L2.zbB ?l23 ?c23 ?k23) (mg_of KX G ?a23) (L2.zbB ?l24 ?c24 ?k24) (mg_of KX G ?a24) (L2.zbB ?l25 ?c25 ?k25) (mg_of KX G ?a25) (L2.zbB ?l26 ?c26 ?k26) (mg_of KX G ?a26) (L2.zbB ?l27 ?c27 ?k27) (mg_of KX G ?a27) (L2.zbB ?l28 ?c28 ?k28) (mg_of KX G ?a28) (L2.zbB ?l29 ?c29 ?k29) (mg_of KX G ?a29) (L2.zbB ?l30 ?c30 ?k30) (mg_of KX G ?a30) (L2.zbB ?l31 ?c31 ?k31) (mg_of KX G ?a31) (mg_none_of KX G ?z_isinstance) (mg_none_of KX G ?z_int) (mg_none_of KX G ?z_bool) (mg_none_of KX G ?z_list) (mg_none_of KX G ?z_len) (mg_none_of KX G ?z_all) (mg_none_of KX G ?z_range) (mg_none_of KX G ?z_tuple) (mg_none_of KX G ?z_str) (mg_none_of KX G ?z_enumerate) (mg_none_of KX G ?z_min) (mg_none_of KX G ?z_ValueError) (mg_of KX G ?ac_HideError) (mg_of KX G ?ac_NoNumber) (mg_of KX G ?ac_NoTable) (mg_of KX G ?ac_NoBoxes) (mg_of KX G ?ac_NoBudget) (mg_of KX G ?ac_NoOrder) (mg_of KX G ?ac_NoWeights) (mg_of KX G ?ac_TooGreat) (mg_of KX G ?ac_NoKind) (mg_of KX G ?ac_NoTree) (mg_of KX G ?ac_NoTurns) (mg_of KX G ?ac_NoPlay) (mg_of KX G ?ac_NoRow) (mg_of KX G ?ac_NoName) (mg_of KX G ?ac_NoRoad) (mg_of KX G ?ac_NoWeb) (mg_of KX G ?ac_NoPlan) (mg_of KX G ?ac_NoText) (mg_of KX G ?ac_NoPaper) (mg_of KX G ?ak_MOST_PLACES) (mg_of KX G ?ak_MOST_ROADS) (mg_of KX G ?ak_MOST_LENGTH) (mg_of KX G ?ak_MOST_FIGURES) (mg_of KX G ?ak_FIGURES) (mg_of KX G ?at_KINDS) ?lt_KINDS ?xc_HideError ?xc_NoKind ?vsg ?vrd ?vfc ?vin_NoWeb ?vl_NoWeb ?vc_NoWeb ?vk_NoWeb ?vlk_NoWeb ?vtl_NoWeb ?vfn_NoWeb ?vkp_NoWeb ?vmo_NoWeb ?vsa_NoWeb ?vga_NoWeb ?vgn_NoWeb ?vcl_NoWeb ?vmb_NoWeb ?vhd_NoWeb ?vna_NoWeb ?vin_NoText ?vl_NoText ?vc_NoText ?vk_NoText ?vlk_NoText ?vtl_NoText ?vfn_NoText ?vkp_NoText ?vmo_NoText ?vsa_NoText ?vga_NoText ?vgn_NoText ?vcl_NoText ?vmb_NoText ?vhd_NoText ?vna_NoText ?su_NoWeb ?i_k_NoNumber ?i_k_NoTable ?i_k_NoBoxes ?i_k_NoBudget ?i_k_NoOrder ?i_k_NoWeights ?i_k_TooGreat ?i_k_NoKind ?i_k_NoTree ?i_k_NoTurns ?i_k_NoPlay ?i_k_NoRow ?i_k_NoName ?i_k_NoRoad ?i_k_NoWeb ?i_k_NoPlan ?i_k_NoText ?i_k_NoPaper ?i_k_ValueError ?i_sub ?e_ga ?e_gn ?e_cl ?e_mb ?e_mo)
  (case hP=>k_is)
  (case hP2=>k_is)
  (case ac_HideError=>k_is)
  (case ac_NoNumber=>k_is)
  (case ac_NoTable=>k_is)
  (case ac_NoBoxes=>k_is)
  (case ac_NoBudget=>k_is)
  (case ac_NoOrder=>k_is)
  (case ac_NoWeights=>k_is)
  (case ac_TooGreat=>k_is)
  (case ac_NoKind=>k_is)
  (case ac_NoTree=>k_is)
  (case ac_NoTurns=>k_is)
  (case ac_NoPlay=>k_is)
  (case ac_NoRow=>k_is)
  (case ac_NoName=>k_is)
  (case ac_NoRoad=>k_is)
  (case ac_NoWeb=>k_is)
  (case ac_NoPlan=>k_is)
  (case ac_NoText=>k_is)
  (case ac_NoPaper=>k_is)
  (case a0=>k_is)
  (case a1=>k_is)
  (case a2=>k_is)
  (case a3=>k_is)
  (case a4=>k_is)
  (case a5=>k_is)
  (case a6=>k_is)
  (case a7=>k_is)
  (case a8=>k_is)
  (case a9=>k_is)
  (case a10=>k_is)
  (case a11=>k_is)
  (case a12=>k_is)
  (case a13=>k_is)
  (case a14=>k_is)
  (case a15=>k_is)
  (case a16=>k_is)
  (case a17=>k_is)
  (case a18=>k_is)
  (case a19=>k_is)
  (case a20=>k_is)
  (case a21=>k_is)
  (case a22=>k_is)
  (case a23=>k_is)
  (case a24=>k_is)
  (case a25=>k_is)
  (case a26=>k_is)
  (case a27=>k_is)
  (case a28=>k_is)
  (case a29=>k_is)
  (case a30=>k_is)
  (case a31=>k_is)
  (case l0=>k_is)
  (case c0=>k_is)
  (case k0=>k_is)
  (case l1=>k_is)
  (case c1=>k_is)
  (case k1=>k_is)
  (case l2=>k_is)
  (case c2=>k_is)
  (case k2=>k_is)
  (case l3=>k_is)
  (case c3=>k_is)
  (case k3=>k_is)
  (case l4=>k_is)
  (case c4=>k_is)
  (case k4=>k_is)
  (case l5=>k_is)
  (case c5=>k_is)
  (case k5=>k_is)
  (case l6=>k_is)
  (case c6=>k_is)
  (case k6=>k_is)
  (case l7=>k_is)
  (case c7=>k_is)
  (case k7=>k_is)
  (case l8=>k_is)
  (case c8=>k_is)
  (case k8=>k_is)
  (case l9=>k_is)
  (case c9=>k_is)
  (case k9=>k_is)
  (case l10=>k_is)
  (case c10=>k_is)
  (case k10=>k_is)
  (case l11=>k_is)
  (case c11=>k_is)
  (case k11=>k_is)
  (case l12=>k_is)
  (case c12=>k_is)
  (case k12=>k_is)
  (case l13=>k_is)
  (case c13=>k_is)
  (case k13=>k_is)
  (case l14=>k_is)
  (case c14=>k_is)
  (case k14=>k_is)
  (case l15=>k_is)
  (case c15=>k_is)
  (case k15=>k_is)
  (case l16=>k_is)
  (case c16=>k_is)
  (case k16=>k_is)
  (case l17=>k_is)
  (case c17=>k_is)
  (case k17=>k_is)
  (case l18=>k_is)
  (case c18=>k_is)
  (case k18=>k_is)
  (case l19=>k_is)
  (case c19=>k_is)
  (case k19=>k_is)
  (case l20=>k_is)
  (case c20=>k_is)
  (case k20=>k_is)
  (case l21=>k_is)
  (case c21=>k_is)
  (case k21=>k_is)
  (case l22=>k_is)
  (case c22=>k_is)
  (case k22=>k_is)
  (case l23=>k_is)
  (case c23=>k_is)
  (case k23=>k_is)
  (case l24=>k_is)
  (case c24=>k_is)
  (case k24=>k_is)
  (case l25=>k_is)
  (case c25=>k_is)
  (case k25=>k_is)
  (case l26=>k_is)
  (case c26=>k_is)
  (case k26=>k_is)
  (case l27=>k_is)
  (case c27=>k_is)
  (case k27=>k_is)
  (case l28=>k_is)
  (case c28=>k_is)
  (case k28=>k_is)
  (case l29=>k_is)
  (case c29=>k_is)
  (case k29=>k_is)
  (case l30=>k_is)
  (case c30=>k_is)
  (case k30=>k_is)
  (case l31=>k_is)
  (case c31=>k_is)
  (case k31=>k_is)
  (case z_isinstance=>k_is)
  (case z_int=>k_is)
  (case z_bool=>k_is)
  (case z_list=>k_is)
  (case z_len=>k_is)
  (case z_all=>k_is)
  (case z_range=>k_is)
  (case z_tuple=>k_is)
  (case z_str=>k_is)
  (case z_enumerate=>k_is)
  (case z_min=>k_is)
  (case z_ValueError=>k_is)
  (case ak_MOST_PLACES=>k_is)
  (case ak_MOST_ROADS=>k_is)
  (case ak_MOST_LENGTH=>k_is)
  (case ak_MOST_FIGURES=>k_is)
  (case ak_FIGURES=>k_is)
  (case at_KINDS=>k_is)
  (case lt_KINDS=>k_is)
  (case xc_HideError=>k_exc)
  (case xc_NoKind=>k_exc)
  (case vsg=>k_is)
  (case vrd=>k_is)
  (case vfc=>k_is)
  (case vin_NoWeb=>k_is)
  (case vl_NoWeb=>k_is)
  (case vc_NoWeb=>k_is)
  (case vk_NoWeb=>k_is)
  (case vlk_NoWeb=>k_is)
  (case vtl_NoWeb=>kernel_rfl)
  (case vfn_NoWeb=>k_is)
  (case vkp_NoWeb=>k_is)
  (case vmo_NoWeb=>k_is)
  (case vsa_NoWeb=>k_is)
  (case vga_NoWeb=>k_is)
  (case vgn_NoWeb=>k_is)
  (case vcl_NoWeb=>k_is)
  (case vmb_NoWeb=>k_is)
  (case vhd_NoWeb=>k_is)
  (case vna_NoWeb=>k_is)
  (case vin_NoText=>k_is)
  (case vl_NoText=>k_is)
  (case vc_NoText=>k_is)
  (case vk_NoText=>k_is)
  (case vlk_NoText=>k_is)
  (case vtl_NoText=>kernel_rfl)
  (case vfn_NoText=>k_is)
  (case vkp_NoText=>k_is)
  (case vmo_NoText=>k_is)
  (case vsa_NoText=>k_is)
  (case vga_NoText=>k_is)
  (case vgn_NoText=>k_is)
  (case vcl_NoText=>k_is)
  (case vmb_NoText=>k_is)
  (case vhd_NoText=>k_is)
  (case vna_NoText=>k_is)
  (case su_NoWeb=>k_is)
  (case i_k_NoNumber=>kit_is)
  (case i_k_NoTable=>kit_is)
  (case i_k_NoBoxes=>kit_is)
  (case i_k_NoBudget=>kit_is)
  (case i_k_NoOrder=>kit_is)
  (case i_k_NoWeights=>kit_is)
  (case i_k_TooGreat=>kit_is)
  (case i_k_NoKind=>kit_is)
  (case i_k_NoTree=>kit_is)
  (case i_k_NoTurns=>kit_is)
  (case i_k_NoPlay=>kit_is)
  (case i_k_NoRow=>kit_is)
  (case i_k_NoName=>kit_is)
  (case i_k_NoRoad=>kit_is)
  (case i_k_NoWeb=>kit_is)
  (case i_k_NoPlan=>kit_is)
  (case i_k_NoText=>kit_is)
  (case i_k_NoPaper=>kit_is)
  (case i_k_ValueError=>kit_is)
  (case i_sub=>k_is)
  (case e_ga=>k_is)
  (case e_gn=>k_is)
  (case e_cl=>k_is)
  (case e_mb=>k_is)
  (case e_mo=>k_is)
