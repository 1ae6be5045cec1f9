import PyProof.Rows.All
import Wide.All
import OpenK.AllK
import Wide.FinOn
import Lean
import PyProof.EqAt
import PyProof.EqKinds
import PyProof.TupleCall
import KE.IntBitsLaws
import PyProof.NeKinds
import KE.KIsAll
import PyProof.ExcAttrAll.ValueError
import KE.RegKIsAll
import OpenK.KOwn
import PyProof.ConsumeWalk
import PyProof.SumWalkG
import PyProof.Rows.SeqCalls
import PyProof.Rows.SeqGen
import PyProof.ZipIter
import PyProof.Rows.ZipGen
import PyProof.Rows.FactsT2
import PyProof.WalkInts
import PyProof.SeqI3
import PyProof.AutoSeq1
import KE.KRevSl
import PyProof.WalksEnum
import PyProof.EnumMake
import PyProof.ListRange
import KE.KDictSum
import PyProof.Rows.SortWalk
import KE.KDictLaws
import PyProof.Rows.SetFrom
import PyProof.SetRoads
import PyProof.ExcInit
import PyProof.InstStoreFacts
import OpenK.ZGo
import PySem.Challenge.RW_hideworth_k48_whole_what_is_no_plan
set_option Elab.async false
set_option linter.all false
set_option maxRecDepth 100000
namespace L2
open PySem PySem.Spec PyProof.Rows
abbrev Key:=Sum Int Str
def zmq:Key→Value→Bool
 | .inl k,v=>Value.isInt k v
 | .inr x,v=>Value.isStrOf x v
def keyH (w:World):Key→Int
 | .inl k=>hashInt k
 | .inr x=>hashStr w x
theorem zcf:∀ {k:Key} {v:Value},zmq k v=true→(∃ i t,k=Sum.inl i∧v=Value.int i t)∨(∃ x t,k=Sum.inr x∧v=Value.str x t)
 | .inl i,v,h=>by
  obtain ⟨t,e⟩:=Value.isInt_shape (k:=i) (v:=v) h
  exact .inl ⟨i,t,rfl,e⟩
 | .inr x,v,h=>by
  obtain ⟨t,e⟩:=Value.isStrOf_shape (x:=x) (v:=v) h
  exact .inr ⟨x,t,rfl,e⟩
theorem zov (i:Int) (t:Tok):zmq (.inl i) (.int i t)=true:=by simp [zmq,Value.isInt]
theorem zo7 (x:Str) (t:Tok):zmq (.inr x) (.str x t)=true:=by simp [zmq,Value.isStrOf]
theorem zt0 (a b:Int):decide ((Sum.inl a:Key)=Sum.inl b)=(a == b):=by
 by_cases e:a=b
 ·subst e;simp
 ·have h:¬ (Sum.inl a:Key)=Sum.inl b:=fun q=>e (Sum.inl.inj q)
  rw [decide_eq_false h]
  exact (beq_eq_false_iff_ne.mpr e).symm
theorem ztA (a b:Str):decide ((Sum.inr a:Key)=Sum.inr b)=decide (a=b):=by
 by_cases e:a=b
 ·subst e;simp
 ·have h:¬ (Sum.inr a:Key)=Sum.inr b:=fun q=>e (Sum.inr.inj q)
  rw [decide_eq_false h,decide_eq_false e]
theorem ztB (a:Int) (b:Str):decide ((Sum.inl a:Key)=Sum.inr b)=false:=decide_eq_false (fun q=>nomatch q)
theorem ztY (a:Str) (b:Int):decide ((Sum.inr a:Key)=Sum.inl b)=false:=decide_eq_false (fun q=>nomatch q)
def zct (prog:Program) (w:World):PySem.KeyKind prog w Key where
 is:=zmq
 hash:=keyH w
 inj:=fun v a b ha hb=>by
  rcases zcf ha with ⟨i,t,rfl,rfl⟩ | ⟨x,t,rfl,rfl⟩
  ·rcases zcf hb with ⟨j,u,rfl,e⟩ | ⟨y,u,rfl,e⟩
   ·injection e with e1 _;rw [e1]
   ·exact nomatch e
  ·rcases zcf hb with ⟨j,u,rfl,e⟩ | ⟨y,u,rfl,e⟩
   ·exact nomatch e
   ·injection e with e1 _;rw [e1]
 byValue:=fun k v h=>by
  rcases zcf h with ⟨i,t,rfl,rfl⟩ | ⟨x,t,rfl,rfl⟩ <;> rfl
 pyHash:=fun hv h=>by
  rcases zcf hv with ⟨i,t,rfl,rfl⟩ | ⟨x,t,rfl,rfl⟩
  ·exact wpAny_pyHash_int h
  ·exact wpAny_pyHash_str h
 eqBool:=fun hu hv h=>by
  rcases zcf hu with ⟨i,t,rfl,rfl⟩ | ⟨x,t,rfl,rfl⟩
  ·rcases zcf hv with ⟨j,u,rfl,rfl⟩ | ⟨y,u,rfl,rfl⟩
   ·rw [zt0] at h;exact wpAny_eqBool_int h
   ·rw [ztB] at h;exact SeqAt.EqAt.int_str i t y u _ _ _ _ h
  ·rcases zcf hv with ⟨j,u,rfl,rfl⟩ | ⟨y,u,rfl,rfl⟩
   ·rw [ztY] at h;exact SeqAt.EqAt.str_int x t j u _ _ _ _ h
   ·rw [ztA] at h;exact wpAny_eqBool_str h
 «strs»:=fun k x t v h=>by
  rcases zcf h with ⟨i,u,rfl,e⟩ | ⟨y,u,rfl,e⟩
  ·exact nomatch e
  ·injection e with e1 _
   subst e1
   cases v <;> rfl
theorem zmB (prog:Program) (w:World) (i:Int) (t:Tok):(zct prog w).is (.inl i) (.int i t)=true:=zov i t
theorem zl2 (prog:Program) (w:World) (x:Str) (t:Tok):(zct prog w).is (.inr x) (.str x t)=true:=zo7 x t
end L2
namespace L2
open PySem PySem.Spec PyProof.Rows
inductive V where
 | non | bl (b:Bool) | int (i:Int) | str (x:Str) | byt (b:Array UInt8) | flt (b:UInt64) | ref (a:Addr) | ty (n:String)
 deriving DecidableEq
def zcC:V→Value→Prop
 | .non,u=>u=Value.none
 | .bl b,u=>u=Value.bool b
 | .int i,u=>∃ t,u=Value.int i t
 | .str x,u=>∃ t,u=Value.str x t
 | .byt b,u=>∃ t,u=Value.bytes b t
 | .flt b,u=>∃ t,u=Value.float b t
 | .ref a,u=>u=Value.ref a
 | .ty n,u=>u=Value.type n
abbrev zck:List V→List Value→Prop:=Paired zcC
theorem zck.length {xs:List V} {us:List Value} (r:zck xs us):xs.length=us.length:=Paired.length r
theorem zck.get:∀ {xs:List V} {us:List Value} {i:Nat} {x:V},zck xs us→xs[i]?=some x→∃ u,us[i]?=some u∧zcC x u
 | _,_,_,_,.nil,e=>by simp at e
 | _,_,0,_,.cons r _,e=>by simp at e;subst e;exact ⟨_,rfl,r⟩
 | _,_,i+1,x,.cons _ t,e=>by
  obtain ⟨u,h1,h2⟩:=zck.get (i:=i) (x:=x) t (by simpa using e)
  exact ⟨u,by simpa using h1,h2⟩
theorem zck.append:∀ {xs ys:List V} {us ws:List Value},zck xs us→zck ys ws→zck (xs++ys) (us++ws)
 | _,_,_,_,.nil,s=>s
 | _,_,_,_,.cons r t,s=>.cons r (zck.append t s)
theorem zck.take:∀ {xs:List V} {us:List Value} (n:Nat),zck xs us→zck (xs.take n) (us.take n)
 | _,_,0,_=>.nil
 | _,_,_+1,.nil=>.nil
 | _,_,n+1,.cons r t=>.cons r (zck.take n t)
theorem zck.drop:∀ {xs:List V} {us:List Value} (n:Nat),zck xs us→zck (xs.drop n) (us.drop n)
 | _,_,0,r=>r
 | _,_,_+1,.nil=>.nil
 | _,_,n+1,.cons _ t=>zck.drop n t
def zmG:Option V→Option Value→Prop
 | some v,some u=>zcC v u
 | none,none=>True
 | _,_=>False
def KV {κ:Type}:List (κ×V)→List (κ×Value)→Prop:=Paired fun (p:κ×V) (q:κ×Value)=>p.1=q.1∧zcC p.2 q.2
def kV:Key→V
 | .inl i=>.int i
 | .inr x=>.str x
inductive HO where
  | lst (xs:List V)
  | tup (xs:List V)
  | dK (kvs:List (Key×V)) | dT (kvs:List (List Key×V))
  | set (S:Int→Bool) (n:Nat)
  | ins (C dx:Addr) (fs:List (Str×V))
  | own (x:Addr)
  | xd (fs:List (Str×V))
  | met (f x:Addr)
  | rng (lo hi:Int)
  | frz (o:Obj) (u:HO)
  | tbl (ps:Array Value)
  | ext (φ:Heap→Prop)
abbrev Hp:=Addr→Option HO
def upd (H:Hp) (a:Addr) (o:HO):Hp:=fun b=>if b=a then some o else H b
theorem zae {H:Hp} {a:Addr} {o:HO}:upd H a o a=some o:=by unfold upd;rw [if_pos rfl]
theorem zaL {H:Hp} {a b:Addr} {o:HO} (h:b≠a):upd H a o b=H b:=by unfold upd;rw [if_neg h]
theorem zl8 {H:Hp} {a:Addr} {o u:HO}:upd (upd H a o) a u=upd H a u:=by
 funext b;unfold upd;split <;> rfl
theorem zqt {H:Hp} {a b:Addr} {o u:HO} (h:H a=some o) (h':H b=some u) (d:o≠u):a≠b:=by
 intro e;subst e;rw [h] at h';exact d (Option.some.inj h')
theorem zaA {H:Hp} {a b:Addr} {o:HO} (h:H a=some o) (h':H b=none):a≠b:=by
 intro e;subst e;rw [h] at h';cases h'
section
variable (P:Program) (w:World)
def zcd (H:Hp) (h:Heap) (a:Addr):HO→Prop
 | .lst xs=>xs.length≤sizeLine∧∃ (its:List Value) (n:Nat),zck xs its∧h.get? a=some { cls:=.type "list",data:=.seq its.toArray n }
 | .tup xs=>xs.length≤sizeLine∧∃ its:List Value,zck xs its∧IsTup h a its.toArray
 | .dK kvs=>kvs.length≤sizeLine∧(a == sysModules)=false∧∃ vs,KV kvs vs∧h.DictOf (zct P w) a vs
 | .dT kvs=>kvs.length≤sizeLine∧(a == sysModules)=false∧∃ xs:List (List Key×Addr×Value),
   Paired (fun (p:List Key×V) (q:List Key×Addr×Value)=>p.1=q.1∧H q.2.1=some (.tup (p.1.map kV))∧zcC p.2 q.2.2) kvs xs ∧
   ∃ o es ep,h.get? a=some o∧o.ExactDict∧o.data=.dict es ep∧es.toList=xs.map (entryOfKey (tupleKind (zct P w)))∧(xs.map (·.1)).Nodup
 | .set S n=>h.SetOf (intKind P w) a S n
 | .ins C dx fs=>H dx=some (.own a)∧fs.length≤1000∧dx≠a∧h.get? a=some (PySem.W.instObj C dx) ∧
   ∃ mA,h.Ns1 dx mA∧(∀ f,zmG (fs.lookup f) (mA f))∧PySem.Within mA (fs.map (·.1))
 | .own _=>∃ o,h.get? a=some o
 | .xd fs=>∃ mA,h.Ns1 a mA∧∀ f,zmG (fs.lookup f) (mA f)
 | .rng lo hi=>∃ t u v,h.get? a=some { cls:=.type "range",data:=.fields #[.int lo t,.int hi u,.int 1 v] }
 | .frz o u=>h.get? a=some o∧zcd H h a u
 | .tbl ps=>h.get? a=some { cls:=.none,data:=.fields ps }
 | .met f x=>h.get? a=some (PySem.W.methodObj (.ref f) (.ref x))
 | .ext φ=>φ h∧(∃ o,h.get? a=some o)∧∀ h1 h2:Heap,φ h1→(∀ o,h1.get? a=some o→h2.get? a=some o)→φ h2
def HOk (H:Hp) (h:Heap):Prop:=∀ a o,H a=some o→zcd P w H h a o
end
section
variable {P:Program} {w:World} {H H':Hp} {h h':Heap} {a:Addr} {o:HO}
theorem zcd.lt (x:zcd P w H h a o):a<h.objs.size:=by
 cases o with
 | lst xs=>obtain ⟨_,_,_,_,e⟩:=x;exact Heap.lt_size e
 | tup xs=>obtain ⟨_,_,_,p⟩:=x;exact p.lt
 | dK kvs=>obtain ⟨_,_,_,_,o,_,_,e,_⟩:=x;exact Heap.lt_size e
 | dT kvs=>obtain ⟨_,_,_,_,o,_,_,e,_⟩:=x;exact Heap.lt_size e
 | set S n=>obtain ⟨o,_,_,_,e,_⟩:=x;exact Heap.lt_size e
 | ins C dx fs=>obtain ⟨_,_,_,e,_⟩:=x;exact Heap.lt_size e
 | own y=>obtain ⟨_,e⟩:=x;exact Heap.lt_size e
 | xd fs=>obtain ⟨_,⟨_,_,_,e,_⟩,_⟩:=x;exact Heap.lt_size e
 | rng lo hi=>obtain ⟨_,_,_,e⟩:=x;exact Heap.lt_size e
 | frz ob u=>obtain ⟨e,_⟩:=x;exact Heap.lt_size e
 | tbl ps=>exact Heap.lt_size (show h.get? a=some _ from x)
 | met f y=>exact Heap.lt_size (show h.get? a=some _ from x)
 | ext φ=>obtain ⟨_,⟨_,e⟩,_⟩:=x;exact Heap.lt_size e
theorem Paired.mapP {α β:Type} {F G:α→β→Prop}:∀ {l₁:List α} {l₂:List β},Paired F l₁ l₂→(∀ a b,F a b→G a b)→Paired G l₁ l₂
 | _,_,.nil,_=>.nil
 | _,_,.cons r t,f=>.cons (f _ _ r) (Paired.mapP t f)
theorem zcd.stay (x:zcd P w H h a o) (k:∀ b u,(b=a∨H b=some (.own a))→h.get? b=some u→h'.get? b=some u)
  (ho:∀ b,H b=some (.own a)→H' b=some (.own a)) (ht:∀ b xs,H b=some (.tup xs)→H' b=some (.tup xs)):zcd P w H' h' a o:=by
 induction o with
 | lst xs=>obtain ⟨z,its,n,r,e⟩:=x;exact ⟨z,its,n,r,k _ _ (.inl rfl) e⟩
 | tup xs=>obtain ⟨z,its,r,ob,e,c⟩:=x;exact ⟨z,its,r,ob,k _ _ (.inl rfl) e,c⟩
 | dK kvs=>obtain ⟨z,y,vs,r,ob,es,ep,e,c⟩:=x;exact ⟨z,y,vs,r,ob,es,ep,k _ _ (.inl rfl) e,c⟩
 | dT kvs =>
  obtain ⟨z,y,xs,r,ob,es,ep,e,c⟩:=x
  exact ⟨z,y,xs,Paired.mapP r fun p q z=>⟨z.1,ht _ _ z.2.1,z.2.2⟩,ob,es,ep,k _ _ (.inl rfl) e,c⟩
 | set S n=>obtain ⟨ob,es,ep,t,e,c⟩:=x;exact ⟨ob,es,ep,t,k _ _ (.inl rfl) e,c⟩
 | ins C dx fs =>
  obtain ⟨d,z,ne,e,mA,⟨od,es,ep,e2,c⟩,r⟩:=x
  exact ⟨ho _ d,z,ne,k _ _ (.inl rfl) e,mA,⟨od,es,ep,k _ _ (.inr d) e2,c⟩,r⟩
 | own y=>obtain ⟨ob,e⟩:=x;exact ⟨ob,k _ _ (.inl rfl) e⟩
 | xd fs=>obtain ⟨mA,⟨od,es,ep,e,c⟩,r⟩:=x;exact ⟨mA,⟨od,es,ep,k _ _ (.inl rfl) e,c⟩,r⟩
 | rng lo hi=>obtain ⟨t,u,v,e⟩:=x;exact ⟨t,u,v,k _ _ (.inl rfl) e⟩
 | frz ob u ih=>obtain ⟨e,q⟩:=x;exact ⟨k _ _ (.inl rfl) e,ih q⟩
 | tbl ps =>
  have e:h.get? a=some { cls:=.none,data:=.fields ps }:=x
  show h'.get? a=some { cls:=.none,data:=.fields ps }
  exact k a _ (.inl rfl) e
 | met f y =>
  have e:h.get? a=some (PySem.W.methodObj (.ref f) (.ref y)):=x
  show h'.get? a=some (PySem.W.methodObj (.ref f) (.ref y))
  exact k a _ (.inl rfl) e
 | ext φ=>obtain ⟨p,⟨o,e⟩,st⟩:=x;exact ⟨st _ _ p fun o q=>k _ _ (.inl rfl) q,⟨o,k _ _ (.inl rfl) e⟩,st⟩
theorem HOk.lt (x:HOk P w H h) (e:H a=some o):a<h.objs.size:=(x a o e).lt
theorem HOk.fresh (x:HOk P w H h) (e:h.objs.size≤a):H a=none:=by
 cases q:H a with
 | none=>rfl
 | some u=>exact absurd (Nat.lt_of_lt_of_le (x.lt q) e) (Nat.lt_irrefl _)
theorem HOk.kept (x:HOk P w H h) (k:∀ b u,h.get? b=some u→h'.get? b=some u):HOk P w H h':=fun a o e =>
 (x a o e).stay (fun b u _ q=>k b u q) (fun _ q=>q) fun _ _ q=>q
theorem HOk.laid (x:HOk P w H h) (k:∀ b u,h.get? b=some u→h'.get? b=some u) (hp:h.objs.size≤a) (new:zcd P w (upd H a o) h' a o):HOk P w (upd H a o) h':=fun b u e=>by
 have hn:=x.fresh hp
 by_cases hb:b=a
 ·subst hb;rw [zae] at e;cases e;exact new
 ·rw [zaL hb] at e
  exact (x b u e).stay (fun c v _ q=>k c v q) (fun c q=>by rw [zaL (zaA q hn)];exact q) fun c xs q=>by rw [zaL (zaA q hn)];exact q
end
def Rd (H:Hp) (a:Addr) (u:HO):Prop:=H a=some u∨∃ o,H a=some (.frz o u)
theorem Rd.ok {P:Program} {w:World} {H:Hp} {h:Heap} {a:Addr} {u:HO} (r:Rd H a u) (x:HOk P w H h):zcd P w H h a u:=by
 rcases r with r | ⟨o,r⟩
 ·exact x a u r
 ·obtain ⟨_,q⟩:=x a _ r
  exact q
def Mut:Option HO→Prop
 | some (.lst _)=>True
 | some (.dK _)=>True
 | some (.dT _)=>True
 | some (.set _ _)=>True
 | some (.ins _ _ _)=>True
 | some (.ext _)=>True
 | _=>False
section
variable {P:Program} {w:World} {H:Hp} {h h':Heap} {x e:Addr} {o':HO}
theorem HOk.write (ok:HOk P w H h) (mu:Mut (H x)) (he:e=x∨H e=some (.own x)) (k:∀ b u,b≠e→h.get? b=some u→h'.get? b=some u) (heo:∃ u,h'.get? e=some u)
  (new:zcd P w (upd H x o') h' x o'):HOk P w (upd H x o') h':=fun b u q=>by
 have nown:∀ c y,H c=some (.own y)→c≠x:=fun c y r z=>by subst z;rw [r] at mu;exact mu
 have ntup:∀ c xs,H c=some (.tup xs)→c≠x:=fun c xs r z=>by subst z;rw [r] at mu;exact mu
 by_cases hb:b=x
 ·subst hb;rw [zae] at q;cases q;exact new
 ·rw [zaL hb] at q
  by_cases hbe:b=e
  ·have q':H b=some (.own x):=by
    rcases he with z | z
    ·exact absurd (hbe.trans z) hb
    ·rw [hbe];exact z
   rw [q] at q';cases q'
   obtain ⟨v,hv⟩:=heo
   exact ⟨v,by rw [hbe];exact hv⟩
  ·refine (ok b u q).stay (fun c v hc r=>k c v ?_ r) (fun c r=>by rw [zaL (nown c b r)];exact r) fun c xs r=>by rw [zaL (ntup c xs r)];exact r
   rcases hc with rfl | hc
   ·exact hbe
   ·rintro rfl
    rcases he with z | z
    ·exact nown c b hc z
    ·rw [hc] at z;cases z;exact hb rfl
end
structure Un (fs ex:List Addr) (H H':Hp) (h h':Heap):Prop where
 keep:∀ b o,h.get? b=some o→H b=none→b∉fs→b∉ex→h'.get? b=some o
 slot:∀ b o,h.get? b=some o→H b=none→b∈fs→b∉ex→∃ sl,h'.get? b=some { o with slots:=sl }
 free:∀ b o,h.get? b=some o→H b=none→b∉ex→H' b=none
 there:∀ b o,h.get? b=some o→b∉ex→∃ o',h'.get? b=some o'
 tups:∀ b xs,H b=some (.tup xs)→H' b=some (.tup xs)
 frzs:∀ b o u,H b=some (.frz o u)→H' b=some (.frz o u)
 tbls:∀ b ps,H b=some (.tbl ps)→∃ more,H' b=some (.tbl (ps++more))
section
variable {fs fs' ex ex':List Addr} {H H1 H2:Hp} {h h1 h2 h':Heap} {a x e:Addr} {o:HO}
theorem Un.any (u:Un fs ex H H1 h h1) {b:Addr} {ob:Obj} (q:h.get? b=some ob) (n:H b=none) (hx:b∉ex):∃ sl,h1.get? b=some { ob with slots:=sl }:=by
 by_cases hb:b∈fs
 ·exact u.slot b ob q n hb hx
 ·exact ⟨ob.slots,u.keep b ob q n hb hx⟩
theorem Un.kept (k:∀ b u,h.get? b=some u→h'.get? b=some u):Un fs ex H H h h' :=
 ⟨fun b ob q _ _ _=>k b ob q,fun b ob q _ _ _=>⟨ob.slots,k b ob q⟩,fun _ _ _ n _=>n,fun b ob q _=>⟨ob,k b ob q⟩,fun _ _ q=>q,fun _ _ _ q=>q,fun _ ps q=>⟨#[],by rw [q];simp⟩⟩
theorem Un.refl:Un fs ex H H h h:=Un.kept fun _ _ q=>q
theorem Un.laid (k:∀ b u,h.get? b=some u→h'.get? b=some u) (hp:h.objs.size≤a) (hn:H a=none):Un fs ex H (upd H a o) h h' where
 keep:=fun b u q _ _ _=>k b u q
 slot:=fun b u q _ _ _=>⟨u.slots,k b u q⟩
 free:=fun b u q n _=>by rw [zaL (Nat.ne_of_lt (Nat.lt_of_lt_of_le (Heap.lt_size q) hp))];exact n
 there:=fun b u q _=>⟨u,k b u q⟩
 tups:=fun b xs q=>by rw [zaL (zaA q hn)];exact q
 frzs:=fun b u xs q=>by rw [zaL (zaA q hn)];exact q
 tbls:=fun b ps q=>⟨#[],by rw [zaL (zaA q hn),q];simp⟩
theorem Un.write (mu:Mut (H x)) (he:e=x∨H e=some (.own x)) (k:∀ b u,b≠e→h.get? b=some u→h'.get? b=some u) (heo:∃ u,h'.get? e=some u):Un fs ex H (upd H x o) h h':=by
 have hx:∀ b,H b=none→b≠x:=fun b n z=>by subst z;rw [n] at mu;exact mu
 have hb:∀ b,H b=none→b≠e:=fun b n z=>by
  subst z
  rcases he with r | r
  ·exact hx b n r
  ·rw [n] at r;cases r
 have hm:∀ b u,H b=some u→¬ Mut (some u)→b≠x:=fun b u q nm z=>by subst z;rw [q] at mu;exact nm mu
 refine ⟨fun b u q n _ _=>k b u (hb b n) q,fun b u q n _ _=>⟨u.slots,k b u (hb b n) q⟩,fun b u q n _=>by rw [zaL (hx b n)];exact n,fun b u q _=>?_,
  fun b xs q=>by rw [zaL (hm b _ q fun z=>z)];exact q,fun b u xs q=>by rw [zaL (hm b _ q fun z=>z)];exact q,fun b ps q=>⟨#[],by rw [zaL (hm b _ q fun z=>z),q];simp⟩⟩
 by_cases hbe:b=e
 ·subst hbe;exact heo
 ·exact ⟨u,k b u hbe q⟩
end
def trk (h:Heap) (H:Hp):List Addr:=(List.range h.objs.size).filter fun a=>(H a).isSome
def zrh (h:Heap) (H:Hp):Heap:=PySem.W.hideAll h (trk h H)
theorem zpK (h:Heap) (H:Hp):(zrh h H).objs.size=h.objs.size:=PySem.W.hideAll_size _ _
theorem zrG {h:Heap} {H:Hp} {b:Addr} {o:Obj} (e:h.get? b=some o) (n:H b=none):(zrh h H).get? b=some o :=
 PySem.W.hideAll_get _ e fun hm=>by
  have q:(H b).isSome=true:=(List.mem_filter.mp hm).2
  rw [n] at q;simp at q
theorem zsM {h:Heap} {H:Hp} {b:Addr} {o:Obj} (e:(zrh h H).get? b=some o):h.get? b=some o∧H b=none:=by
 have e':h.get? b=some o:=PySem.W.of_hideAll (trk h H) e
 refine ⟨e',?_⟩
 cases q:H b with
 | none=>rfl
 | some x =>
  have hm:b∈trk h H:=List.mem_filter.mpr ⟨List.mem_range.mpr (Heap.lt_size e'),by simp [q]⟩
  have z:(zrh h H).get? b=none:=PySem.W.hideAll_none (trk h H) hm
  rw [z] at e;cases e
def zsc (g h:Heap) (L:Addr):List (Addr×Obj):=(List.range h.objs.size).filterMap fun a=>if a=L∨(g.get? a).isSome=true then none else (h.get? a).map fun o=>(a,o)
def zhH (g h:Heap) (L d:Addr):List (Addr×Obj):=(zsc g h L).filter fun p=>decide (p.1≠d)
end L2
namespace L2
open PySem PySem.Spec PyProof.Rows
structure Mod (K:PySem.W.Frag) (mg:Str→Option Value) (base:Heap):Prop where
 kin:K.In base
 glob:base.Ns mainGlobals mg
 blt:∃ mb,base.Ns builtinsNs mb∧∀ x:Str,x≠"__name__"→mb x=bootBuiltins x
 nolimit:base.NoLimit
structure Cx where
 prog:Program
 w:World
 K:PySem.W.Frag
 mg:Str→Option Value
 base:Heap
 A:Around
 N:List Str
 s₀:Shared
 H₀:Hp
 env:Env
 outer:List Env
 stack:List Env
 ex:List Addr
 fn:Str→Bool
 calm:Bool
 pn:List (Addr×Obj)
 xe:Value→Shared→Prop
def frs (l:List Env):List Addr:=l.filterMap (·.frame)
abbrev Cx.fs (X:Cx):List Addr:=frs X.outer
def Vis (sc:Scope) (x:Str):Prop:=sc.names.lookup x=some .local∨sc.names.lookup x=some .cell∨sc.names.lookup x=some .free
def Loc (sc:Scope) (x:Str):Prop:=sc.names.lookup x=some .local∨sc.names.lookup x=some .cell
def Look (env:Env) (h:Heap) (m:Str→Option Value) (x:Str) (u:Value):Prop :=
 (env.kindOf x=some .local∧m x=some u)∨((env.kindOf x=some .cell∨env.kindOf x=some .free)∧∃ c,env.cells.lookup x=some c∧h.IsCell c (some u))
structure Cx.Ok (X:Cx):Prop where
 mod:Mod X.K X.mg X.base
 kind:X.env.scope.kind=.function
 glob:X.env.globals=mainGlobals
 blt:X.env.builtins=builtinsNs
 above:X.s₀.heap.objs.size≤X.env.locals
 inj:∀ x y c,X.env.cells.lookup x=some c→X.env.cells.lookup y=some c→x=y
 has:∀ x,(X.env.kindOf x=some .cell∨X.env.kindOf x=some .free)→∃ c,X.env.cells.lookup x=some c
 cab:∀ x c,X.fn x=true→X.env.cells.lookup x=some c→X.s₀.heap.objs.size≤c
 hd:X.calm=true→X.A.handled=none
 frames:X.A.frames=some X.stack
 stk:X.stack=X.outer∨(X.stack=X.env::X.outer∧X.env.frame=some X.env.locals)
 exf:∀ b∈X.ex,b≠X.env.locals∧∀ x c,X.env.cells.lookup x=some c→c≠b
 bs:∀ b o,X.base.get? b=some o→X.s₀.heap.get? b=some o∧X.H₀ b=none
 bsz:X.base.objs.size≤X.s₀.heap.objs.size
 noex:∀ b o,X.base.get? b=some o→b∉X.ex
 exfs:∀ b∈X.ex,b∉X.fs
 funs:X.s₀.heap.FunFrames X.base X.outer
 frf:∀ b∈X.fs,X.H₀ b=none
structure Inv (X:Cx) (pins:List (Addr×Obj)) (σ:List (Option V)) (H:Hp) (s:Shared):Prop where
 ok:X.Ok
 os:s.os=X.s₀.os
 bare:AllBare s.gens
 base:Un X.fs X.ex X.H₀ H X.s₀.heap s.heap
 loc:∃ m,s.heap.Ns X.env.locals m∧∀ (i:Nat) (x:Str) (v:V),X.N[i]?=some x→σ[i]?=some (some v)→Vis X.env.scope x→∃ u,zcC v u∧Look X.env s.heap m x u
 cell:∀ x c,X.env.cells.lookup x=some c→∃ v,s.heap.IsCell c v
 free:H X.env.locals=none
 freeC:∀ x c,X.env.cells.lookup x=some c→H c=none
 pin:∀ p∈X.pn++pins,s.heap.get? p.1=some p.2∧H p.1=none∧p.1≠X.env.locals∧p.1∉X.fs∧∀ v,p.2.data≠.cell v
 hok:HOk X.prog X.w H s.heap
 len:σ.length=X.N.length
section
variable {X:Cx} {pins:List (Addr×Obj)} {σ:List (Option V)} {H H':Hp} {s:Shared} {h':Heap}
theorem Cx.Ok.nofr (ok:X.Ok) {b:Addr} {o:Obj} (e:X.base.get? b=some o):b∉X.fs:=fun hb=>by
 have:=(ok.funs.mem hb).1
 rw [e] at this;cases this
theorem Inv.bs (I:Inv X pins σ H s):∀ b o,X.base.get? b=some o→s.heap.get? b=some o∧H b=none:=fun b o e =>
 ⟨I.base.keep b o (I.ok.bs b o e).1 (I.ok.bs b o e).2 (I.ok.nofr e) (I.ok.noex b o e),I.base.free b o (I.ok.bs b o e).1 (I.ok.bs b o e).2 (I.ok.noex b o e)⟩
theorem Inv.bk (I:Inv X pins σ H s):∀ b o,X.base.get? b=some o→s.heap.get? b=some o:=fun b o e=>(I.bs b o e).1
theorem Inv.mod (I:Inv X pins σ H s):Mod X.K X.mg X.base:=I.ok.mod
theorem Inv.kIn (I:Inv X pins σ H s):X.K.In s.heap:=I.ok.mod.kin.keeps I.bk
theorem Inv.lt (I:Inv X pins σ H s):X.env.locals<s.heap.objs.size:=let ⟨_,hn,_⟩:=I.loc;hn.lt
theorem Inv.sz (I:Inv X pins σ H s):X.s₀.heap.objs.size≤s.heap.objs.size:=Nat.le_trans I.ok.above (Nat.le_of_lt I.lt)
theorem Inv.nofs (I:Inv X pins σ H s) {a:Addr} (h:s.heap.objs.size≤a):a∉X.fs:=fun hb=>by
 obtain ⟨_,o,ho,_⟩:=I.ok.funs.mem hb
 exact absurd (Nat.lt_of_lt_of_le (Heap.lt_size ho) (Nat.le_trans I.sz h)) (Nat.lt_irrefl _)
theorem Inv.cne (I:Inv X pins σ H s):∀ x c,X.env.cells.lookup x=some c→c≠X.env.locals:=fun x c e z=>by
 obtain ⟨v,o,ho,hd⟩:=I.cell x c e
 obtain ⟨m,⟨o',es,ep,ho',hd',_⟩,_⟩:=I.loc
 rw [z,ho'] at ho;cases ho;rw [hd'] at hd;cases hd
theorem Inv.funs (I:Inv X pins σ H s):s.heap.FunFrames X.base X.outer:=by
 have all:∀ (l:List Env),(∀ b∈frs l,b∈X.fs)→X.s₀.heap.FunFrames X.base l→s.heap.FunFrames X.base l:=by
  intro l
  induction l with
  | nil=>intro _ _;trivial
  | cons env r ih =>
   intro hs hl
   obtain ⟨hk,⟨L,o,hf,hn,ho,hd⟩,hr⟩:=hl
   have hL:L∈X.fs:=hs L (by unfold frs;rw [List.filterMap_cons,hf];exact List.mem_cons_self)
   obtain ⟨sl,e⟩:=I.base.slot L o ho (I.ok.frf L hL) hL fun z=>I.ok.exfs L z hL
   exact ⟨hk,⟨L,_,hf,hn,e,hd⟩,ih (fun b hb=>hs b (by unfold frs;rw [List.filterMap_cons,hf];exact List.mem_cons_of_mem _ hb)) hr⟩
 exact all X.outer (fun _ hb=>hb) I.ok.funs
theorem Inv.stack (I:Inv X pins σ H s):s.heap.FunFrames X.base X.stack:=by
 rcases I.ok.stk with e | ⟨e,hf⟩
 ·rw [e];exact I.funs
 ·rw [e]
  obtain ⟨m,hn,_⟩:=I.loc
  refine .cons (by rw [I.ok.kind];decide) hf hn ?_ I.funs
  exact Heap.get?_none_of_le (Nat.le_trans I.ok.bsz I.ok.above)
theorem Inv.stkSub (I:Inv X pins σ H s):∀ b∈frs X.stack,b∈X.env.locals::X.fs:=fun b hb=>by
 rcases I.ok.stk with e | ⟨e,hf⟩
 ·rw [e] at hb;exact List.mem_cons_of_mem _ hb
 ·rw [e] at hb
  unfold frs at hb
  rw [List.filterMap_cons,hf] at hb
  exact hb
theorem Inv.stkFree (I:Inv X pins σ H s):∀ b∈frs X.stack,H b=none:=fun b hb=>by
 rcases List.mem_cons.mp (I.stkSub b hb) with e | hb
 ·rw [e];exact I.free
 ·obtain ⟨_,o,ho,_⟩:=I.ok.funs.mem hb
  exact I.base.free b o ho (I.ok.frf b hb) fun z=>I.ok.exfs b z hb
theorem Inv.step {g':Array GenState} {t':Nat} {d':Drawn} {ch:List Addr} (I:Inv X pins σ H s)
  (hch:∀ b∈ch,(b∈X.ex∨X.s₀.heap.objs.size≤b)∧b≠X.env.locals∧(∀ x c,X.env.cells.lookup x=some c→c≠b)∧∀ p∈X.pn++pins,p.1≠b)
  (keep:∀ b o,b≠X.env.locals→b∉X.fs→b∉ch→s.heap.get? b=some o→H b=none→h'.get? b=some o)
  (slot:∀ b o,b≠X.env.locals→b∈X.fs→b∉ch→s.heap.get? b=some o→H b=none→∃ sl,h'.get? b=some { o with slots:=sl }) (free:∀ b o,b∉ch→s.heap.get? b=some o→H b=none→H' b=none)
  (there:∀ b o,b∉ch→s.heap.get? b=some o→∃ o',h'.get? b=some o')
  (tups:∀ b xs,H b=some (.tup xs)→H' b=some (.tup xs)) (frzs:∀ b o u,H b=some (.frz o u)→H' b=some (.frz o u)) (tbls:∀ b ps,H b=some (.tbl ps)→∃ more,H' b=some (.tbl (ps++more)))
  (ns:∀ m,s.heap.Ns X.env.locals m→h'.Ns X.env.locals m) (hok:HOk X.prog X.w H' h') (hg:AllBare g') :
  Inv X pins σ H' { s with heap:=h',gens:=g',drawn:=d',toks:=t' }:=by
 have neL:∀ b o,X.s₀.heap.get? b=some o→b≠X.env.locals:=fun b o e=>Nat.ne_of_lt (Nat.lt_of_lt_of_le (Heap.lt_size e) I.ok.above)
 have neC:∀ b o,X.s₀.heap.get? b=some o→b∉X.ex→b∉ch:=fun b o e hx hb=>by
  rcases (hch b hb).1 with z | z
  ·exact hx z
  ·exact absurd (Nat.lt_of_lt_of_le (Heap.lt_size e) z) (Nat.lt_irrefl _)
 have cellK:∀ x c,X.env.cells.lookup x=some c→∀ v,s.heap.IsCell c v→h'.IsCell c v:=fun x c e v ⟨o,ho,hd⟩=>by
  have nch:c∉ch:=fun z=>(hch c z).2.2.1 x c e rfl
  by_cases hc:c∈X.fs
  ·obtain ⟨sl,q⟩:=slot c o (I.cne x c e) hc nch ho (I.freeC x c e)
   exact ⟨_,q,hd⟩
  ·exact ⟨o,keep c o (I.cne x c e) hc nch ho (I.freeC x c e),hd⟩
 refine ⟨I.ok,I.os,hg,⟨fun b o e n hb hx=>?_,fun b o e n hb hx=>?_,fun b o e n hx=>?_,fun b o e hx=>?_,fun b xs e=>tups b xs (I.base.tups b xs e),fun b o xs e=>frzs b o xs (I.base.frzs b o xs e),fun b ps e=>?_⟩,?_,fun x c e=>?_,?_,fun x c e=>?_,fun p hp=>?_,hok,I.len⟩
 ·exact keep b o (neL b o e) hb (neC b o e hx) (I.base.keep b o e n hb hx) (I.base.free b o e n hx)
 ·obtain ⟨sl,e1⟩:=I.base.slot b o e n hb hx
  obtain ⟨sl',e2⟩:=slot b _ (neL b o e) hb (neC b o e hx) e1 (I.base.free b o e n hx)
  exact ⟨sl',e2⟩
 ·obtain ⟨o',e1⟩:=I.base.there b o e hx
  exact free b o' (neC b o e hx) e1 (I.base.free b o e n hx)
 ·obtain ⟨o',e1⟩:=I.base.there b o e hx
  exact there b o' (neC b o e hx) e1
 ·obtain ⟨m1,e1⟩:=I.base.tbls b ps e
  obtain ⟨m2,e2⟩:=tbls b _ e1
  exact ⟨m1++m2,by rw [e2,Array.append_assoc]⟩
 ·obtain ⟨m,hn,hl⟩:=I.loc
  refine ⟨m,ns m hn,fun i x v e1 e2 e3=>?_⟩
  obtain ⟨u,r,l⟩:=hl i x v e1 e2 e3
  refine ⟨u,r,?_⟩
  rcases l with l | ⟨k,c,e,z⟩
  ·exact .inl l
  ·exact .inr ⟨k,c,e,cellK x c e _ z⟩
 ·obtain ⟨v,z⟩:=I.cell x c e
  exact ⟨v,cellK x c e v z⟩
 ·obtain ⟨m,⟨o,_,_,ho,_⟩,_⟩:=I.loc
  exact free _ o (fun z=>(hch _ z).2.1 rfl) ho I.free
 ·obtain ⟨v,o,ho,hd⟩:=I.cell x c e
  exact free c o (fun z=>(hch c z).2.2.1 x c e rfl) ho (I.freeC x c e)
 ·obtain ⟨e,n,ne,nf,d⟩:=I.pin p hp
  have nch:p.1∉ch:=fun z=>(hch p.1 z).2.2.2 p hp rfl
  exact ⟨keep p.1 p.2 ne nf nch e n,free p.1 p.2 nch e n,ne,nf,d⟩
theorem Inv.un {t':Nat} (I:Inv X pins σ H s) (u:Un X.fs [] H H' s.heap h') (hok:HOk X.prog X.w H' h'):Inv X pins σ H' { s with heap:=h',toks:=t' }:=by
 obtain ⟨m,⟨o,es,ep,ho,r⟩,_⟩:=id I.loc
 obtain ⟨sl,hL⟩:=u.any ho I.free (by simp)
 exact I.step (g':=s.gens) (d':=s.drawn) (ch:=[]) (fun _ z=>nomatch z) (fun b o _ hb _ e n=>u.keep b o e n hb (by simp)) (fun b o _ hb _ e n=>u.slot b o e n hb (by simp)) (fun b o _ e n=>u.free b o e n (by simp)) (fun b o _ e=>u.there b o e (by simp)) u.tups u.frzs u.tbls (fun m' hm=>by
  obtain ⟨o',es',ep',ho',r'⟩:=hm
  rw [ho] at ho';cases ho'
  exact ⟨_,es',ep',hL,r'⟩) hok I.bare
theorem Inv.call {g':Array GenState} {t':Nat} {d':Drawn} {ch:List Addr} (I:Inv X pins σ H s) (u:Un (frs X.stack) ch H H' s.heap h') (hok:HOk X.prog X.w H' h') (hg:AllBare g')
  (hch:∀ b∈ch,(b∈X.ex∨X.s₀.heap.objs.size≤b)∧b≠X.env.locals∧(∀ x c,X.env.cells.lookup x=some c→c≠b)∧∀ p∈X.pn++pins,p.1≠b) :
  Inv X pins σ H' { s with heap:=h',gens:=g',drawn:=d',toks:=t' }:=by
 obtain ⟨m,⟨o,es,ep,ho,r⟩,_⟩:=id I.loc
 obtain ⟨sl,hL⟩:=u.any ho I.free fun z=>(hch _ z).2.1 rfl
 exact I.step (ch:=ch) hch (fun b o hL hb hc e n=>u.keep b o e n (fun z=>(List.mem_cons.mp (I.stkSub b z)).elim hL hb) hc) (fun b o _ _ hc e n=>u.any e n hc) (fun b o hc e n=>u.free b o e n hc) (fun b o hc e=>u.there b o e hc) u.tups u.frzs u.tbls (fun m' hm=>by
  obtain ⟨o',es',ep',ho',r'⟩:=hm
  rw [ho] at ho';cases ho'
  exact ⟨_,es',ep',hL,r'⟩) hok hg
theorem Inv.turned {t':Nat} {it:Addr} (I:Inv X pins σ H s) (k:∀ b o,b≠it→s.heap.get? b=some o→h'.get? b=some o) (hn:H it=none) (hL:it≠X.env.locals)
  (h1:it∈X.ex∨X.s₀.heap.objs.size≤it) (h2:∀ x c,X.env.cells.lookup x=some c→c≠it) (h3:∀ p∈X.pn++pins,p.1≠it):Inv X pins σ H { s with heap:=h',toks:=t' }:=by
 have nit:∀ b u,H b=some u→b≠it:=fun b u e z=>by rw [z,hn] at e;cases e
 refine I.step (g':=s.gens) (d':=s.drawn) (ch:=[it]) (fun b hb=>?_) (fun b o _ _ hc e _=>k b o (fun z=>hc (by simp [z])) e) (fun b o _ _ hc e _=>⟨o.slots,k b o (fun z=>hc (by simp [z])) e⟩) (fun _ _ _ _ n=>n)
  (fun b o hc e=>⟨o,k b o (fun z=>hc (by simp [z])) e⟩) (fun _ _ e=>e) (fun _ _ _ e=>e) (fun b ps e=>⟨#[],by rw [e];simp⟩) (fun m hm=>?_) (fun b u e=>?_) I.bare
 ·have e:b=it:=by simpa using hb
  subst e
  exact ⟨h1,hL,h2,h3⟩
 ·obtain ⟨o,es,ep,ho,r⟩:=hm
  exact ⟨o,es,ep,k _ o (Ne.symm hL) ho,r⟩
 ·refine (I.hok b u e).stay (fun c v hc q=>k c v ?_ q) (fun _ q=>q) fun _ _ q=>q
  rcases hc with z | z
  ·rw [z];exact nit b u e
  ·exact nit c _ z
theorem Inv.tok (I:Inv X pins σ H s) (t:Nat):Inv X pins σ H { s with toks:=t }:=I.un (h':=s.heap) (t':=t) Un.refl I.hok
theorem Inv.kept {t':Nat} (I:Inv X pins σ H s) (k:∀ b u,s.heap.get? b=some u→h'.get? b=some u):Inv X pins σ H { s with heap:=h',toks:=t' }:=I.un (Un.kept k) (I.hok.kept k)
theorem Inv.laid {a:Addr} {o:HO} {t':Nat} (I:Inv X pins σ H s) (k:∀ b u,s.heap.get? b=some u→h'.get? b=some u) (hp:s.heap.objs.size≤a) (new:zcd X.prog X.w (upd H a o) h' a o) :
  Inv X pins σ (upd H a o) { s with heap:=h',toks:=t' }:=I.un (Un.laid k hp (I.hok.fresh hp)) (I.hok.laid k hp new)
theorem Inv.write {x e:Addr} {o:HO} {t':Nat} (I:Inv X pins σ H s) (mu:Mut (H x)) (he:e=x∨H e=some (.own x)) (k:∀ b u,b≠e→s.heap.get? b=some u→h'.get? b=some u) (heo:∃ u,h'.get? e=some u)
  (new:zcd X.prog X.w (upd H x o) h' x o):Inv X pins σ (upd H x o) { s with heap:=h',toks:=t' }:=I.un (Un.write mu he k heo) (I.hok.write mu he k heo new)
theorem Inv.pins_of {pins':List (Addr×Obj)} (I:Inv X pins σ H s) (h:∀ p∈pins',s.heap.get? p.1=some p.2∧H p.1=none∧p.1≠X.env.locals∧p.1∉X.fs∧∀ v,p.2.data≠.cell v):Inv X pins' σ H s :=
 ⟨I.ok,I.os,I.bare,I.base,I.loc,I.cell,I.free,I.freeC,fun p hp=>(List.mem_append.mp hp).elim (fun z=>I.pin p (List.mem_append_left _ z)) (h p),I.hok,I.len⟩
theorem zjV {N:List Str} (hN:N.Nodup) {i j:Nat} {x:Str} (a:N[i]?=some x) (b:N[j]?=some x):i=j:=by
 obtain ⟨h1,e1⟩:=List.getElem?_eq_some_iff.mp a
 obtain ⟨h2,e2⟩:=List.getElem?_eq_some_iff.mp b
 exact (List.getElem_inj hN).mp (e1.trans e2.symm)
theorem zk1 {M:Model} {A:Around} {E:Value→Shared→Prop} {i:Nat} {x:Str} {v:V} {u:Value} {Q:Unit→Shared→Prop} (I:Inv X pins σ H s) (hN:X.N.Nodup) (hi:X.N[i]?=some x) (hx:Loc X.env.scope x) (r:zcC v u)
  (h:∀ s',Inv X pins (σ.set i (some v)) H s'→(∃ a,Heap.SameBut a s.heap s'.heap∧(a=X.env.locals∨X.env.cells.lookup x=some a))→Q () s') (hf:X.fn x=true∨X.env.scope.names.lookup x=some .local:=by first | exact .inl rfl | exact .inr rfl | assumption):wpAny M A (storeName X.env x u) Q E s:=by
 obtain ⟨m,hn,hl⟩:=id I.loc
 have hcls:(X.env.scope.kind == .class || (X.env.scope.kind == .module&&X.env.locals != X.env.globals))=false:=by rw [I.ok.kind];rfl
 have hiσ:i<σ.length:=by rw [I.len];exact (List.getElem?_eq_some_iff.mp hi).1
 have cne:=I.cne
 have tracked:∀ {a:Addr} {h':Heap},(∃ o,s.heap.get? a=some o∧H a=none)→Heap.SameBut a s.heap h'→HOk X.prog X.w H h':=fun {a h'} ha hs b ob e=>by
  obtain ⟨_,_,hfree⟩:=ha
  refine (I.hok b ob e).stay (fun c w' hc q=>(hs.2 c ?_).trans q) (fun _ q=>q) fun _ _ q=>q
  rintro rfl
  rcases hc with rfl | hc
  ·rw [hfree] at e;cases e
  ·rw [hfree] at hc;cases hc
 rcases hx with hk | hk
 ·refine wpAny_storeName_local hk hn (fun h' hn' hs=>?_) hcls
  obtain ⟨oL,_,_,hoL,_⟩:=id hn
  refine h _ ⟨I.ok,I.os,I.bare,⟨fun b o e n hb hx=>?_,fun b o e n hb hx=>?_,I.base.free,fun b o e hx=>?_,I.base.tups,I.base.frzs,I.base.tbls⟩,⟨_,hn',fun j y v' e1 e2 e3=>?_⟩,fun y c e=>?_,I.free,I.freeC,fun p hp=>?_,tracked ⟨oL,hoL,I.free⟩ hs,by simpa using I.len⟩ ⟨_,hs,.inl rfl⟩
  ·exact (hs.2 b (Nat.ne_of_lt (Nat.lt_of_lt_of_le (Heap.lt_size e) I.ok.above))).trans (I.base.keep b o e n hb hx)
  ·obtain ⟨sl,e1⟩:=I.base.slot b o e n hb hx
   exact ⟨sl,(hs.2 b (Nat.ne_of_lt (Nat.lt_of_lt_of_le (Heap.lt_size e) I.ok.above))).trans e1⟩
  ·obtain ⟨o',e1⟩:=I.base.there b o e hx
   exact ⟨o',(hs.2 b (Nat.ne_of_lt (Nat.lt_of_lt_of_le (Heap.lt_size e) I.ok.above))).trans e1⟩
  ·by_cases hj:j=i
   ·subst hj
    rw [hi] at e1;cases e1
    rw [List.getElem?_set_self hiσ] at e2
    cases e2
    exact ⟨u,r,.inl ⟨hk,by simp⟩⟩
   ·rw [List.getElem?_set_ne (Ne.symm hj)] at e2
    obtain ⟨u',r',q⟩:=hl j y v' e1 e2 e3
    refine ⟨u',r',?_⟩
    rcases q with ⟨k,e⟩ | ⟨k,c,e,z⟩
    ·refine .inl ⟨k,?_⟩
     have:y≠x:=fun e=>hj (zjV hN e1 (e ▸ hi))
     simp [this,e]
    ·exact .inr ⟨k,c,e,z.sameBut hs (cne y c e)⟩
  ·obtain ⟨w',z⟩:=I.cell y c e
   exact ⟨w',z.sameBut hs (cne y c e)⟩
  ·obtain ⟨e,n,ne,nf,d⟩:=I.pin p hp
   exact ⟨(hs.2 p.1 ne).trans e,n,ne,nf,d⟩
 ·have hfn:X.fn x=true:=by
   rcases hf with z | z
   ·exact z
   ·rw [z] at hk;cases hk
  obtain ⟨c,hc⟩:=I.ok.has x (.inl hk)
  obtain ⟨w',z⟩:=I.cell x c hc
  refine wpAny_storeName_cell I.ok.kind hk hc z (fun h' hc' hs=>?_)
  obtain ⟨oc,hoc,hocd⟩:=id z
  refine h { s with heap:=h' } ⟨I.ok,I.os,I.bare,⟨fun b o e n hb hx=>?_,fun b o e n hb hx=>?_,I.base.free,fun b o e hx=>?_,I.base.tups,I.base.frzs,I.base.tbls⟩,⟨m,hn.sameBut hs (Ne.symm (cne x c hc)),fun j y v' e1 e2 e3=>?_⟩,fun y c' e=>?_,I.free,I.freeC,fun p hp=>?_,tracked ⟨oc,hoc,I.freeC x c hc⟩ hs,by simpa using I.len⟩ ⟨c,hs,.inr hc⟩
  ·exact (hs.2 b (Nat.ne_of_lt (Nat.lt_of_lt_of_le (Heap.lt_size e) (I.ok.cab x c hfn hc)))).trans (I.base.keep b o e n hb hx)
  ·obtain ⟨sl,e1⟩:=I.base.slot b o e n hb hx
   exact ⟨sl,(hs.2 b (Nat.ne_of_lt (Nat.lt_of_lt_of_le (Heap.lt_size e) (I.ok.cab x c hfn hc)))).trans e1⟩
  ·obtain ⟨o',e1⟩:=I.base.there b o e hx
   exact ⟨o',(hs.2 b (Nat.ne_of_lt (Nat.lt_of_lt_of_le (Heap.lt_size e) (I.ok.cab x c hfn hc)))).trans e1⟩
  ·by_cases hj:j=i
   ·subst hj
    rw [hi] at e1;cases e1
    rw [List.getElem?_set_self hiσ] at e2
    cases e2
    exact ⟨u,r,.inr ⟨.inl hk,c,hc,hc'⟩⟩
   ·rw [List.getElem?_set_ne (Ne.symm hj)] at e2
    obtain ⟨u',r',q⟩:=hl j y v' e1 e2 e3
    refine ⟨u',r',?_⟩
    rcases q with q | ⟨k,c',e,z'⟩
    ·exact .inl q
    ·refine .inr ⟨k,c',e,z'.sameBut hs ?_⟩
     rintro rfl
     exact hj (zjV hN e1 (I.ok.inj _ _ _ e hc ▸ hi))
  ·by_cases hcc:c'=c
   ·subst hcc;exact ⟨_,hc'⟩
   ·obtain ⟨w2,z2⟩:=I.cell y c' e
    exact ⟨w2,z2.sameBut hs hcc⟩
  ·obtain ⟨e,n,ne,nf,d⟩:=I.pin p hp
   refine ⟨(hs.2 p.1 ?_).trans e,n,ne,nf,d⟩
   intro q
   rw [q,hoc] at e
   have q':oc=p.2:=Option.some.inj e
   exact d w' (by rw [← q'];exact hocd)
theorem zgM {M:Model} {A:Around} {E:Value→Shared→Prop} {i:Nat} {x:Str} {v:V} {u:Value} {Q:Unit→Shared→Prop} (I:Inv X pins σ H s) (hN:X.N.Nodup) (hi:X.N[i]?=some x) (hx:Loc X.env.scope x) (r:zcC v u)
  (h:∀ s',Inv X pins (σ.set i (some v)) H s'→Q () s') (hf:X.fn x=true∨X.env.scope.names.lookup x=some .local:=by first | exact .inl rfl | exact .inr rfl | assumption):wpAny M A (storeName X.env x u) Q E s :=
 zk1 I hN hi hx r (fun s' I' _=>h s' I') hf
theorem Inv.call' {s':Shared} {ch:List Addr} (I:Inv X pins σ H s) (ho:s'.os=s.os) (u:Un (frs X.stack) ch H H' s.heap s'.heap) (hok:HOk X.prog X.w H' s'.heap) (hg:AllBare s'.gens)
  (hch:∀ b∈ch,(b∈X.ex∨X.s₀.heap.objs.size≤b)∧b≠X.env.locals∧(∀ x c,X.env.cells.lookup x=some c→c≠b)∧∀ p∈X.pn++pins,p.1≠b):Inv X pins σ H' s':=by
 obtain ⟨h',g',d',t',o'⟩:=s'
 have e:o'=s.os:=ho
 subst e
 exact I.call (g':=g') (t':=t') (d':=d') u hok hg hch
end
abbrev XK:=Value→Option Addr→Hp→Prop
abbrev St:=List (Option V)
abbrev VK:=V→Hp→Prop
abbrev TE:=St→Hp→VK→Prop
abbrev TT:=St→Hp→(Bool→Hp→Prop)→Prop
abbrev TA:=St→Hp→(List V→Hp→Prop)→Prop
structure zb8 where
 nx:St→Hp→Prop
 rt:VK
 bk:St→Hp→Prop:=fun _ _=>False
 ct:St→Hp→Prop:=fun _ _=>False
abbrev TS:=zb8→St→Hp→Prop
def EP (X:Cx) (pins:List (Addr×Obj)) (σ:St) (Q:VK) (u:Value) (s':Shared):Prop:=∃ v H',Inv X pins σ H' s'∧zcC v u∧Q v H'
def TP (X:Cx) (pins:List (Addr×Obj)) (σ:St) (Q:Bool→Hp→Prop) (b:Bool) (s':Shared):Prop:=∃ H',Inv X pins σ H' s'∧Q b H'
def AP (X:Cx) (pins:List (Addr×Obj)) (σ:St) (Q:List V→Hp→Prop) (us:List Value) (s':Shared):Prop:=∃ vs H',Inv X pins σ H' s'∧zck vs us∧Q vs H'
def SP (X:Cx) (pins:List (Addr×Obj)) (D:zb8) (f:Flow) (s':Shared):Prop :=
 match f with
 | .next=>∃ σ' H',Inv X pins σ' H' s'∧D.nx σ' H'
 | .brk=>∃ σ' H',Inv X pins σ' H' s'∧D.bk σ' H'
 | .cont=>∃ σ' H',Inv X pins σ' H' s'∧D.ct σ' H'
 | .ret u=>∃ v σ' H',Inv X pins σ' H' s'∧zcC v u∧D.rt v H'
def PE (X:Cx) (e:Expr) (t:TE):Prop :=
 ∀ (pins:List (Addr×Obj)) (s:Shared) (σ:St) (H:Hp) (Q:VK),Inv X pins σ H s→t σ H Q→wpAny (model X.prog X.w) X.A (eval e X.env) (EP X pins σ Q) X.xe s
def PT (X:Cx) (e:Expr) (t:TT):Prop :=
 ∀ (pins:List (Addr×Obj)) (s:Shared) (σ:St) (H:Hp) (Q:Bool→Hp→Prop),Inv X pins σ H s→t σ H Q→wpAny (model X.prog X.w) X.A (isTrue e X.env (eval e X.env)) (TP X pins σ Q) X.xe s
def PW (X:Cx) (e:Expr) (t:TT):Prop :=
 ∀ (whole:Sem Value) (pins:List (Addr×Obj)) (s:Shared) (σ:St) (H:Hp) (Q:Bool→Hp→Prop),Inv X pins σ H s→t σ H Q→wpAny (model X.prog X.w) X.A (isTrue e X.env whole) (TP X pins σ Q) X.xe s
theorem PW.pt {X:Cx} {e:Expr} {t:TT} (h:PW X e t):PT X e t:=h _
def PA (X:Cx) (es:List Expr) (t:TA):Prop :=
 ∀ (pos:Pos) (pins:List (Addr×Obj)) (s:Shared) (σ:St) (H:Hp) (Q:List V→Hp→Prop),Inv X pins σ H s→t σ H Q→wpAny (model X.prog X.w) X.A (spliced (backTo pos (starEach es X.env))) (AP X pins σ Q) X.xe s
def PS (X:Cx) (st:Stmt) (t:TS):Prop :=
 ∀ (pins:List (Addr×Obj)) (s:Shared) (σ:St) (H:Hp) (D:zb8),Inv X pins σ H s→t D σ H→wpAny (model X.prog X.w) X.A (exec st X.env) (SP X pins D) X.xe s
def PSs (X:Cx) (st:List Stmt) (t:TS):Prop :=
 ∀ (pins:List (Addr×Obj)) (s:Shared) (σ:St) (H:Hp) (D:zb8),Inv X pins σ H s→t D σ H→wpAny (model X.prog X.w) X.A (execs st X.env) (SP X pins D) X.xe s
theorem thn {α:Type} {t:Sem α} {Q Q':α→Shared→Prop} {M:Model} {A:Around} {E:Value→Shared→Prop} {s:Shared} (h:wpAny M A t Q E s) (hQ:∀ a s,Q a s→Q' a s):wpAny M A t Q' E s:=wpAny_mono h hQ fun _ _ x=>x
end L2
namespace L2
open PySem PySem.Spec PyProof.Rows
section
variable {X:Cx}
def zac (i:Nat):TE:=fun σ H Q=>∃ v,σ[i]?=some (some v)∧Q v H
def tC (v:V):TE:=fun _ H Q=>Q v H
theorem ztn {i:Nat} {x:Str} {pos:Pos} (hN:X.N[i]?=some x) (hv:Vis X.env.scope x) (hd:(x == ("__debug__":Str))=false:=by decide) (hcd:(x == ("__classdict__":Str))=false:=by decide):PE X (.Name x pos) (zac i):=by
 intro pins s σ H Q I h
 obtain ⟨v,e,h⟩:=h
 obtain ⟨m,hn,hl⟩:=I.loc
 obtain ⟨u,r,l⟩:=hl i x v hN e hv
 have fin:EP X pins σ Q u s:=⟨v,H,I,r,h⟩
 rcases l with ⟨hk,hm⟩ | ⟨hk,c,hc,hcell⟩
 ·exact wpAny_Name (wpAny_loadName_local I.ok.kind hk hn hm fin) hd
 ·rcases hk with hk | hk
  ·exact wpAny_Name (wpAny_loadName_cell I.ok.kind hk hc hcell fin) hd
  ·exact wpAny_Name (wpAny_loadName_free I.ok.kind hk hc hcell fin hcd) hd
theorem zah {i j pos}:PE X (.Constant (.int i) j pos) (tC (.int i)):=fun _ _ _ H _ I h=>wpAny_Constant_int ⟨.int i,H,I.tok _,⟨_,rfl⟩,h⟩
theorem zfc {b j pos}:PE X (.Constant (.bool b) j pos) (tC (.bl b)):=fun _ _ _ H _ I h=>Constant_bool ⟨.bl b,H,I,rfl,h⟩
theorem zfr {j pos}:PE X (.Constant .none j pos) (tC .non):=fun _ _ _ H _ I h=>Constant_none ⟨.non,H,I,rfl,h⟩
theorem zdX {x j pos}:PE X (.Constant (.str x) j pos) (tC (.str x)):=fun _ _ _ H _ I h=>Calls.Constant_str ⟨.str x,H,I.tok _,⟨_,rfl⟩,h⟩
def Gl (X:Cx) (x:Str):Prop:=X.env.kindOf x=some .globalImplicit
theorem zge {E:Value→Shared→Prop} {pins:List (Addr×Obj)} {s:Shared} {σ:St} {H:Hp} {x:Str} {u:Value} {pos:Pos} {Q:Value→Shared→Prop} (I:Inv X pins σ H s) (hg:Gl X x) (hm:X.mg x=some u) (h:Q u s)
  (hd:(x == ("__debug__":Str))=false:=by decide):wpAny (model X.prog X.w) X.A (eval (.Name x pos) X.env) Q E s :=
 Calls.Name_function_global I.ok.kind hg (Calls.loadGlobal_global (by rw [I.ok.glob];exact I.mod.glob.keeps I.bk) hm h) hd
theorem zht {E:Value→Shared→Prop} {pins:List (Addr×Obj)} {s:Shared} {σ:St} {H:Hp} {x:Str} {u:Value} {pos:Pos} {Q:Value→Shared→Prop} (I:Inv X pins σ H s) (hg:Gl X x) (hm:X.mg x=none) (hv:bootBuiltins x=some u) (h:Q u s)
  (hn:x≠"__name__":=by decide) (hd:(x == ("__debug__":Str))=false:=by decide):wpAny (model X.prog X.w) X.A (eval (.Name x pos) X.env) Q E s:=by
 obtain ⟨mb,h1,h2⟩:=I.mod.blt
 exact Calls.Name_function_global I.ok.kind hg (Calls.loadGlobal_builtin (by rw [I.ok.glob];exact I.mod.glob.keeps I.bk) hm (by rw [I.ok.blt];exact h1.keeps I.bk) ((h2 x hn).trans hv) h) hd
theorem zca {x:Str} {v:V} {u:Value} {pos:Pos} (hg:Gl X x) (hm:X.mg x=some u) (r:zcC v u) (hd:(x == ("__debug__":Str))=false:=by decide):PE X (.Name x pos) (tC v) :=
 fun _ _ _ H _ I h=>zge I hg hm ⟨v,H,I,r,h⟩ hd
theorem zbc {x:Str} {v:V} {u:Value} {pos:Pos} (hg:Gl X x) (hm:X.mg x=none) (hv:bootBuiltins x=some u) (r:zcC v u) (hn:x≠"__name__":=by decide) (hd:(x == ("__debug__":Str))=false:=by decide):PE X (.Name x pos) (tC v) :=
 fun _ _ _ H _ I h=>zht I hg hm hv ⟨v,H,I,r,h⟩ hn hd
variable {a b:Expr} {ta tb:TE} {pos:Pos}
def PC (X:Cx) (op:CmpOp) (a b:Expr) (t:TE):Prop :=
 ∀ (pins:List (Addr×Obj)) (s:Shared) (σ:St) (H:Hp) (Q:VK),Inv X pins σ H s→t σ H Q →
  wpAny (model X.prog X.w) X.A (eval a X.env) (fun v s₁=>wpAny (model X.prog X.w) X.A (eval b X.env) (fun u s₂=>wpAny (model X.prog X.w) X.A (compareOp op v u) (EP X pins σ Q) X.xe s₂) X.xe s₁) X.xe s
def tB (t:TE):TT:=fun σ H Q=>t σ H fun x H1=>∃ c,x=.bl c∧Q c H1
theorem zmY {op:CmpOp} {t:TE} (h:PC X op a b t) (h1:behindInMarks op b=false:=by first | exact nobehind _ (by decide) (by decide) | rfl):PE X (.Compare a [op] [b] pos) t:=fun pins s σ H Q I hw=>wpAny_Compare1 (h pins s σ H Q I hw) h1
theorem zi8 {op:CmpOp} {t:TE} (h:PC X op a b t) (h1:behindInMarks op b=false:=by first | exact nobehind _ (by decide) (by decide) | rfl):PT X (.Compare a [op] [b] pos) (tB t):=by
 intro pins s σ H Q I hw
 refine wpAny_isTrue_Compare1 (thn (h pins s σ H _ I hw) fun v s1 h1=>thn h1 fun u s2 h2=>thn h2 fun c s3 hQ'=>?_) h1
 obtain ⟨x,H1,I1,r1,q1⟩:=hQ'
 obtain ⟨d,rfl,q⟩:=q1
 cases r1
 exact wpAny_truthy_bool ⟨H1,I1,q⟩
theorem zcu {e:Expr} {t:TE} (h:PE X e t) (he:∀ whole,isTrue e X.env whole=(do let v ← whole;standAt e.pos;holding [v] (truthy v)):=by intro _;rfl):PT X e (tB t):=by
 intro pins s σ H Q I hw
 refine isTrue_plain (thn (h pins s σ H _ I hw) fun v s1 hQ'=>?_) (he _)
 obtain ⟨x,H1,I1,r1,q1⟩:=hQ'
 obtain ⟨d,rfl,q⟩:=q1
 cases r1
 exact wpAny_truthy_bool ⟨H1,I1,q⟩
variable {tA tB':TT} {zhH:List Expr}
def zp4 (t u:TT):TT:=fun σ H Q=>t σ H fun c H1=>if c=true then u σ H1 Q else Q false H1
def tOr (t u:TT):TT:=fun σ H Q=>t σ H fun c H1=>if c=true then Q true H1 else u σ H1 Q
def zgs (t:TT):TT:=fun σ H Q=>t σ H fun c H1=>Q (!c) H1
theorem zjC (ha:PT X a tA):PW X (.BoolOp .And [a] pos) tA:=by
 intro wh pins s σ H Q I h
 refine isTrue_and (thn (ha pins s σ H Q I h) fun c s1 e=>?_)
 cases c with
 | true=>exact isTrue_and_nil e
 | false=>exact e
theorem zeY (ha:PT X a tA):PW X (.BoolOp .Or [a] pos) tA:=by
 intro wh pins s σ H Q I h
 refine isTrue_or (thn (ha pins s σ H Q I h) fun c s1 e=>?_)
 cases c with
 | false=>exact isTrue_or_nil e
 | true=>exact e
theorem zmN (ha:PT X a tA) (hb:PW X (.BoolOp .And (b::zhH) pos) tB'):PW X (.BoolOp .And (a::b::zhH) pos) (zp4 tA tB'):=by
 intro wh pins s σ H Q I h
 refine isTrue_and (thn (ha pins s σ H _ I h) fun c s1 hQ'=>?_)
 obtain ⟨H1,I1,q1⟩:=hQ'
 cases c with
 | true=>exact hb wh pins s1 σ H1 Q I1 q1
 | false=>exact ⟨H1,I1,q1⟩
theorem zeZ (ha:PT X a tA) (hb:PW X (.BoolOp .Or (b::zhH) pos) tB'):PW X (.BoolOp .Or (a::b::zhH) pos) (tOr tA tB'):=by
 intro wh pins s σ H Q I h
 refine isTrue_or (thn (ha pins s σ H _ I h) fun c s1 hQ'=>?_)
 obtain ⟨H1,I1,q1⟩:=hQ'
 cases c with
 | true=>exact ⟨H1,I1,q1⟩
 | false=>exact hb wh pins s1 σ H1 Q I1 q1
theorem zdC (ha:PT X a tA):PT X (.UnaryOp .Not a pos) (zgs tA):=by
 intro pins s σ H Q I h
 exact isTrue_not (ha pins s σ H (fun c H1=>Q (!c) H1) I h)
def zcW (ta tb:TE):TE:=fun σ H Q=>ta σ H fun x H1=>∃ c,x=.bl c∧if c=true then tb σ H1 Q else Q (.bl false) H1
def znF (ta:TE):TE:=fun σ H Q=>ta σ H fun x H1=>∃ c,x=.bl c∧Q (.bl (!c)) H1
theorem zdp {op} {t:TE} (h:PE X a t):PE X (.BoolOp op [a] pos) t:=fun pins s σ H Q I hw=>BoolOp_one (h pins s σ H Q I hw)
theorem zcQ (ha:PE X a ta) (hb:PE X (.BoolOp .And (b::zhH) pos) tb):PE X (.BoolOp .And (a::b::zhH) pos) (zcW ta tb):=by
 intro pins s σ H Q I h
 refine BoolOp_and (thn (ha pins s σ H _ I h) fun v s1 hQ'=>?_)
 obtain ⟨x,H1,I1,r1,q1⟩:=hQ'
 obtain ⟨c,rfl,q1⟩:=q1
 cases r1
 refine wpAny_truthy_bool ?_
 cases c with
 | true=>exact hb pins s1 σ H1 Q I1 q1
 | false=>exact ⟨.bl false,H1,I1,rfl,q1⟩
theorem zk5 (ha:PE X a ta):PE X (.UnaryOp .Not a pos) (znF ta):=by
 intro pins s σ H Q I h
 refine UnaryOp_ (thn (ha pins s σ H _ I h) fun v s1 hQ'=>?_)
 obtain ⟨x,H1,I1,r1,q1⟩:=hQ'
 obtain ⟨c,rfl,q1⟩:=q1
 cases r1
 exact not_of (wpAny_truthy_bool ⟨.bl (!c),H1,I1,rfl,q1⟩)
def tIf (t:TT) (ta tb:TE):TE:=fun σ H Q=>t σ H fun c H1=>if c=true then ta σ H1 Q else tb σ H1 Q
theorem zqO {c:Expr} (hc:PT X c tA) (ha:PE X a ta) (hb:PE X b tb):PE X (.IfExp c a b pos) (tIf tA ta tb):=by
 intro pins s σ H Q I h
 refine wpAny_IfExp (thn (hc pins s σ H _ I h) fun d s1 hQ'=>?_)
 obtain ⟨H1,I1,q1⟩:=hQ'
 cases d with
 | true=>exact ha pins s1 σ H1 Q I1 q1
 | false=>exact hb pins s1 σ H1 Q I1 q1
end
end L2
namespace L2
open PySem PySem.Spec PyProof.Rows
def SqL (K:PySem.W.Frag) (H:Hp) (a:Addr) (xs:List V):Prop :=
 Rd H a (.lst xs) ∨
  ∃ (o:Obj) (its:Array Value) (n:Nat),K.lookup a=some o∧o.cls=.type "list"∧o.dict=none∧o.data=.seq its n∧its.size≤sizeLine∧zck xs its.toList
def SqT (K:PySem.W.Frag) (H:Hp) (a:Addr) (xs:List V):Prop :=
 Rd H a (.tup xs) ∨
  ∃ (o:Obj) (its:Array Value) (n:Nat),K.lookup a=some o∧o.cls=.type "tuple"∧o.data=.seq its n∧its.size≤sizeLine∧zck xs its.toList
def absV:Value→Option V
 | .none=>some .non
 | .bool b=>some (.bl b)
 | .int i _=>some (.int i)
 | .str x _=>some (.str x)
 | .bytes b _=>some (.byt b)
 | .float b _=>some (.flt b)
 | .ref a=>some (.ref a)
 | .type n=>some (.ty n)
 | _=>none
theorem zcC.abs {x:V} {u:Value} (r:zcC x u):absV u=some x:=by
 cases x with
 | non=>cases r;rfl
 | bl _=>cases r;rfl
 | int _=>obtain ⟨t,rfl⟩:=r;rfl
 | str _=>obtain ⟨t,rfl⟩:=r;rfl
 | byt _=>obtain ⟨t,rfl⟩:=r;rfl
 | flt _=>obtain ⟨t,rfl⟩:=r;rfl
 | ref _=>cases r;rfl
 | ty _=>cases r;rfl
theorem zcC.inj {x y:V} {u:Value} (r:zcC x u) (q:zcC y u):x=y:=Option.some.inj (r.abs.symm.trans q.abs)
theorem zck.inj:∀ {xs ys:List V} {us:List Value},zck xs us→zck ys us→xs=ys
 | _,_,_,.nil,.nil=>rfl
 | _,_,_,.cons r t,.cons r' t'=>by rw [r.inj r',zck.inj t t']
section
variable {X:Cx} {pins:List (Addr×Obj)} {σ:St} {H:Hp} {s:Shared} {a:Addr} {xs ys:List V}
theorem SqL.of {K:PySem.W.Frag} (h:H a=some (.lst xs)):SqL K H a xs:=.inl (.inl h)
theorem SqT.of {K:PySem.W.Frag} (h:H a=some (.tup xs)):SqT K H a xs:=.inl (.inl h)
theorem Inv.list (I:Inv X pins σ H s) (h:SqL X.K H a xs):∃ its:List Value,zck xs its∧PlainL s.heap a its.toArray∧xs.length≤sizeLine:=by
 rcases h with h | ⟨o,its,n,hk,hc,hd,hs,hz,r⟩
 ·obtain ⟨z,its,n,r,e⟩:=h.ok I.hok
  exact ⟨its,r,⟨_,n,e,rfl,rfl,rfl⟩,z⟩
 ·refine ⟨its.toList,r,⟨o,n,I.kIn a o hk,hc,hd,by simpa using hs⟩,?_⟩
  have e:=r.length
  simp only [Array.length_toList] at e
  (first|lia|omega)
theorem Inv.tuple (I:Inv X pins σ H s) (h:SqT X.K H a xs):∃ its:List Value,zck xs its∧IsTup s.heap a its.toArray∧xs.length≤sizeLine:=by
 rcases h with h | ⟨o,its,n,hk,hc,hs,hz,r⟩
 ·obtain ⟨z,its,r,p⟩:=h.ok I.hok
  exact ⟨its,r,p,z⟩
 ·refine ⟨its.toList,r,⟨o,I.kIn a o hk,hc,n,by simpa using hs⟩,?_⟩
  have e:=r.length
  simp only [Array.length_toList] at e
  (first|lia|omega)
theorem Inv.list_inj (I:Inv X pins σ H s) (h:SqL X.K H a xs) (h':SqL X.K H a ys):xs=ys:=by
 obtain ⟨its,r,⟨o,n,e,_,_,d⟩,_⟩:=I.list h
 obtain ⟨its',r',⟨o',n',e',_,_,d'⟩,_⟩:=I.list h'
 rw [e] at e';cases e'
 rw [d] at d'
 injection d' with d1 _
 have:its=its':=by simpa using congrArg Array.toList d1
 subst this
 exact r.inj r'
end
abbrev Cx.wish (X:Cx) (E:Value→Shared→Prop):Cx:={ X with xe:=E }
abbrev Cx.nox (X:Cx):Cx:=X.wish fun _ _=>False
theorem Cx.Ok.wish {X:Cx} (ok:X.Ok) (E:Value→Shared→Prop):(X.wish E).Ok :=
 ⟨ok.mod,ok.kind,ok.glob,ok.blt,ok.above,ok.inj,ok.has,ok.cab,ok.hd,ok.frames,ok.stk,ok.exf,ok.bs,ok.bsz,ok.noex,ok.exfs,ok.funs,ok.frf⟩
theorem Cx.Ok.unwish {X:Cx} {E:Value→Shared→Prop} (ok:(X.wish E).Ok):X.Ok :=
 ⟨ok.mod,ok.kind,ok.glob,ok.blt,ok.above,ok.inj,ok.has,ok.cab,ok.hd,ok.frames,ok.stk,ok.exf,ok.bs,ok.bsz,ok.noex,ok.exfs,ok.funs,ok.frf⟩
section
variable {X:Cx} {pins:List (Addr×Obj)} {σ:St} {H:Hp} {s:Shared} {E:Value→Shared→Prop}
theorem Inv.wish (I:Inv X pins σ H s) (E:Value→Shared→Prop):Inv (X.wish E) pins σ H s:=⟨I.ok.wish E,I.os,I.bare,I.base,I.loc,I.cell,I.free,I.freeC,I.pin,I.hok,I.len⟩
theorem Inv.unwish (I:Inv (X.wish E) pins σ H s):Inv X pins σ H s:=⟨I.ok.unwish,I.os,I.bare,I.base,I.loc,I.cell,I.free,I.freeC,I.pin,I.hok,I.len⟩
theorem SP.unwish {D:zb8} {f:Flow} {s':Shared} (h:SP (X.wish E) pins D f s'):SP X pins D f s':=by
 cases f with
 | next=>obtain ⟨σ',H',I,q⟩:=h;exact ⟨σ',H',I.unwish,q⟩
 | brk=>obtain ⟨σ',H',I,q⟩:=h;exact ⟨σ',H',I.unwish,q⟩
 | cont=>obtain ⟨σ',H',I,q⟩:=h;exact ⟨σ',H',I.unwish,q⟩
 | ret u=>obtain ⟨v,σ',H',I,r,q⟩:=h;exact ⟨v,σ',H',I.unwish,r,q⟩
theorem PSs.nox {st:List Stmt} {t:TS} (h:PSs X.nox st t):PSs X st t:=fun pins s σ H D I hw =>
 wpAny_mono (h pins s σ H D (I.wish _) hw) (fun _ _ q=>q.unwish) fun _ _ z=>False.elim z
end
section
variable {X:Cx} {st:Stmt} {zhH:List Stmt} {t u:TS} {e:Expr} {te:TE} {pos:Pos}
def zaZ:TS:=fun D σ H=>D.nx σ H
def zaF (t u:TS):TS:=fun D σ H=>t { D with nx:=u D } σ H
theorem zaE:PSs X [] zaZ:=fun _ _ σ H _ I h=>wpAny_execs_nil ⟨σ,H,I,h⟩
theorem zaf (h1:PS X st t) (h2:PSs X zhH u):PSs X (st::zhH) (zaF t u):=by
 intro pins s σ H D I h
 refine wpAny_execs_cons (thn (h1 pins s σ H { D with nx:=u D } I h) fun f s1 q=>?_)
 cases f with
 | next =>
  obtain ⟨σ',H',I',q⟩:=q
  exact h2 pins s1 σ' H' D I' q
 | ret v=>exact q
 | brk=>exact q
 | cont=>exact q
theorem zak (h1:PS X st t):PSs X [st] t:=by
 intro pins s σ H D I h
 refine wpAny_execs_cons (thn (h1 pins s σ H D I h) fun f s1 q=>?_)
 cases f with
 | next=>exact wpAny_execs_nil q
 | ret v=>exact q
 | brk=>exact q
 | cont=>exact q
theorem Inv.quiet {pins:List (Addr×Obj)} {σ:St} {H:Hp} {s:Shared} (I:Inv X pins σ H s):interactive X.env=false:=by simp [interactive,I.ok.kind]
def zdD (te:TE):TS:=fun D σ H=>te σ H fun _ H1=>D.nx σ H1
theorem zdr (he:PE X e te) (hs:swapsWith e none pos.line X.env=pure false:=by rfl):PS X (.Expr e pos) (zdD te):=by
 intro pins s σ H D I h
 exact wpAny_Expr_any (thn (he pins s σ H _ I h) fun v s1 ⟨x,H1,I1,r1,q1⟩=>⟨σ,H1,I1,q1⟩) I.quiet hs
def zbY (te:TE):TS:=fun D σ H=>te σ H D.rt
theorem zaX (he:PE X e te):PS X (.Return (some e) pos) (zbY te):=by
 intro pins s σ H D I h
 exact wpAny_Return_some (thn (he pins s σ H _ I h) fun v s1 ⟨x,H1,I1,r1,q1⟩=>⟨x,σ,H1,I1,r1,q1⟩)
def zb7 (c:TT) (t u:TS):TS:=fun D σ H=>c σ H fun b H1=>if b=true then t D σ H1 else u D σ H1
theorem zbA {c:Expr} {a b:List Stmt} {tc:TT} (hc:PT X c tc) (ha:PSs X a t) (hb:PSs X b u):PS X (.If c a b pos) (zb7 tc t u):=by
 intro pins s σ H D I h
 refine wpAny_If (thn (hc pins s σ H _ I h) fun d s1 hQ'=>?_)
 obtain ⟨H1,I1,q1⟩:=hQ'
 cases d with
 | true=>exact ha pins s1 σ H1 D I1 q1
 | false=>exact hb pins s1 σ H1 D I1 q1
def zix:TS:=fun _ _ _=>False
theorem zjG:PS X st zix:=fun _ _ _ _ _ _ h=>h.elim
end
abbrev TG:=V→St→Hp→(St→Hp→Prop)→Prop
abbrev TGs:=List V→St→Hp→(St→Hp→Prop)→Prop
def PG (X:Cx) (target:Expr) (t:TG):Prop :=
 ∀ (pins:List (Addr×Obj)) (s:Shared) (σ:St) (H:Hp) (v:V) (u:Value) (Q:St→Hp→Prop),Inv X pins σ H s→zcC v u→t v σ H Q →
  wpAny (model X.prog X.w) X.A (assign target X.env u) (fun _ s'=>∃ σ' H',Inv X pins σ' H' s'∧Q σ' H') X.xe s
def PGs (X:Cx) (ts:List Expr) (t:TGs):Prop :=
 ∀ (pins:List (Addr×Obj)) (s:Shared) (σ:St) (H:Hp) (vs:List V) (us:List Value) (Q:St→Hp→Prop),Inv X pins σ H s→zck vs us→t vs σ H Q →
  wpAny (model X.prog X.w) X.A (assignInOrder ((assignEach ts X.env).map (·.2)) us) (fun _ s'=>∃ σ' H',Inv X pins σ' H' s'∧Q σ' H') X.xe s
section
variable {X:Cx} {pos:Pos}
def zal (i:Nat):TG:=fun v σ H Q=>Q (σ.set i (some v)) H
theorem za0 {i:Nat} {x:Str} (hN:X.N.Nodup) (hi:X.N[i]?=some x) (hx:Loc X.env.scope x) (hf:X.fn x=true∨X.env.scope.names.lookup x=some .local:=by first | exact .inl rfl | exact .inr rfl | assumption):PG X (.Name x pos) (zal i):=by
 intro pins s σ H v u Q I r h
 exact wpAny_assign_Name (zgM I hN hi hx r (fun s' I'=>⟨_,H,I',h⟩) hf)
def ziy:TGs:=fun vs σ H Q=>vs=[]∧Q σ H
def zbW (t:TG) (u:TGs):TGs:=fun vs σ H Q=>∃ v r,vs=v::r∧t v σ H fun σ' H'=>u r σ' H' Q
theorem zdh:PGs X [] ziy:=by
 intro pins s σ H vs us Q I r h
 obtain ⟨e,h⟩:=h
 subst e
 cases r
 exact assignInOrder_nil ⟨σ,H,I,h⟩
theorem zbd {e:Expr} {es:List Expr} {t:TG} {u:TGs} (h1:PG X e t) (h2:PGs X es u)
  (hs:(assignEach (e::es) X.env).map (·.2)=assign e X.env::(assignEach es X.env).map (·.2):=by rfl):PGs X (e::es) (zbW t u):=by
 intro pins s σ H vs us Q I r h
 obtain ⟨v,vr,e1,h⟩:=h
 subst e1
 cases r with
 | cons r rr =>
  rw [hs]
  refine assignInOrder_cons (thn (h1 pins s σ H _ _ _ I r h) fun _ s1 hQ'=>?_)
  obtain ⟨σ1,H1,I1,q1⟩:=hQ'
  exact h2 pins s1 σ1 H1 _ _ Q I1 rr q1
def ziz (K:PySem.W.Frag) (n:Nat) (t:TGs):TG:=fun v σ H Q=>∃ a xs,v=.ref a∧SqT K H a xs∧xs.length=n∧t xs σ H Q
theorem zev {es:List Expr} {k:Nat} {t:TGs} {n:Nat} (hc:X.calm=true) (h:PGs X es t)
  (hn:(assignEach es X.env).length=n:=by rfl) (hst:(assignEach es X.env).findIdx? (·.1)=none:=by rfl):PG X (.Tuple es k pos) (ziz X.K n t):=by
 intro pins s σ H v u Q I r hw
 obtain ⟨a,xs,e1,hq,hl,hw⟩:=hw
 subst e1
 cases r
 obtain ⟨its,rv,ht,hz⟩:=I.tuple hq
 refine assign_Tuple_tuple (I.ok.hd hc) ht (by simp [hn,← hl,rv.length]) hst fun h' hx=>?_
 have I1:Inv X pins σ H { s with heap:=h' }:=I.kept (t':=s.toks) fun b o e=>hx b o (Nat.ne_of_lt (Heap.lt_size e)) e
 exact h pins _ σ H xs _ Q I1 (by simpa using rv) hw
def zbj (te:TE) (g:TG):TS:=fun D σ H=>te σ H fun x H1=>g x σ H1 D.nx
theorem zmI {tg e:Expr} {te:TE} {g:TG} (he:PE X e te) (hg:PG X tg g) (hs:swapsWithSole [tg] e pos.line X.env=pure false:=by rfl) (hw:swappedStores [tg] e X.env=pure none:=by rfl)
  (h1:(assignEach [tg] X.env).map (·.2)=[assign tg X.env]:=by rfl):PS X (.Assign [tg] e pos) (zbj te g):=by
 intro pins s σ H D I h
 refine wpAny_Assign_stores (thn (he pins s σ H _ I h) fun v s1 hQ'=>?_) hs hw
 obtain ⟨x,H1,I1,r1,q1⟩:=hQ'
 rw [h1]
 exact thn (hg pins s1 σ H1 x v _ I1 r1 q1) fun _ s2 q=>q
theorem zaB {i:Nat} {x:Str} {e:Expr} {te:TE} {pos':Pos} (hN:X.N.Nodup) (hi:X.N[i]?=some x) (hx:Loc X.env.scope x) (he:PE X e te) (hs:swapsWith e (some (.Name x pos')) pos.line X.env=pure false:=by rfl) (hf:X.fn x=true∨X.env.scope.names.lookup x=some .local:=by first | exact .inl rfl | exact .inr rfl | assumption) :
  PS X (.Assign [.Name x pos'] e pos) (zbj te (zal i)):=by
 intro pins s σ H D I h
 refine wpAny_Assign_Name (thn (he pins s σ H _ I h) fun v s1 hQ'=>?_) hs
 obtain ⟨y,H1,I1,r1,q1⟩:=hQ'
 exact zgM I1 hN hi hx r1 (fun s2 I2=>⟨_,H1,I2,q1⟩) hf
def tPar (i j:Nat) (ta:TA):TS:=fun D σ H=>ta σ H fun vs H1=>∃ v w,vs=[v,w]∧D.nx ((σ.set i (some v)).set j (some w)) H1
theorem ztW {i j:Nat} {x y:Str} {a b:Expr} {ta:TA} {px py pt:Pos} {kt k2 pt2} (hc:X.calm=true) (hN:X.N.Nodup) (hi:X.N[i]?=some x) (hj:X.N[j]?=some y) (hij:i≠j)
  (hx:X.env.scope.names.lookup x=some .local) (hy:X.env.scope.names.lookup y=some .local) (ha:PA X [a,b] ta)
  (hw:swappedStores [.Tuple [.Name x px,.Name y py] kt pt] (.Tuple [a,b] k2 pt2) X.env=pure (some [x,y]))
  (hs:swapsWithSole [.Tuple [.Name x px,.Name y py] kt pt] (.Tuple [a,b] k2 pt2) pos.line X.env=pure false:=by rfl) :
  PS X (.Assign [.Tuple [.Name x px,.Name y py] kt pt] (.Tuple [a,b] k2 pt2) pos) (tPar i j ta):=by
 intro pins s σ H D I h
 rw [exec_Assign_arm]
 refine wpAny_bind (wpAny_standAt ?_)
 rw [hs]
 refine wpAny_bind (wpAny_pure ?_)
 rw [if_neg (by decide)]
 refine wpAny_bind (Tuple_ (thn (ha _ pins s σ H _ I h) fun us s1 hQ'=>?_))
 obtain ⟨vs,H1,I1,r1,q1⟩:=hQ'
 obtain ⟨v,w,e1,q1⟩:=q1
 subst e1
 obtain ⟨u1,u2,rfl,rv,rw'⟩:∃ u1 u2,us=[u1,u2]∧zcC v u1∧zcC w u2:=by
  cases r1 with
  | cons p q =>
   cases q with
   | cons p' q' =>
    cases q'
    exact ⟨_,_,rfl,p,p'⟩
 refine wpAny_newObj_type ?_ (by show 2≤sizeLine;decide)
 have I2:Inv X pins σ H1 { s1 with heap:=s1.heap.push { cls:=.type "tuple",data:=.seq [u1,u2].toArray } }:=I1.kept (t':=s1.toks) fun b o e=>Heap.get?_push_of_some _ e
 rw [hw]
 refine wpAny_bind (wpAny_pure ?_)
 show wpAny (model X.prog X.w) X.A (do rule "assign.swapped-stores";let items ← unpackItems (.ref s1.heap.objs.size) 2 none;assignInOrder [fun v=>bindName X.env y v,fun v=>bindName X.env x v] items.reverse;pure Flow.next) _ _ _
 refine wpAny_bind (wpAny_rule (wpAny_bind (unpackItems_tuple (items:=#[u1,u2]) (I.ok.hd hc) (IsTup.new s1.heap _) fun h' hx'=>?_)))
 have I3:=I2.kept (h':=h') (t':=s1.toks) fun b o e=>hx' b o (Nat.ne_of_lt (Heap.lt_size e)) e
 show wpAny _ _ (assignInOrder [fun v=>bindName X.env y v,fun v=>bindName X.env x v] [u2,u1] >>= fun _=>pure Flow.next) _ _ _
 refine wpAny_bind (assignInOrder_cons (wpAny_bindName (zgM I3 hN hj (.inl hy) rw' (fun s2 I4=>?_) (.inr hy))))
 refine assignInOrder_cons (wpAny_bindName (zgM I4 hN hi (.inl hx) rv (fun s3 I5=>assignInOrder_nil (wpAny_pure ?_)) (.inr hx)))
 rw [List.set_comm _ _ (Ne.symm hij)] at I5
 exact ⟨_,H1,I5,q1⟩
end
section
variable {X:Cx} {pos:Pos}
def zgE (c:TT) (tb:TS):TS:=fun D σ H=>∃ W:Nat→St→Hp→Prop,(∃ m,W m σ H)∧∀ m σ H,W m σ H →
 c σ H fun b H1=>if b=true then ∃ N:St→Hp→Prop,(∀ σ' H',N σ' H'→∃ m',m'<m∧W m' σ' H')∧tb { D with nx:=N,ct:=N,bk:=D.nx } σ H1 else D.nx σ H1
theorem zgD {c:Expr} {body:List Stmt} {tc:TT} {tb:TS} (hp:PassesOwn (model X.prog X.w) X.A X.env X.xe) (hc:PT X c tc) (hb:PSs X body tb):PS X (.While c body [] pos) (zgE tc tb):=by
 intro pins s σ H D I h
 obtain ⟨W,⟨m0,w0⟩,turn⟩:=h
 refine wpAny_While (codeAny_whileLoop (fun n s'=>∃ σ' H',Inv X pins σ' H' s'∧W n σ' H') ?_ m0 ⟨σ,H,I,w0⟩)
 rintro n s1 ⟨σ1,H1,I1,w1⟩
 refine wpAny_passesOwn hp (thn (hc pins s1 σ1 H1 _ I1 (turn n σ1 H1 w1)) fun b s2 hQ'=>?_)
 obtain ⟨H2,I2,q2⟩:=hQ'
 cases b with
 | true =>
  obtain ⟨N,hN,q2⟩:=q2
  rw [if_pos rfl]
  refine wpAny_passesOwn hp (thn (hb pins s2 σ1 H2 _ I2 q2) fun f s3 q3=>?_)
  cases f with
  | next =>
   obtain ⟨σ3,H3,I3,n3⟩:=q3
   obtain ⟨m',hm,w3⟩:=hN σ3 H3 n3
   exact ⟨m',hm,σ3,H3,I3,w3⟩
  | cont =>
   obtain ⟨σ3,H3,I3,n3⟩:=q3
   obtain ⟨m',hm,w3⟩:=hN σ3 H3 n3
   exact ⟨m',hm,σ3,H3,I3,w3⟩
  | brk=>exact q3
  | ret v=>exact q3
 | false =>
  rw [if_neg Bool.false_ne_true]
  exact wpAny_execs_nil ⟨σ1,H2,I2,q2⟩
end
structure It where
 go:Nat→Hp→Prop
 yld:Nat→Hp→V→Hp→Prop
 stop:Nat→Hp→Prop
def zn0 (X:Cx) (pins:List (Addr×Obj)) (H:Hp) (b:Addr):Prop :=
 H b=none∧b≠X.env.locals∧b∉X.fs∧(b∈X.ex∨X.s₀.heap.objs.size≤b)∧(∀ x c,X.env.cells.lookup x=some c→c≠b)∧∀ p∈X.pn++pins,p.1≠b
theorem Inv.fpOk {X:Cx} {pins:List (Addr×Obj)} {σ:St} {H H':Hp} {s:Shared} {b:Addr} (I:Inv X pins σ H s) (hb:s.heap.objs.size≤b) (hn:H' b=none):zn0 X pins H' b:=by
 refine ⟨hn,Nat.ne_of_gt (Nat.lt_of_lt_of_le I.lt hb),I.nofs hb,.inr (Nat.le_trans I.sz hb),fun x c e z=>?_,fun p hp z=>?_⟩
 ·obtain ⟨v,q⟩:=I.cell x c e
  exact absurd (Nat.lt_of_lt_of_le q.lt (by rw [z];exact hb)) (Nat.lt_irrefl _)
 ·exact absurd (Nat.lt_of_lt_of_le (Heap.lt_size (I.pin p hp).1) (by rw [z];exact hb)) (Nat.lt_irrefl _)
structure ztw (P:Program) (w:World) (K:PySem.W.Frag) (tg:Expr) (J:It) (fp:List Addr) (it:Addr) (tn:Nat→Heap→Prop):Prop where
 mem:it∈fp
 obj:∀ i h,tn i h→∀ b∈fp,∃ o,h.get? b=some o∧∀ v,o.data≠.cell v
 keep:∀ i h h',tn i h→(∀ b∈fp,∀ o,h.get? b=some o→h'.get? b=some o)→tn i h'
 item:∀ (X:Cx),X.prog=P→X.w=w→X.K=K→X.calm=true→∀ (i:Nat) (pins:List (Addr×Obj)) (s:Shared) (σ:St) (H:Hp) (E:Value→Shared→Prop),Inv X pins σ H s→(∀ b∈fp,zn0 X pins H b)→tn i s.heap→J.go i H →
  wpAny (model P w) X.A (pyNext (.ref it)) (fun r s1=>∃ u,r=some u ∧
   wpAny (model P w) X.A (letOwnedTupleGo tg (.ref it) u) (fun _ s2=>∃ x H',Inv X pins σ H' s2∧zcC x u∧J.yld i H x H'∧tn (i+1) s2.heap∧∀ b∈fp,H' b=none) E s1) E s
 done:∀ (X:Cx),X.prog=P→X.w=w→X.K=K→X.calm=true→∀ (i:Nat) (pins:List (Addr×Obj)) (s:Shared) (σ:St) (H:Hp) (E:Value→Shared→Prop),Inv X pins σ H s→(∀ b∈fp,zn0 X pins H b)→tn i s.heap→J.stop i H →
  wpAny (model P w) X.A (pyNext (.ref it)) (fun r s1=>r=none∧Inv X pins σ H s1) E s
 self:∀ (A:Around) (i:Nat) (s:Shared) (Q:Value→Shared→Prop) (E:Value→Shared→Prop),tn i s.heap→Q (.ref it) s→wpAny (model P w) A (pyIter (.ref it)) Q E s
abbrev TI:=St→Hp→(It→Hp→Prop)→Prop
def PIE (X:Cx) (pins:List (Addr×Obj)) (σ:St) (tg:Expr) (R:It→Hp→Prop) (itv:Value) (s2:Shared):Prop :=
 ∃ (it:Addr) (fp:List Addr) (tn:Nat→Heap→Prop) (J:It) (H':Hp),itv=.ref it∧Inv X pins σ H' s2∧ztw X.prog X.w X.K tg J fp it tn∧tn 0 s2.heap∧(∀ b∈fp,zn0 X pins H' b)∧R J H'
def PI (X:Cx) (tg iter:Expr) (wi:TI):Prop :=
 ∀ (pins:List (Addr×Obj)) (s:Shared) (σ:St) (H:Hp) (R:It→Hp→Prop),Inv X pins σ H s→wi σ H R →
  wpAny (model X.prog X.w) X.A (eval iter X.env) (fun v s1=>wpAny (model X.prog X.w) X.A (pyIter v) (PIE X pins σ tg R) X.xe s1) X.xe s
theorem ztp {M:Model} {A:Around} {E:Value→Shared→Prop} {s:Shared} {tg:Expr} {it:Addr} {u:Value} {o:Obj} {n:String} {vs:Array Value} {Q:Unit→Shared→Prop} (ho:s.heap.get? it=some o) (hc:o.cls=.type n) (hd:o.data=.fields vs)
  (hn:["enumerate","zip","dict_itemiterator","dict_reverseitemiterator","odict_iterator","itertools.zip_longest","itertools.pairwise"].contains n=false) (hQ:Q () s):wpAny M A (letOwnedTupleGo tg (.ref it) u) Q E s:=by
 unfold letOwnedTupleGo
 cases tg <;> first
  | exact wpAny_pure hQ
  | (cases u <;> first
    | exact wpAny_pure hQ
    | (refine wpAny_bind (wpAny_load ho ?_)
       rw [hc,hd]
       show wpAny M A (if (["enumerate","zip","dict_itemiterator","dict_reverseitemiterator","odict_iterator","itertools.zip_longest","itertools.pairwise"].contains n&&vs[0]? == some (rawInt _))=true then _ else _) Q E s
       rw [if_neg (by intro h;rw [hn,Bool.false_and] at h;cases h)]
       exact wpAny_pure hQ))
def Itl (K:PySem.W.Frag) (a:Addr):It :=
 ⟨fun i H=>∃ xs x,SqL K H a xs∧xs[i]?=some x,fun i H x H'=>H'=H∧∀ xs,SqL K H a xs→xs[i]?=some x,fun i H=>∃ xs,SqL K H a xs∧xs.length≤i⟩
def Itr (lo:Int) (n:Nat):It:=⟨fun i _=>i<n,fun i H x H'=>H'=H∧x=.int (lo+i),fun i _=>n≤i⟩
theorem zoY {P:Program} {w:World} {K:PySem.W.Frag} {tg:Expr} (a it:Addr):ztw P w K tg (Itl K a) [it] it (fun i h=>h.IsListIter it a i) where
 mem:=by simp
 obj:=fun i h st b hb=>by
  have e:b=it:=by simpa using hb
  subst e
  obtain ⟨o,e,c,d⟩:=st
  exact ⟨o,e,fun v z=>by rw [d] at z;cases z⟩
 keep:=fun i h h' st k=>st.at fun o e=>k it (by simp) o e
 item:=by
  intro X hP hw hK hc i pins s σ H E I hf st hg
  subst hP hw hK
  obtain ⟨xs,x,hq,hx⟩:=hg
  obtain ⟨its,rv,p,hz⟩:=I.list hq
  obtain ⟨u,hu,ru⟩:=rv.get hx
  obtain ⟨f0,f1,f2,f3,f4,f5⟩:=hf it (by simp)
  refine wpAny_pyNext_list_item st p.isList (x:=u) (by simpa using hu) fun h' st' sb=>?_
  have I1:Inv X pins σ H { s with heap:=h' }:=I.turned (t':=s.toks) (fun b o hb e=>(sb.2 b hb).trans e) f0 f1 f3 f4 f5
  obtain ⟨o,e,c,d⟩:=id st'
  exact ⟨u,rfl,ztp (s:={ s with heap:=h' }) e c d (by decide) ⟨x,H,I1,ru,⟨rfl,fun ys hy=>by rw [I.list_inj hy hq];exact hx⟩,st',fun b hb=>(hf b hb).1⟩⟩
 done:=by
  intro X hP hw hK hc i pins s σ H E I hf st hg
  subst hP hw hK
  obtain ⟨xs,hq,hx⟩:=hg
  obtain ⟨its,rv,p,hz⟩:=I.list hq
  obtain ⟨f0,f1,f2,f3,f4,f5⟩:=hf it (by simp)
  have hl:=rv.length
  exact wpAny_pyNext_list_end (I.ok.hd hc) st p.isList (by simp;(first|lia|omega)) fun h' eb=>⟨rfl,I.turned (t':=s.toks) (fun b o hb e=>eb b o hb e) f0 f1 f3 f4 f5⟩
 self:=fun _ _ _ _ _ st h=>wpAny_pyIter_listiter st h
theorem znE {P:Program} {w:World} {K:PySem.W.Frag} {tg:Expr} (it:Addr) (lo:Int) (n:Nat):ztw P w K tg (Itr lo n) [it] it (fun i h=>IsRangeIter h it (lo+(i:Nat)*1) ((n:Int) - (i:Nat)) 1) where
 mem:=by simp
 obj:=fun i h st b hb=>by
  have e:b=it:=by simpa using hb
  subst e
  exact ⟨_,st,fun v z=>by
   have z':Data.fields _=Data.cell v:=z
   cases z'⟩
 keep:=fun i h h' st k=>k it (by simp) _ st
 item:=by
  intro X hP hw hK hc i pins s σ H E I hf st hg
  subst hP hw hK
  obtain ⟨f0,f1,f2,f3,f4,f5⟩:=hf it (by simp)
  have W:=Walks.range (prog:=X.prog) (w:=X.w) (I.ok.hd hc) it lo 1 n
  refine W.item i s _ _ hg st fun v h' tk hv st' kk=>?_
  obtain ⟨t,rfl⟩:=hv
  have I1:Inv X pins σ H { s with heap:=h',toks:=tk }:=I.turned (fun b o hb e=>kk b o (by simpa using hb) e) f0 f1 f3 f4 f5
  refine ⟨_,rfl,ztp (s:={ s with heap:=h',toks:=tk }) (n:="range_iterator") st' rfl rfl (by decide) ⟨.int (lo+i),H,I1,⟨t,?_⟩,⟨rfl,rfl⟩,st',fun b hb=>(hf b hb).1⟩⟩
  rw [Int.mul_one]
 done:=by
  intro X hP hw hK hc i pins s σ H E I hf st hg
  subst hP hw hK
  obtain ⟨f0,f1,f2,f3,f4,f5⟩:=hf it (by simp)
  exact wpAny_pyNext_range_end (I.ok.hd hc) st (by have:n≤i:=hg;(first|lia|omega)) fun h' eb=>⟨rfl,I.turned (t':=s.toks) (fun b o hb e=>eb b o hb e) f0 f1 f3 f4 f5⟩
 self:=fun _ _ _ _ _ st h=>wpAny_pyIter_rangeiter st h
end L2
namespace L2
open PySem PySem.Spec PyProof.Rows
section
variable {X:Cx} {tg:Expr}
def zgO (K:PySem.W.Frag) (tl:TE):TI:=fun σ H R=>tl σ H fun x H1=>∃ a,x=.ref a∧(∃ xs,SqL K H1 a xs)∧R (Itl K a) H1
theorem zgo {l:Expr} {tl:TE} (hl:PE X l tl):PI X tg l (zgO X.K tl):=by
 intro pins s σ H R I h
 refine thn (hl pins s σ H _ I h) fun v s1 hQ'=>?_
 obtain ⟨x,H1,I1,r1,q1⟩:=hQ'
 obtain ⟨a,e,⟨xs,hq⟩,q⟩:=q1
 subst e
 cases r1
 obtain ⟨its,rv,p,hz⟩:=I1.list hq
 refine wpAny_pyIter_list p.isList ?_
 refine ⟨s1.heap.objs.size,[s1.heap.objs.size],_,_,H1,rfl,I1.kept (t':=s1.toks) fun b o e=>Heap.get?_push_of_some _ e,zoY a _,⟨_,Heap.get?_push_size _ rfl,rfl,rfl⟩,fun b hb=>?_,q⟩
 have e:b=s1.heap.objs.size:=by simpa using hb
 subst e
 exact I1.fpOk (Nat.le_refl _) (I1.hok.fresh (Nat.le_refl _))
theorem zm0 {pins:List (Addr×Obj)} {σ:St} {H:Hp} {s:Shared} {R:It→Hp→Prop} {E:Value→Shared→Prop} {lo hi:Int} {t u v:Tok} {tk:Nat} (I:Inv X pins σ H s) (h1:-(2 ^ 62)≤lo) (h2:lo<2 ^ 62) (h3:-(2 ^ 62)≤hi) (h4:hi<2 ^ 62)
  (q:R (Itr lo (hi - lo).toNat) H):wpAny (model X.prog X.w) X.A (pyIter (.ref s.heap.objs.size)) (PIE X pins σ tg R) E { s with heap:=s.heap.push { cls:=.type "range",data:=.fields #[.int lo t,.int hi u,.int 1 v] },toks:=tk }:=by
 refine wpAny_pyIter_range (IsRange.new ..) (small_one h1 h2 h3 h4) ?_
 have I1:Inv X pins σ H { s with heap:=s.heap.push { cls:=.type "range",data:=.fields #[.int lo t,.int hi u,.int 1 v] },toks:=tk }:=I.kept fun b o e=>Heap.get?_push_of_some _ e
 refine ⟨(s.heap.push { cls:=.type "range",data:=.fields #[.int lo t,.int hi u,.int 1 v] }).objs.size,[(s.heap.push { cls:=.type "range",data:=.fields #[.int lo t,.int hi u,.int 1 v] }).objs.size],_,_,H,rfl,
  I1.kept (t':=tk) fun b o e=>Heap.get?_push_of_some _ e,znE _ lo (hi - lo).toNat,?_,fun b hb=>?_,q⟩
 ·have e1:lo+((0:Nat):Int)*1=lo:=by simp
  have e2:(((hi - lo).toNat:Nat):Int) - ((0:Nat):Int)=Builtin.Range.rangeSize lo hi 1:=by rw [rangeSize_one];split <;> (first|lia|omega)
  show IsRangeIter _ _ (lo+((0:Nat):Int)*1) ((((hi - lo).toNat:Nat):Int) - ((0:Nat):Int)) 1
  rw [e1,e2]
  exact Heap.get?_push_size _ rfl
 ·have e:b=(s.heap.push { cls:=.type "range",data:=.fields #[.int lo t,.int hi u,.int 1 v] }).objs.size:=by simpa using hb
  subst e
  exact I1.fpOk (Nat.le_refl _) (I1.hok.fresh (Nat.le_refl _))
def zer (ta:TA):TI:=fun σ H R=>ta σ H fun vs H1=>∃ j:Int,vs=[.int j]∧-(2 ^ 62)≤j∧j<2 ^ 62∧R (Itr 0 j.toNat) H1
def zqB (ta:TA):TI:=fun σ H R=>ta σ H fun vs H1=>∃ i j:Int,vs=[.int i,.int j]∧(-(2 ^ 62)≤i∧i<2 ^ 62∧-(2 ^ 62)≤j∧j<2 ^ 62)∧R (Itr i (j - i).toNat) H1
theorem zcD {a:Expr} {ta:TA} {p pos:Pos} (hg:Gl X "range") (hm:X.mg "range"=none) (ha:PA X [a] ta) (hs:starEach [a] X.env=[(false,eval a X.env)]:=by rfl):PI X tg (.Call (.Name "range" p) [a] [] pos) (zer ta):=by
 intro pins s σ H R I h
 refine Call_ (zht I hg hm boot_range (PyProof.Rows.callWith_type1 (thn (ha pos pins s σ H _ I h) fun us s1 hQ'=>?_) hs rfl))
 obtain ⟨vs,H1,I1,r1,q1⟩:=hQ'
 obtain ⟨j,e,q1,q2,q⟩:=q1
 subst e
 cases r1 with
 | cons r rr =>
  cases rr
  obtain ⟨t,rfl⟩:=r
  exact call_range_1 (zm0 I1 (by (first|lia|omega)) (by (first|lia|omega)) q1 q2 (by simpa using q))
theorem zpl {a b:Expr} {ta:TA} {p pos:Pos} (hg:Gl X "range") (hm:X.mg "range"=none) (ha:PA X [a,b] ta) (hs:starEach [a,b] X.env=[(false,eval a X.env),(false,eval b X.env)]:=by rfl) (hs2:starEach [b] X.env=[(false,eval b X.env)]:=by rfl) :
  PI X tg (.Call (.Name "range" p) [a,b] [] pos) (zqB ta):=by
 intro pins s σ H R I h
 refine Call_ (zht I hg hm boot_range (PyProof.Rows.callWith_type1 (thn (ha pos pins s σ H _ I h) fun us s1 hQ'=>?_) (by rw [hs,hs2]) (by rw [hs2];rfl)))
 obtain ⟨vs,H1,I1,r1,q1⟩:=hQ'
 obtain ⟨i,j,e,⟨q1,q2,q3,q4⟩,q⟩:=q1
 subst e
 cases r1 with
 | cons r rr =>
  cases rr with
  | cons r' rr =>
   cases rr
   obtain ⟨t,rfl⟩:=r
   obtain ⟨t',rfl⟩:=r'
   exact call_range_2 (zm0 I1 q1 q2 q3 q4 q)
def zgX (wi:TI) (g:TG) (tb:TS):TS:=fun D σ H=>wi σ H fun J H1=>∃ W:Nat→Nat→St→Hp→Prop,(∃ m,W 0 m σ H1)∧∀ i m σ H,W i m σ H →
 (J.stop i H∧D.nx σ H)∨(J.go i H∧∃ N:St→Hp→Prop,(∀ σ' H',N σ' H'→∃ m',m'<m∧W (i+1) m' σ' H')∧∀ x H',J.yld i H x H'→g x σ H' fun σ2 H2=>tb { D with nx:=N,ct:=N,bk:=D.nx } σ2 H2)
def zkx (fp:List Addr) (h:Heap):List (Addr×Obj):=fp.filterMap fun b=>(h.get? b).map fun o=>(b,o)
theorem zfO {fp:List Addr} {h:Heap} {b:Addr} {o:Obj} (hb:b∈fp) (e:h.get? b=some o):(b,o)∈zkx fp h:=List.mem_filterMap.mpr ⟨b,hb,by rw [e];rfl⟩
theorem zph {fp:List Addr} {h:Heap} {p:Addr×Obj} (hp:p∈zkx fp h):p.1∈fp∧h.get? p.1=some p.2:=by
 obtain ⟨b,hb,e⟩:=List.mem_filterMap.mp hp
 cases q:h.get? b with
 | none=>rw [q] at e;cases e
 | some o =>
  rw [q] at e
  have e':(b,o)=p:=Option.some.inj e
  subst e'
  exact ⟨hb,q⟩
theorem Inv.pinned {pins:List (Addr×Obj)} {σ:St} {H:Hp} {s:Shared} {fp:List Addr} (I:Inv X pins σ H s) (hf:∀ b∈fp,zn0 X pins H b) (ho:∀ b∈fp,∃ o,s.heap.get? b=some o∧∀ v,o.data≠.cell v):Inv X (pins++zkx fp s.heap) σ H s :=
 I.pins_of fun p hp=>(List.mem_append.mp hp).elim (fun z=>I.pin p (List.mem_append_right _ z)) fun z=>by
  obtain ⟨hb,e⟩:=zph z
  obtain ⟨f0,f1,f2,_⟩:=hf p.1 hb
  obtain ⟨o,e',d⟩:=ho p.1 hb
  rw [e] at e';cases e'
  exact ⟨e,f0,f1,f2,d⟩
theorem Inv.unpinned {pins pl:List (Addr×Obj)} {σ:St} {H:Hp} {s:Shared} (I:Inv X (pins++pl) σ H s):Inv X pins σ H s:=I.pins_of fun p hp=>I.pin p (List.mem_append_right _ (List.mem_append_left _ hp))
theorem zdg {iter:Expr} {body:List Stmt} {wi:TI} {g:TG} {tb:TS} {pos:Pos} (hp:PassesOwn (model X.prog X.w) X.A X.env X.xe) (hc:X.calm=true) (hi:PI X tg iter wi) (hg:PG X tg g) (hb:PSs X body tb)
  (hs:∀ x,foldedSetIterable iter X.env x=pure x:=by intro _;rfl):PS X (.For tg iter body [] pos) (zgX wi g tb):=by
 intro pins s σ H D I h
 refine wpAny_For (thn (hi pins s σ H _ I h) fun v s1 h1=>thn h1 fun itv s2 h2=>?_) hs
 obtain ⟨it,fp,tn,J,H2,e,I2,T,st2,f2,W,⟨m0,w0⟩,turn⟩:=h2
 subst e
 have stat:∀ {H':Hp},(∀ b∈fp,H' b=none)→∀ b∈fp,zn0 X pins H' b:=fun hn b hb=>⟨hn b hb,(f2 b hb).2⟩
 refine codeAny_forLoop_any (fun n s'=>∃ i σ' H',Inv X pins σ' H' s'∧tn i s'.heap∧(∀ b∈fp,H' b=none)∧W i n σ' H') ?_ m0 ⟨0,σ,H2,I2,st2,fun b hb=>(f2 b hb).1,w0⟩
 rintro n s3 ⟨i,σ3,H3,I3,st3,fr3,w3⟩
 rcases turn i n σ3 H3 w3 with ⟨stop,qn⟩ | ⟨go,N,hN,step⟩
 ·refine wpAny_passesOwn hp (thn (T.done X rfl rfl rfl hc i pins s3 σ3 H3 X.xe I3 (stat fr3) st3 stop) fun r s4 hQ'=>?_)
  obtain ⟨hr,I4⟩:=hQ'
  subst hr
  exact wpAny_execs_nil ⟨σ3,H3,I4,qn⟩
 ·refine wpAny_passesOwn hp (thn (T.item X rfl rfl rfl hc i pins s3 σ3 H3 X.xe I3 (stat fr3) st3 go) fun r s4 hQ'=>?_)
  obtain ⟨u,hr,h4⟩:=hQ'
  subst hr
  refine wpAny_passesOwn hp (thn h4 fun _ s5 hQ'=>?_)
  obtain ⟨x,H5,I5,r5,y5,st5,fr5⟩:=hQ'
  have I5':=I5.pinned (stat fr5) (T.obj _ _ st5)
  refine wpAny_passesOwn hp (thn (hg _ s5 σ3 H5 x u _ I5' r5 (step x H5 y5)) fun _ s6 hQ'=>?_)
  obtain ⟨σ6,H6,I6,q6⟩:=hQ'
  refine wpAny_passesOwn hp (thn (hb _ s6 σ6 H6 _ I6 q6) fun f s7 q7=>?_)
  have again:∀ {σ7:St} {H7:Hp},Inv X (pins++zkx fp s5.heap) σ7 H7 s7→N σ7 H7→∃ m,m<n∧∃ i σ' H',Inv X pins σ' H' s7∧tn i s7.heap∧(∀ b∈fp,H' b=none)∧W i m σ' H':=fun {σ7 H7} I7 n7=>by
   obtain ⟨m',hm,w7⟩:=hN σ7 H7 n7
   refine ⟨m',hm,i+1,σ7,H7,I7.unpinned,T.keep _ _ _ st5 fun b hb o e=>(I7.pin (b,o) (List.mem_append_right _ (List.mem_append_right _ (zfO hb e)))).1,fun b hb=>?_,w7⟩
   obtain ⟨o,e,d⟩:=T.obj _ _ st5 b hb
   exact (I7.pin (b,o) (List.mem_append_right _ (List.mem_append_right _ (zfO hb e)))).2.1
  cases f with
  | next=>obtain ⟨σ7,H7,I7,n7⟩:=q7;exact again I7 n7
  | cont=>obtain ⟨σ7,H7,I7,n7⟩:=q7;exact again I7 n7
  | brk=>obtain ⟨σ7,H7,I7,q7⟩:=q7;exact ⟨σ7,H7,I7.unpinned,q7⟩
  | ret v=>obtain ⟨x7,σ7,H7,I7,r7,q7⟩:=q7;exact ⟨x7,σ7,H7,I7.unpinned,r7,q7⟩
end
theorem zqH {K:PySem.W.Frag} {a:Addr} {xs:List V} {g:TG} {tb:TS} {D:zb8} {σ:St} {H:Hp} (Pv:Nat→St→Hp→Prop) (h0:Pv 0 σ H) (hl:∀ i σ H,i≤xs.length→Pv i σ H→SqL K H a xs)
  (hs:∀ i x σ H,xs[i]?=some x→Pv i σ H→g x σ H fun σ2 H2=>tb { D with nx:=Pv (i+1),ct:=Pv (i+1),bk:=D.nx } σ2 H2) (hd:∀ σ H,Pv xs.length σ H→D.nx σ H) :
  ∃ W:Nat→Nat→St→Hp→Prop,(∃ m,W 0 m σ H)∧∀ i m σ H,W i m σ H →
   ((Itl K a).stop i H∧D.nx σ H)∨((Itl K a).go i H∧∃ N:St→Hp→Prop,(∀ σ' H',N σ' H'→∃ m',m'<m∧W (i+1) m' σ' H')∧∀ x H',(Itl K a).yld i H x H'→g x σ H' fun σ2 H2=>tb { D with nx:=N,ct:=N,bk:=D.nx } σ2 H2):=by
 refine ⟨fun i m σ H=>m=xs.length - i∧i≤xs.length∧Pv i σ H,⟨xs.length,by simp,Nat.zero_le _,h0⟩,?_⟩
 rintro i m σ H ⟨rfl,hi,p⟩
 have q:=hl i σ H hi p
 by_cases hlt:i<xs.length
 ·refine .inr ⟨⟨xs,xs[i],q,by simp [hlt]⟩,Pv (i+1),fun σ' H' p'=>⟨xs.length - (i+1),by (first|lia|omega),rfl,hlt,p'⟩,fun x H' y=>?_⟩
  obtain ⟨e,y⟩:=y
  subst e
  exact hs i x σ _ (y xs q) p
 ·have e:i=xs.length:=by (first|lia|omega)
  subst e
  exact .inl ⟨⟨xs,q,Nat.le_refl _⟩,hd σ H p⟩
theorem zof {lo:Int} {n:Nat} {g:TG} {tb:TS} {D:zb8} {σ:St} {H:Hp} (Pv:Nat→St→Hp→Prop) (h0:Pv 0 σ H)
  (hs:∀ i σ H,i<n→Pv i σ H→g (.int (lo+i)) σ H fun σ2 H2=>tb { D with nx:=Pv (i+1),ct:=Pv (i+1),bk:=D.nx } σ2 H2) (hd:∀ σ H,Pv n σ H→D.nx σ H) :
  ∃ W:Nat→Nat→St→Hp→Prop,(∃ m,W 0 m σ H)∧∀ i m σ H,W i m σ H →
   ((Itr lo n).stop i H∧D.nx σ H)∨((Itr lo n).go i H∧∃ N:St→Hp→Prop,(∀ σ' H',N σ' H'→∃ m',m'<m∧W (i+1) m' σ' H')∧∀ x H',(Itr lo n).yld i H x H'→g x σ H' fun σ2 H2=>tb { D with nx:=N,ct:=N,bk:=D.nx } σ2 H2):=by
 refine ⟨fun i m σ H=>m=n - i∧i≤n∧Pv i σ H,⟨n,by simp,Nat.zero_le _,h0⟩,?_⟩
 rintro i m σ H ⟨rfl,hi,p⟩
 by_cases hlt:i<n
 ·refine .inr ⟨hlt,Pv (i+1),fun σ' H' p'=>⟨n - (i+1),by (first|lia|omega),rfl,hlt,p'⟩,fun x H' y=>?_⟩
  obtain ⟨e,y⟩:=y
  subst e y
  exact hs i σ _ hlt p
 ·have e:i=n:=by (first|lia|omega)
  subst e
  exact .inl ⟨Nat.le_refl _,hd σ H p⟩
end L2
namespace L2
open PySem PySem.Spec PyProof.Rows
abbrev R2:=V→V→Hp→VK→Prop
def OpR (X:Cx) (f:Value→Value→Sem Value) (r:R2):Prop :=
 ∀ (pins:List (Addr×Obj)) (s:Shared) (σ:St) (H:Hp) (x y:V) (v u:Value) (Q:VK),Inv X pins σ H s→zcC x v→zcC y u→r x y H Q →
  wpAny (model X.prog X.w) X.A (f v u) (EP X pins σ Q) X.xe s
def UnR (X:Cx) (f:Value→Sem Value) (r:V→Hp→VK→Prop):Prop :=
 ∀ (pins:List (Addr×Obj)) (s:Shared) (σ:St) (H:Hp) (x:V) (v:Value) (Q:VK),Inv X pins σ H s→zcC x v→r x H Q →
  wpAny (model X.prog X.w) X.A (f v) (EP X pins σ Q) X.xe s
def zgU (X:Cx) (f:Value) (r:List V→Hp→VK→Prop):Prop :=
 ∀ (pins:List (Addr×Obj)) (s:Shared) (σ:St) (H:Hp) (xs:List V) (us:List Value) (Q:VK),Inv X pins σ H s→zck xs us→r xs H Q →
  wpAny (model X.prog X.w) X.A (call f us) (EP X pins σ Q) X.xe s
def tOp (r:R2) (ta tb:TE):TE:=fun σ H Q=>ta σ H fun x H1=>tb σ H1 fun y H2=>r x y H2 Q
def tUn (r:V→Hp→VK→Prop) (ta:TE):TE:=fun σ H Q=>ta σ H fun x H1=>r x H1 Q
def rI (C:Int→Int→Prop) (g:Int→Int→V):R2:=fun x y H Q=>∃ i j,x=.int i∧y=.int j∧C i j∧Q (g i j) H
def rI0 (g:Int→Int→V):R2:=fun x y H Q=>∃ i j,x=.int i∧y=.int j∧Q (g i j) H
def rU (g:Int→V):V→Hp→VK→Prop:=fun x H Q=>∃ i,x=.int i∧Q (g i) H
section
variable {X:Cx} {a b c:Expr} {ta tb tc:TE} {pos:Pos}
theorem binT (ha:PE X a ta) (hb:PE X b tb) {pins:List (Addr×Obj)} {s:Shared} {σ:St} {H:Hp} {R:V→V→Hp→Prop} (I:Inv X pins σ H s)
  (h:ta σ H fun x H1=>tb σ H1 fun y H2=>R x y H2) {Q:Value→Shared→Prop} {f:Value→Value→Sem Value}
  (hf:∀ v u s2 x y H2,Inv X pins σ H2 s2→zcC x v→zcC y u→R x y H2→wpAny (model X.prog X.w) X.A (f v u) Q X.xe s2) :
  wpAny (model X.prog X.w) X.A (eval a X.env) (fun v s₁=>wpAny (model X.prog X.w) X.A (eval b X.env) (fun u s₂=>wpAny (model X.prog X.w) X.A (f v u) Q X.xe s₂) X.xe s₁) X.xe s:=by
 refine thn (ha pins s σ H _ I h) fun v s1 hQ'=>?_
 obtain ⟨x,H1,I1,r1,q1⟩:=hQ'
 refine thn (hb pins s1 σ H1 _ I1 q1) fun u s2 hQ'=>?_
 obtain ⟨y,H2,I2,r2,q2⟩:=hQ'
 exact hf v u s2 x y H2 I2 r1 r2 q2
theorem zaz {op:Operator} {r:R2} (ho:OpR X (binaryOp op) r) (ha:PE X a ta) (hb:PE X b tb):PE X (.BinOp a op b pos) (tOp r ta tb):=by
 intro pins s σ H Q I h
 exact wpAny_BinOp (binT ha hb I h fun v u s2 x y H2 I2 rx ry q=>ho pins s2 σ H2 x y v u Q I2 rx ry q)
theorem zmp {op:UnaryOp} {r:V→Hp→VK→Prop} (ho:UnR X (unaryOp op) r) (ha:PE X a ta):PE X (.UnaryOp op a pos) (tUn r ta):=by
 intro pins s σ H Q I h
 exact UnaryOp_ (thn (ha pins s σ H _ I h) fun v s1 ⟨x,H1,I1,r1,q1⟩=>ho pins s1 σ H1 x v Q I1 r1 q1)
theorem opI {f:Value→Value→Sem Value} {C:Int→Int→Prop} {g:Int→Int→Int}
  (rule:∀ (i j:Int) (t u:Tok) (s:Shared) (Q:Value→Shared→Prop) (E:Value→Shared→Prop),C i j→Q (.int (g i j) s.toks) { s with toks:=s.toks+1 }→wpAny (model X.prog X.w) X.A (f (.int i t) (.int j u)) Q E s) :
  OpR X f (rI C fun i j=>.int (g i j)):=by
 intro pins s σ H x y v u Q I rx ry h
 obtain ⟨i,j,rfl,rfl,hc,q⟩:=h
 obtain ⟨t,rfl⟩:=rx
 obtain ⟨t',rfl⟩:=ry
 exact rule i j t t' s _ _ hc ⟨.int (g i j),H,I.tok _,⟨_,rfl⟩,q⟩
theorem opI0 {f:Value→Value→Sem Value} {g:Int→Int→Int}
  (rule:∀ (i j:Int) (t u:Tok) (s:Shared) (Q:Value→Shared→Prop) (E:Value→Shared→Prop),Q (.int (g i j) s.toks) { s with toks:=s.toks+1 }→wpAny (model X.prog X.w) X.A (f (.int i t) (.int j u)) Q E s) :
  OpR X f (rI0 fun i j=>.int (g i j)):=by
 intro pins s σ H x y v u Q I rx ry h
 obtain ⟨i,j,rfl,rfl,q⟩:=h
 obtain ⟨t,rfl⟩:=rx
 obtain ⟨t',rfl⟩:=ry
 exact rule i j t t' s _ _ ⟨.int (g i j),H,I.tok _,⟨_,rfl⟩,q⟩
theorem opB0 {f:Value→Value→Sem Value} {g:Int→Int→Bool}
  (rule:∀ (i j:Int) (t u:Tok) (s:Shared) (Q:Value→Shared→Prop) (E:Value→Shared→Prop),Q (.bool (g i j)) s→wpAny (model X.prog X.w) X.A (f (.int i t) (.int j u)) Q E s) :
  OpR X f (rI0 fun i j=>.bl (g i j)):=by
 intro pins s σ H x y v u Q I rx ry h
 obtain ⟨i,j,rfl,rfl,q⟩:=h
 obtain ⟨t,rfl⟩:=rx
 obtain ⟨t',rfl⟩:=ry
 exact rule i j t t' s _ _ ⟨.bl (g i j),H,I,rfl,q⟩
def znk (i j:Int):Prop:=0≤j∧j≤1000000∧i.natAbs<2 ^ 64
theorem zbG:OpR X (binaryOp .Add) (rI0 fun i j=>.int (i+j)):=opI0 fun _ _ _ _ _ _ _ q=>add_int q
theorem zgt:OpR X (binaryOp .Sub) (rI0 fun i j=>.int (i - j)):=opI0 fun _ _ _ _ _ _ _ q=>sub_int q
theorem zbs:OpR X (binaryOp .Mod) (rI (fun _ j=>0<j) fun i j=>.int (i % j)):=opI fun i j _ _ _ _ _ hc q=>by
 have h1:(0:Int)<j:=hc
 exact mod_int' (by (first|lia|omega)) (by rw [Int.fmod_eq_emod_of_nonneg i (by (first|lia|omega))];exact q)
theorem zi7:OpR X (binaryOp .Pow) (rI znk fun i j=>.int (i ^ j.toNat)):=opI fun _ _ _ _ _ _ _ hc q=>pow_int_small hc.1 hc.2.1 hc.2.2 q
theorem unI {f:Value→Sem Value} {g:Int→Int}
  (rule:∀ (i:Int) (t:Tok) (s:Shared) (Q:Value→Shared→Prop) (E:Value→Shared→Prop),Q (.int (g i) s.toks) { s with toks:=s.toks+1 }→wpAny (model X.prog X.w) X.A (f (.int i t)) Q E s) :
  UnR X f (rU fun i=>.int (g i)):=by
 intro pins s σ H x v Q I rx h
 obtain ⟨i,rfl,q⟩:=h
 obtain ⟨t,rfl⟩:=rx
 exact rule i t s _ _ ⟨.int (g i),H,I.tok _,⟨_,rfl⟩,q⟩
theorem zit:UnR X (unaryOp .USub) (rU fun i=>.int (-i)):=unI fun _ _ _ _ _ q=>neg_int q
end
def scal:V→V→Bool
 | .non,.non=>true | .non,.int _=>true | .int _,.non=>true | .non,.bl _=>true | .bl _,.non=>true | .non,.str _=>true | .str _,.non=>true
 | .int _,.int _=>true | .bl _,.bl _=>true | .str _,.str _=>true | .byt _,.byt _=>true
 | .int _,.str _=>true | .str _,.int _=>true | .bl _,.str _=>true | .str _,.bl _=>true
 | _,_=>false
def rEq:R2:=fun x y H Q=>scal x y=true∧Q (.bl (decide (x=y))) H
def rNe:R2:=fun x y H Q=>scal x y=true∧Q (.bl (!decide (x=y))) H
theorem zpf {i j:Int}:decide (V.int i=V.int j)=(i == j):=by
 rw [Bool.eq_iff_iff]
 simp
theorem zrI {i j:Bool}:decide (V.bl i=V.bl j)=(i == j):=by
 rw [Bool.eq_iff_iff]
 simp
theorem zpF {i j:Str}:decide (V.str i=V.str j)=(i == j):=by
 rw [Bool.eq_iff_iff]
 simp
theorem zpJ {i j:Array UInt8}:decide (V.byt i=V.byt j)=(i.toList == j.toList):=by
 rw [Bool.eq_iff_iff]
 cases i
 cases j
 simp
section
variable {X:Cx} {a b c:Expr} {ta tb tc:TE} {pos:Pos}
theorem zb5 {pins:List (Addr×Obj)} {σ:St} {H:Hp} {s:Shared} {Q:VK} {k k':Bool} (I:Inv X pins σ H s) (q:Q (.bl k) H) (e:k=k'):EP X pins σ Q (.bool k') s:=by
 subst e
 exact ⟨.bl k,H,I,rfl,q⟩
theorem zdE:OpR X (compareOp .Eq) rEq:=by
 intro pins s σ H x y v u Q I rx ry h
 obtain ⟨hs,q⟩:=h
 cases x with
 | non =>
  cases rx
  cases y with
  | non=>cases ry;exact PySem.EqNone.eq_none_none (zb5 I q (by simp))
  | bl j=>cases ry;exact PySem.EqNone.eq_none_bool (zb5 I q (by simp))
  | int j=>obtain ⟨t',rfl⟩:=ry;exact PySem.EqNone.eq_none_int (zb5 I q (by simp))
  | str j=>obtain ⟨t',rfl⟩:=ry;exact PySem.EqNone.eq_none_str (zb5 I q (by simp))
  | _=>exact absurd (show false=true from hs) Bool.false_ne_true
 | bl i =>
  cases rx
  cases y with
  | non=>cases ry;exact PySem.EqNone.eq_bool_none (zb5 I q (by simp))
  | bl j=>cases ry;exact eq_bool (zb5 I q zrI)
  | str j=>obtain ⟨t',rfl⟩:=ry;exact PySem.EqMixed.eq_bool_str (zb5 I q (by simp))
  | _=>exact absurd (show false=true from hs) Bool.false_ne_true
 | int i =>
  obtain ⟨t,rfl⟩:=rx
  cases y with
  | non=>cases ry;exact PySem.EqNone.eq_int_none (zb5 I q (by simp))
  | int j=>obtain ⟨t',rfl⟩:=ry;exact eq_int (zb5 I q zpf)
  | str j=>obtain ⟨t',rfl⟩:=ry;exact PySem.EqMixed.eq_int_str (zb5 I q (by simp))
  | _=>exact absurd (show false=true from hs) Bool.false_ne_true
 | str i =>
  obtain ⟨t,rfl⟩:=rx
  cases y with
  | non=>cases ry;exact PySem.EqNone.eq_str_none (zb5 I q (by simp))
  | bl j=>cases ry;exact PySem.EqMixed.eq_str_bool (zb5 I q (by simp))
  | int j=>obtain ⟨t',rfl⟩:=ry;exact PySem.EqMixed.eq_str_int (zb5 I q (by simp))
  | str j=>obtain ⟨t',rfl⟩:=ry;exact eq_str (zb5 I q zpF)
  | _=>exact absurd (show false=true from hs) Bool.false_ne_true
 | byt i =>
  obtain ⟨t,rfl⟩:=rx
  cases y with
  | byt j=>obtain ⟨t',rfl⟩:=ry;exact PySem.W.eq_bytes (zb5 I q zpJ)
  | _=>exact absurd (show false=true from hs) Bool.false_ne_true
 | _=>cases y <;> exact absurd (show false=true from hs) Bool.false_ne_true
theorem zfP:OpR X (compareOp .NotEq) rNe:=by
 intro pins s σ H x y v u Q I rx ry h
 obtain ⟨hs,q⟩:=h
 cases x with
 | non =>
  cases rx
  cases y with
  | non=>cases ry;exact PySem.EqNone.ne_none_none (zb5 I q (by simp))
  | bl j=>cases ry;exact PySem.EqNone.ne_none_bool (zb5 I q (by simp))
  | int j=>obtain ⟨t',rfl⟩:=ry;exact PySem.EqNone.ne_none_int (zb5 I q (by simp))
  | str j=>obtain ⟨t',rfl⟩:=ry;exact PySem.EqNone.ne_none_str (zb5 I q (by simp))
  | _=>exact absurd (show false=true from hs) Bool.false_ne_true
 | bl i =>
  cases rx
  cases y with
  | non=>cases ry;exact PySem.EqNone.ne_bool_none (zb5 I q (by simp))
  | bl j=>cases ry;exact ne_bool (zb5 I q (congrArg not zrI))
  | str j=>obtain ⟨t',rfl⟩:=ry;exact PySem.EqMixed.ne_bool_str (zb5 I q (by simp))
  | _=>exact absurd (show false=true from hs) Bool.false_ne_true
 | int i =>
  obtain ⟨t,rfl⟩:=rx
  cases y with
  | non=>cases ry;exact PySem.EqNone.ne_int_none (zb5 I q (by simp))
  | int j=>obtain ⟨t',rfl⟩:=ry;exact ne_int (zb5 I q (congrArg not zpf))
  | str j=>obtain ⟨t',rfl⟩:=ry;exact PySem.EqMixed.ne_int_str (zb5 I q (by simp))
  | _=>exact absurd (show false=true from hs) Bool.false_ne_true
 | str i =>
  obtain ⟨t,rfl⟩:=rx
  cases y with
  | non=>cases ry;exact PySem.EqNone.ne_str_none (zb5 I q (by simp))
  | bl j=>cases ry;exact PySem.EqMixed.ne_str_bool (zb5 I q (by simp))
  | int j=>obtain ⟨t',rfl⟩:=ry;exact PySem.EqMixed.ne_str_int (zb5 I q (by simp))
  | str j=>obtain ⟨t',rfl⟩:=ry;exact ne_str (zb5 I q (congrArg not zpF))
  | _=>exact absurd (show false=true from hs) Bool.false_ne_true
 | byt i =>
  obtain ⟨t,rfl⟩:=rx
  cases y with
  | byt j=>obtain ⟨t',rfl⟩:=ry;exact PySem.W.ne_bytes (zb5 I q (congrArg not zpJ))
  | _=>exact absurd (show false=true from hs) Bool.false_ne_true
 | _=>cases y <;> exact absurd (show false=true from hs) Bool.false_ne_true
theorem zl4:OpR X (compareOp .Lt) (rI0 fun i j=>.bl (decide (i<j))):=opB0 fun _ _ _ _ _ _ _ q=>lt_int q
theorem zqL:OpR X (compareOp .LtE) (rI0 fun i j=>.bl (decide (i≤j))):=opB0 fun _ _ _ _ _ _ _ q=>le_int q
theorem znD:OpR X (compareOp .Gt) (rI0 fun i j=>.bl (decide (j<i))):=opB0 fun _ _ _ _ _ _ _ q=>gt_int q
theorem op_ge:OpR X (compareOp .GtE) (rI0 fun i j=>.bl (decide (j≤i))):=opB0 fun _ _ _ _ _ _ _ q=>ge_int q
theorem zhQ:OpR X (compareOp .Is) (fun x y H Q=>y=.non∧Q (.bl (decide (x=.non))) H):=by
 intro pins s σ H x y v u Q I rx ry h
 obtain ⟨rfl,q⟩:=h
 cases ry
 refine is_none_gen (zb5 I q ?_)
 cases x <;> first
  | (cases rx;rfl)
  | (obtain ⟨t,rfl⟩:=rx;rfl)
theorem zaT (b:Expr) {op:CmpOp} (h:op≠.In:=by decide) (h2:op≠.NotIn:=by decide):behindInMarks op b=false:=by
 have e1:(op == CmpOp.In)=false:=by cases op <;> first | rfl | exact absurd rfl h
 have e2:(op == CmpOp.NotIn)=false:=by cases op <;> first | rfl | exact absurd rfl h2
 cases b <;> simp [behindInMarks,e1,e2]
theorem zcq {op:CmpOp} {r:R2} (ho:OpR X (compareOp op) r) (ha:PE X a ta) (hb:PE X b tb) (hm:behindInMarks op b=false):PE X (.Compare a [op] [b] pos) (tOp r ta tb):=by
 intro pins s σ H Q I h
 exact wpAny_Compare1 (binT ha hb I h fun v u s2 x y H2 I2 rx ry q=>ho pins s2 σ H2 x y v u Q I2 rx ry q) hm
def zaK (t:TE):TT:=fun σ H Q=>t σ H fun x H'=>∃ k,x=.bl k∧Q k H'
theorem zaI {op:CmpOp} {r:R2} (ho:OpR X (compareOp op) r) (ha:PE X a ta) (hb:PE X b tb) (hm:behindInMarks op b=false):PT X (.Compare a [op] [b] pos) (zaK (tOp r ta tb)):=by
 intro pins s σ H Q I h
 refine wpAny_isTrue_Compare1 (thn (ha pins s σ H _ I h) fun v s1 ⟨x,H1,I1,r1,q1⟩=>thn (hb pins s1 σ H1 _ I1 q1) fun u s2 ⟨y,H2,I2,r2,q2⟩ =>
  thn (ho pins s2 σ H2 x y v u _ I2 r1 r2 q2) fun c s3 ⟨z,H3,I3,r3,k,e,q3⟩=>?_) hm
 subst e
 cases r3
 exact wpAny_truthy_bool ⟨H3,I3,q3⟩
def zja (r r':R2) (ta tb tc:TE):TE:=fun σ H Q=>ta σ H fun x H1=>tb σ H1 fun y H2=>r x y H2 fun z H3=>∃ k,z=.bl k ∧
 (if k=true then tc σ H3 fun w' H4=>r' y w' H4 Q else Q (.bl false) H3)
theorem zqP {op op':CmpOp} {r r':R2} (ho:OpR X (compareOp op) r) (ho':OpR X (compareOp op') r') (ha:PE X a ta) (hb:PE X b tb) (hc:PE X c tc)
  (hm:lastMarks [op,op'] [b,c]=false:=by with_unfolding_all rfl):PE X (.Compare a [op,op'] [b,c] pos) (zja r r' ta tb tc):=by
 intro pins s σ H Q I h
 refine Compare_chain (thn (ha pins s σ H _ I h) fun v s1 ⟨x,H1,I1,r1,q1⟩=>chain_link (thn (hb pins s1 σ H1 _ I1 q1) fun u s2 ⟨y,H2,I2,r2,q2⟩ =>
  thn (ho pins s2 σ H2 x y v u _ I2 r1 r2 q2) fun d s3 ⟨z,H3,I3,r3,k,e,q3⟩=>?_)) hm
 subst e
 cases r3
 refine wpAny_truthy_bool ?_
 cases k with
 | false=>exact ite_ff ⟨.bl false,H3,I3,rfl,q3⟩
 | true=>exact ite_tt (chain_last (thn (hc pins s3 σ H3 _ I3 q3) fun w' s4 ⟨z',H4,I4,r4,q4⟩=>ho' pins s4 σ H4 y z' u w' Q I4 r2 r4 q4))
theorem zqV {op op':CmpOp} {r r':R2} (ho:OpR X (compareOp op) r) (ho':OpR X (compareOp op') r') (ha:PE X a ta) (hb:PE X b tb) (hc:PE X c tc)
  (hm:lastMarks [op,op'] [b,c]=false:=by with_unfolding_all rfl):PT X (.Compare a [op,op'] [b,c] pos) (zaK (zja r r' ta tb tc)):=by
 intro pins s σ H Q I h
 refine isTrue_chain (thn (ha pins s σ H _ I h) fun v s1 ⟨x,H1,I1,r1,q1⟩=>test_link (thn (hb pins s1 σ H1 _ I1 q1) fun u s2 ⟨y,H2,I2,r2,q2⟩ =>
  thn (ho pins s2 σ H2 x y v u _ I2 r1 r2 q2) fun d s3 ⟨z,H3,I3,r3,k,e,q3⟩=>?_)) hm
 subst e
 cases r3
 refine wpAny_truthy_bool ?_
 cases k with
 | false =>
  obtain ⟨k',e',q'⟩:=q3
  cases e'
  exact ite_ff ⟨H3,I3,q'⟩
 | true =>
  refine ite_tt (test_last (thn (hc pins s3 σ H3 _ I3 q3) fun w' s4 ⟨z',H4,I4,r4,q4⟩=>thn (ho' pins s4 σ H4 y z' u w' _ I4 r2 r4 q4) fun d' s5 hQ'=>?_))
  obtain ⟨z2,H5,I5,r5,k2,e2,q5⟩:=hQ'
  subst e2
  cases r5
  exact wpAny_truthy_bool ⟨H5,I5,q5⟩
def TruV (K:PySem.W.Frag) (x:V) (H:Hp) (k:Bool):Prop :=
 match x with
 | .non=>k=false
 | .bl b=>k=b
 | .int i=>k=(i != 0)
 | .str y=>y.length≤sizeLine∧k=((y.length:Int) != 0)
 | .byt y=>y.size≤sizeLine∧k=((y.size:Int) != 0)
 | .ref p=>(∃ xs,SqL K H p xs∧k=!xs.isEmpty)∨(∃ xs,SqT K H p xs∧k=!xs.isEmpty)∨∃ kvs,H p=some (.dK kvs)∧k=!kvs.isEmpty
 | _=>False
theorem zpr:(sizeLine:Nat)<2 ^ 63:=by rw [sizeLine_eq];decide
theorem zi3 {x:V} {us:List Value} (r:zck [x] us):∃ u,us=[u]∧zcC x u:=by
 cases r with
 | cons r1 r2=>cases r2;exact ⟨_,rfl,r1⟩
theorem zpw {x y:V} {us:List Value} (r:zck [x,y] us):∃ u w',us=[u,w']∧zcC x u∧zcC y w':=by
 cases r with
 | cons r1 r2 =>
  cases r2 with
  | cons r3 r4=>cases r4;exact ⟨_,_,rfl,r1,r3⟩
theorem zfa (hc:X.calm=true):zgU X (.builtin "min") (fun xs H Q=>∃ i j,xs=[.int i,.int j]∧Q (.int (if j<i then j else i)) H):=by
 intro pins s σ H xs us Q I r h
 obtain ⟨i,j,rfl,q⟩:=h
 obtain ⟨u,w',rfl,⟨t,rfl⟩,⟨t',rfl⟩⟩:=zpw r
 refine min_two_ints (I.ok.hd hc) fun h' tk k=>⟨_,H,I.kept k,?_,q⟩
 by_cases hj:j<i
 ·rw [if_pos hj,if_pos hj];exact ⟨_,rfl⟩
 ·rw [if_neg hj,if_neg hj];exact ⟨_,rfl⟩
theorem zoN:zgU X (.type "int") (fun xs H Q=>(∃ i,xs=[.int i]∧Q (.int i) H)∨∃ k,xs=[.bl k]∧Q (.int (if k then 1 else 0)) H):=by
 intro pins s σ H xs us Q I r h
 rcases h with ⟨i,rfl,q⟩ | ⟨k,rfl,q⟩
 ·obtain ⟨u,rfl,t,rfl⟩:=zi3 r
  exact call_int_int ⟨.int i,H,I,⟨_,rfl⟩,q⟩
 ·obtain ⟨u,rfl,r1⟩:=zi3 r
  cases r1
  exact call_int_bool ⟨.int (if k then 1 else 0),H,I.tok _,⟨_,rfl⟩,q⟩
end
end L2
namespace L2
open PySem PySem.Spec PyProof.Rows
structure ObjM (h:Heap) (x dx C:Addr) (mA:Str→Option Value):Prop where
 obj:h.get? x=some (PySem.W.instObj C dx)
 ns:h.Ns1 dx mA
 ne:dx≠x
theorem zlw {h:Heap} {dx:Addr} {mA:Str→Option Value} (n:h.Ns1 dx mA):∃ od,h.get? dx=some od∧∀ name,PySem.W.lookIn name od=some (mA name):=by
 obtain ⟨o,es,ep,ho,hd,hk,_,hm⟩:=n
 refine ⟨o,ho,fun name=>?_⟩
 have e:=hm name
 unfold nsFind findBy at e
 rw [← Array.find?_toList] at e
 unfold PySem.W.lookIn
 rw [hd]
 dsimp only
 split
 ·rename_i y q
  rw [q] at e
  exact congrArg some e
 ·rename_i q
  rw [q] at e
  have a:es.toList.any (·.refKey)=false:=by
   rw [List.any_eq_false]
   intro y hy
   obtain ⟨z,t,hkey⟩:=hk y (Array.mem_toList_iff.mp hy)
   simp [DictEntry.refKey,hkey]
  have a':¬ es.toList.any (·.refKey)=true:=by rw [a];exact Bool.false_ne_true
  rw [if_neg a']
  exact congrArg some e
theorem ObjM.look {h:Heap} {x dx C:Addr} {mA:Str→Option Value} (I:ObjM h x dx C mA):∃ od,PySem.W.InstAt h x (PySem.W.instObj C dx) C (some od)∧∀ name,PySem.W.lookIn name od=some (mA name) :=
 let ⟨od,ho,hl⟩:=zlw I.ns
 ⟨od,⟨I.obj,rfl,rfl,ho⟩,hl⟩
section
variable {prog:Program} {w:World} {A:Around} {E:Value→Shared→Prop} {s:Shared} {K:PySem.W.Frag} {x dx C f:Addr} {mA:Str→Option Value} {name:Str} {v:Value}
end
theorem zmG.some_of {v:V} {o:Option Value} (r:zmG (some v) o):∃ u,o=some u∧zcC v u:=by
 cases o with
 | none=>exact (show False from r).elim
 | some u=>exact ⟨u,rfl,r⟩
theorem zpB {v:V} {u:Value} (r:zcC v u):PySem.W.handedIn u=true:=by
 cases v with
 | non=>cases (show u=Value.none from r);rfl
 | bl b=>cases (show u=Value.bool b from r);rfl
 | int i=>obtain ⟨t,e⟩:=(show ∃ t,u=Value.int i t from r);cases e;rfl
 | str x=>obtain ⟨t,e⟩:=(show ∃ t,u=Value.str x t from r);cases e;rfl
 | byt b=>obtain ⟨t,e⟩:=(show ∃ t,u=Value.bytes b t from r);cases e;rfl
 | flt b=>obtain ⟨t,e⟩:=(show ∃ t,u=Value.float b t from r);cases e;rfl
 | ref a=>cases (show u=Value.ref a from r);rfl
 | ty n=>cases (show u=Value.type n from r);rfl
section
variable {P:Program} {w:World} {H H':Hp} {h h':Heap} {a C dx:Addr} {fs fs':List (Str×V)}
theorem ztg (hok:HOk P w H h) (e:H a=some (.ins C dx fs)):∃ mA,ObjM h a dx C mA∧(∀ f,zmG (fs.lookup f) (mA f))∧PySem.Within mA (fs.map (·.1))∧fs.length≤1000∧H dx=some (.own a):=by
 obtain ⟨d,z,ne,ob,mA,n,r,q⟩:=(show zcd P w H h a (.ins C dx fs) from hok a _ e)
 exact ⟨mA,⟨ob,n,ne⟩,r,q,z,d⟩
end
structure Cls (K:PySem.W.Frag) (C:Addr):Prop where
 pg:PySem.W.plainGet K C Str.empty=true
 hd:PySem.W.hasDictIn K C=true
 po:PySem.W.plainOver K C=true
 sa:PySem.W.findIn K (.ref C) "__setattr__"=some (some (.builtin "object.__setattr__"))
theorem Cls.get {K:PySem.W.Frag} {C:Addr} (c:Cls K C) (f:Str):PySem.W.plainGet K C f=true:=c.pg
section
variable {X:Cx} {pins:List (Addr×Obj)} {σ:St} {H:Hp} {s:Shared} {a C dx:Addr} {fs:List (Str×V)} {f:Str} {v:V} {A:Around} {E:Value→Shared→Prop}
theorem zr8 {prog:Program} {w:World} {env:Env} {e:Expr} {f:Str} {pos:Pos} {s:Shared} {Q:Value→Shared→Prop} (hb:attributeBase e f env (eval e env)=eval e env)
  (h:wpAny (model prog w) A (eval e env) (fun o s₁=>wpAny (model prog w) A (getAttr o f true) Q E s₁) E s):wpAny (model prog w) A (eval (.Attribute e f pos) env) Q E s :=
 Attribute_any_ h (by rw [arm_eval_Attribute,hb])
end
section
variable {X:Cx} {o e value:Expr} {f:Str} {pos pos' tpos:Pos} {ta tv:TE}
end
section
variable {X:Cx} {pins:List (Addr×Obj)} {σ:St} {H:Hp} {s:Shared} {A:Around} {E:Value→Shared→Prop} {Q:Value→Shared→Prop} {c:Value} {b:Bool}
inductive zm4 (K:PySem.W.Frag) (H:Hp):V→Value→Prop where
 | non:zm4 K H .non (.type "NoneType")
 | bl (x:Bool):zm4 K H (.bl x) (.type "bool")
 | int (i:Int):zm4 K H (.int i) (.type "int")
 | str (x:Str):zm4 K H (.str x) (.type "str")
 | flt (x:UInt64):zm4 K H (.flt x) (.type "float")
 | lst {a:Addr} {xs:List V} (e:H a=some (.lst xs)):zm4 K H (.ref a) (.type "list")
 | frz {a:Addr} {o:Obj} {xs:List V} (e:H a=some (.frz o (.lst xs))):zm4 K H (.ref a) (.type "list")
 | tup {a:Addr} {xs:List V} (e:H a=some (.tup xs)):zm4 K H (.ref a) (.type "tuple")
 | dK {a:Addr} {kvs:List (Key×V)} (e:H a=some (.dK kvs)):zm4 K H (.ref a) (.type "dict")
 | dT {a:Addr} {kvs:List (List Key×V)} (e:H a=some (.dT kvs)):zm4 K H (.ref a) (.type "dict")
 | ins {a C dx:Addr} {fs:List (Str×V)} (e:H a=some (.ins C dx fs)) (cl:Cls K C) (ha:PySem.W.findIn K (.ref C) "__class__"=some (some (.builtin "object.__class__")))
   (hn:PySem.W.specialIn K (.builtin "object.__class__") "__get__"=some (some (.builtin "getset_descriptor.__get__"))) (htk:PySem.W.takesIn K (.builtin "object.__class__")=some true)
   (hm:PySem.W.mroIn K C (.type "object")=some true):zm4 K H (.ref a) (.ref C)
theorem zn9 {x:V} {u t:Value} (I:Inv X pins σ H s) (rx:zcC x u) (ty:zm4 X.K H x t) (e:PySem.W.kitOne X.K t c=some b) (h:∀ tk,Q (.bool b) { s with toks:=tk }) :
  wpAny (model X.prog X.w) A (call (.builtin "isinstance") [u,c]) Q E s:=by
 cases ty with
 | non=>cases (show u=Value.none from rx);exact PySem.W.kia_one PySem.W.kitx_none I.kIn True.intro e (fun z=>nomatch z) h
 | bl y=>cases (show u=Value.bool y from rx);exact PySem.W.kia_one PySem.W.kitx_bool I.kIn True.intro e (fun z=>nomatch z) h
 | int i=>obtain ⟨t,q⟩:=(show ∃ t,u=Value.int i t from rx);cases q;exact PySem.W.kia_one PySem.W.kitx_int I.kIn True.intro e (fun z=>nomatch z) h
 | str y=>obtain ⟨t,q⟩:=(show ∃ t,u=Value.str y t from rx);cases q;exact PySem.W.kia_one PySem.W.kitx_str I.kIn True.intro e (fun z=>nomatch z) h
 | flt y=>obtain ⟨t,q⟩:=(show ∃ t,u=Value.float y t from rx);cases q;exact PySem.W.kia_one PySem.W.kitx_float I.kIn True.intro e (fun z=>nomatch z) h
 | @lst a xs ea =>
  cases (show u=Value.ref a from rx)
  obtain ⟨_,_,n,_,h1⟩:=(show zcd X.prog X.w H s.heap a (.lst xs) from I.hok a _ ea)
  exact PySem.W.kia_one PySem.W.kitx_list I.kIn ⟨_,h1,rfl⟩ e (fun z=>nomatch z) h
 | @frz a ob xs ea =>
  cases (show u=Value.ref a from rx)
  obtain ⟨_,_,_,n,_,h1⟩:=(show zcd X.prog X.w H s.heap a (.frz ob (.lst xs)) from I.hok a _ ea)
  exact PySem.W.kia_one PySem.W.kitx_list I.kIn ⟨_,h1,rfl⟩ e (fun z=>nomatch z) h
 | @tup a xs ea =>
  cases (show u=Value.ref a from rx)
  obtain ⟨_,_,_,p⟩:=(show zcd X.prog X.w H s.heap a (.tup xs) from I.hok a _ ea)
  obtain ⟨o,h1,h2,_⟩:=p
  exact PySem.W.kia_one PySem.W.kitx_tuple I.kIn ⟨o,h1,h2⟩ e (fun z=>nomatch z) h
 | @dK a kvs ea =>
  cases (show u=Value.ref a from rx)
  obtain ⟨_,_,vs,_,p⟩:=(show zcd X.prog X.w H s.heap a (.dK kvs) from I.hok a _ ea)
  obtain ⟨o,es,ep,h1,h2,_⟩:=p
  exact PySem.W.kia_one PySem.W.kitx_dict I.kIn ⟨o,h1,h2.1⟩ e (fun z=>nomatch z) h
 | @dT a kvs ea =>
  cases (show u=Value.ref a from rx)
  obtain ⟨_,_,xs,_,o,es,ep,h1,h2,_⟩:=(show zcd X.prog X.w H s.heap a (.dT kvs) from I.hok a _ ea)
  exact PySem.W.kia_one PySem.W.kitx_dict I.kIn ⟨o,h1,h2.1⟩ e (fun z=>nomatch z) h
 | @ins a C dx fs ea cl ha hn htk hm =>
  cases (show u=Value.ref a from rx)
  obtain ⟨mA,O,_⟩:=ztg I.hok ea
  obtain ⟨od,J,_⟩:=O.look
  exact PySem.W.kia_one (PySem.W.kitx_own (cl.get _) cl.hd ha hn htk hm) I.kIn J e (fun z=>nomatch z) h
end
end L2
namespace L2
open PySem PySem.Spec PyProof.Rows
structure zhC (k:Nat) (A:Around):Prop where
 hd:A.handled=none
 dp:A.depth+3*k+5<recursionLimit
 un:A.units+16*k+200<cLine
theorem zhC.mono {j k:Nat} {A:Around} (r:zhC k A) (h:j≤k):zhC j A:=⟨r.hd,by have:=r.dp;(first|lia|omega),by have:=r.un;(first|lia|omega)⟩
theorem zhC.deeper {k:Nat} {A:Around} (r:zhC (k+1) A) (env:Env):zhC k (A.deeper env) :=
 ⟨r.hd,by have:=r.dp;show A.depth+1+3*k+5<_;(first|lia|omega),by have:=r.un;show A.units+3+16*k+200<_;(first|lia|omega)⟩
theorem znX {A:Around} {C:Addr} {us:List Value} {kw:List (Str×Value)}:(A.under (.builtin "type.__call__" ⟨.ref C::us,kw⟩)).depth=A.depth+1:=by
 first | rfl | simp [Around.under,Code.weight,Code.isCreation,Code.isGuard,Code.isCaller,Code.frames,Code.isFrame,guardIds]
theorem znQ {A:Around} {C:Addr} {us:List Value} {kw:List (Str×Value)}:(A.under (.builtin "type.__call__" ⟨.ref C::us,kw⟩)).units=A.units+1:=by
 first | rfl | simp [Around.under,Code.cUnits,Code.frames,Code.isFrame]
theorem zhC.make {k:Nat} {A:Around} (r:zhC (k+1) A) (C:Addr) (us:List Value) (kw:List (Str×Value)):zhC k (A.under (.builtin "type.__call__" ⟨.ref C::us,kw⟩)) :=
 ⟨r.hd,by have:=r.dp;rw [znX];(first|lia|omega),by have:=r.un;rw [znQ];(first|lia|omega)⟩
theorem zhC.depth {k:Nat} {A:Around} (r:zhC k A):A.depth<recursionLimit:=by have:=r.dp;(first|lia|omega)
theorem zhC.units {k:Nat} {A:Around} (r:zhC k A):A.units+64<cLine:=by have:=r.un;(first|lia|omega)
def zau:TA:=fun _ H Q=>Q [] H
def zab (ta:TE) (tr:TA):TA:=fun σ H Q=>ta σ H fun x H1=>tr σ H1 fun xs H2=>Q (x::xs) H2
section
variable {X:Cx} {e:Expr} {es:List Expr} {te:TE} {t:TA} {pos:Pos}
theorem zag:PA X [] zau:=fun _ _ _ _ H Q I h=>Calls.spliced_nil ⟨[],H,I,.nil,h⟩
theorem zaa (ha:PE X e te) (hr:PA X es t) (hs:starEach (e::es) X.env=(false,eval e X.env)::starEach es X.env:=by rfl):PA X (e::es) (zab te t):=by
 intro pos pins s σ H Q I h
 rw [hs]
 show wpAny _ _ (spliced ((false,eval e X.env)::backTo pos (starEach es X.env))) _ _ s
 refine Calls.spliced_cons (thn (ha pins s σ H _ I h) fun u s1 hQ'=>?_)
 obtain ⟨x,H1,I1,r1,q1⟩:=hQ'
 exact thn (hr pos pins s1 σ H1 _ I1 q1) fun us s2 ⟨xs,H2,I2,r2,q2⟩=>⟨x::xs,H2,I2,.cons r1 r2,q2⟩
def zgq (t:TA):TE:=fun σ H Q=>t σ H fun xs H1=>xs.length≤sizeLine∧∀ p,H1 p=none→Q (.ref p) (upd H1 p (.tup xs))
def zd4 (t:TA):TE:=fun σ H Q=>t σ H fun xs H1=>xs.length≤sizeLine∧∀ p,H1 p=none→Q (.ref p) (upd H1 p (.lst xs))
theorem zdB {x1} (h:PA X es t):PE X (.Tuple es x1 pos) (zgq t):=by
 intro pins s σ H Q I hq
 refine wpAny_Tuple_spliced (thn (h pos pins s σ H _ I hq) fun us s1 ⟨xs,H1,I1,r,z,q⟩=>⟨by rw [← r.length];exact z,?_⟩)
 have hf:H1 s1.heap.objs.size=none:=I1.hok.fresh (Nat.le_refl _)
 refine ⟨.ref s1.heap.objs.size,upd H1 s1.heap.objs.size (.tup xs),I1.laid (t':=s1.toks) (fun b u e=>Heap.get?_push_of_some _ e) (Nat.le_refl _) ?_,rfl,q _ hf⟩
 exact ⟨z,us,r,⟨_,Heap.get?_push_size _ rfl,rfl,_,rfl⟩⟩
theorem zcm (h:PA X es t):PE X (.List es pos) (zd4 t):=by
 intro pins s σ H Q I hq
 refine wpAny_List_spliced (thn (h pos pins s σ H _ I hq) fun us s1 ⟨xs,H1,I1,r,z,q⟩=>⟨by rw [← r.length];exact z,?_⟩)
 have hf:H1 s1.heap.objs.size=none:=I1.hok.fresh (Nat.le_refl _)
 refine ⟨.ref s1.heap.objs.size,upd H1 s1.heap.objs.size (.lst xs),I1.laid (t':=s1.toks) (fun b u e=>Heap.get?_push_of_some _ e) (Nat.le_refl _) ?_,rfl,q _ hf⟩
 exact ⟨z,us,0,r,Heap.get?_push_size _ rfl⟩
end
abbrev Sp:=List V→Hp→VK→XK→Prop
abbrev CXT:=List Env→Hp→Shared→XK→Value→Shared→Prop
structure zsE (P:Program) (w:World) (K:PySem.W.Frag) (mg:Str→Option Value) (base:Heap) (A:Around) (outer:List Env) (s:Shared) (H:Hp):Prop where
 frames:A.frames=some outer
 mod:Mod K mg base
 bs:∀ b o,base.get? b=some o→s.heap.get? b=some o∧H b=none
 bsz:base.objs.size≤s.heap.objs.size
 funs:s.heap.FunFrames base outer
 frf:∀ b∈frs outer,H b=none
 hok:HOk P w H s.heap
 bare:AllBare s.gens
def CE (outer:List Env) (P:Program) (w:World) (H:Hp) (s:Shared) (Q:VK) (u:Value) (s':Shared):Prop :=
 ∃ v H',s'.os=s.os∧AllBare s'.gens∧Un (frs outer) [] H H' s.heap s'.heap∧HOk P w H' s'.heap∧zcC v u∧Q v H'
def CR (CX:CXT) (outer:List Env) (P:Program) (w:World) (H:Hp) (s:Shared) (Q:VK) (E:XK) (r:Result) (s':Shared):Prop :=
 match r with
 | .ok (.ret u)=>CE outer P w H s Q u s'
 | .ok _=>False
 | .error e=>CX outer H s E e s'
structure zdV (P:Program) (w:World) (K:PySem.W.Frag) (mg:Str→Option Value) (base:Heap) (CX:CXT) (k:Nat) (f:Addr) (fd:FuncData) (ps:List Str) (sp:Sp):Prop where
 len:∀ vs H Q E,sp vs H Q E→vs.length=ps.length
 run:∀ (A:Around) (outer:List Env) (s:Shared) (H:Hp) (args:Args) (us:List Value) (vs:List V) (Q:VK) (E:XK),zhC k A→zsE P w K mg base A outer s H→BindsTo s fd args (ps.zip us)→zck vs us→sp vs H Q E →
  codeAny (model P w) A (.call (.ref f) args) (CR CX outer P w H s Q E) s
theorem zsE.make {P:Program} {w:World} {K:PySem.W.Frag} {mg:Str→Option Value} {base:Heap} {A:Around} {outer:List Env} {s:Shared} {H:Hp} (e:zsE P w K mg base A outer s H) (C:Addr) (us:List Value) (kw:List (Str×Value)) :
  zsE P w K mg base (A.under (.builtin "type.__call__" ⟨.ref C::us,kw⟩)) outer s H:=⟨by first | exact e.frames | (simpa [Around.under,Code.envs,Code.isFrame,pushEnvs] using e.frames),e.mod,e.bs,e.bsz,e.funs,e.frf,e.hok,e.bare⟩
section
variable {X:Cx} {pins:List (Addr×Obj)} {σ:St} {H:Hp} {s s':Shared}
theorem Inv.env0 (I:Inv X pins σ H s):zsE X.prog X.w X.K X.mg X.base X.A X.stack s H :=
 ⟨I.ok.frames,I.ok.mod,I.bs,Nat.le_trans I.ok.bsz I.sz,I.stack,I.stkFree,I.hok,I.bare⟩
theorem Inv.after {Q:VK} {u:Value} (I:Inv X pins σ H s) (h:CE X.stack X.prog X.w H s Q u s'):EP X pins σ Q u s':=by
 obtain ⟨v,H',os,bare,un,hok,r,q⟩:=h
 obtain ⟨hh,g,d,t,os'⟩:=s'
 obtain rfl:os'=s.os:=os
 exact ⟨v,H',I.call (h':=hh) (g':=g) (d':=d) (t':=t) (ch:=[]) un hok bare (fun b z=>absurd z (by simp)),r,q⟩
end
def zaY (sp:Sp) (dvs:List V) (E:XK) (t:TA):TE:=fun σ H Q=>t σ H fun vs H1=>sp (vs++dvs) H1 Q E
def zcv (K:PySem.W.Frag) (fd:FuncData) (ps:List Str) (ds:List Value):Prop :=
 ∀ (s:Shared) (us:List Value),K.In s.heap→(us++ds).length=ps.length→BindsTo s fd ⟨us,[]⟩ (ps.zip (us++ds))
theorem zcv.all {K:PySem.W.Frag} {fd:FuncData} {ps:List Str} (h:∀ us:List Value,us.length=ps.length→bindArgs fd ⟨us,[]⟩=pure (ps.zip us)):zcv K fd ps []:=fun s us _ hl=>by
 rw [List.append_nil] at hl ⊢
 exact .of_eq (h us hl)
def zjj (CX:CXT) (X:Cx) (E:XK):Prop:=∀ (pins:List (Addr×Obj)) (σ:St) (H:Hp) (s:Shared) (e:Value) (s':Shared),Inv X pins σ H s→CX X.stack H s E e s'→X.xe e s'
section
variable {X:Cx} {CX:CXT} {k:Nat} {f C:Addr} {fd:FuncData} {ps:List Str} {sp:Sp} {dvs:List V} {ds:List Value} {E:XK} {x m:Str} {p pos apos:Pos} {e o:Expr} {es:List Expr} {ta:TE} {t:TA}
theorem ztZ {pins:List (Addr×Obj)} {σ:St} {H:Hp} {s:Shared} {Q:VK} {us:List Value} {vs:List V} (F:zdV X.prog X.w X.K X.mg X.base CX k f fd ps sp) (hr:zhC k X.A) (hb:zcv X.K fd ps ds) (hd:zck dvs ds) (hx:zjj CX X E)
  (I:Inv X pins σ H s) (r:zck vs us) (h:sp (vs++dvs) H Q E):wpAny (model X.prog X.w) X.A (call (.ref f) us) (EP X pins σ Q) X.xe s:=by
 have r2:zck (vs++dvs) (us++ds):=r.append hd
 have hl:(us++ds).length=ps.length:=by rw [← r2.length];exact F.len _ _ _ _ h
 refine wpAny_call (codeAny_mono (F.run X.A X.stack s H ⟨us,[]⟩ (us++ds) (vs++dvs) Q E hr I.env0 (hb s us I.kIn hl) r2 h) fun r s' hq=>?_)
 cases r with
 | error e=>exact hx pins σ H s e s' I hq
 | ok fl =>
  cases fl with
  | ret u=>exact I.after hq
  | next=>exact False.elim hq
  | brk=>exact False.elim hq
  | cont=>exact False.elim hq
theorem zaG (F:zdV X.prog X.w X.K X.mg X.base CX k f fd ps sp) (hr:zhC k X.A) (hg:Gl X x) (hm:X.mg x=some (.ref f)) (hk:PySem.W.keepIn X.K (.ref f)=true) (hb:zcv X.K fd ps ds) (hd:zck dvs ds) (hx:zjj CX X E)
  (ha:PA X (e::es) t) (hdb:(x == ("__debug__":Str))=false:=by decide) (he:starEach (e::es) X.env=(false,eval e X.env)::starEach es X.env:=by rfl) (hpl:(backTo pos (starEach es X.env)).any (·.1)=false:=by rfl) :
  PE X (.Call (.Name x p) (e::es) [] pos) (zaY sp dvs E t):=by
 intro pins s σ H Q I h
 refine wpAny_Call_Name_kw (zge I hg hm ?_ hdb)
 refine PySem.W.callWith_K (h₀:=X.base) I.ok.mod.kin hk (thn (ha pos pins s σ H _ I h) fun us s1 ⟨vs,H1,I1,r,q⟩=>⟨I1.kIn,?_⟩) he hpl
 exact ztZ F hr hb hd hx I1 r q
end
section
variable {X:Cx} {CX:CXT} {k:Nat} {f C:Addr} {fd:FuncData} {ps ks:List Str} {sp:Sp} {E:XK} {x m:Str} {p pos apos kpos:Pos} {e o:Expr} {es:List Expr} {kws:List Keyword} {te ta:TE} {t tk:TA} {nm:Option Str}
variable {g:List Value→List Value→List Value} {gV:List V→List V→List V}
end
structure zbk (N P:List Str) (sc:Scope):Prop where
 kind:sc.kind=.function
 co:sc.isCoroutine=false
 gen:sc.isGenerator=false
 nd:N.Nodup
 pre:N.take P.length=P
 par:∀ x∈P,sc.names.lookup x=some .local∨sc.names.lookup x=some .cell
 nofree:∀ y∈sc.names,y.2≠.free
theorem zkZ {kindOf:Str→Option NameKind} {x:Str}:∀ {binds:List (Str×Value)} {m:Str→Option Value},(∀ v,(x,v)∉binds)→bindL kindOf binds m x=m x
 | [],_,_=>rfl
 | (n,v)::r,m,h=>by
  unfold bindL
  rw [zkZ fun w hw=>h w (List.mem_cons_of_mem _ hw)]
  split
  ·have:x≠n:=by rintro rfl;exact h v List.mem_cons_self
   simp [this]
  ·rfl
theorem zly {kindOf:Str→Option NameKind} {x:Str}:∀ {binds:List (Str×Value)} {m:Str→Option Value},(∀ v,(x,v)∉binds)→bindC kindOf binds m x=m x
 | [],_,_=>rfl
 | (n,v)::r,m,h=>by
  unfold bindC
  rw [zly fun w hw=>h w (List.mem_cons_of_mem _ hw)]
  split
  ·rfl
  ·have:x≠n:=by rintro rfl;exact h v List.mem_cons_self
   simp [this]
theorem zli {kindOf:Str→Option NameKind} {x:Str} {v:Value}:∀ {P:List Str} {vs:List Value} {i:Nat} {m:Str→Option Value},P.Nodup→P[i]?=some x→vs[i]?=some v→kindOf x=some .local →
  bindL kindOf (P.zip vs) m x=some v
 | [],_,_,_,_,h,_,_=>by simp at h
 | _::_,[],_,_,_,_,h,_=>by simp at h
 | p::P,w::vs,0,m,nd,h1,h2,hk=>by
  simp at h1 h2;subst h1;subst h2
  show bindL kindOf ((p,w)::P.zip vs) m p=_
  unfold bindL
  rw [zkZ fun v hv=>(List.nodup_cons.mp nd).1 (List.of_mem_zip hv).1,if_pos hk]
  simp
 | p::P,w::vs,i+1,m,nd,h1,h2,hk=>by
  show bindL kindOf ((p,w)::P.zip vs) m x=_
  unfold bindL
  exact zli (i:=i) (List.nodup_cons.mp nd).2 (by simpa using h1) (by simpa using h2) hk
theorem zkP {kindOf:Str→Option NameKind} {x:Str} {v:Value}:∀ {P:List Str} {vs:List Value} {i:Nat} {m:Str→Option Value},P.Nodup→P[i]?=some x→vs[i]?=some v→kindOf x≠some .local →
  bindC kindOf (P.zip vs) m x=some v
 | [],_,_,_,_,h,_,_=>by simp at h
 | _::_,[],_,_,_,_,h,_=>by simp at h
 | p::P,w::vs,0,m,nd,h1,h2,hk=>by
  simp at h1 h2;subst h1;subst h2
  show bindC kindOf ((p,w)::P.zip vs) m p=_
  unfold bindC
  rw [zly fun v hv=>(List.nodup_cons.mp nd).1 (List.of_mem_zip hv).1,if_neg hk]
  simp
 | p::P,w::vs,i+1,m,nd,h1,h2,hk=>by
  show bindC kindOf ((p,w)::P.zip vs) m x=_
  unfold bindC
  exact zkP (i:=i) (List.nodup_cons.mp nd).2 (by simpa using h1) (by simpa using h2) hk
def zce (N:List Str) (vs:List V):St:=vs.map some++List.replicate (N.length - vs.length) none
def zp5 (CX:CXT) (P:Program) (w:World) (K:PySem.W.Frag) (mg:Str→Option Value) (base:Heap) (N:List Str) (qual:Str) (scope:Scope) (f:Addr) (cd:Value) (A:Around) (outer:List Env) (s:Shared) (H:Hp) (E:XK):Cx where
 prog:=P
 w:=w
 K:=K
 mg:=mg
 base:=base
 A:=A.deeper (envOfC qual scope s.heap.objs.size f cd)
 N:=N
 s₀:=s
 H₀:=H
 env:=envOfC qual scope s.heap.objs.size f cd
 outer:=outer
 stack:=envOfC qual scope s.heap.objs.size f cd::outer
 ex:=[]
 calm:=true
 fn:=fun _=>true
 pn:=[]
 xe:=fun e s'=>wpAny (model P w) (A.deeper (envOfC qual scope s.heap.objs.size f cd)) (leaving (envOfC qual scope s.heap.objs.size f cd) e) (fun _ s''=>CX outer H s E e s'') (fun e' s''=>CX outer H s E e' s'') s'
theorem zmU {sc:Scope} {n:Nat} {x:Str} (h:sc.names.lookup x=some .cell):∃ c,(cellsFrom n sc.names []).lookup x=some c:=by
 have q:=PySem.W.cellsFrom_some sc.names n [] (.inl h)
 exact Option.isSome_iff_exists.mp q
theorem zpu {CX:CXT} {P:Program} {w:World} {K:PySem.W.Frag} {mg:Str→Option Value} {base:Heap} {N ps:List Str} {qual:Str} {scope:Scope} {f:Addr} {cd:Value} {A:Around} {outer:List Env} {s s1:Shared} {H:Hp} {E:XK} {us:List Value} {vs:List V}
  (S:zbk N ps scope) (hd:A.handled=none) (e0:zsE P w K mg base A outer s H) (hl:vs.length=ps.length) (r:zck vs us)
  (x:InCallC s s.heap.objs.size (bindL (envOfC qual scope s.heap.objs.size f cd).kindOf (ps.zip us) fun _=>none) (cellsFrom (s.heap.objs.size+1) scope.names []) (bindC (envOfC qual scope s.heap.objs.size f cd).kindOf (ps.zip us) fun _=>none) s1) :
  Inv (zp5 CX P w K mg base N qual scope f cd A outer s H E) [] (zce N vs) H s1:=by
 have hpl:ps.length≤N.length:=by have:=congrArg List.length S.pre;rw [List.length_take] at this;(first|lia|omega)
 obtain ⟨h1,tk,rfl,hk⟩:=x.done
 have noA:∀ b:Addr,b∉(zp5 CX P w K mg base N qual scope f cd A outer s H E).ex:=fun b z=>absurd (show b∈([]:List Addr) from z) (by simp)
 refine ⟨⟨e0.mod,S.kind,rfl,rfl,Nat.le_refl _,fun y z c h1 h2=>?_,fun y hy=>?_,fun y c _ h=>?_,fun _=>hd,Around.frames_deeper e0.frames,.inr ⟨rfl,rfl⟩,fun b z=>absurd z (noA b),e0.bs,e0.bsz,fun b _ _=>noA b,fun b z=>absurd z (noA b),e0.funs,e0.frf⟩,
  rfl,e0.bare,Un.kept hk,⟨_,x.toInCall.ns,fun i y v h1 h2 h3=>?_⟩,fun y c h=>⟨_,x.cell y c h⟩,e0.hok.fresh (Nat.le_refl _),fun y c h=>?_,fun p hp=>absurd (show p∈([]:List (Addr×Obj)) from hp) (by simp),e0.hok.kept hk,?_⟩
 ·exact name_of_addr x.apart (PySem.mem_of_lookup h1) (PySem.mem_of_lookup h2)
 ·have hy:scope.names.lookup y=some .cell∨scope.names.lookup y=some .free:=hy
  rcases hy with hy | hy
  ·exact zmU hy
  ·exact absurd rfl (S.nofree _ (PySem.mem_of_lookup hy))
 ·exact Nat.le_of_lt (x.above y c (PySem.mem_of_lookup h))
 ·have hi:i<vs.length:=by
   unfold zce at h2
   by_cases hi:i<vs.length
   ·exact hi
   ·rw [List.getElem?_append_right (by simpa using hi)] at h2
    rw [List.getElem?_replicate] at h2
    split at h2 <;> cases h2
  have ha:vs[i]?=some v:=by
   unfold zce at h2
   rw [List.getElem?_append_left (by simpa using hi),List.getElem?_map] at h2
   cases e:vs[i]? with
   | none=>rw [e] at h2;cases h2
   | some a=>rw [e] at h2;cases h2;rfl
  obtain ⟨u,hu,rv⟩:=r.get ha
  have hp:ps[i]?=some y:=by
   rw [← S.pre,List.getElem?_take_of_lt (by (first|lia|omega))];exact h1
  have ndP:ps.Nodup:=by rw [← S.pre];exact S.nd.sublist (List.take_sublist _ _)
  refine ⟨u,rv,?_⟩
  rcases S.par y (List.mem_of_getElem? hp) with k | k
  ·exact .inl ⟨k,zli ndP hp hu k⟩
  ·obtain ⟨c,e⟩:=zmU (n:=s.heap.objs.size+1) k
   refine .inr ⟨.inl k,c,e,?_⟩
   have q:=x.cell y c e
   rw [zkP ndP hp hu (by show scope.names.lookup y≠_;rw [k];decide)] at q
   exact q
 ·exact e0.hok.fresh (Nat.le_of_lt (x.above y c (PySem.mem_of_lookup h)))
 ·unfold zce
  show _=N.length
  rw [List.length_append,List.length_map,List.length_replicate]
  (first|lia|omega)
theorem zts {CX:CXT} {P:Program} {w:World} {K:PySem.W.Frag} {mg:Str→Option Value} {base:Heap} {k:Nat} {f:Addr} {name qual:Str} {params:Arguments} {body:List Stmt} {scope:Scope} {dV kV doc pm cdv ct oc:Value} {an od:Option Addr}
  {osl:Array (Option Value)} {N ps:List Str} {sp:Sp} (lk:K.lookup f=some ⟨oc,od,.func (PySem.W.fnOf name qual params body scope dV kV doc pm an cdv ct),osl⟩) (hcd:PySem.W.codeIn K cdv qual=true) (S:zbk N ps scope)
  (len:∀ vs H Q E,sp vs H Q E→vs.length=ps.length)
  (hbody:∀ (A:Around) (outer:List Env) (s:Shared) (H:Hp) (vs:List V) (Q:VK) (E:XK),zhC k (A.deeper (envOfC qual scope s.heap.objs.size f cdv))→sp vs H Q E →
   ∃ t,PSs (zp5 CX P w K mg base N qual scope f cdv A outer s H E) body t∧t { nx:=fun _ H'=>Q .non H',rt:=Q } (zce N vs) H) :
  zdV P w K mg base CX (k+1) f (PySem.W.fnOf name qual params body scope dV kV doc pm an cdv ct) ps sp:=by
 refine ⟨len,fun A outer s H args us vs Q E hr e0 hb r hsp=>?_⟩
 have hl:=len _ _ _ _ hsp
 have KX:K.In s.heap:=e0.mod.kin.keeps fun b o e=>(e0.bs b o e).1
 have lim:s.heap.NoLimit:=e0.mod.nolimit.keeps fun b o e=>(e0.bs b o e).1
 have hkind:∀ y∈ps.zip us,scope.names.lookup y.1=some .local∨(scope.names.lookup y.1=some .cell∧((cellsFrom (s.heap.objs.size+1) scope.names []).lookup y.1).isSome=true):=fun ⟨n,v⟩ hy=>by
  rcases S.par n (List.of_mem_zip hy).1 with q | q
  ·exact .inl q
  ·exact .inr ⟨q,PySem.W.cellsFrom_some _ _ _ (.inl q)⟩
 refine codeAny_call_function hr.depth (KX _ _ lk) rfl S.co S.gen rfl (PySem.W.codeRec_of KX hcd) (hb _ _ _ _ ?_)
 refine wpAny_newFunctionEnv_cells S.kind hkind fun env he s1 x=>?_
 subst he
 refine ⟨lim.keeps x.toInCall.keep,codeAny_func ?_⟩
 obtain ⟨t,ht,hq⟩:=hbody A outer s H vs Q E (hr.deeper _) hsp
 have I:Inv (zp5 CX P w K mg base N qual scope f cdv A outer s H E) [] (zce N vs) H s1:=zpu S hr.hd e0 hl r x
 refine wpAny_mono (ht [] s1 (zce N vs) H _ I hq) (fun fl s' hs=>?_) fun e s' hs=>hs
 have fin:∀ {σ':St} {H':Hp} {v:V} {u:Value},Inv (zp5 CX P w K mg base N qual scope f cdv A outer s H E) [] σ' H' s'→zcC v u→Q v H'→CE outer P w H s Q u s' :=
  fun {σ' H' v u} J rv q=>⟨v,H',J.os,J.bare,J.base,J.hok,rv,q⟩
 cases fl with
 | ret u =>
  obtain ⟨v,σ',H',J,rv,q⟩:=hs
  exact fin J rv q
 | next =>
  obtain ⟨σ',H',J,q⟩:=hs
  exact fin (v:=V.non) (u:=Value.none) J rfl q
 | brk =>
  obtain ⟨_,_,_,q⟩:=hs
  exact False.elim q
 | cont =>
  obtain ⟨_,_,_,q⟩:=hs
  exact False.elim q
end L2
namespace L2
open PySem PySem.Spec PyProof.Rows
section
variable {X:Cx} {x:Str} {p pos:Pos} {e:Expr} {es:List Expr} {t:TA} {id T:String} {r:List V→Hp→VK→Prop}
def tCB (r:List V→Hp→VK→Prop) (t:TA):TE:=fun σ H Q=>t σ H fun vs H1=>r vs H1 Q
theorem zai (hc:zgU X (.builtin id) r) (hg:Gl X x) (hm:X.mg x=none) (hv:bootBuiltins x=some (.builtin id)) (ha:PA X (e::es) t) (hn:x≠"__name__":=by decide) (hdb:(x == ("__debug__":Str))=false:=by decide)
  (he:starEach (e::es) X.env=(false,eval e X.env)::starEach es X.env:=by rfl) (hpl:(backTo pos (starEach es X.env)).any (·.1)=false:=by rfl):PE X (.Call (.Name x p) (e::es) [] pos) (tCB r t):=by
 intro pins s σ H Q I h
 refine wpAny_Call_Name_kw (zht I hg hm hv ?_ hn hdb)
 exact PyProof.Rows.callWith_builtin1 (thn (ha pos pins s σ H _ I h) fun us s1 ⟨vs,H1,I1,r1,q1⟩=>hc pins s1 σ H1 vs us Q I1 r1 q1) he hpl
theorem zgy (hc:zgU X (.type T) r) (hg:Gl X x) (hm:X.mg x=none) (hv:bootBuiltins x=some (.type T)) (ha:PA X (e::es) t) (hn:x≠"__name__":=by decide) (hdb:(x == ("__debug__":Str))=false:=by decide)
  (he:starEach (e::es) X.env=(false,eval e X.env)::starEach es X.env:=by rfl) (hpl:(backTo pos (starEach es X.env)).any (·.1)=false:=by rfl):PE X (.Call (.Name x p) (e::es) [] pos) (tCB r t):=by
 intro pins s σ H Q I h
 refine wpAny_Call_Name_kw (zht I hg hm hv ?_ hn hdb)
 exact PyProof.Rows.callWith_type1 (thn (ha pos pins s σ H _ I h) fun us s1 ⟨vs,H1,I1,r1,q1⟩=>hc pins s1 σ H1 vs us Q I1 r1 q1) he hpl
end
end L2
namespace HT
open PySem PyProof.Rows
section
open PySem.SeqAt
open PySem.AutoSeq1 (wpAny_loadPart')
open PySem.MeetsSeq PySem.MeetsSeq2 PySem.MeetsSeq3
end
section
variable {prog:Program} {w:World} {A:Around} {E:Value→Shared→Prop} {s:Shared}
theorem cat_tup {t b:Addr} {vs ws:List Value} {Q:Value→Shared→Prop} (ht:IsTup s.heap t vs.toArray) (hb:IsTup s.heap b ws.toArray) (hv:vs≠[])
  (h1:ws=[]→Q (.ref t) s) (h2:ws≠[]→Q (.ref s.heap.objs.size) { s with heap:=s.heap.push { cls:=.type "tuple",data:=.seq (vs++ws).toArray } })
  (hsz:vs.length+ws.length≤sizeLine):wpAny (model prog w) A (binaryOp .Add (.ref t) (.ref b)) Q E s:=by
 obtain ⟨⟨cls,dd,data,sl⟩,ho,hc,n,hd⟩:=id ht
 obtain ⟨⟨cls2,dd2,data2,sl2⟩,ho2,hc2,n2,hd2⟩:=id hb
 simp only at hc hd hc2 hd2
 subst hc hd hc2 hd2
 have e:vs.toArray++ws.toArray=(vs++ws).toArray:=by simp
 by_cases hw:ws=[]
 ·exact concat_meets ⟨_,ho,rfl⟩ ⟨_,ho2,rfl⟩ noFill_tuple_add seq_tuple_add PySem.F.slot_tuple_add PySem.F.entry_tuple_add (PySem.F.args_tuple_add_2 _ _)
   (tuple_addW1 t b vs.toArray ws.toArray n n2 dd dd2 sl sl2 (by simpa using hv) (by simp [hw])) ⟨ho,ho2,h1 hw⟩
 ·refine concat_meets ⟨_,ho,rfl⟩ ⟨_,ho2,rfl⟩ noFill_tuple_add seq_tuple_add PySem.F.slot_tuple_add PySem.F.entry_tuple_add (PySem.F.args_tuple_add_2 _ _)
   (tuple_addW2 t b vs.toArray ws.toArray n n2 dd dd2 sl sl2 (by simpa using hv) (by simpa using hw) (by rw [List.size_toArray,List.size_toArray];exact hsz)) ⟨ho,ho2,?_⟩
  rw [e]
  exact h2 hw
def sIx (n d:Nat):Option Int→Nat
 | none=>d
 | some v=>if v<0 then (v+(n:Int)).toNat else min v.toNat n
end
end HT
namespace L2
open PySem PySem.Spec PyProof.Rows
abbrev TO:=St→Hp→(Option Int→Hp→Prop)→Prop
def PO (X:Cx) (e:Option Expr) (t:TO):Prop :=
 ∀ (pins:List (Addr×Obj)) (s:Shared) (σ:St) (H:Hp) (Q:Option Int→Hp→Prop),Inv X pins σ H s→t σ H Q →
  wpAny (model X.prog X.w) X.A (evalPart e X.env) (fun u s'=>∃ o H',Inv X pins σ H' s'∧IsPart u o∧Q o H') X.xe s
def zbB:TO:=fun _ H Q=>Q none H
def zc0 (t:TE):TO:=fun σ H Q=>t σ H fun x H1=>∃ i,x=.int i∧Q (some i) H1
section
variable {X:Cx} {e:Expr} {te:TE} {lo hi:Option Expr} {tl th:TO} {pos p2:Pos}
theorem zdj:PO X none zbB:=by
 intro pins s σ H Q I h
 rw [evalPart_none]
 exact wpAny_pure ⟨none,H,I,.none,h⟩
theorem zcV (h:PE X e te):PO X (some e) (zc0 te):=by
 intro pins s σ H Q I hw
 rw [evalPart_some]
 refine thn (h pins s σ H _ I hw) fun u s1 hQ'=>?_
 obtain ⟨x,H1,I1,r1,q1⟩:=hQ'
 obtain ⟨i,rfl,q⟩:=q1
 obtain ⟨t,rfl⟩:=r1
 exact ⟨some i,H1,I1,.int i t,q⟩
def SlR (X:Cx) (r:V→Option Int→Option Int→Hp→VK→Prop):Prop :=
 ∀ (pins:List (Addr×Obj)) (s:Shared) (σ:St) (H:Hp) (x:V) (v vl vu:Value) (lo hi:Option Int) (sl:Addr) (Q:VK),Inv X pins σ H s→zcC x v→s.heap.IsSliceOf sl vl vu .none→IsPart vl lo→IsPart vu hi→r x lo hi H Q →
  ∃ T id,typeLookup (.type T) "__getitem__"=pure (some (.builtin id))∧s.TypeIs v T∧wpAny (model X.prog X.w) X.A (getItem v (.ref sl)) (EP X pins σ Q) X.xe s
def tSl (r:V→Option Int→Option Int→Hp→VK→Prop) (te:TE) (tl th:TO):TE:=fun σ H Q=>te σ H fun x H1=>tl σ H1 fun l H2=>th σ H2 fun u H3=>r x l u H3 Q
theorem zcy {r:V→Option Int→Option Int→Hp→VK→Prop} (hr:SlR X r) (he:PE X e te) (hl:PO X lo tl) (hu:PO X hi th):PE X (.Subscript e (.Slice lo hi none p2) pos) (tSl r te tl th):=by
 intro pins s σ H Q I h
 refine Subscript_ (thn (he pins s σ H _ I h) fun v s1 hQ'=>?_)
 obtain ⟨x,H1,I1,r1,q1⟩:=hQ'
 refine wpAny_Slice (thn (hl pins s1 σ H1 _ I1 q1) fun vl s2 ⟨l,H2,I2,pl,q2⟩=>thn (hu pins s2 σ H2 _ I2 q2) fun vu s3 hQ'=>?_)
 obtain ⟨u,H3,I3,pu,q3⟩:=hQ'
 rw [evalPart_none]
 refine wpAny_pure ?_
 have I4:Inv X pins σ H3 { s3 with heap:=s3.heap.push { cls:=.type "slice",data:=.fields #[vl,vu,.none] } }:=I3.kept (t':=s3.toks) fun b ob q=>Heap.get?_push_of_some _ q
 obtain ⟨T,id,hT,ht,hg⟩:=hr pins { s3 with heap:=s3.heap.push { cls:=.type "slice",data:=.fields #[vl,vu,.none] } } σ H3 x v vl vu l u s3.heap.objs.size Q I4 r1 (Heap.IsSliceOf.new ..) pl pu q3
 show wpAny (model X.prog X.w) X.A (subscriptTail e (.Slice lo hi none p2) v (.ref s3.heap.objs.size)) (EP X pins σ Q) X.xe { s3 with heap:=s3.heap.push { cls:=.type "slice",data:=.fields #[vl,vu,.none] } }
 exact tail_any (ops:=[.ref s3.heap.objs.size,v]) ht hT hg (by with_unfolding_all rfl)
def zch (xs:List V) (lo hi:Option Int):List V:=(xs.drop (HT.sIx xs.length 0 lo)).take (HT.sIx xs.length xs.length hi - HT.sIx xs.length 0 lo)
theorem zhX (xs:List V) (lo hi:Option Int):(zch xs lo hi).length≤xs.length:=by
 unfold zch
 rw [List.length_take,List.length_drop]
 (first|lia|omega)
def zq5 (K:PySem.W.Frag):R2:=fun x y H Q=>∃ a b xs ys,x=.ref a∧y=.ref b∧SqT K H a xs∧SqT K H b ys∧xs≠[]∧xs.length+ys.length≤sizeLine ∧
 (ys=[]→Q (.ref a) H)∧(ys≠[]→∀ p,H p=none→Q (.ref p) (upd H p (.tup (xs++ys))))
theorem zck.nil_iff {xs:List V} {us:List Value} (r:zck xs us):us=[]↔xs=[]:=by
 cases r with
 | nil=>simp
 | cons _ _=>simp
theorem zsg:OpR X (binaryOp .Add) (zq5 X.K):=by
 intro pins s σ H x y v u Q I rx ry h
 obtain ⟨a,b,xs,ys,rfl,rfl,ha,hb,hx,hz,q1,q2⟩:=h
 cases rx
 cases ry
 obtain ⟨its,r1,p1,_⟩:=I.tuple ha
 obtain ⟨its2,r2,p2,_⟩:=I.tuple hb
 refine HT.cat_tup p1 p2 (fun z=>hx (r1.nil_iff.mp z)) (fun z=>⟨.ref a,H,I,rfl,q1 (r2.nil_iff.mp z)⟩) (fun z=>?_) (by rw [← r1.length,← r2.length];exact hz)
 refine ⟨.ref s.heap.objs.size,_,I.laid (t':=s.toks) (o:=.tup (xs++ys)) (fun b ob q=>Heap.get?_push_of_some _ q) (Nat.le_refl _) ?_,rfl,q2 (fun w=>z (r2.nil_iff.mpr w)) _ (I.hok.fresh (Nat.le_refl _))⟩
 exact ⟨by rw [List.length_append];exact hz,_,r1.append r2,IsTup.new _ _⟩
end
end L2
namespace L2
open PySem PySem.Spec PyProof.Rows
def ixN (n:Nat) (i:Int):Option Nat:=if 0≤i then (if i<n then some i.toNat else none) else if -(n:Int)≤i then some (i+n).toNat else none
def atI {α:Type} (xs:List α) (i:Int):Option α:=(ixN xs.length i).bind fun j=>xs[j]?
theorem ztf {n:Nat} {i:Int} {j:Nat} (h:ixN n i=some j):seqIndex? i n=some j∧j<n∧-(n:Int)≤i∧i<n:=by
 unfold ixN at h
 by_cases h0:0≤i
 ·rw [if_pos h0] at h
  by_cases h1:i<n
  ·rw [if_pos h1] at h
   have e:i.toNat=j:=Option.some.inj h
   exact ⟨by rw [seqIndex_of h0 h1,e],by (first|lia|omega),by (first|lia|omega),h1⟩
  ·rw [if_neg h1] at h;cases h
 ·rw [if_neg h0] at h
  by_cases h1:-(n:Int)≤i
  ·rw [if_pos h1] at h
   have e:(i+n).toNat=j:=Option.some.inj h
   exact ⟨by rw [seqIndex_neg (by (first|lia|omega)) h1,e],by (first|lia|omega),h1,by (first|lia|omega)⟩
  ·rw [if_neg h1] at h;cases h
theorem zoq {α:Type} {xs:List α} {i:Int} {v:α} (h:atI xs i=some v):∃ j,seqIndex? i xs.length=some j∧xs[j]?=some v∧j<xs.length∧-(xs.length:Int)≤i∧i<xs.length:=by
 unfold atI at h
 cases e:ixN xs.length i with
 | none=>rw [e] at h;cases h
 | some j =>
  rw [e] at h
  obtain ⟨h1,h2,h3,h4⟩:=ztf e
  exact ⟨j,h1,h,h2,h3,h4⟩
theorem zen {α:Type} {xs:List α} {j:Nat} {v:α} (h:xs[j]?=some v):atI xs (j:Int)=some v:=by
 have hj:j<xs.length:=(List.getElem?_eq_some_iff.mp h).1
 have e:ixN xs.length (j:Int)=some j:=by
  unfold ixN
  rw [if_pos (by (first|lia|omega)),if_pos (by (first|lia|omega))];simp
 unfold atI;rw [e];exact h
def ztc (b:Expr):Prop:=∀ o i,subscripted b false o i=operate [o,i] (getItem o i)
def IxR (X:Cx) (r:R2):Prop :=
 ∀ (value slice:Expr) (pins:List (Addr×Obj)) (s:Shared) (σ:St) (H:Hp) (x y:V) (v u:Value) (Q:VK),Inv X pins σ H s→zcC x v→zcC y u→r x y H Q →
  subscripted slice false v u=operate [v,u] (getItem v u)→wpAny (model X.prog X.w) X.A (subscriptTail value slice v u) (EP X pins σ Q) X.xe s
def MtR (X:Cx) (id:String) (r:V→List V→Hp→VK→Prop):Prop :=
 ∀ (pins:List (Addr×Obj)) (s:Shared) (σ:St) (H:Hp) (x:V) (xs:List V) (v:Value) (us:List Value) (Q:VK),Inv X pins σ H s→zcC x v→zck xs us→r x xs H Q →
  wpAny (model X.prog X.w) X.A (call (.builtin id) (v::us)) (EP X pins σ Q) X.xe s
section
variable {X:Cx} {a b:Expr} {ta tb:TE} {pos:Pos}
theorem zbh {r:R2} (hr:IxR X r) (ha:PE X a ta) (hb:PE X b tb) (hs:ztc b):PE X (.Subscript a b pos) (tOp r ta tb):=by
 intro pins s σ H Q I h
 exact Subscript_ (binT ha hb I h fun v u s2 x y H2 I2 rx ry q=>hr a b pins s2 σ H2 x y v u Q I2 rx ry q (hs _ _))
def zcg (K:PySem.W.Frag):R2:=fun x y H Q=>∃ p xs i v,x=.ref p∧y=.int i∧SqL K H p xs∧atI xs i=some v∧Q v H
def zdz (K:PySem.W.Frag):R2:=fun x y H Q=>∃ p xs i v,x=.ref p∧y=.int i∧SqT K H p xs∧atI xs i=some v∧Q v H
theorem zaJ:IxR X (zcg X.K):=by
 intro value slice pins s σ H x y v u Q I rx ry h hs
 obtain ⟨p,xs,i,z,rfl,rfl,hq,he,q⟩:=h
 cases rx
 obtain ⟨t,rfl⟩:=ry
 obtain ⟨its,r,pl,hz⟩:=I.list hq
 obtain ⟨j,h1,h2,h3,h4,h5⟩:=zoq he
 obtain ⟨w,ew,rw'⟩:=r.get h2
 have hl:=r.length
 have hn:=zpr
 have fin:EP X pins σ Q w s:=⟨z,H,I,rw',q⟩
 by_cases h0:0≤i
 ·have hj:i.toNat=j:=by
   rw [seqIndex_of h0 h5] at h1
   exact Option.some.inj h1
  exact item_listR pl.isList h0 (by (first|lia|omega)) (by rw [hj];simpa using ew) fin hs
 ·have hj:(i+(its.toArray.size:Int)).toNat=j:=by
   rw [seqIndex_neg (by (first|lia|omega)) h4] at h1
   rw [List.size_toArray,← hl]
   exact Option.some.inj h1
  exact subscriptTail_builtinR (x:=w) pl.isList.typeIs slot_list_getitem.lookup
   (wpAny_getItem_list_neg (Q:=fun r s'=>r=w∧EP X pins σ Q r s') pl.isList (by (first|lia|omega)) (by rw [List.size_toArray] <;> (first|lia|omega)) (by (first|lia|omega)) (by rw [hj];simpa using ew) ⟨rfl,fin⟩) hs
theorem zcw:IxR X (zdz X.K):=by
 intro value slice pins s σ H x y v u Q I rx ry h hs
 obtain ⟨p,xs,i,z,rfl,rfl,hq,he,q⟩:=h
 cases rx
 obtain ⟨t,rfl⟩:=ry
 obtain ⟨its,r,pl,hz⟩:=I.tuple hq
 obtain ⟨j,h1,h2,h3,h4,h5⟩:=zoq he
 obtain ⟨w,ew,rw'⟩:=r.get h2
 have hl:=r.length
 have hn:=zpr
 have fin:EP X pins σ Q w s:=⟨z,H,I,rw',q⟩
 exact subscriptTail_builtinR (x:=w) pl.typeIs slot_tuple_getitem.lookup
  (getItem_tuple (j:=j) (Q:=fun r s'=>r=w∧EP X pins σ Q r s') pl (by (first|lia|omega)) (by (first|lia|omega)) (by rw [List.size_toArray,← hl];exact h1) (by simpa using ew) ⟨rfl,fin⟩) hs
theorem zkM (lo hi:Option Int) (n:Nat):(sliceBounds lo hi none n).1=((HT.sIx n 0 lo:Nat):Int)∧(sliceBounds lo hi none n).2.1=((HT.sIx n n hi:Nat):Int)∧(sliceBounds lo hi none n).2.2=1:=by
 refine ⟨?_,?_,rfl⟩
 ·cases lo with
  | none=>simp [sliceBounds,HT.sIx]
  | some i =>
   simp only [sliceBounds,HT.sIx,Option.getD_none,show (1:Int) > 0 by decide,if_true]
   by_cases h:i<0
   ·simp only [h,if_true] <;> (first|lia|omega)
   ·simp only [h,if_false] <;> (first|lia|omega)
 ·cases hi with
  | none=>simp [sliceBounds,HT.sIx]
  | some i =>
   simp only [sliceBounds,HT.sIx,Option.getD_none,show (1:Int) > 0 by decide,if_true]
   by_cases h:i<0
   ·simp only [h,if_true] <;> (first|lia|omega)
   ·simp only [h,if_false] <;> (first|lia|omega)
theorem zjR (its:List Value) (lo hi:Option Int):slicePick its.toArray lo hi none=((its.drop (HT.sIx its.length 0 lo)).take (HT.sIx its.length its.length hi - HT.sIx its.length 0 lo)).toArray:=by
 obtain ⟨h1,h2,h3⟩:=zkM lo hi its.toArray.size
 unfold slicePick
 rw [h1,h2,h3]
 simp only [sliceRange_one,pick_run,List.size_toArray] <;> rfl
def zgW (K:PySem.W.Frag):V→Option Int→Option Int→Hp→VK→Prop:=fun x lo hi H Q=>∃ a xs,x=.ref a∧SqL K H a xs∧∀ p,H p=none→Q (.ref p) (upd H p (.lst (zch xs lo hi)))
theorem zc9:SlR X (zgW X.K):=by
 intro pins s σ H x v vl vu lo hi sl Q I rx hs pl pu h
 obtain ⟨a,xs,rfl,hx,q⟩:=h
 cases rx
 obtain ⟨its,r,ht,hz⟩:=I.list hx
 have hlen:=r.length
 refine ⟨"list",_,slot_list_getitem.lookup,ht.isList.typeIs,?_⟩
 refine wpAny_getItem_list_slice ht.isList hs pl pu .none (by simp) ?_ (by rw [List.size_toArray] <;> (first|lia|omega))
 rw [zjR,← hlen]
 refine ⟨.ref s.heap.objs.size,_,I.laid (t':=s.toks) (o:=.lst (zch xs lo hi)) (fun b ob q=>Heap.get?_push_of_some _ q) (Nat.le_refl _) ?_,rfl,q _ (I.hok.fresh (Nat.le_refl _))⟩
 exact ⟨Nat.le_trans (zhX xs lo hi) hz,_,0,(r.drop (HT.sIx xs.length 0 lo)).take (HT.sIx xs.length xs.length hi - HT.sIx xs.length 0 lo),Heap.get?_push_size _ rfl⟩
def zgl:V→Bool
 | .non=>true
 | .bl _=>true
 | .int _=>true
 | .str _=>true
 | _=>false
def eqV:V→V→Bool
 | .non,.non=>true
 | .bl a,.bl b=>a == b
 | .bl a,.int b=>(if a then 1 else 0) == b
 | .int a,.bl b=>a == (if b then 1 else 0)
 | .int a,.int b=>a == b
 | .str a,.str b=>a == b
 | _,_=>false
theorem ztO {A:Around} {s:Shared} {y x:V} {u v:Value} (ry:zcC y u) (rx:zcC x v) (fy:zgl y=true) (fx:zgl x=true):SeqAt.EqAt A s u v (eqV y x):=by
 cases y with
 | non =>
  cases ry
  cases x with
  | non=>cases rx;exact SeqAt.EqAt.same _
  | bl b=>cases rx;exact SeqAt.EqAt.none_bool b
  | int b=>obtain ⟨t,rfl⟩:=rx;exact SeqAt.EqAt.none_int b t
  | str b=>obtain ⟨t,rfl⟩:=rx;exact SeqAt.EqAt.none_str b t
  | _=>exact absurd (show false=true from fx) Bool.false_ne_true
 | bl a =>
  cases ry
  cases x with
  | non=>cases rx;exact SeqAt.EqAt.bool_none a
  | bl b=>cases rx;exact SeqAt.EqAt.bool_bool a b
  | int b=>obtain ⟨t,rfl⟩:=rx;exact SeqAt.EqAt.bool_int a b t
  | str b=>obtain ⟨t,rfl⟩:=rx;exact SeqAt.EqAt.bool_str a b t
  | _=>exact absurd (show false=true from fx) Bool.false_ne_true
 | int a =>
  obtain ⟨t',rfl⟩:=ry
  cases x with
  | non=>cases rx;exact SeqAt.EqAt.int_none a t'
  | bl b=>cases rx;exact SeqAt.EqAt.int_bool a t' b
  | int b=>obtain ⟨t,rfl⟩:=rx;exact SeqAt.EqAt.int_int a t' b t
  | str b=>obtain ⟨t,rfl⟩:=rx;exact SeqAt.EqAt.int_str a t' b t
  | _=>exact absurd (show false=true from fx) Bool.false_ne_true
 | str a =>
  obtain ⟨t',rfl⟩:=ry
  cases x with
  | non=>cases rx;exact SeqAt.EqAt.str_none a t'
  | bl b=>cases rx;exact SeqAt.EqAt.str_bool a t' b
  | int b=>obtain ⟨t,rfl⟩:=rx;exact SeqAt.EqAt.str_int a t' b t
  | str b=>obtain ⟨t,rfl⟩:=rx;exact SeqAt.EqAt.str_str a t' b t
  | _=>exact absurd (show false=true from fx) Bool.false_ne_true
 | _=>exact absurd (show false=true from fy) Bool.false_ne_true
def eqU (x:V) (u:Value):Bool:=match u with
 | .none=>eqV .non x
 | .bool b=>eqV (.bl b) x
 | .int i _=>eqV (.int i) x
 | .str z _=>eqV (.str z) x
 | _=>false
theorem znf {x y:V} {u:Value} (r:zcC y u) (f:zgl y=true):eqU x u=eqV y x:=by
 cases y with
 | non=>cases r;rfl
 | bl b=>cases r;rfl
 | int i=>obtain ⟨t,rfl⟩:=r;rfl
 | str z=>obtain ⟨t,rfl⟩:=r;rfl
 | _=>exact absurd (show false=true from f) Bool.false_ne_true
theorem zhR {x:V}:∀ {xs:List V} {us:List Value},zck xs us→xs.all zgl=true→us.any (eqU x)=xs.any fun y=>eqV y x
 | _,_,.nil,_=>rfl
 | y::xs,u::us,.cons r t,f=>by
  rw [List.all_cons,Bool.and_eq_true] at f
  rw [List.any_cons,List.any_cons,znf r f.1,zhR t f.2]
theorem zeN {A:Around} {s:Shared} {x:V} {v:Value} (rx:zcC x v) (fx:zgl x=true):∀ {xs:List V} {us:List Value},zck xs us→xs.all zgl=true→∀ u∈us,SeqAt.EqAt A s u v (eqU x u)
 | _,_,.nil,_=>fun u hu=>by cases hu
 | y::xs,u::us,.cons r t,f=>fun u' hu=>by
  rw [List.all_cons,Bool.and_eq_true] at f
  rcases List.mem_cons.mp hu with rfl | hu
  ·rw [znf r f.1];exact ztO r rx f.1 fx
  ·exact zeN rx fx t f.2 u' hu
def inV (x:V) (xs:List V):Bool:=xs.any fun y=>eqV y x
def rIn (K:PySem.W.Frag) (neg:Bool):R2:=fun x y H Q=>∃ p xs,y=.ref p∧(SqL K H p xs∨SqT K H p xs)∧zgl x=true∧xs.all zgl=true∧Q (.bl (if neg then !inV x xs else inV x xs)) H
theorem zhL:OpR X (compareOp .In) (rIn X.K false):=by
 intro pins s σ H x y v u Q I rx ry h
 obtain ⟨p,xs,rfl,hq,fx,fs,q⟩:=h
 cases ry
 rcases hq with hq | hq
 ·obtain ⟨its,r,pl,hz⟩:=I.list hq
  refine SeqAt.in_listAt (eqU x) pl.isList (fun w hw=>zeN rx fx r fs w (by simpa using hw)) ⟨.bl _,H,I,rfl,?_⟩
  rw [show its.toArray.any (eqU x)=its.any (eqU x) by simp,zhR r fs]
  exact q
 ·obtain ⟨its,r,pl,hz⟩:=I.tuple hq
  refine SeqAt.in_tupleAt (eqU x) pl (fun w hw=>zeN rx fx r fs w (by simpa using hw)) ⟨.bl _,H,I,rfl,?_⟩
  rw [show its.toArray.any (eqU x)=its.any (eqU x) by simp,zhR r fs]
  exact q
theorem zd1:OpR X (compareOp .NotIn) (rIn X.K true):=by
 intro pins s σ H x y v u Q I rx ry h
 obtain ⟨p,xs,rfl,hq,fx,fs,q⟩:=h
 cases ry
 rcases hq with hq | hq
 ·obtain ⟨its,r,pl,hz⟩:=I.list hq
  refine SeqAt.notIn_listAt (eqU x) pl.isList (fun w hw=>zeN rx fx r fs w (by simpa using hw)) ⟨.bl _,H,I,rfl,?_⟩
  rw [show its.toArray.any (eqU x)=its.any (eqU x) by simp,zhR r fs]
  exact q
 ·obtain ⟨its,r,pl,hz⟩:=I.tuple hq
  refine SeqAt.notIn_tupleAt (eqU x) pl (fun w hw=>zeN rx fx r fs w (by simpa using hw)) ⟨.bl _,H,I,rfl,?_⟩
  rw [show its.toArray.any (eqU x)=its.any (eqU x) by simp,zhR r fs]
  exact q
theorem zax:zgU X (.builtin "len") (fun xs H Q=>∃ p ys,xs=[.ref p]∧(SqL X.K H p ys∨SqT X.K H p ys)∧Q (.int ys.length) H):=by
 intro pins s σ H xs us Q I r h
 obtain ⟨p,ys,rfl,hq,q⟩:=h
 obtain ⟨u,rfl,rx⟩:=zi3 r
 cases rx
 have hn:=zpr
 rcases hq with hq | hq
 ·obtain ⟨its,r',pl,hz⟩:=I.list hq
  have hlen:=r'.length
  exact Calls.call_len_list pl.isList (by simp only [List.size_toArray] <;> (first|lia|omega)) ⟨.int ys.length,H,I.tok _,⟨s.toks+1,by rw [List.size_toArray,hlen]⟩,q⟩
 ·obtain ⟨its,r',pl,hz⟩:=I.tuple hq
  have hlen:=r'.length
  exact len_tuple pl (by simp only [List.size_toArray] <;> (first|lia|omega)) ⟨.int ys.length,H,I.tok _,⟨s.toks+1,by rw [List.size_toArray,hlen]⟩,q⟩
theorem zkG:zgU X (.type "list") (fun xs H Q=>∃ p ys,xs=[.ref p]∧(SqL X.K H p ys∨SqT X.K H p ys)∧∀ l,H l=none→Q (.ref l) (upd H l (.lst ys))):=by
 intro pins s σ H xs us Q I r h
 obtain ⟨p,ys,rfl,hq,q⟩:=h
 obtain ⟨u,rfl,rx⟩:=zi3 r
 cases rx
 have fin:∀ (its:List Value),zck ys its→ys.length≤sizeLine→∀ (h':Heap) (c':Nat),(∀ b o',s.heap.get? b=some o'→h'.get? b=some o') →
   h'.get? s.heap.objs.size=some { cls:=.type "list",dict:=none,data:=.seq its.toArray c',slots:=#[] }→EP X pins σ Q (.ref s.heap.objs.size) { s with heap:=h' }:=fun its r' hz h' c' kp e =>
  ⟨.ref s.heap.objs.size,_,I.laid (t':=s.toks) kp (Nat.le_refl _) (show zcd X.prog X.w _ h' _ (.lst ys) from ⟨hz,its,c',r',e⟩),rfl,q _ (I.hok.fresh (Nat.le_refl _))⟩
 rcases hq with hq | hq
 ·obtain ⟨its,r',pl,hz⟩:=I.list hq
  have hlen:=r'.length
  obtain ⟨o,ho,hc,n,hd⟩:=pl.isList
  exact call_list_seq p (.inl rfl) ho hc hd (fun h' c' kp e=>fin its r' hz h' c' kp e) (by simp only [List.size_toArray] <;> (first|lia|omega))
 ·obtain ⟨its,r',pl,hz⟩:=I.tuple hq
  have hlen:=r'.length
  obtain ⟨o,ho,hc,n,hd⟩:=pl
  exact call_list_seq p (.inr rfl) ho hc hd (fun h' c' kp e=>fin its r' hz h' c' kp e) (by simp only [List.size_toArray] <;> (first|lia|omega))
def tyV (K:PySem.W.Frag) (T:String) (x:V) (H:Hp):Prop:=match x with
 | .str _=>T="str"
 | .int _=>T="int"
 | .ref p=>(T="list"∧∃ xs,SqL K H p xs)∨(T="tuple"∧∃ o,K.lookup p=some o∧o.cls=.type "tuple"∧o.dict=none) ∨
   (T="dict"∧((∃ kvs,H p=some (.dK kvs))∨∃ kvs,H p=some (.dT kvs)))∨(T="set"∧∃ S n,H p=some (.set S n))
 | _=>False
theorem ztP {pins:List (Addr×Obj)} {σ:St} {H:Hp} {s:Shared} {T:String} {x:V} {v:Value} (I:Inv X pins σ H s) (r:zcC x v) (ty:tyV X.K T x H) :
  s.TypeIs v T∧∀ a,v=.ref a→∃ ob,s.heap.get? a=some ob∧ob.dict=none:=by
 cases x with
 | str z =>
  obtain ⟨t,rfl⟩:=r
  cases (show T="str" from ty)
  exact ⟨typeIs_str s z t,fun _ e=>nomatch e⟩
 | int i =>
  obtain ⟨t,rfl⟩:=r
  cases (show T="int" from ty)
  exact ⟨typeIs_int s i t,fun _ e=>nomatch e⟩
 | ref p =>
  cases r
  rcases ty with ⟨rfl,xs,hq⟩ | ⟨rfl,o,hk,hc,hd⟩ | ⟨rfl,hk⟩ | ⟨rfl,S,n,hk⟩
  ·obtain ⟨its,_,pl,_⟩:=I.list hq
   refine ⟨pl.isList.typeIs,fun a e=>?_⟩
   cases e
   obtain ⟨o,n,e,c,hd,_⟩:=pl
   exact ⟨o,e,hd⟩
  ·refine ⟨⟨o,I.kIn p o hk,hc⟩,fun a e=>?_⟩
   cases e
   exact ⟨o,I.kIn _ o hk,hd⟩
  ·have z:∃ o,s.heap.get? p=some o∧o.ExactDict:=by
    rcases hk with ⟨kvs,hk⟩ | ⟨kvs,hk⟩
    ·obtain ⟨_,_,_,_,o,_,_,e,ex,_⟩:=I.hok p _ hk
     exact ⟨o,e,ex⟩
    ·obtain ⟨_,_,_,_,o,_,_,e,ex,_⟩:=I.hok p _ hk
     exact ⟨o,e,ex⟩
   obtain ⟨o,e,ex⟩:=z
   refine ⟨⟨o,e,ex.1⟩,fun a e2=>?_⟩
   cases e2
   exact ⟨o,e,ex.2.1⟩
  ·obtain ⟨o,_,_,_,e,ex,_⟩:=I.hok p _ hk
   refine ⟨⟨o,e,ex.1⟩,fun a e2=>?_⟩
   cases e2
   exact ⟨o,e,ex.2.1⟩
 | _=>exact False.elim ty
def tBM (K:PySem.W.Frag) (T:String) (r:V→List V→Hp→VK→Prop) (to:TE) (t:TA):TE:=fun σ H Q=>to σ H fun x H1=>tyV K T x H1∧t σ H1 fun xs H2=>r x xs H2 Q
variable {o e:Expr} {es:List Expr} {to:TE} {t:TA} {name:Str} {apos cpos:Pos} {T id:String} {r:V→List V→Hp→VK→Prop}
theorem zh7 (pa:PlainAttrs T) (slot:Slot T name id) (hty:typeOf (.builtin id)=pure (.type "method_descriptor")) (hm:MtR X id r) (ho:PE X o to) (ha:PA X (e::es) t)
  (hbase:attributeBase o name X.env (eval o X.env)=eval o X.env:=by rfl)
  (hfew:((backTo cpos (starEach (e::es) X.env)).all (fun x=>!x.1)&&(backToKw cpos (keywordEach [] X.env)).all (fun x=>x.1.isSome)
   && decide ((e::es).length+([]:List Keyword).length+(if ([]:List Keyword).isEmpty then 0 else 1)<30))=true:=by rfl)
  (hline:(apos.endLine == cpos.line)=true:=by rfl) (hs:starEach (e::es) X.env=(false,eval e X.env)::starEach es X.env:=by rfl) (hplain:(backTo cpos (starEach es X.env)).any (·.1)=false:=by rfl) :
  PE X (.Call (.Attribute o name apos) (e::es) [] cpos) (tBM X.K T r to t):=by
 intro pins s σ H Q I h
 refine wpAny_Call_method_late hbase hfew hline rfl (thn (ho pins s σ H _ I h) fun v s1 hQ'=>?_)
 obtain ⟨x,H1,I1,r1,ty,q1⟩:=hQ'
 obtain ⟨h1,h2⟩:=ztP I1 r1 ty
 refine ⟨T,id,pa,slot,hty,h1,h2,?_⟩
 have hA:=ha cpos pins s1 σ H1 _ I1 q1
 rw [hs] at hA ⊢
 refine Calls.callWith_builtin (by show (false || (backTo cpos (starEach es X.env)).any (·.1))=false;rw [hplain] <;> rfl) (Calls.evalArgs_plain ?_)
 exact thn hA fun us s2 ⟨vs,H2,I2,r2,q2⟩=>hm pins s2 σ H2 x vs v us Q I2 r1 r2 q2
end
end L2
namespace L2
open PySem PySem.Spec PyProof.Rows
def MtM (X:Cx) (id:String) (r:V→List V→Hp→VK→Prop):Prop :=
 ∀ (pins:List (Addr×Obj)) (s:Shared) (σ:St) (H:Hp) (x:V) (xs:List V) (v:Value) (us:List Value) (Q:VK),Inv X pins σ H s→zcC x v→zck xs us→r x xs H Q →
  wpAny (model X.prog X.w) X.A (call (.builtin id) (v::us)) (EP X pins σ Q) X.xe s
theorem zck.one:∀ {x:V} {us:List Value},zck [x] us→∃ u,us=[u]∧zcC x u
 | _,_,.cons r .nil=>⟨_,rfl,r⟩
theorem zck.two:∀ {x y:V} {us:List Value},zck [x,y] us→∃ u v,us=[u,v]∧zcC x u∧zcC y v
 | _,_,_,.cons r (.cons q .nil)=>⟨_,_,rfl,r,q⟩
theorem zck.eraseIdx:∀ {xs:List V} {us:List Value} (i:Nat),zck xs us→zck (xs.eraseIdx i) (us.eraseIdx i)
 | _,_,_,.nil=>.nil
 | _,_,0,.cons _ t=>t
 | _,_,i+1,.cons r t=>.cons r (zck.eraseIdx i t)
theorem zck.reverse {xs:List V} {us:List Value} (h:zck xs us):zck xs.reverse us.reverse:=by
 induction h with
 | nil=>exact .nil
 | cons r t ih=>rw [List.reverse_cons,List.reverse_cons];exact zck.append ih (.cons r .nil)
theorem zkY {α:Type}:∀ (l:List α) (i:Nat),(l.eraseIdx i).length≤l.length
 | [],_=>Nat.le_refl _
 | _::_,0=>Nat.le_succ _
 | _::r,i+1=>Nat.succ_le_succ (zkY r i)
section
variable {X:Cx} {pins:List (Addr×Obj)} {σ:St} {H:Hp} {s:Shared} {l b:Addr} {xs ys zs:List V}
theorem Inv.lset {its its':List Value} {n:Nat} {f:Array Value→Array Value} {t':Nat} (I:Inv X pins σ H s) (hH:H l=some (.lst xs))
  (e:s.heap.get? l=some { cls:=.type "list",data:=.seq its.toArray n }) (hf:f its.toArray=its'.toArray) (hv:zck ys its') (hz:ys.length≤sizeLine) :
  Inv X pins σ (upd H l (.lst ys)) { s with heap:=s.heap.update l (Obj.mapSeq f),toks:=t' }:=by
 have q:=PySem.IsL.update e f
 rw [hf] at q
 refine I.write (x:=l) (e:=l) (by rw [hH];exact trivial) (.inl rfl) (fun b' u hb hu=>(Heap.get?_update_other s.heap (Obj.mapSeq f) (Ne.symm hb)).trans hu) ⟨_,q⟩ ?_
 exact ⟨hz,its',_,hv,q⟩
theorem Inv.lnew {its:List Value} {t':Nat} (I:Inv X pins σ H s) (hv:zck ys its) (hz:ys.length≤sizeLine) :
  Inv X pins σ (upd H s.heap.objs.size (.lst ys)) { s with heap:=s.heap.push { cls:=.type "list",data:=.seq its.toArray },toks:=t' } :=
 I.laid (fun _ _ q=>Heap.get?_push_of_some _ q) (Nat.le_refl _) ⟨hz,its,0,hv,Heap.get?_push_size _ rfl⟩
theorem Inv.fresh (I:Inv X pins σ H s):H s.heap.objs.size=none:=I.hok.fresh (Nat.le_refl _)
theorem Inv.lstM (I:Inv X pins σ H s) (hH:H l=some (.lst xs)):xs.length≤sizeLine∧∃ (its:List Value) (n:Nat),zck xs its∧xs.length=its.length∧s.heap.get? l=some { cls:=.type "list",data:=.seq its.toArray n }:=by
 obtain ⟨z,its,n,r,e⟩:=I.hok l _ hH
 exact ⟨z,its,n,r,r.length,e⟩
end
section
variable {X:Cx}
def zb3:V→List V→Hp→VK→Prop:=fun x vs H Q=>∃ l xs y,x=.ref l∧vs=[y]∧H l=some (.lst xs)∧xs.length<sizeLine∧Q .non (upd H l (.lst (xs++[y])))
theorem zdU:MtM X "list.append" zb3:=by
 intro pins s σ H x vs v us Q I rx rv h
 obtain ⟨l,xs,y,rfl,rfl,hH,hz,q⟩:=h
 cases rx
 obtain ⟨u,rfl,ru⟩:=rv.one
 obtain ⟨z,its,n,r,hl,e⟩:=I.lstM hH
 refine call_meets F.slot_list_append ⟨_,e,rfl⟩ F.entry_list_append (F.args_list_append_2 _ _) (PySem.list_append l its.toArray n u (by rw [List.size_toArray];(first|lia|omega))) ⟨e,?_⟩
 refine ⟨.non,_,I.lset (its':=its++[u]) hH e (by simp) (r.append (.cons ru .nil)) ?_,rfl,q⟩
 rw [List.length_append,List.length_singleton]
 (first|lia|omega)
def zm2:V→List V→Hp→VK→Prop:=fun x vs H Q=>∃ l xs i k y,x=.ref l∧vs=[.int i]∧H l=some (.lst xs)∧-(2 ^ 63)≤i∧i<2 ^ 63∧seqIndex? i xs.length=some k∧xs[k]?=some y∧Q y (upd H l (.lst (xs.eraseIdx k)))
theorem zp8:MtM X "list.pop" zm2:=by
 intro pins s σ H x vs v us Q I rx rv h
 obtain ⟨l,xs,i,k,y,rfl,rfl,hH,h1,h2,hk,hy,q⟩:=h
 cases rx
 obtain ⟨u,rfl,ru⟩:=rv.one
 obtain ⟨t,rfl⟩:=ru
 obtain ⟨z,its,n,r,hl,e⟩:=I.lstM hH
 obtain ⟨w,hw,rw'⟩:=r.get hy
 refine call_meets F.slot_list_pop ⟨_,e,rfl⟩ F.entry_list_pop (F.args_list_pop_2 _ _)
  (MeetsSeq.list_pop_at l its.toArray n i t k w (fitsIndex_both h1 h2) (by rw [List.size_toArray,← hl];exact hk) (by rw [← Array.getElem?_toList];exact hw) (by rw [List.size_toArray];(first|lia|omega))) ⟨e,?_⟩
 refine ⟨y,_,I.lset (its':=its.eraseIdx k) hH e ?_ (r.eraseIdx k) ?_,rw',q⟩
 ·show its.toArray.eraseIdxIfInBounds k=(its.eraseIdx k).toArray
  rw [List.eraseIdxIfInBounds_toArray]
 ·have:=zkY xs k
  (first|lia|omega)
def zfn:R2:=fun x y H Q=>∃ l b xs zs,x=.ref l∧y=.ref b∧H l=some (.lst xs)∧H b=some (.lst zs)∧xs.length+zs.length≤sizeLine∧∀ p,H p=none→Q (.ref p) (upd H p (.lst (xs++zs)))
theorem zdA:OpR X (binaryOp .Add) zfn:=by
 intro pins s σ H x y v u Q I rx ry h
 obtain ⟨l,b,xs,zs,rfl,rfl,hH,hB,hz,q⟩:=h
 cases rx
 cases ry
 obtain ⟨z,its,n,r,hl,e⟩:=I.lstM hH
 obtain ⟨z2,its2,n2,r2,hl2,e2⟩:=I.lstM hB
 refine PySem.P.add_list e e2 ?_ (by rw [List.size_toArray,List.size_toArray];(first|lia|omega))
 have ea:its.toArray++its2.toArray=(its++its2).toArray:=by simp
 rw [ea]
 exact ⟨.ref _,_,I.lnew (t':=s.toks) (r.append r2) (by rw [List.length_append];(first|lia|omega)),rfl,q _ I.fresh⟩
end
section
variable {prog:Program} {w:World} {A:Around} {E:Value→Shared→Prop} {s:Shared}
end
section
variable {X:Cx}
end
end L2
namespace Att
open PySem PySem.W PySem.Calls PyProof.Rows
theorem zib {P:Params} {h:Heap}:∀ (ns:List Int) (vs:List Value),WellAll P h vs (ns.map WData.int)→IntsAre vs ns:=by
 intro ns
 induction ns with
 | nil =>
  intro vs w
  rw [List.map_nil] at w
  cases w
  exact .nil
 | cons n ns ih =>
  intro vs w
  rw [List.map_cons] at w
  cases w with
  | cons a b =>
   cases a
   exact .cons _ _ (ih _ b)
theorem zot {l:OpenLaw} {n:Nat} (hn:l.most=some n) {P:Params} {h:Heap} {args:List WData} {vals:List Value}
  (hpre:l.row.toRowW.claim.pre args=true) (hwl:WellAll P h vals args) :
  ∃ a vs ns,vals=[Value.ref a]∧args=[WData.list (ns.map WData.int)]∧h.get? a=some { cls:=.type "list",data:=.seq vs.toArray }∧IntsAre vs ns∧ns.length≤n:=by
 have hsh:WShape.hasAll [] args [.list .int]=true:=(pre_splitW hpre).1
 have hc:l.pre.holds [] { args:=args }=true:=(pre_splitW hpre).2
 obtain ⟨d,r,rfl,h1,h2⟩:=hasAllW_cons hsh
 obtain rfl:=hasAllW_nil h2
 obtain ⟨xs,rfl,h3⟩:=hasW_list h1
 obtain ⟨ns,rfl⟩:=items_int h3
 have hlen:ns.length≤n:=by
  unfold OpenLaw.pre at hc
  have h4:(WTm.not (.lt (.lit (.int (n:Int))) (.len (.arg 0)))).holds [] { args:=[.list (ns.map .int)] }=true:=by
   have h4:=(holds_andW hc).1
   rw [hn] at h4
   exact h4
  have h5:=condW_of h4 (w_not (w_lt w_lit (w_len_list (w_arg rfl))))
  rw [List.length_map] at h5
  refine Nat.le_of_not_lt fun q=>?_
  have q':(n:Int)<((ns.length:Nat):Int):=by (first|lia|omega)
  first
   | (rw [decide_eq_true q'] at h5;exact absurd h5 (by decide))
   | (simp at h5;(first|lia|omega))
 cases hwl with
 | cons w1 w2 =>
  cases w2
  cases w1 with
  | list ho hall=>exact ⟨_,_,ns,rfl,rfl,ho,zib ns _ hall,hlen⟩
theorem zpW (l:OpenLaw) (args:List WData):l.row.toRowW.claim.post args (.bool true) args=true :=
 postW_of (r:=l.row.toRowW) (X:=(true == true))
  (show WShape.has [] (.bool true) .bool=true by first | rfl | decide | simp [WShape.has,WShape.arms,WShape.armsAll])
  (show (WTm.eq .res (.lit (.bool true))).value [] { args:=args,res:=some (.bool true),after:=args }=some (.bool (true == true)) from w_eq_bool (w_res rfl) w_lit) rfl
theorem attach_call {l:OpenLaw} {n:Nat} {q:Program} {loose:List Str} {XP:(Str→Option Value)→Heap→Prop} {YP:World→Heap→Prop} {d:DefRec}
  (hn:l.most=some n) (hdf:d.params.defaults=[])
  (call:∀ (w:World) (s₀ s₁:Shared) (mg mb:Str→Option Value) (fa:Addr) (o:Obj) (pm cd doc:Value) (a:Addr) (vs:List Value) (ns:List Int),
   Ground q loose [] XP w s₀ mg mb s₁.heap→YP w s₁.heap →
   s₁.heap.get? fa=some o→o.data=.func (docDef d.name d.params d.body d.scope pm cd doc)→s₁.heap.CodeRec cd d.name→mg d.name=some (.ref fa) →
   s₁.heap.get? a=some { cls:=.type "list",data:=.seq vs.toArray }→IntsAre vs ns→ns.length≤n→s₁.gens=#[] →
   codeAny (model l.prog w) callerA (.call (.ref fa) ⟨[.ref a],[]⟩) (fun r s'=>r=.ok (.ret (.bool true))∧OldK s₁.heap s'.heap∧s'.os=s₁.os∧AllBare s'.gens) s₁) :
  WalkO q loose XP YP l.row.toRowW d [] (fun f vs=>PySem.call f vs):=by
 intro w s₀ s₁ mg mb G Y fa o pm cd doc dV kV ho hd hcd hD hmg hg args vals as hpre hlay hrd hwl hlo
 obtain rfl:dV=.none:=Dflts.none hD hdf
 obtain rfl:kV=.none:=Dflts.noKw hD
 obtain ⟨a,vs,ns,rfl,rfl,hobj,hints,hlen⟩:=zot hn hpre hwl
 refine enter_call (codeAny_mono (call w s₀ s₁ mg mb fa o pm cd doc a vs ns G Y ho (fd_plain hd) hcd hmg hobj hints hlen hg) fun r s' hq=>?_)
 obtain ⟨rfl,h2,h3,h4⟩:=hq
 exact ⟨.inl ⟨.bool true,.bool true,[],rfl,fun _=>rfl,.bool true,zpW l _,fun _=>⟨List.Pairwise.nil,fun _ hm=>(nomatch hm)⟩⟩,h2,h3,h4⟩
section
variable {prog:Program} {w:World} {A:Around} {E:Value→Shared→Prop} {s:Shared} {K:Frag}
end
end Att
namespace L2
open PySem PySem.Spec PyProof.Rows
theorem zkU:∀ {vs:List Value} {ns:List Int},IntsAre vs ns→zck (ns.map V.int) vs
 | _,_,.nil=>.nil
 | _,_,.cons n t h=>.cons ⟨t,rfl⟩ (zkU h)
def Only (H:Hp):Prop:=∀ b,H b=none∨∃ o xs,H b=some (.frz o (.lst xs))
theorem zry {P:Program} {w:World} {K:PySem.W.Frag} {mg mb:Str→Option Value} {CX:CXT} {k:Nat} {fa a:Addr} {fd:FuncData} {x:Str} {sp:Sp} {s₁:Shared} {vs:List Value} {ns:List Int}
  (KX:K.In s₁.heap) (hns:s₁.heap.Ns mainGlobals mg) (hb:s₁.heap.Ns builtinsNs mb) (hbb:∀ x:Str,x≠"__name__"→mb x=bootBuiltins x) (hlim:s₁.heap.NoLimit) (hg:s₁.gens=#[])
  (ha:s₁.heap.get? a=some { cls:=.type "list",data:=.seq vs.toArray }) (hi:IntsAre vs ns) (hl:ns.length≤sizeLine) (hr:zhC k callerA)
  (F:∀ base:Heap,K.In base→base.Ns mainGlobals mg→zdV P w K mg base CX k fa fd [x] sp) (hbind:∀ (s:Shared) (u:Value),BindsTo s fd ⟨[u],[]⟩ [(x,u)])
  (hsp:∀ H:Hp,Only H→SqL K H a (ns.map V.int)→sp [.ref a] H (fun v _=>v=.bl true) fun _ _ _=>False)
  (hCX:∀ H e s',CX [] H s₁ (fun _ _ _=>False) e s'→False) :
  codeAny (model P w) callerA (.call (.ref fa) ⟨[.ref a],[]⟩) (fun r s'=>r=.ok (.ret (.bool true))∧OldK s₁.heap s'.heap∧s'.os=s₁.os∧AllBare s'.gens) s₁:=by
 have rv:=zkU hi
 have lenV:=hi.length
 have core:∀ H:Hp,Only H→SqL K H a (ns.map V.int)→HOk P w H s₁.heap→(∀ b,H b≠none→b=a)→(H a≠none→K.lookup a=none) →
   codeAny (model P w) callerA (.call (.ref fa) ⟨[.ref a],[]⟩) (fun r s'=>r=.ok (.ret (.bool true))∧OldK s₁.heap s'.heap∧s'.os=s₁.os∧AllBare s'.gens) s₁:=by
  intro H hO hS hok hA hK
  have base_of:∀ {b:Addr} {o:Obj},s₁.heap.get? b=some o→H b=none→(zrh s₁.heap H).get? b=some o:=fun e n=>zrG e n
  have noA:∀ {b:Addr} {o:Obj} {es:Array DictEntry} {ep:Nat},s₁.heap.get? b=some o→o.data=.dict es ep→H b=none:=fun {b o es ep} e d=>by
   cases q:H b with
   | none=>rfl
   | some u =>
    have e':b=a:=hA b (by rw [q];simp)
    subst e'
    rw [ha] at e;cases e
    have d':Data.seq vs.toArray _=Data.dict es ep:=d
    cases d'
  have nsK:∀ {b:Addr} {m:Str→Option Value},s₁.heap.Ns b m→(zrh s₁.heap H).Ns b m:=fun {b m} ⟨o,es,ep,e,d,r⟩=>⟨o,es,ep,base_of e (noA e d),d,r⟩
  have hKb:K.In (zrh s₁.heap H):=fun b o e=>base_of (KX b o e) (by
   cases q:H b with
   | none=>rfl
   | some u =>
    have e':b=a:=hA b (by rw [q];simp)
    subst e'
    rw [hK (by rw [q];simp)] at e;cases e)
  have hM:Mod K mg (zrh s₁.heap H):=⟨hKb,nsK hns,⟨mb,nsK hb,hbb⟩,let ⟨mc,h1,h2⟩:=hlim;⟨mc,nsK h1,h2⟩⟩
  have e0:zsE P w K mg (zrh s₁.heap H) callerA [] s₁ H:=⟨rfl,hM,fun b o e=>zsM e,Nat.le_of_eq (zpK _ _),trivial,fun b hb=>absurd (show b∈([]:List Addr) from hb) (by simp),hok,.of_eq hg⟩
  refine codeAny_mono ((F _ hKb (nsK hns)).run callerA [] s₁ H ⟨[.ref a],[]⟩ [.ref a] [.ref a] _ _ hr e0 (hbind s₁ (.ref a)) (.cons rfl .nil) (hsp H hO hS)) fun r s' h=>?_
  cases r with
  | error e=>exact (hCX H e s' h).elim
  | ok fl =>
   cases fl with
   | next=>exact False.elim h
   | brk=>exact False.elim h
   | cont=>exact False.elim h
   | ret u =>
    obtain ⟨v,H',os,bare,un,hok',r',q⟩:=h
    have q':v=.bl true:=q
    subst q'
    obtain rfl:u=Value.bool true:=r'
    refine ⟨rfl,OldK.of_keep fun b o e=>?_,os,bare⟩
    cases q:H b with
    | none=>exact un.keep b o e q (by intro z;exact absurd (show b∈([]:List Addr) from z) (by simp)) (by simp)
    | some u =>
     rcases hO b with z | ⟨ob,xs,z⟩
     ·rw [q] at z;cases z
     ·have z2:=un.frzs b ob _ z
      obtain ⟨e1,_⟩:=hok b _ z
      obtain ⟨e2,_⟩:=hok' b _ z2
      rw [e] at e1;cases e1
      exact e2
 cases hk:K.lookup a with
 | some o =>
  have e:=KX a o hk
  rw [ha] at e
  cases e
  refine core (fun _=>none) (fun _=>.inl rfl) (.inr ⟨_,vs.toArray,_,hk,rfl,rfl,rfl,by rw [List.size_toArray,lenV];exact hl,by simpa using rv⟩) (fun b u z=>by have z':(none:Option HO)=some u:=z;cases z') (fun b z=>absurd rfl z) fun z=>absurd rfl z
 | none =>
  refine core (fun b=>if b=a then some (.frz { cls:=.type "list",data:=.seq vs.toArray } (.lst (ns.map V.int))) else none) (fun b=>?_) (.inl (.inr ⟨{ cls:=.type "list",data:=.seq vs.toArray },if_pos rfl⟩)) (fun b u z=>?_) (fun b z=>?_) fun _=>hk
  ·by_cases hb:b=a
   ·exact .inr ⟨_,_,if_pos hb⟩
   ·exact .inl (if_neg hb)
  ·by_cases hb:b=a
   ·have z':=(if_pos hb).symm.trans z
    cases z'
    subst hb
    exact ⟨ha,by rw [List.length_map];exact hl,vs,_,rv,ha⟩
   ·have z':=(if_neg hb).symm.trans z
    cases z'
  ·by_cases hb:b=a
   ·exact hb
   ·exact absurd (if_neg hb) z
end L2
namespace L2
open PySem PySem.Spec PyProof.Rows
theorem zs7 {l:PySem.W.OpenLaw} {n k:Nat} {q:Program} {loose:List Str} {XP:(Str→Option Value)→Heap→Prop} {YP:World→Heap→Prop} {d:DefRec} {K:Params→PySem.W.Frag} {CX:World→CXT} {sp:World→Sp} {x:Str}
  (hn:l.most=some n) (hn2:n≤sizeLine) (hdf:d.params.defaults=[]) (hr:zhC k callerA)
  (hY:∀ (w:World) (h:Heap),YP w h→(K w.params).In h)
  (F:∀ (w:World) (mg:Str→Option Value) (fa:Addr) (h:Heap),(K w.params).In h→h.Ns mainGlobals mg→mg d.name=some (.ref fa) →
   ∃ fd:FuncData,(∀ (s:Shared) (u:Value),BindsTo s fd ⟨[u],[]⟩ [(x,u)]) ∧
    ∀ base:Heap,(K w.params).In base→base.Ns mainGlobals mg→zdV l.prog w (K w.params) mg base (CX w) k fa fd [x] (sp w))
  (hsp:∀ (w:World) (H:Hp) (a:Addr) (ns:List Int),ns.length≤n→Only H→SqL (K w.params) H a (ns.map V.int)→sp w [.ref a] H (fun v _=>v=.bl true) fun _ _ _=>False)
  (hCX:∀ (w:World) (H:Hp) (s:Shared) (e:Value) (s':Shared),CX w [] H s (fun _ _ _=>False) e s'→False) :
  PySem.W.WalkO q loose XP YP l.row.toRowW d [] (fun f vs=>PySem.call f vs):=by
 refine Att.attach_call hn hdf fun w s₀ s₁ mg mb fa o pm cd doc a vs ns G Y ho hd hcd hmg hobj hints hlen hg=>?_
 have KX:=hY w _ Y
 obtain ⟨fd,hb,hF⟩:=F w mg fa _ KX G.T.g hmg
 exact zry KX G.T.g G.T.b G.T.builtins G.T.nolimit hg hobj hints (Nat.le_trans hlen hn2) hr hF hb (fun H hO hS=>hsp w H a ns hlen hO hS) fun H e s'=>hCX w H s₁ e s'
end L2
namespace L2
open PySem PySem.Spec PyProof.Rows
def zg7 (s:Stmt):Arguments:=match s with
 | .FunctionDef _ a _ _ _ _ _ _ _ _=>a
 | _=>{ posonlyargs:=[],args:=[],vararg:=none,kwonlyargs:=[],kw_defaults:=[],kwarg:=none,defaults:=[] }
def ze7 (s:Stmt):List Stmt:=match s with
 | .FunctionDef _ _ b _ _ _ _ _ _ _=>b
 | _=>[]
def zaC (s:Stmt):Scope:=match s with
 | .FunctionDef _ _ _ _ _ _ sc _ _ _=>sc
 | _=>{ kind:=.function,names:=[],isGenerator:=false,isCoroutine:=false }
abbrev CX0:CXT:=fun _ _ _ _ _ _=>False
abbrev E0:XK:=fun _ _ _=>False
theorem zbJ {X:Cx}:zjj CX0 X E0:=fun _ _ _ _ _ _ _ h=>h.elim
structure Fun (K:PySem.W.Frag) (x qual:Str) (st:Stmt) (f:Addr) (fd:FuncData):Prop where
 ex:∃ (oc:Value) (od:Option Addr) (kV doc pm:Value) (an:Option Addr) (cdv ct:Value) (osl:Array (Option Value)),
  fd=PySem.W.fnOf x qual (zg7 st) (ze7 st) (zaC st) .none kV doc pm an cdv ct∧K.lookup f=some ⟨oc,od,.func fd,osl⟩∧PySem.W.codeIn K cdv qual=true
 kp:PySem.W.keepIn K (.ref f)=true
section
variable {P:Program} {w:World} {K:PySem.W.Frag} {mg:Str→Option Value} {base:Heap}
theorem Fun.ok {x qual:Str} {st:Stmt} {f:Addr} {fd:FuncData} {N ps:List Str} {k:Nat} {sp:Sp} (F:Fun K x qual st f fd) (S:zbk N ps (zaC st)) (len:∀ vs H Q E,sp vs H Q E→vs.length=ps.length)
  (hbody:∀ (cdv:Value) (A:Around) (outer:List Env) (s:Shared) (H:Hp) (vs:List V) (Q:VK) (E:XK),zhC k (A.deeper (envOfC qual (zaC st) s.heap.objs.size f cdv))→sp vs H Q E →
   ∃ t,PSs (zp5 CX0 P w K mg base N qual (zaC st) f cdv A outer s H E).nox (ze7 st) t∧t { nx:=fun _ H'=>Q .non H',rt:=Q } (zce N vs) H):zdV P w K mg base CX0 (k+1) f fd ps sp:=by
 obtain ⟨oc,od,kV,doc,pm,an,cdv,ct,osl,rfl,lk,hcd⟩:=F.ex
 refine zts lk hcd S len fun A outer s H vs Q E hr hsp=>?_
 obtain ⟨t,h,q⟩:=hbody cdv A outer s H vs Q E hr hsp
 exact ⟨t,h.nox,q⟩
theorem Fun.binds {x qual:Str} {st:Stmt} {f:Addr} {fd:FuncData} {ps:List Str} (F:Fun K x qual st f fd)
  (h:∀ (kV doc pm:Value) (an:Option Addr) (cdv ct:Value) (us:List Value),us.length=ps.length→bindArgs (PySem.W.fnOf x qual (zg7 st) (ze7 st) (zaC st) .none kV doc pm an cdv ct) ⟨us,[]⟩=pure (ps.zip us)):zcv K fd ps []:=by
 obtain ⟨oc,od,kV,doc,pm,an,cdv,ct,osl,rfl,lk,hcd⟩:=F.ex
 exact .all (h kV doc pm an cdv ct)
theorem zb9 {x qual:Str} {st:Stmt} {f:Addr} {oc:Value} {od an:Option Addr} {osl:Array (Option Value)} {kV doc pm cdv ct:Value} (l:K.lookup f=some ⟨oc,od,.func (PySem.W.fnOf x qual (zg7 st) (ze7 st) (zaC st) .none kV doc pm an cdv ct),osl⟩)
  (c:PySem.W.codeIn K cdv qual=true) (k:PySem.W.keepIn K (.ref f)=true):Fun K x qual st f (PySem.W.fnOf x qual (zg7 st) (ze7 st) (zaC st) .none kV doc pm an cdv ct):=⟨⟨oc,od,kV,doc,pm,an,cdv,ct,osl,rfl,l,c⟩,k⟩
end
theorem zcX {A:Around} {k:Nat} (hr:zhC k A):A.units+1<cLine:=Nat.lt_of_le_of_lt (Nat.add_le_add_left (by decide:1≤64) _) hr.units
theorem zet {n:Nat} (h:n≤1000):n<sizeLine:=Nat.lt_of_le_of_lt h (by decide)
section
variable {X:Cx}
theorem pv (i:Nat) {x:Str} {pos:Pos} (hN:X.N[i]?=some x:=by rfl) (hv:Vis X.env.scope x:=by first | exact Or.inl rfl | exact Or.inr (Or.inl rfl) | exact Or.inr (Or.inr rfl)) (hd:(x == ("__debug__":Str))=false:=by decide)
  (hcd:(x == ("__classdict__":Str))=false:=by decide):PE X (.Name x pos) (zac i):=ztn hN hv hd hcd
end
theorem zlF {A B:Prop} (h:B):if false=true then A else B:=by
 rw [if_neg Bool.false_ne_true]
 exact h
theorem zn1 {A B:Prop} (h:A):if true=true then A else B:=by
 rw [if_pos rfl]
 exact h
theorem zcc {c A B:Prop} [Decidable c] (h1:c→A) (h2:¬ c→B):if c then A else B:=by
 by_cases h:c
 ·rw [if_pos h]
  exact h1 h
 ·rw [if_neg h]
  exact h2 h
def zbt (H H':Hp):Prop:=∀ b o,H b=some o→H' b=some o
theorem zbt.refl (H:Hp):zbt H H:=fun _ _ h=>h
theorem zbt.trans {H H1 H2:Hp} (a:zbt H H1) (b:zbt H1 H2):zbt H H2:=fun c o h=>b c o (a c o h)
theorem zbt.free {H H':Hp} (e:zbt H H') {l:Addr} (h:H' l=Option.none):H l=Option.none:=by
 cases q:H l with
 | none=>rfl
 | some o =>
  rw [e l o q] at h
  cases h
theorem zbt.seq {K:PySem.W.Frag} {H H':Hp} {a:Addr} {xs:List V} (e:zbt H H') (h:SqL K H a xs):SqL K H' a xs:=by
 rcases h with (h | ⟨o,h⟩) | h
 ·exact .inl (.inl (e _ _ h))
 ·exact .inl (.inr ⟨o,e _ _ h⟩)
 ·exact .inr h
end L2
namespace L2
open PySem PySem.Spec PyProof.Rows
section
variable {X:Cx}
theorem zcA:OpR X (binaryOp .FloorDiv) (rI (fun _ j=>0<j∧j.natAbs.log2<9000) fun i j=>.int (i / j)):=opI fun i j _ _ _ _ _ hc q=>by
 have h1:(0:Int)<j:=hc.1
 exact floordiv_int (by (first|lia|omega)) (by rw [Int.fdiv_eq_ediv_of_nonneg i (by (first|lia|omega))];exact q) (.inl (PyProof.noPylong_of_log2 hc.2))
theorem zh3:OpR X (binaryOp .Mult) (rI IntMulOk fun i j=>.int (i*j)):=opI fun _ _ _ _ _ _ _ hc q=>mul_int q hc
theorem mulR {i j:Int} (h1:-(2 ^ 64)<j) (h2:j<2 ^ 64):IntMulOk i j:=.of_right (intBits_le_64 h1 h2)
theorem mulL {i j:Int} (h1:-(2 ^ 64)<i) (h2:i<2 ^ 64):IntMulOk i j:=.of_left (intBits_le_64 h1 h2)
theorem zmS {j:Int} (m:Nat) (h0:j≠0) (h:j.natAbs<2 ^ m) (hm:m≤9000:=by decide):j.natAbs.log2<9000 :=
 Nat.lt_of_lt_of_le ((Nat.log2_lt (by (first|lia|omega))).mpr h) hm
theorem zdZ:bootBuiltins "int"=some (.type "int"):=by decide +kernel
theorem zdc:bootBuiltins "bool"=some (.type "bool"):=by decide +kernel
theorem zhJ:bootBuiltins "str"=some (.type "str"):=by decide +kernel
theorem zcZ:bootBuiltins "list"=some (.type "list"):=by decide +kernel
theorem zif:bootBuiltins "ValueError"=some (.type "ValueError"):=by decide +kernel
theorem zcx:bootBuiltins "tuple"=some (.type "tuple"):=by decide +kernel
theorem zhw (K:PySem.W.Frag):PySem.W.kitOne K (.type "int") (.type "bool")=some false:=by first | rfl | kernel_rfl
def zs1 (a:Addr) (c:Value) (h:Heap):Prop:=∃ oe vs,h.get? a=some oe∧oe.cls=c∧oe.data=.fields vs
def excO (a:Addr) (c:Value):HO:=.ext (zs1 a c)
structure zhr (K:PySem.W.Frag) (c:Value):Prop where
 kit:∀ a:Addr,PySem.W.KitX K (.ref a) c (zs1 a c)
inductive TyX (K:PySem.W.Frag) (H:Hp):V→Value→Prop where
 | of {x:V} {t:Value} (h:zm4 K H x t):TyX K H x t
 | exc {a:Addr} {c:Value} (h:H a=some (excO a c)) (k:zhr K c):TyX K H (.ref a) c
def clsV:V→Option Value
 | .ty n=>some (.type n)
 | .ref c=>some (.ref c)
 | _=>none
def zdT (K:PySem.W.Frag):List V→Hp→VK→Prop:=fun xs H Q=>∃ x c t cv b,xs=[x,c]∧clsV c=some cv∧TyX K H x t∧PySem.W.kitOne K t cv=some b∧Q (.bl b) H
def zo2 (C:Value) (E:XK):TS:=fun _ _ H=>E C none H
def zow (sp:Sp) (dvs:List V) (E:St→XK) (t:TA):TE:=fun σ H Q=>t σ H fun vs H1=>sp (vs++dvs) H1 Q (E σ)
theorem zdQ {K:PySem.W.Frag} {H:Hp} {Q:VK} {i:Int} (q:Q (.bl true) H):zdT K [.int i,.ty "int"] H Q:=⟨_,_,_,_,true,rfl,rfl,.of (.int i),rfl,q⟩
theorem zd3 {K:PySem.W.Frag} {H:Hp} {Q:VK} {i:Int} (q:Q (.bl false) H):zdT K [.int i,.ty "bool"] H Q:=⟨_,_,_,_,false,rfl,rfl,.of (.int i),zhw K,q⟩
theorem zeO {K:PySem.W.Frag} {H:Hp} {Q:VK} {r:Addr} {xs:List V} (h:H r=some (.tup xs)) (q:Q (.bl true) H):zdT K [.ref r,.ty "tuple"] H Q:=⟨_,_,_,_,true,rfl,rfl,.of (.tup h),rfl,q⟩
theorem zm6 {c:V} {u cv:Value} (r:zcC c u) (h:clsV c=some cv):u=cv:=by
 cases c with
 | ty n=>cases r;exact Option.some.inj h
 | ref a=>cases r;exact Option.some.inj h
 | _=>cases h
theorem zaw:zgU X (.builtin "isinstance") (zdT X.K):=by
 intro pins s σ H xs us Q I r h
 obtain ⟨x,c,t,cv,b,rfl,hc,ty,e,q⟩:=h
 obtain ⟨u,w',rfl,rx,rw'⟩:=zpw r
 obtain rfl:=zm6 rw' hc
 cases ty with
 | of ty=>exact zn9 I rx ty e fun tk=>⟨.bl b,H,I.tok tk,rfl,q⟩
 | @exc a c h k =>
  cases (show u=Value.ref a from rx)
  obtain ⟨p,_,_⟩:=(show zcd X.prog X.w H s.heap a (excO a t) from I.hok a _ h)
  exact PySem.W.kia_one (k.kit a) I.kIn p e (fun z=>nomatch z) fun tk=>⟨.bl b,H,I.tok tk,rfl,q⟩
def zna (K:PySem.W.Frag):V→List V→Hp→VK→Prop:=fun x vs H Q=>∃ l xs y,x=.ref l∧vs=[y]∧SqL K H l xs∧zgl y=true∧xs.all zgl=true∧Q (.int ((xs.countP fun z=>eqV z y:Nat):Int)) H
theorem zjf {x:V}:∀ {xs:List V} {us:List Value},zck xs us→xs.all zgl=true→us.countP (eqU x)=xs.countP fun y=>eqV y x
 | _,_,.nil,_=>rfl
 | y::xs,u::us,.cons r t,f=>by
  rw [List.all_cons,Bool.and_eq_true] at f
  rw [List.countP_cons,List.countP_cons,znf r f.1,zjf t f.2]
theorem zqf:MtR X "list.count" (zna X.K):=by
 intro pins s σ H x vs v us Q I rx rv h
 obtain ⟨l,xs,y,rfl,rfl,hl,fy,fs,q⟩:=h
 cases rx
 obtain ⟨u,rfl,ru⟩:=rv.one
 obtain ⟨its,r,⟨⟨cls,dd,data,sl⟩,n,e,hc,hdn,hd⟩,_⟩:=I.list hl
 simp only at hc hd
 subst hc hd
 refine call_meets F.slot_list_count ⟨_,e,rfl⟩ F.entry_list_count (F.args_list_count_2 _ _) (SeqAt.list_countAt l its.toArray n dd sl u (eqU y)) ⟨e,fun w hw=>zeN ru fy r fs w (by simpa using hw),?_⟩
 refine ⟨.int _,H,I.tok _,⟨_,rfl⟩,?_⟩
 rw [List.toList_toArray,zjf r fs]
 exact q
def zpo (K:PySem.W.Frag):V→List V→Hp→VK→Prop:=fun x vs H Q=>∃ l xs y j,x=.ref l∧vs=[y]∧SqL K H l xs∧zgl y=true∧xs.all zgl=true∧xs.findIdx? (fun z=>eqV z y)=some j∧j<1000000∧Q (.int (j:Nat)) H
theorem zh5 {x:V}:∀ {xs:List V} {us:List Value},zck xs us→xs.all zgl=true→us.findIdx? (eqU x)=xs.findIdx? fun y=>eqV y x
 | _,_,.nil,_=>rfl
 | y::xs,u::us,.cons r t,f=>by
  rw [List.all_cons,Bool.and_eq_true] at f
  rw [List.findIdx?_cons,List.findIdx?_cons,znf r f.1,zh5 t f.2]
theorem zp9:MtR X "list.index" (zpo X.K):=by
 intro pins s σ H x vs v us Q I rx rv h
 obtain ⟨l,xs,y,j,rfl,rfl,hl,fy,fs,hj,hs,q⟩:=h
 cases rx
 obtain ⟨u,rfl,ru⟩:=rv.one
 obtain ⟨its,r,⟨⟨cls,dd,data,sl⟩,n,e,hc,hdn,hd⟩,_⟩:=I.list hl
 simp only at hc hd
 subst hc hd
 rw [← zh5 r fs] at hj
 obtain ⟨hlt,h1,h2⟩:=List.findIdx?_eq_some_iff_getElem.mp hj
 refine call_meets F.slot_list_index ⟨_,e,rfl⟩ F.entry_list_index (F.args_list_index_2 _ _) (SeqAt.list_indexAt l its.toArray n dd sl u (eqU y) j (by simpa using hlt) (by (first|lia|omega)) (by simpa using h1) (fun m hm hmj=>by simpa using h2 m hmj)) ⟨e,fun w hw=>zeN ru fy r fs w (by simpa using hw),?_⟩
 exact ⟨.int _,H,I.tok _,⟨_,rfl⟩,q⟩
def zdk (t:TS):TS:=fun D σ H=>∃ R:St→Hp→Prop,t { D with nx:=R } σ H∧∀ σ' H',R σ' H'→D.nx σ' H'
theorem zbl {st:Stmt} {t:TS} (h:PS X st t):PS X st (zdk t):=by
 intro pins s σ H D I hw
 obtain ⟨R,hw,hR⟩:=hw
 refine thn (h pins s σ H _ I hw) fun f s' q=>?_
 cases f with
 | next=>obtain ⟨σ',H',I',q⟩:=q;exact ⟨σ',H',I',hR _ _ q⟩
 | brk=>exact q
 | cont=>exact q
 | ret u=>exact q
end
theorem zaj {H:Hp} {p:Addr} (h:H p=none) (o:HO):zbt H (upd H p o):=fun b u q=>by rw [zaL (zaA q h)];exact q
theorem zbt.add {H0 H:Hp} {p:Addr} {o:HO} (s:zbt H0 H) (h:H p=none):zbt H0 (upd H p o):=s.trans (zaj h o)
theorem zbt.put {H0 H:Hp} {p:Addr} {o:HO} (s:zbt H0 H) (h:H0 p=none):zbt H0 (upd H p o):=fun b u q=>by rw [zaL (zaA q h)];exact s _ _ q
theorem znb {K:PySem.W.Frag} {i:Int} {H:Hp} {k:Bool}:TruV K (.int i) H k=(k=(i != 0)):=rfl
theorem zpZ {K:PySem.W.Frag} {i:Bool} {H:Hp} {k:Bool}:TruV K (.bl i) H k=(k=i):=rfl
theorem zm5 (a b:Int):scal (.int a) (.int b)=true:=rfl
theorem zoJ (a b:Bool):scal (.bl a) (.bl b)=true:=rfl
theorem zlc {ns:List Int} {k:Int} (h0:0≤k) (h:k<(ns.length:Int)):∃ v:Int,atI (ns.map V.int) k=some (.int v)∧ns[k.toNat]?=some v:=by
 have hk:k.toNat<ns.length:=by (first|lia|omega)
 have ek:k=((k.toNat:Nat):Int):=by (first|lia|omega)
 have q:atI (ns.map V.int) ((k.toNat:Nat):Int)=some (.int ns[k.toNat]):=zen (by rw [List.getElem?_map,List.getElem?_eq_getElem hk] <;> rfl)
 rw [← ek] at q
 exact ⟨ns[k.toNat],q,List.getElem?_eq_getElem hk⟩
def zoG (J:It) (g:TG) (tb:TS):TS:=fun D σ H=>∃ W:Nat→Nat→St→Hp→Prop,(∃ m,W 0 m σ H)∧∀ i m σ H,W i m σ H →
 (J.stop i H∧D.nx σ H)∨(J.go i H∧∃ N:St→Hp→Prop,(∀ σ' H',N σ' H'→∃ m',m'<m∧W (i+1) m' σ' H')∧∀ x H',J.yld i H x H'→g x σ H' fun σ2 H2=>tb { D with nx:=N,ct:=N,bk:=D.nx } σ2 H2)
theorem zo6 {wi:TI} {g:TG} {tb:TS} {D:zb8} {σ:St} {H:Hp}:zgX wi g tb D σ H=wi σ H fun J H1=>zoG J g tb D σ H1:=rfl
theorem zc6 {lo:Int} {n:Nat} {g:TG} {tb:TS} {D:zb8} {σ:St} {H:Hp} (Pv:Nat→St→Hp→Prop) (h0:Pv 0 σ H)
  (hs:∀ i σ H,i<n→Pv i σ H→g (.int (lo+i)) σ H fun σ2 H2=>tb { D with nx:=Pv (i+1),ct:=Pv (i+1),bk:=D.nx } σ2 H2) (hd:∀ σ H,Pv n σ H→D.nx σ H):zoG (Itr lo n) g tb D σ H:=zof Pv h0 hs hd
theorem ze5 {K:PySem.W.Frag} {a:Addr} {xs:List V} {g:TG} {tb:TS} {D:zb8} {σ:St} {H:Hp} (Pv:Nat→St→Hp→Prop) (h0:Pv 0 σ H) (hl:∀ i σ H,i≤xs.length→Pv i σ H→SqL K H a xs)
  (hs:∀ i x σ H,xs[i]?=some x→Pv i σ H→g x σ H fun σ2 H2=>tb { D with nx:=Pv (i+1),ct:=Pv (i+1),bk:=D.nx } σ2 H2) (hd:∀ σ H,Pv xs.length σ H→D.nx σ H):zoG (Itl K a) g tb D σ H:=zqH Pv h0 hl hs hd
end L2
namespace L2
open PySem PySem.Spec PyProof.Rows
section
variable {P:Program} {w:World}
theorem zcd.there {H:Hp} {h:Heap} {a:Addr} {o:HO} (x:zcd P w H h a o):∃ ob,h.get? a=some ob:=by
 cases o with
 | lst xs=>obtain ⟨_,_,_,_,e⟩:=x;exact ⟨_,e⟩
 | tup xs=>obtain ⟨_,_,_,ob,e,_⟩:=x;exact ⟨ob,e⟩
 | dK kvs=>obtain ⟨_,_,_,_,ob,_,_,e,_⟩:=x;exact ⟨ob,e⟩
 | dT kvs=>obtain ⟨_,_,_,_,ob,_,_,e,_⟩:=x;exact ⟨ob,e⟩
 | set S n=>obtain ⟨ob,_,_,_,e,_⟩:=x;exact ⟨ob,e⟩
 | ins C dx fs=>obtain ⟨_,_,_,e,_⟩:=x;exact ⟨_,e⟩
 | own y=>exact x
 | xd fs=>obtain ⟨_,⟨ob,_,_,e,_⟩,_⟩:=x;exact ⟨ob,e⟩
 | rng lo hi=>obtain ⟨_,_,_,e⟩:=x;exact ⟨_,e⟩
 | frz ob u=>obtain ⟨e,_⟩:=x;exact ⟨ob,e⟩
 | tbl ps=>exact ⟨_,(show h.get? a=some _ from x)⟩
 | met f y=>exact ⟨_,(show h.get? a=some _ from x)⟩
 | ext φ=>obtain ⟨_,⟨ob,e⟩,_⟩:=x;exact ⟨ob,e⟩
structure zsX (P:Program) (w:World) (outer:List Env) (H:Hp) (s:Shared) (E:XK) (ea:Addr) (s':Shared) (B:Heap) (cls a0:Value) (H':Hp):Prop where
 os:s'.os=s.os
 bare:AllBare s'.gens
 un:Un (frs outer) [] H H' s.heap s'.heap
 hokB:HOk P w H' B
 fly:Heap.FlyingW B outer ea cls a0 s'.heap
 cov:∀ b o,s.heap.get? b=some o→H b=none→b∉frs outer→B.get? b=some o
 covT:∀ b o,s.heap.get? b=some o→b∉frs outer→∃ o',B.get? b=some o'
 new:s.heap.get? ea=none
 free:H' ea=none
 want:E cls none H'
theorem zsX.later {outer:List Env} {H H':Hp} {s s':Shared} {E:XK} {ea:Addr} {B h:Heap} {cls a0:Value} (x:zsX P w outer H s E ea s' B cls a0 H') (st:B.StaysIn h) (sm:s'.heap.UpToSlots h)
  (ff:s'.heap.FunFrames B outer):Un (frs outer) [] H H' s.heap h∧HOk P w H' h:=by
 have slot:∀ b o,s'.heap.get? b=some o→b∈frs outer→∃ sl,h.get? b=some { o with slots:=sl }:=fun b o e hb=>by
  obtain ⟨_,o',e',nf⟩:=ff.mem hb
  rw [e] at e'
  cases e'
  exact sm b o e nf
 refine ⟨⟨fun b o e n hb _=>st b o (x.cov b o e n hb),fun b o e n hb hx=>?_,x.un.free,fun b o e hx=>?_,x.un.tups,x.un.frzs,x.un.tbls⟩,x.hokB.kept st⟩
 ·obtain ⟨sl,e1⟩:=x.un.slot b o e n hb hx
  obtain ⟨sl',e2⟩:=slot b _ e1 hb
  exact ⟨sl',e2⟩
 ·by_cases hb:b∈frs outer
  ·obtain ⟨o1,e1⟩:=x.un.there b o e hx
   obtain ⟨sl,e2⟩:=slot b o1 e1 hb
   exact ⟨_,e2⟩
  ·obtain ⟨o',e'⟩:=x.covT b o e hb
   exact ⟨o',st b o' e'⟩
end
section
variable {P:Program} {w:World} {K:PySem.W.Frag} {mg:Str→Option Value} {base:Heap} {N:List Str} {qual:Str} {scope:Scope} {f:Addr} {cd:Value} {A:Around} {outer:List Env} {s₀:Shared} {H₀:Hp} {E:XK}
end
def zrS (X:Cx) (C:Addr) (E:XK):Prop:=∀ (pins:List (Addr×Obj)) (σ:St) (H:Hp) (s:Shared) (ea:Addr) (h':Heap) (args:List Value),Inv X pins σ H s→Heap.MadeExcOf s.heap h' ea (.ref C) args→E (.ref C) none H→X.xe (.ref ea) { s with heap:=h' }
section
variable {P:Program} {w:World} {K:PySem.W.Frag} {mg:Str→Option Value} {base:Heap} {N:List Str} {qual:Str} {scope:Scope} {f:Addr} {cd:Value} {A:Around} {outer:List Env} {s₀:Shared} {H₀:Hp} {E:XK}
end
abbrev zfQ:List Value:=[.type "ValueError",.type "Exception",.type "BaseException",.type "object"]
def zrL (h:Heap) (C:Addr):Prop:=∃ bm N nm q bs hdct sn sub ab col dd k0 k1 k2 k3 k5 mN,h.get? C=some (excClassObj nm q C N bs bm hdct sn sub ab col dd k0 k1 k2 k3 k5 "ValueError.__new__")∧h.Ns N mN∧mN "__init__"=none∧OwnTail h zfQ bm
theorem zgR {K:PySem.W.Frag} {h:Heap} {C:Addr} (X:K.In h) (q:PySem.W.excIn K C zfQ "ValueError.__new__"=true):zrL h C:=by
 unfold PySem.W.excIn at q
 split at q
 ·rename_i dd cd sl ho
  split at q
  ·rename_i C2 bm k0 k1 k2 k3 n k5 hm hs
   simp only [Bool.and_eq_true,beq_iff_eq,Bool.not_eq_true'] at q
   obtain ⟨⟨⟨⟨⟨r1,r2⟩,r3⟩,r4⟩,r5⟩,r6⟩:=q
   subst r1 r2
   obtain ⟨a1,a2,a3,a4,a5,a6,a7,a8,a9,a10,a11⟩:=cd
   dsimp only at hm r3 r5 r6
   subst hm r3
   have z:sl=#[k0,k1,k2,k3,some (.builtin "ValueError.__new__"),k5]:=by
    obtain ⟨l⟩:=sl
    exact congrArg Array.mk hs
   subst z
   exact ⟨bm,_,_,_,_,_,_,_,_,_,_,k0,k1,k2,k3,k5,_,X _ _ ho,.of_isNs (PySem.W.isNs_of_in X r5),PySem.W.nsMap_none_of_in X r5 r6,PySem.W.tail_of_in X r4⟩
  ·cases q
 ·cases q
theorem zq1 {X:Cx} {x:Str} {C:Addr} {E:XK} {z:Str} {j:Nat} {np cpos pos pz:Pos} (hm:X.mg x=some (.ref C)) (hq:PySem.W.excIn X.K C zfQ "ValueError.__new__"=true) (hg:Gl X x) (hc:X.calm=true) (hT:zrS X C E)
  (hd:(x == ("__debug__":Str))=false:=by decide):PS X (.Raise (some (.Call (.Name x np) [.Constant (.str z) j pz] [] cpos)) none pos) (zo2 (.ref C) E):=by
 intro pins s σ H D I h
 have hw:E (.ref C) none H:=h
 have O:=zgR I.ok.mod.kin hq
 obtain ⟨b1,b2,b3,b4,b5,b6,b7,b8,b9,b10,b11,b12,b13,b14,b15,b16,b17,hC,hN,hni,T⟩:=O
 refine wpAny_Raise_call_subT (C:=C) (nm:=b3) (q:=b4) (N:=b2) (bs:=b5) (bm:=b1) (hdct:=b6) (sn:=b7) (sub:=b8) (ab:=b9) (col:=b10) (dd:=b11) (k0:=b12) (k1:=b13) (k2:=b14) (k3:=b15) (k5:=b16) (mN:=b17)
  PySem.F.excBase_ValueError (T.hasType PySem.F.excBase_ValueError.hasBase) (I.ok.hd hc) rfl hni (zge I hg hm ⟨rfl,?_⟩ hd)
 refine Calls.evalArgs_plain ?_
 refine thn ((zaa (X:=X) (zdX (x:=z) (j:=j) (pos:=pz)) zag (by rfl)) cpos pins s σ H (fun vs H1=>vs=[.str z]∧H1=H) I ⟨rfl,rfl⟩) fun us s2 hQ'=>?_
 obtain ⟨vs,H1,I1,r,e1,e2⟩:=hQ'
 subst e1 e2
 have hl:=r.length
 refine ⟨rfl,by rw [← hl];exact Nat.le_of_lt (zet (by show 1≤1000;decide)),I1.bk _ _ hC,hN.keeps I1.bk,T.keeps I1.bk,fun h' e hmade=>?_⟩
 exact hT pins σ _ s2 e h' us I1 hmade hw
section
variable {X:Cx} {CX:CXT} {k:Nat} {f:Addr} {fd:FuncData} {ps:List Str} {sp:Sp} {dvs:List V} {ds:List Value} {E:St→XK} {x:Str} {p pos:Pos} {e:Expr} {es:List Expr} {t:TA}
def zox (CX:CXT) (X:Cx) (E:St→XK):Prop:=∀ (pins:List (Addr×Obj)) (σ:St) (H:Hp) (s:Shared) (e:Value) (s':Shared),Inv X pins σ H s→CX X.stack H s (E σ) e s'→X.xe e s'
theorem zrs (F:zdV X.prog X.w X.K X.mg X.base CX k f fd ps sp) (hr:zhC k X.A) (hg:Gl X x) (hm:X.mg x=some (.ref f)) (hk:PySem.W.keepIn X.K (.ref f)=true) (hb:zcv X.K fd ps ds) (hd:zck dvs ds) (hx:zox CX X E)
  (ha:PA X (e::es) t) (hdb:(x == ("__debug__":Str))=false:=by decide) (he:starEach (e::es) X.env=(false,eval e X.env)::starEach es X.env:=by rfl) (hpl:(backTo pos (starEach es X.env)).any (·.1)=false:=by rfl) :
  PE X (.Call (.Name x p) (e::es) [] pos) (zow sp dvs E t):=by
 intro pins s σ H Q I h
 refine wpAny_Call_Name_kw (zge I hg hm ?_ hdb)
 refine PySem.W.callWith_K (h₀:=X.base) I.ok.mod.kin hk (thn (ha pos pins s σ H _ I h) fun us s1 ⟨vs,H1,I1,r,q⟩=>⟨I1.kIn,?_⟩) he hpl
 have r2:zck (vs++dvs) (us++ds):=r.append hd
 have hl:(us++ds).length=ps.length:=by rw [← r2.length];exact F.len _ _ _ _ q
 refine wpAny_call (codeAny_mono (F.run X.A X.stack s1 H1 ⟨us,[]⟩ (us++ds) (vs++dvs) Q (E σ) hr I1.env0 (hb s1 us I1.kIn hl) r2 q) fun res s' hq=>?_)
 cases res with
 | error e=>exact hx pins σ H1 s1 e s' I1 hq
 | ok fl =>
  cases fl with
  | ret u=>exact I1.after hq
  | next=>exact False.elim hq
  | brk=>exact False.elim hq
  | cont=>exact False.elim hq
end
theorem Cx.Ok.pinned {X:Cx} (ok:X.Ok) (pn:List (Addr×Obj)) (xe:Value→Shared→Prop):Cx.Ok { X with pn:=pn,xe:=xe } :=
 ⟨ok.mod,ok.kind,ok.glob,ok.blt,ok.above,ok.inj,ok.has,ok.cab,ok.hd,ok.frames,ok.stk,ok.exf,ok.bs,ok.bsz,ok.noex,ok.exfs,ok.funs,ok.frf⟩
theorem Inv.ofTry {X:Cx} {pins pins':List (Addr×Obj)} {xe:Value→Shared→Prop} {σ:St} {H:Hp} {s:Shared} (I:Inv { X with pn:=X.pn++pins,xe:=xe } pins' σ H s) (ok:X.Ok):Inv X pins σ H s :=
 ⟨ok,I.os,I.bare,I.base,I.loc,I.cell,I.free,I.freeC,fun p hp=>I.pin p (List.mem_append_left _ hp),I.hok,I.len⟩
theorem Inv.track {X:Cx} {pins:List (Addr×Obj)} {σ:St} {H:Hp} {s:Shared} {a:Addr} {o:HO} (I:Inv X pins σ H s) (hn:H a=none) (h0:X.s₀.heap.get? a=none) (hL:a≠X.env.locals) (hc:∀ x c,X.env.cells.lookup x=some c→c≠a)
  (hp:∀ p∈X.pn++pins,p.1≠a) (new:zcd X.prog X.w (upd H a o) s.heap a o):Inv X pins σ (upd H a o) s:=by
 refine ⟨I.ok,I.os,I.bare,⟨I.base.keep,I.base.slot,fun b u q n hx=>?_,I.base.there,fun b xs q=>?_,fun b u xs q=>?_,fun b ps q=>?_⟩,I.loc,I.cell,?_,fun x c e=>?_,fun p q=>?_,fun b u e=>?_,I.len⟩
 ·have nb:b≠a:=fun z=>by rw [z,h0] at q;cases q
  rw [zaL nb]
  exact I.base.free b u q n hx
 ·have q2:=I.base.tups b xs q
  rw [zaL (zaA q2 hn)]
  exact q2
 ·have q2:=I.base.frzs b u xs q
  rw [zaL (zaA q2 hn)]
  exact q2
 ·obtain ⟨m,q2⟩:=I.base.tbls b ps q
  exact ⟨m,by rw [zaL (zaA q2 hn)];exact q2⟩
 ·rw [zaL hL.symm]
  exact I.free
 ·rw [zaL (hc x c e)]
  exact I.freeC x c e
 ·obtain ⟨e,n,r⟩:=I.pin p q
  exact ⟨e,by rw [zaL (hp p q)];exact n,r⟩
 ·by_cases hb:b=a
  ·subst hb
   rw [zae] at e
   cases e
   exact new
  ·rw [zaL hb] at e
   exact (I.hok b u e).stay (fun c v _ q=>q) (fun c q=>by rw [zaL (zaA q hn)];exact q) fun c xs q=>by rw [zaL (zaA q hn)];exact q
theorem zkb {X:Cx} {pins:List (Addr×Obj)} {σ:St} {H:Hp} {s:Shared} {M:Model} {A:Around} {E:Value→Shared→Prop} {i:Nat} {n:Str} {pos:Pos} {Q:Unit→Shared→Prop} (I:Inv X pins σ H s) (hN:X.N.Nodup) (hi:X.N[i]?=some n)
  (hk:X.env.scope.names.lookup n=some .local) (h:∀ s',Inv X pins (σ.set i none) H s'→Q () s'):wpAny M A (do bindName X.env n .none;unbindBehindTheSuite X.env n pos) Q E s:=by
 obtain ⟨m,hn,hl⟩:=id I.loc
 have hcls:(X.env.scope.kind == .class || (X.env.scope.kind == .module&&X.env.locals != X.env.globals))=false:=by rw [I.ok.kind];rfl
 have hiσ:i<σ.length:=by rw [I.len];exact (List.getElem?_eq_some_iff.mp hi).1
 obtain ⟨oL,_,_,hoL,_⟩:=id hn
 refine wpAny_nameGoes_keeps hk hn hcls fun h' v hn' hs=>?_
 have below:∀ b o,X.s₀.heap.get? b=some o→b≠X.env.locals:=fun b o e=>Nat.ne_of_lt (Nat.lt_of_lt_of_le (Heap.lt_size e) I.ok.above)
 refine h _ ⟨I.ok,I.os,I.bare,⟨fun b o e n hb hx=>?_,fun b o e n hb hx=>?_,I.base.free,fun b o e hx=>?_,I.base.tups,I.base.frzs,I.base.tbls⟩,⟨_,hn',fun j y v' e1 e2 e3=>?_⟩,fun y c e=>?_,I.free,I.freeC,fun p hp=>?_,fun b ob e=>?_,by simpa using I.len⟩
 ·exact (hs.2 b (below b o e)).trans (I.base.keep b o e n hb hx)
 ·obtain ⟨sl,e1⟩:=I.base.slot b o e n hb hx
  exact ⟨sl,(hs.2 b (below b o e)).trans e1⟩
 ·obtain ⟨o',e1⟩:=I.base.there b o e hx
  exact ⟨o',(hs.2 b (below b o e)).trans e1⟩
 ·have hj:j≠i:=fun z=>by
   rw [z,List.getElem?_set_self hiσ] at e2
   cases e2
  rw [List.getElem?_set_ne (Ne.symm hj)] at e2
  obtain ⟨u',r',q⟩:=hl j y v' e1 e2 e3
  refine ⟨u',r',?_⟩
  rcases q with ⟨k,e⟩ | ⟨k,c,e,z⟩
  ·refine .inl ⟨k,?_⟩
   have:y≠n:=fun e=>hj (zjV hN e1 (e ▸ hi))
   simp [this,e]
  ·exact .inr ⟨k,c,e,z.sameBut hs (I.cne y c e)⟩
 ·obtain ⟨w',z⟩:=I.cell y c e
  exact ⟨w',z.sameBut hs (I.cne y c e)⟩
 ·obtain ⟨e,n,ne,nf,d⟩:=I.pin p hp
  exact ⟨(hs.2 p.1 ne).trans e,n,ne,nf,d⟩
 ·refine (I.hok b ob e).stay (fun c w' hc q=>(hs.2 c ?_).trans q) (fun _ q=>q) fun _ _ q=>q
  rintro rfl
  rcases hc with rfl | hc
  ·rw [I.free] at e;cases e
  ·rw [I.free] at hc;cases hc
theorem ziV {M:Model} {A:Around} {E:Value→Shared→Prop} {h:Heap} {g:Array GenState} {d:Drawn} {t:Nat} {os:OsState} {e D:Addr} {oe:Obj} {cls:Value} {Q:Bool→Shared→Prop} (he:h.get? e=some oe) (hcls:oe.cls=cls)
  (O:zrL h D) (L:PySem.W.Looks M h (isSubtype cls (.ref D)) true) (hq:Q true ⟨h,g,d,t,os⟩):wpAny M A (excMatches (.ref e) (.ref D)) Q E ⟨h,g,d,t,os⟩:=by
 obtain ⟨b1,b2,b3,b4,b5,b6,b7,b8,b9,b10,b11,b12,b13,b14,b15,b16,b17,hD,hN,hni,T⟩:=O
 have hcB:(Value.ref D::b1).contains (.type "BaseException")=true:=by rw [List.contains_cons,T.hasType PySem.F.excBase_ValueError.hasBase,Bool.or_true]
 have f:=tc_notTuple
 unfold excMatches
 repeat (first | (with_reducible refine wpAny_loadPart_at he ?_;rw [hcls]) | with_reducible refine wpAny_loadPart_at hD ?_ | (with_reducible refine wpAny_isSubtype_exc hD ?_;rw [hcB]) | (with_reducible refine L.at ?_) | wp_step)
 exact hq
def Cx.inExc (X:Cx) (ea:Addr):Cx:={ X with A:=X.A.mark (some (.ref ea)),calm:=false }
theorem Inv.toExc {X:Cx} {pins:List (Addr×Obj)} {σ:St} {H:Hp} {s:Shared} {ea:Addr} (I:Inv X pins σ H s) (hf:(X.A.mark (some (.ref ea))).frames=some X.stack):Inv (X.inExc ea) pins σ H s :=
 ⟨⟨I.ok.mod,I.ok.kind,I.ok.glob,I.ok.blt,I.ok.above,I.ok.inj,I.ok.has,I.ok.cab,(by intro z;cases z),hf,I.ok.stk,I.ok.exf,I.ok.bs,I.ok.bsz,I.ok.noex,I.ok.exfs,I.ok.funs,I.ok.frf⟩,I.os,I.bare,I.base,I.loc,I.cell,I.free,I.freeC,I.pin,I.hok,I.len⟩
theorem Inv.ofExc {X:Cx} {pins:List (Addr×Obj)} {σ:St} {H:Hp} {s:Shared} {ea:Addr} (I:Inv (X.inExc ea) pins σ H s) (ok:X.Ok):Inv X pins σ H s :=
 ⟨ok,I.os,I.bare,I.base,I.loc,I.cell,I.free,I.freeC,I.pin,I.hok,I.len⟩
structure zeB (K:PySem.W.Frag) (C:Addr):Prop where
 ga:PySem.W.findIn K (.ref C) "__getattribute__"=some (some (.builtin "BaseException.__getattribute__"))
 gn:PySem.W.findIn K (.ref C) "__getattr__"=some none
 cl:PySem.W.findIn K (.ref C) "__class__"=some (some (.builtin "object.__class__"))
 mb:PySem.W.mroIn K C (.type "BaseException")=some true
 mo:PySem.W.mroIn K C (.type "object")=some true
structure zpx (K:PySem.W.Frag) (C:Addr):Prop where
 ga:PySem.W.findIn K (.ref C) "__getattribute__"=some (some (.builtin "BaseException.__getattribute__"))
 gn:PySem.W.findIn K (.ref C) "__getattr__"=some none
 cl:PySem.W.findIn K (.ref C) "__class__"=some (some (.builtin "object.__class__"))
 mb:PySem.W.mroIn K C (.type "BaseException")=some true
 mo:PySem.W.mroIn K C (.type "object")=some true
 ok:PySem.W.excIn K C zfQ "ValueError.__new__"=true
theorem zpx.five {K:PySem.W.Frag} {C:Addr} (Z:zpx K C):zeB K C:=⟨Z.ga,Z.gn,Z.cl,Z.mb,Z.mo⟩
section
open Builtin Builtin.ObjectAttr Builtin.Getset_descriptor PySem.W
variable {K:PySem.W.Frag} {prog:Program} {w:World} {A:Around} {E:Value→Shared→Prop} {h:Heap} {g:Array GenState} {d:Drawn} {t:Nat} {os:OsState} {a C:Addr} {o:Obj}
theorem znJ:splitId "BaseException.__getattribute__"=some ("BaseException","__getattribute__"):=by decide +kernel
theorem znz:builtinKind "BaseException.__getattribute__"=some .slot:=by decide +kernel
theorem znK {R:Result→Shared→Prop} (X:K.In h) (Z:zeB K C) (hx:h.get? a=some o) (hc:o.cls=.ref C) (hq:R (.ok (.ret (.ref C))) ⟨h,g,d,t,os⟩) :
  codeAny (model prog w) A (.call (.builtin "getset_descriptor.__get__") ⟨[.builtin "object.__class__",.ref a,.ref C],[]⟩) R ⟨h,g,d,t,os⟩:=by
 have LT:PySem.W.Looks (model prog w) h (typeOf (.ref a)) (.ref C):=hc ▸ (PySem.W.Looks.ld hx).andThen .now
 have LM:=PySem.W.looks_mroIn (M:=model prog w) X Z.mo
 refine codeAny_call_builtin PySem.W.KF.slot_gs.plain PySem.W.KF.entry_gs (PySem.W.KF.slot_gs.check _ _ _ _ _ _ _ _ PySem.W.KF.type_class (PySem.W.KF.args_gs _ _ _) ?_)
 unfold Builtin.«getset_descriptor.__get__»
 unfold descrGet
 rw [PySem.W.dga_obj]
 refine wpAny_bind (wpAny_pure ?_)
 unfold descrGetter descrCheckInstance
 unfold descrNameAndClass isInstance
 simp only [PySem.W.KF.owner_class]
 repeat lk
 refine ⟨Code.quiet_builtin _ (by decide +kernel),codeAny_builtin PySem.W.KF.entry_class ?_⟩
 unfold Builtin.«object.__class__»
 unfold shownTypeOf
 repeat lk
 exact hq
theorem zkI {tk:Tok} {Q:Fin→Shared→Prop} (X:K.In h) (Z:zeB K C) (hx:h.get? a=some o) (hc:o.cls=.ref C) (hq:Q (.done (.ret (.ref C))) ⟨h,g,d,t,os⟩) :
  wpAny (model prog w) A (Builtin.«object.__getattribute__» ⟨[.ref a,.str "__class__" tk],[]⟩) Q E ⟨h,g,d,t,os⟩:=by
 have LC:=PySem.W.looks_findIn (M:=model prog w) X Z.cl
 have h5:(⟨h,g,d,t,os⟩:Shared).TypeIs (.builtin "object.__class__") "getset_descriptor":=F.typeOf_object_class
 have f5:=F.typeOf_object_class
 have f6:=F.slot_gs_get.lookup
 have f7:=F.slot_gs_set.lookup
 repeat (any_goals (first | assumption | (with_reducible refine wpAny_loadPart_at hx ?_;rw [hc]) | with_reducible refine LC.at ?_ | wp_step))
 refine znK X Z hx hc ?_
 repeat (any_goals (first | assumption | wp_step))
theorem zhz {M:Model} {v:Value} {Q:Unit→Shared→Prop} (X:K.In h) (Z:zeB K C) (hx:h.get? a=some o) (hc:o.cls=.ref C) (hq:Q () ⟨h,g,d,t,os⟩) :
  wpAny M A (checkBuiltinCall "BaseException.__getattribute__" ⟨[.ref a,v],[]⟩) Q E ⟨h,g,d,t,os⟩:=by
 have LM:=PySem.W.looks_mroIn (M:=M) X Z.mb
 have LT:PySem.W.Looks M h (typeOf (.ref a)) (.ref C):=hc ▸ (PySem.W.Looks.ld hx).andThen .now
 have ao:=F.args_bexc_ga (.ref a) v
 simp only [checkBuiltinCall,znz,znJ]
 refine wpAny_bind ?_
 unfold isInstance
 refine wpAny_bind (LT.at (LM.at ?_))
 repeat (any_goals (first | assumption | wp_step))
theorem zoa {tk:Tok} {Q:Value→Shared→Prop} (X:K.In h) (Z:zeB K C) (FB:ExcAttrBase "ValueError" zfQ) (hx:h.get? a=some o) (hc:o.cls=.ref C) (hq:Q (.ref C) ⟨h,g,d,t,os⟩) :
  wpAny (model prog w) A (getAttrBy (.ref a) (.str "__class__" tk) false) Q E ⟨h,g,d,t,os⟩:=by
 have LG:=PySem.W.looks_findIn (M:=model prog w) X Z.ga
 have LN:=PySem.W.looks_findIn (M:=model prog w) X Z.gn
 have f3:=FB.ga.bind (.ref a)
 have n2:(Value.builtin "BaseException.__getattribute__" == Value.builtin "object.__getattribute__")=false:=by decide +kernel
 have n1:(onTheHeap (Value.ref C)&&(Value.builtin "BaseException.__getattribute__" == Value.builtin "object.__getattribute__"))=false:=by rw [n2];rfl
 repeat (any_goals (first | assumption | (with_reducible refine wpAny_loadPart_at hx ?_;rw [hc]) | with_reducible refine LG.at ?_ | with_reducible refine LN.at ?_ | wp_step))
 refine codeAny_call_builtin FB.ga.plain F.entry_bexc_ga (zhz X Z hx hc (zkI X Z hx hc ?_))
 repeat (any_goals (first | assumption | wp_step))
theorem zis {Q:Option Value→Shared→Prop} (X:K.In h) (Z:zeB K C) (FB:ExcAttrBase "ValueError" zfQ) (hx:h.get? a=some o) (hc:o.cls=.ref C) (hq:Q (some (.ref C)) ⟨h,g,d,t+1,os⟩) :
  wpAny (model prog w) A (getAttr? (.ref a) "__class__") Q E ⟨h,g,d,t,os⟩:=by
 unfold getAttr? getAttrBy?
 repeat (any_goals (first | assumption | with_reducible apply zoa X Z FB hx hc | wp_step))
theorem zpQ (Z:zpx K C):zhr K (.ref C):=⟨fun x=>{
 ty:=fun M h _ p=>by
  obtain ⟨oe,vs,e,c,_⟩:=p
  exact c ▸ (PySem.W.Looks.ld e).andThen .now
 it:=fun M h X _=>by
  obtain ⟨b1,b2,b3,b4,b5,b6,b7,b8,b9,b10,b11,b12,b13,b14,b15,b16,b17,hC,_⟩:=zgR X Z.ok
  intro A' Q' E' s' k q
  unfold isType loadHead
  exact wpAny_bind (wpAny_loadPart (k _ _ hC) (wpAny_pure q))
 ne:=fun h tp dd its n sl X htp=>by
  obtain ⟨b1,b2,b3,b4,b5,b6,b7,b8,b9,b10,b11,b12,b13,b14,b15,b16,b17,hC,_⟩:=zgR X Z.ok
  refine Bool.eq_false_iff.mpr fun q=>?_
  have e:C=tp:=Value.ref.inj (beq_iff_eq.mp q)
  subst e
  rw [hC] at htp
  have z:=congrArg Obj.data (Option.some.inj htp)
  exact nomatch z
 ca:=fun {prog w A E Q s} X p q=>by
  obtain ⟨h,g,d,t,os⟩:=s
  obtain ⟨oe,vs,e,c,_⟩:=p
  exact zis X Z.five PySem.F.attrBase_ValueError e c q }⟩
end
end L2
namespace L2
open PySem PySem.Spec PyProof.Rows
theorem zpY {env:Env} {x:Str} {c:Addr} (h:env.cells.lookup x=some c):cellOf env x=pure c:=by
 unfold cellOf
 rw [h]
theorem zhk {env:Env}:∀ (l:List (Str×NameKind)) (cs:List (Str×Addr)),(∀ y∈l,y.2=.free→∃ c,env.cells.lookup y.1=some c)→(∀ x c,cs.lookup x=some c→env.cells.lookup x=some c) →
  ∃ cl,(forIn l cs fun (y:Str×NameKind) r=>(if (y.2 == .free)=true then do let c ← cellOf env y.1;pure (ForInStep.yield ((y.1,c)::r)) else pure (ForInStep.yield r):Sem (ForInStep (List (Str×Addr)))))=pure cl ∧
   (∀ x c,cl.lookup x=some c→env.cells.lookup x=some c)∧(∀ y∈l,y.2=.free→∃ c,cl.lookup y.1=some c)∧∀ x,(∃ c,cs.lookup x=some c)→∃ c,cl.lookup x=some c
 | [],cs,_,hc=>⟨cs,by simp,hc,by simp,fun _ h=>h⟩
 | y::l,cs,hf,hc=>by
  have hf':∀ z∈l,z.2=.free→∃ c,env.cells.lookup z.1=some c:=fun z hz=>hf z (List.mem_cons_of_mem _ hz)
  by_cases hy:y.2=.free
  ·obtain ⟨c,e⟩:=hf y List.mem_cons_self hy
   have hc':∀ x d,List.lookup x ((y.1,c)::cs)=some d→env.cells.lookup x=some d:=fun x d q=>by
    rw [List.lookup_cons] at q
    split at q
    ·rename_i b
     cases q
     rw [beq_iff_eq.mp b,e]
    ·exact hc x d q
   obtain ⟨cl,e1,e2,e3,e4⟩:=zhk l ((y.1,c)::cs) hf' hc'
   refine ⟨cl,?_,e2,fun z hz q=>?_,fun x ⟨d,q⟩=>e4 x ?_⟩
   ·rw [List.forIn_cons,if_pos (by rw [hy];rfl),zpY e]
    simpa using e1
   ·rcases List.mem_cons.mp hz with r | r
    ·exact e4 z.1 ⟨c,by rw [r,List.lookup_cons];simp⟩
    ·exact e3 z r q
   ·rw [List.lookup_cons]
    split
    ·exact ⟨_,rfl⟩
    ·exact ⟨d,q⟩
  ·obtain ⟨cl,e1,e2,e3,e4⟩:=zhk l cs hf' hc
   refine ⟨cl,?_,e2,fun z hz q=>?_,e4⟩
   ·rw [List.forIn_cons,if_neg (by simpa using hy)]
    simpa using e1
   ·rcases List.mem_cons.mp hz with r | r
    ·rw [r] at q;exact absurd q hy
    ·exact e3 z r q
theorem znB {scope:Scope} {env:Env} (h:∀ y∈scope.names,y.2=.free→∃ c,env.cells.lookup y.1=some c) :
  ∃ cl,closureFor scope env=pure cl∧(∀ x c,cl.lookup x=some c→env.cells.lookup x=some c)∧∀ y∈scope.names,y.2=.free→∃ c,cl.lookup y.1=some c:=by
 obtain ⟨cl,e1,e2,e3,_⟩:=zhk scope.names [] h (by simp)
 refine ⟨cl,?_,e2,e3⟩
 unfold closureFor
 simp only [bind_pure]
 exact e1
theorem zk4 {P:Program} {w:World} {A:Around} {R:Result→Shared→Prop} {s:Shared} {elt target iter:Expr} {ifs:List Expr} {scope:Scope} {pos:Pos} {it acc:Value} {env:Env} {Z:Value→Shared→Prop} (J:Nat→Shared→Prop)
  (hZ:Z=notedBy (model P w) A env fun e s'=>R (.error e) s')
  (turn:∀ n s,J n s→wpAny (model P w) A (pyNext it) (fun r s1=>match r with
   | none=>R (.ok .next) s1
   | some v=>wpAny (model P w) A (letOwnedTupleGo target it v) (fun _ s2=>wpAny (model P w) A (assign target env v) (fun _ s3 =>
     wpAny (model P w) A (forIn ifs true fun c r=>if r=true then do let ok ← isTrue c env (eval c env);pure (ForInStep.yield ok) else pure (ForInStep.yield r)) (fun ok s4 =>
      if ok=true then wpAny (model P w) A (eval elt env) (fun x s5=>wpAny (model P w) A (call (.builtin "list.append") [acc,x]) (fun _ s6=>∃ m,m<n∧J m s6) Z s5) Z s4
      else ∃ m,m<n∧J m s4) Z s3) Z s2) Z s1) Z s)
  (n:Nat) (h:J n s):codeAny (model P w) A (.compLoop (.ListComp elt [⟨target,iter,ifs,0⟩] scope pos) 0 it acc env) R s:=by
 subst hZ
 refine codeAny_loop rfl J (fun n s hJ=>?_) n h
 show wpAny _ _ (Sem.onRaise (compTurn (.ListComp elt [⟨target,iter,ifs,0⟩] scope pos) 0 it acc env) fun x=>do noteFrame x env;theTreesLotGoes x) _ _ s
 refine wpAny_noted ?_
 rw [compTurn_list]
 refine wpAny_bind (wpAny_standAt (wpAny_bind (thn (turn n s hJ) fun r s1 h1=>?_)))
 cases r with
 | none=>exact wpAny_pure h1
 | some v =>
  refine wpAny_bind (thn h1 fun _ s2 h2=>wpAny_bind (thn h2 fun _ s3 h3=>wpAny_bind (thn h3 fun ok s4 h4=>?_)))
  cases ok with
  | false=>exact wpAny_pure ⟨rfl,h4⟩
  | true=>exact wpAny_bind (wpAny_bind (thn h4 fun x s5 h5=>wpAny_bind (thn h5 fun _ s6 h6=>wpAny_pure (wpAny_pure ⟨rfl,h6⟩))))
def PTs (X:Cx) (ifs:List Expr) (t:TT):Prop:=∀ (pins:List (Addr×Obj)) (s:Shared) (σ:St) (H:Hp) (Q:Bool→Hp→Prop),Inv X pins σ H s→t σ H Q →
 wpAny (model X.prog X.w) X.A (forIn ifs true fun c r=>if r=true then do let ok ← isTrue c X.env (eval c X.env);pure (ForInStep.yield ok) else pure (ForInStep.yield r)) (TP X pins σ Q) X.xe s
def zdP:TT:=fun _ H Q=>Q true H
theorem zir {X:Cx}:PTs X [] zdP:=fun _ _ _ H _ I h=>wpAny_tests_nil ⟨H,I,h⟩
theorem zsx {X:Cx} {c:Expr} {t:TT} (h:PT X c t):PTs X [c] t:=fun pins s σ H Q I q=>wpAny_tests_one (h pins s σ H Q I q)
def zse (cap:List (Option Nat)) (σ:St):St:=cap.map fun o=>o.bind fun j=>(σ[j]?).join
def zgh (wi:TI) (g:TG) (tt:TT) (te:TE) (cap:List (Option Nat)):TE:=fun σ H Q=>wi σ H fun J H1=>∀ D,H1 D=none→∃ W:Nat→Nat→St→Hp→Prop,(∃ m,W 0 m (zse cap σ) (upd H1 D (.lst [])))∧∀ i m σc Hc,W i m σc Hc →
 (J.stop i Hc∧Q (.ref D) Hc)∨(J.go i Hc∧∃ N:St→Hp→Prop,(∀ σ' H',N σ' H'→∃ m',m'<m∧W (i+1) m' σ' H')∧∀ x H',J.yld i Hc x H'→g x σc H' fun σ2 H2=>tt σ2 H2 fun b H3=>if b=true then te σ2 H3 fun y H4=>zb3 (.ref D) [y] H4 fun _ H5=>N σ2 H5 else N σ2 H3)
def Cx.blk (X:Cx) (Nc:List Str) (scope:Scope) (cl:List (Str×Addr)) (s:Shared) (H:Hp) (fp:List Addr):Cx:={ X with
 N:=Nc,s₀:=s,H₀:=H,env:=compEnvC scope cl s.heap.objs.size X.env,outer:=X.stack,stack:=X.stack,ex:=fp,fn:=fun _=>false,pn:=[],xe:=fun _ _=>False }
structure zns (sc:Scope) (N Nc:List Str) (cap:List (Option Nat)) (scope:Scope):Prop where
 kind:scope.kind=.function
 nocell:∀ y∈scope.names,y.2≠.cell
 free:∀ y∈scope.names,y.2=.free→sc.names.lookup y.1=some .cell∨sc.names.lookup y.1=some .free
 once:∀ y∈scope.names,scope.names.lookup y.1=some y.2
 nd:Nc.Nodup
 len:cap.length=Nc.length
 cap:∀ (i:Nat) (y:Str) (j:Nat),Nc[i]?=some y→cap[i]?=some (some j)→N[j]?=some y∧scope.names.lookup y=some .free
def zrQ (sc:Scope) (N Nc:List Str) (cap:List (Option Nat)) (scope:Scope):Bool :=
 scope.kind == .function&&scope.names.all (fun y=>y.2 != .cell&&scope.names.lookup y.1 == some y.2&&(y.2 != .free || sc.names.lookup y.1 == some .cell || sc.names.lookup y.1 == some .free))&&decide Nc.Nodup&&cap.length == Nc.length
  && (Nc.zip cap).all fun p=>p.2.all fun j=>N[j]? == some p.1&&scope.names.lookup p.1 == some .free
theorem zns.of {sc:Scope} {N Nc:List Str} {cap:List (Option Nat)} {scope:Scope} (h:zrQ sc N Nc cap scope=true):zns sc N Nc cap scope:=by
 unfold zrQ at h
 simp only [Bool.and_eq_true,beq_iff_eq,List.all_eq_true,bne_iff_ne,ne_eq,Bool.or_eq_true,decide_eq_true_eq] at h
 obtain ⟨⟨⟨⟨h1,h2⟩,h3⟩,h4⟩,h5⟩:=h
 refine ⟨h1,fun y hy=>(h2 y hy).1.1,fun y hy hf=>?_,fun y hy=>(h2 y hy).1.2,h3,h4,fun i y j e1 e2=>?_⟩
 ·rcases (h2 y hy).2 with (q | q) | q
  ·exact absurd hf q
  ·exact .inl q
  ·exact .inr q
 ·have m:(y,some j)∈Nc.zip cap:=by
   refine List.mem_of_getElem? (i:=i) ?_
   rw [List.getElem?_zip_eq_some]
   exact ⟨e1,e2⟩
  have z:=h5 _ m
  simpa using z
theorem zeb {env:Env} {x:Str}:∀ {names:List (Str×NameKind)} {k:NameKind},((names.map fun (n,k)=>if (k == NameKind.free&&env.scope.kind == .function&&env.kindOf n == some .cell) then (n,NameKind.cell) else (n,k)).lookup x=some k)→k≠.cell∧names.lookup x=some k∨(k=.cell∧(names.lookup x=some .cell∨names.lookup x=some .free))
 | [],_,h=>by simp at h
 | (n,q)::r,k,h=>by
  have ih:=@zeb env x r k
  rw [List.map_cons] at h
  dsimp only at h
  by_cases hx:(x == n)=true
  ·by_cases hc:(q == NameKind.free&&env.scope.kind == .function&&env.kindOf n == some .cell)=true
   ·rw [if_pos hc,List.lookup_cons,hx] at h
    cases h
    rw [Bool.and_eq_true,Bool.and_eq_true] at hc
    refine .inr ⟨rfl,.inr ?_⟩
    rw [List.lookup_cons,hx]
    exact congrArg some (beq_iff_eq.mp hc.1.1)
   ·rw [if_neg hc,List.lookup_cons,hx] at h
    cases h
    rw [List.lookup_cons,hx]
    by_cases z:q=.cell
    ·exact .inr ⟨z,.inl (congrArg some z)⟩
    ·exact .inl ⟨z,rfl⟩
  ·have hx':(x == n)=false:=by simpa using hx
   rw [List.lookup_cons,hx']
   refine ih ?_
   by_cases hc:(q == NameKind.free&&env.scope.kind == .function&&env.kindOf n == some .cell)=true
   ·rw [if_pos hc,List.lookup_cons,hx'] at h
    exact h
   ·rw [if_neg hc,List.lookup_cons,hx'] at h
    exact h
section
variable {X:Cx} {pins:List (Addr×Obj)} {σ:St} {H:Hp} {s:Shared}
theorem zsK {Nc:List Str} {cap:List (Option Nat)} {scope:Scope} {cl:List (Str×Addr)} {fp:List Addr} {h1:Heap} {tk:Nat} {m1:Str→Option Value} (I:Inv X pins σ H s) (B:zns X.env.scope X.N Nc cap scope)
  (hsub:∀ x c,cl.lookup x=some c→X.env.cells.lookup x=some c) (hfr:∀ y∈scope.names,y.2=.free→∃ c,cl.lookup y.1=some c) (hf:∀ b∈fp,zn0 X pins H b) (hin:∀ b∈fp,b<s.heap.objs.size)
  (hk:∀ b o,s.heap.get? b=some o→h1.get? b=some o) (hn:h1.Ns s.heap.objs.size m1):Inv (X.blk Nc scope cl s H fp) [] (zse cap σ) H { s with heap:=h1,toks:=tk }:=by
 have ok:=I.ok
 have bsz:X.base.objs.size≤s.heap.objs.size:=Nat.le_trans ok.bsz I.sz
 refine ⟨⟨ok.mod,B.kind,ok.glob,ok.blt,Nat.le_refl _,fun x y c h1 h2=>ok.inj x y c (hsub x c h1) (hsub y c h2),fun x hx=>?_,(by intro x c z;cases z),ok.hd,ok.frames,.inl rfl,fun b hb=>⟨Nat.ne_of_lt (hin b hb),fun x c e=>(hf b hb).2.2.2.2.1 x c (hsub x c e)⟩,
  I.bs,bsz,fun b o e hb=>?_,fun b hb z=>?_,I.stack,I.stkFree⟩,rfl,I.bare,Un.kept hk,⟨m1,hn,fun i y v e1 e2 e3=>?_⟩,fun x c e=>?_,I.hok.fresh (Nat.le_refl _),fun x c e=>I.freeC x c (hsub x c e),(by intro p hp;cases hp),I.hok.kept hk,?_⟩
 ·have look:∀ k,(relabel scope X.env).names.lookup x=some k→k=.cell∨k=.free→∃ c,cl.lookup x=some c:=fun k q hk=>by
   rcases zeb q with ⟨n1,n2⟩ | ⟨_,n2 | n2⟩
   ·rcases hk with r | r
    ·exact absurd r n1
    ·exact hfr (x,k) (PySem.mem_of_lookup n2) r
   ·exact absurd rfl (B.nocell _ (PySem.mem_of_lookup n2))
   ·exact hfr (x,.free) (PySem.mem_of_lookup n2) rfl
  rcases hx with q | q
  ·exact look _ q (.inl rfl)
  ·exact look _ q (.inr rfl)
 ·rcases (hf b hb).2.2.2.1 with q | q
  ·exact ok.noex b o e q
  ·exact absurd (Nat.lt_of_lt_of_le (Heap.lt_size e) (Nat.le_trans ok.bsz q)) (Nat.lt_irrefl _)
 ·rcases List.mem_cons.mp (I.stkSub b z) with q | q
  ·exact (hf b hb).2.1 q
  ·exact (hf b hb).2.2.1 q
 ·have e2':(cap[i]?).map (fun o=>o.bind fun j=>(σ[j]?).join)=some (some v):=by rw [← List.getElem?_map];exact e2
  obtain ⟨o,ho,eo⟩:=Option.map_eq_some_iff.mp e2'
  obtain ⟨j,rfl,ej⟩:=Option.bind_eq_some_iff.mp eo
  have ej':σ[j]?=some (some v):=by
   cases q:σ[j]? with
   | none=>rw [q] at ej;cases ej
   | some z=>rw [q] at ej;cases ej;rfl
  obtain ⟨c1,c2⟩:=B.cap i y j e1 ho
  have vis:=B.free (y,.free) (PySem.mem_of_lookup c2) rfl
  obtain ⟨m,_,hl⟩:=I.loc
  obtain ⟨u,r,lk⟩:=hl j y v c1 ej' (.inr vis)
  obtain ⟨c',ec⟩:=hfr (y,.free) (PySem.mem_of_lookup c2) rfl
  have ec2:=hsub _ _ ec
  rcases lk with ⟨kl,_⟩ | ⟨_,c,e,z⟩
  ·have kl':X.env.scope.names.lookup y=some .local:=kl
   rcases vis with q | q
   ·have q':X.env.scope.names.lookup y=some .cell:=q
    rw [kl'] at q';cases q'
   ·have q':X.env.scope.names.lookup y=some .free:=q
    rw [kl'] at q';cases q'
  ·have ecc:X.env.cells.lookup y=some c':=ec2
   rw [e] at ecc
   cases ecc
   refine ⟨u,r,.inr ⟨?_,_,ec,?_⟩⟩
   ·rcases e3 with q | q | q
    ·rcases zeb q with ⟨_,n2⟩ | ⟨n1,_⟩
     ·rw [c2] at n2;cases n2
     ·cases n1
    ·exact .inl q
    ·exact .inr q
   ·obtain ⟨o,ho,hd⟩:=z
    exact ⟨o,hk _ _ ho,hd⟩
 ·obtain ⟨v,o,ho,hd⟩:=I.cell x c (hsub x c e)
  exact ⟨v,o,hk _ _ ho,hd⟩
 ·show (zse cap σ).length=Nc.length
  rw [zse,List.length_map,B.len]
theorem zoR {Nc:List Str} {scope:Scope} {cl:List (Str×Addr)} {fp:List Addr} {σc:St} {Hc:Hp} {s':Shared} {h':Heap} (I:Inv X pins σ H s) (hf:∀ b∈fp,zn0 X pins H b) (J:Inv (X.blk Nc scope cl s H fp) [] σc Hc s')
  (hs:Heap.SameBut s.heap.objs.size s'.heap h'):Inv X pins σ Hc { s' with heap:=h' }:=by
 have ne:∀ b o,s.heap.get? b=some o→b≠s.heap.objs.size:=fun b o e=>Nat.ne_of_lt (Heap.lt_size e)
 have u:=J.base
 refine I.call' (ch:=fp) J.os ⟨fun b o e n hb hx=>(hs.2 b (ne b o e)).trans (u.keep b o e n hb hx),fun b o e n hb hx=>?_,u.free,fun b o e hx=>?_,u.tups,u.frzs,u.tbls⟩ (fun b ob e=>?_) J.bare fun b hb=>⟨(hf b hb).2.2.2.1,(hf b hb).2.1,(hf b hb).2.2.2.2.1,(hf b hb).2.2.2.2.2⟩
 ·obtain ⟨sl,q⟩:=u.slot b o e n hb hx
  exact ⟨sl,(hs.2 b (ne b o e)).trans q⟩
 ·obtain ⟨o',q⟩:=u.there b o e hx
  exact ⟨o',(hs.2 b (ne b o e)).trans q⟩
 ·have hC:Hc s.heap.objs.size=none:=J.free
  refine (J.hok b ob e).stay (fun c w' hc q=>(hs.2 c ?_).trans q) (fun _ q=>q) fun _ _ q=>q
  rintro rfl
  rcases hc with z | hc
  ·rw [← z,hC] at e;cases e
  ·rw [hC] at hc;cases hc
end
theorem Inv.turns {X:Cx} {pins:List (Addr×Obj)} {σ:St} {H:Hp} {s:Shared} {h':Heap} {t':Nat} {ch:List Addr} (I:Inv X pins σ H s) (k:∀ b o,b∉ch→s.heap.get? b=some o→h'.get? b=some o) (hf:∀ b∈ch,zn0 X pins H b):Inv X pins σ H { s with heap:=h',toks:=t' }:=by
 refine I.call (g':=s.gens) (d':=s.drawn) (ch:=ch) ⟨fun b o e _ _ hx=>k b o hx e,fun b o e _ _ hx=>⟨o.slots,k b o hx e⟩,fun _ _ _ n _=>n,fun b o e hx=>⟨o,k b o hx e⟩,fun _ _ q=>q,fun _ _ _ q=>q,fun _ ps q=>⟨#[],by rw [q];simp⟩⟩ (fun b u e=>?_) I.bare
  fun b hb=>⟨(hf b hb).2.2.2.1,(hf b hb).2.1,(hf b hb).2.2.2.2.1,(hf b hb).2.2.2.2.2⟩
 refine (I.hok b u e).stay (fun c v hc q=>k c v (fun z=>?_) q) (fun _ q=>q) fun _ _ q=>q
 have n:=(hf c z).1
 rcases hc with r | r
 ·rw [r,e] at n;cases n
 ·rw [r] at n;cases n
theorem zkB {X:Cx} {pins:List (Addr×Obj)} {s:Shared} {σ:St} {H:Hp} {Q:VK} {sc:Scope} {N Nc:List Str} {cap:List (Option Nat)} {elt tg iter:Expr} {ifs:List Expr} {scope:Scope} {pos pos':Pos} {wi:TI} {g:TG} {tt:TT} {te:TE} {use:Option (Value→Sem Unit)} {QQ:Value→Shared→Prop}
  (hc:X.calm=true) (hsc:X.env.scope=sc) (hN:X.N=N) (B:zns sc N Nc cap scope) (hi:PI X tg iter wi)
  (hg:∀ cl s H fp,PG (X.blk Nc scope cl s H fp) tg g) (ht:∀ cl s H fp,PTs (X.blk Nc scope cl s H fp) ifs tt) (he:∀ cl s H fp,PE (X.blk Nc scope cl s H fp) elt te)
  (hs:∀ x,foldedSetIterable iter X.env x=pure x) (I:Inv X pins σ H s) (h:zgh wi g tt te cap σ H Q)
  (fin:∀ (s3:Shared) (H3:Hp) (cl:List (Str×Addr)) (fp:List Addr) (D:Addr) (σc:St) (Hc:Hp) (s6:Shared),Inv X pins σ H3 s3→(∀ b∈fp,zn0 X pins H3 b)→Inv (X.blk Nc scope cl s3 H3 fp) [] σc Hc s6→Q (.ref D) Hc→compPost (model X.prog X.w) X.A X.xe use QQ (.ref D) s3.heap.objs.size (.ok .next) s6) :
  wpAny (model X.prog X.w) X.A (comprehension (.ListComp elt [⟨tg,iter,ifs,0⟩] scope pos) scope X.env pos' (newList []) false (eval iter X.env) use) QQ X.xe s:=by
 subst hsc hN
 obtain ⟨cl,hclos,hsub,hfr⟩:=znB (scope:=scope) (env:=X.env) fun y hy hf=>I.ok.has y.1 (B.free y hy hf)
 refine wpAny_comprehension_free (use:=use) rfl hs hclos B.kind (fun y hy hl=>by rw [B.once y hy,hl]) (thn (hi pins s σ H _ I h) fun v s1 h1=>thn h1 fun itv s2 h2=>?_)
 obtain ⟨it,fp,tn,J,H2,rfl,I2,T,st2,f2,hw⟩:=h2
 refine wpAny_newObj_type ?_
 have hfree:H2 s2.heap.objs.size=none:=I2.hok.fresh (Nat.le_refl _)
 have I3:=I2.laid (t':=s2.toks) (o:=.lst []) (fun b u e=>Heap.get?_push_of_some { cls:=.type "list",dict:=none,data:=.seq ([]:List Value).toArray } e) (Nat.le_refl _) ⟨by decide,[],0,.nil,Heap.get?_push_size _ rfl⟩
 obtain ⟨W,⟨m0,w0⟩,turn⟩:=hw _ hfree
 have keep23:∀ b o,s2.heap.get? b=some o→(s2.heap.push { cls:=.type "list",dict:=none,data:=.seq ([]:List Value).toArray }).get? b=some o:=fun b o e=>Heap.get?_push_of_some _ e
 have hin:∀ b∈fp,b<s2.heap.objs.size:=fun b hb=>let ⟨o,e,_⟩:=T.obj 0 _ st2 b hb;Heap.lt_size e
 have f3:∀ b∈fp,zn0 X pins (upd H2 s2.heap.objs.size (.lst [])) b:=fun b hb=>⟨by rw [zaL (Nat.ne_of_lt (hin b hb))];exact (f2 b hb).1,(f2 b hb).2⟩
 have st3:=T.keep 0 _ _ st2 fun b _ o e=>keep23 b o e
 have hin3:∀ b∈fp,b<(s2.heap.push { cls:=.type "list",dict:=none,data:=.seq ([]:List Value).toArray }).objs.size:=fun b hb=>let ⟨o,e,_⟩:=T.obj 0 _ st3 b hb;Heap.lt_size e
 clear keep23 hin
 generalize s2.heap.push { cls:=.type "list",dict:=none,data:=.seq ([]:List Value).toArray }=h3 at I3 st3 hin3 ⊢
 generalize upd H2 s2.heap.objs.size (.lst [])=H3 at I3 f3 w0
 generalize s2.heap.objs.size=D at hfree w0 turn ⊢
 refine wpAny_newFunctionEnv B.nocell (by intro y hy;cases hy) (fun h1 hns hsb=>?_) B.kind
 have keep:∀ b o,h3.get? b=some o→h1.get? b=some o:=fun b o e=>(hsb.2 b (Nat.ne_of_lt (Heap.lt_size e))).trans (Heap.get?_push_of_some _ e)
 have I4:=zsK (tk:=s2.toks+([]:List (Str×Value)).length) I3 B hsub hfr f3 hin3 keep hns
 have st4:=T.keep 0 _ _ st3 fun b _ o e=>keep b o e
 have stat:∀ {H':Hp},(∀ b∈fp,H' b=none)→∀ b∈fp,zn0 (X.blk Nc scope cl { s2 with heap:=h3,toks:=s2.toks } H3 fp) [] H' b:=fun hn b hb =>
  ⟨hn b hb,Nat.ne_of_lt (hin3 b hb),fun z=>by
   rcases List.mem_cons.mp (I3.stkSub b z) with q | q
   ·exact (f3 b hb).2.1 q
   ·exact (f3 b hb).2.2.1 q,.inl hb,fun x c e=>(f3 b hb).2.2.2.2.1 x c (hsub x c e),by intro p hp;cases hp⟩
 have hcb:(X.blk Nc scope cl { s2 with heap:=h3,toks:=s2.toks } H3 fp).calm=true:=hc
 have loop:codeAny (model X.prog X.w) X.A (.compLoop (.ListComp elt [⟨tg,iter,ifs,0⟩] scope pos) 0 (.ref it) (.ref D) (compEnvC scope cl h3.objs.size X.env)) (compPost (model X.prog X.w) X.A X.xe use QQ (.ref D) h3.objs.size) { s2 with heap:=h1,toks:=s2.toks+([]:List (Str×Value)).length }:=by
  refine zk4 (fun n s'=>∃ i σ' H',Inv (X.blk Nc scope cl { s2 with heap:=h3,toks:=s2.toks } H3 fp) [] σ' H' s'∧tn i s'.heap∧(∀ b∈fp,H' b=none)∧W i n σ' H') rfl ?_ m0 ⟨0,_,H3,I4,st4,fun b hb=>(f3 b hb).1,w0⟩
  rintro n s5 ⟨i,σ5,H5,I5,st5,fr5,w5⟩
  rcases turn i n σ5 H5 w5 with ⟨stop,qn⟩ | ⟨go,N',hN',step⟩
  ·refine thn (T.done (X.blk Nc scope cl { s2 with heap:=h3,toks:=s2.toks } H3 fp) rfl rfl rfl hcb i [] s5 σ5 H5 _ I5 (stat fr5) st5 stop) fun r s6 hQ'=>?_
   obtain ⟨hr,I6⟩:=hQ'
   subst hr
   exact fin { s2 with heap:=h3,toks:=s2.toks } H3 cl fp D σ5 H5 s6 I3 f3 I6 qn
  ·refine thn (T.item (X.blk Nc scope cl { s2 with heap:=h3,toks:=s2.toks } H3 fp) rfl rfl rfl hcb i [] s5 σ5 H5 _ I5 (stat fr5) st5 go) fun r s6 hQ'=>?_
   obtain ⟨u,hr,h6⟩:=hQ'
   subst hr
   refine thn h6 fun _ s7 hQ'=>?_
   obtain ⟨x,H7,I7,r7,y7,st7,fr7⟩:=hQ'
   have I7':=I7.pinned (stat fr7) (T.obj _ _ st7)
   refine wpAny_mono (hg cl _ H3 fp _ s7 σ5 H7 x u _ I7' r7 (step x H7 y7)) (fun _ s8 hQ'=>?_) fun _ _ z=>z.elim
   obtain ⟨σ8,H8,I8,q8⟩:=hQ'
   have again:∀ {H9:Hp} {s9:Shared} {m:Nat},Inv (X.blk Nc scope cl { s2 with heap:=h3,toks:=s2.toks } H3 fp) ([]++zkx fp s7.heap) σ8 H9 s9→m<n→W (i+1) m σ8 H9→∃ m,m<n∧∃ i σ' H',Inv (X.blk Nc scope cl { s2 with heap:=h3,toks:=s2.toks } H3 fp) [] σ' H' s9∧tn i s9.heap∧(∀ b∈fp,H' b=none)∧W i m σ' H':=fun {H9 s9 m} I9 hm w9=>by
    refine ⟨m,hm,i+1,σ8,H9,I9.unpinned,T.keep _ _ _ st7 fun b hb o e=>(I9.pin (b,o) (List.mem_append_right _ (List.mem_append_right _ (zfO hb e)))).1,fun b hb=>?_,w9⟩
    obtain ⟨o,e,d⟩:=T.obj _ _ st7 b hb
    exact (I9.pin (b,o) (List.mem_append_right _ (List.mem_append_right _ (zfO hb e)))).2.1
   refine wpAny_mono (ht cl _ H3 fp _ s8 σ8 H8 _ I8 q8) (fun b s9 hQ'=>?_) fun _ _ z=>z.elim
   obtain ⟨H9,I9,q9⟩:=hQ'
   cases b with
   | false =>
    rw [if_neg (by decide)] at q9
    obtain ⟨m',hm,w9⟩:=hN' _ _ q9
    exact again I9 hm w9
   | true =>
    rw [if_pos rfl] at q9
    refine wpAny_mono (he cl _ H3 fp _ s9 σ8 H9 _ I9 q9) (fun u s10 hQ'=>?_) fun _ _ z=>z.elim
    obtain ⟨y,H10,I10,r10,q10⟩:=hQ'
    refine wpAny_mono (zdU (X:=X.blk Nc scope cl { s2 with heap:=h3,toks:=s2.toks } H3 fp) _ s10 σ8 H10 (.ref D) [y] (.ref D) [u] _ I10 rfl (.cons r10 .nil) q10) (fun _ s11 hQ'=>?_) fun _ _ z=>z.elim
    obtain ⟨_,H11,I11,_,q11⟩:=hQ'
    obtain ⟨m',hm,w11⟩:=hN' _ _ q11
    exact again I11 hm w11
 exact codeAny_compStart_list loop (T.self _ 0 _ _ _ st4 loop)
theorem zmw {X:Cx} {sc:Scope} {N Nc:List Str} {cap:List (Option Nat)} {elt tg iter:Expr} {ifs:List Expr} {scope:Scope} {pos:Pos} {wi:TI} {g:TG} {tt:TT} {te:TE} (hc:X.calm=true) (hsc:X.env.scope=sc) (hN:X.N=N) (B:zns sc N Nc cap scope) (hi:PI X tg iter wi)
  (hg:∀ cl s H fp,PG (X.blk Nc scope cl s H fp) tg g) (ht:∀ cl s H fp,PTs (X.blk Nc scope cl s H fp) ifs tt) (he:∀ cl s H fp,PE (X.blk Nc scope cl s H fp) elt te)
  (hs:∀ x,foldedSetIterable iter X.env x=pure x:=by intro _;rfl):PE X (.ListComp elt [⟨tg,iter,ifs,0⟩] scope pos) (zgh wi g tt te cap):=by
 intro pins s σ H Q I h
 rw [eval_ListComp]
 refine zkB hc hsc hN B hi hg ht he hs I h fun s3 H3 cl fp D σc Hc s6 I3 f3 I6 q=>?_
 obtain ⟨m,hn,_⟩:=id I6.loc
 exact ⟨m,hn,fun h' hs'=>⟨.ref D,Hc,zoR I3 f3 I6 hs',rfl,q⟩⟩
theorem zg0 {X:Cx} {i:Nat} {y:Str} {py spos:Pos} {sc:Scope} {N Nc:List Str} {cap:List (Option Nat)} {elt tg iter:Expr} {ifs:List Expr} {scope:Scope} {pos:Pos} {wi:TI} {g:TG} {tt:TT} {te:TE} (hnd:X.N.Nodup) (hix:X.N[i]?=some y) (hl:X.env.scope.names.lookup y=some .local)
  (hc:X.calm=true) (hsc:X.env.scope=sc) (hN:X.N=N) (B:zns sc N Nc cap scope) (hi:PI X tg iter wi)
  (hg:∀ cl s H fp,PG (X.blk Nc scope cl s H fp) tg g) (ht:∀ cl s H fp,PTs (X.blk Nc scope cl s H fp) ifs tt) (he:∀ cl s H fp,PE (X.blk Nc scope cl s H fp) elt te)
  (hsw:swapsWith (.ListComp elt [⟨tg,iter,ifs,0⟩] scope pos) (some (.Name y py)) spos.line X.env=pure true:=by rfl)
  (hs:∀ x,foldedSetIterable iter X.env x=pure x:=by intro _;rfl):PS X (.Assign [.Name y py] (.ListComp elt [⟨tg,iter,ifs,0⟩] scope pos) spos) (zbj (zgh wi g tt te cap) (zal i)):=by
 intro pins s σ H D0 I h
 rw [exec_Assign_Name_used _ _ _ _ hsw]
 refine wpAny_bind (wpAny_standAt (wpAny_bind (wpAny_bind (thn (zkB (use:=some (assign (.Name y py) X.env)) (QQ:=fun _ s'=>SP X pins D0 .next s') hc hsc hN B hi hg ht he hs I h fun s3 H3 cl fp D σc Hc s6 I3 f3 I6 q=>?_) fun _ s' hq=>wpAny_pure (wpAny_pure hq)))))
 have I6x:Inv X pins σ Hc s6:=zoR I3 f3 I6 (Heap.SameBut.refl ..)
 obtain ⟨m,hn,_⟩:=id I6.loc
 have hC:Hc s3.heap.objs.size=none:=I6.free
 have fpC:=I3.fpOk (b:=s3.heap.objs.size) (Nat.le_refl _) hC
 refine wpAny_assign_Name (zk1 I6x hnd hix (.inl hl) (v:=.ref D) rfl (fun s7 I7 ch=>?_) (.inr hl))
 obtain ⟨a,same,ha⟩:=ch
 have nC:s3.heap.objs.size≠a:=by
  rcases ha with r | r
  ·rw [r];exact fpC.2.1
  ·exact (fpC.2.2.2.2.1 _ _ r).symm
 refine ⟨m,hn.sameBut same nC,fun h' hs'=>⟨_,_,I7.turns (t':=s7.toks) (ch:=[s3.heap.objs.size]) (fun b o hb e=>(hs'.2 b (by simpa using hb)).trans e) fun b hb=>?_,q⟩⟩
 have e:b=s3.heap.objs.size:=by simpa using hb
 rw [e]
 exact fpC
theorem zpG {K:PySem.W.Frag} {a:Addr} {xs:List V} {g:TG} {tt:TT} {te:TE} {σ:St} {H:Hp} {D:Addr} {Q:VK} (Pv:Nat→List V→St→Hp→Prop) (h0:Pv 0 [] σ (upd H D (.lst []))) (hl:∀ i ys σ H,i≤xs.length→Pv i ys σ H→SqL K H a xs)
  (hs:∀ i x ys σ H,xs[i]?=some x→H D=some (.lst ys)→Pv i ys σ H→g x σ H fun σ2 H2=>tt σ2 H2 fun b H3=>if b=true then te σ2 H3 fun y H4=>zb3 (.ref D) [y] H4 fun _ H5=>∃ ys,H5 D=some (.lst ys)∧Pv (i+1) ys σ2 H5 else ∃ ys,H3 D=some (.lst ys)∧Pv (i+1) ys σ2 H3)
  (hd:∀ ys σ H,H D=some (.lst ys)→Pv xs.length ys σ H→Q (.ref D) H) :
  ∃ W:Nat→Nat→St→Hp→Prop,(∃ m,W 0 m σ (upd H D (.lst [])))∧∀ i m σc Hc,W i m σc Hc →
   ((Itl K a).stop i Hc∧Q (.ref D) Hc)∨((Itl K a).go i Hc∧∃ N:St→Hp→Prop,(∀ σ' H',N σ' H'→∃ m',m'<m∧W (i+1) m' σ' H')∧∀ x H',(Itl K a).yld i Hc x H'→g x σc H' fun σ2 H2=>tt σ2 H2 fun b H3=>if b=true then te σ2 H3 fun y H4=>zb3 (.ref D) [y] H4 fun _ H5=>N σ2 H5 else N σ2 H3):=by
 refine ⟨fun i m σ H=>m=xs.length - i∧i≤xs.length∧∃ ys,H D=some (.lst ys)∧Pv i ys σ H,⟨_,rfl,Nat.zero_le _,[],zae,h0⟩,?_⟩
 rintro i m σ H ⟨rfl,hi,ys,hD,pv⟩
 have q:=hl i ys σ H hi pv
 by_cases hlt:i<xs.length
 ·refine .inr ⟨⟨xs,xs[i],q,by simp [hlt]⟩,fun σ H=>∃ ys,H D=some (.lst ys)∧Pv (i+1) ys σ H,fun σ' H' p'=>⟨_,by (first|lia|omega),rfl,hlt,p'⟩,fun x H' yl=>?_⟩
  obtain ⟨e,yl⟩:=yl
  subst e
  exact hs i x ys σ _ (yl xs q) hD pv
 ·have e:i=xs.length:=by (first|lia|omega)
  subst e
  exact .inl ⟨⟨xs,q,Nat.le_refl _⟩,hd ys σ H hD pv⟩
theorem znt {lo:Int} {n:Nat} {g:TG} {tt:TT} {te:TE} {σ:St} {H:Hp} {D:Addr} {Q:VK} (Pv:Nat→List V→St→Hp→Prop) (h0:Pv 0 [] σ (upd H D (.lst [])))
  (hs:∀ i ys σ H,i<n→H D=some (.lst ys)→Pv i ys σ H→g (.int (lo+i)) σ H fun σ2 H2=>tt σ2 H2 fun b H3=>if b=true then te σ2 H3 fun y H4=>zb3 (.ref D) [y] H4 fun _ H5=>∃ ys,H5 D=some (.lst ys)∧Pv (i+1) ys σ2 H5 else ∃ ys,H3 D=some (.lst ys)∧Pv (i+1) ys σ2 H3)
  (hd:∀ ys σ H,H D=some (.lst ys)→Pv n ys σ H→Q (.ref D) H) :
  ∃ W:Nat→Nat→St→Hp→Prop,(∃ m,W 0 m σ (upd H D (.lst [])))∧∀ i m σc Hc,W i m σc Hc →
   ((Itr lo n).stop i Hc∧Q (.ref D) Hc)∨((Itr lo n).go i Hc∧∃ N:St→Hp→Prop,(∀ σ' H',N σ' H'→∃ m',m'<m∧W (i+1) m' σ' H')∧∀ x H',(Itr lo n).yld i Hc x H'→g x σc H' fun σ2 H2=>tt σ2 H2 fun b H3=>if b=true then te σ2 H3 fun y H4=>zb3 (.ref D) [y] H4 fun _ H5=>N σ2 H5 else N σ2 H3):=by
 refine ⟨fun i m σ H=>m=n - i∧i≤n∧∃ ys,H D=some (.lst ys)∧Pv i ys σ H,⟨_,rfl,Nat.zero_le _,[],zae,h0⟩,?_⟩
 rintro i m σ H ⟨rfl,hi,ys,hD,pv⟩
 by_cases hlt:i<n
 ·refine .inr ⟨hlt,fun σ H=>∃ ys,H D=some (.lst ys)∧Pv (i+1) ys σ H,fun σ' H' p'=>⟨_,by (first|lia|omega),rfl,hlt,p'⟩,fun x H' yl=>?_⟩
  obtain ⟨e,yl⟩:=yl
  subst e yl
  exact hs i ys σ _ hlt hD pv
 ·have e:i=n:=by (first|lia|omega)
  subst e
  exact .inl ⟨Nat.le_refl _,hd ys σ H hD pv⟩
end L2
namespace L2
open PySem PySem.Spec PyProof.Rows
def rSum (K:PySem.W.Frag):List V→Hp→VK→Prop:=fun xs H Q=>∃ (p:Addr) (ns:List Int),xs=[.ref p]∧SqL K H p (ns.map V.int)∧Q (.int ns.sum) H
section
variable {X:Cx}
theorem zsB {ns:List Int} {its:List Value} {i:Nat} {v:Value} (r:zck (ns.map V.int) its) (e:its.toArray[i]?=some v):∃ t,v=.int (ns.getD i 0) t:=by
 have l:=r.length
 rw [List.length_map] at l
 have e':its[i]?=some v:=by simpa using e
 have hi:i<ns.length:=by rw [l];exact (List.getElem?_eq_some_iff.mp e').1
 obtain ⟨u,hu,ru⟩:=r.get (i:=i) (x:=.int ns[i]) (by rw [List.getElem?_map,List.getElem?_eq_getElem hi];rfl)
 rw [e'] at hu
 cases hu
 obtain ⟨t,rfl⟩:=ru
 refine ⟨t,?_⟩
 rw [List.getD_eq_getElem?_getD,List.getElem?_eq_getElem hi]
 rfl
theorem zjg (ns:List Int):∀ k,k≤ns.length→preSum (fun i=>ns.getD i 0) k=(ns.take k).sum
 | 0,_=>by simp [preSum]
 | k+1,h=>by
  rw [preSum,zjg ns k (by (first|lia|omega)),List.take_add_one,List.getElem?_eq_getElem (by (first|lia|omega)),List.sum_append,List.getD_eq_getElem?_getD,List.getElem?_eq_getElem (by (first|lia|omega))]
  simp
theorem zqi (hc:X.calm=true):zgU X (.builtin "sum") (rSum X.K):=by
 intro pins s σ H xs us Q I r h
 obtain ⟨p,ns,rfl,hl,q⟩:=h
 obtain ⟨u,rfl,ru⟩:=r.one
 cases ru
 obtain ⟨its,rv,pl,_⟩:=I.list hl
 have l:=rv.length
 rw [List.length_map] at l
 obtain ⟨o,n,e,_⟩:=id pl
 have hlt:=Heap.lt_size e
 have hne:p≠s.heap.objs.size:=Nat.ne_of_lt hlt
 refine call_sum_walkG (wpAny_pyIter_list pl.isList ?_)
 refine ⟨s.heap.objs.size,_,_,_,_,_,fun i=>ns.getD i 0,rfl,Walks.list (A:=X.A.in1) (I.ok.hd hc) _ p hne its.toArray,⟨⟨_,Heap.get?_push_size _ rfl,rfl,rfl⟩,?_⟩,fun b hb=>?_,fun i v hv=>zsB rv hv,fun h' tk t' hk=>⟨.int _,H,I.kept fun b u eb=>?_,⟨t',rfl⟩,?_⟩⟩
 ·exact pl.isList.at fun o e=>Heap.get?_push_of_some _ e
 ·rw [Heap.size_push]
  rcases List.mem_cons.mp hb with z | z
  ·rw [z];exact Nat.lt_succ_self _
  ·have z':b=p:=by simpa using z
   rw [z'];exact Nat.lt_succ_of_lt hlt
 ·exact hk b u (fun z=>Nat.ne_of_lt (Heap.lt_size eb) (by simpa using z)) (Heap.get?_push_of_some _ eb)
 ·rw [List.size_toArray,← l,zjg _ _ (Nat.le_refl _),List.take_length]
  exact q
end
end L2
namespace L2
open PySem PySem.Spec PyProof.Rows
def Itz (K:PySem.W.Frag) (p q:Addr):It where
 go:=fun i H=>∃ xs ys a b,SqL K H p xs∧SqL K H q ys∧xs[i]?=some a∧ys[i]?=some b
 yld:=fun i H x H'=>∃ t a b,x=.ref t∧H t=none∧H'=upd H t (.tup [a,b])∧(∀ xs,SqL K H p xs→xs[i]?=some a)∧∀ ys,SqL K H q ys→ys[i]?=some b
 stop:=fun i H=>∃ xs ys,SqL K H p xs∧SqL K H q ys∧i=min xs.length ys.length
def tnZ (z TI TO i1 i2 p q:Addr) (i:Nat) (h:Heap):Prop:=IsZip h z TI TO .none∧IsPair h TI (.ref i1) (.ref i2)∧(∃ a b,IsPair h TO a b)∧h.IsListIter i1 p i∧h.IsListIter i2 q i
theorem zrv {z TI TO i1 i2 p q:Addr} {i:Nat} {h h':Heap} (st:tnZ z TI TO i1 i2 p q i h) (k:∀ b∈[z,TI,TO,i1,i2],∀ o,h.get? b=some o→h'.get? b=some o):tnZ z TI TO i1 i2 p q i h':=by
 obtain ⟨a1,a2,⟨x,y,a3⟩,a4,a5⟩:=st
 exact ⟨k z (by simp) _ a1,k TI (by simp) _ a2,⟨x,y,k TO (by simp) _ a3⟩,a4.at fun o e=>k i1 (by simp) o e,a5.at fun o e=>k i2 (by simp) o e⟩
theorem zda {o:Obj} {vs:Array Value} (h:o.data=.fields vs):∀ v,o.data≠.cell v:=fun v z=>by rw [h] at z;cases z
theorem zq0 {P:Program} {w:World} {K:PySem.W.Frag} {elts:List Expr} {k:Nat} {pos:Pos} {z TI TO i1 i2 p q:Addr} (D:ZipApart z TI TO i1 i2 p q):ztw P w K (.Tuple elts k pos) (Itz K p q) [z,TI,TO,i1,i2] z (tnZ z TI TO i1 i2 p q) where
 mem:=by simp
 obj:=fun i h st b hb=>by
  obtain ⟨a1,a2,⟨x,y,a3⟩,⟨o4,a4,_,d4⟩,⟨o5,a5,_,d5⟩⟩:=st
  simp only [List.mem_cons,List.not_mem_nil,or_false] at hb
  rcases hb with rfl | rfl | rfl | rfl | rfl
  ·exact ⟨_,a1,zda rfl⟩
  ·exact ⟨_,a2,fun v z=>nomatch (show Data.seq _ _=Data.cell v from z)⟩
  ·exact ⟨_,a3,fun v z=>nomatch (show Data.seq _ _=Data.cell v from z)⟩
  ·exact ⟨_,a4,zda d4⟩
  ·exact ⟨_,a5,zda d5⟩
 keep:=fun i h h' st kk=>zrv st kk
 item:=by
  intro X hP hw hK hc i pins s σ H E I hf st hg
  subst hP hw hK
  obtain ⟨xs,ys,a,b,hx,hy,ea,eb⟩:=hg
  obtain ⟨its1,r1,pl1,z1⟩:=I.list hx
  obtain ⟨its2,r2,pl2,z2⟩:=I.list hy
  obtain ⟨ua,eua,rua⟩:=r1.get ea
  obtain ⟨ub,eub,rub⟩:=r2.get eb
  obtain ⟨s1,s2,s3,s4,s5⟩:=st
  have W:=WalksT.zip2 (prog:=X.prog) (w:=X.w) (A:=X.A) (I.ok.hd hc) z TI TO i1 i2 p q D its1.toArray its2.toArray
  have hi:i<min its1.toArray.size its2.toArray.size:=by
   have h1:=(List.getElem?_eq_some_iff.mp eua).1
   have h2:=(List.getElem?_eq_some_iff.mp eub).1
   simp only [List.size_toArray]
   (first|lia|omega)
  refine W.item i s _ _ hi ⟨s1,s2,s3,s4,s5,pl1.isList,pl2.isList⟩ fun T vals h' tk hp hT hTup mid kk=>⟨_,rfl,?_⟩
  obtain ⟨u,v,e1,e2,rfl⟩:=hp
  have e1':u=ua:=by
   have:its1[i]?=some u:=by simpa using e1
   rw [eua] at this;cases this;rfl
  have e2':v=ub:=by
   have:its2[i]?=some v:=by simpa using e2
   rw [eub] at this;cases this;rfl
  subst e1' e2'
  refine W.go elts k pos i T { s with heap:=h',toks:=tk } _ _ mid fun h2 st2 kk2=>?_
  obtain ⟨t1,t2,t3,t4,t5,_,_⟩:=st2
  have sub:∀ b∈[z,TO,i1,i2],b∈[z,TI,TO,i1,i2]:=fun b hb=>by
   simp only [List.mem_cons,List.not_mem_nil,or_false] at hb ⊢
   rcases hb with h | h | h | h <;> simp [h]
  have I1:Inv X pins σ H { s with heap:=h2,toks:=tk }:=I.turns (ch:=[z,TO,i1,i2]) (fun b o hb e=>kk2 b o hb (kk b o hb e)) fun b hb=>hf b (sub b hb)
  have nT:H T=none:=I.hok.fresh hT
  have I2:=I1.track (a:=T) (o:=.tup [a,b]) nT (Heap.get?_none_of_le (Nat.le_trans I.sz hT)) (Nat.ne_of_gt (Nat.lt_of_lt_of_le I.lt hT)) (fun x c e=>by
   obtain ⟨v,q⟩:=I.cell x c e
   exact Nat.ne_of_lt (Nat.lt_of_lt_of_le q.lt hT)) (fun p hp=>Nat.ne_of_lt (Nat.lt_of_lt_of_le (Heap.lt_size (I.pin p hp).1) hT)) (by
   refine ⟨by show 2≤sizeLine;decide,[u,v],.cons rua (.cons rub .nil),?_⟩
   obtain ⟨o,ho,hcl,hd⟩:=hTup
   exact ⟨o,kk2 T o (W.apart i T h' mid) ho,hcl,hd⟩)
  refine ⟨.ref T,_,I2,rfl,⟨T,a,b,rfl,nT,rfl,fun xs' h'=>?_,fun ys' h'=>?_⟩,⟨t1,t2,t3,t4,t5⟩,fun b hb=>?_⟩
  ·rw [I.list_inj h' hx];exact ea
  ·rw [I.list_inj h' hy];exact eb
  ·have hb2:∃ o,s.heap.get? b=some o:=by
    obtain ⟨x3,y3,s3⟩:=s3
    obtain ⟨o4,s4,_⟩:=s4
    obtain ⟨o5,s5,_⟩:=s5
    simp only [List.mem_cons,List.not_mem_nil,or_false] at hb
    rcases hb with h | h | h | h | h <;> rw [h] <;> first | exact ⟨_,s1⟩ | exact ⟨_,s2⟩ | exact ⟨_,s3⟩ | exact ⟨_,s4⟩ | exact ⟨_,s5⟩
   obtain ⟨o,e⟩:=hb2
   rw [zaL (Nat.ne_of_lt (Nat.lt_of_lt_of_le (Heap.lt_size e) hT))]
   exact (hf b hb).1
 done:=by
  intro X hP hw hK hc i pins s σ H E I hf st hg
  subst hP hw hK
  obtain ⟨xs,ys,hx,hy,rfl⟩:=hg
  obtain ⟨its1,r1,pl1,z1⟩:=I.list hx
  obtain ⟨its2,r2,pl2,z2⟩:=I.list hy
  obtain ⟨s1,s2,s3,s4,s5⟩:=st
  have W:=WalksT.zip2 (prog:=X.prog) (w:=X.w) (A:=X.A) (I.ok.hd hc) z TI TO i1 i2 p q D its1.toArray its2.toArray
  have sub:∀ b∈[z,TO,i1,i2],b∈[z,TI,TO,i1,i2]:=fun b hb=>by
   simp only [List.mem_cons,List.not_mem_nil,or_false] at hb ⊢
   rcases hb with h | h | h | h <;> simp [h]
  refine W.done s _ _ ?_ fun h' tk kk=>⟨rfl,I.turns (ch:=[z,TO,i1,i2]) (fun b o hb e=>kk b o hb e) fun b hb=>hf b (sub b hb)⟩
  rw [List.size_toArray,List.size_toArray,← r1.length,← r2.length]
  exact ⟨s1,s2,s3,s4,s5,pl1.isList,pl2.isList⟩
 self:=fun A i s Q E st h=>wpAny_pyIter_zip st.1 h
def iZip (K:PySem.W.Frag) (ta:TA):TI:=fun σ H R=>ta σ H fun vs H1=>∃ p q,vs=[.ref p,.ref q]∧(∃ xs,SqL K H1 p xs)∧(∃ ys,SqL K H1 q ys)∧R (Itz K p q) H1
theorem zrR {X:Cx} {a b:Expr} {elts:List Expr} {k:Nat} {tp p pos:Pos} {ta:TA} (hg:Gl X "zip") (hm:X.mg "zip"=none) (ha:PA X [a,b] ta) (hs:starEach [a,b] X.env=[(false,eval a X.env),(false,eval b X.env)]:=by rfl) (hs2:starEach [b] X.env=[(false,eval b X.env)]:=by rfl) :
  PI X (.Tuple elts k tp) (.Call (.Name "zip" p) [a,b] [] pos) (iZip X.K ta):=by
 intro pins s σ H R I h
 refine Call_ (zht I hg hm boot_zip (PyProof.Rows.callWith_type1 (thn (ha pos pins s σ H _ I h) fun us s1 hQ'=>?_) (by rw [hs,hs2]) (by rw [hs2];rfl)))
 obtain ⟨vs,H1,I1,r1,q1⟩:=hQ'
 obtain ⟨p1,p2,rfl,⟨xs,hx⟩,⟨ys,hy⟩,q⟩:=q1
 obtain ⟨u,v,rfl,ru,rv⟩:=zpw r1
 cases ru
 cases rv
 obtain ⟨its1,_,pl1,_⟩:=I1.list hx
 obtain ⟨its2,_,pl2,_⟩:=I1.list hy
 have a1:p1<s1.heap.objs.size:=by obtain ⟨_,e,_⟩:=pl1.isList;exact Heap.lt_size e
 have a2:p2<s1.heap.objs.size:=by obtain ⟨_,e,_⟩:=pl2.isList;exact Heap.lt_size e
 refine call_zip_2 pl1.isList pl2.isList fun h' hz hTI hTO hi1 hi2 hsz hk=>?_
 refine wpAny_pyIter_zip hz ?_
 refine ⟨_,_,_,_,H1,rfl,I1.kept (t':=s1.toks) hk,zq0 (zipApart_new a1 a2),⟨hz,hTI,⟨_,_,hTO⟩,hi1,hi2⟩,fun b hb=>?_,q⟩
 have hb':s1.heap.objs.size≤b:=by
  simp only [List.mem_cons,List.not_mem_nil,or_false] at hb
  rcases hb with h | h | h | h | h <;> rw [h] <;> first | exact Nat.le_refl _ | exact Nat.le_add_right _ _
 exact I1.fpOk hb' (I1.hok.fresh hb')
theorem zsH {K:PySem.W.Frag} {p q:Addr} {xs ys:List V} {g:TG} {tb:TS} {D:zb8} {σ:St} {H:Hp} (Pv:Nat→St→Hp→Prop) (h0:Pv 0 σ H) (hl:∀ i σ H,i≤min xs.length ys.length→Pv i σ H→SqL K H p xs∧SqL K H q ys)
  (hs:∀ i x y t σ H,xs[i]?=some x→ys[i]?=some y→Pv i σ H→H t=none→g (.ref t) σ (upd H t (.tup [x,y])) fun σ2 H2=>tb { D with nx:=Pv (i+1),ct:=Pv (i+1),bk:=D.nx } σ2 H2) (hd:∀ σ H,Pv (min xs.length ys.length) σ H→D.nx σ H) :
  ∃ W:Nat→Nat→St→Hp→Prop,(∃ m,W 0 m σ H)∧∀ i m σ H,W i m σ H →
   ((Itz K p q).stop i H∧D.nx σ H)∨((Itz K p q).go i H∧∃ N:St→Hp→Prop,(∀ σ' H',N σ' H'→∃ m',m'<m∧W (i+1) m' σ' H')∧∀ x H',(Itz K p q).yld i H x H'→g x σ H' fun σ2 H2=>tb { D with nx:=N,ct:=N,bk:=D.nx } σ2 H2):=by
 refine ⟨fun i m σ H=>m=min xs.length ys.length - i∧i≤min xs.length ys.length∧Pv i σ H,⟨_,rfl,Nat.zero_le _,h0⟩,?_⟩
 rintro i m σ H ⟨rfl,hi,pv⟩
 obtain ⟨hx,hy⟩:=hl i σ H hi pv
 by_cases hlt:i<min xs.length ys.length
 ·have l1:i<xs.length:=by (first|lia|omega)
  have l2:i<ys.length:=by (first|lia|omega)
  refine .inr ⟨⟨xs,ys,xs[i],ys[i],hx,hy,by simp [l1],by simp [l2]⟩,Pv (i+1),fun σ' H' p'=>⟨_,by (first|lia|omega),rfl,hlt,p'⟩,fun x H' yl=>?_⟩
  obtain ⟨t,a,b,rfl,ht,rfl,e1,e2⟩:=yl
  exact hs i a b t σ H (e1 xs hx) (e2 ys hy) pv ht
 ·have e:i=min xs.length ys.length:=by (first|lia|omega)
  subst e
  exact .inl ⟨⟨xs,ys,hx,hy,rfl⟩,hd σ H pv⟩
end L2
namespace L2
open PySem PySem.Spec PyProof.Rows
inductive Tr where
 | int (i:Int)
 | bl (b:Bool)
 | str (x:Str)
 | non
 | lst (l:List Tr)
 | tup (l:List Tr)
inductive zef (K:PySem.W.Frag) (H:Hp):Nat→Tr→V→Prop where
 | int {n:Nat} (i:Int):zef K H n (.int i) (.int i)
 | bl {n:Nat} (b:Bool):zef K H n (.bl b) (.bl b)
 | str {n:Nat} (x:Str):zef K H n (.str x) (.str x)
 | non {n:Nat}:zef K H n .non .non
 | lst {n:Nat} {p:Addr} {xs:List V} {ts:List Tr} (h:SqL K H p xs) (l:xs.length=ts.length) (e:∀ (i:Nat) x t,xs[i]?=some x→ts[i]?=some t→zef K H n t x):zef K H (n+1) (.lst ts) (.ref p)
 | tup {n:Nat} {p:Addr} {xs:List V} {ts:List Tr} (h:SqT K H p xs) (l:xs.length=ts.length) (e:∀ (i:Nat) x t,xs[i]?=some x→ts[i]?=some t→zef K H n t x):zef K H (n+1) (.tup ts) (.ref p)
section
variable {X:Cx} {pins:List (Addr×Obj)} {σ:St} {H:Hp} {s:Shared}
theorem zfK {A:Around} {n:Nat} {xs ys:List V} {ts:List Tr} {us vs:List Value} (lx:xs.length=ts.length) (ly:ys.length=ts.length) (r1:zck xs us) (r2:zck ys vs)
  (ih:∀ (i:Nat) x t,xs[i]?=some x→ts[i]?=some t→∀ y,zef X.K H n t y→∀ (u v:Value) (A:Around),zcC x u→zcC y v→A.units+n<cLine→SeqAt.EqAt A s u v true)
  (ey:∀ (i:Nat) y t,ys[i]?=some y→ts[i]?=some t→zef X.K H n t y) (hu:A.units+(n+1)<cLine) :
  ∀ j (h1:j<us.toArray.size) (h2:j<vs.toArray.size),SeqAt.EqAt A.in1 s us.toArray[j] vs.toArray[j] true:=by
 intro j h1 h2
 have k1:j<xs.length:=by rw [r1.length];simpa using h1
 have k2:j<ys.length:=by rw [r2.length];simpa using h2
 have k3:j<ts.length:=by (first|lia|omega)
 obtain ⟨u,e1,ru⟩:=r1.get (List.getElem?_eq_getElem k1)
 obtain ⟨v,e2,rv⟩:=r2.get (List.getElem?_eq_getElem k2)
 have q1:us.toArray[j]=u:=by
  have:=(List.getElem?_eq_some_iff.mp e1).2
  simpa using this
 have q2:vs.toArray[j]=v:=by
  have:=(List.getElem?_eq_some_iff.mp e2).2
  simpa using this
 rw [q1,q2]
 exact ih j _ _ (List.getElem?_eq_getElem k1) (List.getElem?_eq_getElem k3) _ (ey j _ _ (List.getElem?_eq_getElem k2) (List.getElem?_eq_getElem k3)) u v A.in1 ru rv (by show A.units+1+n<cLine;(first|lia|omega))
theorem zfJ (n:Nat):(List.range n).all (fun _=>true)=true:=by simp
theorem zjJ (I:Inv X pins σ H s) {n:Nat} {t:Tr} {x:V} (hx:zef X.K H n t x):∀ y,zef X.K H n t y→∀ (u v:Value) (A:Around),zcC x u→zcC y v→A.units+n<cLine→SeqAt.EqAt A s u v true:=by
 induction hx with
 | int i =>
  intro y hy u v A ru rv hu
  cases hy
  obtain ⟨a,rfl⟩:=ru
  obtain ⟨b,rfl⟩:=rv
  have:=SeqAt.EqAt.int_int (A:=A) (s:=s) i a i b
  rw [beq_self_eq_true] at this
  exact this
 | bl b =>
  intro y hy u v A ru rv hu
  cases hy
  cases ru
  cases rv
  exact SeqAt.EqAt.same _
 | str x =>
  intro y hy u v A ru rv hu
  cases hy
  obtain ⟨a,rfl⟩:=ru
  obtain ⟨b,rfl⟩:=rv
  have:=SeqAt.EqAt.str_str (A:=A) (s:=s) x a x b
  rw [beq_self_eq_true] at this
  exact this
 | non =>
  intro y hy u v A ru rv hu
  cases hy
  cases ru
  cases rv
  exact SeqAt.EqAt.same _
 | @lst n p xs ts h l e ih =>
  intro y hy u v A ru rv hu
  cases hy with
  | @lst _ q ys _ h2 l2 e2 =>
   cases ru
   cases rv
   by_cases hpq:p=q
   ·subst hpq
    exact SeqAt.EqAt.same _
   ·obtain ⟨us,r1,p1,_⟩:=I.list h
    obtain ⟨vs,r2,p2,_⟩:=I.list h2
    have z:=SeqAt.RcAt.lists (A:=A) p1.isList p2.isList (by rw [List.size_toArray,List.size_toArray,← r1.length,← r2.length,l,l2]) (by (first|lia|omega)) (e:=fun _=>true) (zfK l l2 r1 r2 ih e2 hu)
    rw [zfJ] at z
    exact SeqAt.EqAt.of_refs hpq z
 | @tup n p xs ts h l e ih =>
  intro y hy u v A ru rv hu
  cases hy with
  | @tup _ q ys _ h2 l2 e2 =>
   cases ru
   cases rv
   by_cases hpq:p=q
   ·subst hpq
    exact SeqAt.EqAt.same _
   ·obtain ⟨us,r1,p1,_⟩:=I.tuple h
    obtain ⟨vs,r2,p2,_⟩:=I.tuple h2
    have z:=SeqAt.RcAt.tuples (A:=A) p1 p2 (by (first|lia|omega)) (e:=fun _=>true) (zfK l l2 r1 r2 ih e2 hu)
    rw [zfJ,List.size_toArray,List.size_toArray,← r1.length,← r2.length,l,l2,beq_self_eq_true,Bool.and_self] at z
    exact SeqAt.EqAt.of_refs hpq z
def rEqD (K:PySem.W.Frag):R2:=fun x y H Q=>∃ n ts,n≤60∧(zef K H (n+1) (.lst ts) x∧zef K H (n+1) (.lst ts) y∨zef K H (n+1) (.tup ts) x∧zef K H (n+1) (.tup ts) y)∧Q (.bl true) H
def rNeD (K:PySem.W.Frag):R2:=fun x y H Q=>∃ n ts,n≤60∧(zef K H (n+1) (.lst ts) x∧zef K H (n+1) (.lst ts) y∨zef K H (n+1) (.tup ts) x∧zef K H (n+1) (.tup ts) y)∧Q (.bl false) H
theorem ztu (hu:X.A.units+64<cLine):OpR X (compareOp .Eq) (rEqD X.K):=by
 intro pins s σ H x y v u Q I rx ry h
 obtain ⟨n,ts,hn,h,q⟩:=h
 have hu':X.A.units+(n+1)<cLine:=by (first|lia|omega)
 rcases h with ⟨h1,h2⟩ | ⟨h1,h2⟩
 ·cases h1 with
  | @lst _ p xs _ a1 a2 a3 =>
   cases h2 with
   | @lst _ p' ys _ b1 b2 b3 =>
    cases rx
    cases ry
    obtain ⟨us,r1,p1,_⟩:=I.list a1
    obtain ⟨vs,r2,p2,_⟩:=I.list b1
    have z:=SeqAt.RcAt.lists (A:=X.A) p1.isList p2.isList (by rw [List.size_toArray,List.size_toArray,← r1.length,← r2.length,a2,b2]) (by (first|lia|omega)) (e:=fun _=>true) (zfK a2 b2 r1 r2 (fun i x t e1 e2=>zjJ I (a3 i x t e1 e2)) b3 hu')
    rw [zfJ] at z
    exact z X.prog X.w X.xe _ ⟨.bl true,H,I,rfl,q⟩
 ·cases h1 with
  | @tup _ p xs _ a1 a2 a3 =>
   cases h2 with
   | @tup _ p' ys _ b1 b2 b3 =>
    cases rx
    cases ry
    obtain ⟨us,r1,p1,_⟩:=I.tuple a1
    obtain ⟨vs,r2,p2,_⟩:=I.tuple b1
    have z:=SeqAt.RcAt.tuples (A:=X.A) p1 p2 (by (first|lia|omega)) (e:=fun _=>true) (zfK a2 b2 r1 r2 (fun i x t e1 e2=>zjJ I (a3 i x t e1 e2)) b3 hu')
    rw [zfJ,List.size_toArray,List.size_toArray,← r1.length,← r2.length,a2,b2,beq_self_eq_true,Bool.and_self] at z
    exact z X.prog X.w X.xe _ ⟨.bl true,H,I,rfl,q⟩
theorem ztK (hu:X.A.units+64<cLine):OpR X (compareOp .NotEq) (rNeD X.K):=by
 intro pins s σ H x y v u Q I rx ry h
 obtain ⟨n,ts,hn,h,q⟩:=h
 have hu':X.A.units+(n+1)<cLine:=by (first|lia|omega)
 rcases h with ⟨h1,h2⟩ | ⟨h1,h2⟩
 ·cases h1 with
  | @lst _ p xs _ a1 a2 a3 =>
   cases h2 with
   | @lst _ p' ys _ b1 b2 b3 =>
    cases rx
    cases ry
    obtain ⟨us,r1,p1,_⟩:=I.list a1
    obtain ⟨vs,r2,p2,_⟩:=I.list b1
    have z:=SeqAt.RcNeAt.lists (A:=X.A) p1.isList p2.isList (by rw [List.size_toArray,List.size_toArray,← r1.length,← r2.length,a2,b2]) (by (first|lia|omega)) (e:=fun _=>true) (zfK a2 b2 r1 r2 (fun i x t e1 e2=>zjJ I (a3 i x t e1 e2)) b3 hu')
    rw [zfJ] at z
    exact z X.prog X.w X.xe _ ⟨.bl false,H,I,rfl,q⟩
 ·cases h1 with
  | @tup _ p xs _ a1 a2 a3 =>
   cases h2 with
   | @tup _ p' ys _ b1 b2 b3 =>
    cases rx
    cases ry
    obtain ⟨us,r1,p1,_⟩:=I.tuple a1
    obtain ⟨vs,r2,p2,_⟩:=I.tuple b1
    have z:=SeqAt.RcNeAt.tuples (A:=X.A) p1 p2 (by (first|lia|omega)) (e:=fun _=>true) (zfK a2 b2 r1 r2 (fun i x t e1 e2=>zjJ I (a3 i x t e1 e2)) b3 hu')
    rw [zfJ,List.size_toArray,List.size_toArray,← r1.length,← r2.length,a2,b2,beq_self_eq_true,Bool.and_self] at z
    exact z X.prog X.w X.xe _ ⟨.bl false,H,I,rfl,q⟩
end
end L2
namespace L2
open PySem PySem.Spec PyProof.Rows
section
variable {X:Cx}
end
def zoX (J:It) (g:TG) (tt:TT) (te:TE) (D:Addr) (Q:VK) (σ:St) (H:Hp):Prop:=∃ W:Nat→Nat→St→Hp→Prop,(∃ m,W 0 m σ H)∧∀ i m σc Hc,W i m σc Hc →
 (J.stop i Hc∧Q (.ref D) Hc)∨(J.go i Hc∧∃ N:St→Hp→Prop,(∀ σ' H',N σ' H'→∃ m',m'<m∧W (i+1) m' σ' H')∧∀ x H',J.yld i Hc x H'→g x σc H' fun σ2 H2=>tt σ2 H2 fun b H3=>if b=true then te σ2 H3 fun y H4=>zb3 (.ref D) [y] H4 fun _ H5=>N σ2 H5 else N σ2 H3)
theorem zmW {wi:TI} {g:TG} {tt:TT} {te:TE} {cap:List (Option Nat)} {σ:St} {H:Hp} {Q:VK}:zgh wi g tt te cap σ H Q=wi σ H fun J H1=>∀ D,H1 D=none→zoX J g tt te D Q (zse cap σ) (upd H1 D (.lst [])):=rfl
theorem zjb {K:PySem.W.Frag} {a:Addr} {xs:List V} {g:TG} {tt:TT} {te:TE} {σ:St} {H:Hp} {D:Addr} {Q:VK} (Pv:Nat→List V→St→Hp→Prop) (h0:Pv 0 [] σ (upd H D (.lst []))) (hl:∀ i ys σ H,i≤xs.length→Pv i ys σ H→SqL K H a xs)
  (hs:∀ i x ys σ H,xs[i]?=some x→H D=some (.lst ys)→Pv i ys σ H→g x σ H fun σ2 H2=>tt σ2 H2 fun b H3=>if b=true then te σ2 H3 fun y H4=>zb3 (.ref D) [y] H4 fun _ H5=>∃ ys,H5 D=some (.lst ys)∧Pv (i+1) ys σ2 H5 else ∃ ys,H3 D=some (.lst ys)∧Pv (i+1) ys σ2 H3)
  (hd:∀ ys σ H,H D=some (.lst ys)→Pv xs.length ys σ H→Q (.ref D) H):zoX (Itl K a) g tt te D Q σ (upd H D (.lst [])):=zpG Pv h0 hl hs hd
theorem zeP {lo:Int} {n:Nat} {g:TG} {tt:TT} {te:TE} {σ:St} {H:Hp} {D:Addr} {Q:VK} (Pv:Nat→List V→St→Hp→Prop) (h0:Pv 0 [] σ (upd H D (.lst [])))
  (hs:∀ i ys σ H,i<n→H D=some (.lst ys)→Pv i ys σ H→g (.int (lo+i)) σ H fun σ2 H2=>tt σ2 H2 fun b H3=>if b=true then te σ2 H3 fun y H4=>zb3 (.ref D) [y] H4 fun _ H5=>∃ ys,H5 D=some (.lst ys)∧Pv (i+1) ys σ2 H5 else ∃ ys,H3 D=some (.lst ys)∧Pv (i+1) ys σ2 H3)
  (hd:∀ ys σ H,H D=some (.lst ys)→Pv n ys σ H→Q (.ref D) H):zoX (Itr lo n) g tt te D Q σ (upd H D (.lst [])):=znt Pv h0 hs hd
theorem zrx {K:PySem.W.Frag} {p q:Addr} {xs ys:List V} {g:TG} {tb:TS} {D:zb8} {σ:St} {H:Hp} (Pv:Nat→St→Hp→Prop) (h0:Pv 0 σ H) (hl:∀ i σ H,i≤min xs.length ys.length→Pv i σ H→SqL K H p xs∧SqL K H q ys)
  (hs:∀ i x y t σ H,xs[i]?=some x→ys[i]?=some y→Pv i σ H→H t=none→g (.ref t) σ (upd H t (.tup [x,y])) fun σ2 H2=>tb { D with nx:=Pv (i+1),ct:=Pv (i+1),bk:=D.nx } σ2 H2) (hd:∀ σ H,Pv (min xs.length ys.length) σ H→D.nx σ H):zoG (Itz K p q) g tb D σ H:=zsH Pv h0 hl hs hd
end L2
namespace L2
open PySem PySem.Spec PyProof.Rows
section
variable {X:Cx}
def zhd:V→List V→Hp→VK→Prop:=fun x vs H Q=>∃ l xs k y,x=.ref l∧vs=[.int k,y]∧H l=some (.lst xs)∧0≤k∧k≤(xs.length:Int)∧xs.length<1000000∧Q .non (upd H l (.lst (xs.take k.toNat++y::xs.drop k.toNat)))
theorem zlA {xs:List V} {us:List Value} (r:zck xs us):∀ n:Nat,zck (xs.take n) (us.take n)∧zck (xs.drop n) (us.drop n):=by
 induction r with
 | nil=>intro n;rw [List.take_nil,List.take_nil,List.drop_nil,List.drop_nil];exact ⟨.nil,.nil⟩
 | cons h t ih =>
  intro n
  cases n with
  | zero=>exact ⟨.nil,.cons h t⟩
  | succ n=>exact ⟨.cons h (ih n).1,(ih n).2⟩
theorem zkR:MtM X "list.insert" zhd:=by
 intro pins s σ H x vs v us Q I rx rv h
 obtain ⟨l,xs,k,y,rfl,rfl,hH,k0,k1,hz,q⟩:=h
 cases rx
 obtain ⟨u,w,rfl,ru,rw'⟩:=zpw rv
 obtain ⟨tk,rfl⟩:=ru
 obtain ⟨z,its,n,r,hl,e⟩:=I.lstM hH
 have lr:=r.length
 have fit:¬(!Builtin.List.listFitsIndex k)=true:=by
  have:Builtin.List.listFitsIndex k=true:=by
   unfold Builtin.List.listFitsIndex
   simp only [Bool.and_eq_true,decide_eq_true_eq]
   (first|lia|omega)
  rw [this]
  decide
 refine call_meets F.slot_list_insert ⟨_,e,rfl⟩ F.entry_list_insert (F.args_list_insert_3 _ _ _) (AutoSeq1.list_insert_list_int_val_1 l its.toArray n k tk w fit (by rw [List.size_toArray];(first|lia|omega))) ⟨e,?_⟩
 refine ⟨.non,_,I.lset (its':=its.take k.toNat++w::its.drop k.toNat) hH e ?_ ((zlA r _).1.append (.cons rw' (zlA r _).2)) ?_,rfl,q⟩
 ·have e1:(if k<0 then (k+(its.toArray.size:Int)).toNat else min k.toNat its.toArray.size)=k.toNat:=by
   rw [if_neg (by (first|lia|omega)),List.size_toArray,← lr]
   (first|lia|omega)
  simp only [e1]
  apply Array.toList_inj.mp
  simp
  exact List.take_of_length_le (by rw [List.length_drop];exact Nat.le_refl _)
 ·rw [List.length_append,List.length_cons,List.length_take,List.length_drop]
  have:(1000000:Nat)≤sizeLine:=by decide
  (first|lia|omega)
end
end L2
namespace L2
open PySem PySem.Spec PyProof.Rows
def tRev (K:PySem.W.Frag) (te:TE) (tk:TO):TE:=fun σ H Q=>te σ H fun x H1=>tk σ H1 fun k H2=>k=some (-1)∧∃ a xs,x=.ref a∧SqL K H2 a xs∧∀ p,H2 p=none→Q (.ref p) (upd H2 p (.lst xs.reverse))
section
variable {X:Cx} {e:Expr} {te:TE} {st:Expr} {tk:TO} {p2 pos:Pos}
theorem zty (he:PE X e te) (hk:PO X (some st) tk):PE X (.Subscript e (.Slice none none (some st) p2) pos) (tRev X.K te tk):=by
 intro pins s σ H Q I h
 refine Subscript_ (thn (he pins s σ H _ I h) fun v s1 hQ'=>?_)
 obtain ⟨x,H1,I1,r1,q1⟩:=hQ'
 refine wpAny_Slice ?_
 rw [evalPart_none]
 refine wpAny_pure (wpAny_pure (thn (hk pins s1 σ H1 _ I1 q1) fun vk s3 hQ'=>?_))
 obtain ⟨k,H3,I3,pk,q3⟩:=hQ'
 obtain ⟨rfl,a,xs,rfl,hx,q⟩:=q3
 cases r1
 have I4:Inv X pins σ H3 { s3 with heap:=s3.heap.push { cls:=.type "slice",data:=.fields #[.none,.none,vk] } }:=I3.kept (t':=s3.toks) fun b ob q=>Heap.get?_push_of_some _ q
 obtain ⟨its,r,ht,hz⟩:=I4.list hx
 have hlen:=r.length
 refine tail_any (ops:=[.ref a,.ref s3.heap.objs.size]) ht.isList.typeIs slot_list_getitem.lookup ?_ (by with_unfolding_all rfl)
 refine wpAny_getItem_list_slice ht.isList (Heap.IsSliceOf.new ..) .none .none pk (by decide) ?_ (by rw [List.size_toArray] <;> (first|lia|omega))
 rw [PySem.W.krv_pick]
 refine ⟨.ref _,_,I4.laid (t':=s3.toks) (o:=.lst xs.reverse) (fun b ob q=>Heap.get?_push_of_some _ q) (Nat.le_refl _) ?_,rfl,q _ (I4.hok.fresh (Nat.le_refl _))⟩
 exact ⟨by rw [List.length_reverse];exact hz,_,0,r.reverse,Heap.get?_push_size _ rfl⟩
end
end L2
namespace L2
open PySem PySem.Spec PyProof.Rows
theorem zrB:bootBuiltins "enumerate"=some (.type "enumerate"):=by decide +kernel
def Ite (K:PySem.W.Frag) (p:Addr):It where
 go:=fun i H=>∃ xs a,SqL K H p xs∧xs[i]?=some a
 yld:=fun i H x H'=>∃ t a,x=.ref t∧H t=none∧H'=upd H t (.tup [.int (i:Int),a])∧∀ xs,SqL K H p xs→xs[i]?=some a
 stop:=fun i H=>∃ xs,SqL K H p xs∧i=xs.length
def tnE (e it p:Addr) (i:Nat) (h:Heap):Prop:=(∃ old,IsEnum h e it i old)∧h.IsListIter it p i
theorem zlm {e it p:Addr} {i:Nat} {h:Heap} (st:tnE e it p i h):∀ b∈[e,it],∃ o,h.get? b=some o∧∀ v,o.data≠.cell v:=fun b hb=>by
 obtain ⟨⟨old,a1⟩,⟨o2,a2,_,d2⟩⟩:=st
 simp only [List.mem_cons,List.not_mem_nil,or_false] at hb
 rcases hb with rfl | rfl
 ·exact ⟨_,a1,zda rfl⟩
 ·exact ⟨_,a2,zda d2⟩
theorem zoo {P:Program} {w:World} {K:PySem.W.Frag} {elts:List Expr} {k:Nat} {pos:Pos} {e it p:Addr} (d1:e≠it) (d2:p≠e) (d3:p≠it):ztw P w K (.Tuple elts k pos) (Ite K p) [e,it] e (tnE e it p) where
 mem:=by simp
 obj:=fun i h st=>zlm st
 keep:=fun i h h' st kk=>by
  obtain ⟨⟨old,a1⟩,a2⟩:=st
  exact ⟨⟨old,kk e (by simp) _ a1⟩,a2.at fun o x=>kk it (by simp) o x⟩
 item:=by
  intro X hP hw hK hc i pins s σ H E I hf st hg
  subst hP hw hK
  obtain ⟨xs,a,hx,ea⟩:=hg
  obtain ⟨its,r1,pl1,z1⟩:=I.list hx
  obtain ⟨ua,eua,rua⟩:=r1.get ea
  have there:=zlm st
  obtain ⟨s1,s2⟩:=st
  have W:=WalksT.enumerate (prog:=X.prog) (w:=X.w) (A:=X.A) (I.ok.hd hc) e it p d1 d2 d3 its.toArray
  have hi:i<its.toArray.size:=by
   have h1:=(List.getElem?_eq_some_iff.mp eua).1
   rw [List.size_toArray]
   exact h1
  refine W.item i s _ _ hi ⟨s1,s2,pl1.isList⟩ fun T vals h' tk hp hT hTup mid kk=>⟨_,rfl,?_⟩
  obtain ⟨t,u,e1,rfl⟩:=hp
  have e1':u=ua:=by
   have:its[i]?=some u:=by simpa using e1
   rw [eua] at this;cases this;rfl
  subst e1'
  refine W.go elts k pos i T { s with heap:=h',toks:=tk } _ _ mid fun h2 st2 kk2=>?_
  obtain ⟨t1,t2,_⟩:=st2
  have I1:Inv X pins σ H { s with heap:=h2,toks:=tk }:=I.turns (ch:=[e,it]) (fun b o hb q=>kk2 b o hb (kk b o hb q)) fun b hb=>hf b hb
  have nT:H T=none:=I.hok.fresh hT
  have I2:=I1.track (a:=T) (o:=.tup [.int (i:Int),a]) nT (Heap.get?_none_of_le (Nat.le_trans I.sz hT)) (Nat.ne_of_gt (Nat.lt_of_lt_of_le I.lt hT)) (fun x c q=>by
   obtain ⟨v,z⟩:=I.cell x c q
   exact Nat.ne_of_lt (Nat.lt_of_lt_of_le z.lt hT)) (fun y hy=>Nat.ne_of_lt (Nat.lt_of_lt_of_le (Heap.lt_size (I.pin y hy).1) hT)) (by
   refine ⟨by show 2≤sizeLine;decide,[.int i t,u],.cons ⟨t,rfl⟩ (.cons rua .nil),?_⟩
   obtain ⟨o,ho,hcl,hd⟩:=hTup
   exact ⟨o,kk2 T o (W.apart i T h' mid) ho,hcl,hd⟩)
  refine ⟨.ref T,_,I2,rfl,⟨T,a,rfl,nT,rfl,fun xs' h'=>?_⟩,⟨t1,t2⟩,fun b hb=>?_⟩
  ·rw [I.list_inj h' hx];exact ea
  ·obtain ⟨o,q,_⟩:=there b hb
   rw [zaL (Nat.ne_of_lt (Nat.lt_of_lt_of_le (Heap.lt_size q) hT))]
   exact (hf b hb).1
 done:=by
  intro X hP hw hK hc i pins s σ H E I hf st hg
  subst hP hw hK
  obtain ⟨xs,hx,rfl⟩:=hg
  obtain ⟨its,r1,pl1,z1⟩:=I.list hx
  obtain ⟨s1,s2⟩:=st
  have W:=WalksT.enumerate (prog:=X.prog) (w:=X.w) (A:=X.A) (I.ok.hd hc) e it p d1 d2 d3 its.toArray
  refine W.done s _ _ ?_ fun h' tk kk=>⟨rfl,I.turns (ch:=[e,it]) (fun b o hb q=>kk b o hb q) fun b hb=>hf b hb⟩
  rw [List.size_toArray,← r1.length]
  exact ⟨s1,s2,pl1.isList⟩
 self:=fun A i s Q E st h=>by
  obtain ⟨⟨old,a1⟩,_⟩:=st
  exact wpAny_pyIter_enum a1 h
def znx (K:PySem.W.Frag) (ta:TA):TI:=fun σ H R=>ta σ H fun vs H1=>∃ p,vs=[.ref p]∧(∃ xs,SqL K H1 p xs)∧R (Ite K p) H1
theorem zmc {X:Cx} {a:Expr} {elts:List Expr} {k:Nat} {tp p pos:Pos} {ta:TA} (hg:Gl X "enumerate") (hm:X.mg "enumerate"=none) (ha:PA X [a] ta) (hs:starEach [a] X.env=[(false,eval a X.env)]:=by rfl) :
  PI X (.Tuple elts k tp) (.Call (.Name "enumerate" p) [a] [] pos) (znx X.K ta):=by
 intro pins s σ H R I h
 refine Call_ (zht I hg hm zrB (PyProof.Rows.callWith_type1 (thn (ha pos pins s σ H _ I h) fun us s1 hQ'=>?_) (by rw [hs];rfl) rfl))
 obtain ⟨vs,H1,I1,r1,q1⟩:=hQ'
 obtain ⟨p1,rfl,⟨xs,hx⟩,q⟩:=q1
 obtain ⟨u,rfl,ru⟩:=r1.one
 cases ru
 obtain ⟨its,_,pl1,_⟩:=I1.list hx
 have a1:p1<s1.heap.objs.size:=by obtain ⟨_,e,_⟩:=pl1.isList;exact Heap.lt_size e
 refine call_enumerate_list pl1.isList fun h' he hi hsz hk=>?_
 refine wpAny_pyIter_enum he ?_
 refine ⟨_,_,_,_,H1,rfl,I1.kept (t':=s1.toks) hk,zoo (Nat.succ_ne_self _) (Nat.ne_of_lt (Nat.lt_succ_of_lt a1)) (Nat.ne_of_lt a1),⟨⟨_,he⟩,hi⟩,fun b hb=>?_,q⟩
 have hb':s1.heap.objs.size≤b:=by
  simp only [List.mem_cons,List.not_mem_nil,or_false] at hb
  rcases hb with h | h <;> rw [h] <;> first | exact Nat.le_refl _ | exact Nat.le_add_right _ _
 exact I1.fpOk hb' (I1.hok.fresh hb')
theorem zhP {K:PySem.W.Frag} {p:Addr} {xs:List V} {g:TG} {tb:TS} {D:zb8} {σ:St} {H:Hp} (Pv:Nat→St→Hp→Prop) (h0:Pv 0 σ H) (hl:∀ i σ H,i≤xs.length→Pv i σ H→SqL K H p xs)
  (hs:∀ i x t σ H,xs[i]?=some x→Pv i σ H→H t=none→g (.ref t) σ (upd H t (.tup [.int (i:Int),x])) fun σ2 H2=>tb { D with nx:=Pv (i+1),ct:=Pv (i+1),bk:=D.nx } σ2 H2) (hd:∀ σ H,Pv xs.length σ H→D.nx σ H):zoG (Ite K p) g tb D σ H:=by
 refine ⟨fun i m σ H=>m=xs.length - i∧i≤xs.length∧Pv i σ H,⟨_,rfl,Nat.zero_le _,h0⟩,?_⟩
 rintro i m σ H ⟨rfl,hi,pv⟩
 have hx:=hl i σ H hi pv
 by_cases hlt:i<xs.length
 ·refine .inr ⟨⟨xs,xs[i],hx,by simp [hlt]⟩,Pv (i+1),fun σ' H' p'=>⟨_,by (first|lia|omega),rfl,hlt,p'⟩,fun x H' yl=>?_⟩
  obtain ⟨t,a,rfl,ht,rfl,e1⟩:=yl
  exact hs i a t σ H (e1 xs hx) pv ht
 ·have e:i=xs.length:=by (first|lia|omega)
  subst e
  exact .inl ⟨⟨xs,hx,rfl⟩,hd σ H pv⟩
end L2
namespace L2
open PySem PySem.Spec PyProof.Rows
section
variable {κ:Type} [DecidableEq κ]
def zdJ (kvs:List (κ×V)) (k:κ):Option V:=(kvs.find? fun kv=>decide (kv.1=k)).map (·.2)
def zd8 (kvs:List (κ×V)) (k:κ) (v:V):List (κ×V) :=
 if (kvs.any fun kv=>decide (kv.1=k))=true then kvs.map (fun kv=>if kv.1=k then (kv.1,v) else kv) else kvs++[(k,v)]
theorem zqs {k:κ}:zdJ ([]:List (κ×V)) k=none:=rfl
theorem zcT {p:κ×V} {r:List (κ×V)} {k:κ} (e:p.1=k):zdJ (p::r) k=some p.2:=by simp [zdJ,List.find?_cons,e]
theorem zcp {p:κ×V} {r:List (κ×V)} {k:κ} (e:¬ p.1=k):zdJ (p::r) k=zdJ r k:=by simp [zdJ,List.find?_cons,e]
theorem zfL (k:κ):∀ kvs:List (κ×V),(kvs.any fun kv=>decide (kv.1=k))=(zdJ kvs k).isSome
 | []=>rfl
 | p::r=>by
  rw [List.any_cons]
  by_cases e:p.1=k
  ·simp only [zcT e,decide_eq_true e,Bool.true_or,Option.isSome_some]
  ·rw [zcp e,decide_eq_false e,Bool.false_or];exact zfL k r
theorem zmP (k j:κ) (y:V):∀ kvs:List (κ×V),zdJ (kvs.map fun kv=>if kv.1=k then (kv.1,y) else kv) j=(zdJ kvs j).map fun x=>if j=k then y else x
 | []=>rfl
 | p::r=>by
  have ih:=zmP k j y r
  rw [List.map_cons]
  by_cases h:p.1=k
  ·rw [if_pos h]
   by_cases e:p.1=j
   ·rw [zcT (p:=(p.1,y)) e,zcT e,Option.map_some,if_pos (e.symm.trans h)]
   ·rw [zcp (p:=(p.1,y)) e,zcp e,ih]
  ·rw [if_neg h]
   by_cases e:p.1=j
   ·rw [zcT (p:=p) e,zcT e,Option.map_some,if_neg (fun z=>h (e.trans z))]
   ·rw [zcp (p:=p) e,zcp e,ih]
theorem zkv (k j:κ) (y:V):∀ kvs:List (κ×V),zdJ kvs k=none→zdJ (kvs++[(k,y)]) j=if j=k then some y else zdJ kvs j
 | [],_=>by
  by_cases e:k=j
  ·rw [if_pos e.symm];exact zcT (p:=(k,y)) e
  ·rw [if_neg (fun z=>e z.symm)];exact zcp (p:=(k,y)) e
 | p::r,hn=>by
  rw [List.cons_append]
  have hk:¬ p.1=k:=fun z=>by rw [zcT z] at hn;cases hn
  rw [zcp hk] at hn
  have ih:=zkv k j y r hn
  by_cases e:p.1=j
  ·rw [zcT e,zcT e,if_neg (fun z=>hk (e.trans z))]
  ·rw [zcp e,zcp e,ih]
theorem zd9 (kvs:List (κ×V)) (k j:κ) (y:V):zdJ (zd8 kvs k y) j=if j=k then some y else zdJ kvs j:=by
 unfold zd8
 by_cases a:(kvs.any fun kv=>decide (kv.1=k))=true
 ·rw [if_pos a,zmP]
  rw [zfL] at a
  by_cases e:j=k
  ·obtain ⟨x,hx⟩:=Option.isSome_iff_exists.mp a
   rw [if_pos e,e,hx,Option.map_some,if_pos rfl]
  ·rw [if_neg e]
   cases zdJ kvs j with
   | none=>rfl
   | some x=>rw [Option.map_some,if_neg e]
 ·rw [if_neg a]
  refine zkv k j y kvs ?_
  rw [zfL] at a
  cases q:zdJ kvs k with
  | none=>rfl
  | some x=>rw [q] at a;exact (a rfl).elim
theorem zcs (kvs:List (κ×V)) (k:κ) (v:V):(zd8 kvs k v).length≤kvs.length+1:=by
 unfold zd8
 split
 ·rw [List.length_map];(first|lia|omega)
 ·rw [List.length_append,List.length_cons,List.length_nil];(first|lia|omega)
theorem zq4 {kvs:List (κ×V)} {k:κ} (v:V) (h:zdJ kvs k=none):zd8 kvs k v=kvs++[(k,v)]:=by
 unfold zd8
 rw [zfL,h]
 exact if_neg (by decide)
theorem zmG.isSome_eq {o:Option V} {u:Option Value} (r:zmG o u):o.isSome=u.isSome:=by
 cases o with
 | none=>cases u with
  | none=>rfl
  | some _=>exact (show False from r).elim
 | some _=>cases u with
  | none=>exact (show False from r).elim
  | some _=>rfl
theorem zmG.getD {o:Option V} {u:Option Value} {d:V} {d':Value} (r:zmG o u) (rd:zcC d d'):zcC (o.getD d) (u.getD d'):=by
 cases o with
 | none=>cases u with
  | none=>exact rd
  | some _=>exact (show False from r).elim
 | some _=>cases u with
  | none=>exact (show False from r).elim
  | some _=>exact r
theorem KV.val {kvs:List (κ×V)} {vs:List (κ×Value)} (r:KV kvs vs) (k:κ):zmG (zdJ kvs k) (valueAt vs k):=by
 unfold KV at r
 induction r with
 | nil=>exact True.intro
 | @cons p q ps qs h t ih =>
  obtain ⟨h1,h2⟩:=h
  by_cases e:p.1=k
  ·have e':q.1=k:=h1.symm.trans e
   have b:valueAt (q::qs) k=some q.2:=by simp [valueAt,List.find?_cons,e']
   rw [zcT e,b];exact h2
  ·have e':¬ q.1=k:=fun z=>e (h1.trans z)
   have b:valueAt (q::qs) k=valueAt qs k:=by simp [valueAt,List.find?_cons,e']
   rw [zcp e,b];exact ih
theorem KV.any {kvs:List (κ×V)} {vs:List (κ×Value)} (r:KV kvs vs) (k:κ):(kvs.any fun kv=>decide (kv.1=k))=vs.any fun kv=>decide (kv.1=k):=by
 unfold KV at r
 induction r with
 | nil=>rfl
 | cons h t ih=>rw [List.any_cons,List.any_cons,ih,h.1]
theorem KV.repl {kvs:List (κ×V)} {vs:List (κ×Value)} (r:KV kvs vs) (k:κ) {y:V} {u:Value} (ry:zcC y u) :
  KV (kvs.map fun kv=>if kv.1=k then (kv.1,y) else kv) (vs.map fun kv=>if kv.1=k then (kv.1,u) else kv):=by
 unfold KV at r ⊢
 induction r with
 | nil=>exact .nil
 | @cons p q ps qs h t ih =>
  rw [List.map_cons,List.map_cons]
  refine .cons ?_ ih
  obtain ⟨h1,h2⟩:=h
  by_cases e:p.1=k
  ·rw [if_pos e,if_pos (h1.symm.trans e)];exact ⟨h1,ry⟩
  ·rw [if_neg e,if_neg (fun z=>e (h1.trans z))];exact ⟨h1,h2⟩
theorem KV.put {kvs:List (κ×V)} {vs:List (κ×Value)} (r:KV kvs vs) (k:κ) {y:V} {u:Value} (ry:zcC y u):KV (zd8 kvs k y) (stored vs k u):=by
 unfold zd8 stored
 rw [r.any k]
 by_cases e:(vs.any fun kv=>decide (kv.1=k))=true
 ·rw [if_pos e,if_pos e];exact r.repl k ry
 ·rw [if_neg e,if_neg e];exact Paired.snoc r ⟨rfl,ry⟩
theorem KV.keys {kvs:List (κ×V)} {vs:List (κ×Value)} (r:KV kvs vs):kvs.map (·.1)=vs.map (·.1):=by
 unfold KV at r
 induction r with
 | nil=>rfl
 | cons h t ih=>rw [List.map_cons,List.map_cons,ih,h.1]
theorem KV.length {kvs:List (κ×V)} {vs:List (κ×Value)} (r:KV kvs vs):kvs.length=vs.length:=Paired.length r
end
theorem zlk {P:Program} {w:World} {k:Key} {u:Value} (r:zcC (kV k) u):(zct P w).is k u=true:=by
 cases k with
 | inl i=>obtain ⟨t,e⟩:=(show ∃ t,u=Value.int i t from r);subst e;exact zmB P w i t
 | inr x=>obtain ⟨t,e⟩:=(show ∃ t,u=Value.str x t from r);subst e;exact zl2 P w x t
theorem zk0 {P:Program} {w:World}:∀ {ks:List Key} {us:List Value},zck (ks.map kV) us→ItemsAre (zct P w) ks us
 | [],_,r=>by rw [List.map_nil] at r;cases r;exact .nil
 | k::ks,_,r=>by
  rw [List.map_cons] at r
  cases r with
  | cons h t=>exact .cons (zlk h) (zk0 t)
abbrev KT (H:Hp):List (List Key×V)→List (List Key×Addr×Value)→Prop:=Paired fun p q=>p.1=q.1∧H q.2.1=some (.tup (p.1.map kV))∧zcC p.2 q.2.2
theorem KT.val {H:Hp} {kvs:List (List Key×V)} {xs:List (List Key×Addr×Value)} (r:KT H kvs xs) (k:List Key):zmG (zdJ kvs k) ((atKey xs k).map (·.2)):=by
 induction r with
 | nil=>exact True.intro
 | @cons p q ps qs h t ih =>
  obtain ⟨h1,_,h2⟩:=h
  by_cases e:p.1=k
  ·have e':q.1=k:=h1.symm.trans e
   have b:atKey (q::qs) k=some q.2:=by simp [atKey,List.find?_cons,e']
   rw [zcT e,b];exact h2
  ·have e':¬ q.1=k:=fun z=>e (h1.trans z)
   have b:atKey (q::qs) k=atKey qs k:=by simp [atKey,List.find?_cons,e']
   rw [zcp e,b];exact ih
theorem KT.repl {H:Hp} {kvs:List (List Key×V)} {xs:List (List Key×Addr×Value)} (r:KT H kvs xs) (k:List Key) {y:V} {u:Value} (ry:zcC y u) :
  KT H (kvs.map fun kv=>if kv.1=k then (kv.1,y) else kv) (xs.map (putAt k u)):=by
 induction r with
 | nil=>exact .nil
 | @cons p q ps qs h t ih =>
  rw [List.map_cons,List.map_cons]
  refine .cons ?_ ih
  obtain ⟨h1,h2,h3⟩:=h
  unfold putAt
  by_cases e:p.1=k
  ·rw [if_pos e,if_pos (h1.symm.trans e)];exact ⟨h1,h2,ry⟩
  ·rw [if_neg e,if_neg (fun z=>e (h1.trans z))];exact ⟨h1,h2,h3⟩
theorem KT.put {H:Hp} {kvs:List (List Key×V)} {xs:List (List Key×Addr×Value)} (r:KT H kvs xs) (k:List Key) {b:Addr} {y:V} {u:Value} (hb:H b=some (.tup (k.map kV))) (ry:zcC y u) :
  KT H (zd8 kvs k y) (storedH xs k b u):=by
 have e:(kvs.any fun kv=>decide (kv.1=k))=(atKey xs k).isSome:=by
  rw [zfL,(r.val k).isSome_eq,Option.isSome_map]
 unfold zd8 storedH
 rw [e]
 by_cases q:(atKey xs k).isSome=true
 ·rw [if_pos q,if_pos q];exact r.repl k ry
 ·rw [if_neg q,if_neg q];exact Paired.snoc r ⟨rfl,hb,ry⟩
theorem KT.keeps {H H':Hp} {kvs:List (List Key×V)} {xs:List (List Key×Addr×Value)} (r:KT H kvs xs) (ht:∀ b ys,H b=some (.tup ys)→H' b=some (.tup ys)):KT H' kvs xs :=
 Paired.mapP r fun _ _ z=>⟨z.1,ht _ _ z.2.1,z.2.2⟩
section
variable {P:Program} {w:World} {H:Hp} {h:Heap} {a:Addr}
theorem ztt {u:HO} (ok:HOk P w H h) (e:Rd H a u):zcd P w H h a u:=e.ok ok
theorem zkC {kvs:List (Key×V)} (ok:HOk P w H h) (e:Rd H a (.dK kvs)):kvs.length≤sizeLine∧(a == sysModules)=false∧∃ vs,KV kvs vs∧h.DictOf (zct P w) a vs :=
 show zcd P w H h a (.dK kvs) from ztt ok e
theorem zqz {kvs:List (Key×V)} (ok:HOk P w H h) (e:H a=some (.dK kvs)):kvs.length≤sizeLine∧(a == sysModules)=false∧∃ vs,KV kvs vs∧h.DictOf (zct P w) a vs:=zkC ok (.inl e)
theorem zjo {ks:List Key} (ok:HOk P w H h) (e:H a=some (.tup (ks.map kV))):(tupleKind (zct P w)).is h ks a:=by
 obtain ⟨_,its,r,o,h1,h2,n,h3⟩:=(show zcd P w H h a (.tup (ks.map kV)) from ok a _ e)
 exact ⟨o,its.toArray,n,h1,h2,h3,by simpa using zk0 r⟩
theorem zmj {kvs:List (List Key×V)} (ok:HOk P w H h) (e:Rd H a (.dT kvs)):kvs.length≤sizeLine∧(a == sysModules)=false ∧
  ∃ xs,KT H kvs xs∧h.DictOfH (tupleKind (zct P w)) a xs:=by
 obtain ⟨z,y,xs,r,o,es,ep,h1,h2,h3,h4,h5⟩:=(show zcd P w H h a (.dT kvs) from ztt ok e)
 refine ⟨z,y,xs,r,o,es,ep,h1,h2,h3,h4,fun x hx=>?_,h5⟩
 have all:∀ {l:List (List Key×V)} {m:List (List Key×Addr×Value)},KT H l m→∀ x∈m,(tupleKind (zct P w)).is h x.1 x.2.1:=by
  intro l m q
  induction q with
  | nil=>intro x hx;exact nomatch hx
  | @cons p q ps qs hq t ih =>
   intro x hx
   rcases List.mem_cons.mp hx with e | hx
   ·subst e
    exact zjo ok (by rw [← hq.1];exact hq.2.1)
   ·exact ih x hx
 exact all r x hx
theorem dt_of {kvs:List (List Key×V)} (ok:HOk P w H h) (e:H a=some (.dT kvs)):kvs.length≤sizeLine∧(a == sysModules)=false ∧
  ∃ xs,KT H kvs xs∧h.DictOfH (tupleKind (zct P w)) a xs:=zmj ok (.inl e)
end
def zfU (H:Hp) (a:Addr) (y:V) (r:Option V):Prop :=
 (∃ kvs k,Rd H a (.dK kvs)∧y=kV k∧r=zdJ kvs k)∨∃ kvs k b,Rd H a (.dT kvs)∧y=.ref b∧H b=some (.tup (k.map kV))∧r=zdJ kvs k
def zjA (H:Hp) (a:Addr) (y v:V) (H':Hp):Prop :=
 (∃ kvs k,H a=some (.dK kvs)∧y=kV k∧kvs.length<sizeLine∧H'=upd H a (.dK (zd8 kvs k v))) ∨
 ∃ kvs k b,H a=some (.dT kvs)∧y=.ref b∧H b=some (.tup (k.map kV))∧kvs.length<sizeLine∧H'=upd H a (.dT (zd8 kvs k v))
theorem zfU.k {H:Hp} {a:Addr} {kvs:List (Key×V)} {k:Key} (e:H a=some (.dK kvs)):zfU H a (kV k) (zdJ kvs k):=.inl ⟨kvs,k,.inl e,rfl,rfl⟩
theorem zfU.t {H:Hp} {a b:Addr} {kvs:List (List Key×V)} {k:List Key} (e:H a=some (.dT kvs)) (eb:H b=some (.tup (k.map kV))):zfU H a (.ref b) (zdJ kvs k):=.inr ⟨kvs,k,b,.inl e,rfl,eb,rfl⟩
theorem zjA.k {H:Hp} {a:Addr} {kvs:List (Key×V)} {k:Key} {v:V} (e:H a=some (.dK kvs)) (hl:kvs.length<sizeLine):zjA H a (kV k) v (upd H a (.dK (zd8 kvs k v))):=.inl ⟨kvs,k,e,rfl,hl,rfl⟩
theorem zjA.t {H:Hp} {a b:Addr} {kvs:List (List Key×V)} {k:List Key} {v:V} (e:H a=some (.dT kvs)) (eb:H b=some (.tup (k.map kV))) (hl:kvs.length<sizeLine) :
  zjA H a (.ref b) v (upd H a (.dT (zd8 kvs k v))):=.inr ⟨kvs,k,b,e,rfl,eb,hl,rfl⟩
section
variable {X:Cx} {pins:List (Addr×Obj)} {σ:St} {H:Hp} {s:Shared} {a:Addr} {y v:V} {u r:Value} {o:Option V} {A:Around} {E:Value→Shared→Prop}
theorem Inv.big (I:Inv X pins σ H s):sysModules<s.heap.objs.size:=by
 have h:mainGlobals<s.heap.objs.size:=(I.mod.glob.keeps I.bk).lt
 exact Nat.lt_trans (by decide) h
theorem zpv {Q:Value→Shared→Prop} (hu:A.units+1<cLine) (I:Inv X pins σ H s) (g:zfU H a y (some v)) (ry:zcC y u) (h:∀ w' s',Inv X pins σ H s'→zcC v w'→Q w' s') :
  wpAny (model X.prog X.w) A (getItem (.ref a) u) Q E s:=by
 rcases g with ⟨kvs,k,e,ey,l⟩ | ⟨kvs,k,b,e,ey,eb,l⟩
 ·subst ey
  obtain ⟨z,hd,vs,rel,dd⟩:=zkC I.hok e
  obtain ⟨w',hw,rw'⟩:=zmG.some_of (v:=v) (o:=valueAt vs k) (by rw [l];exact rel.val k)
  exact wpAny_getItem_of (zlk ry) dd.mapOf hw (h w' _ (I.tok _) rw')
 ·subst ey
  cases (show u=Value.ref b from ry)
  obtain ⟨z,hd,xs,rel,dd⟩:=zmj I.hok e
  obtain ⟨w',hw,rw'⟩:=zmG.some_of (v:=v) (o:=(atKey xs k).map (·.2)) (by rw [l];exact rel.val k)
  obtain ⟨p,hp,hp2⟩:=Option.map_eq_some_iff.mp hw
  refine wpAny_getItem_heap (tupleKind_room_in1 hu) (zjo I.hok eb) dd hp ?_
  rw [hp2]
  exact h w' _ (I.tok _) rw'
theorem d_in {Q:Value→Shared→Prop} (hu:A.units+1<cLine) (I:Inv X pins σ H s) (g:zfU H a y o) (ry:zcC y u) (h:∀ s',Inv X pins σ H s'→Q (.bool o.isSome) s') :
  wpAny (model X.prog X.w) A (compareOp .In u (.ref a)) Q E s:=by
 rcases g with ⟨kvs,k,e,ey,l⟩ | ⟨kvs,k,b,e,ey,eb,l⟩
 ·subst ey
  obtain ⟨z,hd,vs,rel,dd⟩:=zkC I.hok e
  refine wpAny_in_of (zlk ry) hd dd.mapOf ?_
  rw [← (rel.val k).isSome_eq,← l]
  exact h _ (I.tok _)
 ·subst ey
  cases (show u=Value.ref b from ry)
  obtain ⟨z,hd,xs,rel,dd⟩:=zmj I.hok e
  refine wpAny_in_heap (tupleKind_room_in1 hu) (zjo I.hok eb) hd dd ?_
  have q:=(rel.val k).isSome_eq
  rw [Option.isSome_map] at q
  rw [← q,← l]
  exact h _ (I.tok _)
theorem zs5 {Q:Value→Shared→Prop} (hu:A.units+1<cLine) (I:Inv X pins σ H s) (g:zfU H a y o) (ry:zcC y u) (h:∀ s',Inv X pins σ H s'→Q (.bool (!o.isSome)) s') :
  wpAny (model X.prog X.w) A (compareOp .NotIn u (.ref a)) Q E s:=by
 rcases g with ⟨kvs,k,e,ey,l⟩ | ⟨kvs,k,b,e,ey,eb,l⟩
 ·subst ey
  obtain ⟨z,hd,vs,rel,dd⟩:=zkC I.hok e
  refine wpAny_notIn_of (zlk ry) hd dd.mapOf ?_
  rw [← (rel.val k).isSome_eq,← l]
  exact h _ (I.tok _)
 ·subst ey
  cases (show u=Value.ref b from ry)
  obtain ⟨z,hd,xs,rel,dd⟩:=zmj I.hok e
  refine wpAny_notIn_heap (tupleKind_room_in1 hu) (zjo I.hok eb) hd dd ?_
  have q:=(rel.val k).isSome_eq
  rw [Option.isSome_map] at q
  rw [← q,← l]
  exact h _ (I.tok _)
theorem zjS {h':Heap} {t':Nat} {ob:HO} (I:Inv X pins σ H s) (mu:Mut (H a)) (hs:Heap.SameBut a s.heap h') (he:∃ q,h'.get? a=some q) (new:zcd X.prog X.w (upd H a ob) h' a ob) :
  Inv X pins σ (upd H a ob) { s with heap:=h',toks:=t' } :=
 I.write (x:=a) (e:=a) mu (.inl rfl) (fun b q hb z=>(hs.2 b hb).trans z) he new
theorem zoI {P:Program} {w:World} {H':Hp} {h':Heap} {kvs:List (Key×V)} {vs:List (Key×Value)} (z:kvs.length≤sizeLine) (hd:(a == sysModules)=false) (rel:KV kvs vs) (dd:h'.DictOf (zct P w) a vs) :
  zcd P w H' h' a (.dK kvs):=⟨z,hd,vs,rel,dd⟩
theorem zpi {H':Hp} {Q:Unit→Shared→Prop} (hu:A.units+1<cLine) (I:Inv X pins σ H s) (g:zjA H a y v H') (ry:zcC y u) (rv:zcC v r) (h:∀ s',Inv X pins σ H' s'→Q () s') :
  wpAny (model X.prog X.w) A (setItem (.ref a) u r) Q E s:=by
 rcases g with ⟨kvs,k,e,ey,l,eH⟩ | ⟨kvs,k,b,e,ey,eb,l,eH⟩
 ·subst ey eH
  obtain ⟨z,hd,vs,rel,dd⟩:=zqz I.hok e
  have hz:vs.length≤sizeLine:=by rw [← rel.length];exact z
  have hl:(zd8 kvs k v).length≤sizeLine:=by have:=zcs kvs k v;(first|lia|omega)
  refine wpAny_setItem_pairs (hsz:=hz) (zlk ry) dd fun h' dd' hs=>h _ ?_
  have he:∃ q,h'.get? a=some q:=let ⟨q,_,_,hq,_⟩:=dd';⟨q,hq⟩
  exact zjS I (by rw [e];exact True.intro) hs he (zoI hl hd (rel.put k rv) dd')
 ·subst ey eH
  cases (show u=Value.ref b from ry)
  obtain ⟨z,hd,xs,rel,dd⟩:=dt_of I.hok e
  have hz:xs.length≤sizeLine:=by rw [← Paired.length rel];exact z
  have hl:(zd8 kvs k v).length≤sizeLine:=by have:=zcs kvs k v;(first|lia|omega)
  refine wpAny_setItem_heap (hsz:=hz) (tupleKind_room_in1 hu) (zjo I.hok eb) dd fun h' dd' hs=>h _ ?_
  obtain ⟨q,es,ep,hq,h2,h3,h4,_,h5⟩:=dd'
  refine zjS I (by rw [e];exact True.intro) hs ⟨q,hq⟩ ⟨hl,hd,_,(rel.put k eb rv).keeps fun c ys ec=>?_,q,es,ep,hq,h2,h3,h4,h5⟩
  rw [zaL (zqt ec e (fun z=>nomatch z))]
  exact ec
end
section
variable {X:Cx} {pins:List (Addr×Obj)} {σ:St} {H:Hp} {s:Shared} {a:Addr} {kvs:List (Key×V)} {k:Key} {u:Value} {A:Around} {E:Value→Shared→Prop}
theorem d_len {Q:Value→Shared→Prop} (I:Inv X pins σ H s) (e:Rd H a (.dK kvs)) (h:∀ t s',Inv X pins σ H s'→Q (.int kvs.length t) s'):wpAny (model X.prog X.w) A (call (.builtin "len") [.ref a]) Q E s:=by
 obtain ⟨z,hd,vs,rel,dd⟩:=zkC I.hok e
 refine call_len_dict hd dd (by rw [← rel.length];rw [sizeLine_eq] at z;(first|lia|omega)) ?_
 rw [← rel.length]
 exact h _ _ (I.tok _)
end
def NoSl (i:Expr):Prop:=∀ ov iv,subscripted i false ov iv=operate [ov,iv] (getItem ov iv)
theorem zrX {prog:Program} {w:World} {A:Around} {E:Value→Shared→Prop} {s:Shared} {env:Env} {value slice:Expr} {pos:Pos} {T id:String} {Q:Value→Shared→Prop}
  (hl:typeLookup (.type T) "__getitem__"=pure (some (.builtin id))) (hs:NoSl slice)
  (h:wpAny (model prog w) A (eval value env) (fun o s₁=>wpAny (model prog w) A (eval slice env) (fun i s₂=>s₂.TypeIs o T∧wpAny (model prog w) A (getItem o i) Q E s₂) E s₁) E s) :
  wpAny (model prog w) A (eval (.Subscript value slice pos) env) Q E s:=by
 refine Subscript_ (wpAny_mono h (fun o s₁ h₁=>wpAny_mono h₁ (fun i s₂ h₂=>?_) fun _ _ x=>x) fun _ _ x=>x)
 obtain ⟨hT,h₂⟩:=h₂
 unfold subscriptTail
 refine wpAny_bind ?_
 rw [getitemInPython_of_ne hT.not_modules]
 refine wpAny_bind (wpAny_specialOf hT hl ?_)
 have fin:wpAny (model prog w) A (subscripted slice false o i) (fun r s₃=>wpAny (model prog w) A (letTemporaryGo value o r >>= fun _=>pure r) Q E s₃) E s₂:=by
  rw [hs o i]
  exact wpAny_operating (wpAny_mono h₂ (fun r s₃ h₃=>wpAny_bind (wpAny_letTemporaryGo (wpAny_pure h₃))) fun _ _ x=>x)
 first
  | exact wpAny_pure (wpAny_bind fin)
  | exact wpAny_bind (wpAny_pure (wpAny_bind fin))
  | exact wpAny_bind fin
theorem zmz {X:Cx} {pins:List (Addr×Obj)} {σ:St} {H:Hp} {s:Shared} {a:Addr} {y:V} {o:Option V} (I:Inv X pins σ H s) (g:zfU H a y o):s.TypeIs (.ref a) "dict":=by
 rcases g with ⟨kvs,k,e,_,_⟩ | ⟨kvs,k,b,e,_,_,_⟩
 ·obtain ⟨_,_,vs,_,dd⟩:=zkC I.hok e
  exact dd.typeIs
 ·obtain ⟨_,_,xs,_,dd⟩:=zmj I.hok e
  exact dd.typeIs
def ze0 (td ty:TE):TE:=fun σ H Q=>td σ H fun x H1=>ty σ H1 fun y H2=>∃ a v,x=.ref a∧zfU H2 a y (some v)∧Q v H2
def zn4 (ty td:TE):TE:=fun σ H Q=>ty σ H fun y H1=>td σ H1 fun x H2=>∃ a o,x=.ref a∧zfU H2 a y o∧Q (.bl o.isSome) H2
def zdi (ty td:TE):TE:=fun σ H Q=>ty σ H fun y H1=>td σ H1 fun x H2=>∃ a o,x=.ref a∧zfU H2 a y o∧Q (.bl (!o.isSome)) H2
def zdR (td ty tv:TE):TS:=fun D σ H=>tv σ H fun v H1=>td σ H1 fun x H2=>ty σ H2 fun y H3=>∃ a H4,x=.ref a∧zjA H3 a y v H4∧D.nx σ H4
section
variable {X:Cx} {o i e value:Expr} {pos pos' tpos:Pos} {td ty tv:TE}
theorem zga (hu:X.A.units+1<cLine) (ho:PE X o td) (hi:PE X i ty) (hs:NoSl i):PE X (.Subscript o i pos) (ze0 td ty):=by
 intro pins s σ H Q I h
 refine zrX PySem.F.slot_dict_getitem.lookup hs (thn (ho pins s σ H _ I h) fun u s1 ⟨x,H1,I1,rx,q1⟩=>thn (hi pins s1 σ H1 _ I1 q1) fun iv s2 hQ'=>?_)
 obtain ⟨y,H2,I2,ry,a,v,ex,g,q2⟩:=hQ'
 subst ex
 obtain rfl:u=Value.ref a:=rx
 exact ⟨zmz I2 g,zpv hu I2 g ry fun w' s3 I3 rw'=>⟨v,H2,I3,rw',q2⟩⟩
theorem zk3 (hu:X.A.units+1<cLine) (hi:PE X i ty) (ho:PE X o td):PC X .In i o (zn4 ty td):=by
 intro pins s σ H Q I h
 refine thn (hi pins s σ H _ I h) fun iv s1 ⟨y,H1,I1,ry,q1⟩=>thn (ho pins s1 σ H1 _ I1 q1) fun u s2 hQ'=>?_
 obtain ⟨x,H2,I2,rx,a,ov,ex,g,q2⟩:=hQ'
 subst ex
 obtain rfl:u=Value.ref a:=rx
 exact d_in hu I2 g ry fun s3 I3=>⟨.bl ov.isSome,H2,I3,rfl,q2⟩
theorem zfb (hu:X.A.units+1<cLine) (hi:PE X i ty) (ho:PE X o td):PC X .NotIn i o (zdi ty td):=by
 intro pins s σ H Q I h
 refine thn (hi pins s σ H _ I h) fun iv s1 ⟨y,H1,I1,ry,q1⟩=>thn (ho pins s1 σ H1 _ I1 q1) fun u s2 hQ'=>?_
 obtain ⟨x,H2,I2,rx,a,ov,ex,g,q2⟩:=hQ'
 subst ex
 obtain rfl:u=Value.ref a:=rx
 exact zs5 hu I2 g ry fun s3 I3=>⟨.bl (!ov.isSome),H2,I3,rfl,q2⟩
theorem zdM (hu:X.A.units+1<cLine) (ho:PE X o td) (hi:PE X i ty) (hv:PE X value tv) (hs:swapsWith value (some (.Subscript o i pos')) pos.line X.env=pure false) :
  PS X (.Assign [.Subscript o i pos'] value pos) (zdR td ty tv):=by
 intro pins s σ H D I h
 refine wpAny_Assign_Subscript (thn (hv pins s σ H _ I h) fun r s1 ⟨v,H1,I1,rv,q1⟩=>thn (ho pins s1 σ H1 _ I1 q1) fun u s2 ⟨x,H2,I2,rx,q2⟩=>thn (hi pins s2 σ H2 _ I2 q2) fun iv s3 hQ'=>?_) hs
 obtain ⟨y,H3,I3,ry,a,H4,ex,g,q3⟩:=hQ'
 subst ex
 obtain rfl:u=Value.ref a:=rx
 exact zpi hu I3 g ry rv fun s4 I4=>⟨σ,H4,I4,q3⟩
end
theorem zmM {P:Program} {w:World} {H:Hp} (h:Heap) (hb:sysModules<h.objs.size):zcd P w H (h.push { cls:=.type "dict",data:=.dict #[] }) h.objs.size (.dK []) :=
 ⟨Nat.zero_le _,beq_eq_false_iff_ne.mpr (Ne.symm (Nat.ne_of_lt hb)),[],.nil,Heap.DictOf.new h⟩
theorem zrb {P:Program} {w:World} {H:Hp} (h:Heap) (hb:sysModules<h.objs.size):zcd P w H (h.push { cls:=.type "dict",data:=.dict #[] }) h.objs.size (.dT []) :=
 ⟨Nat.zero_le _,beq_eq_false_iff_ne.mpr (Ne.symm (Nat.ne_of_lt hb)),[],.nil,_,#[],0,Heap.get?_push_size _ rfl,⟨rfl,rfl,rfl⟩,rfl,rfl,List.nodup_nil⟩
def zim:TE:=fun _ H Q=>∀ p,H p=none→Q (.ref p) (upd H p (.dK []))
def zpc:TE:=fun _ H Q=>∀ p,H p=none→Q (.ref p) (upd H p (.dT []))
section
variable {X:Cx} {pos:Pos}
theorem zhF:PE X (.Dict [] [] pos) zim:=fun pins s σ H Q I h =>
 wpAny_Dict_empty ⟨.ref s.heap.objs.size,_,I.laid (a:=s.heap.objs.size) (o:=.dK []) (t':=s.toks) (fun _ _ q=>Heap.get?_push_of_some _ q) (Nat.le_refl _) (zmM s.heap I.big),rfl,h _ (I.hok.fresh (Nat.le_refl _))⟩
theorem zqJ:PE X (.Dict [] [] pos) zpc:=fun pins s σ H Q I h =>
 wpAny_Dict_empty ⟨.ref s.heap.objs.size,_,I.laid (a:=s.heap.objs.size) (o:=.dT []) (t':=s.toks) (fun _ _ q=>Heap.get?_push_of_some _ q) (Nat.le_refl _) (zrb s.heap I.big),rfl,h _ (I.hok.fresh (Nat.le_refl _))⟩
end
def znd:List (TE×TE)→St→Hp→(List (V×V)→Hp→Prop)→Prop
 | [],_,H,Q=>Q [] H
 | (tk,tv)::r,σ,H,Q=>tk σ H fun x H1=>tv σ H1 fun y H2=>znd r σ H2 fun ps H3=>Q ((x,y)::ps) H3
abbrev VV:List (V×V)→List (Value×Value)→Prop:=Paired fun p q=>zcC p.1 q.1∧zcC p.2 q.2
def PPs (X:Cx) (pos:Pos) (keys:List (Option Expr)) (values:List Expr) (trs:List (TE×TE)):Prop :=
 ∀ (pins:List (Addr×Obj)) (s:Shared) (σ:St) (H:Hp) (Q:List (V×V)→Hp→Prop),Inv X pins σ H s→znd trs σ H Q →
  wpAny (model X.prog X.w) X.A (evalPairs (pairTrees keys values X.env pos)) (fun vs s'=>∃ ps H',Inv X pins σ H' s'∧VV ps vs∧Q ps H') X.xe s
theorem zob {X:Cx} {pos:Pos}:PPs X pos [] [] []:=fun pins s σ H Q I h=>pairTrees_nil_walk ⟨[],H,I,.nil,h⟩
theorem znc {X:Cx} {pos:Pos} {k v:Expr} {ks:List (Option Expr)} {vs:List Expr} {tk tv:TE} {trs:List (TE×TE)} (hk:PE X k tk) (hv:PE X v tv) (hr:PPs X pos ks vs trs) :
  PPs X pos (some k::ks) (v::vs) ((tk,tv)::trs):=fun pins s σ H Q I h =>
 pairTrees_cons_walk (thn (hk pins s σ H _ I h) fun u s1 ⟨x,H1,I1,rx,q1⟩=>thn (hv pins s1 σ H1 _ I1 q1) fun w2 s2 ⟨y,H2,I2,ry,q2⟩ =>
  thn (hr pins s2 σ H2 _ I2 q2) fun ws s3 ⟨ps,H3,I3,rel,q3⟩=>⟨(x,y)::ps,H3,I3,.cons ⟨rx,ry⟩ rel,q3⟩)
def zi5 (kvs more:List (Key×V)):List (Key×V):=more.foldl (fun acc kv=>zd8 acc kv.1 kv.2) kvs
theorem KV.merge:∀ {more:List (Key×V)} {rs:List (Key×Value)} {kvs:List (Key×V)} {vs:List (Key×Value)},KV more rs→KV kvs vs→KV (zi5 kvs more) (merged vs rs):=by
 intro more rs kvs vs r
 unfold KV at r
 induction r generalizing kvs vs with
 | nil=>intro q;exact q
 | @cons p q ps qs h t ih =>
  intro r0
  have e:KV (zd8 kvs p.1 p.2) (stored vs q.1 q.2):=by
   have:=r0.put p.1 h.2
   rw [← h.1];exact this
  exact ih e
theorem zgS:∀ (more kvs:List (Key×V)),(zi5 kvs more).length≤kvs.length+more.length
 | [],kvs=>by show kvs.length≤kvs.length+0;(first|lia|omega)
 | p::r,kvs=>by
  have h1:=zgS r (zd8 kvs p.1 p.2)
  have h2:=zcs kvs p.1 p.2
  show (zi5 (zd8 kvs p.1 p.2) r).length≤_
  rw [List.length_cons];(first|lia|omega)
theorem zjm {P:Program} {w:World}:∀ {kvs:List (Key×V)} {ws:List (Value×Value)},VV (kvs.map fun kv=>(kV kv.1,kv.2)) ws→∃ rs,Carries (zct P w) ws rs∧KV kvs rs
 | [],_,r=>by rw [List.map_nil] at r;cases r;exact ⟨[],True.intro,.nil⟩
 | p::kvs,_,r=>by
  rw [List.map_cons] at r
  cases r with
  | @cons a b as bs h t =>
   obtain ⟨rs,c,q⟩:=zjm (P:=P) (w:=w) t
   obtain ⟨b1,b2⟩:=b
   exact ⟨(p.1,b2)::rs,⟨zlk h.1,rfl,c⟩,.cons ⟨rfl,h.2⟩ q⟩
def zqx (trs:List (TE×TE)):TE:=fun σ H Q=>∀ p,H p=none→znd trs σ (upd H p (.dK [])) fun ps H2=>H2 p=some (.dK [])∧∃ kvs:List (Key×V),ps=kvs.map (fun kv=>(kV kv.1,kv.2))∧kvs.length≤15∧Q (.ref p) (upd H2 p (.dK (zi5 [] kvs)))
theorem zoA {X:Cx} {pos:Pos} {keys:List (Option Expr)} {values:List Expr} {trs:List (TE×TE)} (h:PPs X pos keys values trs) (hall:keys.all (·.isSome)=true) (hl:keys.length=values.length) (h0:keys≠[])
  (h15:keys.length≤15):PE X (.Dict keys values pos) (zqx trs):=by
 intro pins s σ H Q I q
 have hn:=I.hok.fresh (Nat.le_refl s.heap.objs.size)
 have I1:=I.laid (a:=s.heap.objs.size) (o:=.dK []) (h':=s.heap.push { cls:=.type "dict",data:=.dict #[] }) (t':=s.toks) (fun _ _ q=>Heap.get?_push_of_some _ q) (Nat.le_refl _) (zmM s.heap I.big)
 refine wpAny_Dict_walk (knd:=zct X.prog X.w) hall hl h0 h15 (thn (h pins _ σ _ _ I1 (q _ hn)) fun ws s2 hQ'=>?_)
 obtain ⟨ps,H2,I2,rel,e,kvs,ep,lk,q2⟩:=hQ'
 subst ep
 obtain ⟨rs,c,rk⟩:=zjm (P:=X.prog) (w:=X.w) rel
 obtain ⟨z,hd,vs0,r0,dd⟩:=zqz I2.hok e
 cases r0
 refine ⟨rs,c,dd,fun h' dd' hs=>⟨.ref s.heap.objs.size,_,?_,rfl,q2⟩⟩
 have hz:(zi5 [] kvs).length≤sizeLine:=by
  have h1:=zgS kvs []
  rw [List.length_nil] at h1
  rw [sizeLine_eq];(first|lia|omega)
 have he:∃ q,h'.get? s.heap.objs.size=some q:=let ⟨q,_,_,hq,_⟩:=dd';⟨q,hq⟩
 exact zjS I2 (by rw [e];exact True.intro) hs he (zoI hz hd (rk.merge .nil) dd')
structure M2 (X:Cx) (o:Expr) (m:Str) (apos:Pos) (e f:Expr) (cpos:Pos):Prop where
 base:attributeBase o m X.env (eval o X.env)=eval o X.env
 few:((backTo cpos (starEach [e,f] X.env)).all (fun x=>!x.1)&&(backToKw cpos (keywordEach [] X.env)).all (fun x=>x.1.isSome)
  && decide (([e,f]:List Expr).length+([]:List Keyword).length+(if ([]:List Keyword).isEmpty then 0 else 1)<30))=true
 line:(apos.endLine == cpos.line)=true
 trees:backTo cpos (starEach [e,f] X.env)=[(false,eval e X.env),(false,eval f X.env)]
def IsD (H:Hp) (a:Addr):Prop:=(∃ kvs,Rd H a (.dK kvs))∨∃ kvs,Rd H a (.dT kvs)
theorem zrT {X:Cx} {pins:List (Addr×Obj)} {σ:St} {H:Hp} {s:Shared} {a:Addr} (I:Inv X pins σ H s) (d:IsD H a) :
  s.TypeIs (.ref a) "dict"∧(∀ b,Value.ref a=.ref b→∃ ob,s.heap.get? b=some ob∧ob.dict=none)∧(a == sysModules)=false:=by
 rcases d with ⟨kvs,e⟩ | ⟨kvs,e⟩
 ·obtain ⟨_,hd,vs,_,dd⟩:=zkC I.hok e
  refine ⟨dd.typeIs,fun b q=>?_,hd⟩
  cases q
  obtain ⟨ob,_,_,h1,h2,_⟩:=dd
  exact ⟨ob,h1,h2.2.1⟩
 ·obtain ⟨_,hd,xs,_,dd⟩:=zmj I.hok e
  refine ⟨dd.typeIs,fun b q=>?_,hd⟩
  cases q
  obtain ⟨ob,_,_,h1,h2,_⟩:=dd
  exact ⟨ob,h1,h2.2.1⟩
section
variable {X:Cx} {pins:List (Addr×Obj)} {σ:St} {H:Hp} {s:Shared} {a:Addr} {y d:V} {u r:Value} {o:Option V} {A:Around} {E:Value→Shared→Prop}
theorem ztJ {Q:Value→Shared→Prop} (hu:A.units+1<cLine) (I:Inv X pins σ H s) (g:zfU H a y o) (ry:zcC y u) (rd:zcC d r) (h:∀ w' s',Inv X pins σ H s'→zcC (o.getD d) w'→Q w' s') :
  wpAny (model X.prog X.w) A (call (.builtin "dict.get") [.ref a,u,r]) Q E s:=by
 rcases g with ⟨kvs,k,e,ey,l⟩ | ⟨kvs,k,b,e,ey,eb,l⟩
 ·subst ey
  obtain ⟨z,hd,vs,rel,dd⟩:=zkC I.hok e
  refine call_meetsIn PySem.F.slot_dict_get dd.typeIs PySem.F.entry_dict_get (PySem.F.args_dict_get_3 _ _ _) (meets_dict_get_default (zct X.prog X.w) a (zlk ry) hd r) ⟨_,dd.mapOf,h _ _ (I.tok _) ?_⟩
  rw [l]
  exact (rel.val k).getD rd
 ·subst ey
  cases (show u=Value.ref b from ry)
  obtain ⟨z,hd,xs,rel,dd⟩:=zmj I.hok e
  refine call_meetsIn PySem.F.slot_dict_get dd.typeIs PySem.F.entry_dict_get (PySem.F.args_dict_get_3 _ _ _) (meetsH_dict_get_default (tupleKind (zct X.prog X.w)) a b hd r) ⟨tupleKind_room_in1 hu,k,xs,zjo I.hok eb,dd,h _ _ (I.tok _) ?_⟩
  rw [l]
  exact (rel.val k).getD rd
end
def zhx (td ty tx:TE):TE:=fun σ H Q=>td σ H fun x H1=>∃ a,x=.ref a∧IsD H1 a∧ty σ H1 fun y H2=>tx σ H2 fun z H3=>∃ o,zfU H3 a y o∧Q (o.getD z) H3
section
variable {X:Cx} {o e f:Expr} {apos cpos:Pos} {td ty tx:TE}
theorem zjt (hu:X.A.units+1<cLine) (ho:PE X o td) (he:PE X e ty) (hf:PE X f tx) (m:M2 X o "get" apos e f cpos):PE X (.Call (.Attribute o "get" apos) [e,f] [] cpos) (zhx td ty tx):=by
 intro pins s σ H Q I h
 refine wpAny_Call_method m.base m.few m.line PySem.F.plainAttrs_dict PySem.F.slot_dict_get PySem.F.type_dict_get (thn (ho pins s σ H _ I h) fun u s1 hQ'=>?_)
 obtain ⟨x,H1,I1,rx,a,ex,d,q1⟩:=hQ'
 subst ex
 obtain rfl:u=Value.ref a:=rx
 obtain ⟨t1,t2,_⟩:=zrT I1 d
 refine ⟨t1,t2,?_⟩
 rw [m.trees]
 refine Calls.callWith_builtin rfl (Calls.evalArgs_plain (Calls.spliced_cons (thn (he pins s1 σ H1 _ I1 q1) fun iv s2 ⟨y,H2,I2,ry,q2⟩ =>
  Calls.spliced_cons (thn (hf pins s2 σ H2 _ I2 q2) fun fv s3 ⟨z,H3,I3,rz,ov,g,q3⟩=>Calls.spliced_nil ?_))))
 exact ztJ hu I3 g ry rz fun w' s4 I4 rw'=>⟨_,H3,I4,rw',q3⟩
end
section
variable {X:Cx} {pins:List (Addr×Obj)} {σ:St} {H:Hp} {s:Shared} {a:Addr} {kvs:List (Key×V)} {A:Around} {E:Value→Shared→Prop}
end
section
variable {X:Cx} {pins:List (Addr×Obj)} {σ:St} {H:Hp} {s:Shared} {a:Addr} {y:V} {u:Value} {A:Around} {E:Value→Shared→Prop}
end
end L2
namespace L2
open PySem PySem.Spec PyProof.Rows
section
variable {X:Cx}
theorem zgu:zgU X (.builtin "len") (fun xs H Q=>∃ a kvs,xs=[V.ref a]∧H a=some (.dK kvs)∧Q (.int kvs.length) H):=by
 intro pins s σ H xs us Q I r h
 obtain ⟨a,kvs,rfl,ha,q⟩:=h
 obtain ⟨u,rfl,ru⟩:=zi3 r
 cases ru
 exact d_len I (.inl ha) fun t s' I'=>⟨.int kvs.length,H,I',⟨t,rfl⟩,q⟩
end
end L2
namespace L2
open PySem PySem.Spec PyProof.Rows
def zk8:List V→Hp→VK→Prop:=fun xs H Q=>∃ a kvs,xs=[V.ref a]∧H a=some (.dK kvs)∧Q (.int kvs.length) H
def zqb (ta:TA):TE:=fun σ H Q=>ta σ H fun vs H1=>∃ i j:Int,vs=[.int i,.int j]∧(-(2 ^ 62)≤i∧i<2 ^ 62∧-(2 ^ 62)≤j∧j<2 ^ 62)∧∀ p,H1 p=none→Q (.ref p) (upd H1 p (.rng i j))
def zhI:List V→Hp→VK→Prop:=fun xs H Q=>∃ (p:Addr) (i j:Int),xs=[.ref p]∧H p=some (.rng i j)∧(-(2 ^ 62)≤i∧i<2 ^ 62∧-(2 ^ 62)≤j∧j<2 ^ 62)∧j - i≤1000∧∀ l,H l=none→Q (.ref l) (upd H l (.lst ((List.range (j - i).toNat).map fun k:Nat=>V.int (i+(k:Int)))))
section
variable {X:Cx}
theorem zrq {pins:List (Addr×Obj)} {σ:St} {H:Hp} {s:Shared} {lo hi:Int} {t u v:Tok} {tk:Nat} {Q:VK} (I:Inv X pins σ H s) (q:∀ p,H p=none→Q (.ref p) (upd H p (.rng lo hi))) :
  EP X pins σ Q (.ref s.heap.objs.size) { s with heap:=s.heap.push { cls:=.type "range",data:=.fields #[.int lo t,.int hi u,.int 1 v] },toks:=tk } :=
 ⟨.ref s.heap.objs.size,_,I.laid (a:=s.heap.objs.size) (o:=.rng lo hi) (t':=tk) (fun _ _ q=>Heap.get?_push_of_some _ q) (Nat.le_refl _) (show zcd X.prog X.w _ _ _ (.rng lo hi) from ⟨t,u,v,Heap.get?_push_size _ rfl⟩),rfl,q _ (I.hok.fresh (Nat.le_refl _))⟩
theorem zs8 {a b:Expr} {ta:TA} {p pos:Pos} (hg:Gl X "range") (hm:X.mg "range"=none) (ha:PA X [a,b] ta) (hs:starEach [a,b] X.env=[(false,eval a X.env),(false,eval b X.env)]:=by rfl) (hs2:starEach [b] X.env=[(false,eval b X.env)]:=by rfl) :
  PE X (.Call (.Name "range" p) [a,b] [] pos) (zqb ta):=by
 intro pins s σ H Q I h
 refine Call_ (zht I hg hm boot_range (PyProof.Rows.callWith_type1 (thn (ha pos pins s σ H _ I h) fun us s1 hQ'=>?_) (by rw [hs,hs2]) (by rw [hs2];rfl)))
 obtain ⟨vs,H1,I1,r1,q1⟩:=hQ'
 obtain ⟨i,j,e,⟨q1,q2,q3,q4⟩,q⟩:=q1
 subst e
 cases r1 with
 | cons r rr =>
  cases rr with
  | cons r' rr =>
   cases rr
   obtain ⟨t,rfl⟩:=r
   obtain ⟨t',rfl⟩:=r'
   exact call_range_2 (zrq I1 q)
theorem zmk:∀ {xs:List V} {us:List Value},xs.length=us.length→(∀ (j:Nat) x u,xs[j]?=some x→us[j]?=some u→zcC x u)→zck xs us
 | [],[],_,_=>.nil
 | [],_::_,h,_=>by simp at h
 | _::_,[],h,_=>by simp at h
 | x::xs,u::us,h,r=>.cons (r 0 x u rfl rfl) (zmk (by simpa using h) fun j y v e1 e2=>r (j+1) y v e1 e2)
theorem znn {lo:Int} {acc:Array Value} {n:Nat} (h:ItemsOf (fun i v=>∃ t,v=.int (lo+i*1) t) acc n):zck ((List.range n).map fun k:Nat=>V.int (lo+(k:Int))) acc.toList:=by
 refine zmk (by rw [List.length_map,List.length_range,Array.length_toList,h.1]) fun j x u e1 e2=>?_
 rw [List.getElem?_map,Option.map_eq_some_iff] at e1
 obtain ⟨k,hk,rfl⟩:=e1
 obtain ⟨l1,l2⟩:=List.getElem?_eq_some_iff.mp hk
 rw [List.getElem_range] at l2
 subst l2
 obtain ⟨t,rfl⟩:=h.2 j u (by rw [← Array.getElem?_toList];exact e2)
 exact ⟨t,by rw [Int.mul_one]⟩
theorem zjO (hc:X.calm=true):zgU X (.type "list") zhI:=by
 intro pins s σ H xs us Q I r h
 obtain ⟨p,i,j,rfl,hp,⟨h1,h2,h3,h4⟩,hl,q⟩:=h
 obtain ⟨u,rfl,rx⟩:=zi3 r
 cases rx
 obtain ⟨t,u,v,e⟩:=(show zcd X.prog X.w H s.heap p (.rng i j) from I.hok p _ hp)
 refine call_list_range (n:=(j - i).toNat) (I.ok.hd hc) e (small_one h1 h2 h3 h4) (by rw [rangeSize_one];split <;> (first|lia|omega)) (by (first|lia|omega)) fun h' tk acc c' kp e' it=>?_
 exact ⟨.ref s.heap.objs.size,_,I.laid (t':=tk) kp (Nat.le_refl _) (show zcd X.prog X.w _ h' _ (.lst _) from ⟨by simp [sizeLine_eq];(first|lia|omega),acc.toList,c',znn it,e'⟩),rfl,q _ (I.hok.fresh (Nat.le_refl _))⟩
end
end L2
namespace L2
open PySem PySem.Spec PyProof.Rows
def KTup (K:PySem.W.Frag) (a:Addr) (xs:List V):Prop:=∃ (o:Obj) (its:Array Value) (n:Nat),K.lookup a=some o∧o.cls=.type "tuple"∧o.data=.seq its n∧its.size≤sizeLine∧zck xs its.toList
theorem SqT.ofK {K:PySem.W.Frag} {H:Hp} {a:Addr} {xs:List V} (h:KTup K a xs):SqT K H a xs:=.inr h
def zdH:List V→Hp→VK→Prop:=fun xs H Q=>∃ (p:Addr) (kvs:List (Key×V)) (ks:List Int),xs=[.ref p]∧H p=some (.dK kvs)∧kvs.map (·.1)=ks.map Sum.inl∧ks.length<64∧∀ (l:Addr) (ns:List Int),H l=none→ns.Perm ks→ns.Pairwise (·≤·)→Q (.ref l) (upd H l (.lst (ns.map V.int)))
section
variable {X:Cx}
theorem zkg:∀ {ns:List Int} {us:List Value},zck (ns.map V.int) us→IntsAre us ns
 | [],_,r=>by rw [List.map_nil] at r;cases r;exact .nil
 | n::ns,_,r=>by
  rw [List.map_cons] at r
  cases r with
  | cons h t =>
   obtain ⟨t',rfl⟩:=h
   exact .cons _ _ (zkg t)
theorem zlf:∀ {ns:List Int} {us:List Value},IntsAre us ns→zck (ns.map V.int) us
 | _,_,.nil=>.nil
 | _,_,.cons n t r=>.cons ⟨t,rfl⟩ (zlf r)
theorem znW {pins:List (Addr×Obj)} {σ:St} {H:Hp} {s:Shared} {l:Addr} {h':Heap} {tk:Nat} {out:Array Value} {e:Nat} {ns':List Int} {Q:VK} (I:Inv X pins σ H s) (kp:∀ b o,s.heap.get? b=some o→h'.get? b=some o) (hlt:s.heap.objs.size≤l)
  (ho:h'.get? l=some (seqObj "list" out e)) (hI:IntsAre out.toList ns') (hl:ns'.length<64) (q:H l=none→Q (.ref l) (upd H l (.lst (ns'.map V.int)))):EP X pins σ Q (.ref l) { s with heap:=h',toks:=tk }:=by
 refine ⟨.ref l,_,I.laid (t':=tk) kp hlt (show zcd X.prog X.w _ h' _ (.lst (ns'.map V.int)) from ⟨?_,out.toList,e,zlf hI,ho⟩),rfl,q (I.hok.fresh hlt)⟩
 rw [List.length_map,sizeLine_eq]
 (first|lia|omega)
theorem zfl (hc:X.calm=true):zgU X (.builtin "sorted") zdH:=by
 intro pins s σ H xs us Q I r h
 obtain ⟨p,kvs,ks,rfl,hp,hk,h64,q⟩:=h
 obtain ⟨u,rfl,rx⟩:=zi3 r
 cases rx
 obtain ⟨z,hd,vs,rel,dd⟩:=zqz I.hok hp
 obtain ⟨ep,hat⟩:=dd.dictAt
 have hlv:vs.length=ks.length:=by
  have h1:=congrArg List.length hk
  rw [List.length_map,List.length_map] at h1
  rw [← h1,rel.length]
 refine Calls.call_function_entry kind_sorted plain_sorted entry_sorted (args_sorted1 _) ?_
 unfold Builtin.«sorted»
 refine wpAny_bind (m:=checkCount "sorted" 1 1 _) (wpAny_pure ?_)
 refine wpAny_bind (PySem.W.kdu_collect (A:=X.A.in1) (PySem.W.kdl_dict (knd:=zct X.prog X.w) (kvs:=vs) (ep:=ep) hd) (I.ok.hd hc) hat (by rw [hlv,sizeLine_eq];(first|lia|omega)) fun h' tk acc hkp hacc=>?_)
 have hla:acc.toList.length=ks.length:=by rw [Array.length_toList,hacc.1,hlv]
 have hI:IntsAre acc.toList ks:=by
  refine zkg (zmk (by rw [List.length_map,hla]) fun j x w e1 e2=>?_)
  rw [List.getElem?_map,Option.map_eq_some_iff] at e1
  obtain ⟨k,hkj,rfl⟩:=e1
  obtain ⟨k',x',hx',hkw⟩:=hacc.2 j w (by rw [← Array.getElem?_toList];exact e2)
  have e3:(kvs.map (·.1))[j]?=some (Sum.inl k):=by rw [hk,List.getElem?_map,hkj];rfl
  rw [rel.keys,List.getElem?_map,hx'] at e3
  have e4:k'=Sum.inl k:=Option.some.inj e3
  subst e4
  rcases zcf (show zmq (.inl k) w=true from hkw) with ⟨i,t,e5,rfl⟩ | ⟨y,t,e5,_⟩
  ·cases e5
   exact ⟨t,rfl⟩
  ·cases e5
 refine wpAny_bind (wpAny_newList ?_ (by rw [hla,sizeLine_eq];(first|lia|omega)))
 have hoL:(h'.push (seqObj "list" acc.toList.toArray 0)).get? h'.objs.size=some (seqObj "list" acc.toList.toArray 0):=Heap.get?_push_size _ rfl
 refine wpAny_bind (wpAny_holding (wpAny_call_entry slot_list_sort ⟨_,hoL,rfl⟩ entry_list_sort (list_sort_tree hoL hI (by rw [hla];exact h64) fun out ns' a1 a2 a3=>⟨_,rfl,?_⟩) (args_list_sort _)))
 obtain ⟨e,he⟩:=sortedHeap_at (out:=out) hoL
 refine wpAny_pure ⟨_,rfl,?_⟩
 have I':Inv X pins σ H { s with heap:=h',toks:=tk }:=I.kept (t':=tk) hkp
 refine znW (s:={ s with heap:=h',toks:=tk }) (h':=sortedHeap (h'.push (seqObj "list" acc.toList.toArray 0)) h'.objs.size acc.toList out) (tk:=tk) I' (fun b o hb'=>?_) (Nat.le_refl _) he a1 (by rw [a2.length_eq];exact h64) fun hn=>q _ ns' hn a2 a3
 have hlt:=Heap.lt_size hb'
 rw [sortedHeap_old (Nat.ne_of_lt hlt) (by rw [size_push'];exact Nat.lt_succ_of_lt hlt)]
 exact Heap.get?_push_of_some _ hb'
end
end L2
namespace L2
open PySem PySem.Spec PyProof.Rows
theorem zes (K:PySem.W.Frag):PySem.W.kitOne K (.type "list") (.type "tuple")=some false:=by first | rfl | kernel_rfl
theorem zjy (K:PySem.W.Frag):PySem.W.kitOne K (.type "tuple") (.type "int")=some false:=by first | rfl | kernel_rfl
theorem zey (K:PySem.W.Frag):PySem.W.kitOne K (.type "int") (.type "tuple")=some false:=by first | rfl | kernel_rfl
theorem zkr (K:PySem.W.Frag):PySem.W.kitOne K (.type "int") (.type "list")=some false:=by first | rfl | kernel_rfl
theorem ziZ (K:PySem.W.Frag):PySem.W.kitOne K (.type "bool") (.type "tuple")=some false:=by first | rfl | kernel_rfl
theorem zjr (K:PySem.W.Frag):PySem.W.kitOne K (.type "bool") (.type "list")=some false:=by first | rfl | kernel_rfl
theorem zjN (K:PySem.W.Frag):PySem.W.kitOne K (.type "str") (.type "tuple")=some false:=by first | rfl | kernel_rfl
theorem zkF (K:PySem.W.Frag):PySem.W.kitOne K (.type "str") (.type "list")=some false:=by first | rfl | kernel_rfl
theorem zll (K:PySem.W.Frag):PySem.W.kitOne K (.type "str") (.type "bool")=some false:=by first | rfl | kernel_rfl
theorem zl3 (K:PySem.W.Frag):PySem.W.kitOne K (.type "str") (.type "int")=some false:=by first | rfl | kernel_rfl
theorem zgJ (K:PySem.W.Frag):PySem.W.kitOne K (.type "NoneType") (.type "tuple")=some false:=by first | rfl | kernel_rfl
theorem zg6 (K:PySem.W.Frag):PySem.W.kitOne K (.type "NoneType") (.type "list")=some false:=by first | rfl | kernel_rfl
theorem zhj (K:PySem.W.Frag):PySem.W.kitOne K (.type "NoneType") (.type "bool")=some false:=by first | rfl | kernel_rfl
theorem zhD (K:PySem.W.Frag):PySem.W.kitOne K (.type "NoneType") (.type "int")=some false:=by first | rfl | kernel_rfl
theorem zhE (K:PySem.W.Frag):PySem.W.kitOne K (.type "NoneType") (.type "str")=some false:=by first | rfl | kernel_rfl
theorem zcz {K:PySem.W.Frag} {H:Hp} {Q:VK} {x:V} {t c:String} {b:Bool} (h:zm4 K H x (.type t)) (e:PySem.W.kitOne K (.type t) (.type c)=some b) (q:Q (.bl b) H):zdT K [x,.ty c] H Q:=⟨_,_,_,_,b,rfl,rfl,.of h,e,q⟩
end L2
namespace L2
open PySem PySem.Spec PyProof.Rows
def zoP (td ty tx:TE):TE:=fun σ H Q=>td σ H fun x H1=>∃ a,x=.ref a∧IsD H1 a∧ty σ H1 fun y H2=>tx σ H2 fun z H3=>∃ kvs k,H3 a=some (.dK kvs)∧y=kV k∧kvs.length<sizeLine ∧
 (∀ v,zdJ kvs k=some v→Q v H3)∧(zdJ kvs k=none→Q z (upd H3 a (.dK (zd8 kvs k z))))
section
variable {X:Cx} {o e f:Expr} {apos cpos:Pos} {td ty tx:TE}
theorem zqg (hu:X.A.units+1<cLine) (ho:PE X o td) (he:PE X e ty) (hf:PE X f tx) (m:M2 X o "setdefault" apos e f cpos):PE X (.Call (.Attribute o "setdefault" apos) [e,f] [] cpos) (zoP td ty tx):=by
 intro pins s σ H Q I h
 refine wpAny_Call_method m.base m.few m.line PySem.F.plainAttrs_dict PySem.F.slot_dict_setdefault PySem.F.type_dict_setdefault (thn (ho pins s σ H _ I h) fun u s1 hQ'=>?_)
 obtain ⟨x,H1,I1,rx,a,ex,d,q1⟩:=hQ'
 subst ex
 obtain rfl:u=Value.ref a:=rx
 obtain ⟨t1,t2,_⟩:=zrT I1 d
 refine ⟨t1,t2,?_⟩
 rw [m.trees]
 refine Calls.callWith_builtin rfl (Calls.evalArgs_plain (Calls.spliced_cons (thn (he pins s1 σ H1 _ I1 q1) fun iv s2 ⟨y,H2,I2,ry,q2⟩ =>
  Calls.spliced_cons (thn (hf pins s2 σ H2 _ I2 q2) fun fv s3 ⟨z,H3,I3,rz,kvs,k,ea,ey,hl,q3,q4⟩=>Calls.spliced_nil ?_))))
 subst ey
 obtain ⟨zl,hd,vs,rel,dd⟩:=zqz I3.hok ea
 refine call_meetsIn PySem.F.slot_dict_setdefault dd.typeIs PySem.F.entry_dict_setdefault (PySem.F.args_dict_setdefault_3 _ _ _) (kt_meets_setdefault (zct X.prog X.w) a (zlk ry) hd fv) ⟨vs,dd,by rw [← rel.length];exact zl,fun w hw=>?_,fun hn h' dd' hs=>?_⟩
 ·have r1:=rel.val k
  rw [hw] at r1
  cases hv:zdJ kvs k with
  | none=>rw [hv] at r1;exact (show False from r1).elim
  | some v=>rw [hv] at r1;exact ⟨v,H3,I3.tok _,r1,q3 v hv⟩
 ·have r1:=rel.val k
  rw [hn] at r1
  have hv:zdJ kvs k=none:=by
   cases hv:zdJ kvs k with
   | none=>rfl
   | some v=>rw [hv] at r1;exact (show False from r1).elim
  have he:∃ q,h'.get? a=some q:=let ⟨q,_,_,hq,_⟩:=dd';⟨q,hq⟩
  have hlp:(zd8 kvs k z).length≤sizeLine:=by have:=zcs kvs k z;(first|lia|omega)
  exact ⟨z,_,zjS I3 (by rw [ea];exact True.intro) hs he (zoI hlp hd (rel.put k rz) dd'),rz,q4 hv⟩
end
end L2
namespace L2
open PySem PySem.Spec PyProof.Rows
def zky (K:PySem.W.Frag):List V→Hp→VK→Prop:=fun xs H Q=>∃ (p:Addr) (ns:List Int),xs=[.ref p]∧SqL K H p (ns.map V.int)∧ns.length<4000∧∀ (l:Addr) (ds:List Int) (S:Int→Bool),H l=none→ds.Nodup→(∀ x,x∈ds↔x∈ns)→Q (.ref l) (upd H l (.set S ds.length))
def zoj:List V→Hp→VK→Prop:=fun xs H Q=>∃ (p:Addr) (S:Int→Bool) (n:Nat),xs=[.ref p]∧H p=some (.set S n)∧Q (.int n) H
theorem zgp (val:Nat→Int):∀ n,(firstMet val n).Nodup
 | 0=>by rw [firstMet_zero];exact List.nodup_nil
 | n+1=>by
  rw [firstMet_succ]
  unfold step_dedup
  split
  ·exact zgp val n
  ·rename_i c
   refine List.nodup_append.mpr ⟨zgp val n,by simp,fun a ha b hb e=>c ?_⟩
   have:b=val n:=by simpa using hb
   subst this
   subst e
   exact List.any_eq_true.mpr ⟨_,ha,by simp⟩
theorem zp0 (ns:List Int) (x:Int):x∈firstMet (fun i=>ns.getD i 0) ns.length↔x∈ns:=by
 have h:=firstMet_any (fun i=>ns.getD i 0) ns.length x
 have e:(List.range ns.length).map (fun i=>ns.getD i 0)=ns:=by
  apply List.ext_getElem
  ·simp
  ·intro i h1 h2
   simp [h2]
 rw [e] at h
 have z:∀ l:List Int,l.any (· == x)=true↔x∈l:=fun l=>by
  rw [List.any_eq_true]
  exact ⟨fun ⟨y,hy,hxy⟩=>by rw [← (beq_iff_eq.mp hxy)];exact hy,fun hx=>⟨x,hx,by simp⟩⟩
 rw [← z,h,z]
section
variable {X:Cx}
theorem zoy (hc:X.calm=true):zgU X (.type "set") (zky X.K):=by
 intro pins s σ H xs us Q I r h
 obtain ⟨p,ns,rfl,hp,hl,q⟩:=h
 obtain ⟨u,rfl,rx⟩:=zi3 r
 cases rx
 obtain ⟨its,rv,pl,hz⟩:=I.list hp
 have hI:=zkg rv
 have hle:its.length=ns.length:=by rw [← rv.length,List.length_map]
 refine call_set_list (ns:=ns) (I.ok.hd hc) pl.isList (by simpa using hI) (by rw [List.size_toArray,hle];show ns.length+1<4096;(first|lia|omega)) fun h' tk hS kp=>?_
 have e:its.toArray.size=ns.length:=by rw [List.size_toArray,hle]
 simp only [e] at hS
 exact ⟨.ref s.heap.objs.size,_,I.laid (t':=tk) (fun b o e=>kp b o (Heap.lt_size e) e) (Nat.le_refl _) (show zcd X.prog X.w _ h' _ (.set _ _) from hS),rfl,q _ _ _ (I.hok.fresh (Nat.le_refl _)) (zgp _ _) (zp0 ns)⟩
theorem zoV:zgU X (.builtin "len") zoj:=by
 intro pins s σ H xs us Q I r h
 obtain ⟨p,S,n,rfl,hp,q⟩:=h
 obtain ⟨u,rfl,rx⟩:=zi3 r
 cases rx
 obtain ⟨o,es,ep,t,h1,h2,h3,_,_,h6,h7,h8⟩:=(show s.heap.SetOf (intKind X.prog X.w) p S n from I.hok p _ hp)
 refine call_len_set h1 h2 h3 h7 (by have:es.size<4096:=h6;(first|lia|omega)) ?_
 exact ⟨.int n,H,I.tok _,⟨_,by rw [h8]⟩,q⟩
end
end L2
namespace L2
open PySem
theorem zpN {v:V} {σ:List (Option V)} {H:Hp} {Q:VK}:zac 0 (some v::σ) H Q=Q v H:=by simp [zac]
theorem zon {x0:Option V} {v:V} {σ:List (Option V)} {H:Hp} {Q:VK}:zac 1 (x0::some v::σ) H Q=Q v H:=by simp [zac]
theorem zoM {x0 x1:Option V} {v:V} {σ:List (Option V)} {H:Hp} {Q:VK}:zac 2 (x0::x1::some v::σ) H Q=Q v H:=by simp [zac]
theorem zpg {x0 x1 x2:Option V} {v:V} {σ:List (Option V)} {H:Hp} {Q:VK}:zac 3 (x0::x1::x2::some v::σ) H Q=Q v H:=by simp [zac]
theorem zpk {x0 x1 x2 x3:Option V} {v:V} {σ:List (Option V)} {H:Hp} {Q:VK}:zac 4 (x0::x1::x2::x3::some v::σ) H Q=Q v H:=by simp [zac]
theorem zpO {x0 x1 x2 x3 x4:Option V} {v:V} {σ:List (Option V)} {H:Hp} {Q:VK}:zac 5 (x0::x1::x2::x3::x4::some v::σ) H Q=Q v H:=by simp [zac]
theorem zpE {x0 x1 x2 x3 x4 x5:Option V} {v:V} {σ:List (Option V)} {H:Hp} {Q:VK}:zac 6 (x0::x1::x2::x3::x4::x5::some v::σ) H Q=Q v H:=by simp [zac]
theorem zoD {x0 x1 x2 x3 x4 x5 x6:Option V} {v:V} {σ:List (Option V)} {H:Hp} {Q:VK}:zac 7 (x0::x1::x2::x3::x4::x5::x6::some v::σ) H Q=Q v H:=by simp [zac]
theorem zsU {x0 x1 x2 x3 x4 x5 x6 x7:Option V} {v:V} {σ:List (Option V)} {H:Hp} {Q:VK}:zac 8 (x0::x1::x2::x3::x4::x5::x6::x7::some v::σ) H Q=Q v H:=by simp [zac]
theorem zsZ {x0 x1 x2 x3 x4 x5 x6 x7 x8:Option V} {v:V} {σ:List (Option V)} {H:Hp} {Q:VK}:zac 9 (x0::x1::x2::x3::x4::x5::x6::x7::x8::some v::σ) H Q=Q v H:=by simp [zac]
theorem zqk {x0 x1 x2 x3 x4 x5 x6 x7 x8 x9:Option V} {v:V} {σ:List (Option V)} {H:Hp} {Q:VK}:zac 10 (x0::x1::x2::x3::x4::x5::x6::x7::x8::x9::some v::σ) H Q=Q v H:=by simp [zac]
theorem zqc {x0 x1 x2 x3 x4 x5 x6 x7 x8 x9 x10:Option V} {v:V} {σ:List (Option V)} {H:Hp} {Q:VK}:zac 11 (x0::x1::x2::x3::x4::x5::x6::x7::x8::x9::x10::some v::σ) H Q=Q v H:=by simp [zac]
theorem zql {x0 x1 x2 x3 x4 x5 x6 x7 x8 x9 x10 x11:Option V} {v:V} {σ:List (Option V)} {H:Hp} {Q:VK}:zac 12 (x0::x1::x2::x3::x4::x5::x6::x7::x8::x9::x10::x11::some v::σ) H Q=Q v H:=by simp [zac]
theorem zrr {x0 x1 x2 x3 x4 x5 x6 x7 x8 x9 x10 x11 x12:Option V} {v:V} {σ:List (Option V)} {H:Hp} {Q:VK}:zac 13 (x0::x1::x2::x3::x4::x5::x6::x7::x8::x9::x10::x11::x12::some v::σ) H Q=Q v H:=by simp [zac]
theorem zra {x0 x1 x2 x3 x4 x5 x6 x7 x8 x9 x10 x11 x12 x13:Option V} {v:V} {σ:List (Option V)} {H:Hp} {Q:VK}:zac 14 (x0::x1::x2::x3::x4::x5::x6::x7::x8::x9::x10::x11::x12::x13::some v::σ) H Q=Q v H:=by simp [zac]
theorem zqD {x0 x1 x2 x3 x4 x5 x6 x7 x8 x9 x10 x11 x12 x13 x14:Option V} {v:V} {σ:List (Option V)} {H:Hp} {Q:VK}:zac 15 (x0::x1::x2::x3::x4::x5::x6::x7::x8::x9::x10::x11::x12::x13::x14::some v::σ) H Q=Q v H:=by simp [zac]
theorem zrE {x0:Option V} {v:V} {σ:List (Option V)} {H:Hp} {Q:St→Hp→Prop}:zal 0 v (x0::σ) H Q=Q (some v::σ) H:=rfl
theorem zq7 {x0 x1:Option V} {v:V} {σ:List (Option V)} {H:Hp} {Q:St→Hp→Prop}:zal 1 v (x0::x1::σ) H Q=Q (x0::some v::σ) H:=rfl
theorem zrj {x0 x1 x2:Option V} {v:V} {σ:List (Option V)} {H:Hp} {Q:St→Hp→Prop}:zal 2 v (x0::x1::x2::σ) H Q=Q (x0::x1::some v::σ) H:=rfl
theorem zmO {x0 x1 x2 x3:Option V} {v:V} {σ:List (Option V)} {H:Hp} {Q:St→Hp→Prop}:zal 3 v (x0::x1::x2::x3::σ) H Q=Q (x0::x1::x2::some v::σ) H:=rfl
theorem zmK {x0 x1 x2 x3 x4:Option V} {v:V} {σ:List (Option V)} {H:Hp} {Q:St→Hp→Prop}:zal 4 v (x0::x1::x2::x3::x4::σ) H Q=Q (x0::x1::x2::x3::some v::σ) H:=rfl
theorem zm1 {x0 x1 x2 x3 x4 x5:Option V} {v:V} {σ:List (Option V)} {H:Hp} {Q:St→Hp→Prop}:zal 5 v (x0::x1::x2::x3::x4::x5::σ) H Q=Q (x0::x1::x2::x3::x4::some v::σ) H:=rfl
theorem zm3 {x0 x1 x2 x3 x4 x5 x6:Option V} {v:V} {σ:List (Option V)} {H:Hp} {Q:St→Hp→Prop}:zal 6 v (x0::x1::x2::x3::x4::x5::x6::σ) H Q=Q (x0::x1::x2::x3::x4::x5::some v::σ) H:=rfl
theorem zm9 {x0 x1 x2 x3 x4 x5 x6 x7:Option V} {v:V} {σ:List (Option V)} {H:Hp} {Q:St→Hp→Prop}:zal 7 v (x0::x1::x2::x3::x4::x5::x6::x7::σ) H Q=Q (x0::x1::x2::x3::x4::x5::x6::some v::σ) H:=rfl
theorem zrD {x0 x1 x2 x3 x4 x5 x6 x7 x8:Option V} {v:V} {σ:List (Option V)} {H:Hp} {Q:St→Hp→Prop}:zal 8 v (x0::x1::x2::x3::x4::x5::x6::x7::x8::σ) H Q=Q (x0::x1::x2::x3::x4::x5::x6::x7::some v::σ) H:=rfl
theorem zq8 {x0 x1 x2 x3 x4 x5 x6 x7 x8 x9:Option V} {v:V} {σ:List (Option V)} {H:Hp} {Q:St→Hp→Prop}:zal 9 v (x0::x1::x2::x3::x4::x5::x6::x7::x8::x9::σ) H Q=Q (x0::x1::x2::x3::x4::x5::x6::x7::x8::some v::σ) H:=rfl
theorem zoC {x0 x1 x2 x3 x4 x5 x6 x7 x8 x9 x10:Option V} {v:V} {σ:List (Option V)} {H:Hp} {Q:St→Hp→Prop}:zal 10 v (x0::x1::x2::x3::x4::x5::x6::x7::x8::x9::x10::σ) H Q=Q (x0::x1::x2::x3::x4::x5::x6::x7::x8::x9::some v::σ) H:=rfl
theorem zpV {x0 x1 x2 x3 x4 x5 x6 x7 x8 x9 x10 x11:Option V} {v:V} {σ:List (Option V)} {H:Hp} {Q:St→Hp→Prop}:zal 11 v (x0::x1::x2::x3::x4::x5::x6::x7::x8::x9::x10::x11::σ) H Q=Q (x0::x1::x2::x3::x4::x5::x6::x7::x8::x9::x10::some v::σ) H:=rfl
theorem zoS {x0 x1 x2 x3 x4 x5 x6 x7 x8 x9 x10 x11 x12:Option V} {v:V} {σ:List (Option V)} {H:Hp} {Q:St→Hp→Prop}:zal 12 v (x0::x1::x2::x3::x4::x5::x6::x7::x8::x9::x10::x11::x12::σ) H Q=Q (x0::x1::x2::x3::x4::x5::x6::x7::x8::x9::x10::x11::some v::σ) H:=rfl
theorem zoU {x0 x1 x2 x3 x4 x5 x6 x7 x8 x9 x10 x11 x12 x13:Option V} {v:V} {σ:List (Option V)} {H:Hp} {Q:St→Hp→Prop}:zal 13 v (x0::x1::x2::x3::x4::x5::x6::x7::x8::x9::x10::x11::x12::x13::σ) H Q=Q (x0::x1::x2::x3::x4::x5::x6::x7::x8::x9::x10::x11::x12::some v::σ) H:=rfl
theorem rI_c {C:Int→Int→Prop} {g:Int→Int→V} {a b:Int} {H:Hp} {Q:VK}:rI C g (.int a) (.int b) H Q=(C a b∧Q (g a b) H):=by simp [rI]
theorem ztN {g:Int→Int→V} {a b:Int} {H:Hp} {Q:VK}:rI0 g (.int a) (.int b) H Q=Q (g a b) H:=by simp [rI0]
theorem zrP {K:PySem.W.Frag} {p:Addr} {i:Int} {H:Hp} {Q:VK}:zcg K (.ref p) (.int i) H Q=∃ xs,SqL K H p xs∧∃ v,atI xs i=some v∧Q v H:=by simp [zcg]
theorem ztI {K:PySem.W.Frag} {p:Addr} {i:Int} {H:Hp} {Q:VK}:zdz K (.ref p) (.int i) H Q=∃ xs,SqT K H p xs∧∃ v,atI xs i=some v∧Q v H:=by simp [zdz]
theorem ztm {c:Bool} {Q:Bool→Prop}:(∃ k,V.bl c=V.bl k∧Q k)=Q c:=by simp
theorem zrM {c:Int} {Q:Int→Prop}:(∃ k,V.int c=V.int k∧Q k)=Q c:=by simp
theorem zrK {c:Addr} {Q:Addr→Prop}:(∃ k,V.ref c=V.ref k∧Q k)=Q c:=by simp
theorem zrJ {c:Int} {Q:Int→Prop}:(∃ k,[V.int c]=[V.int k]∧Q k)=Q c:=by simp
theorem zrW {c:Addr} {Q:Addr→Prop}:(∃ k,[V.ref c]=[V.ref k]∧Q k)=Q c:=by simp
end L2
namespace L2
open PySem PySem.Spec PyProof.Rows
section
variable {α β:Type}
def Kd:Sem α→Prop
 | .pure _=>True
 | .raise _=>True
 | .unsupported _=>True
 | .finish _=>True
 | .rule _ k=>Kd (k ())
 | .at _ k=>Kd (k ())
 | .load _ _ k=>∀ o,Kd (k o)
 | .update _ _ f k=>(∀ o:Obj,(f o).dict=o.dict∧(f o).isFreed=o.isFreed)∧Kd (k ())
 | .alloc _ k=>∀ a,Kd (k a)
 | .loadIfAlive _ k=>∀ o,Kd (k o)
 | .point _ k=>Kd (k ())
 | .fresh k=>∀ n,Kd (k n)
 | .ask k=>∀ n,Kd (k n)
 | .handled _ k=>∀ n,Kd (k n)
 | .stack k=>∀ l,Kd (k l)
 | .thread k=>∀ n,Kd (k n)
 | _=>False
theorem zbi {f:α→Sem β} (hf:∀ x,Kd (f x)):∀ {t:Sem α},Kd t→Kd (t >>= f)
 | .pure a,_=>hf a
 | .raise _,_=>trivial
 | .unsupported _,_=>trivial
 | .finish _,_=>trivial
 | .rule _ k,h=>zbi hf (t:=k ()) h
 | .at _ k,h=>zbi hf (t:=k ()) h
 | .load _ _ k,h=>fun o=>zbi hf (t:=k o) (h o)
 | .update _ _ _ k,h=>⟨h.1,zbi hf (t:=k ()) h.2⟩
 | .alloc _ k,h=>fun o=>zbi hf (t:=k o) (h o)
 | .loadIfAlive _ k,h=>fun o=>zbi hf (t:=k o) (h o)
 | .point _ k,h=>zbi hf (t:=k ()) h
 | .fresh k,h=>fun o=>zbi hf (t:=k o) (h o)
 | .ask k,h=>fun o=>zbi hf (t:=k o) (h o)
 | .handled _ k,h=>fun o=>zbi hf (t:=k o) (h o)
 | .stack k,h=>fun o=>zbi hf (t:=k o) (h o)
 | .thread k,h=>fun o=>zbi hf (t:=k o) (h o)
 | .register ..,h=>h.elim
 | .choose ..,h=>h.elim
 | .os ..,h=>h.elim
 | .call ..,h=>h.elim
 | .newGen ..,h=>h.elim
 | .genState ..,h=>h.elim
 | .resume ..,h=>h.elim
 | .yield ..,h=>h.elim
 | .fork ..,h=>h.elim
 | .await ..,h=>h.elim
def zle (e:Addr) (od:Option Addr) (h:Heap):Prop:=∃ o,h.get? e=some o∧o.dict=od
theorem zhe {M:Model} {Γ:PySem.Ctx} {Q:α→Pos→Shared→Prop} {E:Value→Pos→Shared→Prop} {e:Addr} {od:Option Addr}:∀ {t:Sem α} {p:Pos} {s:Shared},Kd t→zle e od s.heap→Sem.wp M Γ t Q E p s →
  Sem.wp M Γ t (fun a p s'=>Q a p s'∧zle e od s'.heap) E p s
 | .pure _,_,_,_,d,h=>⟨h,d⟩
 | .raise _,_,_,_,_,h=>h
 | .unsupported _,_,_,_,_,h=>h
 | .finish _,_,_,_,_,h=>h
 | .rule _ k,_,_,c,d,h=>zhe (t:=k ()) c d h
 | .at _ k,_,_,c,d,h=>zhe (t:=k ()) c d h
 | .load _ _ k,_,_,c,d,⟨o,ho,h⟩=>⟨o,ho,zhe (t:=k o) (c o) d h⟩
 | .update a _ f k,p,s,c,d,⟨hi,h⟩=>by
  refine ⟨hi,zhe (t:=k ()) c.2 ?_ h⟩
  obtain ⟨o,ho,hd⟩:=d
  by_cases ea:a=e
  ·subst ea
   have nf:o.isFreed=false:=(Heap.get?_some_iff.mp ho).2
   exact ⟨f o,Heap.get?_update_self f ho (by rw [(c.1 o).2];exact nf),by rw [(c.1 o).1];exact hd⟩
  ·exact ⟨o,(Heap.get?_update_other _ f ea).trans ho,hd⟩
 | .alloc o k,p,s,c,⟨o',ho,hd⟩,h=>zhe (t:=k _) (c _) ⟨o',Heap.get?_push_of_some _ ho,hd⟩ h
 | .loadIfAlive _ k,_,_,c,d,h=>zhe (t:=k _) (c _) d h
 | .point _ k,_,_,c,d,h=>zhe (t:=k ()) c d h
 | .fresh k,_,_,c,d,h=>zhe (t:=k _) (c _) d h
 | .ask k,_,_,c,d,h=>zhe (t:=k _) (c _) d h
 | .handled _ k,_,_,c,d,h=>zhe (t:=k _) (c _) d h
 | .stack k,_,_,c,d,h=>zhe (t:=k _) (c _) d h
 | .thread k,_,_,c,d,h=>zhe (t:=k _) (c _) d h
 | .register ..,_,_,c,_,_=>c.elim
 | .choose ..,_,_,c,_,_=>c.elim
 | .os ..,_,_,c,_,_=>c.elim
 | .call ..,_,_,c,_,_=>c.elim
 | .newGen ..,_,_,c,_,_=>c.elim
 | .genState ..,_,_,c,_,_=>c.elim
 | .resume ..,_,_,c,_,_=>c.elim
 | .yield ..,_,_,c,_,_=>c.elim
 | .fork ..,_,_,c,_,_=>c.elim
 | .await ..,_,_,c,_,_=>c.elim
theorem zjq {M:Model} {A:Around} {t:Sem α} {Q:α→Shared→Prop} {E:Value→Shared→Prop} {s:Shared} {e:Addr} {od:Option Addr} (c:Kd t) (d:zle e od s.heap) (h:wpAny M A t (fun a s'=>zle e od s'.heap→Q a s') E s):wpAny M A t Q E s:=fun Γ p hΓ =>
 Sem.wp_mono M Γ t (fun _ _ _ z=>z.1 z.2) (fun _ _ _ z=>z) p s (zhe c d (h Γ p hΓ))
end
theorem zls (f:Array Value→Array Value) (o:Obj):(Obj.mapFields f o).dict=o.dict∧(Obj.mapFields f o).isFreed=o.isFreed:=by
 obtain ⟨c,d,dat,sl⟩:=o
 cases dat <;> exact ⟨rfl,rfl⟩
theorem zco {α:Type} (a:α):Kd (pure a:Sem α):=trivial
theorem zf1 {α:Type} (w:String):Kd (unsupported w:Sem α):=trivial
theorem zmg (a:Addr):Kd (load a):=fun _=>trivial
theorem zjK:Kd stack:=fun _=>trivial
theorem zqT (o:Obj):Kd (alloc o):=fun _=>trivial
theorem zrV {a:Addr} {f:Obj→Obj} (h:∀ o:Obj,(f o).dict=o.dict∧(f o).isFreed=o.isFreed):Kd (update a f):=⟨h,trivial⟩
theorem zkz {α:Type} {c:Prop} [Decidable c] {a b:Sem α} (h1:Kd a) (h2:Kd b):Kd (if c then a else b):=by
 split
 ·exact h1
 ·exact h2
theorem zhG (v:Value) (i:Nat):Kd (field v i):=by
 unfold field fieldsOf
 refine zbi (fun x=>?_) ?_
 ·split
  ·exact zco _
  ·exact zf1 _
 ·split
  ·refine zbi (fun o=>?_) (zmg _)
   split
   ·exact zco _
   ·exact zf1 _
  ·exact zf1 _
theorem zgf (v:Value) (i:Nat) (x:Value):Kd (setField v i x):=by
 unfold setField updateField
 split
 ·refine zbi (fun o=>?_) (zmg _)
  split
  ·exact zkz (zrV (zls _)) (zf1 _)
  ·exact zf1 _
 ·exact zf1 _
theorem zkH (ty:String) (vs:List Value):Kd (newFields ty vs):=by
 unfold newFields newObj newObjAsIs
 simp only
 split
 ·exact zf1 _
 ·exact zbi (fun _=>zco _) (zqT _)
theorem zf6:∀ l:List Env,Kd (readyFrames l)
 | []=>trivial
 | env::outer=>by
  have ih:=zf6 outer
  unfold readyFrames
  split
  ·refine zbi (fun o=>?_) (zmg _)
   refine zkz (zco _) ?_
   refine zbi (fun im=>?_) ?_
   ·refine zbi (fun bk=>?_) ?_
    ·exact zbi (fun _=>ih) (zrV fun o=>⟨rfl,by obtain ⟨c,d,dat,sl⟩:=o;cases dat <;> rfl⟩)
    ·unfold keptBack underTheClaimsCaller
     split
     ·refine zkz (zco _) ?_
      exact zbi (fun _=>zco _) (zbi (fun _=>zco _) zjK)
     ·exact zco _
   ·unfold behindIsImport
    refine zkz (zco _) (zkz (zco _) ?_)
    exact zbi (fun _=>zco _) (zhG _ _)
  ·exact zf1 _
theorem zno (env:Env):Kd (PySem.frameOf env):=by
 unfold PySem.frameOf frameEnvs
 refine zbi (fun x=>?_) (zbi (fun _=>zco _) zjK)
 refine zbi (fun y=>?_) ?_
 ·split
  ·exact zco _
  ·exact zf1 _
 ·unfold frameObject
  split
  ·exact zco _
  ·exact zbi (fun _=>zco _) (zf6 _)
theorem zhY (f:Addr) (b:Bool):Kd (entryPlaceOf f b):=by
 unfold entryPlaceOf
 refine zbi (fun x=>?_) zjK
 split
 ·exact zco _
 ·exact zco _
theorem zhp (e:Value) (env:Env):Kd (noteFrame e env):=by
 unfold noteFrame EntryCells.newEntry
 split
 ·refine zbi (fun head=>?_) (zhG _ _)
  have zhH:∀ f:Addr,Kd (do let a ← PySem.frameOf env;let pl ← entryPlaceOf f (head != .none);let b ← newFields "traceback" ([head,a,.none,rawInt f,.none]++(if pl.isEmpty then List.replicate 6 .none else pl));setField e 1 b):=fun f =>
   zbi (fun _=>zbi (fun _=>zbi (fun _=>zgf _ _ _) (zkH _ _)) (zhY _ _)) (zno _)
  refine zkz ?_ (zhH _)
  refine zbi (fun x=>zkz (zco _) ?_) (zhG _ _)
  exact zbi (fun _=>zhH _) (zgf _ _ _)
 ·exact zf1 _
theorem zfh (e:Value) (f:Option Addr):Kd (setFlight e f):=by
 unfold setFlight
 exact zbi (fun _=>zkz (zgf _ _ _) (zco _)) (zhG _ _)
theorem zhi (env:Env) (e:Value):Kd (leaving env e):=by
 unfold leaving
 exact zbi (fun _=>zfh _ _) (zhp _ _)
structure ExI (K:PySem.W.Frag) (C fI:Addr):Prop where
 lk:∃ nm q N bs bm sn sub ab col dd k0 k1 k2 k3 k5,K.lookup C=some (excClassObj nm q C N bs bm true sn sub ab col dd k0 k1 k2 k3 k5 "ValueError.__new__")∧PySem.W.tailIn K zfQ bm=true
 ini:PySem.W.findIn K (.ref C) "__init__"=some (some (.ref fI))
 fn:PySem.W.isFn K (.ref fI)=true
 kp:PySem.W.keepIn K (.ref C)=true
 mo:PySem.W.mroIn K C (.type "object")=some true
 sa:PySem.W.findIn K (.ref C) "__setattr__"=some (some (.builtin "object.__setattr__"))
section
variable {K:PySem.W.Frag} {prog:Program} {w:World} {A:Around} {E:Value→Shared→Prop} {h:Heap} {g:Array GenState} {d:Drawn} {t:Nat} {os:OsState} {C fI:Addr} {us:List Value}
theorem zsq {bm:List Value} {nm q:Str} {N:Addr} {bs:List Value} {hdct:Bool} {sn:List Str} {sub:List Value} {ab:Bool} {col:Option Bool} {dd:Option Addr} {k0 k1 k2 k3 k5:Option Value} {Q:Fin→Shared→Prop} (X:K.In h) (Z:ExI K C fI)
  (kC:h.get? C=some (excClassObj nm q C N bs bm hdct sn sub ab col dd k0 k1 k2 k3 k5 "ValueError.__new__")) (T:OwnTail h zfQ bm) (hl:us.length≤sizeLine)
  (hq:∀ h1 x,x=h.objs.size+1→Heap.MadeExcOf h h1 x (.ref C) us→wpAny (model prog w) A (call (.ref fI) (.ref x::us)) (fun r s'=>r=.none∧Q (.done (.ret (.ref x))) s') E ⟨h1,g,d,t,os⟩) :
  wpAny (model prog w) A (Builtin.«type.__call__» ⟨.ref C::us,[]⟩) Q E ⟨h,g,d,t,os⟩:=by
 have F:=PySem.F.excBase_ValueError
 repeat (first | (with_reducible refine wpAny_loadPart_at kC ?_) | (with_reducible refine wpAny_madeBy_exc kC ?_) | wp_step)
 refine codeAny_call_builtin_code (Code.quiet_builtin _ F.quiet) (wpAny_check_new_subT F T kC (codeAny_exc_new_subT F T kC ?_ hl))
 show wpAny _ _ _ _ _ _
 have st:∀ b o,h.get? b=some o→((h.push { cls:=.type "tuple",data:=.seq us.toArray }).push { cls:=.ref C,data:=.fields #[.ref h.objs.size,.none,.none,.none,.bool false,.none] }).get? b=some o :=
  fun b o e=>Heap.get?_push_of_some _ (Heap.get?_push_of_some _ e)
 have gx:((h.push { cls:=.type "tuple",data:=.seq us.toArray }).push { cls:=.ref C,data:=.fields #[.ref h.objs.size,.none,.none,.none,.bool false,.none] }).get? (h.objs.size+1) =
   some { cls:=.ref C,data:=.fields #[.ref h.objs.size,.none,.none,.none,.bool false,.none] }:=by heap_get
 have gt:((h.push { cls:=.type "tuple",data:=.seq us.toArray }).push { cls:=.ref C,data:=.fields #[.ref h.objs.size,.none,.none,.none,.bool false,.none] }).get? h.objs.size =
   some { cls:=.type "tuple",data:=.seq us.toArray }:=Heap.get?_push_of_some _ (Heap.get?_push_at rfl rfl)
 generalize ((h.push { cls:=.type "tuple",data:=.seq us.toArray }).push { cls:=.ref C,data:=.fields #[.ref h.objs.size,.none,.none,.none,.bool false,.none] })=h1 at st gx gt ⊢
 have X1:K.In h1:=fun a o e=>st a o (X a o e)
 have k1:=st _ _ kC
 have LI:=PySem.W.looks_findIn (M:=model prog w) X1 Z.ini
 have cC:(Value.ref C::bm).contains (.ref C)=true:=by simp
 unfold isInstance
 repeat (first | (with_reducible refine wpAny_loadPart_at gx ?_) | (with_reducible refine wpAny_isSubtype_exc k1 ?_;rw [cC]) | (with_reducible refine LI.at ?_) | wp_step)
 refine (PySem.W.bind_fn (M:=model prog w) X1 (.ref (h.objs.size+1)) (beq_iff_eq.mp Z.fn)).at ?_
 refine wpAny_bind (wpAny_mono (hq h1 (h.objs.size+1) rfl ⟨st,Heap.get?_none_of_le (Nat.le_succ _),h.objs.size,gx,Heap.get?_none_of_le (Nat.le_refl _),gt⟩) (fun r s' z=>?_) fun _ _ z=>z)
 obtain ⟨rfl,z⟩:=z
 refine wpAny_pure ?_
 wp_walk
 exact z
theorem zsb {Q:Value→Shared→Prop} (X:K.In h) (Z:ExI K C fI) (hl:us.length≤sizeLine)
  (hq:∀ h1 x,x=h.objs.size+1→Heap.MadeExcOf h h1 x (.ref C) us→wpAny (model prog w) (A.under (.builtin "type.__call__" ⟨.ref C::us,[]⟩)) (call (.ref fI) (.ref x::us)) (fun r s'=>r=.none∧Q (.ref x) s') E ⟨h1,g,d,t,os⟩) :
  wpAny (model prog w) A (call (.ref C) us) Q E ⟨h,g,d,t,os⟩:=by
 obtain ⟨nm,q,N,bs,bm,sn,sub,ab,col,dd,k0,k1,k2,k3,k5,lk,tl⟩:=Z.lk
 have kC:=X _ _ lk
 have l1:=tc_lookup
 have l2:=tc_bind (.ref C)
 have l3:(⟨h,g,d,t,os⟩:Shared).TypeIs (.ref C) "type":=⟨_,kC,rfl⟩
 refine wpAny_call (codeAny_of_tree ?_)
 show wpAny _ _ (callAny (.ref C) _) _ _ _
 repeat (any_goals (first | assumption | (with_reducible refine wpAny_loadPart_at kC ?_) | wp_step))
 refine ⟨rfl,codeAny_call_builtin_at (Code.quiet_builtin _ (by decide +kernel)) entry_typeCall (wpAny_check_type_call_sub kC ?_)⟩
 exact zsq X Z kC (PySem.W.tail_of_in X tl) hl hq
end
def zp1 (x:Addr) (C:Addr):HO:=.ext fun h=>∃ o t0,h.get? x=some o∧o.cls=.ref C∧o.dict=none∧o.data=.fields #[.ref t0,.none,.none,.none,.bool false,.none]
def zrt (x:Addr) (C dx:Addr):HO:=.ext fun h=>∃ o t0,h.get? x=some o∧o.cls=.ref C∧o.dict=some dx∧o.data=.fields #[.ref t0,.none,.none,.none,.bool false,.none]
structure ExB (K:PySem.W.Frag) (D:Addr):Prop where
 sg:PySem.W.specialIn K (.ref D) "__getattribute__"=some (some (.builtin "type.__getattribute__"))
 rd:PySem.W.readsIn K D (.type "type")=true
 fc:PySem.W.findCls K (.ref D) (.type "type") "__init__"=some (.val (.builtin "ValueError.__init__"))
theorem zqK {H:Hp} {x:Addr} {o:HO} (h:H x=some o):upd H x o=H:=by
 funext b
 unfold upd
 split
 ·rename_i e
  rw [e,h]
 ·rfl
section
variable {X:Cx} {pins:List (Addr×Obj)} {σ:St} {H:Hp} {s:Shared}
theorem zpy {A:Around} {E:Value→Shared→Prop} {Q:Value→Shared→Prop} {x C:Addr} {us:List Value} (I:Inv X pins σ H s) (hx:H x=some (zp1 x C)) (Z:∃ fI,ExI X.K C fI) (hl:us.length≤sizeLine)
  (h:∀ s',Inv X pins σ H s'→Q .none s'):wpAny (model X.prog X.w) A (call (.builtin "ValueError.__init__") (.ref x::us)) Q E s:=by
 obtain ⟨fI,Z⟩:=Z
 obtain ⟨nm,q,N,bs,bm,sn,sub,ab,col,dd,k0,k1,k2,k3,k5,lk,tl⟩:=Z.lk
 have kC:=I.kIn _ _ lk
 have T:=PySem.W.tail_of_in I.kIn tl
 have F:=PySem.F.excBase_ValueError
 obtain ⟨⟨o,t0,ho,hc,hd,hdat⟩,_⟩:=(I.hok x _ hx:zcd X.prog X.w H s.heap x (zp1 x C))
 obtain ⟨hh,g,d,t,os⟩:=s
 obtain ⟨oc,od,odt,osl⟩:=o
 dsimp only at hc hd hdat
 subst hc hd hdat
 refine wpAny_call (codeAny_call_builtin F.init.plain F.initEntry (wpAny_check_init_subT F T kC ho rfl ?_))
 wp_walk
 have I1:Inv X pins σ H { heap:=hh.push { cls:=.type "tuple",data:=.seq us.toArray },gens:=g,drawn:=d,toks:=t,os:=os }:=I.kept (t':=t) fun b u e=>Heap.get?_push_of_some _ e
 have gx:(hh.push { cls:=.type "tuple",data:=.seq us.toArray }).get? x=some ⟨.ref C,none,.fields #[.ref t0,.none,.none,.none,.bool false,.none],osl⟩:=Heap.get?_push_of_some _ ho
 have gy:=Heap.get?_update_self (Obj.mapFields fun z=>z.setIfInBounds 0 (Value.ref hh.objs.size)) gx rfl
 have I2:=I1.write (x:=x) (e:=x) (o:=zp1 x C) (t':=t) (h':=(hh.push { cls:=.type "tuple",data:=.seq us.toArray }).update x (Obj.mapFields fun z=>z.setIfInBounds 0 (Value.ref hh.objs.size)))
  (by rw [hx];exact True.intro) (.inl rfl) (fun b u nb e=>(Heap.get?_update_other _ _ (Ne.symm nb)).trans e) ⟨_,gy⟩ ⟨⟨_,_,gy,rfl,rfl,rfl⟩,⟨_,gy⟩,fun _ _ ⟨o,t0,e,r⟩ k=>⟨o,t0,k o e,r⟩⟩
 rw [zqK hx] at I2
 exact h _ I2
end
theorem zlV {h:Heap} {self:Value} {what:Str} {l:List Value} (T:OwnTail h zfQ l) (hb:refuseLoop self what zfQ=pure ()):refuseLoop self what l=pure ():=by
 induction T with
 | base=>exact hb
 | own _ _ _ _ ih=>rw [refuseLoop_ref,ih]
section
open Builtin Builtin.ObjectAttr
variable {K:PySem.W.Frag} {prog:Program} {w:World} {A:Around} {E:Value→Shared→Prop} {h:Heap} {g:Array GenState} {d:Drawn} {t:Nat} {os:OsState} {C fI x:Addr} {v:Value} {name:Str} {o:Obj}
theorem zsQ {tk:Tok} {R:Result→Shared→Prop} (X:K.In h) (Z:ExI K C fI) (na:PySem.W.findIn K (.ref C) name=some none) (hx:h.get? x=some o) (hc:o.cls=.ref C) (hd:o.dict=none) {fs:Array Value} (hf:o.data=.fields fs)
  (hq:∀ h' tk',h'.get? x=some { o with dict:=some h.objs.size }→h'.Ns1 h.objs.size (fun y=>if y=name then some v else none)→(∀ b u,b≠x→h.get? b=some u→h'.get? b=some u)→R (.ok (.ret .none)) ⟨h',g,d,tk',os⟩) :
  codeAny (model prog w) A (.call (.builtin "object.__setattr__") ⟨[.ref x,.str name tk,v],[]⟩) R ⟨h,g,d,t,os⟩:=by
 obtain ⟨nm,q,N,bs,bm,sn,sub,ab,col,dd,k0,k1,k2,k3,k5,lk,tl⟩:=Z.lk
 have kC:=X _ _ lk
 have T:=PySem.W.tail_of_in X tl
 have S:=PySem.F.store_ValueError
 have LN:=PySem.W.looks_findIn (M:=model prog w) X na
 have pass:refuseLoop (.ref x) "__setattr__" (.ref C::bm)=pure ():=by
  rw [refuseLoop_ref]
  exact zlV T (S.passes _)
 have cO:(Value.ref C::bm).contains (.type "object")=true:=by rw [List.contains_cons,T.hasType S.hasOwner,Bool.or_true]
 have LT:PySem.W.Looks (model prog w) h (typeOf (.ref x)) (.ref C):=hc ▸ (PySem.W.Looks.ld hx).andThen .now
 have LS:PySem.W.Looks (model prog w) h (isInstance (.ref x) (.type "object")) true:=LT.andThen (PySem.W.looks_mroIn X Z.mo)
 refine codeAny_call_builtin S.slot.plain S.entry (@PySem.W.check_slot (model prog w) _ _ ⟨h,g,d,t,os⟩ "object.__setattr__" "object" "__setattr__" (.ref x) [.str name tk,v] [] _ S.kind S.split LS (S.args (.ref x) (.str name tk) v) ?_)
 unfold Builtin.«object.__setattr__»
 repeat (first | rw [refuse_eq] | rw [pass] | (with_reducible refine wpAny_loadPart_at hx ?_;rw [hc]) | (with_reducible refine wpAny_mroOf_exc kC ?_) | (with_reducible refine LN.at ?_) | wp_step)
 obtain ⟨oc,od,odt,osl⟩:=o
 dsimp only at hc hd hf
 subst hc hd hf
 dsimp only
 rw [if_neg (by simp [typeHasDict])]
 have gx:(h.push { cls:=.type "dict",data:=.dict #[] }).get? x=some ⟨.ref C,none,.fields fs,osl⟩:=Heap.get?_push_of_some _ hx
 have ns:x≠h.objs.size:=Nat.ne_of_lt (Heap.lt_size hx)
 refine wpAny_bind (wpAny_alloc' (wpAny_bind (wpAny_update' gx (wpAny_pure ?_))))
 have gy:=Heap.get?_update_self (fun o:Obj=>{ cls:=o.cls,dict:=some h.objs.size,data:=o.data,slots:=o.slots }) gx rfl
 have gd:((h.push { cls:=.type "dict",data:=.dict #[] }).update x fun o=>{ cls:=o.cls,dict:=some h.objs.size,data:=o.data,slots:=o.slots }).get? h.objs.size=some { cls:=.type "dict",data:=.dict #[] } :=
  (Heap.get?_update_other _ _ ns).trans (Heap.get?_push_at rfl rfl)
 have keep:∀ b u,b≠x→h.get? b=some u→((h.push { cls:=.type "dict",data:=.dict #[] }).update x fun o=>{ cls:=o.cls,dict:=some h.objs.size,data:=o.data,slots:=o.slots }).get? b=some u:=fun b u nb e =>
  (Heap.get?_update_other _ _ (Ne.symm nb)).trans (Heap.get?_push_of_some _ e)
 generalize ((h.push { cls:=.type "dict",data:=.dict #[] }).update x fun o=>{ cls:=o.cls,dict:=some h.objs.size,data:=o.data,slots:=o.slots })=h2 at gy gd keep ⊢
 have nn:h2.Ns h.objs.size (fun _=>none):=⟨_,#[],_,gd,rfl,fun e he=>absurd he (by simp),fun _=>rfl⟩
 show wpAny _ _ (storeInDict h.objs.size (.str name tk) name v) _ _ _
 unfold storeInDict newKeyGuard
 refine wpAny_bind (wpAny_pure (wpAny_bind (wpAny_nsSet1 (Heap.Ns1.of_empty nn) fun h3 n3 s3=>?_)))
 obtain ⟨oD,eD,pD,aD,bD,cD⟩:=n3.count (Within.cons name v Within.nil)
 refine wpAny_bind (wpAny_lookBehind aD (by rw [bD];exact pastItsLine_dict (Nat.le_trans cD (by rw [List.length_cons,List.length_nil,sizeLine_eq];(first|lia|omega)))) ?_)
 wp_walk
 exact hq h3 _ ((s3.2 x ns).trans gy) n3 fun b u nb e=>(s3.2 b (Nat.ne_of_lt (Heap.lt_size e))).trans (keep b u nb e)
end
def tBI (K:PySem.W.Frag) (t:TA):TE:=fun σ H Q=>t σ H fun vs H1=>∃ x v C,vs=[.ref x,v]∧H1 x=some (zp1 x C)∧(∃ fI,ExI K C fI)∧Q .non H1
def zsk (K:PySem.W.Frag) (to tv:TE) (f:Str):TS:=fun D σ H=>tv σ H fun v H1=>to σ H1 fun x H2=>∃ a C,x=.ref a∧H2 a=some (zp1 a C)∧(∃ fI,ExI K C fI)∧PySem.W.findIn K (.ref C) f=some none ∧
 ∀ dx,H2 dx=none→dx≠a→D.nx σ (upd (upd H2 a (zrt a C dx)) dx (.xd [(f,v)]))
section
variable {X:Cx} {x:Str} {D:Addr} {np apos pos pos':Pos} {e o value:Expr} {es:List Expr} {t:TA} {to tv:TE} {f:Str}
theorem zmr {pl:Sem Bool} (hg:Gl X x) (hm:X.mg x=some (.ref D)) (B:ExB X.K D) (ha:PA X (e::es) t) (hdb:(x == ("__debug__":Str))=false:=by decide)
  (hst:starEach (e::es) X.env=(false,eval e X.env)::starEach es X.env:=by rfl) (hpl:(backTo pos (starEach es X.env)).any (·.1)=false:=by rfl)
  (ht:eval (.Call (.Attribute (.Name x np) "__init__" apos) (e::es) [] pos) X.env=(do
   let ov ← eval (.Name x np) X.env
   standAt apos.atName
   let (f,first) ← holding [ov] (getMethod ov "__init__" pl)
   callWith pos f first (backTo pos (starEach (e::es) X.env)) (backToKw pos (keywordEach [] X.env))):=by rfl) :
  PE X (.Call (.Attribute (.Name x np) "__init__" apos) (e::es) [] pos) (tBI X.K t):=by
 intro pins s σ H Q I h
 refine PySem.W.methodCall_KW (pl:=pl) (zge I hg hm ?_ hdb) ht
 refine PySem.W.method_cls I.kIn B.sg (PySem.W.cls_value I.kIn B.rd B.fc rfl ?_)
 have I1:=I.tok (s.toks+1)
 have hA:=ha pos pins _ σ H _ I1 h
 rw [hst] at hA ⊢
 refine Calls.callWith_builtin (by show (false || (backTo pos (starEach es X.env)).any (·.1))=false;rw [hpl] <;> rfl) (Calls.evalArgs_plain ?_)
 refine thn hA fun us s2 hQ'=>?_
 obtain ⟨vs,H2,I2,r2,y,v,C,e1,e2,Z,q⟩:=hQ'
 subst e1
 obtain ⟨u1,u2,rfl,r3,r4⟩:=r2.two
 cases r3
 exact zpy (us:=[u2]) I2 e2 Z (by show 1≤sizeLine;decide) fun s' I'=>⟨.non,H2,I',rfl,q⟩
theorem zsF (ho:PE X o to) (hv:PE X value tv) (hs:swapsWith value (some (.Attribute o f pos')) pos.line X.env=pure false):PS X (.Assign [.Attribute o f pos'] value pos) (zsk X.K to tv f):=by
 intro pins s σ H D I h
 refine plainObj_wpAny_Assign_Attribute (thn (hv pins s σ H _ I h) fun u s1 ⟨y,H1,I1,ry,q⟩=>thn (ho pins s1 σ H1 _ I1 q) fun ov s2 hQ'=>?_) hs
 obtain ⟨z,H2,I2,rx,a,C,ex,ea,⟨fI,Z⟩,na,q2⟩:=hQ'
 subst ex
 obtain rfl:ov=Value.ref a:=rx
 obtain ⟨⟨ox,t0,hx,hc,hd,hf⟩,_⟩:=(I2.hok a _ ea:zcd X.prog X.w H2 s2.heap a (zp1 a C))
 have J:PySem.W.InstAt s2.heap a ox C none:=⟨hx,hc,by unfold PySem.W.notCls;rw [hf],by rw [hd];exact True.intro⟩
 refine PySem.W.set_plain I2.kIn J Z.sa ?_
 obtain ⟨hh,g,d,tk,os⟩:=s2
 refine zsQ I2.kIn Z na hx hc hd hf fun h3 tk3 gx n3 keep=>?_
 have fr:H2 hh.objs.size=none:=I2.hok.fresh (Nat.le_refl _)
 have ne:hh.objs.size≠a:=(Nat.ne_of_lt (Heap.lt_size hx)).symm
 have W:=I2.write (x:=a) (e:=a) (o:=zrt a C hh.objs.size) (t':=tk3) (h':=h3) (by rw [ea];exact True.intro) (.inl rfl) (fun b v nb e=>keep b v nb e) ⟨_,gx⟩ ⟨⟨_,t0,gx,hc,rfl,hf⟩,⟨_,gx⟩,fun _ _ ⟨o,t0,e,r⟩ k=>⟨o,t0,k o e,r⟩⟩
 have fr2:upd H2 a (zrt a C hh.objs.size) hh.objs.size=none:=by rw [zaL ne];exact fr
 have V:=W.track (a:=hh.objs.size) (o:=.xd [(f,y)]) fr2 (Heap.get?_none_of_le I2.sz) (fun z=>?_) (fun y c e z=>?_) (fun p hp z=>?_) ⟨_,n3,fun k=>?_⟩
 ·exact ⟨σ,_,V,q2 _ fr ne⟩
 ·obtain ⟨m,⟨o,_,_,e,_⟩,_⟩:=I2.loc
  exact absurd z.symm (Nat.ne_of_lt (Heap.lt_size e))
 ·obtain ⟨v,o,e1,_⟩:=I2.cell y c e
  exact absurd z (Nat.ne_of_lt (Heap.lt_size e1))
 ·exact absurd z (Nat.ne_of_lt (Heap.lt_size (I2.pin p hp).1))
 ·show zmG (List.lookup k [(f,y)]) (if k=f then some u else none)
  by_cases c:k=f
  ·subst c
   rw [if_pos rfl]
   simp only [List.lookup,beq_self_eq_true]
   exact ry
  ·rw [if_neg c]
   have:(k == f)=false:=beq_eq_false_iff_ne.mpr c
   simp only [List.lookup,this]
   exact trivial
end
section
variable {X:Cx} {CX:CXT} {k:Nat} {f C:Addr} {fd:FuncData} {ps:List Str} {sp:Sp} {E:XK} {x:Str} {p pos:Pos} {e:Expr} {es:List Expr} {t:TA}
theorem Inv.laidAt {pins:List (Addr×Obj)} {σ:St} {H:Hp} {s:Shared} {h':Heap} {a:Addr} {o:HO} (I:Inv X pins σ H s) (kp:∀ b u,s.heap.get? b=some u→h'.get? b=some u) (hp:s.heap.objs.size≤a) (new:zcd X.prog X.w (upd H a o) h' a o) :
  Inv X pins σ (upd H a o) { s with heap:=h' }:=I.laid (t':=s.toks) kp hp new
theorem zoh {pins:List (Addr×Obj)} {σ:St} {H:Hp} {s:Shared} {Q:VK} {us:List Value} {vs:List V} (Z:ExI X.K C f) (F:zdV X.prog X.w X.K X.mg X.base CX k f fd ps sp) (hr:zhC (k+1) X.A) (hb:zcv X.K fd ps []) (hx:zjj CX X E)
  (I:Inv X pins σ H s) (r:zck vs us) (hl:us.length≤sizeLine) (h:∀ y,H y=none→X.s₀.heap.get? y=none→sp (.ref y::vs) (upd H y (zp1 y C)) (fun v H2=>v=.non∧Q (.ref y) H2) E) :
  wpAny (model X.prog X.w) X.A (call (.ref C) us) (EP X pins σ Q) X.xe s:=by
 obtain ⟨hh,g,d,tk,os⟩:=s
 refine zsb I.kIn Z hl fun h1 y ey M=>?_
 have hy:hh.objs.size≤y:=by rw [ey];exact Nat.le_succ _
 obtain ⟨t0,gy,_,_⟩:=M.there
 have I2:=I.laidAt (a:=y) (o:=zp1 y C) M.keeps hy ⟨⟨_,t0,gy,rfl,rfl,rfl⟩,⟨_,gy⟩,fun _ _ ⟨o,t0,e,r⟩ k=>⟨o,t0,k o e,r⟩⟩
 have hq:=h y (I.hok.fresh hy) (Heap.get?_none_of_le (Nat.le_trans I.sz hy))
 have r2:zck (V.ref y::vs) (Value.ref y::us):=.cons rfl r
 have hl2:(Value.ref y::us++[]).length=ps.length:=by
  rw [List.append_nil,← r2.length]
  exact F.len _ _ _ _ hq
 have B:=hb _ (Value.ref y::us) I2.kIn hl2
 rw [List.append_nil] at B
 refine wpAny_call (codeAny_mono (F.run _ X.stack _ _ ⟨Value.ref y::us,[]⟩ (Value.ref y::us) _ _ E (hr.make C us []) (I2.env0.make C us []) B r2 hq) fun res s' hq'=>?_)
 cases res with
 | error e=>exact hx pins σ _ _ e s' I2 hq'
 | ok fl =>
  cases fl with
  | ret u =>
   obtain ⟨v,H',I3,rv,ev,q3⟩:=I2.after hq'
   subst ev
   exact ⟨rv,⟨V.ref y,H',I3,rfl,q3⟩⟩
  | next=>exact False.elim hq'
  | brk=>exact False.elim hq'
  | cont=>exact False.elim hq'
end
def CXV (P:Program) (w:World):CXT:=fun outer H s E e s'=>∃ (ea:Addr) (B:Heap) (cls a0:Value) (H':Hp) (od:Option Addr),e=.ref ea∧zsX P w outer H s (fun c _ H'=>E c od H') ea s' B cls a0 H'∧zle ea od s'.heap
def zoO (H:Hp) (x:Addr):Hp:=fun b=>if b=x then none else H b
theorem zhl {H:Hp} {x b:Addr} (h:b≠x):zoO H x b=H b:=if_neg h
theorem zpU {H:Hp} {x:Addr}:zoO H x x=none:=if_pos rfl
theorem zoi {H:Hp} {x b:Addr} {u:HO} (h:zoO H x b=some u):b≠x∧H b=some u:=by
 unfold zoO at h
 split at h
 ·cases h
 ·rename_i n
  exact ⟨n,h⟩
section
variable {P:Program} {w:World} {K:PySem.W.Frag} {mg:Str→Option Value} {base:Heap} {N:List Str} {qual:Str} {scope:Scope} {f:Addr} {cd:Value} {A:Around} {outer:List Env} {s₀:Shared} {H₀:Hp} {E:XK}
theorem zrl:zjj (CXV P w) (zp5 (CXV P w) P w K mg base N qual scope f cd A outer s₀ H₀ E) E:=by
 intro pins σ H s e s' I h
 obtain ⟨ea,B,cls,a0,H',od,rfl,x,dd⟩:=h
 have hfr:=I.ok.frames
 have ff:=x.fly.2.2.1
 refine zjq (zhi _ _) dd (wpAny_leaves_onW (base:=B) (L:=s₀.heap.objs.size) hfr rfl x.fly fun h' fl sm dd'=>?_)
 obtain ⟨un2,hok2⟩:=x.later fl.1 sm ff
 have neL:∀ b o,s₀.heap.get? b=some o→b≠s₀.heap.objs.size:=fun b o e=>Nat.ne_of_lt (Heap.lt_size e)
 have notin:∀ b o,s₀.heap.get? b=some o→b∉frs outer→b∉frs (envOfC qual scope s₀.heap.objs.size f cd::outer):=fun b o e hb z=>by
  rcases List.mem_cons.mp (I.stkSub b z) with q | q
  ·exact neL b o e q
  ·exact hb q
 have un:Un (frs outer) [] H₀ H' s₀.heap h':=by
  refine ⟨fun b o e n hb hx=>?_,fun b o e n hb hx=>?_,fun b o e n hx=>?_,fun b o e hx=>?_,fun b xs e=>x.un.tups b xs (I.base.tups b xs e),fun b o u e=>x.un.frzs b o u (I.base.frzs b o u e),fun b ps e=>?_⟩
  ·exact un2.keep b o (I.base.keep b o e n hb hx) (I.base.free b o e n hx) (notin b o e hb) (by simp)
  ·obtain ⟨sl,e1⟩:=I.base.slot b o e n hb hx
   obtain ⟨sl',e2⟩:=un2.any e1 (I.base.free b o e n hx) (by simp)
   exact ⟨sl',e2⟩
  ·obtain ⟨o',e1⟩:=I.base.there b o e hx
   exact x.un.free b o' e1 (I.base.free b o e n hx) (by simp)
  ·obtain ⟨o',e1⟩:=I.base.there b o e hx
   exact un2.there b o' e1 (by simp)
  ·obtain ⟨m1,e1⟩:=I.base.tbls b ps e
   obtain ⟨m2,e2⟩:=x.un.tbls b _ e1
   exact ⟨m1++m2,by rw [e2,Array.append_assoc]⟩
 refine ⟨ea,B,cls,a0,H',od,rfl,⟨x.os.trans I.os,x.bare,un,x.hokB,fl,fun b o e n hb=>?_,fun b o e hb=>?_,?_,x.free,x.want⟩,dd'⟩
 ·exact x.cov b o (I.base.keep b o e n hb (by intro z;cases z)) (I.base.free b o e n (by intro z;cases z)) (notin b o e hb)
 ·obtain ⟨o',e1⟩:=I.base.there b o e (by intro z;cases z)
  exact x.covT b o' e1 (notin b o e hb)
 ·cases q:s₀.heap.get? ea with
  | none=>rfl
  | some o =>
   obtain ⟨o',e1⟩:=I.base.there ea o q (by intro z;cases z)
   rw [x.new] at e1
   cases e1
end
def zol (X:Cx) (E:XK):Prop:=∀ (pins:List (Addr×Obj)) (σ:St) (H:Hp) (s:Shared) (y C dx:Addr),Inv X pins σ H s→H y=some (zrt y C dx)→X.s₀.heap.get? y=none→E (.ref C) (some dx) (zoO H y)→X.xe (.ref y) s
section
variable {P:Program} {w:World} {K:PySem.W.Frag} {mg:Str→Option Value} {base:Heap} {N:List Str} {qual:Str} {scope:Scope} {f:Addr} {cd:Value} {A:Around} {outer:List Env} {s₀:Shared} {H₀:Hp} {E:XK}
theorem zjU:zol (zp5 (CXV P w) P w K mg base N qual scope f cd A outer s₀ H₀ E) E:=by
 intro pins σ H s y C dx I hy n0 q
 replace n0:s₀.heap.get? y=none:=n0
 obtain ⟨⟨oy,t0,gy,cy,dy,fy⟩,_⟩:=(I.hok y _ hy:zcd _ _ H s.heap y (zrt y C dx))
 have hfr:=I.ok.frames
 have hst:s.heap.FunFrames base (envOfC qual scope s₀.heap.objs.size f cd::outer):=I.stack
 have fresh:∀ b∈frs (envOfC qual scope s₀.heap.objs.size f cd::outer),H b=none:=I.stkFree
 have yf:y∉frs (envOfC qual scope s₀.heap.objs.size f cd::outer):=fun z=>by rw [fresh y z] at hy;cases hy
 have inB:∀ b o,s.heap.get? b=some o→b≠y→b∉frs (envOfC qual scope s₀.heap.objs.size f cd::outer)→(PySem.W.hideAll s.heap (y::frs (envOfC qual scope s₀.heap.objs.size f cd::outer))).get? b=some o:=fun b o e ny n =>
  PySem.W.hideAll_get _ e (fun z=>(List.mem_cons.mp z).elim ny n)
 have st0:(PySem.W.hideAll s.heap (y::frs (envOfC qual scope s₀.heap.objs.size f cd::outer))).StaysIn s.heap:=fun b o q=>PySem.W.of_hideAll _ q
 have hl:s.heap.FunFrames (PySem.W.hideAll s.heap (y::frs (envOfC qual scope s₀.heap.objs.size f cd::outer))) (envOfC qual scope s₀.heap.objs.size f cd::outer) :=
  PySem.W.funFrames_hide hst fun env he a ha=>List.mem_cons_of_mem _ (List.mem_filterMap.mpr ⟨env,he,ha⟩)
 have yB:(PySem.W.hideAll s.heap (y::frs (envOfC qual scope s₀.heap.objs.size f cd::outer))).get? y=none:=PySem.W.hideAll_none _ List.mem_cons_self
 generalize PySem.W.hideAll s.heap (y::frs (envOfC qual scope s₀.heap.objs.size f cd::outer))=B at inB st0 hl yB
 refine zjq (zhi _ _) ⟨oy,gy,dy⟩ (wpAny_leaving_firstW (base:=B) (L:=s₀.heap.objs.size) (a0:=.ref t0) hfr hl rfl gy st0 yB fy rfl rfl fun h2 lf d2=>?_)
 obtain ⟨x1,⟨_,_,x2⟩,x3,x4⟩:=lf
 have neL:∀ b o,s₀.heap.get? b=some o→b≠s₀.heap.objs.size:=fun b o e=>Nat.ne_of_lt (Heap.lt_size e)
 have ney:∀ b o,s₀.heap.get? b=some o→b≠y:=fun b o e z=>by rw [z,n0] at e;cases e
 have notin:∀ b o,s₀.heap.get? b=some o→b∉frs outer→b∉frs (envOfC qual scope s₀.heap.objs.size f cd::outer):=fun b o e hb z=>by
  rcases List.mem_cons.mp (I.stkSub b z) with q | q
  ·exact neL b o e q
  ·exact hb q
 have slot:∀ b o,s.heap.get? b=some o→b∈frs outer→∃ sl,h2.get? b=some { o with slots:=sl }:=fun b o e hb=>by
  obtain ⟨_,o',e',nf⟩:=hl.2.2.mem hb
  rw [e] at e'
  cases e'
  exact x4 b o e nf
 have hokB:HOk P w (zoO H y) B:=fun b u e=>by
  obtain ⟨nb,e'⟩:=zoi e
  refine (I.hok b u e').stay (fun c v hc q=>inB c v q (fun z=>?_) fun z=>?_) (fun c q=>?_) fun c xs q=>?_
  ·rcases hc with r | r
   ·exact nb (r.symm.trans z)
   ·rw [z,hy] at r
    cases r
  ·rcases hc with r | r
   ·rw [r] at z
    rw [fresh b z] at e'
    cases e'
   ·rw [fresh c z] at r
    cases r
  ·rw [zhl fun z=>by rw [z,hy] at q;cases q]
   exact q
  ·rw [zhl fun z=>by rw [z,hy] at q;cases q]
   exact q
 have un:Un (frs outer) [] H₀ (zoO H y) s₀.heap h2:=by
  refine ⟨fun b o e n hb hx=>?_,fun b o e n hb hx=>?_,fun b o e n hx=>?_,fun b o e hx=>?_,fun b xs e=>?_,fun b o u e=>?_,fun b ps e=>?_⟩
  ·exact x1 b o (inB b o (I.base.keep b o e n hb hx) (ney b o e) (notin b o e hb))
  ·obtain ⟨sl,e1⟩:=I.base.slot b o e n hb hx
   obtain ⟨sl',e2⟩:=slot b _ e1 hb
   exact ⟨sl',e2⟩
  ·rw [zhl (ney b o e)]
   exact I.base.free b o e n hx
  ·obtain ⟨o',e1⟩:=I.base.there b o e hx
   by_cases hb:b∈frs outer
   ·obtain ⟨sl,e2⟩:=slot b o' e1 hb
    exact ⟨_,e2⟩
   ·exact ⟨o',x1 b o' (inB b o' e1 (ney b o e) (notin b o e hb))⟩
  ·have z:=I.base.tups b xs e
   rw [zhl fun q=>by rw [q,hy] at z;cases z]
   exact z
  ·have z:=I.base.frzs b o u e
   rw [zhl fun q=>by rw [q,hy] at z;cases z]
   exact z
  ·obtain ⟨m,z⟩:=I.base.tbls b ps e
   refine ⟨m,?_⟩
   rw [zhl fun q=>by rw [q,hy] at z;cases z]
   exact z
 rw [cy] at x3
 refine ⟨y,B,.ref C,.ref t0,zoO H y,some dx,rfl,⟨I.os,I.bare,un,hokB,⟨x1,yB,x2,x3⟩,fun b o e n hb=>?_,fun b o e hb=>?_,n0,zpU,q⟩,d2⟩
 ·exact inB b o (I.base.keep b o e n hb (by intro z;cases z)) (ney b o e) (notin b o e hb)
 ·obtain ⟨o',e1⟩:=I.base.there b o e (by intro z;cases z)
  exact ⟨o',inB b o' e1 (ney b o e) (notin b o e hb)⟩
end
section
variable {P:Program} {w:World} {K:PySem.W.Frag} {mg:Str→Option Value} {base:Heap} {N:List Str} {qual:Str} {scope:Scope} {f:Addr} {cd:Value} {A:Around} {outer:List Env} {s₀:Shared} {H₀:Hp} {E:XK}
theorem zs4 {C:Addr}:zrS (zp5 (CXV P w) P w K mg base N qual scope f cd A outer s₀ H₀ E) C E:=by
 intro pins σ H s ea h' args I hx q
 have hfr:=I.ok.frames
 have hst:s.heap.FunFrames base (envOfC qual scope s₀.heap.objs.size f cd::outer):=I.stack
 have fresh:∀ b∈frs (envOfC qual scope s₀.heap.objs.size f cd::outer),H b=none:=I.stkFree
 have inB:∀ b o,s.heap.get? b=some o→b∉frs (envOfC qual scope s₀.heap.objs.size f cd::outer)→(PySem.W.hideAll s.heap (frs (envOfC qual scope s₀.heap.objs.size f cd::outer))).get? b=some o:=fun b o e n=>PySem.W.hideAll_get _ e n
 have st0:(PySem.W.hideAll s.heap (frs (envOfC qual scope s₀.heap.objs.size f cd::outer))).StaysIn s.heap:=fun b o q=>PySem.W.of_hideAll _ q
 have hl:s.heap.FunFrames (PySem.W.hideAll s.heap (frs (envOfC qual scope s₀.heap.objs.size f cd::outer))) (envOfC qual scope s₀.heap.objs.size f cd::outer) :=
  PySem.W.funFrames_hide hst fun env he a ha=>List.mem_filterMap.mpr ⟨env,he,ha⟩
 generalize PySem.W.hideAll s.heap (frs (envOfC qual scope s₀.heap.objs.size f cd::outer))=B at inB st0 hl
 obtain ⟨t9,g9,_,_⟩:=hx.there
 refine zjq (zhi _ _) ⟨_,g9,rfl⟩ (wpAny_leaves_madeW (base:=B) (h:=s.heap) (L:=s₀.heap.objs.size) hfr rfl st0 hl hx fun h2 t x1 x2 x3 x4 d2=>?_)
 have neL:∀ b o,s₀.heap.get? b=some o→b≠s₀.heap.objs.size:=fun b o e=>Nat.ne_of_lt (Heap.lt_size e)
 have notin:∀ b o,s₀.heap.get? b=some o→b∉frs outer→b∉frs (envOfC qual scope s₀.heap.objs.size f cd::outer):=fun b o e hb z=>by
  rcases List.mem_cons.mp (I.stkSub b z) with q | q
  ·exact neL b o e q
  ·exact hb q
 have slot:∀ b o,s.heap.get? b=some o→b∈frs outer→∃ sl,h2.get? b=some { o with slots:=sl }:=fun b o e hb=>by
  obtain ⟨_,o',e',nf⟩:=hl.2.2.mem hb
  rw [e] at e'
  cases e'
  exact x4 b o (hx.keeps b o e) nf
 have hokB:HOk P w H B:=fun b u e=>(I.hok b u e).stay (fun c v hc q=>inB c v q fun z=>by
  rcases hc with r | r
  ·rw [r] at z
   rw [fresh b z] at e
   cases e
  ·rw [fresh c z] at r
   cases r) (fun _ q=>q) fun _ _ q=>q
 have un:Un (frs outer) [] H₀ H s₀.heap h2:=by
  refine ⟨fun b o e n hb hx=>?_,fun b o e n hb hx=>?_,I.base.free,fun b o e hx=>?_,I.base.tups,I.base.frzs,I.base.tbls⟩
  ·exact x1.1 b o (inB b o (I.base.keep b o e n hb hx) (notin b o e hb))
  ·obtain ⟨sl,e1⟩:=I.base.slot b o e n hb hx
   obtain ⟨sl',e2⟩:=slot b _ e1 hb
   exact ⟨sl',e2⟩
  ·obtain ⟨o',e1⟩:=I.base.there b o e hx
   by_cases hb:b∈frs outer
   ·obtain ⟨sl,e2⟩:=slot b o' e1 hb
    exact ⟨_,e2⟩
   ·exact ⟨o',x1.1 b o' (inB b o' e1 (notin b o e hb))⟩
 refine ⟨ea,B,.ref C,.ref t,H,none,rfl,⟨I.os,I.bare,un,hokB,x1,fun b o e n hb=>?_,fun b o e hb=>?_,?_,?_,q⟩,d2⟩
 ·exact inB b o (I.base.keep b o e n hb (by intro z;cases z)) (notin b o e hb)
 ·obtain ⟨o',e1⟩:=I.base.there b o e (by intro z;cases z)
  exact ⟨o',inB b o' e1 (notin b o e hb)⟩
 ·cases q:s₀.heap.get? ea with
  | none=>rfl
  | some o =>
   obtain ⟨o',e1⟩:=I.base.there ea o q (by intro z;cases z)
   rw [hx.new] at e1
   cases e1
 ·cases q:H ea with
  | none=>rfl
  | some u =>
   obtain ⟨o',e1⟩:=(I.hok ea u q).there
   rw [hx.new] at e1
   cases e1
end
section
variable {K:PySem.W.Frag} {prog:Program} {w:World} {A:Around} {E:Value→Shared→Prop} {s:Shared} {env:Env} {C fI:Addr}
theorem zo5 {xs:Sem Value} {Q:Flow→Shared→Prop} (Z:ExI K C fI) (hh:A.handled=none)
  (h:wpAny (model prog w) A xs (fun v s1=>∃ y o fs,v=.ref y∧K.In s1.heap∧s1.heap.get? y=some o∧o.cls=.ref C∧o.data=.fields fs∧fs[1]?=some .none∧E (.ref y) s1) E s):wpAny (model prog w) A (raiseStmt env (some xs) none) Q E s:=by
 obtain ⟨nm,q,N,bs,bm,sn,sub,ab,col,dd,k0,k1,k2,k3,k5,lk,tl⟩:=Z.lk
 unfold raiseStmt
 refine wpAny_bind (wpAny_mono h (fun v s1 z=>?_) fun _ _ z=>z)
 obtain ⟨y,o,fs,rfl,X,gy,cy,fy,f1,hE⟩:=z
 obtain ⟨hp,g,d,tk,os⟩:=s1
 have kC:=X _ _ lk
 have T:=PySem.W.tail_of_in X tl
 have cB:(Value.ref C::bm).contains (.type "BaseException")=true:=by rw [List.contains_cons,T.hasType PySem.F.excBase_ValueError.hasBase,Bool.or_true]
 obtain ⟨oc,od,odt,osl⟩:=o
 dsimp only at cy fy
 subst cy fy
 repeat (first | (with_reducible refine wpAny_loadPart_at gy ?_) | (with_reducible refine wpAny_loadPart_at kC ?_) | (with_reducible refine wpAny_isSubtype_exc kC ?_;rw [cB]) | wp_step)
 rw [f1]
 refine wpAny_pure ?_
 rw [if_neg (by decide)]
 exact wpAny_pure (wpAny_raiseNew_none hh hE)
end
def zrH (C:Addr) (nm:Str):Sp:=fun vs H Q _=>∃ y v,vs=[.ref y,v]∧H y=some (zp1 y C)∧∀ dx,H dx=none→dx≠y→Q .non (upd (upd H y (zrt y C dx)) dx (.xd [(nm,v)]))
def zeA (C:Addr) (nm:Str) (E:XK) (t:TA):TS:=fun _ σ H=>t σ H fun vs H1=>∃ v,vs=[v]∧∀ dx,H1 dx=none→E (.ref C) (some dx) (upd H1 dx (.xd [(nm,v)]))
theorem zoH {H:Hp} {y dx:Addr} {o u:HO} (h:H y=none) (n:dx≠y):zoO (upd (upd H y o) dx u) y=upd H dx u:=by
 funext b
 unfold zoO upd
 by_cases e:b=y
 ·rw [if_pos e,if_neg (by rw [e];exact n.symm),e,h]
 ·rw [if_neg e]
  by_cases e2:b=dx
  ·rw [if_pos e2,if_pos e2]
  ·rw [if_neg e2,if_neg e,if_neg e2]
theorem zgv {X:Cx} {CX:CXT} {k:Nat} {C f:Addr} {fd:FuncData} {ps:List Str} {nm x:Str} {E:XK} {np cpos pos:Pos} {e:Expr} {es:List Expr} {t:TA} (Z:ExI X.K C f) (F:zdV X.prog X.w X.K X.mg X.base CX k f fd ps (zrH C nm)) (hr:zhC (k+1) X.A) (hg:Gl X x) (hm:X.mg x=some (.ref C))
  (hb:zcv X.K fd ps []) (hx:zjj CX X E0) (hc:X.calm=true) (hT:zol X E) (ha:PA X (e::es) t) (hdb:(x == ("__debug__":Str))=false:=by decide) (he:starEach (e::es) X.env=(false,eval e X.env)::starEach es X.env:=by rfl) (hpl:(backTo cpos (starEach es X.env)).any (·.1)=false:=by rfl) :
  PS X (.Raise (some (.Call (.Name x np) (e::es) [] cpos)) none pos) (zeA C nm E t):=by
 intro pins s σ H D I h
 rw [arm_exec_Raise]
 refine wpAny_bind (wpAny_standAt (zo5 Z (I.ok.hd hc) (wpAny_bind (wpAny_mono (Q:=fun v s1=>∃ y o fs,v=.ref y∧X.K.In s1.heap∧s1.heap.get? y=some o∧o.cls=.ref C∧o.data=.fields fs∧fs[1]?=some .none∧X.xe (.ref y) s1) ?_ (fun v s3 h3=>wpAny_bind (wpAny_standAt (wpAny_pure h3))) fun _ _ z=>z))))
 refine wpAny_Call_Name_kw (zge I hg hm ?_ hdb)
 refine PySem.W.callWith_K (h₀:=X.base) I.ok.mod.kin Z.kp (thn (ha cpos pins s σ H _ I h) fun us s1 ⟨vs,H1,I1,r,v,e1,q⟩=>⟨I1.kIn,?_⟩) he hpl
 subst e1
 obtain ⟨u,rfl,ru⟩:=zi3 r
 refine thn (zoh (Q:=fun z H2=>∃ y dx,z=.ref y∧X.s₀.heap.get? y=none∧H2 y=some (zrt y C dx)∧E (.ref C) (some dx) (zoO H2 y)) Z F hr hb hx I1 r (by show 1≤sizeLine;decide) fun y hy n0=>?_) fun z s2 ⟨v2,H2,I2,rz,y,dx,ev,n0,hy,hE⟩=>?_
 ·refine ⟨y,v,rfl,zae,fun dx hd nd=>⟨rfl,y,dx,rfl,n0,?_,?_⟩⟩
  ·rw [zaL nd.symm,zae]
  ·rw [zl8] 
   have hd1:H1 dx=none:=by rw [zaL nd] at hd;exact hd
   rw [zoH hy nd]
   exact q dx hd1
 ·subst ev
  obtain rfl:z=Value.ref y:=rz
  obtain ⟨⟨oy,t0,gy,cy,dy,fy⟩,_⟩:=(I2.hok y _ hy:zcd X.prog X.w H2 s2.heap y (zrt y C dx))
  exact ⟨y,oy,_,rfl,I2.kIn,gy,cy,fy,rfl,hT pins σ H2 s2 y C dx I2 hy n0 hE⟩
theorem Fun.okV {P:Program} {w:World} {K:PySem.W.Frag} {mg:Str→Option Value} {base:Heap} {x qual:Str} {st:Stmt} {f:Addr} {fd:FuncData} {N ps:List Str} {k:Nat} {sp:Sp} (F:Fun K x qual st f fd) (S:zbk N ps (zaC st)) (len:∀ vs H Q E,sp vs H Q E→vs.length=ps.length)
  (hbody:∀ (cdv:Value) (A:Around) (outer:List Env) (s:Shared) (H:Hp) (vs:List V) (Q:VK) (E:XK),zhC k (A.deeper (envOfC qual (zaC st) s.heap.objs.size f cdv))→sp vs H Q E →
   ∃ t,PSs (zp5 (CXV P w) P w K mg base N qual (zaC st) f cdv A outer s H E) (ze7 st) t∧t { nx:=fun _ H'=>Q .non H',rt:=Q } (L2.zce N vs) H):zdV P w K mg base (CXV P w) (k+1) f fd ps sp:=by
 obtain ⟨oc,od,kV,doc,pm,an,cdv,ct,osl,rfl,lk,hcd⟩:=F.ex
 exact zts lk hcd S len fun A outer s H vs Q E hr hsp=>hbody cdv A outer s H vs Q E hr hsp
def zne (a:Addr) (c:Value) (od:Option Addr) (h:Heap):Prop:=∃ oe vs,h.get? a=some oe∧oe.cls=c∧oe.data=.fields vs∧oe.dict=od
def zdx (a:Addr) (c:Value) (od:Option Addr):HO:=.ext (zne a c od)
theorem zne.is {a:Addr} {c:Value} {od:Option Addr} {h:Heap} (x:zne a c od h):zs1 a c h:=let ⟨oe,vs,e1,e2,e3,_⟩:=x;⟨oe,vs,e1,e2,e3⟩
def zsO (K:PySem.W.Frag) (tb:(St→XK)→TS) (D:Value) (i:Nat) (th:TS):TS:=fun d σ H =>
 tb (fun σ' c od H'=>zhr K c∧PySem.W.subIn K c D=some true∧∀ a,H' a=none→th { d with nx:=fun σ2 H2=>d.nx (σ2.set i none) H2,bk:=fun σ2 H2=>d.bk (σ2.set i none) H2,ct:=fun σ2 H2=>d.ct (σ2.set i none) H2 } (σ'.set i (some (.ref a))) (upd H' a (zdx a c od))) d σ H
def Cx.inTryV (X:Cx) (pins:List (Addr×Obj)) (E:St→XK):Cx:={ X with
 pn:=X.pn++pins
 xe:=fun e s'=>∃ pins' σ H s,Inv { X with pn:=X.pn++pins } pins' σ H s∧CXV X.prog X.w X.stack H s (E σ) e s' }
theorem Inv.toTryV {X:Cx} {pins:List (Addr×Obj)} {σ:St} {H:Hp} {s:Shared} (I:Inv X pins σ H s) (E:St→XK):Inv (X.inTryV pins E) [] σ H s :=
 ⟨I.ok.pinned _ _,I.os,I.bare,I.base,I.loc,I.cell,I.free,I.freeC,fun p hp=>I.pin p (by rw [List.append_nil] at hp;exact hp),I.hok,I.len⟩
theorem ztE {X:Cx} {pins:List (Addr×Obj)} {E:St→XK}:zox (CXV X.prog X.w) (X.inTryV pins E) E:=fun pins' σ H s e s' I h =>
 ⟨pins',σ,H,s,⟨I.ok.pinned _ _,I.os,I.bare,I.base,I.loc,I.cell,I.free,I.freeC,I.pin,I.hok,I.len⟩,h⟩
theorem SP.ofTryV {X:Cx} {pins pins':List (Addr×Obj)} {E:St→XK} {D:zb8} {f:Flow} {s':Shared} (ok:X.Ok) (h:SP (X.inTryV pins E) pins' D f s'):SP X pins D f s':=by
 cases f with
 | next=>obtain ⟨σ',H',I,q⟩:=h;exact ⟨σ',H',I.ofTry ok,q⟩
 | brk=>obtain ⟨σ',H',I,q⟩:=h;exact ⟨σ',H',I.ofTry ok,q⟩
 | cont=>obtain ⟨σ',H',I,q⟩:=h;exact ⟨σ',H',I.ofTry ok,q⟩
 | ret u=>obtain ⟨v,σ',H',I,r,q⟩:=h;exact ⟨v,σ',H',I.ofTry ok,r,q⟩
theorem zs2 {X:Cx} {i:Nat} {D:Addr} {x n:Str} {np pos hpos:Pos} {body:List Stmt} {b₀:Stmt} {suite:List Stmt} {tb:(St→XK)→TS} {th:TS} (hm:X.mg x=some (.ref D)) (hq:PySem.W.excIn X.K D zfQ "ValueError.__new__"=true)
  (hg:Gl X x) (hN:X.N.Nodup) (hi:X.N[i]?=some n) (hl:X.env.scope.names.lookup n=some .local) (hxe:X.xe=fun _ _=>False) (hst:X.stack=X.env::X.outer) (hfr:X.env.frame=some X.env.locals) (hex:X.ex=[])
  (hb:∀ pins E,PSs (X.inTryV pins E) body (tb E)) (hh:∀ ea,PSs (X.inExc ea) (b₀::suite) th) (hd:(x == ("__debug__":Str))=false:=by decide) :
  PS X (.Try body [.ExceptHandler (some (.Name x np)) (some n) (b₀::suite) hpos] [] [] pos) (zsO X.K tb (.ref D) i th):=by
 intro pins s σ H d I h
 refine wpAny_Try_except (wpAny_mono (hb pins _ [] s σ H d (I.toTryV _) h) (fun f s₁ q=>?_) fun e s₁ q=>?_)
 ·have q':=SP.ofTryV I.ok q
  cases f with
  | next=>exact wpAny_execs_nil q'
  | brk=>exact q'
  | cont=>exact q'
  | ret u=>exact q'
 obtain ⟨pins',σ',H1,s1,I1,ea,B,cls,a0,H',od,rfl,x,dd⟩:=q
 replace I1:Inv X pins σ' H1 s1:=Inv.ofTry (xe:=X.xe) I1 I.ok
 obtain ⟨hec,hsub,hth⟩:=x.want
 have fly:=x.fly
 rw [hst] at fly
 have ff:=x.fly.2.2.1
 have hfrm:X.A.frames=some (X.env::X.outer):=by rw [← hst];exact I.ok.frames
 refine zjq (zhp _ _) dd (wpAny_looks_onW (base:=B) (L:=X.env.locals) hfrm hfr fly fun h4 hd4 sm4 d4=>?_)
 refine zjq (zfh _ _) d4 (wpAny_landsW hd4 fun h5 fl5 sm5 d5=>?_)
 have invAt:∀ {h:Heap} {tk:Nat},B.StaysIn h→s₁.heap.UpToSlots h→Inv X pins σ' H' { s₁ with heap:=h,toks:=tk }:=fun {h tk} st sm=>by
  obtain ⟨un,hok⟩:=x.later st sm ff
  exact I1.call' (ch:=[]) x.os un hok x.bare fun b z=>nomatch z
 have I5:Inv X pins σ' H' { s₁ with heap:=h5 }:=invAt (tk:=s₁.toks) fl5.1 (sm4.trans sm5)
 have fmark:(X.A.mark (some (.ref ea))).frames=some X.stack:=I.ok.frames
 refine wpAny_handleBy_cons (codeAny_handlers_test ?_) (by intro q;cases q)
 refine zge (X:=X.inExc ea) (I5.toExc fmark) hg hm ?_ hd
 have kin5:=I5.kIn
 obtain ⟨oe,hoe,hcls⟩:=fl5.there
 refine ziV (cls:=cls) hoe hcls (zgR kin5 hq) (PySem.W.looks_subIn kin5 hsub) ?_
 refine codeAny_handlers_suite_as ?_
 refine zjq (zfh _ _) d5 (lands_againW fl5 fun h6 fl6 sm6 d6=>?_)
 have I6:Inv X pins σ' H' { s₁ with heap:=h6 }:=invAt (tk:=s₁.toks) fl6.1 ((sm4.trans sm5).trans sm6)
 have noat:∀ b o,s1.heap.get? b=some o→b≠ea:=fun b o e z=>by rw [z,x.new] at e;cases e
 have n0:X.s₀.heap.get? ea=none:=by
  cases q:X.s₀.heap.get? ea with
  | none=>rfl
  | some o =>
   obtain ⟨o',e1⟩:=I1.base.there ea o q (by rw [hex];intro z;cases z)
   exact absurd rfl (noat ea o' e1)
 have nL:ea≠X.env.locals:=by
  obtain ⟨m,⟨o,_,_,e,_⟩,_⟩:=I1.loc
  exact (noat _ o e).symm
 have nC:∀ y c,X.env.cells.lookup y=some c→c≠ea:=fun y c e=>by
  obtain ⟨v,z⟩:=I1.cell y c e
  obtain ⟨o,e1,_⟩:=z
  exact noat c o e1
 have nP:∀ p∈X.pn++pins,p.1≠ea:=fun p hp=>noat _ _ (I1.pin p hp).1
 have isx:zne ea cls od h6:=by
  obtain ⟨_,_,_,oe,vs,_,_,_,he,hc,hd,_⟩:=fl6
  obtain ⟨o',e',ed⟩:=d6
  rw [he] at e'
  cases e'
  exact ⟨oe,vs,he,hc.1,hd,ed⟩
 have I7:=I6.track (o:=zdx ea cls od) x.free n0 nL nC nP ⟨isx,by obtain ⟨oe,_,he,_⟩:=isx;exact ⟨oe,he⟩,fun h1 h2 ⟨oe,vs,he,r⟩ k=>⟨oe,vs,k oe he,r⟩⟩
 refine zgM (X:=X.inExc ea) (v:=.ref ea) (I7.toExc fmark) hN hi (.inl hl) rfl (fun s8 I8=>?_) (.inr hl)
 refine wpAny_mono (hh ea pins s8 _ _ _ I8 (hth ea x.free)) (fun f s9 q=>?_) fun e s9 q=>?_
 ·cases f with
  | next =>
   obtain ⟨σ9,H9,I9,r⟩:=q
   exact zkb (I9.ofExc I.ok) hN hi hl fun s10 I10=>⟨_,_,I10,r⟩
  | brk =>
   obtain ⟨σ9,H9,I9,r⟩:=q
   exact zkb (I9.ofExc I.ok) hN hi hl fun s10 I10=>⟨_,_,I10,r⟩
  | cont =>
   obtain ⟨σ9,H9,I9,r⟩:=q
   exact zkb (I9.ofExc I.ok) hN hi hl fun s10 I10=>⟨_,_,I10,r⟩
  | ret u =>
   obtain ⟨v,σ9,H9,I9,rv,r⟩:=q
   exact zkb (I9.ofExc I.ok) hN hi hl fun s10 I10=>⟨v,_,_,I10,rv,r⟩
 ·rw [show (X.inExc ea).xe=X.xe from rfl,hxe] at q
  exact q.elim
section
open Builtin Builtin.ObjectAttr PySem.W
variable {K:PySem.W.Frag} {prog:Program} {w:World} {A:Around} {E:Value→Shared→Prop} {h:Heap} {g:Array GenState} {d:Drawn} {t:Nat} {os:OsState} {a C dx:Addr}
theorem zkq {f:Str} {tk:Tok} {v:Value} {o:Obj} {od:Option Obj} {Q:Fin→Shared→Prop} (X:K.In h) (J:PySem.W.InstAt h a o C od) (hf:PySem.W.findObj K C od f=some (.value v)) (hq:Q (.done (.ret v)) ⟨h,g,d,t,os⟩) :
  wpAny (model prog w) A (Builtin.«object.__getattribute__» ⟨[.ref a,.str f tk],[]⟩) Q E ⟨h,g,d,t,os⟩:=by
 have L0:=J.type (M:=model prog w)
 have L1:=PySem.W.looks_find (M:=model prog w) X J hf
 refine wpAny_bind (wpAny_pure (wpAny_bind (wpAny_pure (wpAny_bind (L0.at (wpAny_bind (L1.at ?_)))))))
 exact wpAny_pure hq
theorem zta {f:Str} {v:Value} {b:Bool} {o:Obj} {od:Option Obj} {Q:Value→Shared→Prop} (X:K.In h) (Z:zeB K C) (J:PySem.W.InstAt h a o C od) (hf:PySem.W.findObj K C od f=some (.value v)) (hv:PySem.W.handedIn v=true) (hq:Q v ⟨h,g,d,t+1,os⟩) :
  wpAny (model prog w) A (getAttr (.ref a) f b) Q E ⟨h,g,d,t,os⟩:=by
 have FB:=PySem.F.attrBase_ValueError
 have LG:=PySem.W.looks_findIn (M:=model prog w) X Z.ga
 have LN:=PySem.W.looks_findIn (M:=model prog w) X Z.gn
 have hx:=J.at_
 have hc:=J.cls
 have f3:=FB.ga.bind (.ref a)
 have n2:(Value.builtin "BaseException.__getattribute__" == Value.builtin "object.__getattribute__")=false:=by decide +kernel
 have n1:(onTheHeap (Value.ref C)&&(Value.builtin "BaseException.__getattribute__" == Value.builtin "object.__getattribute__"))=false:=by rw [n2];rfl
 unfold getAttr
 repeat (any_goals (first | assumption | (with_reducible refine wpAny_loadPart_at hx ?_;rw [hc]) | with_reducible refine LG.at ?_ | with_reducible refine LN.at ?_ | wp_step))
 rw [show (b&&onTheHeap (Value.builtin "BaseException.__getattribute__"))=false from Bool.and_false _,if_neg Bool.false_ne_true]
 repeat (any_goals (first | assumption | wp_step))
 refine codeAny_call_builtin FB.ga.plain F.entry_bexc_ga (zhz X Z hx hc (zkq X J hf ?_))
 show wpAny _ _ (handedOut v) _ _ _
 rw [PySem.W.handedOut_of hv]
 exact wpAny_pure hq
end
structure zsL (K:PySem.W.Frag) (C:Addr) (f:Str):Prop where
 five:zeB K C
 hd:PySem.W.hasDictIn K C=true
 na:PySem.W.findIn K (.ref C) f=some none
def znp (K:PySem.W.Frag) (ta:TE) (f:Str):TE:=fun σ H Q=>ta σ H fun x H1=>∃ a C dx fs v,x=.ref a∧H1 a=some (zdx a (.ref C) (some dx))∧H1 dx=some (.xd fs)∧zsL K C f∧fs.lookup f=some v∧Q v H1
def zcj (K:PySem.W.Frag):List V→Hp→VK→Prop:=fun xs H Q=>∃ a c cv od dv b,xs=[.ref a,c]∧clsV c=some dv∧H a=some (zdx a cv od)∧zhr K cv∧PySem.W.kitOne K cv dv=some b∧Q (.bl b) H
section
variable {X:Cx} {e:Expr} {f:Str} {pos:Pos} {ta:TE}
theorem zop (he:PE X e ta) (hb:attributeBase e f X.env (eval e X.env)=eval e X.env):PE X (.Attribute e f pos) (znp X.K ta f):=by
 intro pins s σ H Q I h
 refine zr8 hb (thn (he pins s σ H _ I h) fun u s1 hQ'=>?_)
 obtain ⟨x,H1,I1,rx,a,C,dx,fs,v,ex,ea,ed,Z,l,q⟩:=hQ'
 subst ex
 obtain rfl:u=Value.ref a:=rx
 obtain ⟨⟨oe,vs,ge,ce,fe,de⟩,_⟩:=(I1.hok a _ ea:zcd X.prog X.w H1 s1.heap a (zdx a (.ref C) (some dx)))
 obtain ⟨mA,ns,r⟩:=(I1.hok dx _ ed:zcd X.prog X.w H1 s1.heap dx (.xd fs))
 obtain ⟨u,hu,ru⟩:=zmG.some_of (v:=v) (o:=mA f) (by rw [← l];exact r f)
 obtain ⟨oD,gD,lD⟩:=zlw ns
 have J:PySem.W.InstAt s1.heap a oe C (some oD):=⟨ge,ce,by unfold PySem.W.notCls;rw [fe],by rw [de];exact gD⟩
 have I2:=I1.tok (s1.toks+1)
 obtain ⟨hh,g,d,t,os⟩:=s1
 exact zta I1.kIn Z.five J (PySem.W.findObj_own Z.hd Z.na rfl (by rw [lD,hu])) (zpB ru) ⟨v,H1,I2,ru,q⟩
theorem za7:zgU X (.builtin "isinstance") (zcj X.K):=by
 intro pins s σ H xs us Q I r h
 obtain ⟨a,c,cv,od,dv,b,rfl,hc,ha,k,e,q⟩:=h
 obtain ⟨u,w',rfl,rx,rw'⟩:=zpw r
 obtain rfl:=zm6 rw' hc
 cases (show u=Value.ref a from rx)
 obtain ⟨p,_,_⟩:=(show zcd X.prog X.w H s.heap a (zdx a cv od) from I.hok a _ ha)
 exact PySem.W.kia_one (k.kit a) I.kIn p.is e (fun z=>nomatch z) fun tk=>⟨.bl b,H,I.tok tk,rfl,q⟩
end
theorem znM {K:PySem.W.Frag} {C fI:Addr} (Z:zeB K C) (ZI:ExI K C fI):zhr K (.ref C):=by
 obtain ⟨nm,q,N,bs,bm,sn,sub,ab,col,dd,k0,k1,k2,k3,k5,lk,tl⟩:=ZI.lk
 exact ⟨fun x=>{
  ty:=fun M h _ p=>by
   obtain ⟨oe,vs,e,c,_⟩:=p
   exact c ▸ (PySem.W.Looks.ld e).andThen .now
  it:=fun M h X _=>by
   have hC:=X _ _ lk
   intro A' Q' E' s' k q
   unfold isType loadHead
   exact wpAny_bind (wpAny_loadPart (k _ _ hC) (wpAny_pure q))
  ne:=fun h tp dd its n sl X htp=>by
   have hC:=X _ _ lk
   refine Bool.eq_false_iff.mpr fun q=>?_
   have e:C=tp:=Value.ref.inj (beq_iff_eq.mp q)
   subst e
   rw [hC] at htp
   have z:=congrArg Obj.data (Option.some.inj htp)
   exact nomatch z
  ca:=fun {prog w A E Q s} X p q=>by
   obtain ⟨h,g,d,t,os⟩:=s
   obtain ⟨oe,vs,e,c,_⟩:=p
   exact zis X Z PySem.F.attrBase_ValueError e c q }⟩
theorem zsS {K:PySem.W.Frag} {C fI:Addr} {nm:Str} {H:Hp} {Q:VK} {y:Addr} {v:V} (Z:ExI K C fI) (na:PySem.W.findIn K (.ref C) nm=some none) (hy:H y=some (zp1 y C)) (q:∀ dx,H dx=none→dx≠y→Q .non (upd (upd H y (zrt y C dx)) dx (.xd [(nm,v)]))) :
  (zaF (zdD (tBI K (zab (zac 0) (zab (zac 1) zau)))) (zsk K (zac 0) (zac 1) nm)) { nx:=fun _ H'=>Q .non H',rt:=Q } [some (.ref y),some v] H:=by
 simp only [zaF,zdD,tBI,zab,zau,zac,zsk,List.getElem?_cons_zero,List.getElem?_cons_succ,Option.some.injEq,exists_eq_left']
 exact ⟨y,v,C,rfl,hy,⟨_,Z⟩,y,C,rfl,hy,⟨_,Z⟩,na,q⟩
def zsv:Stmt→List Stmt
 | .ClassDef _ _ _ b _ _ _ _ _ _ _=>b
 | _=>[]
theorem vlst2 {us:List Value} (h:us.length=2):∃ x y,us=[x,y]:=match us,h with | [x,y],_=>⟨x,y,rfl⟩
end L2
set_option maxHeartbeats 4000000
local macro_rules
 | `(tactic| simp_all only [$xs,*])=>do
  let ds ← ("zpN zon zoM zpg zpk zpO zpE zoD zsU zsZ zqk zqc zql zrr zra zqD rI_c ztN zrP ztI ztm zrM zrK zrJ zrW zrE zq7 zrj zmO zmK zm1 zm3 zm9 zrD zq8 zoC zpV zoS zoU zim zhx zm2 zqb zhI zq5 zmW zhd zdP zb3 tBM zo6 zer zqB zgO zaF zaZ zbj ziz zbW ziy tCB zab zau tC tOp zaK zb7 zbY zdD zd4 zgq tPar zaY rNe rIn zdi tRev rSum tSl zbB zc0 zgW zfn tUn tB zp4 tOr rU rEq zsO zow znp rEqD rNeD zcW ze0 iZip zgs znF zky zoj zdH zna zeA zoP zk8 znx tIf zpc zja zn4 zqx znd zo2".splitOn " ").toArray.mapM fun s=>`(Lean.Parser.Tactic.simpLemma| ↓ $(Lean.mkIdent s.toName):ident)
  let ps ← ("zdR zse Option.bind_some Option.bind_none Option.join_some Option.map_some List.getElem?_cons_zero List.getElem?_cons_succ V.str.injEq V.ty.injEq zac rI rI0 zcg zdz L2.zce znb zpZ zm5 zoJ List.map_cons List.map_nil List.length_cons List.length_nil List.replicate List.cons_append List.nil_append List.append_nil Option.some.injEq exists_eq_left' exists_eq_left exists_and_left List.cons.injEq V.int.injEq V.ref.injEq V.bl.injEq and_true true_and List.set_cons_zero List.set_cons_succ Nat.reduceAdd Nat.reduceSub Int.reduceToNat Int.reducePow Int.reduceNeg Int.reduceMul Int.reduceAdd Int.reduceSub decide_eq_true_eq Bool.not_eq_true' decide_eq_false_iff_not exists_const and_assoc exists_eq exists_eq' if_true if_false Bool.false_eq_true Bool.true_eq_false reduceCtorEq not_true_eq_false not_false_eq_true".splitOn " ").toArray.mapM fun s=>`(Lean.Parser.Tactic.simpLemma| $(Lean.mkIdent s.toName):ident)
  `(tactic| simp only [$xs,*,$ds,*,$ps,*])
namespace My
local macro_rules | `(tactic| omega)=>`(tactic| lia)
open PySem L2
def top (i:Nat):Stmt:=PySem.Challenge.pw_hideworth_k48_whole_what_is_no_plan.main.body.getD i (.Pass ⟨0,0,0,0⟩)
abbrev zg3:Stmt:=top 21
abbrev zgk:Stmt:=top 22
abbrev zhN:Stmt:=top 28
abbrev zdq:Stmt:=top 29
abbrev zg5:Stmt:=top 30
abbrev zf8:Stmt:=top 31
abbrev zdw:Stmt:=top 32
abbrev zeh:Stmt:=top 33
abbrev zfC:Stmt:=top 34
abbrev zdv:Stmt:=top 35
abbrev zea:Stmt:=top 36
abbrev zdI:Stmt:=top 37
abbrev zhh:Stmt:=top 38
abbrev zfx:Stmt:=top 40
abbrev zff:Stmt:=top 41
abbrev zfk:Stmt:=top 42
abbrev zeQ:Stmt:=top 43
abbrev zhf:Stmt:=top 44
abbrev zeD:Stmt:=top 45
abbrev zg8:Stmt:=top 46
abbrev zgb:Stmt:=top 47
abbrev zdF:Stmt:=top 48
abbrev zd5:Stmt:=top 49
abbrev zd0:Stmt:=top 50
abbrev zgc:Stmt:=top 51
abbrev ze3:Stmt:=top 52
abbrev zex:Stmt:=top 53
abbrev zfA:Stmt:=top 54
abbrev zsd:Stmt:=top 55
abbrev zdb:Stmt:=(zsv (top 17)).getD 0 (.Pass ⟨0,0,0,0⟩)
set_option genInjectivity false in
set_option genSizeOf false in
structure Ad where
 f_is_whole:Addr
 d_is_whole:FuncData
 f_is_within:Addr
 d_is_within:FuncData
 f_is_road:Addr
 d_is_road:FuncData
 f_places_come_to:Addr
 d_places_come_to:FuncData
 f_look_web:Addr
 d_look_web:FuncData
 f_look_kind:Addr
 d_look_kind:FuncData
 f_shortest_roads:Addr
 d_shortest_roads:FuncData
 f_is_walk_step:Addr
 d_is_walk_step:FuncData
 f_walk_costs:Addr
 d_walk_costs:FuncData
 f_is_spread_step:Addr
 d_is_spread_step:FuncData
 f_spread_costs:Addr
 d_spread_costs:FuncData
 f_whole_costs:Addr
 d_whole_costs:FuncData
 f_costs_of:Addr
 d_costs_of:FuncData
 f__law_mixed:Addr
 d__law_mixed:FuncData
 f__law_whole:Addr
 d__law_whole:FuncData
 f__law_class:Addr
 d__law_class:FuncData
 f__law_length:Addr
 d__law_length:FuncData
 f__law_web:Addr
 d__law_web:FuncData
 f__law_near:Addr
 d__law_near:FuncData
 f__law_way:Addr
 d__law_way:FuncData
 f__law_walk:Addr
 d__law_walk:FuncData
 f__law_spread:Addr
 d__law_spread:FuncData
 f__law_pairs:Addr
 d__law_pairs:FuncData
 f__law_costs:Addr
 d__law_costs:FuncData
 f__law_same:Addr
 d__law_same:FuncData
 f__law_wrong:Addr
 d__law_wrong:FuncData
 f__law_bent:Addr
 d__law_bent:FuncData
 f__law_asked:Addr
 d__law_asked:FuncData
 f_law:Addr
 d_law:FuncData
 c_HideError:Addr
 c_NoWeb:Addr
 c_NoPlan:Addr
 c_NoText:Addr
 c_NoKind:Addr
 c_TooGreat:Addr
 c_NoTree:Addr
 c_NoWeights:Addr
 c_NoTurns:Addr
 c_NoNumber:Addr
 c_NoBoxes:Addr
 c_NoBudget:Addr
 c_NoName:Addr
 c_NoOrder:Addr
 c_NoPlay:Addr
 c_NoRoad:Addr
 c_NoRow:Addr
 c_NoTable:Addr
 c_NoPaper:Addr
 i_NoPlan:Addr
 j_NoPlan:FuncData
 k_MOST_PLACES:Tok
 k_MOST_ROADS:Tok
 k_MOST_LENGTH:Tok
 t_KINDS:Addr
structure Isa (K:PySem.W.Frag) (a:Ad):Prop where
 k_NoWeb:PySem.W.kitOne K (.ref a.c_NoPlan) (.ref a.c_NoWeb)=some false
 k_NoPlan:PySem.W.kitOne K (.ref a.c_NoPlan) (.ref a.c_NoPlan)=some true
 k_NoText:PySem.W.kitOne K (.ref a.c_NoPlan) (.ref a.c_NoText)=some false
 k_NoKind:PySem.W.kitOne K (.ref a.c_NoPlan) (.ref a.c_NoKind)=some false
 k_TooGreat:PySem.W.kitOne K (.ref a.c_NoPlan) (.ref a.c_TooGreat)=some false
 k_NoTree:PySem.W.kitOne K (.ref a.c_NoPlan) (.ref a.c_NoTree)=some false
 k_NoWeights:PySem.W.kitOne K (.ref a.c_NoPlan) (.ref a.c_NoWeights)=some false
 k_NoTurns:PySem.W.kitOne K (.ref a.c_NoPlan) (.ref a.c_NoTurns)=some false
 k_NoNumber:PySem.W.kitOne K (.ref a.c_NoPlan) (.ref a.c_NoNumber)=some false
 k_NoBoxes:PySem.W.kitOne K (.ref a.c_NoPlan) (.ref a.c_NoBoxes)=some false
 k_NoBudget:PySem.W.kitOne K (.ref a.c_NoPlan) (.ref a.c_NoBudget)=some false
 k_NoName:PySem.W.kitOne K (.ref a.c_NoPlan) (.ref a.c_NoName)=some false
 k_NoOrder:PySem.W.kitOne K (.ref a.c_NoPlan) (.ref a.c_NoOrder)=some false
 k_NoPlay:PySem.W.kitOne K (.ref a.c_NoPlan) (.ref a.c_NoPlay)=some false
 k_NoRoad:PySem.W.kitOne K (.ref a.c_NoPlan) (.ref a.c_NoRoad)=some false
 k_NoRow:PySem.W.kitOne K (.ref a.c_NoPlan) (.ref a.c_NoRow)=some false
 k_NoTable:PySem.W.kitOne K (.ref a.c_NoPlan) (.ref a.c_NoTable)=some false
 k_NoPaper:PySem.W.kitOne K (.ref a.c_NoPlan) (.ref a.c_NoPaper)=some false
 k_ValueError:PySem.W.kitOne K (.ref a.c_NoPlan) (.type "ValueError")=some true
 sub:PySem.W.subIn K (.ref a.c_NoPlan) (.ref a.c_HideError)=some true
 ec:zhr K (.ref a.c_NoPlan)
structure Isa2 (K:PySem.W.Frag) (a:Ad):Prop where
 k_NoWeb:PySem.W.kitOne K (.ref a.c_NoKind) (.ref a.c_NoWeb)=some false
 k_NoPlan:PySem.W.kitOne K (.ref a.c_NoKind) (.ref a.c_NoPlan)=some false
 k_NoText:PySem.W.kitOne K (.ref a.c_NoKind) (.ref a.c_NoText)=some false
 k_NoKind:PySem.W.kitOne K (.ref a.c_NoKind) (.ref a.c_NoKind)=some true
 k_TooGreat:PySem.W.kitOne K (.ref a.c_NoKind) (.ref a.c_TooGreat)=some false
 k_NoTree:PySem.W.kitOne K (.ref a.c_NoKind) (.ref a.c_NoTree)=some false
 k_NoWeights:PySem.W.kitOne K (.ref a.c_NoKind) (.ref a.c_NoWeights)=some false
 k_NoTurns:PySem.W.kitOne K (.ref a.c_NoKind) (.ref a.c_NoTurns)=some false
 k_NoNumber:PySem.W.kitOne K (.ref a.c_NoKind) (.ref a.c_NoNumber)=some false
 k_NoBoxes:PySem.W.kitOne K (.ref a.c_NoKind) (.ref a.c_NoBoxes)=some false
 k_NoBudget:PySem.W.kitOne K (.ref a.c_NoKind) (.ref a.c_NoBudget)=some false
 k_NoName:PySem.W.kitOne K (.ref a.c_NoKind) (.ref a.c_NoName)=some false
 k_NoOrder:PySem.W.kitOne K (.ref a.c_NoKind) (.ref a.c_NoOrder)=some false
 k_NoPlay:PySem.W.kitOne K (.ref a.c_NoKind) (.ref a.c_NoPlay)=some false
 k_NoRoad:PySem.W.kitOne K (.ref a.c_NoKind) (.ref a.c_NoRoad)=some false
 k_NoRow:PySem.W.kitOne K (.ref a.c_NoKind) (.ref a.c_NoRow)=some false
 k_NoTable:PySem.W.kitOne K (.ref a.c_NoKind) (.ref a.c_NoTable)=some false
 k_NoPaper:PySem.W.kitOne K (.ref a.c_NoKind) (.ref a.c_NoPaper)=some false
 k_ValueError:PySem.W.kitOne K (.ref a.c_NoKind) (.type "ValueError")=some true
 sub:PySem.W.subIn K (.ref a.c_NoKind) (.ref a.c_HideError)=some true
 ec:zhr K (.ref a.c_NoKind)
structure Txt (K:PySem.W.Frag) (mg:Str→Option Value) (a:Ad):Prop where
 F_is_whole:Fun K "is_whole" "is_whole" zg3 a.f_is_whole a.d_is_whole
 b_is_whole:zcv K a.d_is_whole ["thing"] []
 m_is_whole:mg "is_whole"=some (.ref a.f_is_whole)
 F_is_within:Fun K "is_within" "is_within" zgk a.f_is_within a.d_is_within
 b_is_within:zcv K a.d_is_within ["thing","least","most"] []
 m_is_within:mg "is_within"=some (.ref a.f_is_within)
 F_is_road:Fun K "is_road" "is_road" zhN a.f_is_road a.d_is_road
 b_is_road:zcv K a.d_is_road ["thing","many"] []
 m_is_road:mg "is_road"=some (.ref a.f_is_road)
 F_places_come_to:Fun K "places_come_to" "places_come_to" zdq a.f_places_come_to a.d_places_come_to
 b_places_come_to:zcv K a.d_places_come_to ["roads"] []
 m_places_come_to:mg "places_come_to"=some (.ref a.f_places_come_to)
 F_look_web:Fun K "look_web" "look_web" zg5 a.f_look_web a.d_look_web
 b_look_web:zcv K a.d_look_web ["web"] []
 m_look_web:mg "look_web"=some (.ref a.f_look_web)
 F_look_kind:Fun K "look_kind" "look_kind" zf8 a.f_look_kind a.d_look_kind
 b_look_kind:zcv K a.d_look_kind ["kind"] []
 m_look_kind:mg "look_kind"=some (.ref a.f_look_kind)
 F_shortest_roads:Fun K "shortest_roads" "shortest_roads" zdw a.f_shortest_roads a.d_shortest_roads
 b_shortest_roads:zcv K a.d_shortest_roads ["web"] []
 m_shortest_roads:mg "shortest_roads"=some (.ref a.f_shortest_roads)
 F_is_walk_step:Fun K "is_walk_step" "is_walk_step" zeh a.f_is_walk_step a.d_is_walk_step
 b_is_walk_step:zcv K a.d_is_walk_step ["lengths","plan","k"] []
 m_is_walk_step:mg "is_walk_step"=some (.ref a.f_is_walk_step)
 F_walk_costs:Fun K "walk_costs" "walk_costs" zfC a.f_walk_costs a.d_walk_costs
 b_walk_costs:zcv K a.d_walk_costs ["lengths","plan"] []
 m_walk_costs:mg "walk_costs"=some (.ref a.f_walk_costs)
 F_is_spread_step:Fun K "is_spread_step" "is_spread_step" zdv a.f_is_spread_step a.d_is_spread_step
 b_is_spread_step:zcv K a.d_is_spread_step ["lengths","costs","step"] []
 m_is_spread_step:mg "is_spread_step"=some (.ref a.f_is_spread_step)
 F_spread_costs:Fun K "spread_costs" "spread_costs" zea a.f_spread_costs a.d_spread_costs
 b_spread_costs:zcv K a.d_spread_costs ["lengths","plan"] []
 m_spread_costs:mg "spread_costs"=some (.ref a.f_spread_costs)
 F_whole_costs:Fun K "whole_costs" "whole_costs" zdI a.f_whole_costs a.d_whole_costs
 b_whole_costs:zcv K a.d_whole_costs ["many","lengths","kind","plan"] []
 m_whole_costs:mg "whole_costs"=some (.ref a.f_whole_costs)
 F_costs_of:Fun K "costs_of" "costs_of" zhh a.f_costs_of a.d_costs_of
 b_costs_of:zcv K a.d_costs_of ["web","kind","plan"] []
 m_costs_of:mg "costs_of"=some (.ref a.f_costs_of)
 F__law_mixed:Fun K "_law_mixed" "_law_mixed" zfx a.f__law_mixed a.d__law_mixed
 b__law_mixed:zcv K a.d__law_mixed ["_law_script","_law_k"] []
 m__law_mixed:mg "_law_mixed"=some (.ref a.f__law_mixed)
 F__law_whole:Fun K "_law_whole" "_law_whole" zff a.f__law_whole a.d__law_whole
 b__law_whole:zcv K a.d__law_whole ["_law_told"] []
 m__law_whole:mg "_law_whole"=some (.ref a.f__law_whole)
 F__law_class:Fun K "_law_class" "_law_class" zfk a.f__law_class a.d__law_class
 b__law_class:zcv K a.d__law_class ["_law_caught"] []
 m__law_class:mg "_law_class"=some (.ref a.f__law_class)
 F__law_length:Fun K "_law_length" "_law_length" zeQ a.f__law_length a.d__law_length
 b__law_length:zcv K a.d__law_length ["_law_number"] []
 m__law_length:mg "_law_length"=some (.ref a.f__law_length)
 F__law_web:Fun K "_law_web" "_law_web" zhf a.f__law_web a.d__law_web
 b__law_web:zcv K a.d__law_web ["_law_script","_law_start","_law_most","_law_extra"] []
 m__law_web:mg "_law_web"=some (.ref a.f__law_web)
 F__law_near:Fun K "_law_near" "_law_near" zeD a.f__law_near a.d__law_near
 b__law_near:zcv K a.d__law_near ["_law_web_here"] []
 m__law_near:mg "_law_near"=some (.ref a.f__law_near)
 F__law_way:Fun K "_law_way" "_law_way" zg8 a.f__law_way a.d__law_way
 b__law_way:zcv K a.d__law_way ["_law_near_here","_law_start","_law_come"] []
 m__law_way:mg "_law_way"=some (.ref a.f__law_way)
 F__law_walk:Fun K "_law_walk" "_law_walk" zgb a.f__law_walk a.d__law_walk
 b__law_walk:zcv K a.d__law_walk ["_law_script","_law_start","_law_near_here"] []
 m__law_walk:mg "_law_walk"=some (.ref a.f__law_walk)
 F__law_spread:Fun K "_law_spread" "_law_spread" zdF a.f__law_spread a.d__law_spread
 b__law_spread:zcv K a.d__law_spread ["_law_script","_law_start","_law_near_here"] []
 m__law_spread:mg "_law_spread"=some (.ref a.f__law_spread)
 F__law_pairs:Fun K "_law_pairs" "_law_pairs" zd5 a.f__law_pairs a.d__law_pairs
 b__law_pairs:zcv K a.d__law_pairs ["_law_near_here"] []
 m__law_pairs:mg "_law_pairs"=some (.ref a.f__law_pairs)
 F__law_costs:Fun K "_law_costs" "_law_costs" zd0 a.f__law_costs a.d__law_costs
 b__law_costs:zcv K a.d__law_costs ["_law_near_here","_law_kind","_law_plan"] []
 m__law_costs:mg "_law_costs"=some (.ref a.f__law_costs)
 F__law_same:Fun K "_law_same" "_law_same" zgc a.f__law_same a.d__law_same
 b__law_same:zcv K a.d__law_same ["_law_told","_law_due"] []
 m__law_same:mg "_law_same"=some (.ref a.f__law_same)
 F__law_wrong:Fun K "_law_wrong" "_law_wrong" ze3 a.f__law_wrong a.d__law_wrong
 b__law_wrong:zcv K a.d__law_wrong ["_law_near_here","_law_kind","_law_plan"] []
 m__law_wrong:mg "_law_wrong"=some (.ref a.f__law_wrong)
 F__law_bent:Fun K "_law_bent" "_law_bent" zex a.f__law_bent a.d__law_bent
 b__law_bent:zcv K a.d__law_bent ["_law_plan","_law_many","_law_script","_law_k"] []
 m__law_bent:mg "_law_bent"=some (.ref a.f__law_bent)
 F__law_asked:Fun K "_law_asked" "_law_asked" zfA a.f__law_asked a.d__law_asked
 b__law_asked:zcv K a.d__law_asked ["_law_web_here","_law_kind","_law_plan"] []
 m__law_asked:mg "_law_asked"=some (.ref a.f__law_asked)
 F_law:Fun K "law" "law" zsd a.f_law a.d_law
 b_law:zcv K a.d_law ["_law_script"] []
 m_law:mg "law"=some (.ref a.f_law)
 z_bool:mg "bool"=none
 z_enumerate:mg "enumerate"=none
 z_int:mg "int"=none
 z_isinstance:mg "isinstance"=none
 z_len:mg "len"=none
 z_list:mg "list"=none
 z_min:mg "min"=none
 z_range:mg "range"=none
 z_set:mg "set"=none
 z_sorted:mg "sorted"=none
 z_str:mg "str"=none
 z_sum:mg "sum"=none
 z_tuple:mg "tuple"=none
 z_zip:mg "zip"=none
 z_ValueError:mg "ValueError"=none
 m_HideError:mg "HideError"=some (.ref a.c_HideError)
 m_NoWeb:mg "NoWeb"=some (.ref a.c_NoWeb)
 m_NoPlan:mg "NoPlan"=some (.ref a.c_NoPlan)
 m_NoText:mg "NoText"=some (.ref a.c_NoText)
 m_NoKind:mg "NoKind"=some (.ref a.c_NoKind)
 m_TooGreat:mg "TooGreat"=some (.ref a.c_TooGreat)
 m_NoTree:mg "NoTree"=some (.ref a.c_NoTree)
 m_NoWeights:mg "NoWeights"=some (.ref a.c_NoWeights)
 m_NoTurns:mg "NoTurns"=some (.ref a.c_NoTurns)
 m_NoNumber:mg "NoNumber"=some (.ref a.c_NoNumber)
 m_NoBoxes:mg "NoBoxes"=some (.ref a.c_NoBoxes)
 m_NoBudget:mg "NoBudget"=some (.ref a.c_NoBudget)
 m_NoName:mg "NoName"=some (.ref a.c_NoName)
 m_NoOrder:mg "NoOrder"=some (.ref a.c_NoOrder)
 m_NoPlay:mg "NoPlay"=some (.ref a.c_NoPlay)
 m_NoRoad:mg "NoRoad"=some (.ref a.c_NoRoad)
 m_NoRow:mg "NoRow"=some (.ref a.c_NoRow)
 m_NoTable:mg "NoTable"=some (.ref a.c_NoTable)
 m_NoPaper:mg "NoPaper"=some (.ref a.c_NoPaper)
 m_MOST_PLACES:mg "MOST_PLACES"=some (.int 60 a.k_MOST_PLACES)
 m_MOST_ROADS:mg "MOST_ROADS"=some (.int 120 a.k_MOST_ROADS)
 m_MOST_LENGTH:mg "MOST_LENGTH"=some (.int 1000000 a.k_MOST_LENGTH)
 m_KINDS:mg "KINDS"=some (.ref a.t_KINDS)
 u_KINDS:KTup K a.t_KINDS [.str "walk",.str "spread"]
 x_HideError:PySem.W.excIn K a.c_HideError zfQ "ValueError.__new__"=true
 x_NoKind:PySem.W.excIn K a.c_NoKind zfQ "ValueError.__new__"=true
 B:ExB K a.c_HideError
 I_NoPlan:Fun K "__init__" "NoPlan.__init__" zdb a.i_NoPlan a.j_NoPlan
 bi_NoPlan:zcv K a.j_NoPlan ["self","at"] []
 X_NoPlan:ExI K a.c_NoPlan a.i_NoPlan
 xa_NoPlan:zsL K a.c_NoPlan "at"
 I:Isa K a
 I2:Isa2 K a
theorem zsV:znk 10 18:=⟨by decide,by decide,by decide⟩
theorem logA:(0:Int)<1000000000000000000∧(Int.natAbs 1000000000000000000).log2<9000:=by decide +kernel
theorem logB:(0:Int)<2147483587∧(Int.natAbs 2147483587).log2<9000:=by decide +kernel
theorem log8:(0:Int)<8∧(Int.natAbs 8).log2<9000:=by decide +kernel
def zdO:Sp:=fun vs H Q _=>∃ a:Int,vs=[.int a]∧Q (.bl true) H
def zbz (K:PySem.W.Frag):Sp:=fun vs H Q _=>∃ (a:Addr) (ns:List Int) (k:Int),vs=[.ref a,.int k]∧SqL K H a (ns.map V.int)∧ns.length≤63∧0≤k∧k<1000000∧∀ r:Int,0≤r→r<2147483587→Q (.int r) H
def zrf (K:PySem.W.Frag):Sp:=fun vs H Q _=>∃ (a:Addr) (ns:List Int),vs=[.ref a]∧SqL K H a (ns.map V.int)∧ns.length≤63∧∀ H',Q (.bl true) H'
abbrev Box:=Int×Int×Int
theorem zeW {α β:Type} {f:α→β} {l:List α} {i:Nat} {y:β} (h:(l.map f)[i]?=some y):∃ x,l[i]?=some x∧y=f x:=by
 rw [List.getElem?_map] at h
 obtain ⟨x,h1,h2⟩:=Option.map_eq_some_iff.mp h
 exact ⟨x,h1,h2.symm⟩
def Tps {α:Type} (f:α→List V) (H:Hp) (ts:List Addr) (bs:List α):Prop:=ts.length=bs.length∧∀ (i:Nat) t b,ts[i]?=some t→bs[i]?=some b→H t=some (.tup (f b))
theorem Tps.same {α:Type} {f:α→List V} {H H':Hp} {ts:List Addr} {bs:List α} (h:Tps f H ts bs) (s:zbt H H'):Tps f H' ts bs:=⟨h.1,fun i t b e1 e2=>s _ _ (h.2 i t b e1 e2)⟩
theorem Tps.nil {α:Type} {f:α→List V} {H:Hp}:Tps f H [] ([]:List α):=⟨rfl,fun i t b e=>by simp at e⟩
theorem Tps.put {α:Type} {f:α→List V} {H H':Hp} {ts:List Addr} {bs:List α} {t:Addr} {b:α} (h:Tps f H ts bs) (s:∀ (x:Addr) (u:List V),H x=some (.tup u)→H' x=some (.tup u)) (e:H' t=some (.tup (f b))):Tps f H' (ts++[t]) (bs++[b]):=by
 refine ⟨by rw [List.length_append,List.length_append,h.1];rfl,fun i x y e1 e2=>?_⟩
 by_cases c:i<ts.length
 ·rw [List.getElem?_append_left c] at e1
  rw [List.getElem?_append_left (by rw [← h.1];exact c)] at e2
  exact s _ _ (h.2 i x y e1 e2)
 ·have c1:ts.length≤i:=by omega
  rw [List.getElem?_append_right c1] at e1
  rw [List.getElem?_append_right (by rw [← h.1];exact c1),← h.1] at e2
  have z:i - ts.length=0:=by
   have:=(List.getElem?_eq_some_iff.mp e1).1
   simp only [List.length_cons,List.length_nil] at this
   omega
  rw [z] at e1 e2
  simp only [List.getElem?_cons_zero,Option.some.injEq] at e1 e2
  rw [← e1,← e2]
  exact e
theorem Tps.app {α:Type} {f:α→List V} {H:Hp} {ts us:List Addr} {bs cs:List α} (h:Tps f H ts bs) (h2:Tps f H us cs):Tps f H (ts++us) (bs++cs):=by
 refine ⟨by rw [List.length_append,List.length_append,h.1,h2.1],fun i x y e1 e2=>?_⟩
 by_cases c:i<ts.length
 ·rw [List.getElem?_append_left c] at e1
  rw [List.getElem?_append_left (by rw [← h.1];exact c)] at e2
  exact h.2 i x y e1 e2
 ·have c1:ts.length≤i:=by omega
  rw [List.getElem?_append_right c1] at e1
  rw [List.getElem?_append_right (by rw [← h.1];exact c1),← h.1] at e2
  exact h2.2 _ x y e1 e2
theorem Tps.at {α:Type} {f:α→List V} {H:Hp} {ts:List Addr} {bs:List α} (h:Tps f H ts bs) {i:Nat} {t:Addr} (e:ts[i]?=some t):∃ b,bs[i]?=some b∧H t=some (.tup (f b)):=by
 have hi:=(List.getElem?_eq_some_iff.mp e).1
 rw [h.1] at hi
 exact ⟨bs[i],List.getElem?_eq_getElem hi,h.2 i t _ e (List.getElem?_eq_getElem hi)⟩
theorem zdf {α:Type} {l:List α} {i:Nat} {x:α} (e:l[i]?=some x):x∈l:=List.mem_of_getElem? e
def costs (bs:List Box) (ns:List Int):List Int:=List.zipWith (fun b n=>b.1*n) bs ns
def Off (p c:Addr) (H:Hp):Hp:=fun b=>if b=p∨b=c then none else H b
theorem zmQ (p c:Addr) (H:Hp):zbt (Off p c H) H:=fun b o h=>by
 unfold Off at h
 split at h
 ·cases h
 ·exact h
theorem zjp {p c b:Addr} {H:Hp} (h1:b≠p) (h2:b≠c):Off p c H b=H b:=if_neg (fun z=>z.elim h1 h2)
theorem zto {p c b:Addr} {H:Hp} {o:HO} (h:Off p c H b=some o):b≠p∧b≠c:=by
 unfold Off at h
 split at h
 ·cases h
 ·rename_i z
  exact ⟨fun e=>z (.inl e),fun e=>z (.inr e)⟩
theorem zoQ {p c:Addr} {H:Hp} {o:HO}:Off p c (upd H p o)=Off p c H:=by
 funext b
 unfold Off upd
 split
 ·rfl
 ·rename_i z
  rw [if_neg fun e=>z (.inl e)]
theorem off_c {p c:Addr} {H:Hp} {o:HO}:Off p c (upd H c o)=Off p c H:=by
 funext b
 unfold Off upd
 split
 ·rfl
 ·rename_i z
  rw [if_neg fun e=>z (.inr e)]
theorem zfI {H H':Hp} (p c:Addr) (s:zbt H H'):zbt (Off p c H) (Off p c H'):=fun b o h=>by
 have n:=zto h
 rw [zjp n.1 n.2] at h ⊢
 exact s _ _ h
theorem zh2 {c:TT} {tb:TS} {D:zb8} {σ:St} {H:Hp} (W:Nat→St→Hp→Prop) {m:Nat} (h0:W m σ H)
  (hs:∀ m σ H,W m σ H→c σ H fun b H1=>if b=true then ∃ N:St→Hp→Prop,(∀ σ' H',N σ' H'→∃ m',m'<m∧W m' σ' H')∧tb { D with nx:=N,ct:=N,bk:=D.nx } σ H1 else D.nx σ H1):zgE c tb D σ H:=⟨W,⟨m,h0⟩,hs⟩
abbrev zcb:=Int×Int×Int
abbrev rdv (r:zcb):List V:=[.int r.1,.int r.2.1,.int r.2.2]
def GR (m:Int) (r:zcb):Prop:=0≤r.1∧r.1<m∧0≤r.2.1∧r.2.1<m∧r.1≠r.2.1∧1≤r.2.2∧r.2.2≤1000000
instance (m:Int) (r:zcb):Decidable (GR m r):=by unfold GR;infer_instance
def ztU (m:Int) (rs:List zcb):Prop:=∀ S:Int→Prop,S 0→(∀ r∈rs,S r.1∨S r.2.1→S r.1∧S r.2.1)→∀ x,0≤x→x<m→S x
structure GW (m:Int) (rs:List zcb):Prop where
 m1:1≤m
 m60:m≤60
 l120:rs.length≤120
 gr:∀ r∈rs,GR m r
 conn:ztU m rs
structure zmf (H:Hp) (w rl:Addr) (ts:List Addr) (m:Int) (rs:List zcb):Prop where
 hw:H w=some (.tup [.int m,.ref rl])
 hl:H rl=some (.lst (ts.map V.ref))
 ht:Tps rdv H ts rs
theorem zmf.same {H H':Hp} {w rl:Addr} {ts:List Addr} {m:Int} {rs:List zcb} (h:zmf H w rl ts m rs) (s:zbt H H'):zmf H' w rl ts m rs:=⟨s _ _ h.hw,s _ _ h.hl,h.ht.same s⟩
def shs (f:Int→Int→Option Int) (r:zcb):Int→Int→Option Int:=fun x y =>
 if x=r.2.1∧y=r.1 then some (min ((f r.1 r.2.1).getD r.2.2) r.2.2) else if x=r.1∧y=r.2.1 then some (min ((f r.1 r.2.1).getD r.2.2) r.2.2) else f x y
def sh (rs:List zcb):Int→Int→Option Int:=rs.foldl shs fun _ _=>none
theorem zpP {rs:List zcb} {i:Nat} {r:zcb} (e:rs[i]?=some r):sh (rs.take (i+1))=shs (sh (rs.take i)) r:=by
 unfold sh
 rw [List.take_add_one,e,List.foldl_append]
 rfl
theorem zoT (rs:List zcb):∀ x y,sh rs x y=sh rs y x:=by
 have z:∀ (rs:List zcb) (f:Int→Int→Option Int),(∀ x y,f x y=f y x)→∀ x y,rs.foldl shs f x y=rs.foldl shs f y x:=by
  intro rs
  induction rs with
  | nil=>intro f h;exact h
  | cons r rs ih =>
   intro f h
   refine ih _ fun x y=>?_
   unfold shs
   by_cases c1:x=r.2.1∧y=r.1
   ·obtain ⟨rfl,rfl⟩:=c1
    rw [if_pos ⟨rfl,rfl⟩]
    split
    ·rfl
    ·rw [if_pos ⟨rfl,rfl⟩]
   ·rw [if_neg c1]
    by_cases c2:x=r.1∧y=r.2.1
    ·obtain ⟨rfl,rfl⟩:=c2
     rw [if_pos ⟨rfl,rfl⟩,if_pos ⟨rfl,rfl⟩]
    ·rw [if_neg c2,if_neg fun z=>c2 ⟨z.2,z.1⟩,if_neg fun z=>c1 ⟨z.2,z.1⟩,h x y]
 exact z rs _ fun _ _=>rfl
def zez:Sp:=fun vs H Q _=>∃ x l m:Int,vs=[.int x,.int l,.int m]∧Q (.bl (decide (l≤x∧x≤m))) H
def zjZ:Sp:=fun vs H Q _=>∃ (t:Addr) (r:zcb) (m:Int),vs=[.ref t,.int m]∧H t=some (.tup (rdv r))∧Q (.bl (decide (GR m r))) H
def zpR:Sp:=fun vs H Q _=>∃ (rl:Addr) (ts:List Addr) (rs:List zcb) (m:Int),vs=[.ref rl]∧H rl=some (.lst (ts.map V.ref))∧Tps rdv H ts rs∧1≤m∧m≤60∧(∀ r∈rs,GR m r)∧∀ (d:Addr) (kvs:List (Key×V)) (H':Hp),zbt H H'→H' d=some (.dK kvs)→(m≤(kvs.length:Int)↔ztU m rs)→Q (.ref d) H'
def zlo:Sp:=fun vs H Q _=>∃ (w rl:Addr) (ts:List Addr) (m:Int) (rs:List zcb),vs=[.ref w]∧zmf H w rl ts m rs∧GW m rs∧∀ H',zbt H H'→Q .non H'
structure zlG (kvs:List (List Key×V)) (rs:List zcb):Prop where
 val:∀ x y:Int,zdJ kvs [.inl x,.inl y]=(sh rs x y).map V.int
 len:kvs.length≤2*rs.length
def zpX:Sp:=fun vs H Q _=>∃ (w rl:Addr) (ts:List Addr) (m:Int) (rs:List zcb),vs=[.ref w]∧zmf H w rl ts m rs∧rs.length≤120∧∀ (d:Addr) (kvs:List (List Key×V)) (H':Hp),zbt H H'→H' d=some (.dT kvs)→zlG kvs rs→H d=none→Q (.ref d) H'
def zo4:Sp:=fun _ _ _ _=>False
theorem zqo {P:Program} {w:World} {K:PySem.W.Frag} {mg:Str→Option Value} {base:Heap} {CX:CXT} {k:Nat} {f:Addr} {fd:FuncData} {ps:List Str}:zdV P w K mg base CX k f fd ps zo4 :=
 ⟨fun _ _ _ _ h=>h.elim,fun _ _ _ _ _ _ _ _ _ _ _ _ _ h=>h.elim⟩
inductive Th where
 | n (i:Int)
 | p (x y:Int)
def Th.num:Th→Int
 | .n i=>i
 | .p _ _=>0
def Th.pr:Th→Int×Int
 | .p x y=>(x,y)
 | .n _=>(0,0)
def ThV (H:Hp) (v:V):Th→Prop
 | .n i=>v=.int i
 | .p x y=>∃ u,v=.ref u∧H u=some (.tup [.int x,.int y])
theorem ThV.same {H H':Hp} {v:V} {t:Th} (h:ThV H v t) (s:zbt H H'):ThV H' v t:=by
 cases t with
 | n i=>exact h
 | p x y =>
  obtain ⟨u,e,hu⟩:=h
  exact ⟨u,e,s _ _ hu⟩
def PlT (H:Hp) (xs:List V) (ts:List Th):Prop:=xs.length=ts.length∧∀ (i:Nat) v t,xs[i]?=some v→ts[i]?=some t→ThV H v t
theorem PlT.same {H H':Hp} {xs:List V} {ts:List Th} (h:PlT H xs ts) (s:zbt H H'):PlT H' xs ts:=⟨h.1,fun i v t e1 e2=>(h.2 i v t e1 e2).same s⟩
theorem PlT.at {H:Hp} {xs:List V} {ts:List Th} (h:PlT H xs ts) {i:Nat} {v:V} (e:xs[i]?=some v):∃ t,ts[i]?=some t∧ThV H v t:=by
 have l:=(List.getElem?_eq_some_iff.mp e).1
 rw [h.1] at l
 exact ⟨_,List.getElem?_eq_getElem l,h.2 i v _ e (List.getElem?_eq_getElem l)⟩
theorem PlT.at' {H:Hp} {xs:List V} {ts:List Th} (h:PlT H xs ts) {i:Nat} {t:Th} (e:ts[i]?=some t):∃ v,xs[i]?=some v∧ThV H v t:=by
 have l:=(List.getElem?_eq_some_iff.mp e).1
 rw [← h.1] at l
 exact ⟨_,List.getElem?_eq_getElem l,h.2 i _ t (List.getElem?_eq_getElem l) e⟩
def Th.isN:Th→Bool
 | .n _=>true
 | .p _ _=>false
def zmL:Sp:=fun vs H Q _=>∃ (v:V) (t:Th),vs=[v]∧ThV H v t∧Q (.bl t.isN) H
def kdS (sp:Bool):Str:=if sp=true then "spread" else "walk"
section
variable {P:Program} {w:World} {mg:Str→Option Value} {base:Heap}
variable {K:PySem.W.Frag} {H:Hp} {Q:VK} {a:Ad}
def zdL (K:PySem.W.Frag):TS :=
 (zbY (zcW (tCB (zdT K) (zab (zac 0) (zab (tC (.ty "int")) zau))) (znF (tCB (zdT K) (zab (zac 0) (zab (tC (.ty "bool")) zau))))))
theorem zlY {x:Int} (q:Q (.bl true) H):zdL K { nx:=fun _ H'=>Q .non H',rt:=Q } (L2.zce ["thing"] [.int x]) H:=by
 unfold zdL
 simp_all only [zac]
 refine zdQ ⟨_,rfl,zn1 ?_⟩
 exact zd3 ⟨_,rfl,q⟩
theorem zhU:zbk ["thing"] ["thing"] (zaC zg3):=⟨rfl,rfl,rfl,by decide +kernel,rfl,by decide +kernel,by decide +kernel⟩
theorem zf9 (T:Txt K mg a):zdV P w K mg base CX0 1 a.f_is_whole a.d_is_whole ["thing"] zdO:=by
 refine T.F_is_whole.ok zhU (fun vs H Q E h=>?_) (fun cdv A outer s H vs Q E hr h=>?_)
 ·obtain ⟨x,rfl,q⟩:=h
  rfl
 obtain ⟨x,rfl,q⟩:=h
 exact ⟨zdL K,(zak (zaX (zcQ (zai zaw rfl T.z_isinstance PyProof.Rows.boot_isinstance (zaa (pv 0) (zaa (zbc rfl T.z_int zdZ rfl) zag))) (zdp (zk5 (zai zaw rfl T.z_isinstance PyProof.Rows.boot_isinstance (zaa (pv 0) (zaa (zbc rfl T.z_bool zdc rfl) zag)))))))),
  zlY q⟩
theorem zkS {v:V} {t:Th} (hv:ThV H v t) (q:Q (.bl t.isN) H):zdL K { nx:=fun _ H'=>Q .non H',rt:=Q } (L2.zce ["thing"] [v]) H:=by
 unfold zdL
 simp_all only [zac]
 cases t with
 | n i =>
  cases hv
  refine zdQ ⟨_,rfl,zn1 ?_⟩
  exact zd3 ⟨_,rfl,q⟩
 | p x y =>
  obtain ⟨u,rfl,hu⟩:=hv
  exact zcz (.tup hu) (zjy K) ⟨_,rfl,zlF q⟩
theorem zkE (T:Txt K mg a):zdV P w K mg base CX0 1 a.f_is_whole a.d_is_whole ["thing"] zmL:=by
 refine T.F_is_whole.ok zhU (fun vs H Q E h=>?_) (fun cdv A outer s H vs Q E hr h=>?_)
 ·obtain ⟨v,t,rfl,hv,q⟩:=h
  rfl
 obtain ⟨v,t,rfl,hv,q⟩:=h
 exact ⟨zdL K,(zak (zaX (zcQ (zai zaw rfl T.z_isinstance PyProof.Rows.boot_isinstance (zaa (pv 0) (zaa (zbc rfl T.z_int zdZ rfl) zag))) (zdp (zk5 (zai zaw rfl T.z_isinstance PyProof.Rows.boot_isinstance (zaa (pv 0) (zaa (zbc rfl T.z_bool zdc rfl) zag)))))))),zkS hv q⟩
def zgj:TS :=
 (zbY (zcW (zaY zdO [] E0 (zab (zac 0) zau)) (zja (rI0 fun i j=>.bl (decide (i≤j))) (rI0 fun i j=>.bl (decide (i≤j))) (zac 1) (zac 0) (zac 2))))
theorem zlz {x l m:Int} (q:Q (.bl (decide (l≤x∧x≤m))) H):zgj { nx:=fun _ H'=>Q .non H',rt:=Q } (L2.zce ["thing","least","most"] [.int x,.int l,.int m]) H:=by
 unfold zgj
 simp_all only [zac]
 refine ⟨x,rfl,true,rfl,zn1 ?_⟩
 refine zcc (fun c=>?_) (fun c=>?_)
 ·rw [show decide (l≤x∧x≤m)=decide (x≤m) from by simp [c]] at q
  exact q
 ·rw [show decide (l≤x∧x≤m)=false from by simp [c]] at q
  exact q
theorem zlg:zbk ["thing","least","most"] ["thing","least","most"] (zaC zgk):=⟨rfl,rfl,rfl,by decide +kernel,rfl,by decide +kernel,by decide +kernel⟩
theorem zkN (T:Txt K mg a):zdV P w K mg base CX0 2 a.f_is_within a.d_is_within ["thing","least","most"] zez:=by
 have G_is_whole:=zf9 (P:=P) (w:=w) (base:=base) T
 refine T.F_is_within.ok zlg (fun vs H Q E h=>?_) (fun cdv A outer s H vs Q E hr h=>?_)
 ·obtain ⟨x,l,m,rfl,q⟩:=h
  rfl
 obtain ⟨x,l,m,rfl,q⟩:=h
 exact ⟨zgj,(zak (zaX (zcQ (zaG G_is_whole (hr.mono (by decide)) rfl T.m_is_whole T.F_is_whole.kp T.b_is_whole .nil zbJ (zaa (pv 0) zag)) (zdp (zqP zqL zqL (pv 1) (pv 0) (pv 2)))))),
  zlz q⟩
def zig (K:PySem.W.Frag):TS :=
 (zaF (zbj (zac 0) (ziz K 3 (zbW (zal 2) (zbW (zal 3) (zbW (zal 4) ziy)))))
 (zbY (zcW (zaY zez [] E0 (zab (zac 2) (zab (tC (.int 0)) (zab (tOp (rI0 fun i j=>.int (i - j)) (zac 1) (tC (.int 1))) zau)))) (zcW (zaY zez [] E0 (zab (zac 3) (zab (tC (.int 0)) (zab (tOp (rI0 fun i j=>.int (i - j)) (zac 1) (tC (.int 1))) zau)))) (zcW (tOp rNe (zac 2) (zac 3)) (zaY zez [] E0 (zab (zac 4) (zab (tC (.int 1)) (zab (tC (.int 1000000)) zau)))))))))
theorem zdm (K:PySem.W.Frag) (D:zb8) (σ:St) (H:Hp):zig K D σ H=(zaF (zbj (zac 0) (ziz K 3 (zbW (zal 2) (zbW (zal 3) (zbW (zal 4) ziy)))))
 (zbY (zcW (zaY zez [] E0 (zab (zac 2) (zab (tC (.int 0)) (zab (tOp (rI0 fun i j=>.int (i - j)) (zac 1) (tC (.int 1))) zau)))) (zcW (zaY zez [] E0 (zab (zac 3) (zab (tC (.int 0)) (zab (tOp (rI0 fun i j=>.int (i - j)) (zac 1) (tC (.int 1))) zau)))) (zcW (tOp rNe (zac 2) (zac 3)) (zaY zez [] E0 (zab (zac 4) (zab (tC (.int 1)) (zab (tC (.int 1000000)) zau))))))))) D σ H:=rfl
def zil (K:PySem.W.Frag):TS :=
 (zb7 (tOr (zgs (tB (tCB (zdT K) (zab (zac 0) (zab (tC (.ty "tuple")) zau))))) (zaK (tOp rNe (tCB (fun xs H Q=>∃ p ys,xs=[.ref p]∧(SqL K H p ys∨SqT K H p ys)∧Q (.int ys.length) H) (zab (zac 0) zau)) (tC (.int 3))))) (zbY (tC (.bl false))) zaZ)
theorem zdl (K:PySem.W.Frag) (D:zb8) (σ:St) (H:Hp):zil K D σ H=(zb7 (tOr (zgs (tB (tCB (zdT K) (zab (zac 0) (zab (tC (.ty "tuple")) zau))))) (zaK (tOp rNe (tCB (fun xs H Q=>∃ p ys,xs=[.ref p]∧(SqL K H p ys∨SqT K H p ys)∧Q (.int ys.length) H) (zab (zac 0) zau)) (tC (.int 3))))) (zbY (tC (.bl false))) zaZ) D σ H:=rfl
def zin (K:PySem.W.Frag):TS :=
 (zaF (zdk (zil K))
 (zig K))
theorem znj {t:Addr} {r:zcb} {m:Int} (ht:H t=some (.tup (rdv r))) (q:Q (.bl (decide (GR m r))) H):zin K { nx:=fun _ H'=>Q .non H',rt:=Q } (L2.zce ["thing","many","a","b","length"] [.ref t,.int m]) H:=by
 unfold zin
 simp_all only [zdm,zdl,zac]
 refine ⟨fun σ H'=>H'=H∧σ=[some (.ref t),some (.int m),none,none,none],?_,?_⟩
 ·simp_all only [zdm,zdl,zac]
  refine zeO ht ⟨true,rfl,?_⟩
  refine zcc (fun z=>absurd z (by decide)) (fun _=>?_)
  refine ⟨_,.inr (SqT.of ht),?_⟩
  exact zcc (fun z=>absurd rfl z) (fun _=>rfl)
 ·rintro σ H' ⟨e,rfl⟩
  rw [e]
  simp_all only [zdm,zdl,zac]
  refine ⟨_,SqT.of ht,rfl,_,_,rfl,_,_,rfl,_,_,rfl,rfl,?_⟩
  refine ⟨_,_,_,rfl,_,rfl,zcc (fun c1=>?_) (fun c1=>?_)⟩
  ·have c1:=of_decide_eq_true c1
   refine ⟨_,_,_,rfl,_,rfl,zcc (fun c2=>?_) (fun c2=>?_)⟩
   ·have c2:=of_decide_eq_true c2
    simp_all only [zdm,zdl,zac]
    refine zcc (fun c3=>?_) (fun c3=>?_)
    ·refine ⟨_,_,_,rfl,?_⟩
     rw [show decide (GR m r)=decide (1≤r.2.2∧r.2.2≤1000000) from decide_eq_decide.mpr ⟨fun z=>z.2.2.2.2.2,fun z=>⟨by omega,by omega,by omega,by omega,c3,z⟩⟩] at q
     exact q
    ·rw [decide_eq_false (p:=GR m r) fun z=>c3 z.2.2.2.2.1] at q
     exact q
   ·rw [decide_eq_false (p:=GR m r) fun z=>c2 (decide_eq_true ⟨z.2.2.1,by have:=z.2.2.2.1;omega⟩)] at q
    exact q
  ·rw [decide_eq_false (p:=GR m r) fun z=>c1 (decide_eq_true ⟨z.1,by have:=z.2.1;omega⟩)] at q
   exact q
theorem zfM:zbk ["thing","many","a","b","length"] ["thing","many"] (zaC zhN):=⟨rfl,rfl,rfl,by decide +kernel,rfl,by decide +kernel,by decide +kernel⟩
theorem znH (T:Txt K mg a):zdV P w K mg base CX0 3 a.f_is_road a.d_is_road ["thing","many"] zjZ:=by
 have G_is_within:=zkN (P:=P) (w:=w) (base:=base) T
 refine T.F_is_road.ok zfM (fun vs H Q E h=>?_) (fun cdv A outer s H vs Q E hr h=>?_)
 ·obtain ⟨t,r,m,rfl,ht,q⟩:=h
  rfl
 obtain ⟨t,r,m,rfl,ht,q⟩:=h
 exact ⟨zin K,(zaf (zbl (zbA (PW.pt (zeZ (zdC (zcu (zai zaw rfl T.z_isinstance PyProof.Rows.boot_isinstance (zaa (pv 0) (zaa (zbc rfl T.z_tuple zcx rfl) zag))))) (zeY (zaI zfP (zai zax rfl T.z_len PySem.boot_len (zaa (pv 0) zag)) zah (zaT _))))) (zak (zaX zfc)) zaE))
 (zaf (zmI (pv 0) (zev rfl (zbd (za0 (i:=2) zfM.nd rfl (Or.inl rfl)) (zbd (za0 (i:=3) zfM.nd rfl (Or.inl rfl)) (zbd (za0 (i:=4) zfM.nd rfl (Or.inl rfl)) zdh)))))
 (zak (zaX (zcQ (zaG G_is_within (hr.mono (by decide)) rfl T.m_is_within T.F_is_within.kp T.b_is_within .nil zbJ (zaa (pv 2) (zaa zah (zaa (zaz zgt (pv 1) zah) zag)))) (zcQ (zaG G_is_within (hr.mono (by decide)) rfl T.m_is_within T.F_is_within.kp T.b_is_within .nil zbJ (zaa (pv 3) (zaa zah (zaa (zaz zgt (pv 1) zah) zag)))) (zcQ (zcq zfP (pv 2) (pv 3) (zaT _)) (zdp (zaG G_is_within (hr.mono (by decide)) rfl T.m_is_within T.F_is_within.kp T.b_is_within .nil zbJ (zaa (pv 4) (zaa zah (zaa (zca rfl T.m_MOST_LENGTH ⟨_,rfl⟩) zag)))))))))))),
  znj ht q⟩
theorem zbr {α:Type} [DecidableEq α]:∀ (a b:List α),a.Nodup→(∀ x∈a,x∈b)→a.length≤b.length
 | [],b,_,_=>Nat.zero_le _
 | x::a,b,nd,h=>by
  obtain ⟨n1,n2⟩:=List.nodup_cons.mp nd
  have hx:=h x (by simp)
  have ih:=zbr a (b.erase x) n2 fun y hy=>(List.mem_erase_of_ne fun (e:y=x)=>n1 (e ▸ hy)).mpr (h y (by simp [hy]))
  rw [List.length_erase_of_mem hx] at ih
  have:=List.length_pos_of_mem hx
  rw [List.length_cons]
  omega
def Dm (kvs:List (Key×V)) (x:Int):Prop:=zdJ kvs (.inl x)≠none
def zb2 {κ:Type} (kvs:List (κ×V)):List κ:=kvs.map (·.1)
theorem zfB {κ:Type} [DecidableEq κ] (kvs:List (κ×V)) (k:κ):zdJ kvs k≠none↔k∈zb2 kvs:=by
 induction kvs with
 | nil=>simp [zdJ,zb2]
 | cons p r ih =>
  by_cases e:p.1=k
  ·rw [zcT e]
   simp [zb2,e]
  ·rw [zcp e,ih]
   unfold zb2
   rw [List.map_cons,List.mem_cons]
   exact ⟨.inr,fun h=>h.resolve_left fun z=>e z.symm⟩
theorem zeE {κ:Type} [DecidableEq κ] (kvs:List (κ×V)) (k:κ) (v:V):zb2 (zd8 kvs k v)=if zdJ kvs k=none then zb2 kvs++[k] else zb2 kvs:=by
 by_cases c:zdJ kvs k=none
 ·rw [if_pos c,zq4 v c]
  simp [zb2]
 ·rw [if_neg c]
  unfold zd8
  rw [zfL,if_pos (Option.isSome_iff_ne_none.mpr c)]
  unfold zb2
  rw [List.map_map]
  refine List.map_congr_left fun p _=>?_
  simp only [Function.comp]
  split <;> rfl
theorem zdG {κ:Type} (kvs:List (κ×V)):(zb2 kvs).length=kvs.length:=List.length_map ..
theorem zoc {κ:Type} [DecidableEq κ] (kvs:List (κ×V)) (k:κ) (v:V):(zd8 kvs k v).length=if zdJ kvs k=none then kvs.length+1 else kvs.length:=by
 rw [← zdG,zeE]
 split
 ·rw [List.length_append,zdG]
  rfl
 ·rw [zdG]
theorem zku (kvs:List (Key×V)) (y x:Int) (v:V):Dm (zd8 kvs (.inl y) v) x↔x=y∨Dm kvs x:=by
 unfold Dm
 rw [zd9]
 by_cases e:x=y
 ·subst e
  simp
 ·rw [if_neg fun z=>e (Sum.inl.inj z)]
  exact ⟨.inr,fun h=>h.resolve_left e⟩
def Clo (rs:List zcb) (S:Int→Prop):Prop:=∀ r∈rs,S r.1∨S r.2.1→S r.1∧S r.2.1
structure Cm (m:Int) (rs:List zcb) (kvs:List (Key×V)):Prop where
 nd:(zb2 kvs).Nodup
 inR:∀ k∈zb2 kvs,∃ x:Int,k=.inl x∧0≤x∧x<m
 zero:Dm kvs 0
 least:∀ S:Int→Prop,S 0→Clo rs S→∀ x,Dm kvs x→S x
theorem Cm.put {m:Int} {rs:List zcb} {kvs:List (Key×V)} (h:Cm m rs kvs) {y:Int} (v:V) (y0:0≤y) (y1:y<m) (hy:∀ S:Int→Prop,S 0→Clo rs S→S y):Cm m rs (zd8 kvs (.inl y) v):=by
 refine ⟨?_,?_,(zku ..).mpr (.inr h.zero),fun S s0 sc x hx=>?_⟩
 ·rw [zeE]
  split
  ·rename_i c
   refine List.nodup_append.mpr ⟨h.nd,by simp,fun a ha b hb e=>?_⟩
   have:b=.inl y:=by simpa using hb
   subst this
   subst e
   exact (zfB ..).mpr ha c
  ·exact h.nd
 ·rw [zeE]
  split
  ·intro k hk
   rcases List.mem_append.mp hk with z | z
   ·exact h.inR k z
   ·exact ⟨y,by simpa using z,y0,y1⟩
  ·exact h.inR
 ·rcases (zku ..).mp hx with rfl | z
  ·exact hy S s0 sc
  ·exact h.least S s0 sc x z
theorem Cm.le {m:Int} {rs:List zcb} {kvs:List (Key×V)} (h:Cm m rs kvs) (m0:0≤m):(kvs.length:Int)≤m:=by
 have:=zbr (zb2 kvs) ((List.range m.toNat).map fun k:Nat=>(Sum.inl (k:Int):Key)) h.nd fun k hk=>by
  obtain ⟨x,rfl,x0,x1⟩:=h.inR k hk
  exact List.mem_map.mpr ⟨x.toNat,List.mem_range.mpr (by omega),by rw [Int.toNat_of_nonneg x0]⟩
 rw [zdG,List.length_map,List.length_range] at this
 omega
theorem Cm.all {m:Int} {rs:List zcb} {kvs:List (Key×V)} (h:Cm m rs kvs) (m0:0≤m):m≤(kvs.length:Int)↔∀ x,0≤x→x<m→Dm kvs x:=by
 constructor
 ·intro hl x x0 x1
  refine Classical.byContradiction fun c=>?_
  have hx:(Sum.inl x:Key)∉zb2 kvs:=fun z=>c ((zfB ..).mpr z)
  have:=zbr (Sum.inl x::zb2 kvs) ((List.range m.toNat).map fun k:Nat=>(Sum.inl (k:Int):Key)) (List.nodup_cons.mpr ⟨hx,h.nd⟩) fun k hk=>by
   have:∃ y:Int,k=.inl y∧0≤y∧y<m:=by
    rcases List.mem_cons.mp hk with z | z
    ·exact ⟨x,z,x0,x1⟩
    ·exact h.inR k z
   obtain ⟨y,rfl,y0,y1⟩:=this
   exact List.mem_map.mpr ⟨y.toNat,List.mem_range.mpr (by omega),by rw [Int.toNat_of_nonneg y0]⟩
  rw [List.length_cons,zdG,List.length_map,List.length_range] at this
  omega
 ·intro hx
  have:=zbr ((List.range m.toNat).map fun k:Nat=>(Sum.inl (k:Int):Key)) (zb2 kvs) ?_ fun k hk=>?_
  ·rw [zdG,List.length_map,List.length_range] at this
   omega
  ·refine List.nodup_iff_pairwise_ne.mpr (List.pairwise_map.mpr ((List.nodup_iff_pairwise_ne.mp List.nodup_range).imp fun h e=>h ?_))
   have:=Sum.inl.inj e
   omega
  ·obtain ⟨x,hx1,rfl⟩:=List.mem_map.mp hk
   have:=List.mem_range.mp hx1
   exact (zfB ..).mp (hx x (by omega) (by omega))
theorem Cm.conn {m:Int} {rs:List zcb} {kvs:List (Key×V)} (h:Cm m rs kvs) (m0:0≤m) (c:Clo rs (Dm kvs)):m≤(kvs.length:Int)↔ztU m rs:=by
 rw [h.all m0]
 exact ⟨fun z S s0 sc x x0 x1=>h.least S s0 sc x (z x x0 x1),fun z x x0 x1=>z (Dm kvs) h.zero c x x0 x1⟩
def zdd:TS :=
 (zb7 (tOr (tB (zn4 (zac 3) (zac 1))) (tB (zn4 (zac 4) (zac 1)))) (zaF (zdR (zac 1) (zac 3) (tC (.bl true)))
 (zdR (zac 1) (zac 4) (tC (.bl true)))) zaZ)
theorem zcG (D:zb8) (σ:St) (H:Hp):zdd D σ H=(zb7 (tOr (tB (zn4 (zac 3) (zac 1))) (tB (zn4 (zac 4) (zac 1)))) (zaF (zdR (zac 1) (zac 3) (tC (.bl true)))
 (zdR (zac 1) (zac 4) (tC (.bl true)))) zaZ) D σ H:=rfl
def zd7 (K:PySem.W.Frag):TS :=
 (zaF (zbj (tCB zk8 (zab (zac 1) zau)) (zal 2))
 (zgX (zgO K (zac 0)) (ziz K 3 (zbW (zal 3) (zbW (zal 4) (zbW (zal 5) ziy))))
 (zdd)))
theorem zcP (K:PySem.W.Frag) (D:zb8) (σ:St) (H:Hp):zd7 K D σ H=(zaF (zbj (tCB zk8 (zab (zac 1) zau)) (zal 2))
 (zgX (zgO K (zac 0)) (ziz K 3 (zbW (zal 3) (zbW (zal 4) (zbW (zal 5) ziy))))
 (zdd))) D σ H:=rfl
def zdt (K:PySem.W.Frag):TS :=
 (zaF (zbj (zqx (((tC (.int 0)),(tC (.bl true)))::[])) (zal 1))
 (zaF (zbj (tC (.int 0)) (zal 2))
 (zaF (zgE (zaK (tOp (rI0 fun i j=>.bl (decide (i<j))) (zac 2) (tCB zk8 (zab (zac 1) zau)))) (zd7 K))
 (zbY (zac 1)))))
theorem zho {rl:Addr} {ts:List Addr} {rs:List zcb} {m:Int} (hl:H rl=some (.lst (ts.map V.ref))) (ht:Tps rdv H ts rs) (m1:1≤m) (m60:m≤60) (gr:∀ r∈rs,GR m r)
  (q:∀ (d:Addr) (kvs:List (Key×V)) (H':Hp),zbt H H'→H' d=some (.dK kvs)→(m≤(kvs.length:Int)↔ztU m rs)→Q (.ref d) H') :
  zdt K { nx:=fun _ H'=>Q .non H',rt:=Q } (L2.zce ["roads","come","before","a","b","length"] [.ref rl]) H:=by
 unfold zdt
 simp_all only [zcG,zcP,zac]
 refine fun d hd=>⟨zae,[(.inl 0,.bl true)],rfl,by decide,?_⟩
 refine zh2 (m:=100) (fun n σ H'=>∃ (kvs:List (Key×V)) (bf:Int) (x y z:Option V),σ=[some (.ref rl),some (.ref d),some (.int bf),x,y,z]∧zbt H H'∧H' d=some (.dK kvs)∧Cm m rs kvs∧0≤bf∧bf≤(kvs.length:Int)∧(bf=(kvs.length:Int)→Clo rs (Dm kvs))∧n=(100 - bf).toNat) ?_ ?_
 ·refine ⟨[(.inl 0,.bl true)],0,_,_,_,rfl,?_,zae,⟨by decide,?_,(fun z=>nomatch z),fun S s0 _ x hx=>?_⟩,by decide,by decide,(fun z=>absurd z (by decide)),by decide⟩
  ·rw [zl8]
   exact zaj hd _
  ·intro k hk
   have:k=.inl 0:=by simpa [zb2] using hk
   exact ⟨0,this,by decide,by omega⟩
  ·have:x=0:=by
    refine Classical.byContradiction fun c=>hx ?_
    exact zcp (p:=(Sum.inl 0,V.bl true)) fun z=>c (Sum.inl.inj z).symm
   subst this
   exact s0
 ·rintro n σ H1 ⟨kvs,bf,x,y,z,rfl,s1,h1,C,b0,b1,bc,rfl⟩
  simp_all only [zcG,zcP,zac]
  refine ⟨_,h1,?_⟩
  have hle:=C.le (by omega)
  refine zcc (fun c=>?_) (fun c=>?_)
  ·refine ⟨_,fun _ _ h=>h,_,h1,?_⟩
   refine ⟨⟨_,SqL.of (s1 _ _ hl)⟩,?_⟩
   refine ze5 (K:=K) (xs:=ts.map V.ref) (fun i σ H'=>∃ (kv:List (Key×V)) (x y z:Option V),σ=[some (.ref rl),some (.ref d),some (.int kvs.length),x,y,z]∧zbt H H'∧H' d=some (.dK kv)∧Cm m rs kv∧kvs.length≤kv.length∧(kv.length=kvs.length→Clo (rs.take i) (Dm kv))) ⟨kvs,_,_,_,rfl,s1,h1,C,Nat.le_refl _,fun _ r hr=>by simp at hr⟩ ?_ ?_ ?_
   ·rintro i σ H' _ ⟨kv,x,y,z,rfl,s,_⟩
    exact SqL.of (s _ _ hl)
   ·rintro i t σ H2 hx ⟨kv,x,y,z,rfl,s2,h2,C2,l2,c2⟩
    obtain ⟨t,et,rfl⟩:=zeW hx
    obtain ⟨r,er,hr0⟩:=ht.at et
    have hr2:=s2 _ _ hr0
    have gr':=gr r (zdf er)
    have mr:=zdf er
    have stepc:∀ {kv':List (Key×V)},(∀ x,Dm kv' x↔Dm kv x)→kv.length=kvs.length→(Dm kv r.1∨Dm kv r.2.1→Dm kv r.1∧Dm kv r.2.1)→Clo (rs.take (i+1)) (Dm kv'):=by
     intro kv' e el hr' r' hr1
     rw [List.take_add_one,er] at hr1
     rw [e,e]
     rcases List.mem_append.mp hr1 with w | w
     ·exact c2 el r' w
     ·have:r'=r:=by simpa using w
      subst this
      exact hr'
    simp_all only [zcG,zcP,zac]
    refine ⟨_,SqT.of hr2,rfl,_,_,rfl,_,_,rfl,_,_,rfl,rfl,?_⟩
    refine ⟨_,zfU.k (k:=.inl r.1) h2,?_⟩
    have yes:Dm kv r.1∨Dm kv r.2.1→∀ (H3:Hp),H3=H2→∃ (H4:Hp),zjA H3 d (.int r.1) (.bl true) H4∧∃ (H5:Hp),zjA H4 d (.int r.2.1) (.bl true) H5∧zbt H H5∧∃ (kv:List (Key×V)),H5 d=some (.dK kv)∧Cm m rs kv∧kvs.length≤kv.length∧(kv.length=kvs.length→Clo (rs.take (i+1)) (Dm kv)):=by
     rintro hor H3 rfl
     have hS:∀ S:Int→Prop,S 0→Clo rs S→S r.1∧S r.2.1:=fun S s0 sc=>sc r mr (hor.imp (C2.least S s0 sc _) (C2.least S s0 sc _))
     have C3:=C2.put (.bl true) gr'.1 gr'.2.1 fun S s0 sc=>(hS S s0 sc).1
     have C4:=C3.put (.bl true) gr'.2.2.1 gr'.2.2.2.1 fun S s0 sc=>(hS S s0 sc).2
     have le2:=C2.le (by omega)
     have le3:=C3.le (by omega)
     have big:(100:Nat)<sizeLine:=by decide
     have e3:=zoc kv (.inl r.1) (.bl true)
     have e4:=zoc (zd8 kv (.inl r.1) (.bl true)) (.inl r.2.1) (.bl true)
     refine ⟨_,zjA.k (k:=.inl r.1) h2 (by omega),_,zjA.k (k:=.inl r.2.1) zae (by omega),?_,_,zae,C4,?_,fun el=>?_⟩
     ·exact (s2.put hd).put hd
     ·rw [e4,e3]
      split <;> split <;> omega
     ·have k3:zdJ kv (.inl r.1)≠none:=fun z=>by
       rw [if_pos z] at e3
       rw [el] at e4
       split at e4 <;> omega
      rw [if_neg k3] at e3
      have k4:zdJ (zd8 kv (.inl r.1) (.bl true)) (.inl r.2.1)≠none:=fun z=>by
       rw [if_pos z,el] at e4
       omega
      have d4:Dm kv r.2.1:=by
       have:=(zku kv r.1 r.2.1 (.bl true)).mp k4
       rcases this with z | z
       ·exact absurd z.symm gr'.2.2.2.2.1
       ·exact z
      refine stepc (fun x=>?_) ?_ fun _=>⟨k3,d4⟩
      ·rw [zku,zku]
       exact ⟨fun z=>z.elim (fun e=>by rw [e];exact d4) (fun z=>z.elim (fun e=>by rw [e];exact k3) id),fun z=>.inr (.inr z)⟩
      ·rw [if_neg k4,el] at e4
       omega
    refine zcc (fun c3=>?_) (fun c3=>?_)
    ·exact yes (.inl (Option.isSome_iff_ne_none.mp c3)) H2 rfl
    refine ⟨_,zfU.k (k:=.inl r.2.1) h2,?_⟩
    refine zcc (fun c4=>?_) (fun c4=>?_)
    ·exact yes (.inr (Option.isSome_iff_ne_none.mp c4)) H2 rfl
    refine ⟨s2,kv,h2,C2,l2,fun el=>stepc (fun _=>Iff.rfl) el fun z=>?_⟩
    exact (z.elim (fun z=>c3 (Option.isSome_iff_ne_none.mpr z)) (fun z=>c4 (Option.isSome_iff_ne_none.mpr z))).elim
   ·rintro σ H2 ⟨kv,x,y,z,rfl,s2,h2,C2,l2,c2⟩
    have e:(rs.take (ts.map V.ref).length)=rs:=List.take_of_length_le (by rw [List.length_map,ht.1];exact Nat.le_refl _)
    rw [e] at c2
    refine ⟨_,?_,kv,_,_,_,_,rfl,s2,h2,C2,by omega,by omega,fun z=>c2 (by omega),rfl⟩
    omega
  ·refine q d kvs H1 s1 h1 (C.conn (by omega) (bc (by omega)))
theorem zbx:zbk ["roads","come","before","a","b","length"] ["roads"] (zaC zdq):=⟨rfl,rfl,rfl,by decide +kernel,rfl,by decide +kernel,by decide +kernel⟩
theorem zhb (T:Txt K mg a):zdV P w K mg base CX0 1 a.f_places_come_to a.d_places_come_to ["roads"] zpR:=by
 refine T.F_places_come_to.ok zbx (fun vs H Q E h=>?_) (fun cdv A outer s H vs Q E hr h=>?_)
 ·obtain ⟨rl,ts,rs,m,rfl,hl,ht,m1,m60,gr,q⟩:=h
  rfl
 obtain ⟨rl,ts,rs,m,rfl,hl,ht,m1,m60,gr,q⟩:=h
 exact ⟨zdt K,(zaf (zaB (i:=1) zbx.nd rfl (Or.inl rfl) (zoA (znc zah zfc zob) rfl rfl (fun z=>nomatch z) (by decide)))
 (zaf (zaB (i:=2) zbx.nd rfl (Or.inl rfl) zah)
 (zaf (zgD PassesOwn.never (zaI zl4 (pv 2) (zai zgu rfl T.z_len PySem.boot_len (zaa (pv 1) zag)) (zaT _)) (zaf (zaB (i:=2) zbx.nd rfl (Or.inl rfl) (zai zgu rfl T.z_len PySem.boot_len (zaa (pv 1) zag)))
 (zak (zdg PassesOwn.never rfl (zgo (pv 0)) (zev rfl (zbd (za0 (i:=3) zbx.nd rfl (Or.inl rfl)) (zbd (za0 (i:=4) zbx.nd rfl (Or.inl rfl)) (zbd (za0 (i:=5) zbx.nd rfl (Or.inl rfl)) zdh))))
 (zak (zbA (PW.pt (zeZ (zi8 (zk3 (zcX hr) (pv 3) (pv 1))) (zeY (zi8 (zk3 (zcX hr) (pv 4) (pv 1)))))) (zaf (zdM (zcX hr) (pv 1) (pv 3) zfc rfl)
 (zak (zdM (zcX hr) (pv 1) (pv 4) zfc rfl))) zaE))))))
 (zak (zaX (pv 1)))))),
  zho hl ht m1 m60 gr q⟩
theorem zdS {K:PySem.W.Frag} {H:Hp} {Q:VK} {r:Addr} {xs:List V} (h:H r=some (.lst xs)) (q:Q (.bl true) H):zdT K [.ref r,.ty "list"] H Q:=⟨_,_,_,_,true,rfl,rfl,.of (.lst h),rfl,q⟩
def zfH (K:PySem.W.Frag):TS :=
 (zb7 (tOr (zgs (zaK (zja (rI0 fun i j=>.bl (decide (i≤j))) (rI0 fun i j=>.bl (decide (i≤j))) (tC (.int 1)) (zac 1) (tC (.int 60))))) (tOr (zaK (tOp (rI0 fun i j=>.bl (decide (j<i))) (tCB (fun xs H Q=>∃ p ys,xs=[.ref p]∧(SqL K H p ys∨SqT K H p ys)∧Q (.int ys.length) H) (zab (zac 2) zau)) (tC (.int 120)))) (zaK (tOp (rI0 fun i j=>.bl (decide (i<j))) (tCB zk8 (zab (zaY zpR [] E0 (zab (zac 2) zau)) zau)) (zac 1))))) zix zaZ)
theorem zcK (K:PySem.W.Frag) (D:zb8) (σ:St) (H:Hp):zfH K D σ H=(zb7 (tOr (zgs (zaK (zja (rI0 fun i j=>.bl (decide (i≤j))) (rI0 fun i j=>.bl (decide (i≤j))) (tC (.int 1)) (zac 1) (tC (.int 60))))) (tOr (zaK (tOp (rI0 fun i j=>.bl (decide (j<i))) (tCB (fun xs H Q=>∃ p ys,xs=[.ref p]∧(SqL K H p ys∨SqT K H p ys)∧Q (.int ys.length) H) (zab (zac 2) zau)) (tC (.int 120)))) (zaK (tOp (rI0 fun i j=>.bl (decide (i<j))) (tCB zk8 (zab (zaY zpR [] E0 (zab (zac 2) zau)) zau)) (zac 1))))) zix zaZ) D σ H:=rfl
def zhv (K:PySem.W.Frag):TS :=
 (zaF (zbj (zac 0) (ziz K 2 (zbW (zal 1) (zbW (zal 2) ziy))))
 (zaF (zgX (znx K (zab (zac 2) zau)) (ziz K 2 (zbW (zal 3) (zbW (zal 4) ziy)))
 (zb7 (zgs (tB (zaY zjZ [] E0 (zab (zac 4) (zab (zac 1) zau))))) zix zaZ))
 (zfH K)))
theorem zcI (K:PySem.W.Frag) (D:zb8) (σ:St) (H:Hp):zhv K D σ H=(zaF (zbj (zac 0) (ziz K 2 (zbW (zal 1) (zbW (zal 2) ziy))))
 (zaF (zgX (znx K (zab (zac 2) zau)) (ziz K 2 (zbW (zal 3) (zbW (zal 4) ziy)))
 (zb7 (zgs (tB (zaY zjZ [] E0 (zab (zac 4) (zab (zac 1) zau))))) zix zaZ))
 (zfH K))) D σ H:=rfl
def zhs (K:PySem.W.Frag):TS :=
 (zb7 (tOr (zgs (tB (tCB (zdT K) (zab (zac 0) (zab (tC (.ty "tuple")) zau))))) (tOr (zaK (tOp rNe (tCB (fun xs H Q=>∃ p ys,xs=[.ref p]∧(SqL K H p ys∨SqT K H p ys)∧Q (.int ys.length) H) (zab (zac 0) zau)) (tC (.int 2)))) (tOr (zgs (tB (zaY zdO [] E0 (zab (tOp (zdz K) (zac 0) (tC (.int 0))) zau)))) (zgs (tB (tCB (zdT K) (zab (tOp (zdz K) (zac 0) (tC (.int 1))) (zab (tC (.ty "list")) zau)))))))) zix zaZ)
theorem zcF (K:PySem.W.Frag) (D:zb8) (σ:St) (H:Hp):zhs K D σ H=(zb7 (tOr (zgs (tB (tCB (zdT K) (zab (zac 0) (zab (tC (.ty "tuple")) zau))))) (tOr (zaK (tOp rNe (tCB (fun xs H Q=>∃ p ys,xs=[.ref p]∧(SqL K H p ys∨SqT K H p ys)∧Q (.int ys.length) H) (zab (zac 0) zau)) (tC (.int 2)))) (tOr (zgs (tB (zaY zdO [] E0 (zab (tOp (zdz K) (zac 0) (tC (.int 0))) zau)))) (zgs (tB (tCB (zdT K) (zab (tOp (zdz K) (zac 0) (tC (.int 1))) (zab (tC (.ty "list")) zau)))))))) zix zaZ) D σ H:=rfl
def zg4 (K:PySem.W.Frag):TS :=
 (zaF (zdk (zhs K))
 (zhv K))
theorem zmm {w rl:Addr} {ts:List Addr} {m:Int} {rs:List zcb} (W:zmf H w rl ts m rs) (G:GW m rs) (q:∀ H',zbt H H'→Q .non H') :
  zg4 K { nx:=fun _ H'=>Q .non H',rt:=Q } (L2.zce ["web","many","roads","k","road"] [.ref w]) H:=by
 unfold zg4
 have m1:=G.m1
 have m60:=G.m60
 have l120:=G.l120
 simp_all only [zcK,zcI,zcF,zac]
 refine ⟨fun σ H'=>H'=H∧σ=[some (.ref w),none,none,none,none],?_,?_⟩
 ·simp_all only [zcK,zcI,zcF,zac]
  refine zeO W.hw ⟨true,rfl,?_⟩
  refine zcc (fun z=>absurd z (by decide)) (fun _=>?_)
  refine ⟨_,.inr (SqT.of W.hw),?_⟩
  refine zcc (fun z=>absurd rfl z) (fun _=>?_)
  refine ⟨_,SqT.of W.hw,_,rfl,m,rfl,true,rfl,?_⟩
  refine zcc (fun z=>absurd z (by decide)) (fun _=>?_)
  refine ⟨_,SqT.of W.hw,_,rfl,zdS W.hl ⟨true,rfl,?_⟩⟩
  exact zcc (fun z=>absurd z (by decide)) (fun _=>rfl)
 ·rintro σ H' ⟨e,rfl⟩
  rw [e]
  simp_all only [zcK,zcI,zcF,zac]
  refine ⟨_,SqT.of W.hw,rfl,_,_,rfl,_,_,rfl,rfl,?_⟩
  refine ⟨_,rfl,⟨_,SqL.of W.hl⟩,?_⟩
  refine zhP (K:=K) (xs:=ts.map V.ref) (fun i σ H'=>zbt H H'∧∃ x y,σ=[some (.ref w),some (.int m),some (.ref rl),x,y]) ⟨.refl _,_,_,rfl⟩ ?_ ?_ ?_
  ·rintro i σ H' _ ⟨s,_⟩
   exact SqL.of (s _ _ W.hl)
  ·rintro i t u σ H1 hx ⟨s,x,y,rfl⟩ hu
   obtain ⟨t,et,rfl⟩:=zeW hx
   obtain ⟨r,er,hr0⟩:=W.ht.at et
   simp_all only [zcK,zcI,zcF,zac]
   refine ⟨_,SqT.of zae,rfl,_,_,rfl,_,_,rfl,rfl,?_⟩
   have s2:=s.add hu (o:=.tup [.int (i:Int),.ref t])
   refine ⟨t,r,m,rfl,s2 _ _ hr0,?_⟩
   rw [decide_eq_true (G.gr r (zdf er))]
   exact ⟨true,rfl,zcc (fun z=>absurd z (by decide)) (fun _=>s2)⟩
  ·rintro σ H1 ⟨s,x,y,rfl⟩
   simp_all only [zcK,zcI,zcF,zac]
   refine zcc (fun z=>?_) (fun z=>absurd (show (1:Int)≤m from m1) z)
   refine zcc (fun z=>absurd (show m≤60 from m60) z) (fun z=>?_)
   refine ⟨_,.inl (SqL.of (s _ _ W.hl)),?_⟩
   rw [List.length_map,W.ht.1]
   refine zcc (fun z=>absurd z (by omega)) (fun z=>?_)
   refine ⟨rl,ts,rs,m,rfl,s _ _ W.hl,W.ht.same s,m1,m60,G.gr,fun d kvs H2 s2 h2 hc=>?_⟩
   refine ⟨_,rfl,kvs,h2,?_⟩
   have:=hc.mpr G.conn
   exact zcc (fun z=>absurd z (by omega)) (fun z=>q _ (s.trans s2))
theorem zdW:zbk ["web","many","roads","k","road"] ["web"] (zaC zg5):=⟨rfl,rfl,rfl,by decide +kernel,rfl,by decide +kernel,by decide +kernel⟩
theorem zmu (T:Txt K mg a):zdV P w K mg base CX0 4 a.f_look_web a.d_look_web ["web"] zlo:=by
 have G_is_road:=znH (P:=P) (w:=w) (base:=base) T
 have G_is_whole:=zf9 (P:=P) (w:=w) (base:=base) T
 have G_places_come_to:=zhb (P:=P) (w:=w) (base:=base) T
 refine T.F_look_web.ok zdW (fun vs H Q E h=>?_) (fun cdv A outer s H vs Q E hr h=>?_)
 ·obtain ⟨w',rl,ts,m,rs,rfl,W,G,q⟩:=h
  rfl
 obtain ⟨w',rl,ts,m,rs,rfl,W,G,q⟩:=h
 exact ⟨zg4 K,(zaf (zbl (zbA (PW.pt (zeZ (zdC (zcu (zai zaw rfl T.z_isinstance PyProof.Rows.boot_isinstance (zaa (pv 0) (zaa (zbc rfl T.z_tuple zcx rfl) zag))))) (zeZ (zaI zfP (zai zax rfl T.z_len PySem.boot_len (zaa (pv 0) zag)) zah (zaT _)) (zeZ (zdC (zcu (zaG G_is_whole (hr.mono (by decide)) rfl T.m_is_whole T.F_is_whole.kp T.b_is_whole .nil zbJ (zaa (zbh zcw (pv 0) zah (fun _ _=>rfl)) zag)))) (zeY (zdC (zcu (zai zaw rfl T.z_isinstance PyProof.Rows.boot_isinstance (zaa (zbh zcw (pv 0) zah (fun _ _=>rfl)) (zaa (zbc rfl T.z_list zcZ rfl) zag)))))))))) (zak zjG) zaE))
 (zaf (zmI (pv 0) (zev rfl (zbd (za0 (i:=1) zdW.nd rfl (Or.inl rfl)) (zbd (za0 (i:=2) zdW.nd rfl (Or.inl rfl)) zdh))))
 (zaf (zdg PassesOwn.never rfl (zmc rfl T.z_enumerate (zaa (pv 2) zag)) (zev rfl (zbd (za0 (i:=3) zdW.nd rfl (Or.inl rfl)) (zbd (za0 (i:=4) zdW.nd rfl (Or.inl rfl)) zdh)))
 (zak (zbA (zdC (zcu (zaG G_is_road (hr.mono (by decide)) rfl T.m_is_road T.F_is_road.kp T.b_is_road .nil zbJ (zaa (pv 4) (zaa (pv 1) zag))))) (zak zjG) zaE)))
 (zak (zbA (PW.pt (zeZ (zdC (zqV zqL zqL zah (pv 1) (zca rfl T.m_MOST_PLACES ⟨_,rfl⟩))) (zeZ (zaI znD (zai zax rfl T.z_len PySem.boot_len (zaa (pv 2) zag)) (zca rfl T.m_MOST_ROADS ⟨_,rfl⟩) (zaT _)) (zeY (zaI zl4 (zai zgu rfl T.z_len PySem.boot_len (zaa (zaG G_places_come_to (hr.mono (by decide)) rfl T.m_places_come_to T.F_places_come_to.kp T.b_places_come_to .nil zbJ (zaa (pv 2) zag)) zag)) (pv 1) (zaT _)))))) (zak zjG) zaE))))),
  zmm W G q⟩
theorem zj3 {o:Option Int} {l:Int}:(o.map V.int).getD (.int l)=.int (o.getD l):=by cases o <;> rfl
theorem zlG.put {kvs:List (List Key×V)} {rs rs':List zcb} {r:zcb} (h:zlG kvs rs) (e:sh rs'=shs (sh rs) r) (el:rs'.length=rs.length+1):zlG (zd8 (zd8 kvs [.inl r.1,.inl r.2.1] (.int (min ((sh rs r.1 r.2.1).getD r.2.2) r.2.2))) [.inl r.2.1,.inl r.1] (.int (min ((sh rs r.1 r.2.1).getD r.2.2) r.2.2))) rs':=by
 have z:∀ x y a b:Int,(([.inl x,.inl y]:List Key)=[.inl a,.inl b])↔x=a∧y=b:=fun x y a b=>by
  constructor
  ·intro h
   simp only [List.cons.injEq,Sum.inl.injEq,and_true] at h
   exact h
  ·rintro ⟨rfl,rfl⟩
   rfl
 refine ⟨fun x y=>?_,?_⟩
 ·rw [zd9,zd9,h.val,e]
  unfold shs
  simp only [z]
  split
  ·rfl
  ·split
   ·rfl
   ·rfl
 ·have h1:=zcs kvs [.inl r.1,.inl r.2.1] (.int (min ((sh rs r.1 r.2.1).getD r.2.2) r.2.2))
  have h2:=zcs (zd8 kvs [.inl r.1,.inl r.2.1] (.int (min ((sh rs r.1 r.2.1).getD r.2.2) r.2.2))) [.inl r.2.1,.inl r.1] (.int (min ((sh rs r.1 r.2.1).getD r.2.2) r.2.2))
  have:=h.len
  omega
def zdY:TS :=
 (zaF (zbj (tCB (fun xs H Q=>∃ i j,xs=[.int i,.int j]∧Q (.int (if j<i then j else i)) H) (zab (zac 4) (zab (zhx (zac 1) (zgq (zab (zac 2) (zab (zac 3) zau))) (zac 4)) zau))) (zal 5))
 (zaF (zdR (zac 1) (zgq (zab (zac 2) (zab (zac 3) zau))) (zac 5))
 (zdR (zac 1) (zgq (zab (zac 3) (zab (zac 2) zau))) (zac 5))))
theorem zcL (D:zb8) (σ:St) (H:Hp):zdY D σ H=(zaF (zbj (tCB (fun xs H Q=>∃ i j,xs=[.int i,.int j]∧Q (.int (if j<i then j else i)) H) (zab (zac 4) (zab (zhx (zac 1) (zgq (zab (zac 2) (zab (zac 3) zau))) (zac 4)) zau))) (zal 5))
 (zaF (zdR (zac 1) (zgq (zab (zac 2) (zab (zac 3) zau))) (zac 5))
 (zdR (zac 1) (zgq (zab (zac 3) (zab (zac 2) zau))) (zac 5)))) D σ H:=rfl
def zdu (K:PySem.W.Frag):TS :=
 (zaF (zbj zpc (zal 1))
 (zaF (zgX (zgO K (tOp (zdz K) (zac 0) (tC (.int 1)))) (ziz K 3 (zbW (zal 2) (zbW (zal 3) (zbW (zal 4) ziy))))
 (zdY))
 (zbY (zac 1))))
theorem zhn {w rl:Addr} {ts:List Addr} {m:Int} {rs:List zcb} (W:zmf H w rl ts m rs) (l120:rs.length≤120)
  (q:∀ (d:Addr) (kvs:List (List Key×V)) (H':Hp),zbt H H'→H' d=some (.dT kvs)→zlG kvs rs→H d=none→Q (.ref d) H') :
  zdu K { nx:=fun _ H'=>Q .non H',rt:=Q } (L2.zce ["web","lengths","a","b","length","least"] [.ref w]) H:=by
 unfold zdu
 simp_all only [zcL,zac]
 intro d hd
 have s0:=zaj hd (.dT [])
 refine ⟨_,SqT.of (s0 _ _ W.hw),_,rfl,_,rfl,⟨_,SqL.of (s0 _ _ W.hl)⟩,?_⟩
 refine ze5 (K:=K) (xs:=ts.map V.ref) (fun i σ H'=>zbt H H'∧∃ (kvs:List (List Key×V)),H' d=some (.dT kvs)∧zlG kvs (rs.take i)∧∃ x1 x2 x3 x4,σ=[some (.ref w),some (.ref d),x1,x2,x3,x4]) ⟨s0,[],zae,⟨fun _ _=>rfl,Nat.zero_le _⟩,_,_,_,_,rfl⟩ ?_ ?_ ?_
 ·rintro i σ H' _ ⟨s,_⟩
  exact SqL.of (s _ _ W.hl)
 ·rintro i t σ H1 hx ⟨s1,kvs,h1,hL,x1,x2,x3,x4,rfl⟩
  obtain ⟨t,et,rfl⟩:=zeW hx
  obtain ⟨r,er,hr0⟩:=W.ht.at et
  have li:=(List.getElem?_eq_some_iff.mp er).1
  have hlen:=hL.len
  rw [List.length_take] at hlen
  have big:(1000:Nat)<sizeLine:=by decide
  simp_all only [zcL,zac]
  refine ⟨_,SqT.of (s1 _ _ hr0),rfl,_,_,rfl,_,_,rfl,_,_,rfl,rfl,?_⟩
  refine ⟨.inr ⟨kvs,.inl h1⟩,by decide,fun u hu=>?_⟩
  have s2:=zaj hu (.tup [.int r.1,.int r.2.1])
  have hu2:(L2.upd H1 u (.tup [.int r.1,.int r.2.1])) u=some (.tup (([.inl r.1,.inl r.2.1]:List Key).map kV)):=zae
  generalize L2.upd H1 u (.tup [.int r.1,.int r.2.1])=H2 at s2 hu2 ⊢
  refine ⟨_,zfU.t (s2 _ _ h1) hu2,_,rfl,(sh (rs.take i) r.1 r.2.1).getD r.2.2,by rw [hL.val,zj3],by decide,fun u2 hu2=>?_⟩
  have ev:(if (sh (rs.take i) r.1 r.2.1).getD r.2.2<r.2.2 then (sh (rs.take i) r.1 r.2.1).getD r.2.2 else r.2.2)=min ((sh (rs.take i) r.1 r.2.1).getD r.2.2) r.2.2:=by
   split <;> omega
  rw [ev]
  have LL:=hL.put (zpP er) (by rw [List.length_take,List.length_take];omega)
  generalize min ((sh (rs.take i) r.1 r.2.1).getD r.2.2) r.2.2=v at LL ⊢
  have s3:=s2.add hu2 (o:=.tup [.int r.1,.int r.2.1])
  have hu3:(L2.upd H2 u2 (.tup [.int r.1,.int r.2.1])) u2=some (.tup (([.inl r.1,.inl r.2.1]:List Key).map kV)):=zae
  generalize L2.upd H2 u2 (.tup [.int r.1,.int r.2.1])=H3 at s3 hu3 ⊢
  refine ⟨_,zjA.t (s3 _ _ h1) hu3 (by omega),by decide,fun u4 hu4=>?_⟩
  refine ⟨_,zjA.t (k:=[.inl r.2.1,.inl r.1]) (by rw [zaL (zaA zae hu4)];exact zae) zae (by have:=zcs kvs [.inl r.1,.inl r.2.1] (.int v);omega),?_,_,zae,LL⟩
  exact (((s1.trans s3).put hd).add hu4).put hd
 ·rintro σ H1 ⟨s1,kvs,h1,hL,x1,x2,x3,x4,rfl⟩
  simp_all only [zcL,zac]
  rw [List.take_of_length_le (by rw [List.length_map,W.ht.1];exact Nat.le_refl _)] at hL
  exact q d kvs H1 s1 h1 hL hd
theorem zbX:zbk ["web","lengths","a","b","length","least"] ["web"] (zaC zdw):=⟨rfl,rfl,rfl,by decide +kernel,rfl,by decide +kernel,by decide +kernel⟩
theorem zhc (T:Txt K mg a):zdV P w K mg base CX0 1 a.f_shortest_roads a.d_shortest_roads ["web"] zpX:=by
 refine T.F_shortest_roads.ok zbX (fun vs H Q E h=>?_) (fun cdv A outer s H vs Q E hr h=>?_)
 ·obtain ⟨w',rl,ts,m,rs,rfl,W,l120,q⟩:=h
  rfl
 obtain ⟨w',rl,ts,m,rs,rfl,W,l120,q⟩:=h
 exact ⟨zdu K,(zaf (zaB (i:=1) zbX.nd rfl (Or.inl rfl) zqJ)
 (zaf (zdg PassesOwn.never rfl (zgo (zbh zcw (pv 0) zah (fun _ _=>rfl))) (zev rfl (zbd (za0 (i:=2) zbX.nd rfl (Or.inl rfl)) (zbd (za0 (i:=3) zbX.nd rfl (Or.inl rfl)) (zbd (za0 (i:=4) zbX.nd rfl (Or.inl rfl)) zdh))))
 (zaf (zaB (i:=5) zbX.nd rfl (Or.inl rfl) (zai (zfa rfl) rfl T.z_min PyProof.Rows.boot_min (zaa (pv 4) (zaa (zjt (zcX hr) (pv 1) (zdB (zaa (pv 2) (zaa (pv 3) zag))) (pv 4) ⟨rfl,rfl,rfl,rfl⟩) zag))))
 (zaf (zdM (zcX hr) (pv 1) (zdB (zaa (pv 2) (zaa (pv 3) zag))) (pv 5) rfl)
 (zak (zdM (zcX hr) (pv 1) (zdB (zaa (pv 3) (zaa (pv 2) zag))) (pv 5) rfl)))))
 (zak (zaX (pv 1))))),
  zhn W l120 q⟩
abbrev prv (r:Int×Int):List V:=[.int r.1,.int r.2]
abbrev Ct:=Int→Option Int
def ct0:Ct:=fun x=>if x=0 then some 0 else none
def stC (f:Int→Int→Option Int) (s:Int×Ct) (a b:Int):Int×Ct :=
 (s.1+(f a b).getD 0,fun x=>if x=b∧s.2 b=none then some (s.1+(f a b).getD 0) else s.2 x)
def spC (f:Int→Int→Option Int) (ps:List (Int×Int)):Int×Ct:=ps.foldl (fun s p=>stC f s p.1 p.2) (0,ct0)
theorem zka {f:Int→Int→Option Int} {ps:List (Int×Int)} {i:Nat} {p:Int×Int} (e:ps[i]?=some p):spC f (ps.take (i+1))=stC f (spC f (ps.take i)) p.1 p.2:=by
 unfold spC
 rw [List.take_add_one,e,List.foldl_append]
 rfl
structure Spr (f:Int→Int→Option Int) (m:Int) (ps:List (Int×Int)):Prop where
 ok:∀ (i:Nat) p,ps[i]?=some p→(spC f (ps.take i)).2 p.1≠none∧(spC f (ps.take i)).2 p.2=none∧f p.1 p.2≠none
 all:∀ x,0≤x→x<m→(spC f ps).2 x≠none
 len:ps.length≤60
structure Wlk (f:Int→Int→Option Int) (m:Int) (ws:List Int):Prop where
 first:ws[0]?=some 0
 ok:∀ (i:Nat) a b,ws[i]?=some a→ws[i+1]?=some b→f a b≠none
 all:∀ x,0≤x→x<m→x∈ws
 len:ws.length≤100000
def wkC (f:Int→Int→Option Int) (ws:List Int) (n:Nat):Int×Ct:=(List.range n).foldl (fun s i=>stC f s (ws.getD i 0) (ws.getD (i+1) 0)) (0,ct0)
theorem zhK (f:Int→Int→Option Int) (ws:List Int) (n:Nat):wkC f ws (n+1)=stC f (wkC f ws n) (ws.getD n 0) (ws.getD (n+1) 0):=by
 unfold wkC
 rw [List.range_succ,List.foldl_append]
 rfl
theorem zjD {f:Int→Int→Option Int} {s:Int×Ct} {a b x:Int}:(stC f s a b).2 x≠none↔x=b∨s.2 x≠none:=by
 unfold stC
 simp only
 by_cases c:x=b∧s.2 b=none
 ·rw [if_pos c]
  exact ⟨fun _=>.inl c.1,fun _ z=>nomatch z⟩
 ·rw [if_neg c]
  constructor
  ·exact .inr
  ·rintro (rfl | h)
   ·exact fun z=>c ⟨rfl,z⟩
   ·exact h
theorem zmA {f:Int→Int→Option Int} {ws:List Int} (h0:ws[0]?=some 0):∀ (n:Nat),n<ws.length→∀ x,(wkC f ws n).2 x≠none↔∃ j,j≤n∧ws[j]?=some x
 | 0,hn,x=>by
  show ct0 x≠none↔_
  unfold ct0
  constructor
  ·intro h
   by_cases c:x=0
   ·subst c
    exact ⟨0,Nat.le_refl _,h0⟩
   ·rw [if_neg c] at h
    exact absurd rfl h
  ·rintro ⟨j,hj,e⟩
   have:j=0:=by omega
   subst this
   rw [h0] at e
   cases e
   simp
 | n+1,hn,x=>by
  rw [zhK,zjD,zmA h0 n (by omega) x]
  have e1:ws[n+1]?=some (ws.getD (n+1) 0):=by
   rw [List.getD_eq_getElem?_getD,List.getElem?_eq_getElem hn]
   rfl
  constructor
  ·rintro (rfl | ⟨j,hj,e⟩)
   ·exact ⟨n+1,Nat.le_refl _,e1⟩
   ·exact ⟨j,by omega,e⟩
  ·rintro ⟨j,hj,e⟩
   by_cases c:j=n+1
   ·subst c
    rw [e1] at e
    cases e
    exact .inl rfl
   ·exact .inr ⟨j,by omega,e⟩
structure Cd (m:Int) (kvs:List (Key×V)) (c:Ct):Prop where
 val:∀ x:Int,zdJ kvs (.inl x)=(c x).map V.int
 nd:(zb2 kvs).Nodup
 inR:∀ k∈zb2 kvs,∃ x:Int,k=.inl x∧0≤x∧x<m
theorem Cd.zero {m:Int} (m1:1≤m):Cd m [(.inl 0,.int 0)] ct0:=by
 refine ⟨fun x=>?_,by decide,fun k hk=>?_⟩
 ·unfold ct0
  by_cases c:x=0
  ·subst c
   rfl
  ·rw [if_neg c]
   exact zcp (p:=(Sum.inl 0,V.int 0)) fun z=>c (Sum.inl.inj z).symm
 ·have:k=.inl 0:=by simpa [zb2] using hk
  exact ⟨0,this,by decide,by omega⟩
theorem Cd.put {m:Int} {kvs:List (Key×V)} {f:Int→Int→Option Int} {s:Int×Ct} {a b:Int} (h:Cd m kvs s.2) (b0:0≤b) (b1:b<m) (hn:s.2 b=none):Cd m (zd8 kvs (.inl b) (.int (stC f s a b).1)) (stC f s a b).2:=by
 have hv:zdJ kvs (.inl b)=none:=by rw [h.val,hn];rfl
 refine ⟨fun x=>?_,?_,?_⟩
 ·rw [zd9,h.val]
  unfold stC
  simp only
  by_cases c:x=b
  ·subst c
   rw [if_pos rfl,if_pos ⟨rfl,hn⟩]
   rfl
  ·rw [if_neg fun z=>c (Sum.inl.inj z),if_neg fun z=>c z.1]
 ·rw [zeE,if_pos hv]
  refine List.nodup_append.mpr ⟨h.nd,by simp,fun a ha b' hb e=>?_⟩
  have:b'=.inl b:=by simpa using hb
  subst this
  subst e
  exact (zfB ..).mpr ha hv
 ·rw [zeE,if_pos hv]
  intro k hk
  rcases List.mem_append.mp hk with z | z
  ·exact h.inR k z
  ·exact ⟨b,by simpa using z,b0,b1⟩
theorem zrg {f:Int→Int→Option Int} {s:Int×Ct} {a b:Int} (h:s.2 b≠none):(stC f s a b).2=s.2:=by
 funext x
 unfold stC
 simp only
 rw [if_neg fun z=>h z.2]
theorem Cd.le {m:Int} {kvs:List (Key×V)} {c:Ct} (h:Cd m kvs c) (m0:0≤m):(kvs.length:Int)≤m:=by
 have:=zbr (zb2 kvs) ((List.range m.toNat).map fun k:Nat=>(Sum.inl (k:Int):Key)) h.nd fun k hk=>by
  obtain ⟨x,rfl,x0,x1⟩:=h.inR k hk
  exact List.mem_map.mpr ⟨x.toNat,List.mem_range.mpr (by omega),by rw [Int.toNat_of_nonneg x0]⟩
 rw [zdG,List.length_map,List.length_range] at this
 omega
theorem Cd.ge {m:Int} {kvs:List (Key×V)} {c:Ct} (h:Cd m kvs c) (hx:∀ x,0≤x→x<m→c x≠none):m≤(kvs.length:Int):=by
 have:=zbr ((List.range m.toNat).map fun k:Nat=>(Sum.inl (k:Int):Key)) (zb2 kvs) ?_ fun k hk=>?_
 ·rw [zdG,List.length_map,List.length_range] at this
  omega
 ·refine List.nodup_iff_pairwise_ne.mpr (List.pairwise_map.mpr ((List.nodup_iff_pairwise_ne.mp List.nodup_range).imp fun h e=>h ?_))
  have:=Sum.inl.inj e
  omega
 ·obtain ⟨x,hx1,rfl⟩:=List.mem_map.mp hk
  have:=List.mem_range.mp hx1
  refine (zfB ..).mp ?_
  rw [h.val]
  intro z
  exact hx x (by omega) (by omega) (Option.map_eq_none_iff.mp z)
def zj4 (m:Int) (c:Ct):List Int:=(List.range m.toNat).map fun k:Nat=>(c (k:Int)).getD 0
theorem ze8 {m:Int}:∀ (rs:List zcb),(∀ r∈rs,GR m r)→∀ x y l,sh rs x y=some l→0≤x∧x<m∧0≤y∧y<m∧x≠y∧1≤l∧l≤1000000:=by
 have z:∀ (rs:List zcb) (f:Int→Int→Option Int),(∀ r∈rs,GR m r)→(∀ x y l,f x y=some l→0≤x∧x<m∧0≤y∧y<m∧x≠y∧1≤l∧l≤1000000)→∀ x y l,rs.foldl shs f x y=some l→0≤x∧x<m∧0≤y∧y<m∧x≠y∧1≤l∧l≤1000000:=by
  intro rs
  induction rs with
  | nil=>intro f _ h;exact h
  | cons r rs ih =>
   intro f g h
   refine ih _ (fun r' h'=>g r' (by simp [h'])) fun x y l e=>?_
   obtain ⟨g1,g2,g3,g4,g5,g6,g7⟩:=g r (by simp)
   have hv:1≤min ((f r.1 r.2.1).getD r.2.2) r.2.2∧min ((f r.1 r.2.1).getD r.2.2) r.2.2≤1000000:=by
    cases q:f r.1 r.2.1 with
    | none=>simp only [Option.getD_none];omega
    | some v =>
     have:=h _ _ _ q
     simp only [Option.getD_some]
     omega
   unfold shs at e
   split at e
   ·rename_i c
    cases e
    obtain ⟨rfl,rfl⟩:=c
    exact ⟨g3,g4,g1,g2,g5.symm,hv⟩
   ·split at e
    ·rename_i c
     cases e
     obtain ⟨rfl,rfl⟩:=c
     exact ⟨g1,g2,g3,g4,g5,hv⟩
    ·exact h x y l e
 exact fun rs g=>z rs _ g fun _ _ _ e=>nomatch e
theorem zpA {rs:List zcb} {r:zcb} (h:r∈rs):sh rs r.1 r.2.1≠none:=by
 have keep:∀ (rs:List zcb) (f:Int→Int→Option Int) (x y:Int),f x y≠none→rs.foldl shs f x y≠none:=by
  intro rs
  induction rs with
  | nil=>intro f x y h;exact h
  | cons r rs ih =>
   intro f x y h
   refine ih _ x y ?_
   unfold shs
   split
   ·exact fun z=>nomatch z
   ·split
    ·exact fun z=>nomatch z
    ·exact h
 obtain ⟨a,b,rfl⟩:=List.append_of_mem h
 unfold sh
 rw [List.foldl_append,List.foldl_cons]
 refine keep b _ _ _ ?_
 unfold shs
 split
 ·exact fun z=>nomatch z
 ·rw [if_pos ⟨rfl,rfl⟩]
  exact fun z=>nomatch z
theorem seqIx {i:Int} {n:Nat} (h0:0≤i) (h1:i<n):PySem.seqIndex? i n=some i.toNat:=by
 unfold PySem.seqIndex?
 have e:¬ i<0:=by omega
 simp [e,h0,h1]
def ze2 (m:Int):List Int:=(List.range m.toNat).map fun k:Nat=>(k:Int)
theorem zb6 {m x:Int}:x∈ze2 m↔0≤x∧x<m:=by
 unfold ze2
 rw [List.mem_map]
 constructor
 ·rintro ⟨k,hk,rfl⟩
  have:=List.mem_range.mp hk
  omega
 ·rintro ⟨h0,h1⟩
  exact ⟨x.toNat,List.mem_range.mpr (by omega),by omega⟩
theorem zfN {m:Int}:(ze2 m).Nodup:=by
 unfold ze2
 refine List.nodup_iff_pairwise_ne.mpr (List.pairwise_map.mpr ((List.nodup_iff_pairwise_ne.mp List.nodup_range).imp fun h e=>h ?_))
 omega
theorem zpp {m:Int} (h:1≤m):ze2 m=0::(List.range (m - 1).toNat).map fun k:Nat=>1+(k:Int):=by
 unfold ze2
 rw [show m.toNat=(m - 1).toNat+1 by omega,List.range_succ_eq_map,List.map_cons,List.map_map]
 refine congrArg (List.cons 0) (List.map_congr_left fun k _=>?_)
 simp only [Function.comp]
 omega
theorem zlh {α β:Type} (f:α→β):∀ (l:List α) (k:Nat),(l.map f).eraseIdx k=(l.eraseIdx k).map f
 | [],k=>by simp
 | x::l,0=>rfl
 | x::l,k+1=>by
  rw [List.map_cons,List.eraseIdx_cons_succ,List.eraseIdx_cons_succ,List.map_cons,zlh f l k]
theorem znC {α:Type} {l:List α} {k:Nat} {x:α} (h:l[k]?=some x):(x::l.eraseIdx k).Perm l:=by
 induction l generalizing k with
 | nil=>simp at h
 | cons y l ih =>
  cases k with
  | zero =>
   simp only [List.getElem?_cons_zero,Option.some.injEq] at h
   subst h
   exact .refl _
  | succ k =>
   rw [List.getElem?_cons_succ] at h
   rw [List.eraseIdx_cons_succ]
   exact (List.Perm.swap y x _).trans ((ih h).cons y)
theorem zj8 {α:Type} {l:List α} (nd:l.Nodup) {i j:Nat} {x y:α} (h1:l[i]?=some x) (h2:l[j]?=some y) (c:i<j):x≠y:=by
 obtain ⟨l1,e1⟩:=List.getElem?_eq_some_iff.mp h1
 obtain ⟨l2,e2⟩:=List.getElem?_eq_some_iff.mp h2
 rw [← e1,← e2]
 exact List.pairwise_iff_getElem.mp (List.nodup_iff_pairwise_ne.mp nd) i j l1 l2 c
theorem zhV {α:Type} {l:List α} (nd:l.Nodup) {i j:Nat} {x:α} (h1:l[i]?=some x) (h2:l[j]?=some x):i=j:=by
 rcases Nat.lt_trichotomy i j with c | c | c
 ·exact absurd rfl (zj8 nd h1 h2 c)
 ·exact c
 ·exact absurd rfl (zj8 nd h2 h1 c)
theorem at2 {x y:V} {r:Int} (h0:0≤r) (h1:r<2):∃ v,atI [x,y] r=some v∧(v=x∨v=y):=by
 have:r=0∨r=1:=by omega
 rcases this with rfl | rfl
 ·exact ⟨x,rfl,.inl rfl⟩
 ·exact ⟨y,rfl,.inr rfl⟩
theorem zpm:(0:Int)<3600∧(Int.natAbs 3600).log2<9000:=by decide +kernel
theorem zrN:(0:Int)<100∧(Int.natAbs 100).log2<9000:=by decide +kernel
theorem ztG:(0:Int)<2∧(Int.natAbs 2).log2<9000:=by decide +kernel
def zmv (ls:List Int) (rs:List zcb) (n:Nat):Prop:=∀ k,1≤k→k≤n→∃ r∈rs,∃ j,j<k∧((ls[k]?=some r.1∧ls[j]?=some r.2.1)∨(ls[k]?=some r.2.1∧ls[j]?=some r.1))
theorem zmv.conn {ls:List Int} {rs:List zcb} {n:Nat} {m:Int} (h:zmv ls rs n) (hm:m=n+1) (hp:ls.Perm (ze2 m)) (h0:ls[0]?=some 0):ztU m rs:=by
 intro S s0 sc x x0 x1
 have hl:ls.length=n+1:=by
  rw [hp.length_eq]
  unfold ze2
  rw [List.length_map,List.length_range]
  omega
 have z:∀ (k:Nat) (y:Int),ls[k]?=some y→S y:=by
  intro k
  induction k using Nat.strongRecOn with
  | ind k ih =>
   intro y hy
   cases k with
   | zero =>
    rw [h0] at hy
    cases hy
    exact s0
   | succ k =>
    have lk:=(List.getElem?_eq_some_iff.mp hy).1
    obtain ⟨r,hr,j,hj,c⟩:=h (k+1) (by omega) (by omega)
    rcases c with ⟨c1,c2⟩ | ⟨c1,c2⟩
    ·rw [hy] at c1
     cases c1
     exact (sc r hr (.inr (ih j hj _ c2))).1
    ·rw [hy] at c1
     cases c1
     exact (sc r hr (.inl (ih j hj _ c2))).2
 have hx:x∈ls:=hp.mem_iff.mpr (zb6.mpr ⟨x0,x1⟩)
 obtain ⟨k,hk⟩:=List.getElem?_of_mem hx
 exact z k x hk
theorem zmv.mono {ls:List Int} {rs rs':List zcb} {n:Nat} (h:zmv ls rs n) (hs:∀ r∈rs,r∈rs'):zmv ls rs' n:=fun k k1 kn=>by
 obtain ⟨r,hr,c⟩:=h k k1 kn
 exact ⟨r,hs r hr,c⟩
def zgn {α:Type} (l:List α) (k:Nat) (x:α):List α:=l.take k++x::l.drop k
theorem zlB {α β:Type} (f:α→β) (l:List α) (k:Nat) (x:α):(zgn l k x).map f=zgn (l.map f) k (f x):=by
 unfold zgn
 rw [List.map_append,List.map_cons,List.map_take,List.map_drop]
theorem zfj {α:Type} {l:List α} {k:Nat} {x y:α}:y∈zgn l k x↔y=x∨y∈l:=by
 unfold zgn
 rw [List.mem_append,List.mem_cons]
 constructor
 ·rintro (h | h | h)
  ·exact .inr (List.mem_of_mem_take h)
  ·exact .inl h
  ·exact .inr (List.mem_of_mem_drop h)
 ·rintro (h | h)
  ·exact .inr (.inl h)
  ·rw [← List.take_append_drop k l] at h
   rcases List.mem_append.mp h with h | h
   ·exact .inl h
   ·exact .inr (.inr h)
theorem zfz {α:Type} {l:List α} {k:Nat} {x:α} (h:k≤l.length):(zgn l k x).length=l.length+1:=by
 unfold zgn
 rw [List.length_append,List.length_cons,List.length_take,List.length_drop]
 omega
theorem zmR {α:Type} {l:List α} {k:Nat} {x:α} (h:k≤l.length) (i:Nat):(zgn l k x)[i]?=if i<k then l[i]? else if i=k then some x else l[i - 1]?:=by
 unfold zgn
 have lt:(l.take k).length=k:=by rw [List.length_take];omega
 by_cases c:i<k
 ·rw [if_pos c,List.getElem?_append_left (by omega),List.getElem?_take_of_lt c]
 ·rw [if_neg c,List.getElem?_append_right (by omega),lt]
  by_cases c2:i=k
  ·subst c2
   rw [if_pos rfl,Nat.sub_self]
   rfl
  ·rw [if_neg c2,show i - k=(i - k - 1)+1 by omega,List.getElem?_cons_succ,List.getElem?_drop]
   congr 1
   omega
theorem Tps.ins {α:Type} {f:α→List V} {H:Hp} {ts:List Addr} {bs:List α} {t:Addr} {b:α} {k:Nat} (h:Tps f H ts bs) (hk:k≤ts.length) (e:H t=some (.tup (f b))):Tps f H (zgn ts k t) (zgn bs k b):=by
 have hk':k≤bs.length:=by rw [← h.1];exact hk
 refine ⟨by rw [zfz hk,zfz hk',h.1],fun i x y e1 e2=>?_⟩
 rw [zmR hk] at e1
 rw [zmR hk'] at e2
 split at e1
 ·rename_i c
  rw [if_pos c] at e2
  exact h.2 i x y e1 e2
 ·rename_i c
  rw [if_neg c] at e2
  split at e1
  ·rename_i c2
   rw [if_pos c2] at e2
   cases e1
   cases e2
   exact e
  ·rename_i c2
   rw [if_neg c2] at e2
   exact h.2 _ x y e1 e2
def zpq (H:Hp) (rs:List zcb) (m:Int) (kd:Str) (pl:Addr) (c:Ct):Prop :=
 (kd="walk"∧∃ ws:List Int,H pl=some (.lst (ws.map V.int))∧Wlk (sh rs) m ws∧c=(wkC (sh rs) ws (ws.length - 1)).2) ∨
 (kd="spread"∧∃ (us:List Addr) (ps:List (Int×Int)),H pl=some (.lst (us.map V.ref))∧Tps prv H us ps∧Spr (sh rs) m ps∧c=(spC (sh rs) ps).2)
theorem zpq.all {H:Hp} {rs:List zcb} {m:Int} {kd:Str} {pl:Addr} {c:Ct} (h:zpq H rs m kd pl c):∀ x,0≤x→x<m→c x≠none:=by
 rcases h with ⟨e,ws,h1,h2,rfl⟩ | ⟨e,us,ps,h1,h2,h3,rfl⟩
 ·intro x x0 x1
  have wpos:0<ws.length:=(List.getElem?_eq_some_iff.mp h2.first).1
  obtain ⟨j,hj⟩:=List.getElem?_of_mem (h2.all x x0 x1)
  have lj:=(List.getElem?_eq_some_iff.mp hj).1
  exact (zmA h2.first _ (by omega) x).mpr ⟨j,by omega,hj⟩
 ·exact h3.all
def stT (sp:Bool) (f:Int→Int→Option Int) (ts:List Th):Nat→Int×Ct
 | 0=>(0,if sp=true then ct0 else fun _=>none)
 | k+1=>if sp=true then spC f ((ts.map Th.pr).take (k+1)) else wkC f (ts.map Th.num) k
theorem zh6 {f:Int→Int→Option Int} {ts:List Th} (k:Nat):stT true f ts k=spC f ((ts.map Th.pr).take k):=by
 cases k with
 | zero=>rfl
 | succ k=>rfl
theorem zi6 {f:Int→Int→Option Int} {ts:List Th} (k:Nat):stT false f ts (k+1)=wkC f (ts.map Th.num) k:=rfl
def okT (sp:Bool) (f:Int→Int→Option Int) (ts:List Th) (k:Nat):Prop :=
 if sp=true then ∃ x y,ts[k]?=some (.p x y)∧(stT true f ts k).2 x≠none∧(stT true f ts k).2 y=none∧f x y≠none
 else ∃ b,ts[k]?=some (.n b)∧((k=0∧b=0)∨(0<k∧f ((ts.map Th.num).getD (k - 1) 0) b≠none))
theorem zh1 {ts:List Th} {k:Nat} {b:Int} (h:ts[k]?=some (.n b)):(ts.map Th.num).getD k 0=b:=by
 rw [List.getD_eq_getElem?_getD,List.getElem?_map,h]
 rfl
theorem zs3 {ts:List Th} {k:Nat} {x y:Int} (h:ts[k]?=some (.p x y)):(ts.map Th.pr)[k]?=some (x,y):=by
 rw [List.getElem?_map,h]
 rfl
def Th.to:Th→Int
 | .n b=>b
 | .p _ y=>y
theorem zps {sp:Bool} {f:Int→Int→Option Int} {ts:List Th} {k:Nat} {t:Th} (h:okT sp f ts k) (e:ts[k]?=some t) (x:Int):(stT sp f ts (k+1)).2 x≠none↔x=t.to∨(stT sp f ts k).2 x≠none:=by
 cases sp with
 | true =>
  obtain ⟨u,v,e',_⟩:=h
  rw [e] at e'
  cases e'
  rw [zh6,zh6,zka (zs3 e),zjD]
  rfl
 | false =>
  obtain ⟨b,e',h⟩:=h
  rw [e] at e'
  cases e'
  cases k with
  | zero =>
   rcases h with ⟨_,rfl⟩ | ⟨z,_⟩
   ·show ct0 x≠none↔x=0∨(none:Option Int)≠none
    unfold ct0
    by_cases c:x=0 <;> simp [c]
   ·omega
  | succ k =>
   rw [zi6,zi6,zhK,zjD,zh1 e]
   rfl
theorem zoB {sp:Bool} {m:Int} {rs:List zcb} {ts:List Th} {k:Nat} {t:Th} (G:GW m rs) (h:okT sp (sh rs) ts k) (e:ts[k]?=some t):0≤t.to∧t.to<m:=by
 have m1:=G.m1
 cases sp with
 | true =>
  obtain ⟨u,v,e',_,_,o⟩:=h
  rw [e] at e'
  cases e'
  obtain ⟨l,hl⟩:=Option.ne_none_iff_exists'.mp o
  have:=ze8 rs G.gr _ _ _ hl
  exact ⟨this.2.2.1,this.2.2.2.1⟩
 | false =>
  obtain ⟨b,e',h⟩:=h
  rw [e] at e'
  cases e'
  rcases h with ⟨_,rfl⟩ | ⟨_,o⟩
  ·exact ⟨Int.le_refl _,by show (0:Int)<m;omega⟩
  ·obtain ⟨l,hl⟩:=Option.ne_none_iff_exists'.mp o
   have:=ze8 rs G.gr _ _ _ hl
   exact ⟨this.2.2.1,this.2.2.2.1⟩
def CovT (sp:Bool) (f:Int→Int→Option Int) (m:Int) (ts:List Th):Prop:=∀ x,0≤x→x<m→(stT sp f ts ts.length).2 x≠none
def zjn (sp:Bool) (f:Int→Int→Option Int) (m:Int) (ts:List Th) (d:Option Nat):Prop :=
 (∃ k,d=some k∧k<ts.length∧(∀ i,i<k→okT sp f ts i)∧¬ okT sp f ts k)∨((∀ i,i<ts.length→okT sp f ts i)∧((d=some ts.length∧¬ CovT sp f m ts)∨(d=none∧CovT sp f m ts)))
theorem zjn.one {sp:Bool} {f:Int→Int→Option Int} {m:Int} {ts:List Th} {d e:Option Nat} (h1:zjn sp f m ts d) (h2:zjn sp f m ts e):d=e:=by
 rcases h1 with ⟨k,rfl,lk,ok,nk⟩ | ⟨ok,h1⟩ <;> rcases h2 with ⟨l,rfl,ll,ol,nl⟩ | ⟨ol,h2⟩
 ·rcases Nat.lt_trichotomy k l with c | c | c
  ·exact absurd (ol k c) nk
  ·rw [c]
  ·exact absurd (ok l c) nl
 ·exact absurd (ol k lk) nk
 ·exact absurd (ok l ll) nl
 ·rcases h1 with ⟨rfl,c⟩ | ⟨rfl,c⟩ <;> rcases h2 with ⟨rfl,c'⟩ | ⟨rfl,c'⟩
  ·rfl
  ·exact absurd c' c
  ·exact absurd c c'
  ·rfl
theorem zth {m:Int} {rs:List zcb} {ts:List Th} (G:GW m rs) (h:∀ i,i<ts.length→okT true (sh rs) ts i):ts.length≤60:=by
 have m1:=G.m1
 have m60:=G.m60
 have nd:∀ k,k≤ts.length→∃ ls:List Int,ls.Nodup∧ls.length=k+1∧(∀ x∈ls,0≤x∧x<m)∧∀ x,(stT true (sh rs) ts k).2 x≠none↔x∈ls:=by
  intro k
  induction k with
  | zero =>
   intro _
   refine ⟨[0],by simp,rfl,fun x hx=>by simp at hx;omega,fun x=>?_⟩
   show ct0 x≠none↔_
   unfold ct0
   by_cases c:x=0 <;> simp [c]
  | succ k ih =>
   intro hk
   obtain ⟨ls,nd,ll,inR,dom⟩:=ih (by omega)
   have ok:=h k (by omega)
   have ok2:=ok
   obtain ⟨x,y,e,_,o2,_⟩:=ok
   have r:=zoB G ok2 e
   have ny:y∉ls:=fun z=>(dom y).mpr z o2
   refine ⟨y::ls,List.nodup_cons.mpr ⟨ny,nd⟩,by rw [List.length_cons,ll],fun z hz=>?_,fun z=>?_⟩
   ·rcases List.mem_cons.mp hz with rfl | hz
    ·exact r
    ·exact inR z hz
   ·rw [zps ok2 e,List.mem_cons,dom]
    rfl
 obtain ⟨ls,nd,ll,inR,_⟩:=nd ts.length (Nat.le_refl _)
 have:=zbr ls (ze2 m) nd fun x hx=>zb6.mpr (inR x hx)
 unfold ze2 at this
 rw [List.length_map,List.length_range] at this
 omega
theorem zjn.plan {sp:Bool} {m:Int} {rs:List zcb} {ts:List Th} {xs:List V} {pl:Addr} {H:Hp} (G:GW m rs) (h:zjn sp (sh rs) m ts none) (hp:H pl=some (.lst xs)) (P:PlT H xs ts) (l:ts.length≤100000):zpq H rs m (kdS sp) pl (stT sp (sh rs) ts ts.length).2:=by
 rcases h with ⟨_,z,_⟩ | ⟨ok,⟨z,_⟩ | ⟨_,cov⟩⟩
 ·cases z
 ·cases z
 have m1:=G.m1
 cases sp with
 | true =>
  refine .inr ⟨rfl,?_⟩
  have hu:∃ us:List Addr,xs=us.map V.ref∧Tps prv H us (ts.map Th.pr):=by
   refine ⟨xs.map fun v=>match v with | .ref u=>u | _=>0,?_,?_⟩
   ·rw [List.map_map]
    refine (List.ext_getElem? fun i=>?_)
    rw [List.getElem?_map]
    cases e:xs[i]? with
    | none=>rfl
    | some v =>
     have li:=(List.getElem?_eq_some_iff.mp e).1
     obtain ⟨x,y,e',_⟩:=ok i (by rw [← P.1];exact li)
     obtain ⟨u,rfl,_⟩:=P.2 i v _ e e'
     rfl
   ·refine ⟨by rw [List.length_map,List.length_map,P.1],fun i t b e1 e2=>?_⟩
    rw [List.getElem?_map] at e1 e2
    cases e:xs[i]? with
    | none=>rw [e] at e1;cases e1
    | some v =>
     have li:=(List.getElem?_eq_some_iff.mp e).1
     obtain ⟨x,y,e',_⟩:=ok i (by rw [← P.1];exact li)
     obtain ⟨u,rfl,hu⟩:=P.2 i v _ e e'
     rw [e] at e1
     rw [e'] at e2
     cases e1
     cases e2
     exact hu
  obtain ⟨us,rfl,T⟩:=hu
  have full:spC (sh rs) ((ts.map Th.pr).take ts.length)=spC (sh rs) (ts.map Th.pr):=by rw [List.take_of_length_le (by rw [List.length_map];exact Nat.le_refl _)]
  refine ⟨us,ts.map Th.pr,hp,T,⟨fun i p e=>?_,fun x x0 x1=>?_,by rw [List.length_map];exact zth G ok⟩,by rw [zh6,full]⟩
  ·have li:=(List.getElem?_eq_some_iff.mp e).1
   rw [List.length_map] at li
   obtain ⟨x,y,e',o1,o2,o3⟩:=ok i li
   rw [zs3 e'] at e
   cases e
   rw [zh6] at o1 o2
   exact ⟨o1,o2,o3⟩
  ·have:=cov x x0 x1
   rw [zh6,full] at this
   exact this
 | false =>
  refine .inl ⟨rfl,ts.map Th.num,?_,?_,?_⟩
  ·rw [hp,List.map_map]
   congr 2
   refine (List.ext_getElem? fun i=>?_)
   rw [List.getElem?_map]
   cases e:xs[i]? with
   | none =>
    have li:=List.getElem?_eq_none_iff.mp e
    rw [P.1] at li
    rw [List.getElem?_eq_none_iff.mpr li]
    rfl
   | some v =>
    have li:=(List.getElem?_eq_some_iff.mp e).1
    obtain ⟨b,e',_⟩:=ok i (by rw [← P.1];exact li)
    have:=P.2 i v _ e e'
    rw [e']
    exact congrArg some this
  ·have pos:0<ts.length:=by
    refine Nat.pos_of_ne_zero fun z=>?_
    have:=cov 0 (Int.le_refl _) (by omega)
    rw [z] at this
    exact this rfl
   obtain ⟨b0,e0,h0⟩:=ok 0 pos
   have b00:b0=0:=by
    rcases h0 with ⟨_,h⟩ | ⟨z,_⟩
    ·exact h
    ·omega
   subst b00
   have first:(ts.map Th.num)[0]?=some 0:=by rw [List.getElem?_map,e0];rfl
   refine ⟨first,fun i a b e1 e2=>?_,fun x x0 x1=>?_,by rw [List.length_map];exact l⟩
   ·have li:=(List.getElem?_eq_some_iff.mp e2).1
    rw [List.length_map] at li
    obtain ⟨c,e',h⟩:=ok (i+1) li
    rw [List.getElem?_map,e'] at e2
    cases e2
    rcases h with ⟨z,_⟩ | ⟨_,h⟩
    ·omega
    ·rw [Nat.add_sub_cancel,List.getD_eq_getElem?_getD,e1] at h
     exact h
   ·have:=cov x x0 x1
    obtain ⟨k,ek⟩:∃ k,ts.length=k+1:=⟨ts.length - 1,by omega⟩
    rw [ek,zi6] at this
    obtain ⟨j,_,ej⟩:=(zmA first k (by rw [List.length_map];omega) x).mp this
    exact zdf ej
  ·have pos:0<ts.length:=by
    refine Nat.pos_of_ne_zero fun z=>?_
    have:=cov 0 (Int.le_refl _) (by omega)
    rw [z] at this
    exact this rfl
   obtain ⟨k,ek⟩:∃ k,ts.length=k+1:=⟨ts.length - 1,by omega⟩
   rw [List.length_map,ek,zi6,Nat.add_sub_cancel]
theorem Cd.cov {m:Int} {kvs:List (Key×V)} {c:Ct} (h:Cd m kvs c) (l:m≤(kvs.length:Int)):∀ x,0≤x→x<m→c x≠none:=by
 intro x x0 x1 z
 have nx:(Sum.inl x:Key)∉zb2 kvs:=fun hk=>(zfB ..).mpr hk (by rw [h.val,z];rfl)
 have:=zbr (Sum.inl x::zb2 kvs) ((List.range m.toNat).map fun k:Nat=>(Sum.inl (k:Int):Key)) (List.nodup_cons.mpr ⟨nx,h.nd⟩) fun k hk=>by
  rcases List.mem_cons.mp hk with rfl | hk
  ·exact List.mem_map.mpr ⟨x.toNat,List.mem_range.mpr (by omega),by rw [Int.toNat_of_nonneg x0]⟩
  ·obtain ⟨y,rfl,y0,y1⟩:=h.inR k hk
   exact List.mem_map.mpr ⟨y.toNat,List.mem_range.mpr (by omega),by rw [Int.toNat_of_nonneg y0]⟩
 rw [List.length_cons,zdG,List.length_map,List.length_range] at this
 omega
theorem Cd.nil0 {m:Int}:Cd m [] fun _=>none:=⟨fun _=>rfl,by simp [zb2],fun k hk=>by simp [zb2] at hk⟩
def zrU (a:Ad) (E:XK) (H:Hp) (k:Nat):Prop:=∀ (H':Hp) (dx:Addr),zbt H H'→H' dx=none→E (.ref a.c_NoPlan) (some dx) (L2.upd H' dx (.xd [("at",.int (k:Int))]))
def ztk (c:Ct) (b v:Int):Ct:=fun x=>if x=b∧c b=none then some v else c x
theorem Cd.stp {m:Int} {kvs:List (Key×V)} {c:Ct} {b v:Int} (h:Cd m kvs c) (b0:0≤b) (b1:b<m) (hn:c b=none):Cd m (zd8 kvs (.inl b) (.int v)) (ztk c b v):=by
 have:=Cd.put (f:=fun _ _=>none) (s:=(v,c)) (a:=0) h b0 b1 hn
 simp only [stC,Option.getD_none,Int.add_zero] at this
 exact this
theorem zoK {c:Ct} {b v:Int} (h:c b≠none):ztk c b v=c:=by
 funext x
 unfold ztk
 rw [if_neg fun z=>h z.2]
theorem zqN {f:Int→Int→Option Int} {ts:List Th} {k:Nat} {b:Int} (h:okT false f ts k) (e:ts[k]?=some (.n b)) :
  (stT false f ts (k+1)).1=(stT false f ts k).1+(if k=0 then 0 else (f ((ts.map Th.num).getD (k - 1) 0) b).getD 0)∧(stT false f ts (k+1)).2=ztk (stT false f ts k).2 b (stT false f ts (k+1)).1:=by
 obtain ⟨b',e',h⟩:=h
 rw [e] at e'
 cases e'
 cases k with
 | zero =>
  rcases h with ⟨_,rfl⟩ | ⟨z,_⟩
  ·refine ⟨rfl,?_⟩
   show ct0=_
   funext x
   unfold ztk ct0
   show _=if x=0∧(none:Option Int)=none then some 0 else none
   by_cases c:x=0 <;> simp [c]
  ·omega
 | succ k =>
  rw [zi6,zi6,zhK,zh1 e,if_neg (by omega),Nat.add_sub_cancel]
  exact ⟨rfl,rfl⟩
theorem znT {f:Int→Int→Option Int} {ts:List Th} {k:Nat} {x y:Int} (e:ts[k]?=some (.p x y)) :
  (stT true f ts (k+1)).1=(stT true f ts k).1+(f x y).getD 0∧(stT true f ts (k+1)).2=ztk (stT true f ts k).2 y (stT true f ts (k+1)).1:=by
 rw [zh6,zh6,zka (zs3 e)]
 exact ⟨rfl,rfl⟩
theorem znm:zbk ["self","at"] ["self","at"] (zaC zdb):=⟨rfl,rfl,rfl,by decide +kernel,rfl,by decide +kernel,by decide +kernel⟩
theorem zee (T:Txt K mg a):zdV P w K mg base CX0 1 a.i_NoPlan a.j_NoPlan ["self","at"] (zrH a.c_NoPlan "at"):=by
 refine T.I_NoPlan.ok znm (fun vs H Q E h=>?_) (fun cdv A outer s H vs Q E hr h=>?_)
 ·obtain ⟨y,v,rfl,hy,q⟩:=h
  rfl
 obtain ⟨y,v,rfl,hy,q⟩:=h
 exact ⟨_,(zaf (zdr (zmr rfl T.m_HideError T.B (zaa (pv 0) (zaa (pv 1) zag)))) (zak (zsF (pv 0) (pv 1) rfl))),zsS T.X_NoPlan T.xa_NoPlan.na hy q⟩
def zrd:List Str:=["","walks","spread ","Walk","wal","0"]
def zh8 (a:Ad):Sp:=fun vs H Q E=>∃ kd:Str,vs=[.str kd]∧(((kd="walk"∨kd="spread")∧Q .non H)∨(kd∈zrd∧E (.ref a.c_NoKind) none H))
def zgm (K:PySem.W.Frag) (a:Ad) (E:XK):TS :=
 (zb7 (zaK (tOp (rIn K true) (zac 0) (tC (.ref a.t_KINDS)))) (zo2 (.ref a.c_NoKind) E) zaZ)
theorem zlq {E:XK} {kd:Str} (hK:KTup K a.t_KINDS [.str "walk",.str "spread"]) (h:((kd="walk"∨kd="spread")∧Q .non H)∨(kd∈zrd∧E (.ref a.c_NoKind) none H)):zgm K a E { nx:=fun _ H'=>Q .non H',rt:=Q } (L2.zce ["kind"] [.str kd]) H:=by
 unfold zgm
 simp_all only [zac]
 refine ⟨_,.inr (SqT.ofK hK),rfl,rfl,?_⟩
 rcases h with ⟨rfl | rfl,q⟩ | ⟨h,e⟩
 ·exact zcc (fun z=>absurd z (by decide +kernel)) (fun _=>q)
 ·exact zcc (fun z=>absurd z (by decide +kernel)) (fun _=>q)
 ·unfold zrd at h
  simp only [List.mem_cons,List.not_mem_nil,or_false] at h
  rcases h with rfl | rfl | rfl | rfl | rfl | rfl <;> exact zcc (fun _=>e) (fun z=>absurd (by decide +kernel) z)
theorem zlv:zbk ["kind"] ["kind"] (zaC zf8):=⟨rfl,rfl,rfl,by decide +kernel,rfl,by decide +kernel,by decide +kernel⟩
theorem zkp (T:Txt K mg a):zdV P w K mg base (CXV P w) 1 a.f_look_kind a.d_look_kind ["kind"] (zh8 a):=by
 refine T.F_look_kind.okV zlv (fun vs H Q E h=>?_) (fun cdv A outer s H vs Q E hr h=>?_)
 ·obtain ⟨kd,rfl,h⟩:=h
  rfl
 obtain ⟨kd,rfl,h⟩:=h
 exact ⟨zgm K a E,(zak (zbA (zaI zd1 (pv 0) (zca rfl T.m_KINDS rfl) (by with_unfolding_all rfl)) (zak (zq1 T.m_NoKind T.x_NoKind rfl rfl zs4)) zaE)),
  zlq T.u_KINDS h⟩
def zfD:Sp:=fun vs H Q _=>∃ (ld cd:Addr) (lk:List (List Key×V)) (ck:List (Key×V)) (rs:List zcb) (m:Int) (ts:List Th) (k:Nat) (v:V) (t:Th),vs=[.ref ld,.ref cd,v]∧H ld=some (.dT lk)∧zlG lk rs∧H cd=some (.dK ck)∧Cd m ck (stT true (sh rs) ts k).2∧ts[k]?=some t∧ThV H v t∧∀ b:Bool,(b=true↔okT true (sh rs) ts k)→Q (.bl b) H
def zd2 (K:PySem.W.Frag):TS :=
 (zbY (zcW (zn4 (tOp (zdz K) (zac 2) (tC (.int 0))) (zac 1)) (zcW (zdi (tOp (zdz K) (zac 2) (tC (.int 1))) (zac 1)) (zn4 (zac 2) (zac 0)))))
theorem zcH (K:PySem.W.Frag) (D:zb8) (σ:St) (H:Hp):zd2 K D σ H=(zbY (zcW (zn4 (tOp (zdz K) (zac 2) (tC (.int 0))) (zac 1)) (zcW (zdi (tOp (zdz K) (zac 2) (tC (.int 1))) (zac 1)) (zn4 (zac 2) (zac 0))))) D σ H:=rfl
def zd6 (K:PySem.W.Frag):TS :=
 (zb7 (tOr (zgs (tB (tCB (zdT K) (zab (zac 2) (zab (tC (.ty "tuple")) zau))))) (tOr (zaK (tOp rNe (tCB (fun xs H Q=>∃ p ys,xs=[.ref p]∧(SqL K H p ys∨SqT K H p ys)∧Q (.int ys.length) H) (zab (zac 2) zau)) (tC (.int 2)))) (tOr (zgs (tB (zaY zdO [] E0 (zab (tOp (zdz K) (zac 2) (tC (.int 0))) zau)))) (zgs (tB (zaY zdO [] E0 (zab (tOp (zdz K) (zac 2) (tC (.int 1))) zau))))))) (zbY (tC (.bl false))) zaZ)
theorem zcO (K:PySem.W.Frag) (D:zb8) (σ:St) (H:Hp):zd6 K D σ H=(zb7 (tOr (zgs (tB (tCB (zdT K) (zab (zac 2) (zab (tC (.ty "tuple")) zau))))) (tOr (zaK (tOp rNe (tCB (fun xs H Q=>∃ p ys,xs=[.ref p]∧(SqL K H p ys∨SqT K H p ys)∧Q (.int ys.length) H) (zab (zac 2) zau)) (tC (.int 2)))) (tOr (zgs (tB (zaY zdO [] E0 (zab (tOp (zdz K) (zac 2) (tC (.int 0))) zau)))) (zgs (tB (zaY zdO [] E0 (zab (tOp (zdz K) (zac 2) (tC (.int 1))) zau))))))) (zbY (tC (.bl false))) zaZ) D σ H:=rfl
def zdy (K:PySem.W.Frag):TS :=
 (zaF (zdk (zd6 K))
 (zd2 K))
theorem zhg {ld cd:Addr} {lk:List (List Key×V)} {ck:List (Key×V)} {rs:List zcb} {m:Int} {ts:List Th} {k:Nat} {v:V} {t:Th} (hl:H ld=some (.dT lk)) (L:zlG lk rs) (hc:H cd=some (.dK ck)) (C:Cd m ck (stT true (sh rs) ts k).2) (et:ts[k]?=some t) (hv:ThV H v t) (q:∀ b:Bool,(b=true↔okT true (sh rs) ts k)→Q (.bl b) H) :
  zdy K { nx:=fun _ H'=>Q .non H',rt:=Q } (L2.zce ["lengths","costs","step"] [.ref ld,.ref cd,v]) H:=by
 unfold zdy
 simp_all only [zcH,zcO,zac]
 refine ⟨fun σ H'=>H'=H∧(∃ x y u,t=.p x y∧v=.ref u∧H u=some (.tup [.int x,.int y]))∧σ=[some (.ref ld),some (.ref cd),some v],?_,?_⟩
 ·simp_all only [zcH,zcO,zac]
  cases t with
  | n i =>
   cases hv
   refine zcz (.int i) (zey K) ⟨false,rfl,?_⟩
   refine zcc (fun _=>q false ⟨(fun z=>nomatch z),fun z=>?_⟩) (fun z=>absurd rfl z)
   obtain ⟨x,y,e',_⟩:=z
   rw [et] at e'
   cases e'
  | p x y =>
   obtain ⟨u,rfl,hs⟩:=hv
   refine zeO hs ⟨true,rfl,?_⟩
   refine zcc (fun z=>absurd z (by decide)) (fun _=>?_)
   refine ⟨_,rfl,_,.inr (SqT.of hs),?_⟩
   refine zcc (fun z=>absurd rfl z) (fun _=>?_)
   refine ⟨_,rfl,_,SqT.of hs,_,rfl,_,rfl,true,rfl,?_⟩
   refine zcc (fun z=>absurd z (by decide)) (fun _=>?_)
   refine ⟨_,rfl,_,SqT.of hs,_,rfl,_,rfl,true,rfl,?_⟩
   exact zcc (fun z=>absurd z (by decide)) (fun _=>⟨rfl,x,y,rfl,u,rfl,hs⟩)
 ·rintro σ H' ⟨e,⟨x,y,u,rfl,rfl,hs⟩,rfl⟩
  rw [e]
  simp_all only [zcH,zcO,zac]
  refine ⟨_,SqT.of hs,_,rfl,_,zfU.k (k:=.inl x) hc,?_⟩
  have iff:okT true (sh rs) ts k↔(stT true (sh rs) ts k).2 x≠none∧(stT true (sh rs) ts k).2 y=none∧sh rs x y≠none:=by
   constructor
   ·rintro ⟨x',y',e',h⟩
    rw [et] at e'
    cases e'
    exact h
   ·exact fun h=>⟨x,y,et,h⟩
  have some1:∀ z:Int,(zdJ ck (.inl z)).isSome=decide ((stT true (sh rs) ts k).2 z≠none):=fun z=>by
   rw [C.val]
   cases (stT true (sh rs) ts k).2 z <;> rfl
  rw [some1]
  refine zcc (fun c=>?_) (fun c=>q false ⟨(fun z=>nomatch z),fun z=>absurd (decide_eq_true (iff.mp z).1) c⟩)
  have c1:=of_decide_eq_true c
  refine ⟨_,SqT.of hs,_,rfl,_,zfU.k (k:=.inl y) hc,?_⟩
  rw [some1]
  refine zcc (fun c=>?_) (fun c=>q false ⟨(fun z=>nomatch z),fun z=>absurd (by rw [(iff.mp z).2.1];rfl) c⟩)
  have c2:(stT true (sh rs) ts k).2 y=none:=Classical.not_not.mp (of_decide_eq_false (by simpa using c))
  have hs2:H u=some (.tup (([.inl x,.inl y]:List Key).map kV)):=hs
  refine ⟨_,zfU.t hl hs2,?_⟩
  refine q _ ?_
  rw [L.val,iff]
  cases sh rs x y <;> simp [c1,c2]
theorem zg2:zbk ["lengths","costs","step"] ["lengths","costs","step"] (zaC zdv):=⟨rfl,rfl,rfl,by decide +kernel,rfl,by decide +kernel,by decide +kernel⟩
theorem zg9 (T:Txt K mg a):zdV P w K mg base CX0 2 a.f_is_spread_step a.d_is_spread_step ["lengths","costs","step"] zfD:=by
 have G_is_whole:=zf9 (P:=P) (w:=w) (base:=base) T
 refine T.F_is_spread_step.ok zg2 (fun vs H Q E h=>?_) (fun cdv A outer s H vs Q E hr h=>?_)
 ·obtain ⟨ld,cd,lk,ck,rs,m,ts,k,v,t,rfl,hl,L,hc,C,et,hv,q⟩:=h
  rfl
 obtain ⟨ld,cd,lk,ck,rs,m,ts,k,v,t,rfl,hl,L,hc,C,et,hv,q⟩:=h
 exact ⟨zdy K,(zaf (zbl (zbA (PW.pt (zeZ (zdC (zcu (zai zaw rfl T.z_isinstance PyProof.Rows.boot_isinstance (zaa (pv 2) (zaa (zbc rfl T.z_tuple zcx rfl) zag))))) (zeZ (zaI zfP (zai zax rfl T.z_len PySem.boot_len (zaa (pv 2) zag)) zah (zaT _)) (zeZ (zdC (zcu (zaG G_is_whole (hr.mono (by decide)) rfl T.m_is_whole T.F_is_whole.kp T.b_is_whole .nil zbJ (zaa (zbh zcw (pv 2) zah (fun _ _=>rfl)) zag)))) (zeY (zdC (zcu (zaG G_is_whole (hr.mono (by decide)) rfl T.m_is_whole T.F_is_whole.kp T.b_is_whole .nil zbJ (zaa (zbh zcw (pv 2) zah (fun _ _=>rfl)) zag))))))))) (zak (zaX zfc)) zaE))
 (zak (zaX (zcQ (zmY (zk3 (zcX hr) (zbh zcw (pv 2) zah (fun _ _=>rfl)) (pv 1))) (zcQ (zmY (zfb (zcX hr) (zbh zcw (pv 2) zah (fun _ _=>rfl)) (pv 1))) (zdp (zmY (zk3 (zcX hr) (pv 2) (pv 0))))))))),
  zhg hl L hc C et hv q⟩
def zeg (a:Ad):Sp:=fun vs H Q E=>∃ (ld pl:Addr) (lk:List (List Key×V)) (rs:List zcb) (m:Int) (xs:List V) (ts:List Th),vs=[.ref ld,.ref pl]∧H ld=some (.dT lk)∧zlG lk rs∧GW m rs∧H pl=some (.lst xs)∧PlT H xs ts ∧
 (∀ k,k<ts.length→(∀ i,i<k→okT true (sh rs) ts i)→¬ okT true (sh rs) ts k→zrU a E H k)∧((∀ i,i<ts.length→okT true (sh rs) ts i)→∀ (d:Addr) (kvs:List (Key×V)) (H':Hp),zbt H H'→H' d=some (.dK kvs)→Cd m kvs (stT true (sh rs) ts ts.length).2→Q (.ref d) H')
def zeX (K:PySem.W.Frag):TS :=
 (zaF (zbj (tOp (rI0 fun i j=>.int (i+j)) (zac 3) (ze0 (zac 0) (zac 5))) (zal 3))
 (zdR (zac 2) (tOp (zdz K) (zac 5) (tC (.int 1))) (zac 3)))
theorem zb0 (K:PySem.W.Frag) (D:zb8) (σ:St) (H:Hp):zeX K D σ H=(zaF (zbj (tOp (rI0 fun i j=>.int (i+j)) (zac 3) (ze0 (zac 0) (zac 5))) (zal 3))
 (zdR (zac 2) (tOp (zdz K) (zac 5) (tC (.int 1))) (zac 3))) D σ H:=rfl
def zeU (a:Ad) (E:XK):TS :=
 (zb7 (zgs (tB (zaY zfD [] E0 (zab (zac 0) (zab (zac 2) (zab (zac 5) zau)))))) (zeA a.c_NoPlan "at" E (zab (zac 4) zau)) zaZ)
theorem zb4 (a:Ad) (E:XK) (D:zb8) (σ:St) (H:Hp):zeU a E D σ H=(zb7 (zgs (tB (zaY zfD [] E0 (zab (zac 0) (zab (zac 2) (zab (zac 5) zau)))))) (zeA a.c_NoPlan "at" E (zab (zac 4) zau)) zaZ) D σ H:=rfl
def zed (K:PySem.W.Frag) (a:Ad) (E:XK):TS :=
 (zaF (zbj (zqx (((tC (.int 0)),(tC (.int 0)))::[])) (zal 2))
 (zaF (zbj (tC (.int 0)) (zal 3))
 (zaF (zgX (znx K (zab (zac 1) zau)) (ziz K 2 (zbW (zal 4) (zbW (zal 5) ziy)))
 (zaF (zdk (zeU a E))
 (zeX K)))
 (zbY (zac 2)))))
theorem ziv {E:XK} {ld pl:Addr} {lk:List (List Key×V)} {rs:List zcb} {m:Int} {xs:List V} {ts:List Th} (hl:H ld=some (.dT lk)) (L:zlG lk rs) (G:GW m rs) (hp:H pl=some (.lst xs)) (P:PlT H xs ts)
  (bad:∀ k,k<ts.length→(∀ i,i<k→okT true (sh rs) ts i)→¬ okT true (sh rs) ts k→zrU a E H k) (q:(∀ i,i<ts.length→okT true (sh rs) ts i)→∀ (d:Addr) (kvs:List (Key×V)) (H':Hp),zbt H H'→H' d=some (.dK kvs)→Cd m kvs (stT true (sh rs) ts ts.length).2→Q (.ref d) H') :
  zed K a E { nx:=fun _ H'=>Q .non H',rt:=Q } (L2.zce ["lengths","plan","costs","paid","k","step"] [.ref ld,.ref pl]) H:=by
 unfold zed
 have m1:=G.m1
 have m60:=G.m60
 simp_all only [zb0,zb4,zac]
 refine fun d hd=>⟨zae,[(.inl 0,.int 0)],rfl,by decide,?_⟩
 have s0:zbt H (L2.upd (L2.upd H d (.dK [])) d (.dK (zi5 [] [(.inl 0,.int 0)]))):=by
  rw [zl8]
  exact zaj hd _
 refine ⟨⟨_,SqL.of (s0 _ _ hp)⟩,?_⟩
 refine zhP (K:=K) (xs:=xs) (fun i σ H'=>zbt H H'∧(∀ j,j<i→okT true (sh rs) ts j)∧∃ (kvs:List (Key×V)),H' d=some (.dK kvs)∧Cd m kvs (stT true (sh rs) ts i).2∧∃ x y,σ=[some (.ref ld),some (.ref pl),some (.ref d),some (.int (stT true (sh rs) ts i).1),x,y]) ⟨s0,fun j hj=>absurd hj (Nat.not_lt_zero j),[(.inl 0,.int 0)],zae,Cd.zero m1,_,_,rfl⟩ ?_ ?_ ?_
 ·rintro i σ H' _ ⟨s,_⟩
  exact SqL.of (s _ _ hp)
 ·rintro i v u σ H1 hx ⟨s1,okb,kvs,h1,C,x,y,rfl⟩ hu
  obtain ⟨t,et,hv⟩:=P.at hx
  have li:=(List.getElem?_eq_some_iff.mp et).1
  have nu:d≠u:=zaA h1 hu
  simp_all only [zb0,zb4,zac]
  refine ⟨_,SqT.of zae,rfl,_,_,rfl,_,_,rfl,rfl,?_⟩
  have s2:=zaj hu (.tup [.int (i:Int),v])
  have h2:(L2.upd H1 u (.tup [.int (i:Int),v])) u=some (.tup [.int (i:Int),v]):=zae
  generalize L2.upd H1 u (.tup [.int (i:Int),v])=H2 at s2 h2 ⊢
  have hl2:=s2 _ _ (s1 _ _ hl)
  have hv2:=(hv.same s1).same s2
  refine ⟨fun σ H'=>H'=H2∧okT true (sh rs) ts i∧σ=[some (.ref ld),some (.ref pl),some (.ref d),some (.int (stT true (sh rs) ts i).1),some (.int (i:Int)),some v],?_,?_⟩
  ·simp_all only [zb0,zb4,zac]
   refine ⟨ld,d,lk,kvs,rs,m,ts,i,v,t,rfl,hl2,L,s2 _ _ h1,C,et,hv2,fun b hb=>⟨b,rfl,zcc (fun z=>?_) (fun z=>⟨rfl,hb.mp (by simpa using z)⟩)⟩⟩
   exact fun dx ndx=>bad i li okb (fun y=>absurd ((hb.mpr y).symm.trans z) (by decide)) H2 dx (s1.trans s2) ndx
  ·rintro σ H3 ⟨rfl,ok,rfl⟩
   simp_all only [zb0,zb4,zac]
   have ok2:=ok
   obtain ⟨av,bv,e',o1,o2,o3⟩:=ok
   rw [et] at e'
   cases e'
   obtain ⟨t,rfl,ht2⟩:=hv2
   obtain ⟨l,hl3⟩:=Option.ne_none_iff_exists'.mp o3
   obtain ⟨_,_,b0,b1,_⟩:=ze8 rs G.gr _ _ _ hl3
   have ht3:H3 t=some (.tup (([.inl av,.inl bv]:List Key).map kV)):=ht2
   refine ⟨_,zfU.t (k:=[.inl av,.inl bv]) hl2 ht3 |> fun z=>by rw [L.val,hl3] at z;exact z,?_⟩
   obtain ⟨e1,e2⟩:=znT (f:=sh rs) et
   rw [hl3] at e1
   have e1':(stT true (sh rs) ts i).1+l=(stT true (sh rs) ts (i+1)).1:=e1.symm
   have hle:=C.le (by omega)
   have big:(1000:Nat)<sizeLine:=by decide
   refine ⟨l,rfl,t,rfl,_,SqT.of ht2,_,rfl,_,zjA.k (k:=.inl bv) (s2 _ _ h1) (by omega),(s1.trans s2).put hd,fun j hj=>?_,_,zae,?_,?_⟩
   ·by_cases c:j=i
    ·rw [c];exact ok2
    ·exact okb j (by omega)
   ·rw [e1',e2]
    exact C.stp b0 b1 o2
   ·rw [e1']
 ·rintro σ H1 ⟨s1,okb,kvs,h1,C,x,y,rfl⟩
  simp_all only [zb0,zb4,zac]
  rw [P.1] at C okb
  exact q okb d kvs H1 s1 h1 C
theorem zci:zbk ["lengths","plan","costs","paid","k","step"] ["lengths","plan"] (zaC zea):=⟨rfl,rfl,rfl,by decide +kernel,rfl,by decide +kernel,by decide +kernel⟩
theorem zik (T:Txt K mg a):zdV P w K mg base (CXV P w) 3 a.f_spread_costs a.d_spread_costs ["lengths","plan"] (zeg a):=by
 have G_is_spread_step:=zg9 (P:=P) (w:=w) (base:=base) T
 have G__NoPlan:=zee (P:=P) (w:=w) (base:=base) T
 refine T.F_spread_costs.okV zci (fun vs H Q E h=>?_) (fun cdv A outer s H vs Q E hr h=>?_)
 ·obtain ⟨ld,pl,lk,rs,m,xs,ts,rfl,hl,L,G,hp,hP,bad,q⟩:=h
  rfl
 obtain ⟨ld,pl,lk,rs,m,xs,ts,rfl,hl,L,G,hp,hP,bad,q⟩:=h
 exact ⟨zed K a E,(zaf (zaB (i:=2) zci.nd rfl (Or.inl rfl) (zoA (znc zah zah zob) rfl rfl (fun z=>nomatch z) (by decide)))
 (zaf (zaB (i:=3) zci.nd rfl (Or.inl rfl) zah)
 (zaf (zdg PassesOwn.leaving rfl (zmc rfl T.z_enumerate (zaa (pv 1) zag)) (zev rfl (zbd (za0 (i:=4) zci.nd rfl (Or.inl rfl)) (zbd (za0 (i:=5) zci.nd rfl (Or.inl rfl)) zdh)))
 (zaf (zbl (zbA (zdC (zcu (zaG G_is_spread_step (hr.mono (by decide)) rfl T.m_is_spread_step T.F_is_spread_step.kp T.b_is_spread_step .nil zbJ (zaa (pv 0) (zaa (pv 2) (zaa (pv 5) zag)))))) (zak (zgv T.X_NoPlan G__NoPlan (hr.mono (by decide)) rfl T.m_NoPlan T.bi_NoPlan zbJ rfl zjU (zaa (pv 4) zag))) zaE))
 (zaf (zaB (i:=3) zci.nd rfl (Or.inl rfl) (zaz zbG (pv 3) (zga (zcX hr) (pv 0) (pv 5) (fun _ _=>rfl))))
 (zak (zdM (zcX hr) (pv 2) (zbh zcw (pv 5) zah (fun _ _=>rfl)) (pv 3) rfl)))))
 (zak (zaX (pv 2)))))),
  ziv hl L G hp hP bad q⟩
theorem PlT.ix {H:Hp} {xs:List V} {ts:List Th} (P:PlT H xs ts) {k:Nat} {t:Th} (e:ts[k]?=some t):∃ v,atI xs (k:Int)=some v∧ThV H v t:=by
 obtain ⟨v,ev,hv⟩:=P.at' e
 exact ⟨v,zen ev,hv⟩
def zgZ:Sp:=fun vs H Q _=>∃ (ld pl:Addr) (lk:List (List Key×V)) (rs:List zcb) (xs:List V) (ts:List Th) (k:Nat),vs=[.ref ld,.ref pl,.int (k:Int)]∧H ld=some (.dT lk)∧zlG lk rs∧H pl=some (.lst xs)∧PlT H xs ts∧k<ts.length∧(∀ i,i<k→okT false (sh rs) ts i)∧∀ (b:Bool) (H':Hp),zbt H H'→(b=true↔okT false (sh rs) ts k)→Q (.bl b) H'
def zds (K:PySem.W.Frag):TS :=
 (zbY (zn4 (zgq (zab (tOp (zcg K) (zac 1) (tOp (rI0 fun i j=>.int (i - j)) (zac 2) (tC (.int 1)))) (zab (tOp (zcg K) (zac 1) (zac 2)) zau))) (zac 0)))
theorem zb1 (K:PySem.W.Frag) (D:zb8) (σ:St) (H:Hp):zds K D σ H=(zbY (zn4 (zgq (zab (tOp (zcg K) (zac 1) (tOp (rI0 fun i j=>.int (i - j)) (zac 2) (tC (.int 1)))) (zab (tOp (zcg K) (zac 1) (zac 2)) zau))) (zac 0))) D σ H:=rfl
def zeV (K:PySem.W.Frag):TS :=
 (zaF (zdk (zb7 (zaK (tOp rEq (zac 2) (tC (.int 0)))) (zbY (tOp rEq (tOp (zcg K) (zac 1) (tC (.int 0))) (tC (.int 0)))) zaZ))
 (zds K))
theorem zbZ (K:PySem.W.Frag) (D:zb8) (σ:St) (H:Hp):zeV K D σ H=(zaF (zdk (zb7 (zaK (tOp rEq (zac 2) (tC (.int 0)))) (zbY (tOp rEq (tOp (zcg K) (zac 1) (tC (.int 0))) (tC (.int 0)))) zaZ))
 (zds K)) D σ H:=rfl
def zej (K:PySem.W.Frag):TS :=
 (zaF (zdk (zb7 (zgs (tB (zaY zmL [] E0 (zab (tOp (zcg K) (zac 1) (zac 2)) zau)))) (zbY (tC (.bl false))) zaZ))
 (zeV K))
theorem zia {ld pl:Addr} {lk:List (List Key×V)} {rs:List zcb} {xs:List V} {ts:List Th} {k:Nat} (hl:H ld=some (.dT lk)) (L:zlG lk rs) (hp:H pl=some (.lst xs)) (P:PlT H xs ts) (hk:k<ts.length) (okb:∀ i,i<k→okT false (sh rs) ts i) (q:∀ (b:Bool) (H':Hp),zbt H H'→(b=true↔okT false (sh rs) ts k)→Q (.bl b) H') :
  zej K { nx:=fun _ H'=>Q .non H',rt:=Q } (L2.zce ["lengths","plan","k"] [.ref ld,.ref pl,.int (k:Int)]) H:=by
 unfold zej
 simp_all only [zb1,zbZ,zac]
 obtain ⟨t,et⟩:∃ t,ts[k]?=some t:=⟨_,List.getElem?_eq_getElem hk⟩
 obtain ⟨v,iv,hv⟩:=P.ix et
 refine ⟨fun σ H'=>H'=H∧(∃ b,t=.n b)∧σ=[some (.ref ld),some (.ref pl),some (.int (k:Int))],?_,?_⟩
 ·simp_all only [zb1,zbZ,zac]
  refine ⟨_,SqL.of hp,_,iv,v,t,rfl,hv,_,rfl,?_⟩
  cases t with
  | n b=>exact zcc (fun z=>nomatch (show true=false from z)) (fun _=>⟨rfl,b,rfl⟩)
  | p x y =>
   refine zcc (fun _=>q false H (.refl _) ⟨(fun z=>nomatch z),fun z=>?_⟩) (fun z=>absurd rfl z)
   obtain ⟨b,e',_⟩:=z
   rw [et] at e'
   cases e'
 ·rintro σ H' ⟨e,⟨b,rfl⟩,rfl⟩
  rw [e]
  cases hv
  simp_all only [zb1,zbZ,zac]
  refine ⟨fun σ H'=>k≠0∧H'=H∧σ=[some (.ref ld),some (.ref pl),some (.int (k:Int))],?_,?_⟩
  ·simp_all only [zb1,zbZ,zac]
   refine zcc (fun c=>?_) (fun c=>by omega)
   have k0:k=0:=by omega
   subst k0
   refine ⟨_,SqL.of hp,_,iv,rfl,?_⟩
   refine q _ H (.refl _) ?_
   constructor
   ·intro z
    have z:=of_decide_eq_true z
    exact ⟨b,et,.inl ⟨rfl,by injection z⟩⟩
   ·rintro ⟨b',e',h⟩
    rw [et] at e'
    cases e'
    rcases h with ⟨_,rfl⟩ | ⟨z,_⟩
    ·exact decide_eq_true rfl
    ·omega
  ·rintro σ H' ⟨k0,e,rfl⟩
   rw [e]
   simp_all only [zb1,zbZ,zac]
   obtain ⟨j,rfl⟩:∃ j,k=j+1:=⟨k - 1,by omega⟩
   obtain ⟨c,ec,_⟩:=okb j (by omega)
   obtain ⟨v',ij,hv'⟩:=P.ix ec
   cases hv'
   refine ⟨_,SqL.of hp,_,by rw [show ((j+1:Nat):Int) - 1=(j:Int) by omega];exact ij,_,SqL.of hp,_,iv,by decide,fun u hu=>?_⟩
   have s1:=zaj hu (.tup [.int c,.int b])
   have h1:(L2.upd H u (.tup [.int c,.int b])) u=some (.tup [.int c,.int b]):=zae
   generalize L2.upd H u (.tup [.int c,.int b])=H1 at s1 h1 ⊢
   have h1':H1 u=some (.tup (([.inl c,.inl b]:List Key).map kV)):=h1
   refine ⟨_,zfU.t (s1 _ _ hl) h1',?_⟩
   refine q _ H1 s1 ?_
   rw [L.val]
   have iff:okT false (sh rs) ts (j+1)↔sh rs c b≠none:=by
    constructor
    ·rintro ⟨b',e',h⟩
     rw [et] at e'
     cases e'
     rcases h with ⟨z,_⟩ | ⟨_,h⟩
     ·omega
     ·rw [Nat.add_sub_cancel,zh1 ec] at h
      exact h
    ·intro h
     exact ⟨b,et,.inr ⟨by omega,by rw [Nat.add_sub_cancel,zh1 ec];exact h⟩⟩
   rw [iff]
   cases sh rs c b <;> simp
theorem ziu:zbk ["lengths","plan","k"] ["lengths","plan","k"] (zaC zeh):=⟨rfl,rfl,rfl,by decide +kernel,rfl,by decide +kernel,by decide +kernel⟩
theorem zii (T:Txt K mg a):zdV P w K mg base CX0 2 a.f_is_walk_step a.d_is_walk_step ["lengths","plan","k"] zgZ:=by
 have G_is_whole2:=zkE (P:=P) (w:=w) (base:=base) T
 refine T.F_is_walk_step.ok ziu (fun vs H Q E h=>?_) (fun cdv A outer s H vs Q E hr h=>?_)
 ·obtain ⟨ld,pl,lk,rs,xs,ts,k,rfl,hl,L,hp,hP,hk,okb,q⟩:=h
  rfl
 obtain ⟨ld,pl,lk,rs,xs,ts,k,rfl,hl,L,hp,hP,hk,okb,q⟩:=h
 exact ⟨zej K,(zaf (zbl (zbA (zdC (zcu (zaG G_is_whole2 (hr.mono (by decide)) rfl T.m_is_whole T.F_is_whole.kp T.b_is_whole .nil zbJ (zaa (zbh zaJ (pv 1) (pv 2) (fun _ _=>rfl)) zag)))) (zak (zaX zfc)) zaE))
 (zaf (zbl (zbA (zaI zdE (pv 2) zah (zaT _)) (zak (zaX (zcq zdE (zbh zaJ (pv 1) zah (fun _ _=>rfl)) zah (zaT _)))) zaE))
 (zak (zaX (zmY (zk3 (zcX hr) (zdB (zaa (zbh zaJ (pv 1) (zaz zgt (pv 2) zah) (fun _ _=>rfl)) (zaa (zbh zaJ (pv 1) (pv 2) (fun _ _=>rfl)) zag))) (pv 0))))))),
  zia hl L hp hP hk okb q⟩
def zfw (a:Ad):Sp:=fun vs H Q E=>∃ (ld pl:Addr) (lk:List (List Key×V)) (rs:List zcb) (m:Int) (xs:List V) (ts:List Th),vs=[.ref ld,.ref pl]∧H ld=some (.dT lk)∧zlG lk rs∧GW m rs∧H pl=some (.lst xs)∧PlT H xs ts ∧
 (∀ k,k<ts.length→(∀ i,i<k→okT false (sh rs) ts i)→¬ okT false (sh rs) ts k→zrU a E H k)∧((∀ i,i<ts.length→okT false (sh rs) ts i)→∀ (d:Addr) (kvs:List (Key×V)) (H':Hp),zbt H H'→H' d=some (.dK kvs)→Cd m kvs (stT false (sh rs) ts ts.length).2→Q (.ref d) H')
def zf0 (K:PySem.W.Frag):TS :=
 (zb7 (zaK (tOp (rI0 fun i j=>.bl (decide (j<i))) (zac 4) (tC (.int 0)))) (zbj (tOp (rI0 fun i j=>.int (i+j)) (zac 3) (ze0 (zac 0) (zgq (zab (tOp (zcg K) (zac 1) (tOp (rI0 fun i j=>.int (i - j)) (zac 4) (tC (.int 1)))) (zab (zac 5) zau))))) (zal 3)) zaZ)
theorem zby (K:PySem.W.Frag) (D:zb8) (σ:St) (H:Hp):zf0 K D σ H=(zb7 (zaK (tOp (rI0 fun i j=>.bl (decide (j<i))) (zac 4) (tC (.int 0)))) (zbj (tOp (rI0 fun i j=>.int (i+j)) (zac 3) (ze0 (zac 0) (zgq (zab (tOp (zcg K) (zac 1) (tOp (rI0 fun i j=>.int (i - j)) (zac 4) (tC (.int 1)))) (zab (zac 5) zau))))) (zal 3)) zaZ) D σ H:=rfl
def zf3 (a:Ad) (E:XK):TS :=
 (zb7 (zgs (tB (zaY zgZ [] E0 (zab (zac 0) (zab (zac 1) (zab (zac 4) zau)))))) (zeA a.c_NoPlan "at" E (zab (zac 4) zau)) zaZ)
theorem zbw (a:Ad) (E:XK) (D:zb8) (σ:St) (H:Hp):zf3 a E D σ H=(zb7 (zgs (tB (zaY zgZ [] E0 (zab (zac 0) (zab (zac 1) (zab (zac 4) zau)))))) (zeA a.c_NoPlan "at" E (zab (zac 4) zau)) zaZ) D σ H:=rfl
def zfi (K:PySem.W.Frag) (a:Ad) (E:XK):TS :=
 (zaF (zbj zim (zal 2))
 (zaF (zbj (tC (.int 0)) (zal 3))
 (zaF (zgX (znx K (zab (zac 1) zau)) (ziz K 2 (zbW (zal 4) (zbW (zal 5) ziy)))
 (zaF (zdk (zf3 a E))
 (zaF (zdk (zf0 K))
 (zdD (zoP (zac 2) (zac 5) (zac 3))))))
 (zbY (zac 2)))))
theorem zjY {E:XK} {ld pl:Addr} {lk:List (List Key×V)} {rs:List zcb} {m:Int} {xs:List V} {ts:List Th} (hl:H ld=some (.dT lk)) (L:zlG lk rs) (G:GW m rs) (hp:H pl=some (.lst xs)) (P:PlT H xs ts)
  (bad:∀ k,k<ts.length→(∀ i,i<k→okT false (sh rs) ts i)→¬ okT false (sh rs) ts k→zrU a E H k) (q:(∀ i,i<ts.length→okT false (sh rs) ts i)→∀ (d:Addr) (kvs:List (Key×V)) (H':Hp),zbt H H'→H' d=some (.dK kvs)→Cd m kvs (stT false (sh rs) ts ts.length).2→Q (.ref d) H') :
  zfi K a E { nx:=fun _ H'=>Q .non H',rt:=Q } (L2.zce ["lengths","plan","costs","paid","k","place"] [.ref ld,.ref pl]) H:=by
 unfold zfi
 have m1:=G.m1
 have m60:=G.m60
 simp_all only [zby,zbw,zac]
 intro d hd
 have s0:=zaj hd (.dK [])
 refine ⟨⟨_,SqL.of (s0 _ _ hp)⟩,?_⟩
 refine zhP (K:=K) (xs:=xs) (fun i σ H'=>zbt H H'∧(∀ j,j<i→okT false (sh rs) ts j)∧∃ (kvs:List (Key×V)),H' d=some (.dK kvs)∧Cd m kvs (stT false (sh rs) ts i).2∧∃ x y,σ=[some (.ref ld),some (.ref pl),some (.ref d),some (.int (stT false (sh rs) ts i).1),x,y]) ⟨s0,fun j hj=>absurd hj (Nat.not_lt_zero j),[],zae,Cd.nil0,_,_,rfl⟩ ?_ ?_ ?_
 ·rintro i σ H' _ ⟨s,_⟩
  exact SqL.of (s _ _ hp)
 ·rintro i v u σ H1 hx ⟨s1,okb,kvs,h1,C,x,y,rfl⟩ hu
  obtain ⟨t,et,hv⟩:=P.at hx
  have li:=(List.getElem?_eq_some_iff.mp et).1
  have nu:d≠u:=zaA h1 hu
  simp_all only [zby,zbw,zac]
  refine ⟨_,SqT.of zae,rfl,_,_,rfl,_,_,rfl,rfl,?_⟩
  have s2:=zaj hu (.tup [.int (i:Int),v])
  have h2:(L2.upd H1 u (.tup [.int (i:Int),v])) u=some (.tup [.int (i:Int),v]):=zae
  generalize L2.upd H1 u (.tup [.int (i:Int),v])=H2 at s2 h2 ⊢
  refine ⟨fun σ H'=>zbt H2 H'∧okT false (sh rs) ts i∧σ=[some (.ref ld),some (.ref pl),some (.ref d),some (.int (stT false (sh rs) ts i).1),some (.int (i:Int)),some v],?_,?_⟩
  ·simp_all only [zby,zbw,zac]
   refine ⟨ld,pl,lk,rs,xs,ts,i,rfl,s2 _ _ (s1 _ _ hl),L,s2 _ _ (s1 _ _ hp),(P.same s1).same s2,li,okb,fun b H3 s3 hb=>⟨b,rfl,zcc (fun z=>?_) (fun z=>⟨s3,hb.mp (by simpa using z)⟩)⟩⟩
   exact fun dx ndx=>bad i li okb (fun y=>absurd ((hb.mpr y).symm.trans z) (by decide)) H3 dx ((s1.trans s2).trans s3) ndx
  ·rintro σ H3 ⟨s3,ok,rfl⟩
   simp_all only [zby,zbw,zac]
   have s13:=s2.trans s3
   have ok2:=ok
   obtain ⟨b,e',hb⟩:=ok
   rw [et] at e'
   cases e'
   cases hv
   obtain ⟨e1,e2⟩:=zqN (f:=sh rs) ok2 et
   have rb:=zoB G ok2 et
   refine ⟨fun σ H'=>zbt H3 H'∧σ=[some (.ref ld),some (.ref pl),some (.ref d),some (.int (stT false (sh rs) ts (i+1)).1),some (.int (i:Int)),some (.int b)],?_,?_⟩
   ·simp_all only [zby,zbw,zac]
    refine zcc (fun c=>?_) (fun c=>?_)
    ·obtain ⟨j,rfl⟩:∃ j,i=j+1:=⟨i - 1,by omega⟩
     obtain ⟨c',ec,_⟩:=okb j (by omega)
     obtain ⟨v',ij,hv'⟩:=P.ix ec
     cases hv'
     refine ⟨_,SqL.of (s13 _ _ (s1 _ _ hp)),_,by rw [show ((j+1:Nat):Int) - 1=(j:Int) by omega];exact ij,by decide,fun v hv=>?_⟩
     rw [if_neg (by omega),Nat.add_sub_cancel,zh1 ec] at e1
     rcases hb with ⟨z,_⟩ | ⟨_,h⟩
     ·omega
     rw [Nat.add_sub_cancel,zh1 ec] at h
     obtain ⟨l,hl3⟩:=Option.ne_none_iff_exists'.mp h
     rw [hl3] at e1
     have hv1:=zaj hv (.tup [.int c',.int b])
     have hv2:(L2.upd H3 v (.tup [.int c',.int b])) v=some (.tup (([.inl c',.inl b]:List Key).map kV)):=zae
     have hg:=zfU.t (hv1 _ _ (s13 _ _ (s1 _ _ hl))) hv2
     rw [L.val,hl3] at hg
     exact ⟨_,hg,l,rfl,hv1,by rw [e1];rfl⟩
    ·have:i=0:=by omega
     subst this
     rw [if_pos rfl,Int.add_zero] at e1
     rw [e1]
     exact ⟨.refl _,rfl⟩
   ·rintro σ H4 ⟨s4,rfl⟩
    simp_all only [zby,zbw,zac]
    have s14:=s13.trans s4
    have h4:=s14 _ _ h1
    have big:(1000:Nat)<sizeLine:=by decide
    have hle:=C.le (by omega)
    have okn:∀ j,j<i+1→okT false (sh rs) ts j:=fun j hj=>by
     by_cases c:j=i
     ·rw [c];exact ok2
     ·exact okb j (by omega)
    refine ⟨.inl ⟨kvs,.inl h4⟩,kvs,h4,.inl b,rfl,by omega,fun v hv=>?_,fun hv=>?_⟩
    ·have hn:(stT false (sh rs) ts i).2 b≠none:=fun z=>by
      rw [C.val,z] at hv
      cases hv
     refine ⟨s1.trans s14,okn,kvs,h4,?_⟩
     rw [e2,zoK hn]
     exact C
    ·have hn:(stT false (sh rs) ts i).2 b=none:=by
      rw [C.val] at hv
      exact Option.map_eq_none_iff.mp hv
     refine ⟨(s1.trans s14).put hd,okn,_,zae,?_⟩
     rw [e2]
     exact C.stp rb.1 rb.2 hn
 ·rintro σ H1 ⟨s1,okb,kvs,h1,C,x,y,rfl⟩
  simp_all only [zby,zbw,zac]
  rw [P.1] at C okb
  exact q okb d kvs H1 s1 h1 C
theorem zcR:zbk ["lengths","plan","costs","paid","k","place"] ["lengths","plan"] (zaC zfC):=⟨rfl,rfl,rfl,by decide +kernel,rfl,by decide +kernel,by decide +kernel⟩
theorem zjQ (T:Txt K mg a):zdV P w K mg base (CXV P w) 3 a.f_walk_costs a.d_walk_costs ["lengths","plan"] (zfw a):=by
 have G_is_walk_step:=zii (P:=P) (w:=w) (base:=base) T
 have G__NoPlan:=zee (P:=P) (w:=w) (base:=base) T
 refine T.F_walk_costs.okV zcR (fun vs H Q E h=>?_) (fun cdv A outer s H vs Q E hr h=>?_)
 ·obtain ⟨ld,pl,lk,rs,m,xs,ts,rfl,hl,L,G,hp,hP,bad,q⟩:=h
  rfl
 obtain ⟨ld,pl,lk,rs,m,xs,ts,rfl,hl,L,G,hp,hP,bad,q⟩:=h
 exact ⟨zfi K a E,(zaf (zaB (i:=2) zcR.nd rfl (Or.inl rfl) zhF)
 (zaf (zaB (i:=3) zcR.nd rfl (Or.inl rfl) zah)
 (zaf (zdg PassesOwn.leaving rfl (zmc rfl T.z_enumerate (zaa (pv 1) zag)) (zev rfl (zbd (za0 (i:=4) zcR.nd rfl (Or.inl rfl)) (zbd (za0 (i:=5) zcR.nd rfl (Or.inl rfl)) zdh)))
 (zaf (zbl (zbA (zdC (zcu (zaG G_is_walk_step (hr.mono (by decide)) rfl T.m_is_walk_step T.F_is_walk_step.kp T.b_is_walk_step .nil zbJ (zaa (pv 0) (zaa (pv 1) (zaa (pv 4) zag)))))) (zak (zgv T.X_NoPlan G__NoPlan (hr.mono (by decide)) rfl T.m_NoPlan T.bi_NoPlan zbJ rfl zjU (zaa (pv 4) zag))) zaE))
 (zaf (zbl (zbA (zaI znD (pv 4) zah (zaT _)) (zak (zaB (i:=3) zcR.nd rfl (Or.inl rfl) (zaz zbG (pv 3) (zga (zcX hr) (pv 0) (zdB (zaa (zbh zaJ (pv 1) (zaz zgt (pv 4) zah) (fun _ _=>rfl)) (zaa (pv 5) zag))) (fun _ _=>rfl))))) zaE))
 (zak (zdr (zqg (zcX hr) (pv 2) (pv 5) (pv 3) ⟨rfl,rfl,rfl,rfl⟩))))))
 (zak (zaX (pv 2)))))),
  zjY hl L G hp hP bad q⟩
def zgF (a:Ad):Sp:=fun vs H Q E=>∃ (ld pl:Addr) (lk:List (List Key×V)) (rs:List zcb) (m:Int) (sp:Bool) (xs:List V) (ts:List Th),vs=[.int m,.ref ld,.str (kdS sp),.ref pl]∧H ld=some (.dT lk)∧zlG lk rs∧GW m rs∧H pl=some (.lst xs)∧PlT H xs ts∧ts.length≤100000 ∧
 (∀ k,zjn sp (sh rs) m ts (some k)→zrU a E H k)∧(zjn sp (sh rs) m ts none→∀ (r:Addr) (H':Hp),zbt H H'→H' r=some (.lst ((zj4 m (stT sp (sh rs) ts ts.length).2).map V.int))→Q (.ref r) H')
def zc8 (K:PySem.W.Frag) (a:Ad) (E:XK):TS :=
 (zb7 (zaK (tOp (rI0 fun i j=>.bl (decide (i<j))) (tCB zk8 (zab (zac 4) zau)) (zac 0))) (zeA a.c_NoPlan "at" E (zab (tCB (fun xs H Q=>∃ p ys,xs=[.ref p]∧(SqL K H p ys∨SqT K H p ys)∧Q (.int ys.length) H) (zab (zac 3) zau)) zau)) zaZ)
theorem zbR (K:PySem.W.Frag) (a:Ad) (E:XK) (D:zb8) (σ:St) (H:Hp):zc8 K a E D σ H=(zb7 (zaK (tOp (rI0 fun i j=>.bl (decide (i<j))) (tCB zk8 (zab (zac 4) zau)) (zac 0))) (zeA a.c_NoPlan "at" E (zab (tCB (fun xs H Q=>∃ p ys,xs=[.ref p]∧(SqL K H p ys∨SqT K H p ys)∧Q (.int ys.length) H) (zab (zac 3) zau)) zau)) zaZ) D σ H:=rfl
def zfd (K:PySem.W.Frag) (a:Ad) (E:XK):TS :=
 (zaF (zbj (tIf (zaK (tOp rEq (zac 2) (tC (.str "walk")))) (zaY (zfw a) [] E (zab (zac 1) (zab (zac 3) zau))) (zaY (zeg a) [] E (zab (zac 1) (zab (zac 3) zau)))) (zal 4))
 (zaF (zdk (zc8 K a E))
 (zbY (zgh (zer (zab (zac 0) zau)) (zal 0) zdP (ze0 (zac 1) (zac 0)) [none,some 4]))))
theorem zbK (K:PySem.W.Frag) (a:Ad) (E:XK) (D:zb8) (σ:St) (H:Hp):zfd K a E D σ H=(zaF (zbj (tIf (zaK (tOp rEq (zac 2) (tC (.str "walk")))) (zaY (zfw a) [] E (zab (zac 1) (zab (zac 3) zau))) (zaY (zeg a) [] E (zab (zac 1) (zab (zac 3) zau)))) (zal 4))
 (zaF (zdk (zc8 K a E))
 (zbY (zgh (zer (zab (zac 0) zau)) (zal 0) zdP (ze0 (zac 1) (zac 0)) [none,some 4])))) D σ H:=rfl
def zeH (K:PySem.W.Frag) (a:Ad) (E:XK):TS :=
 (zaF (zdk (zb7 (zgs (tB (tCB (zdT K) (zab (zac 3) (zab (tC (.ty "list")) zau))))) (zeA a.c_NoPlan "at" E (zab (tC (.int 0)) zau)) zaZ))
 (zfd K a E))
theorem ziN {E:XK} {ld pl:Addr} {lk:List (List Key×V)} {rs:List zcb} {m:Int} {sp:Bool} {xs:List V} {ts:List Th} (hl:H ld=some (.dT lk)) (L:zlG lk rs) (G:GW m rs) (hp:H pl=some (.lst xs)) (P:PlT H xs ts) (tl:ts.length≤100000)
  (bad:∀ k,zjn sp (sh rs) m ts (some k)→zrU a E H k) (q:zjn sp (sh rs) m ts none→∀ (r:Addr) (H':Hp),zbt H H'→H' r=some (.lst ((zj4 m (stT sp (sh rs) ts ts.length).2).map V.int))→Q (.ref r) H') :
  zeH K a E { nx:=fun _ H'=>Q .non H',rt:=Q } (L2.zce ["many","lengths","kind","plan","costs"] [.int m,.ref ld,.str (kdS sp),.ref pl]) H:=by
 unfold zeH
 have m1:=G.m1
 have m60:=G.m60
 generalize hkd:(kdS sp)=kd
 simp_all only [zbR,zbK,zac]
 refine ⟨fun σ H'=>H'=H∧σ=[some (.int m),some (.ref ld),some (.str kd),some (.ref pl),none],?_,?_⟩
 ·simp_all only [zbR,zbK,zac]
  refine zdS hp ⟨true,rfl,?_⟩
  exact zcc (fun z=>absurd z (by decide)) (fun _=>rfl)
 ·rintro σ H' ⟨e,rfl⟩
  rw [e]
  simp_all only [zbR,zbK,zac]
  have fin:(∀ i,i<ts.length→okT sp (sh rs) ts i)→∀ (d:Addr) (kvs:List (Key×V)) (H1:Hp),zbt H H1→H1 d=some (.dK kvs)→Cd m kvs (stT sp (sh rs) ts ts.length).2→zdk (zc8 K a E) { nx:=zbY (zgh (zer (zab (zac 0) zau)) (zal 0) zdP (ze0 (zac 1) (zac 0)) [none,some 4]) { nx:=fun x H'=>Q V.non H',rt:=Q },rt:=Q } [some (.int m),some (.ref ld),some (.str kd),some (.ref pl),some (.ref d)] H1:=by
   intro ok d kvs H1 s1 h1 C
   refine ⟨fun σ H'=>H'=H1∧m≤(kvs.length:Int)∧σ=[some (.int m),some (.ref ld),some (.str kd),some (.ref pl),some (.ref d)],?_,?_⟩
   ·simp_all only [zbR,zbK,zac]
    refine ⟨_,h1,zcc (fun z=>?_) (fun z=>by omega)⟩
    refine ⟨_,.inl (SqL.of (s1 _ _ hp)),fun dx ndx=>?_⟩
    rw [P.1]
    exact bad ts.length (.inr ⟨ok,.inl ⟨rfl,fun cov=>absurd (C.ge cov) (by omega)⟩⟩) H1 dx s1 ndx
   ·rintro σ H2 ⟨e,hge,rfl⟩
    rw [e]
    have hall:=C.cov hge
    have due:zjn sp (sh rs) m ts none:=.inr ⟨ok,.inr ⟨rfl,hall⟩⟩
    generalize hc:(stT sp (sh rs) ts ts.length).2=c at C hall q
    simp_all only [zbR,zbK,zac]
    refine ⟨by omega,by omega,fun r hr=>?_⟩
    refine zeP (fun i ys σ H'=>zbt H1 H'∧ys=((List.range i).map fun k:Nat=>(c (k:Int)).getD 0).map V.int∧∃ k,σ=[k,some (.ref d)]) ⟨zaj hr _,rfl,_,rfl⟩ ?_ ?_
    ·rintro i ys σ H3 hi hr3 ⟨s3,rfl,k,rfl⟩
     simp_all only [zbR,zbK,zac]
     obtain ⟨v,hv⟩:=Option.ne_none_iff_exists'.mp (hall (i:Int) (by omega) (by omega))
     have hg:=zfU.k (k:=.inl (i:Int)) (s3 _ _ h1)
     rw [C.val,hv] at hg
     refine ⟨.int v,by rw [Int.zero_add];exact hg,_,hr3,zet (by rw [List.length_map,List.length_map,List.length_range];omega),_,zae,s3.put hr,?_⟩
     rw [List.range_succ,List.map_append,List.map_append]
     simp only [List.map_cons,List.map_nil,hv]
     rfl
    ·rintro ys σ H3 hr3 ⟨s3,rfl,k,rfl⟩
     exact q due r H3 (s1.trans s3) hr3
  cases sp with
  | false =>
   have hkd:("walk":Str)=kd:=hkd
   subst hkd
   refine ⟨rfl,zcc (fun _=>?_) (fun z=>absurd (by first | trivial | rfl) z)⟩
   exact ⟨ld,pl,lk,rs,m,xs,ts,rfl,hl,L,G,hp,P,fun k lk okb nok=>bad k (.inl ⟨k,rfl,lk,okb,nok⟩),fun ok d kvs H1 s1 h1 C=>fin ok d kvs H1 s1 h1 C⟩
  | true =>
   have hkd:("spread":Str)=kd:=hkd
   subst hkd
   refine ⟨rfl,zcc (fun z=>absurd z (by decide +kernel)) (fun _=>?_)⟩
   exact ⟨ld,pl,lk,rs,m,xs,ts,rfl,hl,L,G,hp,P,fun k lk okb nok=>bad k (.inl ⟨k,rfl,lk,okb,nok⟩),fun ok d kvs H1 s1 h1 C=>fin ok d kvs H1 s1 h1 C⟩
theorem zfW:zbk ["many","lengths","kind","plan","costs"] ["many","lengths","kind","plan"] (zaC zdI):=⟨rfl,rfl,rfl,by decide +kernel,rfl,by decide +kernel,by decide +kernel⟩
theorem zi0 (T:Txt K mg a):zdV P w K mg base (CXV P w) 4 a.f_whole_costs a.d_whole_costs ["many","lengths","kind","plan"] (zgF a):=by
 have G_spread_costs:=zik (P:=P) (w:=w) (base:=base) T
 have G_walk_costs:=zjQ (P:=P) (w:=w) (base:=base) T
 have G__NoPlan:=zee (P:=P) (w:=w) (base:=base) T
 refine T.F_whole_costs.okV zfW (fun vs H Q E h=>?_) (fun cdv A outer s H vs Q E hr h=>?_)
 ·obtain ⟨ld,pl,lk,rs,m,sp,xs,ts,rfl,hl,L,G,hp,hP,tl,bad,q⟩:=h
  rfl
 obtain ⟨ld,pl,lk,rs,m,sp,xs,ts,rfl,hl,L,G,hp,hP,tl,bad,q⟩:=h
 exact ⟨zeH K a E,(zaf (zbl (zbA (zdC (zcu (zai zaw rfl T.z_isinstance PyProof.Rows.boot_isinstance (zaa (pv 3) (zaa (zbc rfl T.z_list zcZ rfl) zag))))) (zak (zgv T.X_NoPlan G__NoPlan (hr.mono (by decide)) rfl T.m_NoPlan T.bi_NoPlan zbJ rfl zjU (zaa zah zag))) zaE))
 (zaf (zaB (i:=4) zfW.nd rfl (Or.inr rfl) (zqO (zaI zdE (pv 2) zdX (zaT _)) (zaG G_walk_costs (hr.mono (by decide)) rfl T.m_walk_costs T.F_walk_costs.kp T.b_walk_costs .nil zrl (zaa (pv 1) (zaa (pv 3) zag))) (zaG G_spread_costs (hr.mono (by decide)) rfl T.m_spread_costs T.F_spread_costs.kp T.b_spread_costs .nil zrl (zaa (pv 1) (zaa (pv 3) zag)))))
 (zaf (zbl (zbA (zaI zl4 (zai zgu rfl T.z_len PySem.boot_len (zaa (pv 4) zag)) (pv 0) (zaT _)) (zak (zgv T.X_NoPlan G__NoPlan (hr.mono (by decide)) rfl T.m_NoPlan T.bi_NoPlan zbJ rfl zjU (zaa (zai zax rfl T.z_len PySem.boot_len (zaa (pv 3) zag)) zag))) zaE))
 (zak (zaX (zmw (sc:=zaC zdI) (N:=["many","lengths","kind","plan","costs"]) (Nc:=["place","costs"]) (cap:=[none,some 4]) rfl rfl rfl (.of (by decide +kernel)) (zcD rfl T.z_range (zaa (pv 0) zag)) (fun _ _ _ _=>(za0 (i:=0) (show List.Nodup (["place","costs"]:List Str) from by decide) rfl (Or.inl rfl))) (fun _ _ _ _=>zir) (fun _ _ _ _=>(zga (zcX hr) (pv 1) (pv 0) (fun _ _=>rfl))))))))),
  ziN hl L G hp hP tl bad q⟩
def zjc (a:Ad):Sp:=fun vs H Q E=>∃ (w rl pl:Addr) (us:List Addr) (rs:List zcb) (m:Int) (kd:Str) (xs:List V) (ts:List Th),vs=[.ref w,.str kd,.ref pl]∧zmf H w rl us m rs∧GW m rs∧H pl=some (.lst xs)∧PlT H xs ts∧ts.length≤100000 ∧
 ((kd∈zrd∧∀ H',zbt H H'→E (.ref a.c_NoKind) none H')∨∃ sp:Bool,kd=(kdS sp)∧(∀ k,zjn sp (sh rs) m ts (some k)→zrU a E H k)∧(zjn sp (sh rs) m ts none→∀ (r:Addr) (H':Hp),zbt H H'→H' r=some (.lst ((zj4 m (stT sp (sh rs) ts ts.length).2).map V.int))→Q (.ref r) H'))
def zg1 (K:PySem.W.Frag) (a:Ad) (E:XK):TS :=
 (zaF (zdD (zaY zlo [] E0 (zab (zac 0) zau)))
 (zaF (zdD (zaY (zh8 a) [] E (zab (zac 1) zau)))
 (zbY (zaY (zgF a) [] E (zab (tOp (zdz K) (zac 0) (tC (.int 0))) (zab (zaY zpX [] E0 (zab (zac 0) zau)) (zab (zac 1) (zab (zac 2) zau))))))))
theorem zmF {E:XK} {w rl pl:Addr} {us:List Addr} {rs:List zcb} {m:Int} {kd:Str} {xs:List V} {ts:List Th} (W:zmf H w rl us m rs) (G:GW m rs) (hp:H pl=some (.lst xs)) (P:PlT H xs ts) (tl:ts.length≤100000)
  (h:(kd∈zrd∧∀ H',zbt H H'→E (.ref a.c_NoKind) none H')∨∃ sp:Bool,kd=(kdS sp)∧(∀ k,zjn sp (sh rs) m ts (some k)→zrU a E H k)∧(zjn sp (sh rs) m ts none→∀ (r:Addr) (H':Hp),zbt H H'→H' r=some (.lst ((zj4 m (stT sp (sh rs) ts ts.length).2).map V.int))→Q (.ref r) H')) :
  zg1 K a E { nx:=fun _ H'=>Q .non H',rt:=Q } (L2.zce ["web","kind","plan"] [.ref w,.str kd,.ref pl]) H:=by
 unfold zg1
 simp_all only [zac]
 refine ⟨w,rl,us,m,rs,rfl,W,G,fun H1 s1=>?_⟩
 rcases h with ⟨ho,e⟩ | ⟨sp,rfl,bad,q⟩
 ·exact ⟨kd,rfl,.inr ⟨ho,e H1 s1⟩⟩
 refine ⟨_,rfl,.inl ⟨?_,?_⟩⟩
 ·cases sp with
  | true=>exact .inr rfl
  | false=>exact .inl rfl
 have W1:=W.same s1
 refine ⟨_,SqT.of W1.hw,_,rfl,?_⟩
 refine ⟨w,rl,us,m,rs,rfl,W1,G.l120,fun d kvs H2 s2 h2 hL _=>?_⟩
 have s12:=s1.trans s2
 exact ⟨d,pl,kvs,rs,m,sp,xs,ts,rfl,h2,hL,G,s12 _ _ hp,P.same s12,tl,fun k hk H3 dx s3 ndx=>bad k hk H3 dx (s12.trans s3) ndx,fun hd r H3 s3 h3=>q hd r H3 (s12.trans s3) h3⟩
theorem zlW:zbk ["web","kind","plan"] ["web","kind","plan"] (zaC zhh):=⟨rfl,rfl,rfl,by decide +kernel,rfl,by decide +kernel,by decide +kernel⟩
theorem zlO (T:Txt K mg a):zdV P w K mg base (CXV P w) 5 a.f_costs_of a.d_costs_of ["web","kind","plan"] (zjc a):=by
 have G_look_kind:=zkp (P:=P) (w:=w) (base:=base) T
 have G_look_web:=zmu (P:=P) (w:=w) (base:=base) T
 have G_shortest_roads:=zhc (P:=P) (w:=w) (base:=base) T
 have G_whole_costs:=zi0 (P:=P) (w:=w) (base:=base) T
 refine T.F_costs_of.okV zlW (fun vs H Q E h=>?_) (fun cdv A outer s H vs Q E hr h=>?_)
 ·obtain ⟨w',rl,pl,us,rs,m,kd,xs,ts,rfl,W,G,hp,hP,tl,h⟩:=h
  rfl
 obtain ⟨w',rl,pl,us,rs,m,kd,xs,ts,rfl,W,G,hp,hP,tl,h⟩:=h
 exact ⟨zg1 K a E,(zaf (zdr (zaG G_look_web (hr.mono (by decide)) rfl T.m_look_web T.F_look_web.kp T.b_look_web .nil zbJ (zaa (pv 0) zag)))
 (zaf (zdr (zaG G_look_kind (hr.mono (by decide)) rfl T.m_look_kind T.F_look_kind.kp T.b_look_kind .nil zrl (zaa (pv 1) zag)))
 (zak (zaX (zaG G_whole_costs (hr.mono (by decide)) rfl T.m_whole_costs T.F_whole_costs.kp T.b_whole_costs .nil zrl (zaa (zbh zcw (pv 0) zah (fun _ _=>rfl)) (zaa (zaG G_shortest_roads (hr.mono (by decide)) rfl T.m_shortest_roads T.F_shortest_roads.kp T.b_shortest_roads .nil zbJ (zaa (pv 0) zag)) (zaa (pv 1) (zaa (pv 2) zag))))))))),
  zmF W G hp hP tl h⟩
def zf7:TS :=
 (zaF (zbj (tOp (rI0 fun i j=>.int (i+j)) (tOp (rI (fun _ j=>0<j) fun i j=>.int (i % j)) (zac 3) (tOp (rI znk fun i j=>.int (i ^ j.toNat)) (tC (.int 10)) (tC (.int 18)))) (tOp (rI IntMulOk fun i j=>.int (i*j)) (tC (.int 48271)) (tOp (rI0 fun i j=>.int (i+j)) (zac 1) (tC (.int 1))))) (zal 5))
 (zaF (zbj (tOp (rI0 fun i j=>.int (i+j)) (tOp (rI (fun _ j=>0<j) fun i j=>.int (i % j)) (tOp (rI IntMulOk fun i j=>.int (i*j)) (zac 5) (zac 5)) (tC (.int 2147483629))) (tOp (rI IntMulOk fun i j=>.int (i*j)) (tC (.int 69621)) (zac 1))) (zal 5))
 (zbY (tOp (rI (fun _ j=>0<j) fun i j=>.int (i % j)) (tOp (rI IntMulOk fun i j=>.int (i*j)) (zac 5) (zac 5)) (tC (.int 2147483587))))))
theorem zbn (D:zb8) (σ:St) (H:Hp):zf7 D σ H=(zaF (zbj (tOp (rI0 fun i j=>.int (i+j)) (tOp (rI (fun _ j=>0<j) fun i j=>.int (i % j)) (zac 3) (tOp (rI znk fun i j=>.int (i ^ j.toNat)) (tC (.int 10)) (tC (.int 18)))) (tOp (rI IntMulOk fun i j=>.int (i*j)) (tC (.int 48271)) (tOp (rI0 fun i j=>.int (i+j)) (zac 1) (tC (.int 1))))) (zal 5))
 (zaF (zbj (tOp (rI0 fun i j=>.int (i+j)) (tOp (rI (fun _ j=>0<j) fun i j=>.int (i % j)) (tOp (rI IntMulOk fun i j=>.int (i*j)) (zac 5) (zac 5)) (tC (.int 2147483629))) (tOp (rI IntMulOk fun i j=>.int (i*j)) (tC (.int 69621)) (zac 1))) (zal 5))
 (zbY (tOp (rI (fun _ j=>0<j) fun i j=>.int (i % j)) (tOp (rI IntMulOk fun i j=>.int (i*j)) (zac 5) (zac 5)) (tC (.int 2147483587)))))) D σ H:=rfl
def zfX (K:PySem.W.Frag):TS :=
 (zb7 (zaK (tOp (rI0 fun i j=>.bl (decide (j<i))) (tCB (fun xs H Q=>∃ p ys,xs=[.ref p]∧(SqL K H p ys∨SqT K H p ys)∧Q (.int ys.length) H) (zab (zac 0) zau)) (tC (.int 0)))) (zbj (tOp (zcg K) (zac 0) (tOp (rI (fun _ j=>0<j) fun i j=>.int (i % j)) (zac 1) (tCB (fun xs H Q=>∃ i j,xs=[.int i,.int j]∧Q (.int (if j<i then j else i)) H) (zab (tC (.int 63)) (zab (tCB (fun xs H Q=>∃ p ys,xs=[.ref p]∧(SqL K H p ys∨SqT K H p ys)∧Q (.int ys.length) H) (zab (zac 0) zau)) zau))))) (zal 3)) zaZ)
theorem zbp (K:PySem.W.Frag) (D:zb8) (σ:St) (H:Hp):zfX K D σ H=(zb7 (zaK (tOp (rI0 fun i j=>.bl (decide (j<i))) (tCB (fun xs H Q=>∃ p ys,xs=[.ref p]∧(SqL K H p ys∨SqT K H p ys)∧Q (.int ys.length) H) (zab (zac 0) zau)) (tC (.int 0)))) (zbj (tOp (zcg K) (zac 0) (tOp (rI (fun _ j=>0<j) fun i j=>.int (i % j)) (zac 1) (tCB (fun xs H Q=>∃ i j,xs=[.int i,.int j]∧Q (.int (if j<i then j else i)) H) (zab (tC (.int 63)) (zab (tCB (fun xs H Q=>∃ p ys,xs=[.ref p]∧(SqL K H p ys∨SqT K H p ys)∧Q (.int ys.length) H) (zab (zac 0) zau)) zau))))) (zal 3)) zaZ) D σ H:=rfl
def zeq:TS :=
 (zb7 (zaK (tOp (rI0 fun i j=>.bl (decide (j<i))) (zac 3) (tC (.int 0)))) (zbY (tOp (rI (fun _ j=>0<j) fun i j=>.int (i % j)) (zac 3) (tC (.int 2147483587)))) zaZ)
theorem zbo (D:zb8) (σ:St) (H:Hp):zeq D σ H=(zb7 (zaK (tOp (rI0 fun i j=>.bl (decide (j<i))) (zac 3) (tC (.int 0)))) (zbY (tOp (rI (fun _ j=>0<j) fun i j=>.int (i % j)) (zac 3) (tC (.int 2147483587)))) zaZ) D σ H:=rfl
def zfV (K:PySem.W.Frag):TS :=
 (zb7 (zp4 (zaK (tOp (rI0 fun i j=>.bl (decide (i<j))) (zac 2) (tCB (fun xs H Q=>∃ p ys,xs=[.ref p]∧(SqL K H p ys∨SqT K H p ys)∧Q (.int ys.length) H) (zab (zac 0) zau)))) (zaK (tOp (rI0 fun i j=>.bl (decide (j≤i))) (tOp (zcg K) (zac 0) (zac 2)) (tOp (rI znk fun i j=>.int (i ^ j.toNat)) (tC (.int 10)) (tC (.int 18)))))) (zaF (zbj (tOp (rI (fun _ j=>0<j∧j.natAbs.log2<9000) fun i j=>.int (i / j)) (tOp (zcg K) (zac 0) (zac 2)) (tOp (rI znk fun i j=>.int (i ^ j.toNat)) (tC (.int 10)) (tC (.int 18)))) (zal 3))
 (zaF (zgX (zer (zab (tOp (rI (fun _ j=>0<j) fun i j=>.int (i % j)) (zac 1) (tC (.int 8))) zau)) (zal 4)
 (zbj (tOp (rI (fun _ j=>0<j∧j.natAbs.log2<9000) fun i j=>.int (i / j)) (zac 3) (tC (.int 2147483587))) (zal 3)))
 (zeq))) zaZ)
theorem zbq (K:PySem.W.Frag) (D:zb8) (σ:St) (H:Hp):zfV K D σ H=(zb7 (zp4 (zaK (tOp (rI0 fun i j=>.bl (decide (i<j))) (zac 2) (tCB (fun xs H Q=>∃ p ys,xs=[.ref p]∧(SqL K H p ys∨SqT K H p ys)∧Q (.int ys.length) H) (zab (zac 0) zau)))) (zaK (tOp (rI0 fun i j=>.bl (decide (j≤i))) (tOp (zcg K) (zac 0) (zac 2)) (tOp (rI znk fun i j=>.int (i ^ j.toNat)) (tC (.int 10)) (tC (.int 18)))))) (zaF (zbj (tOp (rI (fun _ j=>0<j∧j.natAbs.log2<9000) fun i j=>.int (i / j)) (tOp (zcg K) (zac 0) (zac 2)) (tOp (rI znk fun i j=>.int (i ^ j.toNat)) (tC (.int 10)) (tC (.int 18)))) (zal 3))
 (zaF (zgX (zer (zab (tOp (rI (fun _ j=>0<j) fun i j=>.int (i % j)) (zac 1) (tC (.int 8))) zau)) (zal 4)
 (zbj (tOp (rI (fun _ j=>0<j∧j.natAbs.log2<9000) fun i j=>.int (i / j)) (zac 3) (tC (.int 2147483587))) (zal 3)))
 (zeq))) zaZ) D σ H:=rfl
def zfu (K:PySem.W.Frag):TS :=
 (zaF (zbj (tOp (rI (fun _ j=>0<j) fun i j=>.int (i % j)) (tOp (rI (fun _ j=>0<j∧j.natAbs.log2<9000) fun i j=>.int (i / j)) (zac 1) (tC (.int 8))) (tC (.int 63))) (zal 2))
 (zaF (zdk (zfV K))
 (zaF (zbj (tC (.int 0)) (zal 3))
 (zaF (zdk (zfX K))
 (zf7)))))
theorem zj7 {p:Addr} {ns:List Int} {k:Int} (hS:SqL K H p (ns.map V.int)) (hl:ns.length≤63) (k0:0≤k) (k1:k<1000000) (q:∀ r:Int,0≤r→r<2147483587→Q (.int r) H) :
  zfu K { nx:=fun _ H'=>Q .non H',rt:=Q } (L2.zce ["_law_script","_law_k","_law_at","_law_cell","_law_j","_law_number"] [.ref p,.int k]) H:=by
 unfold zfu
 simp_all only [zbn,zbp,zbo,zbq,zac]
 have el:((ns.map V.int).length:Int)=(ns.length:Int):=by rw [List.length_map]
 refine ⟨log8.1,log8.2,by decide,fun σ H'=>H'=H∧∃ t c j,σ=[some (.ref p),some (.int k),t,c,j,none],?_,?_⟩
 ·simp_all only [zbn,zbp,zbo,zbq,zac]
  refine ⟨_,.inl hS,?_⟩
  rw [el]
  refine zcc (fun c=>?_) (fun c=>?_)
  ·obtain ⟨v,hv,_⟩:=zlc (ns:=ns) (k:=k / 8 % 63) (by omega) c
   refine ⟨_,hS,_,hv,?_⟩
   simp_all only [zbn,zbp,zbo,zbq,zac]
   refine ⟨zsV,?_⟩
   refine zcc (fun c2=>?_) (fun c2=>trivial)
   ·refine ⟨_,hS,_,hv,zsV,_,rfl,logA.1,logA.2,by decide,by omega,by omega,?_⟩
    refine zc6 (fun _ σ H'=>H'=H∧∃ t c j,σ=[some (.ref p),some (.int k),t,some (.int c),j,none]) ⟨rfl,_,_,_,rfl⟩ ?_ ?_
    ·rintro i σ H' hi ⟨rfl,t,c,j,rfl⟩
     simp_all only [zbn,zbp,zbo,zbq,zac]
     exact ⟨logB.1,logB.2⟩
    ·rintro σ H' ⟨rfl,t,c,j,rfl⟩
     simp_all only [zbn,zbp,zbo,zbq,zac]
     refine zcc (fun c3=>?_) (fun c3=>?_)
     ·exact ⟨by decide,q _ (Int.emod_nonneg _ (by decide)) (Int.emod_lt_of_pos _ (by decide))⟩
     ·trivial
  ·trivial
 ·rintro σ H' ⟨e,t,c,j,rfl⟩
  rw [e]
  simp_all only [zbn,zbp,zbo,zbq,zac]
  refine ⟨fun σ H'=>H'=H∧∃ t c j,σ=[some (.ref p),some (.int k),t,some (.int c),j,none],?_,?_⟩
  ·simp_all only [zbn,zbp,zbo,zbq,zac]
   refine ⟨_,.inl hS,?_⟩
   rw [el]
   refine zcc (fun c=>?_) (fun c=>trivial)
   refine ⟨_,.inl hS,?_⟩
   rw [el]
   have hm:0<(if (ns.length:Int)<63 then (ns.length:Int) else 63):=by split <;> omega
   obtain ⟨v,hv,_⟩:=zlc (ns:=ns) (k:=k % if (ns.length:Int)<63 then (ns.length:Int) else 63) (Int.emod_nonneg _ (by omega)) (Int.lt_of_lt_of_le (Int.emod_lt_of_pos _ hm) (by split <;> omega))
   exact ⟨hm,_,hS,_,hv,_,rfl⟩
  ·rintro σ H' ⟨e,t,c,j,rfl⟩
   rw [e]
   simp_all only [zbn,zbp,zbo,zbq,zac]
   have b1:=Int.emod_nonneg c (show (1000000000000000000:Int)≠0 by decide)
   have b2:=Int.emod_lt_of_pos c (show (0:Int)<1000000000000000000 by decide)
   generalize c % 1000000000000000000=z at b1 b2 ⊢
   have m1:IntMulOk (z+48271*(k+1)) (z+48271*(k+1)):=mulR (by omega) (by omega)
   generalize (z+48271*(k+1))*(z+48271*(k+1))=y
   have b3:=Int.emod_nonneg y (show (2147483629:Int)≠0 by decide)
   have b4:=Int.emod_lt_of_pos y (show (0:Int)<2147483629 by decide)
   generalize y % 2147483629=x at b3 b4 ⊢
   exact ⟨zsV,by decide,mulL (by decide) (by decide),m1,by decide,mulL (by decide) (by decide),mulR (by omega) (by omega),by decide,q _ (Int.emod_nonneg _ (by decide)) (Int.emod_lt_of_pos _ (by decide))⟩
theorem zbU:zbk ["_law_script","_law_k","_law_at","_law_cell","_law_j","_law_number"] ["_law_script","_law_k"] (zaC zfx):=⟨rfl,rfl,rfl,by decide +kernel,rfl,by decide +kernel,by decide +kernel⟩
theorem zde (T:Txt K mg a):zdV P w K mg base CX0 1 a.f__law_mixed a.d__law_mixed ["_law_script","_law_k"] (zbz K):=by
 refine T.F__law_mixed.ok zbU (fun vs H Q E h=>?_) (fun cdv A outer s H vs Q E hr h=>?_)
 ·obtain ⟨p,ns,k,rfl,hS,hl,k0,k1,q⟩:=h
  rfl
 obtain ⟨p,ns,k,rfl,hS,hl,k0,k1,q⟩:=h
 exact ⟨zfu K,(zaf (zaB (i:=2) zbU.nd rfl (Or.inl rfl) (zaz zbs (zaz zcA (pv 1) zah) zah))
 (zaf (zbl (zbA (PW.pt (zmN (zaI zl4 (pv 2) (zai zax rfl T.z_len PySem.boot_len (zaa (pv 0) zag)) (zaT _)) (zjC (zaI op_ge (zbh zaJ (pv 0) (pv 2) (fun _ _=>rfl)) (zaz zi7 zah zah) (zaT _))))) (zaf (zaB (i:=3) zbU.nd rfl (Or.inl rfl) (zaz zcA (zbh zaJ (pv 0) (pv 2) (fun _ _=>rfl)) (zaz zi7 zah zah)))
 (zaf (zdg PassesOwn.never rfl (zcD rfl T.z_range (zaa (zaz zbs (pv 1) zah) zag)) (za0 (i:=4) zbU.nd rfl (Or.inl rfl))
 (zak (zaB (i:=3) zbU.nd rfl (Or.inl rfl) (zaz zcA (pv 3) zah))))
 (zak (zbA (zaI znD (pv 3) zah (zaT _)) (zak (zaX (zaz zbs (pv 3) zah))) zaE)))) zaE))
 (zaf (zaB (i:=3) zbU.nd rfl (Or.inl rfl) zah)
 (zaf (zbl (zbA (zaI znD (zai zax rfl T.z_len PySem.boot_len (zaa (pv 0) zag)) zah (zaT _)) (zak (zaB (i:=3) zbU.nd rfl (Or.inl rfl) (zbh zaJ (pv 0) (zaz zbs (pv 1) (zai (zfa rfl) rfl T.z_min PyProof.Rows.boot_min (zaa zah (zaa (zai zax rfl T.z_len PySem.boot_len (zaa (pv 0) zag)) zag)))) (fun _ _=>rfl)))) zaE))
 (zaf (zaB (i:=5) zbU.nd rfl (Or.inl rfl) (zaz zbG (zaz zbs (pv 3) (zaz zi7 zah zah)) (zaz zh3 zah (zaz zbG (pv 1) zah))))
 (zaf (zaB (i:=5) zbU.nd rfl (Or.inl rfl) (zaz zbG (zaz zbs (zaz zh3 (pv 5) (pv 5)) zah) (zaz zh3 zah (pv 1))))
 (zak (zaX (zaz zbs (zaz zh3 (pv 5) (pv 5)) zah))))))))),
  zj7 hS hl k0 k1 q⟩
def ze1 (K:PySem.W.Frag):TS :=
 (zbY (zcW (tCB (zdT K) (zab (zac 0) (zab (tC (.ty "int")) zau))) (znF (tCB (zdT K) (zab (zac 0) (zab (tC (.ty "bool")) zau))))))
theorem zjP {x:Int} (q:Q (.bl true) H):ze1 K { nx:=fun _ H'=>Q .non H',rt:=Q } (L2.zce ["_law_told"] [.int x]) H:=by
 unfold ze1
 simp_all only [zac]
 refine zdQ ⟨_,rfl,zn1 ?_⟩
 exact zd3 ⟨_,rfl,q⟩
theorem zke:zbk ["_law_told"] ["_law_told"] (zaC zff):=⟨rfl,rfl,rfl,by decide +kernel,rfl,by decide +kernel,by decide +kernel⟩
theorem zjH (T:Txt K mg a):zdV P w K mg base CX0 1 a.f__law_whole a.d__law_whole ["_law_told"] zdO:=by
 refine T.F__law_whole.ok zke (fun vs H Q E h=>?_) (fun cdv A outer s H vs Q E hr h=>?_)
 ·obtain ⟨x,rfl,q⟩:=h
  rfl
 obtain ⟨x,rfl,q⟩:=h
 exact ⟨ze1 K,(zak (zaX (zcQ (zai zaw rfl T.z_isinstance PyProof.Rows.boot_isinstance (zaa (pv 0) (zaa (zbc rfl T.z_int zdZ rfl) zag))) (zdp (zk5 (zai zaw rfl T.z_isinstance PyProof.Rows.boot_isinstance (zaa (pv 0) (zaa (zbc rfl T.z_bool zdc rfl) zag)))))))),
  zjP q⟩
theorem pow6:znk 10 6:=⟨by decide,by decide,by decide⟩
theorem ztl:(0:Int)<4∧(Int.natAbs 4).log2<9000:=by decide +kernel
theorem at4 {a b c d r:Int} (h0:0≤r) (h1:r<4):∃ v:Int,atI [V.int a,V.int b,V.int c,V.int d] r=some (.int v)∧(v=a∨v=b∨v=c∨v=d):=by
 have:r=0∨r=1∨r=2∨r=3:=by omega
 rcases this with rfl | rfl | rfl | rfl
 ·exact ⟨a,rfl,by simp⟩
 ·exact ⟨b,rfl,by simp⟩
 ·exact ⟨c,rfl,by simp⟩
 ·exact ⟨d,rfl,by simp⟩
def zgC:Sp:=fun vs H Q _=>∃ n:Int,vs=[.int n]∧∀ (l:Int) (H':Hp),zbt H H'→1≤l→l≤1000000→Q (.int l) H'
def zeS (K:PySem.W.Frag):TS :=
 (zaF (zbj (tOp (rI (fun _ j=>0<j) fun i j=>.int (i % j)) (zac 0) (tC (.int 4))) (zal 1))
 (zaF (zbj (tOp (rI (fun _ j=>0<j∧j.natAbs.log2<9000) fun i j=>.int (i / j)) (zac 0) (tC (.int 4))) (zal 0))
 (zbY (tOp (zcg K) (zd4 (zab (tOp (rI0 fun i j=>.int (i+j)) (tC (.int 1)) (tOp (rI (fun _ j=>0<j) fun i j=>.int (i % j)) (zac 0) (tC (.int 9)))) (zab (tOp (rI0 fun i j=>.int (i+j)) (tC (.int 1)) (tOp (rI (fun _ j=>0<j) fun i j=>.int (i % j)) (zac 0) (tOp (rI znk fun i j=>.int (i ^ j.toNat)) (tC (.int 10)) (tC (.int 6))))) (zab (tOp (rI0 fun i j=>.int (i - j)) (tOp (rI znk fun i j=>.int (i ^ j.toNat)) (tC (.int 10)) (tC (.int 6))) (tOp (rI (fun _ j=>0<j) fun i j=>.int (i % j)) (zac 0) (tC (.int 3)))) (zab (tOp (rI0 fun i j=>.int (i+j)) (tC (.int 1)) (tOp (rI (fun _ j=>0<j) fun i j=>.int (i % j)) (zac 0) (tC (.int 2)))) zau))))) (zac 1)))))
theorem ziS {n:Int} (q:∀ (l:Int) (H':Hp),zbt H H'→1≤l→l≤1000000→Q (.int l) H') :
  zeS K { nx:=fun _ H'=>Q .non H',rt:=Q } (L2.zce ["_law_number","_law_way_here"] [.int n]) H:=by
 unfold zeS
 simp_all only [zac]
 obtain ⟨v,hv,hc⟩:=at4 (a:=1+n / 4 % 9) (b:=1+n / 4 % 1000000) (c:=1000000 - n / 4 % 3) (d:=1+n / 4 % 2) (r:=n % 4) (by omega) (by omega)
 refine ⟨by decide,ztl.1,ztl.2,by decide,pow6,by decide,pow6,by decide,by decide,by decide,fun p hp=>?_⟩
 refine ⟨_,SqL.of zae,_,hv,?_⟩
 exact q v _ (zaj hp _) (by omega) (by omega)
theorem zek:zbk ["_law_number","_law_way_here"] ["_law_number"] (zaC zeQ):=⟨rfl,rfl,rfl,by decide +kernel,rfl,by decide +kernel,by decide +kernel⟩
theorem ziL (T:Txt K mg a):zdV P w K mg base CX0 1 a.f__law_length a.d__law_length ["_law_number"] zgC:=by
 refine T.F__law_length.ok zek (fun vs H Q E h=>?_) (fun cdv A outer s H vs Q E hr h=>?_)
 ·obtain ⟨n,rfl,q⟩:=h
  rfl
 obtain ⟨n,rfl,q⟩:=h
 exact ⟨zeS K,(zaf (zaB (i:=1) zek.nd rfl (Or.inl rfl) (zaz zbs (pv 0) zah))
 (zaf (zaB (i:=0) zek.nd rfl (Or.inl rfl) (zaz zcA (pv 0) zah))
 (zak (zaX (zbh zaJ (zcm (zaa (zaz zbG zah (zaz zbs (pv 0) zah)) (zaa (zaz zbG zah (zaz zbs (pv 0) (zaz zi7 zah zah))) (zaa (zaz zgt (zaz zi7 zah zah) (zaz zbs (pv 0) zah)) (zaa (zaz zbG zah (zaz zbs (pv 0) zah)) zag))))) (pv 1) (fun _ _=>rfl)))))),
  ziS q⟩
def ztr (K:PySem.W.Frag):Sp:=fun vs H Q _=>∃ (p:Addr) (ns:List Int) (st mo ex:Int),vs=[.ref p,.int st,.int mo,.int ex]∧SqL K H p (ns.map V.int)∧ns.length≤63∧0≤st∧st≤10000∧1≤mo∧mo≤60∧0≤ex∧ex≤20 ∧
 ∀ (w rl:Addr) (ts:List Addr) (m:Int) (rs:List zcb) (H':Hp),zbt H H'→zmf H' w rl ts m rs→GW m rs→m≤mo→(rs.length:Int)≤m - 1+ex→m - 1≤(rs.length:Int)→Q (.ref w) H'
def zfe (K:PySem.W.Frag):TS :=
 (zb7 (zaK (tOp rNe (zac 14) (zac 15))) (zdD (tBM K "list" zhd (zac 9) (zab (tOp (rI (fun _ j=>0<j) fun i j=>.int (i % j)) (tOp (rI (fun _ j=>0<j∧j.natAbs.log2<9000) fun i j=>.int (i / j)) (zac 10) (tC (.int 3600))) (tOp (rI0 fun i j=>.int (i+j)) (tCB (fun xs H Q=>∃ p ys,xs=[.ref p]∧(SqL K H p ys∨SqT K H p ys)∧Q (.int ys.length) H) (zab (zac 9) zau)) (tC (.int 1)))) (zab (zgq (zab (zac 14) (zab (zac 15) (zab (zaY zgC [] E0 (zab (tOp (rI (fun _ j=>0<j∧j.natAbs.log2<9000) fun i j=>.int (i / j)) (zac 10) (tC (.int 100))) zau)) zau)))) zau)))) zaZ)
theorem zbC (K:PySem.W.Frag) (D:zb8) (σ:St) (H:Hp):zfe K D σ H=(zb7 (zaK (tOp rNe (zac 14) (zac 15))) (zdD (tBM K "list" zhd (zac 9) (zab (tOp (rI (fun _ j=>0<j) fun i j=>.int (i % j)) (tOp (rI (fun _ j=>0<j∧j.natAbs.log2<9000) fun i j=>.int (i / j)) (zac 10) (tC (.int 3600))) (tOp (rI0 fun i j=>.int (i+j)) (tCB (fun xs H Q=>∃ p ys,xs=[.ref p]∧(SqL K H p ys∨SqT K H p ys)∧Q (.int ys.length) H) (zab (zac 9) zau)) (tC (.int 1)))) (zab (zgq (zab (zac 14) (zab (zac 15) (zab (zaY zgC [] E0 (zab (tOp (rI (fun _ j=>0<j∧j.natAbs.log2<9000) fun i j=>.int (i / j)) (zac 10) (tC (.int 100))) zau)) zau)))) zau)))) zaZ) D σ H:=rfl
def zfs (K:PySem.W.Frag):TS :=
 (zaF (tPar 14 15 (zab (tOp (rI (fun _ j=>0<j) fun i j=>.int (i % j)) (zac 10) (zac 4)) (zab (tOp (rI (fun _ j=>0<j) fun i j=>.int (i % j)) (tOp (rI (fun _ j=>0<j∧j.natAbs.log2<9000) fun i j=>.int (i / j)) (zac 10) (zac 4)) (zac 4)) zau)))
 (zfe K))
theorem zbD (K:PySem.W.Frag) (D:zb8) (σ:St) (H:Hp):zfs K D σ H=(zaF (tPar 14 15 (zab (tOp (rI (fun _ j=>0<j) fun i j=>.int (i % j)) (zac 10) (zac 4)) (zab (tOp (rI (fun _ j=>0<j) fun i j=>.int (i % j)) (tOp (rI (fun _ j=>0<j∧j.natAbs.log2<9000) fun i j=>.int (i / j)) (zac 10) (zac 4)) (zac 4)) zau)))
 (zfe K)) D σ H:=rfl
def zfF (K:PySem.W.Frag):TS :=
 (zaF (zbj (zaY (zbz K) [] E0 (zab (zac 0) (zab (tOp (rI0 fun i j=>.int (i+j)) (tOp (rI0 fun i j=>.int (i+j)) (zac 1) (tC (.int 181))) (zac 8)) zau))) (zal 10))
 (zfs K))
theorem zaU (K:PySem.W.Frag) (D:zb8) (σ:St) (H:Hp):zfF K D σ H=(zaF (zbj (zaY (zbz K) [] E0 (zab (zac 0) (zab (tOp (rI0 fun i j=>.int (i+j)) (tOp (rI0 fun i j=>.int (i+j)) (zac 1) (tC (.int 181))) (zac 8)) zau))) (zal 10))
 (zfs K)) D σ H:=rfl
def zfv (K:PySem.W.Frag):TS :=
 (zdD (tBM K "list" zhd (zac 9) (zab (zac 13) (zab (tOp (zq5 K) (zac 12) (zgq (zab (zaY zgC [] E0 (zab (tOp (rI (fun _ j=>0<j∧j.natAbs.log2<9000) fun i j=>.int (i / j)) (tOp (rI (fun _ j=>0<j∧j.natAbs.log2<9000) fun i j=>.int (i / j)) (zac 10) (zac 8)) (tC (.int 2))) zau)) zau))) zau))))
theorem zbI (K:PySem.W.Frag) (D:zb8) (σ:St) (H:Hp):zfv K D σ H=(zdD (tBM K "list" zhd (zac 9) (zab (zac 13) (zab (tOp (zq5 K) (zac 12) (zgq (zab (zaY zgC [] E0 (zab (tOp (rI (fun _ j=>0<j∧j.natAbs.log2<9000) fun i j=>.int (i / j)) (tOp (rI (fun _ j=>0<j∧j.natAbs.log2<9000) fun i j=>.int (i / j)) (zac 10) (zac 8)) (tC (.int 2))) zau)) zau))) zau)))) D σ H:=rfl
def zfm (K:PySem.W.Frag):TS :=
 (zaF (zbj (tOp (rI (fun _ j=>0<j) fun i j=>.int (i % j)) (zaY (zbz K) [] E0 (zab (zac 0) (zab (tOp (rI0 fun i j=>.int (i+j)) (tOp (rI0 fun i j=>.int (i+j)) (zac 1) (tC (.int 120))) (zac 8)) zau))) (tOp (rI0 fun i j=>.int (i+j)) (tCB (fun xs H Q=>∃ p ys,xs=[.ref p]∧(SqL K H p ys∨SqT K H p ys)∧Q (.int ys.length) H) (zab (zac 9) zau)) (tC (.int 1)))) (zal 13))
 (zfv K))
theorem zbE (K:PySem.W.Frag) (D:zb8) (σ:St) (H:Hp):zfm K D σ H=(zaF (zbj (tOp (rI (fun _ j=>0<j) fun i j=>.int (i % j)) (zaY (zbz K) [] E0 (zab (zac 0) (zab (tOp (rI0 fun i j=>.int (i+j)) (tOp (rI0 fun i j=>.int (i+j)) (zac 1) (tC (.int 120))) (zac 8)) zau))) (tOp (rI0 fun i j=>.int (i+j)) (tCB (fun xs H Q=>∃ p ys,xs=[.ref p]∧(SqL K H p ys∨SqT K H p ys)∧Q (.int ys.length) H) (zab (zac 9) zau)) (tC (.int 1)))) (zal 13))
 (zfv K)) D σ H:=rfl
def zfG (K:PySem.W.Frag):TS :=
 (zaF (zbj (tOp (zcg K) (zd4 (zab (zgq (zab (tOp (zcg K) (zac 6) (zac 8)) (zab (zac 11) zau))) (zab (zgq (zab (zac 11) (zab (tOp (zcg K) (zac 6) (zac 8)) zau))) zau))) (tOp (rI (fun _ j=>0<j) fun i j=>.int (i % j)) (tOp (rI (fun _ j=>0<j∧j.natAbs.log2<9000) fun i j=>.int (i / j)) (zac 10) (zac 8)) (tC (.int 2)))) (zal 12))
 (zfm K))
theorem zbF (K:PySem.W.Frag) (D:zb8) (σ:St) (H:Hp):zfG K D σ H=(zaF (zbj (tOp (zcg K) (zd4 (zab (zgq (zab (tOp (zcg K) (zac 6) (zac 8)) (zab (zac 11) zau))) (zab (zgq (zab (zac 11) (zab (tOp (zcg K) (zac 6) (zac 8)) zau))) zau))) (tOp (rI (fun _ j=>0<j) fun i j=>.int (i % j)) (tOp (rI (fun _ j=>0<j∧j.natAbs.log2<9000) fun i j=>.int (i / j)) (zac 10) (zac 8)) (tC (.int 2)))) (zal 12))
 (zfm K)) D σ H:=rfl
def zfE (K:PySem.W.Frag):TS :=
 (zaF (zbj (tOp (zcg K) (zac 6) (tOp (zcg K) (zd4 (zab (tOp (rI (fun _ j=>0<j) fun i j=>.int (i % j)) (zac 10) (zac 8)) (zab (tOp (rI0 fun i j=>.int (i - j)) (zac 8) (tC (.int 1))) (zab (tC (.int 0)) (zab (tOp (rI (fun _ j=>0<j) fun i j=>.int (i % j)) (zac 10) (tCB (fun xs H Q=>∃ i j,xs=[.int i,.int j]∧Q (.int (if j<i then j else i)) H) (zab (zac 8) (zab (tC (.int 3)) zau)))) zau))))) (zac 5))) (zal 11))
 (zfG K))
theorem zbH (K:PySem.W.Frag) (D:zb8) (σ:St) (H:Hp):zfE K D σ H=(zaF (zbj (tOp (zcg K) (zac 6) (tOp (zcg K) (zd4 (zab (tOp (rI (fun _ j=>0<j) fun i j=>.int (i % j)) (zac 10) (zac 8)) (zab (tOp (rI0 fun i j=>.int (i - j)) (zac 8) (tC (.int 1))) (zab (tC (.int 0)) (zab (tOp (rI (fun _ j=>0<j) fun i j=>.int (i % j)) (zac 10) (tCB (fun xs H Q=>∃ i j,xs=[.int i,.int j]∧Q (.int (if j<i then j else i)) H) (zab (zac 8) (zab (tC (.int 3)) zau)))) zau))))) (zac 5))) (zal 11))
 (zfG K)) D σ H:=rfl
def ze6 (K:PySem.W.Frag):TS :=
 (zaF (zbj (zaY (zbz K) [] E0 (zab (zac 0) (zab (tOp (rI0 fun i j=>.int (i+j)) (tOp (rI0 fun i j=>.int (i+j)) (zac 1) (tC (.int 60))) (zac 8)) zau))) (zal 10))
 (zfE K))
theorem zaW (K:PySem.W.Frag) (D:zb8) (σ:St) (H:Hp):ze6 K D σ H=(zaF (zbj (zaY (zbz K) [] E0 (zab (zac 0) (zab (tOp (rI0 fun i j=>.int (i+j)) (tOp (rI0 fun i j=>.int (i+j)) (zac 1) (tC (.int 60))) (zac 8)) zau))) (zal 10))
 (zfE K)) D σ H:=rfl
def zfp (K:PySem.W.Frag):TS :=
 (zaF (zgX (zer (zab (tOp (rI (fun _ j=>0<j) fun i j=>.int (i % j)) (zaY (zbz K) [] E0 (zab (zac 0) (zab (tOp (rI0 fun i j=>.int (i+j)) (zac 1) (tC (.int 180))) zau))) (tOp (rI0 fun i j=>.int (i+j)) (zac 3) (tC (.int 1)))) zau)) (zal 8)
 (zfF K))
 (zbY (zgq (zab (zac 4) (zab (zac 9) zau)))))
theorem zaS (K:PySem.W.Frag) (D:zb8) (σ:St) (H:Hp):zfp K D σ H=(zaF (zgX (zer (zab (tOp (rI (fun _ j=>0<j) fun i j=>.int (i % j)) (zaY (zbz K) [] E0 (zab (zac 0) (zab (tOp (rI0 fun i j=>.int (i+j)) (zac 1) (tC (.int 180))) zau))) (tOp (rI0 fun i j=>.int (i+j)) (zac 3) (tC (.int 1)))) zau)) (zal 8)
 (zfF K))
 (zbY (zgq (zab (zac 4) (zab (zac 9) zau))))) D σ H:=rfl
def ze9 (K:PySem.W.Frag):TS :=
 (zdD (tBM K "list" zb3 (zac 6) (zab (tBM K "list" zm2 (zac 7) (zab (tOp (rI (fun _ j=>0<j) fun i j=>.int (i % j)) (zaY (zbz K) [] E0 (zab (zac 0) (zab (tOp (rI0 fun i j=>.int (i+j)) (tOp (rI0 fun i j=>.int (i+j)) (zac 1) (tC (.int 1))) (zac 8)) zau))) (tCB (fun xs H Q=>∃ p ys,xs=[.ref p]∧(SqL K H p ys∨SqT K H p ys)∧Q (.int ys.length) H) (zab (zac 7) zau))) zau)) zau)))
theorem zaV (K:PySem.W.Frag) (D:zb8) (σ:St) (H:Hp):ze9 K D σ H=(zdD (tBM K "list" zb3 (zac 6) (zab (tBM K "list" zm2 (zac 7) (zab (tOp (rI (fun _ j=>0<j) fun i j=>.int (i % j)) (zaY (zbz K) [] E0 (zab (zac 0) (zab (tOp (rI0 fun i j=>.int (i+j)) (tOp (rI0 fun i j=>.int (i+j)) (zac 1) (tC (.int 1))) (zac 8)) zau))) (tCB (fun xs H Q=>∃ p ys,xs=[.ref p]∧(SqL K H p ys∨SqT K H p ys)∧Q (.int ys.length) H) (zab (zac 7) zau))) zau)) zau))) D σ H:=rfl
def zew (K:PySem.W.Frag):TS :=
 (zaF (zbj (zd4 zau) (zal 9))
 (zaF (zgX (zqB (zab (tC (.int 1)) (zab (zac 4) zau))) (zal 8)
 (ze6 K))
 (zfp K)))
theorem zaH (K:PySem.W.Frag) (D:zb8) (σ:St) (H:Hp):zew K D σ H=(zaF (zbj (zd4 zau) (zal 9))
 (zaF (zgX (zqB (zab (tC (.int 1)) (zab (zac 4) zau))) (zal 8)
 (ze6 K))
 (zfp K))) D σ H:=rfl
def zeG (K:PySem.W.Frag):TS :=
 (zaF (zbj (tCB zhI (zab (zqb (zab (tC (.int 1)) (zab (zac 4) zau))) zau)) (zal 7))
 (zaF (zgX (zer (zab (tOp (rI0 fun i j=>.int (i - j)) (zac 4) (tC (.int 1))) zau)) (zal 8)
 (ze9 K))
 (zew K)))
theorem zbv (K:PySem.W.Frag) (D:zb8) (σ:St) (H:Hp):zeG K D σ H=(zaF (zbj (tCB zhI (zab (zqb (zab (tC (.int 1)) (zab (zac 4) zau))) zau)) (zal 7))
 (zaF (zgX (zer (zab (tOp (rI0 fun i j=>.int (i - j)) (zac 4) (tC (.int 1))) zau)) (zal 8)
 (ze9 K))
 (zew K))) D σ H:=rfl
def zgP (K:PySem.W.Frag):TS :=
 (zaF (zbj (tOp (rI (fun _ j=>0<j) fun i j=>.int (i % j)) (tOp (rI (fun _ j=>0<j∧j.natAbs.log2<9000) fun i j=>.int (i / j)) (zaY (zbz K) [] E0 (zab (zac 0) (zab (zac 1) zau))) (zac 2)) (tC (.int 4))) (zal 5))
 (zaF (zbj (zd4 (zab (tC (.int 0)) zau)) (zal 6))
 (zeG K)))
theorem zbu (K:PySem.W.Frag) (D:zb8) (σ:St) (H:Hp):zgP K D σ H=(zaF (zbj (tOp (rI (fun _ j=>0<j) fun i j=>.int (i % j)) (tOp (rI (fun _ j=>0<j∧j.natAbs.log2<9000) fun i j=>.int (i / j)) (zaY (zbz K) [] E0 (zab (zac 0) (zab (zac 1) zau))) (zac 2)) (tC (.int 4))) (zal 5))
 (zaF (zbj (zd4 (zab (tC (.int 0)) zau)) (zal 6))
 (zeG K))) D σ H:=rfl
def zgY (K:PySem.W.Frag):TS :=
 (zaF (zbj (tOp (rI0 fun i j=>.int (i+j)) (tC (.int 1)) (tOp (rI (fun _ j=>0<j) fun i j=>.int (i % j)) (zaY (zbz K) [] E0 (zab (zac 0) (zab (zac 1) zau))) (zac 2))) (zal 4))
 (zgP K))
theorem zmy {p:Addr} {ns:List Int} {st mo ex:Int} (hS:SqL K H p (ns.map V.int)) (hl:ns.length≤63) (st0:0≤st) (st1:st≤10000) (mo1:1≤mo) (mo60:mo≤60) (ex0:0≤ex) (ex20:ex≤20)
  (q:∀ (w rl:Addr) (ts:List Addr) (m:Int) (rs:List zcb) (H':Hp),zbt H H'→zmf H' w rl ts m rs→GW m rs→m≤mo→(rs.length:Int)≤m - 1+ex→m - 1≤(rs.length:Int)→Q (.ref w) H') :
  zgY K { nx:=fun _ H'=>Q .non H',rt:=Q } (L2.zce ["_law_script","_law_start","_law_most","_law_extra","_law_many","_law_shape","_law_labels","_law_left","_law_k","_law_roads","_law_number","_law_other","_law_ends","_law_at","_law_a","_law_b"] [.ref p,.int st,.int mo,.int ex]) H:=by
 unfold zgY
 simp_all only [zaU,zaW,zaS,zaV,zaH,zac]
 refine ⟨p,ns,st,rfl,hS,hl,st0,by omega,fun r1 r10 r11=>?_⟩
 refine ⟨_,rfl,by omega,?_⟩
 have m1:1≤1+r1 % mo:=by have:=Int.emod_nonneg r1 (show mo≠0 by omega);omega
 have m2:1+r1 % mo≤mo:=by have:=Int.emod_lt_of_pos r1 (show 0<mo by omega);omega
 generalize 1+r1 % mo=m at m1 m2 ⊢
 (try simp only);first | rw [zbC] | rw [zbD] | rw [zbI] | rw [zbE] | rw [zbF] | rw [zbH] | rw [zbv] | rw [zbu]
 simp_all only [zaU,zaW,zaS,zaV,zaH,zac]
 refine ⟨p,ns,st,rfl,hS,hl,st0,by omega,fun r2 r20 r21=>?_⟩
 refine ⟨_,rfl,by omega,zmS 6 (by omega) (show mo.natAbs<64 by omega),by decide,?_⟩
 have sh0:0≤r2 / mo % 4:=by omega
 have sh4:r2 / mo % 4<4:=by omega
 generalize r2 / mo % 4=shp at sh0 sh4 ⊢
 refine ⟨by decide,fun lab hlab=>?_⟩
 (try simp only);first | rw [zbC] | rw [zbD] | rw [zbI] | rw [zbE] | rw [zbF] | rw [zbH] | rw [zbv] | rw [zbu]
 simp_all only [zaU,zaW,zaS,zaV,zaH,zac]
 refine ⟨by decide,by decide,by omega,by omega,fun rg hrg=>⟨1,m,zae,by decide,by decide,by omega,by omega,by omega,fun lef hlef=>?_⟩⟩
 refine ⟨by omega,by omega,?_⟩
 have hlef0:H lef=none:=((zbt.refl H).add hlab).add hrg |>.free hlef
 have hne:lab≠lef:=zaA (show (L2.upd (L2.upd H lab (.lst [V.int 0])) rg (.rng 1 m)) lab=some (.lst [V.int 0]) by rw [zaL (zaA zae hrg)];exact zae) hlef
 let Pv1:Nat→St→Hp→Prop:=fun i σ H'=>zbt H H'∧∃ (ls lf:List Int) (x:Option V),H' lab=some (.lst (ls.map V.int))∧H' lef=some (.lst (lf.map V.int))∧(ls++lf).Perm (ze2 m)∧ls.length=i+1∧ls[0]?=some 0∧σ=[some (.ref p),some (.int st),some (.int mo),some (.int ex),some (.int m),some (.int shp),some (.ref lab),some (.ref lef),x,none,none,none,none,none,none,none]
 refine zc6 Pv1 ?_ ?_ ?_
 ·refine ⟨(((zbt.refl H).add hlab).add hrg).add hlef,[0],(List.range (m - 1).toNat).map (fun k:Nat=>1+(k:Int)),_,?_,?_,?_,rfl,rfl,rfl⟩
  ·rw [zaL hne,zaL (zaA zae hrg)]
   exact zae
  ·rw [zae,List.map_map]
   rfl
  ·rw [zpp m1]
   exact .refl _
 ·rintro i σ H1 hi ⟨s1,ls,lf,x,h1,h2,hp,ll,l0,rfl⟩
  have lt:ls.length+lf.length=m.toNat:=by
   have:=hp.length_eq
   rw [List.length_append] at this
   rw [this]
   unfold ze2
   rw [List.length_map,List.length_range]
  simp_all only [zaU,zaW,zaS,zaV,zaH,zac]
  refine ⟨.inl ⟨rfl,_,SqL.of h1⟩,.inl ⟨rfl,_,SqL.of h2⟩,?_⟩
  refine ⟨p,ns,_,rfl,s1.seq hS,hl,by omega,by omega,fun r3 r30 r31=>?_⟩
  refine ⟨_,.inl (SqL.of h2),_,rfl,?_⟩
  rw [List.length_map]
  have z0:=Int.emod_nonneg r3 (show (lf.length:Int)≠0 by omega)
  have z1:=Int.emod_lt_of_pos r3 (show 0<(lf.length:Int) by omega)
  generalize r3 % (lf.length:Int)=k at z0 z1
  have hk:k.toNat<lf.length:=by omega
  have ek:lf[k.toNat]?=some lf[k.toNat]:=List.getElem?_eq_getElem hk
  refine ⟨by omega,_,h2,by omega,by omega,_,seqIx z0 (by rw [List.length_map];exact z1),.int lf[k.toNat],by rw [List.getElem?_map,ek];rfl,_,by rw [zaL hne];exact h1,zet (by rw [List.length_map];omega),?_,ls++[lf[k.toNat]],lf.eraseIdx k.toNat,_,?_,?_,?_,by rw [List.length_append,ll];rfl,?_,rfl⟩
  ·exact (s1.put hlef0).put hlab
  ·rw [zae,List.map_append]
   rfl
  ·rw [zaL hne.symm,zae,zlh]
  ·rw [List.append_assoc]
   exact (List.Perm.append_left ls (znC ek)).trans hp
  ·rw [List.getElem?_append_left (by omega)]
   exact l0
 ·rintro σ H1 ⟨s1,ls,lf,x,h1,h2,hp,ll,l0,rfl⟩
  have lt:ls.length+lf.length=m.toNat:=by
   have:=hp.length_eq
   rw [List.length_append] at this
   rw [this]
   unfold ze2
   rw [List.length_map,List.length_range]
  have lf0:lf=[]:=List.eq_nil_of_length_eq_zero (by omega)
  rw [lf0,List.append_nil] at hp
  have gl:∀ x∈ls,0≤x∧x<m:=fun x hx=>zb6.mp (hp.mem_iff.mp hx)
  have nd:ls.Nodup:=hp.nodup_iff.mpr zfN
  clear h2
  simp_all only [zaU,zaW,zaS,zaV,zaH,zac]
  refine ⟨by decide,fun rl hrl=>?_⟩
  refine ⟨by decide,by decide,by omega,by omega,?_⟩
  have n1:rl≠lab:=(zaA h1 hrl).symm
  let Pv2:Nat→St→Hp→Prop:=fun i σ H'=>zbt H1 H'∧∃ (ts:List Addr) (rs:List zcb),H' rl=some (.lst (ts.map V.ref))∧Tps rdv (Off rl rl H') ts rs∧rs.length=i∧(∀ r∈rs,GR m r)∧zmv ls rs i∧∃ x1 x2 x3 x4 x5,σ=[some (.ref p),some (.int st),some (.int mo),some (.int ex),some (.int m),some (.int shp),some (.ref lab),some (.ref lef),x1,some (.ref rl),x2,x3,x4,x5,none,none]
  refine zc6 Pv2 ?_ ?_ ?_
  ·exact ⟨zaj hrl _,[],[],zae,.nil,rfl,by simp,fun k k1 k2=>by omega,_,_,_,_,_,rfl⟩
  ·rintro i σ H2 hi ⟨s2,ts,rs,hr2,ht2,lr,gr,jn,x1,x2,x3,x4,x5,rfl⟩
   have hS2:=s2.seq (s1.seq hS)
   simp_all only [zaU,zaW,zaS,zaV,zaH,zac]
   refine ⟨p,ns,_,rfl,hS2,hl,by omega,by omega,fun n n0 n1'=>?_⟩
   have em:(if (3:Int)<1+(i:Int) then (3:Int) else 1+(i:Int))≤1+(i:Int)∧0<(if (3:Int)<1+(i:Int) then (3:Int) else 1+(i:Int)):=by split <;> omega
   (try simp only);first | rw [zbC] | rw [zbD] | rw [zbI] | rw [zbE] | rw [zbF] | rw [zbH] | rw [zbv] | rw [zbu]
   simp_all only [zaU,zaW,zaS,zaV,zaH,zac]
   generalize (if (3:Int)<1+(i:Int) then (3:Int) else 1+(i:Int))=mn at em ⊢
   refine ⟨by omega,em.2,by decide,fun a1 ha1=>?_⟩
   have s3:=zaj ha1 (.lst [V.int (n % (1+(i:Int))),V.int (1+(i:Int) - 1),V.int 0,V.int (n % mn)])
   have h3:(L2.upd H2 a1 (.lst [V.int (n % (1+(i:Int))),V.int (1+(i:Int) - 1),V.int 0,V.int (n % mn)])) a1=some (.lst [V.int (n % (1+(i:Int))),V.int (1+(i:Int) - 1),V.int 0,V.int (n % mn)]):=zae
   generalize L2.upd H2 a1 (.lst [V.int (n % (1+(i:Int))),V.int (1+(i:Int) - 1),V.int 0,V.int (n % mn)])=H3 at s3 h3 ⊢
   obtain ⟨jx,hj,hjc⟩:=at4 (a:=n % (1+(i:Int))) (b:=1+(i:Int) - 1) (c:=0) (d:=n % mn) sh0 sh4
   have j0:0≤jx∧jx<1+(i:Int):=by
    have z1:=Int.emod_nonneg n (show (1+(i:Int))≠0 by omega)
    have z2:=Int.emod_lt_of_pos n (show 0<(1+(i:Int)) by omega)
    have z3:=Int.emod_nonneg n (show mn≠0 by omega)
    have z4:=Int.emod_lt_of_pos n (show 0<mn by omega)
    omega
   clear hjc
   obtain ⟨ot,ho,ho2⟩:=zlc (ns:=ls) j0.1 (by omega)
   obtain ⟨me,hm,hm2⟩:=zlc (ns:=ls) (k:=1+(i:Int)) (by omega) (by omega)
   have h13:=s3 _ _ (s2 _ _ h1)
   refine ⟨_,SqL.of h3,_,hj,_,_,rfl,SqL.of h13,_,ho,?_⟩
   (try simp only);first | rw [zbC] | rw [zbD] | rw [zbI] | rw [zbE] | rw [zbF] | rw [zbH] | rw [zbv] | rw [zbu]
   simp_all only [zaU,zaW,zaS,zaV,zaH,zac]
   refine ⟨_,SqL.of h13,_,hm,by decide,fun a2 ha2=>?_⟩
   have s4:=zaj ha2 (.tup [V.int me,V.int ot])
   have h4:(L2.upd H3 a2 (.tup [V.int me,V.int ot])) a2=some (.tup [V.int me,V.int ot]):=zae
   generalize L2.upd H3 a2 (.tup [V.int me,V.int ot])=H4 at s4 h4 ⊢
   have h14:=s4 _ _ h13
   refine ⟨_,SqL.of h14,_,hm,by decide,fun a3 ha3=>?_⟩
   have s5:=zaj ha3 (.tup [V.int ot,V.int me])
   have h5:(L2.upd H4 a3 (.tup [V.int ot,V.int me])) a3=some (.tup [V.int ot,V.int me]):=zae
   generalize L2.upd H4 a3 (.tup [V.int ot,V.int me])=H5 at s5 h5 ⊢
   refine ⟨by decide,fun a4 ha4=>?_⟩
   have s6:=zaj ha4 (.lst [V.ref a2,V.ref a3])
   have h6:(L2.upd H5 a4 (.lst [V.ref a2,V.ref a3])) a4=some (.lst [V.ref a2,V.ref a3]):=zae
   generalize L2.upd H5 a4 (.lst [V.ref a2,V.ref a3])=H6 at s6 h6 ⊢
   obtain ⟨e,he,hec⟩:=at2 (x:=V.ref a2) (y:=V.ref a3) (r:=n / (1+(i:Int)) % 2) (by omega) (by omega)
   obtain ⟨ea,u,v,rfl,hea,huv⟩:∃ (ea:Addr) (u v:Int),e=.ref ea∧H6 ea=some (.tup [V.int u,V.int v])∧((u=me∧v=ot)∨(u=ot∧v=me)):=by
    rcases hec with rfl | rfl
    ·exact ⟨a2,me,ot,rfl,s6 _ _ (s5 _ _ h4),.inl ⟨rfl,rfl⟩⟩
    ·exact ⟨a3,ot,me,rfl,s6 _ _ h5,.inr ⟨rfl,rfl⟩⟩
   have s26:=s3.trans (s4.trans (s5.trans s6))
   have hr6:=s26 _ _ hr2
   have ht6:=ht2.same (zfI rl rl s26)
   have gme:=gl me (zdf hm2)
   have got:=gl ot (zdf ho2)
   have dif:ot≠me:=zj8 nd ho2 hm2 (by omega)
   refine ⟨by omega,zmS 6 (by omega) (show (1+(i:Int)).natAbs<64 by omega),by decide,_,SqL.of h6,_,he,?_⟩
   (try simp only);first | rw [zbC] | rw [zbD] | rw [zbI] | rw [zbE] | rw [zbF] | rw [zbH] | rw [zbv] | rw [zbu]
   simp_all only [zaU,zaW,zaS,zaV,zaH,zac]
   refine ⟨p,ns,_,rfl,s26.seq hS2,hl,by omega,by omega,fun n3 n30 n31=>?_⟩
   refine ⟨_,.inl (SqL.of hr6),_,rfl,by omega,?_⟩
   rw [List.length_map]
   have z0:=Int.emod_nonneg n3 (show (ts.length:Int)+1≠0 by omega)
   have z1:=Int.emod_lt_of_pos n3 (show 0<(ts.length:Int)+1 by omega)
   generalize n3 % ((ts.length:Int)+1)=k at z0 z1
   (try simp only);first | rw [zbC] | rw [zbD] | rw [zbI] | rw [zbE] | rw [zbF] | rw [zbH] | rw [zbv] | rw [zbu]
   simp_all only [zaU,zaW,zaS,zaV,zaH,zac]
   refine ⟨.inl ⟨rfl,_,SqL.of hr6⟩,by omega,zmS 6 (by omega) (show (1+(i:Int)).natAbs<64 by omega),ztG.1,ztG.2,?_⟩
   refine ⟨_,rfl,fun le H7 s7 le1 le2=>⟨by decide,fun a5 ha5=>?_⟩⟩
   have s8:=zaj ha5 (.tup [V.int le])
   have h8:(L2.upd H7 a5 (.tup [V.int le])) a5=some (.tup [V.int le]):=zae
   generalize L2.upd H7 a5 (.tup [V.int le])=H8 at s8 h8 ⊢
   have s68:=s7.trans s8
   refine ⟨_,SqT.of (s68 _ _ hea),_,SqT.of h8,by simp,(show (3:Nat)≤sizeLine by decide),fun z=>by simp at z,fun _ a6 ha6=>?_⟩
   rw [List.cons_append,List.cons_append,List.nil_append]
   have s9:=zaj ha6 (.tup [V.int u,V.int v,V.int le])
   have h9:(L2.upd H8 a6 (.tup [V.int u,V.int v,V.int le])) a6=some (.tup [V.int u,V.int v,V.int le]):=zae
   generalize L2.upd H8 a6 (.tup [V.int u,V.int v,V.int le])=H9 at s9 h9 ⊢
   have s69:=s68.trans s9
   have hr9:=s69 _ _ hr6
   have ht9:=ht6.same (zfI rl rl s69)
   have ltl:=ht9.1
   have big:(1000:Nat)<1000000:=by decide
   refine ⟨_,hr9,z0,by rw [List.length_map];omega,by rw [List.length_map];omega,?_⟩
   have n6:a6≠rl:=(zaA (s68 _ _ hr6) ha6).symm
   have h9':Off rl rl H9 a6=some (.tup (rdv (u,v,le))):=by rw [zjp n6 n6];exact h9
   refine ⟨?_,zgn ts k.toNat a6,zgn rs k.toNat (u,v,le),?_,?_,?_,fun r hr=>?_,?_,_,_,_,_,_,rfl⟩
   ·exact (s2.trans (s26.trans s69)).put hrl
   ·rw [zae,zlB]
    rfl
   ·rw [zoQ]
    exact ht9.ins (by omega) h9'
   ·rw [zfz (by omega),lr]
   ·rcases zfj.mp hr with rfl | hr
    ·unfold GR
     rcases huv with ⟨rfl,rfl⟩ | ⟨rfl,rfl⟩
     ·exact ⟨gme.1,gme.2,got.1,got.2,dif.symm,le1,le2⟩
     ·exact ⟨got.1,got.2,gme.1,gme.2,dif,le1,le2⟩
    ·exact gr r hr
   ·intro k' k1 k2
    by_cases c:k'≤i
    ·obtain ⟨r,hr,w⟩:=jn k' k1 c
     exact ⟨r,zfj.mpr (.inr hr),w⟩
    ·have ek':k'=i+1:=by omega
     subst ek'
     refine ⟨(u,v,le),zfj.mpr (.inl rfl),jx.toNat,by omega,?_⟩
     have hm3:ls[i+1]?=some me:=by
      have:=hm2
      rw [show (1+(i:Int)).toNat=i+1 by omega] at this
      exact this
     rcases huv with ⟨rfl,rfl⟩ | ⟨rfl,rfl⟩
     ·exact .inl ⟨hm3,ho2⟩
     ·exact .inr ⟨hm3,ho2⟩
  ·rintro σ H2 ⟨s2,ts,rs,hr2,ht2,lr,gr,jn,x1,x2,x3,x4,x5,rfl⟩
   have hS2:=s2.seq (s1.seq hS)
   have emn:m=((m - 1).toNat:Int)+1:=by omega
   simp_all only [zaU,zaW,zaS,zaV,zaH,zac]
   refine ⟨p,ns,_,rfl,hS2,hl,by omega,by omega,fun n n0 n1'=>?_⟩
   have z0:=Int.emod_nonneg n (show ex+1≠0 by omega)
   have z1:=Int.emod_lt_of_pos n (show 0<ex+1 by omega)
   refine ⟨_,rfl,by omega,by omega,by omega,?_⟩
   generalize n % (ex+1)=cnt at z0 z1 ⊢
   let Pv3:Nat→St→Hp→Prop:=fun i σ H'=>zbt H1 H'∧∃ (ts:List Addr) (rs:List zcb),H' rl=some (.lst (ts.map V.ref))∧Tps rdv (Off rl rl H') ts rs∧m - 1≤(rs.length:Int)∧(rs.length:Int)≤m - 1+i∧(∀ r∈rs,GR m r)∧zmv ls rs (m - 1).toNat∧∃ x1 x2 x3 x4 x5 x6 x7,σ=[some (.ref p),some (.int st),some (.int mo),some (.int ex),some (.int m),some (.int shp),some (.ref lab),some (.ref lef),x1,some (.ref rl),x2,x3,x4,x5,x6,x7]
   refine zc6 Pv3 ?_ ?_ ?_
   ·exact ⟨s2,ts,rs,hr2,ht2,by omega,by omega,gr,jn,_,_,_,_,_,_,_,rfl⟩
   ·rintro i σ H3 hi ⟨s3,ts,rs,hr3,ht3,lr1,lr2,gr,jn,y1,y2,y3,y4,y5,y6,y7,rfl⟩
    have hS3:=s3.seq (s1.seq hS)
    have lt3:=ht3.1
    simp_all only [zaU,zaW,zaS,zaV,zaH,zac]
    refine ⟨p,ns,_,rfl,hS3,hl,by omega,by omega,fun n2 n20 n21=>?_⟩
    (try simp only);first | rw [zbC] | rw [zbD] | rw [zbI] | rw [zbE] | rw [zbF] | rw [zbH] | rw [zbv] | rw [zbu]
    simp_all only [zaU,zaW,zaS,zaV,zaH,zac]
    refine ⟨by omega,by omega,zmS 6 (by omega) (show m.natAbs<64 by omega),by omega,?_⟩
    have a0:=Int.emod_nonneg n2 (show m≠0 by omega)
    have a1:=Int.emod_lt_of_pos n2 (show 0<m by omega)
    have b0:=Int.emod_nonneg (n2 / m) (show m≠0 by omega)
    have b1:=Int.emod_lt_of_pos (n2 / m) (show 0<m by omega)
    generalize n2 % m=av at a0 a1
    generalize n2 / m % m=bv at b0 b1
    (try simp only);first | rw [zbC] | rw [zbD] | rw [zbI] | rw [zbE] | rw [zbF] | rw [zbH] | rw [zbv] | rw [zbu]
    simp_all only [zaU,zaW,zaS,zaV,zaH,zac]
    refine zcc (fun c=>?_) (fun c=>⟨s3,ts,rs,hr3,ht3,lr1,by omega,gr,jn,_,_,_,_,_,_,_,rfl⟩)
    refine ⟨.inl ⟨rfl,_,SqL.of hr3⟩,zpm.1,zpm.2,_,.inl (SqL.of hr3),by omega,zrN.1,zrN.2,?_⟩
    rw [List.length_map]
    have k0:=Int.emod_nonneg (n2 / 3600) (show (ts.length:Int)+1≠0 by omega)
    have k1:=Int.emod_lt_of_pos (n2 / 3600) (show 0<(ts.length:Int)+1 by omega)
    generalize n2 / 3600 % ((ts.length:Int)+1)=k at k0 k1
    refine ⟨_,rfl,fun le H7 s7 le1 le2=>⟨by decide,fun a6 ha6=>?_⟩⟩
    have s9:=zaj ha6 (.tup [V.int av,V.int bv,V.int le])
    have h9:(L2.upd H7 a6 (.tup [V.int av,V.int bv,V.int le])) a6=some (.tup [V.int av,V.int bv,V.int le]):=zae
    generalize L2.upd H7 a6 (.tup [V.int av,V.int bv,V.int le])=H9 at s9 h9 ⊢
    have s69:=s7.trans s9
    have hr9:=s69 _ _ hr3
    have ht9:=ht3.same (zfI rl rl s69)
    have ltl:=ht9.1
    have big:(1000:Nat)<1000000:=by decide
    refine ⟨_,hr9,k0,by rw [List.length_map];omega,by rw [List.length_map];omega,?_⟩
    have n6:a6≠rl:=(zaA (s7 _ _ hr3) ha6).symm
    have h9':Off rl rl H9 a6=some (.tup (rdv (av,bv,le))):=by rw [zjp n6 n6];exact h9
    refine ⟨(s3.trans s69).put hrl,zgn ts k.toNat a6,zgn rs k.toNat (av,bv,le),?_,?_,?_,?_,fun r hr=>?_,?_,_,_,_,_,_,_,_,rfl⟩
    ·rw [zae,zlB]
     rfl
    ·rw [zoQ]
     exact ht9.ins (by omega) h9'
    ·rw [zfz (by omega)]
     omega
    ·rw [zfz (by omega)]
     omega
    ·rcases zfj.mp hr with rfl | hr
     ·exact ⟨a0,a1,b0,b1,c,le1,le2⟩
     ·exact gr r hr
    ·exact jn.mono fun r hr=>zfj.mpr (.inr hr)
   ·rintro σ H3 ⟨s3,ts,rs,hr3,ht3,lr1,lr2,gr,jn,y1,y2,y3,y4,y5,y6,y7,rfl⟩
    simp_all only [zaU,zaW,zaS,zaV,zaH,zac]
    refine ⟨by decide,fun w hw=>?_⟩
    refine q w rl ts m rs _ ((s1.trans s3).add hw) ⟨zae,zaj hw _ _ _ hr3,(ht3.same (zmQ rl rl H3)).same (zaj hw _)⟩ ⟨m1,by omega,by omega,gr,jn.conn emn hp l0⟩ m2 (by omega) lr1
theorem zbm:zbk ["_law_script","_law_start","_law_most","_law_extra","_law_many","_law_shape","_law_labels","_law_left","_law_k","_law_roads","_law_number","_law_other","_law_ends","_law_at","_law_a","_law_b"] ["_law_script","_law_start","_law_most","_law_extra"] (zaC zhf):=⟨rfl,rfl,rfl,by decide +kernel,rfl,by decide +kernel,by decide +kernel⟩
theorem zl6 (T:Txt K mg a):zdV P w K mg base CX0 2 a.f__law_web a.d__law_web ["_law_script","_law_start","_law_most","_law_extra"] (ztr K):=by
 have G__law_length:=ziL (P:=P) (w:=w) (base:=base) T
 have G__law_mixed:=zde (P:=P) (w:=w) (base:=base) T
 refine T.F__law_web.ok zbm (fun vs H Q E h=>?_) (fun cdv A outer s H vs Q E hr h=>?_)
 ·obtain ⟨p,ns,st,mo,ex,rfl,hS,hl,st0,st1,mo1,mo60,ex0,ex20,q⟩:=h
  rfl
 obtain ⟨p,ns,st,mo,ex,rfl,hS,hl,st0,st1,mo1,mo60,ex0,ex20,q⟩:=h
 exact ⟨zgY K,(zaf (zaB (i:=4) zbm.nd rfl (Or.inl rfl) (zaz zbG zah (zaz zbs (zaG G__law_mixed (hr.mono (by decide)) rfl T.m__law_mixed T.F__law_mixed.kp T.b__law_mixed .nil zbJ (zaa (pv 0) (zaa (pv 1) zag))) (pv 2))))
 (zaf (zaB (i:=5) zbm.nd rfl (Or.inl rfl) (zaz zbs (zaz zcA (zaG G__law_mixed (hr.mono (by decide)) rfl T.m__law_mixed T.F__law_mixed.kp T.b__law_mixed .nil zbJ (zaa (pv 0) (zaa (pv 1) zag))) (pv 2)) zah))
 (zaf (zaB (i:=6) zbm.nd rfl (Or.inl rfl) (zcm (zaa zah zag)))
 (zaf (zaB (i:=7) zbm.nd rfl (Or.inl rfl) (zgy (zjO rfl) rfl T.z_list zcZ (zaa (zs8 rfl T.z_range (zaa zah (zaa (pv 4) zag))) zag)))
 (zaf (zdg PassesOwn.never rfl (zcD rfl T.z_range (zaa (zaz zgt (pv 4) zah) zag)) (za0 (i:=8) zbm.nd rfl (Or.inl rfl))
 (zak (zdr (zh7 PySem.F.plainAttrs_list PySem.F.slot_list_append PySem.F.type_list_append zdU (pv 6) (zaa (zh7 PySem.F.plainAttrs_list PySem.F.slot_list_pop PySem.F.type_list_pop zp8 (pv 7) (zaa (zaz zbs (zaG G__law_mixed (hr.mono (by decide)) rfl T.m__law_mixed T.F__law_mixed.kp T.b__law_mixed .nil zbJ (zaa (pv 0) (zaa (zaz zbG (zaz zbG (pv 1) zah) (pv 8)) zag))) (zai zax rfl T.z_len PySem.boot_len (zaa (pv 7) zag))) zag)) zag)))))
 (zaf (zaB (i:=9) zbm.nd rfl (Or.inl rfl) (zcm zag))
 (zaf (zdg PassesOwn.never rfl (zpl rfl T.z_range (zaa zah (zaa (pv 4) zag))) (za0 (i:=8) zbm.nd rfl (Or.inl rfl))
 (zaf (zaB (i:=10) zbm.nd rfl (Or.inl rfl) (zaG G__law_mixed (hr.mono (by decide)) rfl T.m__law_mixed T.F__law_mixed.kp T.b__law_mixed .nil zbJ (zaa (pv 0) (zaa (zaz zbG (zaz zbG (pv 1) zah) (pv 8)) zag))))
 (zaf (zaB (i:=11) zbm.nd rfl (Or.inl rfl) (zbh zaJ (pv 6) (zbh zaJ (zcm (zaa (zaz zbs (pv 10) (pv 8)) (zaa (zaz zgt (pv 8) zah) (zaa zah (zaa (zaz zbs (pv 10) (zai (zfa rfl) rfl T.z_min PyProof.Rows.boot_min (zaa (pv 8) (zaa zah zag)))) zag))))) (pv 5) (fun _ _=>rfl)) (fun _ _=>rfl)))
 (zaf (zaB (i:=12) zbm.nd rfl (Or.inl rfl) (zbh zaJ (zcm (zaa (zdB (zaa (zbh zaJ (pv 6) (pv 8) (fun _ _=>rfl)) (zaa (pv 11) zag))) (zaa (zdB (zaa (pv 11) (zaa (zbh zaJ (pv 6) (pv 8) (fun _ _=>rfl)) zag))) zag))) (zaz zbs (zaz zcA (pv 10) (pv 8)) zah) (fun _ _=>rfl)))
 (zaf (zaB (i:=13) zbm.nd rfl (Or.inl rfl) (zaz zbs (zaG G__law_mixed (hr.mono (by decide)) rfl T.m__law_mixed T.F__law_mixed.kp T.b__law_mixed .nil zbJ (zaa (pv 0) (zaa (zaz zbG (zaz zbG (pv 1) zah) (pv 8)) zag))) (zaz zbG (zai zax rfl T.z_len PySem.boot_len (zaa (pv 9) zag)) zah)))
 (zak (zdr (zh7 PySem.F.plainAttrs_list PySem.F.slot_list_insert PySem.F.type_list_insert zkR (pv 9) (zaa (pv 13) (zaa (zaz zsg (pv 12) (zdB (zaa (zaG G__law_length (hr.mono (by decide)) rfl T.m__law_length T.F__law_length.kp T.b__law_length .nil zbJ (zaa (zaz zcA (zaz zcA (pv 10) (pv 8)) zah) zag)) zag))) zag))))))))))
 (zaf (zdg PassesOwn.never rfl (zcD rfl T.z_range (zaa (zaz zbs (zaG G__law_mixed (hr.mono (by decide)) rfl T.m__law_mixed T.F__law_mixed.kp T.b__law_mixed .nil zbJ (zaa (pv 0) (zaa (zaz zbG (pv 1) zah) zag))) (zaz zbG (pv 3) zah)) zag)) (za0 (i:=8) zbm.nd rfl (Or.inl rfl))
 (zaf (zaB (i:=10) zbm.nd rfl (Or.inl rfl) (zaG G__law_mixed (hr.mono (by decide)) rfl T.m__law_mixed T.F__law_mixed.kp T.b__law_mixed .nil zbJ (zaa (pv 0) (zaa (zaz zbG (zaz zbG (pv 1) zah) (pv 8)) zag))))
 (zaf (ztW (i:=14) (j:=15) rfl zbm.nd rfl rfl (by decide) rfl rfl (zaa (zaz zbs (pv 10) (pv 4)) (zaa (zaz zbs (zaz zcA (pv 10) (pv 4)) (pv 4)) zag)) rfl)
 (zak (zbA (zaI zfP (pv 14) (pv 15) (zaT _)) (zak (zdr (zh7 PySem.F.plainAttrs_list PySem.F.slot_list_insert PySem.F.type_list_insert zkR (pv 9) (zaa (zaz zbs (zaz zcA (pv 10) zah) (zaz zbG (zai zax rfl T.z_len PySem.boot_len (zaa (pv 9) zag)) zah)) (zaa (zdB (zaa (pv 14) (zaa (pv 15) (zaa (zaG G__law_length (hr.mono (by decide)) rfl T.m__law_length T.F__law_length.kp T.b__law_length .nil zbJ (zaa (zaz zcA (pv 10) zah) zag)) zag)))) zag))))) zaE)))))
 (zak (zaX (zdB (zaa (pv 4) (zaa (pv 9) zag))))))))))))),
  zmy hS hl st0 st1 mo1 mo60 ex0 ex20 q⟩
structure NK (rs:List zcb) (x:Int) (kvs:List (Key×V)):Prop where
 val:∀ y:Int,zdJ kvs (.inl y)=(sh rs x y).map V.int
 key:∀ k∈zb2 kvs,∃ y:Int,k=.inl y
 nd:(zb2 kvs).Nodup
 len:kvs.length≤2*rs.length
structure zeF (H:Hp) (nl:Addr) (ds:List Addr) (m:Int) (rs:List zcb):Prop where
 hl:H nl=some (.lst (ds.map V.ref))
 len:(ds.length:Int)=m
 dk:∀ (x:Nat) d,ds[x]?=some d→∃ kvs,H d=some (.dK kvs)∧NK rs x kvs
theorem zeF.same {H H':Hp} {nl:Addr} {ds:List Addr} {m:Int} {rs:List zcb} (h:zeF H nl ds m rs) (s:zbt H H'):zeF H' nl ds m rs :=
 ⟨s _ _ h.hl,h.len,fun x d e=>let ⟨kvs,h1,h2⟩:=h.dk x d e;⟨kvs,s _ _ h1,h2⟩⟩
theorem zeF.at {H:Hp} {nl:Addr} {ds:List Addr} {m:Int} {rs:List zcb} (h:zeF H nl ds m rs) {x:Int} (x0:0≤x) (x1:x<m):∃ d kvs,atI (ds.map V.ref) x=some (.ref d)∧H d=some (.dK kvs)∧NK rs x kvs:=by
 have hl:=h.len
 obtain ⟨k,rfl⟩:∃ k:Nat,x=k:=⟨x.toNat,by omega⟩
 have e:ds[k]?=some ds[k]:=List.getElem?_eq_getElem (by omega)
 obtain ⟨kvs,h1,h2⟩:=h.dk _ _ e
 exact ⟨ds[k],kvs,zen (by rw [List.getElem?_map,e];rfl),h1,h2⟩
theorem NK.keep {rs rs':List zcb} {x:Int} {kvs:List (Key×V)} (h:NK rs x kvs) (e:∀ y,sh rs' x y=sh rs x y) (l:rs.length≤rs'.length):NK rs' x kvs :=
 ⟨fun y=>by rw [e,h.val],h.key,h.nd,by have:=h.len;omega⟩
theorem NK.put {rs rs':List zcb} {x z v:Int} {kvs:List (Key×V)} (h:NK rs x kvs) (e:∀ y,sh rs' x y=if y=z then some v else sh rs x y) (l:rs'.length=rs.length+1):NK rs' x (zd8 kvs (.inl z) (.int v)):=by
 refine ⟨fun y=>?_,?_,?_,?_⟩
 ·rw [zd9,e,h.val]
  by_cases c:y=z
  ·rw [if_pos c,if_pos (by rw [c])]
   rfl
  ·rw [if_neg c,if_neg fun w=>c (Sum.inl.inj w)]
 ·rw [zeE]
  split
  ·intro k hk
   rcases List.mem_append.mp hk with w | w
   ·exact h.key k w
   ·exact ⟨z,by simpa using w⟩
  ·exact h.key
 ·rw [zeE]
  split
  ·rename_i c
   refine List.nodup_append.mpr ⟨h.nd,by simp,fun a ha b hb e=>?_⟩
   have:b=.inl z:=by simpa using hb
   subst this
   subst e
   exact (zfB ..).mpr ha c
  ·exact h.nd
 ·have h1:=zcs kvs (.inl z) (.int v)
  have h2:=h.len
  omega
def zrO:Sp:=fun vs H Q _=>∃ (w rl:Addr) (ts:List Addr) (m:Int) (rs:List zcb),vs=[.ref w]∧zmf H w rl ts m rs∧GW m rs∧∀ (nl:Addr) (ds:List Addr) (H':Hp),zbt H H'→zeF H' nl ds m rs→Q (.ref nl) H'
def zgG (K:PySem.W.Frag):TS :=
 (zaF (zdR (tOp (zcg K) (zac 1) (zac 2)) (zac 3) (tCB (fun xs H Q=>∃ i j,xs=[.int i,.int j]∧Q (.int (if j<i then j else i)) H) (zab (zac 4) (zab (zhx (tOp (zcg K) (zac 1) (zac 2)) (zac 3) (zac 4)) zau))))
 (zdR (tOp (zcg K) (zac 1) (zac 3)) (zac 2) (tCB (fun xs H Q=>∃ i j,xs=[.int i,.int j]∧Q (.int (if j<i then j else i)) H) (zab (zac 4) (zab (zhx (tOp (zcg K) (zac 1) (zac 3)) (zac 2) (zac 4)) zau)))))
theorem zc4 (K:PySem.W.Frag) (D:zb8) (σ:St) (H:Hp):zgG K D σ H=(zaF (zdR (tOp (zcg K) (zac 1) (zac 2)) (zac 3) (tCB (fun xs H Q=>∃ i j,xs=[.int i,.int j]∧Q (.int (if j<i then j else i)) H) (zab (zac 4) (zab (zhx (tOp (zcg K) (zac 1) (zac 2)) (zac 3) (zac 4)) zau))))
 (zdR (tOp (zcg K) (zac 1) (zac 3)) (zac 2) (tCB (fun xs H Q=>∃ i j,xs=[.int i,.int j]∧Q (.int (if j<i then j else i)) H) (zab (zac 4) (zab (zhx (tOp (zcg K) (zac 1) (zac 3)) (zac 2) (zac 4)) zau))))) D σ H:=rfl
def zgd (K:PySem.W.Frag):TS :=
 (zaF (zbj (zgh (zer (zab (tOp (zdz K) (zac 0) (tC (.int 0))) zau)) (zal 0) zdP zim [none]) (zal 1))
 (zaF (zgX (zgO K (tOp (zdz K) (zac 0) (tC (.int 1)))) (ziz K 3 (zbW (zal 2) (zbW (zal 3) (zbW (zal 4) ziy))))
 (zgG K))
 (zbY (zac 1))))
theorem zla {w rl:Addr} {ts:List Addr} {m:Int} {rs:List zcb} (W:zmf H w rl ts m rs) (G:GW m rs) (q:∀ (nl:Addr) (ds:List Addr) (H':Hp),zbt H H'→zeF H' nl ds m rs→Q (.ref nl) H') :
  zgd K { nx:=fun _ H'=>Q .non H',rt:=Q } (L2.zce ["_law_web_here","_law_near_here","_law_a","_law_b","_law_length_here"] [.ref w]) H:=by
 unfold zgd
 have m1:=G.m1
 have m60:=G.m60
 have l120:=G.l120
 simp_all only [zc4,zac]
 refine ⟨_,SqT.of W.hw,_,rfl,?_⟩
 refine ⟨m,rfl,by omega,by omega,fun nl hnl=>?_⟩
 let Pv4:Nat→List V→St→Hp→Prop:=fun i ys σ H'=>zbt H H'∧∃ (ds:List Addr),ys=ds.map V.ref∧ds.length=i∧ds.Nodup∧(∀ d∈ds,H' d=some (.dK [])∧H d=none)∧∃ k,σ=[k]
 refine zeP Pv4 ⟨zaj hnl _,[],rfl,rfl,by simp,by simp,_,rfl⟩ ?_ ?_
 ·rintro i ys σ H1 hi hn1 ⟨s1,ds,rfl,ld,nd,hd,k,rfl⟩
  simp_all only [zc4,zac]
  intro d hd1
  have nd1:nl≠d:=zaA hn1 hd1
  refine ⟨_,by rw [zaL nd1];exact hn1,zet (by rw [List.length_map];omega),_,zae,(s1.add hd1).put hnl,ds++[d],by rw [List.map_append];rfl,by rw [List.length_append,ld];rfl,?_,?_,_,rfl⟩
  ·refine List.nodup_append.mpr ⟨nd,by simp,fun a ha b hb e=>?_⟩
   have:b=d:=by simpa using hb
   subst this
   subst e
   rw [(hd a ha).1] at hd1
   cases hd1
  ·intro e he
   rcases List.mem_append.mp he with h | h
   ·have n2:e≠nl:=fun z=>by
     have:=(hd e h).1
     rw [z,hn1] at this
     cases this
    have n3:e≠d:=zaA (hd e h).1 hd1
    rw [zaL n2,zaL n3]
    exact hd e h
   ·have:e=d:=by simpa using h
    subst this
    rw [zaL nd1.symm]
    exact ⟨zae,s1.free hd1⟩
 ·rintro ys σ H1 hn1 ⟨s1,ds,rfl,ld,nd,hd,k,rfl⟩
  have hlen:ds.length=m.toNat:=ld
  refine ⟨_,SqT.of (s1 _ _ W.hw),_,rfl,_,rfl,⟨_,SqL.of (s1 _ _ W.hl)⟩,?_⟩
  let Pv5:Nat→St→Hp→Prop:=fun i σ H'=>zbt H H'∧H' nl=some (.lst (ds.map V.ref))∧(∃ kf:Nat→List (Key×V),∀ (x:Nat) d,ds[x]?=some d→H' d=some (.dK (kf x))∧NK (rs.take i) x (kf x))∧∃ x1 x2 x3,σ=[some (.ref w),some (.ref nl),x1,x2,x3]
  refine ze5 (K:=K) (xs:=ts.map V.ref) Pv5 ?_ ?_ ?_ ?_
  ·refine ⟨s1,hn1,⟨fun _=>[],fun x d e=>⟨(hd d (zdf e)).1,fun _=>rfl,by simp [zb2],by simp [zb2],Nat.zero_le _⟩⟩,_,_,_,rfl⟩
  ·rintro i σ H' _ ⟨s,_⟩
   exact SqL.of (s _ _ W.hl)
  ·rintro i t σ H2 hx ⟨s2,hn2,⟨kf,hk⟩,x1,x2,x3,rfl⟩
   obtain ⟨t,et,rfl⟩:=zeW hx
   obtain ⟨r,er,hr0⟩:=W.ht.at et
   obtain ⟨g1,g2,g3,g4,g5,g6,g7⟩:=G.gr r (zdf er)
   have li:=(List.getElem?_eq_some_iff.mp er).1
   obtain ⟨⟨av,bv,le⟩,rfl⟩:∃ r',r=r':=⟨r,rfl⟩
   simp only at g1 g2 g3 g4 g5 g6 g7
   obtain ⟨ai,rfl⟩:∃ k:Nat,av=k:=⟨av.toNat,by omega⟩
   obtain ⟨bi,rfl⟩:∃ k:Nat,bv=k:=⟨bv.toNat,by omega⟩
   have ea:ds[ai]?=some ds[ai]:=List.getElem?_eq_getElem (by omega)
   have eb:ds[bi]?=some ds[bi]:=List.getElem?_eq_getElem (by omega)
   generalize ds[ai]=da at ea
   generalize ds[bi]=db at eb
   have hdif:da≠db:=fun z=>by
    subst z
    have:=zhV nd ea eb
    omega
   obtain ⟨ha,na⟩:=hk ai da ea
   obtain ⟨hb,nb⟩:=hk bi db eb
   have lka:=na.len
   have lkb:=nb.len
   rw [List.length_take] at lka lkb
   have big:(1000:Nat)<sizeLine:=by decide
   have ia:atI (ds.map V.ref) (ai:Int)=some (.ref da):=zen (by rw [List.getElem?_map,ea];rfl)
   have ib:atI (ds.map V.ref) (bi:Int)=some (.ref db):=zen (by rw [List.getElem?_map,eb];rfl)
   have na0:H da=none:=(hd da (zdf ea)).2
   have nb0:H db=none:=(hd db (zdf eb)).2
   have dn:nl≠da:=fun z=>by rw [z,ha] at hn2;cases hn2
   have dn2:nl≠db:=fun z=>by rw [z,hb] at hn2;cases hn2
   simp_all only [zc4,zac]
   refine ⟨_,SqT.of (s2 _ _ hr0),rfl,_,_,rfl,_,_,rfl,_,_,rfl,rfl,?_⟩
   have ev:∀ x:Int,(if x<le then x else le)=min x le:=fun x=>by split <;> omega
   have esym:=zoT (rs.take i) bi ai
   have est:=zpP er
   refine ⟨_,_,rfl,SqL.of hn2,_,ia,_,rfl,.inl ⟨kf ai,.inl ha⟩,_,zfU.k (k:=.inl (bi:Int)) ha,_,rfl,(sh (rs.take i) ai bi).getD le,by rw [na.val,zj3],_,_,rfl,SqL.of hn2,_,ia,_,rfl,_,zjA.k (k:=.inl (bi:Int)) ha (by omega),?_⟩
   rw [ev]
   have e1:shs (sh (rs.take i)) ((ai:Int),(bi:Int),le)=fun x y=>if x=(bi:Int)∧y=(ai:Int) then some (min ((sh (rs.take i) ai bi).getD le) le) else if x=(ai:Int)∧y=(bi:Int) then some (min ((sh (rs.take i) ai bi).getD le) le) else sh (rs.take i) x y:=rfl
   rw [e1] at est
   generalize hv:min ((sh (rs.take i) ai bi).getD le) le=v at est
   have hn3:(L2.upd H2 da (.dK (zd8 (kf ai) (.inl (bi:Int)) (.int v)))) nl=some (.lst (ds.map V.ref)):=by rw [zaL dn];exact hn2
   have hb3:(L2.upd H2 da (.dK (zd8 (kf ai) (.inl (bi:Int)) (.int v)))) db=some (.dK (kf bi)):=by rw [zaL hdif.symm];exact hb
   refine ⟨_,_,rfl,SqL.of hn3,_,ib,_,rfl,.inl ⟨kf bi,.inl hb3⟩,_,zfU.k (k:=.inl (ai:Int)) hb3,_,rfl,(sh (rs.take i) bi ai).getD le,by rw [nb.val,zj3],_,_,rfl,SqL.of hn3,_,ib,_,rfl,_,zjA.k (k:=.inl (ai:Int)) hb3 (by omega),?_⟩
   rw [ev,esym,hv]
   refine ⟨(s2.put na0).put nb0,by rw [zaL dn2];exact hn3,⟨fun x=>if x=ai then zd8 (kf ai) (.inl (bi:Int)) (.int v) else if x=bi then zd8 (kf bi) (.inl (ai:Int)) (.int v) else kf x,fun x d e=>?_⟩,_,_,_,rfl⟩
   dsimp only
   have tl:(rs.take (i+1)).length=(rs.take i).length+1:=by rw [List.length_take,List.length_take];omega
   by_cases c1:x=ai
   ·subst c1
    rw [ea] at e
    cases e
    rw [if_pos rfl]
    refine ⟨by rw [zaL hdif];exact zae,na.put (fun y=>?_) tl⟩
    rw [est]
    simp only
    rw [if_neg fun z=>by omega]
    by_cases c:y=(bi:Int)
    ·rw [if_pos ⟨trivial,c⟩,if_pos c]
    ·rw [if_neg fun z=>c z.2,if_neg c]
   ·by_cases c2:x=bi
    ·subst c2
     rw [eb] at e
     cases e
     rw [if_neg c1,if_pos rfl]
     refine ⟨zae,nb.put (fun y=>?_) tl⟩
     rw [est]
     simp only
     by_cases c:y=(ai:Int)
     ·rw [if_pos ⟨trivial,c⟩,if_pos c]
     ·rw [if_neg fun z=>c z.2,if_neg fun z=>by omega,if_neg c]
    ·rw [if_neg c1,if_neg c2]
     obtain ⟨h5,h6⟩:=hk x d e
     have n1:d≠da:=fun z=>c1 (zhV nd (z ▸ e) ea)
     have n2:d≠db:=fun z=>c2 (zhV nd (z ▸ e) eb)
     refine ⟨by rw [zaL n2,zaL n1];exact h5,h6.keep (fun y=>?_) (by omega)⟩
     rw [est]
     simp only
     rw [if_neg fun z=>by omega,if_neg fun z=>by omega]
  ·rintro σ H2 ⟨s2,hn2,⟨kf,hk⟩,x1,x2,x3,rfl⟩
   rw [List.take_of_length_le (by rw [List.length_map,W.ht.1];exact Nat.le_refl _)] at hk
   simp_all only [zc4,zac]
   exact q nl ds H2 s2 ⟨hn2,by omega,fun x d e=>⟨kf x,hk x d e⟩⟩
theorem zdo:zbk ["_law_web_here","_law_near_here","_law_a","_law_b","_law_length_here"] ["_law_web_here"] (zaC zeD):=⟨rfl,rfl,rfl,by decide +kernel,rfl,by decide +kernel,by decide +kernel⟩
theorem zkL (T:Txt K mg a):zdV P w K mg base CX0 2 a.f__law_near a.d__law_near ["_law_web_here"] zrO:=by
 refine T.F__law_near.ok zdo (fun vs H Q E h=>?_) (fun cdv A outer s H vs Q E hr h=>?_)
 ·obtain ⟨w',rl,ts,m,rs,rfl,W,G,q⟩:=h
  rfl
 obtain ⟨w',rl,ts,m,rs,rfl,W,G,q⟩:=h
 exact ⟨zgd K,(zaf (zg0 (i:=1) zdo.nd rfl rfl (sc:=zaC zeD) (N:=["_law_web_here","_law_near_here","_law_a","_law_b","_law_length_here"]) (Nc:=["_law_place"]) (cap:=[none]) rfl rfl rfl (.of (by decide +kernel)) (zcD rfl T.z_range (zaa (zbh zcw (pv 0) zah (fun _ _=>rfl)) zag)) (fun _ _ _ _=>(za0 (i:=0) (show List.Nodup (["_law_place"]:List Str) from by decide) rfl (Or.inl rfl))) (fun _ _ _ _=>zir) (fun _ _ _ _=>zhF))
 (zaf (zdg PassesOwn.never rfl (zgo (zbh zcw (pv 0) zah (fun _ _=>rfl))) (zev rfl (zbd (za0 (i:=2) zdo.nd rfl (Or.inl rfl)) (zbd (za0 (i:=3) zdo.nd rfl (Or.inl rfl)) (zbd (za0 (i:=4) zdo.nd rfl (Or.inl rfl)) zdh))))
 (zaf (zdM (zcX hr) (zbh zaJ (pv 1) (pv 2) (fun _ _=>rfl)) (pv 3) (zai (zfa rfl) rfl T.z_min PyProof.Rows.boot_min (zaa (pv 4) (zaa (zjt (zcX hr) (zbh zaJ (pv 1) (pv 2) (fun _ _=>rfl)) (pv 3) (pv 4) ⟨rfl,rfl,rfl,rfl⟩) zag))) rfl)
 (zak (zdM (zcX hr) (zbh zaJ (pv 1) (pv 3) (fun _ _=>rfl)) (pv 2) (zai (zfa rfl) rfl T.z_min PyProof.Rows.boot_min (zaa (pv 4) (zaa (zjt (zcX hr) (zbh zaJ (pv 1) (pv 3) (fun _ _=>rfl)) (pv 2) (pv 4) ⟨rfl,rfl,rfl,rfl⟩) zag))) rfl))))
 (zak (zaX (pv 1))))),
  zla W G q⟩
theorem zmV:∀ (l:List Key),(∀ k∈l,∃ y:Int,k=.inl y)→∃ ks:List Int,l=ks.map Sum.inl
 | [],_=>⟨[],rfl⟩
 | k::l,h=>by
  obtain ⟨y,rfl⟩:=h k (by simp)
  obtain ⟨ks,rfl⟩:=zmV l fun k hk=>h k (by simp [hk])
  exact ⟨y::ks,rfl⟩
theorem NK.nbs {rs:List zcb} {x m:Int} {kvs:List (Key×V)} (h:NK rs x kvs) (G:GW m rs):∃ ks:List Int,kvs.map (·.1)=ks.map Sum.inl∧ks.length<64∧(∀ y,y∈ks↔sh rs x y≠none)∧ks.Nodup:=by
 obtain ⟨ks,e⟩:=zmV (zb2 kvs) h.key
 have hm:∀ y,y∈ks↔sh rs x y≠none:=fun y=>by
  have h1:=zfB kvs (Sum.inl y)
  rw [e,h.val] at h1
  have h2:(Sum.inl y:Key)∈ks.map Sum.inl↔y∈ks:=by
   rw [List.mem_map]
   exact ⟨fun ⟨z,hz,ez⟩=>by cases ez;exact hz,fun hz=>⟨y,hz,rfl⟩⟩
  rw [← h2,← h1]
  exact ⟨fun z w=>z (by rw [w];rfl),fun z w=>z (Option.map_eq_none_iff.mp w)⟩
 have nd:ks.Nodup:=by
  have:=h.nd
  rw [e] at this
  exact List.Pairwise.of_map Sum.inl (fun a b h e=>h (by rw [e])) this
 refine ⟨ks,e,?_,hm,nd⟩
 have:=zbr ks (ze2 m) nd fun y hy=>by
  obtain ⟨l,hl⟩:=Option.ne_none_iff_exists'.mp ((hm y).mp hy)
  obtain ⟨_,_,y0,y1,_⟩:=ze8 rs G.gr _ _ _ hl
  exact zb6.mpr ⟨y0,y1⟩
 have m60:=G.m60
 unfold ze2 at this
 rw [List.length_map,List.length_range] at this
 omega
def zmh:Sp:=fun vs H Q _=>∃ (nl:Addr) (ds:List Addr) (m:Int) (rs:List zcb),vs=[.ref nl]∧zeF H nl ds m rs∧GW m rs∧∀ (r:Addr) (us:List Addr) (ps:List (Int×Int)) (H':Hp),zbt H H'→H' r=some (.lst (us.map V.ref))→Tps prv H' us ps→(∀ p,p∈ps↔sh rs p.1 p.2≠none)→us.length≤4000→Q (.ref r) H'
def zf2 (K:PySem.W.Frag):TS :=
 (zbj (tOp zfn (zac 1) (zgh (zgO K (tCB zdH (zab (tOp (zcg K) (zac 0) (zac 2)) zau))) (zal 0) zdP (zgq (zab (zac 1) (zab (zac 0) zau))) [none,some 2])) (zal 1))
theorem zcS (K:PySem.W.Frag) (D:zb8) (σ:St) (H:Hp):zf2 K D σ H=(zbj (tOp zfn (zac 1) (zgh (zgO K (tCB zdH (zab (tOp (zcg K) (zac 0) (zac 2)) zau))) (zal 0) zdP (zgq (zab (zac 1) (zab (zac 0) zau))) [none,some 2])) (zal 1)) D σ H:=rfl
def zft (K:PySem.W.Frag):TS :=
 (zaF (zbj (zd4 zau) (zal 1))
 (zaF (zgX (zer (zab (tCB (fun xs H Q=>∃ p ys,xs=[.ref p]∧(SqL K H p ys∨SqT K H p ys)∧Q (.int ys.length) H) (zab (zac 0) zau)) zau)) (zal 2)
 (zf2 K))
 (zbY (zac 1))))
theorem zjM {nl:Addr} {ds:List Addr} {m:Int} {rs:List zcb} (N:zeF H nl ds m rs) (G:GW m rs) (q:∀ (r:Addr) (us:List Addr) (ps:List (Int×Int)) (H':Hp),zbt H H'→H' r=some (.lst (us.map V.ref))→Tps prv H' us ps→(∀ p,p∈ps↔sh rs p.1 p.2≠none)→us.length≤4000→Q (.ref r) H') :
  zft K { nx:=fun _ H'=>Q .non H',rt:=Q } (L2.zce ["_law_near_here","_law_pairs_here","_law_place"] [.ref nl]) H:=by
 unfold zft
 have m1:=G.m1
 have m60:=G.m60
 have ln:=N.len
 simp_all only [zcS,zac]
 refine ⟨by decide,fun l0 hl0=>?_⟩
 have s1:=zaj hl0 (.lst [])
 have h1:(L2.upd H l0 (.lst [])) l0=some (.lst []):=zae
 generalize L2.upd H l0 (.lst [])=H1 at s1 h1 ⊢
 refine ⟨_,.inl (SqL.of (s1 _ _ N.hl)),?_⟩
 rw [List.length_map]
 refine ⟨by omega,by omega,?_⟩
 rw [Int.toNat_natCast]
 refine zc6 (fun i σ H'=>zbt H1 H'∧∃ (l:Addr) (us:List Addr) (ps:List (Int×Int)),H' l=some (.lst (us.map V.ref))∧Tps prv H' us ps∧(∀ p,p∈ps↔p.1<(i:Int)∧sh rs p.1 p.2≠none)∧us.length≤64*i∧∃ x,σ=[some (.ref nl),some (.ref l),x]) ⟨.refl _,l0,[],[],h1,.nil,fun p=>⟨(fun z=>absurd z List.not_mem_nil),fun z=>?_⟩,Nat.zero_le _,_,rfl⟩ ?_ ?_
 ·obtain ⟨l,hl⟩:=Option.ne_none_iff_exists'.mp z.2
  have:=(ze8 rs G.gr _ _ _ hl).1
  have:=z.1
  omega
 ·rintro i σ H2 hi ⟨s2,l,us,ps,hl2,hT,hp,lu,x,rfl⟩
  have N2:=N.same (s1.trans s2)
  obtain ⟨d,kvs,e1,e2,e3⟩:=N2.at (x:=(i:Int)) (by omega) (by omega)
  obtain ⟨ks,ek,k64,hk,_⟩:=e3.nbs G
  simp_all only [zcS,zac]
  rw [Int.zero_add]
  refine ⟨_,SqL.of N2.hl,_,e1,_,rfl,kvs,e2,ks,ek,k64,fun so ns hso hperm _=>?_⟩
  have s3:=zaj hso (.lst (ns.map V.int))
  have h3:(L2.upd H2 so (.lst (ns.map V.int))) so=some (.lst (ns.map V.int)):=zae
  generalize L2.upd H2 so (.lst (ns.map V.int))=H3 at s3 h3 ⊢
  have hns:∀ y,y∈ns↔sh rs (i:Int) y≠none:=fun y=>by rw [hperm.mem_iff,hk]
  have lns:ns.length<64:=by rw [hperm.length_eq];exact k64
  refine ⟨⟨_,SqL.of h3⟩,fun D hD=>?_⟩
  refine zjb (K:=K) (xs:=ns.map V.int) (fun j ys σ H'=>zbt H3 H'∧∃ (vs:List Addr) (qs:List (Int×Int)),ys=vs.map V.ref∧vs.length=j∧Tps prv (Off D D H') vs qs∧qs=(ns.take j).map (fun y=>((i:Int),y))∧∃ k,σ=[k,some (.int (i:Int))]) ⟨zaj hD _,[],[],rfl,rfl,.nil,rfl,_,rfl⟩ ?_ ?_ ?_
  ·rintro j ys σ H' _ ⟨s,_⟩
   exact SqL.of (s _ _ h3)
  ·rintro j x ys σ H4 hx hD4 ⟨s4,vs,qs,rfl,lv,hTv,rfl,k,rfl⟩
   obtain ⟨y,ey,rfl⟩:=zeW hx
   have lj:=(List.getElem?_eq_some_iff.mp ey).1
   simp_all only [zcS,zac]
   refine ⟨by decide,fun u hu=>?_⟩
   have nu:u≠D:=(zaA hD4 hu).symm
   have s5:=zaj hu (.tup [V.int (i:Int),V.int y])
   have h5:(L2.upd H4 u (.tup [V.int (i:Int),V.int y])) u=some (.tup [V.int (i:Int),V.int y]):=zae
   generalize L2.upd H4 u (.tup [V.int (i:Int),V.int y])=H5 at s5 h5 ⊢
   refine ⟨_,s5 _ _ hD4,zet (by rw [List.length_map,lv];omega),_,zae,(s4.trans s5).put hD,vs++[u],by rw [List.map_append];rfl,by rw [List.length_append,lv];rfl,?_⟩
   rw [zoQ,List.take_add_one,ey,List.map_append]
   exact ⟨_,(hTv.same (zfI D D s5)).put (b:=((i:Int),y)) (fun x u h=>h) (by rw [zjp nu nu];exact h5),rfl⟩
  ·rintro ys σ H4 hD4 ⟨s4,vs,qs,rfl,lv,hTv,rfl,k,rfl⟩
   rw [List.length_map] at lv hTv
   rw [List.take_length] at hTv
   have T4:=hTv.same (zmQ D D H4)
   have big:(10000:Nat)<sizeLine:=by decide
   refine ⟨D,rfl,_,s4 _ _ (s3 _ _ hl2),_,hD4,by rw [List.length_map,List.length_map];omega,fun r hr=>?_⟩
   have s25:=(s3.trans s4).add hr (o:=.lst (us.map V.ref++vs.map V.ref))
   refine ⟨s2.trans s25,r,us++vs,by rw [zae,List.map_append],ps++ns.map (fun y=>((i:Int),y)),?_,fun p=>?_,by rw [List.length_append];omega,rfl⟩
   ·exact (hT.same s25).app (T4.same (zaj hr _))
   ·rw [List.mem_append,hp,List.mem_map]
    constructor
    ·rintro (⟨h,h'⟩ | ⟨y,hy,rfl⟩)
     ·exact ⟨by omega,h'⟩
     ·exact ⟨by simp only;omega,(hns y).mp hy⟩
    ·rintro ⟨h,h'⟩
     by_cases c:p.1<(i:Int)
     ·exact .inl ⟨c,h'⟩
     ·have e:p.1=(i:Int):=by omega
      refine .inr ⟨p.2,(hns _).mpr (by rw [← e];exact h'),?_⟩
      rw [← e]
 ·rintro σ H2 ⟨s2,l,us,ps,hl2,hT,hp,lu,x,rfl⟩
  simp_all only [zcS,zac]
  refine q l us ps H2 (s1.trans s2) hl2 hT (fun p=>?_) (by omega)
  rw [hp]
  refine ⟨And.right,fun z=>⟨?_,z⟩⟩
  obtain ⟨l,hl⟩:=Option.ne_none_iff_exists'.mp z
  have:=(ze8 rs G.gr _ _ _ hl).2.1
  omega
theorem zdK:zbk ["_law_near_here","_law_pairs_here","_law_place"] ["_law_near_here"] (zaC zd5):=⟨rfl,rfl,rfl,by decide +kernel,rfl,by decide +kernel,by decide +kernel⟩
theorem zj0 (T:Txt K mg a):zdV P w K mg base CX0 1 a.f__law_pairs a.d__law_pairs ["_law_near_here"] zmh:=by
 refine T.F__law_pairs.ok zdK (fun vs H Q E h=>?_) (fun cdv A outer s H vs Q E hr h=>?_)
 ·obtain ⟨nl,ds,m,rs,rfl,N,G,q⟩:=h
  rfl
 obtain ⟨nl,ds,m,rs,rfl,N,G,q⟩:=h
 exact ⟨zft K,(zaf (zaB (i:=1) zdK.nd rfl (Or.inl rfl) (zcm zag))
 (zaf (zdg PassesOwn.never rfl (zcD rfl T.z_range (zaa (zai zax rfl T.z_len PySem.boot_len (zaa (pv 0) zag)) zag)) (za0 (i:=2) zdK.nd rfl (Or.inr rfl))
 (zak (zaB (i:=1) zdK.nd rfl (Or.inl rfl) (zaz zdA (pv 1) (zmw (sc:=zaC zd5) (N:=["_law_near_here","_law_pairs_here","_law_place"]) (Nc:=["_law_other","_law_place"]) (cap:=[none,some 2]) rfl rfl rfl (.of (by decide +kernel)) (zgo (zai (zfl rfl) rfl T.z_sorted PyProof.Rows.boot_sorted (zaa (zbh zaJ (pv 0) (pv 2) (fun _ _=>rfl)) zag))) (fun _ _ _ _=>(za0 (i:=0) (show List.Nodup (["_law_other","_law_place"]:List Str) from by decide) rfl (Or.inl rfl))) (fun _ _ _ _=>zir) (fun _ _ _ _=>(zdB (zaa (pv 1) (zaa (pv 0) zag)))))))))
 (zak (zaX (pv 1))))),
  zjM N G q⟩
theorem zor {f:Int→Int→Option Int} (ps:List (Int×Int)):∀ x,(spC f ps).2 x≠none↔x=0∨∃ p∈ps,p.2=x:=by
 have z:∀ (ps:List (Int×Int)) (s:Int×Ct) (x:Int),(ps.foldl (fun s p=>stC f s p.1 p.2) s).2 x≠none↔s.2 x≠none∨∃ p∈ps,p.2=x:=by
  intro ps
  induction ps with
  | nil=>intro s x;simp
  | cons p ps ih =>
   intro s x
   rw [List.foldl_cons,ih,zjD]
   simp only [List.mem_cons]
   constructor
   ·rintro ((rfl | h) | ⟨p',hp,e⟩)
    ·exact .inr ⟨p,.inl rfl,rfl⟩
    ·exact .inl h
    ·exact .inr ⟨p',.inr hp,e⟩
   ·rintro (h | ⟨p',rfl | hp,e⟩)
    ·exact .inl (.inr h)
    ·exact .inl (.inl e.symm)
    ·exact .inr ⟨p',hp,e⟩
 intro x
 unfold spC
 rw [z]
 have:((0:Int),ct0).2 x≠none↔x=0:=by
  show ct0 x≠none↔_
  unfold ct0
  by_cases c:x=0
  ·simp [c]
  ·simp [c]
 rw [this]
theorem zqW {m:Int} {rs:List zcb} (G:GW m rs) {ls:List Int} (h0:(0:Int)∈ls) (nd:ls.Nodup) (hr:∀ x∈ls,0≤x∧x<m) (hl:(ls.length:Int)<m):∃ x y,x∈ls∧y∉ls∧sh rs x y≠none:=by
 refine Classical.byContradiction fun c=>?_
 have all:∀ x,0≤x→x<m→x∈ls:=G.conn (fun x=>x∈ls) h0 fun r hr=>by
  have e1:=zpA hr
  have e2:sh rs r.2.1 r.1≠none:=by rw [zoT];exact e1
  by_cases c1:r.1∈ls
  ·by_cases c2:r.2.1∈ls
   ·exact fun _=>⟨c1,c2⟩
   ·exact absurd ⟨_,_,c1,c2,e1⟩ c
  ·by_cases c2:r.2.1∈ls
   ·exact absurd ⟨_,_,c2,c1,e2⟩ c
   ·exact fun z=>(z.elim c1 c2).elim
 have:=zbr (ze2 m) ls zfN fun x hx=>by
  obtain ⟨x0,x1⟩:=zb6.mp hx
  exact all x x0 x1
 unfold ze2 at this
 rw [List.length_map,List.length_range] at this
 omega
theorem zhm (x:Int) (ls:List Int):inV (.int x) (ls.map V.int)=decide (x∈ls):=by
 unfold inV
 rw [List.any_map]
 have z:∀ y:Int,eqV (.int y) (.int x)=decide (y=x):=fun y=>by
  show (y == x)=_
  by_cases c:y=x
  ·simp [c]
  ·simp [c]
 induction ls with
 | nil=>simp
 | cons y ls ih =>
  rw [List.any_cons,ih]
  simp only [Function.comp,z,List.mem_cons]
  by_cases c:y=x
  ·simp [c]
  ·have c':¬ x=y:=fun z=>c z.symm
   simp [c,c']
theorem zeu (ls:List Int):(ls.map V.int).all zgl=true:=by
 rw [List.all_map]
 exact List.all_eq_true.mpr fun _ _=>rfl
def zm7 (K:PySem.W.Frag):Sp:=fun vs H Q _=>∃ (p nl:Addr) (ns:List Int) (st:Int) (ds:List Addr) (m:Int) (rs:List zcb),vs=[.ref p,.int st,.ref nl]∧SqL K H p (ns.map V.int)∧ns.length≤63∧0≤st∧st≤10000∧zeF H nl ds m rs∧GW m rs ∧
 ∀ (r:Addr) (us:List Addr) (ps:List (Int×Int)) (H':Hp),zbt H H'→H' r=some (.lst (us.map V.ref))→Tps prv H' us ps→Spr (sh rs) m ps→Q (.ref r) H'
def zfq (K:PySem.W.Frag):TS :=
 (zaF (zbj (zgh (zgO K (zaY zmh [] E0 (zab (zac 2) zau))) (ziz K 2 (zbW (zal 0) (zbW (zal 1) ziy))) (zp4 (zaK (tOp (rIn K false) (zac 0) (zac 2))) (zaK (tOp (rIn K true) (zac 1) (zac 2)))) (zgq (zab (zac 0) (zab (zac 1) zau))) [none,none,some 3]) (zal 5))
 (zaF (zbj (tOp (zcg K) (zac 5) (tOp (rI (fun _ j=>0<j) fun i j=>.int (i % j)) (zaY (zbz K) [] E0 (zab (zac 0) (zab (tOp (rI0 fun i j=>.int (i+j)) (zac 1) (tCB (fun xs H Q=>∃ p ys,xs=[.ref p]∧(SqL K H p ys∨SqT K H p ys)∧Q (.int ys.length) H) (zab (zac 4) zau))) zau))) (tCB (fun xs H Q=>∃ p ys,xs=[.ref p]∧(SqL K H p ys∨SqT K H p ys)∧Q (.int ys.length) H) (zab (zac 5) zau)))) (zal 6))
 (zaF (zdD (tBM K "list" zb3 (zac 4) (zab (zac 6) zau)))
 (zdD (tBM K "list" zb3 (zac 3) (zab (tOp (zdz K) (zac 6) (tC (.int 1))) zau))))))
theorem zcB (K:PySem.W.Frag) (D:zb8) (σ:St) (H:Hp):zfq K D σ H=(zaF (zbj (zgh (zgO K (zaY zmh [] E0 (zab (zac 2) zau))) (ziz K 2 (zbW (zal 0) (zbW (zal 1) ziy))) (zp4 (zaK (tOp (rIn K false) (zac 0) (zac 2))) (zaK (tOp (rIn K true) (zac 1) (zac 2)))) (zgq (zab (zac 0) (zab (zac 1) zau))) [none,none,some 3]) (zal 5))
 (zaF (zbj (tOp (zcg K) (zac 5) (tOp (rI (fun _ j=>0<j) fun i j=>.int (i % j)) (zaY (zbz K) [] E0 (zab (zac 0) (zab (tOp (rI0 fun i j=>.int (i+j)) (zac 1) (tCB (fun xs H Q=>∃ p ys,xs=[.ref p]∧(SqL K H p ys∨SqT K H p ys)∧Q (.int ys.length) H) (zab (zac 4) zau))) zau))) (tCB (fun xs H Q=>∃ p ys,xs=[.ref p]∧(SqL K H p ys∨SqT K H p ys)∧Q (.int ys.length) H) (zab (zac 5) zau)))) (zal 6))
 (zaF (zdD (tBM K "list" zb3 (zac 4) (zab (zac 6) zau)))
 (zdD (tBM K "list" zb3 (zac 3) (zab (tOp (zdz K) (zac 6) (tC (.int 1))) zau)))))) D σ H:=rfl
def zeJ (K:PySem.W.Frag):TS :=
 (zaF (zbj (zd4 (zab (tC (.int 0)) zau)) (zal 3))
 (zaF (zbj (zd4 zau) (zal 4))
 (zaF (zgE (zaK (tOp (rI0 fun i j=>.bl (decide (i<j))) (tCB (fun xs H Q=>∃ p ys,xs=[.ref p]∧(SqL K H p ys∨SqT K H p ys)∧Q (.int ys.length) H) (zab (zac 3) zau)) (tCB (fun xs H Q=>∃ p ys,xs=[.ref p]∧(SqL K H p ys∨SqT K H p ys)∧Q (.int ys.length) H) (zab (zac 2) zau)))) (zfq K))
 (zbY (zac 4)))))
theorem ziW {p nl:Addr} {ns:List Int} {st:Int} {ds:List Addr} {m:Int} {rs:List zcb} (hS:SqL K H p (ns.map V.int)) (hl:ns.length≤63) (st0:0≤st) (st1:st≤10000) (N:zeF H nl ds m rs) (G:GW m rs)
  (q:∀ (r:Addr) (us:List Addr) (ps:List (Int×Int)) (H':Hp),zbt H H'→H' r=some (.lst (us.map V.ref))→Tps prv H' us ps→Spr (sh rs) m ps→Q (.ref r) H') :
  zeJ K { nx:=fun _ H'=>Q .non H',rt:=Q } (L2.zce ["_law_script","_law_start","_law_near_here","_law_come","_law_spread_here","_law_some","_law_pair"] [.ref p,.int st,.ref nl]) H:=by
 unfold zeJ
 have m1:=G.m1
 have m60:=G.m60
 have ln:=N.len
 simp_all only [zcB,zac]
 refine ⟨by decide,fun co hco=>?_⟩
 have sco:=zaj hco (.lst [V.int 0])
 refine ⟨by decide,fun sp hsp=>?_⟩
 have nsp:sp≠co:=(zaA zae hsp).symm
 have hsp0:H sp=none:=sco.free hsp
 refine zh2 (m:=99) (fun n σ H'=>zbt H H'∧∃ (ls:List Int) (us:List Addr) (ps:List (Int×Int)) (x y:Option V),H' co=some (.lst (ls.map V.int))∧H' sp=some (.lst (us.map V.ref))∧Tps prv (Off co sp H') us ps∧ls=0::ps.map (fun p=>p.2)∧ls.Nodup∧(∀ x∈ls,0≤x∧x<m) ∧
  (∀ (i:Nat) p,ps[i]?=some p→(spC (sh rs) (ps.take i)).2 p.1≠none∧(spC (sh rs) (ps.take i)).2 p.2=none∧sh rs p.1 p.2≠none)∧n=100 - ls.length∧σ=[some (.ref p),some (.int st),some (.ref nl),some (.ref co),some (.ref sp),x,y]) ?_ ?_
 ·refine ⟨sco.add hsp,[0],[],[],_,_,by rw [zaL nsp.symm];exact zae,zae,.nil,rfl,by simp,by simp;omega,by simp,rfl,rfl⟩
 ·rintro n σ H1 ⟨s1,ls,us,ps,x,y,h1,h2,hT,els,nd,hr,ok,rfl,rfl⟩
  have N1:=N.same s1
  have llm:(ls.length:Int)≤m:=by
   have:=zbr ls (ze2 m) nd fun x hx=>zb6.mpr (hr x hx)
   unfold ze2 at this
   rw [List.length_map,List.length_range] at this
   omega
  have lls:ls.length≤60:=by omega
  have lps:ls.length=ps.length+1:=by rw [els,List.length_cons,List.length_map]
  have lus:=hT.1
  simp_all only [zcB,zac]
  refine ⟨_,.inl (SqL.of h1),_,.inl (SqL.of N1.hl),?_⟩
  rw [List.length_map,List.length_map]
  refine zcc (fun c=>?_) (fun c=>?_)
  ·refine ⟨_,fun _ _ h=>h,?_⟩
   refine ⟨nl,ds,m,rs,rfl,N1,G,fun pr us2 ps2 H2 s2 hp2 hT2 hm2 lu2=>?_⟩
   simp_all only [zcB,zac]
   refine ⟨⟨_,SqL.of hp2⟩,fun D hD=>?_⟩
   refine zjb (K:=K) (xs:=us2.map V.ref) (fun j ys σ H'=>zbt H2 H'∧∃ (vs:List Addr) (qs:List (Int×Int)),ys=vs.map V.ref∧vs.length≤j∧Tps prv (Off D D H') vs qs∧(∀ q,q∈qs↔q∈ps2.take j∧q.1∈ls∧q.2∉ls)∧∃ k1 k2,σ=[k1,k2,some (.ref co)]) ⟨zaj hD _,[],[],rfl,Nat.le_refl _,.nil,by simp,_,_,rfl⟩ ?_ ?_ ?_
   ·rintro j ys σ H' _ ⟨s,_⟩
    exact SqL.of (s _ _ hp2)
   ·rintro j x ys σ H3 hx hD3 ⟨s3,vs,qs,rfl,lv,hTv,hq,k1,k2,rfl⟩
    obtain ⟨t,et,rfl⟩:=zeW hx
    obtain ⟨⟨av,bv⟩,er,hr0⟩:=hT2.at et
    have lj:=(List.getElem?_eq_some_iff.mp et).1
    simp_all only [zcB,zac]
    refine ⟨_,SqT.of (s3 _ _ hr0),rfl,_,_,rfl,_,_,rfl,rfl,?_⟩
    have hco3:=s3 _ _ (s2 _ _ h1)
    have nxt:∀ q:Int×Int,q∈ps2.take (j+1)↔q∈ps2.take j∨q=(av,bv):=fun q=>by
     rw [List.take_add_one,er,List.mem_append]
     simp
    refine ⟨_,.inl (SqL.of hco3),rfl,zeu ls,?_⟩
    rw [zhm]
    have big:(10000:Nat)<sizeLine:=by decide
    have no:¬ (av∈ls∧bv∉ls)→∃ ys,H3 D=some (.lst ys)∧zbt H2 H3∧∃ vs:List Addr,ys=vs.map V.ref∧vs.length≤j+1∧∃ x:List (Int×Int),Tps prv (Off D D H3) vs x∧∀ q:Int×Int,q∈x↔q∈ps2.take (j+1)∧q.1∈ls∧¬ q.2∈ls:=by
     intro hn
     refine ⟨_,hD3,s3,vs,rfl,by omega,qs,hTv,fun q=>?_⟩
     rw [hq,nxt]
     refine ⟨fun z=>⟨.inl z.1,z.2⟩,fun z=>⟨z.1.resolve_right fun e=>hn ?_,z.2⟩⟩
     rw [e] at z
     exact z.2
    refine zcc (fun c1=>?_) (fun c1=>no fun z=>c1 (decide_eq_true z.1))
    refine ⟨_,.inl (SqL.of hco3),rfl,zeu ls,?_⟩
    rw [zhm]
    refine zcc (fun c2=>?_) (fun c2=>no fun z=>c2 (decide_eq_false z.2))
    have c1':av∈ls:=of_decide_eq_true c1
    have c2':bv∉ls:=of_decide_eq_false c2
    refine ⟨by decide,fun u hu=>?_⟩
    have nu:u≠D:=(zaA hD3 hu).symm
    have s4:=zaj hu (.tup [V.int (av,bv).1,V.int (av,bv).2])
    have h4:(L2.upd H3 u (.tup [V.int (av,bv).1,V.int (av,bv).2])) u=some (.tup [V.int (av,bv).1,V.int (av,bv).2]):=zae
    generalize L2.upd H3 u (.tup [V.int (av,bv).1,V.int (av,bv).2])=H4 at s4 h4 ⊢
    refine ⟨_,s4 _ _ hD3,by rw [List.length_map];omega,_,zae,(s3.trans s4).put hD,vs++[u],by rw [List.map_append];rfl,by rw [List.length_append];simp only [List.length_cons,List.length_nil];omega,qs++[(av,bv)],?_,fun q=>?_⟩
    ·rw [zoQ]
     exact (hTv.same (zfI D D s4)).put (b:=(av,bv)) (fun x u h=>h) (by rw [zjp nu nu];exact h4)
    ·rw [List.mem_append,hq,nxt]
     simp only [List.mem_cons,List.not_mem_nil,or_false]
     constructor
     ·rintro (⟨z1,z2⟩ | rfl)
      ·exact ⟨.inl z1,z2⟩
      ·exact ⟨.inr rfl,c1',c2'⟩
     ·rintro ⟨z1 | rfl,z2⟩
      ·exact .inl ⟨z1,z2⟩
      ·exact .inr rfl
   ·rintro ys σ H3 hD3 ⟨s3,vs,qs,rfl,lv,hTv,hq,k1,k2,rfl⟩
    have T3:=hTv.same (zmQ D D H3)
    have s13:=s2.trans s3
    have e2:ps2.take (us2.map V.ref).length=ps2:=List.take_of_length_le (by rw [List.length_map,hT2.1];exact Nat.le_refl _)
    rw [e2] at hq
    have hq':∀ q:Int×Int,q∈qs↔sh rs q.1 q.2≠none∧q.1∈ls∧q.2∉ls:=fun q=>by rw [hq,hm2]
    obtain ⟨x0,y0,hx0,hy0,hxy⟩:=zqW G (by rw [els];simp) nd hr (by omega)
    have qpos:0<qs.length:=List.length_pos_of_mem ((hq' (x0,y0)).mpr ⟨hxy,hx0,hy0⟩)
    have lvq:=T3.1
    refine ⟨_,.inl (SqL.of (s13 _ _ h2)),?_⟩
    refine ⟨p,ns,_,rfl,(s1.trans s13).seq hS,hl,by rw [List.length_map];omega,by rw [List.length_map];omega,fun n n0 n1=>?_⟩
    refine ⟨D,rfl,_,.inl (SqL.of hD3),_,rfl,?_⟩
    rw [List.length_map]
    have z0:=Int.emod_nonneg n (show (vs.length:Int)≠0 by omega)
    have z1:=Int.emod_lt_of_pos n (show 0<(vs.length:Int) by omega)
    generalize n % (vs.length:Int)=k at z0 z1
    obtain ⟨ki,rfl⟩:∃ ki:Nat,k=ki:=⟨k.toNat,by omega⟩
    have ev:vs[ki]?=some vs[ki]:=List.getElem?_eq_getElem (by omega)
    generalize vs[ki]=t at ev
    obtain ⟨⟨av,bv⟩,er,hr0⟩:=T3.at ev
    obtain ⟨w1,w2,w3⟩:=(hq' _).mp (zdf er)
    simp only at w1 w2 w3
    have iv:atI (vs.map V.ref) (ki:Int)=some (.ref t):=zen (by rw [List.getElem?_map,ev];rfl)
    have h23:=s13 _ _ h2
    have h13:=s13 _ _ h1
    have tsp:t≠sp:=zqt hr0 h23 (fun z=>nomatch z)
    have tco:t≠co:=zqt hr0 h13 (fun z=>nomatch z)
    have big:(10000:Nat)<sizeLine:=by decide
    have h14:(L2.upd H3 sp (.lst (us.map V.ref++[.ref t]))) co=some (.lst (ls.map V.int)):=by rw [zaL nsp.symm];exact h13
    have T4:Tps prv (Off co sp H3) (us++[t]) (ps++[(av,bv)]):=(hT.same (zfI co sp s13)).put (b:=(av,bv)) (fun x u h=>h) (by rw [zjp tco tsp];exact hr0)
    have bR:0≤bv∧bv<m:=by
     obtain ⟨l,hl⟩:=Option.ne_none_iff_exists'.mp w1
     obtain ⟨_,_,y0,y1,_⟩:=ze8 rs G.gr _ _ _ hl
     exact ⟨y0,y1⟩
    have inls:∀ x,x∈ls↔(spC (sh rs) ps).2 x≠none:=fun x=>by
     rw [zor,els,List.mem_cons,List.mem_map]
    refine ⟨by omega,D,rfl,_,SqL.of hD3,_,iv,.inl ⟨rfl,_,SqL.of h23⟩,_,h23,by rw [List.length_map];omega,.inl ⟨rfl,_,SqL.of h14⟩,t,rfl,_,SqT.of (by rw [zaL tsp];exact hr0),_,rfl,_,h14,by rw [List.length_map];omega,_,?_,((s1.trans s13).put hsp0).put hco,ls++[bv],?_,us++[t],?_,ps++[(av,bv)],?_,?_,?_,?_,?_,rfl⟩
    ·rw [List.length_append]
     simp only [List.length_cons,List.length_nil]
     omega
    ·rw [zae,List.map_append]
     rfl
    ·rw [zaL nsp,zae,List.map_append]
     rfl
    ·rw [zoQ,off_c]
     exact T4
    ·rw [els,List.map_append]
     rfl
    ·refine List.nodup_append.mpr ⟨nd,by simp,fun a ha b' hb e=>?_⟩
     have:b'=bv:=by simpa using hb
     subst this
     subst e
     exact w3 ha
    ·intro x hx
     rcases List.mem_append.mp hx with h | h
     ·exact hr x h
     ·have:x=bv:=by simpa using h
      subst this
      exact bR
    ·intro i p' hi
     by_cases ci:i<ps.length
     ·rw [List.getElem?_append_left ci] at hi
      rw [List.take_append_of_le_length (by omega)]
      exact ok i p' hi
     ·have li:=(List.getElem?_eq_some_iff.mp hi).1
      rw [List.length_append] at li
      simp only [List.length_cons,List.length_nil] at li
      have ei:i=ps.length:=by omega
      subst ei
      rw [List.getElem?_append_right (Nat.le_refl _),Nat.sub_self,List.getElem?_cons_zero] at hi
      cases hi
      rw [List.take_append_of_le_length (Nat.le_refl _),List.take_length]
      refine ⟨(inls _).mp w2,?_,w1⟩
      exact Classical.byContradiction fun z=>w3 ((inls _).mpr z)
  ·have hlen:(ls.length:Int)=m:=by omega
   refine q sp us ps H1 s1 h2 (hT.same (zmQ co sp H1)) ⟨ok,fun x x0 x1=>?_,by omega⟩
   rw [zor]
   have hx:x∈ls:=by
    refine Classical.byContradiction fun cx=>?_
    have:=zbr (x::ls) (ze2 m) (List.nodup_cons.mpr ⟨cx,nd⟩) fun y hy=>by
     rcases List.mem_cons.mp hy with rfl | hy
     ·exact zb6.mpr ⟨x0,x1⟩
     ·exact zb6.mpr (hr y hy)
    unfold ze2 at this
    rw [List.length_cons,List.length_map,List.length_range] at this
    omega
   rw [els] at hx
   rcases List.mem_cons.mp hx with h | h
   ·exact .inl h
   ·obtain ⟨p',hp',e⟩:=List.mem_map.mp h
    exact .inr ⟨p',hp',e⟩
theorem zcY:zbk ["_law_script","_law_start","_law_near_here","_law_come","_law_spread_here","_law_some","_law_pair"] ["_law_script","_law_start","_law_near_here"] (zaC zdF):=⟨rfl,rfl,rfl,by decide +kernel,rfl,by decide +kernel,by decide +kernel⟩
theorem ziI (T:Txt K mg a):zdV P w K mg base CX0 2 a.f__law_spread a.d__law_spread ["_law_script","_law_start","_law_near_here"] (zm7 K):=by
 have G__law_mixed:=zde (P:=P) (w:=w) (base:=base) T
 have G__law_pairs:=zj0 (P:=P) (w:=w) (base:=base) T
 refine T.F__law_spread.ok zcY (fun vs H Q E h=>?_) (fun cdv A outer s H vs Q E hr h=>?_)
 ·obtain ⟨p,nl,ns,st,ds,m,rs,rfl,hS,hl,st0,st1,N,G,q⟩:=h
  rfl
 obtain ⟨p,nl,ns,st,ds,m,rs,rfl,hS,hl,st0,st1,N,G,q⟩:=h
 exact ⟨zeJ K,(zaf (zaB (i:=3) zcY.nd rfl (Or.inr rfl) (zcm (zaa zah zag)))
 (zaf (zaB (i:=4) zcY.nd rfl (Or.inl rfl) (zcm zag))
 (zaf (zgD PassesOwn.never (zaI zl4 (zai zax rfl T.z_len PySem.boot_len (zaa (pv 3) zag)) (zai zax rfl T.z_len PySem.boot_len (zaa (pv 2) zag)) (zaT _)) (zaf (zg0 (i:=5) zcY.nd rfl rfl (sc:=zaC zdF) (N:=["_law_script","_law_start","_law_near_here","_law_come","_law_spread_here","_law_some","_law_pair"]) (Nc:=["_law_a","_law_b","_law_come"]) (cap:=[none,none,some 3]) rfl rfl rfl (.of (by decide +kernel)) (zgo (zaG G__law_pairs (hr.mono (by decide)) rfl T.m__law_pairs T.F__law_pairs.kp T.b__law_pairs .nil zbJ (zaa (pv 2) zag))) (fun _ _ _ _=>(zev rfl (zbd (za0 (i:=0) (show List.Nodup (["_law_a","_law_b","_law_come"]:List Str) from by decide) rfl (Or.inl rfl)) (zbd (za0 (i:=1) (show List.Nodup (["_law_a","_law_b","_law_come"]:List Str) from by decide) rfl (Or.inl rfl)) zdh)))) (fun _ _ _ _=>(zsx (PW.pt (zmN (zaI zhL (pv 0) (pv 2) (by with_unfolding_all rfl)) (zjC (zaI zd1 (pv 1) (pv 2) (by with_unfolding_all rfl))))))) (fun _ _ _ _=>(zdB (zaa (pv 0) (zaa (pv 1) zag)))))
 (zaf (zaB (i:=6) zcY.nd rfl (Or.inl rfl) (zbh zaJ (pv 5) (zaz zbs (zaG G__law_mixed (hr.mono (by decide)) rfl T.m__law_mixed T.F__law_mixed.kp T.b__law_mixed .nil zbJ (zaa (pv 0) (zaa (zaz zbG (pv 1) (zai zax rfl T.z_len PySem.boot_len (zaa (pv 4) zag))) zag))) (zai zax rfl T.z_len PySem.boot_len (zaa (pv 5) zag))) (fun _ _=>rfl)))
 (zaf (zdr (zh7 PySem.F.plainAttrs_list PySem.F.slot_list_append PySem.F.type_list_append zdU (pv 4) (zaa (pv 6) zag)))
 (zak (zdr (zh7 PySem.F.plainAttrs_list PySem.F.slot_list_append PySem.F.type_list_append zdU (pv 3) (zaa (zbh zcw (pv 6) zah (fun _ _=>rfl)) zag))))))))
 (zak (zaX (pv 4)))))),
  ziW hS hl st0 st1 N G q⟩
theorem znY {m:Int} {rs:List zcb} (G:GW m rs) {S:Int→Prop} {x0:Int} (h0:S x0) (r0:0≤x0) (r1:x0<m) (hc:∀ x y,S x→sh rs x y≠none→S y):∀ x,0≤x→x<m→S x:=by
 have clo:∀ r∈rs,(S r.1↔S r.2.1):=fun r hr=>by
  have e1:=zpA hr
  have e2:sh rs r.2.1 r.1≠none:=by rw [zoT];exact e1
  exact ⟨fun z=>hc _ _ z e1,fun z=>hc _ _ z e2⟩
 by_cases c:S 0
 ·exact G.conn S c fun r hr z=>z.elim (fun a=>⟨a,(clo r hr).mp a⟩) (fun b=>⟨(clo r hr).mpr b,b⟩)
 ·have:=G.conn (fun x=>¬ S x) c (fun r hr z=>z.elim (fun a=>⟨a,fun b=>a ((clo r hr).mpr b)⟩) (fun b=>⟨fun a=>b ((clo r hr).mp a),b⟩)) x0 r0 r1
  exact absurd h0 this
structure Way (rs:List zcb) (st:Int) (path:List Int):Prop where
 ok:∀ (i:Nat) a b,(st::path)[i]?=some a→(st::path)[i+1]?=some b→sh rs a b≠none
structure Sch (rs:List zcb) (m st:Int) (row:List Int) (kvs:List (Key×V)):Prop where
 first:row[0]?=some st
 nd:row.Nodup
 inR:∀ x∈row,0≤x∧x<m
 dom:∀ x:Int,zdJ kvs (.inl x)≠none↔x∈row
 back:∀ (j:Nat) x,0<j→row[j]?=some x→∃ (i:Nat) (y:Int),i<j∧row[i]?=some y∧zdJ kvs (.inl x)=some (.int y)∧sh rs y x≠none
 len:kvs.length≤row.length
theorem Sch.put {rs:List zcb} {m st:Int} {row:List Int} {kvs:List (Key×V)} (h:Sch rs m st row kvs) {i:Nat} {x y:Int} (hy:row[i]?=some y) (hx:x∉row) (x0:0≤x) (x1:x<m) (hs:sh rs y x≠none):Sch rs m st (row++[x]) (zd8 kvs (.inl x) (.int y)):=by
 have hv:zdJ kvs (.inl x)=none:=Classical.byContradiction fun c=>hx ((h.dom x).mp c)
 refine ⟨?_,?_,?_,fun z=>?_,?_,?_⟩
 ·rw [List.getElem?_append_left (List.getElem?_eq_some_iff.mp h.first).1]
  exact h.first
 ·refine List.nodup_append.mpr ⟨h.nd,by simp,fun a ha b hb e=>?_⟩
  have:b=x:=by simpa using hb
  subst this
  subst e
  exact hx ha
 ·intro z hz
  rcases List.mem_append.mp hz with h' | h'
  ·exact h.inR z h'
  ·have:z=x:=by simpa using h'
   subst this
   exact ⟨x0,x1⟩
 ·rw [zd9,List.mem_append]
  by_cases c:z=x
  ·subst c
   simp
  ·rw [if_neg fun w=>c (Sum.inl.inj w),h.dom]
   simp [c]
 ·intro j z j0 hz
  by_cases c:j<row.length
  ·rw [List.getElem?_append_left c] at hz
   obtain ⟨k,y',k1,k2,k3,k4⟩:=h.back j z j0 hz
   have nz:z≠x:=fun e=>hx (e ▸ List.mem_of_getElem? hz)
   refine ⟨k,y',k1,?_,?_,k4⟩
   ·rw [List.getElem?_append_left (List.getElem?_eq_some_iff.mp k2).1]
    exact k2
   ·rw [zd9,if_neg fun w=>nz (Sum.inl.inj w)]
    exact k3
  ·have lj:=(List.getElem?_eq_some_iff.mp hz).1
   rw [List.length_append] at lj
   simp only [List.length_cons,List.length_nil] at lj
   have ej:j=row.length:=by omega
   subst ej
   rw [List.getElem?_append_right (Nat.le_refl _),Nat.sub_self,List.getElem?_cons_zero] at hz
   cases hz
   have li:=(List.getElem?_eq_some_iff.mp hy).1
   refine ⟨i,y,li,?_,?_,hs⟩
   ·rw [List.getElem?_append_left li]
    exact hy
   ·rw [zd9,if_pos rfl]
 ·have:=zcs kvs (.inl x) (.int y)
  have:=h.len
  rw [List.length_append]
  simp only [List.length_cons,List.length_nil]
  omega
theorem Sch.le {rs:List zcb} {m st:Int} {row:List Int} {kvs:List (Key×V)} (h:Sch rs m st row kvs):(row.length:Int)≤m:=by
 have h0:=h.inR st (List.mem_of_getElem? h.first)
 have:=zbr row (ze2 m) h.nd fun x hx=>zb6.mpr (h.inR x hx)
 unfold ze2 at this
 rw [List.length_map,List.length_range] at this
 omega
def zsD:Sp:=fun vs H Q _=>∃ (nl co:Addr) (ds:List Addr) (m:Int) (rs:List zcb) (st:Int) (ws:List Int),vs=[.ref nl,.int st,.ref co]∧zeF H nl ds m rs∧GW m rs∧H co=some (.lst (ws.map V.int))∧st∈ws∧0≤st∧st<m∧(∃ x,0≤x∧x<m∧x∉ws) ∧
 ∀ (r:Addr) (path:List Int) (H':Hp),zbt H H'→H' r=some (.lst (path.map V.int))→Way rs st path→path.length≤60→(∃ x∈path,x∉ws)→(∀ x∈path,0≤x∧x<m)→Q (.ref r) H'
def ze4 (K:PySem.W.Frag):TS :=
 (zb7 (tB (zdi (zac 6) (zac 3))) (zaF (zdR (zac 3) (zac 6) (tOp (zcg K) (zac 4) (zac 5)))
 (zdD (tBM K "list" zb3 (zac 4) (zab (zac 6) zau)))) zaZ)
theorem zcJ (K:PySem.W.Frag) (D:zb8) (σ:St) (H:Hp):ze4 K D σ H=(zb7 (tB (zdi (zac 6) (zac 3))) (zaF (zdR (zac 3) (zac 6) (tOp (zcg K) (zac 4) (zac 5)))
 (zdD (tBM K "list" zb3 (zac 4) (zab (zac 6) zau)))) zaZ) D σ H:=rfl
def zhq (K:PySem.W.Frag):TS :=
 (zaF (zgX (zgO K (tCB zdH (zab (tOp (zcg K) (zac 0) (tOp (zcg K) (zac 4) (zac 5))) zau))) (zal 6)
 (ze4 K))
 (zbj (tOp (rI0 fun i j=>.int (i+j)) (zac 5) (tC (.int 1))) (zal 5)))
theorem zcM (K:PySem.W.Frag) (D:zb8) (σ:St) (H:Hp):zhq K D σ H=(zaF (zgX (zgO K (tCB zdH (zab (tOp (zcg K) (zac 0) (tOp (zcg K) (zac 4) (zac 5))) zau))) (zal 6)
 (ze4 K))
 (zbj (tOp (rI0 fun i j=>.int (i+j)) (zac 5) (tC (.int 1))) (zal 5))) D σ H:=rfl
def zhu (K:PySem.W.Frag):TS :=
 (zaF (zbj (zd4 (zab (tOp (zcg K) (zac 4) (zac 5)) zau)) (zal 7))
 (zaF (zgE (zaK (tOp rNe (ze0 (zac 3) (tOp (zcg K) (zac 7) (tC (.int 0)))) (zac 1))) (zbj (tOp zfn (zd4 (zab (ze0 (zac 3) (tOp (zcg K) (zac 7) (tC (.int 0)))) zau)) (zac 7)) (zal 7)))
 (zbY (zac 7))))
theorem zcE (K:PySem.W.Frag) (D:zb8) (σ:St) (H:Hp):zhu K D σ H=(zaF (zbj (zd4 (zab (tOp (zcg K) (zac 4) (zac 5)) zau)) (zal 7))
 (zaF (zgE (zaK (tOp rNe (ze0 (zac 3) (tOp (zcg K) (zac 7) (tC (.int 0)))) (zac 1))) (zbj (tOp zfn (zd4 (zab (ze0 (zac 3) (tOp (zcg K) (zac 7) (tC (.int 0)))) zau)) (zac 7)) (zal 7)))
 (zbY (zac 7)))) D σ H:=rfl
def zha (K:PySem.W.Frag):TS :=
 (zaF (zbj zim (zal 3))
 (zaF (zdR (zac 3) (zac 1) (tC .non))
 (zaF (zbj (zd4 (zab (zac 1) zau)) (zal 4))
 (zaF (zbj (tC (.int 0)) (zal 5))
 (zaF (zgE (zaK (tOp (rIn K false) (tOp (zcg K) (zac 4) (zac 5)) (zac 2))) (zhq K))
 (zhu K))))))
theorem zmx {nl co:Addr} {ds:List Addr} {m:Int} {rs:List zcb} {st:Int} {ws:List Int} (N:zeF H nl ds m rs) (G:GW m rs) (hco:H co=some (.lst (ws.map V.int))) (hst:st∈ws) (st0:0≤st) (st1:st<m) (hout:∃ x,0≤x∧x<m∧x∉ws)
  (q:∀ (r:Addr) (path:List Int) (H':Hp),zbt H H'→H' r=some (.lst (path.map V.int))→Way rs st path→path.length≤60→(∃ x∈path,x∉ws)→(∀ x∈path,0≤x∧x<m)→Q (.ref r) H') :
  zha K { nx:=fun _ H'=>Q .non H',rt:=Q } (L2.zce ["_law_near_here","_law_start","_law_come","_law_prior","_law_row","_law_at","_law_other","_law_path"] [.ref nl,.int st,.ref co]) H:=by
 unfold zha
 have m1:=G.m1
 have m60:=G.m60
 have big:(1000:Nat)<sizeLine:=by decide
 simp_all only [zcJ,zcM,zcE,zac]
 intro d hd
 have s0:=zaj hd (.dK [])
 refine ⟨_,zjA.k (k:=.inl st) zae (by decide),by decide,fun ro hro=>?_⟩
 have s1:=s0.put hd (o:=.dK (zd8 [] (.inl st) .non))
 have hdk:(L2.upd (L2.upd H d (.dK [])) d (.dK (zd8 [] (.inl st) .non))) d=some (.dK [(.inl st,.non)]):=zae
 generalize L2.upd (L2.upd H d (.dK [])) d (.dK (zd8 [] (.inl st) .non))=H1 at s1 hdk hro ⊢
 have nrd:ro≠d:=(zaA hdk hro).symm
 have hro0:H ro=none:=s1.free hro
 have S0:Sch rs m st [st] [(.inl st,.non)]:=by
  refine ⟨rfl,by simp,fun x hx=>?_,fun x=>?_,fun j x j0 hj=>?_,Nat.le_refl _⟩
  ·have:x=st:=by simpa using hx
   subst this
   exact ⟨st0,st1⟩
  ·by_cases c:st=x
   ·subst c
    rw [zcT (p:=(Sum.inl st,V.non)) rfl]
    simp
   ·rw [zcp (p:=(Sum.inl st,V.non)) fun z=>c (Sum.inl.inj z),zqs]
    simp [Ne.symm c]
  ·have:=(List.getElem?_eq_some_iff.mp hj).1
   simp only [List.length_cons,List.length_nil] at this
   omega
 let Pv6:Nat→St→Hp→Prop:=fun n σ H'=>zbt H H'∧∃ (row:List Int) (kvs:List (Key×V)) (k:Nat) (x:Option V),H' d=some (.dK kvs)∧H' ro=some (.lst (row.map V.int))∧Sch rs m st row kvs∧k<row.length∧(∀ (j:Nat) a,j<k→row[j]?=some a→a∈ws∧∀ b,sh rs a b≠none→b∈row)∧n=100 - k∧σ=[some (.ref nl),some (.int st),some (.ref co),some (.ref d),some (.ref ro),some (.int (k:Int)),x,none]
 refine zh2 (m:=100) Pv6 ?_ ?_
 ·exact ⟨s1.add hro,[st],_,0,_,by rw [zaL nrd.symm];exact hdk,zae,S0,by simp,fun j a hj=>by omega,rfl,rfl⟩
 ·rintro n σ H2 ⟨s2,row,kvs,k,x,hd2,hr2,S,hk,hdone,rfl,rfl⟩
  have ek:row[k]?=some row[k]:=List.getElem?_eq_getElem hk
  generalize row[k]=cur at ek
  have ik:atI (row.map V.int) (k:Int)=some (.int cur):=zen (by rw [List.getElem?_map,ek];rfl)
  have lrow:=S.le
  have N2:=N.same s2
  have curR:=S.inR cur (zdf ek)
  simp_all only [zcJ,zcM,zcE,zac]
  refine ⟨_,SqL.of hr2,_,ik,_,.inl (SqL.of (s2 _ _ hco)),rfl,zeu ws,?_⟩
  rw [zhm]
  refine zcc (fun c=>?_) (fun c=>?_)
  ·have c':cur∈ws:=of_decide_eq_true c
   refine ⟨_,fun _ _ h=>h,?_⟩
   obtain ⟨dd,kv2,e1,e2,e3⟩:=N2.at curR.1 curR.2
   obtain ⟨ks,ekk,k64,hks,_⟩:=e3.nbs G
   refine ⟨_,SqL.of hr2,_,ik,_,_,rfl,SqL.of N2.hl,_,e1,_,rfl,kv2,e2,ks,ekk,k64,fun so ns hso hperm _=>?_⟩
   have hns:∀ y,y∈ns↔sh rs cur y≠none:=fun y=>by rw [hperm.mem_iff,hks]
   have nso1:so≠d:=(zaA hd2 hso).symm
   have nso2:so≠ro:=(zaA hr2 hso).symm
   have s3:=zaj hso (.lst (ns.map V.int))
   have h3:(L2.upd H2 so (.lst (ns.map V.int))) so=some (.lst (ns.map V.int)):=zae
   generalize L2.upd H2 so (.lst (ns.map V.int))=H3 at s3 h3 ⊢
   refine ⟨⟨_,SqL.of h3⟩,?_⟩
   let Pv7:Nat→St→Hp→Prop:=fun j σ H'=>zbt H H'∧H' so=some (.lst (ns.map V.int))∧∃ (ex:List Int) (kvs:List (Key×V)) (x:Option V),H' d=some (.dK kvs)∧H' ro=some (.lst ((row++ex).map V.int))∧Sch rs m st (row++ex) kvs∧(∀ y∈ns.take j,y∈row++ex)∧σ=[some (.ref nl),some (.int st),some (.ref co),some (.ref d),some (.ref ro),some (.int (k:Int)),x,none]
   refine ze5 (K:=K) (xs:=ns.map V.int) Pv7 ⟨s2.trans s3,h3,[],kvs,_,s3 _ _ hd2,by rw [List.append_nil];exact s3 _ _ hr2,by rw [List.append_nil];exact S,by simp,rfl⟩ ?_ ?_ ?_
   ·rintro j σ H' _ ⟨_,h,_⟩
    exact SqL.of h
   ·rintro j x σ H4 hx ⟨s4,h4,ex,kv4,z,hd4,hr4,S4,hin,rfl⟩
    obtain ⟨y,ey,rfl⟩:=zeW hx
    have hy:=(hns y).mp (zdf ey)
    obtain ⟨l,hl3⟩:=Option.ne_none_iff_exists'.mp hy
    obtain ⟨_,_,y0,y1,_⟩:=ze8 rs G.gr _ _ _ hl3
    have le4:=S4.le
    have kl4:=S4.len
    simp_all only [zcJ,zcM,zcE,zac]
    refine ⟨_,zfU.k (k:=.inl y) hd4,?_⟩
    have nxt:∀ (row':List Int),(∀ x∈row++ex,x∈row')→y∈row'→∀ z∈ns.take (j+1),z∈row':=by
     intro row' h1 h2 z hz
     rw [List.take_add_one,ey] at hz
     rcases List.mem_append.mp hz with h | h
     ·exact h1 z (hin z h)
     ·have:z=y:=by simpa using h
      subst this
      exact h2
    by_cases cy:y∈row++ex
    ·have hs:(zdJ kv4 (.inl y)).isSome=true:=Option.isSome_iff_ne_none.mpr ((S4.dom y).mpr cy)
     rw [hs]
     exact zcc (fun z=>absurd z (by decide)) (fun _=>⟨s4,h4,ex,kv4,_,hd4,hr4,S4,nxt _ (fun _ h=>h) cy,rfl⟩)
    ·have hv:zdJ kv4 (.inl y)=none:=Classical.byContradiction fun c=>cy ((S4.dom y).mp c)
     rw [hv]
     refine zcc (fun _=>?_) (fun z=>absurd rfl z)
     have ek4:(row++ex)[k]?=some cur:=by rw [List.getElem?_append_left hk];exact ek
     have ik4:atI ((row++ex).map V.int) (k:Int)=some (.int cur):=zen (by rw [List.getElem?_map,ek4];rfl)
     have hr5:(L2.upd H4 d (.dK (zd8 kv4 (.inl y) (.int cur)))) ro=some (.lst ((row++ex).map V.int)):=by rw [zaL nrd];exact hr4
     refine ⟨_,SqL.of hr4,_,ik4,_,zjA.k (k:=.inl y) hd4 (by omega),.inl ⟨rfl,_,SqL.of hr5⟩,_,hr5,by rw [List.length_map];omega,(s4.put hd).put hro0,by rw [zaL nso2,zaL nso1];exact h4,ex++[y],_,_,by rw [zaL nrd.symm];exact zae,?_,?_,?_,rfl⟩
     ·rw [zae,← List.append_assoc,List.map_append (l₂:=[y])]
      rfl
     ·rw [← List.append_assoc]
      exact S4.put ek4 cy y0 y1 hy
     ·rw [← List.append_assoc]
      exact nxt _ (fun x h=>List.mem_append_left _ h) (by simp)
   ·rintro σ H4 ⟨s4,h4,ex,kv4,z,hd4,hr4,S4,hin,rfl⟩
    simp_all only [zcJ,zcM,zcE,zac]
    rw [List.length_map,List.take_length] at hin
    have le4:=S4.le
    have done':∀ (j:Nat) a,j<k+1→(row++ex)[j]?=some a→a∈ws∧∀ b,sh rs a b≠none→b∈row++ex:=by
     intro j a hj ha
     rw [List.getElem?_append_left (by omega)] at ha
     by_cases cj:j<k
     ·obtain ⟨w1,w2⟩:=hdone j a cj ha
      exact ⟨w1,fun b hb=>List.mem_append_left _ (w2 b hb)⟩
     ·have:j=k:=by omega
      subst this
      rw [ek] at ha
      cases ha
      exact ⟨c',fun b hb=>hin b ((hns b).mpr hb)⟩
    refine ⟨_,?_,s4,row++ex,kv4,k+1,_,hd4,hr4,S4,?_,done',rfl,by rfl⟩
    ·omega
    ·refine Nat.lt_of_le_of_ne (by rw [List.length_append];omega) fun e=>?_
     obtain ⟨x0,x00,x01,x0n⟩:=hout
     refine x0n ?_
     have hall:=znY G (S:=fun x=>x∈row++ex) (x0:=st) (List.mem_of_getElem? S4.first) st0 st1 (fun x y hx hy=>?_) x0 x00 x01
     ·obtain ⟨j,hj⟩:=List.getElem?_of_mem hall
      have lj:=(List.getElem?_eq_some_iff.mp hj).1
      exact (done' j x0 (by omega) hj).1
     ·obtain ⟨j,hj⟩:=List.getElem?_of_mem hx
      have lj:=(List.getElem?_eq_some_iff.mp hj).1
      exact (done' j x (by omega) hj).2 y hy
  ·have c':cur∉ws:=fun z=>c (decide_eq_true z)
   have k0:0<k:=by
    refine Nat.pos_of_ne_zero fun z=>?_
    subst z
    rw [S.first] at ek
    cases ek
    exact c' hst
   refine ⟨_,SqL.of hr2,_,ik,by decide,fun l0 hl0=>?_⟩
   have s3:=zaj hl0 (.lst [V.int cur])
   have h3:(L2.upd H2 l0 (.lst [V.int cur])) l0=some (.lst [V.int cur]):=zae
   generalize L2.upd H2 l0 (.lst [V.int cur])=H3 at s3 h3 ⊢
   have hd3:=s3 _ _ hd2
   let Pv8:Nat→St→Hp→Prop:=fun n σ H'=>zbt H3 H'∧∃ (l:Addr) (y:Int) (zhH:List Int) (j:Nat),H' l=some (.lst ((y::zhH).map V.int))∧row[j]?=some y∧0<j∧j+zhH.length≤k∧(∀ (i:Nat) a b,(y::zhH)[i]?=some a→(y::zhH)[i+1]?=some b→sh rs a b≠none)∧cur∈y::zhH∧(∀ x∈y::zhH,x∈row)∧n≥j∧σ=[some (.ref nl),some (.int st),some (.ref co),some (.ref d),some (.ref ro),some (.int (k:Int)),x,some (.ref l)]
   refine zh2 (m:=100) Pv8 ?_ ?_
   ·refine ⟨.refl _,l0,cur,[],k,h3,ek,k0,by simp,fun i a b e1 e2=>?_,by simp,fun x hx=>?_,by omega,rfl⟩
    ·simp at e2
    ·have:x=cur:=by simpa using hx
     subst this
     exact zdf ek
   ·rintro n σ H4 ⟨s4,l,y,zhH,j,hl4,ej,j0,hlen,hj,hcur,hrow,hn,rfl⟩
    obtain ⟨i,z,i1,i2,i3,i4⟩:=S.back j y j0 ej
    have hd4:=s4 _ _ hd3
    have hg:=zfU.k (k:=.inl y) hd4
    rw [i3] at hg
    have i0:atI ((y::zhH).map V.int) 0=some (.int y):=zen (j:=0) rfl
    simp only [zcJ,zcM,zcE,↓zpN,↓zon,↓zoM,↓zpg,↓zpk,↓zpO,↓zpE,↓zoD,↓rI_c,↓ztN,↓zrP,↓ztm,↓zrM,↓zrK,↓zrJ,↓zrW,↓zmO,↓zmK,↓zm1,↓zm3,↓zm9,↓zky,↓zoj,↓zdH,↓rIn,↓ze0,↓zdi,zdR,↓zim,↓zmW,zse,↓zb3,Option.bind_some,Option.bind_none,Option.join_some,Option.map_some,List.getElem?_cons_zero,List.getElem?_cons_succ,↓zfn,V.str.injEq,V.ty.injEq,↓tBM,↓zo6,↓zer,↓zgO,↓zaF,↓zaZ,↓zbj,↓tCB,↓zab,↓zau,zac,↓tC,↓tOp,↓tUn,↓zaK,↓tB,↓zb7,↓zbY,↓zdD,↓zd4,↓zaY,rI,rI0,↓rU,↓rNe,zcg,L2.zce,znb,zpZ,zm5,zoJ,List.map_cons,List.map_nil,List.length_cons,List.length_nil,List.replicate,List.cons_append,List.nil_append,List.append_nil,Option.some.injEq,exists_eq_left',exists_eq_left,exists_and_left,List.cons.injEq,V.int.injEq,V.ref.injEq,V.bl.injEq,and_true,true_and,List.set_cons_zero,List.set_cons_succ,Nat.reduceAdd,Nat.reduceSub,Int.reduceToNat,Int.reducePow,Int.reduceNeg,Int.reduceMul,Int.reduceAdd,Int.reduceSub,decide_eq_true_eq,Bool.not_eq_true',decide_eq_false_iff_not,exists_const,and_assoc,exists_eq,exists_eq',if_true,if_false,Bool.false_eq_true,Bool.true_eq_false,reduceCtorEq,not_true_eq_false,not_false_eq_true] at i0 ⊢
    refine ⟨_,SqL.of hl4,_,i0,_,hg,rfl,?_⟩
    refine zcc (fun cz=>?_) (fun cz=>?_)
    ·have cz':z≠st:=fun e=>cz (by rw [e])
     refine ⟨_,fun _ _ h=>h,_,SqL.of hl4,_,i0,_,hg,by decide,fun p1 hp1=>?_⟩
     have s5:=zaj hp1 (.lst [V.int z])
     have h5:(L2.upd H4 p1 (.lst [V.int z])) p1=some (.lst [V.int z]):=zae
     generalize L2.upd H4 p1 (.lst [V.int z])=H5 at s5 h5 ⊢
     have lr:=S.le
     refine ⟨_,h5,_,s5 _ _ hl4,by rw [List.length_map,List.length_cons];simp only [List.length_cons,List.length_nil];omega,fun p2 hp2=>?_⟩
     have i00:0<i:=by
      refine Nat.pos_of_ne_zero fun e=>?_
      subst e
      rw [S.first] at i2
      cases i2
      exact cz' rfl
     refine ⟨i,by omega,(s4.trans s5).add hp2,p2,z,y::zhH,i,zae,i2,i00,by rw [List.length_cons];omega,fun e a b e1 e2=>?_,List.mem_cons_of_mem _ hcur,fun x hx=>?_,Nat.le_refl _,rfl⟩
     ·cases e with
      | zero =>
       simp only [List.getElem?_cons_zero,List.getElem?_cons_succ,Option.some.injEq] at e1 e2
       subst e1 e2
       exact i4
      | succ e =>
       rw [List.getElem?_cons_succ] at e1 e2
       exact hj e a b e1 e2
     ·rcases List.mem_cons.mp hx with rfl | h
      ·exact zdf i2
      ·exact hrow x h
    ·have cz':z=st:=by
      have:V.int z=V.int st:=Classical.byContradiction cz
      injection this
     subst cz'
     have lr:=S.le
     refine q l (y::zhH) H4 ((s2.trans s3).trans s4) hl4 ⟨fun e a b e1 e2=>?_⟩ (by rw [List.length_cons];omega) ⟨cur,hcur,c'⟩ fun x hx=>S.inR x (hrow x hx)
     cases e with
     | zero =>
      simp only [List.getElem?_cons_zero,List.getElem?_cons_succ,Option.some.injEq] at e1 e2
      subst e1 e2
      exact i4
     | succ e =>
      rw [List.getElem?_cons_succ] at e1 e2
      exact hj e a b e1 e2
theorem zcN:zbk ["_law_near_here","_law_start","_law_come","_law_prior","_law_row","_law_at","_law_other","_law_path"] ["_law_near_here","_law_start","_law_come"] (zaC zg8):=⟨rfl,rfl,rfl,by decide +kernel,rfl,by decide +kernel,by decide +kernel⟩
theorem zmE (T:Txt K mg a):zdV P w K mg base CX0 1 a.f__law_way a.d__law_way ["_law_near_here","_law_start","_law_come"] zsD:=by
 refine T.F__law_way.ok zcN (fun vs H Q E h=>?_) (fun cdv A outer s H vs Q E hr h=>?_)
 ·obtain ⟨nl,co,ds,m,rs,st,ws,rfl,N,G,hco,hst,st0,st1,hout,q⟩:=h
  rfl
 obtain ⟨nl,co,ds,m,rs,st,ws,rfl,N,G,hco,hst,st0,st1,hout,q⟩:=h
 exact ⟨zha K,(zaf (zaB (i:=3) zcN.nd rfl (Or.inl rfl) zhF)
 (zaf (zdM (zcX hr) (pv 3) (pv 1) zfr rfl)
 (zaf (zaB (i:=4) zcN.nd rfl (Or.inl rfl) (zcm (zaa (pv 1) zag)))
 (zaf (zaB (i:=5) zcN.nd rfl (Or.inl rfl) zah)
 (zaf (zgD PassesOwn.never (zaI zhL (zbh zaJ (pv 4) (pv 5) (fun _ _=>rfl)) (pv 2) (by with_unfolding_all rfl)) (zaf (zdg PassesOwn.never rfl (zgo (zai (zfl rfl) rfl T.z_sorted PyProof.Rows.boot_sorted (zaa (zbh zaJ (pv 0) (zbh zaJ (pv 4) (pv 5) (fun _ _=>rfl)) (fun _ _=>rfl)) zag))) (za0 (i:=6) zcN.nd rfl (Or.inl rfl))
 (zak (zbA (zi8 (zfb (zcX hr) (pv 6) (pv 3))) (zaf (zdM (zcX hr) (pv 3) (pv 6) (zbh zaJ (pv 4) (pv 5) (fun _ _=>rfl)) rfl)
 (zak (zdr (zh7 PySem.F.plainAttrs_list PySem.F.slot_list_append PySem.F.type_list_append zdU (pv 4) (zaa (pv 6) zag))))) zaE)))
 (zak (zaB (i:=5) zcN.nd rfl (Or.inl rfl) (zaz zbG (pv 5) zah)))))
 (zaf (zaB (i:=7) zcN.nd rfl (Or.inl rfl) (zcm (zaa (zbh zaJ (pv 4) (pv 5) (fun _ _=>rfl)) zag)))
 (zaf (zgD PassesOwn.never (zaI zfP (zga (zcX hr) (pv 3) (zbh zaJ (pv 7) zah (fun _ _=>rfl)) (fun _ _=>rfl)) (pv 1) (zaT _)) (zak (zaB (i:=7) zcN.nd rfl (Or.inl rfl) (zaz zdA (zcm (zaa (zga (zcX hr) (pv 3) (zbh zaJ (pv 7) zah (fun _ _=>rfl)) (fun _ _=>rfl)) zag)) (pv 7)))))
 (zak (zaX (pv 7)))))))))),
  zmx N G hco hst st0 st1 hout q⟩
def zo9 (K:PySem.W.Frag):Sp:=fun vs H Q _=>∃ (p nl:Addr) (ns:List Int) (st:Int) (ds:List Addr) (m:Int) (rs:List zcb),vs=[.ref p,.int st,.ref nl]∧SqL K H p (ns.map V.int)∧ns.length≤63∧0≤st∧st≤10000∧zeF H nl ds m rs∧GW m rs ∧
 ∀ (r:Addr) (ws:List Int) (H':Hp),zbt H H'→H' r=some (.lst (ws.map V.int))→Wlk (sh rs) m ws→ws.length≤9000→Q (.ref r) H'
theorem zpd {ws:List Int} {x:Int} (h:ws[ws.length - 1]?=some x) (h0:0<ws.length):atI (ws.map V.int) (-1)=some (.int x):=by
 unfold atI ixN
 rw [List.length_map,if_neg (by decide),if_pos (by omega),Option.bind_some,List.getElem?_map,show (-1+(ws.length:Int)).toNat=ws.length - 1 by omega,h]
 rfl
structure WkP (rs:List zcb) (m:Int) (ws:List Int):Prop where
 first:ws[0]?=some 0
 ok:∀ (i:Nat) a b,ws[i]?=some a→ws[i+1]?=some b→sh rs a b≠none
 inR:∀ x∈ws,0≤x∧x<m
theorem WkP.app {rs:List zcb} {m:Int} {ws path:List Int} {x:Int} (h:WkP rs m ws) (hx:ws[ws.length - 1]?=some x) (hw:Way rs x path) (hr:∀ y∈path,0≤y∧y<m):WkP rs m (ws++path):=by
 have pos:0<ws.length:=(List.getElem?_eq_some_iff.mp h.first).1
 refine ⟨?_,fun i a b e1 e2=>?_,fun y hy=>?_⟩
 ·rw [List.getElem?_append_left pos]
  exact h.first
 ·by_cases c:i+1<ws.length
  ·rw [List.getElem?_append_left (by omega)] at e1
   rw [List.getElem?_append_left c] at e2
   exact h.ok i a b e1 e2
  ·have key:∀ j,ws.length - 1≤j→(ws++path)[j]?=(x::path)[j - (ws.length - 1)]?:=by
    intro j hj
    by_cases cj:j=ws.length - 1
    ·subst cj
     rw [List.getElem?_append_left (by omega),hx,Nat.sub_self,List.getElem?_cons_zero]
    ·rw [List.getElem?_append_right (by omega),show j - (ws.length - 1)=(j - ws.length)+1 by omega,List.getElem?_cons_succ]
   rw [key i (by omega)] at e1
   rw [key (i+1) (by omega),show i+1 - (ws.length - 1)=(i - (ws.length - 1))+1 by omega] at e2
   exact hw.ok _ a b e1 e2
 ·rcases List.mem_append.mp hy with h' | h'
  ·exact h.inR y h'
  ·exact hr y h'
def zeR (K:PySem.W.Frag):TS :=
 (zbj (tOp zfn (zac 3) (zaY zsD [] E0 (zab (zac 2) (zab (tOp (zcg K) (zac 3) (tUn (rU fun i=>.int (-i)) (tC (.int 1)))) (zab (zac 3) zau))))) (zal 3))
theorem zc1 (K:PySem.W.Frag) (D:zb8) (σ:St) (H:Hp):zeR K D σ H=(zbj (tOp zfn (zac 3) (zaY zsD [] E0 (zab (zac 2) (zab (tOp (zcg K) (zac 3) (tUn (rU fun i=>.int (-i)) (tC (.int 1)))) (zab (zac 3) zau))))) (zal 3)) D σ H:=rfl
def zgz (K:PySem.W.Frag):TS :=
 (zaF (zbj (tCB zdH (zab (tOp (zcg K) (zac 2) (tOp (zcg K) (zac 3) (tUn (rU fun i=>.int (-i)) (tC (.int 1))))) zau)) (zal 5))
 (zb7 (zaK (tOp (rI0 fun i j=>.bl (decide (j<i))) (tCB (fun xs H Q=>∃ p ys,xs=[.ref p]∧(SqL K H p ys∨SqT K H p ys)∧Q (.int ys.length) H) (zab (zac 5) zau)) (tC (.int 0)))) (zdD (tBM K "list" zb3 (zac 3) (zab (tOp (zcg K) (zac 5) (tOp (rI (fun _ j=>0<j) fun i j=>.int (i % j)) (zaY (zbz K) [] E0 (zab (zac 0) (zab (tOp (rI0 fun i j=>.int (i+j)) (tOp (rI0 fun i j=>.int (i+j)) (zac 1) (tC (.int 1))) (zac 4)) zau))) (tCB (fun xs H Q=>∃ p ys,xs=[.ref p]∧(SqL K H p ys∨SqT K H p ys)∧Q (.int ys.length) H) (zab (zac 5) zau)))) zau))) zaZ))
theorem zc3 (K:PySem.W.Frag) (D:zb8) (σ:St) (H:Hp):zgz K D σ H=(zaF (zbj (tCB zdH (zab (tOp (zcg K) (zac 2) (tOp (zcg K) (zac 3) (tUn (rU fun i=>.int (-i)) (tC (.int 1))))) zau)) (zal 5))
 (zb7 (zaK (tOp (rI0 fun i j=>.bl (decide (j<i))) (tCB (fun xs H Q=>∃ p ys,xs=[.ref p]∧(SqL K H p ys∨SqT K H p ys)∧Q (.int ys.length) H) (zab (zac 5) zau)) (tC (.int 0)))) (zdD (tBM K "list" zb3 (zac 3) (zab (tOp (zcg K) (zac 5) (tOp (rI (fun _ j=>0<j) fun i j=>.int (i % j)) (zaY (zbz K) [] E0 (zab (zac 0) (zab (tOp (rI0 fun i j=>.int (i+j)) (tOp (rI0 fun i j=>.int (i+j)) (zac 1) (tC (.int 1))) (zac 4)) zau))) (tCB (fun xs H Q=>∃ p ys,xs=[.ref p]∧(SqL K H p ys∨SqT K H p ys)∧Q (.int ys.length) H) (zab (zac 5) zau)))) zau))) zaZ)) D σ H:=rfl
def zgH (K:PySem.W.Frag):TS :=
 (zaF (zgE (zaK (tOp (rI0 fun i j=>.bl (decide (i<j))) (tCB zoj (zab (tCB (zky K) (zab (zac 3) zau)) zau)) (tCB (fun xs H Q=>∃ p ys,xs=[.ref p]∧(SqL K H p ys∨SqT K H p ys)∧Q (.int ys.length) H) (zab (zac 2) zau)))) (zeR K))
 (zbY (zac 3)))
theorem zc2 (K:PySem.W.Frag) (D:zb8) (σ:St) (H:Hp):zgH K D σ H=(zaF (zgE (zaK (tOp (rI0 fun i j=>.bl (decide (i<j))) (tCB zoj (zab (tCB (zky K) (zab (zac 3) zau)) zau)) (tCB (fun xs H Q=>∃ p ys,xs=[.ref p]∧(SqL K H p ys∨SqT K H p ys)∧Q (.int ys.length) H) (zab (zac 2) zau)))) (zeR K))
 (zbY (zac 3))) D σ H:=rfl
def zgi (K:PySem.W.Frag):TS :=
 (zaF (zbj (zd4 (zab (tC (.int 0)) zau)) (zal 3))
 (zaF (zgX (zer (zab (tOp (rI (fun _ j=>0<j) fun i j=>.int (i % j)) (zaY (zbz K) [] E0 (zab (zac 0) (zab (zac 1) zau))) (tC (.int 12))) zau)) (zal 4)
 (zgz K))
 (zgH K)))
theorem zk9 {p nl:Addr} {ns:List Int} {st:Int} {ds:List Addr} {m:Int} {rs:List zcb} (hS:SqL K H p (ns.map V.int)) (hl:ns.length≤63) (st0:0≤st) (st1:st≤10000) (N:zeF H nl ds m rs) (G:GW m rs)
  (q:∀ (r:Addr) (ws:List Int) (H':Hp),zbt H H'→H' r=some (.lst (ws.map V.int))→Wlk (sh rs) m ws→ws.length≤9000→Q (.ref r) H') :
  zgi K { nx:=fun _ H'=>Q .non H',rt:=Q } (L2.zce ["_law_script","_law_start","_law_near_here","_law_walk_here","_law_k","_law_some"] [.ref p,.int st,.ref nl]) H:=by
 unfold zgi
 have m1:=G.m1
 have m60:=G.m60
 have ln:=N.len
 have big:(10000:Nat)<sizeLine:=by decide
 simp_all only [zc1,zc3,zc2,zac]
 refine ⟨by decide,fun wl hwl=>?_⟩
 have s1:=zaj hwl (.lst [V.int 0])
 refine ⟨p,ns,st,rfl,s1.seq hS,hl,st0,by omega,fun r r0 r1=>?_⟩
 refine ⟨_,rfl,by decide,by omega,by omega,?_⟩
 have c0:0≤r % 12:=by omega
 have c1:r % 12<12:=by omega
 generalize r % 12=cnt at c0 c1 ⊢
 let Pv9:Nat→St→Hp→Prop:=fun i σ H'=>zbt H H'∧∃ (ws:List Int) (x y:Option V),H' wl=some (.lst (ws.map V.int))∧WkP rs m ws∧ws.length≤1+i∧σ=[some (.ref p),some (.int st),some (.ref nl),some (.ref wl),x,y]
 refine zc6 Pv9 ⟨s1,[0],_,_,zae,⟨rfl,fun i a b e1 e2=>by simp at e2,fun x hx=>?_⟩,by simp,rfl⟩ ?_ ?_
 ·have:x=0:=by simpa using hx
  subst this
  exact ⟨by decide,by omega⟩
 ·rintro i σ H2 hi ⟨s2,ws,x,y,hw2,W,lw,rfl⟩
  have N2:=N.same s2
  have pos:0<ws.length:=(List.getElem?_eq_some_iff.mp W.first).1
  have el:ws[ws.length - 1]?=some ws[ws.length - 1]:=List.getElem?_eq_getElem (by omega)
  generalize ws[ws.length - 1]=la at el
  have laR:=W.inR la (zdf el)
  obtain ⟨dd,kv2,e1,e2,e3⟩:=N2.at laR.1 laR.2
  obtain ⟨ks,ekk,k64,hks,_⟩:=e3.nbs G
  simp_all only [zc1,zc3,zc2,zac]
  refine ⟨_,SqL.of hw2,_,zpd el pos,_,_,rfl,SqL.of N2.hl,_,e1,_,rfl,kv2,e2,ks,ekk,k64,fun so ns' hso hperm _=>?_⟩
  have hns:∀ y,y∈ns'↔sh rs la y≠none:=fun y=>by rw [hperm.mem_iff,hks]
  have s3:=zaj hso (.lst (ns'.map V.int))
  have h3:(L2.upd H2 so (.lst (ns'.map V.int))) so=some (.lst (ns'.map V.int)):=zae
  generalize L2.upd H2 so (.lst (ns'.map V.int))=H3 at s3 h3 ⊢
  refine ⟨_,.inl (SqL.of h3),?_⟩
  rw [List.length_map]
  have hw3:=s3 _ _ hw2
  refine zcc (fun c=>?_) (fun c=>⟨s2.trans s3,ws,_,_,hw3,W,by omega,rfl⟩)
  refine ⟨.inl ⟨rfl,_,SqL.of hw3⟩,?_⟩
  refine ⟨p,ns,_,rfl,(s2.trans s3).seq hS,hl,by omega,by omega,fun n n0 n1=>?_⟩
  refine ⟨_,.inl (SqL.of h3),_,rfl,?_⟩
  rw [List.length_map]
  have z0:=Int.emod_nonneg n (show (ns'.length:Int)≠0 by omega)
  have z1:=Int.emod_lt_of_pos n (show 0<(ns'.length:Int) by omega)
  generalize n % (ns'.length:Int)=k at z0 z1
  obtain ⟨v,hv,hv2⟩:=zlc (ns:=ns') z0 z1
  have vsh:=(hns v).mp (zdf hv2)
  obtain ⟨l,hl3⟩:=Option.ne_none_iff_exists'.mp vsh
  obtain ⟨_,_,v0,v1,_⟩:=ze8 rs G.gr _ _ _ hl3
  refine ⟨by omega,_,SqL.of h3,_,hv,_,hw3,by rw [List.length_map];omega,(s2.trans s3).put hwl,ws++[v],_,_,by rw [zae,List.map_append];rfl,W.app el ⟨fun e a b f1 f2=>?_⟩ (fun y hy=>?_),by rw [List.length_append];simp only [List.length_cons,List.length_nil];omega,rfl⟩
  ·cases e with
   | zero =>
    simp only [List.getElem?_cons_zero,List.getElem?_cons_succ,Option.some.injEq] at f1 f2
    subst f1 f2
    exact vsh
   | succ e=>simp at f2
  ·have:y=v:=by simpa using hy
   subst this
   exact ⟨v0,v1⟩
 ·rintro σ H2 ⟨s2,ws,x,y,hw2,W,lw,rfl⟩
  simp_all only [zc1,zc3,zc2,zac]
  let Pv10:Nat→St→Hp→Prop:=fun n σ H'=>zbt H H'∧∃ (l:Addr) (ws ds':List Int) (x y:Option V),H' l=some (.lst (ws.map V.int))∧WkP rs m ws∧ds'.Nodup∧(∀ x,x∈ds'→x∈ws)∧ws.length≤12+60*ds'.length∧n=100 - ds'.length∧σ=[some (.ref p),some (.int st),some (.ref nl),some (.ref l),x,y]
  refine zh2 (m:=100) Pv10 ⟨s2,wl,ws,[],_,_,hw2,W,by simp,by simp,by omega,rfl,rfl⟩ ?_
  rintro n σ H3 ⟨s3,l,ws,ds',x,y,hl3,W,nd',sub',lw',rfl,rfl⟩
  have ldm:∀ (dl:List Int),dl.Nodup→(∀ x∈dl,x∈ws)→(dl.length:Int)≤m:=fun dl h1 h2=>by
   have:=zbr dl (ze2 m) h1 fun x hx=>zb6.mpr (W.inR x (h2 x hx))
   unfold ze2 at this
   rw [List.length_map,List.length_range] at this
   omega
  have l1:=ldm ds' nd' sub'
  have N3:=N.same s3
  simp_all only [zc1,zc3,zc2,zac]
  refine ⟨_,SqL.of hl3,by omega,fun se dl S hse nd hdl=>?_⟩
  have s4:=zaj hse (.set S dl.length)
  have h4:(L2.upd H3 se (.set S dl.length)) se=some (.set S dl.length):=zae
  generalize L2.upd H3 se (.set S dl.length)=H4 at s4 h4 ⊢
  refine ⟨_,_,h4,_,.inl (SqL.of (s4 _ _ N3.hl)),?_⟩
  rw [List.length_map]
  have l2:=ldm dl nd fun x hx=>(hdl x).mp hx
  have l3:ds'.length≤dl.length:=zbr ds' dl nd' fun x hx=>(hdl x).mpr (sub' x hx)
  refine zcc (fun c=>?_) (fun c=>?_)
  ·have pos:0<ws.length:=(List.getElem?_eq_some_iff.mp W.first).1
   have el:ws[ws.length - 1]?=some ws[ws.length - 1]:=List.getElem?_eq_getElem (by omega)
   generalize ws[ws.length - 1]=la at el
   have laR:=W.inR la (zdf el)
   have hout:∃ x,0≤x∧x<m∧x∉ws:=by
    refine Classical.byContradiction fun cx=>?_
    have:=zbr (ze2 m) dl zfN fun x hx=>by
     obtain ⟨x0,x1⟩:=zb6.mp hx
     exact (hdl x).mpr (Classical.byContradiction fun z=>cx ⟨x,x0,x1,z⟩)
    unfold ze2 at this
    rw [List.length_map,List.length_range] at this
    omega
   refine ⟨_,fun _ _ h=>h,_,SqL.of (s4 _ _ hl3),_,zpd el pos,?_⟩
   refine ⟨nl,l,ds,m,rs,la,ws,rfl,N3.same s4,G,s4 _ _ hl3,zdf el,laR.1,laR.2,hout,fun r path H5 s5 hr5 Wy lp hnew hpR=>?_⟩
   obtain ⟨xn,xn1,xn2⟩:=hnew
   refine ⟨r,rfl,_,s5 _ _ (s4 _ _ hl3),_,hr5,by rw [List.length_map,List.length_map];omega,fun p2 hp2=>?_⟩
   refine ⟨_,?_,((s3.trans s4).trans s5).add hp2,p2,ws++path,xn::dl,_,_,by rw [zae,List.map_append],W.app el Wy hpR,List.nodup_cons.mpr ⟨fun z=>xn2 ((hdl xn).mp z),nd⟩,fun x hx=>?_,by rw [List.length_append,List.length_cons];omega,rfl,rfl⟩
   ·rw [List.length_cons]
    omega
   ·rcases List.mem_cons.mp hx with rfl | h
    ·exact List.mem_append_right _ xn1
    ·exact List.mem_append_left _ ((hdl x).mp h)
  ·refine q l ws H4 (s3.trans s4) (s4 _ _ hl3) ⟨W.first,W.ok,fun x x0 x1=>?_,by omega⟩ (by omega)
   refine Classical.byContradiction fun cx=>?_
   have:=zbr (x::dl) (ze2 m) (List.nodup_cons.mpr ⟨fun z=>cx ((hdl x).mp z),nd⟩) fun y hy=>by
    rcases List.mem_cons.mp hy with rfl | hy
    ·exact zb6.mpr ⟨x0,x1⟩
    ·exact zb6.mpr (W.inR y ((hdl y).mp hy))
   unfold ze2 at this
   rw [List.length_cons,List.length_map,List.length_range] at this
   omega
theorem zdn:zbk ["_law_script","_law_start","_law_near_here","_law_walk_here","_law_k","_law_some"] ["_law_script","_law_start","_law_near_here"] (zaC zgb):=⟨rfl,rfl,rfl,by decide +kernel,rfl,by decide +kernel,by decide +kernel⟩
theorem zk7 (T:Txt K mg a):zdV P w K mg base CX0 2 a.f__law_walk a.d__law_walk ["_law_script","_law_start","_law_near_here"] (zo9 K):=by
 have G__law_mixed:=zde (P:=P) (w:=w) (base:=base) T
 have G__law_way:=zmE (P:=P) (w:=w) (base:=base) T
 refine T.F__law_walk.ok zdn (fun vs H Q E h=>?_) (fun cdv A outer s H vs Q E hr h=>?_)
 ·obtain ⟨p,nl,ns,st,ds,m,rs,rfl,hS,hl,st0,st1,N,G,q⟩:=h
  rfl
 obtain ⟨p,nl,ns,st,ds,m,rs,rfl,hS,hl,st0,st1,N,G,q⟩:=h
 exact ⟨zgi K,(zaf (zaB (i:=3) zdn.nd rfl (Or.inl rfl) (zcm (zaa zah zag)))
 (zaf (zdg PassesOwn.never rfl (zcD rfl T.z_range (zaa (zaz zbs (zaG G__law_mixed (hr.mono (by decide)) rfl T.m__law_mixed T.F__law_mixed.kp T.b__law_mixed .nil zbJ (zaa (pv 0) (zaa (pv 1) zag))) zah) zag)) (za0 (i:=4) zdn.nd rfl (Or.inl rfl))
 (zaf (zaB (i:=5) zdn.nd rfl (Or.inl rfl) (zai (zfl rfl) rfl T.z_sorted PyProof.Rows.boot_sorted (zaa (zbh zaJ (pv 2) (zbh zaJ (pv 3) (zmp zit zah) (fun _ _=>rfl)) (fun _ _=>rfl)) zag)))
 (zak (zbA (zaI znD (zai zax rfl T.z_len PySem.boot_len (zaa (pv 5) zag)) zah (zaT _)) (zak (zdr (zh7 PySem.F.plainAttrs_list PySem.F.slot_list_append PySem.F.type_list_append zdU (pv 3) (zaa (zbh zaJ (pv 5) (zaz zbs (zaG G__law_mixed (hr.mono (by decide)) rfl T.m__law_mixed T.F__law_mixed.kp T.b__law_mixed .nil zbJ (zaa (pv 0) (zaa (zaz zbG (zaz zbG (pv 1) zah) (pv 4)) zag))) (zai zax rfl T.z_len PySem.boot_len (zaa (pv 5) zag))) (fun _ _=>rfl)) zag)))) zaE))))
 (zaf (zgD PassesOwn.never (zaI zl4 (zai zoV rfl T.z_len PySem.boot_len (zaa (zgy (zoy rfl) rfl T.z_set PyProof.Rows.boot_set (zaa (pv 3) zag)) zag)) (zai zax rfl T.z_len PySem.boot_len (zaa (pv 2) zag)) (zaT _)) (zak (zaB (i:=3) zdn.nd rfl (Or.inl rfl) (zaz zdA (pv 3) (zaG G__law_way (hr.mono (by decide)) rfl T.m__law_way T.F__law_way.kp T.b__law_way .nil zbJ (zaa (pv 2) (zaa (zbh zaJ (pv 3) (zmp zit zah) (fun _ _=>rfl)) (zaa (pv 3) zag))))))))
 (zak (zaX (pv 3)))))),
  zk9 hS hl st0 st1 N G q⟩
def zml:Sp:=fun vs H Q _=>∃ (nl pl:Addr) (ds:List Addr) (rs:List zcb) (m:Int) (kd:Str) (c:Ct),vs=[.ref nl,.str kd,.ref pl]∧zeF H nl ds m rs∧GW m rs∧zpq H rs m kd pl c∧∀ (r:Addr) (H':Hp),zbt H H'→H r=none→H' r=some (.lst ((zj4 m c).map V.int))→Q (.ref r) H'
theorem zgg:∀ {a b:List Int},a.map V.int=b.map V.int→a=b
 | [],[],_=>rfl
 | [],_::_,e=>by simp at e
 | _::_,[],e=>by simp at e
 | x::xs,y::ys,e=>by
  rw [List.map_cons,List.map_cons] at e
  injection e with e1 e2
  injection e1 with e1
  rw [e1,zgg e2]
def zeo (K:PySem.W.Frag):TS :=
 (zaF (zdk (zb7 (tB (zdi (tOp (zdz K) (zac 7) (tC (.int 1))) (zac 3))) (zdR (zac 3) (tOp (zdz K) (zac 7) (tC (.int 1))) (zac 4)) zaZ))
 (zbj (tOp (zdz K) (zac 7) (tC (.int 1))) (zal 5)))
theorem za9 (K:PySem.W.Frag) (D:zb8) (σ:St) (H:Hp):zeo K D σ H=(zaF (zdk (zb7 (tB (zdi (tOp (zdz K) (zac 7) (tC (.int 1))) (zac 3))) (zdR (zac 3) (tOp (zdz K) (zac 7) (tC (.int 1))) (zac 4)) zaZ))
 (zbj (tOp (zdz K) (zac 7) (tC (.int 1))) (zal 5))) D σ H:=rfl
def zei (K:PySem.W.Frag):TS :=
 (zb7 (zaK (tOp rNe (tOp (zdz K) (zac 7) (tC (.int 0))) (tOp (zdz K) (zac 7) (tC (.int 1))))) (zbj (tOp (rI0 fun i j=>.int (i+j)) (zac 4) (ze0 (tOp (zcg K) (zac 0) (tOp (zdz K) (zac 7) (tC (.int 0)))) (tOp (zdz K) (zac 7) (tC (.int 1))))) (zal 4)) zaZ)
theorem za8 (K:PySem.W.Frag) (D:zb8) (σ:St) (H:Hp):zei K D σ H=(zb7 (zaK (tOp rNe (tOp (zdz K) (zac 7) (tC (.int 0))) (tOp (zdz K) (zac 7) (tC (.int 1))))) (zbj (tOp (rI0 fun i j=>.int (i+j)) (zac 4) (ze0 (tOp (zcg K) (zac 0) (tOp (zdz K) (zac 7) (tC (.int 0)))) (tOp (zdz K) (zac 7) (tC (.int 1))))) (zal 4)) zaZ) D σ H:=rfl
def zf5 (K:PySem.W.Frag):TS :=
 (zaF (zbj (zgq (zab (zac 5) (zab (zac 6) zau))) (zal 7))
 (zaF (zdk (zb7 (zaK (tOp rEq (zac 1) (tC (.str "spread")))) (zbj (zac 6) (zal 7)) zaZ))
 (zaF (zdk (zei K))
 (zeo K))))
theorem zbb (K:PySem.W.Frag) (D:zb8) (σ:St) (H:Hp):zf5 K D σ H=(zaF (zbj (zgq (zab (zac 5) (zab (zac 6) zau))) (zal 7))
 (zaF (zdk (zb7 (zaK (tOp rEq (zac 1) (tC (.str "spread")))) (zbj (zac 6) (zal 7)) zaZ))
 (zaF (zdk (zei K))
 (zeo K)))) D σ H:=rfl
def zfS (K:PySem.W.Frag):TS :=
 (zbY (zgh (zer (zab (tCB (fun xs H Q=>∃ p ys,xs=[.ref p]∧(SqL K H p ys∨SqT K H p ys)∧Q (.int ys.length) H) (zab (zac 0) zau)) zau)) (zal 0) zdP (ze0 (zac 1) (zac 0)) [none,some 3]))
theorem zba (K:PySem.W.Frag) (D:zb8) (σ:St) (H:Hp):zfS K D σ H=(zbY (zgh (zer (zab (tCB (fun xs H Q=>∃ p ys,xs=[.ref p]∧(SqL K H p ys∨SqT K H p ys)∧Q (.int ys.length) H) (zab (zac 0) zau)) zau)) (zal 0) zdP (ze0 (zac 1) (zac 0)) [none,some 3])) D σ H:=rfl
def zfg (K:PySem.W.Frag):TS :=
 (zaF (zbj zim (zal 3))
 (zaF (zdR (zac 3) (tC (.int 0)) (tC (.int 0)))
 (zaF (zbj (tC (.int 0)) (zal 4))
 (zaF (zbj (tC (.int 0)) (zal 5))
 (zaF (zgX (zgO K (zac 2)) (zal 6)
 (zf5 K))
 (zfS K))))))
theorem zkf {nl pl:Addr} {ds:List Addr} {rs:List zcb} {m:Int} {kd:Str} {c:Ct} (N:zeF H nl ds m rs) (G:GW m rs) (hP:zpq H rs m kd pl c) (q:∀ (r:Addr) (H':Hp),zbt H H'→H r=none→H' r=some (.lst ((zj4 m c).map V.int))→Q (.ref r) H') :
  zfg K { nx:=fun _ H'=>Q .non H',rt:=Q } (L2.zce ["_law_near_here","_law_kind","_law_plan","_law_told","_law_total","_law_prior","_law_thing","_law_pair"] [.ref nl,.str kd,.ref pl]) H:=by
 unfold zfg
 have m1:=G.m1
 have m60:=G.m60
 have ln:=N.len
 have hall:=hP.all
 obtain ⟨xs,st,hpl,st0,ec,lx,hkd⟩:∃ (xs:List V) (st:Nat→Int×Ct),H pl=some (.lst xs)∧st 0=(0,ct0)∧c=(st xs.length).2∧xs.length≤100000∧((kd="walk"∧∃ ws:List Int,xs=ws.map V.int∧Wlk (sh rs) m ws∧st=fun i=>wkC (sh rs) ws (i - 1))∨(kd="spread"∧∃ (us:List Addr) (ps:List (Int×Int)),xs=us.map V.ref∧Tps prv H us ps∧Spr (sh rs) m ps∧st=fun i=>spC (sh rs) (ps.take i))):=by
  rcases hP with ⟨e,ws,h1,h2,rfl⟩ | ⟨e,us,ps,h1,h2,h3,rfl⟩
  ·exact ⟨_,fun i=>wkC (sh rs) ws (i - 1),h1,rfl,by rw [List.length_map],by rw [List.length_map];exact h2.len,.inl ⟨e,ws,rfl,h2,rfl⟩⟩
  ·have:=h3.len
   exact ⟨_,fun i=>spC (sh rs) (ps.take i),h1,rfl,by simp only;rw [List.length_map,h2.1,List.take_length],by rw [List.length_map,h2.1];omega,.inr ⟨e,us,ps,rfl,h2,h3,rfl⟩⟩
 simp_all only [za9,za8,zbb,zba,zac]
 intro d hd
 have s0:=zaj hd (.dK [])
 refine ⟨_,zjA.k (k:=.inl 0) zae (by decide),⟨_,SqL.of (by rw [zaL (zaA hpl hd),zaL (zaA hpl hd)];exact hpl)⟩,?_⟩
 let Pv11:Nat→St→Hp→Prop:=fun i σ H'=>zbt H H'∧∃ (kvs:List (Key×V)) (pr:Int) (x y:Option V),H' d=some (.dK kvs)∧Cd m kvs (st i).2∧(∀ ws:List Int,xs=ws.map V.int→pr=ws.getD (i - 1) 0)∧σ=[some (.ref nl),some (.str kd),some (.ref pl),some (.ref d),some (.int (st i).1),some (.int pr),x,y]
 refine ze5 (K:=K) (xs:=xs) Pv11 ?_ ?_ ?_ ?_
 ·refine ⟨s0.put hd,_,0,_,_,zae,by rw [st0];exact Cd.zero m1,fun ws e=>?_,by rw [st0]⟩
  rcases hkd with ⟨_,ws',e',W,_⟩ | ⟨_,us,ps,e',_,_,_⟩
  ·have:=zgg (e'.symm.trans e)
   subst this
   rw [List.getD_eq_getElem?_getD,W.first]
   rfl
  ·rw [e'] at e
   cases us with
   | nil =>
    cases ws with
    | nil=>rfl
    | cons y ws=>simp at e
   | cons u us =>
    cases ws with
    | nil=>simp at e
    | cons y ws=>simp at e
 ·rintro i σ H' _ ⟨s,_⟩
  exact SqL.of (s _ _ hpl)
 ·rintro i x σ H1 hx ⟨s1,kvs,pr,z1,z2,h1,C,hpr,rfl⟩
  have li:=(List.getElem?_eq_some_iff.mp hx).1
  simp_all only [za9,za8,zbb,zba,zac]
  refine ⟨by decide,fun u0 hu0=>?_⟩
  have s2:=zaj hu0 (.tup [V.int pr,x])
  have h2:(L2.upd H1 u0 (.tup [V.int pr,x])) u0=some (.tup [V.int pr,x]):=zae
  generalize L2.upd H1 u0 (.tup [V.int pr,x])=H2 at s2 h2 ⊢
  refine ⟨fun σ H'=>H'=H2∧∃ (u:Addr) (av bv:Int),H2 u=some (.tup (prv (av,bv)))∧((st (i+1)=st i∧av=bv∧(st i).2 bv≠none)∨∃ l,sh rs av bv=some l∧st (i+1)=stC (sh rs) (st i) av bv)∧(∀ ws:List Int,xs=ws.map V.int→bv=ws.getD i 0)∧σ=[some (.ref nl),some (.str kd),some (.ref pl),some (.ref d),some (.int (st i).1),some (.int pr),some x,some (.ref u)],?_,?_⟩
  ·simp_all only [za9,za8,zbb,zba,zac]
   rcases hkd with ⟨rfl,ws,rfl,W,rfl⟩ | ⟨rfl,us,ps,rfl,hT,S,rfl⟩
   ·obtain ⟨b,eb,rfl⟩:=zeW hx
    rw [List.length_map] at li
    refine ⟨rfl,zcc (fun z=>absurd z (by decide +kernel)) (fun _=>?_)⟩
    have gb:ws.getD i 0=b:=by rw [List.getD_eq_getElem?_getD,eb];rfl
    have ep:=hpr ws rfl
    refine ⟨u0,pr,b,h2,?_,fun ws' e=>by rw [← zgg e];exact gb.symm,rfl⟩
    cases i with
    | zero =>
     refine .inl ⟨rfl,?_,?_⟩
     ·rw [ep,← gb]
     ·have b0:b=0:=by
       have:=W.first
       rw [eb] at this
       exact Option.some.inj this
      rw [b0]
      exact fun z=>nomatch (show (some (0:Int))=none from z)
    | succ j =>
     have ej:ws[j]?=some ws[j]:=List.getElem?_eq_getElem (by omega)
     have gj:ws.getD j 0=ws[j]:=by rw [List.getD_eq_getElem?_getD,ej];rfl
     obtain ⟨l,hl3⟩:=Option.ne_none_iff_exists'.mp (W.ok j _ _ ej eb)
     have epj:pr=ws[j]:=by rw [ep,Nat.add_sub_cancel,gj]
     refine .inr ⟨l,by rw [epj];exact hl3,?_⟩
     simp only [Nat.add_sub_cancel]
     rw [zhK,gb,gj,epj]
   ·obtain ⟨t,et,rfl⟩:=zeW hx
    obtain ⟨⟨av,bv⟩,er,hr0⟩:=hT.at et
    obtain ⟨o1,o2,o3⟩:=S.ok i _ er
    simp only at o1 o2 o3
    obtain ⟨l,hl3⟩:=Option.ne_none_iff_exists'.mp o3
    refine ⟨rfl,zcc (fun _=>?_) (fun z=>absurd (by first | trivial | rfl) z)⟩
    refine ⟨t,av,bv,s2 _ _ (s1 _ _ hr0),.inr ⟨l,hl3,?_⟩,fun ws e=>?_,rfl⟩
    ·simp only
     rw [zka er]
    ·have:=congrArg (fun l=>l[i]?) e
     simp only [List.getElem?_map,et,Option.map_some] at this
     cases h:ws[i]? with
     | none=>rw [h] at this;simp at this
     | some y=>rw [h] at this;simp at this
  ·rintro σ H3 ⟨rfl,u,av,bv,hu,hst,hbv,rfl⟩
   simp_all only [za9,za8,zbb,zba,zac]
   have N3:=(N.same s1).same s2
   refine ⟨fun σ H'=>H'=H3∧σ=[some (.ref nl),some (.str kd),some (.ref pl),some (.ref d),some (.int (st (i+1)).1),some (.int pr),some x,some (.ref u)],?_,?_⟩
   ·simp_all only [za9,za8,zbb,zba,zac]
    refine ⟨_,SqT.of hu,_,rfl,_,SqT.of hu,_,rfl,rfl,?_⟩
    simp_all only [za9,za8,zbb,zba,zac]
    rcases hst with ⟨e1,e2,e3⟩ | ⟨l,e1,e2⟩
    ·exact zcc (fun z=>absurd e2 z) (fun _=>by rw [e1])
    ·obtain ⟨a0,a1,b0,b1,dif,_⟩:=ze8 rs G.gr _ _ _ e1
     refine zcc (fun _=>?_) (fun z=>absurd dif z)
     obtain ⟨dd,kv2,k1,k2,k3⟩:=N3.at a0 a1
     have hg:=zfU.k (k:=.inl bv) k2
     rw [k3.val,e1] at hg
     refine ⟨_,SqT.of hu,_,rfl,_,_,rfl,SqL.of N3.hl,_,k1,_,SqT.of hu,_,rfl,_,rfl,_,hg,_,rfl,?_⟩
     rw [e2]
     unfold stC
     simp only
     rw [e1]
     rfl
   ·rintro σ H4 ⟨rfl,rfl⟩
    simp_all only [za9,za8,zbb,zba,zac]
    have h13:=s2 _ _ h1
    refine ⟨fun σ H'=>zbt H H'∧(∃ kvs,H' d=some (.dK kvs)∧Cd m kvs (st (i+1)).2)∧H' u=some (.tup (prv (av,bv)))∧σ=[some (.ref nl),some (.str kd),some (.ref pl),some (.ref d),some (.int (st (i+1)).1),some (.int pr),some x,some (.ref u)],?_,?_⟩
    ·simp_all only [za9,za8,zbb,zba,zac]
     refine ⟨_,SqT.of hu,_,rfl,_,zfU.k (k:=.inl bv) h13,?_⟩
     have big:(1000:Nat)<sizeLine:=by decide
     have hle:=C.le (by omega)
     rcases hst with ⟨e1,e2,e3⟩ | ⟨l,e1,e2⟩
     ·have hs:(zdJ kvs (.inl bv)).isSome=true:=by
       rw [C.val]
       exact Option.isSome_iff_ne_none.mpr fun z=>e3 (Option.map_eq_none_iff.mp z)
      rw [hs]
      exact zcc (fun z=>absurd z (by decide)) (fun _=>⟨s1.trans s2,⟨kvs,h13,by rw [e1];exact C⟩,hu⟩)
     ·obtain ⟨a0,a1,b0,b1,dif,_⟩:=ze8 rs G.gr _ _ _ e1
      by_cases hn:(st i).2 bv=none
      ·have hs:(zdJ kvs (.inl bv)).isSome=false:=by rw [C.val,hn];rfl
       rw [hs]
       refine zcc (fun _=>?_) (fun z=>absurd rfl z)
       have nu:u≠d:=zqt hu h13 (fun z=>nomatch z)
       refine ⟨_,SqT.of hu,_,rfl,_,zjA.k (k:=.inl bv) h13 (by omega),(s1.trans s2).put hd,⟨_,zae,?_⟩,by rw [zaL nu];exact hu⟩
       rw [e2]
       exact C.put b0 b1 hn
      ·have hs:(zdJ kvs (.inl bv)).isSome=true:=by
        rw [C.val]
        exact Option.isSome_iff_ne_none.mpr fun z=>hn (Option.map_eq_none_iff.mp z)
       rw [hs]
       exact zcc (fun z=>absurd z (by decide)) (fun _=>⟨s1.trans s2,⟨kvs,h13,by rw [e2,zrg hn];exact C⟩,hu⟩)
    ·rintro σ H5 ⟨s5,⟨kv5,h5,C5⟩,hu5,rfl⟩
     simp_all only [za9,za8,zbb,zba,zac]
     refine ⟨_,SqT.of hu5,_,rfl,s5,kv5,bv,_,_,h5,C5,?_,rfl⟩
     simp only [Nat.add_sub_cancel]
     exact hbv
 ·rintro σ H1 ⟨s1,kvs,pr,z1,z2,h1,C,hpr,rfl⟩
  rw [← ec] at C
  simp_all only [za9,za8,zbb,zba,zac]
  have N1:=N.same s1
  refine ⟨_,.inl (SqL.of N1.hl),?_⟩
  rw [List.length_map]
  refine ⟨by omega,by omega,fun r hr=>?_⟩
  rw [Int.toNat_natCast]
  let Pv12:Nat→List V→St→Hp→Prop:=fun i ys σ H'=>zbt H1 H'∧ys=((List.range i).map fun k:Nat=>(c (k:Int)).getD 0).map V.int∧∃ k,σ=[k,some (.ref d)]
  refine zeP Pv12 ⟨zaj hr _,rfl,_,rfl⟩ ?_ ?_
  ·rintro i ys σ H3 hi hr3 ⟨s3,rfl,k,rfl⟩
   simp_all only [za9,za8,zbb,zba,zac]
   obtain ⟨v,hv⟩:=Option.ne_none_iff_exists'.mp (hall (i:Int) (by omega) (by omega))
   have hg:=zfU.k (k:=.inl (i:Int)) (s3 _ _ h1)
   rw [C.val,hv] at hg
   refine ⟨.int v,by rw [Int.zero_add];exact hg,_,hr3,zet (by rw [List.length_map,List.length_map,List.length_range];omega),_,zae,s3.put hr,?_,_,rfl⟩
   rw [List.range_succ,List.map_append,List.map_append]
   simp only [List.map_cons,List.map_nil,hv]
   rfl
  ·rintro ys σ H3 hr3 ⟨s3,rfl,k,rfl⟩
   refine q r H3 (s1.trans s3) (s1.free hr) ?_
   rw [hr3]
   unfold zj4
   rw [show m.toNat=ds.length by omega]
theorem zbV:zbk ["_law_near_here","_law_kind","_law_plan","_law_told","_law_total","_law_prior","_law_thing","_law_pair"] ["_law_near_here","_law_kind","_law_plan"] (zaC zd0):=⟨rfl,rfl,rfl,by decide +kernel,rfl,by decide +kernel,by decide +kernel⟩
theorem zjF (T:Txt K mg a):zdV P w K mg base CX0 1 a.f__law_costs a.d__law_costs ["_law_near_here","_law_kind","_law_plan"] zml:=by
 refine T.F__law_costs.ok zbV (fun vs H Q E h=>?_) (fun cdv A outer s H vs Q E hr h=>?_)
 ·obtain ⟨nl,pl,ds,rs,m,kd,c,rfl,N,G,hP,q⟩:=h
  rfl
 obtain ⟨nl,pl,ds,rs,m,kd,c,rfl,N,G,hP,q⟩:=h
 exact ⟨zfg K,(zaf (zaB (i:=3) zbV.nd rfl (Or.inr rfl) zhF)
 (zaf (zdM (zcX hr) (pv 3) zah zah rfl)
 (zaf (zaB (i:=4) zbV.nd rfl (Or.inl rfl) zah)
 (zaf (zaB (i:=5) zbV.nd rfl (Or.inl rfl) zah)
 (zaf (zdg PassesOwn.never rfl (zgo (pv 2)) (za0 (i:=6) zbV.nd rfl (Or.inl rfl))
 (zaf (zaB (i:=7) zbV.nd rfl (Or.inl rfl) (zdB (zaa (pv 5) (zaa (pv 6) zag))))
 (zaf (zbl (zbA (zaI zdE (pv 1) zdX (zaT _)) (zak (zaB (i:=7) zbV.nd rfl (Or.inl rfl) (pv 6))) zaE))
 (zaf (zbl (zbA (zaI zfP (zbh zcw (pv 7) zah (fun _ _=>rfl)) (zbh zcw (pv 7) zah (fun _ _=>rfl)) (zaT _)) (zak (zaB (i:=4) zbV.nd rfl (Or.inl rfl) (zaz zbG (pv 4) (zga (zcX hr) (zbh zaJ (pv 0) (zbh zcw (pv 7) zah (fun _ _=>rfl)) (fun _ _=>rfl)) (zbh zcw (pv 7) zah (fun _ _=>rfl)) (fun _ _=>rfl))))) zaE))
 (zaf (zbl (zbA (zi8 (zfb (zcX hr) (zbh zcw (pv 7) zah (fun _ _=>rfl)) (pv 3))) (zak (zdM (zcX hr) (pv 3) (zbh zcw (pv 7) zah (fun _ _=>rfl)) (pv 4) rfl)) zaE))
 (zak (zaB (i:=5) zbV.nd rfl (Or.inl rfl) (zbh zcw (pv 7) zah (fun _ _=>rfl)))))))))
 (zak (zaX (zmw (sc:=zaC zd0) (N:=["_law_near_here","_law_kind","_law_plan","_law_told","_law_total","_law_prior","_law_thing","_law_pair"]) (Nc:=["_law_place","_law_told"]) (cap:=[none,some 3]) rfl rfl rfl (.of (by decide +kernel)) (zcD rfl T.z_range (zaa (zai zax rfl T.z_len PySem.boot_len (zaa (pv 0) zag)) zag)) (fun _ _ _ _=>(za0 (i:=0) (show List.Nodup (["_law_place","_law_told"]:List Str) from by decide) rfl (Or.inl rfl))) (fun _ _ _ _=>zir) (fun _ _ _ _=>(zga (zcX hr) (pv 1) (pv 0) (fun _ _=>rfl))))))))))),
  zkf N G hP q⟩
inductive ShH (H:Hp):Nat→Tr→V→Prop where
 | int {n:Nat} (i:Int):ShH H n (.int i) (.int i)
 | bl {n:Nat} (b:Bool):ShH H n (.bl b) (.bl b)
 | str {n:Nat} (x:Str):ShH H n (.str x) (.str x)
 | non {n:Nat}:ShH H n .non .non
 | lst {n:Nat} {p:Addr} {xs:List V} {ts:List Tr} (h:H p=some (.lst xs)) (l:xs.length=ts.length) (e:∀ (i:Nat) x t,xs[i]?=some x→ts[i]?=some t→ShH H n t x):ShH H (n+1) (.lst ts) (.ref p)
theorem ShH.same {H H':Hp} (s:zbt H H') {n:Nat} {t:Tr} {x:V} (h:ShH H n t x):ShH H' n t x:=by
 induction h with
 | int i=>exact .int i
 | bl b=>exact .bl b
 | str x=>exact .str x
 | non=>exact .non
 | lst h l _ ih=>exact .lst (s _ _ h) l ih
theorem ShH.intL {H:Hp} {n:Nat} {p:Addr} {ns:List Int} (h:H p=some (.lst (ns.map V.int))):ShH H (n+1) (.lst (ns.map Tr.int)) (.ref p):=by
 refine .lst h (by rw [List.length_map,List.length_map]) fun i x t e1 e2=>?_
 obtain ⟨a,ha,rfl⟩:=zeW e1
 obtain ⟨b,hb,rfl⟩:=zeW e2
 rw [ha] at hb
 cases hb
 exact .int _
def zkW (n:Nat):Sp:=fun vs H Q _=>∃ (x y:V) (t:Tr),vs=[x,y]∧ShH H n t x∧ShH H n t y∧∀ H',zbt H H'→Q (.bl true) H'
def zjB:Nat→Sp
 | 0=>zo4
 | n+1=>zkW n
def zgN:TS :=
 (zbY (zcW (tOp (fun x y H Q=>y=.non∧Q (.bl (decide (x=.non))) H) (zac 1) (tC .non)) (tOp (fun x y H Q=>y=.non∧Q (.bl (decide (x=.non))) H) (zac 0) (tC .non))))
theorem zam (D:zb8) (σ:St) (H:Hp):zgN D σ H=(zbY (zcW (tOp (fun x y H Q=>y=.non∧Q (.bl (decide (x=.non))) H) (zac 1) (tC .non)) (tOp (fun x y H Q=>y=.non∧Q (.bl (decide (x=.non))) H) (zac 0) (tC .non)))) D σ H:=rfl
def zgx (K:PySem.W.Frag):TS :=
 (zb7 (tB (tCB (zdT K) (zab (zac 1) (zab (tC (.ty "str")) zau)))) (zbY (zcW (tCB (zdT K) (zab (zac 0) (zab (tC (.ty "str")) zau))) (tOp rEq (zac 0) (zac 1)))) zaZ)
theorem zaq (K:PySem.W.Frag) (D:zb8) (σ:St) (H:Hp):zgx K D σ H=(zb7 (tB (tCB (zdT K) (zab (zac 1) (zab (tC (.ty "str")) zau)))) (zbY (zcW (tCB (zdT K) (zab (zac 0) (zab (tC (.ty "str")) zau))) (tOp rEq (zac 0) (zac 1)))) zaZ) D σ H:=rfl
def zgV (K:PySem.W.Frag):TS :=
 (zb7 (tB (tCB (zdT K) (zab (zac 1) (zab (tC (.ty "int")) zau)))) (zbY (zcW (tCB (zdT K) (zab (zac 0) (zab (tC (.ty "int")) zau))) (zcW (znF (tCB (zdT K) (zab (zac 0) (zab (tC (.ty "bool")) zau)))) (tOp rEq (zac 0) (zac 1))))) zaZ)
theorem zap (K:PySem.W.Frag) (D:zb8) (σ:St) (H:Hp):zgV K D σ H=(zb7 (tB (tCB (zdT K) (zab (zac 1) (zab (tC (.ty "int")) zau)))) (zbY (zcW (tCB (zdT K) (zab (zac 0) (zab (tC (.ty "int")) zau))) (zcW (znF (tCB (zdT K) (zab (zac 0) (zab (tC (.ty "bool")) zau)))) (tOp rEq (zac 0) (zac 1))))) zaZ) D σ H:=rfl
def zgA (K:PySem.W.Frag):TS :=
 (zb7 (tB (tCB (zdT K) (zab (zac 1) (zab (tC (.ty "bool")) zau)))) (zbY (zcW (tCB (zdT K) (zab (zac 0) (zab (tC (.ty "bool")) zau))) (tOp rEq (zac 0) (zac 1)))) zaZ)
theorem zan (K:PySem.W.Frag) (D:zb8) (σ:St) (H:Hp):zgA K D σ H=(zb7 (tB (tCB (zdT K) (zab (zac 1) (zab (tC (.ty "bool")) zau)))) (zbY (zcW (tCB (zdT K) (zab (zac 0) (zab (tC (.ty "bool")) zau))) (tOp rEq (zac 0) (zac 1)))) zaZ) D σ H:=rfl
def zeC (K:PySem.W.Frag) (nRec:Nat):TS :=
 (zaF (zgX (iZip K (zab (zac 0) (zab (zac 1) zau))) (ziz K 2 (zbW (zal 2) (zbW (zal 3) ziy)))
 (zb7 (zgs (tB (zaY (zjB nRec) [] E0 (zab (zac 2) (zab (zac 3) zau))))) (zbY (tC (.bl false))) zaZ))
 (zbY (tC (.bl true))))
theorem zas (K:PySem.W.Frag) (nRec:Nat) (D:zb8) (σ:St) (H:Hp):zeC K nRec D σ H=(zaF (zgX (iZip K (zab (zac 0) (zab (zac 1) zau))) (ziz K 2 (zbW (zal 2) (zbW (zal 3) ziy)))
 (zb7 (zgs (tB (zaY (zjB nRec) [] E0 (zab (zac 2) (zab (zac 3) zau))))) (zbY (tC (.bl false))) zaZ))
 (zbY (tC (.bl true)))) D σ H:=rfl
def zeK (K:PySem.W.Frag):TS :=
 (zb7 (zaK (tOp rNe (tCB (fun xs H Q=>∃ p ys,xs=[.ref p]∧(SqL K H p ys∨SqT K H p ys)∧Q (.int ys.length) H) (zab (zac 0) zau)) (tCB (fun xs H Q=>∃ p ys,xs=[.ref p]∧(SqL K H p ys∨SqT K H p ys)∧Q (.int ys.length) H) (zab (zac 1) zau)))) (zbY (tC (.bl false))) zaZ)
theorem zar (K:PySem.W.Frag) (D:zb8) (σ:St) (H:Hp):zeK K D σ H=(zb7 (zaK (tOp rNe (tCB (fun xs H Q=>∃ p ys,xs=[.ref p]∧(SqL K H p ys∨SqT K H p ys)∧Q (.int ys.length) H) (zab (zac 0) zau)) (tCB (fun xs H Q=>∃ p ys,xs=[.ref p]∧(SqL K H p ys∨SqT K H p ys)∧Q (.int ys.length) H) (zab (zac 1) zau)))) (zbY (tC (.bl false))) zaZ) D σ H:=rfl
def zeT (K:PySem.W.Frag):TS :=
 (zb7 (tOr (zaK (tOp rNe (tCB (zdT K) (zab (zac 0) (zab (tC (.ty "tuple")) zau))) (tCB (zdT K) (zab (zac 1) (zab (tC (.ty "tuple")) zau))))) (zaK (tOp rNe (tCB (zdT K) (zab (zac 0) (zab (tC (.ty "list")) zau))) (tCB (zdT K) (zab (zac 1) (zab (tC (.ty "list")) zau)))))) (zbY (tC (.bl false))) zaZ)
theorem zat (K:PySem.W.Frag) (D:zb8) (σ:St) (H:Hp):zeT K D σ H=(zb7 (tOr (zaK (tOp rNe (tCB (zdT K) (zab (zac 0) (zab (tC (.ty "tuple")) zau))) (tCB (zdT K) (zab (zac 1) (zab (tC (.ty "tuple")) zau))))) (zaK (tOp rNe (tCB (zdT K) (zab (zac 0) (zab (tC (.ty "list")) zau))) (tCB (zdT K) (zab (zac 1) (zab (tC (.ty "list")) zau)))))) (zbY (tC (.bl false))) zaZ) D σ H:=rfl
def zgK (K:PySem.W.Frag) (nRec:Nat):TS :=
 (zb7 (tOr (tB (tCB (zdT K) (zab (zac 1) (zab (tC (.ty "tuple")) zau)))) (tB (tCB (zdT K) (zab (zac 1) (zab (tC (.ty "list")) zau))))) (zaF (zdk (zeT K))
 (zaF (zdk (zeK K))
 (zeC K nRec))) zaZ)
theorem zao (K:PySem.W.Frag) (nRec:Nat) (D:zb8) (σ:St) (H:Hp):zgK K nRec D σ H=(zb7 (tOr (tB (tCB (zdT K) (zab (zac 1) (zab (tC (.ty "tuple")) zau)))) (tB (tCB (zdT K) (zab (zac 1) (zab (tC (.ty "list")) zau))))) (zaF (zdk (zeT K))
 (zaF (zdk (zeK K))
 (zeC K nRec))) zaZ) D σ H:=rfl
def zeM (K:PySem.W.Frag) (nRec:Nat):TS :=
 (zaF (zdk (zgK K nRec))
 (zaF (zdk (zgA K))
 (zaF (zdk (zgV K))
 (zaF (zdk (zgx K))
 (zgN)))))
theorem zhy {n:Nat} {x y:V} {t:Tr} (h1:ShH H n t x) (h2:ShH H n t y) (q:∀ H',zbt H H'→Q (.bl true) H') :
  zeM K n { nx:=fun _ H'=>Q .non H',rt:=Q } (L2.zce ["_law_told","_law_due","_law_one","_law_other"] [x,y]) H:=by
 unfold zeM
 simp_all only [zam,zaq,zap,zan,zas,zar,zat,zao,zac]
 have q0:=q H (.refl _)
 cases h1 with
 | int i =>
  cases h2
  refine ⟨fun σ H'=>H'=H∧σ=[some (.int i),some (.int i),none,none],?_,?_⟩
  ·simp_all only [zam,zaq,zap,zan,zas,zar,zat,zao,zac]
   refine zcz (.int i) (zey K) ⟨false,rfl,zlF ?_⟩
   refine zcz (.int i) (zkr K) ⟨false,rfl,zlF ?_⟩
   first | rfl | trivial
  rintro σ H1 ⟨rfl,rfl⟩
  simp_all only [zam,zaq,zap,zan,zas,zar,zat,zao,zac]
  refine ⟨fun σ H'=>H'=H1∧σ=[some (.int i),some (.int i),none,none],?_,?_⟩
  ·simp_all only [zam,zaq,zap,zan,zas,zar,zat,zao,zac]
   refine zcz (.int i) (zhw K) ⟨false,rfl,zlF ?_⟩
   first | rfl | trivial
  rintro σ H2 ⟨rfl,rfl⟩
  simp_all only [zam,zaq,zap,zan,zas,zar,zat,zao,zac]
  refine ⟨fun σ H'=>False,?_,fun _ _ z=>z.elim⟩
  simp_all only [zam,zaq,zap,zan,zas,zar,zat,zao,zac]
  refine zdQ ⟨true,rfl,zn1 ?_⟩
  refine zdQ ⟨true,rfl,zn1 ?_⟩
  refine zd3 ⟨_,rfl,?_⟩
  exact zcc (fun _=>by simpa using q0) (fun z=>absurd rfl z)
 | bl b =>
  cases h2
  refine ⟨fun σ H'=>H'=H∧σ=[some (.bl b),some (.bl b),none,none],?_,?_⟩
  ·simp_all only [zam,zaq,zap,zan,zas,zar,zat,zao,zac]
   refine zcz (.bl b) (ziZ K) ⟨false,rfl,zlF ?_⟩
   refine zcz (.bl b) (zjr K) ⟨false,rfl,zlF ?_⟩
   first | rfl | trivial
  rintro σ H1 ⟨rfl,rfl⟩
  simp_all only [zam,zaq,zap,zan,zas,zar,zat,zao,zac]
  refine ⟨fun σ H'=>False,?_,fun _ _ z=>z.elim⟩
  simp_all only [zam,zaq,zap,zan,zas,zar,zat,zao,zac]
  refine zcz (.bl b) rfl ⟨true,rfl,zn1 ?_⟩
  refine zcz (.bl b) rfl ⟨true,rfl,zn1 ?_⟩
  simpa using q0
 | str z =>
  cases h2
  refine ⟨fun σ H'=>H'=H∧σ=[some (.str z),some (.str z),none,none],?_,?_⟩
  ·simp_all only [zam,zaq,zap,zan,zas,zar,zat,zao,zac]
   refine zcz (.str z) (zjN K) ⟨false,rfl,zlF ?_⟩
   refine zcz (.str z) (zkF K) ⟨false,rfl,zlF ?_⟩
   first | rfl | trivial
  rintro σ H1 ⟨rfl,rfl⟩
  simp_all only [zam,zaq,zap,zan,zas,zar,zat,zao,zac]
  refine ⟨fun σ H'=>H'=H1∧σ=[some (.str z),some (.str z),none,none],?_,?_⟩
  ·simp_all only [zam,zaq,zap,zan,zas,zar,zat,zao,zac]
   refine zcz (.str z) (zll K) ⟨false,rfl,zlF ?_⟩
   first | rfl | trivial
  rintro σ H2 ⟨rfl,rfl⟩
  simp_all only [zam,zaq,zap,zan,zas,zar,zat,zao,zac]
  refine ⟨fun σ H'=>H'=H2∧σ=[some (.str z),some (.str z),none,none],?_,?_⟩
  ·simp_all only [zam,zaq,zap,zan,zas,zar,zat,zao,zac]
   refine zcz (.str z) (zl3 K) ⟨false,rfl,zlF ?_⟩
   first | rfl | trivial
  rintro σ H3 ⟨rfl,rfl⟩
  simp_all only [zam,zaq,zap,zan,zas,zar,zat,zao,zac]
  refine ⟨fun σ H'=>False,?_,fun _ _ z=>z.elim⟩
  simp_all only [zam,zaq,zap,zan,zas,zar,zat,zao,zac]
  refine zcz (.str z) rfl ⟨true,rfl,zn1 ?_⟩
  refine zcz (.str z) rfl ⟨true,rfl,zn1 ?_⟩
  exact ⟨rfl,by simpa using q0⟩
 | non =>
  cases h2
  refine ⟨fun σ H'=>H'=H∧σ=[some .non,some .non,none,none],?_,?_⟩
  ·simp_all only [zam,zaq,zap,zan,zas,zar,zat,zao,zac]
   refine zcz .non (zgJ K) ⟨false,rfl,zlF ?_⟩
   refine zcz .non (zg6 K) ⟨false,rfl,zlF ?_⟩
   first | rfl | trivial
  rintro σ H1 ⟨rfl,rfl⟩
  simp_all only [zam,zaq,zap,zan,zas,zar,zat,zao,zac]
  refine ⟨fun σ H'=>H'=H1∧σ=[some .non,some .non,none,none],?_,?_⟩
  ·simp_all only [zam,zaq,zap,zan,zas,zar,zat,zao,zac]
   refine zcz .non (zhj K) ⟨false,rfl,zlF ?_⟩
   first | rfl | trivial
  rintro σ H2 ⟨rfl,rfl⟩
  simp_all only [zam,zaq,zap,zan,zas,zar,zat,zao,zac]
  refine ⟨fun σ H'=>H'=H2∧σ=[some .non,some .non,none,none],?_,?_⟩
  ·simp_all only [zam,zaq,zap,zan,zas,zar,zat,zao,zac]
   refine zcz .non (zhD K) ⟨false,rfl,zlF ?_⟩
   first | rfl | trivial
  rintro σ H3 ⟨rfl,rfl⟩
  simp_all only [zam,zaq,zap,zan,zas,zar,zat,zao,zac]
  refine ⟨fun σ H'=>H'=H3∧σ=[some .non,some .non,none,none],?_,?_⟩
  ·simp_all only [zam,zaq,zap,zan,zas,zar,zat,zao,zac]
   refine zcz .non (zhE K) ⟨false,rfl,zlF ?_⟩
   first | rfl | trivial
  rintro σ H4 ⟨rfl,rfl⟩
  simp_all only [zam,zaq,zap,zan,zas,zar,zat,zao,zac]
  first | simpa using q0 | exact q0
 | @lst n p xs ts h l e =>
  cases h2 with
  | @lst _ p2 ys _ h' l' e' =>
   refine ⟨fun σ H'=>False,?_,fun _ _ z=>z.elim⟩
   simp_all only [zam,zaq,zap,zan,zas,zar,zat,zao,zac]
   refine zcz (.lst h') (zes K) ⟨false,rfl,zlF ?_⟩
   refine zdS h' ⟨true,rfl,zn1 ?_⟩
   refine ⟨fun σ H'=>H'=H∧σ=[some (.ref p),some (.ref p2),none,none],?_,?_⟩
   ·simp_all only [zam,zaq,zap,zan,zas,zar,zat,zao,zac]
    refine zcz (.lst h) (zes K) ?_
    refine zcz (.lst h') (zes K) ?_
    refine ⟨rfl,zcc (fun z=>absurd rfl z) (fun _=>?_)⟩
    refine zdS h ?_
    refine zdS h' ?_
    refine ⟨rfl,zcc (fun z=>absurd rfl z) (fun _=>?_)⟩
    first | rfl | trivial
   rintro σ H1 ⟨rfl,rfl⟩
   simp_all only [zam,zaq,zap,zan,zas,zar,zat,zao,zac]
   refine ⟨fun σ H'=>H'=H1∧σ=[some (.ref p),some (.ref p2),none,none],?_,?_⟩
   ·simp_all only [zam,zaq,zap,zan,zas,zar,zat,zao,zac]
    refine ⟨_,.inl (SqL.of h),_,.inl (SqL.of h'),?_⟩
    rw [l,l']
    exact zcc (fun z=>absurd rfl z) (fun _=>by first | rfl | trivial)
   rintro σ H2 ⟨rfl,rfl⟩
   simp_all only [zam,zaq,zap,zan,zas,zar,zat,zao,zac]
   refine ⟨⟨_,SqL.of h⟩,⟨_,SqL.of h'⟩,?_⟩
   refine zrx (K:=K) (xs:=xs) (ys:=ys) (fun i σ H'=>zbt H2 H'∧∃ z1 z2,σ=[some (.ref p),some (.ref p2),z1,z2]) ⟨.refl _,_,_,rfl⟩ ?_ ?_ ?_
   ·rintro i σ H' _ ⟨s,_⟩
    exact ⟨SqL.of (s _ _ h),SqL.of (s _ _ h')⟩
   ·rintro i x y u σ H3 hx hy ⟨s3,z1,z2,rfl⟩ hu
    have lx:=(List.getElem?_eq_some_iff.mp hx).1
    have et:ts[i]?=some ts[i]:=List.getElem?_eq_getElem (by omega)
    simp_all only [zam,zaq,zap,zan,zas,zar,zat,zao,zac]
    refine ⟨_,SqT.of zae,rfl,_,_,rfl,_,_,rfl,rfl,?_⟩
    have s4:=s3.add hu (o:=.tup [x,y])
    refine ⟨x,y,ts[i],rfl,(e i x _ hx et).same s4,(e' i y _ hy et).same s4,fun H5 s5=>?_⟩
    exact ⟨true,rfl,zcc (fun z=>absurd z (by decide)) (fun _=>s4.trans s5)⟩
   ·rintro σ H3 ⟨s3,z1,z2,rfl⟩
    simp_all only [zam,zaq,zap,zan,zas,zar,zat,zao,zac]
    exact q _ s3
theorem zc5:zbk ["_law_told","_law_due","_law_one","_law_other"] ["_law_told","_law_due"] (zaC zgc):=⟨rfl,rfl,rfl,by decide +kernel,rfl,by decide +kernel,by decide +kernel⟩
theorem zi1 (T:Txt K mg a):zdV P w K mg base CX0 1 a.f__law_same a.d__law_same ["_law_told","_law_due"] (zkW 0):=by
 have G__law_same:zdV P w K mg base CX0 0 a.f__law_same a.d__law_same ["_law_told","_law_due"] (zjB 0):=zqo
 refine T.F__law_same.ok zc5 (fun vs H Q E h=>?_) (fun cdv A outer s H vs Q E hr h=>?_)
 ·obtain ⟨x,y,t,rfl,h1,h2,q⟩:=h
  rfl
 obtain ⟨x,y,t,rfl,h1,h2,q⟩:=h
 exact ⟨zeM K 0,(zaf (zbl (zbA (PW.pt (zeZ (zcu (zai zaw rfl T.z_isinstance PyProof.Rows.boot_isinstance (zaa (pv 1) (zaa (zbc rfl T.z_tuple zcx rfl) zag)))) (zeY (zcu (zai zaw rfl T.z_isinstance PyProof.Rows.boot_isinstance (zaa (pv 1) (zaa (zbc rfl T.z_list zcZ rfl) zag))))))) (zaf (zbl (zbA (PW.pt (zeZ (zaI zfP (zai zaw rfl T.z_isinstance PyProof.Rows.boot_isinstance (zaa (pv 0) (zaa (zbc rfl T.z_tuple zcx rfl) zag))) (zai zaw rfl T.z_isinstance PyProof.Rows.boot_isinstance (zaa (pv 1) (zaa (zbc rfl T.z_tuple zcx rfl) zag))) (zaT _)) (zeY (zaI zfP (zai zaw rfl T.z_isinstance PyProof.Rows.boot_isinstance (zaa (pv 0) (zaa (zbc rfl T.z_list zcZ rfl) zag))) (zai zaw rfl T.z_isinstance PyProof.Rows.boot_isinstance (zaa (pv 1) (zaa (zbc rfl T.z_list zcZ rfl) zag))) (zaT _))))) (zak (zaX zfc)) zaE))
 (zaf (zbl (zbA (zaI zfP (zai zax rfl T.z_len PySem.boot_len (zaa (pv 0) zag)) (zai zax rfl T.z_len PySem.boot_len (zaa (pv 1) zag)) (zaT _)) (zak (zaX zfc)) zaE))
 (zaf (zdg PassesOwn.never rfl (zrR rfl T.z_zip (zaa (pv 0) (zaa (pv 1) zag))) (zev rfl (zbd (za0 (i:=2) zc5.nd rfl (Or.inl rfl)) (zbd (za0 (i:=3) zc5.nd rfl (Or.inl rfl)) zdh)))
 (zak (zbA (zdC (zcu (zaG G__law_same (hr.mono (by decide)) rfl T.m__law_same T.F__law_same.kp T.b__law_same .nil zbJ (zaa (pv 2) (zaa (pv 3) zag))))) (zak (zaX zfc)) zaE)))
 (zak (zaX zfc))))) zaE))
 (zaf (zbl (zbA (zcu (zai zaw rfl T.z_isinstance PyProof.Rows.boot_isinstance (zaa (pv 1) (zaa (zbc rfl T.z_bool zdc rfl) zag)))) (zak (zaX (zcQ (zai zaw rfl T.z_isinstance PyProof.Rows.boot_isinstance (zaa (pv 0) (zaa (zbc rfl T.z_bool zdc rfl) zag))) (zdp (zcq zdE (pv 0) (pv 1) (zaT _)))))) zaE))
 (zaf (zbl (zbA (zcu (zai zaw rfl T.z_isinstance PyProof.Rows.boot_isinstance (zaa (pv 1) (zaa (zbc rfl T.z_int zdZ rfl) zag)))) (zak (zaX (zcQ (zai zaw rfl T.z_isinstance PyProof.Rows.boot_isinstance (zaa (pv 0) (zaa (zbc rfl T.z_int zdZ rfl) zag))) (zcQ (zk5 (zai zaw rfl T.z_isinstance PyProof.Rows.boot_isinstance (zaa (pv 0) (zaa (zbc rfl T.z_bool zdc rfl) zag)))) (zdp (zcq zdE (pv 0) (pv 1) (zaT _))))))) zaE))
 (zaf (zbl (zbA (zcu (zai zaw rfl T.z_isinstance PyProof.Rows.boot_isinstance (zaa (pv 1) (zaa (zbc rfl T.z_str zhJ rfl) zag)))) (zak (zaX (zcQ (zai zaw rfl T.z_isinstance PyProof.Rows.boot_isinstance (zaa (pv 0) (zaa (zbc rfl T.z_str zhJ rfl) zag))) (zdp (zcq zdE (pv 0) (pv 1) (zaT _)))))) zaE))
 (zak (zaX (zcQ (zcq zhQ (pv 1) zfr (zaT _)) (zdp (zcq zhQ (pv 0) zfr (zaT _)))))))))),zhy h1 h2 q⟩
theorem zlx (T:Txt K mg a):zdV P w K mg base CX0 2 a.f__law_same a.d__law_same ["_law_told","_law_due"] (zkW 1):=by
 have G__law_same:zdV P w K mg base CX0 1 a.f__law_same a.d__law_same ["_law_told","_law_due"] (zjB 1):=zi1 T
 refine T.F__law_same.ok zc5 (fun vs H Q E h=>?_) (fun cdv A outer s H vs Q E hr h=>?_)
 ·obtain ⟨x,y,t,rfl,h1,h2,q⟩:=h
  rfl
 obtain ⟨x,y,t,rfl,h1,h2,q⟩:=h
 exact ⟨zeM K 1,(zaf (zbl (zbA (PW.pt (zeZ (zcu (zai zaw rfl T.z_isinstance PyProof.Rows.boot_isinstance (zaa (pv 1) (zaa (zbc rfl T.z_tuple zcx rfl) zag)))) (zeY (zcu (zai zaw rfl T.z_isinstance PyProof.Rows.boot_isinstance (zaa (pv 1) (zaa (zbc rfl T.z_list zcZ rfl) zag))))))) (zaf (zbl (zbA (PW.pt (zeZ (zaI zfP (zai zaw rfl T.z_isinstance PyProof.Rows.boot_isinstance (zaa (pv 0) (zaa (zbc rfl T.z_tuple zcx rfl) zag))) (zai zaw rfl T.z_isinstance PyProof.Rows.boot_isinstance (zaa (pv 1) (zaa (zbc rfl T.z_tuple zcx rfl) zag))) (zaT _)) (zeY (zaI zfP (zai zaw rfl T.z_isinstance PyProof.Rows.boot_isinstance (zaa (pv 0) (zaa (zbc rfl T.z_list zcZ rfl) zag))) (zai zaw rfl T.z_isinstance PyProof.Rows.boot_isinstance (zaa (pv 1) (zaa (zbc rfl T.z_list zcZ rfl) zag))) (zaT _))))) (zak (zaX zfc)) zaE))
 (zaf (zbl (zbA (zaI zfP (zai zax rfl T.z_len PySem.boot_len (zaa (pv 0) zag)) (zai zax rfl T.z_len PySem.boot_len (zaa (pv 1) zag)) (zaT _)) (zak (zaX zfc)) zaE))
 (zaf (zdg PassesOwn.never rfl (zrR rfl T.z_zip (zaa (pv 0) (zaa (pv 1) zag))) (zev rfl (zbd (za0 (i:=2) zc5.nd rfl (Or.inl rfl)) (zbd (za0 (i:=3) zc5.nd rfl (Or.inl rfl)) zdh)))
 (zak (zbA (zdC (zcu (zaG G__law_same (hr.mono (by decide)) rfl T.m__law_same T.F__law_same.kp T.b__law_same .nil zbJ (zaa (pv 2) (zaa (pv 3) zag))))) (zak (zaX zfc)) zaE)))
 (zak (zaX zfc))))) zaE))
 (zaf (zbl (zbA (zcu (zai zaw rfl T.z_isinstance PyProof.Rows.boot_isinstance (zaa (pv 1) (zaa (zbc rfl T.z_bool zdc rfl) zag)))) (zak (zaX (zcQ (zai zaw rfl T.z_isinstance PyProof.Rows.boot_isinstance (zaa (pv 0) (zaa (zbc rfl T.z_bool zdc rfl) zag))) (zdp (zcq zdE (pv 0) (pv 1) (zaT _)))))) zaE))
 (zaf (zbl (zbA (zcu (zai zaw rfl T.z_isinstance PyProof.Rows.boot_isinstance (zaa (pv 1) (zaa (zbc rfl T.z_int zdZ rfl) zag)))) (zak (zaX (zcQ (zai zaw rfl T.z_isinstance PyProof.Rows.boot_isinstance (zaa (pv 0) (zaa (zbc rfl T.z_int zdZ rfl) zag))) (zcQ (zk5 (zai zaw rfl T.z_isinstance PyProof.Rows.boot_isinstance (zaa (pv 0) (zaa (zbc rfl T.z_bool zdc rfl) zag)))) (zdp (zcq zdE (pv 0) (pv 1) (zaT _))))))) zaE))
 (zaf (zbl (zbA (zcu (zai zaw rfl T.z_isinstance PyProof.Rows.boot_isinstance (zaa (pv 1) (zaa (zbc rfl T.z_str zhJ rfl) zag)))) (zak (zaX (zcQ (zai zaw rfl T.z_isinstance PyProof.Rows.boot_isinstance (zaa (pv 0) (zaa (zbc rfl T.z_str zhJ rfl) zag))) (zdp (zcq zdE (pv 0) (pv 1) (zaT _)))))) zaE))
 (zak (zaX (zcQ (zcq zhQ (pv 1) zfr (zaT _)) (zdp (zcq zhQ (pv 0) zfr (zaT _)))))))))),zhy h1 h2 q⟩
def zh0 (a:Ad):Sp:=fun vs H Q _=>∃ (r:Addr) (od:Option Addr),vs=[.ref r]∧((H r=some (zdx r (.ref a.c_NoPlan) od)∧∀ H',zbt H H'→Q (.int 1) H')∨(H r=some (zdx r (.ref a.c_NoKind) od)∧∀ H',zbt H H'→Q (.int 3) H'))
def zep (K:PySem.W.Frag):TS :=
 (zb7 (tOr (zaK (tOp rNe (tBM K "list" (zna K) (zac 1) (zab (tC (.bl true)) zau)) (tC (.int 1)))) (zgs (tB (tCB (zcj K) (zab (zac 0) (zab (tC (.ty "ValueError")) zau)))))) (zbY (tUn (rU fun i=>.int (-i)) (tC (.int 2)))) zaZ)
theorem zbg (K:PySem.W.Frag) (D:zb8) (σ:St) (H:Hp):zep K D σ H=(zb7 (tOr (zaK (tOp rNe (tBM K "list" (zna K) (zac 1) (zab (tC (.bl true)) zau)) (tC (.int 1)))) (zgs (tB (tCB (zcj K) (zab (zac 0) (zab (tC (.ty "ValueError")) zau)))))) (zbY (tUn (rU fun i=>.int (-i)) (tC (.int 2)))) zaZ) D σ H:=rfl
def zfZ (K:PySem.W.Frag) (a:Ad):TS :=
 (zaF (zbj (zd4 (zab (tCB (zcj K) (zab (zac 0) (zab (tC (.ref a.c_NoWeb)) zau))) (zab (tCB (zcj K) (zab (zac 0) (zab (tC (.ref a.c_NoPlan)) zau))) (zab (tCB (zcj K) (zab (zac 0) (zab (tC (.ref a.c_NoText)) zau))) zau)))) (zal 1))
 (zaF (zbj (tOp zfn (zac 1) (zd4 (zab (tCB (zcj K) (zab (zac 0) (zab (tC (.ref a.c_NoKind)) zau))) (zab (tCB (zcj K) (zab (zac 0) (zab (tC (.ref a.c_TooGreat)) zau))) (zab (tCB (zcj K) (zab (zac 0) (zab (tC (.ref a.c_NoTree)) zau))) zau))))) (zal 1))
 (zaF (zbj (tOp zfn (zac 1) (zd4 (zab (tCB (zcj K) (zab (zac 0) (zab (tC (.ref a.c_NoWeights)) zau))) (zab (tCB (zcj K) (zab (zac 0) (zab (tC (.ref a.c_NoTurns)) zau))) (zab (tCB (zcj K) (zab (zac 0) (zab (tC (.ref a.c_NoNumber)) zau))) zau))))) (zal 1))
 (zaF (zbj (tOp zfn (zac 1) (zd4 (zab (tCB (zcj K) (zab (zac 0) (zab (tC (.ref a.c_NoBoxes)) zau))) (zab (tCB (zcj K) (zab (zac 0) (zab (tC (.ref a.c_NoBudget)) zau))) (zab (tCB (zcj K) (zab (zac 0) (zab (tC (.ref a.c_NoName)) zau))) zau))))) (zal 1))
 (zaF (zbj (tOp zfn (zac 1) (zd4 (zab (tCB (zcj K) (zab (zac 0) (zab (tC (.ref a.c_NoOrder)) zau))) (zab (tCB (zcj K) (zab (zac 0) (zab (tC (.ref a.c_NoPlay)) zau))) (zab (tCB (zcj K) (zab (zac 0) (zab (tC (.ref a.c_NoRoad)) zau))) zau))))) (zal 1))
 (zaF (zbj (tOp zfn (zac 1) (zd4 (zab (tCB (zcj K) (zab (zac 0) (zab (tC (.ref a.c_NoRow)) zau))) (zab (tCB (zcj K) (zab (zac 0) (zab (tC (.ref a.c_NoTable)) zau))) (zab (tCB (zcj K) (zab (zac 0) (zab (tC (.ref a.c_NoPaper)) zau))) zau))))) (zal 1))
 (zaF (zdk (zep K))
 (zbY (tBM K "list" (zpo K) (zac 1) (zab (tC (.bl true)) zau))))))))))
theorem zbf (K:PySem.W.Frag) (a:Ad) (D:zb8) (σ:St) (H:Hp):zfZ K a D σ H=(zaF (zbj (zd4 (zab (tCB (zcj K) (zab (zac 0) (zab (tC (.ref a.c_NoWeb)) zau))) (zab (tCB (zcj K) (zab (zac 0) (zab (tC (.ref a.c_NoPlan)) zau))) (zab (tCB (zcj K) (zab (zac 0) (zab (tC (.ref a.c_NoText)) zau))) zau)))) (zal 1))
 (zaF (zbj (tOp zfn (zac 1) (zd4 (zab (tCB (zcj K) (zab (zac 0) (zab (tC (.ref a.c_NoKind)) zau))) (zab (tCB (zcj K) (zab (zac 0) (zab (tC (.ref a.c_TooGreat)) zau))) (zab (tCB (zcj K) (zab (zac 0) (zab (tC (.ref a.c_NoTree)) zau))) zau))))) (zal 1))
 (zaF (zbj (tOp zfn (zac 1) (zd4 (zab (tCB (zcj K) (zab (zac 0) (zab (tC (.ref a.c_NoWeights)) zau))) (zab (tCB (zcj K) (zab (zac 0) (zab (tC (.ref a.c_NoTurns)) zau))) (zab (tCB (zcj K) (zab (zac 0) (zab (tC (.ref a.c_NoNumber)) zau))) zau))))) (zal 1))
 (zaF (zbj (tOp zfn (zac 1) (zd4 (zab (tCB (zcj K) (zab (zac 0) (zab (tC (.ref a.c_NoBoxes)) zau))) (zab (tCB (zcj K) (zab (zac 0) (zab (tC (.ref a.c_NoBudget)) zau))) (zab (tCB (zcj K) (zab (zac 0) (zab (tC (.ref a.c_NoName)) zau))) zau))))) (zal 1))
 (zaF (zbj (tOp zfn (zac 1) (zd4 (zab (tCB (zcj K) (zab (zac 0) (zab (tC (.ref a.c_NoOrder)) zau))) (zab (tCB (zcj K) (zab (zac 0) (zab (tC (.ref a.c_NoPlay)) zau))) (zab (tCB (zcj K) (zab (zac 0) (zab (tC (.ref a.c_NoRoad)) zau))) zau))))) (zal 1))
 (zaF (zbj (tOp zfn (zac 1) (zd4 (zab (tCB (zcj K) (zab (zac 0) (zab (tC (.ref a.c_NoRow)) zau))) (zab (tCB (zcj K) (zab (zac 0) (zab (tC (.ref a.c_NoTable)) zau))) (zab (tCB (zcj K) (zab (zac 0) (zab (tC (.ref a.c_NoPaper)) zau))) zau))))) (zal 1))
 (zaF (zdk (zep K))
 (zbY (tBM K "list" (zpo K) (zac 1) (zab (tC (.bl true)) zau)))))))))) D σ H:=rfl
def zfT:TS :=
 (zb7 (zaK (tOp (fun x y H Q=>y=.non∧Q (.bl (decide (x=.non))) H) (zac 0) (tC .non))) (zbY (tUn (rU fun i=>.int (-i)) (tC (.int 1)))) zaZ)
theorem zbe (D:zb8) (σ:St) (H:Hp):zfT D σ H=(zb7 (zaK (tOp (fun x y H Q=>y=.non∧Q (.bl (decide (x=.non))) H) (zac 0) (tC .non))) (zbY (tUn (rU fun i=>.int (-i)) (tC (.int 1)))) zaZ) D σ H:=rfl
def zc7 (K:PySem.W.Frag) (a:Ad):TS :=
 (zaF (zdk (zfT))
 (zfZ K a))
theorem isV {x:Addr} {od:Option Addr} {d:V} {cv dv:Value} {b:Bool} (hc:clsV d=some dv) (h:H x=some (zdx x cv od)) (k:zhr K cv) (e:PySem.W.kitOne K cv dv=some b) (q:Q (.bl b) H):zcj K [.ref x,d] H Q:=⟨x,d,cv,_,dv,b,rfl,hc,h,k,e,q⟩
theorem zgT {r:Addr} {od:Option Addr} (I:Isa K a) (hr:H r=some (zdx r (.ref a.c_NoPlan) od)) (q:∀ H',zbt H H'→Q (.int 1) H'):zc7 K a { nx:=fun _ H'=>Q .non H',rt:=Q } (L2.zce ["_law_caught","_law_tests"] [.ref r]) H:=by
 unfold zc7
 simp_all only [zbg,zbf,zbe,zac]
 refine ⟨fun σ H'=>H'=H∧σ=[some (.ref r),none],?_,?_⟩
 ·simp_all only [zbg,zbf,zbe,zac]
 rintro σ H' ⟨e,rfl⟩
 rw [e]
 simp_all only [zbg,zbf,zbe,zac]
 refine isV rfl hr I.ec I.k_NoWeb ?_
 refine isV rfl hr I.ec I.k_NoPlan ?_
 refine isV rfl hr I.ec I.k_NoText ?_
 refine ⟨by decide,fun p0 n0=>?_⟩
 have s0:=zaj n0 (.lst [V.bl false,V.bl true,V.bl false])
 have l0:(L2.upd H p0 (.lst [V.bl false,V.bl true,V.bl false])) p0=some (.lst [V.bl false,V.bl true,V.bl false]):=zae
 generalize L2.upd H p0 (.lst [V.bl false,V.bl true,V.bl false])=G0 at s0 l0 ⊢
 have h0:=s0 _ _ hr
 refine isV rfl h0 I.ec I.k_NoKind ?_
 refine isV rfl h0 I.ec I.k_TooGreat ?_
 refine isV rfl h0 I.ec I.k_NoTree ?_
 refine ⟨by decide,fun p1 n1=>?_⟩
 have s1:=zaj n1 (.lst [V.bl false,V.bl false,V.bl false])
 have l1:(L2.upd G0 p1 (.lst [V.bl false,V.bl false,V.bl false])) p1=some (.lst [V.bl false,V.bl false,V.bl false]):=zae
 generalize L2.upd G0 p1 (.lst [V.bl false,V.bl false,V.bl false])=G1 at s1 l1 ⊢
 refine ⟨_,s1 _ _ l0,_,l1,by decide,fun u1 m1=>?_⟩
 simp only [List.cons_append,List.nil_append]
 have t1:=zaj m1 (.lst [V.bl false,V.bl true,V.bl false,V.bl false,V.bl false,V.bl false])
 have k1:(L2.upd G1 u1 (.lst [V.bl false,V.bl true,V.bl false,V.bl false,V.bl false,V.bl false])) u1=some (.lst [V.bl false,V.bl true,V.bl false,V.bl false,V.bl false,V.bl false]):=zae
 generalize L2.upd G1 u1 (.lst [V.bl false,V.bl true,V.bl false,V.bl false,V.bl false,V.bl false])=F1 at t1 k1 ⊢
 have z1:=(s0.trans s1).trans t1
 have h1:=z1 _ _ hr
 refine isV rfl h1 I.ec I.k_NoWeights ?_
 refine isV rfl h1 I.ec I.k_NoTurns ?_
 refine isV rfl h1 I.ec I.k_NoNumber ?_
 refine ⟨by decide,fun p2 n2=>?_⟩
 have s2:=zaj n2 (.lst [V.bl false,V.bl false,V.bl false])
 have l2:(L2.upd F1 p2 (.lst [V.bl false,V.bl false,V.bl false])) p2=some (.lst [V.bl false,V.bl false,V.bl false]):=zae
 generalize L2.upd F1 p2 (.lst [V.bl false,V.bl false,V.bl false])=G2 at s2 l2 ⊢
 refine ⟨_,s2 _ _ k1,_,l2,by decide,fun u2 m2=>?_⟩
 simp only [List.cons_append,List.nil_append]
 have t2:=zaj m2 (.lst [V.bl false,V.bl true,V.bl false,V.bl false,V.bl false,V.bl false,V.bl false,V.bl false,V.bl false])
 have k2:(L2.upd G2 u2 (.lst [V.bl false,V.bl true,V.bl false,V.bl false,V.bl false,V.bl false,V.bl false,V.bl false,V.bl false])) u2=some (.lst [V.bl false,V.bl true,V.bl false,V.bl false,V.bl false,V.bl false,V.bl false,V.bl false,V.bl false]):=zae
 generalize L2.upd G2 u2 (.lst [V.bl false,V.bl true,V.bl false,V.bl false,V.bl false,V.bl false,V.bl false,V.bl false,V.bl false])=F2 at t2 k2 ⊢
 have z2:=(z1.trans s2).trans t2
 have h2:=z2 _ _ hr
 refine isV rfl h2 I.ec I.k_NoBoxes ?_
 refine isV rfl h2 I.ec I.k_NoBudget ?_
 refine isV rfl h2 I.ec I.k_NoName ?_
 refine ⟨by decide,fun p3 n3=>?_⟩
 have s3:=zaj n3 (.lst [V.bl false,V.bl false,V.bl false])
 have l3:(L2.upd F2 p3 (.lst [V.bl false,V.bl false,V.bl false])) p3=some (.lst [V.bl false,V.bl false,V.bl false]):=zae
 generalize L2.upd F2 p3 (.lst [V.bl false,V.bl false,V.bl false])=G3 at s3 l3 ⊢
 refine ⟨_,s3 _ _ k2,_,l3,by decide,fun u3 m3=>?_⟩
 simp only [List.cons_append,List.nil_append]
 have t3:=zaj m3 (.lst [V.bl false,V.bl true,V.bl false,V.bl false,V.bl false,V.bl false,V.bl false,V.bl false,V.bl false,V.bl false,V.bl false,V.bl false])
 have k3:(L2.upd G3 u3 (.lst [V.bl false,V.bl true,V.bl false,V.bl false,V.bl false,V.bl false,V.bl false,V.bl false,V.bl false,V.bl false,V.bl false,V.bl false])) u3=some (.lst [V.bl false,V.bl true,V.bl false,V.bl false,V.bl false,V.bl false,V.bl false,V.bl false,V.bl false,V.bl false,V.bl false,V.bl false]):=zae
 generalize L2.upd G3 u3 (.lst [V.bl false,V.bl true,V.bl false,V.bl false,V.bl false,V.bl false,V.bl false,V.bl false,V.bl false,V.bl false,V.bl false,V.bl false])=F3 at t3 k3 ⊢
 have z3:=(z2.trans s3).trans t3
 have h3:=z3 _ _ hr
 refine isV rfl h3 I.ec I.k_NoOrder ?_
 refine isV rfl h3 I.ec I.k_NoPlay ?_
 refine isV rfl h3 I.ec I.k_NoRoad ?_
 refine ⟨by decide,fun p4 n4=>?_⟩
 have s4:=zaj n4 (.lst [V.bl false,V.bl false,V.bl false])
 have l4:(L2.upd F3 p4 (.lst [V.bl false,V.bl false,V.bl false])) p4=some (.lst [V.bl false,V.bl false,V.bl false]):=zae
 generalize L2.upd F3 p4 (.lst [V.bl false,V.bl false,V.bl false])=G4 at s4 l4 ⊢
 refine ⟨_,s4 _ _ k3,_,l4,by decide,fun u4 m4=>?_⟩
 simp only [List.cons_append,List.nil_append]
 have t4:=zaj m4 (.lst [V.bl false,V.bl true,V.bl false,V.bl false,V.bl false,V.bl false,V.bl false,V.bl false,V.bl false,V.bl false,V.bl false,V.bl false,V.bl false,V.bl false,V.bl false])
 have k4:(L2.upd G4 u4 (.lst [V.bl false,V.bl true,V.bl false,V.bl false,V.bl false,V.bl false,V.bl false,V.bl false,V.bl false,V.bl false,V.bl false,V.bl false,V.bl false,V.bl false,V.bl false])) u4=some (.lst [V.bl false,V.bl true,V.bl false,V.bl false,V.bl false,V.bl false,V.bl false,V.bl false,V.bl false,V.bl false,V.bl false,V.bl false,V.bl false,V.bl false,V.bl false]):=zae
 generalize L2.upd G4 u4 (.lst [V.bl false,V.bl true,V.bl false,V.bl false,V.bl false,V.bl false,V.bl false,V.bl false,V.bl false,V.bl false,V.bl false,V.bl false,V.bl false,V.bl false,V.bl false])=F4 at t4 k4 ⊢
 have z4:=(z3.trans s4).trans t4
 have h4:=z4 _ _ hr
 refine isV rfl h4 I.ec I.k_NoRow ?_
 refine isV rfl h4 I.ec I.k_NoTable ?_
 refine isV rfl h4 I.ec I.k_NoPaper ?_
 refine ⟨by decide,fun p5 n5=>?_⟩
 have s5:=zaj n5 (.lst [V.bl false,V.bl false,V.bl false])
 have l5:(L2.upd F4 p5 (.lst [V.bl false,V.bl false,V.bl false])) p5=some (.lst [V.bl false,V.bl false,V.bl false]):=zae
 generalize L2.upd F4 p5 (.lst [V.bl false,V.bl false,V.bl false])=G5 at s5 l5 ⊢
 refine ⟨_,s5 _ _ k4,_,l5,by decide,fun u5 m5=>?_⟩
 simp only [List.cons_append,List.nil_append]
 have t5:=zaj m5 (.lst [V.bl false,V.bl true,V.bl false,V.bl false,V.bl false,V.bl false,V.bl false,V.bl false,V.bl false,V.bl false,V.bl false,V.bl false,V.bl false,V.bl false,V.bl false,V.bl false,V.bl false,V.bl false])
 have k5:(L2.upd G5 u5 (.lst [V.bl false,V.bl true,V.bl false,V.bl false,V.bl false,V.bl false,V.bl false,V.bl false,V.bl false,V.bl false,V.bl false,V.bl false,V.bl false,V.bl false,V.bl false,V.bl false,V.bl false,V.bl false])) u5=some (.lst [V.bl false,V.bl true,V.bl false,V.bl false,V.bl false,V.bl false,V.bl false,V.bl false,V.bl false,V.bl false,V.bl false,V.bl false,V.bl false,V.bl false,V.bl false,V.bl false,V.bl false,V.bl false]):=zae
 generalize L2.upd G5 u5 (.lst [V.bl false,V.bl true,V.bl false,V.bl false,V.bl false,V.bl false,V.bl false,V.bl false,V.bl false,V.bl false,V.bl false,V.bl false,V.bl false,V.bl false,V.bl false,V.bl false,V.bl false,V.bl false])=F5 at t5 k5 ⊢
 have z5:=(z4.trans s5).trans t5
 have h5:=z5 _ _ hr
 refine ⟨fun σ H'=>H'=F5∧σ=[some (.ref r),some (.ref u5)],?_,?_⟩
 ·simp_all only [zbg,zbf,zbe,zac]
  refine ⟨.inl ⟨rfl,_,SqL.of k5⟩,_,SqL.of k5,rfl,rfl,?_⟩
  refine zcc (fun z=>absurd rfl z) (fun _=>?_)
  exact isV rfl h5 I.ec I.k_ValueError ⟨true,rfl,zcc (fun z=>absurd z (by decide)) (fun _=>rfl)⟩
 rintro σ H' ⟨e,rfl⟩
 rw [e]
 simp_all only [zbg,zbf,zbe,zac]
 exact ⟨.inl ⟨rfl,_,SqL.of k5⟩,_,_,_,1,rfl,rfl,SqL.of k5,rfl,rfl,rfl,by decide,q _ z5⟩
theorem zgI {r:Addr} {od:Option Addr} (I:Isa2 K a) (hr:H r=some (zdx r (.ref a.c_NoKind) od)) (q:∀ H',zbt H H'→Q (.int 3) H'):zc7 K a { nx:=fun _ H'=>Q .non H',rt:=Q } (L2.zce ["_law_caught","_law_tests"] [.ref r]) H:=by
 unfold zc7
 simp_all only [zbg,zbf,zbe,zac]
 refine ⟨fun σ H'=>H'=H∧σ=[some (.ref r),none],?_,?_⟩
 ·simp_all only [zbg,zbf,zbe,zac]
 rintro σ H' ⟨e,rfl⟩
 rw [e]
 simp_all only [zbg,zbf,zbe,zac]
 refine isV rfl hr I.ec I.k_NoWeb ?_
 refine isV rfl hr I.ec I.k_NoPlan ?_
 refine isV rfl hr I.ec I.k_NoText ?_
 refine ⟨by decide,fun p0 n0=>?_⟩
 have s0:=zaj n0 (.lst [V.bl false,V.bl false,V.bl false])
 have l0:(L2.upd H p0 (.lst [V.bl false,V.bl false,V.bl false])) p0=some (.lst [V.bl false,V.bl false,V.bl false]):=zae
 generalize L2.upd H p0 (.lst [V.bl false,V.bl false,V.bl false])=G0 at s0 l0 ⊢
 have h0:=s0 _ _ hr
 refine isV rfl h0 I.ec I.k_NoKind ?_
 refine isV rfl h0 I.ec I.k_TooGreat ?_
 refine isV rfl h0 I.ec I.k_NoTree ?_
 refine ⟨by decide,fun p1 n1=>?_⟩
 have s1:=zaj n1 (.lst [V.bl true,V.bl false,V.bl false])
 have l1:(L2.upd G0 p1 (.lst [V.bl true,V.bl false,V.bl false])) p1=some (.lst [V.bl true,V.bl false,V.bl false]):=zae
 generalize L2.upd G0 p1 (.lst [V.bl true,V.bl false,V.bl false])=G1 at s1 l1 ⊢
 refine ⟨_,s1 _ _ l0,_,l1,by decide,fun u1 m1=>?_⟩
 simp only [List.cons_append,List.nil_append]
 have t1:=zaj m1 (.lst [V.bl false,V.bl false,V.bl false,V.bl true,V.bl false,V.bl false])
 have k1:(L2.upd G1 u1 (.lst [V.bl false,V.bl false,V.bl false,V.bl true,V.bl false,V.bl false])) u1=some (.lst [V.bl false,V.bl false,V.bl false,V.bl true,V.bl false,V.bl false]):=zae
 generalize L2.upd G1 u1 (.lst [V.bl false,V.bl false,V.bl false,V.bl true,V.bl false,V.bl false])=F1 at t1 k1 ⊢
 have z1:=(s0.trans s1).trans t1
 have h1:=z1 _ _ hr
 refine isV rfl h1 I.ec I.k_NoWeights ?_
 refine isV rfl h1 I.ec I.k_NoTurns ?_
 refine isV rfl h1 I.ec I.k_NoNumber ?_
 refine ⟨by decide,fun p2 n2=>?_⟩
 have s2:=zaj n2 (.lst [V.bl false,V.bl false,V.bl false])
 have l2:(L2.upd F1 p2 (.lst [V.bl false,V.bl false,V.bl false])) p2=some (.lst [V.bl false,V.bl false,V.bl false]):=zae
 generalize L2.upd F1 p2 (.lst [V.bl false,V.bl false,V.bl false])=G2 at s2 l2 ⊢
 refine ⟨_,s2 _ _ k1,_,l2,by decide,fun u2 m2=>?_⟩
 simp only [List.cons_append,List.nil_append]
 have t2:=zaj m2 (.lst [V.bl false,V.bl false,V.bl false,V.bl true,V.bl false,V.bl false,V.bl false,V.bl false,V.bl false])
 have k2:(L2.upd G2 u2 (.lst [V.bl false,V.bl false,V.bl false,V.bl true,V.bl false,V.bl false,V.bl false,V.bl false,V.bl false])) u2=some (.lst [V.bl false,V.bl false,V.bl false,V.bl true,V.bl false,V.bl false,V.bl false,V.bl false,V.bl false]):=zae
 generalize L2.upd G2 u2 (.lst [V.bl false,V.bl false,V.bl false,V.bl true,V.bl false,V.bl false,V.bl false,V.bl false,V.bl false])=F2 at t2 k2 ⊢
 have z2:=(z1.trans s2).trans t2
 have h2:=z2 _ _ hr
 refine isV rfl h2 I.ec I.k_NoBoxes ?_
 refine isV rfl h2 I.ec I.k_NoBudget ?_
 refine isV rfl h2 I.ec I.k_NoName ?_
 refine ⟨by decide,fun p3 n3=>?_⟩
 have s3:=zaj n3 (.lst [V.bl false,V.bl false,V.bl false])
 have l3:(L2.upd F2 p3 (.lst [V.bl false,V.bl false,V.bl false])) p3=some (.lst [V.bl false,V.bl false,V.bl false]):=zae
 generalize L2.upd F2 p3 (.lst [V.bl false,V.bl false,V.bl false])=G3 at s3 l3 ⊢
 refine ⟨_,s3 _ _ k2,_,l3,by decide,fun u3 m3=>?_⟩
 simp only [List.cons_append,List.nil_append]
 have t3:=zaj m3 (.lst [V.bl false,V.bl false,V.bl false,V.bl true,V.bl false,V.bl false,V.bl false,V.bl false,V.bl false,V.bl false,V.bl false,V.bl false])
 have k3:(L2.upd G3 u3 (.lst [V.bl false,V.bl false,V.bl false,V.bl true,V.bl false,V.bl false,V.bl false,V.bl false,V.bl false,V.bl false,V.bl false,V.bl false])) u3=some (.lst [V.bl false,V.bl false,V.bl false,V.bl true,V.bl false,V.bl false,V.bl false,V.bl false,V.bl false,V.bl false,V.bl false,V.bl false]):=zae
 generalize L2.upd G3 u3 (.lst [V.bl false,V.bl false,V.bl false,V.bl true,V.bl false,V.bl false,V.bl false,V.bl false,V.bl false,V.bl false,V.bl false,V.bl false])=F3 at t3 k3 ⊢
 have z3:=(z2.trans s3).trans t3
 have h3:=z3 _ _ hr
 refine isV rfl h3 I.ec I.k_NoOrder ?_
 refine isV rfl h3 I.ec I.k_NoPlay ?_
 refine isV rfl h3 I.ec I.k_NoRoad ?_
 refine ⟨by decide,fun p4 n4=>?_⟩
 have s4:=zaj n4 (.lst [V.bl false,V.bl false,V.bl false])
 have l4:(L2.upd F3 p4 (.lst [V.bl false,V.bl false,V.bl false])) p4=some (.lst [V.bl false,V.bl false,V.bl false]):=zae
 generalize L2.upd F3 p4 (.lst [V.bl false,V.bl false,V.bl false])=G4 at s4 l4 ⊢
 refine ⟨_,s4 _ _ k3,_,l4,by decide,fun u4 m4=>?_⟩
 simp only [List.cons_append,List.nil_append]
 have t4:=zaj m4 (.lst [V.bl false,V.bl false,V.bl false,V.bl true,V.bl false,V.bl false,V.bl false,V.bl false,V.bl false,V.bl false,V.bl false,V.bl false,V.bl false,V.bl false,V.bl false])
 have k4:(L2.upd G4 u4 (.lst [V.bl false,V.bl false,V.bl false,V.bl true,V.bl false,V.bl false,V.bl false,V.bl false,V.bl false,V.bl false,V.bl false,V.bl false,V.bl false,V.bl false,V.bl false])) u4=some (.lst [V.bl false,V.bl false,V.bl false,V.bl true,V.bl false,V.bl false,V.bl false,V.bl false,V.bl false,V.bl false,V.bl false,V.bl false,V.bl false,V.bl false,V.bl false]):=zae
 generalize L2.upd G4 u4 (.lst [V.bl false,V.bl false,V.bl false,V.bl true,V.bl false,V.bl false,V.bl false,V.bl false,V.bl false,V.bl false,V.bl false,V.bl false,V.bl false,V.bl false,V.bl false])=F4 at t4 k4 ⊢
 have z4:=(z3.trans s4).trans t4
 have h4:=z4 _ _ hr
 refine isV rfl h4 I.ec I.k_NoRow ?_
 refine isV rfl h4 I.ec I.k_NoTable ?_
 refine isV rfl h4 I.ec I.k_NoPaper ?_
 refine ⟨by decide,fun p5 n5=>?_⟩
 have s5:=zaj n5 (.lst [V.bl false,V.bl false,V.bl false])
 have l5:(L2.upd F4 p5 (.lst [V.bl false,V.bl false,V.bl false])) p5=some (.lst [V.bl false,V.bl false,V.bl false]):=zae
 generalize L2.upd F4 p5 (.lst [V.bl false,V.bl false,V.bl false])=G5 at s5 l5 ⊢
 refine ⟨_,s5 _ _ k4,_,l5,by decide,fun u5 m5=>?_⟩
 simp only [List.cons_append,List.nil_append]
 have t5:=zaj m5 (.lst [V.bl false,V.bl false,V.bl false,V.bl true,V.bl false,V.bl false,V.bl false,V.bl false,V.bl false,V.bl false,V.bl false,V.bl false,V.bl false,V.bl false,V.bl false,V.bl false,V.bl false,V.bl false])
 have k5:(L2.upd G5 u5 (.lst [V.bl false,V.bl false,V.bl false,V.bl true,V.bl false,V.bl false,V.bl false,V.bl false,V.bl false,V.bl false,V.bl false,V.bl false,V.bl false,V.bl false,V.bl false,V.bl false,V.bl false,V.bl false])) u5=some (.lst [V.bl false,V.bl false,V.bl false,V.bl true,V.bl false,V.bl false,V.bl false,V.bl false,V.bl false,V.bl false,V.bl false,V.bl false,V.bl false,V.bl false,V.bl false,V.bl false,V.bl false,V.bl false]):=zae
 generalize L2.upd G5 u5 (.lst [V.bl false,V.bl false,V.bl false,V.bl true,V.bl false,V.bl false,V.bl false,V.bl false,V.bl false,V.bl false,V.bl false,V.bl false,V.bl false,V.bl false,V.bl false,V.bl false,V.bl false,V.bl false])=F5 at t5 k5 ⊢
 have z5:=(z4.trans s5).trans t5
 have h5:=z5 _ _ hr
 refine ⟨fun σ H'=>H'=F5∧σ=[some (.ref r),some (.ref u5)],?_,?_⟩
 ·simp_all only [zbg,zbf,zbe,zac]
  refine ⟨.inl ⟨rfl,_,SqL.of k5⟩,_,SqL.of k5,rfl,rfl,?_⟩
  refine zcc (fun z=>absurd rfl z) (fun _=>?_)
  exact isV rfl h5 I.ec I.k_ValueError ⟨true,rfl,zcc (fun z=>absurd z (by decide)) (fun _=>rfl)⟩
 rintro σ H' ⟨e,rfl⟩
 rw [e]
 simp_all only [zbg,zbf,zbe,zac]
 exact ⟨.inl ⟨rfl,_,SqL.of k5⟩,_,_,_,3,rfl,rfl,SqL.of k5,rfl,rfl,rfl,by decide,q _ z5⟩
theorem zjw {r:Addr} {od:Option Addr} (I:Isa K a) (I2:Isa2 K a) (h:(H r=some (zdx r (.ref a.c_NoPlan) od)∧∀ H',zbt H H'→Q (.int 1) H')∨(H r=some (zdx r (.ref a.c_NoKind) od)∧∀ H',zbt H H'→Q (.int 3) H')):zc7 K a { nx:=fun _ H'=>Q .non H',rt:=Q } (L2.zce ["_law_caught","_law_tests"] [.ref r]) H:=by
 rcases h with ⟨h,q⟩ | ⟨h,q⟩
 ·exact zgT I h q
 ·exact zgI I2 h q
theorem zcn:zbk ["_law_caught","_law_tests"] ["_law_caught"] (zaC zfk):=⟨rfl,rfl,rfl,by decide +kernel,rfl,by decide +kernel,by decide +kernel⟩
theorem zjz (T:Txt K mg a):zdV P w K mg base CX0 1 a.f__law_class a.d__law_class ["_law_caught"] (zh0 a):=by
 refine T.F__law_class.ok zcn (fun vs H Q E h=>?_) (fun cdv A outer s H vs Q E hr h=>?_)
 ·obtain ⟨r,od,rfl,h⟩:=h
  rfl
 obtain ⟨r,od,rfl,h⟩:=h
 exact ⟨zc7 K a,(zaf (zbl (zbA (zaI zhQ (pv 0) zfr (zaT _)) (zak (zaX (zmp zit zah))) zaE))
 (zaf (zaB (i:=1) zcn.nd rfl (Or.inl rfl) (zcm (zaa (zai za7 rfl T.z_isinstance PyProof.Rows.boot_isinstance (zaa (pv 0) (zaa (zca rfl T.m_NoWeb rfl) zag))) (zaa (zai za7 rfl T.z_isinstance PyProof.Rows.boot_isinstance (zaa (pv 0) (zaa (zca rfl T.m_NoPlan rfl) zag))) (zaa (zai za7 rfl T.z_isinstance PyProof.Rows.boot_isinstance (zaa (pv 0) (zaa (zca rfl T.m_NoText rfl) zag))) zag)))))
 (zaf (zaB (i:=1) zcn.nd rfl (Or.inl rfl) (zaz zdA (pv 1) (zcm (zaa (zai za7 rfl T.z_isinstance PyProof.Rows.boot_isinstance (zaa (pv 0) (zaa (zca rfl T.m_NoKind rfl) zag))) (zaa (zai za7 rfl T.z_isinstance PyProof.Rows.boot_isinstance (zaa (pv 0) (zaa (zca rfl T.m_TooGreat rfl) zag))) (zaa (zai za7 rfl T.z_isinstance PyProof.Rows.boot_isinstance (zaa (pv 0) (zaa (zca rfl T.m_NoTree rfl) zag))) zag))))))
 (zaf (zaB (i:=1) zcn.nd rfl (Or.inl rfl) (zaz zdA (pv 1) (zcm (zaa (zai za7 rfl T.z_isinstance PyProof.Rows.boot_isinstance (zaa (pv 0) (zaa (zca rfl T.m_NoWeights rfl) zag))) (zaa (zai za7 rfl T.z_isinstance PyProof.Rows.boot_isinstance (zaa (pv 0) (zaa (zca rfl T.m_NoTurns rfl) zag))) (zaa (zai za7 rfl T.z_isinstance PyProof.Rows.boot_isinstance (zaa (pv 0) (zaa (zca rfl T.m_NoNumber rfl) zag))) zag))))))
 (zaf (zaB (i:=1) zcn.nd rfl (Or.inl rfl) (zaz zdA (pv 1) (zcm (zaa (zai za7 rfl T.z_isinstance PyProof.Rows.boot_isinstance (zaa (pv 0) (zaa (zca rfl T.m_NoBoxes rfl) zag))) (zaa (zai za7 rfl T.z_isinstance PyProof.Rows.boot_isinstance (zaa (pv 0) (zaa (zca rfl T.m_NoBudget rfl) zag))) (zaa (zai za7 rfl T.z_isinstance PyProof.Rows.boot_isinstance (zaa (pv 0) (zaa (zca rfl T.m_NoName rfl) zag))) zag))))))
 (zaf (zaB (i:=1) zcn.nd rfl (Or.inl rfl) (zaz zdA (pv 1) (zcm (zaa (zai za7 rfl T.z_isinstance PyProof.Rows.boot_isinstance (zaa (pv 0) (zaa (zca rfl T.m_NoOrder rfl) zag))) (zaa (zai za7 rfl T.z_isinstance PyProof.Rows.boot_isinstance (zaa (pv 0) (zaa (zca rfl T.m_NoPlay rfl) zag))) (zaa (zai za7 rfl T.z_isinstance PyProof.Rows.boot_isinstance (zaa (pv 0) (zaa (zca rfl T.m_NoRoad rfl) zag))) zag))))))
 (zaf (zaB (i:=1) zcn.nd rfl (Or.inl rfl) (zaz zdA (pv 1) (zcm (zaa (zai za7 rfl T.z_isinstance PyProof.Rows.boot_isinstance (zaa (pv 0) (zaa (zca rfl T.m_NoRow rfl) zag))) (zaa (zai za7 rfl T.z_isinstance PyProof.Rows.boot_isinstance (zaa (pv 0) (zaa (zca rfl T.m_NoTable rfl) zag))) (zaa (zai za7 rfl T.z_isinstance PyProof.Rows.boot_isinstance (zaa (pv 0) (zaa (zca rfl T.m_NoPaper rfl) zag))) zag))))))
 (zaf (zbl (zbA (PW.pt (zeZ (zaI zfP (zh7 PySem.F.plainAttrs_list PySem.F.slot_list_count PySem.F.type_list_count zqf (pv 1) (zaa zfc zag)) zah (zaT _)) (zeY (zdC (zcu (zai za7 rfl T.z_isinstance PyProof.Rows.boot_isinstance (zaa (pv 0) (zaa (zbc rfl T.z_ValueError zif rfl) zag)))))))) (zak (zaX (zmp zit zah))) zaE))
 (zak (zaX (zh7 PySem.F.plainAttrs_list PySem.F.slot_list_index PySem.F.type_list_index zp9 (pv 1) (zaa zfc zag)))))))))))),
  zjw T.I T.I2 h⟩
def dV:Option Nat→V
 | none=>.non
 | some k=>.int (k:Int)
def zlQ:Sp:=fun vs H Q _=>∃ (nl pl:Addr) (ds:List Addr) (m:Int) (rs:List zcb) (sp:Bool) (xs:List V) (ts:List Th),vs=[.ref nl,.str (kdS sp),.ref pl]∧zeF H nl ds m rs∧GW m rs∧H pl=some (.lst xs)∧PlT H xs ts∧ts.length≤100000∧∀ (d:Option Nat) (H':Hp),zbt H H'→zjn sp (sh rs) m ts d→Q (dV d) H'
def zf4 (K:PySem.W.Frag):TS :=
 (zb7 (zaK (tOp (rI0 fun i j=>.bl (decide (i<j))) (tCB (fun xs H Q=>∃ p ys,xs=[.ref p]∧(SqL K H p ys∨SqT K H p ys)∧Q (.int ys.length) H) (zab (zac 3) zau)) (tCB (fun xs H Q=>∃ p ys,xs=[.ref p]∧(SqL K H p ys∨SqT K H p ys)∧Q (.int ys.length) H) (zab (zac 0) zau)))) (zbY (tCB (fun xs H Q=>∃ p ys,xs=[.ref p]∧(SqL K H p ys∨SqT K H p ys)∧Q (.int ys.length) H) (zab (zac 2) zau))) zaZ)
theorem zaM (K:PySem.W.Frag) (D:zb8) (σ:St) (H:Hp):zf4 K D σ H=(zb7 (zaK (tOp (rI0 fun i j=>.bl (decide (i<j))) (tCB (fun xs H Q=>∃ p ys,xs=[.ref p]∧(SqL K H p ys∨SqT K H p ys)∧Q (.int ys.length) H) (zab (zac 3) zau)) (tCB (fun xs H Q=>∃ p ys,xs=[.ref p]∧(SqL K H p ys∨SqT K H p ys)∧Q (.int ys.length) H) (zab (zac 0) zau)))) (zbY (tCB (fun xs H Q=>∃ p ys,xs=[.ref p]∧(SqL K H p ys∨SqT K H p ys)∧Q (.int ys.length) H) (zab (zac 2) zau))) zaZ) D σ H:=rfl
def zel (K:PySem.W.Frag):TS :=
 (zb7 (tOr (zp4 (zaK (tOp rEq (zac 5) (tC (.int 0)))) (zaK (tOp rNe (zac 6) (tC (.int 0))))) (zp4 (zaK (tOp (rI0 fun i j=>.bl (decide (j<i))) (zac 5) (tC (.int 0)))) (tB (zdi (zac 6) (tOp (zcg K) (zac 0) (zac 4)))))) (zbY (zac 5)) zaZ)
theorem zaQ (K:PySem.W.Frag) (D:zb8) (σ:St) (H:Hp):zel K D σ H=(zb7 (tOr (zp4 (zaK (tOp rEq (zac 5) (tC (.int 0)))) (zaK (tOp rNe (zac 6) (tC (.int 0))))) (zp4 (zaK (tOp (rI0 fun i j=>.bl (decide (j<i))) (zac 5) (tC (.int 0)))) (tB (zdi (zac 6) (tOp (zcg K) (zac 0) (zac 4)))))) (zbY (zac 5)) zaZ) D σ H:=rfl
def zec (K:PySem.W.Frag):TS :=
 (zb7 (tOr (zaK (tOp (rIn K true) (tOp (zdz K) (zac 6) (tC (.int 0))) (zac 3))) (tOr (zaK (tOp (rIn K false) (tOp (zdz K) (zac 6) (tC (.int 1))) (zac 3))) (tB (zdi (tOp (zdz K) (zac 6) (tC (.int 1))) (tOp (zcg K) (zac 0) (tOp (zdz K) (zac 6) (tC (.int 0)))))))) (zbY (zac 5)) zaZ)
theorem zaR (K:PySem.W.Frag) (D:zb8) (σ:St) (H:Hp):zec K D σ H=(zb7 (tOr (zaK (tOp (rIn K true) (tOp (zdz K) (zac 6) (tC (.int 0))) (zac 3))) (tOr (zaK (tOp (rIn K false) (tOp (zdz K) (zac 6) (tC (.int 1))) (zac 3))) (tB (zdi (tOp (zdz K) (zac 6) (tC (.int 1))) (tOp (zcg K) (zac 0) (tOp (zdz K) (zac 6) (tC (.int 0)))))))) (zbY (zac 5)) zaZ) D σ H:=rfl
def zem (K:PySem.W.Frag):TS :=
 (zb7 (zaK (tOp rEq (zac 1) (tC (.str "walk")))) (zaF (zdk (zel K))
 (zbj (zac 6) (zal 4))) (zaF (zdk (zec K))
 (zbj (tOp (zdz K) (zac 6) (tC (.int 1))) (zal 4))))
theorem zaN (K:PySem.W.Frag) (D:zb8) (σ:St) (H:Hp):zem K D σ H=(zb7 (zaK (tOp rEq (zac 1) (tC (.str "walk")))) (zaF (zdk (zel K))
 (zbj (zac 6) (zal 4))) (zaF (zdk (zec K))
 (zbj (tOp (zdz K) (zac 6) (tC (.int 1))) (zal 4)))) D σ H:=rfl
def zfR (K:PySem.W.Frag):TS :=
 (zaF (zdk (zem K))
 (zb7 (zaK (tOp (rIn K true) (zac 4) (zac 3))) (zdD (tBM K "list" zb3 (zac 3) (zab (zac 4) zau))) zaZ))
theorem zaP (K:PySem.W.Frag) (D:zb8) (σ:St) (H:Hp):zfR K D σ H=(zaF (zdk (zem K))
 (zb7 (zaK (tOp (rIn K true) (zac 4) (zac 3))) (zdD (tBM K "list" zb3 (zac 3) (zab (zac 4) zau))) zaZ)) D σ H:=rfl
def zfY (K:PySem.W.Frag):TS :=
 (zb7 (zaK (tOp rNe (tCB (zdT K) (zab (zac 6) (zab (tC (.ty "tuple")) zau))) (tOp rEq (zac 1) (tC (.str "spread"))))) (zbY (zac 5)) zaZ)
theorem zaO (K:PySem.W.Frag) (D:zb8) (σ:St) (H:Hp):zfY K D σ H=(zb7 (zaK (tOp rNe (tCB (zdT K) (zab (zac 6) (zab (tC (.ty "tuple")) zau))) (tOp rEq (zac 1) (tC (.str "spread"))))) (zbY (zac 5)) zaZ) D σ H:=rfl
def zfy (K:PySem.W.Frag):TS :=
 (zaF (zbj (tSl (zgW K) (zd4 (zab (tC (.int 0)) zau)) zbB (zc0 (tCB (fun xs H Q=>(∃ i,xs=[.int i]∧Q (.int i) H)∨∃ k,xs=[.bl k]∧Q (.int (if k then 1 else 0)) H) (zab (tOp rEq (zac 1) (tC (.str "spread"))) zau)))) (zal 3))
 (zaF (zbj (tC (.int 0)) (zal 4))
 (zaF (zgX (zer (zab (tCB (fun xs H Q=>∃ p ys,xs=[.ref p]∧(SqL K H p ys∨SqT K H p ys)∧Q (.int ys.length) H) (zab (zac 2) zau)) zau)) (zal 5)
 (zaF (zbj (tOp (zcg K) (zac 2) (zac 5)) (zal 6))
 (zaF (zdk (zfY K))
 (zfR K))))
 (zaF (zdk (zf4 K))
 (zbY (tC .non))))))
theorem zj2 {nl pl:Addr} {ds:List Addr} {m:Int} {rs:List zcb} {sp:Bool} {xs:List V} {ts:List Th} (N:zeF H nl ds m rs) (G:GW m rs) (hp:H pl=some (.lst xs)) (P:PlT H xs ts) (tl:ts.length≤100000) (q:∀ (d:Option Nat) (H':Hp),zbt H H'→zjn sp (sh rs) m ts d→Q (dV d) H') :
  zfy K { nx:=fun _ H'=>Q .non H',rt:=Q } (L2.zce ["_law_near_here","_law_kind","_law_plan","_law_come","_law_prior","_law_k","_law_thing"] [.ref nl,.str (kdS sp),.ref pl]) H:=by
 unfold zfy
 have m1:=G.m1
 have m60:=G.m60
 have ln:=N.len
 have xl:=P.1
 generalize hkd:(kdS sp)=kd
 simp_all only [zaM,zaQ,zaR,zaN,zaP,zaO,zac]
 have ne:¬ ("walk":Str)="spread":=by decide +kernel
 have k1:kd="spread"↔sp=true:=by
  cases sp with
  | true=>exact ⟨fun _=>rfl,fun _=>hkd.symm⟩
  | false=>exact ⟨fun z=>absurd (hkd.trans z) ne,fun z=>nomatch z⟩
 have k2:kd="walk"↔sp=false:=by
  cases sp with
  | true=>exact ⟨fun z=>absurd (z.symm.trans hkd.symm) ne,fun z=>nomatch z⟩
  | false=>exact ⟨fun _=>rfl,fun _=>hkd.symm⟩
 refine ⟨by decide,fun l0 hl0=>?_⟩
 have s0:=zaj hl0 (.lst [V.int 0])
 have h0:(L2.upd H l0 (.lst [V.int 0])) l0=some (.lst [V.int 0]):=zae
 generalize L2.upd H l0 (.lst [V.int 0])=H0 at s0 h0 ⊢
 refine ⟨rfl,.inr ⟨_,SqL.of h0,fun co hco=>?_⟩⟩
 have hcut:zch [V.int 0] none (some (if kd="spread" then 1 else 0))=(if sp=true then [(0:Int)] else []).map V.int:=by
  cases sp with
  | true=>rw [if_pos (k1.mpr rfl),if_pos rfl];rfl
  | false=>rw [if_neg (fun z=>nomatch k1.mp z),if_neg (by decide)];rfl
 rw [hcut]
 have hco0:H co=none:=s0.free hco
 have s1:=zaj hco (.lst ((if sp=true then [(0:Int)] else []).map V.int))
 have h1:(L2.upd H0 co (.lst ((if sp=true then [(0:Int)] else []).map V.int))) co=some (.lst ((if sp=true then [(0:Int)] else []).map V.int)):=zae
 generalize L2.upd H0 co (.lst ((if sp=true then [(0:Int)] else []).map V.int))=H1 at s1 h1 ⊢
 have s01:=s0.trans s1
 refine ⟨_,.inl (SqL.of (s01 _ _ hp)),by omega,by omega,?_⟩
 rw [Int.toNat_natCast]
 refine zc6 (fun i σ H'=>zbt H H'∧(∀ j,j<i→okT sp (sh rs) ts j)∧∃ (ls:List Int) (pr:Int) (x y:Option V),H' co=some (.lst (ls.map V.int))∧ls.Nodup∧(∀ x∈ls,0≤x∧x<m)∧(∀ x,(stT sp (sh rs) ts i).2 x≠none↔x∈ls)∧(sp=false→0<i→pr=(ts.map Th.num).getD (i - 1) 0∧0≤pr∧pr<m)∧σ=[some (.ref nl),some (.str kd),some (.ref pl),some (.ref co),some (.int pr),x,y]) ?_ ?_ ?_
 ·refine ⟨s01,fun j hj=>absurd hj (Nat.not_lt_zero j),if sp=true then [(0:Int)] else [],0,_,_,h1,?_,fun x hx=>?_,fun x=>?_,fun _ z=>absurd z (Nat.lt_irrefl 0),rfl⟩
  ·cases sp <;> simp
  ·cases sp with
   | true=>simp at hx;omega
   | false=>simp at hx
  ·cases sp with
   | true =>
    show ct0 x≠none↔_
    unfold ct0
    by_cases c:x=0 <;> simp [c]
   | false=>simp [stT]
 ·rintro i σ H2 hi ⟨s2,okb,ls,pr,x,y,h2,nd,inR,dom,hpr,rfl⟩
  rw [xl] at hi
  obtain ⟨t,et⟩:∃ t,ts[i]?=some t:=⟨_,List.getElem?_eq_getElem hi⟩
  obtain ⟨v,iv,hv⟩:=P.ix et
  have hv2:=hv.same s2
  have N2:=N.same s2
  have llm:(ls.length:Int)≤m:=by
   have:=zbr ls (ze2 m) nd fun x hx=>zb6.mpr (inR x hx)
   unfold ze2 at this
   rw [List.length_map,List.length_range] at this
   omega
  have bad:¬ okT sp (sh rs) ts i→Q (.int (0+(i:Int))) H2:=fun nok=>by
   rw [Int.zero_add]
   exact q (some i) H2 s2 (.inl ⟨i,rfl,hi,okb,nok⟩)
  simp_all only [zaM,zaQ,zaR,zaN,zaP,zaO,zac]
  refine ⟨_,SqL.of (s2 _ _ hp),v,by rw [Int.zero_add];exact iv,?_⟩
  refine ⟨fun σ H'=>H'=H2∧t.isN=!sp∧σ=[some (.ref nl),some (.str kd),some (.ref pl),some (.ref co),some (.int pr),some (.int (0+(i:Int))),some v],?_,?_⟩
  ·simp_all only [zaM,zaQ,zaR,zaN,zaP,zaO,zac]
   cases t with
   | n b =>
    cases hv2
    refine zcz (.int b) (zey K) ⟨rfl,rfl,zcc (fun z=>bad fun ok=>?_) (fun z=>⟨rfl,?_⟩)⟩
    ·cases sp with
     | true =>
      obtain ⟨x,y,e',_⟩:=ok
      rw [et] at e'
      cases e'
     | false=>exact z (by rw [decide_eq_false fun y=>nomatch k1.mp y])
    ·cases sp with
     | true=>exact absurd (Classical.not_not.mp z) (by rw [decide_eq_true (k1.mpr rfl)];exact fun y=>nomatch y)
     | false=>rfl
   | p x y =>
    obtain ⟨u,rfl,hu⟩:=hv2
    refine zeO hu ⟨rfl,rfl,zcc (fun z=>bad fun ok=>?_) (fun z=>⟨rfl,?_⟩)⟩
    ·cases sp with
     | false =>
      obtain ⟨b,e',_⟩:=ok
      rw [et] at e'
      cases e'
     | true=>exact z (by rw [decide_eq_true (k1.mpr rfl)])
    ·cases sp with
     | false=>exact absurd (Classical.not_not.mp z) (by rw [decide_eq_false fun y=>nomatch k1.mp y];exact fun y=>nomatch y)
     | true=>rfl
  rintro σ H3 ⟨rfl,ht,rfl⟩
  simp_all only [zaM,zaQ,zaR,zaN,zaP,zaO,zac]
  refine ⟨fun σ H'=>H'=H3∧okT sp (sh rs) ts i∧σ=[some (.ref nl),some (.str kd),some (.ref pl),some (.ref co),some (.int t.to),some (.int (0+(i:Int))),some v],?_,?_⟩
  ·simp_all only [zaM,zaQ,zaR,zaN,zaP,zaO,zac]
   refine ⟨rfl,zcc (fun c=>?_) (fun c=>?_)⟩
   ·have sp0:=k2.mp c
    subst sp0
    obtain ⟨b,rfl⟩:∃ b,t=.n b:=by
     cases t with
     | n b=>exact ⟨b,rfl⟩
     | p x y=>cases ht
    cases hv2
    refine ⟨fun σ H'=>H'=H3∧okT false (sh rs) ts i∧σ=[some (.ref nl),some (.str kd),some (.ref pl),some (.ref co),some (.int pr),some (.int (0+(i:Int))),some (.int b)],?_,?_⟩
    ·simp_all only [zaM,zaQ,zaR,zaN,zaP,zaO,zac]
     have iff0:i=0→(okT false (sh rs) ts i↔b=0):=fun z=>by
      constructor
      ·rintro ⟨b',e',h⟩
       rw [et] at e'
       cases e'
       rcases h with ⟨_,h⟩ | ⟨h,_⟩
       ·exact h
       ·omega
      ·exact fun h=>⟨b,et,.inl ⟨z,h⟩⟩
     have iff1:0<i→(okT false (sh rs) ts i↔sh rs pr b≠none):=fun z=>by
      rw [(hpr rfl z).1]
      constructor
      ·rintro ⟨b',e',h⟩
       rw [et] at e'
       cases e'
       rcases h with ⟨h,_⟩ | ⟨_,h⟩
       ·omega
       ·exact h
      ·exact fun h=>⟨b,et,.inr ⟨z,h⟩⟩
     refine zcc (fun c0=>?_) (fun c0=>?_)
     ·have i0:i=0:=by omega
      refine zcc (fun cb=>bad fun ok=>cb ((iff0 i0).mp ok)) (fun cb=>zcc (fun z=>by omega) (fun _=>(iff0 i0).mpr (Classical.not_not.mp cb)))
     ·have i0:0<i:=by omega
      obtain ⟨_,p0,p1⟩:=hpr rfl i0
      obtain ⟨dd,kv,e1,e2,e3⟩:=N2.at p0 p1
      refine zcc (fun _=>⟨_,SqL.of N2.hl,_,e1,_,rfl,_,zfU.k (k:=.inl b) e2,?_⟩) (fun z=>by omega)
      rw [e3.val]
      refine zcc (fun z=>bad fun ok=>?_) (fun z=>(iff1 i0).mpr fun y=>?_)
      ·obtain ⟨l,hl⟩:=Option.ne_none_iff_exists'.mp ((iff1 i0).mp ok)
       rw [hl] at z
       cases z
      ·rw [y] at z
       exact z rfl
    rintro σ H4 ⟨rfl,ok,rfl⟩
    simp_all only [zaM,zaQ,zaR,zaN,zaP,zaO,zac]
    exact ⟨ok,rfl⟩
   ·have sp1:sp=true:=by
     cases sp with
     | true=>rfl
     | false=>exact absurd (k2.mpr rfl) c
    subst sp1
    obtain ⟨x',y',rfl⟩:∃ x' y',t=.p x' y':=by
     cases t with
     | n b=>cases ht
     | p x y=>exact ⟨x,y,rfl⟩
    obtain ⟨u,rfl,hu⟩:=hv2
    refine ⟨fun σ H'=>H'=H3∧okT true (sh rs) ts i∧σ=[some (.ref nl),some (.str kd),some (.ref pl),some (.ref co),some (.int pr),some (.int (0+(i:Int))),some (.ref u)],?_,?_⟩
    ·simp_all only [zaM,zaQ,zaR,zaN,zaP,zaO,zac]
     have iff:okT true (sh rs) ts i↔x'∈ls∧y'∉ls∧sh rs x' y'≠none:=by
      rw [← dom,← dom]
      constructor
      ·rintro ⟨x2,y2,e',h1,h2,h3⟩
       rw [et] at e'
       cases e'
       exact ⟨h1,fun z=>z h2,h3⟩
      ·rintro ⟨h1,h2,h3⟩
       exact ⟨x',y',et,h1,Classical.not_not.mp h2,h3⟩
     refine ⟨_,SqT.of hu,_,rfl,_,.inl (SqL.of h2),rfl,zeu ls,?_⟩
     rw [zhm]
     refine zcc (fun z=>bad fun ok=>absurd (decide_eq_true (iff.mp ok).1) (by rw [z];decide)) (fun z=>?_)
     have c1:x'∈ls:=by simpa using z
     refine ⟨_,SqT.of hu,_,rfl,_,.inl (SqL.of h2),rfl,zeu ls,?_⟩
     rw [zhm]
     refine zcc (fun z=>bad fun ok=>(iff.mp ok).2.1 (of_decide_eq_true z)) (fun z=>?_)
     have c2:y'∉ls:=by simpa using z
     obtain ⟨x0,x1⟩:=inR x' c1
     obtain ⟨dd,kv,e1,e2,e3⟩:=N2.at x0 x1
     refine ⟨_,SqT.of hu,_,rfl,_,SqT.of hu,_,rfl,_,_,rfl,SqL.of N2.hl,_,e1,_,rfl,_,zfU.k (k:=.inl y') e2,?_⟩
     rw [e3.val]
     refine zcc (fun z=>bad fun ok=>?_) (fun z=>iff.mpr ⟨c1,c2,fun y=>?_⟩)
     ·obtain ⟨l,hl⟩:=Option.ne_none_iff_exists'.mp (iff.mp ok).2.2
      rw [hl] at z
      cases z
     ·rw [y] at z
      exact z rfl
    rintro σ H4 ⟨rfl,ok,rfl⟩
    simp_all only [zaM,zaQ,zaR,zaN,zaP,zaO,zac]
    exact ⟨_,SqT.of hu,_,rfl,ok,rfl⟩
  rintro σ H4 ⟨rfl,ok,rfl⟩
  simp_all only [zaM,zaQ,zaR,zaN,zaP,zaO,zac]
  have rb:=zoB G ok et
  have dm:=zps ok et
  have okn:∀ j,j<i+1→okT sp (sh rs) ts j:=fun j hj=>by
   by_cases c:j=i
   ·rw [c];exact ok
   ·exact okb j (by omega)
  have hpr':sp=false→0<i+1→t.to=(ts.map Th.num).getD (i+1 - 1) 0∧0≤t.to∧t.to<m:=fun z _=>by
   subst z
   refine ⟨?_,rb⟩
   cases t with
   | n b=>rw [Nat.add_sub_cancel,zh1 et];rfl
   | p x y=>cases ht
  have big:(1000:Nat)<sizeLine:=by decide
  refine ⟨_,.inl (SqL.of h2),rfl,zeu ls,?_⟩
  rw [zhm]
  refine zcc (fun c=>?_) (fun c=>?_)
  ·have c':t.to∉ls:=of_decide_eq_false c
   refine ⟨.inl ⟨rfl,_,SqL.of h2⟩,_,h2,by rw [List.length_map];omega,s2.put hco0,okn,ls++[t.to],by rw [zae,List.map_append];rfl,?_,fun x hx=>?_,fun x=>?_,_,hpr',rfl⟩
   ·exact List.nodup_append.mpr ⟨nd,by simp,fun a ha b hb e=>c' (by rw [← (show b=t.to by simpa using hb),← e];exact ha)⟩
   ·rcases List.mem_append.mp hx with h | h
    ·exact inR x h
    ·rw [List.mem_singleton.mp h]
     exact rb
   ·rw [dm,dom,List.mem_append,List.mem_singleton]
    exact or_comm
  ·have c':t.to∈ls:=by simpa using c
   refine ⟨s2,okn,ls,h2,nd,inR,fun x=>?_,_,hpr',rfl⟩
   rw [dm,dom]
   exact ⟨fun z=>z.elim (fun e=>e ▸ c') id,.inr⟩
 ·rintro σ H2 ⟨s2,okb,ls,pr,x,y,h2,nd,inR,dom,hpr,rfl⟩
  rw [xl] at okb dom
  simp_all only [zaM,zaQ,zaR,zaN,zaP,zaO,zac]
  refine ⟨fun σ H'=>H'=H2∧m≤(ls.length:Int)∧σ=[some (.ref nl),some (.str kd),some (.ref pl),some (.ref co),some (.int pr),x,y],?_,?_⟩
  ·simp_all only [zaM,zaQ,zaR,zaN,zaP,zaO,zac]
   refine ⟨_,.inl (SqL.of h2),_,.inl (SqL.of (N.same s2).hl),?_⟩
   rw [List.length_map,List.length_map]
   refine zcc (fun z=>⟨_,.inl (SqL.of (s2 _ _ hp)),?_⟩) (fun z=>by omega)
   rw [xl]
   refine q (some ts.length) H2 s2 (.inr ⟨okb,.inl ⟨rfl,fun cov=>?_⟩⟩)
   have:=zbr (ze2 m) ls zfN fun x hx=>(dom x).mp (cov x (zb6.mp hx).1 (zb6.mp hx).2)
   unfold ze2 at this
   rw [List.length_map,List.length_range] at this
   omega
  rintro σ H3 ⟨rfl,hge,rfl⟩
  simp_all only [zaM,zaQ,zaR,zaN,zaP,zaO,zac]
  refine q none H3 s2 (.inr ⟨okb,.inr ⟨rfl,fun x x0 x1=>(dom x).mpr ?_⟩⟩)
  refine Classical.byContradiction fun nx=>?_
  have:=zbr (x::ls) (ze2 m) (List.nodup_cons.mpr ⟨nx,nd⟩) fun y hy=>by
   rcases List.mem_cons.mp hy with rfl | hy
   ·exact zb6.mpr ⟨x0,x1⟩
   ·exact zb6.mpr (inR y hy)
  unfold ze2 at this
  rw [List.length_cons,List.length_map,List.length_range] at this
  omega
theorem zcr:zbk ["_law_near_here","_law_kind","_law_plan","_law_come","_law_prior","_law_k","_law_thing"] ["_law_near_here","_law_kind","_law_plan"] (zaC ze3):=⟨rfl,rfl,rfl,by decide +kernel,rfl,by decide +kernel,by decide +kernel⟩
theorem zj1 (T:Txt K mg a):zdV P w K mg base CX0 1 a.f__law_wrong a.d__law_wrong ["_law_near_here","_law_kind","_law_plan"] zlQ:=by
 refine T.F__law_wrong.ok zcr (fun vs H Q E h=>?_) (fun cdv A outer s H vs Q E hr h=>?_)
 ·obtain ⟨nl,pl,ds,m,rs,sp,xs,ts,rfl,N,G,hp,hP,tl,q⟩:=h
  rfl
 obtain ⟨nl,pl,ds,m,rs,sp,xs,ts,rfl,N,G,hp,hP,tl,q⟩:=h
 exact ⟨zfy K,(zaf (zaB (i:=3) zcr.nd rfl (Or.inl rfl) (zcy zc9 (zcm (zaa zah zag)) zdj (zcV (zgy zoN rfl T.z_int zdZ (zaa (zcq zdE (pv 1) zdX (zaT _)) zag)))))
 (zaf (zaB (i:=4) zcr.nd rfl (Or.inl rfl) zah)
 (zaf (zdg PassesOwn.never rfl (zcD rfl T.z_range (zaa (zai zax rfl T.z_len PySem.boot_len (zaa (pv 2) zag)) zag)) (za0 (i:=5) zcr.nd rfl (Or.inl rfl))
 (zaf (zaB (i:=6) zcr.nd rfl (Or.inl rfl) (zbh zaJ (pv 2) (pv 5) (fun _ _=>rfl)))
 (zaf (zbl (zbA (zaI zfP (zai zaw rfl T.z_isinstance PyProof.Rows.boot_isinstance (zaa (pv 6) (zaa (zbc rfl T.z_tuple zcx rfl) zag))) (zcq zdE (pv 1) zdX (zaT _)) (zaT _)) (zak (zaX (pv 5))) zaE))
 (zaf (zbl (zbA (zaI zdE (pv 1) zdX (zaT _)) (zaf (zbl (zbA (PW.pt (zeZ (PW.pt (zmN (zaI zdE (pv 5) zah (zaT _)) (zjC (zaI zfP (pv 6) zah (zaT _))))) (zeY (PW.pt (zmN (zaI znD (pv 5) zah (zaT _)) (zjC (zi8 (zfb (zcX hr) (pv 6) (zbh zaJ (pv 0) (pv 4) (fun _ _=>rfl)))))))))) (zak (zaX (pv 5))) zaE))
 (zak (zaB (i:=4) zcr.nd rfl (Or.inl rfl) (pv 6)))) (zaf (zbl (zbA (PW.pt (zeZ (zaI zd1 (zbh zcw (pv 6) zah (fun _ _=>rfl)) (pv 3) (by with_unfolding_all rfl)) (zeZ (zaI zhL (zbh zcw (pv 6) zah (fun _ _=>rfl)) (pv 3) (by with_unfolding_all rfl)) (zeY (zi8 (zfb (zcX hr) (zbh zcw (pv 6) zah (fun _ _=>rfl)) (zbh zaJ (pv 0) (zbh zcw (pv 6) zah (fun _ _=>rfl)) (fun _ _=>rfl)))))))) (zak (zaX (pv 5))) zaE))
 (zak (zaB (i:=4) zcr.nd rfl (Or.inl rfl) (zbh zcw (pv 6) zah (fun _ _=>rfl)))))))
 (zak (zbA (zaI zd1 (pv 4) (pv 3) (by with_unfolding_all rfl)) (zak (zdr (zh7 PySem.F.plainAttrs_list PySem.F.slot_list_append PySem.F.type_list_append zdU (pv 3) (zaa (pv 4) zag)))) zaE))))))
 (zaf (zbl (zbA (zaI zl4 (zai zax rfl T.z_len PySem.boot_len (zaa (pv 3) zag)) (zai zax rfl T.z_len PySem.boot_len (zaa (pv 0) zag)) (zaT _)) (zak (zaX (zai zax rfl T.z_len PySem.boot_len (zaa (pv 2) zag)))) zaE))
 (zak (zaX zfr)))))),
  zj2 N G hp hP tl q⟩
theorem zpH (xs:List Int) {i:Int} (i0:0≤i) (i1:i<xs.length):∃ o,atI (xs.map V.int) i=some (.int o):=by
 obtain ⟨k,rfl⟩:∃ k:Nat,i=k:=⟨i.toNat,by omega⟩
 exact ⟨xs[k]'(by omega),zen (by rw [List.getElem?_map,List.getElem?_eq_getElem (by omega)];rfl)⟩
theorem zrC (ns:List Int) (lo hi:Option Int):∃ ms:List Int,zch (ns.map V.int) lo hi=ms.map V.int:=by
 unfold zch
 rw [← List.map_drop,← List.map_take]
 exact ⟨_,rfl⟩
def PlX (H:Hp) (xs:List V):Prop:=∀ v∈xs,∃ t,ThV H v t
theorem PlX.same {H H':Hp} {xs:List V} (h:PlX H xs) (s:zbt H H'):PlX H' xs:=fun v hv=>let ⟨t,ht⟩:=h v hv;⟨t,ht.same s⟩
theorem PlX.app {H:Hp} {xs ys:List V} (h:PlX H xs) (h':PlX H ys):PlX H (xs++ys):=fun v hv=>(List.mem_append.mp hv).elim (h v) (h' v)
theorem PlX.cut {H:Hp} {xs:List V} (h:PlX H xs) (lo hi:Option Int):PlX H (zch xs lo hi):=fun v hv=>h v (List.mem_of_mem_drop (List.mem_of_mem_take hv))
theorem PlX.rev {H:Hp} {xs:List V} (h:PlX H xs):PlX H xs.reverse:=fun v hv=>h v (List.mem_reverse.mp hv)
theorem PlX.one {H:Hp} {v:V} {t:Th} (h:ThV H v t):PlX H [v]:=fun w hw=>⟨t,by rw [List.mem_singleton.mp hw];exact h⟩
theorem PlX.plt {H:Hp}:∀ {xs:List V},PlX H xs→∃ ts,PlT H xs ts
 | [],_=>⟨[],rfl,fun i v t e=>by simp at e⟩
 | x::xs,h=>by
  obtain ⟨t,ht⟩:=h x List.mem_cons_self
  obtain ⟨ts,P⟩:=PlX.plt (xs:=xs) fun v hv=>h v (List.mem_cons_of_mem _ hv)
  refine ⟨t::ts,by rw [List.length_cons,List.length_cons,P.1],fun i v u e1 e2=>?_⟩
  cases i with
  | zero =>
   cases e1
   cases e2
   exact ht
  | succ i=>exact P.2 i v u e1 e2
theorem len5 {l:List Int} (h:l.length=5):∃ a b c d e,l=[a,b,c,d,e]:=by
 match l,h with
 | [a,b,c,d,e],_=>exact ⟨a,b,c,d,e,rfl⟩
theorem zr9 (xs:List V) {i:Int} (i0:0≤i):(zch xs (some (i - 1)) (some i)).length≤1:=by
 unfold zch
 rw [List.length_take]
 show min ((if i<0 then (i+(xs.length:Int)).toNat else min i.toNat xs.length) - (if i - 1<0 then (i - 1+(xs.length:Int)).toNat else min (i - 1).toNat xs.length)) _≤1
 rw [if_neg (by omega)]
 split <;> omega
theorem pow29:znk 10 29:=⟨by decide,by decide,by decide⟩
def zpn (K:PySem.W.Frag):Sp:=fun vs H Q _=>∃ (pl p:Addr) (xs:List V) (ns:List Int) (mm k:Int),vs=[.ref pl,.int mm,.ref p,.int k]∧H pl=some (.lst xs)∧PlX H xs∧xs.length≤50000∧1≤mm∧mm≤60∧SqL K H p (ns.map V.int)∧ns.length≤63∧0≤k∧k≤10000∧∀ (r:Addr) (ys:List V) (H':Hp),zbt H H'→H' r=some (.lst ys)→PlX H' ys→ys.length≤2*xs.length+1→Q (.ref r) H'
def zeL (K:PySem.W.Frag):TS :=
 (zbY (tOp zfn (tSl (zgW K) (zac 0) zbB (zc0 (zac 9))) (tRev K (tSl (zgW K) (zac 0) zbB (zc0 (zac 9))) (zc0 (tUn (rU fun i=>.int (-i)) (tC (.int 1)))))))
theorem za2 (K:PySem.W.Frag) (D:zb8) (σ:St) (H:Hp):zeL K D σ H=(zbY (tOp zfn (tSl (zgW K) (zac 0) zbB (zc0 (zac 9))) (tRev K (tSl (zgW K) (zac 0) zbB (zc0 (zac 9))) (zc0 (tUn (rU fun i=>.int (-i)) (tC (.int 1))))))) D σ H:=rfl
def zeI (K:PySem.W.Frag):TS :=
 (zb7 (zaK (tOp rEq (zac 10) (tC (.int 4)))) (zbY (tOp zfn (tOp zfn (tSl (zgW K) (zac 0) zbB (zc0 (zac 9))) (tSl (zgW K) (zac 0) (zc0 (tOp (rI0 fun i j=>.int (i - j)) (zac 9) (tC (.int 1)))) (zc0 (zac 9)))) (tSl (zgW K) (zac 0) (zc0 (zac 9)) zbB))) zaZ)
theorem za4 (K:PySem.W.Frag) (D:zb8) (σ:St) (H:Hp):zeI K D σ H=(zb7 (zaK (tOp rEq (zac 10) (tC (.int 4)))) (zbY (tOp zfn (tOp zfn (tSl (zgW K) (zac 0) zbB (zc0 (zac 9))) (tSl (zgW K) (zac 0) (zc0 (tOp (rI0 fun i j=>.int (i - j)) (zac 9) (tC (.int 1)))) (zc0 (zac 9)))) (tSl (zgW K) (zac 0) (zc0 (zac 9)) zbB))) zaZ) D σ H:=rfl
def zgL (K:PySem.W.Frag):TS :=
 (zaF (zdk (zb7 (zaK (tOp rEq (zac 10) (tC (.int 3)))) (zbY (tSl (zgW K) (zac 0) zbB (zc0 (zac 9)))) zaZ))
 (zaF (zdk (zeI K))
 (zeL K)))
theorem za5 (K:PySem.W.Frag) (D:zb8) (σ:St) (H:Hp):zgL K D σ H=(zaF (zdk (zb7 (zaK (tOp rEq (zac 10) (tC (.int 3)))) (zbY (tSl (zgW K) (zac 0) zbB (zc0 (zac 9)))) zaZ))
 (zaF (zdk (zeI K))
 (zeL K))) D σ H:=rfl
def zgw (K:PySem.W.Frag):TS :=
 (zb7 (zaK (tOp rEq (zac 10) (tC (.int 2)))) (zbY (tOp zfn (tSl (zgW K) (zac 0) zbB (zc0 (zac 9))) (tSl (zgW K) (zac 0) (zc0 (tOp (rI0 fun i j=>.int (i+j)) (zac 9) (tC (.int 1)))) zbB))) zaZ)
theorem za6 (K:PySem.W.Frag) (D:zb8) (σ:St) (H:Hp):zgw K D σ H=(zb7 (zaK (tOp rEq (zac 10) (tC (.int 2)))) (zbY (tOp zfn (tSl (zgW K) (zac 0) zbB (zc0 (zac 9))) (tSl (zgW K) (zac 0) (zc0 (tOp (rI0 fun i j=>.int (i+j)) (zac 9) (tC (.int 1)))) zbB))) zaZ) D σ H:=rfl
def zgQ (K:PySem.W.Frag):TS :=
 (zb7 (zaK (tOp rEq (zac 10) (tC (.int 1)))) (zbY (tOp zfn (tOp zfn (tSl (zgW K) (zac 0) zbB (zc0 (zac 9))) (zd4 (zab (zac 8) zau))) (tSl (zgW K) (zac 0) (zc0 (tOp (rI0 fun i j=>.int (i+j)) (zac 9) (tC (.int 1)))) zbB))) zaZ)
theorem za1 (K:PySem.W.Frag) (D:zb8) (σ:St) (H:Hp):zgQ K D σ H=(zb7 (zaK (tOp rEq (zac 10) (tC (.int 1)))) (zbY (tOp zfn (tOp zfn (tSl (zgW K) (zac 0) zbB (zc0 (zac 9))) (zd4 (zab (zac 8) zau))) (tSl (zgW K) (zac 0) (zc0 (tOp (rI0 fun i j=>.int (i+j)) (zac 9) (tC (.int 1)))) zbB))) zaZ) D σ H:=rfl
def zgB (K:PySem.W.Frag):TS :=
 (zb7 (zaK (tOp rEq (zac 10) (tC (.int 0)))) (zbY (tOp zfn (tOp zfn (tSl (zgW K) (zac 0) zbB (zc0 (zac 9))) (zd4 (zab (zac 8) zau))) (tSl (zgW K) (zac 0) (zc0 (zac 9)) zbB))) zaZ)
theorem za3 (K:PySem.W.Frag) (D:zb8) (σ:St) (H:Hp):zgB K D σ H=(zb7 (zaK (tOp rEq (zac 10) (tC (.int 0)))) (zbY (tOp zfn (tOp zfn (tSl (zgW K) (zac 0) zbB (zc0 (zac 9))) (zd4 (zab (zac 8) zau))) (tSl (zgW K) (zac 0) (zc0 (zac 9)) zbB))) zaZ) D σ H:=rfl
def zgr (K:PySem.W.Frag):TS :=
 (zaF (zbj (zgh (zer (zab (tC (.int 5)) zau)) (zal 0) zdP (zaY (zbz K) [] E0 (zab (zac 1) (zab (tOp (rI0 fun i j=>.int (i+j)) (zac 2) (zac 0)) zau))) [none,some 2,some 3]) (zal 4))
 (zaF (zbj (tOp (rI (fun _ j=>0<j) fun i j=>.int (i % j)) (tCB (rSum K) (zab (tSl (zgW K) (zac 2) zbB (zc0 (tC (.int 63)))) zau)) (tOp (rI znk fun i j=>.int (i ^ j.toNat)) (tC (.int 10)) (tC (.int 29)))) (zal 5))
 (zaF (zbj (tOp (zcg K) (zd4 (zab (tOp (rI (fun _ j=>0<j) fun i j=>.int (i % j)) (tOp (zcg K) (zac 4) (tC (.int 0))) (tOp (rI0 fun i j=>.int (i+j)) (zac 1) (tC (.int 1)))) (zab (tOp (rI (fun _ j=>0<j) fun i j=>.int (i % j)) (tOp (zcg K) (zac 4) (tC (.int 0))) (zac 1)) (zab (tUn (rU fun i=>.int (-i)) (tC (.int 1))) (zab (tOp (rI0 fun i j=>.int (i+j)) (zac 1) (zac 5)) (zab (tOp (rI0 fun i j=>.int (i - j)) (tUn (rU fun i=>.int (-i)) (tC (.int 1))) (zac 5)) zau)))))) (tOp (rI (fun _ j=>0<j) fun i j=>.int (i % j)) (tOp (zcg K) (zac 4) (tC (.int 1))) (tC (.int 5)))) (zal 6))
 (zaF (zbj (tOp (zcg K) (zd4 (zab (tOp (rI (fun _ j=>0<j) fun i j=>.int (i % j)) (tOp (zcg K) (zac 4) (tC (.int 2))) (tOp (rI0 fun i j=>.int (i+j)) (zac 1) (tC (.int 1)))) (zab (tOp (rI (fun _ j=>0<j) fun i j=>.int (i % j)) (tOp (zcg K) (zac 4) (tC (.int 2))) (zac 1)) zau))) (tOp (rI (fun _ j=>0<j) fun i j=>.int (i % j)) (tOp (rI (fun _ j=>0<j∧j.natAbs.log2<9000) fun i j=>.int (i / j)) (tOp (zcg K) (zac 4) (tC (.int 1))) (tC (.int 5))) (tC (.int 2)))) (zal 7))
 (zaF (zbj (tOp (zcg K) (zd4 (zab (zac 6) (zab (zgq (zab (zac 6) (zab (zac 7) zau))) (zab (zgq (zab (zac 7) (zab (zac 6) zau))) zau)))) (tOp (rI (fun _ j=>0<j) fun i j=>.int (i % j)) (tOp (rI (fun _ j=>0<j∧j.natAbs.log2<9000) fun i j=>.int (i / j)) (tOp (zcg K) (zac 4) (tC (.int 1))) (tC (.int 10))) (tC (.int 3)))) (zal 8))
 (zaF (zbj (tOp (rI (fun _ j=>0<j) fun i j=>.int (i % j)) (tOp (zcg K) (zac 4) (tC (.int 3))) (tOp (rI0 fun i j=>.int (i+j)) (tCB (fun xs H Q=>∃ p ys,xs=[.ref p]∧(SqL K H p ys∨SqT K H p ys)∧Q (.int ys.length) H) (zab (zac 0) zau)) (tC (.int 1)))) (zal 9))
 (zaF (zbj (tOp (rI (fun _ j=>0<j) fun i j=>.int (i % j)) (tOp (zcg K) (zac 4) (tC (.int 4))) (tC (.int 6))) (zal 10))
 (zaF (zdk (zgB K))
 (zaF (zdk (zgQ K))
 (zaF (zdk (zgw K))
 (zgL K)))))))))))
theorem zkK {pl p:Addr} {xs:List V} {ns:List Int} {mm k:Int} (hp:H pl=some (.lst xs)) (P:PlX H xs) (xl:xs.length≤50000) (mm1:1≤mm) (mm60:mm≤60) (hS:SqL K H p (ns.map V.int)) (hl:ns.length≤63) (k0:0≤k) (k1:k≤10000) (q:∀ (r:Addr) (ys:List V) (H':Hp),zbt H H'→H' r=some (.lst ys)→PlX H' ys→ys.length≤2*xs.length+1→Q (.ref r) H') :
  zgr K { nx:=fun _ H'=>Q .non H',rt:=Q } (L2.zce ["_law_plan","_law_many","_law_script","_law_k","_law_draws","_law_far","_law_odd","_law_other","_law_thing","_law_at","_law_way_here"] [.ref pl,.int mm,.ref p,.int k]) H:=by
 unfold zgr
 have big:(1000000:Nat)<sizeLine:=by decide
 simp_all only [za2,za4,za5,za6,za1,za3,zac]
 refine ⟨by decide,by decide,fun D hD=>?_⟩
 refine zeP (fun i ys σ H'=>zbt H H'∧(∃ ds:List Int,ys=ds.map V.int∧ds.length=i∧∀ d∈ds,0≤d)∧∃ x,σ=[x,some (.ref p),some (.int k)]) ⟨zaj hD _,⟨[],rfl,rfl,by simp⟩,_,rfl⟩ ?_ ?_
 ·rintro i ys σ H1 hi hD1 ⟨s1,⟨ds,rfl,dl,dn⟩,x,rfl⟩
  simp_all only [za2,za4,za5,za6,za1,za3,zac]
  refine ⟨p,ns,_,rfl,s1.seq hS,hl,by omega,by omega,fun r r0 r1=>?_⟩
  refine ⟨_,hD1,by rw [List.length_map];have:i<5:=hi;omega,_,zae,s1.put hD,ds++[r],by simp,by simp [dl],fun d hd=>?_⟩
  rcases List.mem_append.mp hd with h | h
  ·exact dn d h
  ·rw [List.mem_singleton.mp h];exact r0
 rintro ys σ H1 hD1 ⟨s1,⟨ds,rfl,dl,dn⟩,x,rfl⟩
 obtain ⟨d0,d1,d2,d3,d4,rfl⟩:=len5 dl
 have hD1:H1 D=some (.lst [V.int d0,V.int d1,V.int d2,V.int d3,V.int d4]):=hD1
 simp_all only [za2,za4,za5,za6,za1,za3,zac]
 obtain ⟨ms,hms⟩:=zrC ns none (some 63)
 refine ⟨_,s1.seq hS,fun sl hsl=>?_⟩
 rw [hms]
 have s2:=zaj hsl (.lst (ms.map V.int))
 have h2:(L2.upd H1 sl (.lst (ms.map V.int))) sl=some (.lst (ms.map V.int)):=zae
 generalize L2.upd H1 sl (.lst (ms.map V.int))=H2 at s2 h2 ⊢
 refine ⟨ms,SqL.of h2,pow29,by decide,_,SqL.of (s2 _ _ hD1),_,rfl,_,rfl,by omega,_,SqL.of (s2 _ _ hD1),_,rfl,_,rfl,by omega,by decide,fun l1 hl1=>?_⟩
 generalize ms.sum % 100000000000000000000000000000=far
 have e0:=Int.emod_nonneg d1 (show (5:Int)≠0 by decide)
 have e1:=Int.emod_lt_of_pos d1 (show (0:Int)<5 by decide)
 obtain ⟨odd,hodd⟩:=zpH [d0 % (mm+1),d0 % mm,-1,mm+far,-1 - far] e0 e1
 have s3:=zaj hl1 (.lst [V.int (d0 % (mm+1)),V.int (d0 % mm),V.int (-1),V.int (mm+far),V.int (-1 - far)])
 have h3:(L2.upd H2 l1 (.lst [V.int (d0 % (mm+1)),V.int (d0 % mm),V.int (-1),V.int (mm+far),V.int (-1 - far)])) l1=some (.lst [V.int (d0 % (mm+1)),V.int (d0 % mm),V.int (-1),V.int (mm+far),V.int (-1 - far)]):=zae
 generalize L2.upd H2 l1 (.lst [V.int (d0 % (mm+1)),V.int (d0 % mm),V.int (-1),V.int (mm+far),V.int (-1 - far)])=H3 at s3 h3 ⊢
 have s13:=s2.trans s3
 refine ⟨_,SqL.of (s13 _ _ hD1),_,rfl,_,rfl,by decide,_,SqL.of h3,_,hodd,?_⟩
 refine ⟨_,SqL.of (s13 _ _ hD1),_,rfl,_,rfl,by omega,_,SqL.of (s13 _ _ hD1),_,rfl,_,rfl,by omega,by decide,fun l2 hl2=>?_⟩
 have f0:=Int.emod_nonneg (d1 / 5) (show (2:Int)≠0 by decide)
 have f1:=Int.emod_lt_of_pos (d1 / 5) (show (0:Int)<2 by decide)
 obtain ⟨oth,hoth⟩:=zpH [d2 % (mm+1),d2 % mm] f0 f1
 have s4:=zaj hl2 (.lst [V.int (d2 % (mm+1)),V.int (d2 % mm)])
 have h4:(L2.upd H3 l2 (.lst [V.int (d2 % (mm+1)),V.int (d2 % mm)])) l2=some (.lst [V.int (d2 % (mm+1)),V.int (d2 % mm)]):=zae
 generalize L2.upd H3 l2 (.lst [V.int (d2 % (mm+1)),V.int (d2 % mm)])=H4 at s4 h4 ⊢
 have s14:=s13.trans s4
 refine ⟨_,SqL.of (s14 _ _ hD1),_,rfl,_,rfl,by decide,by decide,by decide,_,SqL.of h4,_,hoth,?_⟩
 refine ⟨by decide,fun t1 ht1=>?_⟩
 have s5:=zaj ht1 (.tup [V.int odd,V.int oth])
 have h5:(L2.upd H4 t1 (.tup [V.int odd,V.int oth])) t1=some (.tup [V.int odd,V.int oth]):=zae
 generalize L2.upd H4 t1 (.tup [V.int odd,V.int oth])=H5 at s5 h5 ⊢
 refine ⟨by decide,fun t2 ht2=>?_⟩
 have s6:=zaj ht2 (.tup [V.int oth,V.int odd])
 have h6:(L2.upd H5 t2 (.tup [V.int oth,V.int odd])) t2=some (.tup [V.int oth,V.int odd]):=zae
 generalize L2.upd H5 t2 (.tup [V.int oth,V.int odd])=H6 at s6 h6 ⊢
 refine ⟨by decide,fun l3 hl3=>?_⟩
 have g0:=Int.emod_nonneg (d1 / 10) (show (3:Int)≠0 by decide)
 have g1:=Int.emod_lt_of_pos (d1 / 10) (show (0:Int)<3 by decide)
 obtain ⟨v,hv,t,tv⟩:∃ v,atI [V.int odd,V.ref t1,V.ref t2] (d1 / 10 % 3)=some v∧∃ t,ThV H6 v t:=by
  have:d1 / 10 % 3=0∨d1 / 10 % 3=1∨d1 / 10 % 3=2:=by omega
  rcases this with e | e | e <;> rw [e]
  ·exact ⟨_,rfl,.n odd,rfl⟩
  ·exact ⟨_,rfl,.p odd oth,t1,rfl,s6 _ _ h5⟩
  ·exact ⟨_,rfl,.p oth odd,t2,rfl,h6⟩
 have s7:=zaj hl3 (.lst [V.int odd,V.ref t1,V.ref t2])
 have h7:(L2.upd H6 l3 (.lst [V.int odd,V.ref t1,V.ref t2])) l3=some (.lst [V.int odd,V.ref t1,V.ref t2]):=zae
 generalize L2.upd H6 l3 (.lst [V.int odd,V.ref t1,V.ref t2])=H7 at s7 h7 ⊢
 have s17:=((s14.trans s5).trans s6).trans s7
 have s07:=s1.trans s17
 have hD7:=s17 _ _ hD1
 have hp7:=s07 _ _ hp
 refine ⟨_,SqL.of hD7,_,rfl,_,rfl,by decide,by decide,by decide,_,SqL.of h7,_,hv,_,SqL.of hD7,_,rfl,_,.inl (SqL.of hp7),_,rfl,by omega,_,SqL.of hD7,_,rfl,_,rfl,by decide,?_⟩
 have P7:=P.same s07
 have T7:PlX H7 [v]:=.one (tv.same s7)
 have a0:=Int.emod_nonneg d3 (show (xs.length:Int)+1≠0 by omega)
 have a1:=Int.emod_lt_of_pos d3 (show (0:Int)<(xs.length:Int)+1 by omega)
 generalize d3 % ((xs.length:Int)+1)=at_ at a0 a1
 generalize d4 % 6=way
 clear h7 hv h6 h5 h4 h3 h2 hodd hoth hD1 hD7 hms
 have q7:∀ (r:Addr) (ys:List V) (H':Hp),zbt H7 H'→H' r=some (.lst ys)→PlX H' ys→ys.length≤2*xs.length+1→Q (.ref r) H':=fun r ys H' s h P' l=>q r ys H' (s07.trans s) h P' l
 have cl:=fun lo hi=>zhX xs lo hi
 refine ⟨fun σ H'=>H'=H7∧σ=[some (.ref pl),some (.int mm),some (.ref p),some (.int k),some (.ref D),some (.int far),some (.int odd),some (.int oth),some v,some (.int at_),some (.int way)],?_,?_⟩
 ·simp_all only [za2,za4,za5,za6,za1,za3,zac]
  refine zcc (fun _=>?_) (fun _=>by first | trivial | rfl | exact ⟨rfl,rfl⟩)
  refine ⟨_,SqL.of hp7,fun c1 hc1=>?_⟩
  have sa1:=zaj hc1 (.lst (zch xs none (some at_)))
  have ha1:(L2.upd H7 c1 (.lst (zch xs none (some at_)))) c1=some (.lst (zch xs none (some at_))):=zae
  generalize L2.upd H7 c1 (.lst (zch xs none (some at_)))=A1 at sa1 ha1 ⊢
  refine ⟨by decide,fun c2 hc2=>?_⟩
  have sa2:=zaj hc2 (.lst [v])
  have ha2:(L2.upd A1 c2 (.lst [v])) c2=some (.lst [v]):=zae
  generalize L2.upd A1 c2 (.lst [v])=A2 at sa2 ha2 ⊢
  refine ⟨_,sa2 _ _ ha1,_,ha2,by have:=cl none (some at_);simp;omega,fun c3 hc3=>?_⟩
  have sa3:=zaj hc3 (.lst (zch xs none (some at_)++[v]))
  have ha3:(L2.upd A2 c3 (.lst (zch xs none (some at_)++[v]))) c3=some (.lst (zch xs none (some at_)++[v])):=zae
  generalize L2.upd A2 c3 (.lst (zch xs none (some at_)++[v]))=A3 at sa3 ha3 ⊢
  have sb3:=(sa1.trans sa2).trans sa3
  refine ⟨_,SqL.of (sb3 _ _ hp7),fun c4 hc4=>?_⟩
  have sa4:=zaj hc4 (.lst (zch xs (some (at_)) none))
  have ha4:(L2.upd A3 c4 (.lst (zch xs (some (at_)) none))) c4=some (.lst (zch xs (some (at_)) none)):=zae
  generalize L2.upd A3 c4 (.lst (zch xs (some (at_)) none))=A4 at sa4 ha4 ⊢
  refine ⟨_,sa4 _ _ ha3,_,ha4,by have:=cl none (some at_);have:=cl (some (at_)) none;simp;omega,fun c5 hc5=>?_⟩
  have sb5:=(sb3.trans sa4).add hc5 (o:=.lst (zch xs none (some at_)++[v]++zch xs (some (at_)) none))
  exact q7 c5 _ _ sb5 zae ((((P7.cut _ _).app T7).app (P7.cut _ _)).same sb5) (by have:=cl none (some at_);have:=cl (some (at_)) none;simp;omega)
 rintro σ H' ⟨e,rfl⟩
 rw [e]
 clear e
 simp_all only [za2,za4,za5,za6,za1,za3,zac]
 refine ⟨fun σ H'=>H'=H7∧σ=[some (.ref pl),some (.int mm),some (.ref p),some (.int k),some (.ref D),some (.int far),some (.int odd),some (.int oth),some v,some (.int at_),some (.int way)],?_,?_⟩
 ·simp_all only [za2,za4,za5,za6,za1,za3,zac]
  refine zcc (fun _=>?_) (fun _=>by first | trivial | rfl | exact ⟨rfl,rfl⟩)
  refine ⟨_,SqL.of hp7,fun c1 hc1=>?_⟩
  have sa1:=zaj hc1 (.lst (zch xs none (some at_)))
  have ha1:(L2.upd H7 c1 (.lst (zch xs none (some at_)))) c1=some (.lst (zch xs none (some at_))):=zae
  generalize L2.upd H7 c1 (.lst (zch xs none (some at_)))=A1 at sa1 ha1 ⊢
  refine ⟨by decide,fun c2 hc2=>?_⟩
  have sa2:=zaj hc2 (.lst [v])
  have ha2:(L2.upd A1 c2 (.lst [v])) c2=some (.lst [v]):=zae
  generalize L2.upd A1 c2 (.lst [v])=A2 at sa2 ha2 ⊢
  refine ⟨_,sa2 _ _ ha1,_,ha2,by have:=cl none (some at_);simp;omega,fun c3 hc3=>?_⟩
  have sa3:=zaj hc3 (.lst (zch xs none (some at_)++[v]))
  have ha3:(L2.upd A2 c3 (.lst (zch xs none (some at_)++[v]))) c3=some (.lst (zch xs none (some at_)++[v])):=zae
  generalize L2.upd A2 c3 (.lst (zch xs none (some at_)++[v]))=A3 at sa3 ha3 ⊢
  have sb3:=(sa1.trans sa2).trans sa3
  refine ⟨_,SqL.of (sb3 _ _ hp7),fun c4 hc4=>?_⟩
  have sa4:=zaj hc4 (.lst (zch xs (some (at_+1)) none))
  have ha4:(L2.upd A3 c4 (.lst (zch xs (some (at_+1)) none))) c4=some (.lst (zch xs (some (at_+1)) none)):=zae
  generalize L2.upd A3 c4 (.lst (zch xs (some (at_+1)) none))=A4 at sa4 ha4 ⊢
  refine ⟨_,sa4 _ _ ha3,_,ha4,by have:=cl none (some at_);have:=cl (some (at_+1)) none;simp;omega,fun c5 hc5=>?_⟩
  have sb5:=(sb3.trans sa4).add hc5 (o:=.lst (zch xs none (some at_)++[v]++zch xs (some (at_+1)) none))
  exact q7 c5 _ _ sb5 zae ((((P7.cut _ _).app T7).app (P7.cut _ _)).same sb5) (by have:=cl none (some at_);have:=cl (some (at_+1)) none;simp;omega)
 rintro σ H' ⟨e,rfl⟩
 rw [e]
 clear e
 simp_all only [za2,za4,za5,za6,za1,za3,zac]
 refine ⟨fun σ H'=>H'=H7∧σ=[some (.ref pl),some (.int mm),some (.ref p),some (.int k),some (.ref D),some (.int far),some (.int odd),some (.int oth),some v,some (.int at_),some (.int way)],?_,?_⟩
 ·simp_all only [za2,za4,za5,za6,za1,za3,zac]
  refine zcc (fun _=>?_) (fun _=>by first | trivial | rfl | exact ⟨rfl,rfl⟩)
  refine ⟨_,SqL.of hp7,fun c1 hc1=>?_⟩
  have sa1:=zaj hc1 (.lst (zch xs none (some at_)))
  have ha1:(L2.upd H7 c1 (.lst (zch xs none (some at_)))) c1=some (.lst (zch xs none (some at_))):=zae
  generalize L2.upd H7 c1 (.lst (zch xs none (some at_)))=A1 at sa1 ha1 ⊢
  refine ⟨_,SqL.of (sa1 _ _ hp7),fun c4 hc4=>?_⟩
  have sa4:=zaj hc4 (.lst (zch xs (some (at_+1)) none))
  have ha4:(L2.upd A1 c4 (.lst (zch xs (some (at_+1)) none))) c4=some (.lst (zch xs (some (at_+1)) none)):=zae
  generalize L2.upd A1 c4 (.lst (zch xs (some (at_+1)) none))=A4 at sa4 ha4 ⊢
  refine ⟨_,sa4 _ _ ha1,_,ha4,by have:=cl none (some at_);have:=cl (some (at_+1)) none;omega,fun c5 hc5=>?_⟩
  have sb5:=(sa1.trans sa4).add hc5 (o:=.lst (zch xs none (some at_)++zch xs (some (at_+1)) none))
  exact q7 c5 _ _ sb5 zae (((P7.cut _ _).app (P7.cut _ _)).same sb5) (by have:=cl none (some at_);have:=cl (some (at_+1)) none;simp;omega)
 rintro σ H' ⟨e,rfl⟩
 rw [e]
 clear e
 simp_all only [za2,za4,za5,za6,za1,za3,zac]
 refine ⟨fun σ H'=>H'=H7∧σ=[some (.ref pl),some (.int mm),some (.ref p),some (.int k),some (.ref D),some (.int far),some (.int odd),some (.int oth),some v,some (.int at_),some (.int way)],?_,?_⟩
 ·simp_all only [za2,za4,za5,za6,za1,za3,zac]
  refine zcc (fun _=>?_) (fun _=>by first | trivial | rfl | exact ⟨rfl,rfl⟩)
  refine ⟨_,SqL.of hp7,fun c1 hc1=>?_⟩
  have sb1:=(zbt.refl H7).add hc1 (o:=.lst (zch xs none (some at_)))
  exact q7 c1 _ _ sb1 zae ((P7.cut _ _).same sb1) (by have:=cl none (some at_);omega)
 rintro σ H' ⟨e,rfl⟩
 rw [e]
 clear e
 simp_all only [za2,za4,za5,za6,za1,za3,zac]
 refine ⟨fun σ H'=>H'=H7∧σ=[some (.ref pl),some (.int mm),some (.ref p),some (.int k),some (.ref D),some (.int far),some (.int odd),some (.int oth),some v,some (.int at_),some (.int way)],?_,?_⟩
 ·simp_all only [za2,za4,za5,za6,za1,za3,zac]
  refine zcc (fun _=>?_) (fun _=>by first | trivial | rfl | exact ⟨rfl,rfl⟩)
  refine ⟨_,SqL.of hp7,fun c1 hc1=>?_⟩
  have sa1:=zaj hc1 (.lst (zch xs none (some at_)))
  have ha1:(L2.upd H7 c1 (.lst (zch xs none (some at_)))) c1=some (.lst (zch xs none (some at_))):=zae
  generalize L2.upd H7 c1 (.lst (zch xs none (some at_)))=A1 at sa1 ha1 ⊢
  refine ⟨_,SqL.of (sa1 _ _ hp7),fun c2 hc2=>?_⟩
  have sa2:=zaj hc2 (.lst (zch xs (some (at_ - 1)) (some at_)))
  have ha2:(L2.upd A1 c2 (.lst (zch xs (some (at_ - 1)) (some at_)))) c2=some (.lst (zch xs (some (at_ - 1)) (some at_))):=zae
  generalize L2.upd A1 c2 (.lst (zch xs (some (at_ - 1)) (some at_)))=A2 at sa2 ha2 ⊢
  refine ⟨_,sa2 _ _ ha1,_,ha2,by have:=cl none (some at_);have:=cl (some (at_ - 1)) (some at_);omega,fun c3 hc3=>?_⟩
  have sa3:=zaj hc3 (.lst (zch xs none (some at_)++zch xs (some (at_ - 1)) (some at_)))
  have ha3:(L2.upd A2 c3 (.lst (zch xs none (some at_)++zch xs (some (at_ - 1)) (some at_)))) c3=some (.lst (zch xs none (some at_)++zch xs (some (at_ - 1)) (some at_))):=zae
  generalize L2.upd A2 c3 (.lst (zch xs none (some at_)++zch xs (some (at_ - 1)) (some at_)))=A3 at sa3 ha3 ⊢
  have sb3:=(sa1.trans sa2).trans sa3
  refine ⟨_,SqL.of (sb3 _ _ hp7),fun c4 hc4=>?_⟩
  have sa4:=zaj hc4 (.lst (zch xs (some at_) none))
  have ha4:(L2.upd A3 c4 (.lst (zch xs (some at_) none))) c4=some (.lst (zch xs (some at_) none)):=zae
  generalize L2.upd A3 c4 (.lst (zch xs (some at_) none))=A4 at sa4 ha4 ⊢
  refine ⟨_,sa4 _ _ ha3,_,ha4,by have:=cl none (some at_);have:=cl (some (at_ - 1)) (some at_);have:=cl (some at_) none;simp;omega,fun c5 hc5=>?_⟩
  have sb5:=(sb3.trans sa4).add hc5 (o:=.lst (zch xs none (some at_)++zch xs (some (at_ - 1)) (some at_)++zch xs (some at_) none))
  have one:=zr9 xs a0
  exact q7 c5 _ _ sb5 zae ((((P7.cut _ _).app (P7.cut _ _)).app (P7.cut _ _)).same sb5) (by have:=cl none (some at_);have:=cl (some at_) none;simp;omega)
 rintro σ H' ⟨e,rfl⟩
 rw [e]
 clear e
 simp_all only [za2,za4,za5,za6,za1,za3,zac]
 refine ⟨_,SqL.of hp7,fun c1 hc1=>?_⟩
 have sa1:=zaj hc1 (.lst (zch xs none (some at_)))
 have ha1:(L2.upd H7 c1 (.lst (zch xs none (some at_)))) c1=some (.lst (zch xs none (some at_))):=zae
 generalize L2.upd H7 c1 (.lst (zch xs none (some at_)))=A1 at sa1 ha1 ⊢
 refine ⟨_,SqL.of (sa1 _ _ hp7),fun c2 hc2=>?_⟩
 have sa2:=zaj hc2 (.lst (zch xs none (some at_)))
 have ha2:(L2.upd A1 c2 (.lst (zch xs none (some at_)))) c2=some (.lst (zch xs none (some at_))):=zae
 generalize L2.upd A1 c2 (.lst (zch xs none (some at_)))=A2 at sa2 ha2 ⊢
 refine ⟨_,SqL.of ha2,fun c3 hc3=>?_⟩
 have sa3:=zaj hc3 (.lst (zch xs none (some at_)).reverse)
 have ha3:(L2.upd A2 c3 (.lst (zch xs none (some at_)).reverse)) c3=some (.lst (zch xs none (some at_)).reverse):=zae
 generalize L2.upd A2 c3 (.lst (zch xs none (some at_)).reverse)=A3 at sa3 ha3 ⊢
 refine ⟨_,(sa2.trans sa3) _ _ ha1,_,ha3,by have:=cl none (some at_);simp;omega,fun c5 hc5=>?_⟩
 have sb5:=((sa1.trans sa2).trans sa3).add hc5 (o:=.lst (zch xs none (some at_)++(zch xs none (some at_)).reverse))
 exact q7 c5 _ _ sb5 zae (((P7.cut _ _).app (P7.cut _ _).rev).same sb5) (by have:=cl none (some at_);simp;omega)
theorem zcl:zbk ["_law_plan","_law_many","_law_script","_law_k","_law_draws","_law_far","_law_odd","_law_other","_law_thing","_law_at","_law_way_here"] ["_law_plan","_law_many","_law_script","_law_k"] (zaC zex):=⟨rfl,rfl,rfl,by decide +kernel,rfl,by decide +kernel,by decide +kernel⟩
theorem zkX (T:Txt K mg a):zdV P w K mg base CX0 2 a.f__law_bent a.d__law_bent ["_law_plan","_law_many","_law_script","_law_k"] (zpn K):=by
 have G__law_mixed:=zde (P:=P) (w:=w) (base:=base) T
 refine T.F__law_bent.ok zcl (fun vs H Q E h=>?_) (fun cdv A outer s H vs Q E hr h=>?_)
 ·obtain ⟨pl,p,xs,ns,mm,k,rfl,hp,hP,xl,mm1,mm60,hS,hl,k0,k1,q⟩:=h
  rfl
 obtain ⟨pl,p,xs,ns,mm,k,rfl,hp,hP,xl,mm1,mm60,hS,hl,k0,k1,q⟩:=h
 exact ⟨zgr K,(zaf (zg0 (i:=4) zcl.nd rfl rfl (sc:=zaC zex) (N:=["_law_plan","_law_many","_law_script","_law_k","_law_draws","_law_far","_law_odd","_law_other","_law_thing","_law_at","_law_way_here"]) (Nc:=["_law_j","_law_script","_law_k"]) (cap:=[none,some 2,some 3]) rfl rfl rfl (.of (by decide +kernel)) (zcD rfl T.z_range (zaa zah zag)) (fun _ _ _ _=>(za0 (i:=0) (show List.Nodup (["_law_j","_law_script","_law_k"]:List Str) from by decide) rfl (Or.inl rfl))) (fun _ _ _ _=>zir) (fun _ _ _ _=>(zaG G__law_mixed (hr.mono (by decide)) rfl T.m__law_mixed T.F__law_mixed.kp T.b__law_mixed .nil zbJ (zaa (pv 1) (zaa (zaz zbG (pv 2) (pv 0)) zag)))))
 (zaf (zaB (i:=5) zcl.nd rfl (Or.inl rfl) (zaz zbs (zai (zqi rfl) rfl T.z_sum PyProof.Rows.boot_sum (zaa (zcy zc9 (pv 2) zdj (zcV zah)) zag)) (zaz zi7 zah zah)))
 (zaf (zaB (i:=6) zcl.nd rfl (Or.inl rfl) (zbh zaJ (zcm (zaa (zaz zbs (zbh zaJ (pv 4) zah (fun _ _=>rfl)) (zaz zbG (pv 1) zah)) (zaa (zaz zbs (zbh zaJ (pv 4) zah (fun _ _=>rfl)) (pv 1)) (zaa (zmp zit zah) (zaa (zaz zbG (pv 1) (pv 5)) (zaa (zaz zgt (zmp zit zah) (pv 5)) zag)))))) (zaz zbs (zbh zaJ (pv 4) zah (fun _ _=>rfl)) zah) (fun _ _=>rfl)))
 (zaf (zaB (i:=7) zcl.nd rfl (Or.inl rfl) (zbh zaJ (zcm (zaa (zaz zbs (zbh zaJ (pv 4) zah (fun _ _=>rfl)) (zaz zbG (pv 1) zah)) (zaa (zaz zbs (zbh zaJ (pv 4) zah (fun _ _=>rfl)) (pv 1)) zag))) (zaz zbs (zaz zcA (zbh zaJ (pv 4) zah (fun _ _=>rfl)) zah) zah) (fun _ _=>rfl)))
 (zaf (zaB (i:=8) zcl.nd rfl (Or.inl rfl) (zbh zaJ (zcm (zaa (pv 6) (zaa (zdB (zaa (pv 6) (zaa (pv 7) zag))) (zaa (zdB (zaa (pv 7) (zaa (pv 6) zag))) zag)))) (zaz zbs (zaz zcA (zbh zaJ (pv 4) zah (fun _ _=>rfl)) zah) zah) (fun _ _=>rfl)))
 (zaf (zaB (i:=9) zcl.nd rfl (Or.inl rfl) (zaz zbs (zbh zaJ (pv 4) zah (fun _ _=>rfl)) (zaz zbG (zai zax rfl T.z_len PySem.boot_len (zaa (pv 0) zag)) zah)))
 (zaf (zaB (i:=10) zcl.nd rfl (Or.inl rfl) (zaz zbs (zbh zaJ (pv 4) zah (fun _ _=>rfl)) zah))
 (zaf (zbl (zbA (zaI zdE (pv 10) zah (zaT _)) (zak (zaX (zaz zdA (zaz zdA (zcy zc9 (pv 0) zdj (zcV (pv 9))) (zcm (zaa (pv 8) zag))) (zcy zc9 (pv 0) (zcV (pv 9)) zdj)))) zaE))
 (zaf (zbl (zbA (zaI zdE (pv 10) zah (zaT _)) (zak (zaX (zaz zdA (zaz zdA (zcy zc9 (pv 0) zdj (zcV (pv 9))) (zcm (zaa (pv 8) zag))) (zcy zc9 (pv 0) (zcV (zaz zbG (pv 9) zah)) zdj)))) zaE))
 (zaf (zbl (zbA (zaI zdE (pv 10) zah (zaT _)) (zak (zaX (zaz zdA (zcy zc9 (pv 0) zdj (zcV (pv 9))) (zcy zc9 (pv 0) (zcV (zaz zbG (pv 9) zah)) zdj)))) zaE))
 (zaf (zbl (zbA (zaI zdE (pv 10) zah (zaT _)) (zak (zaX (zcy zc9 (pv 0) zdj (zcV (pv 9))))) zaE))
 (zaf (zbl (zbA (zaI zdE (pv 10) zah (zaT _)) (zak (zaX (zaz zdA (zaz zdA (zcy zc9 (pv 0) zdj (zcV (pv 9))) (zcy zc9 (pv 0) (zcV (zaz zgt (pv 9) zah)) (zcV (pv 9)))) (zcy zc9 (pv 0) (zcV (pv 9)) zdj)))) zaE))
 (zak (zaX (zaz zdA (zcy zc9 (pv 0) zdj (zcV (pv 9))) (zty (zcy zc9 (pv 0) zdj (zcV (pv 9))) (zcV (zmp zit zah)))))))))))))))))),
  zkK hp hP xl mm1 mm60 hS hl k0 k1 q⟩
def Th.tr:Th→Tr
 | .n i=>.int i
 | .p x y=>.tup [.int x,.int y]
theorem PlT.shows {xs:List V} {ts:List Th} {p:Addr} (P:PlT H xs ts) (h:H p=some (.lst xs)):zef K H (2+1) (.lst (ts.map Th.tr)) (.ref p):=by
 refine .lst (SqL.of h) (by rw [List.length_map,P.1]) fun i v u e1 e2=>?_
 obtain ⟨t,et,rfl⟩:=zeW e2
 have hv:=P.2 i v t e1 et
 cases t with
 | n i =>
  cases hv
  exact .int _
 | p x y =>
  obtain ⟨u,rfl,hu⟩:=hv
  refine .tup (SqT.of hu) rfl fun i x t e1 e2=>?_
  match i,e1,e2 with
  | 0,e1,e2 =>
   cases e1
   cases e2
   exact .int _
  | 1,e1,e2 =>
   cases e1
   cases e2
   exact .int _
def zhT (a:Ad):Sp:=fun vs H Q _=>∃ (w rl pl:Addr) (us:List Addr) (rs:List zcb) (m:Int) (kd:Str) (xs:List V) (ts:List Th),vs=[.ref w,.str kd,.ref pl]∧zmf H w rl us m rs∧GW m rs∧H pl=some (.lst xs)∧PlT H xs ts∧ts.length≤100000 ∧
 ((kd∈zrd∧∀ (r x:Addr) (H':Hp),zbt H H'→H' r=some (.tup [.non,.ref x])→H' x=some (zdx x (.ref a.c_NoKind) none)→Q (.ref r) H') ∨
   ∃ sp:Bool,kd=(kdS sp)∧(∀ k,zjn sp (sh rs) m ts (some k)→∀ (r x dx:Addr) (H':Hp),zbt H H'→H' r=some (.tup [.non,.ref x])→H' x=some (zdx x (.ref a.c_NoPlan) (some dx))→H' dx=some (.xd [("at",.int (k:Int))])→Q (.ref r) H') ∧
  (zjn sp (sh rs) m ts none→∀ (r l:Addr) (H':Hp),zbt H H'→H' r=some (.tup [.ref l,.non])→H' l=some (.lst ((zj4 m (stT sp (sh rs) ts ts.length).2).map V.int))→Q (.ref r) H'))
def zfo (K:PySem.W.Frag) (a:Ad):TS :=
 (zaF (zbj (tC .non) (zal 3))
 (zaF (zbj (tC .non) (zal 4))
 (zaF (zsO K (fun E'=>(zbj (zow (zjc a) [] E' (zab (zac 0) (zab (zac 1) (zab (zac 2) zau)))) (zal 4))) (.ref a.c_HideError) 5
 (zbj (zac 5) (zal 3)))
 (zbY (zgq (zab (zac 4) (zab (zac 3) zau)))))))
theorem zkc {w rl pl:Addr} {us:List Addr} {rs:List zcb} {m:Int} {kd:Str} {xs:List V} {ts:List Th} (I:Isa K a) (I2:Isa2 K a) (W:zmf H w rl us m rs) (G:GW m rs) (hp:H pl=some (.lst xs)) (P:PlT H xs ts) (tl:ts.length≤100000)
  (h:(kd∈zrd∧∀ (r x:Addr) (H':Hp),zbt H H'→H' r=some (.tup [.non,.ref x])→H' x=some (zdx x (.ref a.c_NoKind) none)→Q (.ref r) H') ∨
   ∃ sp:Bool,kd=(kdS sp)∧(∀ k,zjn sp (sh rs) m ts (some k)→∀ (r x dx:Addr) (H':Hp),zbt H H'→H' r=some (.tup [.non,.ref x])→H' x=some (zdx x (.ref a.c_NoPlan) (some dx))→H' dx=some (.xd [("at",.int (k:Int))])→Q (.ref r) H') ∧
  (zjn sp (sh rs) m ts none→∀ (r l:Addr) (H':Hp),zbt H H'→H' r=some (.tup [.ref l,.non])→H' l=some (.lst ((zj4 m (stT sp (sh rs) ts ts.length).2).map V.int))→Q (.ref r) H')) :
  zfo K a { nx:=fun _ H'=>Q .non H',rt:=Q } (L2.zce ["_law_web_here","_law_kind","_law_plan","_law_caught","_law_told","e"] [.ref w,.str kd,.ref pl]) H:=by
 unfold zfo
 simp_all only [zac]
 refine ⟨w,rl,pl,us,rs,m,kd,xs,ts,rfl,W,G,hp,P,tl,?_⟩
 rcases h with ⟨ho,e⟩ | ⟨sp,rfl,bad,q⟩
 ·refine .inl ⟨ho,fun H1 s1=>⟨I2.ec,I2.sub,fun x nx=>?_⟩⟩
  have s2:=zaj nx (zdx x (.ref a.c_NoKind) none)
  have h2:(L2.upd H1 x (zdx x (.ref a.c_NoKind) none)) x=some (zdx x (.ref a.c_NoKind) none):=zae
  generalize L2.upd H1 x (zdx x (.ref a.c_NoKind) none)=H2 at s2 h2 ⊢
  refine ⟨by decide,fun r nr=>e r x _ ((s1.trans s2).add nr) zae (by rw [zaL (zaA h2 nr)];exact h2)⟩
 ·refine .inr ⟨sp,rfl,fun k hk H1 dx s1 ndx=>⟨I.ec,I.sub,fun x nx=>?_⟩,fun hd l H1 s1 h1=>?_⟩
  ·have s2:=s1.add ndx (o:=.xd [("at",.int (k:Int))])
   have hdx:(L2.upd H1 dx (.xd [("at",.int (k:Int))])) dx=some (.xd [("at",.int (k:Int))]):=zae
   generalize L2.upd H1 dx (.xd [("at",.int (k:Int))])=H2 at s2 hdx nx ⊢
   have s3:=zaj nx (zdx x (.ref a.c_NoPlan) (some dx))
   have h3:(L2.upd H2 x (zdx x (.ref a.c_NoPlan) (some dx))) x=some (zdx x (.ref a.c_NoPlan) (some dx)):=zae
   generalize L2.upd H2 x (zdx x (.ref a.c_NoPlan) (some dx))=H3 at s3 h3 ⊢
   refine ⟨by decide,fun r nr=>bad k hk r x dx _ ((s2.trans s3).add nr) zae (by rw [zaL (zaA h3 nr)];exact h3) ?_⟩
   have:=s3 _ _ hdx
   rw [zaL (zaA this nr)]
   exact this
  ·exact ⟨by decide,fun r nr=>q hd r l _ (s1.add nr) zae (by rw [zaL (zaA h1 nr)];exact h1)⟩
theorem zcU:zbk ["_law_web_here","_law_kind","_law_plan","_law_caught","_law_told","e"] ["_law_web_here","_law_kind","_law_plan"] (zaC zfA):=⟨rfl,rfl,rfl,by decide +kernel,rfl,by decide +kernel,by decide +kernel⟩
theorem zjv (T:Txt K mg a):zdV P w K mg base CX0 6 a.f__law_asked a.d__law_asked ["_law_web_here","_law_kind","_law_plan"] (zhT a):=by
 have G_costs_of:=zlO (P:=P) (w:=w) (base:=base) T
 refine T.F__law_asked.ok zcU (fun vs H Q E h=>?_) (fun cdv A outer s H vs Q E hr h=>?_)
 ·obtain ⟨w',rl,pl,us,rs,m,kd,xs,ts,rfl,W,G,hp,hP,tl,h⟩:=h
  rfl
 obtain ⟨w',rl,pl,us,rs,m,kd,xs,ts,rfl,W,G,hp,hP,tl,h⟩:=h
 exact ⟨zfo K a,(zaf (zaB (i:=3) zcU.nd rfl (Or.inl rfl) zfr)
 (zaf (zaB (i:=4) zcU.nd rfl (Or.inl rfl) zfr)
 (zaf (zs2 (i:=5) T.m_HideError T.x_HideError rfl zcU.nd rfl rfl rfl rfl rfl rfl (fun pins E'=>(zak (zaB (i:=4) zcU.nd rfl (Or.inl rfl) (zrs G_costs_of (hr.mono (by decide)) rfl T.m_costs_of T.F_costs_of.kp T.b_costs_of .nil ztE (zaa (pv 0) (zaa (pv 1) (zaa (pv 2) zag)))))))
 (fun ea=>(zak (zaB (i:=3) zcU.nd rfl (Or.inl rfl) (pv 5)))))
 (zak (zaX (zdB (zaa (pv 4) (zaa (pv 3) zag)))))))),
  zkc T.I T.I2 W G hp hP tl h⟩
def zmD (K:PySem.W.Frag) (a:Ad):TS :=
 (zbY (zcW (tOp rEq (zaY (zh0 a) [] E0 (zab (zac 9) zau)) (tC (.int 1))) (zcW (zaY zdO [] E0 (zab (znp K (zac 9) "at") zau)) (tOp rEq (znp K (zac 9) "at") (zac 10)))))
theorem zbL (K:PySem.W.Frag) (a:Ad) (D:zb8) (σ:St) (H:Hp):zmD K a D σ H=(zbY (zcW (tOp rEq (zaY (zh0 a) [] E0 (zab (zac 9) zau)) (tC (.int 1))) (zcW (zaY zdO [] E0 (zab (znp K (zac 9) "at") zau)) (tOp rEq (znp K (zac 9) "at") (zac 10))))) D σ H:=rfl
def zlT:TS :=
 (zb7 (zaK (tOp (fun x y H Q=>y=.non∧Q (.bl (decide (x=.non))) H) (zac 10) (tC .non))) (zbY (zcW (tOp (fun x y H Q=>y=.non∧Q (.bl (decide (x=.non))) H) (zac 9) (tC .non)) (zaY (zkW 1) [] E0 (zab (zac 8) (zab (zaY zml [] E0 (zab (zac 2) (zab (zac 3) (zab (zac 4) zau)))) zau))))) zaZ)
theorem zbO (D:zb8) (σ:St) (H:Hp):zlT D σ H=(zb7 (zaK (tOp (fun x y H Q=>y=.non∧Q (.bl (decide (x=.non))) H) (zac 10) (tC .non))) (zbY (zcW (tOp (fun x y H Q=>y=.non∧Q (.bl (decide (x=.non))) H) (zac 9) (tC .non)) (zaY (zkW 1) [] E0 (zab (zac 8) (zab (zaY zml [] E0 (zab (zac 2) (zab (zac 3) (zab (zac 4) zau)))) zau))))) zaZ) D σ H:=rfl
def zlX (K:PySem.W.Frag) (a:Ad):TS :=
 (zaF (zbj (zaY zlQ [] E0 (zab (zac 2) (zab (zac 3) (zab (zac 4) zau)))) (zal 10))
 (zaF (zbj (zaY (zhT a) [] E0 (zab (zac 1) (zab (zac 3) (zab (zac 6) zau)))) (ziz K 2 (zbW (zal 8) (zbW (zal 9) ziy))))
 (zaF (zdk (zb7 (zaK (tOp (rNeD K) (zac 6) (zac 4))) (zbY (tC (.bl false))) zaZ))
 (zaF (zdk (zlT))
 (zmD K a)))))
theorem zbS (K:PySem.W.Frag) (a:Ad) (D:zb8) (σ:St) (H:Hp):zlX K a D σ H=(zaF (zbj (zaY zlQ [] E0 (zab (zac 2) (zab (zac 3) (zab (zac 4) zau)))) (zal 10))
 (zaF (zbj (zaY (zhT a) [] E0 (zab (zac 1) (zab (zac 3) (zab (zac 6) zau)))) (ziz K 2 (zbW (zal 8) (zbW (zal 9) ziy))))
 (zaF (zdk (zb7 (zaK (tOp (rNeD K) (zac 6) (zac 4))) (zbY (tC (.bl false))) zaZ))
 (zaF (zdk (zlT))
 (zmD K a))))) D σ H:=rfl
def zlM (K:PySem.W.Frag) (a:Ad):TS :=
 (zb7 (zaK (tOp rEq (tOp (rI (fun _ j=>0<j) fun i j=>.int (i % j)) (zaY (zbz K) [] E0 (zab (zac 0) (zab (tC (.int 292)) zau))) (tC (.int 8))) (tC (.int 1)))) (zaF (zbj (tOp (zcg K) (zd4 (zab (tC (.str "")) (zab (tC (.str "walks")) (zab (tC (.str "spread ")) (zab (tC (.str "Walk")) (zab (tC (.str "wal")) (zab (tC (.str "0")) zau))))))) (tOp (rI (fun _ j=>0<j) fun i j=>.int (i % j)) (tOp (rI (fun _ j=>0<j∧j.natAbs.log2<9000) fun i j=>.int (i / j)) (zaY (zbz K) [] E0 (zab (zac 0) (zab (tC (.int 292)) zau))) (tC (.int 8))) (tC (.int 6)))) (zal 7))
 (zaF (zbj (zaY (zhT a) [] E0 (zab (zac 1) (zab (zac 7) (zab (zac 6) zau)))) (ziz K 2 (zbW (zal 8) (zbW (zal 9) ziy))))
 (zbY (zcW (tOp rEq (zaY (zh0 a) [] E0 (zab (zac 9) zau)) (tC (.int 3))) (tOp (rEqD K) (zac 6) (zac 4)))))) zaZ)
theorem zbP (K:PySem.W.Frag) (a:Ad) (D:zb8) (σ:St) (H:Hp):zlM K a D σ H=(zb7 (zaK (tOp rEq (tOp (rI (fun _ j=>0<j) fun i j=>.int (i % j)) (zaY (zbz K) [] E0 (zab (zac 0) (zab (tC (.int 292)) zau))) (tC (.int 8))) (tC (.int 1)))) (zaF (zbj (tOp (zcg K) (zd4 (zab (tC (.str "")) (zab (tC (.str "walks")) (zab (tC (.str "spread ")) (zab (tC (.str "Walk")) (zab (tC (.str "wal")) (zab (tC (.str "0")) zau))))))) (tOp (rI (fun _ j=>0<j) fun i j=>.int (i % j)) (tOp (rI (fun _ j=>0<j∧j.natAbs.log2<9000) fun i j=>.int (i / j)) (zaY (zbz K) [] E0 (zab (zac 0) (zab (tC (.int 292)) zau))) (tC (.int 8))) (tC (.int 6)))) (zal 7))
 (zaF (zbj (zaY (zhT a) [] E0 (zab (zac 1) (zab (zac 7) (zab (zac 6) zau)))) (ziz K 2 (zbW (zal 8) (zbW (zal 9) ziy))))
 (zbY (zcW (tOp rEq (zaY (zh0 a) [] E0 (zab (zac 9) zau)) (tC (.int 3))) (tOp (rEqD K) (zac 6) (zac 4)))))) zaZ) D σ H:=rfl
def zme (K:PySem.W.Frag):TS :=
 (zbj (zaY (zpn K) [] E0 (zab (zac 4) (zab (tOp (zdz K) (zac 1) (tC (.int 0))) (zab (zac 0) (zab (tOp (rI0 fun i j=>.int (i+j)) (tC (.int 320)) (tOp (rI IntMulOk fun i j=>.int (i*j)) (tC (.int 5)) (zac 5))) zau))))) (zal 4))
theorem zbM (K:PySem.W.Frag) (D:zb8) (σ:St) (H:Hp):zme K D σ H=(zbj (zaY (zpn K) [] E0 (zab (zac 4) (zab (tOp (zdz K) (zac 1) (tC (.int 0))) (zab (zac 0) (zab (tOp (rI0 fun i j=>.int (i+j)) (tC (.int 320)) (tOp (rI IntMulOk fun i j=>.int (i*j)) (tC (.int 5)) (zac 5))) zau))))) (zal 4)) D σ H:=rfl
def zmn (K:PySem.W.Frag) (a:Ad):TS :=
 (zaF (zbj (tCB (fun xs H Q=>∃ p ys,xs=[.ref p]∧(SqL K H p ys∨SqT K H p ys)∧∀ l,H l=none→Q (.ref l) (upd H l (.lst ys))) (zab (zac 4) zau)) (zal 6))
 (zaF (zdk (zlM K a))
 (zlX K a)))
theorem zbT (K:PySem.W.Frag) (a:Ad) (D:zb8) (σ:St) (H:Hp):zmn K a D σ H=(zaF (zbj (tCB (fun xs H Q=>∃ p ys,xs=[.ref p]∧(SqL K H p ys∨SqT K H p ys)∧∀ l,H l=none→Q (.ref l) (upd H l (.lst ys))) (zab (zac 4) zau)) (zal 6))
 (zaF (zdk (zlM K a))
 (zlX K a))) D σ H:=rfl
def zou (K:PySem.W.Frag) (a:Ad):TS :=
 (zaF (zgX (zer (zab (tOp (rI0 fun i j=>.int (i+j)) (tC (.int 1)) (tOp (rI (fun _ j=>0<j) fun i j=>.int (i % j)) (zaY (zbz K) [] E0 (zab (zac 0) (zab (tC (.int 291)) zau))) (tC (.int 3)))) zau)) (zal 5)
 (zme K))
 (zmn K a))
theorem zbN (K:PySem.W.Frag) (a:Ad) (D:zb8) (σ:St) (H:Hp):zou K a D σ H=(zaF (zgX (zer (zab (tOp (rI0 fun i j=>.int (i+j)) (tC (.int 1)) (tOp (rI (fun _ j=>0<j) fun i j=>.int (i % j)) (zaY (zbz K) [] E0 (zab (zac 0) (zab (tC (.int 291)) zau))) (tC (.int 3)))) zau)) (zal 5)
 (zme K))
 (zmn K a)) D σ H:=rfl
def zoz (K:PySem.W.Frag):TS :=
 (zb7 (zaK (tOp rEq (zac 3) (tC (.str "walk")))) (zbj (zaY (zo9 K) [] E0 (zab (zac 0) (zab (tC (.int 300)) (zab (zac 2) zau)))) (zal 4)) zaZ)
theorem zbQ (K:PySem.W.Frag) (D:zb8) (σ:St) (H:Hp):zoz K D σ H=(zb7 (zaK (tOp rEq (zac 3) (tC (.str "walk")))) (zbj (zaY (zo9 K) [] E0 (zab (zac 0) (zab (tC (.int 300)) (zab (zac 2) zau)))) (zal 4)) zaZ) D σ H:=rfl
def zsm (K:PySem.W.Frag) (a:Ad):TS :=
 (zaF (zbj (zaY (ztr K) [] E0 (zab (zac 0) (zab (tC (.int 0)) (zab (tC (.int 8)) (zab (tC (.int 6)) zau))))) (zal 1))
 (zaF (zbj (zaY zrO [] E0 (zab (zac 1) zau)) (zal 2))
 (zaF (zbj (tOp (zcg K) (zd4 (zab (tC (.str "walk")) (zab (tC (.str "spread")) zau))) (tOp (rI (fun _ j=>0<j) fun i j=>.int (i % j)) (zaY (zbz K) [] E0 (zab (zac 0) (zab (tC (.int 290)) zau))) (tC (.int 2)))) (zal 3))
 (zaF (zbj (zaY (zm7 K) [] E0 (zab (zac 0) (zab (tC (.int 300)) (zab (zac 2) zau)))) (zal 4))
 (zaF (zdk (zoz K))
 (zou K a))))))
theorem ztS {p:Addr} {ns:List Int} (xa:zsL K a.c_NoPlan "at") (hS:SqL K H p (ns.map V.int)) (hl:ns.length≤63) (q:∀ H',Q (.bl true) H') :
  zsm K a { nx:=fun _ H'=>Q .non H',rt:=Q } (L2.zce ["_law_script","_law_web_here","_law_near_here","_law_kind","_law_plan","_law_k","_law_handed","_law_odd","_law_told","_law_caught","_law_due"] [.ref p]) H:=by
 unfold zsm
 simp_all only [zbL,zbO,zbS,zbP,zbM,zbT,zbN,zbQ,zac]
 refine ⟨p,ns,0,8,6,rfl,hS,hl,by decide,by decide,by decide,by decide,by decide,by decide,fun w rl us m rs H1 s1 W1 G _ _ _=>?_⟩
 have m1:=G.m1
 have m60:=G.m60
 refine ⟨w,rl,us,m,rs,rfl,W1,G,fun nl ds H2 s2 N2=>?_⟩
 refine ⟨by decide,fun kl hkl=>?_⟩
 have s3:=zaj hkl (.lst [V.str "walk",V.str "spread"])
 have h3:(L2.upd H2 kl (.lst [V.str "walk",V.str "spread"])) kl=some (.lst [V.str "walk",V.str "spread"]):=zae
 generalize L2.upd H2 kl (.lst [V.str "walk",V.str "spread"])=H3 at s3 h3 ⊢
 have s03:=(s1.trans s2).trans s3
 refine ⟨p,ns,290,rfl,s03.seq hS,hl,by decide,by decide,fun r0 r00 r01=>?_⟩
 have c0:=Int.emod_nonneg r0 (show (2:Int)≠0 by decide)
 have c1:=Int.emod_lt_of_pos r0 (show (0:Int)<2 by decide)
 obtain ⟨sp,hsp⟩:∃ sp:Bool,atI [V.str "walk",V.str "spread"] (r0 % 2)=some (.str (kdS sp)):=by
  have:r0 % 2=0∨r0 % 2=1:=by omega
  rcases this with e | e <;> rw [e]
  ·exact ⟨false,rfl⟩
  ·exact ⟨true,rfl⟩
 refine ⟨_,rfl,by decide,_,SqL.of h3,_,hsp,?_⟩
 have N3:=N2.same s3
 refine ⟨p,nl,ns,300,ds,m,rs,rfl,s03.seq hS,hl,by decide,by decide,N3,G,fun sl us1 ps H4 s4 h4 T4 S4=>?_⟩
 have N4:=N3.same s4
 have s04:=s03.trans s4
 have W4:=((W1.same s2).same s3).same s4
 generalize hkd:(kdS sp)=kd
 refine ⟨fun σ H'=>zbt H4 H'∧∃ (pl:Addr) (xs:List V),H' pl=some (.lst xs)∧PlX H' xs∧xs.length≤9000∧σ=[some (.ref p),some (.ref w),some (.ref nl),some (.str kd),some (.ref pl),none,none,none,none,none,none],?_,?_⟩
 ·simp_all only [zbL,zbO,zbS,zbP,zbM,zbT,zbN,zbQ,zac]
  refine ⟨rfl,zcc (fun _=>?_) (fun _=>?_)⟩
  ·refine ⟨p,nl,ns,300,ds,m,rs,rfl,s04.seq hS,hl,by decide,by decide,N4,G,fun r ws H5 s5 h5 _ lw=>?_⟩
   refine ⟨s5,r,_,h5,fun v hv=>?_,by rw [List.length_map];exact lw,rfl⟩
   obtain ⟨i,_,rfl⟩:=List.mem_map.mp hv
   exact ⟨.n i,rfl⟩
  ·have:=S4.len
   refine ⟨.refl _,sl,_,h4,fun v hv=>?_,by rw [List.length_map,T4.1];omega,rfl⟩
   obtain ⟨u,hu,rfl⟩:=List.mem_map.mp hv
   obtain ⟨i,ei⟩:=List.getElem?_of_mem hu
   obtain ⟨⟨x,y⟩,_,h⟩:=T4.at ei
   exact ⟨.p x y,u,rfl,h⟩
 rintro σ H5 ⟨s5,pl,xs,h5,P5,l5,rfl⟩
 simp_all only [zbL,zbO,zbS,zbP,zbM,zbT,zbN,zbQ,zac]
 have s05:=s04.trans s5
 refine ⟨p,ns,291,rfl,s05.seq hS,hl,by decide,by decide,fun r1 r10 r11=>?_⟩
 have e0:=Int.emod_nonneg r1 (show (3:Int)≠0 by decide)
 have e1:=Int.emod_lt_of_pos r1 (show (0:Int)<3 by decide)
 refine ⟨_,rfl,by decide,by omega,by omega,?_⟩
 generalize hcn:(1+r1 % 3).toNat=cn
 have cn3:cn≤3:=by omega
 refine zc6 (fun i σ H'=>zbt H5 H'∧∃ (pl:Addr) (xs:List V) (x:Option V),H' pl=some (.lst xs)∧PlX H' xs∧xs.length+1≤9001*2 ^ i∧σ=[some (.ref p),some (.ref w),some (.ref nl),some (.str kd),some (.ref pl),x,none,none,none,none,none]) ⟨.refl _,pl,xs,_,h5,P5,by omega,rfl⟩ ?_ ?_
 ·rintro i σ H6 hi ⟨s6,pl,xs,x,h6,P6,l6,rfl⟩
  have W6:=(W4.same s5).same s6
  have pw:2 ^ i≤2 ^ 2:=Nat.pow_le_pow_right (by decide) (by omega)
  simp_all only [zbL,zbO,zbS,zbP,zbM,zbT,zbN,zbQ,zac]
  refine ⟨_,SqT.of W6.hw,_,rfl,mulL (by decide) (by decide),?_⟩
  refine ⟨pl,p,xs,ns,m,_,rfl,h6,P6,by omega,m1,m60,(s05.trans s6).seq hS,hl,by omega,by omega,fun r ys H7 s7 h7 P7 l7=>?_⟩
  exact ⟨s6.trans s7,r,ys,h7,P7,by rw [Nat.pow_succ];omega,rfl⟩
 rintro σ H6 ⟨s6,pl,xs,x,h6,P6,l6,rfl⟩
 have pw:2 ^ cn≤2 ^ 3:=Nat.pow_le_pow_right (by decide) cn3
 have s06:=s05.trans s6
 have W6:=(W4.same s5).same s6
 have N6:=(N4.same s5).same s6
 obtain ⟨ts,PT⟩:=P6.plt
 have tl:ts.length≤100000:=by rw [← PT.1];omega
 simp_all only [zbL,zbO,zbS,zbP,zbM,zbT,zbN,zbQ,zac]
 refine ⟨_,.inl (SqL.of h6),fun hd hhd=>?_⟩
 have s7:=zaj hhd (.lst xs)
 have h7:(L2.upd H6 hd (.lst xs)) hd=some (.lst xs):=zae
 generalize L2.upd H6 hd (.lst xs)=H7 at s7 h7 ⊢
 have s07:=s06.trans s7
 have W7:=W6.same s7
 have N7:=N6.same s7
 have P7:=PT.same s7
 have h67:=s7 _ _ h6
 refine ⟨fun σ H'=>H'=H7∧∃ x7 x8 x9,σ=[some (.ref p),some (.ref w),some (.ref nl),some (.str kd),some (.ref pl),x,some (.ref hd),x7,x8,x9,none],?_,?_⟩
 ·simp_all only [zbL,zbO,zbS,zbP,zbM,zbT,zbN,zbQ,zac]
  refine ⟨p,ns,292,rfl,s07.seq hS,hl,by decide,by decide,fun r2 r20 r21=>?_⟩
  refine ⟨_,rfl,by decide,zcc (fun _=>?_) (fun _=>by first | exact ⟨_,_,_,rfl⟩ | trivial)⟩
  refine ⟨by decide,fun ol hol=>?_⟩
  have s8:=zaj hol (.lst [V.str "",V.str "walks",V.str "spread ",V.str "Walk",V.str "wal",V.str "0"])
  have h8:(L2.upd H7 ol (.lst [V.str "",V.str "walks",V.str "spread ",V.str "Walk",V.str "wal",V.str "0"])) ol=some (.lst [V.str "",V.str "walks",V.str "spread ",V.str "Walk",V.str "wal",V.str "0"]):=zae
  generalize L2.upd H7 ol (.lst [V.str "",V.str "walks",V.str "spread ",V.str "Walk",V.str "wal",V.str "0"])=H8 at s8 h8 ⊢
  refine ⟨p,ns,292,rfl,(s07.trans s8).seq hS,hl,by decide,by decide,fun r3 r30 r31=>?_⟩
  have c0:=Int.emod_nonneg (r3 / 8) (show (6:Int)≠0 by decide)
  have c1:=Int.emod_lt_of_pos (r3 / 8) (show (0:Int)<6 by decide)
  obtain ⟨ok,hok,hin⟩:∃ ok:Str,atI [V.str "",V.str "walks",V.str "spread ",V.str "Walk",V.str "wal",V.str "0"] (r3 / 8 % 6)=some (.str ok)∧ok∈zrd:=by
   have:r3 / 8 % 6=0∨r3 / 8 % 6=1∨r3 / 8 % 6=2∨r3 / 8 % 6=3∨r3 / 8 % 6=4∨r3 / 8 % 6=5:=by omega
   unfold zrd
   rcases this with e | e | e | e | e | e <;> rw [e]
   ·exact ⟨_,rfl,by simp⟩
   ·exact ⟨_,rfl,by simp⟩
   ·exact ⟨_,rfl,by simp⟩
   ·exact ⟨_,rfl,by simp⟩
   ·exact ⟨_,rfl,by simp⟩
   ·exact ⟨_,rfl,by simp⟩
  refine ⟨_,rfl,by decide,by decide,by decide,_,SqL.of h8,_,hok,?_⟩
  refine ⟨w,rl,hd,us,rs,m,ok,xs,ts,rfl,W7.same s8,G,s8 _ _ h7,P7.same s8,tl,.inl ⟨hin,fun r x' H9 s9 hr hx=>?_⟩⟩
  refine ⟨r,rfl,_,SqT.of hr,rfl,_,_,rfl,_,_,rfl,rfl,?_⟩
  refine ⟨x',none,rfl,.inr ⟨hx,fun H10 s10=>?_⟩⟩
  have s70:=(s8.trans s9).trans s10
  refine ⟨rfl,zcc (fun _=>?_) (fun z=>absurd rfl z)⟩
  exact ⟨2,by decide,_,.inl ⟨(P7.same s70).shows (s70 _ _ h7),(P7.same s70).shows (s70 _ _ h67)⟩,q _⟩
 rintro σ H' ⟨e,x7,x8,x9,rfl⟩
 rw [e]
 simp_all only [zbL,zbO,zbS,zbP,zbM,zbT,zbN,zbQ,zac]
 subst hkd
 refine ⟨nl,pl,ds,m,rs,sp,xs,ts,rfl,N7,G,h67,P7,tl,fun d H8 s8 due=>?_⟩
 refine ⟨w,rl,hd,us,rs,m,_,xs,ts,rfl,W7.same s8,G,s8 _ _ h7,P7.same s8,tl,.inr ⟨sp,rfl,fun k hk r x' dx H9 s9 hr hx hdx=>?_,fun hn r l H9 s9 hr hl'=>?_⟩⟩
 ·have ed:=due.one hk
  subst ed
  have s79:=s8.trans s9
  refine ⟨r,rfl,_,SqT.of hr,rfl,_,_,rfl,_,_,rfl,rfl,?_⟩
  refine ⟨fun σ H'=>H'=H9∧σ=[some (.ref p),some (.ref w),some (.ref nl),some (.str (kdS sp)),some (.ref pl),x,some (.ref hd),x7,some .non,some (.ref x'),some (dV (some k))],?_,?_⟩
  ·simp_all only [zbL,zbO,zbS,zbP,zbM,zbT,zbN,zbQ,zac]
   exact ⟨2,by decide,_,.inl ⟨(P7.same s79).shows (s79 _ _ h7),(P7.same s79).shows (s79 _ _ h67)⟩⟩
  rintro σ H' ⟨e,rfl⟩
  rw [e]
  simp_all only [zbL,zbO,zbS,zbP,zbM,zbT,zbN,zbQ,zac]
  refine ⟨fun σ H'=>H'=H9∧σ=[some (.ref p),some (.ref w),some (.ref nl),some (.str (kdS sp)),some (.ref pl),x,some (.ref hd),x7,some .non,some (.ref x'),some (.int (k:Int))],?_,?_⟩
  ·simp only [dV]
   simp_all only [zbL,zbO,zbS,zbP,zbM,zbT,zbN,zbQ,zac]
  rintro σ H' ⟨e,rfl⟩
  rw [e]
  simp_all only [zbL,zbO,zbS,zbP,zbM,zbT,zbN,zbQ,zac]
  refine ⟨x',some dx,rfl,.inl ⟨hx,fun H10 s10=>⟨rfl,zcc (fun _=>?_) (fun z=>absurd rfl z)⟩⟩⟩
  refine ⟨a.c_NoPlan,dx,s10 _ _ hx,_,s10 _ _ hdx,xa,.int (k:Int),rfl,_,rfl,true,rfl,zn1 ?_⟩
  refine ⟨a.c_NoPlan,dx,s10 _ _ hx,_,s10 _ _ hdx,xa,.int (k:Int),rfl,rfl,?_⟩
  rw [decide_eq_true rfl]
  exact q _
 ·have ed:=due.one hn
  subst ed
  have s79:=s8.trans s9
  refine ⟨r,rfl,_,SqT.of hr,rfl,_,_,rfl,_,_,rfl,rfl,?_⟩
  refine ⟨fun σ H'=>H'=H9∧σ=[some (.ref p),some (.ref w),some (.ref nl),some (.str (kdS sp)),some (.ref pl),x,some (.ref hd),x7,some (.ref l),some .non,some (dV none)],?_,?_⟩
  ·simp_all only [zbL,zbO,zbS,zbP,zbM,zbT,zbN,zbQ,zac]
   exact ⟨2,by decide,_,.inl ⟨(P7.same s79).shows (s79 _ _ h7),(P7.same s79).shows (s79 _ _ h67)⟩⟩
  rintro σ H' ⟨e,rfl⟩
  rw [e]
  simp_all only [zbL,zbO,zbS,zbP,zbM,zbT,zbN,zbQ,zac]
  refine ⟨fun _ _=>False,?_,fun _ _ z=>z.elim⟩
  simp only [dV]
  simp_all only [zbL,zbO,zbS,zbP,zbM,zbT,zbN,zbQ,zac]
  have PC:=due.plan (H:=H9) G (s79 _ _ h67) (P7.same s79) tl
  refine ⟨nl,pl,ds,rs,m,_,_,rfl,N7.same s79,G,PC,fun r2 H10 s10 _ h10=>?_⟩
  exact ⟨.ref l,.ref r2,_,rfl,.intL (s10 _ _ hl'),.intL h10,fun H11 _=>q H11⟩
theorem zdN:zbk ["_law_script","_law_web_here","_law_near_here","_law_kind","_law_plan","_law_k","_law_handed","_law_odd","_law_told","_law_caught","_law_due"] ["_law_script"] (zaC zsd):=⟨rfl,rfl,rfl,by decide +kernel,rfl,by decide +kernel,by decide +kernel⟩
theorem ztT (T:Txt K mg a):zdV P w K mg base CX0 8 a.f_law a.d_law ["_law_script"] (zrf K):=by
 have G__law_asked:=zjv (P:=P) (w:=w) (base:=base) T
 have G__law_bent:=zkX (P:=P) (w:=w) (base:=base) T
 have G__law_class:=zjz (P:=P) (w:=w) (base:=base) T
 have G__law_costs:=zjF (P:=P) (w:=w) (base:=base) T
 have G__law_mixed:=zde (P:=P) (w:=w) (base:=base) T
 have G__law_near:=zkL (P:=P) (w:=w) (base:=base) T
 have G__law_same:=zlx (P:=P) (w:=w) (base:=base) T
 have G__law_spread:=ziI (P:=P) (w:=w) (base:=base) T
 have G__law_walk:=zk7 (P:=P) (w:=w) (base:=base) T
 have G__law_web:=zl6 (P:=P) (w:=w) (base:=base) T
 have G__law_whole:=zjH (P:=P) (w:=w) (base:=base) T
 have G__law_wrong:=zj1 (P:=P) (w:=w) (base:=base) T
 refine T.F_law.ok zdN (fun vs H Q E h=>?_) (fun cdv A outer s H vs Q E hr h=>?_)
 ·obtain ⟨p,ns,rfl,hS,hl,q⟩:=h
  rfl
 obtain ⟨p,ns,rfl,hS,hl,q⟩:=h
 exact ⟨zsm K a,(zaf (zaB (i:=1) zdN.nd rfl (Or.inl rfl) (zaG G__law_web (hr.mono (by decide)) rfl T.m__law_web T.F__law_web.kp T.b__law_web .nil zbJ (zaa (pv 0) (zaa zah (zaa zah (zaa zah zag))))))
 (zaf (zaB (i:=2) zdN.nd rfl (Or.inl rfl) (zaG G__law_near (hr.mono (by decide)) rfl T.m__law_near T.F__law_near.kp T.b__law_near .nil zbJ (zaa (pv 1) zag)))
 (zaf (zaB (i:=3) zdN.nd rfl (Or.inl rfl) (zbh zaJ (zcm (zaa zdX (zaa zdX zag))) (zaz zbs (zaG G__law_mixed (hr.mono (by decide)) rfl T.m__law_mixed T.F__law_mixed.kp T.b__law_mixed .nil zbJ (zaa (pv 0) (zaa zah zag))) zah) (fun _ _=>rfl)))
 (zaf (zaB (i:=4) zdN.nd rfl (Or.inl rfl) (zaG G__law_spread (hr.mono (by decide)) rfl T.m__law_spread T.F__law_spread.kp T.b__law_spread .nil zbJ (zaa (pv 0) (zaa zah (zaa (pv 2) zag)))))
 (zaf (zbl (zbA (zaI zdE (pv 3) zdX (zaT _)) (zak (zaB (i:=4) zdN.nd rfl (Or.inl rfl) (zaG G__law_walk (hr.mono (by decide)) rfl T.m__law_walk T.F__law_walk.kp T.b__law_walk .nil zbJ (zaa (pv 0) (zaa zah (zaa (pv 2) zag)))))) zaE))
 (zaf (zdg PassesOwn.never rfl (zcD rfl T.z_range (zaa (zaz zbG zah (zaz zbs (zaG G__law_mixed (hr.mono (by decide)) rfl T.m__law_mixed T.F__law_mixed.kp T.b__law_mixed .nil zbJ (zaa (pv 0) (zaa zah zag))) zah)) zag)) (za0 (i:=5) zdN.nd rfl (Or.inl rfl))
 (zak (zaB (i:=4) zdN.nd rfl (Or.inl rfl) (zaG G__law_bent (hr.mono (by decide)) rfl T.m__law_bent T.F__law_bent.kp T.b__law_bent .nil zbJ (zaa (pv 4) (zaa (zbh zcw (pv 1) zah (fun _ _=>rfl)) (zaa (pv 0) (zaa (zaz zbG zah (zaz zh3 zah (pv 5))) zag))))))))
 (zaf (zaB (i:=6) zdN.nd rfl (Or.inl rfl) (zgy zkG rfl T.z_list zcZ (zaa (pv 4) zag)))
 (zaf (zbl (zbA (zaI zdE (zaz zbs (zaG G__law_mixed (hr.mono (by decide)) rfl T.m__law_mixed T.F__law_mixed.kp T.b__law_mixed .nil zbJ (zaa (pv 0) (zaa zah zag))) zah) zah (zaT _)) (zaf (zaB (i:=7) zdN.nd rfl (Or.inl rfl) (zbh zaJ (zcm (zaa zdX (zaa zdX (zaa zdX (zaa zdX (zaa zdX (zaa zdX zag))))))) (zaz zbs (zaz zcA (zaG G__law_mixed (hr.mono (by decide)) rfl T.m__law_mixed T.F__law_mixed.kp T.b__law_mixed .nil zbJ (zaa (pv 0) (zaa zah zag))) zah) zah) (fun _ _=>rfl)))
 (zaf (zmI (zaG G__law_asked (hr.mono (by decide)) rfl T.m__law_asked T.F__law_asked.kp T.b__law_asked .nil zbJ (zaa (pv 1) (zaa (pv 7) (zaa (pv 6) zag)))) (zev rfl (zbd (za0 (i:=8) zdN.nd rfl (Or.inl rfl)) (zbd (za0 (i:=9) zdN.nd rfl (Or.inl rfl)) zdh))))
 (zak (zaX (zcQ (zcq zdE (zaG G__law_class (hr.mono (by decide)) rfl T.m__law_class T.F__law_class.kp T.b__law_class .nil zbJ (zaa (pv 9) zag)) zah (zaT _)) (zdp (zcq (ztu hr.units) (pv 6) (pv 4) (zaT _)))))))) zaE))
 (zaf (zaB (i:=10) zdN.nd rfl (Or.inl rfl) (zaG G__law_wrong (hr.mono (by decide)) rfl T.m__law_wrong T.F__law_wrong.kp T.b__law_wrong .nil zbJ (zaa (pv 2) (zaa (pv 3) (zaa (pv 4) zag)))))
 (zaf (zmI (zaG G__law_asked (hr.mono (by decide)) rfl T.m__law_asked T.F__law_asked.kp T.b__law_asked .nil zbJ (zaa (pv 1) (zaa (pv 3) (zaa (pv 6) zag)))) (zev rfl (zbd (za0 (i:=8) zdN.nd rfl (Or.inl rfl)) (zbd (za0 (i:=9) zdN.nd rfl (Or.inl rfl)) zdh))))
 (zaf (zbl (zbA (zaI (ztK hr.units) (pv 6) (pv 4) (zaT _)) (zak (zaX zfc)) zaE))
 (zaf (zbl (zbA (zaI zhQ (pv 10) zfr (zaT _)) (zak (zaX (zcQ (zcq zhQ (pv 9) zfr (zaT _)) (zdp (zaG G__law_same (hr.mono (by decide)) rfl T.m__law_same T.F__law_same.kp T.b__law_same .nil zbJ (zaa (pv 8) (zaa (zaG G__law_costs (hr.mono (by decide)) rfl T.m__law_costs T.F__law_costs.kp T.b__law_costs .nil zbJ (zaa (pv 2) (zaa (pv 3) (zaa (pv 4) zag)))) zag))))))) zaE))
 (zak (zaX (zcQ (zcq zdE (zaG G__law_class (hr.mono (by decide)) rfl T.m__law_class T.F__law_class.kp T.b__law_class .nil zbJ (zaa (pv 9) zag)) zah (zaT _)) (zcQ (zaG G__law_whole (hr.mono (by decide)) rfl T.m__law_whole T.F__law_whole.kp T.b__law_whole .nil zbJ (zaa (zop (pv 9) rfl) zag)) (zdp (zcq zdE (zop (pv 9) rfl) (pv 10) (zaT _))))))))))))))))))),
  ztS T.xa_NoPlan hS hl q⟩
end
theorem zp2 {us:List Value} {n:Nat} (h:us.length=n+1):∃ a t,us=a::t∧t.length=n:=by
 cases us with
 | nil=>cases h
 | cons a t=>exact ⟨a,t,rfl,Nat.succ.inj h⟩
theorem zpS {us:List Value} (h:us.length=1):∃ a0,us=[a0]:=by
 obtain ⟨a0,u0,rfl,h0⟩:=zp2 h
 cases List.eq_nil_of_length_eq_zero h0
 exact ⟨a0,rfl⟩
theorem ztq {us:List Value} (h:us.length=2):∃ a0,∃ a1,us=[a0,a1]:=by
 obtain ⟨a0,u0,rfl,h0⟩:=zp2 h
 obtain ⟨a1,u1,rfl,h1⟩:=zp2 h0
 cases List.eq_nil_of_length_eq_zero h1
 exact ⟨a0,a1,rfl⟩
theorem zp3 {us:List Value} (h:us.length=3):∃ a0,∃ a1,∃ a2,us=[a0,a1,a2]:=by
 obtain ⟨a0,u0,rfl,h0⟩:=zp2 h
 obtain ⟨a1,u1,rfl,h1⟩:=zp2 h0
 obtain ⟨a2,u2,rfl,h2⟩:=zp2 h1
 cases List.eq_nil_of_length_eq_zero h2
 exact ⟨a0,a1,a2,rfl⟩
theorem lst4 {us:List Value} (h:us.length=4):∃ a0,∃ a1,∃ a2,∃ a3,us=[a0,a1,a2,a3]:=by
 obtain ⟨a0,u0,rfl,h0⟩:=zp2 h
 obtain ⟨a1,u1,rfl,h1⟩:=zp2 h0
 obtain ⟨a2,u2,rfl,h2⟩:=zp2 h1
 obtain ⟨a3,u3,rfl,h3⟩:=zp2 h2
 cases List.eq_nil_of_length_eq_zero h3
 exact ⟨a0,a1,a2,a3,rfl⟩
theorem ztV {K:PySem.W.Frag} {h:Heap} {mg:Str→Option Value} (X:K.In h) (G:h.Ns mainGlobals mg)
  {f0 f1 f2 f3 f4 f5 f6 f7 f8 f9 f10 f11 f12 f13 f14 f15 f16 f17 f18 f19 f20 f21 f22 f23 f24 f25 f26 f27 f28:Addr} {d0 d1 d2 d3 d4 d5 d6 d7 d8 d9 d10 d11 d12 d13 d14 d15 d16 d17 d18 d19 d20 d21 d22 d23 d24 d25 d26 d27 d28:FuncData}
  (F0:Fun K "is_whole" "is_whole" zg3 f0 d0) (m0:mg "is_whole"=some (.ref f0))
  (F1:Fun K "is_within" "is_within" zgk f1 d1) (m1:mg "is_within"=some (.ref f1))
  (F2:Fun K "is_road" "is_road" zhN f2 d2) (m2:mg "is_road"=some (.ref f2))
  (F3:Fun K "places_come_to" "places_come_to" zdq f3 d3) (m3:mg "places_come_to"=some (.ref f3))
  (F4:Fun K "look_web" "look_web" zg5 f4 d4) (m4:mg "look_web"=some (.ref f4))
  (F5:Fun K "look_kind" "look_kind" zf8 f5 d5) (m5:mg "look_kind"=some (.ref f5))
  (F6:Fun K "shortest_roads" "shortest_roads" zdw f6 d6) (m6:mg "shortest_roads"=some (.ref f6))
  (F7:Fun K "is_walk_step" "is_walk_step" zeh f7 d7) (m7:mg "is_walk_step"=some (.ref f7))
  (F8:Fun K "walk_costs" "walk_costs" zfC f8 d8) (m8:mg "walk_costs"=some (.ref f8))
  (F9:Fun K "is_spread_step" "is_spread_step" zdv f9 d9) (m9:mg "is_spread_step"=some (.ref f9))
  (F10:Fun K "spread_costs" "spread_costs" zea f10 d10) (m10:mg "spread_costs"=some (.ref f10))
  (F11:Fun K "whole_costs" "whole_costs" zdI f11 d11) (m11:mg "whole_costs"=some (.ref f11))
  (F12:Fun K "costs_of" "costs_of" zhh f12 d12) (m12:mg "costs_of"=some (.ref f12))
  (F13:Fun K "_law_mixed" "_law_mixed" zfx f13 d13) (m13:mg "_law_mixed"=some (.ref f13))
  (F14:Fun K "_law_whole" "_law_whole" zff f14 d14) (m14:mg "_law_whole"=some (.ref f14))
  (F15:Fun K "_law_class" "_law_class" zfk f15 d15) (m15:mg "_law_class"=some (.ref f15))
  (F16:Fun K "_law_length" "_law_length" zeQ f16 d16) (m16:mg "_law_length"=some (.ref f16))
  (F17:Fun K "_law_web" "_law_web" zhf f17 d17) (m17:mg "_law_web"=some (.ref f17))
  (F18:Fun K "_law_near" "_law_near" zeD f18 d18) (m18:mg "_law_near"=some (.ref f18))
  (F19:Fun K "_law_way" "_law_way" zg8 f19 d19) (m19:mg "_law_way"=some (.ref f19))
  (F20:Fun K "_law_walk" "_law_walk" zgb f20 d20) (m20:mg "_law_walk"=some (.ref f20))
  (F21:Fun K "_law_spread" "_law_spread" zdF f21 d21) (m21:mg "_law_spread"=some (.ref f21))
  (F22:Fun K "_law_pairs" "_law_pairs" zd5 f22 d22) (m22:mg "_law_pairs"=some (.ref f22))
  (F23:Fun K "_law_costs" "_law_costs" zd0 f23 d23) (m23:mg "_law_costs"=some (.ref f23))
  (F24:Fun K "_law_same" "_law_same" zgc f24 d24) (m24:mg "_law_same"=some (.ref f24))
  (F25:Fun K "_law_wrong" "_law_wrong" ze3 f25 d25) (m25:mg "_law_wrong"=some (.ref f25))
  (F26:Fun K "_law_bent" "_law_bent" zex f26 d26) (m26:mg "_law_bent"=some (.ref f26))
  (F27:Fun K "_law_asked" "_law_asked" zfA f27 d27) (m27:mg "_law_asked"=some (.ref f27))
  (F28:Fun K "law" "law" zsd f28 d28) (m28:mg "law"=some (.ref f28))
  (z_bool:mg "bool"=none)
  (z_enumerate:mg "enumerate"=none)
  (z_int:mg "int"=none)
  (z_isinstance:mg "isinstance"=none)
  (z_len:mg "len"=none)
  (z_list:mg "list"=none)
  (z_min:mg "min"=none)
  (z_range:mg "range"=none)
  (z_set:mg "set"=none)
  (z_sorted:mg "sorted"=none)
  (z_str:mg "str"=none)
  (z_sum:mg "sum"=none)
  (z_tuple:mg "tuple"=none)
  (z_zip:mg "zip"=none)
  (z_ValueError:mg "ValueError"=none)
  {c_HideError c_NoWeb c_NoPlan c_NoText c_NoKind c_TooGreat c_NoTree c_NoWeights c_NoTurns c_NoNumber c_NoBoxes c_NoBudget c_NoName c_NoOrder c_NoPlay c_NoRoad c_NoRow c_NoTable c_NoPaper:Addr}
  (ac_HideError:mg "HideError"=some (.ref c_HideError))
  (ac_NoWeb:mg "NoWeb"=some (.ref c_NoWeb))
  (ac_NoPlan:mg "NoPlan"=some (.ref c_NoPlan))
  (ac_NoText:mg "NoText"=some (.ref c_NoText))
  (ac_NoKind:mg "NoKind"=some (.ref c_NoKind))
  (ac_TooGreat:mg "TooGreat"=some (.ref c_TooGreat))
  (ac_NoTree:mg "NoTree"=some (.ref c_NoTree))
  (ac_NoWeights:mg "NoWeights"=some (.ref c_NoWeights))
  (ac_NoTurns:mg "NoTurns"=some (.ref c_NoTurns))
  (ac_NoNumber:mg "NoNumber"=some (.ref c_NoNumber))
  (ac_NoBoxes:mg "NoBoxes"=some (.ref c_NoBoxes))
  (ac_NoBudget:mg "NoBudget"=some (.ref c_NoBudget))
  (ac_NoName:mg "NoName"=some (.ref c_NoName))
  (ac_NoOrder:mg "NoOrder"=some (.ref c_NoOrder))
  (ac_NoPlay:mg "NoPlay"=some (.ref c_NoPlay))
  (ac_NoRoad:mg "NoRoad"=some (.ref c_NoRoad))
  (ac_NoRow:mg "NoRow"=some (.ref c_NoRow))
  (ac_NoTable:mg "NoTable"=some (.ref c_NoTable))
  (ac_NoPaper:mg "NoPaper"=some (.ref c_NoPaper))
  {k_MOST_PLACES:Tok} (ak_MOST_PLACES:mg "MOST_PLACES"=some (.int 60 k_MOST_PLACES))
  {k_MOST_ROADS:Tok} (ak_MOST_ROADS:mg "MOST_ROADS"=some (.int 120 k_MOST_ROADS))
  {k_MOST_LENGTH:Tok} (ak_MOST_LENGTH:mg "MOST_LENGTH"=some (.int 1000000 k_MOST_LENGTH))
  {t_KINDS:Addr} (at_KINDS:PySem.W.nsIn K mainGlobals "KINDS"=some (some (.ref t_KINDS))) {tk0_KINDS:Tok} {tk1_KINDS:Tok} {od_KINDS:Option Addr} {n_KINDS:Nat} {sl_KINDS:Array (Option Value)} (lt_KINDS:K.lookup t_KINDS=some ⟨.type "tuple",od_KINDS,.seq #[.str "walk" tk0_KINDS,.str "spread" tk1_KINDS] n_KINDS,sl_KINDS⟩)
  (xc_HideError:PySem.W.excIn K c_HideError zfQ "ValueError.__new__"=true)
  (xc_NoKind:PySem.W.excIn K c_NoKind zfQ "ValueError.__new__"=true)
  (vsg:PySem.W.specialIn K (.ref c_HideError) "__getattribute__"=some (some (.builtin "type.__getattribute__")))
  (vrd:PySem.W.readsIn K c_HideError (.type "type")=true)
  (vfc:PySem.W.findCls K (.ref c_HideError) (.type "type") "__init__"=some (.val (.builtin "ValueError.__init__")))
  {i_NoPlan:Addr} (vin_NoPlan:PySem.W.findIn K (.ref c_NoPlan) "__init__"=some (some (.ref i_NoPlan)))
  {voc_NoPlan vkV_NoPlan vdc_NoPlan vpm_NoPlan vcd_NoPlan vct_NoPlan:Value} {vod_NoPlan van_NoPlan:Option Addr} {vsl_NoPlan:Array (Option Value)} (vl_NoPlan:K.lookup i_NoPlan=some ⟨voc_NoPlan,vod_NoPlan,.func (PySem.W.fnOf "__init__" "NoPlan.__init__" (zg7 zdb) (ze7 zdb) (zaC zdb) .none vkV_NoPlan vdc_NoPlan vpm_NoPlan van_NoPlan vcd_NoPlan vct_NoPlan),vsl_NoPlan⟩)
  (vc_NoPlan:PySem.W.codeIn K vcd_NoPlan "NoPlan.__init__"=true)
  (vk_NoPlan:PySem.W.keepIn K (.ref i_NoPlan)=true)
  {vnm_NoPlan vq_NoPlan:Str} {vN_NoPlan:Addr} {vbs_NoPlan vbm_NoPlan:List Value} {vsn_NoPlan:List Str} {vsub_NoPlan:List Value} {vab_NoPlan:Bool} {vcol_NoPlan:Option Bool} {vdd_NoPlan:Option Addr} {v0_NoPlan v1_NoPlan v2_NoPlan v3_NoPlan v5_NoPlan:Option Value} (vlk_NoPlan:K.lookup c_NoPlan=some (excClassObj vnm_NoPlan vq_NoPlan c_NoPlan vN_NoPlan vbs_NoPlan vbm_NoPlan true vsn_NoPlan vsub_NoPlan vab_NoPlan vcol_NoPlan vdd_NoPlan v0_NoPlan v1_NoPlan v2_NoPlan v3_NoPlan v5_NoPlan "ValueError.__new__"))
  (vtl_NoPlan:PySem.W.tailIn K zfQ vbm_NoPlan=true)
  (vfn_NoPlan:PySem.W.isFn K (.ref i_NoPlan)=true)
  (vkp_NoPlan:PySem.W.keepIn K (.ref c_NoPlan)=true)
  (vmo_NoPlan:PySem.W.mroIn K c_NoPlan (.type "object")=some true)
  (vsa_NoPlan:PySem.W.findIn K (.ref c_NoPlan) "__setattr__"=some (some (.builtin "object.__setattr__")))
  (vga_NoPlan:PySem.W.findIn K (.ref c_NoPlan) "__getattribute__"=some (some (.builtin "BaseException.__getattribute__")))
  (vgn_NoPlan:PySem.W.findIn K (.ref c_NoPlan) "__getattr__"=some none)
  (vcl_NoPlan:PySem.W.findIn K (.ref c_NoPlan) "__class__"=some (some (.builtin "object.__class__")))
  (vmb_NoPlan:PySem.W.mroIn K c_NoPlan (.type "BaseException")=some true)
  (vhd_NoPlan:PySem.W.hasDictIn K c_NoPlan=true)
  (vna_NoPlan:PySem.W.findIn K (.ref c_NoPlan) "at"=some none)
  (i_k_NoWeb:PySem.W.kitOne K (.ref c_NoPlan) (.ref c_NoWeb)=some false)
  (i_k_NoPlan:PySem.W.kitOne K (.ref c_NoPlan) (.ref c_NoPlan)=some true)
  (i_k_NoText:PySem.W.kitOne K (.ref c_NoPlan) (.ref c_NoText)=some false)
  (i_k_NoKind:PySem.W.kitOne K (.ref c_NoPlan) (.ref c_NoKind)=some false)
  (i_k_TooGreat:PySem.W.kitOne K (.ref c_NoPlan) (.ref c_TooGreat)=some false)
  (i_k_NoTree:PySem.W.kitOne K (.ref c_NoPlan) (.ref c_NoTree)=some false)
  (i_k_NoWeights:PySem.W.kitOne K (.ref c_NoPlan) (.ref c_NoWeights)=some false)
  (i_k_NoTurns:PySem.W.kitOne K (.ref c_NoPlan) (.ref c_NoTurns)=some false)
  (i_k_NoNumber:PySem.W.kitOne K (.ref c_NoPlan) (.ref c_NoNumber)=some false)
  (i_k_NoBoxes:PySem.W.kitOne K (.ref c_NoPlan) (.ref c_NoBoxes)=some false)
  (i_k_NoBudget:PySem.W.kitOne K (.ref c_NoPlan) (.ref c_NoBudget)=some false)
  (i_k_NoName:PySem.W.kitOne K (.ref c_NoPlan) (.ref c_NoName)=some false)
  (i_k_NoOrder:PySem.W.kitOne K (.ref c_NoPlan) (.ref c_NoOrder)=some false)
  (i_k_NoPlay:PySem.W.kitOne K (.ref c_NoPlan) (.ref c_NoPlay)=some false)
  (i_k_NoRoad:PySem.W.kitOne K (.ref c_NoPlan) (.ref c_NoRoad)=some false)
  (i_k_NoRow:PySem.W.kitOne K (.ref c_NoPlan) (.ref c_NoRow)=some false)
  (i_k_NoTable:PySem.W.kitOne K (.ref c_NoPlan) (.ref c_NoTable)=some false)
  (i_k_NoPaper:PySem.W.kitOne K (.ref c_NoPlan) (.ref c_NoPaper)=some false)
  (i_k_ValueError:PySem.W.kitOne K (.ref c_NoPlan) (.type "ValueError")=some true)
  (i_sub:PySem.W.subIn K (.ref c_NoPlan) (.ref c_HideError)=some true)
  (e_ga:PySem.W.findIn K (.ref c_NoPlan) "__getattribute__"=some (some (.builtin "BaseException.__getattribute__")))
  (e_gn:PySem.W.findIn K (.ref c_NoPlan) "__getattr__"=some none)
  (e_cl:PySem.W.findIn K (.ref c_NoPlan) "__class__"=some (some (.builtin "object.__class__")))
  (e_mb:PySem.W.mroIn K c_NoPlan (.type "BaseException")=some true)
  (e_mo:PySem.W.mroIn K c_NoPlan (.type "object")=some true)
  (i2_k_NoWeb:PySem.W.kitOne K (.ref c_NoKind) (.ref c_NoWeb)=some false)
  (i2_k_NoPlan:PySem.W.kitOne K (.ref c_NoKind) (.ref c_NoPlan)=some false)
  (i2_k_NoText:PySem.W.kitOne K (.ref c_NoKind) (.ref c_NoText)=some false)
  (i2_k_NoKind:PySem.W.kitOne K (.ref c_NoKind) (.ref c_NoKind)=some true)
  (i2_k_TooGreat:PySem.W.kitOne K (.ref c_NoKind) (.ref c_TooGreat)=some false)
  (i2_k_NoTree:PySem.W.kitOne K (.ref c_NoKind) (.ref c_NoTree)=some false)
  (i2_k_NoWeights:PySem.W.kitOne K (.ref c_NoKind) (.ref c_NoWeights)=some false)
  (i2_k_NoTurns:PySem.W.kitOne K (.ref c_NoKind) (.ref c_NoTurns)=some false)
  (i2_k_NoNumber:PySem.W.kitOne K (.ref c_NoKind) (.ref c_NoNumber)=some false)
  (i2_k_NoBoxes:PySem.W.kitOne K (.ref c_NoKind) (.ref c_NoBoxes)=some false)
  (i2_k_NoBudget:PySem.W.kitOne K (.ref c_NoKind) (.ref c_NoBudget)=some false)
  (i2_k_NoName:PySem.W.kitOne K (.ref c_NoKind) (.ref c_NoName)=some false)
  (i2_k_NoOrder:PySem.W.kitOne K (.ref c_NoKind) (.ref c_NoOrder)=some false)
  (i2_k_NoPlay:PySem.W.kitOne K (.ref c_NoKind) (.ref c_NoPlay)=some false)
  (i2_k_NoRoad:PySem.W.kitOne K (.ref c_NoKind) (.ref c_NoRoad)=some false)
  (i2_k_NoRow:PySem.W.kitOne K (.ref c_NoKind) (.ref c_NoRow)=some false)
  (i2_k_NoTable:PySem.W.kitOne K (.ref c_NoKind) (.ref c_NoTable)=some false)
  (i2_k_NoPaper:PySem.W.kitOne K (.ref c_NoKind) (.ref c_NoPaper)=some false)
  (i2_k_ValueError:PySem.W.kitOne K (.ref c_NoKind) (.type "ValueError")=some true)
  (i2_sub:PySem.W.subIn K (.ref c_NoKind) (.ref c_HideError)=some true)
  (e2_ga:PySem.W.findIn K (.ref c_NoKind) "__getattribute__"=some (some (.builtin "BaseException.__getattribute__")))
  (e2_gn:PySem.W.findIn K (.ref c_NoKind) "__getattr__"=some none)
  (e2_cl:PySem.W.findIn K (.ref c_NoKind) "__class__"=some (some (.builtin "object.__class__")))
  (e2_mb:PySem.W.mroIn K c_NoKind (.type "BaseException")=some true)
  (e2_mo:PySem.W.mroIn K c_NoKind (.type "object")=some true)
  : Txt K mg ⟨f0,d0,f1,d1,f2,d2,f3,d3,f4,d4,f5,d5,f6,d6,f7,d7,f8,d8,f9,d9,f10,d10,f11,d11,f12,d12,f13,d13,f14,d14,f15,d15,f16,d16,f17,d17,f18,d18,f19,d19,f20,d20,f21,d21,f22,d22,f23,d23,f24,d24,f25,d25,f26,d26,f27,d27,f28,d28,c_HideError,c_NoWeb,c_NoPlan,c_NoText,c_NoKind,c_TooGreat,c_NoTree,c_NoWeights,c_NoTurns,c_NoNumber,c_NoBoxes,c_NoBudget,c_NoName,c_NoOrder,c_NoPlay,c_NoRoad,c_NoRow,c_NoTable,c_NoPaper,i_NoPlan,PySem.W.fnOf "__init__" "NoPlan.__init__" (zg7 zdb) (ze7 zdb) (zaC zdb) .none vkV_NoPlan vdc_NoPlan vpm_NoPlan van_NoPlan vcd_NoPlan vct_NoPlan,k_MOST_PLACES,k_MOST_ROADS,k_MOST_LENGTH,t_KINDS⟩:=by
 have VF_NoPlan:=zb9 (st:=zdb) vl_NoPlan vc_NoPlan vk_NoPlan
 have vb_NoPlan:=VF_NoPlan.binds (ps:=["self","at"]) fun _ _ _ _ _ _ us hl=>by obtain ⟨_,_,rfl⟩:=vlst2 hl;rfl
 exact ⟨F0,F0.binds fun _ _ _ _ _ _ us hl=>by obtain ⟨_,rfl⟩:=zpS hl;rfl,m0,F1,F1.binds fun _ _ _ _ _ _ us hl=>by obtain ⟨_,_,_,rfl⟩:=zp3 hl;rfl,m1,F2,F2.binds fun _ _ _ _ _ _ us hl=>by obtain ⟨_,_,rfl⟩:=ztq hl;rfl,m2,F3,F3.binds fun _ _ _ _ _ _ us hl=>by obtain ⟨_,rfl⟩:=zpS hl;rfl,m3,F4,F4.binds fun _ _ _ _ _ _ us hl=>by obtain ⟨_,rfl⟩:=zpS hl;rfl,m4,F5,F5.binds fun _ _ _ _ _ _ us hl=>by obtain ⟨_,rfl⟩:=zpS hl;rfl,m5,F6,F6.binds fun _ _ _ _ _ _ us hl=>by obtain ⟨_,rfl⟩:=zpS hl;rfl,m6,F7,F7.binds fun _ _ _ _ _ _ us hl=>by obtain ⟨_,_,_,rfl⟩:=zp3 hl;rfl,m7,F8,F8.binds fun _ _ _ _ _ _ us hl=>by obtain ⟨_,_,rfl⟩:=ztq hl;rfl,m8,F9,F9.binds fun _ _ _ _ _ _ us hl=>by obtain ⟨_,_,_,rfl⟩:=zp3 hl;rfl,m9,F10,F10.binds fun _ _ _ _ _ _ us hl=>by obtain ⟨_,_,rfl⟩:=ztq hl;rfl,m10,F11,F11.binds fun _ _ _ _ _ _ us hl=>by obtain ⟨_,_,_,_,rfl⟩:=lst4 hl;rfl,m11,F12,F12.binds fun _ _ _ _ _ _ us hl=>by obtain ⟨_,_,_,rfl⟩:=zp3 hl;rfl,m12,F13,F13.binds fun _ _ _ _ _ _ us hl=>by obtain ⟨_,_,rfl⟩:=ztq hl;rfl,m13,F14,F14.binds fun _ _ _ _ _ _ us hl=>by obtain ⟨_,rfl⟩:=zpS hl;rfl,m14,F15,F15.binds fun _ _ _ _ _ _ us hl=>by obtain ⟨_,rfl⟩:=zpS hl;rfl,m15,F16,F16.binds fun _ _ _ _ _ _ us hl=>by obtain ⟨_,rfl⟩:=zpS hl;rfl,m16,F17,F17.binds fun _ _ _ _ _ _ us hl=>by obtain ⟨_,_,_,_,rfl⟩:=lst4 hl;rfl,m17,F18,F18.binds fun _ _ _ _ _ _ us hl=>by obtain ⟨_,rfl⟩:=zpS hl;rfl,m18,F19,F19.binds fun _ _ _ _ _ _ us hl=>by obtain ⟨_,_,_,rfl⟩:=zp3 hl;rfl,m19,F20,F20.binds fun _ _ _ _ _ _ us hl=>by obtain ⟨_,_,_,rfl⟩:=zp3 hl;rfl,m20,F21,F21.binds fun _ _ _ _ _ _ us hl=>by obtain ⟨_,_,_,rfl⟩:=zp3 hl;rfl,m21,F22,F22.binds fun _ _ _ _ _ _ us hl=>by obtain ⟨_,rfl⟩:=zpS hl;rfl,m22,F23,F23.binds fun _ _ _ _ _ _ us hl=>by obtain ⟨_,_,_,rfl⟩:=zp3 hl;rfl,m23,F24,F24.binds fun _ _ _ _ _ _ us hl=>by obtain ⟨_,_,rfl⟩:=ztq hl;rfl,m24,F25,F25.binds fun _ _ _ _ _ _ us hl=>by obtain ⟨_,_,_,rfl⟩:=zp3 hl;rfl,m25,F26,F26.binds fun _ _ _ _ _ _ us hl=>by obtain ⟨_,_,_,_,rfl⟩:=lst4 hl;rfl,m26,F27,F27.binds fun _ _ _ _ _ _ us hl=>by obtain ⟨_,_,_,rfl⟩:=zp3 hl;rfl,m27,F28,F28.binds fun _ _ _ _ _ _ us hl=>by obtain ⟨_,rfl⟩:=zpS hl;rfl,m28,z_bool,z_enumerate,z_int,z_isinstance,z_len,z_list,z_min,z_range,z_set,z_sorted,z_str,z_sum,z_tuple,z_zip,z_ValueError,ac_HideError,ac_NoWeb,ac_NoPlan,ac_NoText,ac_NoKind,ac_TooGreat,ac_NoTree,ac_NoWeights,ac_NoTurns,ac_NoNumber,ac_NoBoxes,ac_NoBudget,ac_NoName,ac_NoOrder,ac_NoPlay,ac_NoRoad,ac_NoRow,ac_NoTable,ac_NoPaper,ak_MOST_PLACES,ak_MOST_ROADS,ak_MOST_LENGTH,PySem.W.mg_of X G at_KINDS,⟨_,_,_,lt_KINDS,rfl,rfl,(show 2≤sizeLine by decide),(.cons ⟨_,rfl⟩ (.cons ⟨_,rfl⟩ .nil))⟩,xc_HideError,xc_NoKind,⟨vsg,vrd,vfc⟩,VF_NoPlan,vb_NoPlan,⟨⟨_,_,_,_,_,_,_,_,_,_,_,_,_,_,_,vlk_NoPlan,vtl_NoPlan⟩,vin_NoPlan,vfn_NoPlan,vkp_NoPlan,vmo_NoPlan,vsa_NoPlan⟩,⟨⟨vga_NoPlan,vgn_NoPlan,vcl_NoPlan,vmb_NoPlan,vmo_NoPlan⟩,vhd_NoPlan,vna_NoPlan⟩,⟨i_k_NoWeb,i_k_NoPlan,i_k_NoText,i_k_NoKind,i_k_TooGreat,i_k_NoTree,i_k_NoWeights,i_k_NoTurns,i_k_NoNumber,i_k_NoBoxes,i_k_NoBudget,i_k_NoName,i_k_NoOrder,i_k_NoPlay,i_k_NoRoad,i_k_NoRow,i_k_NoTable,i_k_NoPaper,i_k_ValueError,i_sub,znM ⟨e_ga,e_gn,e_cl,e_mb,e_mo⟩ (ExI.mk ⟨_,_,_,_,_,_,_,_,_,_,_,_,_,_,_,vlk_NoPlan,vtl_NoPlan⟩ vin_NoPlan vfn_NoPlan vkp_NoPlan vmo_NoPlan vsa_NoPlan)⟩,⟨i2_k_NoWeb,i2_k_NoPlan,i2_k_NoText,i2_k_NoKind,i2_k_TooGreat,i2_k_NoTree,i2_k_NoWeights,i2_k_NoTurns,i2_k_NoNumber,i2_k_NoBoxes,i2_k_NoBudget,i2_k_NoName,i2_k_NoOrder,i2_k_NoPlay,i2_k_NoRoad,i2_k_NoRow,i2_k_NoTable,i2_k_NoPaper,i2_k_ValueError,i2_sub,zpQ ⟨e2_ga,e2_gn,e2_cl,e2_mb,e2_mo,xc_NoKind⟩⟩⟩
theorem ztz {K:PySem.W.Frag} {w:World} {mg:Str→Option Value} {h:Heap} {fa:Addr} {P:Program} (X:K.In h) (G:h.Ns mainGlobals mg) (hfa:mg "law"=some (.ref fa)) {a:Ad} (T:Txt K mg a) :
  ∃ fd:FuncData,(∀ (s:Shared) (u:Value),BindsTo s fd ⟨[u],[]⟩ [("_law_script",u)])∧∀ base:Heap,K.In base→base.Ns mainGlobals mg→zdV P w K mg base CX0 8 fa fd ["_law_script"] (zrf K):=by
 have e:=hfa.symm.trans T.m_law
 cases e
 refine ⟨a.d_law,fun s v=>?_,fun base _ _=>ztT T⟩
 obtain ⟨oc,od,kV,doc,pm,an,cdv,ct,osl,e,lk,hcd⟩:=T.F_law.ex
 rw [e]
 exact .of_eq rfl
theorem walk {l:PySem.W.OpenLaw} {q:Program} {loose:List Str} {XP:(Str→Option Value)→Heap→Prop} {YP:World→Heap→Prop} {d:DefRec} {K:Params→PySem.W.Frag} (hn:l.most=some 63) (hdf:d.params.defaults=[])
  (hY:∀ (w:World) (h:Heap),YP w h→(K w.params).In h)
  (F:∀ (w:World) (mg:Str→Option Value) (fa:Addr) (h:Heap),(K w.params).In h→h.Ns mainGlobals mg→mg d.name=some (.ref fa) →
   ∃ fd:FuncData,(∀ (s:Shared) (u:Value),BindsTo s fd ⟨[u],[]⟩ [("_law_script",u)])∧∀ base:Heap,(K w.params).In base→base.Ns mainGlobals mg→zdV l.prog w (K w.params) mg base CX0 8 fa fd ["_law_script"] (zrf (K w.params))) :
  PySem.W.WalkO q loose XP YP l.row.toRowW d [] (fun f vs=>PySem.call f vs) :=
 L2.zs7 (n:=63) (k:=8) (x:="_law_script") (CX:=fun _=>CX0) (sp:=fun w=>zrf (K w.params)) hn (by decide) hdf ⟨rfl,by decide,by decide⟩ hY F (fun _ _ a ns hl _ hS=>⟨a,ns,rfl,hS,hl,fun _=>rfl⟩) fun _ _ _ _ _ z=>z
end My
open PySem PySem.W in
theorem My.walk_at {K:Params→Frag} {w:World} {h:Heap} {l:OpenLaw} {q:Program} {loose:List Str} {XP:(Str→Option Value)→Heap→Prop} {d:DefRec} {C:Prop} (_:(K w.params).In h)
  (use:WalkO q loose XP (fun w h=>(K w.params).In h) l.row.toRowW d [] (fun f vs=>PySem.call f vs)→C) (W:WalkO q loose XP (fun w h=>(K w.params).In h) l.row.toRowW d [] (fun f vs=>PySem.call f vs)):C:=use W
noncomputable section
namespace Hd
open PySem
structure Q (α : Type) where
  a : α
  b : α
  c : α
  d : α
  e : α
  f : α
  g : α
  h : α
structure X where
  s : Q (Q (Q Str))
  t : Q (Q (Q String))
  r : Q (Q (Q Obj))
  p : Program
  P : Params
def sp (p : Program) (n : Nat) : Stmt := (p.main.body.drop n).headD (.Pass ⟨0, 0, 0, 0⟩)
def st (x : X) (n : Nat) : Stmt := sp x.p n
def cb : Stmt → List Stmt
  | .ClassDef _ _ _ b .. => b
  | _ => []
def sm (x : X) (n k : Nat) : Stmt := ((cb (st x n)).drop k).headD (.Pass ⟨0, 0, 0, 0⟩)
def fn (s : Stmt) (q : Str) (g : Addr) (c : List (Str × Addr)) (d k o m : Value) (a : Option Addr) (z t : Value) (b : Addr) : FuncData := match s with
  | .FunctionDef n p y _ _ _ u .. => ⟨n, q, p, .stmts y, u, g, c, d, k, o, m, a, z, t, b⟩
  | _ => default
abbrev z := W.BT.nil
def N (o : Obj) (l r : W.BT) : W.BT := .node o l r
def L (o : Obj) : W.BT := .node o .nil .nil
def e (x : X) (s : Str) (n : Nat) (v : Value) : DictEntry := ⟨PyData.keyHash x.P s, .str s n, v⟩
def vR (n : Nat) : Option Value := some (.ref n)
def vr (n : Nat) : Value := .ref n
def vO : Value := .int 0 0
def vI (n : Int) : Value := .int n 0
def vS (s : Str) (n : Tok) : Value := .str s n
def vY (s : String) : Value := .type s
def vB (s : String) : Value := .builtin s
section
variable (x : X)
def i0 := e x x.s.a.a.d 165 (vS x.s.a.a.e 187)
def i1 := e x x.s.a.a.f 166 .none
def i2 := e x x.s.a.a.g 167 .none
def i3 := e x x.s.a.a.h 168 (vB x.t.a.a.e)
def i4 := e x x.s.a.b.a 169 .none
def i5 := e x x.s.a.b.b 170 (vr 6)
def i6 := e x x.s.a.b.c 171 (vr 4)
def i7 := e x x.s.a.b.d 173 (vS x.s.a.a.b 172)
def i8 := e x x.s.a.b.e 174 .none
def i9 := e x x.s.a.b.f 206 (vr 24)
def i10 := e x x.s.a.b.g 196 (vS x.s.a.a.e 187)
def i11 := e x x.s.a.b.h 198 (vS x.s.a.b.f 197)
def i12 := e x x.s.a.c.a 200 (.int 2 199)
def i13 := e x x.s.a.c.b 201 (vr 22)
def i14 := e x x.s.a.c.c 203 (vr 25)
def i15 := e x x.s.a.a.f 204 .none
def i16 := e x x.s.a.c.d 222 (vr 37)
def i17 := e x x.s.a.b.g 214 (vS x.s.a.a.e 187)
def i18 := e x x.s.a.b.h 216 (vS x.s.a.c.d 215)
def i19 := e x x.s.a.c.a 218 (.int 4 217)
def i20 := e x x.s.a.c.b 219 (vr 35)
def i21 := e x x.s.a.a.f 220 .none
def i22 := e x x.s.a.c.e 238 (vr 49)
def i23 := e x x.s.a.b.g 230 (vS x.s.a.a.e 187)
def i24 := e x x.s.a.b.h 232 (vS x.s.a.c.e 231)
def i25 := e x x.s.a.c.a 234 (.int 6 233)
def i26 := e x x.s.a.c.b 235 (vr 47)
def i27 := e x x.s.a.a.f 236 .none
def i28 := e x x.s.a.c.f 254 (vr 61)
def i29 := e x x.s.a.b.g 246 (vS x.s.a.a.e 187)
def i30 := e x x.s.a.b.h 248 (vS x.s.a.c.f 247)
def i31 := e x x.s.a.c.a 250 (.int 8 249)
def i32 := e x x.s.a.c.b 251 (vr 59)
def i33 := e x x.s.a.a.f 252 .none
def i34 := e x x.s.a.c.g 270 (vr 73)
def i35 := e x x.s.a.b.g 262 (vS x.s.a.a.e 187)
def i36 := e x x.s.a.b.h 264 (vS x.s.a.c.g 263)
def i37 := e x x.s.a.c.a 266 (.int 10 265)
def i38 := e x x.s.a.c.b 267 (vr 71)
def i39 := e x x.s.a.a.f 268 .none
def i40 := e x x.s.a.c.h 286 (vr 85)
def i41 := e x x.s.a.b.g 278 (vS x.s.a.a.e 187)
def i42 := e x x.s.a.b.h 280 (vS x.s.a.c.h 279)
def i43 := e x x.s.a.c.a 282 (.int 12 281)
def i44 := e x x.s.a.c.b 283 (vr 83)
def i45 := e x x.s.a.a.f 284 .none
def i46 := e x x.s.a.d.a 302 (vr 97)
def i47 := e x x.s.a.b.g 294 (vS x.s.a.a.e 187)
def i48 := e x x.s.a.b.h 296 (vS x.s.a.d.a 295)
def i49 := e x x.s.a.c.a 298 (.int 14 297)
def i50 := e x x.s.a.c.b 299 (vr 95)
def i51 := e x x.s.a.a.f 300 .none
def i52 := e x x.s.a.d.b 318 (vr 109)
def i53 := e x x.s.a.b.g 310 (vS x.s.a.a.e 187)
def i54 := e x x.s.a.b.h 312 (vS x.s.a.d.b 311)
def i55 := e x x.s.a.c.a 314 (.int 16 313)
def i56 := e x x.s.a.c.b 315 (vr 107)
def i57 := e x x.s.a.a.f 316 .none
def i58 := e x x.s.a.d.c 334 (vr 121)
def i59 := e x x.s.a.b.g 326 (vS x.s.a.a.e 187)
def i60 := e x x.s.a.b.h 328 (vS x.s.a.d.c 327)
def i61 := e x x.s.a.c.a 330 (.int 18 329)
def i62 := e x x.s.a.c.b 331 (vr 119)
def i63 := e x x.s.a.a.f 332 .none
def i64 := e x x.s.a.d.d 350 (vr 133)
def i65 := e x x.s.a.b.g 342 (vS x.s.a.a.e 187)
def i66 := e x x.s.a.b.h 344 (vS x.s.a.d.d 343)
def i67 := e x x.s.a.c.a 346 (.int 20 345)
def i68 := e x x.s.a.c.b 347 (vr 131)
def i69 := e x x.s.a.a.f 348 .none
def i70 := e x x.s.a.d.e 366 (vr 145)
def i71 := e x x.s.a.b.g 358 (vS x.s.a.a.e 187)
def i72 := e x x.s.a.b.h 360 (vS x.s.a.d.e 359)
def i73 := e x x.s.a.c.a 362 (.int 22 361)
def i74 := e x x.s.a.c.b 363 (vr 143)
def i75 := e x x.s.a.a.f 364 .none
def i76 := e x x.s.a.d.f 382 (vr 157)
def i77 := e x x.s.a.b.g 374 (vS x.s.a.a.e 187)
def i78 := e x x.s.a.b.h 376 (vS x.s.a.d.f 375)
def i79 := e x x.s.a.c.a 378 (.int 24 377)
def i80 := e x x.s.a.c.b 379 (vr 155)
def i81 := e x x.s.a.a.f 380 .none
def i82 := e x x.s.a.d.g 398 (vr 169)
def i83 := e x x.s.a.b.g 390 (vS x.s.a.a.e 187)
def i84 := e x x.s.a.b.h 392 (vS x.s.a.d.g 391)
def i85 := e x x.s.a.c.a 394 (.int 26 393)
def i86 := e x x.s.a.c.b 395 (vr 167)
def i87 := e x x.s.a.a.f 396 .none
def i88 := e x x.s.a.d.h 414 (vr 181)
def i89 := e x x.s.a.b.g 406 (vS x.s.a.a.e 187)
def i90 := e x x.s.a.b.h 408 (vS x.s.a.d.h 407)
def i91 := e x x.s.a.c.a 410 (.int 28 409)
def i92 := e x x.s.a.c.b 411 (vr 179)
def i93 := e x x.s.a.a.f 412 .none
def i94 := e x x.s.a.e.a 430 (vr 193)
def i95 := e x x.s.a.b.g 422 (vS x.s.a.a.e 187)
def i96 := e x x.s.a.b.h 424 (vS x.s.a.e.a 423)
def i97 := e x x.s.a.c.a 426 (.int 30 425)
def i98 := e x x.s.a.c.b 427 (vr 191)
def i99 := e x x.s.a.a.f 428 .none
def zsI := e x x.s.a.e.b 455 (vr 212)
def i101 := e x x.s.a.b.g 438 (vS x.s.a.a.e 187)
def i102 := e x x.s.a.b.h 440 (vS x.s.a.e.b 439)
def i103 := e x x.s.a.c.a 442 (.int 32 441)
def i104 := e x x.s.a.e.c 450 (vr 209)
def i105 := e x x.s.a.c.b 452 (vr 210)
def i106 := e x x.s.a.a.f 453 .none
def ztj := e x x.s.a.e.g 480 (vr 231)
def i108 := e x x.s.a.b.g 463 (vS x.s.a.a.e 187)
def i109 := e x x.s.a.b.h 465 (vS x.s.a.e.g 464)
def i110 := e x x.s.a.c.a 467 (.int 37 466)
def i111 := e x x.s.a.e.c 475 (vr 228)
def i112 := e x x.s.a.c.b 477 (vr 229)
def i113 := e x x.s.a.a.f 478 .none
def ztH := e x x.s.a.f.b 505 (vr 250)
def i115 := e x x.s.a.b.g 488 (vS x.s.a.a.e 187)
def i116 := e x x.s.a.b.h 490 (vS x.s.a.f.b 489)
def i117 := e x x.s.a.c.a 492 (.int 42 491)
def i118 := e x x.s.a.e.c 500 (vr 247)
def i119 := e x x.s.a.c.b 502 (vr 248)
def i120 := e x x.s.a.a.f 503 .none
def i121 := e x x.s.a.a.d 165 (vS x.s.a.f.e 549)
def i122 := e x x.s.a.f.f 530 (vr 269)
def i123 := e x x.s.a.f.g 539 (vr 278)
def i124 := e x x.s.a.f.h 548 (vr 285)
def i125 := e x x.s.a.g.a 552 (.int 60 551)
def i126 := e x x.s.a.g.b 554 (.int 120 553)
def i127 := e x x.s.a.g.c 556 (.int 1000000 555)
def i128 := e x x.s.a.g.d 559 (vr 286)
def i129 := e x x.s.a.g.e 570 (vr 293)
def i130 := e x x.s.a.b.g 513 (vS x.s.a.a.e 187)
def i131 := e x x.s.a.b.h 515 (vS x.s.a.f.f 514)
def i132 := e x x.s.a.c.a 517 (.int 47 516)
def i133 := e x x.s.a.e.c 525 (vr 266)
def i134 := e x x.s.a.c.b 527 (vr 267)
def i135 := e x x.s.a.a.f 528 .none
def i136 := e x x.s.a.a.d 165 (vS x.s.b.a.b 670)
def i137 := e x x.s.b.a.c 582 (vr 300)
def i138 := e x x.s.b.a.d 593 (vr 307)
def i139 := e x x.s.b.a.e 600 (vr 314)
def i140 := e x x.s.b.a.f 612 (vr 321)
def i141 := e x x.s.b.a.g 621 (vr 328)
def i142 := e x x.s.b.a.h 633 (vr 335)
def i143 := e x x.s.b.b.a 642 (vr 342)
def i144 := e x x.s.b.b.b 654 (vr 349)
def i145 := e x x.s.b.b.c 660 (vr 354)
def i146 := e x x.s.b.b.d 669 (vr 361)
def i147 := e x x.s.b.b.e 683 (vr 368)
def i148 := e x x.s.b.b.f 690 (vr 375)
def i149 := e x x.s.b.e.a 698 (vr 382)
def i150 := e x x.s.b.e.b 706 (vr 389)
def i151 := e x x.s.b.e.c 728 (vr 396)
def i152 := e x x.s.b.e.d 734 (vr 401)
def i153 := e x x.s.b.e.e 748 (vr 408)
def i154 := e x x.s.b.e.f 760 (vr 415)
def i155 := e x x.s.b.e.g 766 (vr 420)
def i156 := e x x.s.b.e.h 772 (vr 425)
def i157 := e x x.s.b.f.a 778 (vr 430)
def i158 := e x x.s.b.f.b 788 (vr 437)
def i159 := e x x.s.b.f.c 801 (vr 444)
def i160 := e x x.s.b.f.d 807 (vr 449)
def i161 := e x x.s.c.a.h 819 (vr 456)
def i162 := e x x.s.c.b.a 836 (vr 463)
def zad : Obj := ⟨(vY x.t.a.a.a), none, (.seq #[] 0), #[]⟩
def zav (x : X) : Obj := ⟨.none, none, (.fields #[]), #[]⟩
def zhB : Obj := ⟨(vY x.t.a.a.b), none, (.fields #[(vS x.s.a.a.a 182), (vS x.s.a.a.a 183), (vS x.s.a.a.b 184), (vI 1), vO, vO, vO, vO, (vr 11), (.bool false), (vI 181), (vr 12), .none, .none, .none, .none, (vI 185), (vI 1), (vS x.s.a.a.b 186)]), #[]⟩
def zhA : Obj := ⟨(vY x.t.a.a.c), none, .plain, #[(vR 13), (vR 3), (vR 3), none, (some (vS x.s.a.a.c 164)), none, (vR 0)]⟩
def b817 : Obj := ⟨(vY x.t.a.a.d), none, (.dict #[(i0 x), (i1 x), (i2 x), (i3 x), (i4 x), (i5 x), (i6 x), (i7 x), (i8 x), (i9 x)] 10), #[]⟩
def b818 (x : X) : Obj := ⟨.none, none, (.fields #[(vI 2), vO, (vr 20)]), #[]⟩
def zie : Obj := ⟨(vY x.t.a.a.a), none, (.seq #[(vY x.t.a.a.f)] 0), #[]⟩
def zay : Obj := ⟨(vY x.t.a.a.g), none, (.fields #[(vB x.t.a.a.h), (vY x.t.a.b.a)]), #[]⟩
def zio : Obj := ⟨(vY x.t.a.a.d), none, (.dict #[(i10 x), (i11 x), (i12 x), (i13 x)] 4), #[]⟩
def zhW : Obj := ⟨(vY x.t.a.a.b), none, (.fields #[(vS x.s.a.b.f 191), (vS x.s.a.b.f 192), (vS x.s.a.a.b 193), (vI 2), vO, vO, vO, vO, (vr 18), (.bool false), (vI 181), (vr 19), .none, .none, .none, .none, (vI 194), (vI 2), (vS x.s.a.a.b 195)]), #[]⟩
def ziw : Obj := ⟨(vY x.t.a.a.c), none, .plain, #[(vR 20), (vR 3), (vR 17), none, (some (vS x.s.a.a.e 187)), none, (vR 0)]⟩
def zhZ : Obj := ⟨(vY x.t.a.a.d), none, (.dict #[(i10 x), (i12 x), (i13 x), (i14 x), (i15 x)] 3), #[]⟩
def b828 : Obj := ⟨(vY x.t.a.b.a), none, (.cls ⟨x.s.a.b.f, [(vY x.t.a.a.f)], [(vr 24), (vY x.t.a.a.f), (vY x.t.a.b.b), (vY x.t.a.b.c), (vY x.t.a.b.d)], 23, x.s.a.b.f, true, [], [], false, none, false⟩), #[(vR 15), none, (some (vS x.s.a.b.f 189)), (some (vS x.s.a.b.f 197)), (some (vB x.t.a.b.e)), (some (.bool true))]⟩
def zic : Obj := ⟨(vY x.t.a.b.f), none, (.fields #[(vS x.s.a.c.c 202), (vr 24), (vB x.t.a.b.g), .none]), #[]⟩
def zih : Obj := ⟨(vY x.t.a.b.h), none, (.fields #[(vr 24), (vr 24), (vr 24)]), #[]⟩
def zh9 : Obj := ⟨(vY x.t.a.a.g), none, (.fields #[(vB x.t.a.c.a), (vr 24)]), #[]⟩
def b832 : Obj := ⟨(vY x.t.a.a.d), none, (.dict #[(i0 x), (i1 x), (i2 x), (i3 x), (i4 x), (i5 x), (i6 x), (i7 x), (i8 x), (i9 x), (i16 x)] 11), #[]⟩
def b833 (x : X) : Obj := ⟨.none, none, (.fields #[(vI 2), vO, (vr 20), (vI 4), vO, (vr 33)]), #[]⟩
def b834 : Obj := ⟨(vY x.t.a.b.a), none, (.cls ⟨x.s.a.b.f, [(vY x.t.a.a.f)], [(vr 24), (vY x.t.a.a.f), (vY x.t.a.b.b), (vY x.t.a.b.c), (vY x.t.a.b.d)], 23, x.s.a.b.f, true, [], [(vr 37)], false, none, false⟩), #[(vR 15), none, (some (vS x.s.a.b.f 189)), (some (vS x.s.a.b.f 197)), (some (vB x.t.a.b.e)), (some (.bool true))]⟩
def zaD : Obj := ⟨(vY x.t.a.a.a), none, (.seq #[(vr 24)] 0), #[]⟩
def ziG : Obj := ⟨(vY x.t.a.a.d), none, (.dict #[(i17 x), (i18 x), (i19 x), (i20 x)] 4), #[]⟩
def ziE : Obj := ⟨(vY x.t.a.a.b), none, (.fields #[(vS x.s.a.c.d 209), (vS x.s.a.c.d 210), (vS x.s.a.a.b 211), (vI 4), vO, vO, vO, vO, (vr 31), (.bool false), (vI 181), (vr 32), .none, .none, .none, .none, (vI 212), (vI 4), (vS x.s.a.a.b 213)]), #[]⟩
def ziB : Obj := ⟨(vY x.t.a.a.c), none, .plain, #[(vR 33), (vR 3), (vR 30), none, (some (vS x.s.a.a.e 187)), none, (vR 0)]⟩
def ziC : Obj := ⟨(vY x.t.a.a.d), none, (.dict #[(i17 x), (i19 x), (i20 x), (i21 x)] 2), #[]⟩
def ziA : Obj := ⟨(vY x.t.a.b.a), none, (.cls ⟨x.s.a.c.d, [(vr 24)], [(vr 37), (vr 24), (vY x.t.a.a.f), (vY x.t.a.b.b), (vY x.t.a.b.c), (vY x.t.a.b.d)], 36, x.s.a.c.d, true, [], [], false, none, false⟩), #[(vR 28), none, (some (vS x.s.a.c.d 207)), (some (vS x.s.a.c.d 215)), (some (vB x.t.a.b.e)), (some (.bool true))]⟩
def ziD : Obj := ⟨(vY x.t.a.b.h), none, (.fields #[(vr 37), (vr 37), (vr 37)]), #[]⟩
def ziF : Obj := ⟨(vY x.t.a.a.g), none, (.fields #[(vB x.t.a.c.a), (vr 37)]), #[]⟩
def b847 : Obj := ⟨(vY x.t.a.a.d), none, (.dict #[(i0 x), (i1 x), (i2 x), (i3 x), (i4 x), (i5 x), (i6 x), (i7 x), (i8 x), (i9 x), (i16 x), (i22 x)] 12), #[]⟩
def b848 (x : X) : Obj := ⟨.none, none, (.fields #[(vI 2), vO, (vr 20), (vI 4), vO, (vr 33), (vI 6), vO, (vr 45)]), #[]⟩
def b849 : Obj := ⟨(vY x.t.a.b.a), none, (.cls ⟨x.s.a.b.f, [(vY x.t.a.a.f)], [(vr 24), (vY x.t.a.a.f), (vY x.t.a.b.b), (vY x.t.a.b.c), (vY x.t.a.b.d)], 23, x.s.a.b.f, true, [], [(vr 37), (vr 49)], false, none, false⟩), #[(vR 15), none, (some (vS x.s.a.b.f 189)), (some (vS x.s.a.b.f 197)), (some (vB x.t.a.b.e)), (some (.bool true))]⟩
def ziM : Obj := ⟨(vY x.t.a.a.d), none, (.dict #[(i23 x), (i24 x), (i25 x), (i26 x)] 4), #[]⟩
def ziR : Obj := ⟨(vY x.t.a.a.b), none, (.fields #[(vS x.s.a.c.e 225), (vS x.s.a.c.e 226), (vS x.s.a.a.b 227), (vI 6), vO, vO, vO, vO, (vr 43), (.bool false), (vI 181), (vr 44), .none, .none, .none, .none, (vI 228), (vI 6), (vS x.s.a.a.b 229)]), #[]⟩
def ziX : Obj := ⟨(vY x.t.a.a.c), none, .plain, #[(vR 45), (vR 3), (vR 42), none, (some (vS x.s.a.a.e 187)), none, (vR 0)]⟩
def zi4 : Obj := ⟨(vY x.t.a.a.d), none, (.dict #[(i23 x), (i25 x), (i26 x), (i27 x)] 2), #[]⟩
def ziO : Obj := ⟨(vY x.t.a.b.a), none, (.cls ⟨x.s.a.c.e, [(vr 24)], [(vr 49), (vr 24), (vY x.t.a.a.f), (vY x.t.a.b.b), (vY x.t.a.b.c), (vY x.t.a.b.d)], 48, x.s.a.c.e, true, [], [], false, none, false⟩), #[(vR 40), none, (some (vS x.s.a.c.e 223)), (some (vS x.s.a.c.e 231)), (some (vB x.t.a.b.e)), (some (.bool true))]⟩
def ziQ : Obj := ⟨(vY x.t.a.b.h), none, (.fields #[(vr 49), (vr 49), (vr 49)]), #[]⟩
def zi2 : Obj := ⟨(vY x.t.a.a.g), none, (.fields #[(vB x.t.a.c.a), (vr 49)]), #[]⟩
def b862 : Obj := ⟨(vY x.t.a.a.d), none, (.dict #[(i0 x), (i1 x), (i2 x), (i3 x), (i4 x), (i5 x), (i6 x), (i7 x), (i8 x), (i9 x), (i16 x), (i22 x), (i28 x)] 13), #[]⟩
def b863 (x : X) : Obj := ⟨.none, none, (.fields #[(vI 2), vO, (vr 20), (vI 4), vO, (vr 33), (vI 6), vO, (vr 45), (vI 8), vO, (vr 57)]), #[]⟩
def b864 : Obj := ⟨(vY x.t.a.b.a), none, (.cls ⟨x.s.a.b.f, [(vY x.t.a.a.f)], [(vr 24), (vY x.t.a.a.f), (vY x.t.a.b.b), (vY x.t.a.b.c), (vY x.t.a.b.d)], 23, x.s.a.b.f, true, [], [(vr 37), (vr 49), (vr 61)], false, none, false⟩), #[(vR 15), none, (some (vS x.s.a.b.f 189)), (some (vS x.s.a.b.f 197)), (some (vB x.t.a.b.e)), (some (.bool true))]⟩
def zjk : Obj := ⟨(vY x.t.a.a.d), none, (.dict #[(i29 x), (i30 x), (i31 x), (i32 x)] 4), #[]⟩
def zjh : Obj := ⟨(vY x.t.a.a.b), none, (.fields #[(vS x.s.a.c.f 241), (vS x.s.a.c.f 242), (vS x.s.a.a.b 243), (vI 8), vO, vO, vO, vO, (vr 55), (.bool false), (vI 181), (vr 56), .none, .none, .none, .none, (vI 244), (vI 8), (vS x.s.a.a.b 245)]), #[]⟩
def zji : Obj := ⟨(vY x.t.a.a.c), none, .plain, #[(vR 57), (vR 3), (vR 54), none, (some (vS x.s.a.a.e 187)), none, (vR 0)]⟩
def zjd : Obj := ⟨(vY x.t.a.a.d), none, (.dict #[(i29 x), (i31 x), (i32 x), (i33 x)] 2), #[]⟩
def zjl : Obj := ⟨(vY x.t.a.b.a), none, (.cls ⟨x.s.a.c.f, [(vr 24)], [(vr 61), (vr 24), (vY x.t.a.a.f), (vY x.t.a.b.b), (vY x.t.a.b.c), (vY x.t.a.b.d)], 60, x.s.a.c.f, true, [], [], false, none, false⟩), #[(vR 52), none, (some (vS x.s.a.c.f 239)), (some (vS x.s.a.c.f 247)), (some (vB x.t.a.b.e)), (some (.bool true))]⟩
def zje : Obj := ⟨(vY x.t.a.b.h), none, (.fields #[(vr 61), (vr 61), (vr 61)]), #[]⟩
def zi9 : Obj := ⟨(vY x.t.a.a.g), none, (.fields #[(vB x.t.a.c.a), (vr 61)]), #[]⟩
def b877 : Obj := ⟨(vY x.t.a.a.d), none, (.dict #[(i0 x), (i1 x), (i2 x), (i3 x), (i4 x), (i5 x), (i6 x), (i7 x), (i8 x), (i9 x), (i16 x), (i22 x), (i28 x), (i34 x)] 14), #[]⟩
def b878 (x : X) : Obj := ⟨.none, none, (.fields #[(vI 2), vO, (vr 20), (vI 4), vO, (vr 33), (vI 6), vO, (vr 45), (vI 8), vO, (vr 57), (vI 10), vO, (vr 69)]), #[]⟩
def b879 : Obj := ⟨(vY x.t.a.b.a), none, (.cls ⟨x.s.a.b.f, [(vY x.t.a.a.f)], [(vr 24), (vY x.t.a.a.f), (vY x.t.a.b.b), (vY x.t.a.b.c), (vY x.t.a.b.d)], 23, x.s.a.b.f, true, [], [(vr 37), (vr 49), (vr 61), (vr 73)], false, none, false⟩), #[(vR 15), none, (some (vS x.s.a.b.f 189)), (some (vS x.s.a.b.f 197)), (some (vB x.t.a.b.e)), (some (.bool true))]⟩
def zjI : Obj := ⟨(vY x.t.a.a.d), none, (.dict #[(i35 x), (i36 x), (i37 x), (i38 x)] 4), #[]⟩
def zjW : Obj := ⟨(vY x.t.a.a.b), none, (.fields #[(vS x.s.a.c.g 257), (vS x.s.a.c.g 258), (vS x.s.a.a.b 259), (vI 10), vO, vO, vO, vO, (vr 67), (.bool false), (vI 181), (vr 68), .none, .none, .none, .none, (vI 260), (vI 10), (vS x.s.a.a.b 261)]), #[]⟩
def zkh : Obj := ⟨(vY x.t.a.a.c), none, .plain, #[(vR 69), (vR 3), (vR 66), none, (some (vS x.s.a.a.e 187)), none, (vR 0)]⟩
def zj6 : Obj := ⟨(vY x.t.a.a.d), none, (.dict #[(i35 x), (i37 x), (i38 x), (i39 x)] 2), #[]⟩
def zjT : Obj := ⟨(vY x.t.a.b.a), none, (.cls ⟨x.s.a.c.g, [(vr 24)], [(vr 73), (vr 24), (vY x.t.a.a.f), (vY x.t.a.b.b), (vY x.t.a.b.c), (vY x.t.a.b.d)], 72, x.s.a.c.g, true, [], [], false, none, false⟩), #[(vR 64), none, (some (vS x.s.a.c.g 255)), (some (vS x.s.a.c.g 263)), (some (vB x.t.a.b.e)), (some (.bool true))]⟩
def zjX : Obj := ⟨(vY x.t.a.b.h), none, (.fields #[(vr 73), (vr 73), (vr 73)]), #[]⟩
def zjL : Obj := ⟨(vY x.t.a.a.g), none, (.fields #[(vB x.t.a.c.a), (vr 73)]), #[]⟩
def b892 : Obj := ⟨(vY x.t.a.a.d), none, (.dict #[(i0 x), (i1 x), (i2 x), (i3 x), (i4 x), (i5 x), (i6 x), (i7 x), (i8 x), (i9 x), (i16 x), (i22 x), (i28 x), (i34 x), (i40 x)] 15), #[]⟩
def b893 (x : X) : Obj := ⟨.none, none, (.fields #[(vI 2), vO, (vr 20), (vI 4), vO, (vr 33), (vI 6), vO, (vr 45), (vI 8), vO, (vr 57), (vI 10), vO, (vr 69), (vI 12), vO, (vr 81)]), #[]⟩
def b894 : Obj := ⟨(vY x.t.a.b.a), none, (.cls ⟨x.s.a.b.f, [(vY x.t.a.a.f)], [(vr 24), (vY x.t.a.a.f), (vY x.t.a.b.b), (vY x.t.a.b.c), (vY x.t.a.b.d)], 23, x.s.a.b.f, true, [], [(vr 37), (vr 49), (vr 61), (vr 73), (vr 85)], false, none, false⟩), #[(vR 15), none, (some (vS x.s.a.b.f 189)), (some (vS x.s.a.b.f 197)), (some (vB x.t.a.b.e)), (some (.bool true))]⟩
def zkk : Obj := ⟨(vY x.t.a.a.d), none, (.dict #[(i41 x), (i42 x), (i43 x), (i44 x)] 4), #[]⟩
def zko : Obj := ⟨(vY x.t.a.a.b), none, (.fields #[(vS x.s.a.c.h 273), (vS x.s.a.c.h 274), (vS x.s.a.a.b 275), (vI 12), vO, vO, vO, vO, (vr 79), (.bool false), (vI 181), (vr 80), .none, .none, .none, .none, (vI 276), (vI 12), (vS x.s.a.a.b 277)]), #[]⟩
def zkj : Obj := ⟨(vY x.t.a.a.c), none, .plain, #[(vR 81), (vR 3), (vR 78), none, (some (vS x.s.a.a.e 187)), none, (vR 0)]⟩
def zkm : Obj := ⟨(vY x.t.a.a.d), none, (.dict #[(i41 x), (i43 x), (i44 x), (i45 x)] 2), #[]⟩
def zki : Obj := ⟨(vY x.t.a.b.a), none, (.cls ⟨x.s.a.c.h, [(vr 24)], [(vr 85), (vr 24), (vY x.t.a.a.f), (vY x.t.a.b.b), (vY x.t.a.b.c), (vY x.t.a.b.d)], 84, x.s.a.c.h, true, [], [], false, none, false⟩), #[(vR 76), none, (some (vS x.s.a.c.h 271)), (some (vS x.s.a.c.h 279)), (some (vB x.t.a.b.e)), (some (.bool true))]⟩
def zkn : Obj := ⟨(vY x.t.a.b.h), none, (.fields #[(vr 85), (vr 85), (vr 85)]), #[]⟩
def zkl : Obj := ⟨(vY x.t.a.a.g), none, (.fields #[(vB x.t.a.c.a), (vr 85)]), #[]⟩
def b907 : Obj := ⟨(vY x.t.a.a.d), none, (.dict #[(i0 x), (i1 x), (i2 x), (i3 x), (i4 x), (i5 x), (i6 x), (i7 x), (i8 x), (i9 x), (i16 x), (i22 x), (i28 x), (i34 x), (i40 x), (i46 x)] 16), #[]⟩
def b908 (x : X) : Obj := ⟨.none, none, (.fields #[(vI 2), vO, (vr 20), (vI 4), vO, (vr 33), (vI 6), vO, (vr 45), (vI 8), vO, (vr 57), (vI 10), vO, (vr 69), (vI 12), vO, (vr 81), (vI 14), vO, (vr 93)]), #[]⟩
def b909 : Obj := ⟨(vY x.t.a.b.a), none, (.cls ⟨x.s.a.b.f, [(vY x.t.a.a.f)], [(vr 24), (vY x.t.a.a.f), (vY x.t.a.b.b), (vY x.t.a.b.c), (vY x.t.a.b.d)], 23, x.s.a.b.f, true, [], [(vr 37), (vr 49), (vr 61), (vr 73), (vr 85), (vr 97)], false, none, false⟩), #[(vR 15), none, (some (vS x.s.a.b.f 189)), (some (vS x.s.a.b.f 197)), (some (vB x.t.a.b.e)), (some (.bool true))]⟩
def zks : Obj := ⟨(vY x.t.a.a.d), none, (.dict #[(i47 x), (i48 x), (i49 x), (i50 x)] 4), #[]⟩
def zlt : Obj := ⟨(vY x.t.a.a.b), none, (.fields #[(vS x.s.a.d.a 289), (vS x.s.a.d.a 290), (vS x.s.a.a.b 291), (vI 14), vO, vO, vO, vO, (vr 91), (.bool false), (vI 181), (vr 92), .none, .none, .none, .none, (vI 292), (vI 14), (vS x.s.a.a.b 293)]), #[]⟩
def zkQ : Obj := ⟨(vY x.t.a.a.c), none, .plain, #[(vR 93), (vR 3), (vR 90), none, (some (vS x.s.a.a.e 187)), none, (vR 0)]⟩
def zlb : Obj := ⟨(vY x.t.a.a.d), none, (.dict #[(i47 x), (i49 x), (i50 x), (i51 x)] 2), #[]⟩
def zlj : Obj := ⟨(vY x.t.a.b.a), none, (.cls ⟨x.s.a.d.a, [(vr 24)], [(vr 97), (vr 24), (vY x.t.a.a.f), (vY x.t.a.b.b), (vY x.t.a.b.c), (vY x.t.a.b.d)], 96, x.s.a.d.a, true, [], [], false, none, false⟩), #[(vR 88), none, (some (vS x.s.a.d.a 287)), (some (vS x.s.a.d.a 295)), (some (vB x.t.a.b.e)), (some (.bool true))]⟩
def zkT : Obj := ⟨(vY x.t.a.b.h), none, (.fields #[(vr 97), (vr 97), (vr 97)]), #[]⟩
def zlu : Obj := ⟨(vY x.t.a.a.g), none, (.fields #[(vB x.t.a.c.a), (vr 97)]), #[]⟩
def b922 : Obj := ⟨(vY x.t.a.a.d), none, (.dict #[(i0 x), (i1 x), (i2 x), (i3 x), (i4 x), (i5 x), (i6 x), (i7 x), (i8 x), (i9 x), (i16 x), (i22 x), (i28 x), (i34 x), (i40 x), (i46 x), (i52 x)] 17), #[]⟩
def b923 (x : X) : Obj := ⟨.none, none, (.fields #[(vI 2), vO, (vr 20), (vI 4), vO, (vr 33), (vI 6), vO, (vr 45), (vI 8), vO, (vr 57), (vI 10), vO, (vr 69), (vI 12), vO, (vr 81), (vI 14), vO, (vr 93), (vI 16), vO, (vr 105)]), #[]⟩
def b924 : Obj := ⟨(vY x.t.a.b.a), none, (.cls ⟨x.s.a.b.f, [(vY x.t.a.a.f)], [(vr 24), (vY x.t.a.a.f), (vY x.t.a.b.b), (vY x.t.a.b.c), (vY x.t.a.b.d)], 23, x.s.a.b.f, true, [], [(vr 37), (vr 49), (vr 61), (vr 73), (vr 85), (vr 97), (vr 109)], false, none, false⟩), #[(vR 15), none, (some (vS x.s.a.b.f 189)), (some (vS x.s.a.b.f 197)), (some (vB x.t.a.b.e)), (some (.bool true))]⟩
def zlD : Obj := ⟨(vY x.t.a.a.d), none, (.dict #[(i53 x), (i54 x), (i55 x), (i56 x)] 4), #[]⟩
def zlK : Obj := ⟨(vY x.t.a.a.b), none, (.fields #[(vS x.s.a.d.b 305), (vS x.s.a.d.b 306), (vS x.s.a.a.b 307), (vI 16), vO, vO, vO, vO, (vr 103), (.bool false), (vI 181), (vr 104), .none, .none, .none, .none, (vI 308), (vI 16), (vS x.s.a.a.b 309)]), #[]⟩
def zlC : Obj := ⟨(vY x.t.a.a.c), none, .plain, #[(vR 105), (vR 3), (vR 102), none, (some (vS x.s.a.a.e 187)), none, (vR 0)]⟩
def zlI : Obj := ⟨(vY x.t.a.a.d), none, (.dict #[(i53 x), (i55 x), (i56 x), (i57 x)] 2), #[]⟩
def zlE : Obj := ⟨(vY x.t.a.b.a), none, (.cls ⟨x.s.a.d.b, [(vr 24)], [(vr 109), (vr 24), (vY x.t.a.a.f), (vY x.t.a.b.b), (vY x.t.a.b.c), (vY x.t.a.b.d)], 108, x.s.a.d.b, true, [], [], false, none, false⟩), #[(vR 100), none, (some (vS x.s.a.d.b 303)), (some (vS x.s.a.d.b 311)), (some (vB x.t.a.b.e)), (some (.bool true))]⟩
def zlJ : Obj := ⟨(vY x.t.a.b.h), none, (.fields #[(vr 109), (vr 109), (vr 109)]), #[]⟩
def zlH : Obj := ⟨(vY x.t.a.a.g), none, (.fields #[(vB x.t.a.c.a), (vr 109)]), #[]⟩
def b937 : Obj := ⟨(vY x.t.a.a.d), none, (.dict #[(i0 x), (i1 x), (i2 x), (i3 x), (i4 x), (i5 x), (i6 x), (i7 x), (i8 x), (i9 x), (i16 x), (i22 x), (i28 x), (i34 x), (i40 x), (i46 x), (i52 x), (i58 x)] 18), #[]⟩
def b938 (x : X) : Obj := ⟨.none, none, (.fields #[(vI 2), vO, (vr 20), (vI 4), vO, (vr 33), (vI 6), vO, (vr 45), (vI 8), vO, (vr 57), (vI 10), vO, (vr 69), (vI 12), vO, (vr 81), (vI 14), vO, (vr 93), (vI 16), vO, (vr 105), (vI 18), vO, (vr 117)]), #[]⟩
def b939 : Obj := ⟨(vY x.t.a.b.a), none, (.cls ⟨x.s.a.b.f, [(vY x.t.a.a.f)], [(vr 24), (vY x.t.a.a.f), (vY x.t.a.b.b), (vY x.t.a.b.c), (vY x.t.a.b.d)], 23, x.s.a.b.f, true, [], [(vr 37), (vr 49), (vr 61), (vr 73), (vr 85), (vr 97), (vr 109), (vr 121)], false, none, false⟩), #[(vR 15), none, (some (vS x.s.a.b.f 189)), (some (vS x.s.a.b.f 197)), (some (vB x.t.a.b.e)), (some (.bool true))]⟩
def zlL : Obj := ⟨(vY x.t.a.a.d), none, (.dict #[(i59 x), (i60 x), (i61 x), (i62 x)] 4), #[]⟩
def zms : Obj := ⟨(vY x.t.a.a.b), none, (.fields #[(vS x.s.a.d.c 321), (vS x.s.a.d.c 322), (vS x.s.a.a.b 323), (vI 18), vO, vO, vO, vO, (vr 115), (.bool false), (vI 181), (vr 116), .none, .none, .none, .none, (vI 324), (vI 18), (vS x.s.a.a.b 325)]), #[]⟩
def zlS : Obj := ⟨(vY x.t.a.a.c), none, .plain, #[(vR 117), (vR 3), (vR 114), none, (some (vS x.s.a.a.e 187)), none, (vR 0)]⟩
def zlP : Obj := ⟨(vY x.t.a.a.d), none, (.dict #[(i59 x), (i61 x), (i62 x), (i63 x)] 2), #[]⟩
def zl0 : Obj := ⟨(vY x.t.a.b.a), none, (.cls ⟨x.s.a.d.c, [(vr 24)], [(vr 121), (vr 24), (vY x.t.a.a.f), (vY x.t.a.b.b), (vY x.t.a.b.c), (vY x.t.a.b.d)], 120, x.s.a.d.c, true, [], [], false, none, false⟩), #[(vR 112), none, (some (vS x.s.a.d.c 319)), (some (vS x.s.a.d.c 327)), (some (vB x.t.a.b.e)), (some (.bool true))]⟩
def zlR : Obj := ⟨(vY x.t.a.b.h), none, (.fields #[(vr 121), (vr 121), (vr 121)]), #[]⟩
def zl5 : Obj := ⟨(vY x.t.a.a.g), none, (.fields #[(vB x.t.a.c.a), (vr 121)]), #[]⟩
def b952 : Obj := ⟨(vY x.t.a.a.d), none, (.dict #[(i0 x), (i1 x), (i2 x), (i3 x), (i4 x), (i5 x), (i6 x), (i7 x), (i8 x), (i9 x), (i16 x), (i22 x), (i28 x), (i34 x), (i40 x), (i46 x), (i52 x), (i58 x), (i64 x)] 19), #[]⟩
def b953 (x : X) : Obj := ⟨.none, none, (.fields #[(vI 2), vO, (vr 20), (vI 4), vO, (vr 33), (vI 6), vO, (vr 45), (vI 8), vO, (vr 57), (vI 10), vO, (vr 69), (vI 12), vO, (vr 81), (vI 14), vO, (vr 93), (vI 16), vO, (vr 105), (vI 18), vO, (vr 117), (vI 20), vO, (vr 129)]), #[]⟩
def b954 : Obj := ⟨(vY x.t.a.b.a), none, (.cls ⟨x.s.a.b.f, [(vY x.t.a.a.f)], [(vr 24), (vY x.t.a.a.f), (vY x.t.a.b.b), (vY x.t.a.b.c), (vY x.t.a.b.d)], 23, x.s.a.b.f, true, [], [(vr 37), (vr 49), (vr 61), (vr 73), (vr 85), (vr 97), (vr 109), (vr 121), (vr 133)], false, none, false⟩), #[(vR 15), none, (some (vS x.s.a.b.f 189)), (some (vS x.s.a.b.f 197)), (some (vB x.t.a.b.e)), (some (.bool true))]⟩
def zm8 : Obj := ⟨(vY x.t.a.a.d), none, (.dict #[(i65 x), (i66 x), (i67 x), (i68 x)] 4), #[]⟩
def zmJ : Obj := ⟨(vY x.t.a.a.b), none, (.fields #[(vS x.s.a.d.d 337), (vS x.s.a.d.d 338), (vS x.s.a.a.b 339), (vI 20), vO, vO, vO, vO, (vr 127), (.bool false), (vI 181), (vr 128), .none, .none, .none, .none, (vI 340), (vI 20), (vS x.s.a.a.b 341)]), #[]⟩
def zmX : Obj := ⟨(vY x.t.a.a.c), none, .plain, #[(vR 129), (vR 3), (vR 126), none, (some (vS x.s.a.a.e 187)), none, (vR 0)]⟩
def zmH : Obj := ⟨(vY x.t.a.a.d), none, (.dict #[(i65 x), (i67 x), (i68 x), (i69 x)] 2), #[]⟩
def zng : Obj := ⟨(vY x.t.a.b.a), none, (.cls ⟨x.s.a.d.d, [(vr 24)], [(vr 133), (vr 24), (vY x.t.a.a.f), (vY x.t.a.b.b), (vY x.t.a.b.c), (vY x.t.a.b.d)], 132, x.s.a.d.d, true, [], [], false, none, false⟩), #[(vR 124), none, (some (vS x.s.a.d.d 335)), (some (vS x.s.a.d.d 343)), (some (vB x.t.a.b.e)), (some (.bool true))]⟩
def zmZ : Obj := ⟨(vY x.t.a.b.h), none, (.fields #[(vr 133), (vr 133), (vr 133)]), #[]⟩
def zmT : Obj := ⟨(vY x.t.a.a.g), none, (.fields #[(vB x.t.a.c.a), (vr 133)]), #[]⟩
def b967 : Obj := ⟨(vY x.t.a.a.d), none, (.dict #[(i0 x), (i1 x), (i2 x), (i3 x), (i4 x), (i5 x), (i6 x), (i7 x), (i8 x), (i9 x), (i16 x), (i22 x), (i28 x), (i34 x), (i40 x), (i46 x), (i52 x), (i58 x), (i64 x), (i70 x)] 20), #[]⟩
def b968 (x : X) : Obj := ⟨.none, none, (.fields #[(vI 2), vO, (vr 20), (vI 4), vO, (vr 33), (vI 6), vO, (vr 45), (vI 8), vO, (vr 57), (vI 10), vO, (vr 69), (vI 12), vO, (vr 81), (vI 14), vO, (vr 93), (vI 16), vO, (vr 105), (vI 18), vO, (vr 117), (vI 20), vO, (vr 129), (vI 22), vO, (vr 141)]), #[]⟩
def b969 : Obj := ⟨(vY x.t.a.b.a), none, (.cls ⟨x.s.a.b.f, [(vY x.t.a.a.f)], [(vr 24), (vY x.t.a.a.f), (vY x.t.a.b.b), (vY x.t.a.b.c), (vY x.t.a.b.d)], 23, x.s.a.b.f, true, [], [(vr 37), (vr 49), (vr 61), (vr 73), (vr 85), (vr 97), (vr 109), (vr 121), (vr 133), (vr 145)], false, none, false⟩), #[(vR 15), none, (some (vS x.s.a.b.f 189)), (some (vS x.s.a.b.f 197)), (some (vB x.t.a.b.e)), (some (.bool true))]⟩
def znl : Obj := ⟨(vY x.t.a.a.d), none, (.dict #[(i71 x), (i72 x), (i73 x), (i74 x)] 4), #[]⟩
def zni : Obj := ⟨(vY x.t.a.a.b), none, (.fields #[(vS x.s.a.d.e 353), (vS x.s.a.d.e 354), (vS x.s.a.a.b 355), (vI 22), vO, vO, vO, vO, (vr 139), (.bool false), (vI 181), (vr 140), .none, .none, .none, .none, (vI 356), (vI 22), (vS x.s.a.a.b 357)]), #[]⟩
def znV : Obj := ⟨(vY x.t.a.a.c), none, .plain, #[(vR 141), (vR 3), (vR 138), none, (some (vS x.s.a.a.e 187)), none, (vR 0)]⟩
def znA : Obj := ⟨(vY x.t.a.a.d), none, (.dict #[(i71 x), (i73 x), (i74 x), (i75 x)] 2), #[]⟩
def znq : Obj := ⟨(vY x.t.a.b.a), none, (.cls ⟨x.s.a.d.e, [(vr 24)], [(vr 145), (vr 24), (vY x.t.a.a.f), (vY x.t.a.b.b), (vY x.t.a.b.c), (vY x.t.a.b.d)], 144, x.s.a.d.e, true, [], [], false, none, false⟩), #[(vR 136), none, (some (vS x.s.a.d.e 351)), (some (vS x.s.a.d.e 359)), (some (vB x.t.a.b.e)), (some (.bool true))]⟩
def znU : Obj := ⟨(vY x.t.a.b.h), none, (.fields #[(vr 145), (vr 145), (vr 145)]), #[]⟩
def znS : Obj := ⟨(vY x.t.a.a.g), none, (.fields #[(vB x.t.a.c.a), (vr 145)]), #[]⟩
def b982 : Obj := ⟨(vY x.t.a.a.d), none, (.dict #[(i0 x), (i1 x), (i2 x), (i3 x), (i4 x), (i5 x), (i6 x), (i7 x), (i8 x), (i9 x), (i16 x), (i22 x), (i28 x), (i34 x), (i40 x), (i46 x), (i52 x), (i58 x), (i64 x), (i70 x), (i76 x)] 21), #[]⟩
def b983 (x : X) : Obj := ⟨.none, none, (.fields #[(vI 2), vO, (vr 20), (vI 4), vO, (vr 33), (vI 6), vO, (vr 45), (vI 8), vO, (vr 57), (vI 10), vO, (vr 69), (vI 12), vO, (vr 81), (vI 14), vO, (vr 93), (vI 16), vO, (vr 105), (vI 18), vO, (vr 117), (vI 20), vO, (vr 129), (vI 22), vO, (vr 141), (vI 24), vO, (vr 153)]), #[]⟩
def b984 : Obj := ⟨(vY x.t.a.b.a), none, (.cls ⟨x.s.a.b.f, [(vY x.t.a.a.f)], [(vr 24), (vY x.t.a.a.f), (vY x.t.a.b.b), (vY x.t.a.b.c), (vY x.t.a.b.d)], 23, x.s.a.b.f, true, [], [(vr 37), (vr 49), (vr 61), (vr 73), (vr 85), (vr 97), (vr 109), (vr 121), (vr 133), (vr 145), (vr 157)], false, none, false⟩), #[(vR 15), none, (some (vS x.s.a.b.f 189)), (some (vS x.s.a.b.f 197)), (some (vB x.t.a.b.e)), (some (.bool true))]⟩
def znZ : Obj := ⟨(vY x.t.a.a.d), none, (.dict #[(i77 x), (i78 x), (i79 x), (i80 x)] 4), #[]⟩
def zn6 : Obj := ⟨(vY x.t.a.a.b), none, (.fields #[(vS x.s.a.d.f 369), (vS x.s.a.d.f 370), (vS x.s.a.a.b 371), (vI 24), vO, vO, vO, vO, (vr 151), (.bool false), (vI 181), (vr 152), .none, .none, .none, .none, (vI 372), (vI 24), (vS x.s.a.a.b 373)]), #[]⟩
def zn3 : Obj := ⟨(vY x.t.a.a.c), none, .plain, #[(vR 153), (vR 3), (vR 150), none, (some (vS x.s.a.a.e 187)), none, (vR 0)]⟩
def zn5 : Obj := ⟨(vY x.t.a.a.d), none, (.dict #[(i77 x), (i79 x), (i80 x), (i81 x)] 2), #[]⟩
def zn8 : Obj := ⟨(vY x.t.a.b.a), none, (.cls ⟨x.s.a.d.f, [(vr 24)], [(vr 157), (vr 24), (vY x.t.a.a.f), (vY x.t.a.b.b), (vY x.t.a.b.c), (vY x.t.a.b.d)], 156, x.s.a.d.f, true, [], [], false, none, false⟩), #[(vR 148), none, (some (vS x.s.a.d.f 367)), (some (vS x.s.a.d.f 375)), (some (vB x.t.a.b.e)), (some (.bool true))]⟩
def zn2 : Obj := ⟨(vY x.t.a.b.h), none, (.fields #[(vr 157), (vr 157), (vr 157)]), #[]⟩
def zn7 : Obj := ⟨(vY x.t.a.a.g), none, (.fields #[(vB x.t.a.c.a), (vr 157)]), #[]⟩
def b997 : Obj := ⟨(vY x.t.a.a.d), none, (.dict #[(i0 x), (i1 x), (i2 x), (i3 x), (i4 x), (i5 x), (i6 x), (i7 x), (i8 x), (i9 x), (i16 x), (i22 x), (i28 x), (i34 x), (i40 x), (i46 x), (i52 x), (i58 x), (i64 x), (i70 x), (i76 x), (i82 x)] 22), #[]⟩
def b998 (x : X) : Obj := ⟨.none, none, (.fields #[(vI 2), vO, (vr 20), (vI 4), vO, (vr 33), (vI 6), vO, (vr 45), (vI 8), vO, (vr 57), (vI 10), vO, (vr 69), (vI 12), vO, (vr 81), (vI 14), vO, (vr 93), (vI 16), vO, (vr 105), (vI 18), vO, (vr 117), (vI 20), vO, (vr 129), (vI 22), vO, (vr 141), (vI 24), vO, (vr 153), (vI 26), vO, (vr 165)]), #[]⟩
def b999 : Obj := ⟨(vY x.t.a.b.a), none, (.cls ⟨x.s.a.b.f, [(vY x.t.a.a.f)], [(vr 24), (vY x.t.a.a.f), (vY x.t.a.b.b), (vY x.t.a.b.c), (vY x.t.a.b.d)], 23, x.s.a.b.f, true, [], [(vr 37), (vr 49), (vr 61), (vr 73), (vr 85), (vr 97), (vr 109), (vr 121), (vr 133), (vr 145), (vr 157), (vr 169)], false, none, false⟩), #[(vR 15), none, (some (vS x.s.a.b.f 189)), (some (vS x.s.a.b.f 197)), (some (vB x.t.a.b.e)), (some (.bool true))]⟩
def zh4 : Obj := ⟨(vY x.t.a.a.d), none, (.dict #[(i83 x), (i84 x), (i85 x), (i86 x)] 4), #[]⟩
def zhO : Obj := ⟨(vY x.t.a.a.b), none, (.fields #[(vS x.s.a.d.g 385), (vS x.s.a.d.g 386), (vS x.s.a.a.b 387), (vI 26), vO, vO, vO, vO, (vr 163), (.bool false), (vI 181), (vr 164), .none, .none, .none, .none, (vI 388), (vI 26), (vS x.s.a.a.b 389)]), #[]⟩
def zij : Obj := ⟨(vY x.t.a.a.c), none, .plain, #[(vR 165), (vR 3), (vR 162), none, (some (vS x.s.a.a.e 187)), none, (vR 0)]⟩
def zhS : Obj := ⟨(vY x.t.a.a.d), none, (.dict #[(i83 x), (i85 x), (i86 x), (i87 x)] 2), #[]⟩
def zid : Obj := ⟨(vY x.t.a.b.a), none, (.cls ⟨x.s.a.d.g, [(vr 24)], [(vr 169), (vr 24), (vY x.t.a.a.f), (vY x.t.a.b.b), (vY x.t.a.b.c), (vY x.t.a.b.d)], 168, x.s.a.d.g, true, [], [], false, none, false⟩), #[(vR 160), none, (some (vS x.s.a.d.g 383)), (some (vS x.s.a.d.g 391)), (some (vB x.t.a.b.e)), (some (.bool true))]⟩
def zhM : Obj := ⟨(vY x.t.a.b.h), none, (.fields #[(vr 169), (vr 169), (vr 169)]), #[]⟩
def ziq : Obj := ⟨(vY x.t.a.a.g), none, (.fields #[(vB x.t.a.c.a), (vr 169)]), #[]⟩
def b1012 : Obj := ⟨(vY x.t.a.a.d), none, (.dict #[(i0 x), (i1 x), (i2 x), (i3 x), (i4 x), (i5 x), (i6 x), (i7 x), (i8 x), (i9 x), (i16 x), (i22 x), (i28 x), (i34 x), (i40 x), (i46 x), (i52 x), (i58 x), (i64 x), (i70 x), (i76 x), (i82 x), (i88 x)] 23), #[]⟩
def b1013 (x : X) : Obj := ⟨.none, none, (.fields #[(vI 2), vO, (vr 20), (vI 4), vO, (vr 33), (vI 6), vO, (vr 45), (vI 8), vO, (vr 57), (vI 10), vO, (vr 69), (vI 12), vO, (vr 81), (vI 14), vO, (vr 93), (vI 16), vO, (vr 105), (vI 18), vO, (vr 117), (vI 20), vO, (vr 129), (vI 22), vO, (vr 141), (vI 24), vO, (vr 153), (vI 26), vO, (vr 165), (vI 28), vO, (vr 177)]), #[]⟩
def b1014 : Obj := ⟨(vY x.t.a.b.a), none, (.cls ⟨x.s.a.b.f, [(vY x.t.a.a.f)], [(vr 24), (vY x.t.a.a.f), (vY x.t.a.b.b), (vY x.t.a.b.c), (vY x.t.a.b.d)], 23, x.s.a.b.f, true, [], [(vr 37), (vr 49), (vr 61), (vr 73), (vr 85), (vr 97), (vr 109), (vr 121), (vr 133), (vr 145), (vr 157), (vr 169), (vr 181)], false, none, false⟩), #[(vR 15), none, (some (vS x.s.a.b.f 189)), (some (vS x.s.a.b.f 197)), (some (vB x.t.a.b.e)), (some (.bool true))]⟩
def ziP : Obj := ⟨(vY x.t.a.a.d), none, (.dict #[(i89 x), (i90 x), (i91 x), (i92 x)] 4), #[]⟩
def ziJ : Obj := ⟨(vY x.t.a.a.b), none, (.fields #[(vS x.s.a.d.h 401), (vS x.s.a.d.h 402), (vS x.s.a.a.b 403), (vI 28), vO, vO, vO, vO, (vr 175), (.bool false), (vI 181), (vr 176), .none, .none, .none, .none, (vI 404), (vI 28), (vS x.s.a.a.b 405)]), #[]⟩
def ziH : Obj := ⟨(vY x.t.a.a.c), none, .plain, #[(vR 177), (vR 3), (vR 174), none, (some (vS x.s.a.a.e 187)), none, (vR 0)]⟩
def ziY : Obj := ⟨(vY x.t.a.a.d), none, (.dict #[(i89 x), (i91 x), (i92 x), (i93 x)] 2), #[]⟩
def ziT : Obj := ⟨(vY x.t.a.b.a), none, (.cls ⟨x.s.a.d.h, [(vr 24)], [(vr 181), (vr 24), (vY x.t.a.a.f), (vY x.t.a.b.b), (vY x.t.a.b.c), (vY x.t.a.b.d)], 180, x.s.a.d.h, true, [], [], false, none, false⟩), #[(vR 172), none, (some (vS x.s.a.d.h 399)), (some (vS x.s.a.d.h 407)), (some (vB x.t.a.b.e)), (some (.bool true))]⟩
def ziK : Obj := ⟨(vY x.t.a.b.h), none, (.fields #[(vr 181), (vr 181), (vr 181)]), #[]⟩
def ziU : Obj := ⟨(vY x.t.a.a.g), none, (.fields #[(vB x.t.a.c.a), (vr 181)]), #[]⟩
def b1027 : Obj := ⟨(vY x.t.a.a.d), none, (.dict #[(i0 x), (i1 x), (i2 x), (i3 x), (i4 x), (i5 x), (i6 x), (i7 x), (i8 x), (i9 x), (i16 x), (i22 x), (i28 x), (i34 x), (i40 x), (i46 x), (i52 x), (i58 x), (i64 x), (i70 x), (i76 x), (i82 x), (i88 x), (i94 x)] 24), #[]⟩
def b1028 (x : X) : Obj := ⟨.none, none, (.fields #[(vI 2), vO, (vr 20), (vI 4), vO, (vr 33), (vI 6), vO, (vr 45), (vI 8), vO, (vr 57), (vI 10), vO, (vr 69), (vI 12), vO, (vr 81), (vI 14), vO, (vr 93), (vI 16), vO, (vr 105), (vI 18), vO, (vr 117), (vI 20), vO, (vr 129), (vI 22), vO, (vr 141), (vI 24), vO, (vr 153), (vI 26), vO, (vr 165), (vI 28), vO, (vr 177), (vI 30), vO, (vr 189)]), #[]⟩
def b1029 : Obj := ⟨(vY x.t.a.b.a), none, (.cls ⟨x.s.a.b.f, [(vY x.t.a.a.f)], [(vr 24), (vY x.t.a.a.f), (vY x.t.a.b.b), (vY x.t.a.b.c), (vY x.t.a.b.d)], 23, x.s.a.b.f, true, [], [(vr 37), (vr 49), (vr 61), (vr 73), (vr 85), (vr 97), (vr 109), (vr 121), (vr 133), (vr 145), (vr 157), (vr 169), (vr 181), (vr 193)], false, none, false⟩), #[(vR 15), none, (some (vS x.s.a.b.f 189)), (some (vS x.s.a.b.f 197)), (some (vB x.t.a.b.e)), (some (.bool true))]⟩
def zj9 : Obj := ⟨(vY x.t.a.a.d), none, (.dict #[(i95 x), (i96 x), (i97 x), (i98 x)] 4), #[]⟩
def zju : Obj := ⟨(vY x.t.a.a.b), none, (.fields #[(vS x.s.a.e.a 417), (vS x.s.a.e.a 418), (vS x.s.a.a.b 419), (vI 30), vO, vO, vO, vO, (vr 187), (.bool false), (vI 181), (vr 188), .none, .none, .none, .none, (vI 420), (vI 30), (vS x.s.a.a.b 421)]), #[]⟩
def zj5 : Obj := ⟨(vY x.t.a.a.c), none, .plain, #[(vR 189), (vR 3), (vR 186), none, (some (vS x.s.a.a.e 187)), none, (vR 0)]⟩
def zjE : Obj := ⟨(vY x.t.a.a.d), none, (.dict #[(i95 x), (i97 x), (i98 x), (i99 x)] 2), #[]⟩
def zkd : Obj := ⟨(vY x.t.a.b.a), none, (.cls ⟨x.s.a.e.a, [(vr 24)], [(vr 193), (vr 24), (vY x.t.a.a.f), (vY x.t.a.b.b), (vY x.t.a.b.c), (vY x.t.a.b.d)], 192, x.s.a.e.a, true, [], [], false, none, false⟩), #[(vR 184), none, (some (vS x.s.a.e.a 415)), (some (vS x.s.a.e.a 423)), (some (vB x.t.a.b.e)), (some (.bool true))]⟩
def zjx : Obj := ⟨(vY x.t.a.b.h), none, (.fields #[(vr 193), (vr 193), (vr 193)]), #[]⟩
def zjs : Obj := ⟨(vY x.t.a.a.g), none, (.fields #[(vB x.t.a.c.a), (vr 193)]), #[]⟩
def b1042 : Obj := ⟨(vY x.t.a.a.d), none, (.dict #[(i0 x), (i1 x), (i2 x), (i3 x), (i4 x), (i5 x), (i6 x), (i7 x), (i8 x), (i9 x), (i16 x), (i22 x), (i28 x), (i34 x), (i40 x), (i46 x), (i52 x), (i58 x), (i64 x), (i70 x), (i76 x), (i82 x), (i88 x), (i94 x), (zsI x)] 25), #[]⟩
def b1043 (x : X) : Obj := ⟨.none, none, (.fields #[(vI 2), vO, (vr 20), (vI 4), vO, (vr 33), (vI 6), vO, (vr 45), (vI 8), vO, (vr 57), (vI 10), vO, (vr 69), (vI 12), vO, (vr 81), (vI 14), vO, (vr 93), (vI 16), vO, (vr 105), (vI 18), vO, (vr 117), (vI 20), vO, (vr 129), (vI 22), vO, (vr 141), (vI 24), vO, (vr 153), (vI 26), vO, (vr 165), (vI 28), vO, (vr 177), (vI 30), vO, (vr 189), (vI 32), vO, (vr 201)]), #[]⟩
def b1044 : Obj := ⟨(vY x.t.a.b.a), none, (.cls ⟨x.s.a.b.f, [(vY x.t.a.a.f)], [(vr 24), (vY x.t.a.a.f), (vY x.t.a.b.b), (vY x.t.a.b.c), (vY x.t.a.b.d)], 23, x.s.a.b.f, true, [], [(vr 37), (vr 49), (vr 61), (vr 73), (vr 85), (vr 97), (vr 109), (vr 121), (vr 133), (vr 145), (vr 157), (vr 169), (vr 181), (vr 193), (vr 212)], false, none, false⟩), #[(vR 15), none, (some (vS x.s.a.b.f 189)), (some (vS x.s.a.b.f 197)), (some (vB x.t.a.b.e)), (some (.bool true))]⟩
def zkt : Obj := ⟨(vY x.t.a.a.d), none, (.dict #[(i101 x), (i102 x), (i103 x), (i104 x), (i105 x)] 5), #[]⟩
def zk6 (x : X) : Obj := ⟨.none, none, (.fields #[(vI 34), (vI 4), (vr 208)]), #[]⟩
def zkD : Obj := ⟨(vY x.t.a.a.b), none, (.fields #[(vS x.s.a.e.b 433), (vS x.s.a.e.b 434), (vS x.s.a.a.b 435), (vI 32), vO, vO, vO, vO, (vr 199), (.bool false), (vI 181), (vr 200), .none, .none, .none, .none, (vI 436), (vI 32), (vS x.s.a.a.b 437)]), #[]⟩
def zkw : Obj := ⟨(vY x.t.a.a.c), none, .plain, #[(vR 201), (vR 3), (vR 198), none, (some (vS x.s.a.a.e 187)), none, (vR 0)]⟩
def zkJ : Obj := ⟨(vY x.t.a.a.a), none, (.seq #[(vS x.s.a.e.d 446), (vS x.s.a.e.e 447)] 0), #[]⟩
def zkO : Obj := ⟨.none, none, (.func (fn (sm x 16 0) x.s.a.e.f 0 [] .none .none .none .none none .none .none 0)), #[]⟩
def zln : Obj := ⟨(vY x.t.a.a.b), none, (.fields #[(vS x.s.a.e.c 443), (vS x.s.a.e.f 444), (vS x.s.a.a.b 445), (vI 34), (vI 2), vO, vO, (vI 3), (vr 203), (.bool true), (vI 181), (vr 204), .none, (vr 205), (vr 206), (vr 207), (vI 448), (vI 34), (vS x.s.a.a.b 449)]), #[]⟩
def zlr : Obj := ⟨(vY x.t.a.c.b), none, (.func (fn (sm x 16 0) x.s.a.e.f 3 [] .none .none .none (vS x.s.a.a.e 187) none (vr 208) .none 0)), #[]⟩
def zk2 : Obj := ⟨(vY x.t.a.a.a), none, (.seq #[(vS x.s.a.e.e 451)] 0), #[]⟩
def zlp : Obj := ⟨(vY x.t.a.a.d), none, (.dict #[(i101 x), (i103 x), (i104 x), (i105 x), (i106 x)] 2), #[]⟩
def zld : Obj := ⟨(vY x.t.a.b.a), none, (.cls ⟨x.s.a.e.b, [(vr 24)], [(vr 212), (vr 24), (vY x.t.a.a.f), (vY x.t.a.b.b), (vY x.t.a.b.c), (vY x.t.a.b.d)], 211, x.s.a.e.b, true, [], [], false, none, false⟩), #[(vR 196), none, (some (vS x.s.a.e.b 431)), (some (vS x.s.a.e.b 439)), (some (vB x.t.a.b.e)), (some (.bool true))]⟩
def zkV : Obj := ⟨(vY x.t.a.b.h), none, (.fields #[(vr 212), (vr 212), (vr 212)]), #[]⟩
def zkA : Obj := ⟨(vY x.t.a.a.g), none, (.fields #[(vB x.t.a.c.a), (vr 212)]), #[]⟩
def b1064 : Obj := ⟨(vY x.t.a.a.d), none, (.dict #[(i0 x), (i1 x), (i2 x), (i3 x), (i4 x), (i5 x), (i6 x), (i7 x), (i8 x), (i9 x), (i16 x), (i22 x), (i28 x), (i34 x), (i40 x), (i46 x), (i52 x), (i58 x), (i64 x), (i70 x), (i76 x), (i82 x), (i88 x), (i94 x), (zsI x), (ztj x)] 26), #[]⟩
def b1065 (x : X) : Obj := ⟨.none, none, (.fields #[(vI 2), vO, (vr 20), (vI 4), vO, (vr 33), (vI 6), vO, (vr 45), (vI 8), vO, (vr 57), (vI 10), vO, (vr 69), (vI 12), vO, (vr 81), (vI 14), vO, (vr 93), (vI 16), vO, (vr 105), (vI 18), vO, (vr 117), (vI 20), vO, (vr 129), (vI 22), vO, (vr 141), (vI 24), vO, (vr 153), (vI 26), vO, (vr 165), (vI 28), vO, (vr 177), (vI 30), vO, (vr 189), (vI 32), vO, (vr 201), (vI 37), vO, (vr 220)]), #[]⟩
def b1066 : Obj := ⟨(vY x.t.a.b.a), none, (.cls ⟨x.s.a.b.f, [(vY x.t.a.a.f)], [(vr 24), (vY x.t.a.a.f), (vY x.t.a.b.b), (vY x.t.a.b.c), (vY x.t.a.b.d)], 23, x.s.a.b.f, true, [], [(vr 37), (vr 49), (vr 61), (vr 73), (vr 85), (vr 97), (vr 109), (vr 121), (vr 133), (vr 145), (vr 157), (vr 169), (vr 181), (vr 193), (vr 212), (vr 231)], false, none, false⟩), #[(vR 15), none, (some (vS x.s.a.b.f 189)), (some (vS x.s.a.b.f 197)), (some (vB x.t.a.b.e)), (some (.bool true))]⟩
def zmo : Obj := ⟨(vY x.t.a.a.d), none, (.dict #[(i108 x), (i109 x), (i110 x), (i111 x), (i112 x)] 5), #[]⟩
def zl1 (x : X) : Obj := ⟨.none, none, (.fields #[(vI 39), (vI 4), (vr 227)]), #[]⟩
def zlU : Obj := ⟨(vY x.t.a.a.b), none, (.fields #[(vS x.s.a.e.g 458), (vS x.s.a.e.g 459), (vS x.s.a.a.b 460), (vI 37), vO, vO, vO, vO, (vr 218), (.bool false), (vI 181), (vr 219), .none, .none, .none, .none, (vI 461), (vI 37), (vS x.s.a.a.b 462)]), #[]⟩
def zl7 : Obj := ⟨(vY x.t.a.a.c), none, .plain, #[(vR 220), (vR 3), (vR 217), none, (some (vS x.s.a.a.e 187)), none, (vR 0)]⟩
def zlN : Obj := ⟨(vY x.t.a.a.a), none, (.seq #[(vS x.s.a.e.d 471), (vS x.s.a.e.h 472)] 0), #[]⟩
def zmi : Obj := ⟨.none, none, (.func (fn (sm x 17 0) x.s.a.f.a 0 [] .none .none .none .none none .none .none 0)), #[]⟩
def zl9 : Obj := ⟨(vY x.t.a.a.b), none, (.fields #[(vS x.s.a.e.c 468), (vS x.s.a.f.a 469), (vS x.s.a.a.b 470), (vI 39), (vI 2), vO, vO, (vI 3), (vr 222), (.bool true), (vI 181), (vr 223), .none, (vr 224), (vr 225), (vr 226), (vI 473), (vI 39), (vS x.s.a.a.b 474)]), #[]⟩
def zma : Obj := ⟨(vY x.t.a.c.b), none, (.func (fn (sm x 17 0) x.s.a.f.a 3 [] .none .none .none (vS x.s.a.a.e 187) none (vr 227) .none 0)), #[]⟩
def zmt : Obj := ⟨(vY x.t.a.a.a), none, (.seq #[(vS x.s.a.e.h 476)] 0), #[]⟩
def zmb : Obj := ⟨(vY x.t.a.a.d), none, (.dict #[(i108 x), (i110 x), (i111 x), (i112 x), (i113 x)] 2), #[]⟩
def zmC : Obj := ⟨(vY x.t.a.b.a), none, (.cls ⟨x.s.a.e.g, [(vr 24)], [(vr 231), (vr 24), (vY x.t.a.a.f), (vY x.t.a.b.b), (vY x.t.a.b.c), (vY x.t.a.b.d)], 230, x.s.a.e.g, true, [], [], false, none, false⟩), #[(vR 215), none, (some (vS x.s.a.e.g 456)), (some (vS x.s.a.e.g 464)), (some (vB x.t.a.b.e)), (some (.bool true))]⟩
def zlZ : Obj := ⟨(vY x.t.a.b.h), none, (.fields #[(vr 231), (vr 231), (vr 231)]), #[]⟩
def zmd : Obj := ⟨(vY x.t.a.a.g), none, (.fields #[(vB x.t.a.c.a), (vr 231)]), #[]⟩
def b1086 : Obj := ⟨(vY x.t.a.a.d), none, (.dict #[(i0 x), (i1 x), (i2 x), (i3 x), (i4 x), (i5 x), (i6 x), (i7 x), (i8 x), (i9 x), (i16 x), (i22 x), (i28 x), (i34 x), (i40 x), (i46 x), (i52 x), (i58 x), (i64 x), (i70 x), (i76 x), (i82 x), (i88 x), (i94 x), (zsI x), (ztj x), (ztH x)] 27), #[]⟩
def b1087 (x : X) : Obj := ⟨.none, none, (.fields #[(vI 2), vO, (vr 20), (vI 4), vO, (vr 33), (vI 6), vO, (vr 45), (vI 8), vO, (vr 57), (vI 10), vO, (vr 69), (vI 12), vO, (vr 81), (vI 14), vO, (vr 93), (vI 16), vO, (vr 105), (vI 18), vO, (vr 117), (vI 20), vO, (vr 129), (vI 22), vO, (vr 141), (vI 24), vO, (vr 153), (vI 26), vO, (vr 165), (vI 28), vO, (vr 177), (vI 30), vO, (vr 189), (vI 32), vO, (vr 201), (vI 37), vO, (vr 220), (vI 42), vO, (vr 239)]), #[]⟩
def b1088 : Obj := ⟨(vY x.t.a.b.a), none, (.cls ⟨x.s.a.b.f, [(vY x.t.a.a.f)], [(vr 24), (vY x.t.a.a.f), (vY x.t.a.b.b), (vY x.t.a.b.c), (vY x.t.a.b.d)], 23, x.s.a.b.f, true, [], [(vr 37), (vr 49), (vr 61), (vr 73), (vr 85), (vr 97), (vr 109), (vr 121), (vr 133), (vr 145), (vr 157), (vr 169), (vr 181), (vr 193), (vr 212), (vr 231), (vr 250)], false, none, false⟩), #[(vR 15), none, (some (vS x.s.a.b.f 189)), (some (vS x.s.a.b.f 197)), (some (vB x.t.a.b.e)), (some (.bool true))]⟩
def znw : Obj := ⟨(vY x.t.a.a.d), none, (.dict #[(i115 x), (i116 x), (i117 x), (i118 x), (i119 x)] 5), #[]⟩
def znR (x : X) : Obj := ⟨.none, none, (.fields #[(vI 44), (vI 4), (vr 246)]), #[]⟩
def znP : Obj := ⟨(vY x.t.a.a.b), none, (.fields #[(vS x.s.a.f.b 483), (vS x.s.a.f.b 484), (vS x.s.a.a.b 485), (vI 42), vO, vO, vO, vO, (vr 237), (.bool false), (vI 181), (vr 238), .none, .none, .none, .none, (vI 486), (vI 42), (vS x.s.a.a.b 487)]), #[]⟩
def znu : Obj := ⟨(vY x.t.a.a.c), none, .plain, #[(vR 239), (vR 3), (vR 236), none, (some (vS x.s.a.a.e 187)), none, (vR 0)]⟩
def znI : Obj := ⟨(vY x.t.a.a.a), none, (.seq #[(vS x.s.a.e.d 496), (vS x.s.a.f.c 497)] 0), #[]⟩
def znN : Obj := ⟨.none, none, (.func (fn (sm x 18 0) x.s.a.f.d 0 [] .none .none .none .none none .none .none 0)), #[]⟩
def znh : Obj := ⟨(vY x.t.a.a.b), none, (.fields #[(vS x.s.a.e.c 493), (vS x.s.a.f.d 494), (vS x.s.a.a.b 495), (vI 44), (vI 2), vO, vO, (vI 3), (vr 241), (.bool true), (vI 181), (vr 242), .none, (vr 243), (vr 244), (vr 245), (vI 498), (vI 44), (vS x.s.a.a.b 499)]), #[]⟩
def znO : Obj := ⟨(vY x.t.a.c.b), none, (.func (fn (sm x 18 0) x.s.a.f.d 3 [] .none .none .none (vS x.s.a.a.e 187) none (vr 246) .none 0)), #[]⟩
def znG : Obj := ⟨(vY x.t.a.a.a), none, (.seq #[(vS x.s.a.f.c 501)] 0), #[]⟩
def znL : Obj := ⟨(vY x.t.a.a.d), none, (.dict #[(i115 x), (i117 x), (i118 x), (i119 x), (i120 x)] 2), #[]⟩
def znv : Obj := ⟨(vY x.t.a.b.a), none, (.cls ⟨x.s.a.f.b, [(vr 24)], [(vr 250), (vr 24), (vY x.t.a.a.f), (vY x.t.a.b.b), (vY x.t.a.b.c), (vY x.t.a.b.d)], 249, x.s.a.f.b, true, [], [], false, none, false⟩), #[(vR 234), none, (some (vS x.s.a.f.b 481)), (some (vS x.s.a.f.b 489)), (some (vB x.t.a.b.e)), (some (.bool true))]⟩
def zny : Obj := ⟨(vY x.t.a.b.h), none, (.fields #[(vr 250), (vr 250), (vr 250)]), #[]⟩
def znr : Obj := ⟨(vY x.t.a.a.g), none, (.fields #[(vB x.t.a.c.a), (vr 250)]), #[]⟩
def b1108 : Obj := ⟨(vY x.t.a.a.d), none, (.dict #[(i121 x), (i1 x), (i2 x), (i3 x), (i4 x), (i5 x), (i6 x), (i7 x), (i8 x), (i9 x), (i16 x), (i22 x), (i28 x), (i34 x), (i40 x), (i46 x), (i52 x), (i58 x), (i64 x), (i70 x), (i76 x), (i82 x), (i88 x), (i94 x), (zsI x), (ztj x), (ztH x), (i122 x), (i123 x), (i124 x), (i125 x), (i126 x), (i127 x), (i128 x), (i129 x)] 35), #[]⟩
def b1109 (x : X) : Obj := ⟨.none, none, (.fields #[(vI 2), vO, (vr 20), (vI 4), vO, (vr 33), (vI 6), vO, (vr 45), (vI 8), vO, (vr 57), (vI 10), vO, (vr 69), (vI 12), vO, (vr 81), (vI 14), vO, (vr 93), (vI 16), vO, (vr 105), (vI 18), vO, (vr 117), (vI 20), vO, (vr 129), (vI 22), vO, (vr 141), (vI 24), vO, (vr 153), (vI 26), vO, (vr 165), (vI 28), vO, (vr 177), (vI 30), vO, (vr 189), (vI 32), vO, (vr 201), (vI 37), vO, (vr 220), (vI 42), vO, (vr 239), (vI 47), vO, (vr 258), (vI 53), vO, (vr 277), (vI 55), vO, (vr 284), (vI 62), vO, (vr 292)]), #[]⟩
def zoL : Obj := ⟨(vY x.t.a.b.a), none, (.cls ⟨x.s.a.b.f, [(vY x.t.a.a.f)], [(vr 24), (vY x.t.a.a.f), (vY x.t.a.b.b), (vY x.t.a.b.c), (vY x.t.a.b.d)], 23, x.s.a.b.f, true, [], [(vr 37), (vr 49), (vr 61), (vr 73), (vr 85), (vr 97), (vr 109), (vr 121), (vr 133), (vr 145), (vr 157), (vr 169), (vr 181), (vr 193), (vr 212), (vr 231), (vr 250), (vr 269)], false, none, false⟩), #[(vR 15), none, (some (vS x.s.a.b.f 189)), (some (vS x.s.a.b.f 197)), (some (vB x.t.a.b.e)), (some (.bool true))]⟩
def zpC : Obj := ⟨(vY x.t.a.a.d), none, (.dict #[(i130 x), (i131 x), (i132 x), (i133 x), (i134 x)] 5), #[]⟩
def zoF (x : X) : Obj := ⟨.none, none, (.fields #[(vI 49), (vI 4), (vr 265)]), #[]⟩
def zpt : Obj := ⟨(vY x.t.a.a.b), none, (.fields #[(vS x.s.a.f.f 508), (vS x.s.a.f.f 509), (vS x.s.a.a.b 510), (vI 47), vO, vO, vO, vO, (vr 256), (.bool false), (vI 181), (vr 257), .none, .none, .none, .none, (vI 511), (vI 47), (vS x.s.a.a.b 512)]), #[]⟩
def zpD : Obj := ⟨(vY x.t.a.a.c), none, .plain, #[(vR 258), (vR 3), (vR 255), none, (some (vS x.s.a.a.e 187)), none, (vR 0)]⟩
def zo8 : Obj := ⟨(vY x.t.a.a.a), none, (.seq #[(vS x.s.a.e.d 521), (vS x.s.a.g.f 522)] 0), #[]⟩
def zoW : Obj := ⟨.none, none, (.func (fn (sm x 19 0) x.s.a.g.g 0 [] .none .none .none .none none .none .none 0)), #[]⟩
def zpM : Obj := ⟨(vY x.t.a.a.b), none, (.fields #[(vS x.s.a.e.c 518), (vS x.s.a.g.g 519), (vS x.s.a.a.b 520), (vI 49), (vI 2), vO, vO, (vI 3), (vr 260), (.bool true), (vI 181), (vr 261), .none, (vr 262), (vr 263), (vr 264), (vI 523), (vI 49), (vS x.s.a.a.b 524)]), #[]⟩
def zpz : Obj := ⟨(vY x.t.a.c.b), none, (.func (fn (sm x 19 0) x.s.a.g.g 3 [] .none .none .none (vS x.s.a.a.e 187) none (vr 265) .none 0)), #[]⟩
def zo1 : Obj := ⟨(vY x.t.a.a.a), none, (.seq #[(vS x.s.a.g.f 526)] 0), #[]⟩
def zpj : Obj := ⟨(vY x.t.a.a.d), none, (.dict #[(i130 x), (i132 x), (i133 x), (i134 x), (i135 x)] 2), #[]⟩
def zod : Obj := ⟨(vY x.t.a.b.a), none, (.cls ⟨x.s.a.f.f, [(vr 24)], [(vr 269), (vr 24), (vY x.t.a.a.f), (vY x.t.a.b.b), (vY x.t.a.b.c), (vY x.t.a.b.d)], 268, x.s.a.f.f, true, [], [], false, none, false⟩), #[(vR 253), none, (some (vS x.s.a.f.f 506)), (some (vS x.s.a.f.f 514)), (some (vB x.t.a.b.e)), (some (.bool true))]⟩
def zpI : Obj := ⟨(vY x.t.a.b.h), none, (.fields #[(vr 269), (vr 269), (vr 269)]), #[]⟩
def zpa : Obj := ⟨(vY x.t.a.a.g), none, (.fields #[(vB x.t.a.c.a), (vr 269)]), #[]⟩
def zok : Obj := ⟨(vY x.t.a.a.a), none, (.seq #[(vS x.s.a.g.h 536)] 0), #[]⟩
def zog : Obj := ⟨.none, none, (.func (fn (st x 21) x.s.a.f.g 0 [] .none .none .none .none none .none .none 0)), #[]⟩
def zos : Obj := ⟨(vY x.t.a.a.b), none, (.fields #[(vS x.s.a.f.g 533), (vS x.s.a.f.g 534), (vS x.s.a.a.b 535), (vI 53), (vI 1), vO, vO, (vI 3), (vr 272), (.bool true), (vI 181), (vr 273), .none, (vr 274), (vr 275), (vr 276), (vI 537), (vI 53), (vS x.s.a.a.b 538)]), #[]⟩
def zo0 : Obj := ⟨(vY x.t.a.c.b), none, (.func (fn (st x 21) x.s.a.f.g 3 [] .none .none .none (vS x.s.a.h.a 531) none (vr 277) .none 0)), #[]⟩
def zoe : Obj := ⟨(vY x.t.a.a.a), none, (.seq #[(vS x.s.a.g.h 543), (vS x.s.a.h.b 544), (vS x.s.a.h.c 545)] 0), #[]⟩
def zpb : Obj := ⟨.none, none, (.func (fn (st x 22) x.s.a.f.h 0 [] .none .none .none .none none .none .none 0)), #[]⟩
def zpL : Obj := ⟨(vY x.t.a.a.b), none, (.fields #[(vS x.s.a.f.h 540), (vS x.s.a.f.h 541), (vS x.s.a.a.b 542), (vI 55), (vI 3), vO, vO, (vI 3), (vr 279), (.bool true), (vI 181), (vr 280), .none, (vr 281), (vr 282), (vr 283), (vI 546), (vI 55), (vS x.s.a.a.b 547)]), #[]⟩
def zpe : Obj := ⟨(vY x.t.a.c.b), none, (.func (fn (st x 22) x.s.a.f.h 3 [] .none .none .none (vS x.s.a.h.a 531) none (vr 284) .none 0)), #[]⟩
def zoE : Obj := ⟨(vY x.t.a.a.a), none, (.seq #[(vS x.s.a.h.d 557), (vS x.s.a.h.e 558)] 0), #[]⟩
def zom : Obj := ⟨(vY x.t.a.a.a), none, (.seq #[(vS x.s.a.g.h 563), (vS x.s.a.h.f 564), (vS x.s.a.h.g 565), (vS x.s.a.h.h 566), (vS x.s.b.a.a 567)] 0), #[]⟩
def zpT : Obj := ⟨.none, none, (.func (fn (st x 28) x.s.a.g.e 0 [] .none .none .none .none none .none .none 0)), #[]⟩
def zoZ : Obj := ⟨(vY x.t.a.a.b), none, (.fields #[(vS x.s.a.g.e 560), (vS x.s.a.g.e 561), (vS x.s.a.a.b 562), (vI 62), (vI 2), vO, vO, (vI 3), (vr 287), (.bool true), (vI 181), (vr 288), .none, (vr 289), (vr 290), (vr 291), (vI 568), (vI 62), (vS x.s.a.a.b 569)]), #[]⟩
def zo3 : Obj := ⟨(vY x.t.a.c.b), none, (.func (fn (st x 28) x.s.a.g.e 3 [] .none .none .none (vS x.s.a.f.e 549) none (vr 292) .none 0)), #[]⟩
def b1152 : Obj := ⟨(vY x.t.a.a.d), none, (.dict #[(i136 x), (i1 x), (i2 x), (i3 x), (i4 x), (i5 x), (i6 x), (i7 x), (i8 x), (i9 x), (i16 x), (i22 x), (i28 x), (i34 x), (i40 x), (i46 x), (i52 x), (i58 x), (i64 x), (i70 x), (i76 x), (i82 x), (i88 x), (i94 x), (zsI x), (ztj x), (ztH x), (i122 x), (i123 x), (i124 x), (i125 x), (i126 x), (i127 x), (i128 x), (i129 x), (i137 x), (i138 x), (i139 x), (i140 x), (i141 x), (i142 x), (i143 x), (i144 x), (i145 x), (i146 x), (i147 x), (i148 x)] 47), #[]⟩
def b1153 (x : X) : Obj := ⟨.none, none, (.fields #[(vI 2), vO, (vr 20), (vI 4), vO, (vr 33), (vI 6), vO, (vr 45), (vI 8), vO, (vr 57), (vI 10), vO, (vr 69), (vI 12), vO, (vr 81), (vI 14), vO, (vr 93), (vI 16), vO, (vr 105), (vI 18), vO, (vr 117), (vI 20), vO, (vr 129), (vI 22), vO, (vr 141), (vI 24), vO, (vr 153), (vI 26), vO, (vr 165), (vI 28), vO, (vr 177), (vI 30), vO, (vr 189), (vI 32), vO, (vr 201), (vI 37), vO, (vr 220), (vI 42), vO, (vr 239), (vI 47), vO, (vr 258), (vI 53), vO, (vr 277), (vI 55), vO, (vr 284), (vI 62), vO, (vr 292), (vI 67), vO, (vr 299), (vI 77), vO, (vr 306), (vI 86), vO, (vr 313), (vI 89), vO, (vr 320), (vI 96), vO, (vr 327), (vI 102), vO, (vr 334), (vI 112), vO, (vr 341), (vI 116), vO, (vr 348), (vI 125), vO, (vr 353), (vI 132), vO, (vr 360), (vI 137), vO, (vr 367), (vI 151), vO, (vr 374)]), #[]⟩
def zrF : Obj := ⟨(vY x.t.a.a.a), none, (.seq #[(vS x.s.b.b.g 574), (vS x.s.b.b.h 575), (vS x.s.b.c.a 576), (vS x.s.a.h.g 577), (vS x.s.a.h.h 578), (vS x.s.b.a.a 579)] 0), #[]⟩
def zrz : Obj := ⟨.none, none, (.func (fn (st x 29) x.s.b.a.c 0 [] .none .none .none .none none .none .none 0)), #[]⟩
def zri : Obj := ⟨(vY x.t.a.a.b), none, (.fields #[(vS x.s.b.a.c 571), (vS x.s.b.a.c 572), (vS x.s.a.a.b 573), (vI 67), (vI 1), vO, vO, (vI 3), (vr 294), (.bool true), (vI 181), (vr 295), .none, (vr 296), (vr 297), (vr 298), (vI 580), (vI 67), (vS x.s.a.a.b 581)]), #[]⟩
def zqp : Obj := ⟨(vY x.t.a.c.b), none, (.func (fn (st x 29) x.s.b.a.c 3 [] .none .none .none (vS x.s.a.f.e 549) none (vr 299) .none 0)), #[]⟩
def zq3 : Obj := ⟨(vY x.t.a.a.a), none, (.seq #[(vS x.s.b.c.b 586), (vS x.s.a.h.f 587), (vS x.s.b.b.g 588), (vS x.s.a.g.f 589), (vS x.s.a.e.e 590)] 0), #[]⟩
def zqe : Obj := ⟨.none, none, (.func (fn (st x 30) x.s.b.a.d 0 [] .none .none .none .none none .none .none 0)), #[]⟩
def zro : Obj := ⟨(vY x.t.a.a.b), none, (.fields #[(vS x.s.b.a.d 583), (vS x.s.b.a.d 584), (vS x.s.a.a.b 585), (vI 77), (vI 1), vO, vO, (vI 3), (vr 301), (.bool true), (vI 181), (vr 302), .none, (vr 303), (vr 304), (vr 305), (vI 591), (vI 77), (vS x.s.a.a.b 592)]), #[]⟩
def zqZ : Obj := ⟨(vY x.t.a.c.b), none, (.func (fn (st x 30) x.s.b.a.d 3 [] .none .none .none (vS x.s.a.f.e 549) none (vr 306) .none 0)), #[]⟩
def zqv : Obj := ⟨(vY x.t.a.a.a), none, (.seq #[(vS x.s.b.c.c 597)] 0), #[]⟩
def zrm : Obj := ⟨.none, none, (.func (fn (st x 31) x.s.b.a.e 0 [] .none .none .none .none none .none .none 0)), #[]⟩
def zqE : Obj := ⟨(vY x.t.a.a.b), none, (.fields #[(vS x.s.b.a.e 594), (vS x.s.b.a.e 595), (vS x.s.a.a.b 596), (vI 86), (vI 1), vO, vO, (vI 3), (vr 308), (.bool true), (vI 181), (vr 309), .none, (vr 310), (vr 311), (vr 312), (vI 598), (vI 86), (vS x.s.a.a.b 599)]), #[]⟩
def zqd : Obj := ⟨(vY x.t.a.c.b), none, (.func (fn (st x 31) x.s.b.a.e 3 [] .none .none .none (vS x.s.a.f.e 549) none (vr 313) .none 0)), #[]⟩
def zqA : Obj := ⟨(vY x.t.a.a.a), none, (.seq #[(vS x.s.b.c.b 604), (vS x.s.b.c.d 605), (vS x.s.a.h.g 606), (vS x.s.a.h.h 607), (vS x.s.b.a.a 608), (vS x.s.a.h.b 609)] 0), #[]⟩
def zqR : Obj := ⟨.none, none, (.func (fn (st x 32) x.s.b.a.f 0 [] .none .none .none .none none .none .none 0)), #[]⟩
def zqy : Obj := ⟨(vY x.t.a.a.b), none, (.fields #[(vS x.s.b.a.f 601), (vS x.s.b.a.f 602), (vS x.s.a.a.b 603), (vI 89), (vI 1), vO, vO, (vI 3), (vr 315), (.bool true), (vI 181), (vr 316), .none, (vr 317), (vr 318), (vr 319), (vI 610), (vI 89), (vS x.s.a.a.b 611)]), #[]⟩
def zqX : Obj := ⟨(vY x.t.a.c.b), none, (.func (fn (st x 32) x.s.b.a.f 3 [] .none .none .none (vS x.s.a.f.e 549) none (vr 320) .none 0)), #[]⟩
def zqF : Obj := ⟨(vY x.t.a.a.a), none, (.seq #[(vS x.s.b.c.d 616), (vS x.s.b.c.e 617), (vS x.s.a.g.f 618)] 0), #[]⟩
def zrp : Obj := ⟨.none, none, (.func (fn (st x 33) x.s.b.a.g 0 [] .none .none .none .none none .none .none 0)), #[]⟩
def zqQ : Obj := ⟨(vY x.t.a.a.b), none, (.fields #[(vS x.s.b.a.g 613), (vS x.s.b.a.g 614), (vS x.s.a.a.b 615), (vI 96), (vI 3), vO, vO, (vI 3), (vr 322), (.bool true), (vI 181), (vr 323), .none, (vr 324), (vr 325), (vr 326), (vI 619), (vI 96), (vS x.s.a.a.b 620)]), #[]⟩
def zqY : Obj := ⟨(vY x.t.a.c.b), none, (.func (fn (st x 33) x.s.b.a.g 3 [] .none .none .none (vS x.s.a.f.e 549) none (vr 327) .none 0)), #[]⟩
def zrw : Obj := ⟨(vY x.t.a.a.a), none, (.seq #[(vS x.s.b.c.d 625), (vS x.s.b.c.e 626), (vS x.s.b.c.f 627), (vS x.s.b.c.g 628), (vS x.s.a.g.f 629), (vS x.s.b.c.h 630)] 0), #[]⟩
def zqa : Obj := ⟨.none, none, (.func (fn (st x 34) x.s.b.a.h 0 [] .none .none .none .none none .none .none 0)), #[]⟩
def zp7 : Obj := ⟨(vY x.t.a.a.b), none, (.fields #[(vS x.s.b.a.h 622), (vS x.s.b.a.h 623), (vS x.s.a.a.b 624), (vI 102), (vI 2), vO, vO, (vI 3), (vr 329), (.bool true), (vI 181), (vr 330), .none, (vr 331), (vr 332), (vr 333), (vI 631), (vI 102), (vS x.s.a.a.b 632)]), #[]⟩
def zqq : Obj := ⟨(vY x.t.a.c.b), none, (.func (fn (st x 34) x.s.b.a.h 3 [] .none .none .none (vS x.s.a.f.e 549) none (vr 334) .none 0)), #[]⟩
def zqr : Obj := ⟨(vY x.t.a.a.a), none, (.seq #[(vS x.s.b.c.d 637), (vS x.s.b.c.f 638), (vS x.s.b.d.a 639)] 0), #[]⟩
def zqI : Obj := ⟨.none, none, (.func (fn (st x 35) x.s.b.b.a 0 [] .none .none .none .none none .none .none 0)), #[]⟩
def zqu : Obj := ⟨(vY x.t.a.a.b), none, (.fields #[(vS x.s.b.b.a 634), (vS x.s.b.b.a 635), (vS x.s.a.a.b 636), (vI 112), (vI 3), vO, vO, (vI 3), (vr 336), (.bool true), (vI 181), (vr 337), .none, (vr 338), (vr 339), (vr 340), (vI 640), (vI 112), (vS x.s.a.a.b 641)]), #[]⟩
def zqG : Obj := ⟨(vY x.t.a.c.b), none, (.func (fn (st x 35) x.s.b.b.a 3 [] .none .none .none (vS x.s.a.f.e 549) none (vr 341) .none 0)), #[]⟩
def zqM : Obj := ⟨(vY x.t.a.a.a), none, (.seq #[(vS x.s.b.c.d 646), (vS x.s.b.c.e 647), (vS x.s.b.c.f 648), (vS x.s.b.c.g 649), (vS x.s.a.g.f 650), (vS x.s.b.d.a 651)] 0), #[]⟩
def zrn : Obj := ⟨.none, none, (.func (fn (st x 36) x.s.b.b.b 0 [] .none .none .none .none none .none .none 0)), #[]⟩
def zqh : Obj := ⟨(vY x.t.a.a.b), none, (.fields #[(vS x.s.b.b.b 643), (vS x.s.b.b.b 644), (vS x.s.a.a.b 645), (vI 116), (vI 2), vO, vO, (vI 3), (vr 343), (.bool true), (vI 181), (vr 344), .none, (vr 345), (vr 346), (vr 347), (vI 652), (vI 116), (vS x.s.a.a.b 653)]), #[]⟩
def zq2 : Obj := ⟨(vY x.t.a.c.b), none, (.func (fn (st x 36) x.s.b.b.b 3 [] .none .none .none (vS x.s.a.f.e 549) none (vr 348) .none 0)), #[]⟩
def zqw : Obj := ⟨.none, none, (.func (fn (st x 37) x.s.b.b.c 0 [] .none .none .none .none none .none .none 0)), #[]⟩
def zqj : Obj := ⟨(vY x.t.a.a.b), none, (.fields #[(vS x.s.b.b.c 655), (vS x.s.b.b.c 656), (vS x.s.a.a.b 657), (vI 125), (vI 4), vO, vO, (vI 3), (vr 350), (.bool true), (vI 181), (vr 351), .none, .none, .none, (vr 352), (vI 658), (vI 125), (vS x.s.a.a.b 659)]), #[]⟩
def zru : Obj := ⟨(vY x.t.a.c.b), none, (.func (fn (st x 37) x.s.b.b.c 3 [] .none .none .none (vS x.s.a.f.e 549) none (vr 353) .none 0)), #[]⟩
def zqn : Obj := ⟨(vY x.t.a.a.a), none, (.seq #[(vS x.s.b.c.b 664), (vS x.s.b.c.c 665), (vS x.s.b.c.e 666)] 0), #[]⟩
def zqS : Obj := ⟨.none, none, (.func (fn (st x 38) x.s.b.b.d 0 [] .none .none .none .none none .none .none 0)), #[]⟩
def zrc : Obj := ⟨(vY x.t.a.a.b), none, (.fields #[(vS x.s.b.b.d 661), (vS x.s.b.b.d 662), (vS x.s.a.a.b 663), (vI 132), (vI 3), vO, vO, (vI 3), (vr 355), (.bool true), (vI 181), (vr 356), .none, (vr 357), (vr 358), (vr 359), (vI 667), (vI 132), (vS x.s.a.a.b 668)]), #[]⟩
def zqU : Obj := ⟨(vY x.t.a.c.b), none, (.func (fn (st x 38) x.s.b.b.d 3 [] .none .none .none (vS x.s.a.f.e 549) none (vr 360) .none 0)), #[]⟩
def zrk : Obj := ⟨(vY x.t.a.a.a), none, (.seq #[(vS x.s.b.d.b 675), (vS x.s.b.d.c 676), (vS x.s.b.d.d 677), (vS x.s.b.d.e 678), (vS x.s.b.d.f 679), (vS x.s.b.d.g 680)] 0), #[]⟩
def zqC : Obj := ⟨.none, none, (.func (fn (st x 40) x.s.b.b.e 0 [] .none .none .none .none none .none .none 0)), #[]⟩
def zp6 : Obj := ⟨(vY x.t.a.a.b), none, (.fields #[(vS x.s.b.b.e 672), (vS x.s.b.b.e 673), (vS x.s.a.a.b 674), (vI 137), (vI 2), vO, vO, (vI 3), (vr 362), (.bool true), (vI 181), (vr 363), .none, (vr 364), (vr 365), (vr 366), (vI 681), (vI 137), (vS x.s.a.a.b 682)]), #[]⟩
def zqm : Obj := ⟨(vY x.t.a.c.b), none, (.func (fn (st x 40) x.s.b.b.e 3 [] .none .none .none (vS x.s.b.a.b 670) none (vr 367) .none 0)), #[]⟩
def zq9 : Obj := ⟨(vY x.t.a.a.a), none, (.seq #[(vS x.s.b.d.h 687)] 0), #[]⟩
def zrA : Obj := ⟨.none, none, (.func (fn (st x 41) x.s.b.b.f 0 [] .none .none .none .none none .none .none 0)), #[]⟩
def zq6 : Obj := ⟨(vY x.t.a.a.b), none, (.fields #[(vS x.s.b.b.f 684), (vS x.s.b.b.f 685), (vS x.s.a.a.b 686), (vI 151), (vI 1), vO, vO, (vI 3), (vr 369), (.bool true), (vI 181), (vr 370), .none, (vr 371), (vr 372), (vr 373), (vI 688), (vI 151), (vS x.s.a.a.b 689)]), #[]⟩
def zre : Obj := ⟨(vY x.t.a.c.b), none, (.func (fn (st x 41) x.s.b.b.f 3 [] .none .none .none (vS x.s.b.a.b 670) none (vr 374) .none 0)), #[]⟩
def b1236 : Obj := ⟨(vY x.t.a.a.d), none, (.dict #[(i136 x), (i1 x), (i2 x), (i3 x), (i4 x), (i5 x), (i6 x), (i7 x), (i8 x), (i9 x), (i16 x), (i22 x), (i28 x), (i34 x), (i40 x), (i46 x), (i52 x), (i58 x), (i64 x), (i70 x), (i76 x), (i82 x), (i88 x), (i94 x), (zsI x), (ztj x), (ztH x), (i122 x), (i123 x), (i124 x), (i125 x), (i126 x), (i127 x), (i128 x), (i129 x), (i137 x), (i138 x), (i139 x), (i140 x), (i141 x), (i142 x), (i143 x), (i144 x), (i145 x), (i146 x), (i147 x), (i148 x), (i149 x), (i150 x), (i151 x), (i152 x), (i153 x), (i154 x), (i155 x), (i156 x), (i157 x), (i158 x), (i159 x), (i160 x)] 59), #[]⟩
def b1237 (x : X) : Obj := ⟨.none, none, (.fields #[(vI 2), vO, (vr 20), (vI 4), vO, (vr 33), (vI 6), vO, (vr 45), (vI 8), vO, (vr 57), (vI 10), vO, (vr 69), (vI 12), vO, (vr 81), (vI 14), vO, (vr 93), (vI 16), vO, (vr 105), (vI 18), vO, (vr 117), (vI 20), vO, (vr 129), (vI 22), vO, (vr 141), (vI 24), vO, (vr 153), (vI 26), vO, (vr 165), (vI 28), vO, (vr 177), (vI 30), vO, (vr 189), (vI 32), vO, (vr 201), (vI 37), vO, (vr 220), (vI 42), vO, (vr 239), (vI 47), vO, (vr 258), (vI 53), vO, (vr 277), (vI 55), vO, (vr 284), (vI 62), vO, (vr 292), (vI 67), vO, (vr 299), (vI 77), vO, (vr 306), (vI 86), vO, (vr 313), (vI 89), vO, (vr 320), (vI 96), vO, (vr 327), (vI 102), vO, (vr 334), (vI 112), vO, (vr 341), (vI 116), vO, (vr 348), (vI 125), vO, (vr 353), (vI 132), vO, (vr 360), (vI 137), vO, (vr 367), (vI 151), vO, (vr 374), (vI 153), vO, (vr 381), (vI 165), vO, (vr 388), (vI 169), vO, (vr 395), (vI 189), vO, (vr 400), (vI 195), vO, (vr 407), (vI 210), vO, (vr 414), (vI 219), vO, (vr 419), (vI 228), vO, (vr 424), (vI 233), vO, (vr 429), (vI 248), vO, (vr 436), (vI 265), vO, (vr 443), (vI 285), vO, (vr 448)]), #[]⟩
def zr6 : Obj := ⟨(vY x.t.a.a.a), none, (.seq #[(vS x.s.b.f.e 694), (vS x.s.b.f.f 695)] 0), #[]⟩
def zsu : Obj := ⟨.none, none, (.func (fn (st x 42) x.s.b.e.a 0 [] .none .none .none .none none .none .none 0)), #[]⟩
def zsG : Obj := ⟨(vY x.t.a.a.b), none, (.fields #[(vS x.s.b.e.a 691), (vS x.s.b.e.a 692), (vS x.s.a.a.b 693), (vI 153), (vI 1), vO, vO, (vI 3), (vr 376), (.bool true), (vI 181), (vr 377), .none, (vr 378), (vr 379), (vr 380), (vI 696), (vI 153), (vS x.s.a.a.b 697)]), #[]⟩
def zso : Obj := ⟨(vY x.t.a.c.b), none, (.func (fn (st x 42) x.s.b.e.a 3 [] .none .none .none (vS x.s.b.a.b 670) none (vr 381) .none 0)), #[]⟩
def zsz : Obj := ⟨(vY x.t.a.a.a), none, (.seq #[(vS x.s.b.d.g 702), (vS x.s.b.f.g 703)] 0), #[]⟩
def zs6 : Obj := ⟨.none, none, (.func (fn (st x 43) x.s.b.e.b 0 [] .none .none .none .none none .none .none 0)), #[]⟩
def zrY : Obj := ⟨(vY x.t.a.a.b), none, (.fields #[(vS x.s.b.e.b 699), (vS x.s.b.e.b 700), (vS x.s.a.a.b 701), (vI 165), (vI 1), vO, vO, (vI 3), (vr 383), (.bool true), (vI 181), (vr 384), .none, (vr 385), (vr 386), (vr 387), (vI 704), (vI 165), (vS x.s.a.a.b 705)]), #[]⟩
def zr4 : Obj := ⟨(vY x.t.a.c.b), none, (.func (fn (st x 43) x.s.b.e.b 3 [] .none .none .none (vS x.s.b.a.b 670) none (vr 388) .none 0)), #[]⟩
def zsR : Obj := ⟨(vY x.t.a.a.a), none, (.seq #[(vS x.s.b.d.b 710), (vS x.s.b.f.h 711), (vS x.s.b.g.a 712), (vS x.s.b.g.b 713), (vS x.s.b.g.c 714), (vS x.s.b.g.d 715), (vS x.s.b.g.e 716), (vS x.s.b.g.f 717), (vS x.s.b.d.c 718), (vS x.s.b.g.g 719), (vS x.s.b.d.g 720), (vS x.s.b.g.h 721), (vS x.s.b.h.a 722), (vS x.s.b.d.d 723), (vS x.s.b.h.b 724), (vS x.s.b.h.c 725)] 0), #[]⟩
def zs9 : Obj := ⟨.none, none, (.func (fn (st x 44) x.s.b.e.c 0 [] .none .none .none .none none .none .none 0)), #[]⟩
def zsJ : Obj := ⟨(vY x.t.a.a.b), none, (.fields #[(vS x.s.b.e.c 707), (vS x.s.b.e.c 708), (vS x.s.a.a.b 709), (vI 169), (vI 4), vO, vO, (vI 3), (vr 390), (.bool true), (vI 181), (vr 391), .none, (vr 392), (vr 393), (vr 394), (vI 726), (vI 169), (vS x.s.a.a.b 727)]), #[]⟩
def zst : Obj := ⟨(vY x.t.a.c.b), none, (.func (fn (st x 44) x.s.b.e.c 3 [] .none .none .none (vS x.s.b.a.b 670) none (vr 395) .none 0)), #[]⟩
def zsA : Obj := ⟨.none, none, (.func (fn (st x 45) x.s.b.e.d 0 [] .none .none .none .none none .none .none 0)), #[]⟩
def zsh : Obj := ⟨(vY x.t.a.a.b), none, (.fields #[(vS x.s.b.e.d 729), (vS x.s.b.e.d 730), (vS x.s.a.a.b 731), (vI 189), (vI 1), vO, vO, (vI 3), (vr 397), (.bool true), (vI 181), (vr 398), .none, .none, .none, (vr 399), (vI 732), (vI 189), (vS x.s.a.a.b 733)]), #[]⟩
def zsy : Obj := ⟨(vY x.t.a.c.b), none, (.func (fn (st x 45) x.s.b.e.d 3 [] .none .none .none (vS x.s.b.a.b 670) none (vr 400) .none 0)), #[]⟩
def zr7 : Obj := ⟨(vY x.t.a.a.a), none, (.seq #[(vS x.s.b.h.d 738), (vS x.s.b.f.h 739), (vS x.s.b.h.e 740), (vS x.s.b.h.f 741), (vS x.s.b.h.g 742), (vS x.s.b.d.d 743), (vS x.s.b.g.h 744), (vS x.s.b.h.h 745)] 0), #[]⟩
def zs0 : Obj := ⟨.none, none, (.func (fn (st x 46) x.s.b.e.e 0 [] .none .none .none .none none .none .none 0)), #[]⟩
def zr5 : Obj := ⟨(vY x.t.a.a.b), none, (.fields #[(vS x.s.b.e.e 735), (vS x.s.b.e.e 736), (vS x.s.a.a.b 737), (vI 195), (vI 3), vO, vO, (vI 3), (vr 402), (.bool true), (vI 181), (vr 403), .none, (vr 404), (vr 405), (vr 406), (vI 746), (vI 195), (vS x.s.a.a.b 747)]), #[]⟩
def zte : Obj := ⟨(vY x.t.a.c.b), none, (.func (fn (st x 46) x.s.b.e.e 3 [] .none .none .none (vS x.s.b.a.b 670) none (vr 407) .none 0)), #[]⟩
def zsr : Obj := ⟨(vY x.t.a.a.a), none, (.seq #[(vS x.s.b.d.b 752), (vS x.s.b.f.h 753), (vS x.s.b.h.d 754), (vS x.s.c.a.a 755), (vS x.s.b.d.c 756), (vS x.s.c.a.b 757)] 0), #[]⟩
def zsW : Obj := ⟨.none, none, (.func (fn (st x 47) x.s.b.e.f 0 [] .none .none .none .none none .none .none 0)), #[]⟩
def zsw : Obj := ⟨(vY x.t.a.a.b), none, (.fields #[(vS x.s.b.e.f 749), (vS x.s.b.e.f 750), (vS x.s.a.a.b 751), (vI 210), (vI 3), vO, vO, (vI 3), (vr 409), (.bool true), (vI 181), (vr 410), .none, (vr 411), (vr 412), (vr 413), (vI 758), (vI 210), (vS x.s.a.a.b 759)]), #[]⟩
def zr3 : Obj := ⟨(vY x.t.a.c.b), none, (.func (fn (st x 47) x.s.b.e.f 3 [] .none .none .none (vS x.s.b.a.b 670) none (vr 414) .none 0)), #[]⟩
def zsa : Obj := ⟨.none, none, (.func (fn (st x 48) x.s.b.e.g 0 [] .none .none .none .none none .none .none 0)), #[]⟩
def zsP : Obj := ⟨(vY x.t.a.a.b), none, (.fields #[(vS x.s.b.e.g 761), (vS x.s.b.e.g 762), (vS x.s.a.a.b 763), (vI 219), (vI 3), vO, vO, (vI 3), (vr 416), (.bool true), (vI 181), (vr 417), .none, .none, .none, (vr 418), (vI 764), (vI 219), (vS x.s.a.a.b 765)]), #[]⟩
def zsY : Obj := ⟨(vY x.t.a.c.b), none, (.func (fn (st x 48) x.s.b.e.g 3 [] .none .none .none (vS x.s.b.a.b 670) none (vr 419) .none 0)), #[]⟩
def ztb : Obj := ⟨.none, none, (.func (fn (st x 49) x.s.b.e.h 0 [] .none .none .none .none none .none .none 0)), #[]⟩
def zr2 : Obj := ⟨(vY x.t.a.a.b), none, (.fields #[(vS x.s.b.e.h 767), (vS x.s.b.e.h 768), (vS x.s.a.a.b 769), (vI 228), (vI 1), vO, vO, (vI 3), (vr 421), (.bool true), (vI 181), (vr 422), .none, .none, .none, (vr 423), (vI 770), (vI 228), (vS x.s.a.a.b 771)]), #[]⟩
def zsT : Obj := ⟨(vY x.t.a.c.b), none, (.func (fn (st x 49) x.s.b.e.h 3 [] .none .none .none (vS x.s.b.a.b 670) none (vr 424) .none 0)), #[]⟩
def zss : Obj := ⟨.none, none, (.func (fn (st x 50) x.s.b.f.a 0 [] .none .none .none .none none .none .none 0)), #[]⟩
def zsC : Obj := ⟨(vY x.t.a.a.b), none, (.fields #[(vS x.s.b.f.a 773), (vS x.s.b.f.a 774), (vS x.s.a.a.b 775), (vI 233), (vI 3), vO, vO, (vI 3), (vr 426), (.bool true), (vI 181), (vr 427), .none, .none, .none, (vr 428), (vI 776), (vI 233), (vS x.s.a.a.b 777)]), #[]⟩
def zsn : Obj := ⟨(vY x.t.a.c.b), none, (.func (fn (st x 50) x.s.b.f.a 3 [] .none .none .none (vS x.s.b.a.b 670) none (vr 429) .none 0)), #[]⟩
def zsf : Obj := ⟨(vY x.t.a.a.a), none, (.seq #[(vS x.s.b.d.h 782), (vS x.s.c.a.c 783), (vS x.s.c.a.d 784), (vS x.s.b.g.h 785)] 0), #[]⟩
def zr0 : Obj := ⟨.none, none, (.func (fn (st x 51) x.s.b.f.b 0 [] .none .none .none .none none .none .none 0)), #[]⟩
def zsl : Obj := ⟨(vY x.t.a.a.b), none, (.fields #[(vS x.s.b.f.b 779), (vS x.s.b.f.b 780), (vS x.s.a.a.b 781), (vI 248), (vI 2), vO, vO, (vI 3), (vr 431), (.bool true), (vI 181), (vr 432), .none, (vr 433), (vr 434), (vr 435), (vI 786), (vI 248), (vS x.s.a.a.b 787)]), #[]⟩
def ztd : Obj := ⟨(vY x.t.a.c.b), none, (.func (fn (st x 51) x.s.b.f.b 3 [] .none .none .none (vS x.s.b.a.b 670) none (vr 436) .none 0)), #[]⟩
def zrZ : Obj := ⟨(vY x.t.a.a.a), none, (.seq #[(vS x.s.b.h.d 792), (vS x.s.c.a.e 793), (vS x.s.c.a.f 794), (vS x.s.b.h.e 795), (vS x.s.b.h.f 796), (vS x.s.b.d.c 797), (vS x.s.c.a.g 798)] 0), #[]⟩
def zsN : Obj := ⟨.none, none, (.func (fn (st x 52) x.s.b.f.c 0 [] .none .none .none .none none .none .none 0)), #[]⟩
def zsp : Obj := ⟨(vY x.t.a.a.b), none, (.fields #[(vS x.s.b.f.c 789), (vS x.s.b.f.c 790), (vS x.s.a.a.b 791), (vI 265), (vI 3), vO, vO, (vI 3), (vr 438), (.bool true), (vI 181), (vr 439), .none, (vr 440), (vr 441), (vr 442), (vI 799), (vI 265), (vS x.s.a.a.b 800)]), #[]⟩
def zsi : Obj := ⟨(vY x.t.a.c.b), none, (.func (fn (st x 52) x.s.b.f.c 3 [] .none .none .none (vS x.s.b.a.b 670) none (vr 443) .none 0)), #[]⟩
def zti : Obj := ⟨.none, none, (.func (fn (st x 53) x.s.b.f.d 0 [] .none .none .none .none none .none .none 0)), #[]⟩
def zr1 : Obj := ⟨(vY x.t.a.a.b), none, (.fields #[(vS x.s.b.f.d 802), (vS x.s.b.f.d 803), (vS x.s.a.a.b 804), (vI 285), (vI 4), vO, vO, (vI 3), (vr 445), (.bool true), (vI 181), (vr 446), .none, .none, .none, (vr 447), (vI 805), (vI 285), (vS x.s.a.a.b 806)]), #[]⟩
def zsj : Obj := ⟨(vY x.t.a.c.b), none, (.func (fn (st x 53) x.s.b.f.d 3 [] .none .none .none (vS x.s.b.a.b 670) none (vr 448) .none 0)), #[]⟩
def ztD : Obj := ⟨(vY x.t.a.a.d), none, (.dict #[(i136 x), (i1 x), (i2 x), (i3 x), (i4 x), (i5 x), (i6 x), (i7 x), (i8 x), (i9 x), (i16 x), (i22 x), (i28 x), (i34 x), (i40 x), (i46 x), (i52 x), (i58 x), (i64 x), (i70 x), (i76 x), (i82 x), (i88 x), (i94 x), (zsI x), (ztj x), (ztH x), (i122 x), (i123 x), (i124 x), (i125 x), (i126 x), (i127 x), (i128 x), (i129 x), (i137 x), (i138 x), (i139 x), (i140 x), (i141 x), (i142 x), (i143 x), (i144 x), (i145 x), (i146 x), (i147 x), (i148 x), (i149 x), (i150 x), (i151 x), (i152 x), (i153 x), (i154 x), (i155 x), (i156 x), (i157 x), (i158 x), (i159 x), (i160 x), (i161 x), (i162 x)] 61), #[]⟩
def ztR (x : X) : Obj := ⟨.none, none, (.fields #[(vI 2), vO, (vr 20), (vI 4), vO, (vr 33), (vI 6), vO, (vr 45), (vI 8), vO, (vr 57), (vI 10), vO, (vr 69), (vI 12), vO, (vr 81), (vI 14), vO, (vr 93), (vI 16), vO, (vr 105), (vI 18), vO, (vr 117), (vI 20), vO, (vr 129), (vI 22), vO, (vr 141), (vI 24), vO, (vr 153), (vI 26), vO, (vr 165), (vI 28), vO, (vr 177), (vI 30), vO, (vr 189), (vI 32), vO, (vr 201), (vI 37), vO, (vr 220), (vI 42), vO, (vr 239), (vI 47), vO, (vr 258), (vI 53), vO, (vr 277), (vI 55), vO, (vr 284), (vI 62), vO, (vr 292), (vI 67), vO, (vr 299), (vI 77), vO, (vr 306), (vI 86), vO, (vr 313), (vI 89), vO, (vr 320), (vI 96), vO, (vr 327), (vI 102), vO, (vr 334), (vI 112), vO, (vr 341), (vI 116), vO, (vr 348), (vI 125), vO, (vr 353), (vI 132), vO, (vr 360), (vI 137), vO, (vr 367), (vI 151), vO, (vr 374), (vI 153), vO, (vr 381), (vI 165), vO, (vr 388), (vI 169), vO, (vr 395), (vI 189), vO, (vr 400), (vI 195), vO, (vr 407), (vI 210), vO, (vr 414), (vI 219), vO, (vr 419), (vI 228), vO, (vr 424), (vI 233), vO, (vr 429), (vI 248), vO, (vr 436), (vI 265), vO, (vr 443), (vI 285), vO, (vr 448), (vI 304), vO, (vr 455), (vI 312), vO, (vr 462)]), #[]⟩
def ztF : Obj := ⟨(vY x.t.a.a.a), none, (.seq #[(vS x.s.c.b.b 811), (vS x.s.c.a.e 812), (vS x.s.c.a.f 813), (vS x.s.b.f.e 814), (vS x.s.b.d.h 815), (vS x.s.c.b.c 816)] 0), #[]⟩
def ztv : Obj := ⟨.none, none, (.func (fn (st x 54) x.s.c.a.h 0 [] .none .none .none .none none .none .none 0)), #[]⟩
def ztC : Obj := ⟨(vY x.t.a.a.b), none, (.fields #[(vS x.s.c.a.h 808), (vS x.s.c.a.h 809), (vS x.s.a.a.b 810), (vI 304), (vI 3), vO, vO, (vI 3), (vr 450), (.bool true), (vI 181), (vr 451), .none, (vr 452), (vr 453), (vr 454), (vI 817), (vI 304), (vS x.s.a.a.b 818)]), #[]⟩
def ztL : Obj := ⟨(vY x.t.a.c.b), none, (.func (fn (st x 54) x.s.c.a.h 3 [] .none .none .none (vS x.s.b.a.b 670) none (vr 455) .none 0)), #[]⟩
def ztx : Obj := ⟨(vY x.t.a.a.a), none, (.seq #[(vS x.s.b.d.b 823), (vS x.s.c.b.b 824), (vS x.s.b.h.d 825), (vS x.s.c.a.e 826), (vS x.s.c.a.f 827), (vS x.s.b.d.c 828), (vS x.s.c.b.d 829), (vS x.s.c.b.e 830), (vS x.s.b.d.h 831), (vS x.s.b.f.e 832), (vS x.s.c.a.c 833)] 0), #[]⟩
def ztQ : Obj := ⟨.none, none, (.func (fn (st x 55) x.s.c.b.a 0 [] .none .none .none .none none .none .none 0)), #[]⟩
def ztX : Obj := ⟨(vY x.t.a.a.b), none, (.fields #[(vS x.s.c.b.a 820), (vS x.s.c.b.a 821), (vS x.s.a.a.b 822), (vI 312), (vI 1), vO, vO, (vI 3), (vr 457), (.bool true), (vI 181), (vr 458), .none, (vr 459), (vr 460), (vr 461), (vI 834), (vI 312), (vS x.s.a.a.b 835)]), #[]⟩
def ztM : Obj := ⟨(vY x.t.a.c.b), none, (.func (fn (st x 55) x.s.c.b.a 3 [] .none .none .none (vS x.s.b.a.b 670) none (vr 462) .none 0)), #[]⟩
def m807v (p : Program) : Program := { p with main := { p.main with body := [sp p 1, sp p 2, sp p 3, sp p 4, sp p 5, sp p 6, sp p 7, sp p 8, sp p 9, sp p 10, sp p 11, sp p 12, sp p 13, sp p 14, sp p 15, sp p 16, sp p 17, sp p 18, sp p 19, sp p 21, sp p 22, sp p 24, sp p 25, sp p 26, sp p 27, sp p 28, sp p 29, sp p 30, sp p 31, sp p 32, sp p 33, sp p 34, sp p 35, sp p 36, sp p 37, sp p 38, sp p 40, sp p 41, sp p 42, sp p 43, sp p 44, sp p 45, sp p 46, sp p 47, sp p 48, sp p 49, sp p 50, sp p 51, sp p 52, sp p 53, sp p 54, sp p 55] } }
def m814 : Heap := ⟨⟨[x.r.a.a.a, x.r.a.a.b, x.r.a.a.c, x.r.a.a.d, x.r.a.a.e, x.r.a.a.f, x.r.a.a.g, x.r.a.a.h, x.r.a.b.a, x.r.a.b.b, x.r.a.b.c, (zad x), (zav x), (zhB x), (zhA x)]⟩, ⟨[], [], [], 0, [], [], false, #[], [], 0, false, false, false, 0, [2000, 10, 10], false, 0, true, [], [], 0, false⟩⟩
def m815 : W.BT := (N x.r.a.a.a (N x.r.a.a.b (N x.r.a.a.d (L x.r.a.a.h) (L (zad x))) (N x.r.a.a.f (L x.r.a.b.b) (L (zhB x)))) (N x.r.a.a.c (N x.r.a.a.e (L x.r.a.b.a) (L (zav x))) (N x.r.a.a.g (L x.r.a.b.c) (L (zhA x)))))
def m817s (p : Program) : List Stmt := [sp p 0, sp p 1]
def m831 : W.BT := (N x.r.a.a.a (N x.r.a.a.b (N (b817 x) (N x.r.a.a.h (L (zie x)) (L (zhZ x))) (N (zad x) (L (zav x)) (L (zh9 x)))) (N x.r.a.a.f (N x.r.a.b.b (L (zio x)) (L (zic x))) (N (zhB x) (L (ziw x)) z))) (N x.r.a.a.c (N x.r.a.a.e (N x.r.a.b.a (L (zay x)) (L (b828 x))) (N (b818 x) (L (zhW x)) z)) (N x.r.a.a.g (N x.r.a.b.c (L (zad x)) (L (zih x))) (N (zhA x) (L (zad x)) z))))
def m832s (p : Program) : List Stmt := [sp p 2]
def m846 : W.BT := (N x.r.a.a.a (N x.r.a.a.b (N (b832 x) (N x.r.a.a.h (N (zie x) (L (zad x)) z) (N (zhZ x) (L (ziF x)) z)) (N (zad x) (N (zav x) (L (zad x)) z) (L (zh9 x)))) (N x.r.a.a.f (N x.r.a.b.b (N (zio x) (L (ziE x)) z) (L (zic x))) (N (zhB x) (N (ziw x) (L (ziA x)) z) (L (zay x))))) (N x.r.a.a.c (N x.r.a.a.e (N x.r.a.b.a (N (zay x) (L (zav x)) z) (L (b834 x))) (N (b833 x) (N (zhW x) (L (ziC x)) z) (L (zaD x)))) (N x.r.a.a.g (N x.r.a.b.c (N (zad x) (L (ziB x)) z) (L (zih x))) (N (zhA x) (N (zad x) (L (ziD x)) z) (L (ziG x))))))
def m847s (p : Program) : List Stmt := [sp p 3]
def m861 : W.BT := (N x.r.a.a.a (N x.r.a.a.b (N (b847 x) (N x.r.a.a.h (N (zie x) (L (zad x)) (L (zad x))) (N (zhZ x) (L (ziF x)) z)) (N (zad x) (N (zav x) (L (zad x)) (L (zi2 x))) (N (zh9 x) (L (zad x)) z))) (N x.r.a.a.f (N x.r.a.b.b (N (zio x) (L (ziE x)) (L (ziO x))) (N (zic x) (L (zay x)) z)) (N (zhB x) (N (ziw x) (L (ziA x)) z) (N (zay x) (L (ziR x)) z)))) (N x.r.a.a.c (N x.r.a.a.e (N x.r.a.b.a (N (zay x) (L (zav x)) (L (zi4 x))) (N (b849 x) (L (zaD x)) z)) (N (b848 x) (N (zhW x) (L (ziC x)) z) (N (zaD x) (L (zav x)) z))) (N x.r.a.a.g (N x.r.a.b.c (N (zad x) (L (ziB x)) (L (ziQ x))) (N (zih x) (L (ziM x)) z)) (N (zhA x) (N (zad x) (L (ziD x)) z) (N (ziG x) (L (ziX x)) z)))))
def m862s (p : Program) : List Stmt := [sp p 4]
def m876 : W.BT := (N x.r.a.a.a (N x.r.a.a.b (N (b862 x) (N x.r.a.a.h (N (zie x) (N (zad x) (L (zi9 x)) z) (L (zad x))) (N (zhZ x) (L (ziF x)) (L (zad x)))) (N (zad x) (N (zav x) (L (zad x)) (L (zi2 x))) (N (zh9 x) (L (zad x)) (L (zad x))))) (N x.r.a.a.f (N x.r.a.b.b (N (zio x) (L (ziE x)) (L (ziO x))) (N (zic x) (L (zay x)) (L (zjh x)))) (N (zhB x) (N (ziw x) (L (ziA x)) (L (zay x))) (N (zay x) (L (ziR x)) (L (zjl x)))))) (N x.r.a.a.c (N x.r.a.a.e (N x.r.a.b.a (N (zay x) (L (zav x)) (L (zi4 x))) (N (b864 x) (L (zaD x)) (L (zav x)))) (N (b863 x) (N (zhW x) (L (ziC x)) (L (zaD x))) (N (zaD x) (L (zav x)) (L (zjd x))))) (N x.r.a.a.g (N x.r.a.b.c (N (zad x) (L (ziB x)) (L (ziQ x))) (N (zih x) (L (ziM x)) (L (zji x)))) (N (zhA x) (N (zad x) (L (ziD x)) (L (zjk x))) (N (ziG x) (L (ziX x)) (L (zje x)))))))
def m877s (p : Program) : List Stmt := [sp p 5]
def m891 : W.BT := (N x.r.a.a.a (N x.r.a.a.b (N (b877 x) (N x.r.a.a.h (N (zie x) (N (zad x) (L (zi9 x)) z) (L (zad x))) (N (zhZ x) (N (ziF x) (L (zad x)) z) (L (zad x)))) (N (zad x) (N (zav x) (N (zad x) (L (zad x)) z) (L (zi2 x))) (N (zh9 x) (N (zad x) (L (zjL x)) z) (L (zad x))))) (N x.r.a.a.f (N x.r.a.b.b (N (zio x) (N (ziE x) (L (zay x)) z) (L (ziO x))) (N (zic x) (N (zay x) (L (zjT x)) z) (L (zjh x)))) (N (zhB x) (N (ziw x) (N (ziA x) (L (zjW x)) z) (L (zay x))) (N (zay x) (L (ziR x)) (L (zjl x)))))) (N x.r.a.a.c (N x.r.a.a.e (N x.r.a.b.a (N (zay x) (N (zav x) (L (zaD x)) z) (L (zi4 x))) (N (b879 x) (N (zaD x) (L (zj6 x)) z) (L (zav x)))) (N (b878 x) (N (zhW x) (N (ziC x) (L (zav x)) z) (L (zaD x))) (N (zaD x) (L (zav x)) (L (zjd x))))) (N x.r.a.a.g (N x.r.a.b.c (N (zad x) (N (ziB x) (L (zjI x)) z) (L (ziQ x))) (N (zih x) (N (ziM x) (L (zjX x)) z) (L (zji x)))) (N (zhA x) (N (zad x) (N (ziD x) (L (zkh x)) z) (L (zjk x))) (N (ziG x) (L (ziX x)) (L (zje x)))))))
def m892s (p : Program) : List Stmt := [sp p 6]
def m906 : W.BT := (N x.r.a.a.a (N x.r.a.a.b (N (b892 x) (N x.r.a.a.h (N (zie x) (N (zad x) (L (zi9 x)) z) (N (zad x) (L (zad x)) z)) (N (zhZ x) (N (ziF x) (L (zad x)) z) (N (zad x) (L (zkl x)) z))) (N (zad x) (N (zav x) (N (zad x) (L (zad x)) z) (N (zi2 x) (L (zad x)) z)) (N (zh9 x) (N (zad x) (L (zjL x)) z) (L (zad x))))) (N x.r.a.a.f (N x.r.a.b.b (N (zio x) (N (ziE x) (L (zay x)) z) (N (ziO x) (L (zko x)) z)) (N (zic x) (N (zay x) (L (zjT x)) z) (L (zjh x)))) (N (zhB x) (N (ziw x) (N (ziA x) (L (zjW x)) z) (N (zay x) (L (zki x)) z)) (N (zay x) (N (ziR x) (L (zay x)) z) (L (zjl x)))))) (N x.r.a.a.c (N x.r.a.a.e (N x.r.a.b.a (N (zay x) (N (zav x) (L (zaD x)) z) (N (zi4 x) (L (zav x)) z)) (N (b894 x) (N (zaD x) (L (zj6 x)) z) (L (zav x)))) (N (b893 x) (N (zhW x) (N (ziC x) (L (zav x)) z) (N (zaD x) (L (zkm x)) z)) (N (zaD x) (N (zav x) (L (zaD x)) z) (L (zjd x))))) (N x.r.a.a.g (N x.r.a.b.c (N (zad x) (N (ziB x) (L (zjI x)) z) (N (ziQ x) (L (zkj x)) z)) (N (zih x) (N (ziM x) (L (zjX x)) z) (L (zji x)))) (N (zhA x) (N (zad x) (N (ziD x) (L (zkh x)) z) (N (zjk x) (L (zkn x)) z)) (N (ziG x) (N (ziX x) (L (zkk x)) z) (L (zje x)))))))
def m907s (p : Program) : List Stmt := [sp p 7]
def m921 : W.BT := (N x.r.a.a.a (N x.r.a.a.b (N (b907 x) (N x.r.a.a.h (N (zie x) (N (zad x) (L (zi9 x)) (L (zad x))) (N (zad x) (L (zad x)) z)) (N (zhZ x) (N (ziF x) (L (zad x)) z) (N (zad x) (L (zkl x)) z))) (N (zad x) (N (zav x) (N (zad x) (L (zad x)) (L (zlu x))) (N (zi2 x) (L (zad x)) z)) (N (zh9 x) (N (zad x) (L (zjL x)) z) (N (zad x) (L (zad x)) z)))) (N x.r.a.a.f (N x.r.a.b.b (N (zio x) (N (ziE x) (L (zay x)) (L (zlj x))) (N (ziO x) (L (zko x)) z)) (N (zic x) (N (zay x) (L (zjT x)) z) (N (zjh x) (L (zay x)) z))) (N (zhB x) (N (ziw x) (N (ziA x) (L (zjW x)) z) (N (zay x) (L (zki x)) z)) (N (zay x) (N (ziR x) (L (zay x)) z) (N (zjl x) (L (zlt x)) z))))) (N x.r.a.a.c (N x.r.a.a.e (N x.r.a.b.a (N (zay x) (N (zav x) (L (zaD x)) (L (zlb x))) (N (zi4 x) (L (zav x)) z)) (N (b909 x) (N (zaD x) (L (zj6 x)) z) (N (zav x) (L (zaD x)) z))) (N (b908 x) (N (zhW x) (N (ziC x) (L (zav x)) z) (N (zaD x) (L (zkm x)) z)) (N (zaD x) (N (zav x) (L (zaD x)) z) (N (zjd x) (L (zav x)) z)))) (N x.r.a.a.g (N x.r.a.b.c (N (zad x) (N (ziB x) (L (zjI x)) (L (zkT x))) (N (ziQ x) (L (zkj x)) z)) (N (zih x) (N (ziM x) (L (zjX x)) z) (N (zji x) (L (zks x)) z))) (N (zhA x) (N (zad x) (N (ziD x) (L (zkh x)) z) (N (zjk x) (L (zkn x)) z)) (N (ziG x) (N (ziX x) (L (zkk x)) z) (N (zje x) (L (zkQ x)) z))))))
def m922s (p : Program) : List Stmt := [sp p 8]
def m936 : W.BT := (N x.r.a.a.a (N x.r.a.a.b (N (b922 x) (N x.r.a.a.h (N (zie x) (N (zad x) (L (zi9 x)) (L (zad x))) (N (zad x) (L (zad x)) (L (zlH x)))) (N (zhZ x) (N (ziF x) (L (zad x)) (L (zad x))) (N (zad x) (L (zkl x)) z))) (N (zad x) (N (zav x) (N (zad x) (L (zad x)) (L (zlu x))) (N (zi2 x) (L (zad x)) z)) (N (zh9 x) (N (zad x) (L (zjL x)) (L (zad x))) (N (zad x) (L (zad x)) z)))) (N x.r.a.a.f (N x.r.a.b.b (N (zio x) (N (ziE x) (L (zay x)) (L (zlj x))) (N (ziO x) (L (zko x)) z)) (N (zic x) (N (zay x) (L (zjT x)) (L (zlK x))) (N (zjh x) (L (zay x)) z))) (N (zhB x) (N (ziw x) (N (ziA x) (L (zjW x)) (L (zay x))) (N (zay x) (L (zki x)) z)) (N (zay x) (N (ziR x) (L (zay x)) (L (zlE x))) (N (zjl x) (L (zlt x)) z))))) (N x.r.a.a.c (N x.r.a.a.e (N x.r.a.b.a (N (zay x) (N (zav x) (L (zaD x)) (L (zlb x))) (N (zi4 x) (L (zav x)) z)) (N (b924 x) (N (zaD x) (L (zj6 x)) (L (zav x))) (N (zav x) (L (zaD x)) z))) (N (b923 x) (N (zhW x) (N (ziC x) (L (zav x)) (L (zaD x))) (N (zaD x) (L (zkm x)) z)) (N (zaD x) (N (zav x) (L (zaD x)) (L (zlI x))) (N (zjd x) (L (zav x)) z)))) (N x.r.a.a.g (N x.r.a.b.c (N (zad x) (N (ziB x) (L (zjI x)) (L (zkT x))) (N (ziQ x) (L (zkj x)) z)) (N (zih x) (N (ziM x) (L (zjX x)) (L (zlC x))) (N (zji x) (L (zks x)) z))) (N (zhA x) (N (zad x) (N (ziD x) (L (zkh x)) (L (zlD x))) (N (zjk x) (L (zkn x)) z)) (N (ziG x) (N (ziX x) (L (zkk x)) (L (zlJ x))) (N (zje x) (L (zkQ x)) z))))))
def m937s (p : Program) : List Stmt := [sp p 9]
def m951 : W.BT := (N x.r.a.a.a (N x.r.a.a.b (N (b937 x) (N x.r.a.a.h (N (zie x) (N (zad x) (L (zi9 x)) (L (zad x))) (N (zad x) (L (zad x)) (L (zlH x)))) (N (zhZ x) (N (ziF x) (L (zad x)) (L (zad x))) (N (zad x) (L (zkl x)) (L (zad x))))) (N (zad x) (N (zav x) (N (zad x) (L (zad x)) (L (zlu x))) (N (zi2 x) (L (zad x)) (L (zad x)))) (N (zh9 x) (N (zad x) (L (zjL x)) (L (zad x))) (N (zad x) (L (zad x)) (L (zl5 x)))))) (N x.r.a.a.f (N x.r.a.b.b (N (zio x) (N (ziE x) (L (zay x)) (L (zlj x))) (N (ziO x) (L (zko x)) (L (zay x)))) (N (zic x) (N (zay x) (L (zjT x)) (L (zlK x))) (N (zjh x) (L (zay x)) (L (zl0 x))))) (N (zhB x) (N (ziw x) (N (ziA x) (L (zjW x)) (L (zay x))) (N (zay x) (L (zki x)) (L (zms x)))) (N (zay x) (N (ziR x) (L (zay x)) (L (zlE x))) (N (zjl x) (L (zlt x)) z))))) (N x.r.a.a.c (N x.r.a.a.e (N x.r.a.b.a (N (zay x) (N (zav x) (L (zaD x)) (L (zlb x))) (N (zi4 x) (L (zav x)) (L (zaD x)))) (N (b939 x) (N (zaD x) (L (zj6 x)) (L (zav x))) (N (zav x) (L (zaD x)) (L (zlP x))))) (N (b938 x) (N (zhW x) (N (ziC x) (L (zav x)) (L (zaD x))) (N (zaD x) (L (zkm x)) (L (zav x)))) (N (zaD x) (N (zav x) (L (zaD x)) (L (zlI x))) (N (zjd x) (L (zav x)) z)))) (N x.r.a.a.g (N x.r.a.b.c (N (zad x) (N (ziB x) (L (zjI x)) (L (zkT x))) (N (ziQ x) (L (zkj x)) (L (zlL x)))) (N (zih x) (N (ziM x) (L (zjX x)) (L (zlC x))) (N (zji x) (L (zks x)) (L (zlR x))))) (N (zhA x) (N (zad x) (N (ziD x) (L (zkh x)) (L (zlD x))) (N (zjk x) (L (zkn x)) (L (zlS x)))) (N (ziG x) (N (ziX x) (L (zkk x)) (L (zlJ x))) (N (zje x) (L (zkQ x)) z))))))
def m952s (p : Program) : List Stmt := [sp p 10]
def m966 : W.BT := (N x.r.a.a.a (N x.r.a.a.b (N (b952 x) (N x.r.a.a.h (N (zie x) (N (zad x) (N (zi9 x) (L (zad x)) z) (L (zad x))) (N (zad x) (L (zad x)) (L (zlH x)))) (N (zhZ x) (N (ziF x) (N (zad x) (L (zmT x)) z) (L (zad x))) (N (zad x) (L (zkl x)) (L (zad x))))) (N (zad x) (N (zav x) (N (zad x) (N (zad x) (L (zad x)) z) (L (zlu x))) (N (zi2 x) (L (zad x)) (L (zad x)))) (N (zh9 x) (N (zad x) (L (zjL x)) (L (zad x))) (N (zad x) (L (zad x)) (L (zl5 x)))))) (N x.r.a.a.f (N x.r.a.b.b (N (zio x) (N (ziE x) (N (zay x) (L (zmJ x)) z) (L (zlj x))) (N (ziO x) (L (zko x)) (L (zay x)))) (N (zic x) (N (zay x) (L (zjT x)) (L (zlK x))) (N (zjh x) (L (zay x)) (L (zl0 x))))) (N (zhB x) (N (ziw x) (N (ziA x) (N (zjW x) (L (zng x)) z) (L (zay x))) (N (zay x) (L (zki x)) (L (zms x)))) (N (zay x) (N (ziR x) (L (zay x)) (L (zlE x))) (N (zjl x) (L (zlt x)) (L (zay x))))))) (N x.r.a.a.c (N x.r.a.a.e (N x.r.a.b.a (N (zay x) (N (zav x) (N (zaD x) (L (zav x)) z) (L (zlb x))) (N (zi4 x) (L (zav x)) (L (zaD x)))) (N (b954 x) (N (zaD x) (L (zj6 x)) (L (zav x))) (N (zav x) (L (zaD x)) (L (zlP x))))) (N (b953 x) (N (zhW x) (N (ziC x) (N (zav x) (L (zmH x)) z) (L (zaD x))) (N (zaD x) (L (zkm x)) (L (zav x)))) (N (zaD x) (N (zav x) (L (zaD x)) (L (zlI x))) (N (zjd x) (L (zav x)) (L (zaD x)))))) (N x.r.a.a.g (N x.r.a.b.c (N (zad x) (N (ziB x) (N (zjI x) (L (zmX x)) z) (L (zkT x))) (N (ziQ x) (L (zkj x)) (L (zlL x)))) (N (zih x) (N (ziM x) (L (zjX x)) (L (zlC x))) (N (zji x) (L (zks x)) (L (zlR x))))) (N (zhA x) (N (zad x) (N (ziD x) (N (zkh x) (L (zmZ x)) z) (L (zlD x))) (N (zjk x) (L (zkn x)) (L (zlS x)))) (N (ziG x) (N (ziX x) (L (zkk x)) (L (zlJ x))) (N (zje x) (L (zkQ x)) (L (zm8 x))))))))
def m967s (p : Program) : List Stmt := [sp p 11]
def m981 : W.BT := (N x.r.a.a.a (N x.r.a.a.b (N (b967 x) (N x.r.a.a.h (N (zie x) (N (zad x) (N (zi9 x) (L (zad x)) z) (L (zad x))) (N (zad x) (N (zad x) (L (zad x)) z) (L (zlH x)))) (N (zhZ x) (N (ziF x) (N (zad x) (L (zmT x)) z) (L (zad x))) (N (zad x) (L (zkl x)) (L (zad x))))) (N (zad x) (N (zav x) (N (zad x) (N (zad x) (L (zad x)) z) (L (zlu x))) (N (zi2 x) (N (zad x) (L (znS x)) z) (L (zad x)))) (N (zh9 x) (N (zad x) (N (zjL x) (L (zad x)) z) (L (zad x))) (N (zad x) (L (zad x)) (L (zl5 x)))))) (N x.r.a.a.f (N x.r.a.b.b (N (zio x) (N (ziE x) (N (zay x) (L (zmJ x)) z) (L (zlj x))) (N (ziO x) (N (zko x) (L (znq x)) z) (L (zay x)))) (N (zic x) (N (zay x) (N (zjT x) (L (zay x)) z) (L (zlK x))) (N (zjh x) (L (zay x)) (L (zl0 x))))) (N (zhB x) (N (ziw x) (N (ziA x) (N (zjW x) (L (zng x)) z) (L (zay x))) (N (zay x) (L (zki x)) (L (zms x)))) (N (zay x) (N (ziR x) (N (zay x) (L (zni x)) z) (L (zlE x))) (N (zjl x) (L (zlt x)) (L (zay x))))))) (N x.r.a.a.c (N x.r.a.a.e (N x.r.a.b.a (N (zay x) (N (zav x) (N (zaD x) (L (zav x)) z) (L (zlb x))) (N (zi4 x) (N (zav x) (L (znA x)) z) (L (zaD x)))) (N (b969 x) (N (zaD x) (N (zj6 x) (L (zaD x)) z) (L (zav x))) (N (zav x) (L (zaD x)) (L (zlP x))))) (N (b968 x) (N (zhW x) (N (ziC x) (N (zav x) (L (zmH x)) z) (L (zaD x))) (N (zaD x) (L (zkm x)) (L (zav x)))) (N (zaD x) (N (zav x) (N (zaD x) (L (zav x)) z) (L (zlI x))) (N (zjd x) (L (zav x)) (L (zaD x)))))) (N x.r.a.a.g (N x.r.a.b.c (N (zad x) (N (ziB x) (N (zjI x) (L (zmX x)) z) (L (zkT x))) (N (ziQ x) (N (zkj x) (L (znU x)) z) (L (zlL x)))) (N (zih x) (N (ziM x) (N (zjX x) (L (znl x)) z) (L (zlC x))) (N (zji x) (L (zks x)) (L (zlR x))))) (N (zhA x) (N (zad x) (N (ziD x) (N (zkh x) (L (zmZ x)) z) (L (zlD x))) (N (zjk x) (L (zkn x)) (L (zlS x)))) (N (ziG x) (N (ziX x) (N (zkk x) (L (znV x)) z) (L (zlJ x))) (N (zje x) (L (zkQ x)) (L (zm8 x))))))))
def m982s (p : Program) : List Stmt := [sp p 12]
def m996 : W.BT := (N x.r.a.a.a (N x.r.a.a.b (N (b982 x) (N x.r.a.a.h (N (zie x) (N (zad x) (N (zi9 x) (L (zad x)) z) (N (zad x) (L (zn7 x)) z)) (N (zad x) (N (zad x) (L (zad x)) z) (L (zlH x)))) (N (zhZ x) (N (ziF x) (N (zad x) (L (zmT x)) z) (L (zad x))) (N (zad x) (N (zkl x) (L (zad x)) z) (L (zad x))))) (N (zad x) (N (zav x) (N (zad x) (N (zad x) (L (zad x)) z) (L (zlu x))) (N (zi2 x) (N (zad x) (L (znS x)) z) (L (zad x)))) (N (zh9 x) (N (zad x) (N (zjL x) (L (zad x)) z) (L (zad x))) (N (zad x) (N (zad x) (L (zad x)) z) (L (zl5 x)))))) (N x.r.a.a.f (N x.r.a.b.b (N (zio x) (N (ziE x) (N (zay x) (L (zmJ x)) z) (L (zlj x))) (N (ziO x) (N (zko x) (L (znq x)) z) (L (zay x)))) (N (zic x) (N (zay x) (N (zjT x) (L (zay x)) z) (L (zlK x))) (N (zjh x) (N (zay x) (L (zn6 x)) z) (L (zl0 x))))) (N (zhB x) (N (ziw x) (N (ziA x) (N (zjW x) (L (zng x)) z) (L (zay x))) (N (zay x) (N (zki x) (L (zay x)) z) (L (zms x)))) (N (zay x) (N (ziR x) (N (zay x) (L (zni x)) z) (L (zlE x))) (N (zjl x) (N (zlt x) (L (zn8 x)) z) (L (zay x))))))) (N x.r.a.a.c (N x.r.a.a.e (N x.r.a.b.a (N (zay x) (N (zav x) (N (zaD x) (L (zav x)) z) (L (zlb x))) (N (zi4 x) (N (zav x) (L (znA x)) z) (L (zaD x)))) (N (b984 x) (N (zaD x) (N (zj6 x) (L (zaD x)) z) (L (zav x))) (N (zav x) (N (zaD x) (L (zav x)) z) (L (zlP x))))) (N (b983 x) (N (zhW x) (N (ziC x) (N (zav x) (L (zmH x)) z) (L (zaD x))) (N (zaD x) (N (zkm x) (L (zaD x)) z) (L (zav x)))) (N (zaD x) (N (zav x) (N (zaD x) (L (zav x)) z) (L (zlI x))) (N (zjd x) (N (zav x) (L (zn5 x)) z) (L (zaD x)))))) (N x.r.a.a.g (N x.r.a.b.c (N (zad x) (N (ziB x) (N (zjI x) (L (zmX x)) z) (L (zkT x))) (N (ziQ x) (N (zkj x) (L (znU x)) z) (L (zlL x)))) (N (zih x) (N (ziM x) (N (zjX x) (L (znl x)) z) (L (zlC x))) (N (zji x) (N (zks x) (L (zn3 x)) z) (L (zlR x))))) (N (zhA x) (N (zad x) (N (ziD x) (N (zkh x) (L (zmZ x)) z) (L (zlD x))) (N (zjk x) (N (zkn x) (L (znZ x)) z) (L (zlS x)))) (N (ziG x) (N (ziX x) (N (zkk x) (L (znV x)) z) (L (zlJ x))) (N (zje x) (N (zkQ x) (L (zn2 x)) z) (L (zm8 x))))))))
def m997s (p : Program) : List Stmt := [sp p 13]
def m1011 : W.BT := (N x.r.a.a.a (N x.r.a.a.b (N (b997 x) (N x.r.a.a.h (N (zie x) (N (zad x) (N (zi9 x) (L (zad x)) z) (N (zad x) (L (zn7 x)) z)) (N (zad x) (N (zad x) (L (zad x)) z) (L (zlH x)))) (N (zhZ x) (N (ziF x) (N (zad x) (L (zmT x)) z) (N (zad x) (L (zad x)) z)) (N (zad x) (N (zkl x) (L (zad x)) z) (L (zad x))))) (N (zad x) (N (zav x) (N (zad x) (N (zad x) (L (zad x)) z) (N (zlu x) (L (zad x)) z)) (N (zi2 x) (N (zad x) (L (znS x)) z) (L (zad x)))) (N (zh9 x) (N (zad x) (N (zjL x) (L (zad x)) z) (N (zad x) (L (ziq x)) z)) (N (zad x) (N (zad x) (L (zad x)) z) (L (zl5 x)))))) (N x.r.a.a.f (N x.r.a.b.b (N (zio x) (N (ziE x) (N (zay x) (L (zmJ x)) z) (N (zlj x) (L (zay x)) z)) (N (ziO x) (N (zko x) (L (znq x)) z) (L (zay x)))) (N (zic x) (N (zay x) (N (zjT x) (L (zay x)) z) (N (zlK x) (L (zid x)) z)) (N (zjh x) (N (zay x) (L (zn6 x)) z) (L (zl0 x))))) (N (zhB x) (N (ziw x) (N (ziA x) (N (zjW x) (L (zng x)) z) (N (zay x) (L (zhO x)) z)) (N (zay x) (N (zki x) (L (zay x)) z) (L (zms x)))) (N (zay x) (N (ziR x) (N (zay x) (L (zni x)) z) (L (zlE x))) (N (zjl x) (N (zlt x) (L (zn8 x)) z) (L (zay x))))))) (N x.r.a.a.c (N x.r.a.a.e (N x.r.a.b.a (N (zay x) (N (zav x) (N (zaD x) (L (zav x)) z) (N (zlb x) (L (zaD x)) z)) (N (zi4 x) (N (zav x) (L (znA x)) z) (L (zaD x)))) (N (b999 x) (N (zaD x) (N (zj6 x) (L (zaD x)) z) (N (zav x) (L (zhS x)) z)) (N (zav x) (N (zaD x) (L (zav x)) z) (L (zlP x))))) (N (b998 x) (N (zhW x) (N (ziC x) (N (zav x) (L (zmH x)) z) (N (zaD x) (L (zav x)) z)) (N (zaD x) (N (zkm x) (L (zaD x)) z) (L (zav x)))) (N (zaD x) (N (zav x) (N (zaD x) (L (zav x)) z) (L (zlI x))) (N (zjd x) (N (zav x) (L (zn5 x)) z) (L (zaD x)))))) (N x.r.a.a.g (N x.r.a.b.c (N (zad x) (N (ziB x) (N (zjI x) (L (zmX x)) z) (N (zkT x) (L (zh4 x)) z)) (N (ziQ x) (N (zkj x) (L (znU x)) z) (L (zlL x)))) (N (zih x) (N (ziM x) (N (zjX x) (L (znl x)) z) (N (zlC x) (L (zhM x)) z)) (N (zji x) (N (zks x) (L (zn3 x)) z) (L (zlR x))))) (N (zhA x) (N (zad x) (N (ziD x) (N (zkh x) (L (zmZ x)) z) (N (zlD x) (L (zij x)) z)) (N (zjk x) (N (zkn x) (L (znZ x)) z) (L (zlS x)))) (N (ziG x) (N (ziX x) (N (zkk x) (L (znV x)) z) (L (zlJ x))) (N (zje x) (N (zkQ x) (L (zn2 x)) z) (L (zm8 x))))))))
def m1012s (p : Program) : List Stmt := [sp p 14]
def m1026 : W.BT := (N x.r.a.a.a (N x.r.a.a.b (N (b1012 x) (N x.r.a.a.h (N (zie x) (N (zad x) (N (zi9 x) (L (zad x)) z) (N (zad x) (L (zn7 x)) z)) (N (zad x) (N (zad x) (L (zad x)) z) (N (zlH x) (L (zad x)) z))) (N (zhZ x) (N (ziF x) (N (zad x) (L (zmT x)) z) (N (zad x) (L (zad x)) z)) (N (zad x) (N (zkl x) (L (zad x)) z) (N (zad x) (L (ziU x)) z)))) (N (zad x) (N (zav x) (N (zad x) (N (zad x) (L (zad x)) z) (N (zlu x) (L (zad x)) z)) (N (zi2 x) (N (zad x) (L (znS x)) z) (N (zad x) (L (zad x)) z))) (N (zh9 x) (N (zad x) (N (zjL x) (L (zad x)) z) (N (zad x) (L (ziq x)) z)) (N (zad x) (N (zad x) (L (zad x)) z) (L (zl5 x)))))) (N x.r.a.a.f (N x.r.a.b.b (N (zio x) (N (ziE x) (N (zay x) (L (zmJ x)) z) (N (zlj x) (L (zay x)) z)) (N (ziO x) (N (zko x) (L (znq x)) z) (N (zay x) (L (ziJ x)) z))) (N (zic x) (N (zay x) (N (zjT x) (L (zay x)) z) (N (zlK x) (L (zid x)) z)) (N (zjh x) (N (zay x) (L (zn6 x)) z) (L (zl0 x))))) (N (zhB x) (N (ziw x) (N (ziA x) (N (zjW x) (L (zng x)) z) (N (zay x) (L (zhO x)) z)) (N (zay x) (N (zki x) (L (zay x)) z) (N (zms x) (L (ziT x)) z))) (N (zay x) (N (ziR x) (N (zay x) (L (zni x)) z) (N (zlE x) (L (zay x)) z)) (N (zjl x) (N (zlt x) (L (zn8 x)) z) (L (zay x))))))) (N x.r.a.a.c (N x.r.a.a.e (N x.r.a.b.a (N (zay x) (N (zav x) (N (zaD x) (L (zav x)) z) (N (zlb x) (L (zaD x)) z)) (N (zi4 x) (N (zav x) (L (znA x)) z) (N (zaD x) (L (zav x)) z))) (N (b1014 x) (N (zaD x) (N (zj6 x) (L (zaD x)) z) (N (zav x) (L (zhS x)) z)) (N (zav x) (N (zaD x) (L (zav x)) z) (L (zlP x))))) (N (b1013 x) (N (zhW x) (N (ziC x) (N (zav x) (L (zmH x)) z) (N (zaD x) (L (zav x)) z)) (N (zaD x) (N (zkm x) (L (zaD x)) z) (N (zav x) (L (ziY x)) z))) (N (zaD x) (N (zav x) (N (zaD x) (L (zav x)) z) (N (zlI x) (L (zaD x)) z)) (N (zjd x) (N (zav x) (L (zn5 x)) z) (L (zaD x)))))) (N x.r.a.a.g (N x.r.a.b.c (N (zad x) (N (ziB x) (N (zjI x) (L (zmX x)) z) (N (zkT x) (L (zh4 x)) z)) (N (ziQ x) (N (zkj x) (L (znU x)) z) (N (zlL x) (L (ziH x)) z))) (N (zih x) (N (ziM x) (N (zjX x) (L (znl x)) z) (N (zlC x) (L (zhM x)) z)) (N (zji x) (N (zks x) (L (zn3 x)) z) (L (zlR x))))) (N (zhA x) (N (zad x) (N (ziD x) (N (zkh x) (L (zmZ x)) z) (N (zlD x) (L (zij x)) z)) (N (zjk x) (N (zkn x) (L (znZ x)) z) (N (zlS x) (L (ziK x)) z))) (N (ziG x) (N (ziX x) (N (zkk x) (L (znV x)) z) (N (zlJ x) (L (ziP x)) z)) (N (zje x) (N (zkQ x) (L (zn2 x)) z) (L (zm8 x))))))))
def m1027s (p : Program) : List Stmt := [sp p 15]
def m1041 : W.BT := (N x.r.a.a.a (N x.r.a.a.b (N (b1027 x) (N x.r.a.a.h (N (zie x) (N (zad x) (N (zi9 x) (L (zad x)) (L (zad x))) (N (zad x) (L (zn7 x)) z)) (N (zad x) (N (zad x) (L (zad x)) z) (N (zlH x) (L (zad x)) z))) (N (zhZ x) (N (ziF x) (N (zad x) (L (zmT x)) z) (N (zad x) (L (zad x)) z)) (N (zad x) (N (zkl x) (L (zad x)) z) (N (zad x) (L (ziU x)) z)))) (N (zad x) (N (zav x) (N (zad x) (N (zad x) (L (zad x)) (L (zjs x))) (N (zlu x) (L (zad x)) z)) (N (zi2 x) (N (zad x) (L (znS x)) z) (N (zad x) (L (zad x)) z))) (N (zh9 x) (N (zad x) (N (zjL x) (L (zad x)) z) (N (zad x) (L (ziq x)) z)) (N (zad x) (N (zad x) (L (zad x)) z) (N (zl5 x) (L (zad x)) z))))) (N x.r.a.a.f (N x.r.a.b.b (N (zio x) (N (ziE x) (N (zay x) (L (zmJ x)) (L (zkd x))) (N (zlj x) (L (zay x)) z)) (N (ziO x) (N (zko x) (L (znq x)) z) (N (zay x) (L (ziJ x)) z))) (N (zic x) (N (zay x) (N (zjT x) (L (zay x)) z) (N (zlK x) (L (zid x)) z)) (N (zjh x) (N (zay x) (L (zn6 x)) z) (N (zl0 x) (L (zay x)) z)))) (N (zhB x) (N (ziw x) (N (ziA x) (N (zjW x) (L (zng x)) z) (N (zay x) (L (zhO x)) z)) (N (zay x) (N (zki x) (L (zay x)) z) (N (zms x) (L (ziT x)) z))) (N (zay x) (N (ziR x) (N (zay x) (L (zni x)) z) (N (zlE x) (L (zay x)) z)) (N (zjl x) (N (zlt x) (L (zn8 x)) z) (N (zay x) (L (zju x)) z)))))) (N x.r.a.a.c (N x.r.a.a.e (N x.r.a.b.a (N (zay x) (N (zav x) (N (zaD x) (L (zav x)) (L (zjE x))) (N (zlb x) (L (zaD x)) z)) (N (zi4 x) (N (zav x) (L (znA x)) z) (N (zaD x) (L (zav x)) z))) (N (b1029 x) (N (zaD x) (N (zj6 x) (L (zaD x)) z) (N (zav x) (L (zhS x)) z)) (N (zav x) (N (zaD x) (L (zav x)) z) (N (zlP x) (L (zaD x)) z)))) (N (b1028 x) (N (zhW x) (N (ziC x) (N (zav x) (L (zmH x)) z) (N (zaD x) (L (zav x)) z)) (N (zaD x) (N (zkm x) (L (zaD x)) z) (N (zav x) (L (ziY x)) z))) (N (zaD x) (N (zav x) (N (zaD x) (L (zav x)) z) (N (zlI x) (L (zaD x)) z)) (N (zjd x) (N (zav x) (L (zn5 x)) z) (N (zaD x) (L (zav x)) z))))) (N x.r.a.a.g (N x.r.a.b.c (N (zad x) (N (ziB x) (N (zjI x) (L (zmX x)) (L (zjx x))) (N (zkT x) (L (zh4 x)) z)) (N (ziQ x) (N (zkj x) (L (znU x)) z) (N (zlL x) (L (ziH x)) z))) (N (zih x) (N (ziM x) (N (zjX x) (L (znl x)) z) (N (zlC x) (L (zhM x)) z)) (N (zji x) (N (zks x) (L (zn3 x)) z) (N (zlR x) (L (zj9 x)) z)))) (N (zhA x) (N (zad x) (N (ziD x) (N (zkh x) (L (zmZ x)) z) (N (zlD x) (L (zij x)) z)) (N (zjk x) (N (zkn x) (L (znZ x)) z) (N (zlS x) (L (ziK x)) z))) (N (ziG x) (N (ziX x) (N (zkk x) (L (znV x)) z) (N (zlJ x) (L (ziP x)) z)) (N (zje x) (N (zkQ x) (L (zn2 x)) z) (N (zm8 x) (L (zj5 x)) z)))))))
def m1042s (p : Program) : List Stmt := [sp p 16]
def m1063 : W.BT := (N x.r.a.a.a (N x.r.a.a.b (N (b1042 x) (N x.r.a.a.h (N (zie x) (N (zad x) (N (zi9 x) (L (zad x)) (L (zad x))) (N (zad x) (L (zn7 x)) z)) (N (zad x) (N (zad x) (L (zad x)) (L (zkO x))) (N (zlH x) (L (zad x)) z))) (N (zhZ x) (N (ziF x) (N (zad x) (L (zmT x)) (L (zad x))) (N (zad x) (L (zad x)) z)) (N (zad x) (N (zkl x) (L (zad x)) z) (N (zad x) (L (ziU x)) z)))) (N (zad x) (N (zav x) (N (zad x) (N (zad x) (L (zad x)) (L (zjs x))) (N (zlu x) (L (zad x)) z)) (N (zi2 x) (N (zad x) (L (znS x)) (L (zlp x))) (N (zad x) (L (zad x)) z))) (N (zh9 x) (N (zad x) (N (zjL x) (L (zad x)) (L (zad x))) (N (zad x) (L (ziq x)) z)) (N (zad x) (N (zad x) (L (zad x)) z) (N (zl5 x) (L (zad x)) z))))) (N x.r.a.a.f (N x.r.a.b.b (N (zio x) (N (ziE x) (N (zay x) (L (zmJ x)) (L (zkd x))) (N (zlj x) (L (zay x)) z)) (N (ziO x) (N (zko x) (L (znq x)) (L (zlr x))) (N (zay x) (L (ziJ x)) z))) (N (zic x) (N (zay x) (N (zjT x) (L (zay x)) (L (zkD x))) (N (zlK x) (L (zid x)) z)) (N (zjh x) (N (zay x) (L (zn6 x)) z) (N (zl0 x) (L (zay x)) z)))) (N (zhB x) (N (ziw x) (N (ziA x) (N (zjW x) (L (zng x)) (L (zay x))) (N (zay x) (L (zhO x)) z)) (N (zay x) (N (zki x) (L (zay x)) (L (zkV x))) (N (zms x) (L (ziT x)) z))) (N (zay x) (N (ziR x) (N (zay x) (L (zni x)) (L (zkJ x))) (N (zlE x) (L (zay x)) z)) (N (zjl x) (N (zlt x) (L (zn8 x)) z) (N (zay x) (L (zju x)) z)))))) (N x.r.a.a.c (N x.r.a.a.e (N x.r.a.b.a (N (zay x) (N (zav x) (N (zaD x) (L (zav x)) (L (zjE x))) (N (zlb x) (L (zaD x)) z)) (N (zi4 x) (N (zav x) (L (znA x)) (L (zln x))) (N (zaD x) (L (zav x)) z))) (N (b1044 x) (N (zaD x) (N (zj6 x) (L (zaD x)) (L (zk6 x))) (N (zav x) (L (zhS x)) z)) (N (zav x) (N (zaD x) (L (zav x)) z) (N (zlP x) (L (zaD x)) z)))) (N (b1043 x) (N (zhW x) (N (ziC x) (N (zav x) (L (zmH x)) (L (zaD x))) (N (zaD x) (L (zav x)) z)) (N (zaD x) (N (zkm x) (L (zaD x)) (L (zld x))) (N (zav x) (L (ziY x)) z))) (N (zaD x) (N (zav x) (N (zaD x) (L (zav x)) (L (zav x))) (N (zlI x) (L (zaD x)) z)) (N (zjd x) (N (zav x) (L (zn5 x)) z) (N (zaD x) (L (zav x)) z))))) (N x.r.a.a.g (N x.r.a.b.c (N (zad x) (N (ziB x) (N (zjI x) (L (zmX x)) (L (zjx x))) (N (zkT x) (L (zh4 x)) z)) (N (ziQ x) (N (zkj x) (L (znU x)) (L (zk2 x))) (N (zlL x) (L (ziH x)) z))) (N (zih x) (N (ziM x) (N (zjX x) (L (znl x)) (L (zkw x))) (N (zlC x) (L (zhM x)) z)) (N (zji x) (N (zks x) (L (zn3 x)) z) (N (zlR x) (L (zj9 x)) z)))) (N (zhA x) (N (zad x) (N (ziD x) (N (zkh x) (L (zmZ x)) (L (zkt x))) (N (zlD x) (L (zij x)) z)) (N (zjk x) (N (zkn x) (L (znZ x)) (L (zkA x))) (N (zlS x) (L (ziK x)) z))) (N (ziG x) (N (ziX x) (N (zkk x) (L (znV x)) (L (zad x))) (N (zlJ x) (L (ziP x)) z)) (N (zje x) (N (zkQ x) (L (zn2 x)) z) (N (zm8 x) (L (zj5 x)) z)))))))
def m1064s (p : Program) : List Stmt := [sp p 17]
def m1085 : W.BT := (N x.r.a.a.a (N x.r.a.a.b (N (b1064 x) (N x.r.a.a.h (N (zie x) (N (zad x) (N (zi9 x) (L (zad x)) (L (zad x))) (N (zad x) (L (zn7 x)) (L (zav x)))) (N (zad x) (N (zad x) (L (zad x)) (L (zkO x))) (N (zlH x) (L (zad x)) z))) (N (zhZ x) (N (ziF x) (N (zad x) (L (zmT x)) (L (zad x))) (N (zad x) (L (zad x)) (L (zmC x)))) (N (zad x) (N (zkl x) (L (zad x)) (L (zaD x))) (N (zad x) (L (ziU x)) z)))) (N (zad x) (N (zav x) (N (zad x) (N (zad x) (L (zad x)) (L (zjs x))) (N (zlu x) (L (zad x)) (L (zl9 x)))) (N (zi2 x) (N (zad x) (L (znS x)) (L (zlp x))) (N (zad x) (L (zad x)) z))) (N (zh9 x) (N (zad x) (N (zjL x) (L (zad x)) (L (zad x))) (N (zad x) (L (ziq x)) z)) (N (zad x) (N (zad x) (L (zad x)) (L (zl1 x))) (N (zl5 x) (L (zad x)) z))))) (N x.r.a.a.f (N x.r.a.b.b (N (zio x) (N (ziE x) (N (zay x) (L (zmJ x)) (L (zkd x))) (N (zlj x) (L (zay x)) (L (zad x)))) (N (ziO x) (N (zko x) (L (znq x)) (L (zlr x))) (N (zay x) (L (ziJ x)) z))) (N (zic x) (N (zay x) (N (zjT x) (L (zay x)) (L (zkD x))) (N (zlK x) (L (zid x)) (L (zmd x)))) (N (zjh x) (N (zay x) (L (zn6 x)) (L (zmo x))) (N (zl0 x) (L (zay x)) z)))) (N (zhB x) (N (ziw x) (N (ziA x) (N (zjW x) (L (zng x)) (L (zay x))) (N (zay x) (L (zhO x)) (L (zmt x)))) (N (zay x) (N (zki x) (L (zay x)) (L (zkV x))) (N (zms x) (L (ziT x)) z))) (N (zay x) (N (ziR x) (N (zay x) (L (zni x)) (L (zkJ x))) (N (zlE x) (L (zay x)) z)) (N (zjl x) (N (zlt x) (L (zn8 x)) (L (zl7 x))) (N (zay x) (L (zju x)) z)))))) (N x.r.a.a.c (N x.r.a.a.e (N x.r.a.b.a (N (zay x) (N (zav x) (N (zaD x) (L (zav x)) (L (zjE x))) (N (zlb x) (L (zaD x)) (L (zlN x)))) (N (zi4 x) (N (zav x) (L (znA x)) (L (zln x))) (N (zaD x) (L (zav x)) z))) (N (b1066 x) (N (zaD x) (N (zj6 x) (L (zaD x)) (L (zk6 x))) (N (zav x) (L (zhS x)) (L (zlZ x)))) (N (zav x) (N (zaD x) (L (zav x)) (L (zay x))) (N (zlP x) (L (zaD x)) z)))) (N (b1065 x) (N (zhW x) (N (ziC x) (N (zav x) (L (zmH x)) (L (zaD x))) (N (zaD x) (L (zav x)) (L (zma x)))) (N (zaD x) (N (zkm x) (L (zaD x)) (L (zld x))) (N (zav x) (L (ziY x)) z))) (N (zaD x) (N (zav x) (N (zaD x) (L (zav x)) (L (zav x))) (N (zlI x) (L (zaD x)) z)) (N (zjd x) (N (zav x) (L (zn5 x)) (L (zlU x))) (N (zaD x) (L (zav x)) z))))) (N x.r.a.a.g (N x.r.a.b.c (N (zad x) (N (ziB x) (N (zjI x) (L (zmX x)) (L (zjx x))) (N (zkT x) (L (zh4 x)) (L (zmi x)))) (N (ziQ x) (N (zkj x) (L (znU x)) (L (zk2 x))) (N (zlL x) (L (ziH x)) z))) (N (zih x) (N (ziM x) (N (zjX x) (L (znl x)) (L (zkw x))) (N (zlC x) (L (zhM x)) z)) (N (zji x) (N (zks x) (L (zn3 x)) (L (zad x))) (N (zlR x) (L (zj9 x)) z)))) (N (zhA x) (N (zad x) (N (ziD x) (N (zkh x) (L (zmZ x)) (L (zkt x))) (N (zlD x) (L (zij x)) (L (zmb x)))) (N (zjk x) (N (zkn x) (L (znZ x)) (L (zkA x))) (N (zlS x) (L (ziK x)) z))) (N (ziG x) (N (ziX x) (N (zkk x) (L (znV x)) (L (zad x))) (N (zlJ x) (L (ziP x)) z)) (N (zje x) (N (zkQ x) (L (zn2 x)) (L (zad x))) (N (zm8 x) (L (zj5 x)) z)))))))
def m1086s (p : Program) : List Stmt := [sp p 18]
def m1107 : W.BT := (N x.r.a.a.a (N x.r.a.a.b (N (b1086 x) (N x.r.a.a.h (N (zie x) (N (zad x) (N (zi9 x) (L (zad x)) (L (zad x))) (N (zad x) (L (zn7 x)) (L (zav x)))) (N (zad x) (N (zad x) (L (zad x)) (L (zkO x))) (N (zlH x) (L (zad x)) (L (znP x))))) (N (zhZ x) (N (ziF x) (N (zad x) (L (zmT x)) (L (zad x))) (N (zad x) (L (zad x)) (L (zmC x)))) (N (zad x) (N (zkl x) (L (zad x)) (L (zaD x))) (N (zad x) (L (ziU x)) (L (znO x)))))) (N (zad x) (N (zav x) (N (zad x) (N (zad x) (L (zad x)) (L (zjs x))) (N (zlu x) (L (zad x)) (L (zl9 x)))) (N (zi2 x) (N (zad x) (L (znS x)) (L (zlp x))) (N (zad x) (L (zad x)) (L (znI x))))) (N (zh9 x) (N (zad x) (N (zjL x) (L (zad x)) (L (zad x))) (N (zad x) (L (ziq x)) (L (zay x)))) (N (zad x) (N (zad x) (L (zad x)) (L (zl1 x))) (N (zl5 x) (L (zad x)) (L (zny x))))))) (N x.r.a.a.f (N x.r.a.b.b (N (zio x) (N (ziE x) (N (zay x) (L (zmJ x)) (L (zkd x))) (N (zlj x) (L (zay x)) (L (zad x)))) (N (ziO x) (N (zko x) (L (znq x)) (L (zlr x))) (N (zay x) (L (ziJ x)) (L (zad x))))) (N (zic x) (N (zay x) (N (zjT x) (L (zay x)) (L (zkD x))) (N (zlK x) (L (zid x)) (L (zmd x)))) (N (zjh x) (N (zay x) (L (zn6 x)) (L (zmo x))) (N (zl0 x) (L (zay x)) (L (znL x)))))) (N (zhB x) (N (ziw x) (N (ziA x) (N (zjW x) (L (zng x)) (L (zay x))) (N (zay x) (L (zhO x)) (L (zmt x)))) (N (zay x) (N (zki x) (L (zay x)) (L (zkV x))) (N (zms x) (L (ziT x)) (L (znN x))))) (N (zay x) (N (ziR x) (N (zay x) (L (zni x)) (L (zkJ x))) (N (zlE x) (L (zay x)) (L (zad x)))) (N (zjl x) (N (zlt x) (L (zn8 x)) (L (zl7 x))) (N (zay x) (L (zju x)) z)))))) (N x.r.a.a.c (N x.r.a.a.e (N x.r.a.b.a (N (zay x) (N (zav x) (N (zaD x) (L (zav x)) (L (zjE x))) (N (zlb x) (L (zaD x)) (L (zlN x)))) (N (zi4 x) (N (zav x) (L (znA x)) (L (zln x))) (N (zaD x) (L (zav x)) (L (znu x))))) (N (b1088 x) (N (zaD x) (N (zj6 x) (L (zaD x)) (L (zk6 x))) (N (zav x) (L (zhS x)) (L (zlZ x)))) (N (zav x) (N (zaD x) (L (zav x)) (L (zay x))) (N (zlP x) (L (zaD x)) (L (znG x)))))) (N (b1087 x) (N (zhW x) (N (ziC x) (N (zav x) (L (zmH x)) (L (zaD x))) (N (zaD x) (L (zav x)) (L (zma x)))) (N (zaD x) (N (zkm x) (L (zaD x)) (L (zld x))) (N (zav x) (L (ziY x)) (L (zad x))))) (N (zaD x) (N (zav x) (N (zaD x) (L (zav x)) (L (zav x))) (N (zlI x) (L (zaD x)) (L (znw x)))) (N (zjd x) (N (zav x) (L (zn5 x)) (L (zlU x))) (N (zaD x) (L (zav x)) (L (znr x))))))) (N x.r.a.a.g (N x.r.a.b.c (N (zad x) (N (ziB x) (N (zjI x) (L (zmX x)) (L (zjx x))) (N (zkT x) (L (zh4 x)) (L (zmi x)))) (N (ziQ x) (N (zkj x) (L (znU x)) (L (zk2 x))) (N (zlL x) (L (ziH x)) (L (zav x))))) (N (zih x) (N (ziM x) (N (zjX x) (L (znl x)) (L (zkw x))) (N (zlC x) (L (zhM x)) (L (zaD x)))) (N (zji x) (N (zks x) (L (zn3 x)) (L (zad x))) (N (zlR x) (L (zj9 x)) (L (znv x)))))) (N (zhA x) (N (zad x) (N (ziD x) (N (zkh x) (L (zmZ x)) (L (zkt x))) (N (zlD x) (L (zij x)) (L (zmb x)))) (N (zjk x) (N (zkn x) (L (znZ x)) (L (zkA x))) (N (zlS x) (L (ziK x)) (L (znh x))))) (N (ziG x) (N (ziX x) (N (zkk x) (L (znV x)) (L (zad x))) (N (zlJ x) (L (ziP x)) (L (znR x)))) (N (zje x) (N (zkQ x) (L (zn2 x)) (L (zad x))) (N (zm8 x) (L (zj5 x)) z)))))))
def m1108s (p : Program) : List Stmt := [sp p 19, sp p 20, sp p 21, sp p 22, sp p 23, sp p 24, sp p 25, sp p 26, sp p 27, sp p 28]
def m1151 : W.BT := (N x.r.a.a.a (N x.r.a.a.b (N (b1108 x) (N x.r.a.a.h (N (zie x) (N (zad x) (N (zi9 x) (N (zad x) (L (zpC x)) z) (L (zad x))) (N (zad x) (N (zn7 x) (L (zad x)) z) (L (zav x)))) (N (zad x) (N (zad x) (N (zad x) (L (zpa x)) z) (L (zkO x))) (N (zlH x) (L (zad x)) (L (znP x))))) (N (zhZ x) (N (ziF x) (N (zad x) (N (zmT x) (L (zad x)) z) (L (zad x))) (N (zad x) (L (zad x)) (L (zmC x)))) (N (zad x) (N (zkl x) (N (zad x) (L (zad x)) z) (L (zaD x))) (N (zad x) (L (ziU x)) (L (znO x)))))) (N (zad x) (N (zav x) (N (zad x) (N (zad x) (N (zad x) (L (zpD x)) z) (L (zjs x))) (N (zlu x) (N (zad x) (L (zpT x)) z) (L (zl9 x)))) (N (zi2 x) (N (zad x) (N (znS x) (L (zad x)) z) (L (zlp x))) (N (zad x) (L (zad x)) (L (znI x))))) (N (zh9 x) (N (zad x) (N (zjL x) (N (zad x) (L (zo1 x)) z) (L (zad x))) (N (zad x) (L (ziq x)) (L (zay x)))) (N (zad x) (N (zad x) (N (zad x) (L (zpb x)) z) (L (zl1 x))) (N (zl5 x) (L (zad x)) (L (zny x))))))) (N x.r.a.a.f (N x.r.a.b.b (N (zio x) (N (ziE x) (N (zay x) (N (zmJ x) (L (zoF x)) z) (L (zkd x))) (N (zlj x) (N (zay x) (L (zom x)) z) (L (zad x)))) (N (ziO x) (N (zko x) (N (znq x) (L (zav x)) z) (L (zlr x))) (N (zay x) (L (ziJ x)) (L (zad x))))) (N (zic x) (N (zay x) (N (zjT x) (N (zay x) (L (zpM x)) z) (L (zkD x))) (N (zlK x) (L (zid x)) (L (zmd x)))) (N (zjh x) (N (zay x) (N (zn6 x) (L (zoe x)) z) (L (zmo x))) (N (zl0 x) (L (zay x)) (L (znL x)))))) (N (zhB x) (N (ziw x) (N (ziA x) (N (zjW x) (N (zng x) (L (zav x)) z) (L (zay x))) (N (zay x) (N (zhO x) (L (zo3 x)) z) (L (zmt x)))) (N (zay x) (N (zki x) (N (zay x) (L (zos x)) z) (L (zkV x))) (N (zms x) (L (ziT x)) (L (znN x))))) (N (zay x) (N (ziR x) (N (zay x) (N (zni x) (L (zod x)) z) (L (zkJ x))) (N (zlE x) (L (zay x)) (L (zad x)))) (N (zjl x) (N (zlt x) (N (zn8 x) (L (zpe x)) z) (L (zl7 x))) (N (zay x) (L (zju x)) (L (zaD x)))))))) (N x.r.a.a.c (N x.r.a.a.e (N x.r.a.b.a (N (zay x) (N (zav x) (N (zaD x) (N (zav x) (L (zad x)) z) (L (zjE x))) (N (zlb x) (N (zaD x) (L (zav x)) z) (L (zlN x)))) (N (zi4 x) (N (zav x) (N (znA x) (L (zad x)) z) (L (zln x))) (N (zaD x) (L (zav x)) (L (znu x))))) (N (zoL x) (N (zaD x) (N (zj6 x) (N (zaD x) (L (zoW x)) z) (L (zk6 x))) (N (zav x) (L (zhS x)) (L (zlZ x)))) (N (zav x) (N (zaD x) (N (zav x) (L (zav x)) z) (L (zay x))) (N (zlP x) (L (zaD x)) (L (znG x)))))) (N (b1109 x) (N (zhW x) (N (ziC x) (N (zav x) (N (zmH x) (L (zad x)) z) (L (zaD x))) (N (zaD x) (N (zav x) (L (zoZ x)) z) (L (zma x)))) (N (zaD x) (N (zkm x) (N (zaD x) (L (zog x)) z) (L (zld x))) (N (zav x) (L (ziY x)) (L (zad x))))) (N (zaD x) (N (zav x) (N (zaD x) (N (zav x) (L (zpj x)) z) (L (zav x))) (N (zlI x) (L (zaD x)) (L (znw x)))) (N (zjd x) (N (zav x) (N (zn5 x) (L (zpL x)) z) (L (zlU x))) (N (zaD x) (L (zav x)) (L (znr x))))))) (N x.r.a.a.g (N x.r.a.b.c (N (zad x) (N (ziB x) (N (zjI x) (N (zmX x) (L (zpt x)) z) (L (zjx x))) (N (zkT x) (N (zh4 x) (L (zad x)) z) (L (zmi x)))) (N (ziQ x) (N (zkj x) (N (znU x) (L (zok x)) z) (L (zk2 x))) (N (zlL x) (L (ziH x)) (L (zav x))))) (N (zih x) (N (ziM x) (N (zjX x) (N (znl x) (L (zpz x)) z) (L (zkw x))) (N (zlC x) (L (zhM x)) (L (zaD x)))) (N (zji x) (N (zks x) (N (zn3 x) (L (zad x)) z) (L (zad x))) (N (zlR x) (L (zj9 x)) (L (znv x)))))) (N (zhA x) (N (zad x) (N (ziD x) (N (zkh x) (N (zmZ x) (L (zo8 x)) z) (L (zkt x))) (N (zlD x) (L (zij x)) (L (zmb x)))) (N (zjk x) (N (zkn x) (N (znZ x) (L (zo0 x)) z) (L (zkA x))) (N (zlS x) (L (ziK x)) (L (znh x))))) (N (ziG x) (N (ziX x) (N (zkk x) (N (znV x) (L (zpI x)) z) (L (zad x))) (N (zlJ x) (L (ziP x)) (L (znR x)))) (N (zje x) (N (zkQ x) (N (zn2 x) (L (zoE x)) z) (L (zad x))) (N (zm8 x) (L (zj5 x)) (L (zay x)))))))))
def m1152s (p : Program) : List Stmt := [sp p 29, sp p 30, sp p 31, sp p 32, sp p 33, sp p 34, sp p 35, sp p 36, sp p 37, sp p 38, sp p 39, sp p 40, sp p 41]
def m1235 : W.BT := (N x.r.a.a.a (N x.r.a.a.b (N (b1152 x) (N x.r.a.a.h (N (zie x) (N (zad x) (N (zi9 x) (N (zad x) (L (zpC x)) z) (N (zad x) (L (zqR x)) z)) (N (zad x) (N (zn7 x) (L (zad x)) z) (N (zav x) (L (zav x)) z))) (N (zad x) (N (zad x) (N (zad x) (L (zpa x)) z) (N (zkO x) (L (zqq x)) z)) (N (zlH x) (N (zad x) (L (zq3 x)) z) (N (znP x) (L (zp6 x)) z)))) (N (zhZ x) (N (ziF x) (N (zad x) (N (zmT x) (L (zad x)) z) (N (zad x) (L (zqQ x)) z)) (N (zad x) (N (zad x) (L (zav x)) z) (N (zmC x) (L (zqS x)) z))) (N (zad x) (N (zkl x) (N (zad x) (L (zad x)) z) (N (zaD x) (L (zad x)) z)) (N (zad x) (N (ziU x) (L (zad x)) z) (N (znO x) (L (zre x)) z))))) (N (zad x) (N (zav x) (N (zad x) (N (zad x) (N (zad x) (L (zpD x)) z) (N (zjs x) (L (zav x)) z)) (N (zlu x) (N (zad x) (L (zpT x)) z) (N (zl9 x) (L (zad x)) z))) (N (zi2 x) (N (zad x) (N (znS x) (L (zad x)) z) (N (zlp x) (L (zad x)) z)) (N (zad x) (N (zad x) (L (zqZ x)) z) (N (znI x) (L (zq9 x)) z)))) (N (zh9 x) (N (zad x) (N (zjL x) (N (zad x) (L (zo1 x)) z) (N (zad x) (L (zrw x)) z)) (N (zad x) (N (ziq x) (L (zri x)) z) (N (zay x) (L (zav x)) z))) (N (zad x) (N (zad x) (N (zad x) (L (zpb x)) z) (N (zl1 x) (L (zrn x)) z)) (N (zl5 x) (N (zad x) (L (zad x)) z) (L (zny x))))))) (N x.r.a.a.f (N x.r.a.b.b (N (zio x) (N (ziE x) (N (zay x) (N (zmJ x) (L (zoF x)) z) (N (zkd x) (L (zqX x)) z)) (N (zlj x) (N (zay x) (L (zom x)) z) (N (zad x) (L (zqj x)) z))) (N (ziO x) (N (zko x) (N (znq x) (L (zav x)) z) (N (zlr x) (L (zav x)) z)) (N (zay x) (N (ziJ x) (L (zqe x)) z) (N (zad x) (L (zad x)) z)))) (N (zic x) (N (zay x) (N (zjT x) (N (zay x) (L (zpM x)) z) (N (zkD x) (L (zad x)) z)) (N (zlK x) (N (zid x) (L (zad x)) z) (N (zmd x) (L (zqU x)) z))) (N (zjh x) (N (zay x) (N (zn6 x) (L (zoe x)) z) (N (zmo x) (L (zqM x)) z)) (N (zl0 x) (N (zay x) (L (zqE x)) z) (L (znL x)))))) (N (zhB x) (N (ziw x) (N (ziA x) (N (zjW x) (N (zng x) (L (zav x)) z) (N (zay x) (L (zad x)) z)) (N (zay x) (N (zhO x) (L (zo3 x)) z) (N (zmt x) (L (zqn x)) z))) (N (zay x) (N (zki x) (N (zay x) (L (zos x)) z) (N (zkV x) (L (zqu x)) z)) (N (zms x) (N (ziT x) (L (zav x)) z) (N (znN x) (L (zrA x)) z)))) (N (zay x) (N (ziR x) (N (zay x) (N (zni x) (L (zod x)) z) (N (zkJ x) (L (zqa x)) z)) (N (zlE x) (N (zay x) (L (zad x)) z) (N (zad x) (L (zad x)) z))) (N (zjl x) (N (zlt x) (N (zn8 x) (L (zpe x)) z) (N (zl7 x) (L (zq2 x)) z)) (N (zay x) (N (zju x) (L (zqA x)) z) (L (zaD x)))))))) (N x.r.a.a.c (N x.r.a.a.e (N x.r.a.b.a (N (zay x) (N (zav x) (N (zaD x) (N (zav x) (L (zad x)) z) (N (zjE x) (L (zqy x)) z)) (N (zlb x) (N (zaD x) (L (zav x)) z) (N (zlN x) (L (zqw x)) z))) (N (zi4 x) (N (zav x) (N (znA x) (L (zad x)) z) (N (zln x) (L (zad x)) z)) (N (zaD x) (N (zav x) (L (zad x)) z) (N (znu x) (L (zqm x)) z)))) (N (zoL x) (N (zaD x) (N (zj6 x) (N (zaD x) (L (zoW x)) z) (N (zk6 x) (L (zqY x)) z)) (N (zav x) (N (zhS x) (L (zrF x)) z) (N (zlZ x) (L (zrc x)) z))) (N (zav x) (N (zaD x) (N (zav x) (L (zav x)) z) (N (zay x) (L (zav x)) z)) (N (zlP x) (N (zaD x) (L (zrm x)) z) (L (znG x)))))) (N (b1153 x) (N (zhW x) (N (ziC x) (N (zav x) (N (zmH x) (L (zad x)) z) (N (zaD x) (L (zqF x)) z)) (N (zaD x) (N (zav x) (L (zoZ x)) z) (N (zma x) (L (zav x)) z))) (N (zaD x) (N (zkm x) (N (zaD x) (L (zog x)) z) (N (zld x) (L (zqI x)) z)) (N (zav x) (N (ziY x) (L (zad x)) z) (N (zad x) (L (zad x)) z)))) (N (zaD x) (N (zav x) (N (zaD x) (N (zav x) (L (zpj x)) z) (N (zav x) (L (zad x)) z)) (N (zlI x) (N (zaD x) (L (zqp x)) z) (N (znw x) (L (zrk x)) z))) (N (zjd x) (N (zav x) (N (zn5 x) (L (zpL x)) z) (N (zlU x) (L (zqh x)) z)) (N (zaD x) (N (zav x) (L (zav x)) z) (L (znr x))))))) (N x.r.a.a.g (N x.r.a.b.c (N (zad x) (N (ziB x) (N (zjI x) (N (zmX x) (L (zpt x)) z) (N (zjx x) (L (zad x)) z)) (N (zkT x) (N (zh4 x) (L (zad x)) z) (N (zmi x) (L (zru x)) z))) (N (ziQ x) (N (zkj x) (N (znU x) (L (zok x)) z) (N (zk2 x) (L (zqr x)) z)) (N (zlL x) (N (ziH x) (L (zro x)) z) (N (zav x) (L (zav x)) z)))) (N (zih x) (N (ziM x) (N (zjX x) (N (znl x) (L (zpz x)) z) (N (zkw x) (L (zav x)) z)) (N (zlC x) (N (zhM x) (L (zrz x)) z) (N (zaD x) (L (zad x)) z))) (N (zji x) (N (zks x) (N (zn3 x) (L (zad x)) z) (N (zad x) (L (zad x)) z)) (N (zlR x) (N (zj9 x) (L (zqd x)) z) (L (znv x)))))) (N (zhA x) (N (zad x) (N (ziD x) (N (zkh x) (N (zmZ x) (L (zo8 x)) z) (N (zkt x) (L (zrp x)) z)) (N (zlD x) (N (zij x) (L (zad x)) z) (N (zmb x) (L (zad x)) z))) (N (zjk x) (N (zkn x) (N (znZ x) (L (zo0 x)) z) (N (zkA x) (L (zqG x)) z)) (N (zlS x) (N (ziK x) (L (zqv x)) z) (N (znh x) (L (zq6 x)) z)))) (N (ziG x) (N (ziX x) (N (zkk x) (N (znV x) (L (zpI x)) z) (N (zad x) (L (zp7 x)) z)) (N (zlJ x) (N (ziP x) (L (zav x)) z) (N (znR x) (L (zqC x)) z))) (N (zje x) (N (zkQ x) (N (zn2 x) (L (zoE x)) z) (N (zad x) (L (zad x)) z)) (N (zm8 x) (N (zj5 x) (L (zad x)) z) (L (zay x)))))))))
def m1236s (p : Program) : List Stmt := [sp p 42, sp p 43, sp p 44, sp p 45, sp p 46, sp p 47, sp p 48, sp p 49, sp p 50, sp p 51, sp p 52, sp p 53]
def m1311 : W.BT := (N x.r.a.a.a (N x.r.a.a.b (N (b1236 x) (N x.r.a.a.h (N (zie x) (N (zad x) (N (zi9 x) (N (zad x) (L (zpC x)) (L (zad x))) (N (zad x) (L (zqR x)) (L (zti x)))) (N (zad x) (N (zn7 x) (L (zad x)) (L (zr3 x))) (N (zav x) (L (zav x)) z))) (N (zad x) (N (zad x) (N (zad x) (L (zpa x)) (L (zsA x))) (N (zkO x) (L (zqq x)) z)) (N (zlH x) (N (zad x) (L (zq3 x)) (L (zad x))) (N (znP x) (L (zp6 x)) z)))) (N (zhZ x) (N (ziF x) (N (zad x) (N (zmT x) (L (zad x)) (L (zav x))) (N (zad x) (L (zqQ x)) z)) (N (zad x) (N (zad x) (L (zav x)) (L (ztb x))) (N (zmC x) (L (zqS x)) z))) (N (zad x) (N (zkl x) (N (zad x) (L (zad x)) (L (zr5 x))) (N (zaD x) (L (zad x)) z)) (N (zad x) (N (ziU x) (L (zad x)) (L (zav x))) (N (znO x) (L (zre x)) z))))) (N (zad x) (N (zav x) (N (zad x) (N (zad x) (N (zad x) (L (zpD x)) (L (zs6 x))) (N (zjs x) (L (zav x)) z)) (N (zlu x) (N (zad x) (L (zpT x)) (L (zsP x))) (N (zl9 x) (L (zad x)) z))) (N (zi2 x) (N (zad x) (N (znS x) (L (zad x)) (L (zav x))) (N (zlp x) (L (zad x)) z)) (N (zad x) (N (zad x) (L (zqZ x)) (L (zr0 x))) (N (znI x) (L (zq9 x)) z)))) (N (zh9 x) (N (zad x) (N (zjL x) (N (zad x) (L (zo1 x)) (L (zsJ x))) (N (zad x) (L (zrw x)) z)) (N (zad x) (N (ziq x) (L (zri x)) (L (zav x))) (N (zay x) (L (zav x)) z))) (N (zad x) (N (zad x) (N (zad x) (L (zpb x)) (L (zsr x))) (N (zl1 x) (L (zrn x)) z)) (N (zl5 x) (N (zad x) (L (zad x)) (L (zsp x))) (N (zny x) (L (zad x)) z)))))) (N x.r.a.a.f (N x.r.a.b.b (N (zio x) (N (ziE x) (N (zay x) (N (zmJ x) (L (zoF x)) (L (zsz x))) (N (zkd x) (L (zqX x)) (L (zsj x)))) (N (zlj x) (N (zay x) (L (zom x)) (L (zav x))) (N (zad x) (L (zqj x)) z))) (N (ziO x) (N (zko x) (N (znq x) (L (zav x)) (L (zsy x))) (N (zlr x) (L (zav x)) z)) (N (zay x) (N (ziJ x) (L (zqe x)) (L (zsf x))) (N (zad x) (L (zad x)) z)))) (N (zic x) (N (zay x) (N (zjT x) (N (zay x) (L (zpM x)) (L (zad x))) (N (zkD x) (L (zad x)) z)) (N (zlK x) (N (zid x) (L (zad x)) (L (zsT x))) (N (zmd x) (L (zqU x)) z))) (N (zjh x) (N (zay x) (N (zn6 x) (L (zoe x)) (L (zad x))) (N (zmo x) (L (zqM x)) z)) (N (zl0 x) (N (zay x) (L (zqE x)) (L (zad x))) (N (znL x) (L (zav x)) z))))) (N (zhB x) (N (ziw x) (N (ziA x) (N (zjW x) (N (zng x) (L (zav x)) (L (zr4 x))) (N (zay x) (L (zad x)) z)) (N (zay x) (N (zhO x) (L (zo3 x)) (L (zad x))) (N (zmt x) (L (zqn x)) z))) (N (zay x) (N (zki x) (N (zay x) (L (zos x)) (L (zad x))) (N (zkV x) (L (zqu x)) z)) (N (zms x) (N (ziT x) (L (zav x)) (L (ztd x))) (N (znN x) (L (zrA x)) z)))) (N (zay x) (N (ziR x) (N (zay x) (N (zni x) (L (zod x)) (L (zad x))) (N (zkJ x) (L (zqa x)) z)) (N (zlE x) (N (zay x) (L (zad x)) (L (zsC x))) (N (zad x) (L (zad x)) z))) (N (zjl x) (N (zlt x) (N (zn8 x) (L (zpe x)) (L (zsW x))) (N (zl7 x) (L (zq2 x)) z)) (N (zay x) (N (zju x) (L (zqA x)) (L (zad x))) (N (zaD x) (L (zsG x)) z))))))) (N x.r.a.a.c (N x.r.a.a.e (N x.r.a.b.a (N (zay x) (N (zav x) (N (zaD x) (N (zav x) (L (zad x)) (L (zav x))) (N (zjE x) (L (zqy x)) (L (zr1 x)))) (N (zlb x) (N (zaD x) (L (zav x)) (L (zad x))) (N (zlN x) (L (zqw x)) z))) (N (zi4 x) (N (zav x) (N (znA x) (L (zad x)) (L (zsh x))) (N (zln x) (L (zad x)) z)) (N (zaD x) (N (zav x) (L (zad x)) (L (zav x))) (N (znu x) (L (zqm x)) z)))) (N (zoL x) (N (zaD x) (N (zj6 x) (N (zaD x) (L (zoW x)) (L (zsR x))) (N (zk6 x) (L (zqY x)) z)) (N (zav x) (N (zhS x) (L (zrF x)) (L (zr2 x))) (N (zlZ x) (L (zrc x)) z))) (N (zav x) (N (zaD x) (N (zav x) (L (zav x)) (L (zte x))) (N (zay x) (L (zav x)) z)) (N (zlP x) (N (zaD x) (L (zrm x)) (L (zrZ x))) (N (znG x) (L (zad x)) z))))) (N (b1237 x) (N (zhW x) (N (ziC x) (N (zav x) (N (zmH x) (L (zad x)) (L (zrY x))) (N (zaD x) (L (zqF x)) z)) (N (zaD x) (N (zav x) (L (zoZ x)) (L (zsY x))) (N (zma x) (L (zav x)) z))) (N (zaD x) (N (zkm x) (N (zaD x) (L (zog x)) (L (zr7 x))) (N (zld x) (L (zqI x)) z)) (N (zav x) (N (ziY x) (L (zad x)) (L (zsl x))) (N (zad x) (L (zad x)) z)))) (N (zaD x) (N (zav x) (N (zaD x) (N (zav x) (L (zpj x)) (L (zst x))) (N (zav x) (L (zad x)) z)) (N (zlI x) (N (zaD x) (L (zqp x)) (L (zss x))) (N (znw x) (L (zrk x)) z))) (N (zjd x) (N (zav x) (N (zn5 x) (L (zpL x)) (L (zad x))) (N (zlU x) (L (zqh x)) z)) (N (zaD x) (N (zav x) (L (zav x)) (L (zsi x))) (N (znr x) (L (zsu x)) z)))))) (N x.r.a.a.g (N x.r.a.b.c (N (zad x) (N (ziB x) (N (zjI x) (N (zmX x) (L (zpt x)) (L (zad x))) (N (zjx x) (L (zad x)) z)) (N (zkT x) (N (zh4 x) (L (zad x)) (L (zsa x))) (N (zmi x) (L (zru x)) z))) (N (ziQ x) (N (zkj x) (N (znU x) (L (zok x)) (L (zad x))) (N (zk2 x) (L (zqr x)) z)) (N (zlL x) (N (ziH x) (L (zro x)) (L (zad x))) (N (zav x) (L (zav x)) z)))) (N (zih x) (N (ziM x) (N (zjX x) (N (znl x) (L (zpz x)) (L (zs9 x))) (N (zkw x) (L (zav x)) z)) (N (zlC x) (N (zhM x) (L (zrz x)) (L (zad x))) (N (zaD x) (L (zad x)) z))) (N (zji x) (N (zks x) (N (zn3 x) (L (zad x)) (L (zav x))) (N (zad x) (L (zad x)) z)) (N (zlR x) (N (zj9 x) (L (zqd x)) (L (zsN x))) (N (znv x) (L (zr6 x)) z))))) (N (zhA x) (N (zad x) (N (ziD x) (N (zkh x) (N (zmZ x) (L (zo8 x)) (L (zad x))) (N (zkt x) (L (zrp x)) z)) (N (zlD x) (N (zij x) (L (zad x)) (L (zav x))) (N (zmb x) (L (zad x)) z))) (N (zjk x) (N (zkn x) (N (znZ x) (L (zo0 x)) (L (zs0 x))) (N (zkA x) (L (zqG x)) z)) (N (zlS x) (N (ziK x) (L (zqv x)) (L (zad x))) (N (znh x) (L (zq6 x)) z)))) (N (ziG x) (N (ziX x) (N (zkk x) (N (znV x) (L (zpI x)) (L (zav x))) (N (zad x) (L (zp7 x)) z)) (N (zlJ x) (N (ziP x) (L (zav x)) (L (zsn x))) (N (znR x) (L (zqC x)) z))) (N (zje x) (N (zkQ x) (N (zn2 x) (L (zoE x)) (L (zsw x))) (N (zad x) (L (zad x)) z)) (N (zm8 x) (N (zj5 x) (L (zad x)) (L (zav x))) (N (zay x) (L (zso x)) z))))))))
def m1312s (p : Program) : List Stmt := [sp p 54, sp p 55]
def m1327 : W.BT := (N x.r.a.a.a (N x.r.a.a.b (N (ztD x) (N x.r.a.a.h (N (zie x) (N (zad x) (N (zi9 x) (N (zad x) (L (zpC x)) (L (zad x))) (N (zad x) (L (zqR x)) (L (zti x)))) (N (zad x) (N (zn7 x) (L (zad x)) (L (zr3 x))) (N (zav x) (L (zav x)) z))) (N (zad x) (N (zad x) (N (zad x) (L (zpa x)) (L (zsA x))) (N (zkO x) (L (zqq x)) (L (ztM x)))) (N (zlH x) (N (zad x) (L (zq3 x)) (L (zad x))) (N (znP x) (L (zp6 x)) z)))) (N (zhZ x) (N (ziF x) (N (zad x) (N (zmT x) (L (zad x)) (L (zav x))) (N (zad x) (L (zqQ x)) (L (ztC x)))) (N (zad x) (N (zad x) (L (zav x)) (L (ztb x))) (N (zmC x) (L (zqS x)) z))) (N (zad x) (N (zkl x) (N (zad x) (L (zad x)) (L (zr5 x))) (N (zaD x) (L (zad x)) z)) (N (zad x) (N (ziU x) (L (zad x)) (L (zav x))) (N (znO x) (L (zre x)) z))))) (N (zad x) (N (zav x) (N (zad x) (N (zad x) (N (zad x) (L (zpD x)) (L (zs6 x))) (N (zjs x) (L (zav x)) (L (zav x)))) (N (zlu x) (N (zad x) (L (zpT x)) (L (zsP x))) (N (zl9 x) (L (zad x)) z))) (N (zi2 x) (N (zad x) (N (znS x) (L (zad x)) (L (zav x))) (N (zlp x) (L (zad x)) z)) (N (zad x) (N (zad x) (L (zqZ x)) (L (zr0 x))) (N (znI x) (L (zq9 x)) z)))) (N (zh9 x) (N (zad x) (N (zjL x) (N (zad x) (L (zo1 x)) (L (zsJ x))) (N (zad x) (L (zrw x)) (L (ztx x)))) (N (zad x) (N (ziq x) (L (zri x)) (L (zav x))) (N (zay x) (L (zav x)) z))) (N (zad x) (N (zad x) (N (zad x) (L (zpb x)) (L (zsr x))) (N (zl1 x) (L (zrn x)) z)) (N (zl5 x) (N (zad x) (L (zad x)) (L (zsp x))) (N (zny x) (L (zad x)) z)))))) (N x.r.a.a.f (N x.r.a.b.b (N (zio x) (N (ziE x) (N (zay x) (N (zmJ x) (L (zoF x)) (L (zsz x))) (N (zkd x) (L (zqX x)) (L (zsj x)))) (N (zlj x) (N (zay x) (L (zom x)) (L (zav x))) (N (zad x) (L (zqj x)) z))) (N (ziO x) (N (zko x) (N (znq x) (L (zav x)) (L (zsy x))) (N (zlr x) (L (zav x)) z)) (N (zay x) (N (ziJ x) (L (zqe x)) (L (zsf x))) (N (zad x) (L (zad x)) z)))) (N (zic x) (N (zay x) (N (zjT x) (N (zay x) (L (zpM x)) (L (zad x))) (N (zkD x) (L (zad x)) (L (zad x)))) (N (zlK x) (N (zid x) (L (zad x)) (L (zsT x))) (N (zmd x) (L (zqU x)) z))) (N (zjh x) (N (zay x) (N (zn6 x) (L (zoe x)) (L (zad x))) (N (zmo x) (L (zqM x)) z)) (N (zl0 x) (N (zay x) (L (zqE x)) (L (zad x))) (N (znL x) (L (zav x)) z))))) (N (zhB x) (N (ziw x) (N (ziA x) (N (zjW x) (N (zng x) (L (zav x)) (L (zr4 x))) (N (zay x) (L (zad x)) (L (zad x)))) (N (zay x) (N (zhO x) (L (zo3 x)) (L (zad x))) (N (zmt x) (L (zqn x)) z))) (N (zay x) (N (zki x) (N (zay x) (L (zos x)) (L (zad x))) (N (zkV x) (L (zqu x)) z)) (N (zms x) (N (ziT x) (L (zav x)) (L (ztd x))) (N (znN x) (L (zrA x)) z)))) (N (zay x) (N (ziR x) (N (zay x) (N (zni x) (L (zod x)) (L (zad x))) (N (zkJ x) (L (zqa x)) (L (ztQ x)))) (N (zlE x) (N (zay x) (L (zad x)) (L (zsC x))) (N (zad x) (L (zad x)) z))) (N (zjl x) (N (zlt x) (N (zn8 x) (L (zpe x)) (L (zsW x))) (N (zl7 x) (L (zq2 x)) z)) (N (zay x) (N (zju x) (L (zqA x)) (L (zad x))) (N (zaD x) (L (zsG x)) z))))))) (N x.r.a.a.c (N x.r.a.a.e (N x.r.a.b.a (N (zay x) (N (zav x) (N (zaD x) (N (zav x) (L (zad x)) (L (zav x))) (N (zjE x) (L (zqy x)) (L (zr1 x)))) (N (zlb x) (N (zaD x) (L (zav x)) (L (zad x))) (N (zlN x) (L (zqw x)) z))) (N (zi4 x) (N (zav x) (N (znA x) (L (zad x)) (L (zsh x))) (N (zln x) (L (zad x)) z)) (N (zaD x) (N (zav x) (L (zad x)) (L (zav x))) (N (znu x) (L (zqm x)) z)))) (N (zoL x) (N (zaD x) (N (zj6 x) (N (zaD x) (L (zoW x)) (L (zsR x))) (N (zk6 x) (L (zqY x)) (L (ztL x)))) (N (zav x) (N (zhS x) (L (zrF x)) (L (zr2 x))) (N (zlZ x) (L (zrc x)) z))) (N (zav x) (N (zaD x) (N (zav x) (L (zav x)) (L (zte x))) (N (zay x) (L (zav x)) z)) (N (zlP x) (N (zaD x) (L (zrm x)) (L (zrZ x))) (N (znG x) (L (zad x)) z))))) (N (ztR x) (N (zhW x) (N (ziC x) (N (zav x) (N (zmH x) (L (zad x)) (L (zrY x))) (N (zaD x) (L (zqF x)) (L (ztF x)))) (N (zaD x) (N (zav x) (L (zoZ x)) (L (zsY x))) (N (zma x) (L (zav x)) z))) (N (zaD x) (N (zkm x) (N (zaD x) (L (zog x)) (L (zr7 x))) (N (zld x) (L (zqI x)) z)) (N (zav x) (N (ziY x) (L (zad x)) (L (zsl x))) (N (zad x) (L (zad x)) z)))) (N (zaD x) (N (zav x) (N (zaD x) (N (zav x) (L (zpj x)) (L (zst x))) (N (zav x) (L (zad x)) (L (zad x)))) (N (zlI x) (N (zaD x) (L (zqp x)) (L (zss x))) (N (znw x) (L (zrk x)) z))) (N (zjd x) (N (zav x) (N (zn5 x) (L (zpL x)) (L (zad x))) (N (zlU x) (L (zqh x)) z)) (N (zaD x) (N (zav x) (L (zav x)) (L (zsi x))) (N (znr x) (L (zsu x)) z)))))) (N x.r.a.a.g (N x.r.a.b.c (N (zad x) (N (ziB x) (N (zjI x) (N (zmX x) (L (zpt x)) (L (zad x))) (N (zjx x) (L (zad x)) (L (zad x)))) (N (zkT x) (N (zh4 x) (L (zad x)) (L (zsa x))) (N (zmi x) (L (zru x)) z))) (N (ziQ x) (N (zkj x) (N (znU x) (L (zok x)) (L (zad x))) (N (zk2 x) (L (zqr x)) z)) (N (zlL x) (N (ziH x) (L (zro x)) (L (zad x))) (N (zav x) (L (zav x)) z)))) (N (zih x) (N (ziM x) (N (zjX x) (N (znl x) (L (zpz x)) (L (zs9 x))) (N (zkw x) (L (zav x)) (L (zav x)))) (N (zlC x) (N (zhM x) (L (zrz x)) (L (zad x))) (N (zaD x) (L (zad x)) z))) (N (zji x) (N (zks x) (N (zn3 x) (L (zad x)) (L (zav x))) (N (zad x) (L (zad x)) z)) (N (zlR x) (N (zj9 x) (L (zqd x)) (L (zsN x))) (N (znv x) (L (zr6 x)) z))))) (N (zhA x) (N (zad x) (N (ziD x) (N (zkh x) (N (zmZ x) (L (zo8 x)) (L (zad x))) (N (zkt x) (L (zrp x)) (L (ztv x)))) (N (zlD x) (N (zij x) (L (zad x)) (L (zav x))) (N (zmb x) (L (zad x)) z))) (N (zjk x) (N (zkn x) (N (znZ x) (L (zo0 x)) (L (zs0 x))) (N (zkA x) (L (zqG x)) z)) (N (zlS x) (N (ziK x) (L (zqv x)) (L (zad x))) (N (znh x) (L (zq6 x)) z)))) (N (ziG x) (N (ziX x) (N (zkk x) (N (znV x) (L (zpI x)) (L (zav x))) (N (zad x) (L (zp7 x)) (L (ztX x)))) (N (zlJ x) (N (ziP x) (L (zav x)) (L (zsn x))) (N (znR x) (L (zqC x)) z))) (N (zje x) (N (zkQ x) (N (zn2 x) (L (zoE x)) (L (zsw x))) (N (zad x) (L (zad x)) z)) (N (zm8 x) (N (zj5 x) (L (zad x)) (L (zav x))) (N (zay x) (L (zso x)) z))))))))
def m1328 : Heap := ⟨⟨[x.r.a.a.a, x.r.a.a.b, x.r.a.a.c, (ztD x), x.r.a.a.e, x.r.a.a.f, x.r.a.a.g, x.r.a.a.h, x.r.a.b.a, x.r.a.b.b, x.r.a.b.c, (zad x), (ztR x), (zhB x), (zhA x), (zie x), (zay x), (zio x), (zad x), (zav x), (zhW x), (ziw x), (zad x), (zhZ x), (zoL x), (zic x), (zih x), (zh9 x), (zaD x), (zay x), (ziG x), (zad x), (zav x), (ziE x), (ziB x), (zad x), (ziC x), (ziA x), (ziD x), (ziF x), (zaD x), (zay x), (ziM x), (zad x), (zav x), (ziR x), (ziX x), (zad x), (zi4 x), (ziO x), (ziQ x), (zi2 x), (zaD x), (zay x), (zjk x), (zad x), (zav x), (zjh x), (zji x), (zad x), (zjd x), (zjl x), (zje x), (zi9 x), (zaD x), (zay x), (zjI x), (zad x), (zav x), (zjW x), (zkh x), (zad x), (zj6 x), (zjT x), (zjX x), (zjL x), (zaD x), (zay x), (zkk x), (zad x), (zav x), (zko x), (zkj x), (zad x), (zkm x), (zki x), (zkn x), (zkl x), (zaD x), (zay x), (zks x), (zad x), (zav x), (zlt x), (zkQ x), (zad x), (zlb x), (zlj x), (zkT x), (zlu x), (zaD x), (zay x), (zlD x), (zad x), (zav x), (zlK x), (zlC x), (zad x), (zlI x), (zlE x), (zlJ x), (zlH x), (zaD x), (zay x), (zlL x), (zad x), (zav x), (zms x), (zlS x), (zad x), (zlP x), (zl0 x), (zlR x), (zl5 x), (zaD x), (zay x), (zm8 x), (zad x), (zav x), (zmJ x), (zmX x), (zad x), (zmH x), (zng x), (zmZ x), (zmT x), (zaD x), (zay x), (znl x), (zad x), (zav x), (zni x), (znV x), (zad x), (znA x), (znq x), (znU x), (znS x), (zaD x), (zay x), (znZ x), (zad x), (zav x), (zn6 x), (zn3 x), (zad x), (zn5 x), (zn8 x), (zn2 x), (zn7 x), (zaD x), (zay x), (zh4 x), (zad x), (zav x), (zhO x), (zij x), (zad x), (zhS x), (zid x), (zhM x), (ziq x), (zaD x), (zay x), (ziP x), (zad x), (zav x), (ziJ x), (ziH x), (zad x), (ziY x), (ziT x), (ziK x), (ziU x), (zaD x), (zay x), (zj9 x), (zad x), (zav x), (zju x), (zj5 x), (zad x), (zjE x), (zkd x), (zjx x), (zjs x), (zaD x), (zay x), (zkt x), (zad x), (zk6 x), (zkD x), (zkw x), (zad x), (zav x), (zkJ x), (zad x), (zkO x), (zln x), (zlr x), (zk2 x), (zlp x), (zld x), (zkV x), (zkA x), (zaD x), (zay x), (zmo x), (zad x), (zl1 x), (zlU x), (zl7 x), (zad x), (zav x), (zlN x), (zad x), (zmi x), (zl9 x), (zma x), (zmt x), (zmb x), (zmC x), (zlZ x), (zmd x), (zaD x), (zay x), (znw x), (zad x), (znR x), (znP x), (znu x), (zad x), (zav x), (znI x), (zad x), (znN x), (znh x), (znO x), (znG x), (znL x), (znv x), (zny x), (znr x), (zaD x), (zay x), (zpC x), (zad x), (zoF x), (zpt x), (zpD x), (zad x), (zav x), (zo8 x), (zad x), (zoW x), (zpM x), (zpz x), (zo1 x), (zpj x), (zod x), (zpI x), (zpa x), (zad x), (zav x), (zok x), (zad x), (zog x), (zos x), (zo0 x), (zad x), (zav x), (zoe x), (zad x), (zpb x), (zpL x), (zpe x), (zoE x), (zad x), (zav x), (zom x), (zad x), (zpT x), (zoZ x), (zo3 x), (zad x), (zav x), (zrF x), (zad x), (zrz x), (zri x), (zqp x), (zad x), (zav x), (zq3 x), (zad x), (zqe x), (zro x), (zqZ x), (zad x), (zav x), (zqv x), (zad x), (zrm x), (zqE x), (zqd x), (zad x), (zav x), (zqA x), (zad x), (zqR x), (zqy x), (zqX x), (zad x), (zav x), (zqF x), (zad x), (zrp x), (zqQ x), (zqY x), (zad x), (zav x), (zrw x), (zad x), (zqa x), (zp7 x), (zqq x), (zad x), (zav x), (zqr x), (zad x), (zqI x), (zqu x), (zqG x), (zad x), (zav x), (zqM x), (zad x), (zrn x), (zqh x), (zq2 x), (zad x), (zav x), (zqw x), (zqj x), (zru x), (zad x), (zav x), (zqn x), (zad x), (zqS x), (zrc x), (zqU x), (zad x), (zav x), (zrk x), (zad x), (zqC x), (zp6 x), (zqm x), (zad x), (zav x), (zq9 x), (zad x), (zrA x), (zq6 x), (zre x), (zad x), (zav x), (zr6 x), (zad x), (zsu x), (zsG x), (zso x), (zad x), (zav x), (zsz x), (zad x), (zs6 x), (zrY x), (zr4 x), (zad x), (zav x), (zsR x), (zad x), (zs9 x), (zsJ x), (zst x), (zad x), (zav x), (zsA x), (zsh x), (zsy x), (zad x), (zav x), (zr7 x), (zad x), (zs0 x), (zr5 x), (zte x), (zad x), (zav x), (zsr x), (zad x), (zsW x), (zsw x), (zr3 x), (zad x), (zav x), (zsa x), (zsP x), (zsY x), (zad x), (zav x), (ztb x), (zr2 x), (zsT x), (zad x), (zav x), (zss x), (zsC x), (zsn x), (zad x), (zav x), (zsf x), (zad x), (zr0 x), (zsl x), (ztd x), (zad x), (zav x), (zrZ x), (zad x), (zsN x), (zsp x), (zsi x), (zad x), (zav x), (zti x), (zr1 x), (zsj x), (zad x), (zav x), (ztF x), (zad x), (ztv x), (ztC x), (ztL x), (zad x), (zav x), (ztx x), (zad x), (ztQ x), (ztX x), (ztM x)]⟩, ⟨[], [], [], 0, [], [], false, #[], [], 0, false, false, false, 0, [2000, 10, 10], false, 0, true, [], [], 0, false⟩⟩
def u0 : Q Str := ⟨Str.ofString "<module>", Str.ofString "/claim/cut.py", Str.ofString "__main__", Str.ofString "__name__", Str.ofString "hideworth.errors", Str.ofString "__doc__", Str.ofString "__package__", Str.ofString "__loader__"⟩
def u1 : Q Str := ⟨Str.ofString "__spec__", Str.ofString "__annotations__", Str.ofString "__builtins__", Str.ofString "__file__", Str.ofString "__cached__", Str.ofString "HideError", Str.ofString "__module__", Str.ofString "__qualname__"⟩
def u2 : Q Str := ⟨Str.ofString "__firstlineno__", Str.ofString "__static_attributes__", Str.ofString "__weakref__", Str.ofString "NoNumber", Str.ofString "NoTable", Str.ofString "NoBoxes", Str.ofString "NoBudget", Str.ofString "NoOrder"⟩
def u3 : Q Str := ⟨Str.ofString "NoWeights", Str.ofString "TooGreat", Str.ofString "NoKind", Str.ofString "NoTree", Str.ofString "NoTurns", Str.ofString "NoPlay", Str.ofString "NoRow", Str.ofString "NoName"⟩
def u4 : Q Str := ⟨Str.ofString "NoRoad", Str.ofString "NoWeb", Str.ofString "__init__", Str.ofString "self", Str.ofString "road", Str.ofString "NoWeb.__init__", Str.ofString "NoPlan", Str.ofString "at"⟩
def u5 : Q Str := ⟨Str.ofString "NoPlan.__init__", Str.ofString "NoText", Str.ofString "row", Str.ofString "NoText.__init__", Str.ofString "hideworth.webs", Str.ofString "NoPaper", Str.ofString "is_whole", Str.ofString "is_within"⟩
def u6 : Q Str := ⟨Str.ofString "MOST_PLACES", Str.ofString "MOST_ROADS", Str.ofString "MOST_LENGTH", Str.ofString "KINDS", Str.ofString "is_road", Str.ofString "k", Str.ofString "NoPaper.__init__", Str.ofString "thing"⟩
def u7 : Q Str := ⟨Str.ofString "hideworth.checks", Str.ofString "least", Str.ofString "most", Str.ofString "walk", Str.ofString "spread", Str.ofString "many", Str.ofString "a", Str.ofString "b"⟩
def u8 : Q Str := ⟨Str.ofString "length", Str.ofString "law_hideworth_k48_whole_what_is_no_plan", Str.ofString "places_come_to", Str.ofString "look_web", Str.ofString "look_kind", Str.ofString "shortest_roads", Str.ofString "is_walk_step", Str.ofString "walk_costs"⟩
def u9 : Q Str := ⟨Str.ofString "is_spread_step", Str.ofString "spread_costs", Str.ofString "whole_costs", Str.ofString "costs_of", Str.ofString "_law_mixed", Str.ofString "_law_whole", Str.ofString "roads", Str.ofString "come"⟩
def u10 : Q Str := ⟨Str.ofString "before", Str.ofString "web", Str.ofString "kind", Str.ofString "lengths", Str.ofString "plan", Str.ofString "costs", Str.ofString "paid", Str.ofString "place"⟩
def u11 : Q Str := ⟨Str.ofString "step", Str.ofString "_law_script", Str.ofString "_law_k", Str.ofString "_law_at", Str.ofString "_law_cell", Str.ofString "_law_j", Str.ofString "_law_number", Str.ofString "_law_told"⟩
def u12 : Q Str := ⟨Str.ofString "_law_class", Str.ofString "_law_length", Str.ofString "_law_web", Str.ofString "_law_near", Str.ofString "_law_way", Str.ofString "_law_walk", Str.ofString "_law_spread", Str.ofString "_law_pairs"⟩
def u13 : Q Str := ⟨Str.ofString "_law_costs", Str.ofString "_law_same", Str.ofString "_law_wrong", Str.ofString "_law_bent", Str.ofString "_law_caught", Str.ofString "_law_tests", Str.ofString "_law_way_here", Str.ofString "_law_start"⟩
def u14 : Q Str := ⟨Str.ofString "_law_most", Str.ofString "_law_extra", Str.ofString "_law_many", Str.ofString "_law_shape", Str.ofString "_law_labels", Str.ofString "_law_left", Str.ofString "_law_roads", Str.ofString "_law_other"⟩
def u15 : Q Str := ⟨Str.ofString "_law_ends", Str.ofString "_law_a", Str.ofString "_law_b", Str.ofString "_law_near_here", Str.ofString "_law_come", Str.ofString "_law_prior", Str.ofString "_law_row", Str.ofString "_law_path"⟩
def u16 : Q Str := ⟨Str.ofString "_law_walk_here", Str.ofString "_law_some", Str.ofString "_law_due", Str.ofString "_law_one", Str.ofString "_law_kind", Str.ofString "_law_plan", Str.ofString "_law_thing", Str.ofString "_law_asked"⟩
def u17 : Q Str := ⟨Str.ofString "law", Str.ofString "_law_web_here", Str.ofString "e", Str.ofString "_law_handed", Str.ofString "_law_odd", Str.ofString "_law_odd", Str.ofString "_law_odd", Str.ofString "_law_odd"⟩
def v0 : Q String := ⟨"tuple", "code", "frame", "dict", "__main__.__loader__#opaque", "ValueError", "builtin_function_or_method", "type.__prepare__"⟩
def v1 : Q String := ⟨"type", "Exception", "BaseException", "object", "ValueError.__new__", "getset_descriptor", "ExceptionGroup.__weakref__", "super"⟩
def v2 : Q String := ⟨"object.__init_subclass__", "function", "function", "function", "function", "function", "function", "function"⟩
def w0 (P : Params) : Q Obj := ⟨W.boot_o_0 P, W.boot_o_1 P, W.boot_o_2 P, W.boot_o_3 P, W.boot_o_4 P, W.boot_o_5 P, W.boot_o_6 P, W.boot_o_7 P⟩
def w1 (P : Params) : Q Obj := ⟨W.boot_o_8 P, W.boot_o_9 P, W.boot_o_10 P, W.boot_o_10 P, W.boot_o_10 P, W.boot_o_10 P, W.boot_o_10 P, W.boot_o_10 P⟩
lay_quick u0 u1 u2 u3 u4 u5 u6 u7 u8 u9 u10 u11 u12 u13 u14 u15 u16 u17 v0 v1 v2 w0 w1 PySem.Challenge.pw_hideworth_k48_whole_what_is_no_plan
def k0 (P : Params) : X := ⟨⟨⟨u0, u1, u2, u3, u4, u5, u6, u7⟩, ⟨u8, u9, u10, u11, u12, u13, u14, u15⟩, ⟨u16, u17, u17, u17, u17, u17, u17, u17⟩, ⟨u16, u17, u17, u17, u17, u17, u17, u17⟩, ⟨u16, u17, u17, u17, u17, u17, u17, u17⟩, ⟨u16, u17, u17, u17, u17, u17, u17, u17⟩, ⟨u16, u17, u17, u17, u17, u17, u17, u17⟩, ⟨u16, u17, u17, u17, u17, u17, u17, u17⟩⟩, ⟨⟨v0, v1, v2, v2, v2, v2, v2, v2⟩, ⟨v0, v1, v2, v2, v2, v2, v2, v2⟩, ⟨v0, v1, v2, v2, v2, v2, v2, v2⟩, ⟨v0, v1, v2, v2, v2, v2, v2, v2⟩, ⟨v0, v1, v2, v2, v2, v2, v2, v2⟩, ⟨v0, v1, v2, v2, v2, v2, v2, v2⟩, ⟨v0, v1, v2, v2, v2, v2, v2, v2⟩, ⟨v0, v1, v2, v2, v2, v2, v2, v2⟩⟩, ⟨⟨w0 P, w1 P, w1 P, w1 P, w1 P, w1 P, w1 P, w1 P⟩, ⟨w0 P, w1 P, w1 P, w1 P, w1 P, w1 P, w1 P, w1 P⟩, ⟨w0 P, w1 P, w1 P, w1 P, w1 P, w1 P, w1 P, w1 P⟩, ⟨w0 P, w1 P, w1 P, w1 P, w1 P, w1 P, w1 P, w1 P⟩, ⟨w0 P, w1 P, w1 P, w1 P, w1 P, w1 P, w1 P, w1 P⟩, ⟨w0 P, w1 P, w1 P, w1 P, w1 P, w1 P, w1 P, w1 P⟩, ⟨w0 P, w1 P, w1 P, w1 P, w1 P, w1 P, w1 P, w1 P⟩, ⟨w0 P, w1 P, w1 P, w1 P, w1 P, w1 P, w1 P, w1 P⟩⟩, PySem.Challenge.pw_hideworth_k48_whole_what_is_no_plan, P⟩
def k1 (P : Params) : X := ⟨⟨⟨PySem.W.Fast.tw13894225608423057668, PySem.W.Fast.tw17531079430653816501, PySem.W.Fast.tw13809737476558091540, PySem.W.Fast.tw2367299412457286945, PySem.W.Fast.tw1912701158020654693, PySem.W.Fast.tw2188347355606102534, PySem.W.Fast.tw16368670287772101220, PySem.W.Fast.tw14842115654739255404⟩, ⟨PySem.W.Fast.tw4717311838995323452, PySem.W.Fast.tw594758545415977400, PySem.W.Fast.tw10895325593200808953, PySem.W.Fast.tw10037743213843438893, PySem.W.Fast.tw10009084784789568687, PySem.W.Fast.tw5084553986333570498, PySem.W.Fast.tw16641277437810104112, PySem.W.Fast.tw11875653558476324687⟩, ⟨PySem.W.Fast.tw1672153094372761355, PySem.W.Fast.tw4580522010931877059, PySem.W.Fast.tw4580522010931877059, PySem.W.Fast.tw4580522010931877059, PySem.W.Fast.tw4580522010931877059, PySem.W.Fast.tw4580522010931877059, PySem.W.Fast.tw4580522010931877059, PySem.W.Fast.tw4580522010931877059⟩, ⟨PySem.W.Fast.tw1672153094372761355, PySem.W.Fast.tw4580522010931877059, PySem.W.Fast.tw4580522010931877059, PySem.W.Fast.tw4580522010931877059, PySem.W.Fast.tw4580522010931877059, PySem.W.Fast.tw4580522010931877059, PySem.W.Fast.tw4580522010931877059, PySem.W.Fast.tw4580522010931877059⟩, ⟨PySem.W.Fast.tw1672153094372761355, PySem.W.Fast.tw4580522010931877059, PySem.W.Fast.tw4580522010931877059, PySem.W.Fast.tw4580522010931877059, PySem.W.Fast.tw4580522010931877059, PySem.W.Fast.tw4580522010931877059, PySem.W.Fast.tw4580522010931877059, PySem.W.Fast.tw4580522010931877059⟩, ⟨PySem.W.Fast.tw1672153094372761355, PySem.W.Fast.tw4580522010931877059, PySem.W.Fast.tw4580522010931877059, PySem.W.Fast.tw4580522010931877059, PySem.W.Fast.tw4580522010931877059, PySem.W.Fast.tw4580522010931877059, PySem.W.Fast.tw4580522010931877059, PySem.W.Fast.tw4580522010931877059⟩, ⟨PySem.W.Fast.tw1672153094372761355, PySem.W.Fast.tw4580522010931877059, PySem.W.Fast.tw4580522010931877059, PySem.W.Fast.tw4580522010931877059, PySem.W.Fast.tw4580522010931877059, PySem.W.Fast.tw4580522010931877059, PySem.W.Fast.tw4580522010931877059, PySem.W.Fast.tw4580522010931877059⟩, ⟨PySem.W.Fast.tw1672153094372761355, PySem.W.Fast.tw4580522010931877059, PySem.W.Fast.tw4580522010931877059, PySem.W.Fast.tw4580522010931877059, PySem.W.Fast.tw4580522010931877059, PySem.W.Fast.tw4580522010931877059, PySem.W.Fast.tw4580522010931877059, PySem.W.Fast.tw4580522010931877059⟩⟩, ⟨⟨PySem.W.Fast.tw15633551313878501473, PySem.W.Fast.tw10735261366311057212, PySem.W.Fast.tw13734974896645664886, PySem.W.Fast.tw13734974896645664886, PySem.W.Fast.tw13734974896645664886, PySem.W.Fast.tw13734974896645664886, PySem.W.Fast.tw13734974896645664886, PySem.W.Fast.tw13734974896645664886⟩, ⟨PySem.W.Fast.tw15633551313878501473, PySem.W.Fast.tw10735261366311057212, PySem.W.Fast.tw13734974896645664886, PySem.W.Fast.tw13734974896645664886, PySem.W.Fast.tw13734974896645664886, PySem.W.Fast.tw13734974896645664886, PySem.W.Fast.tw13734974896645664886, PySem.W.Fast.tw13734974896645664886⟩, ⟨PySem.W.Fast.tw15633551313878501473, PySem.W.Fast.tw10735261366311057212, PySem.W.Fast.tw13734974896645664886, PySem.W.Fast.tw13734974896645664886, PySem.W.Fast.tw13734974896645664886, PySem.W.Fast.tw13734974896645664886, PySem.W.Fast.tw13734974896645664886, PySem.W.Fast.tw13734974896645664886⟩, ⟨PySem.W.Fast.tw15633551313878501473, PySem.W.Fast.tw10735261366311057212, PySem.W.Fast.tw13734974896645664886, PySem.W.Fast.tw13734974896645664886, PySem.W.Fast.tw13734974896645664886, PySem.W.Fast.tw13734974896645664886, PySem.W.Fast.tw13734974896645664886, PySem.W.Fast.tw13734974896645664886⟩, ⟨PySem.W.Fast.tw15633551313878501473, PySem.W.Fast.tw10735261366311057212, PySem.W.Fast.tw13734974896645664886, PySem.W.Fast.tw13734974896645664886, PySem.W.Fast.tw13734974896645664886, PySem.W.Fast.tw13734974896645664886, PySem.W.Fast.tw13734974896645664886, PySem.W.Fast.tw13734974896645664886⟩, ⟨PySem.W.Fast.tw15633551313878501473, PySem.W.Fast.tw10735261366311057212, PySem.W.Fast.tw13734974896645664886, PySem.W.Fast.tw13734974896645664886, PySem.W.Fast.tw13734974896645664886, PySem.W.Fast.tw13734974896645664886, PySem.W.Fast.tw13734974896645664886, PySem.W.Fast.tw13734974896645664886⟩, ⟨PySem.W.Fast.tw15633551313878501473, PySem.W.Fast.tw10735261366311057212, PySem.W.Fast.tw13734974896645664886, PySem.W.Fast.tw13734974896645664886, PySem.W.Fast.tw13734974896645664886, PySem.W.Fast.tw13734974896645664886, PySem.W.Fast.tw13734974896645664886, PySem.W.Fast.tw13734974896645664886⟩, ⟨PySem.W.Fast.tw15633551313878501473, PySem.W.Fast.tw10735261366311057212, PySem.W.Fast.tw13734974896645664886, PySem.W.Fast.tw13734974896645664886, PySem.W.Fast.tw13734974896645664886, PySem.W.Fast.tw13734974896645664886, PySem.W.Fast.tw13734974896645664886, PySem.W.Fast.tw13734974896645664886⟩⟩, ⟨⟨PySem.W.Fast.tw1278260381020688717 P, PySem.W.Fast.tw13492767390215788210 P, PySem.W.Fast.tw13492767390215788210 P, PySem.W.Fast.tw13492767390215788210 P, PySem.W.Fast.tw13492767390215788210 P, PySem.W.Fast.tw13492767390215788210 P, PySem.W.Fast.tw13492767390215788210 P, PySem.W.Fast.tw13492767390215788210 P⟩, ⟨PySem.W.Fast.tw1278260381020688717 P, PySem.W.Fast.tw13492767390215788210 P, PySem.W.Fast.tw13492767390215788210 P, PySem.W.Fast.tw13492767390215788210 P, PySem.W.Fast.tw13492767390215788210 P, PySem.W.Fast.tw13492767390215788210 P, PySem.W.Fast.tw13492767390215788210 P, PySem.W.Fast.tw13492767390215788210 P⟩, ⟨PySem.W.Fast.tw1278260381020688717 P, PySem.W.Fast.tw13492767390215788210 P, PySem.W.Fast.tw13492767390215788210 P, PySem.W.Fast.tw13492767390215788210 P, PySem.W.Fast.tw13492767390215788210 P, PySem.W.Fast.tw13492767390215788210 P, PySem.W.Fast.tw13492767390215788210 P, PySem.W.Fast.tw13492767390215788210 P⟩, ⟨PySem.W.Fast.tw1278260381020688717 P, PySem.W.Fast.tw13492767390215788210 P, PySem.W.Fast.tw13492767390215788210 P, PySem.W.Fast.tw13492767390215788210 P, PySem.W.Fast.tw13492767390215788210 P, PySem.W.Fast.tw13492767390215788210 P, PySem.W.Fast.tw13492767390215788210 P, PySem.W.Fast.tw13492767390215788210 P⟩, ⟨PySem.W.Fast.tw1278260381020688717 P, PySem.W.Fast.tw13492767390215788210 P, PySem.W.Fast.tw13492767390215788210 P, PySem.W.Fast.tw13492767390215788210 P, PySem.W.Fast.tw13492767390215788210 P, PySem.W.Fast.tw13492767390215788210 P, PySem.W.Fast.tw13492767390215788210 P, PySem.W.Fast.tw13492767390215788210 P⟩, ⟨PySem.W.Fast.tw1278260381020688717 P, PySem.W.Fast.tw13492767390215788210 P, PySem.W.Fast.tw13492767390215788210 P, PySem.W.Fast.tw13492767390215788210 P, PySem.W.Fast.tw13492767390215788210 P, PySem.W.Fast.tw13492767390215788210 P, PySem.W.Fast.tw13492767390215788210 P, PySem.W.Fast.tw13492767390215788210 P⟩, ⟨PySem.W.Fast.tw1278260381020688717 P, PySem.W.Fast.tw13492767390215788210 P, PySem.W.Fast.tw13492767390215788210 P, PySem.W.Fast.tw13492767390215788210 P, PySem.W.Fast.tw13492767390215788210 P, PySem.W.Fast.tw13492767390215788210 P, PySem.W.Fast.tw13492767390215788210 P, PySem.W.Fast.tw13492767390215788210 P⟩, ⟨PySem.W.Fast.tw1278260381020688717 P, PySem.W.Fast.tw13492767390215788210 P, PySem.W.Fast.tw13492767390215788210 P, PySem.W.Fast.tw13492767390215788210 P, PySem.W.Fast.tw13492767390215788210 P, PySem.W.Fast.tw13492767390215788210 P, PySem.W.Fast.tw13492767390215788210 P, PySem.W.Fast.tw13492767390215788210 P⟩⟩, PySem.W.Fast.tw16505336449161414076, P⟩
theorem ke : k0 = k1 := by
  unfold k0 k1
  rw [PySem.W.Fast.te13894225608423057668, PySem.W.Fast.te17531079430653816501, PySem.W.Fast.te13809737476558091540, PySem.W.Fast.te2367299412457286945, PySem.W.Fast.te1912701158020654693, PySem.W.Fast.te2188347355606102534, PySem.W.Fast.te16368670287772101220, PySem.W.Fast.te14842115654739255404, PySem.W.Fast.te4717311838995323452, PySem.W.Fast.te594758545415977400, PySem.W.Fast.te10895325593200808953, PySem.W.Fast.te10037743213843438893, PySem.W.Fast.te10009084784789568687, PySem.W.Fast.te5084553986333570498, PySem.W.Fast.te16641277437810104112, PySem.W.Fast.te11875653558476324687, PySem.W.Fast.te1672153094372761355, PySem.W.Fast.te4580522010931877059, PySem.W.Fast.te15633551313878501473, PySem.W.Fast.te10735261366311057212, PySem.W.Fast.te13734974896645664886, PySem.W.Fast.te1278260381020688717, PySem.W.Fast.te13492767390215788210, PySem.W.Fast.te16505336449161414076]
end
end Hd
def PySem.W.Fast.tw8201221646173753308 : PySem.Program := Hd.m807v PySem.W.Fast.tw16505336449161414076
theorem PySem.W.Fast.te8201221646173753308 : Hd.m807v PySem.Challenge.pw_hideworth_k48_whole_what_is_no_plan = PySem.W.Fast.tw8201221646173753308 := congrArg Hd.m807v PySem.W.Fast.te16505336449161414076
def PySem.W.Fast.tw6652332987471547017 (P : PySem.Params) : PySem.Heap := Hd.m814 (Hd.k1 P)
theorem PySem.W.Fast.te6652332987471547017 : (fun P => Hd.m814 (Hd.k0 P)) = PySem.W.Fast.tw6652332987471547017 := congrArg (fun y P => Hd.m814 (y P)) Hd.ke
def PySem.W.Fast.tw9100660964558457045 (P : PySem.Params) : PySem.W.BT := Hd.m815 (Hd.k1 P)
theorem PySem.W.Fast.te9100660964558457045 : (fun P => Hd.m815 (Hd.k0 P)) = PySem.W.Fast.tw9100660964558457045 := congrArg (fun y P => Hd.m815 (y P)) Hd.ke
def PySem.W.Fast.tw2946792599196985210 : List PySem.Stmt := Hd.m817s PySem.W.Fast.tw16505336449161414076
theorem PySem.W.Fast.te2946792599196985210 : Hd.m817s PySem.Challenge.pw_hideworth_k48_whole_what_is_no_plan = PySem.W.Fast.tw2946792599196985210 := congrArg Hd.m817s PySem.W.Fast.te16505336449161414076
def PySem.W.Fast.tw12776463167183390126 (P : PySem.Params) : PySem.W.BT := Hd.m831 (Hd.k1 P)
theorem PySem.W.Fast.te12776463167183390126 : (fun P => Hd.m831 (Hd.k0 P)) = PySem.W.Fast.tw12776463167183390126 := congrArg (fun y P => Hd.m831 (y P)) Hd.ke
def PySem.W.Fast.tw12810346237294538641 : List PySem.Stmt := Hd.m832s PySem.W.Fast.tw16505336449161414076
theorem PySem.W.Fast.te12810346237294538641 : Hd.m832s PySem.Challenge.pw_hideworth_k48_whole_what_is_no_plan = PySem.W.Fast.tw12810346237294538641 := congrArg Hd.m832s PySem.W.Fast.te16505336449161414076
def PySem.W.Fast.tw14506990181333931671 (P : PySem.Params) : PySem.W.BT := Hd.m846 (Hd.k1 P)
theorem PySem.W.Fast.te14506990181333931671 : (fun P => Hd.m846 (Hd.k0 P)) = PySem.W.Fast.tw14506990181333931671 := congrArg (fun y P => Hd.m846 (y P)) Hd.ke
def PySem.W.Fast.tw11909557986855082777 : List PySem.Stmt := Hd.m847s PySem.W.Fast.tw16505336449161414076
theorem PySem.W.Fast.te11909557986855082777 : Hd.m847s PySem.Challenge.pw_hideworth_k48_whole_what_is_no_plan = PySem.W.Fast.tw11909557986855082777 := congrArg Hd.m847s PySem.W.Fast.te16505336449161414076
def PySem.W.Fast.tw13750982983952388911 (P : PySem.Params) : PySem.W.BT := Hd.m861 (Hd.k1 P)
theorem PySem.W.Fast.te13750982983952388911 : (fun P => Hd.m861 (Hd.k0 P)) = PySem.W.Fast.tw13750982983952388911 := congrArg (fun y P => Hd.m861 (y P)) Hd.ke
def PySem.W.Fast.tw15271515740308416208 : List PySem.Stmt := Hd.m862s PySem.W.Fast.tw16505336449161414076
theorem PySem.W.Fast.te15271515740308416208 : Hd.m862s PySem.Challenge.pw_hideworth_k48_whole_what_is_no_plan = PySem.W.Fast.tw15271515740308416208 := congrArg Hd.m862s PySem.W.Fast.te16505336449161414076
def PySem.W.Fast.tw7426070212359706812 (P : PySem.Params) : PySem.W.BT := Hd.m876 (Hd.k1 P)
theorem PySem.W.Fast.te7426070212359706812 : (fun P => Hd.m876 (Hd.k0 P)) = PySem.W.Fast.tw7426070212359706812 := congrArg (fun y P => Hd.m876 (y P)) Hd.ke
def PySem.W.Fast.tw1439595541222973515 : List PySem.Stmt := Hd.m877s PySem.W.Fast.tw16505336449161414076
theorem PySem.W.Fast.te1439595541222973515 : Hd.m877s PySem.Challenge.pw_hideworth_k48_whole_what_is_no_plan = PySem.W.Fast.tw1439595541222973515 := congrArg Hd.m877s PySem.W.Fast.te16505336449161414076
def PySem.W.Fast.tw8981143881336525249 (P : PySem.Params) : PySem.W.BT := Hd.m891 (Hd.k1 P)
theorem PySem.W.Fast.te8981143881336525249 : (fun P => Hd.m891 (Hd.k0 P)) = PySem.W.Fast.tw8981143881336525249 := congrArg (fun y P => Hd.m891 (y P)) Hd.ke
def PySem.W.Fast.tw4615801011241359903 : List PySem.Stmt := Hd.m892s PySem.W.Fast.tw16505336449161414076
theorem PySem.W.Fast.te4615801011241359903 : Hd.m892s PySem.Challenge.pw_hideworth_k48_whole_what_is_no_plan = PySem.W.Fast.tw4615801011241359903 := congrArg Hd.m892s PySem.W.Fast.te16505336449161414076
def PySem.W.Fast.tw7360413246435909013 (P : PySem.Params) : PySem.W.BT := Hd.m906 (Hd.k1 P)
theorem PySem.W.Fast.te7360413246435909013 : (fun P => Hd.m906 (Hd.k0 P)) = PySem.W.Fast.tw7360413246435909013 := congrArg (fun y P => Hd.m906 (y P)) Hd.ke
def PySem.W.Fast.tw14838242779376029675 : List PySem.Stmt := Hd.m907s PySem.W.Fast.tw16505336449161414076
theorem PySem.W.Fast.te14838242779376029675 : Hd.m907s PySem.Challenge.pw_hideworth_k48_whole_what_is_no_plan = PySem.W.Fast.tw14838242779376029675 := congrArg Hd.m907s PySem.W.Fast.te16505336449161414076
def PySem.W.Fast.tw4912952871429935940 (P : PySem.Params) : PySem.W.BT := Hd.m921 (Hd.k1 P)
theorem PySem.W.Fast.te4912952871429935940 : (fun P => Hd.m921 (Hd.k0 P)) = PySem.W.Fast.tw4912952871429935940 := congrArg (fun y P => Hd.m921 (y P)) Hd.ke
def PySem.W.Fast.tw11360160298358965099 : List PySem.Stmt := Hd.m922s PySem.W.Fast.tw16505336449161414076
theorem PySem.W.Fast.te11360160298358965099 : Hd.m922s PySem.Challenge.pw_hideworth_k48_whole_what_is_no_plan = PySem.W.Fast.tw11360160298358965099 := congrArg Hd.m922s PySem.W.Fast.te16505336449161414076
def PySem.W.Fast.tw14202116464955234974 (P : PySem.Params) : PySem.W.BT := Hd.m936 (Hd.k1 P)
theorem PySem.W.Fast.te14202116464955234974 : (fun P => Hd.m936 (Hd.k0 P)) = PySem.W.Fast.tw14202116464955234974 := congrArg (fun y P => Hd.m936 (y P)) Hd.ke
def PySem.W.Fast.tw12534379698112619186 : List PySem.Stmt := Hd.m937s PySem.W.Fast.tw16505336449161414076
theorem PySem.W.Fast.te12534379698112619186 : Hd.m937s PySem.Challenge.pw_hideworth_k48_whole_what_is_no_plan = PySem.W.Fast.tw12534379698112619186 := congrArg Hd.m937s PySem.W.Fast.te16505336449161414076
def PySem.W.Fast.tw12022344521228945385 (P : PySem.Params) : PySem.W.BT := Hd.m951 (Hd.k1 P)
theorem PySem.W.Fast.te12022344521228945385 : (fun P => Hd.m951 (Hd.k0 P)) = PySem.W.Fast.tw12022344521228945385 := congrArg (fun y P => Hd.m951 (y P)) Hd.ke
def PySem.W.Fast.tw8882844276272558399 : List PySem.Stmt := Hd.m952s PySem.W.Fast.tw16505336449161414076
theorem PySem.W.Fast.te8882844276272558399 : Hd.m952s PySem.Challenge.pw_hideworth_k48_whole_what_is_no_plan = PySem.W.Fast.tw8882844276272558399 := congrArg Hd.m952s PySem.W.Fast.te16505336449161414076
def PySem.W.Fast.tw14224953375594041118 (P : PySem.Params) : PySem.W.BT := Hd.m966 (Hd.k1 P)
theorem PySem.W.Fast.te14224953375594041118 : (fun P => Hd.m966 (Hd.k0 P)) = PySem.W.Fast.tw14224953375594041118 := congrArg (fun y P => Hd.m966 (y P)) Hd.ke
def PySem.W.Fast.tw14382865786561074554 : List PySem.Stmt := Hd.m967s PySem.W.Fast.tw16505336449161414076
theorem PySem.W.Fast.te14382865786561074554 : Hd.m967s PySem.Challenge.pw_hideworth_k48_whole_what_is_no_plan = PySem.W.Fast.tw14382865786561074554 := congrArg Hd.m967s PySem.W.Fast.te16505336449161414076
def PySem.W.Fast.tw15549895270507689774 (P : PySem.Params) : PySem.W.BT := Hd.m981 (Hd.k1 P)
theorem PySem.W.Fast.te15549895270507689774 : (fun P => Hd.m981 (Hd.k0 P)) = PySem.W.Fast.tw15549895270507689774 := congrArg (fun y P => Hd.m981 (y P)) Hd.ke
def PySem.W.Fast.tw1485229211435493032 : List PySem.Stmt := Hd.m982s PySem.W.Fast.tw16505336449161414076
theorem PySem.W.Fast.te1485229211435493032 : Hd.m982s PySem.Challenge.pw_hideworth_k48_whole_what_is_no_plan = PySem.W.Fast.tw1485229211435493032 := congrArg Hd.m982s PySem.W.Fast.te16505336449161414076
def PySem.W.Fast.tw4761525332033201501 (P : PySem.Params) : PySem.W.BT := Hd.m996 (Hd.k1 P)
theorem PySem.W.Fast.te4761525332033201501 : (fun P => Hd.m996 (Hd.k0 P)) = PySem.W.Fast.tw4761525332033201501 := congrArg (fun y P => Hd.m996 (y P)) Hd.ke
def PySem.W.Fast.tw6334607715746844812 : List PySem.Stmt := Hd.m997s PySem.W.Fast.tw16505336449161414076
theorem PySem.W.Fast.te6334607715746844812 : Hd.m997s PySem.Challenge.pw_hideworth_k48_whole_what_is_no_plan = PySem.W.Fast.tw6334607715746844812 := congrArg Hd.m997s PySem.W.Fast.te16505336449161414076
def PySem.W.Fast.tw4234706669873800152 (P : PySem.Params) : PySem.W.BT := Hd.m1011 (Hd.k1 P)
theorem PySem.W.Fast.te4234706669873800152 : (fun P => Hd.m1011 (Hd.k0 P)) = PySem.W.Fast.tw4234706669873800152 := congrArg (fun y P => Hd.m1011 (y P)) Hd.ke
def PySem.W.Fast.tw7637196482406526713 : List PySem.Stmt := Hd.m1012s PySem.W.Fast.tw16505336449161414076
theorem PySem.W.Fast.te7637196482406526713 : Hd.m1012s PySem.Challenge.pw_hideworth_k48_whole_what_is_no_plan = PySem.W.Fast.tw7637196482406526713 := congrArg Hd.m1012s PySem.W.Fast.te16505336449161414076
def PySem.W.Fast.tw11507181918356555838 (P : PySem.Params) : PySem.W.BT := Hd.m1026 (Hd.k1 P)
theorem PySem.W.Fast.te11507181918356555838 : (fun P => Hd.m1026 (Hd.k0 P)) = PySem.W.Fast.tw11507181918356555838 := congrArg (fun y P => Hd.m1026 (y P)) Hd.ke
def PySem.W.Fast.tw549475364326485638 : List PySem.Stmt := Hd.m1027s PySem.W.Fast.tw16505336449161414076
theorem PySem.W.Fast.te549475364326485638 : Hd.m1027s PySem.Challenge.pw_hideworth_k48_whole_what_is_no_plan = PySem.W.Fast.tw549475364326485638 := congrArg Hd.m1027s PySem.W.Fast.te16505336449161414076
def PySem.W.Fast.tw18334840283560639083 (P : PySem.Params) : PySem.W.BT := Hd.m1041 (Hd.k1 P)
theorem PySem.W.Fast.te18334840283560639083 : (fun P => Hd.m1041 (Hd.k0 P)) = PySem.W.Fast.tw18334840283560639083 := congrArg (fun y P => Hd.m1041 (y P)) Hd.ke
def PySem.W.Fast.tw6100262181263358371 : List PySem.Stmt := Hd.m1042s PySem.W.Fast.tw16505336449161414076
theorem PySem.W.Fast.te6100262181263358371 : Hd.m1042s PySem.Challenge.pw_hideworth_k48_whole_what_is_no_plan = PySem.W.Fast.tw6100262181263358371 := congrArg Hd.m1042s PySem.W.Fast.te16505336449161414076
def PySem.W.Fast.tw12776791257005410010 (P : PySem.Params) : PySem.W.BT := Hd.m1063 (Hd.k1 P)
theorem PySem.W.Fast.te12776791257005410010 : (fun P => Hd.m1063 (Hd.k0 P)) = PySem.W.Fast.tw12776791257005410010 := congrArg (fun y P => Hd.m1063 (y P)) Hd.ke
def PySem.W.Fast.tw13022714348372537872 : List PySem.Stmt := Hd.m1064s PySem.W.Fast.tw16505336449161414076
theorem PySem.W.Fast.te13022714348372537872 : Hd.m1064s PySem.Challenge.pw_hideworth_k48_whole_what_is_no_plan = PySem.W.Fast.tw13022714348372537872 := congrArg Hd.m1064s PySem.W.Fast.te16505336449161414076
def PySem.W.Fast.tw17574466638533555811 (P : PySem.Params) : PySem.W.BT := Hd.m1085 (Hd.k1 P)
theorem PySem.W.Fast.te17574466638533555811 : (fun P => Hd.m1085 (Hd.k0 P)) = PySem.W.Fast.tw17574466638533555811 := congrArg (fun y P => Hd.m1085 (y P)) Hd.ke
def PySem.W.Fast.tw11375543694865070671 : List PySem.Stmt := Hd.m1086s PySem.W.Fast.tw16505336449161414076
theorem PySem.W.Fast.te11375543694865070671 : Hd.m1086s PySem.Challenge.pw_hideworth_k48_whole_what_is_no_plan = PySem.W.Fast.tw11375543694865070671 := congrArg Hd.m1086s PySem.W.Fast.te16505336449161414076
def PySem.W.Fast.tw6984621968727936635 (P : PySem.Params) : PySem.W.BT := Hd.m1107 (Hd.k1 P)
theorem PySem.W.Fast.te6984621968727936635 : (fun P => Hd.m1107 (Hd.k0 P)) = PySem.W.Fast.tw6984621968727936635 := congrArg (fun y P => Hd.m1107 (y P)) Hd.ke
def PySem.W.Fast.tw14735836722881888635 : List PySem.Stmt := Hd.m1108s PySem.W.Fast.tw16505336449161414076
theorem PySem.W.Fast.te14735836722881888635 : Hd.m1108s PySem.Challenge.pw_hideworth_k48_whole_what_is_no_plan = PySem.W.Fast.tw14735836722881888635 := congrArg Hd.m1108s PySem.W.Fast.te16505336449161414076
def PySem.W.Fast.tw7591400541245669618 (P : PySem.Params) : PySem.W.BT := Hd.m1151 (Hd.k1 P)
theorem PySem.W.Fast.te7591400541245669618 : (fun P => Hd.m1151 (Hd.k0 P)) = PySem.W.Fast.tw7591400541245669618 := congrArg (fun y P => Hd.m1151 (y P)) Hd.ke
def PySem.W.Fast.tw10408954956407885115 : List PySem.Stmt := Hd.m1152s PySem.W.Fast.tw16505336449161414076
theorem PySem.W.Fast.te10408954956407885115 : Hd.m1152s PySem.Challenge.pw_hideworth_k48_whole_what_is_no_plan = PySem.W.Fast.tw10408954956407885115 := congrArg Hd.m1152s PySem.W.Fast.te16505336449161414076
def PySem.W.Fast.tw4815586003659618689 (P : PySem.Params) : PySem.W.BT := Hd.m1235 (Hd.k1 P)
theorem PySem.W.Fast.te4815586003659618689 : (fun P => Hd.m1235 (Hd.k0 P)) = PySem.W.Fast.tw4815586003659618689 := congrArg (fun y P => Hd.m1235 (y P)) Hd.ke
def PySem.W.Fast.tw6187635869210958409 : List PySem.Stmt := Hd.m1236s PySem.W.Fast.tw16505336449161414076
theorem PySem.W.Fast.te6187635869210958409 : Hd.m1236s PySem.Challenge.pw_hideworth_k48_whole_what_is_no_plan = PySem.W.Fast.tw6187635869210958409 := congrArg Hd.m1236s PySem.W.Fast.te16505336449161414076
def PySem.W.Fast.tw6175453353554460349 (P : PySem.Params) : PySem.W.BT := Hd.m1311 (Hd.k1 P)
theorem PySem.W.Fast.te6175453353554460349 : (fun P => Hd.m1311 (Hd.k0 P)) = PySem.W.Fast.tw6175453353554460349 := congrArg (fun y P => Hd.m1311 (y P)) Hd.ke
def PySem.W.Fast.tw7742017925685246793 : List PySem.Stmt := Hd.m1312s PySem.W.Fast.tw16505336449161414076
theorem PySem.W.Fast.te7742017925685246793 : Hd.m1312s PySem.Challenge.pw_hideworth_k48_whole_what_is_no_plan = PySem.W.Fast.tw7742017925685246793 := congrArg Hd.m1312s PySem.W.Fast.te16505336449161414076
def PySem.W.Fast.tw4218679486594932935 (P : PySem.Params) : PySem.W.BT := Hd.m1327 (Hd.k1 P)
theorem PySem.W.Fast.te4218679486594932935 : (fun P => Hd.m1327 (Hd.k0 P)) = PySem.W.Fast.tw4218679486594932935 := congrArg (fun y P => Hd.m1327 (y P)) Hd.ke
def PySem.W.Fast.tw17431454998094060772 (P : PySem.Params) : PySem.Heap := Hd.m1328 (Hd.k1 P)
theorem PySem.W.Fast.te17431454998094060772 : (fun P => Hd.m1328 (Hd.k0 P)) = PySem.W.Fast.tw17431454998094060772 := congrArg (fun y P => Hd.m1328 (y P)) Hd.ke
end
open PySem PySem.W PyProof.Rows PySem.W.X PySem.W.ZRun
set_option maxRecDepth 100000 in
set_option maxHeartbeats 0 in
theorem PySem.Challenge.cw_hideworth_k48_whole_what_is_no_plan_holds : PySem.Challenge.rw_hideworth_k48_whole_what_is_no_plan.Holds := by
 w_on;o_law;z_head;(case hw=>w_witness2)
 k_fill
 intro w s0 s1 m0 m1 G Y fa o pm cd doc dV kV ho hd hc hD hm hg xs vs as L h1 h2 h3 h4 h5
 z_open Y L KX ZH ZN ZT
 refine My.walk_at (l:=PySem.Challenge.rw_hideworth_k48_whole_what_is_no_plan) KX (fun W=>W w s0 s1 m0 m1 G KX fa o pm cd doc dV kV ho hd hc hD hm hg xs vs as h1 h2 h3 h4 h5) (My.walk (l:=PySem.Challenge.rw_hideworth_k48_whole_what_is_no_plan) rfl rfl (fun _ _ h=>h) ?F)
 case F =>
  intro w mg fa h KX G hmg
  refine' My.ztz KX G hmg (My.ztV KX G (L2.zb9 ?l0 ?c0 ?k0) (mg_of KX G ?a0) (L2.zb9 ?l1 ?c1 ?k1) (mg_of KX G ?a1) (L2.zb9 ?l2 ?c2 ?k2) (mg_of KX G ?a2) (L2.zb9 ?l3 ?c3 ?k3) (mg_of KX G ?a3) (L2.zb9 ?l4 ?c4 ?k4) (mg_of KX G ?a4) (L2.zb9 ?l5 ?c5 ?k5) (mg_of KX G ?a5) (L2.zb9 ?l6 ?c6 ?k6) (mg_of KX G ?a6) (L2.zb9 ?l7 ?c7 ?k7) (mg_of KX G ?a7) (L2.zb9 ?l8 ?c8 ?k8) (mg_of KX G ?a8) (L2.zb9 ?l9 ?c9 ?k9) (mg_of KX G ?a9) (L2.zb9 ?l10 ?c10 ?k10) (mg_of KX G ?a10) (L2.zb9 ?l11 ?c11 ?k11) (mg_of KX G ?a11) (L2.zb9 ?l12 ?c12 ?k12) (mg_of KX G ?a12) (L2.zb9 ?l13 ?c13 ?k13) (mg_of KX G ?a13) (L2.zb9 ?l14 ?c14 ?k14) (mg_of KX G ?a14) (L2.zb9 ?l15 ?c15 ?k15) (mg_of KX G ?a15) (L2.zb9 ?l16 ?c16 ?k16) (mg_of KX G ?a16) (L2.zb9 ?l17 ?c17 ?k17) (mg_of KX G ?a17) (L2.zb9 ?l18 ?c18 ?k18) (mg_of KX G ?a18) (L2.zb9 ?l19 ?c19 ?k19) (mg_of KX G ?a19) (L2.zb9 ?l20 ?c20 ?k20) (mg_of KX G ?a20) (L2.zb9 ?l21 ?c21 ?k21) (mg_of KX G ?a21) (L2.zb9 ?l22 ?c22 ?k22) (mg_of KX G ?a22) (L2.zb9 ?l23 ?c23 ?k23) (mg_of KX G ?a23) (L2.zb9 ?l24 ?c24 ?k24) (mg_of KX G ?a24) (L2.zb9 ?l25 ?c25 ?k25) (mg_of KX G ?a25) (L2.zb9 ?l26 ?c26 ?k26) (mg_of KX G ?a26) (L2.zb9 ?l27 ?c27 ?k27) (mg_of KX G ?a27) (L2.zb9 ?l28 ?c28 ?k28) (mg_of KX G ?a28) (mg_none_of KX G ?z_bool) (mg_none_of KX G ?z_enumerate) (mg_none_of KX G ?z_int) (mg_none_of KX G ?z_isinstance) (mg_none_of KX G ?z_len) (mg_none_of KX G ?z_list) (mg_none_of KX G ?z_min) (mg_none_of KX G ?z_range) (mg_none_of KX G ?z_set) (mg_none_of KX G ?z_sorted) (mg_none_of KX G ?z_str) (mg_none_of KX G ?z_sum) (mg_none_of KX G ?z_tuple) (mg_none_of KX G ?z_zip) (mg_none_of KX G ?z_ValueError) (mg_of KX G ?ac_HideError) (mg_of KX G ?ac_NoWeb) (mg_of KX G ?ac_NoPlan) (mg_of KX G ?ac_NoText) (mg_of KX G ?ac_NoKind) (mg_of KX G ?ac_TooGreat) (mg_of KX G ?ac_NoTree) (mg_of KX G ?ac_NoWeights) (mg_of KX G ?ac_NoTurns) (mg_of KX G ?ac_NoNumber) (mg_of KX G ?ac_NoBoxes) (mg_of KX G ?ac_NoBudget) (mg_of KX G ?ac_NoName) (mg_of KX G ?ac_NoOrder) (mg_of KX G ?ac_NoPlay) (mg_of KX G ?ac_NoRoad) (mg_of KX G ?ac_NoRow) (mg_of KX G ?ac_NoTable) (mg_of KX G ?ac_NoPaper) (mg_of KX G ?ak_MOST_PLACES) (mg_of KX G ?ak_MOST_ROADS) (mg_of KX G ?ak_MOST_LENGTH) ?at_KINDS ?lt_KINDS ?xc_HideError ?xc_NoKind ?vsg ?vrd ?vfc ?vin_NoPlan ?vl_NoPlan ?vc_NoPlan ?vk_NoPlan ?vlk_NoPlan ?vtl_NoPlan ?vfn_NoPlan ?vkp_NoPlan ?vmo_NoPlan ?vsa_NoPlan ?vga_NoPlan ?vgn_NoPlan ?vcl_NoPlan ?vmb_NoPlan ?vhd_NoPlan ?vna_NoPlan ?i_k_NoWeb ?i_k_NoPlan ?i_k_NoText ?i_k_NoKind ?i_k_TooGreat ?i_k_NoTree ?i_k_NoWeights ?i_k_NoTurns ?i_k_NoNumber ?i_k_NoBoxes ?i_k_NoBudget ?i_k_NoName ?i_k_NoOrder ?i_k_NoPlay ?i_k_NoRoad ?i_k_NoRow ?i_k_NoTable ?i_k_NoPaper ?i_k_ValueError ?i_sub ?e_ga ?e_gn ?e_cl ?e_mb ?e_mo ?i2_k_NoWeb ?i2_k_NoPlan ?i2_k_NoText ?i2_k_NoKind ?i2_k_TooGreat ?i2_k_NoTree ?i2_k_NoWeights ?i2_k_NoTurns ?i2_k_NoNumber ?i2_k_NoBoxes ?i2_k_NoBudget ?i2_k_NoName ?i2_k_NoOrder ?i2_k_NoPlay ?i2_k_NoRoad ?i2_k_NoRow ?i2_k_NoTable ?i2_k_NoPaper ?i2_k_ValueError ?i2_sub ?e2_ga ?e2_gn ?e2_cl ?e2_mb ?e2_mo)
  (case a0=>k_is);(case l0=>k_is);(case c0=>k_is);(case k0=>k_is)
  (case a1=>k_is);(case l1=>k_is);(case c1=>k_is);(case k1=>k_is)
  (case a2=>k_is);(case l2=>k_is);(case c2=>k_is);(case k2=>k_is)
  (case a3=>k_is);(case l3=>k_is);(case c3=>k_is);(case k3=>k_is)
  (case a4=>k_is);(case l4=>k_is);(case c4=>k_is);(case k4=>k_is)
  (case a5=>k_is);(case l5=>k_is);(case c5=>k_is);(case k5=>k_is)
  (case a6=>k_is);(case l6=>k_is);(case c6=>k_is);(case k6=>k_is)
  (case a7=>k_is);(case l7=>k_is);(case c7=>k_is);(case k7=>k_is)
  (case a8=>k_is);(case l8=>k_is);(case c8=>k_is);(case k8=>k_is)
  (case a9=>k_is);(case l9=>k_is);(case c9=>k_is);(case k9=>k_is)
  (case a10=>k_is);(case l10=>k_is);(case c10=>k_is);(case k10=>k_is)
  (case a11=>k_is);(case l11=>k_is);(case c11=>k_is);(case k11=>k_is)
  (case a12=>k_is);(case l12=>k_is);(case c12=>k_is);(case k12=>k_is)
  (case a13=>k_is);(case l13=>k_is);(case c13=>k_is);(case k13=>k_is)
  (case a14=>k_is);(case l14=>k_is);(case c14=>k_is);(case k14=>k_is)
  (case a15=>k_is);(case l15=>k_is);(case c15=>k_is);(case k15=>k_is)
  (case a16=>k_is);(case l16=>k_is);(case c16=>k_is);(case k16=>k_is)
  (case a17=>k_is);(case l17=>k_is);(case c17=>k_is);(case k17=>k_is)
  (case a18=>k_is);(case l18=>k_is);(case c18=>k_is);(case k18=>k_is)
  (case a19=>k_is);(case l19=>k_is);(case c19=>k_is);(case k19=>k_is)
  (case a20=>k_is);(case l20=>k_is);(case c20=>k_is);(case k20=>k_is)
  (case a21=>k_is);(case l21=>k_is);(case c21=>k_is);(case k21=>k_is)
  (case a22=>k_is);(case l22=>k_is);(case c22=>k_is);(case k22=>k_is)
  (case a23=>k_is);(case l23=>k_is);(case c23=>k_is);(case k23=>k_is)
  (case a24=>k_is);(case l24=>k_is);(case c24=>k_is);(case k24=>k_is)
  (case a25=>k_is);(case l25=>k_is);(case c25=>k_is);(case k25=>k_is)
  (case a26=>k_is);(case l26=>k_is);(case c26=>k_is);(case k26=>k_is)
  (case a27=>k_is);(case l27=>k_is);(case c27=>k_is);(case k27=>k_is)
  (case a28=>k_is);(case l28=>k_is);(case c28=>k_is);(case k28=>k_is)
  (case z_bool=>k_is)
  (case z_enumerate=>k_is)
  (case z_int=>k_is)
  (case z_isinstance=>k_is)
  (case z_len=>k_is)
  (case z_list=>k_is)
  (case z_min=>k_is)
  (case z_range=>k_is)
  (case z_set=>k_is)
  (case z_sorted=>k_is)
  (case z_str=>k_is)
  (case z_sum=>k_is)
  (case z_tuple=>k_is)
  (case z_zip=>k_is)
  (case z_ValueError=>k_is)
  (case ac_HideError=>k_is)
  (case ac_NoWeb=>k_is)
  (case ac_NoPlan=>k_is)
  (case ac_NoText=>k_is)
  (case ac_NoKind=>k_is)
  (case ac_TooGreat=>k_is)
  (case ac_NoTree=>k_is)
  (case ac_NoWeights=>k_is)
  (case ac_NoTurns=>k_is)
  (case ac_NoNumber=>k_is)
  (case ac_NoBoxes=>k_is)
  (case ac_NoBudget=>k_is)
  (case ac_NoName=>k_is)
  (case ac_NoOrder=>k_is)
  (case ac_NoPlay=>k_is)
  (case ac_NoRoad=>k_is)
  (case ac_NoRow=>k_is)
  (case ac_NoTable=>k_is)
  (case ac_NoPaper=>k_is)
  (case ak_MOST_PLACES=>k_is)
  (case ak_MOST_ROADS=>k_is)
  (case ak_MOST_LENGTH=>k_is)
  (case at_KINDS=>k_is)
  (case lt_KINDS=>k_is)
  (case xc_HideError=>k_exc)
  (case xc_NoKind=>k_exc)
  (case vsg=>k_is)
  (case vrd=>k_is)
  (case vfc=>k_is)
  (case vin_NoPlan=>k_is)
  (case vl_NoPlan=>k_is)
  (case vc_NoPlan=>k_is)
  (case vk_NoPlan=>k_is)
  (case vlk_NoPlan=>k_is)
  (case vtl_NoPlan=>kernel_rfl)
  (case vfn_NoPlan=>k_is)
  (case vkp_NoPlan=>k_is)
  (case vmo_NoPlan=>k_is)
  (case vsa_NoPlan=>k_is)
  (case vga_NoPlan=>k_is)
  (case vgn_NoPlan=>k_is)
  (case vcl_NoPlan=>k_is)
  (case vmb_NoPlan=>k_is)
  (case vhd_NoPlan=>k_is)
  (case vna_NoPlan=>k_is)
  (case i_k_NoWeb=>kit_is)
  (case i_k_NoPlan=>kit_is)
  (case i_k_NoText=>kit_is)
  (case i_k_NoKind=>kit_is)
  (case i_k_TooGreat=>kit_is)
  (case i_k_NoTree=>kit_is)
  (case i_k_NoWeights=>kit_is)
  (case i_k_NoTurns=>kit_is)
  (case i_k_NoNumber=>kit_is)
  (case i_k_NoBoxes=>kit_is)
  (case i_k_NoBudget=>kit_is)
  (case i_k_NoName=>kit_is)
  (case i_k_NoOrder=>kit_is)
  (case i_k_NoPlay=>kit_is)
  (case i_k_NoRoad=>kit_is)
  (case i_k_NoRow=>kit_is)
  (case i_k_NoTable=>kit_is)
  (case i_k_NoPaper=>kit_is)
  (case i_k_ValueError=>kit_is)
  (case i_sub=>k_is)
  (case e_ga=>k_is)
  (case e_gn=>k_is)
  (case e_cl=>k_is)
  (case e_mb=>k_is)
  (case e_mo=>k_is)
  (case i2_k_NoWeb=>kit_is)
  (case i2_k_NoPlan=>kit_is)
  (case i2_k_NoText=>kit_is)
  (case i2_k_NoKind=>kit_is)
  (case i2_k_TooGreat=>kit_is)
  (case i2_k_NoTree=>kit_is)
  (case i2_k_NoWeights=>kit_is)
  (case i2_k_NoTurns=>kit_is)
  (case i2_k_NoNumber=>kit_is)
  (case i2_k_NoBoxes=>kit_is)
  (case i2_k_NoBudget=>kit_is)
  (case i2_k_NoName=>kit_is)
  (case i2_k_NoOrder=>kit_is)
  (case i2_k_NoPlay=>kit_is)
  (case i2_k_NoRoad=>kit_is)
  (case i2_k_NoRow=>kit_is)
  (case i2_k_NoTable=>kit_is)
  (case i2_k_NoPaper=>kit_is)
  (case i2_k_ValueError=>kit_is)
  (case i2_sub=>k_is)
  (case e2_ga=>k_is)
  (case e2_gn=>k_is)
  (case e2_cl=>k_is)
  (case e2_mb=>k_is)
  (case e2_mo=>k_is)
