import PyProof.Rows.All
import Wide.All
import OpenK.AllK
import Wide.FinOn
import Lean
import PyProof.EqAt
import PyProof.EqKinds
import PyProof.TupleCall
import KE.IntBitsLaws
import PyProof.NeKinds
import KE.KIsAll
import PyProof.ExcAttrAll.ValueError
import KE.RegKIsAll
import OpenK.KOwn
import PyProof.ConsumeWalk
import PyProof.SumWalkG
import PyProof.Rows.SeqCalls
import PyProof.Rows.SeqGen
import PyProof.ZipIter
import PyProof.Rows.ZipGen
import PyProof.Rows.FactsT2
import PyProof.ListRange
import KE.KDictSum
import PyProof.Rows.SortWalk
import PyProof.ExcInit
import PyProof.InstStoreFacts
import PyProof.Rows.SetFrom
import PyProof.TupleKey
import PyProof.SetRoads
import PyProof.FactsAll.set_1
import OpenK.ZGo
import PySem.Challenge.RW_hideworth_k22_boxes_and_budgets_refused
open PySem.W renaming Frag→ψa,kitOne→ψc,findIn→ψu,kia_one→ψW,mroIn→ψd1,excIn→ψg1,keepIn→ψB1,fnOf→ψC1,subIn→ψH1,hideAll→ψX1
open List renaming length_map→ψb,getElem?_eq_getElem→ψd,size_toArray→ψe,mem_cons_of_mem→ψf,mem_cons_self→ψj,Nodup→ψk,zip→ψm,length_zipWith→ψn,replicate→ψo,getElem?_of_mem→ψp,mem_append_right→ψq,zipWith→ψr,length_append→ψs,take_add_one→ψw,getD_eq_getElem?_getD→ψA,getElem?_zip_eq_some→ψC,getElem?_map→ψD,map_cons→ψG,length_take→ψH,not_mem_nil→ψI,mem_of_getElem?→ψM,take_length→ψO,mem_cons→ψP,length_cons→ψQ,sum_cons→ψR,eq_nil_of_length_eq_zero→ψS,take_of_length_le→ψT,map_append→ψb1,lookup_cons→ψc1,range→ψi1,mem_append_left→ψl1,flatten_cons→ψo1,replicate_succ→ψq1,zip_cons_cons→ψw1,getElem?_zipWith→ψy1,getElem?_append_right→ψz1,getElem?_append_left→ψA1,length_drop→ψD1,map_nil→ψE1,getElem?_set_self→ψN1,getElem?_set_ne→ψR1,getElem_mem→ψS1,length_zip→ψZ1
open PyProof.Rows renaming boot_isinstance→ψg,boot_sum→ψa1,callWith_type1→ψh1,boot_all→ψk1
open Nat renaming le_refl→ψh,lt_of_lt_of_le→ψi,ne_of_lt→ψl,le_trans→ψF,lt_irrefl→ψf1,zero_le→ψr1,ne_of_gt→ψs1,one_lt_two_pow→ψv1,not_lt_zero→ψx1,lt_succ_self→ψF1,lt_trans→ψG1,lt_of_le_of_lt→ψJ1,lt_succ_of_lt→ψO1,le_of_lt→ψP1,zero_add→ψQ1,pow_le_pow_right→ψT1
open PySem renaming mem_of_lookup→ψt,boot_len→ψE
open Bool renaming false_ne_true→ψv,and_eq_true→ψL,eq_iff_iff→ψI1
open Int renaming le_of_lt→ψx,mul_ne_zero→ψN,gcd→ψV,fdiv_eq_ediv_of_nonneg→ψX,fmod_eq_emod_of_nonneg→ψj1,eq_ofNat_of_zero_le→ψp1,emod_lt_of_pos→ψt1,emod_nonneg→ψK1,ediv_le_self→ψU1,mul_pos→ψW1
open PySem.F renaming slot_list_append→ψy,type_list_append→ψz,plainAttrs_list→ψB
open Rat renaming divInt_eq_div→ψJ,intCast_mul→ψK,num_divInt_den→ψU,divInt→ψZ,le_of_lt→ψe1,pow_zero→ψm1,pow_succ→ψn1,mul_le_mul_of_nonneg_right→ψL1,intCast_add→ψM1,le_refl→ψV1,intCast_sub→ψY1
open Classical renaming byContradiction→ψY
open PyProof.Rows.F renaming plain_set_update_loop→ψu1
set_option Elab.async false
set_option linter.all false
set_option maxRecDepth 100000
namespace L2
open PySem PySem.Spec PyProof.Rows
abbrev Key:=Sum Int Str
def zwL:Key→Value→Bool
 | .inl k,v=>Value.isInt k v
 | .inr x,v=>Value.isStrOf x v
def keyH(w:World):Key→Int
 | .inl k=>hashInt k
 | .inr x=>hashStr w x
theorem zbY:∀{k:Key} {v:Value},zwL k v=true→(∃i t,k=Sum.inl i∧v=Value.int i t)∨(∃x t,k=Sum.inr x∧v=Value.str x t)
 | .inl i,v,h=>by
  obtain⟨t,e⟩:=Value.isInt_shape (k:=i) (v:=v) h
  exact .inl ⟨i,t,rfl,e⟩
 | .inr x,v,h=>by
  obtain⟨t,e⟩:=Value.isStrOf_shape (x:=x) (v:=v) h
  exact .inr ⟨x,t,rfl,e⟩
theorem zxX(a b:Int):decide ((Sum.inl a:Key)=Sum.inl b)=(a == b):=by
 by_cases e:a=b
 ·subst e;simp
 ·have h:¬ (Sum.inl a:Key)=Sum.inl b:=λq=>e (Sum.inl.inj q)
  rw[decide_eq_false h]
  exact(beq_eq_false_iff_ne.mpr e).symm
theorem zwI(a b:Str):decide ((Sum.inr a:Key)=Sum.inr b)=decide (a=b):=by
 by_cases e:a=b
 ·subst e;simp
 ·have h:¬ (Sum.inr a:Key)=Sum.inr b:=λq=>e (Sum.inr.inj q)
  rw[decide_eq_false h,decide_eq_false e]
theorem zwN(a:Int)(b:Str):decide ((Sum.inl a:Key)=Sum.inr b)=false:=decide_eq_false (λq=>nomatch q)
theorem zyn(a:Str)(b:Int):decide ((Sum.inr a:Key)=Sum.inl b)=false:=decide_eq_false (λq=>nomatch q)
def zmJ(prog:Program)(w:World):PySem.KeyKind prog w Key where
 is:=zwL
 hash:=keyH w
 inj:=λv a b ha hb=>by
  rcases zbY ha with ⟨i,t,rfl,rfl⟩ | ⟨x,t,rfl,rfl⟩
  ·rcases zbY hb with ⟨j,u,rfl,e⟩ | ⟨y,u,rfl,e⟩
   ·injection e with e1 _;rw[e1]
   ·exact nomatch e
  ·rcases zbY hb with ⟨j,u,rfl,e⟩ | ⟨y,u,rfl,e⟩
   ·exact nomatch e
   ·injection e with e1 _;rw[e1]
 byValue:=λk v h=>by
  rcases zbY h with ⟨i,t,rfl,rfl⟩ | ⟨x,t,rfl,rfl⟩ <;> rfl
 pyHash:=λhv h=>by
  rcases zbY hv with ⟨i,t,rfl,rfl⟩ | ⟨x,t,rfl,rfl⟩
  ·exact wpAny_pyHash_int h
  ·exact wpAny_pyHash_str h
 eqBool:=λhu hv h=>by
  rcases zbY hu with ⟨i,t,rfl,rfl⟩ | ⟨x,t,rfl,rfl⟩
  ·rcases zbY hv with ⟨j,u,rfl,rfl⟩ | ⟨y,u,rfl,rfl⟩
   ·rw[zxX] at h;exact wpAny_eqBool_int h
   ·rw[zwN] at h;exact SeqAt.EqAt.int_str i t y u _ _ _ _ h
  ·rcases zbY hv with ⟨j,u,rfl,rfl⟩ | ⟨y,u,rfl,rfl⟩
   ·rw[zyn] at h;exact SeqAt.EqAt.str_int x t j u _ _ _ _ h
   ·rw[zwI] at h;exact wpAny_eqBool_str h
 «strs»:=λk x t v h=>by
  rcases zbY h with ⟨i,u,rfl,e⟩ | ⟨y,u,rfl,e⟩
  ·exact nomatch e
  ·injection e with e1 _
   subst e1
   cases v <;> rfl
end L2
namespace L2
open PySem PySem.Spec PyProof.Rows
inductive V where
 | non | bl (b:Bool) | int (i:Int) | str (x:Str) | byt (b:Array UInt8) | flt (b:UInt64) | ref (a:Addr) | ty (n:String)
 deriving DecidableEq
def zdz:V→Value→Prop
 | .non,u=>u=Value.none
 | .bl b,u=>u=Value.bool b
 | .int i,u=>∃t,u=Value.int i t
 | .str x,u=>∃t,u=Value.str x t
 | .byt b,u=>∃t,u=Value.bytes b t
 | .flt b,u=>∃t,u=Value.float b t
 | .ref a,u=>u=Value.ref a
 | .ty n,u=>u=Value.type n
abbrev zb9:List V→List Value→Prop:=Paired zdz
theorem zb9.length{xs:List V}{us:List Value}(r:zb9 xs us):xs.length=us.length:=Paired.length r
theorem zb9.get:∀{xs:List V} {us:List Value} {i:Nat} {x:V},zb9 xs us→xs[i]?=some x→∃u,us[i]?=some u∧zdz x u
 | _,_,_,_,.nil,e=>by simp at e
 | _,_,0,_,.cons r _,e=>by simp at e;subst e;exact⟨_,rfl,r⟩
 | _,_,i+1,x,.cons _ t,e=>by
  obtain⟨u,h1,h2⟩:=zb9.get (i:=i) (x:=x) t (by simpa using e)
  exact⟨u,by simpa using h1,h2⟩
theorem zb9.set{x:V}{u:Value}(r:zdz x u):∀{xs:List V} {us:List Value} (i:Nat),zb9 xs us→zb9 (xs.set i x) (us.set i u)
 | _,_,_,.nil=>.nil
 | _,_,0,.cons _ t=>.cons r t
 | _,_,i+1,.cons q t=>.cons q (zb9.set r i t)
theorem zb9.append:∀{xs ys:List V} {us ws:List Value},zb9 xs us→zb9 ys ws→zb9 (xs++ys) (us++ws)
 | _,_,_,_,.nil,s=>s
 | _,_,_,_,.cons r t,s=>.cons r (zb9.append t s)
theorem zb9.take:∀{xs:List V} {us:List Value} (n:Nat),zb9 xs us→zb9 (xs.take n) (us.take n)
 | _,_,0,_=>.nil
 | _,_,_+1,.nil=>.nil
 | _,_,n+1,.cons r t=>.cons r (zb9.take n t)
theorem zb9.drop:∀{xs:List V} {us:List Value} (n:Nat),zb9 xs us→zb9 (xs.drop n) (us.drop n)
 | _,_,0,r=>r
 | _,_,_+1,.nil=>.nil
 | _,_,n+1,.cons _ t=>zb9.drop n t
def RelO:Option V→Option Value→Prop
 | some v,some u=>zdz v u
 | none,none=>True
 | _,_=>False
def KV{κ:Type}:List (κ×V)→List (κ×Value)→Prop:=Paired λ(p:κ×V) (q:κ×Value)=>p.1=q.1∧zdz p.2 q.2
def kV:Key→V
 | .inl i=>.int i
 | .inr x=>.str x
inductive HO where
  | lst (xs:List V)
  | tup (xs:List V)
  | dK (kvs:List (Key×V)) | dT (kvs:List (List Key×V))
  | set (S:Int→Bool) (n:Nat)
  | ins (C dx:Addr) (fs:List (Str×V))
  | own (x:Addr)
  | xd (fs:List (Str×V))
  | met (f x:Addr)
  | rng (lo hi:Int)
  | frz (o:Obj) (u:HO)
  | tbl (ps:Array Value)
  | ext (φ:Heap→Prop)
abbrev Hp:=Addr→Option HO
def upd(H:Hp)(a:Addr)(o:HO):Hp:=λb=>if b=a then some o else H b
theorem zaj{H:Hp}{a:Addr}{o:HO}:upd H a o a=some o:=by unfold upd;rw[if_pos rfl]
theorem zaP{H:Hp}{a b:Addr}{o:HO}(h:b≠a):upd H a o b=H b:=by unfold upd;rw[if_neg h]
theorem zwA{H:Hp}{a b:Addr}{o u:HO}(h:H a=some o)(h':H b=some u)(d:o≠u):a≠b:=by
 intro e;subst e;rw[h] at h';exact d (Option.some.inj h')
theorem zaM{H:Hp}{a b:Addr}{o:HO}(h:H a=some o)(h':H b=none):a≠b:=by
 intro e;subst e;rw[h] at h';cases h'
section
variable (P:Program) (w:World)
def zc7(H:Hp)(h:Heap)(a:Addr):HO→Prop
 | .lst xs=>xs.length≤sizeLine∧∃(its:List Value) (n:Nat),zb9 xs its∧h.get? a=some { cls:=.type "list",data:=.seq its.toArray n }
 | .tup xs=>xs.length≤sizeLine∧∃its:List Value,zb9 xs its∧IsTup h a its.toArray
 | .dK kvs=>kvs.length≤sizeLine∧(a == sysModules)=false∧∃vs,KV kvs vs∧h.DictOf (zmJ P w) a vs
 | .dT kvs=>kvs.length≤sizeLine∧(a == sysModules)=false∧∃xs:List (List Key×Addr×Value),
   Paired (λ(p:List Key×V) (q:List Key×Addr×Value)=>p.1=q.1∧H q.2.1=some (.tup (p.1.map kV))∧zdz p.2 q.2.2) kvs xs ∧
   ∃o es ep,h.get? a=some o∧o.ExactDict∧o.data=.dict es ep∧es.toList=xs.map (entryOfKey (tupleKind (zmJ P w)))∧(xs.map (·.1)).Nodup
 | .set S n=>h.SetOf (intKind P w) a S n
 | .ins C dx fs=>H dx=some (.own a)∧fs.length≤1000∧dx≠a∧h.get? a=some (PySem.W.instObj C dx) ∧
   ∃mA,h.Ns1 dx mA∧(∀f,RelO (fs.lookup f) (mA f))∧PySem.Within mA (fs.map (·.1))
 | .own _=>∃o,h.get? a=some o
 | .xd fs=>∃mA,h.Ns1 a mA∧∀f,RelO (fs.lookup f) (mA f)
 | .rng lo hi=>∃t u v,h.get? a=some { cls:=.type "range",data:=.fields #[.int lo t,.int hi u,.int 1 v] }
 | .frz o u=>h.get? a=some o∧zc7 H h a u
 | .tbl ps=>h.get? a=some { cls:=.none,data:=.fields ps }
 | .met f x=>h.get? a=some (PySem.W.methodObj (.ref f) (.ref x))
 | .ext φ=>φ h∧(∃o,h.get? a=some o)∧∀h1 h2:Heap,φ h1→(∀o,h1.get? a=some o→h2.get? a=some o)→φ h2
def HOk(H:Hp)(h:Heap):Prop:=∀a o,H a=some o→zc7 P w H h a o
end
section
variable {P:Program} {w:World} {H H':Hp} {h h':Heap} {a:Addr} {o:HO}
theorem zc7.lt(x:zc7 P w H h a o):a<h.objs.size:=by
 cases o with
 | lst xs=>obtain⟨_,_,_,_,e⟩:=x;exact Heap.lt_size e
 | tup xs=>obtain⟨_,_,_,p⟩:=x;exact p.lt
 | dK kvs=>obtain⟨_,_,_,_,o,_,_,e,_⟩:=x;exact Heap.lt_size e
 | dT kvs=>obtain⟨_,_,_,_,o,_,_,e,_⟩:=x;exact Heap.lt_size e
 | set S n=>obtain⟨o,_,_,_,e,_⟩:=x;exact Heap.lt_size e
 | ins C dx fs=>obtain⟨_,_,_,e,_⟩:=x;exact Heap.lt_size e
 | own y=>obtain⟨_,e⟩:=x;exact Heap.lt_size e
 | xd fs=>obtain⟨_,⟨_,_,_,e,_⟩,_⟩:=x;exact Heap.lt_size e
 | rng lo hi=>obtain⟨_,_,_,e⟩:=x;exact Heap.lt_size e
 | frz ob u=>obtain⟨e,_⟩:=x;exact Heap.lt_size e
 | tbl ps=>exact Heap.lt_size (show h.get? a=some _ from x)
 | met f y=>exact Heap.lt_size (show h.get? a=some _ from x)
 | ext φ=>obtain⟨_,⟨_,e⟩,_⟩:=x;exact Heap.lt_size e
theorem Paired.mapP{α β:Type}{F G:α→β→Prop}:∀{l₁:List α} {l₂:List β},Paired F l₁ l₂→(∀a b,F a b→G a b)→Paired G l₁ l₂
 | _,_,.nil,_=>.nil
 | _,_,.cons r t,f=>.cons (f _ _ r) (Paired.mapP t f)
theorem zc7.stay(x:zc7 P w H h a o)(k:∀b u,(b=a∨H b=some (.own a))→h.get? b=some u→h'.get? b=some u)
  (ho:∀b,H b=some (.own a)→H' b=some (.own a)) (ht:∀b xs,H b=some (.tup xs)→H' b=some (.tup xs)):zc7 P w H' h' a o:=by
 induction o with
 | lst xs=>obtain⟨z,its,n,r,e⟩:=x;exact⟨z,its,n,r,k _ _ (.inl rfl) e⟩
 | tup xs=>obtain⟨z,its,r,ob,e,c⟩:=x;exact⟨z,its,r,ob,k _ _ (.inl rfl) e,c⟩
 | dK kvs=>obtain⟨z,y,vs,r,ob,es,ep,e,c⟩:=x;exact⟨z,y,vs,r,ob,es,ep,k _ _ (.inl rfl) e,c⟩
 | dT kvs =>
  obtain⟨z,y,xs,r,ob,es,ep,e,c⟩:=x
  exact⟨z,y,xs,Paired.mapP r λp q z=>⟨z.1,ht _ _ z.2.1,z.2.2⟩,ob,es,ep,k _ _ (.inl rfl) e,c⟩
 | set S n=>obtain⟨ob,es,ep,t,e,c⟩:=x;exact⟨ob,es,ep,t,k _ _ (.inl rfl) e,c⟩
 | ins C dx fs =>
  obtain⟨d,z,ne,e,mA,⟨od,es,ep,e2,c⟩,r⟩:=x
  exact⟨ho _ d,z,ne,k _ _ (.inl rfl) e,mA,⟨od,es,ep,k _ _ (.inr d) e2,c⟩,r⟩
 | own y=>obtain⟨ob,e⟩:=x;exact⟨ob,k _ _ (.inl rfl) e⟩
 | xd fs=>obtain⟨mA,⟨od,es,ep,e,c⟩,r⟩:=x;exact⟨mA,⟨od,es,ep,k _ _ (.inl rfl) e,c⟩,r⟩
 | rng lo hi=>obtain⟨t,u,v,e⟩:=x;exact⟨t,u,v,k _ _ (.inl rfl) e⟩
 | frz ob u ih=>obtain⟨e,q⟩:=x;exact⟨k _ _ (.inl rfl) e,ih q⟩
 | tbl ps =>
  have e:h.get? a=some { cls:=.none,data:=.fields ps }:=x
  show h'.get? a=some { cls:=.none,data:=.fields ps }
  exact k a _ (.inl rfl) e
 | met f y =>
  have e:h.get? a=some (PySem.W.methodObj (.ref f) (.ref y)):=x
  show h'.get? a=some (PySem.W.methodObj (.ref f) (.ref y))
  exact k a _ (.inl rfl) e
 | ext φ=>obtain⟨p,⟨o,e⟩,st⟩:=x;exact⟨st _ _ p λo q=>k _ _ (.inl rfl) q,⟨o,k _ _ (.inl rfl) e⟩,st⟩
theorem HOk.lt(x:HOk P w H h)(e:H a=some o):a<h.objs.size:=(x a o e).lt
theorem HOk.fresh(x:HOk P w H h)(e:h.objs.size≤a):H a=none:=by
 cases q:H a with
 | none=>rfl
 | some u=>exact absurd (ψi (x.lt q) e) (ψf1 _)
theorem HOk.kept(x:HOk P w H h)(k:∀b u,h.get? b=some u→h'.get? b=some u):HOk P w H h':=λa o e =>
 (x a o e).stay (λb u _ q=>k b u q) (λ_ q=>q) λ_ _ q=>q
theorem HOk.laid(x:HOk P w H h)(k:∀b u,h.get? b=some u→h'.get? b=some u)(hp:h.objs.size≤a)(new:zc7 P w (upd H a o) h' a o):HOk P w (upd H a o) h':=λb u e=>by
 have hn:=x.fresh hp
 by_cases hb:b=a
 ·subst hb;rw[zaj] at e;cases e;exact new
 ·rw[zaP hb] at e
  exact(x b u e).stay (λc v _ q=>k c v q) (λc q=>by rw[zaP (zaM q hn)];exact q) λc xs q=>by rw[zaP (zaM q hn)];exact q
end
def Rd(H:Hp)(a:Addr)(u:HO):Prop:=H a=some u∨∃o,H a=some (.frz o u)
theorem Rd.ok{P:Program}{w:World}{H:Hp}{h:Heap}{a:Addr}{u:HO}(r:Rd H a u)(x:HOk P w H h):zc7 P w H h a u:=by
 rcases r with r | ⟨o,r⟩
 ·exact x a u r
 ·obtain⟨_,q⟩:=x a _ r
  exact q
def Mut:Option HO→Prop
 | some (.lst _)=>True
 | some (.dK _)=>True
 | some (.dT _)=>True
 | some (.set _ _)=>True
 | some (.ins _ _ _)=>True
 | some (.ext _)=>True
 | _=>False
section
variable {P:Program} {w:World} {H:Hp} {h h':Heap} {x e:Addr} {o':HO}
theorem HOk.write(ok:HOk P w H h)(mu:Mut (H x))(he:e=x∨H e=some (.own x))(k:∀b u,b≠e→h.get? b=some u→h'.get? b=some u)(heo:∃u,h'.get? e=some u)
  (new:zc7 P w (upd H x o') h' x o'):HOk P w (upd H x o') h':=λb u q=>by
 have nown:∀c y,H c=some (.own y)→c≠x:=λc y r z=>by subst z;rw[r] at mu;exact mu
 have ntup:∀c xs,H c=some (.tup xs)→c≠x:=λc xs r z=>by subst z;rw[r] at mu;exact mu
 by_cases hb:b=x
 ·subst hb;rw[zaj] at q;cases q;exact new
 ·rw[zaP hb] at q
  by_cases hbe:b=e
  ·have q':H b=some (.own x):=by
    rcases he with z | z
    ·exact absurd (hbe.trans z) hb
    ·rw[hbe];exact z
   rw[q] at q';cases q'
   obtain⟨v,hv⟩:=heo
   exact⟨v,by rw[hbe];exact hv⟩
  ·refine(ok b u q).stay (λc v hc r=>k c v ?_ r) (λc r=>by rw[zaP (nown c b r)];exact r) λc xs r=>by rw[zaP (ntup c xs r)];exact r
   rcases hc with rfl | hc
   ·exact hbe
   ·rintro rfl
    rcases he with z | z
    ·exact nown c b hc z
    ·rw[hc] at z;cases z;exact hb rfl
end
structure Un (fs ex:List Addr) (H H':Hp) (h h':Heap):Prop where
 keep:∀b o,h.get? b=some o→H b=none→b∉fs→b∉ex→h'.get? b=some o
 slot:∀b o,h.get? b=some o→H b=none→b∈fs→b∉ex→∃sl,h'.get? b=some { o with slots:=sl }
 free:∀b o,h.get? b=some o→H b=none→b∉ex→H' b=none
 there:∀b o,h.get? b=some o→b∉ex→∃o',h'.get? b=some o'
 tups:∀b xs,H b=some (.tup xs)→H' b=some (.tup xs)
 frzs:∀b o u,H b=some (.frz o u)→H' b=some (.frz o u)
 tbls:∀b ps,H b=some (.tbl ps)→∃more,H' b=some (.tbl (ps++more))
section
variable {fs fs' ex ex':List Addr} {H H1 H2:Hp} {h h1 h2 h':Heap} {a x e:Addr} {o:HO}
theorem Un.any(u:Un fs ex H H1 h h1){b:Addr}{ob:Obj}(q:h.get? b=some ob)(n:H b=none)(hx:b∉ex):∃sl,h1.get? b=some { ob with slots:=sl }:=by
 by_cases hb:b∈fs
 ·exact u.slot b ob q n hb hx
 ·exact⟨ob.slots,u.keep b ob q n hb hx⟩
theorem Un.kept(k:∀b u,h.get? b=some u→h'.get? b=some u):Un fs ex H H h h' :=
 ⟨λb ob q _ _ _=>k b ob q,λb ob q _ _ _=>⟨ob.slots,k b ob q⟩,λ_ _ _ n _=>n,λb ob q _=>⟨ob,k b ob q⟩,λ_ _ q=>q,λ_ _ _ q=>q,λ_ ps q=>⟨#[],by rw[q];simp⟩⟩
theorem Un.refl:Un fs ex H H h h:=Un.kept λ_ _ q=>q
theorem Un.laid(k:∀b u,h.get? b=some u→h'.get? b=some u)(hp:h.objs.size≤a)(hn:H a=none):Un fs ex H (upd H a o) h h' where
 keep:=λb u q _ _ _=>k b u q
 slot:=λb u q _ _ _=>⟨u.slots,k b u q⟩
 free:=λb u q n _=>by rw[zaP (ψl (ψi (Heap.lt_size q) hp))];exact n
 there:=λb u q _=>⟨u,k b u q⟩
 tups:=λb xs q=>by rw[zaP (zaM q hn)];exact q
 frzs:=λb u xs q=>by rw[zaP (zaM q hn)];exact q
 tbls:=λb ps q=>⟨#[],by rw[zaP (zaM q hn),q];simp⟩
theorem Un.write(mu:Mut (H x))(he:e=x∨H e=some (.own x))(k:∀b u,b≠e→h.get? b=some u→h'.get? b=some u)(heo:∃u,h'.get? e=some u):Un fs ex H (upd H x o) h h':=by
 have hx:∀b,H b=none→b≠x:=λb n z=>by subst z;rw[n] at mu;exact mu
 have hb:∀b,H b=none→b≠e:=λb n z=>by
  subst z
  rcases he with r | r
  ·exact hx b n r
  ·rw[n] at r;cases r
 have hm:∀b u,H b=some u→¬ Mut (some u)→b≠x:=λb u q nm z=>by subst z;rw[q] at mu;exact nm mu
 refine⟨λb u q n _ _=>k b u (hb b n) q,λb u q n _ _=>⟨u.slots,k b u (hb b n) q⟩,λb u q n _=>by rw[zaP (hx b n)];exact n,λb u q _=>?_,
  λb xs q=>by rw[zaP (hm b _ q λz=>z)];exact q,λb u xs q=>by rw[zaP (hm b _ q λz=>z)];exact q,λb ps q=>⟨#[],by rw[zaP (hm b _ q λz=>z),q];simp⟩⟩
 by_cases hbe:b=e
 ·subst hbe;exact heo
 ·exact⟨u,k b u hbe q⟩
end
def trk(h:Heap)(H:Hp):List Addr:=(ψi1 h.objs.size).filter λa=>(H a).isSome
def zrH(h:Heap)(H:Hp):Heap:=ψX1 h (trk h H)
theorem zqd(h:Heap)(H:Hp):(zrH h H).objs.size=h.objs.size:=PySem.W.hideAll_size _ _
theorem ztv{h:Heap}{H:Hp}{b:Addr}{o:Obj}(e:h.get? b=some o)(n:H b=none):(zrH h H).get? b=some o :=
 PySem.W.hideAll_get _ e λhm=>by
  have q:(H b).isSome=true:=(List.mem_filter.mp hm).2
  rw[n] at q;simp at q
theorem zvW{h:Heap}{H:Hp}{b:Addr}{o:Obj}(e:(zrH h H).get? b=some o):h.get? b=some o∧H b=none:=by
 have e':h.get? b=some o:=PySem.W.of_hideAll (trk h H) e
 refine⟨e',?_⟩
 cases q:H b with
 | none=>rfl
 | some x =>
  have hm:b∈trk h H:=List.mem_filter.mpr ⟨List.mem_range.mpr (Heap.lt_size e'),by simp[q]⟩
  have z:(zrH h H).get? b=none:=PySem.W.hideAll_none (trk h H) hm
  rw[z] at e;cases e
def zvH(g h:Heap)(L:Addr):List (Addr×Obj):=(ψi1 h.objs.size).filterMap λa=>if a=L∨(g.get? a).isSome=true then none else (h.get? a).map λo=>(a,o)
def rest(g h:Heap)(L d:Addr):List (Addr×Obj):=(zvH g h L).filter λp=>decide (p.1≠d)
end L2
namespace L2
open PySem PySem.Spec PyProof.Rows
structure Mod (K:ψa) (mg:Str→Option Value) (base:Heap):Prop where
 kin:K.In base
 glob:base.Ns mainGlobals mg
 blt:∃mb,base.Ns builtinsNs mb∧∀x:Str,x≠"__name__"→mb x=bootBuiltins x
 nolimit:base.NoLimit
structure Cx where
 prog:Program
 w:World
 K:ψa
 mg:Str→Option Value
 base:Heap
 A:Around
 N:List Str
 s₀:Shared
 H₀:Hp
 env:Env
 outer:List Env
 stack:List Env
 ex:List Addr
 fn:Str→Bool
 calm:Bool
 pn:List (Addr×Obj)
 xe:Value→Shared→Prop
def frs(l:List Env):List Addr:=l.filterMap (·.frame)
abbrev Cx.fs(X:Cx):List Addr:=frs X.outer
def Vis(sc:Scope)(x:Str):Prop:=sc.names.lookup x=some .local∨sc.names.lookup x=some .cell∨sc.names.lookup x=some .free
def Loc(sc:Scope)(x:Str):Prop:=sc.names.lookup x=some .local∨sc.names.lookup x=some .cell
def Look(env:Env)(h:Heap)(m:Str→Option Value)(x:Str)(u:Value):Prop :=
 (env.kindOf x=some .local∧m x=some u)∨((env.kindOf x=some .cell∨env.kindOf x=some .free)∧∃c,env.cells.lookup x=some c∧h.IsCell c (some u))
structure Cx.Ok (X:Cx):Prop where
 mod:Mod X.K X.mg X.base
 kind:X.env.scope.kind=.function
 glob:X.env.globals=mainGlobals
 blt:X.env.builtins=builtinsNs
 above:X.s₀.heap.objs.size≤X.env.locals
 inj:∀x y c,X.env.cells.lookup x=some c→X.env.cells.lookup y=some c→x=y
 has:∀x,(X.env.kindOf x=some .cell∨X.env.kindOf x=some .free)→∃c,X.env.cells.lookup x=some c
 cab:∀x c,X.fn x=true→X.env.cells.lookup x=some c→X.s₀.heap.objs.size≤c
 hd:X.calm=true→X.A.handled=none
 frames:X.A.frames=some X.stack
 stk:X.stack=X.outer∨(X.stack=X.env::X.outer∧X.env.frame=some X.env.locals)
 exf:∀b∈X.ex,b≠X.env.locals∧∀x c,X.env.cells.lookup x=some c→c≠b
 bs:∀b o,X.base.get? b=some o→X.s₀.heap.get? b=some o∧X.H₀ b=none
 bsz:X.base.objs.size≤X.s₀.heap.objs.size
 noex:∀b o,X.base.get? b=some o→b∉X.ex
 exfs:∀b∈X.ex,b∉X.fs
 funs:X.s₀.heap.FunFrames X.base X.outer
 frf:∀b∈X.fs,X.H₀ b=none
structure Inv (X:Cx) (pins:List (Addr×Obj)) (σ:List (Option V)) (H:Hp) (s:Shared):Prop where
 ok:X.Ok
 os:s.os=X.s₀.os
 bare:AllBare s.gens
 base:Un X.fs X.ex X.H₀ H X.s₀.heap s.heap
 loc:∃m,s.heap.Ns X.env.locals m∧∀(i:Nat) (x:Str) (v:V),X.N[i]?=some x→σ[i]?=some (some v)→Vis X.env.scope x→∃u,zdz v u∧Look X.env s.heap m x u
 cell:∀x c,X.env.cells.lookup x=some c→∃v,s.heap.IsCell c v
 free:H X.env.locals=none
 freeC:∀x c,X.env.cells.lookup x=some c→H c=none
 pin:∀p∈X.pn++pins,s.heap.get? p.1=some p.2∧H p.1=none∧p.1≠X.env.locals∧p.1∉X.fs∧∀v,p.2.data≠.cell v
 hok:HOk X.prog X.w H s.heap
 len:σ.length=X.N.length
section
variable {X:Cx} {pins:List (Addr×Obj)} {σ:List (Option V)} {H H':Hp} {s:Shared} {h':Heap}
theorem Cx.Ok.nofr(ok:X.Ok){b:Addr}{o:Obj}(e:X.base.get? b=some o):b∉X.fs:=λhb=>by
 have:=(ok.funs.mem hb).1
 rw[e] at this;cases this
theorem Inv.bs(I:Inv X pins σ H s):∀b o,X.base.get? b=some o→s.heap.get? b=some o∧H b=none:=λb o e =>
 ⟨I.base.keep b o (I.ok.bs b o e).1 (I.ok.bs b o e).2 (I.ok.nofr e) (I.ok.noex b o e),I.base.free b o (I.ok.bs b o e).1 (I.ok.bs b o e).2 (I.ok.noex b o e)⟩
theorem Inv.bk(I:Inv X pins σ H s):∀b o,X.base.get? b=some o→s.heap.get? b=some o:=λb o e=>(I.bs b o e).1
theorem Inv.mod(I:Inv X pins σ H s):Mod X.K X.mg X.base:=I.ok.mod
theorem Inv.kIn(I:Inv X pins σ H s):X.K.In s.heap:=I.ok.mod.kin.keeps I.bk
theorem Inv.lt(I:Inv X pins σ H s):X.env.locals<s.heap.objs.size:=let ⟨_,hn,_⟩:=I.loc;hn.lt
theorem Inv.sz(I:Inv X pins σ H s):X.s₀.heap.objs.size≤s.heap.objs.size:=ψF I.ok.above (ψP1 I.lt)
theorem Inv.nofs(I:Inv X pins σ H s){a:Addr}(h:s.heap.objs.size≤a):a∉X.fs:=λhb=>by
 obtain⟨_,o,ho,_⟩:=I.ok.funs.mem hb
 exact absurd (ψi (Heap.lt_size ho) (ψF I.sz h)) (ψf1 _)
theorem Inv.cne(I:Inv X pins σ H s):∀x c,X.env.cells.lookup x=some c→c≠X.env.locals:=λx c e z=>by
 obtain⟨v,o,ho,hd⟩:=I.cell x c e
 obtain⟨m,⟨o',es,ep,ho',hd',_⟩,_⟩:=I.loc
 rw[z,ho'] at ho;cases ho;rw[hd'] at hd;cases hd
theorem Inv.funs(I:Inv X pins σ H s):s.heap.FunFrames X.base X.outer:=by
 have all:∀(l:List Env),(∀b∈frs l,b∈X.fs)→X.s₀.heap.FunFrames X.base l→s.heap.FunFrames X.base l:=by
  intro l
  induction l with
  | nil=>intro _ _;trivial
  | cons env r ih =>
   intro hs hl
   obtain⟨hk,⟨L,o,hf,hn,ho,hd⟩,hr⟩:=hl
   have hL:L∈X.fs:=hs L (by unfold frs;rw[List.filterMap_cons,hf];exact ψj)
   obtain⟨sl,e⟩:=I.base.slot L o ho (I.ok.frf L hL) hL λz=>I.ok.exfs L z hL
   exact⟨hk,⟨L,_,hf,hn,e,hd⟩,ih (λb hb=>hs b (by unfold frs;rw[List.filterMap_cons,hf];exact ψf _ hb)) hr⟩
 exact all X.outer (λ_ hb=>hb) I.ok.funs
theorem Inv.stack(I:Inv X pins σ H s):s.heap.FunFrames X.base X.stack:=by
 rcases I.ok.stk with e | ⟨e,hf⟩
 ·rw[e];exact I.funs
 ·rw[e]
  obtain⟨m,hn,_⟩:=I.loc
  refine .cons (by rw[I.ok.kind];decide) hf hn ?_ I.funs
  exact Heap.get?_none_of_le (ψF I.ok.bsz I.ok.above)
theorem Inv.stkSub(I:Inv X pins σ H s):∀b∈frs X.stack,b∈X.env.locals::X.fs:=λb hb=>by
 rcases I.ok.stk with e | ⟨e,hf⟩
 ·rw[e] at hb;exact ψf _ hb
 ·rw[e] at hb
  unfold frs at hb
  rw[List.filterMap_cons,hf] at hb
  exact hb
theorem Inv.stkFree(I:Inv X pins σ H s):∀b∈frs X.stack,H b=none:=λb hb=>by
 rcases List.mem_cons.mp (I.stkSub b hb) with e | hb
 ·rw[e];exact I.free
 ·obtain⟨_,o,ho,_⟩:=I.ok.funs.mem hb
  exact I.base.free b o ho (I.ok.frf b hb) λz=>I.ok.exfs b z hb
theorem Inv.step{g':Array GenState}{t':Nat}{d':Drawn}{ch:List Addr}(I:Inv X pins σ H s)
  (hch:∀b∈ch,(b∈X.ex∨X.s₀.heap.objs.size≤b)∧b≠X.env.locals∧(∀x c,X.env.cells.lookup x=some c→c≠b)∧∀p∈X.pn++pins,p.1≠b)
  (keep:∀b o,b≠X.env.locals→b∉X.fs→b∉ch→s.heap.get? b=some o→H b=none→h'.get? b=some o)
  (slot:∀b o,b≠X.env.locals→b∈X.fs→b∉ch→s.heap.get? b=some o→H b=none→∃sl,h'.get? b=some { o with slots:=sl }) (free:∀b o,b∉ch→s.heap.get? b=some o→H b=none→H' b=none)
  (there:∀b o,b∉ch→s.heap.get? b=some o→∃o',h'.get? b=some o')
  (tups:∀b xs,H b=some (.tup xs)→H' b=some (.tup xs)) (frzs:∀b o u,H b=some (.frz o u)→H' b=some (.frz o u)) (tbls:∀b ps,H b=some (.tbl ps)→∃more,H' b=some (.tbl (ps++more)))
  (ns:∀m,s.heap.Ns X.env.locals m→h'.Ns X.env.locals m) (hok:HOk X.prog X.w H' h') (hg:AllBare g') :
  Inv X pins σ H' { s with heap:=h',gens:=g',drawn:=d',toks:=t' }:=by
 have neL:∀b o,X.s₀.heap.get? b=some o→b≠X.env.locals:=λb o e=>ψl (ψi (Heap.lt_size e) I.ok.above)
 have neC:∀b o,X.s₀.heap.get? b=some o→b∉X.ex→b∉ch:=λb o e hx hb=>by
  rcases(hch b hb).1 with z | z
  ·exact hx z
  ·exact absurd (ψi (Heap.lt_size e) z) (ψf1 _)
 have cellK:∀x c,X.env.cells.lookup x=some c→∀v,s.heap.IsCell c v→h'.IsCell c v:=λx c e v ⟨o,ho,hd⟩=>by
  have nch:c∉ch:=λz=>(hch c z).2.2.1 x c e rfl
  by_cases hc:c∈X.fs
  ·obtain⟨sl,q⟩:=slot c o (I.cne x c e) hc nch ho (I.freeC x c e)
   exact⟨_,q,hd⟩
  ·exact⟨o,keep c o (I.cne x c e) hc nch ho (I.freeC x c e),hd⟩
 refine⟨I.ok,I.os,hg,⟨λb o e n hb hx=>?_,λb o e n hb hx=>?_,λb o e n hx=>?_,λb o e hx=>?_,λb xs e=>tups b xs (I.base.tups b xs e),λb o xs e=>frzs b o xs (I.base.frzs b o xs e),λb ps e=>?_⟩,?_,λx c e=>?_,?_,λx c e=>?_,λp hp=>?_,hok,I.len⟩
 ·exact keep b o (neL b o e) hb (neC b o e hx) (I.base.keep b o e n hb hx) (I.base.free b o e n hx)
 ·obtain⟨sl,e1⟩:=I.base.slot b o e n hb hx
  obtain⟨sl',e2⟩:=slot b _ (neL b o e) hb (neC b o e hx) e1 (I.base.free b o e n hx)
  exact⟨sl',e2⟩
 ·obtain⟨o',e1⟩:=I.base.there b o e hx
  exact free b o' (neC b o e hx) e1 (I.base.free b o e n hx)
 ·obtain⟨o',e1⟩:=I.base.there b o e hx
  exact there b o' (neC b o e hx) e1
 ·obtain⟨m1,e1⟩:=I.base.tbls b ps e
  obtain⟨m2,e2⟩:=tbls b _ e1
  exact⟨m1++m2,by rw[e2,Array.append_assoc]⟩
 ·obtain⟨m,hn,hl⟩:=I.loc
  refine⟨m,ns m hn,λi x v e1 e2 e3=>?_⟩
  obtain⟨u,r,l⟩:=hl i x v e1 e2 e3
  refine⟨u,r,?_⟩
  rcases l with l | ⟨k,c,e,z⟩
  ·exact .inl l
  ·exact .inr ⟨k,c,e,cellK x c e _ z⟩
 ·obtain⟨v,z⟩:=I.cell x c e
  exact⟨v,cellK x c e v z⟩
 ·obtain⟨m,⟨o,_,_,ho,_⟩,_⟩:=I.loc
  exact free _ o (λz=>(hch _ z).2.1 rfl) ho I.free
 ·obtain⟨v,o,ho,hd⟩:=I.cell x c e
  exact free c o (λz=>(hch c z).2.2.1 x c e rfl) ho (I.freeC x c e)
 ·obtain⟨e,n,ne,nf,d⟩:=I.pin p hp
  have nch:p.1∉ch:=λz=>(hch p.1 z).2.2.2 p hp rfl
  exact⟨keep p.1 p.2 ne nf nch e n,free p.1 p.2 nch e n,ne,nf,d⟩
theorem Inv.un{t':Nat}(I:Inv X pins σ H s)(u:Un X.fs [] H H' s.heap h')(hok:HOk X.prog X.w H' h'):Inv X pins σ H' { s with heap:=h',toks:=t' }:=by
 obtain⟨m,⟨o,es,ep,ho,r⟩,_⟩:=id I.loc
 obtain⟨sl,hL⟩:=u.any ho I.free (by simp)
 exact I.step (g':=s.gens) (d':=s.drawn) (ch:=[]) (λ_ z=>nomatch z) (λb o _ hb _ e n=>u.keep b o e n hb (by simp)) (λb o _ hb _ e n=>u.slot b o e n hb (by simp)) (λb o _ e n=>u.free b o e n (by simp)) (λb o _ e=>u.there b o e (by simp)) u.tups u.frzs u.tbls (λm' hm=>by
  obtain⟨o',es',ep',ho',r'⟩:=hm
  rw[ho] at ho';cases ho'
  exact⟨_,es',ep',hL,r'⟩) hok I.bare
theorem Inv.call{g':Array GenState}{t':Nat}{d':Drawn}{ch:List Addr}(I:Inv X pins σ H s)(u:Un (frs X.stack) ch H H' s.heap h')(hok:HOk X.prog X.w H' h')(hg:AllBare g')
  (hch:∀b∈ch,(b∈X.ex∨X.s₀.heap.objs.size≤b)∧b≠X.env.locals∧(∀x c,X.env.cells.lookup x=some c→c≠b)∧∀p∈X.pn++pins,p.1≠b) :
  Inv X pins σ H' { s with heap:=h',gens:=g',drawn:=d',toks:=t' }:=by
 obtain⟨m,⟨o,es,ep,ho,r⟩,_⟩:=id I.loc
 obtain⟨sl,hL⟩:=u.any ho I.free λz=>(hch _ z).2.1 rfl
 exact I.step (ch:=ch) hch (λb o hL hb hc e n=>u.keep b o e n (λz=>(List.mem_cons.mp (I.stkSub b z)).elim hL hb) hc) (λb o _ _ hc e n=>u.any e n hc) (λb o hc e n=>u.free b o e n hc) (λb o hc e=>u.there b o e hc) u.tups u.frzs u.tbls (λm' hm=>by
  obtain⟨o',es',ep',ho',r'⟩:=hm
  rw[ho] at ho';cases ho'
  exact⟨_,es',ep',hL,r'⟩) hok hg
theorem Inv.turned{t':Nat}{it:Addr}(I:Inv X pins σ H s)(k:∀b o,b≠it→s.heap.get? b=some o→h'.get? b=some o)(hn:H it=none)(hL:it≠X.env.locals)
  (h1:it∈X.ex∨X.s₀.heap.objs.size≤it) (h2:∀x c,X.env.cells.lookup x=some c→c≠it) (h3:∀p∈X.pn++pins,p.1≠it):Inv X pins σ H { s with heap:=h',toks:=t' }:=by
 have nit:∀b u,H b=some u→b≠it:=λb u e z=>by rw[z,hn] at e;cases e
 refine I.step (g':=s.gens) (d':=s.drawn) (ch:=[it]) (λb hb=>?_) (λb o _ _ hc e _=>k b o (λz=>hc (by simp[z])) e) (λb o _ _ hc e _=>⟨o.slots,k b o (λz=>hc (by simp[z])) e⟩) (λ_ _ _ _ n=>n)
  (λb o hc e=>⟨o,k b o (λz=>hc (by simp[z])) e⟩) (λ_ _ e=>e) (λ_ _ _ e=>e) (λb ps e=>⟨#[],by rw[e];simp⟩) (λm hm=>?_) (λb u e=>?_) I.bare
 ·have e:b=it:=by simpa using hb
  subst e
  exact⟨h1,hL,h2,h3⟩
 ·obtain⟨o,es,ep,ho,r⟩:=hm
  exact⟨o,es,ep,k _ o (Ne.symm hL) ho,r⟩
 ·refine(I.hok b u e).stay (λc v hc q=>k c v ?_ q) (λ_ q=>q) λ_ _ q=>q
  rcases hc with z | z
  ·rw[z];exact nit b u e
  ·exact nit c _ z
theorem Inv.tok(I:Inv X pins σ H s)(t:Nat):Inv X pins σ H { s with toks:=t }:=I.un (h':=s.heap) (t':=t) Un.refl I.hok
theorem Inv.kept{t':Nat}(I:Inv X pins σ H s)(k:∀b u,s.heap.get? b=some u→h'.get? b=some u):Inv X pins σ H { s with heap:=h',toks:=t' }:=I.un (Un.kept k) (I.hok.kept k)
theorem Inv.laid{a:Addr}{o:HO}{t':Nat}(I:Inv X pins σ H s)(k:∀b u,s.heap.get? b=some u→h'.get? b=some u)(hp:s.heap.objs.size≤a)(new:zc7 X.prog X.w (upd H a o) h' a o) :
  Inv X pins σ (upd H a o) { s with heap:=h',toks:=t' }:=I.un (Un.laid k hp (I.hok.fresh hp)) (I.hok.laid k hp new)
theorem Inv.write{x e:Addr}{o:HO}{t':Nat}(I:Inv X pins σ H s)(mu:Mut (H x))(he:e=x∨H e=some (.own x))(k:∀b u,b≠e→s.heap.get? b=some u→h'.get? b=some u)(heo:∃u,h'.get? e=some u)
  (new:zc7 X.prog X.w (upd H x o) h' x o):Inv X pins σ (upd H x o) { s with heap:=h',toks:=t' }:=I.un (Un.write mu he k heo) (I.hok.write mu he k heo new)
theorem Inv.pins_of{pins':List (Addr×Obj)}(I:Inv X pins σ H s)(h:∀p∈pins',s.heap.get? p.1=some p.2∧H p.1=none∧p.1≠X.env.locals∧p.1∉X.fs∧∀v,p.2.data≠.cell v):Inv X pins' σ H s :=
 ⟨I.ok,I.os,I.bare,I.base,I.loc,I.cell,I.free,I.freeC,λp hp=>(List.mem_append.mp hp).elim (λz=>I.pin p (ψl1 _ z)) (h p),I.hok,I.len⟩
theorem zkP{N:List Str}(hN:N.Nodup){i j:Nat}{x:Str}(a:N[i]?=some x)(b:N[j]?=some x):i=j:=by
 obtain⟨h1,e1⟩:=List.getElem?_eq_some_iff.mp a
 obtain⟨h2,e2⟩:=List.getElem?_eq_some_iff.mp b
 exact(List.getElem_inj hN).mp (e1.trans e2.symm)
theorem ziA{M:Model}{A:Around}{E:Value→Shared→Prop}{i:Nat}{x:Str}{v:V}{u:Value}{Q:Unit→Shared→Prop}(I:Inv X pins σ H s)(hN:X.N.Nodup)(hi:X.N[i]?=some x)(hx:Loc X.env.scope x)(r:zdz v u)
  (h:∀s',Inv X pins (σ.set i (some v)) H s'→(∃a,Heap.SameBut a s.heap s'.heap∧(a=X.env.locals∨X.env.cells.lookup x=some a))→Q () s') (hf:X.fn x=true∨X.env.scope.names.lookup x=some .local:=by first | exact .inl rfl | exact .inr rfl | assumption):wpAny M A (storeName X.env x u) Q E s:=by
 obtain⟨m,hn,hl⟩:=id I.loc
 have hcls:(X.env.scope.kind == .class || (X.env.scope.kind == .module&&X.env.locals != X.env.globals))=false:=by rw[I.ok.kind];rfl
 have hiσ:i<σ.length:=by rw[I.len];exact(List.getElem?_eq_some_iff.mp hi).1
 have cne:=I.cne
 have tracked:∀{a:Addr} {h':Heap},(∃o,s.heap.get? a=some o∧H a=none)→Heap.SameBut a s.heap h'→HOk X.prog X.w H h':=fun {a h'} ha hs b ob e=>by
  obtain⟨_,_,hfree⟩:=ha
  refine(I.hok b ob e).stay (λc w' hc q=>(hs.2 c ?_).trans q) (λ_ q=>q) λ_ _ q=>q
  rintro rfl
  rcases hc with rfl | hc
  ·rw[hfree] at e;cases e
  ·rw[hfree] at hc;cases hc
 rcases hx with hk | hk
 ·refine wpAny_storeName_local hk hn (λh' hn' hs=>?_) hcls
  obtain⟨oL,_,_,hoL,_⟩:=id hn
  refine h _ ⟨I.ok,I.os,I.bare,⟨λb o e n hb hx=>?_,λb o e n hb hx=>?_,I.base.free,λb o e hx=>?_,I.base.tups,I.base.frzs,I.base.tbls⟩,⟨_,hn',λj y v' e1 e2 e3=>?_⟩,λy c e=>?_,I.free,I.freeC,λp hp=>?_,tracked ⟨oL,hoL,I.free⟩ hs,by simpa using I.len⟩ ⟨_,hs,.inl rfl⟩
  ·exact(hs.2 b (ψl (ψi (Heap.lt_size e) I.ok.above))).trans (I.base.keep b o e n hb hx)
  ·obtain⟨sl,e1⟩:=I.base.slot b o e n hb hx
   exact⟨sl,(hs.2 b (ψl (ψi (Heap.lt_size e) I.ok.above))).trans e1⟩
  ·obtain⟨o',e1⟩:=I.base.there b o e hx
   exact⟨o',(hs.2 b (ψl (ψi (Heap.lt_size e) I.ok.above))).trans e1⟩
  ·by_cases hj:j=i
   ·subst hj
    rw[hi] at e1;cases e1
    rw[ψN1 hiσ] at e2
    cases e2
    exact⟨u,r,.inl ⟨hk,by simp⟩⟩
   ·rw[ψR1 (Ne.symm hj)] at e2
    obtain⟨u',r',q⟩:=hl j y v' e1 e2 e3
    refine⟨u',r',?_⟩
    rcases q with ⟨k,e⟩ | ⟨k,c,e,z⟩
    ·refine .inl ⟨k,?_⟩
     have:y≠x:=λe=>hj (zkP hN e1 (e ▸ hi))
     simp[this,e]
    ·exact .inr ⟨k,c,e,z.sameBut hs (cne y c e)⟩
  ·obtain⟨w',z⟩:=I.cell y c e
   exact⟨w',z.sameBut hs (cne y c e)⟩
  ·obtain⟨e,n,ne,nf,d⟩:=I.pin p hp
   exact⟨(hs.2 p.1 ne).trans e,n,ne,nf,d⟩
 ·have hfn:X.fn x=true:=by
   rcases hf with z | z
   ·exact z
   ·rw[z] at hk;cases hk
  obtain⟨c,hc⟩:=I.ok.has x (.inl hk)
  obtain⟨w',z⟩:=I.cell x c hc
  refine wpAny_storeName_cell I.ok.kind hk hc z (λh' hc' hs=>?_)
  obtain⟨oc,hoc,hocd⟩:=id z
  refine h { s with heap:=h' } ⟨I.ok,I.os,I.bare,⟨λb o e n hb hx=>?_,λb o e n hb hx=>?_,I.base.free,λb o e hx=>?_,I.base.tups,I.base.frzs,I.base.tbls⟩,⟨m,hn.sameBut hs (Ne.symm (cne x c hc)),λj y v' e1 e2 e3=>?_⟩,λy c' e=>?_,I.free,I.freeC,λp hp=>?_,tracked ⟨oc,hoc,I.freeC x c hc⟩ hs,by simpa using I.len⟩ ⟨c,hs,.inr hc⟩
  ·exact(hs.2 b (ψl (ψi (Heap.lt_size e) (I.ok.cab x c hfn hc)))).trans (I.base.keep b o e n hb hx)
  ·obtain⟨sl,e1⟩:=I.base.slot b o e n hb hx
   exact⟨sl,(hs.2 b (ψl (ψi (Heap.lt_size e) (I.ok.cab x c hfn hc)))).trans e1⟩
  ·obtain⟨o',e1⟩:=I.base.there b o e hx
   exact⟨o',(hs.2 b (ψl (ψi (Heap.lt_size e) (I.ok.cab x c hfn hc)))).trans e1⟩
  ·by_cases hj:j=i
   ·subst hj
    rw[hi] at e1;cases e1
    rw[ψN1 hiσ] at e2
    cases e2
    exact⟨u,r,.inr ⟨.inl hk,c,hc,hc'⟩⟩
   ·rw[ψR1 (Ne.symm hj)] at e2
    obtain⟨u',r',q⟩:=hl j y v' e1 e2 e3
    refine⟨u',r',?_⟩
    rcases q with q | ⟨k,c',e,z'⟩
    ·exact .inl q
    ·refine .inr ⟨k,c',e,z'.sameBut hs ?_⟩
     rintro rfl
     exact hj (zkP hN e1 (I.ok.inj _ _ _ e hc ▸ hi))
  ·by_cases hcc:c'=c
   ·subst hcc;exact⟨_,hc'⟩
   ·obtain⟨w2,z2⟩:=I.cell y c' e
    exact⟨w2,z2.sameBut hs hcc⟩
  ·obtain⟨e,n,ne,nf,d⟩:=I.pin p hp
   refine⟨(hs.2 p.1 ?_).trans e,n,ne,nf,d⟩
   intro q
   rw[q,hoc] at e
   have q':oc=p.2:=Option.some.inj e
   exact d w' (by rw[← q'];exact hocd)
theorem zkj{M:Model}{A:Around}{E:Value→Shared→Prop}{i:Nat}{x:Str}{v:V}{u:Value}{Q:Unit→Shared→Prop}(I:Inv X pins σ H s)(hN:X.N.Nodup)(hi:X.N[i]?=some x)(hx:Loc X.env.scope x)(r:zdz v u)
  (h:∀s',Inv X pins (σ.set i (some v)) H s'→Q () s') (hf:X.fn x=true∨X.env.scope.names.lookup x=some .local:=by first | exact .inl rfl | exact .inr rfl | assumption):wpAny M A (storeName X.env x u) Q E s :=
 ziA I hN hi hx r (λs' I' _=>h s' I') hf
theorem Inv.call'{s':Shared}{ch:List Addr}(I:Inv X pins σ H s)(ho:s'.os=s.os)(u:Un (frs X.stack) ch H H' s.heap s'.heap)(hok:HOk X.prog X.w H' s'.heap)(hg:AllBare s'.gens)
  (hch:∀b∈ch,(b∈X.ex∨X.s₀.heap.objs.size≤b)∧b≠X.env.locals∧(∀x c,X.env.cells.lookup x=some c→c≠b)∧∀p∈X.pn++pins,p.1≠b):Inv X pins σ H' s':=by
 obtain⟨h',g',d',t',o'⟩:=s'
 have e:o'=s.os:=ho
 subst e
 exact I.call (g':=g') (t':=t') (d':=d') u hok hg hch
end
abbrev XK:=Value→Option Addr→Hp→Prop
abbrev St:=List (Option V)
abbrev VK:=V→Hp→Prop
abbrev TE:=St→Hp→VK→Prop
abbrev TT:=St→Hp→(Bool→Hp→Prop)→Prop
abbrev TA:=St→Hp→(List V→Hp→Prop)→Prop
structure zbP where
 nx:St→Hp→Prop
 rt:VK
 bk:St→Hp→Prop:=λ_ _=>False
 ct:St→Hp→Prop:=λ_ _=>False
abbrev TS:=zbP→St→Hp→Prop
def EP(X:Cx)(pins:List (Addr×Obj))(σ:St)(Q:VK)(u:Value)(s':Shared):Prop:=∃v H',Inv X pins σ H' s'∧zdz v u∧Q v H'
def TP(X:Cx)(pins:List (Addr×Obj))(σ:St)(Q:Bool→Hp→Prop)(b:Bool)(s':Shared):Prop:=∃H',Inv X pins σ H' s'∧Q b H'
def AP(X:Cx)(pins:List (Addr×Obj))(σ:St)(Q:List V→Hp→Prop)(us:List Value)(s':Shared):Prop:=∃vs H',Inv X pins σ H' s'∧zb9 vs us∧Q vs H'
def SP(X:Cx)(pins:List (Addr×Obj))(D:zbP)(f:Flow)(s':Shared):Prop :=
 match f with
 | .next=>∃σ' H',Inv X pins σ' H' s'∧D.nx σ' H'
 | .brk=>∃σ' H',Inv X pins σ' H' s'∧D.bk σ' H'
 | .cont=>∃σ' H',Inv X pins σ' H' s'∧D.ct σ' H'
 | .ret u=>∃v σ' H',Inv X pins σ' H' s'∧zdz v u∧D.rt v H'
def PE(X:Cx)(e:Expr)(t:TE):Prop :=
 ∀(pins:List (Addr×Obj)) (s:Shared) (σ:St) (H:Hp) (Q:VK),Inv X pins σ H s→t σ H Q→wpAny (model X.prog X.w) X.A (eval e X.env) (EP X pins σ Q) X.xe s
def PT(X:Cx)(e:Expr)(t:TT):Prop :=
 ∀(pins:List (Addr×Obj)) (s:Shared) (σ:St) (H:Hp) (Q:Bool→Hp→Prop),Inv X pins σ H s→t σ H Q→wpAny (model X.prog X.w) X.A (isTrue e X.env (eval e X.env)) (TP X pins σ Q) X.xe s
def PW(X:Cx)(e:Expr)(t:TT):Prop :=
 ∀(whole:Sem Value) (pins:List (Addr×Obj)) (s:Shared) (σ:St) (H:Hp) (Q:Bool→Hp→Prop),Inv X pins σ H s→t σ H Q→wpAny (model X.prog X.w) X.A (isTrue e X.env whole) (TP X pins σ Q) X.xe s
theorem PW.pt{X:Cx}{e:Expr}{t:TT}(h:PW X e t):PT X e t:=h _
def PA(X:Cx)(es:List Expr)(t:TA):Prop :=
 ∀(pos:Pos) (pins:List (Addr×Obj)) (s:Shared) (σ:St) (H:Hp) (Q:List V→Hp→Prop),Inv X pins σ H s→t σ H Q→wpAny (model X.prog X.w) X.A (spliced (backTo pos (starEach es X.env))) (AP X pins σ Q) X.xe s
def PS(X:Cx)(st:Stmt)(t:TS):Prop :=
 ∀(pins:List (Addr×Obj)) (s:Shared) (σ:St) (H:Hp) (D:zbP),Inv X pins σ H s→t D σ H→wpAny (model X.prog X.w) X.A (exec st X.env) (SP X pins D) X.xe s
def PSs(X:Cx)(st:List Stmt)(t:TS):Prop :=
 ∀(pins:List (Addr×Obj)) (s:Shared) (σ:St) (H:Hp) (D:zbP),Inv X pins σ H s→t D σ H→wpAny (model X.prog X.w) X.A (execs st X.env) (SP X pins D) X.xe s
theorem thn{α:Type}{t:Sem α}{Q Q':α→Shared→Prop}{M:Model}{A:Around}{E:Value→Shared→Prop}{s:Shared}(h:wpAny M A t Q E s)(hQ:∀a s,Q a s→Q' a s):wpAny M A t Q' E s:=wpAny_mono h hQ λ_ _ x=>x
end L2
namespace L2
open PySem PySem.Spec PyProof.Rows
section
variable {X:Cx}
def zac(i:Nat):TE:=λσ H Q=>∃v,σ[i]?=some (some v)∧Q v H
def tC(v:V):TE:=λ_ H Q=>Q v H
theorem zwQ{i:Nat}{x:Str}{pos:Pos}(hN:X.N[i]?=some x)(hv:Vis X.env.scope x)(hd:(x == ("__debug__":Str))=false:=by decide)(hcd:(x == ("__classdict__":Str))=false:=by decide):PE X (.Name x pos) (zac i):=by
 intro pins s σ H Q I h
 obtain⟨v,e,h⟩:=h
 obtain⟨m,hn,hl⟩:=I.loc
 obtain⟨u,r,l⟩:=hl i x v hN e hv
 have fin:EP X pins σ Q u s:=⟨v,H,I,r,h⟩
 rcases l with ⟨hk,hm⟩ | ⟨hk,c,hc,hcell⟩
 ·exact wpAny_Name (wpAny_loadName_local I.ok.kind hk hn hm fin) hd
 ·rcases hk with hk | hk
  ·exact wpAny_Name (wpAny_loadName_cell I.ok.kind hk hc hcell fin) hd
  ·exact wpAny_Name (wpAny_loadName_free I.ok.kind hk hc hcell fin hcd) hd
theorem zah{i j pos}:PE X (.Constant (.int i) j pos) (tC (.int i)):=λ_ _ _ H _ I h=>wpAny_Constant_int ⟨.int i,H,I.tok _,⟨_,rfl⟩,h⟩
theorem zeA{b j pos}:PE X (.Constant (.bool b) j pos) (tC (.bl b)):=λ_ _ _ H _ I h=>Constant_bool ⟨.bl b,H,I,rfl,h⟩
theorem zjV{j pos}:PE X (.Constant .none j pos) (tC .non):=λ_ _ _ H _ I h=>Constant_none ⟨.non,H,I,rfl,h⟩
theorem zdE{x j pos}:PE X (.Constant (.str x) j pos) (tC (.str x)):=λ_ _ _ H _ I h=>Calls.Constant_str ⟨.str x,H,I.tok _,⟨_,rfl⟩,h⟩
def Gl(X:Cx)(x:Str):Prop:=X.env.kindOf x=some .globalImplicit
theorem zjc{E:Value→Shared→Prop}{pins:List (Addr×Obj)}{s:Shared}{σ:St}{H:Hp}{x:Str}{u:Value}{pos:Pos}{Q:Value→Shared→Prop}(I:Inv X pins σ H s)(hg:Gl X x)(hm:X.mg x=some u)(h:Q u s)
  (hd:(x == ("__debug__":Str))=false:=by decide):wpAny (model X.prog X.w) X.A (eval (.Name x pos) X.env) Q E s :=
 Calls.Name_function_global I.ok.kind hg (Calls.loadGlobal_global (by rw[I.ok.glob];exact I.mod.glob.keeps I.bk) hm h) hd
theorem zhH{E:Value→Shared→Prop}{pins:List (Addr×Obj)}{s:Shared}{σ:St}{H:Hp}{x:Str}{u:Value}{pos:Pos}{Q:Value→Shared→Prop}(I:Inv X pins σ H s)(hg:Gl X x)(hm:X.mg x=none)(hv:bootBuiltins x=some u)(h:Q u s)
  (hn:x≠"__name__":=by decide) (hd:(x == ("__debug__":Str))=false:=by decide):wpAny (model X.prog X.w) X.A (eval (.Name x pos) X.env) Q E s:=by
 obtain⟨mb,h1,h2⟩:=I.mod.blt
 exact Calls.Name_function_global I.ok.kind hg (Calls.loadGlobal_builtin (by rw[I.ok.glob];exact I.mod.glob.keeps I.bk) hm (by rw[I.ok.blt];exact h1.keeps I.bk) ((h2 x hn).trans hv) h) hd
theorem zbD{x:Str}{v:V}{u:Value}{pos:Pos}(hg:Gl X x)(hm:X.mg x=some u)(r:zdz v u)(hd:(x == ("__debug__":Str))=false:=by decide):PE X (.Name x pos) (tC v) :=
 λ_ _ _ H _ I h=>zjc I hg hm ⟨v,H,I,r,h⟩ hd
theorem zea{x:Str}{v:V}{u:Value}{pos:Pos}(hg:Gl X x)(hm:X.mg x=none)(hv:bootBuiltins x=some u)(r:zdz v u)(hn:x≠"__name__":=by decide)(hd:(x == ("__debug__":Str))=false:=by decide):PE X (.Name x pos) (tC v) :=
 λ_ _ _ H _ I h=>zhH I hg hm hv ⟨v,H,I,r,h⟩ hn hd
variable {a b:Expr} {ta tb:TE} {pos:Pos}
def PC(X:Cx)(op:CmpOp)(a b:Expr)(t:TE):Prop :=
 ∀(pins:List (Addr×Obj)) (s:Shared) (σ:St) (H:Hp) (Q:VK),Inv X pins σ H s→t σ H Q →
  wpAny (model X.prog X.w) X.A (eval a X.env) (λv s₁=>wpAny (model X.prog X.w) X.A (eval b X.env) (λu s₂=>wpAny (model X.prog X.w) X.A (compareOp op v u) (EP X pins σ Q) X.xe s₂) X.xe s₁) X.xe s
def tB(t:TE):TT:=λσ H Q=>t σ H λx H1=>∃c,x=.bl c∧Q c H1
theorem zbF{e:Expr}{t:TE}(h:PE X e t)(he:∀whole,isTrue e X.env whole=(do let v ← whole;standAt e.pos;holding [v] (truthy v)):=by intro _;rfl):PT X e (tB t):=by
 intro pins s σ H Q I hw
 refine isTrue_plain (thn (h pins s σ H _ I hw) λv s1 hQ'=>?_) (he _)
 obtain⟨x,H1,I1,r1,q1⟩:=hQ'
 obtain⟨d,rfl,q⟩:=q1
 cases r1
 exact wpAny_truthy_bool ⟨H1,I1,q⟩
variable {tA tB':TT} {rest:List Expr}
def tAnd(t u:TT):TT:=λσ H Q=>t σ H λc H1=>if c=true then u σ H1 Q else Q false H1
def tOr(t u:TT):TT:=λσ H Q=>t σ H λc H1=>if c=true then Q true H1 else u σ H1 Q
def zfw(t:TT):TT:=λσ H Q=>t σ H λc H1=>Q (!c) H1
theorem zu7(ha:PT X a tA):PW X (.BoolOp .And [a] pos) tA:=by
 intro wh pins s σ H Q I h
 refine isTrue_and (thn (ha pins s σ H Q I h) λc s1 e=>?_)
 cases c with
 | true=>exact isTrue_and_nil e
 | false=>exact e
theorem zfU(ha:PT X a tA):PW X (.BoolOp .Or [a] pos) tA:=by
 intro wh pins s σ H Q I h
 refine isTrue_or (thn (ha pins s σ H Q I h) λc s1 e=>?_)
 cases c with
 | false=>exact isTrue_or_nil e
 | true=>exact e
theorem zwZ(ha:PT X a tA)(hb:PW X (.BoolOp .And (b::rest) pos) tB'):PW X (.BoolOp .And (a::b::rest) pos) (tAnd tA tB'):=by
 intro wh pins s σ H Q I h
 refine isTrue_and (thn (ha pins s σ H _ I h) λc s1 hQ'=>?_)
 obtain⟨H1,I1,q1⟩:=hQ'
 cases c with
 | true=>exact hb wh pins s1 σ H1 Q I1 q1
 | false=>exact⟨H1,I1,q1⟩
theorem zhL(ha:PT X a tA)(hb:PW X (.BoolOp .Or (b::rest) pos) tB'):PW X (.BoolOp .Or (a::b::rest) pos) (tOr tA tB'):=by
 intro wh pins s σ H Q I h
 refine isTrue_or (thn (ha pins s σ H _ I h) λc s1 hQ'=>?_)
 obtain⟨H1,I1,q1⟩:=hQ'
 cases c with
 | true=>exact⟨H1,I1,q1⟩
 | false=>exact hb wh pins s1 σ H1 Q I1 q1
theorem zcK(ha:PT X a tA):PT X (.UnaryOp .Not a pos) (zfw tA):=by
 intro pins s σ H Q I h
 exact isTrue_not (ha pins s σ H (λc H1=>Q (!c) H1) I h)
def zc6(ta tb:TE):TE:=λσ H Q=>ta σ H λx H1=>∃c,x=.bl c∧if c=true then tb σ H1 Q else Q (.bl false) H1
def zv9(ta:TE):TE:=λσ H Q=>ta σ H λx H1=>∃c,x=.bl c∧Q (.bl (!c)) H1
theorem zgo{op}{t:TE}(h:PE X a t):PE X (.BoolOp op [a] pos) t:=λpins s σ H Q I hw=>BoolOp_one (h pins s σ H Q I hw)
theorem zec(ha:PE X a ta)(hb:PE X (.BoolOp .And (b::rest) pos) tb):PE X (.BoolOp .And (a::b::rest) pos) (zc6 ta tb):=by
 intro pins s σ H Q I h
 refine BoolOp_and (thn (ha pins s σ H _ I h) λv s1 hQ'=>?_)
 obtain⟨x,H1,I1,r1,q1⟩:=hQ'
 obtain⟨c,rfl,q1⟩:=q1
 cases r1
 refine wpAny_truthy_bool ?_
 cases c with
 | true=>exact hb pins s1 σ H1 Q I1 q1
 | false=>exact⟨.bl false,H1,I1,rfl,q1⟩
theorem zxZ(ha:PE X a ta):PE X (.UnaryOp .Not a pos) (zv9 ta):=by
 intro pins s σ H Q I h
 refine UnaryOp_ (thn (ha pins s σ H _ I h) λv s1 hQ'=>?_)
 obtain⟨x,H1,I1,r1,q1⟩:=hQ'
 obtain⟨c,rfl,q1⟩:=q1
 cases r1
 exact not_of (wpAny_truthy_bool ⟨.bl (!c),H1,I1,rfl,q1⟩)
def tIf(t:TT)(ta tb:TE):TE:=λσ H Q=>t σ H λc H1=>if c=true then ta σ H1 Q else tb σ H1 Q
theorem znN{c:Expr}(hc:PT X c tA)(ha:PE X a ta)(hb:PE X b tb):PE X (.IfExp c a b pos) (tIf tA ta tb):=by
 intro pins s σ H Q I h
 refine wpAny_IfExp (thn (hc pins s σ H _ I h) λd s1 hQ'=>?_)
 obtain⟨H1,I1,q1⟩:=hQ'
 cases d with
 | true=>exact ha pins s1 σ H1 Q I1 q1
 | false=>exact hb pins s1 σ H1 Q I1 q1
end
end L2
namespace L2
open PySem PySem.Spec PyProof.Rows
def SqL(K:ψa)(H:Hp)(a:Addr)(xs:List V):Prop :=
 Rd H a (.lst xs) ∨
  ∃(o:Obj) (its:Array Value) (n:Nat),K.lookup a=some o∧o.cls=.type "list"∧o.dict=none∧o.data=.seq its n∧its.size≤sizeLine∧zb9 xs its.toList
def SqT(K:ψa)(H:Hp)(a:Addr)(xs:List V):Prop :=
 Rd H a (.tup xs) ∨
  ∃(o:Obj) (its:Array Value) (n:Nat),K.lookup a=some o∧o.cls=.type "tuple"∧o.data=.seq its n∧its.size≤sizeLine∧zb9 xs its.toList
def absV:Value→Option V
 | .none=>some .non
 | .bool b=>some (.bl b)
 | .int i _=>some (.int i)
 | .str x _=>some (.str x)
 | .bytes b _=>some (.byt b)
 | .float b _=>some (.flt b)
 | .ref a=>some (.ref a)
 | .type n=>some (.ty n)
 | _=>none
theorem zdz.abs{x:V}{u:Value}(r:zdz x u):absV u=some x:=by
 cases x with
 | non=>cases r;rfl
 | bl _=>cases r;rfl
 | int _=>obtain⟨t,rfl⟩:=r;rfl
 | str _=>obtain⟨t,rfl⟩:=r;rfl
 | byt _=>obtain⟨t,rfl⟩:=r;rfl
 | flt _=>obtain⟨t,rfl⟩:=r;rfl
 | ref _=>cases r;rfl
 | ty _=>cases r;rfl
theorem zdz.inj{x y:V}{u:Value}(r:zdz x u)(q:zdz y u):x=y:=Option.some.inj (r.abs.symm.trans q.abs)
theorem zb9.inj:∀{xs ys:List V} {us:List Value},zb9 xs us→zb9 ys us→xs=ys
 | _,_,_,.nil,.nil=>rfl
 | _,_,_,.cons r t,.cons r' t'=>by rw[r.inj r',zb9.inj t t']
section
variable {X:Cx} {pins:List (Addr×Obj)} {σ:St} {H:Hp} {s:Shared} {a:Addr} {xs ys:List V}
theorem SqL.of{K:ψa}(h:H a=some (.lst xs)):SqL K H a xs:=.inl (.inl h)
theorem SqT.of{K:ψa}(h:H a=some (.tup xs)):SqT K H a xs:=.inl (.inl h)
theorem Inv.list(I:Inv X pins σ H s)(h:SqL X.K H a xs):∃its:List Value,zb9 xs its∧PlainL s.heap a its.toArray∧xs.length≤sizeLine:=by
 rcases h with h | ⟨o,its,n,hk,hc,hd,hs,hz,r⟩
 ·obtain⟨z,its,n,r,e⟩:=h.ok I.hok
  exact⟨its,r,⟨_,n,e,rfl,rfl,rfl⟩,z⟩
 ·refine⟨its.toList,r,⟨o,n,I.kIn a o hk,hc,hd,by simpa using hs⟩,?_⟩
  have e:=r.length
  simp only[Array.length_toList] at e
  (first|lia|omega)
theorem Inv.tuple(I:Inv X pins σ H s)(h:SqT X.K H a xs):∃its:List Value,zb9 xs its∧IsTup s.heap a its.toArray∧xs.length≤sizeLine:=by
 rcases h with h | ⟨o,its,n,hk,hc,hs,hz,r⟩
 ·obtain⟨z,its,r,p⟩:=h.ok I.hok
  exact⟨its,r,p,z⟩
 ·refine⟨its.toList,r,⟨o,I.kIn a o hk,hc,n,by simpa using hs⟩,?_⟩
  have e:=r.length
  simp only[Array.length_toList] at e
  (first|lia|omega)
theorem Inv.list_inj(I:Inv X pins σ H s)(h:SqL X.K H a xs)(h':SqL X.K H a ys):xs=ys:=by
 obtain⟨its,r,⟨o,n,e,_,_,d⟩,_⟩:=I.list h
 obtain⟨its',r',⟨o',n',e',_,_,d'⟩,_⟩:=I.list h'
 rw[e] at e';cases e'
 rw[d] at d'
 injection d' with d1 _
 have:its=its':=by simpa using congrArg Array.toList d1
 subst this
 exact r.inj r'
end
abbrev Cx.wish(X:Cx)(E:Value→Shared→Prop):Cx:={ X with xe:=E }
abbrev Cx.nox(X:Cx):Cx:=X.wish λ_ _=>False
theorem Cx.Ok.wish{X:Cx}(ok:X.Ok)(E:Value→Shared→Prop):(X.wish E).Ok :=
 ⟨ok.mod,ok.kind,ok.glob,ok.blt,ok.above,ok.inj,ok.has,ok.cab,ok.hd,ok.frames,ok.stk,ok.exf,ok.bs,ok.bsz,ok.noex,ok.exfs,ok.funs,ok.frf⟩
theorem Cx.Ok.unwish{X:Cx}{E:Value→Shared→Prop}(ok:(X.wish E).Ok):X.Ok :=
 ⟨ok.mod,ok.kind,ok.glob,ok.blt,ok.above,ok.inj,ok.has,ok.cab,ok.hd,ok.frames,ok.stk,ok.exf,ok.bs,ok.bsz,ok.noex,ok.exfs,ok.funs,ok.frf⟩
section
variable {X:Cx} {pins:List (Addr×Obj)} {σ:St} {H:Hp} {s:Shared} {E:Value→Shared→Prop}
theorem Inv.wish(I:Inv X pins σ H s)(E:Value→Shared→Prop):Inv (X.wish E) pins σ H s:=⟨I.ok.wish E,I.os,I.bare,I.base,I.loc,I.cell,I.free,I.freeC,I.pin,I.hok,I.len⟩
theorem Inv.unwish(I:Inv (X.wish E) pins σ H s):Inv X pins σ H s:=⟨I.ok.unwish,I.os,I.bare,I.base,I.loc,I.cell,I.free,I.freeC,I.pin,I.hok,I.len⟩
theorem SP.unwish{D:zbP}{f:Flow}{s':Shared}(h:SP (X.wish E) pins D f s'):SP X pins D f s':=by
 cases f with
 | next=>obtain⟨σ',H',I,q⟩:=h;exact⟨σ',H',I.unwish,q⟩
 | brk=>obtain⟨σ',H',I,q⟩:=h;exact⟨σ',H',I.unwish,q⟩
 | cont=>obtain⟨σ',H',I,q⟩:=h;exact⟨σ',H',I.unwish,q⟩
 | ret u=>obtain⟨v,σ',H',I,r,q⟩:=h;exact⟨v,σ',H',I.unwish,r,q⟩
theorem PSs.nox{st:List Stmt}{t:TS}(h:PSs X.nox st t):PSs X st t:=λpins s σ H D I hw =>
 wpAny_mono (h pins s σ H D (I.wish _) hw) (λ_ _ q=>q.unwish) λ_ _ z=>False.elim z
end
section
variable {X:Cx} {st:Stmt} {rest:List Stmt} {t u:TS} {e:Expr} {te:TE} {pos:Pos}
def zaV:TS:=λD σ H=>D.nx σ H
def zaK(t u:TS):TS:=λD σ H=>t { D with nx:=u D } σ H
theorem zaQ:PSs X [] zaV:=λ_ _ σ H _ I h=>wpAny_execs_nil ⟨σ,H,I,h⟩
theorem zaf(h1:PS X st t)(h2:PSs X rest u):PSs X (st::rest) (zaK t u):=by
 intro pins s σ H D I h
 refine wpAny_execs_cons (thn (h1 pins s σ H { D with nx:=u D } I h) λf s1 q=>?_)
 cases f with
 | next =>
  obtain⟨σ',H',I',q⟩:=q
  exact h2 pins s1 σ' H' D I' q
 | ret v=>exact q
 | brk=>exact q
 | cont=>exact q
theorem zam(h1:PS X st t):PSs X [st] t:=by
 intro pins s σ H D I h
 refine wpAny_execs_cons (thn (h1 pins s σ H D I h) λf s1 q=>?_)
 cases f with
 | next=>exact wpAny_execs_nil q
 | ret v=>exact q
 | brk=>exact q
 | cont=>exact q
theorem Inv.quiet{pins:List (Addr×Obj)}{σ:St}{H:Hp}{s:Shared}(I:Inv X pins σ H s):interactive X.env=false:=by simp[interactive,I.ok.kind]
def zbQ(te:TE):TS:=λD σ H=>te σ H λ_ H1=>D.nx σ H1
theorem zbJ(he:PE X e te)(hs:swapsWith e none pos.line X.env=pure false:=by rfl):PS X (.Expr e pos) (zbQ te):=by
 intro pins s σ H D I h
 exact wpAny_Expr_any (thn (he pins s σ H _ I h) λv s1 ⟨x,H1,I1,r1,q1⟩=>⟨σ,H1,I1,q1⟩) I.quiet hs
def zbb(te:TE):TS:=λD σ H=>te σ H D.rt
theorem zaD(he:PE X e te):PS X (.Return (some e) pos) (zbb te):=by
 intro pins s σ H D I h
 exact wpAny_Return_some (thn (he pins s σ H _ I h) λv s1 ⟨x,H1,I1,r1,q1⟩=>⟨x,σ,H1,I1,r1,q1⟩)
def zca(c:TT)(t u:TS):TS:=λD σ H=>c σ H λb H1=>if b=true then t D σ H1 else u D σ H1
theorem zbW{c:Expr}{a b:List Stmt}{tc:TT}(hc:PT X c tc)(ha:PSs X a t)(hb:PSs X b u):PS X (.If c a b pos) (zca tc t u):=by
 intro pins s σ H D I h
 refine wpAny_If (thn (hc pins s σ H _ I h) λd s1 hQ'=>?_)
 obtain⟨H1,I1,q1⟩:=hQ'
 cases d with
 | true=>exact ha pins s1 σ H1 D I1 q1
 | false=>exact hb pins s1 σ H1 D I1 q1
def zt1:TS:=λ_ _ _=>False
theorem ztm:PS X st zt1:=λ_ _ _ _ _ _ h=>h.elim
end
abbrev TG:=V→St→Hp→(St→Hp→Prop)→Prop
abbrev TGs:=List V→St→Hp→(St→Hp→Prop)→Prop
def PG(X:Cx)(target:Expr)(t:TG):Prop :=
 ∀(pins:List (Addr×Obj)) (s:Shared) (σ:St) (H:Hp) (v:V) (u:Value) (Q:St→Hp→Prop),Inv X pins σ H s→zdz v u→t v σ H Q →
  wpAny (model X.prog X.w) X.A (assign target X.env u) (λ_ s'=>∃σ' H',Inv X pins σ' H' s'∧Q σ' H') X.xe s
def PGs(X:Cx)(ts:List Expr)(t:TGs):Prop :=
 ∀(pins:List (Addr×Obj)) (s:Shared) (σ:St) (H:Hp) (vs:List V) (us:List Value) (Q:St→Hp→Prop),Inv X pins σ H s→zb9 vs us→t vs σ H Q →
  wpAny (model X.prog X.w) X.A (assignInOrder ((assignEach ts X.env).map (·.2)) us) (λ_ s'=>∃σ' H',Inv X pins σ' H' s'∧Q σ' H') X.xe s
abbrev TSet:=V→V→V→Hp→(Hp→Prop)→Prop
def PSet(X:Cx)(t:TSet):Prop :=
 ∀(pins:List (Addr×Obj)) (s:Shared) (σ:St) (H:Hp) (o i v:V) (ov iv u:Value) (Q:Hp→Prop),Inv X pins σ H s→zdz o ov→zdz i iv→zdz v u→t o i v H Q →
  wpAny (model X.prog X.w) X.A (setItem ov iv u) (λ_ s'=>∃H',Inv X pins σ H' s'∧Q H') X.xe s
section
variable {X:Cx} {pos:Pos}
def zag(i:Nat):TG:=λv σ H Q=>Q (σ.set i (some v)) H
theorem zao{i:Nat}{x:Str}(hN:X.N.Nodup)(hi:X.N[i]?=some x)(hx:Loc X.env.scope x)(hf:X.fn x=true∨X.env.scope.names.lookup x=some .local:=by first | exact .inl rfl | exact .inr rfl | assumption):PG X (.Name x pos) (zag i):=by
 intro pins s σ H v u Q I r h
 exact wpAny_assign_Name (zkj I hN hi hx r (λs' I'=>⟨_,H,I',h⟩) hf)
def zcR:TGs:=λvs σ H Q=>vs=[]∧Q σ H
def zax(t:TG)(u:TGs):TGs:=λvs σ H Q=>∃v r,vs=v::r∧t v σ H λσ' H'=>u r σ' H' Q
theorem zaW:PGs X [] zcR:=by
 intro pins s σ H vs us Q I r h
 obtain⟨e,h⟩:=h
 subst e
 cases r
 exact assignInOrder_nil ⟨σ,H,I,h⟩
theorem zap{e:Expr}{es:List Expr}{t:TG}{u:TGs}(h1:PG X e t)(h2:PGs X es u)
  (hs:(assignEach (e::es) X.env).map (·.2)=assign e X.env::(assignEach es X.env).map (·.2):=by rfl):PGs X (e::es) (zax t u):=by
 intro pins s σ H vs us Q I r h
 obtain⟨v,vr,e1,h⟩:=h
 subst e1
 cases r with
 | cons r rr =>
  rw[hs]
  refine assignInOrder_cons (thn (h1 pins s σ H _ _ _ I r h) λ_ s1 hQ'=>?_)
  obtain⟨σ1,H1,I1,q1⟩:=hQ'
  exact h2 pins s1 σ1 H1 _ _ Q I1 rr q1
def zcW(K:ψa)(n:Nat)(t:TGs):TG:=λv σ H Q=>∃a xs,v=.ref a∧SqT K H a xs∧xs.length=n∧t xs σ H Q
theorem zbw{es:List Expr}{k:Nat}{t:TGs}{n:Nat}(hc:X.calm=true)(h:PGs X es t)
  (hn:(assignEach es X.env).length=n:=by rfl) (hst:(assignEach es X.env).findIdx? (·.1)=none:=by rfl):PG X (.Tuple es k pos) (zcW X.K n t):=by
 intro pins s σ H v u Q I r hw
 obtain⟨a,xs,e1,hq,hl,hw⟩:=hw
 subst e1
 cases r
 obtain⟨its,rv,ht,hz⟩:=I.tuple hq
 refine assign_Tuple_tuple (I.ok.hd hc) ht (by simp[hn,← hl,rv.length]) hst λh' hx=>?_
 have I1:Inv X pins σ H { s with heap:=h' }:=I.kept (t':=s.toks) λb o e=>hx b o (ψl (Heap.lt_size e)) e
 exact h pins _ σ H xs _ Q I1 (by simpa using rv) hw
def zxG(to ti:TE)(t:TSet):TG:=λv σ H Q=>to σ H λo H1=>ti σ H1 λi H2=>t o i v H2 λH3=>Q σ H3
theorem zua{o i:Expr}{to ti:TE}{t:TSet}(ho:PE X o to)(hi:PE X i ti)(hs:PSet X t)
  (ha:∀v,assign (.Subscript o i pos) X.env v=(do
   let ov ← holding [v] (eval o X.env)
   let iv ← holding [v,ov] (eval i X.env)
   standAt pos
   holding [v,ov,iv] (setItem ov iv v)
   release [v,ov,iv] []):=by intro _;rfl):PG X (.Subscript o i pos) (zxG to ti t):=by
 intro pins s σ H v u Q I r h
 rw[ha]
 refine wpAny_bind (wpAny_holding (thn (ho pins s σ H _ I h) λov s1 hQ'=>?_))
 obtain⟨x,H1,I1,r1,q1⟩:=hQ'
 refine wpAny_bind (wpAny_holding (thn (hi pins s1 σ H1 _ I1 q1) λiv s2 hQ'=>?_))
 obtain⟨y,H2,I2,r2,q2⟩:=hQ'
 refine wpAny_bind (wpAny_standAt (wpAny_bind (wpAny_holding (thn (hs pins s2 σ H2 x y v ov iv u _ I2 r1 r2 r q2) λ_ s3 hQ'=>?_))))
 obtain⟨H3,I3,q3⟩:=hQ'
 exact wpAny_release ⟨σ,H3,I3,q3⟩
def za2(te:TE)(g:TG):TS:=λD σ H=>te σ H λx H1=>g x σ H1 D.nx
theorem zdJ{tg e:Expr}{te:TE}{g:TG}(he:PE X e te)(hg:PG X tg g)(hs:swapsWithSole [tg] e pos.line X.env=pure false:=by rfl)(hw:swappedStores [tg] e X.env=pure none:=by rfl)
  (h1:(assignEach [tg] X.env).map (·.2)=[assign tg X.env]:=by rfl):PS X (.Assign [tg] e pos) (za2 te g):=by
 intro pins s σ H D I h
 refine wpAny_Assign_stores (thn (he pins s σ H _ I h) λv s1 hQ'=>?_) hs hw
 obtain⟨x,H1,I1,r1,q1⟩:=hQ'
 rw[h1]
 exact thn (hg pins s1 σ H1 x v _ I1 r1 q1) λ_ s2 q=>q
theorem zaL{i:Nat}{x:Str}{e:Expr}{te:TE}{pos':Pos}(hN:X.N.Nodup)(hi:X.N[i]?=some x)(hx:Loc X.env.scope x)(he:PE X e te)(hs:swapsWith e (some (.Name x pos')) pos.line X.env=pure false:=by rfl)(hf:X.fn x=true∨X.env.scope.names.lookup x=some .local:=by first | exact .inl rfl | exact .inr rfl | assumption) :
  PS X (.Assign [.Name x pos'] e pos) (za2 te (zag i)):=by
 intro pins s σ H D I h
 refine wpAny_Assign_Name (thn (he pins s σ H _ I h) λv s1 hQ'=>?_) hs
 obtain⟨y,H1,I1,r1,q1⟩:=hQ'
 exact zkj I1 hN hi hx r1 (λs2 I2=>⟨_,H1,I2,q1⟩) hf
end
section
variable {X:Cx} {pos:Pos}
def znE(c:TT)(tb:TS):TS:=λD σ H=>∃W:Nat→St→Hp→Prop,(∃m,W m σ H)∧∀m σ H,W m σ H →
 c σ H λb H1=>if b=true then ∃N:St→Hp→Prop,(∀σ' H',N σ' H'→∃m',m'<m∧W m' σ' H')∧tb { D with nx:=N,ct:=N,bk:=D.nx } σ H1 else D.nx σ H1
theorem znT{c:Expr}{body:List Stmt}{tc:TT}{tb:TS}(hp:PassesOwn (model X.prog X.w) X.A X.env X.xe)(hc:PT X c tc)(hb:PSs X body tb):PS X (.While c body [] pos) (znE tc tb):=by
 intro pins s σ H D I h
 obtain⟨W,⟨m0,w0⟩,zoE⟩:=h
 refine wpAny_While (codeAny_whileLoop (λn s'=>∃σ' H',Inv X pins σ' H' s'∧W n σ' H') ?_ m0 ⟨σ,H,I,w0⟩)
 rintro n s1 ⟨σ1,H1,I1,w1⟩
 refine wpAny_passesOwn hp (thn (hc pins s1 σ1 H1 _ I1 (zoE n σ1 H1 w1)) λb s2 hQ'=>?_)
 obtain⟨H2,I2,q2⟩:=hQ'
 cases b with
 | true =>
  obtain⟨N,hN,q2⟩:=q2
  rw[if_pos rfl]
  refine wpAny_passesOwn hp (thn (hb pins s2 σ1 H2 _ I2 q2) λf s3 q3=>?_)
  cases f with
  | next =>
   obtain⟨σ3,H3,I3,n3⟩:=q3
   obtain⟨m',hm,w3⟩:=hN σ3 H3 n3
   exact⟨m',hm,σ3,H3,I3,w3⟩
  | cont =>
   obtain⟨σ3,H3,I3,n3⟩:=q3
   obtain⟨m',hm,w3⟩:=hN σ3 H3 n3
   exact⟨m',hm,σ3,H3,I3,w3⟩
  | brk=>exact q3
  | ret v=>exact q3
 | false =>
  rw[if_neg ψv]
  exact wpAny_execs_nil ⟨σ1,H2,I2,q2⟩
end
structure It where
 go:Nat→Hp→Prop
 yld:Nat→Hp→V→Hp→Prop
 stop:Nat→Hp→Prop
def zlg(X:Cx)(pins:List (Addr×Obj))(H:Hp)(b:Addr):Prop :=
 H b=none∧b≠X.env.locals∧b∉X.fs∧(b∈X.ex∨X.s₀.heap.objs.size≤b)∧(∀x c,X.env.cells.lookup x=some c→c≠b)∧∀p∈X.pn++pins,p.1≠b
theorem Inv.fpOk{X:Cx}{pins:List (Addr×Obj)}{σ:St}{H H':Hp}{s:Shared}{b:Addr}(I:Inv X pins σ H s)(hb:s.heap.objs.size≤b)(hn:H' b=none):zlg X pins H' b:=by
 refine⟨hn,ψs1 (ψi I.lt hb),I.nofs hb,.inr (ψF I.sz hb),λx c e z=>?_,λp hp z=>?_⟩
 ·obtain⟨v,q⟩:=I.cell x c e
  exact absurd (ψi q.lt (by rw[z];exact hb)) (ψf1 _)
 ·exact absurd (ψi (Heap.lt_size (I.pin p hp).1) (by rw[z];exact hb)) (ψf1 _)
structure zyL (P:Program) (w:World) (K:ψa) (tg:Expr) (J:It) (fp:List Addr) (it:Addr) (tn:Nat→Heap→Prop):Prop where
 mem:it∈fp
 obj:∀i h,tn i h→∀b∈fp,∃o,h.get? b=some o∧∀v,o.data≠.cell v
 keep:∀i h h',tn i h→(∀b∈fp,∀o,h.get? b=some o→h'.get? b=some o)→tn i h'
 item:∀(X:Cx),X.prog=P→X.w=w→X.K=K→X.calm=true→∀(i:Nat) (pins:List (Addr×Obj)) (s:Shared) (σ:St) (H:Hp) (E:Value→Shared→Prop),Inv X pins σ H s→(∀b∈fp,zlg X pins H b)→tn i s.heap→J.go i H →
  wpAny (model P w) X.A (pyNext (.ref it)) (λr s1=>∃u,r=some u ∧
   wpAny (model P w) X.A (letOwnedTupleGo tg (.ref it) u) (λ_ s2=>∃x H',Inv X pins σ H' s2∧zdz x u∧J.yld i H x H'∧tn (i+1) s2.heap∧∀b∈fp,H' b=none) E s1) E s
 done:∀(X:Cx),X.prog=P→X.w=w→X.K=K→X.calm=true→∀(i:Nat) (pins:List (Addr×Obj)) (s:Shared) (σ:St) (H:Hp) (E:Value→Shared→Prop),Inv X pins σ H s→(∀b∈fp,zlg X pins H b)→tn i s.heap→J.stop i H →
  wpAny (model P w) X.A (pyNext (.ref it)) (λr s1=>r=none∧Inv X pins σ H s1) E s
 self:∀(A:Around) (i:Nat) (s:Shared) (Q:Value→Shared→Prop) (E:Value→Shared→Prop),tn i s.heap→Q (.ref it) s→wpAny (model P w) A (pyIter (.ref it)) Q E s
abbrev TI:=St→Hp→(It→Hp→Prop)→Prop
def PIE(X:Cx)(pins:List (Addr×Obj))(σ:St)(tg:Expr)(R:It→Hp→Prop)(itv:Value)(s2:Shared):Prop :=
 ∃(it:Addr) (fp:List Addr) (tn:Nat→Heap→Prop) (J:It) (H':Hp),itv=.ref it∧Inv X pins σ H' s2∧zyL X.prog X.w X.K tg J fp it tn∧tn 0 s2.heap∧(∀b∈fp,zlg X pins H' b)∧R J H'
def PI(X:Cx)(tg iter:Expr)(wi:TI):Prop :=
 ∀(pins:List (Addr×Obj)) (s:Shared) (σ:St) (H:Hp) (R:It→Hp→Prop),Inv X pins σ H s→wi σ H R →
  wpAny (model X.prog X.w) X.A (eval iter X.env) (λv s1=>wpAny (model X.prog X.w) X.A (pyIter v) (PIE X pins σ tg R) X.xe s1) X.xe s
theorem zx0{M:Model}{A:Around}{E:Value→Shared→Prop}{s:Shared}{tg:Expr}{it:Addr}{u:Value}{o:Obj}{n:String}{vs:Array Value}{Q:Unit→Shared→Prop}(ho:s.heap.get? it=some o)(hc:o.cls=.type n)(hd:o.data=.fields vs)
  (hn:["enumerate","zip","dict_itemiterator","dict_reverseitemiterator","odict_iterator","itertools.zip_longest","itertools.pairwise"].contains n=false) (hQ:Q () s):wpAny M A (letOwnedTupleGo tg (.ref it) u) Q E s:=by
 unfold letOwnedTupleGo
 cases tg <;> first
  | exact wpAny_pure hQ
  | (cases u <;> first
    | exact wpAny_pure hQ
    | (refine wpAny_bind (wpAny_load ho ?_)
       rw[hc,hd]
       show wpAny M A (if (["enumerate","zip","dict_itemiterator","dict_reverseitemiterator","odict_iterator","itertools.zip_longest","itertools.pairwise"].contains n&&vs[0]? == some (rawInt _))=true then _ else _) Q E s
       rw[if_neg (by intro h;rw[hn,Bool.false_and] at h;cases h)]
       exact wpAny_pure hQ))
def Itl(K:ψa)(a:Addr):It :=
 ⟨λi H=>∃xs x,SqL K H a xs∧xs[i]?=some x,λi H x H'=>H'=H∧∀xs,SqL K H a xs→xs[i]?=some x,λi H=>∃xs,SqL K H a xs∧xs.length≤i⟩
def Itr(lo:Int)(n:Nat):It:=⟨λi _=>i<n,λi H x H'=>H'=H∧x=.int (lo+i),λi _=>n≤i⟩
theorem zqx{P:Program}{w:World}{K:ψa}{tg:Expr}(a it:Addr):zyL P w K tg (Itl K a) [it] it (λi h=>h.IsListIter it a i) where
 mem:=by simp
 obj:=λi h st b hb=>by
  have e:b=it:=by simpa using hb
  subst e
  obtain⟨o,e,c,d⟩:=st
  exact⟨o,e,λv z=>by rw[d] at z;cases z⟩
 keep:=λi h h' st k=>st.at λo e=>k it (by simp) o e
 item:=by
  intro X hP hw hK hc i pins s σ H E I hf st hg
  subst hP hw hK
  obtain⟨xs,x,hq,hx⟩:=hg
  obtain⟨its,rv,p,hz⟩:=I.list hq
  obtain⟨u,hu,ru⟩:=rv.get hx
  obtain⟨f0,f1,f2,f3,f4,f5⟩:=hf it (by simp)
  refine wpAny_pyNext_list_item st p.isList (x:=u) (by simpa using hu) λh' st' sb=>?_
  have I1:Inv X pins σ H { s with heap:=h' }:=I.turned (t':=s.toks) (λb o hb e=>(sb.2 b hb).trans e) f0 f1 f3 f4 f5
  obtain⟨o,e,c,d⟩:=id st'
  exact⟨u,rfl,zx0 (s:={ s with heap:=h' }) e c d (by decide) ⟨x,H,I1,ru,⟨rfl,λys hy=>by rw[I.list_inj hy hq];exact hx⟩,st',λb hb=>(hf b hb).1⟩⟩
 done:=by
  intro X hP hw hK hc i pins s σ H E I hf st hg
  subst hP hw hK
  obtain⟨xs,hq,hx⟩:=hg
  obtain⟨its,rv,p,hz⟩:=I.list hq
  obtain⟨f0,f1,f2,f3,f4,f5⟩:=hf it (by simp)
  have hl:=rv.length
  exact wpAny_pyNext_list_end (I.ok.hd hc) st p.isList (by simp;(first|lia|omega)) λh' eb=>⟨rfl,I.turned (t':=s.toks) (λb o hb e=>eb b o hb e) f0 f1 f3 f4 f5⟩
 self:=λ_ _ _ _ _ st h=>wpAny_pyIter_listiter st h
theorem zoO{P:Program}{w:World}{K:ψa}{tg:Expr}(it:Addr)(lo:Int)(n:Nat):zyL P w K tg (Itr lo n) [it] it (λi h=>IsRangeIter h it (lo+(i:Nat)*1) ((n:Int) - (i:Nat)) 1) where
 mem:=by simp
 obj:=λi h st b hb=>by
  have e:b=it:=by simpa using hb
  subst e
  exact⟨_,st,λv z=>by
   have z':Data.fields _=Data.cell v:=z
   cases z'⟩
 keep:=λi h h' st k=>k it (by simp) _ st
 item:=by
  intro X hP hw hK hc i pins s σ H E I hf st hg
  subst hP hw hK
  obtain⟨f0,f1,f2,f3,f4,f5⟩:=hf it (by simp)
  have W:=Walks.range (prog:=X.prog) (w:=X.w) (I.ok.hd hc) it lo 1 n
  refine W.item i s _ _ hg st λv h' tk hv st' kk=>?_
  obtain⟨t,rfl⟩:=hv
  have I1:Inv X pins σ H { s with heap:=h',toks:=tk }:=I.turned (λb o hb e=>kk b o (by simpa using hb) e) f0 f1 f3 f4 f5
  refine⟨_,rfl,zx0 (s:={ s with heap:=h',toks:=tk }) (n:="range_iterator") st' rfl rfl (by decide) ⟨.int (lo+i),H,I1,⟨t,?_⟩,⟨rfl,rfl⟩,st',λb hb=>(hf b hb).1⟩⟩
  rw[Int.mul_one]
 done:=by
  intro X hP hw hK hc i pins s σ H E I hf st hg
  subst hP hw hK
  obtain⟨f0,f1,f2,f3,f4,f5⟩:=hf it (by simp)
  exact wpAny_pyNext_range_end (I.ok.hd hc) st (by have:n≤i:=hg;(first|lia|omega)) λh' eb=>⟨rfl,I.turned (t':=s.toks) (λb o hb e=>eb b o hb e) f0 f1 f3 f4 f5⟩
 self:=λ_ _ _ _ _ st h=>wpAny_pyIter_rangeiter st h
end L2
namespace L2
open PySem PySem.Spec PyProof.Rows
section
variable {X:Cx} {tg:Expr}
def zcX(K:ψa)(tl:TE):TI:=λσ H R=>tl σ H λx H1=>∃a,x=.ref a∧(∃xs,SqL K H1 a xs)∧R (Itl K a) H1
theorem zbU{l:Expr}{tl:TE}(hl:PE X l tl):PI X tg l (zcX X.K tl):=by
 intro pins s σ H R I h
 refine thn (hl pins s σ H _ I h) λv s1 hQ'=>?_
 obtain⟨x,H1,I1,r1,q1⟩:=hQ'
 obtain⟨a,e,⟨xs,hq⟩,q⟩:=q1
 subst e
 cases r1
 obtain⟨its,rv,p,hz⟩:=I1.list hq
 refine wpAny_pyIter_list p.isList ?_
 refine⟨s1.heap.objs.size,[s1.heap.objs.size],_,_,H1,rfl,I1.kept (t':=s1.toks) λb o e=>Heap.get?_push_of_some _ e,zqx a _,⟨_,Heap.get?_push_size _ rfl,rfl,rfl⟩,λb hb=>?_,q⟩
 have e:b=s1.heap.objs.size:=by simpa using hb
 subst e
 exact I1.fpOk (ψh _) (I1.hok.fresh (ψh _))
theorem zrY{pins:List (Addr×Obj)}{σ:St}{H:Hp}{s:Shared}{R:It→Hp→Prop}{E:Value→Shared→Prop}{lo hi:Int}{t u v:Tok}{tk:Nat}(I:Inv X pins σ H s)(h1:-(2 ^ 62)≤lo)(h2:lo<2 ^ 62)(h3:-(2 ^ 62)≤hi)(h4:hi<2 ^ 62)
  (q:R (Itr lo (hi - lo).toNat) H):wpAny (model X.prog X.w) X.A (pyIter (.ref s.heap.objs.size)) (PIE X pins σ tg R) E { s with heap:=s.heap.push { cls:=.type "range",data:=.fields #[.int lo t,.int hi u,.int 1 v] },toks:=tk }:=by
 refine wpAny_pyIter_range (IsRange.new ..) (small_one h1 h2 h3 h4) ?_
 have I1:Inv X pins σ H { s with heap:=s.heap.push { cls:=.type "range",data:=.fields #[.int lo t,.int hi u,.int 1 v] },toks:=tk }:=I.kept λb o e=>Heap.get?_push_of_some _ e
 refine⟨(s.heap.push { cls:=.type "range",data:=.fields #[.int lo t,.int hi u,.int 1 v] }).objs.size,[(s.heap.push { cls:=.type "range",data:=.fields #[.int lo t,.int hi u,.int 1 v] }).objs.size],_,_,H,rfl,
  I1.kept (t':=tk) λb o e=>Heap.get?_push_of_some _ e,zoO _ lo (hi - lo).toNat,?_,λb hb=>?_,q⟩
 ·have e1:lo+((0:Nat):Int)*1=lo:=by simp
  have e2:(((hi - lo).toNat:Nat):Int) - ((0:Nat):Int)=Builtin.Range.rangeSize lo hi 1:=by rw[rangeSize_one];split <;> (first|lia|omega)
  show IsRangeIter _ _ (lo+((0:Nat):Int)*1) ((((hi - lo).toNat:Nat):Int) - ((0:Nat):Int)) 1
  rw[e1,e2]
  exact Heap.get?_push_size _ rfl
 ·have e:b=(s.heap.push { cls:=.type "range",data:=.fields #[.int lo t,.int hi u,.int 1 v] }).objs.size:=by simpa using hb
  subst e
  exact I1.fpOk (ψh _) (I1.hok.fresh (ψh _))
def zg4(ta:TA):TI:=λσ H R=>ta σ H λvs H1=>∃j:Int,vs=[.int j]∧-(2 ^ 62)≤j∧j<2 ^ 62∧R (Itr 0 j.toNat) H1
theorem zd1{a:Expr}{ta:TA}{p pos:Pos}(hg:Gl X "range")(hm:X.mg "range"=none)(ha:PA X [a] ta)(hs:starEach [a] X.env=[(false,eval a X.env)]:=by rfl):PI X tg (.Call (.Name "range" p) [a] [] pos) (zg4 ta):=by
 intro pins s σ H R I h
 refine Call_ (zhH I hg hm boot_range (ψh1 (thn (ha pos pins s σ H _ I h) λus s1 hQ'=>?_) hs rfl))
 obtain⟨vs,H1,I1,r1,q1⟩:=hQ'
 obtain⟨j,e,q1,q2,q⟩:=q1
 subst e
 cases r1 with
 | cons r rr =>
  cases rr
  obtain⟨t,rfl⟩:=r
  exact call_range_1 (zrY I1 (by (first|lia|omega)) (by (first|lia|omega)) q1 q2 (by simpa using q))
def zjy(wi:TI)(g:TG)(tb:TS):TS:=λD σ H=>wi σ H λJ H1=>∃W:Nat→Nat→St→Hp→Prop,(∃m,W 0 m σ H1)∧∀i m σ H,W i m σ H →
 (J.stop i H∧D.nx σ H)∨(J.go i H∧∃N:St→Hp→Prop,(∀σ' H',N σ' H'→∃m',m'<m∧W (i+1) m' σ' H')∧∀x H',J.yld i H x H'→g x σ H' λσ2 H2=>tb { D with nx:=N,ct:=N,bk:=D.nx } σ2 H2)
def zj6(fp:List Addr)(h:Heap):List (Addr×Obj):=fp.filterMap λb=>(h.get? b).map λo=>(b,o)
theorem zdX{fp:List Addr}{h:Heap}{b:Addr}{o:Obj}(hb:b∈fp)(e:h.get? b=some o):(b,o)∈zj6 fp h:=List.mem_filterMap.mpr ⟨b,hb,by rw[e];rfl⟩
theorem zqE{fp:List Addr}{h:Heap}{p:Addr×Obj}(hp:p∈zj6 fp h):p.1∈fp∧h.get? p.1=some p.2:=by
 obtain⟨b,hb,e⟩:=List.mem_filterMap.mp hp
 cases q:h.get? b with
 | none=>rw[q] at e;cases e
 | some o =>
  rw[q] at e
  have e':(b,o)=p:=Option.some.inj e
  subst e'
  exact⟨hb,q⟩
theorem Inv.pinned{pins:List (Addr×Obj)}{σ:St}{H:Hp}{s:Shared}{fp:List Addr}(I:Inv X pins σ H s)(hf:∀b∈fp,zlg X pins H b)(ho:∀b∈fp,∃o,s.heap.get? b=some o∧∀v,o.data≠.cell v):Inv X (pins++zj6 fp s.heap) σ H s :=
 I.pins_of λp hp=>(List.mem_append.mp hp).elim (λz=>I.pin p (ψq _ z)) λz=>by
  obtain⟨hb,e⟩:=zqE z
  obtain⟨f0,f1,f2,_⟩:=hf p.1 hb
  obtain⟨o,e',d⟩:=ho p.1 hb
  rw[e] at e';cases e'
  exact⟨e,f0,f1,f2,d⟩
theorem Inv.unpinned{pins pl:List (Addr×Obj)}{σ:St}{H:Hp}{s:Shared}(I:Inv X (pins++pl) σ H s):Inv X pins σ H s:=I.pins_of λp hp=>I.pin p (ψq _ (ψl1 _ hp))
theorem zeq{iter:Expr}{body:List Stmt}{wi:TI}{g:TG}{tb:TS}{pos:Pos}(hp:PassesOwn (model X.prog X.w) X.A X.env X.xe)(hc:X.calm=true)(hi:PI X tg iter wi)(hg:PG X tg g)(hb:PSs X body tb)
  (hs:∀x,foldedSetIterable iter X.env x=pure x:=by intro _;rfl):PS X (.For tg iter body [] pos) (zjy wi g tb):=by
 intro pins s σ H D I h
 refine wpAny_For (thn (hi pins s σ H _ I h) λv s1 h1=>thn h1 λitv s2 h2=>?_) hs
 obtain⟨it,fp,tn,J,H2,e,I2,T,st2,f2,W,⟨m0,w0⟩,zoE⟩:=h2
 subst e
 have stat:∀{H':Hp},(∀b∈fp,H' b=none)→∀b∈fp,zlg X pins H' b:=λhn b hb=>⟨hn b hb,(f2 b hb).2⟩
 refine codeAny_forLoop_any (λn s'=>∃i σ' H',Inv X pins σ' H' s'∧tn i s'.heap∧(∀b∈fp,H' b=none)∧W i n σ' H') ?_ m0 ⟨0,σ,H2,I2,st2,λb hb=>(f2 b hb).1,w0⟩
 rintro n s3 ⟨i,σ3,H3,I3,st3,fr3,w3⟩
 rcases zoE i n σ3 H3 w3 with ⟨stop,qn⟩ | ⟨go,N,hN,step⟩
 ·refine wpAny_passesOwn hp (thn (T.done X rfl rfl rfl hc i pins s3 σ3 H3 X.xe I3 (stat fr3) st3 stop) λr s4 hQ'=>?_)
  obtain⟨hr,I4⟩:=hQ'
  subst hr
  exact wpAny_execs_nil ⟨σ3,H3,I4,qn⟩
 ·refine wpAny_passesOwn hp (thn (T.item X rfl rfl rfl hc i pins s3 σ3 H3 X.xe I3 (stat fr3) st3 go) λr s4 hQ'=>?_)
  obtain⟨u,hr,h4⟩:=hQ'
  subst hr
  refine wpAny_passesOwn hp (thn h4 λ_ s5 hQ'=>?_)
  obtain⟨x,H5,I5,r5,y5,st5,fr5⟩:=hQ'
  have I5':=I5.pinned (stat fr5) (T.obj _ _ st5)
  refine wpAny_passesOwn hp (thn (hg _ s5 σ3 H5 x u _ I5' r5 (step x H5 y5)) λ_ s6 hQ'=>?_)
  obtain⟨σ6,H6,I6,q6⟩:=hQ'
  refine wpAny_passesOwn hp (thn (hb _ s6 σ6 H6 _ I6 q6) λf s7 q7=>?_)
  have again:∀{σ7:St} {H7:Hp},Inv X (pins++zj6 fp s5.heap) σ7 H7 s7→N σ7 H7→∃m,m<n∧∃i σ' H',Inv X pins σ' H' s7∧tn i s7.heap∧(∀b∈fp,H' b=none)∧W i m σ' H':=fun {σ7 H7} I7 n7=>by
   obtain⟨m',hm,w7⟩:=hN σ7 H7 n7
   refine⟨m',hm,i+1,σ7,H7,I7.unpinned,T.keep _ _ _ st5 λb hb o e=>(I7.pin (b,o) (ψq _ (ψq _ (zdX hb e)))).1,λb hb=>?_,w7⟩
   obtain⟨o,e,d⟩:=T.obj _ _ st5 b hb
   exact(I7.pin (b,o) (ψq _ (ψq _ (zdX hb e)))).2.1
  cases f with
  | next=>obtain⟨σ7,H7,I7,n7⟩:=q7;exact again I7 n7
  | cont=>obtain⟨σ7,H7,I7,n7⟩:=q7;exact again I7 n7
  | brk=>obtain⟨σ7,H7,I7,q7⟩:=q7;exact⟨σ7,H7,I7.unpinned,q7⟩
  | ret v=>obtain⟨x7,σ7,H7,I7,r7,q7⟩:=q7;exact⟨x7,σ7,H7,I7.unpinned,r7,q7⟩
end
theorem zrE{K:ψa}{a:Addr}{xs:List V}{g:TG}{tb:TS}{D:zbP}{σ:St}{H:Hp}(Pv:Nat→St→Hp→Prop)(h0:Pv 0 σ H)(hl:∀i σ H,i≤xs.length→Pv i σ H→SqL K H a xs)
  (hs:∀i x σ H,xs[i]?=some x→Pv i σ H→g x σ H λσ2 H2=>tb { D with nx:=Pv (i+1),ct:=Pv (i+1),bk:=D.nx } σ2 H2) (hd:∀σ H,Pv xs.length σ H→D.nx σ H) :
  ∃W:Nat→Nat→St→Hp→Prop,(∃m,W 0 m σ H)∧∀i m σ H,W i m σ H →
   ((Itl K a).stop i H∧D.nx σ H)∨((Itl K a).go i H∧∃N:St→Hp→Prop,(∀σ' H',N σ' H'→∃m',m'<m∧W (i+1) m' σ' H')∧∀x H',(Itl K a).yld i H x H'→g x σ H' λσ2 H2=>tb { D with nx:=N,ct:=N,bk:=D.nx } σ2 H2):=by
 refine⟨λi m σ H=>m=xs.length - i∧i≤xs.length∧Pv i σ H,⟨xs.length,by simp,ψr1 _,h0⟩,?_⟩
 rintro i m σ H ⟨rfl,hi,p⟩
 have q:=hl i σ H hi p
 by_cases hlt:i<xs.length
 ·refine .inr ⟨⟨xs,xs[i],q,by simp[hlt]⟩,Pv (i+1),λσ' H' p'=>⟨xs.length - (i+1),by (first|lia|omega),rfl,hlt,p'⟩,λx H' y=>?_⟩
  obtain⟨e,y⟩:=y
  subst e
  exact hs i x σ _ (y xs q) p
 ·have e:i=xs.length:=by (first|lia|omega)
  subst e
  exact .inl ⟨⟨xs,q,ψh _⟩,hd σ H p⟩
theorem zpQ{lo:Int}{n:Nat}{g:TG}{tb:TS}{D:zbP}{σ:St}{H:Hp}(Pv:Nat→St→Hp→Prop)(h0:Pv 0 σ H)
  (hs:∀i σ H,i<n→Pv i σ H→g (.int (lo+i)) σ H λσ2 H2=>tb { D with nx:=Pv (i+1),ct:=Pv (i+1),bk:=D.nx } σ2 H2) (hd:∀σ H,Pv n σ H→D.nx σ H) :
  ∃W:Nat→Nat→St→Hp→Prop,(∃m,W 0 m σ H)∧∀i m σ H,W i m σ H →
   ((Itr lo n).stop i H∧D.nx σ H)∨((Itr lo n).go i H∧∃N:St→Hp→Prop,(∀σ' H',N σ' H'→∃m',m'<m∧W (i+1) m' σ' H')∧∀x H',(Itr lo n).yld i H x H'→g x σ H' λσ2 H2=>tb { D with nx:=N,ct:=N,bk:=D.nx } σ2 H2):=by
 refine⟨λi m σ H=>m=n - i∧i≤n∧Pv i σ H,⟨n,by simp,ψr1 _,h0⟩,?_⟩
 rintro i m σ H ⟨rfl,hi,p⟩
 by_cases hlt:i<n
 ·refine .inr ⟨hlt,Pv (i+1),λσ' H' p'=>⟨n - (i+1),by (first|lia|omega),rfl,hlt,p'⟩,λx H' y=>?_⟩
  obtain⟨e,y⟩:=y
  subst e y
  exact hs i σ _ hlt p
 ·have e:i=n:=by (first|lia|omega)
  subst e
  exact .inl ⟨ψh _,hd σ H p⟩
theorem znG{c:TT}{tb:TS}{D:zbP}{σ:St}{H:Hp}(Pv:St→Hp→Prop)(μ:St→Hp→Nat)(h0:Pv σ H)
  (hs:∀σ H,Pv σ H→c σ H λb H1=>if b=true then tb { D with nx:=λσ' H'=>Pv σ' H'∧μ σ' H'<μ σ H,ct:=λσ' H'=>Pv σ' H'∧μ σ' H'<μ σ H,bk:=D.nx } σ H1 else D.nx σ H1)
  (mono:∀σ H Q Q',(∀b H1,Q b H1→Q' b H1)→c σ H Q→c σ H Q'):znE c tb D σ H:=by
 refine⟨λm σ H=>m=μ σ H∧Pv σ H,⟨_,rfl,h0⟩,?_⟩
 rintro m σ H ⟨rfl,p⟩
 refine mono σ H _ _ (λb H1 q=>?_) (hs σ H p)
 cases b with
 | true=>exact⟨_,λσ' H' ⟨p',l⟩=>⟨_,l,rfl,p'⟩,q⟩
 | false=>exact q
end L2
namespace L2
open PySem PySem.Spec PyProof.Rows
abbrev R2:=V→V→Hp→VK→Prop
def OpR(X:Cx)(f:Value→Value→Sem Value)(r:R2):Prop :=
 ∀(pins:List (Addr×Obj)) (s:Shared) (σ:St) (H:Hp) (x y:V) (v u:Value) (Q:VK),Inv X pins σ H s→zdz x v→zdz y u→r x y H Q →
  wpAny (model X.prog X.w) X.A (f v u) (EP X pins σ Q) X.xe s
def UnR(X:Cx)(f:Value→Sem Value)(r:V→Hp→VK→Prop):Prop :=
 ∀(pins:List (Addr×Obj)) (s:Shared) (σ:St) (H:Hp) (x:V) (v:Value) (Q:VK),Inv X pins σ H s→zdz x v→r x H Q →
  wpAny (model X.prog X.w) X.A (f v) (EP X pins σ Q) X.xe s
def zh7(X:Cx)(f:Value)(r:List V→Hp→VK→Prop):Prop :=
 ∀(pins:List (Addr×Obj)) (s:Shared) (σ:St) (H:Hp) (xs:List V) (us:List Value) (Q:VK),Inv X pins σ H s→zb9 xs us→r xs H Q →
  wpAny (model X.prog X.w) X.A (call f us) (EP X pins σ Q) X.xe s
def TruR(X:Cx)(r:V→Hp→(Bool→Hp→Prop)→Prop):Prop :=
 ∀(pins:List (Addr×Obj)) (s:Shared) (σ:St) (H:Hp) (x:V) (v:Value) (Q:Bool→Hp→Prop),Inv X pins σ H s→zdz x v→r x H Q →
  wpAny (model X.prog X.w) X.A (truthy v) (TP X pins σ Q) X.xe s
def tOp(r:R2)(ta tb:TE):TE:=λσ H Q=>ta σ H λx H1=>tb σ H1 λy H2=>r x y H2 Q
def tUn(r:V→Hp→VK→Prop)(ta:TE):TE:=λσ H Q=>ta σ H λx H1=>r x H1 Q
def rI(C:Int→Int→Prop)(g:Int→Int→V):R2:=λx y H Q=>∃i j,x=.int i∧y=.int j∧C i j∧Q (g i j) H
def rI0(g:Int→Int→V):R2:=λx y H Q=>∃i j,x=.int i∧y=.int j∧Q (g i j) H
def rU(g:Int→V):V→Hp→VK→Prop:=λx H Q=>∃i,x=.int i∧Q (g i) H
section
variable {X:Cx} {a b c:Expr} {ta tb tc:TE} {pos:Pos}
theorem binT(ha:PE X a ta)(hb:PE X b tb){pins:List (Addr×Obj)}{s:Shared}{σ:St}{H:Hp}{R:V→V→Hp→Prop}(I:Inv X pins σ H s)
  (h:ta σ H λx H1=>tb σ H1 λy H2=>R x y H2) {Q:Value→Shared→Prop} {f:Value→Value→Sem Value}
  (hf:∀v u s2 x y H2,Inv X pins σ H2 s2→zdz x v→zdz y u→R x y H2→wpAny (model X.prog X.w) X.A (f v u) Q X.xe s2) :
  wpAny (model X.prog X.w) X.A (eval a X.env) (λv s₁=>wpAny (model X.prog X.w) X.A (eval b X.env) (λu s₂=>wpAny (model X.prog X.w) X.A (f v u) Q X.xe s₂) X.xe s₁) X.xe s:=by
 refine thn (ha pins s σ H _ I h) λv s1 hQ'=>?_
 obtain⟨x,H1,I1,r1,q1⟩:=hQ'
 refine thn (hb pins s1 σ H1 _ I1 q1) λu s2 hQ'=>?_
 obtain⟨y,H2,I2,r2,q2⟩:=hQ'
 exact hf v u s2 x y H2 I2 r1 r2 q2
theorem zaB{op:Operator}{r:R2}(ho:OpR X (binaryOp op) r)(ha:PE X a ta)(hb:PE X b tb):PE X (.BinOp a op b pos) (tOp r ta tb):=by
 intro pins s σ H Q I h
 exact wpAny_BinOp (binT ha hb I h λv u s2 x y H2 I2 rx ry q=>ho pins s2 σ H2 x y v u Q I2 rx ry q)
theorem zsd{op:UnaryOp}{r:V→Hp→VK→Prop}(ho:UnR X (unaryOp op) r)(ha:PE X a ta):PE X (.UnaryOp op a pos) (tUn r ta):=by
 intro pins s σ H Q I h
 exact UnaryOp_ (thn (ha pins s σ H _ I h) λv s1 ⟨x,H1,I1,r1,q1⟩=>ho pins s1 σ H1 x v Q I1 r1 q1)
theorem opI{f:Value→Value→Sem Value}{C:Int→Int→Prop}{g:Int→Int→Int}
  (rule:∀(i j:Int) (t u:Tok) (s:Shared) (Q:Value→Shared→Prop) (E:Value→Shared→Prop),C i j→Q (.int (g i j) s.toks) { s with toks:=s.toks+1 }→wpAny (model X.prog X.w) X.A (f (.int i t) (.int j u)) Q E s) :
  OpR X f (rI C λi j=>.int (g i j)):=by
 intro pins s σ H x y v u Q I rx ry h
 obtain⟨i,j,rfl,rfl,hc,q⟩:=h
 obtain⟨t,rfl⟩:=rx
 obtain⟨t',rfl⟩:=ry
 exact rule i j t t' s _ _ hc ⟨.int (g i j),H,I.tok _,⟨_,rfl⟩,q⟩
theorem opI0{f:Value→Value→Sem Value}{g:Int→Int→Int}
  (rule:∀(i j:Int) (t u:Tok) (s:Shared) (Q:Value→Shared→Prop) (E:Value→Shared→Prop),Q (.int (g i j) s.toks) { s with toks:=s.toks+1 }→wpAny (model X.prog X.w) X.A (f (.int i t) (.int j u)) Q E s) :
  OpR X f (rI0 λi j=>.int (g i j)):=by
 intro pins s σ H x y v u Q I rx ry h
 obtain⟨i,j,rfl,rfl,q⟩:=h
 obtain⟨t,rfl⟩:=rx
 obtain⟨t',rfl⟩:=ry
 exact rule i j t t' s _ _ ⟨.int (g i j),H,I.tok _,⟨_,rfl⟩,q⟩
theorem opB0{f:Value→Value→Sem Value}{g:Int→Int→Bool}
  (rule:∀(i j:Int) (t u:Tok) (s:Shared) (Q:Value→Shared→Prop) (E:Value→Shared→Prop),Q (.bool (g i j)) s→wpAny (model X.prog X.w) X.A (f (.int i t) (.int j u)) Q E s) :
  OpR X f (rI0 λi j=>.bl (g i j)):=by
 intro pins s σ H x y v u Q I rx ry h
 obtain⟨i,j,rfl,rfl,q⟩:=h
 obtain⟨t,rfl⟩:=rx
 obtain⟨t',rfl⟩:=ry
 exact rule i j t t' s _ _ ⟨.bl (g i j),H,I,rfl,q⟩
def zvQ(i j:Int):Prop:=0≤j∧j≤1000000∧i.natAbs<2 ^ 64
theorem zcT:OpR X (binaryOp .Add) (rI0 λi j=>.int (i+j)):=opI0 λ_ _ _ _ _ _ _ q=>add_int q
theorem zd7:OpR X (binaryOp .Sub) (rI0 λi j=>.int (i - j)):=opI0 λ_ _ _ _ _ _ _ q=>sub_int q
theorem zre:OpR X (binaryOp .Mod) (rI (λ_ j=>0<j) λi j=>.int (i % j)):=opI λi j _ _ _ _ _ hc q=>by
 have h1:(0:Int)<j:=hc
 exact mod_int' (by (first|lia|omega)) (by rw[ψj1 i (by (first|lia|omega))];exact q)
theorem zuT:OpR X (binaryOp .Mod) (rI (λ_ j=>j≠0) λi j=>.int (i.fmod j)):=opI λ_ _ _ _ _ _ _ hc q=>mod_int' hc q
theorem zqp:OpR X (binaryOp .Pow) (rI zvQ λi j=>.int (i ^ j.toNat)):=opI λ_ _ _ _ _ _ _ hc q=>pow_int_small hc.1 hc.2.1 hc.2.2 q
theorem unI{f:Value→Sem Value}{g:Int→Int}
  (rule:∀(i:Int) (t:Tok) (s:Shared) (Q:Value→Shared→Prop) (E:Value→Shared→Prop),Q (.int (g i) s.toks) { s with toks:=s.toks+1 }→wpAny (model X.prog X.w) X.A (f (.int i t)) Q E s) :
  UnR X f (rU λi=>.int (g i)):=by
 intro pins s σ H x v Q I rx h
 obtain⟨i,rfl,q⟩:=h
 obtain⟨t,rfl⟩:=rx
 exact rule i t s _ _ ⟨.int (g i),H,I.tok _,⟨_,rfl⟩,q⟩
theorem znI:UnR X (unaryOp .USub) (rU λi=>.int (-i)):=unI λ_ _ _ _ _ q=>neg_int q
end
def scal:V→V→Bool
 | .non,.non=>true | .non,.int _=>true | .int _,.non=>true | .non,.bl _=>true | .bl _,.non=>true | .non,.str _=>true | .str _,.non=>true
 | .int _,.int _=>true | .bl _,.bl _=>true | .str _,.str _=>true | .byt _,.byt _=>true
 | .int _,.str _=>true | .str _,.int _=>true | .bl _,.str _=>true | .str _,.bl _=>true
 | _,_=>false
def rEq:R2:=λx y H Q=>scal x y=true∧Q (.bl (decide (x=y))) H
def rNe:R2:=λx y H Q=>scal x y=true∧Q (.bl (!decide (x=y))) H
theorem zpJ{i j:Int}:decide (V.int i=V.int j)=(i == j):=by
 rw[ψI1]
 simp
theorem zul{i j:Bool}:decide (V.bl i=V.bl j)=(i == j):=by
 rw[ψI1]
 simp
theorem zpT{i j:Str}:decide (V.str i=V.str j)=(i == j):=by
 rw[ψI1]
 simp
theorem zpL{i j:Array UInt8}:decide (V.byt i=V.byt j)=(i.toList == j.toList):=by
 rw[ψI1]
 cases i
 cases j
 simp
section
variable {X:Cx} {a b c:Expr} {ta tb tc:TE} {pos:Pos}
theorem zbL{pins:List (Addr×Obj)}{σ:St}{H:Hp}{s:Shared}{Q:VK}{k k':Bool}(I:Inv X pins σ H s)(q:Q (.bl k) H)(e:k=k'):EP X pins σ Q (.bool k') s:=by
 subst e
 exact⟨.bl k,H,I,rfl,q⟩
theorem zm5:OpR X (compareOp .Eq) rEq:=by
 intro pins s σ H x y v u Q I rx ry h
 obtain⟨hs,q⟩:=h
 cases x with
 | non =>
  cases rx
  cases y with
  | non=>cases ry;exact PySem.EqNone.eq_none_none (zbL I q (by simp))
  | bl j=>cases ry;exact PySem.EqNone.eq_none_bool (zbL I q (by simp))
  | int j=>obtain⟨t',rfl⟩:=ry;exact PySem.EqNone.eq_none_int (zbL I q (by simp))
  | str j=>obtain⟨t',rfl⟩:=ry;exact PySem.EqNone.eq_none_str (zbL I q (by simp))
  | _=>exact absurd (show false=true from hs) ψv
 | bl i =>
  cases rx
  cases y with
  | non=>cases ry;exact PySem.EqNone.eq_bool_none (zbL I q (by simp))
  | bl j=>cases ry;exact eq_bool (zbL I q zul)
  | str j=>obtain⟨t',rfl⟩:=ry;exact PySem.EqMixed.eq_bool_str (zbL I q (by simp))
  | _=>exact absurd (show false=true from hs) ψv
 | int i =>
  obtain⟨t,rfl⟩:=rx
  cases y with
  | non=>cases ry;exact PySem.EqNone.eq_int_none (zbL I q (by simp))
  | int j=>obtain⟨t',rfl⟩:=ry;exact eq_int (zbL I q zpJ)
  | str j=>obtain⟨t',rfl⟩:=ry;exact PySem.EqMixed.eq_int_str (zbL I q (by simp))
  | _=>exact absurd (show false=true from hs) ψv
 | str i =>
  obtain⟨t,rfl⟩:=rx
  cases y with
  | non=>cases ry;exact PySem.EqNone.eq_str_none (zbL I q (by simp))
  | bl j=>cases ry;exact PySem.EqMixed.eq_str_bool (zbL I q (by simp))
  | int j=>obtain⟨t',rfl⟩:=ry;exact PySem.EqMixed.eq_str_int (zbL I q (by simp))
  | str j=>obtain⟨t',rfl⟩:=ry;exact eq_str (zbL I q zpT)
  | _=>exact absurd (show false=true from hs) ψv
 | byt i =>
  obtain⟨t,rfl⟩:=rx
  cases y with
  | byt j=>obtain⟨t',rfl⟩:=ry;exact PySem.W.eq_bytes (zbL I q zpL)
  | _=>exact absurd (show false=true from hs) ψv
 | _=>cases y <;> exact absurd (show false=true from hs) ψv
theorem zoF:OpR X (compareOp .NotEq) rNe:=by
 intro pins s σ H x y v u Q I rx ry h
 obtain⟨hs,q⟩:=h
 cases x with
 | non =>
  cases rx
  cases y with
  | non=>cases ry;exact PySem.EqNone.ne_none_none (zbL I q (by simp))
  | bl j=>cases ry;exact PySem.EqNone.ne_none_bool (zbL I q (by simp))
  | int j=>obtain⟨t',rfl⟩:=ry;exact PySem.EqNone.ne_none_int (zbL I q (by simp))
  | str j=>obtain⟨t',rfl⟩:=ry;exact PySem.EqNone.ne_none_str (zbL I q (by simp))
  | _=>exact absurd (show false=true from hs) ψv
 | bl i =>
  cases rx
  cases y with
  | non=>cases ry;exact PySem.EqNone.ne_bool_none (zbL I q (by simp))
  | bl j=>cases ry;exact ne_bool (zbL I q (congrArg not zul))
  | str j=>obtain⟨t',rfl⟩:=ry;exact PySem.EqMixed.ne_bool_str (zbL I q (by simp))
  | _=>exact absurd (show false=true from hs) ψv
 | int i =>
  obtain⟨t,rfl⟩:=rx
  cases y with
  | non=>cases ry;exact PySem.EqNone.ne_int_none (zbL I q (by simp))
  | int j=>obtain⟨t',rfl⟩:=ry;exact ne_int (zbL I q (congrArg not zpJ))
  | str j=>obtain⟨t',rfl⟩:=ry;exact PySem.EqMixed.ne_int_str (zbL I q (by simp))
  | _=>exact absurd (show false=true from hs) ψv
 | str i =>
  obtain⟨t,rfl⟩:=rx
  cases y with
  | non=>cases ry;exact PySem.EqNone.ne_str_none (zbL I q (by simp))
  | bl j=>cases ry;exact PySem.EqMixed.ne_str_bool (zbL I q (by simp))
  | int j=>obtain⟨t',rfl⟩:=ry;exact PySem.EqMixed.ne_str_int (zbL I q (by simp))
  | str j=>obtain⟨t',rfl⟩:=ry;exact ne_str (zbL I q (congrArg not zpT))
  | _=>exact absurd (show false=true from hs) ψv
 | byt i =>
  obtain⟨t,rfl⟩:=rx
  cases y with
  | byt j=>obtain⟨t',rfl⟩:=ry;exact PySem.W.ne_bytes (zbL I q (congrArg not zpL))
  | _=>exact absurd (show false=true from hs) ψv
 | _=>cases y <;> exact absurd (show false=true from hs) ψv
theorem zqW:OpR X (compareOp .Lt) (rI0 λi j=>.bl (decide (i<j))):=opB0 λ_ _ _ _ _ _ _ q=>lt_int q
theorem zmU:OpR X (compareOp .LtE) (rI0 λi j=>.bl (decide (i≤j))):=opB0 λ_ _ _ _ _ _ _ q=>le_int q
theorem zu9:OpR X (compareOp .Gt) (rI0 λi j=>.bl (decide (j<i))):=opB0 λ_ _ _ _ _ _ _ q=>gt_int q
theorem zly:OpR X (compareOp .GtE) (rI0 λi j=>.bl (decide (j≤i))):=opB0 λ_ _ _ _ _ _ _ q=>ge_int q
theorem zwV:OpR X (compareOp .Is) (λx y H Q=>y=.non∧Q (.bl (decide (x=.non))) H):=by
 intro pins s σ H x y v u Q I rx ry h
 obtain⟨rfl,q⟩:=h
 cases ry
 refine is_none_gen (zbL I q ?_)
 cases x <;> first
  | (cases rx;rfl)
  | (obtain⟨t,rfl⟩:=rx;rfl)
theorem za9(b:Expr){op:CmpOp}(h:op≠.In:=by decide)(h2:op≠.NotIn:=by decide):behindInMarks op b=false:=by
 have e1:(op == CmpOp.In)=false:=by cases op <;> first | rfl | exact absurd rfl h
 have e2:(op == CmpOp.NotIn)=false:=by cases op <;> first | rfl | exact absurd rfl h2
 cases b <;> simp[behindInMarks,e1,e2]
theorem zcg{op:CmpOp}{r:R2}(ho:OpR X (compareOp op) r)(ha:PE X a ta)(hb:PE X b tb)(hm:behindInMarks op b=false):PE X (.Compare a [op] [b] pos) (tOp r ta tb):=by
 intro pins s σ H Q I h
 exact wpAny_Compare1 (binT ha hb I h λv u s2 x y H2 I2 rx ry q=>ho pins s2 σ H2 x y v u Q I2 rx ry q) hm
def zbE(t:TE):TT:=λσ H Q=>t σ H λx H'=>∃k,x=.bl k∧Q k H'
theorem zbG{op:CmpOp}{r:R2}(ho:OpR X (compareOp op) r)(ha:PE X a ta)(hb:PE X b tb)(hm:behindInMarks op b=false):PT X (.Compare a [op] [b] pos) (zbE (tOp r ta tb)):=by
 intro pins s σ H Q I h
 refine wpAny_isTrue_Compare1 (thn (ha pins s σ H _ I h) λv s1 ⟨x,H1,I1,r1,q1⟩=>thn (hb pins s1 σ H1 _ I1 q1) λu s2 ⟨y,H2,I2,r2,q2⟩ =>
  thn (ho pins s2 σ H2 x y v u _ I2 r1 r2 q2) λc s3 ⟨z,H3,I3,r3,k,e,q3⟩=>?_) hm
 subst e
 cases r3
 exact wpAny_truthy_bool ⟨H3,I3,q3⟩
def zlN(r r':R2)(ta tb tc:TE):TE:=λσ H Q=>ta σ H λx H1=>tb σ H1 λy H2=>r x y H2 λz H3=>∃k,z=.bl k ∧
 (if k=true then tc σ H3 λw' H4=>r' y w' H4 Q else Q (.bl false) H3)
theorem zrL{op op':CmpOp}{r r':R2}(ho:OpR X (compareOp op) r)(ho':OpR X (compareOp op') r')(ha:PE X a ta)(hb:PE X b tb)(hc:PE X c tc)
  (hm:lastMarks [op,op'] [b,c]=false:=by with_unfolding_all rfl):PE X (.Compare a [op,op'] [b,c] pos) (zlN r r' ta tb tc):=by
 intro pins s σ H Q I h
 refine Compare_chain (thn (ha pins s σ H _ I h) λv s1 ⟨x,H1,I1,r1,q1⟩=>chain_link (thn (hb pins s1 σ H1 _ I1 q1) λu s2 ⟨y,H2,I2,r2,q2⟩ =>
  thn (ho pins s2 σ H2 x y v u _ I2 r1 r2 q2) λd s3 ⟨z,H3,I3,r3,k,e,q3⟩=>?_)) hm
 subst e
 cases r3
 refine wpAny_truthy_bool ?_
 cases k with
 | false=>exact ite_ff ⟨.bl false,H3,I3,rfl,q3⟩
 | true=>exact ite_tt (chain_last (thn (hc pins s3 σ H3 _ I3 q3) λw' s4 ⟨z',H4,I4,r4,q4⟩=>ho' pins s4 σ H4 y z' u w' Q I4 r2 r4 q4))
theorem zs9{op op':CmpOp}{r r':R2}(ho:OpR X (compareOp op) r)(ho':OpR X (compareOp op') r')(ha:PE X a ta)(hb:PE X b tb)(hc:PE X c tc)
  (hm:lastMarks [op,op'] [b,c]=false:=by with_unfolding_all rfl):PT X (.Compare a [op,op'] [b,c] pos) (zbE (zlN r r' ta tb tc)):=by
 intro pins s σ H Q I h
 refine isTrue_chain (thn (ha pins s σ H _ I h) λv s1 ⟨x,H1,I1,r1,q1⟩=>test_link (thn (hb pins s1 σ H1 _ I1 q1) λu s2 ⟨y,H2,I2,r2,q2⟩ =>
  thn (ho pins s2 σ H2 x y v u _ I2 r1 r2 q2) λd s3 ⟨z,H3,I3,r3,k,e,q3⟩=>?_)) hm
 subst e
 cases r3
 refine wpAny_truthy_bool ?_
 cases k with
 | false =>
  obtain⟨k',e',q'⟩:=q3
  cases e'
  exact ite_ff ⟨H3,I3,q'⟩
 | true =>
  refine ite_tt (test_last (thn (hc pins s3 σ H3 _ I3 q3) λw' s4 ⟨z',H4,I4,r4,q4⟩=>thn (ho' pins s4 σ H4 y z' u w' _ I4 r2 r4 q4) λd' s5 hQ'=>?_))
  obtain⟨z2,H5,I5,r5,k2,e2,q5⟩:=hQ'
  subst e2
  cases r5
  exact wpAny_truthy_bool ⟨H5,I5,q5⟩
def zwR(K:ψa)(x:V)(H:Hp)(k:Bool):Prop :=
 match x with
 | .non=>k=false
 | .bl b=>k=b
 | .int i=>k=(i != 0)
 | .str y=>y.length≤sizeLine∧k=((y.length:Int) != 0)
 | .byt y=>y.size≤sizeLine∧k=((y.size:Int) != 0)
 | .ref p=>(∃xs,SqL K H p xs∧k=!xs.isEmpty)∨(∃xs,SqT K H p xs∧k=!xs.isEmpty)∨∃kvs,H p=some (.dK kvs)∧k=!kvs.isEmpty
 | _=>False
theorem zot{κ:Type}{kvs:List (κ×V)}{vs:List (κ×Value)}(r:KV kvs vs):(!vs.isEmpty)=!kvs.isEmpty:=by
 cases r <;> rfl
theorem zj5{xs:List V}{its:List Value}(r:zb9 xs its):(!its.toArray.isEmpty)=!xs.isEmpty:=by
 cases r <;> simp
theorem zlI:(sizeLine:Nat)<2 ^ 63:=by rw[sizeLine_eq];decide
theorem zwM:TruR X (λx H Q=>∃k,zwR X.K x H k∧Q k H):=by
 intro pins s σ H x v Q I rx h
 obtain⟨k,e,q⟩:=h
 have hl:=zlI
 have hs:sizeLine=16777216:=sizeLine_eq
 cases x with
 | non =>
  cases rx
  have e':k=false:=e
  subst e'
  exact truthy_none ⟨H,I,q⟩
 | bl b =>
  cases rx
  have e':k=b:=e
  subst e'
  exact wpAny_truthy_bool ⟨H,I,q⟩
 | int i =>
  obtain⟨t,rfl⟩:=rx
  have e':k=(i != 0):=e
  subst e'
  exact PySem.P.truthy_int ⟨H,I,q⟩
 | str y =>
  obtain⟨t,rfl⟩:=rx
  obtain⟨hy,e'⟩:y.length≤sizeLine∧k=((y.length:Int) != 0):=e
  subst e'
  exact PySem.P.truthy_str (by (first|lia|omega)) ⟨H,I.tok _,q⟩
 | byt y =>
  obtain⟨t,rfl⟩:=rx
  obtain⟨hy,e'⟩:y.size≤sizeLine∧k=((y.size:Int) != 0):=e
  subst e'
  exact PySem.W.truthy_bytes (by (first|lia|omega)) ⟨H,I.tok _,q⟩
 | ref p =>
  cases rx
  have e':(∃xs,SqL X.K H p xs∧k=!xs.isEmpty)∨(∃xs,SqT X.K H p xs∧k=!xs.isEmpty)∨∃kvs,H p=some (.dK kvs)∧k=!kvs.isEmpty:=e
  rcases e' with ⟨xs,hx,e'⟩ | ⟨xs,hx,e'⟩ | ⟨kvs,hx,e'⟩
  ·subst e'
   obtain⟨its,r,pl,hz⟩:=I.list hx
   have hlen:=r.length
   exact wpAny_truthy_list pl.isList (by simp only[ψe];(first|lia|omega)) ⟨H,I.tok _,by rw[zj5 r];exact q⟩
  ·subst e'
   obtain⟨its,r,pl,hz⟩:=I.tuple hx
   have hlen:=r.length
   exact truthy_tuple pl (by simp only[ψe];(first|lia|omega)) ⟨H,I.tok _,by rw[zj5 r];exact q⟩
  ·subst e'
   obtain⟨hz,hS,vs,r,m⟩:kvs.length≤sizeLine∧(p == sysModules)=false∧∃vs,KV kvs vs∧s.heap.DictOf (zmJ X.prog X.w) p vs:=I.hok p _ hx
   have hlen:kvs.length=vs.length:=Paired.length r
   exact wpAny_truthy_dict hS m (by (first|lia|omega)) ⟨H,I.tok _,by rw[zot r];exact q⟩
 | _=>exact(show False from e).elim
theorem znW(ha:PE X a ta)(he:∀whole,isTrue a X.env whole=(do let v ← whole;standAt a.pos;holding [v] (truthy v))) :
  PT X a (λσ H Q=>ta σ H λx H'=>∃k,zwR X.K x H' k∧Q k H'):=by
 intro pins s σ H Q I h
 exact isTrue_plain (thn (ha pins s σ H _ I h) λv s1 ⟨x,H1,I1,r1,q1⟩=>zwM pins s1 σ H1 x v Q I1 r1 q1) (he _)
theorem znk{x:V}{us:List Value}(r:zb9 [x] us):∃u,us=[u]∧zdz x u:=by
 cases r with
 | cons r1 r2=>cases r2;exact⟨_,rfl,r1⟩
theorem zso{x y:V}{us:List Value}(r:zb9 [x,y] us):∃u w',us=[u,w']∧zdz x u∧zdz y w':=by
 cases r with
 | cons r1 r2 =>
  cases r2 with
  | cons r3 r4=>cases r4;exact⟨_,_,rfl,r1,r3⟩
theorem znC:zh7 X (.builtin "abs") (λxs H Q=>∃i,xs=[.int i]∧Q (.int (if i<0 then -i else i)) H):=by
 intro pins s σ H xs us Q I r h
 obtain⟨i,rfl,q⟩:=h
 obtain⟨u,rfl,t,rfl⟩:=znk r
 exact call_abs_int λu tk=>⟨.int (if i<0 then -i else i),H,I.tok _,⟨_,rfl⟩,q⟩
theorem zqt:zh7 X (.type "int") (λxs H Q=>(∃i,xs=[.int i]∧Q (.int i) H)∨∃k,xs=[.bl k]∧Q (.int (if k then 1 else 0)) H):=by
 intro pins s σ H xs us Q I r h
 rcases h with ⟨i,rfl,q⟩ | ⟨k,rfl,q⟩
 ·obtain⟨u,rfl,t,rfl⟩:=znk r
  exact call_int_int ⟨.int i,H,I,⟨_,rfl⟩,q⟩
 ·obtain⟨u,rfl,r1⟩:=znk r
  cases r1
  exact call_int_bool ⟨.int (if k then 1 else 0),H,I.tok _,⟨_,rfl⟩,q⟩
end
end L2
namespace L2
open PySem PySem.Spec PyProof.Rows
structure ObjM (h:Heap) (x dx C:Addr) (mA:Str→Option Value):Prop where
 obj:h.get? x=some (PySem.W.instObj C dx)
 ns:h.Ns1 dx mA
 ne:dx≠x
theorem zpS{h:Heap}{dx:Addr}{mA:Str→Option Value}(n:h.Ns1 dx mA):∃od,h.get? dx=some od∧∀name,PySem.W.lookIn name od=some (mA name):=by
 obtain⟨o,es,ep,ho,hd,hk,_,hm⟩:=n
 refine⟨o,ho,λname=>?_⟩
 have e:=hm name
 unfold nsFind findBy at e
 rw[← Array.find?_toList] at e
 unfold PySem.W.lookIn
 rw[hd]
 dsimp only
 split
 ·rename_i y q
  rw[q] at e
  exact congrArg some e
 ·rename_i q
  rw[q] at e
  have a:es.toList.any (·.refKey)=false:=by
   rw[List.any_eq_false]
   intro y hy
   obtain⟨z,t,hkey⟩:=hk y (Array.mem_toList_iff.mp hy)
   simp[DictEntry.refKey,hkey]
  have a':¬ es.toList.any (·.refKey)=true:=by rw[a];exact ψv
  rw[if_neg a']
  exact congrArg some e
theorem ObjM.look{h:Heap}{x dx C:Addr}{mA:Str→Option Value}(I:ObjM h x dx C mA):∃od,PySem.W.InstAt h x (PySem.W.instObj C dx) C (some od)∧∀name,PySem.W.lookIn name od=some (mA name) :=
 let ⟨od,ho,hl⟩:=zpS I.ns
 ⟨od,⟨I.obj,rfl,rfl,ho⟩,hl⟩
section
variable {prog:Program} {w:World} {A:Around} {E:Value→Shared→Prop} {s:Shared} {K:ψa} {x dx C f:Addr} {mA:Str→Option Value} {name:Str} {v:Value}
end
section
variable {P:Program} {w:World} {H H':Hp} {h h':Heap} {a C dx:Addr} {fs fs':List (Str×V)}
theorem zuy(hok:HOk P w H h)(e:H a=some (.ins C dx fs)):∃mA,ObjM h a dx C mA∧(∀f,RelO (fs.lookup f) (mA f))∧PySem.Within mA (fs.map (·.1))∧fs.length≤1000∧H dx=some (.own a):=by
 obtain⟨d,z,ne,ob,mA,n,r,q⟩:=(show zc7 P w H h a (.ins C dx fs) from hok a _ e)
 exact⟨mA,⟨ob,n,ne⟩,r,q,z,d⟩
end
structure Cls (K:ψa) (C:Addr):Prop where
 pg:PySem.W.plainGet K C Str.empty=true
 hd:PySem.W.hasDictIn K C=true
 po:PySem.W.plainOver K C=true
 sa:ψu K (.ref C) "__setattr__"=some (some (.builtin "object.__setattr__"))
theorem Cls.get{K:ψa}{C:Addr}(c:Cls K C)(f:Str):PySem.W.plainGet K C f=true:=c.pg
section
variable {X:Cx} {pins:List (Addr×Obj)} {σ:St} {H:Hp} {s:Shared} {a C dx:Addr} {fs:List (Str×V)} {f:Str} {v:V} {A:Around} {E:Value→Shared→Prop}
end
section
variable {X:Cx} {o e value:Expr} {f:Str} {pos pos' tpos:Pos} {ta tv:TE}
end
section
variable {X:Cx} {pins:List (Addr×Obj)} {σ:St} {H:Hp} {s:Shared} {A:Around} {E:Value→Shared→Prop} {Q:Value→Shared→Prop} {c:Value} {b:Bool}
inductive znR (K:ψa) (H:Hp):V→Value→Prop where
 | non:znR K H .non (.type "NoneType")
 | bl (x:Bool):znR K H (.bl x) (.type "bool")
 | int (i:Int):znR K H (.int i) (.type "int")
 | str (x:Str):znR K H (.str x) (.type "str")
 | flt (x:UInt64):znR K H (.flt x) (.type "float")
 | lst {a:Addr} {xs:List V} (e:H a=some (.lst xs)):znR K H (.ref a) (.type "list")
 | frz {a:Addr} {o:Obj} {xs:List V} (e:H a=some (.frz o (.lst xs))):znR K H (.ref a) (.type "list")
 | tup {a:Addr} {xs:List V} (e:H a=some (.tup xs)):znR K H (.ref a) (.type "tuple")
 | dK {a:Addr} {kvs:List (Key×V)} (e:H a=some (.dK kvs)):znR K H (.ref a) (.type "dict")
 | dT {a:Addr} {kvs:List (List Key×V)} (e:H a=some (.dT kvs)):znR K H (.ref a) (.type "dict")
 | ins {a C dx:Addr} {fs:List (Str×V)} (e:H a=some (.ins C dx fs)) (cl:Cls K C) (ha:ψu K (.ref C) "__class__"=some (some (.builtin "object.__class__")))
   (hn:PySem.W.specialIn K (.builtin "object.__class__") "__get__"=some (some (.builtin "getset_descriptor.__get__"))) (htk:PySem.W.takesIn K (.builtin "object.__class__")=some true)
   (hm:ψd1 K C (.type "object")=some true):znR K H (.ref a) (.ref C)
theorem zqJ{x:V}{u t:Value}(I:Inv X pins σ H s)(rx:zdz x u)(ty:znR X.K H x t)(e:ψc X.K t c=some b)(h:∀tk,Q (.bool b) { s with toks:=tk }) :
  wpAny (model X.prog X.w) A (call (.builtin "isinstance") [u,c]) Q E s:=by
 cases ty with
 | non=>cases (show u=Value.none from rx);exact ψW PySem.W.kitx_none I.kIn True.intro e (λz=>nomatch z) h
 | bl y=>cases (show u=Value.bool y from rx);exact ψW PySem.W.kitx_bool I.kIn True.intro e (λz=>nomatch z) h
 | int i=>obtain⟨t,q⟩:=(show ∃t,u=Value.int i t from rx);cases q;exact ψW PySem.W.kitx_int I.kIn True.intro e (λz=>nomatch z) h
 | str y=>obtain⟨t,q⟩:=(show ∃t,u=Value.str y t from rx);cases q;exact ψW PySem.W.kitx_str I.kIn True.intro e (λz=>nomatch z) h
 | flt y=>obtain⟨t,q⟩:=(show ∃t,u=Value.float y t from rx);cases q;exact ψW PySem.W.kitx_float I.kIn True.intro e (λz=>nomatch z) h
 | @lst a xs ea =>
  cases (show u=Value.ref a from rx)
  obtain⟨_,_,n,_,h1⟩:=(show zc7 X.prog X.w H s.heap a (.lst xs) from I.hok a _ ea)
  exact ψW PySem.W.kitx_list I.kIn ⟨_,h1,rfl⟩ e (λz=>nomatch z) h
 | @frz a ob xs ea =>
  cases (show u=Value.ref a from rx)
  obtain⟨_,_,_,n,_,h1⟩:=(show zc7 X.prog X.w H s.heap a (.frz ob (.lst xs)) from I.hok a _ ea)
  exact ψW PySem.W.kitx_list I.kIn ⟨_,h1,rfl⟩ e (λz=>nomatch z) h
 | @tup a xs ea =>
  cases (show u=Value.ref a from rx)
  obtain⟨_,_,_,p⟩:=(show zc7 X.prog X.w H s.heap a (.tup xs) from I.hok a _ ea)
  obtain⟨o,h1,h2,_⟩:=p
  exact ψW PySem.W.kitx_tuple I.kIn ⟨o,h1,h2⟩ e (λz=>nomatch z) h
 | @dK a kvs ea =>
  cases (show u=Value.ref a from rx)
  obtain⟨_,_,vs,_,p⟩:=(show zc7 X.prog X.w H s.heap a (.dK kvs) from I.hok a _ ea)
  obtain⟨o,es,ep,h1,h2,_⟩:=p
  exact ψW PySem.W.kitx_dict I.kIn ⟨o,h1,h2.1⟩ e (λz=>nomatch z) h
 | @dT a kvs ea =>
  cases (show u=Value.ref a from rx)
  obtain⟨_,_,xs,_,o,es,ep,h1,h2,_⟩:=(show zc7 X.prog X.w H s.heap a (.dT kvs) from I.hok a _ ea)
  exact ψW PySem.W.kitx_dict I.kIn ⟨o,h1,h2.1⟩ e (λz=>nomatch z) h
 | @ins a C dx fs ea cl ha hn htk hm =>
  cases (show u=Value.ref a from rx)
  obtain⟨mA,O,_⟩:=zuy I.hok ea
  obtain⟨od,J,_⟩:=O.look
  exact ψW (PySem.W.kitx_own (cl.get _) cl.hd ha hn htk hm) I.kIn J e (λz=>nomatch z) h
end
end L2
namespace L2
open PySem PySem.Spec PyProof.Rows
structure zjB (k:Nat) (A:Around):Prop where
 hd:A.handled=none
 dp:A.depth+3*k+5<recursionLimit
 un:A.units+16*k+200<cLine
theorem zjB.mono{j k:Nat}{A:Around}(r:zjB k A)(h:j≤k):zjB j A:=⟨r.hd,by have:=r.dp;(first|lia|omega),by have:=r.un;(first|lia|omega)⟩
theorem zjB.deeper{k:Nat}{A:Around}(r:zjB (k+1) A)(env:Env):zjB k (A.deeper env) :=
 ⟨r.hd,by have:=r.dp;show A.depth+1+3*k+5<_;(first|lia|omega),by have:=r.un;show A.units+3+16*k+200<_;(first|lia|omega)⟩
theorem zjB.depth{k:Nat}{A:Around}(r:zjB k A):A.depth<recursionLimit:=by have:=r.dp;(first|lia|omega)
theorem zjB.units{k:Nat}{A:Around}(r:zjB k A):A.units+64<cLine:=by have:=r.un;(first|lia|omega)
theorem zjB.units0{k:Nat}{A:Around}(r:zjB k A):A.units<cLine:=by have:=r.un;(first|lia|omega)
def zak:TA:=λ_ H Q=>Q [] H
def zab(ta:TE)(tr:TA):TA:=λσ H Q=>ta σ H λx H1=>tr σ H1 λxs H2=>Q (x::xs) H2
section
variable {X:Cx} {e:Expr} {es:List Expr} {te:TE} {t:TA} {pos:Pos}
theorem zad:PA X [] zak:=λ_ _ _ _ H Q I h=>Calls.spliced_nil ⟨[],H,I,.nil,h⟩
theorem zaa(ha:PE X e te)(hr:PA X es t)(hs:starEach (e::es) X.env=(false,eval e X.env)::starEach es X.env:=by rfl):PA X (e::es) (zab te t):=by
 intro pos pins s σ H Q I h
 rw[hs]
 show wpAny _ _ (spliced ((false,eval e X.env)::backTo pos (starEach es X.env))) _ _ s
 refine Calls.spliced_cons (thn (ha pins s σ H _ I h) λu s1 hQ'=>?_)
 obtain⟨x,H1,I1,r1,q1⟩:=hQ'
 exact thn (hr pos pins s1 σ H1 _ I1 q1) λus s2 ⟨xs,H2,I2,r2,q2⟩=>⟨x::xs,H2,I2,.cons r1 r2,q2⟩
def zbV(t:TA):TE:=λσ H Q=>t σ H λxs H1=>xs.length≤sizeLine∧∀p,H1 p=none→Q (.ref p) (upd H1 p (.tup xs))
def zcV(t:TA):TE:=λσ H Q=>t σ H λxs H1=>xs.length≤sizeLine∧∀p,H1 p=none→Q (.ref p) (upd H1 p (.lst xs))
theorem za3{x1}(h:PA X es t):PE X (.Tuple es x1 pos) (zbV t):=by
 intro pins s σ H Q I hq
 refine wpAny_Tuple_spliced (thn (h pos pins s σ H _ I hq) λus s1 ⟨xs,H1,I1,r,z,q⟩=>⟨by rw[← r.length];exact z,?_⟩)
 have hf:H1 s1.heap.objs.size=none:=I1.hok.fresh (ψh _)
 refine⟨.ref s1.heap.objs.size,upd H1 s1.heap.objs.size (.tup xs),I1.laid (t':=s1.toks) (λb u e=>Heap.get?_push_of_some _ e) (ψh _) ?_,rfl,q _ hf⟩
 exact⟨z,us,r,⟨_,Heap.get?_push_size _ rfl,rfl,_,rfl⟩⟩
theorem zbK(h:PA X es t):PE X (.List es pos) (zcV t):=by
 intro pins s σ H Q I hq
 refine wpAny_List_spliced (thn (h pos pins s σ H _ I hq) λus s1 ⟨xs,H1,I1,r,z,q⟩=>⟨by rw[← r.length];exact z,?_⟩)
 have hf:H1 s1.heap.objs.size=none:=I1.hok.fresh (ψh _)
 refine⟨.ref s1.heap.objs.size,upd H1 s1.heap.objs.size (.lst xs),I1.laid (t':=s1.toks) (λb u e=>Heap.get?_push_of_some _ e) (ψh _) ?_,rfl,q _ hf⟩
 exact⟨z,us,0,r,Heap.get?_push_size _ rfl⟩
end
abbrev Sp:=List V→Hp→VK→XK→Prop
abbrev CXT:=List Env→Hp→Shared→XK→Value→Shared→Prop
structure Env0 (P:Program) (w:World) (K:ψa) (mg:Str→Option Value) (base:Heap) (A:Around) (outer:List Env) (s:Shared) (H:Hp):Prop where
 frames:A.frames=some outer
 mod:Mod K mg base
 bs:∀b o,base.get? b=some o→s.heap.get? b=some o∧H b=none
 bsz:base.objs.size≤s.heap.objs.size
 funs:s.heap.FunFrames base outer
 frf:∀b∈frs outer,H b=none
 hok:HOk P w H s.heap
 bare:AllBare s.gens
def CE(outer:List Env)(P:Program)(w:World)(H:Hp)(s:Shared)(Q:VK)(u:Value)(s':Shared):Prop :=
 ∃v H',s'.os=s.os∧AllBare s'.gens∧Un (frs outer) [] H H' s.heap s'.heap∧HOk P w H' s'.heap∧zdz v u∧Q v H'
def CR(CX:CXT)(outer:List Env)(P:Program)(w:World)(H:Hp)(s:Shared)(Q:VK)(E:XK)(r:Result)(s':Shared):Prop :=
 match r with
 | .ok (.ret u)=>CE outer P w H s Q u s'
 | .ok _=>False
 | .error e=>CX outer H s E e s'
structure zcC (P:Program) (w:World) (K:ψa) (mg:Str→Option Value) (base:Heap) (CX:CXT) (k:Nat) (f:Addr) (fd:FuncData) (ps:List Str) (sp:Sp):Prop where
 len:∀vs H Q E,sp vs H Q E→vs.length=ps.length
 run:∀(A:Around) (outer:List Env) (s:Shared) (H:Hp) (args:Args) (us:List Value) (vs:List V) (Q:VK) (E:XK),zjB k A→Env0 P w K mg base A outer s H→BindsTo s fd args (ps.zip us)→zb9 vs us→sp vs H Q E →
  codeAny (model P w) A (.call (.ref f) args) (CR CX outer P w H s Q E) s
section
variable {X:Cx} {pins:List (Addr×Obj)} {σ:St} {H:Hp} {s s':Shared}
theorem Inv.env0(I:Inv X pins σ H s):Env0 X.prog X.w X.K X.mg X.base X.A X.stack s H :=
 ⟨I.ok.frames,I.ok.mod,I.bs,ψF I.ok.bsz I.sz,I.stack,I.stkFree,I.hok,I.bare⟩
theorem Inv.after{Q:VK}{u:Value}(I:Inv X pins σ H s)(h:CE X.stack X.prog X.w H s Q u s'):EP X pins σ Q u s':=by
 obtain⟨v,H',os,bare,un,hok,r,q⟩:=h
 obtain⟨hh,g,d,t,os'⟩:=s'
 obtain rfl:os'=s.os:=os
 exact⟨v,H',I.call (h':=hh) (g':=g) (d':=d) (t':=t) (ch:=[]) un hok bare (λb z=>absurd z (by simp)),r,q⟩
end
def zar(sp:Sp)(dvs:List V)(E:XK)(t:TA):TE:=λσ H Q=>t σ H λvs H1=>sp (vs++dvs) H1 Q E
def za4(K:ψa)(fd:FuncData)(ps:List Str)(ds:List Value):Prop :=
 ∀(s:Shared) (us:List Value),K.In s.heap→(us++ds).length=ps.length→BindsTo s fd ⟨us,[]⟩ (ps.zip (us++ds))
theorem za4.all{K:ψa}{fd:FuncData}{ps:List Str}(h:∀us:List Value,us.length=ps.length→bindArgs fd ⟨us,[]⟩=pure (ps.zip us)):za4 K fd ps []:=λs us _ hl=>by
 rw[List.append_nil] at hl ⊢
 exact .of_eq (h us hl)
def zn0(CX:CXT)(X:Cx)(E:XK):Prop:=∀(pins:List (Addr×Obj)) (σ:St) (H:Hp) (s:Shared) (e:Value) (s':Shared),Inv X pins σ H s→CX X.stack H s E e s'→X.xe e s'
section
variable {X:Cx} {CX:CXT} {k:Nat} {f C:Addr} {fd:FuncData} {ps:List Str} {sp:Sp} {dvs:List V} {ds:List Value} {E:XK} {x m:Str} {p pos apos:Pos} {e o:Expr} {es:List Expr} {ta:TE} {t:TA}
theorem zw4{pins:List (Addr×Obj)}{σ:St}{H:Hp}{s:Shared}{Q:VK}{us:List Value}{vs:List V}(F:zcC X.prog X.w X.K X.mg X.base CX k f fd ps sp)(hr:zjB k X.A)(hb:za4 X.K fd ps ds)(hd:zb9 dvs ds)(hx:zn0 CX X E)
  (I:Inv X pins σ H s) (r:zb9 vs us) (h:sp (vs++dvs) H Q E):wpAny (model X.prog X.w) X.A (call (.ref f) us) (EP X pins σ Q) X.xe s:=by
 have r2:zb9 (vs++dvs) (us++ds):=r.append hd
 have hl:(us++ds).length=ps.length:=by rw[← r2.length];exact F.len _ _ _ _ h
 refine wpAny_call (codeAny_mono (F.run X.A X.stack s H ⟨us,[]⟩ (us++ds) (vs++dvs) Q E hr I.env0 (hb s us I.kIn hl) r2 h) λr s' hq=>?_)
 cases r with
 | error e=>exact hx pins σ H s e s' I hq
 | ok fl =>
  cases fl with
  | ret u=>exact I.after hq
  | next=>exact False.elim hq
  | brk=>exact False.elim hq
  | cont=>exact False.elim hq
theorem zal(F:zcC X.prog X.w X.K X.mg X.base CX k f fd ps sp)(hr:zjB k X.A)(hg:Gl X x)(hm:X.mg x=some (.ref f))(hk:ψB1 X.K (.ref f)=true)(hb:za4 X.K fd ps ds)(hd:zb9 dvs ds)(hx:zn0 CX X E)
  (ha:PA X (e::es) t) (hdb:(x == ("__debug__":Str))=false:=by decide) (he:starEach (e::es) X.env=(false,eval e X.env)::starEach es X.env:=by rfl) (hpl:(backTo pos (starEach es X.env)).any (·.1)=false:=by rfl) :
  PE X (.Call (.Name x p) (e::es) [] pos) (zar sp dvs E t):=by
 intro pins s σ H Q I h
 refine wpAny_Call_Name_kw (zjc I hg hm ?_ hdb)
 refine PySem.W.callWith_K (h₀:=X.base) I.ok.mod.kin hk (thn (ha pos pins s σ H _ I h) λus s1 ⟨vs,H1,I1,r,q⟩=>⟨I1.kIn,?_⟩) he hpl
 exact zw4 F hr hb hd hx I1 r q
end
section
variable {X:Cx} {CX:CXT} {k:Nat} {f C:Addr} {fd:FuncData} {ps ks:List Str} {sp:Sp} {E:XK} {x m:Str} {p pos apos kpos:Pos} {e o:Expr} {es:List Expr} {kws:List Keyword} {te ta:TE} {t tk:TA} {nm:Option Str}
variable {g:List Value→List Value→List Value} {gV:List V→List V→List V}
end
structure zaA (N P:List Str) (sc:Scope):Prop where
 kind:sc.kind=.function
 co:sc.isCoroutine=false
 gen:sc.isGenerator=false
 nd:N.Nodup
 pre:N.take P.length=P
 par:∀x∈P,sc.names.lookup x=some .local∨sc.names.lookup x=some .cell
 nofree:∀y∈sc.names,y.2≠.free
theorem zmf{kindOf:Str→Option NameKind}{x:Str}:∀{binds:List (Str×Value)} {m:Str→Option Value},(∀v,(x,v)∉binds)→bindL kindOf binds m x=m x
 | [],_,_=>rfl
 | (n,v)::r,m,h=>by
  unfold bindL
  rw[zmf λw hw=>h w (ψf _ hw)]
  split
  ·have:x≠n:=by rintro rfl;exact h v ψj
   simp[this]
  ·rfl
theorem zlZ{kindOf:Str→Option NameKind}{x:Str}:∀{binds:List (Str×Value)} {m:Str→Option Value},(∀v,(x,v)∉binds)→bindC kindOf binds m x=m x
 | [],_,_=>rfl
 | (n,v)::r,m,h=>by
  unfold bindC
  rw[zlZ λw hw=>h w (ψf _ hw)]
  split
  ·rfl
  ·have:x≠n:=by rintro rfl;exact h v ψj
   simp[this]
theorem zlm{kindOf:Str→Option NameKind}{x:Str}{v:Value}:∀{P:List Str} {vs:List Value} {i:Nat} {m:Str→Option Value},P.Nodup→P[i]?=some x→vs[i]?=some v→kindOf x=some .local →
  bindL kindOf (P.zip vs) m x=some v
 | [],_,_,_,_,h,_,_=>by simp at h
 | _::_,[],_,_,_,_,h,_=>by simp at h
 | p::P,w::vs,0,m,nd,h1,h2,hk=>by
  simp at h1 h2;subst h1;subst h2
  show bindL kindOf ((p,w)::P.zip vs) m p=_
  unfold bindL
  rw[zmf λv hv=>(List.nodup_cons.mp nd).1 (List.of_mem_zip hv).1,if_pos hk]
  simp
 | p::P,w::vs,i+1,m,nd,h1,h2,hk=>by
  show bindL kindOf ((p,w)::P.zip vs) m x=_
  unfold bindL
  exact zlm (i:=i) (List.nodup_cons.mp nd).2 (by simpa using h1) (by simpa using h2) hk
theorem zl2{kindOf:Str→Option NameKind}{x:Str}{v:Value}:∀{P:List Str} {vs:List Value} {i:Nat} {m:Str→Option Value},P.Nodup→P[i]?=some x→vs[i]?=some v→kindOf x≠some .local →
  bindC kindOf (P.zip vs) m x=some v
 | [],_,_,_,_,h,_,_=>by simp at h
 | _::_,[],_,_,_,_,h,_=>by simp at h
 | p::P,w::vs,0,m,nd,h1,h2,hk=>by
  simp at h1 h2;subst h1;subst h2
  show bindC kindOf ((p,w)::P.zip vs) m p=_
  unfold bindC
  rw[zlZ λv hv=>(List.nodup_cons.mp nd).1 (List.of_mem_zip hv).1,if_neg hk]
  simp
 | p::P,w::vs,i+1,m,nd,h1,h2,hk=>by
  show bindC kindOf ((p,w)::P.zip vs) m x=_
  unfold bindC
  exact zl2 (i:=i) (List.nodup_cons.mp nd).2 (by simpa using h1) (by simpa using h2) hk
def start(N:List Str)(vs:List V):St:=vs.map some++ψo (N.length - vs.length) none
def zrA(CX:CXT)(P:Program)(w:World)(K:ψa)(mg:Str→Option Value)(base:Heap)(N:List Str)(qual:Str)(scope:Scope)(f:Addr)(cd:Value)(A:Around)(outer:List Env)(s:Shared)(H:Hp)(E:XK):Cx where
 prog:=P
 w:=w
 K:=K
 mg:=mg
 base:=base
 A:=A.deeper (envOfC qual scope s.heap.objs.size f cd)
 N:=N
 s₀:=s
 H₀:=H
 env:=envOfC qual scope s.heap.objs.size f cd
 outer:=outer
 stack:=envOfC qual scope s.heap.objs.size f cd::outer
 ex:=[]
 calm:=true
 fn:=λ_=>true
 pn:=[]
 xe:=λe s'=>wpAny (model P w) (A.deeper (envOfC qual scope s.heap.objs.size f cd)) (leaving (envOfC qual scope s.heap.objs.size f cd) e) (λ_ s''=>CX outer H s E e s'') (λe' s''=>CX outer H s E e' s'') s'
theorem ziq{sc:Scope}{n:Nat}{x:Str}(h:sc.names.lookup x=some .cell):∃c,(cellsFrom n sc.names []).lookup x=some c:=by
 have q:=PySem.W.cellsFrom_some sc.names n [] (.inl h)
 exact Option.isSome_iff_exists.mp q
theorem zqK{CX:CXT}{P:Program}{w:World}{K:ψa}{mg:Str→Option Value}{base:Heap}{N ps:List Str}{qual:Str}{scope:Scope}{f:Addr}{cd:Value}{A:Around}{outer:List Env}{s s1:Shared}{H:Hp}{E:XK}{us:List Value}{vs:List V}
  (S:zaA N ps scope) (hd:A.handled=none) (e0:Env0 P w K mg base A outer s H) (hl:vs.length=ps.length) (r:zb9 vs us)
  (x:InCallC s s.heap.objs.size (bindL (envOfC qual scope s.heap.objs.size f cd).kindOf (ps.zip us) λ_=>none) (cellsFrom (s.heap.objs.size+1) scope.names []) (bindC (envOfC qual scope s.heap.objs.size f cd).kindOf (ps.zip us) λ_=>none) s1) :
  Inv (zrA CX P w K mg base N qual scope f cd A outer s H E) [] (start N vs) H s1:=by
 have hpl:ps.length≤N.length:=by have:=congrArg List.length S.pre;rw[ψH] at this;(first|lia|omega)
 obtain⟨h1,tk,rfl,hk⟩:=x.done
 have noA:∀b:Addr,b∉(zrA CX P w K mg base N qual scope f cd A outer s H E).ex:=λb z=>absurd (show b∈([]:List Addr) from z) (by simp)
 refine⟨⟨e0.mod,S.kind,rfl,rfl,ψh _,λy z c h1 h2=>?_,λy hy=>?_,λy c _ h=>?_,λ_=>hd,Around.frames_deeper e0.frames,.inr ⟨rfl,rfl⟩,λb z=>absurd z (noA b),e0.bs,e0.bsz,λb _ _=>noA b,λb z=>absurd z (noA b),e0.funs,e0.frf⟩,
  rfl,e0.bare,Un.kept hk,⟨_,x.toInCall.ns,λi y v h1 h2 h3=>?_⟩,λy c h=>⟨_,x.cell y c h⟩,e0.hok.fresh (ψh _),λy c h=>?_,λp hp=>absurd (show p∈([]:List (Addr×Obj)) from hp) (by simp),e0.hok.kept hk,?_⟩
 ·exact name_of_addr x.apart (ψt h1) (ψt h2)
 ·have hy:scope.names.lookup y=some .cell∨scope.names.lookup y=some .free:=hy
  rcases hy with hy | hy
  ·exact ziq hy
  ·exact absurd rfl (S.nofree _ (ψt hy))
 ·exact ψP1 (x.above y c (ψt h))
 ·have hi:i<vs.length:=by
   unfold start at h2
   by_cases hi:i<vs.length
   ·exact hi
   ·rw[ψz1 (by simpa using hi)] at h2
    rw[List.getElem?_replicate] at h2
    split at h2 <;> cases h2
  have ha:vs[i]?=some v:=by
   unfold start at h2
   rw[ψA1 (by simpa using hi),ψD] at h2
   cases e:vs[i]? with
   | none=>rw[e] at h2;cases h2
   | some a=>rw[e] at h2;cases h2;rfl
  obtain⟨u,hu,rv⟩:=r.get ha
  have hp:ps[i]?=some y:=by
   rw[← S.pre,List.getElem?_take_of_lt (by (first|lia|omega))];exact h1
  have ndP:ps.Nodup:=by rw[← S.pre];exact S.nd.sublist (List.take_sublist _ _)
  refine⟨u,rv,?_⟩
  rcases S.par y (ψM hp) with k | k
  ·exact .inl ⟨k,zlm ndP hp hu k⟩
  ·obtain⟨c,e⟩:=ziq (n:=s.heap.objs.size+1) k
   refine .inr ⟨.inl k,c,e,?_⟩
   have q:=x.cell y c e
   rw[zl2 ndP hp hu (by show scope.names.lookup y≠_;rw[k];decide)] at q
   exact q
 ·exact e0.hok.fresh (ψP1 (x.above y c (ψt h)))
 ·unfold start
  show _=N.length
  rw[ψs,ψb,List.length_replicate]
  (first|lia|omega)
theorem zwO{CX:CXT}{P:Program}{w:World}{K:ψa}{mg:Str→Option Value}{base:Heap}{k:Nat}{f:Addr}{name qual:Str}{params:Arguments}{body:List Stmt}{scope:Scope}{dV kV doc pm cdv ct oc:Value}{an od:Option Addr}
  {osl:Array (Option Value)} {N ps:List Str} {sp:Sp} (lk:K.lookup f=some ⟨oc,od,.func (ψC1 name qual params body scope dV kV doc pm an cdv ct),osl⟩) (hcd:PySem.W.codeIn K cdv qual=true) (S:zaA N ps scope)
  (len:∀vs H Q E,sp vs H Q E→vs.length=ps.length)
  (hbody:∀(A:Around) (outer:List Env) (s:Shared) (H:Hp) (vs:List V) (Q:VK) (E:XK),zjB k (A.deeper (envOfC qual scope s.heap.objs.size f cdv))→sp vs H Q E →
   ∃t,PSs (zrA CX P w K mg base N qual scope f cdv A outer s H E) body t∧t { nx:=λ_ H'=>Q .non H',rt:=Q } (start N vs) H) :
  zcC P w K mg base CX (k+1) f (ψC1 name qual params body scope dV kV doc pm an cdv ct) ps sp:=by
 refine⟨len,λA outer s H args us vs Q E hr e0 hb r hsp=>?_⟩
 have hl:=len _ _ _ _ hsp
 have KX:K.In s.heap:=e0.mod.kin.keeps λb o e=>(e0.bs b o e).1
 have lim:s.heap.NoLimit:=e0.mod.nolimit.keeps λb o e=>(e0.bs b o e).1
 have hkind:∀y∈ps.zip us,scope.names.lookup y.1=some .local∨(scope.names.lookup y.1=some .cell∧((cellsFrom (s.heap.objs.size+1) scope.names []).lookup y.1).isSome=true):=λ⟨n,v⟩ hy=>by
  rcases S.par n (List.of_mem_zip hy).1 with q | q
  ·exact .inl q
  ·exact .inr ⟨q,PySem.W.cellsFrom_some _ _ _ (.inl q)⟩
 refine codeAny_call_function hr.depth (KX _ _ lk) rfl S.co S.gen rfl (PySem.W.codeRec_of KX hcd) (hb _ _ _ _ ?_)
 refine wpAny_newFunctionEnv_cells S.kind hkind λenv he s1 x=>?_
 subst he
 refine⟨lim.keeps x.toInCall.keep,codeAny_func ?_⟩
 obtain⟨t,ht,hq⟩:=hbody A outer s H vs Q E (hr.deeper _) hsp
 have I:Inv (zrA CX P w K mg base N qual scope f cdv A outer s H E) [] (start N vs) H s1:=zqK S hr.hd e0 hl r x
 refine wpAny_mono (ht [] s1 (start N vs) H _ I hq) (λfl s' hs=>?_) λe s' hs=>hs
 have fin:∀{σ':St} {H':Hp} {v:V} {u:Value},Inv (zrA CX P w K mg base N qual scope f cdv A outer s H E) [] σ' H' s'→zdz v u→Q v H'→CE outer P w H s Q u s' :=
  fun {σ' H' v u} J rv q=>⟨v,H',J.os,J.bare,J.base,J.hok,rv,q⟩
 cases fl with
 | ret u =>
  obtain⟨v,σ',H',J,rv,q⟩:=hs
  exact fin J rv q
 | next =>
  obtain⟨σ',H',J,q⟩:=hs
  exact fin (v:=V.non) (u:=Value.none) J rfl q
 | brk =>
  obtain⟨_,_,_,q⟩:=hs
  exact False.elim q
 | cont =>
  obtain⟨_,_,_,q⟩:=hs
  exact False.elim q
end L2
namespace L2
open PySem PySem.Spec PyProof.Rows
section
variable {X:Cx} {x:Str} {p pos:Pos} {e:Expr} {es:List Expr} {t:TA} {id T:String} {r:List V→Hp→VK→Prop}
def tCB(r:List V→Hp→VK→Prop)(t:TA):TE:=λσ H Q=>t σ H λvs H1=>r vs H1 Q
theorem zat(hc:zh7 X (.builtin id) r)(hg:Gl X x)(hm:X.mg x=none)(hv:bootBuiltins x=some (.builtin id))(ha:PA X (e::es) t)(hn:x≠"__name__":=by decide)(hdb:(x == ("__debug__":Str))=false:=by decide)
  (he:starEach (e::es) X.env=(false,eval e X.env)::starEach es X.env:=by rfl) (hpl:(backTo pos (starEach es X.env)).any (·.1)=false:=by rfl):PE X (.Call (.Name x p) (e::es) [] pos) (tCB r t):=by
 intro pins s σ H Q I h
 refine wpAny_Call_Name_kw (zhH I hg hm hv ?_ hn hdb)
 exact PyProof.Rows.callWith_builtin1 (thn (ha pos pins s σ H _ I h) λus s1 ⟨vs,H1,I1,r1,q1⟩=>hc pins s1 σ H1 vs us Q I1 r1 q1) he hpl
theorem zdi(hc:zh7 X (.type T) r)(hg:Gl X x)(hm:X.mg x=none)(hv:bootBuiltins x=some (.type T))(ha:PA X (e::es) t)(hn:x≠"__name__":=by decide)(hdb:(x == ("__debug__":Str))=false:=by decide)
  (he:starEach (e::es) X.env=(false,eval e X.env)::starEach es X.env:=by rfl) (hpl:(backTo pos (starEach es X.env)).any (·.1)=false:=by rfl):PE X (.Call (.Name x p) (e::es) [] pos) (tCB r t):=by
 intro pins s σ H Q I h
 refine wpAny_Call_Name_kw (zhH I hg hm hv ?_ hn hdb)
 exact ψh1 (thn (ha pos pins s σ H _ I h) λus s1 ⟨vs,H1,I1,r1,q1⟩=>hc pins s1 σ H1 vs us Q I1 r1 q1) he hpl
end
end L2
namespace HT
open PySem PyProof.Rows
section
open PySem.SeqAt
open PySem.AutoSeq1 (wpAny_loadPart')
open PySem.MeetsSeq PySem.MeetsSeq2 PySem.MeetsSeq3
end
section
variable {prog:Program} {w:World} {A:Around} {E:Value→Shared→Prop} {s:Shared}
def sIx(n d:Nat):Option Int→Nat
 | none=>d
 | some v=>if v<0 then (v+(n:Int)).toNat else min v.toNat n
theorem znQ(n d:Nat):sIx n d none=d:=rfl
theorem zpZ(n d k:Nat):sIx n d (some (k:Int))=min k n:=by
 show(if (k:Int)<0 then ((k:Int)+(n:Int)).toNat else min (k:Int).toNat n)=min k n
 rw[if_neg (by (first|lia|omega)),Int.toNat_natCast]
end
end HT
namespace L2
open PySem PySem.Spec PyProof.Rows
abbrev TO:=St→Hp→(Option Int→Hp→Prop)→Prop
def PO(X:Cx)(e:Option Expr)(t:TO):Prop :=
 ∀(pins:List (Addr×Obj)) (s:Shared) (σ:St) (H:Hp) (Q:Option Int→Hp→Prop),Inv X pins σ H s→t σ H Q →
  wpAny (model X.prog X.w) X.A (evalPart e X.env) (λu s'=>∃o H',Inv X pins σ H' s'∧IsPart u o∧Q o H') X.xe s
def zfe:TO:=λ_ H Q=>Q none H
def zle(t:TE):TO:=λσ H Q=>t σ H λx H1=>∃i,x=.int i∧Q (some i) H1
section
variable {X:Cx} {e:Expr} {te:TE} {lo hi:Option Expr} {tl th:TO} {pos p2:Pos}
theorem zke:PO X none zfe:=by
 intro pins s σ H Q I h
 rw[evalPart_none]
 exact wpAny_pure ⟨none,H,I,.none,h⟩
theorem zk2(h:PE X e te):PO X (some e) (zle te):=by
 intro pins s σ H Q I hw
 rw[evalPart_some]
 refine thn (h pins s σ H _ I hw) λu s1 hQ'=>?_
 obtain⟨x,H1,I1,r1,q1⟩:=hQ'
 obtain⟨i,rfl,q⟩:=q1
 obtain⟨t,rfl⟩:=r1
 exact⟨some i,H1,I1,.int i t,q⟩
def SlR(X:Cx)(r:V→Option Int→Option Int→Hp→VK→Prop):Prop :=
 ∀(pins:List (Addr×Obj)) (s:Shared) (σ:St) (H:Hp) (x:V) (v vl vu:Value) (lo hi:Option Int) (sl:Addr) (Q:VK),Inv X pins σ H s→zdz x v→s.heap.IsSliceOf sl vl vu .none→IsPart vl lo→IsPart vu hi→r x lo hi H Q →
  ∃T id,typeLookup (.type T) "__getitem__"=pure (some (.builtin id))∧s.TypeIs v T∧wpAny (model X.prog X.w) X.A (getItem v (.ref sl)) (EP X pins σ Q) X.xe s
def tSl(r:V→Option Int→Option Int→Hp→VK→Prop)(te:TE)(tl th:TO):TE:=λσ H Q=>te σ H λx H1=>tl σ H1 λl H2=>th σ H2 λu H3=>r x l u H3 Q
theorem zii{r:V→Option Int→Option Int→Hp→VK→Prop}(hr:SlR X r)(he:PE X e te)(hl:PO X lo tl)(hu:PO X hi th):PE X (.Subscript e (.Slice lo hi none p2) pos) (tSl r te tl th):=by
 intro pins s σ H Q I h
 refine Subscript_ (thn (he pins s σ H _ I h) λv s1 hQ'=>?_)
 obtain⟨x,H1,I1,r1,q1⟩:=hQ'
 refine wpAny_Slice (thn (hl pins s1 σ H1 _ I1 q1) λvl s2 ⟨l,H2,I2,pl,q2⟩=>thn (hu pins s2 σ H2 _ I2 q2) λvu s3 hQ'=>?_)
 obtain⟨u,H3,I3,pu,q3⟩:=hQ'
 rw[evalPart_none]
 refine wpAny_pure ?_
 have I4:Inv X pins σ H3 { s3 with heap:=s3.heap.push { cls:=.type "slice",data:=.fields #[vl,vu,.none] } }:=I3.kept (t':=s3.toks) λb ob q=>Heap.get?_push_of_some _ q
 obtain⟨T,id,hT,ht,hg⟩:=hr pins { s3 with heap:=s3.heap.push { cls:=.type "slice",data:=.fields #[vl,vu,.none] } } σ H3 x v vl vu l u s3.heap.objs.size Q I4 r1 (Heap.IsSliceOf.new ..) pl pu q3
 show wpAny (model X.prog X.w) X.A (subscriptTail e (.Slice lo hi none p2) v (.ref s3.heap.objs.size)) (EP X pins σ Q) X.xe { s3 with heap:=s3.heap.push { cls:=.type "slice",data:=.fields #[vl,vu,.none] } }
 exact tail_any (ops:=[.ref s3.heap.objs.size,v]) ht hT hg (by with_unfolding_all rfl)
def zgT(xs:List V)(lo hi:Option Int):List V:=(xs.drop (HT.sIx xs.length 0 lo)).take (HT.sIx xs.length xs.length hi - HT.sIx xs.length 0 lo)
theorem zmY(xs:List V)(lo hi:Option Int):(zgT xs lo hi).length≤xs.length:=by
 unfold zgT
 rw[ψH,ψD1]
 (first|lia|omega)
end
end L2
namespace L2
open PySem PySem.Spec PyProof.Rows
def ixN(n:Nat)(i:Int):Option Nat:=if 0≤i then (if i<n then some i.toNat else none) else if -(n:Int)≤i then some (i+n).toNat else none
def atI{α:Type}(xs:List α)(i:Int):Option α:=(ixN xs.length i).bind λj=>xs[j]?
theorem zq0{n:Nat}{i:Int}{j:Nat}(h:ixN n i=some j):seqIndex? i n=some j∧j<n∧-(n:Int)≤i∧i<n:=by
 unfold ixN at h
 by_cases h0:0≤i
 ·rw[if_pos h0] at h
  by_cases h1:i<n
  ·rw[if_pos h1] at h
   have e:i.toNat=j:=Option.some.inj h
   exact⟨by rw[seqIndex_of h0 h1,e],by (first|lia|omega),by (first|lia|omega),h1⟩
  ·rw[if_neg h1] at h;cases h
 ·rw[if_neg h0] at h
  by_cases h1:-(n:Int)≤i
  ·rw[if_pos h1] at h
   have e:(i+n).toNat=j:=Option.some.inj h
   exact⟨by rw[seqIndex_neg (by (first|lia|omega)) h1,e],by (first|lia|omega),h1,by (first|lia|omega)⟩
  ·rw[if_neg h1] at h;cases h
theorem zq1{α:Type}{xs:List α}{i:Int}{v:α}(h:atI xs i=some v):∃j,seqIndex? i xs.length=some j∧xs[j]?=some v∧j<xs.length∧-(xs.length:Int)≤i∧i<xs.length:=by
 unfold atI at h
 cases e:ixN xs.length i with
 | none=>rw[e] at h;cases h
 | some j =>
  rw[e] at h
  obtain⟨h1,h2,h3,h4⟩:=zq0 e
  exact⟨j,h1,h,h2,h3,h4⟩
theorem zg8{α:Type}{xs:List α}{j:Nat}{v:α}(h:xs[j]?=some v):atI xs (j:Int)=some v:=by
 have hj:j<xs.length:=(List.getElem?_eq_some_iff.mp h).1
 have e:ixN xs.length (j:Int)=some j:=by
  unfold ixN
  rw[if_pos (by (first|lia|omega)),if_pos (by (first|lia|omega))];simp
 unfold atI;rw[e];exact h
theorem zsO{α:Type}(xs:List α)(v:α):atI (xs++[v]) (-1)=some v:=by
 have hl:(xs++[v]).length=xs.length+1:=by simp
 have e:ixN (xs++[v]).length (-1)=some xs.length:=by
  unfold ixN
  rw[hl,if_neg (by decide),if_pos (by (first|lia|omega))]
  congr 1
  (first|lia|omega)
 unfold atI
 rw[e]
 show(xs++[v])[xs.length]?=some v
 simp
def zuw(b:Expr):Prop:=∀o i,subscripted b false o i=operate [o,i] (getItem o i)
def IxR(X:Cx)(r:R2):Prop :=
 ∀(value slice:Expr) (pins:List (Addr×Obj)) (s:Shared) (σ:St) (H:Hp) (x y:V) (v u:Value) (Q:VK),Inv X pins σ H s→zdz x v→zdz y u→r x y H Q →
  subscripted slice false v u=operate [v,u] (getItem v u)→wpAny (model X.prog X.w) X.A (subscriptTail value slice v u) (EP X pins σ Q) X.xe s
def MtR(X:Cx)(id:String)(r:V→List V→Hp→VK→Prop):Prop :=
 ∀(pins:List (Addr×Obj)) (s:Shared) (σ:St) (H:Hp) (x:V) (xs:List V) (v:Value) (us:List Value) (Q:VK),Inv X pins σ H s→zdz x v→zb9 xs us→r x xs H Q →
  wpAny (model X.prog X.w) X.A (call (.builtin id) (v::us)) (EP X pins σ Q) X.xe s
section
variable {X:Cx} {a b:Expr} {ta tb:TE} {pos:Pos}
theorem zaS{r:R2}(hr:IxR X r)(ha:PE X a ta)(hb:PE X b tb)(hs:zuw b):PE X (.Subscript a b pos) (tOp r ta tb):=by
 intro pins s σ H Q I h
 exact Subscript_ (binT ha hb I h λv u s2 x y H2 I2 rx ry q=>hr a b pins s2 σ H2 x y v u Q I2 rx ry q (hs _ _))
def zhO(K:ψa):R2:=λx y H Q=>∃p xs i v,x=.ref p∧y=.int i∧SqL K H p xs∧atI xs i=some v∧Q v H
def zbM(K:ψa):R2:=λx y H Q=>∃p xs i v,x=.ref p∧y=.int i∧SqT K H p xs∧atI xs i=some v∧Q v H
theorem zdv:IxR X (zhO X.K):=by
 intro value slice pins s σ H x y v u Q I rx ry h hs
 obtain⟨p,xs,i,z,rfl,rfl,hq,he,q⟩:=h
 cases rx
 obtain⟨t,rfl⟩:=ry
 obtain⟨its,r,pl,hz⟩:=I.list hq
 obtain⟨j,h1,h2,h3,h4,h5⟩:=zq1 he
 obtain⟨w,ew,rw'⟩:=r.get h2
 have hl:=r.length
 have hn:=zlI
 have fin:EP X pins σ Q w s:=⟨z,H,I,rw',q⟩
 by_cases h0:0≤i
 ·have hj:i.toNat=j:=by
   rw[seqIndex_of h0 h5] at h1
   exact Option.some.inj h1
  exact item_listR pl.isList h0 (by (first|lia|omega)) (by rw[hj];simpa using ew) fin hs
 ·have hj:(i+(its.toArray.size:Int)).toNat=j:=by
   rw[seqIndex_neg (by (first|lia|omega)) h4] at h1
   rw[ψe,← hl]
   exact Option.some.inj h1
  exact subscriptTail_builtinR (x:=w) pl.isList.typeIs slot_list_getitem.lookup
   (wpAny_getItem_list_neg (Q:=λr s'=>r=w∧EP X pins σ Q r s') pl.isList (by (first|lia|omega)) (by rw[ψe] <;> (first|lia|omega)) (by (first|lia|omega)) (by rw[hj];simpa using ew) ⟨rfl,fin⟩) hs
theorem zaI:IxR X (zbM X.K):=by
 intro value slice pins s σ H x y v u Q I rx ry h hs
 obtain⟨p,xs,i,z,rfl,rfl,hq,he,q⟩:=h
 cases rx
 obtain⟨t,rfl⟩:=ry
 obtain⟨its,r,pl,hz⟩:=I.tuple hq
 obtain⟨j,h1,h2,h3,h4,h5⟩:=zq1 he
 obtain⟨w,ew,rw'⟩:=r.get h2
 have hl:=r.length
 have hn:=zlI
 have fin:EP X pins σ Q w s:=⟨z,H,I,rw',q⟩
 exact subscriptTail_builtinR (x:=w) pl.typeIs slot_tuple_getitem.lookup
  (getItem_tuple (j:=j) (Q:=λr s'=>r=w∧EP X pins σ Q r s') pl (by (first|lia|omega)) (by (first|lia|omega)) (by rw[ψe,← hl];exact h1) (by simpa using ew) ⟨rfl,fin⟩) hs
theorem zoD(its:List Value)(n j:Nat)(u:Value):Obj.mapSeq (·.setIfInBounds j u) { cls:=.type "list",data:=.seq its.toArray n }={ cls:=.type "list",data:=.seq (its.set j u).toArray n }:=by
 simp[Obj.mapSeq]
theorem Inv.lst{pins:List (Addr×Obj)}{σ:St}{H:Hp}{s:Shared}{p:Addr}{xs:List V}(I:Inv X pins σ H s)(h:H p=some (.lst xs)) :
  ∃(its:List Value) (n:Nat),zb9 xs its∧s.heap.get? p=some { cls:=.type "list",data:=.seq its.toArray n }∧xs.length≤sizeLine:=by
 obtain⟨z,its,n,r,e⟩:=I.hok p _ h
 exact⟨its,n,r,e,z⟩
theorem Inv.lstUpd{pins:List (Addr×Obj)}{σ:St}{H:Hp}{s:Shared}{p:Addr}{xs ys:List V}{its its':List Value}{n n':Nat}{f:Obj→Obj}(I:Inv X pins σ H s)(h:H p=some (.lst xs))
  (ho:s.heap.get? p=some { cls:=.type "list",data:=.seq its.toArray n }) (hf:f { cls:=.type "list",data:=.seq its.toArray n }={ cls:=.type "list",data:=.seq its'.toArray n' }) (r:zb9 ys its') (hz:ys.length≤sizeLine) (t:Nat) :
  Inv X pins σ (upd H p (.lst ys)) { s with heap:=s.heap.update p f,toks:=t }:=by
 have e:(s.heap.update p f).get? p=some { cls:=.type "list",data:=.seq its'.toArray n' }:=by
  rw[Heap.get?_update_self f ho (by rw[hf] <;> rfl),hf]
 refine I.write (x:=p) (e:=p) (by rw[h];trivial) (.inl rfl) (λb u hb q=>(Heap.get?_update_other _ _ (Ne.symm hb)).trans q) ⟨_,e⟩ ?_
 exact⟨hz,its',n',r,e⟩
def zq9:V→V→V→Hp→(Hp→Prop)→Prop:=λo i v H Q=>∃p xs k j,o=.ref p∧i=.int k∧H p=some (.lst xs)∧ixN xs.length k=some j∧Q (upd H p (.lst (xs.set j v)))
theorem zog:PSet X zq9:=by
 intro pins s σ H o i v ov iv u Q I ro ri rv h
 obtain⟨p,xs,k,j,rfl,rfl,hp,hj,q⟩:=h
 cases ro
 obtain⟨t,rfl⟩:=ri
 obtain⟨its,n,r,ho,hz⟩:=I.lst hp
 obtain⟨h1,h2,h3,h4⟩:=zq0 hj
 have hl:=r.length
 have hn:=zlI
 have I':Inv X pins σ (upd H p (.lst (xs.set j v))) { s with heap:=s.heap.update p (Obj.mapSeq (·.setIfInBounds j u)) } :=
  I.lstUpd hp ho (zoD its n j u) (r.set rv j) (by rw[List.length_set];exact hz) s.toks
 by_cases h0:0≤k
 ·have hk:k.toNat=j:=by
   rw[seqIndex_of h0 h4] at h1
   exact Option.some.inj h1
  exact PySem.W.ki_setAt ho h0 (by (first|lia|omega)) (by rw[ψe,← hl];exact h4) (by rw[hk];exact⟨_,I',q⟩)
 ·have hk:(k+(its.toArray.size:Int)).toNat=j:=by
   rw[seqIndex_neg (by (first|lia|omega)) h3] at h1
   rw[ψe,← hl]
   exact Option.some.inj h1
  exact PySem.W.ki_setBack ho (by (first|lia|omega)) (by rw[ψe,← hl];exact h3) (by (first|lia|omega)) (by rw[hk];exact⟨_,I',q⟩)
theorem zlM(lo hi:Option Int)(n:Nat):(sliceBounds lo hi none n).1=((HT.sIx n 0 lo:Nat):Int)∧(sliceBounds lo hi none n).2.1=((HT.sIx n n hi:Nat):Int)∧(sliceBounds lo hi none n).2.2=1:=by
 refine⟨?_,?_,rfl⟩
 ·cases lo with
  | none=>simp[sliceBounds,HT.sIx]
  | some i =>
   simp only[sliceBounds,HT.sIx,Option.getD_none,show(1:Int) > 0 by decide,if_true]
   by_cases h:i<0
   ·simp only[h,if_true] <;> (first|lia|omega)
   ·simp only[h,if_false] <;> (first|lia|omega)
 ·cases hi with
  | none=>simp[sliceBounds,HT.sIx]
  | some i =>
   simp only[sliceBounds,HT.sIx,Option.getD_none,show(1:Int) > 0 by decide,if_true]
   by_cases h:i<0
   ·simp only[h,if_true] <;> (first|lia|omega)
   ·simp only[h,if_false] <;> (first|lia|omega)
theorem zkd(its:List Value)(lo hi:Option Int):slicePick its.toArray lo hi none=((its.drop (HT.sIx its.length 0 lo)).take (HT.sIx its.length its.length hi - HT.sIx its.length 0 lo)).toArray:=by
 obtain⟨h1,h2,h3⟩:=zlM lo hi its.toArray.size
 unfold slicePick
 rw[h1,h2,h3]
 simp only[sliceRange_one,pick_run,ψe] <;> rfl
def zsb(K:ψa):V→Option Int→Option Int→Hp→VK→Prop:=λx lo hi H Q=>∃a xs,x=.ref a∧SqL K H a xs∧∀p,H p=none→Q (.ref p) (upd H p (.lst (zgT xs lo hi)))
theorem zkg:SlR X (zsb X.K):=by
 intro pins s σ H x v vl vu lo hi sl Q I rx hs pl pu h
 obtain⟨a,xs,rfl,hx,q⟩:=h
 cases rx
 obtain⟨its,r,ht,hz⟩:=I.list hx
 have hlen:=r.length
 refine⟨"list",_,slot_list_getitem.lookup,ht.isList.typeIs,?_⟩
 refine wpAny_getItem_list_slice ht.isList hs pl pu .none (by simp) ?_ (by rw[ψe] <;> (first|lia|omega))
 rw[zkd,← hlen]
 refine⟨.ref s.heap.objs.size,_,I.laid (t':=s.toks) (o:=.lst (zgT xs lo hi)) (λb ob q=>Heap.get?_push_of_some _ q) (ψh _) ?_,rfl,q _ (I.hok.fresh (ψh _))⟩
 exact⟨ψF (zmY xs lo hi) hz,_,0,(r.drop (HT.sIx xs.length 0 lo)).take (HT.sIx xs.length xs.length hi - HT.sIx xs.length 0 lo),Heap.get?_push_size _ rfl⟩
def eqV:V→V→Bool
 | .non,.non=>true
 | .bl a,.bl b=>a == b
 | .bl a,.int b=>(if a then 1 else 0) == b
 | .int a,.bl b=>a == (if b then 1 else 0)
 | .int a,.int b=>a == b
 | .str a,.str b=>a == b
 | _,_=>false
theorem zaN:zh7 X (.builtin "len") (λxs H Q=>∃p ys,xs=[.ref p]∧(SqL X.K H p ys∨SqT X.K H p ys)∧Q (.int ys.length) H):=by
 intro pins s σ H xs us Q I r h
 obtain⟨p,ys,rfl,hq,q⟩:=h
 obtain⟨u,rfl,rx⟩:=znk r
 cases rx
 have hn:=zlI
 rcases hq with hq | hq
 ·obtain⟨its,r',pl,hz⟩:=I.list hq
  have hlen:=r'.length
  exact Calls.call_len_list pl.isList (by simp only[ψe] <;> (first|lia|omega)) ⟨.int ys.length,H,I.tok _,⟨s.toks+1,by rw[ψe,hlen]⟩,q⟩
 ·obtain⟨its,r',pl,hz⟩:=I.tuple hq
  have hlen:=r'.length
  exact len_tuple pl (by simp only[ψe] <;> (first|lia|omega)) ⟨.int ys.length,H,I.tok _,⟨s.toks+1,by rw[ψe,hlen]⟩,q⟩
theorem zcM:zh7 X (.type "list") (λxs H Q=>∃p ys,xs=[.ref p]∧(SqL X.K H p ys∨SqT X.K H p ys)∧∀l,H l=none→Q (.ref l) (upd H l (.lst ys))):=by
 intro pins s σ H xs us Q I r h
 obtain⟨p,ys,rfl,hq,q⟩:=h
 obtain⟨u,rfl,rx⟩:=znk r
 cases rx
 have fin:∀(its:List Value),zb9 ys its→ys.length≤sizeLine→∀(h':Heap) (c':Nat),(∀b o',s.heap.get? b=some o'→h'.get? b=some o') →
   h'.get? s.heap.objs.size=some { cls:=.type "list",dict:=none,data:=.seq its.toArray c',slots:=#[] }→EP X pins σ Q (.ref s.heap.objs.size) { s with heap:=h' }:=λits r' hz h' c' kp e =>
  ⟨.ref s.heap.objs.size,_,I.laid (t':=s.toks) kp (ψh _) (show zc7 X.prog X.w _ h' _ (.lst ys) from⟨hz,its,c',r',e⟩),rfl,q _ (I.hok.fresh (ψh _))⟩
 rcases hq with hq | hq
 ·obtain⟨its,r',pl,hz⟩:=I.list hq
  have hlen:=r'.length
  obtain⟨o,ho,hc,n,hd⟩:=pl.isList
  exact call_list_seq p (.inl rfl) ho hc hd (λh' c' kp e=>fin its r' hz h' c' kp e) (by simp only[ψe] <;> (first|lia|omega))
 ·obtain⟨its,r',pl,hz⟩:=I.tuple hq
  have hlen:=r'.length
  obtain⟨o,ho,hc,n,hd⟩:=pl
  exact call_list_seq p (.inr rfl) ho hc hd (λh' c' kp e=>fin its r' hz h' c' kp e) (by simp only[ψe] <;> (first|lia|omega))
theorem zkB:zh7 X (.type "tuple") (λxs H Q=>∃p ys,xs=[.ref p]∧((SqL X.K H p ys∧∀l,H l=none→Q (.ref l) (upd H l (.tup ys)))∨(SqT X.K H p ys∧Q (.ref p) H))):=by
 intro pins s σ H xs us Q I r h
 obtain⟨p,ys,rfl,h⟩:=h
 obtain⟨u,rfl,rx⟩:=znk r
 cases rx
 rcases h with ⟨hq,q⟩ | ⟨hq,q⟩
 ·obtain⟨its,r',pl,hz⟩:=I.list hq
  have hlen:=r'.length
  refine call_tuple_list pl.isList (λh' kp=>?_) (by simp only[ψe] <;> (first|lia|omega))
  have I1:Inv X pins σ H { s with heap:=h' }:=I.kept (t':=s.toks) kp
  have I2:Inv X pins σ (upd H h'.objs.size (.tup ys)) { s with heap:=h'.push { cls:=.type "tuple",data:=.seq its.toArray } } :=
   I1.laid (t':=s.toks) (λb o e=>Heap.get?_push_of_some _ e) (ψh _) (show zc7 X.prog X.w _ _ _ (.tup ys) from⟨hz,its,r',IsTup.new _ _⟩)
  exact⟨.ref h'.objs.size,_,I2,rfl,q _ (I1.hok.fresh (ψh _))⟩
 ·obtain⟨its,r',pl,hz⟩:=I.tuple hq
  exact call_tuple_same pl ⟨.ref p,H,I,rfl,q⟩
def tyV(K:ψa)(T:String)(x:V)(H:Hp):Prop:=match x with
 | .str _=>T="str"
 | .int _=>T="int"
 | .ref p=>(T="list"∧∃xs,SqL K H p xs)∨(T="tuple"∧∃o,K.lookup p=some o∧o.cls=.type "tuple"∧o.dict=none) ∨
   (T="dict"∧((∃kvs,H p=some (.dK kvs))∨∃kvs,H p=some (.dT kvs)))∨(T="set"∧∃S n,H p=some (.set S n))
 | _=>False
theorem zyB{pins:List (Addr×Obj)}{σ:St}{H:Hp}{s:Shared}{T:String}{x:V}{v:Value}(I:Inv X pins σ H s)(r:zdz x v)(ty:tyV X.K T x H) :
  s.TypeIs v T∧∀a,v=.ref a→∃ob,s.heap.get? a=some ob∧ob.dict=none:=by
 cases x with
 | str z =>
  obtain⟨t,rfl⟩:=r
  cases (show T="str" from ty)
  exact⟨typeIs_str s z t,λ_ e=>nomatch e⟩
 | int i =>
  obtain⟨t,rfl⟩:=r
  cases (show T="int" from ty)
  exact⟨typeIs_int s i t,λ_ e=>nomatch e⟩
 | ref p =>
  cases r
  rcases ty with ⟨rfl,xs,hq⟩ | ⟨rfl,o,hk,hc,hd⟩ | ⟨rfl,hk⟩ | ⟨rfl,S,n,hk⟩
  ·obtain⟨its,_,pl,_⟩:=I.list hq
   refine⟨pl.isList.typeIs,λa e=>?_⟩
   cases e
   obtain⟨o,n,e,c,hd,_⟩:=pl
   exact⟨o,e,hd⟩
  ·refine⟨⟨o,I.kIn p o hk,hc⟩,λa e=>?_⟩
   cases e
   exact⟨o,I.kIn _ o hk,hd⟩
  ·have z:∃o,s.heap.get? p=some o∧o.ExactDict:=by
    rcases hk with ⟨kvs,hk⟩ | ⟨kvs,hk⟩
    ·obtain⟨_,_,_,_,o,_,_,e,ex,_⟩:=I.hok p _ hk
     exact⟨o,e,ex⟩
    ·obtain⟨_,_,_,_,o,_,_,e,ex,_⟩:=I.hok p _ hk
     exact⟨o,e,ex⟩
   obtain⟨o,e,ex⟩:=z
   refine⟨⟨o,e,ex.1⟩,λa e2=>?_⟩
   cases e2
   exact⟨o,e,ex.2.1⟩
  ·obtain⟨o,_,_,_,e,ex,_⟩:=I.hok p _ hk
   refine⟨⟨o,e,ex.1⟩,λa e2=>?_⟩
   cases e2
   exact⟨o,e,ex.2.1⟩
 | _=>exact False.elim ty
def tBM(K:ψa)(T:String)(r:V→List V→Hp→VK→Prop)(to:TE)(t:TA):TE:=λσ H Q=>to σ H λx H1=>tyV K T x H1∧t σ H1 λxs H2=>r x xs H2 Q
variable {o e:Expr} {es:List Expr} {to:TE} {t:TA} {name:Str} {apos cpos:Pos} {T id:String} {r:V→List V→Hp→VK→Prop}
theorem zia(pa:PlainAttrs T)(slot:Slot T name id)(hty:typeOf (.builtin id)=pure (.type "method_descriptor"))(hm:MtR X id r)(ho:PE X o to)(ha:PA X (e::es) t)
  (hbase:attributeBase o name X.env (eval o X.env)=eval o X.env:=by rfl)
  (hfew:((backTo cpos (starEach (e::es) X.env)).all (λx=>!x.1)&&(backToKw cpos (keywordEach [] X.env)).all (λx=>x.1.isSome)
   && decide ((e::es).length+([]:List Keyword).length+(if ([]:List Keyword).isEmpty then 0 else 1)<30))=true:=by rfl)
  (hline:(apos.endLine == cpos.line)=true:=by rfl) (hs:starEach (e::es) X.env=(false,eval e X.env)::starEach es X.env:=by rfl) (hplain:(backTo cpos (starEach es X.env)).any (·.1)=false:=by rfl) :
  PE X (.Call (.Attribute o name apos) (e::es) [] cpos) (tBM X.K T r to t):=by
 intro pins s σ H Q I h
 refine wpAny_Call_method_late hbase hfew hline rfl (thn (ho pins s σ H _ I h) λv s1 hQ'=>?_)
 obtain⟨x,H1,I1,r1,ty,q1⟩:=hQ'
 obtain⟨h1,h2⟩:=zyB I1 r1 ty
 refine⟨T,id,pa,slot,hty,h1,h2,?_⟩
 have hA:=ha cpos pins s1 σ H1 _ I1 q1
 rw[hs] at hA ⊢
 refine Calls.callWith_builtin (by show(false || (backTo cpos (starEach es X.env)).any (·.1))=false;rw[hplain] <;> rfl) (Calls.evalArgs_plain ?_)
 exact thn hA λus s2 ⟨vs,H2,I2,r2,q2⟩=>hm pins s2 σ H2 x vs v us Q I2 r1 r2 q2
end
end L2
namespace L2
open PySem PySem.Spec PyProof.Rows
def MtM(X:Cx)(id:String)(r:V→List V→Hp→VK→Prop):Prop :=
 ∀(pins:List (Addr×Obj)) (s:Shared) (σ:St) (H:Hp) (x:V) (xs:List V) (v:Value) (us:List Value) (Q:VK),Inv X pins σ H s→zdz x v→zb9 xs us→r x xs H Q →
  wpAny (model X.prog X.w) X.A (call (.builtin id) (v::us)) (EP X pins σ Q) X.xe s
theorem zb9.one:∀{x:V} {us:List Value},zb9 [x] us→∃u,us=[u]∧zdz x u
 | _,_,.cons r .nil=>⟨_,rfl,r⟩
theorem zb9.rep{xs:List V}{us:List Value}(h:zb9 xs us):∀k:Nat,zb9 (ψo k xs).flatten (ψo k us).flatten
 | 0=>.nil
 | k+1=>by
  rw[ψq1,ψq1,ψo1,ψo1]
  exact zb9.append h (zb9.rep h k)
theorem zlQ(its:List Value):∀(k:Nat) (acc:List Value),
  List.foldl (λx1 x2=>x1++x2) acc.toArray (ψo k its.toArray)=(acc++(ψo k its).flatten).toArray
 | 0,acc=>by simp
 | k+1,acc=>by
  have e:acc.toArray++its.toArray=(acc++its).toArray:=by simp
  have e2:(acc++its)++(ψo k its).flatten=acc++(ψo (k+1) its).flatten:=by
   rw[ψq1,ψo1,List.append_assoc]
  rw[← e2,← zlQ its k (acc++its),← e,ψq1,List.foldl_cons]
section
variable {X:Cx} {pins:List (Addr×Obj)} {σ:St} {H:Hp} {s:Shared} {l b:Addr} {xs ys zs:List V}
theorem Inv.lset{its its':List Value}{n:Nat}{f:Array Value→Array Value}{t':Nat}(I:Inv X pins σ H s)(hH:H l=some (.lst xs))
  (e:s.heap.get? l=some { cls:=.type "list",data:=.seq its.toArray n }) (hf:f its.toArray=its'.toArray) (hv:zb9 ys its') (hz:ys.length≤sizeLine) :
  Inv X pins σ (upd H l (.lst ys)) { s with heap:=s.heap.update l (Obj.mapSeq f),toks:=t' }:=by
 have q:=PySem.IsL.update e f
 rw[hf] at q
 refine I.write (x:=l) (e:=l) (by rw[hH];exact trivial) (.inl rfl) (λb' u hb hu=>(Heap.get?_update_other s.heap (Obj.mapSeq f) (Ne.symm hb)).trans hu) ⟨_,q⟩ ?_
 exact⟨hz,its',_,hv,q⟩
theorem Inv.lnew{its:List Value}{t':Nat}(I:Inv X pins σ H s)(hv:zb9 ys its)(hz:ys.length≤sizeLine) :
  Inv X pins σ (upd H s.heap.objs.size (.lst ys)) { s with heap:=s.heap.push { cls:=.type "list",data:=.seq its.toArray },toks:=t' } :=
 I.laid (λ_ _ q=>Heap.get?_push_of_some _ q) (ψh _) ⟨hz,its,0,hv,Heap.get?_push_size _ rfl⟩
theorem Inv.fresh(I:Inv X pins σ H s):H s.heap.objs.size=none:=I.hok.fresh (ψh _)
theorem Inv.lstM(I:Inv X pins σ H s)(hH:H l=some (.lst xs)):xs.length≤sizeLine∧∃(its:List Value) (n:Nat),zb9 xs its∧xs.length=its.length∧s.heap.get? l=some { cls:=.type "list",data:=.seq its.toArray n }:=by
 obtain⟨z,its,n,r,e⟩:=I.hok l _ hH
 exact⟨z,its,n,r,r.length,e⟩
theorem ztk{n:Nat}(h:n≤sizeLine):Builtin.List.listTooLong n=false:=by
 unfold Builtin.List.listTooLong
 exact decide_eq_false (by (first|lia|omega))
end
section
variable {X:Cx}
def zaR:V→List V→Hp→VK→Prop:=λx vs H Q=>∃l xs y,x=.ref l∧vs=[y]∧H l=some (.lst xs)∧xs.length<sizeLine∧Q .non (upd H l (.lst (xs++[y])))
theorem zbN:MtM X "list.append" zaR:=by
 intro pins s σ H x vs v us Q I rx rv h
 obtain⟨l,xs,y,rfl,rfl,hH,hz,q⟩:=h
 cases rx
 obtain⟨u,rfl,ru⟩:=rv.one
 obtain⟨z,its,n,r,hl,e⟩:=I.lstM hH
 refine call_meets F.slot_list_append ⟨_,e,rfl⟩ F.entry_list_append (F.args_list_append_2 _ _) (PySem.list_append l its.toArray n u (by rw[ψe];(first|lia|omega))) ⟨e,?_⟩
 refine⟨.non,_,I.lset (its':=its++[u]) hH e (by simp) (r.append (.cons ru .nil)) ?_,rfl,q⟩
 rw[ψs,List.length_singleton]
 (first|lia|omega)
def zox:R2:=λx y H Q=>∃l b xs zs,x=.ref l∧y=.ref b∧H l=some (.lst xs)∧H b=some (.lst zs)∧xs.length+zs.length≤sizeLine∧∀p,H p=none→Q (.ref p) (upd H p (.lst (xs++zs)))
theorem zlo:OpR X (binaryOp .Add) zox:=by
 intro pins s σ H x y v u Q I rx ry h
 obtain⟨l,b,xs,zs,rfl,rfl,hH,hB,hz,q⟩:=h
 cases rx
 cases ry
 obtain⟨z,its,n,r,hl,e⟩:=I.lstM hH
 obtain⟨z2,its2,n2,r2,hl2,e2⟩:=I.lstM hB
 refine PySem.P.add_list e e2 ?_ (by rw[ψe,ψe];(first|lia|omega))
 have ea:its.toArray++its2.toArray=(its++its2).toArray:=by simp
 rw[ea]
 exact⟨.ref _,_,I.lnew (t':=s.toks) (r.append r2) (by rw[ψs];(first|lia|omega)),rfl,q _ I.fresh⟩
def zuj:R2:=λx y H Q=>∃l k xs,x=.ref l∧y=.int k∧H l=some (.lst xs)∧-(2 ^ 63)≤k∧k<2 ^ 63∧xs.length*k.toNat≤sizeLine ∧
 ∀p,H p=none→Q (.ref p) (upd H p (.lst (ψo k.toNat xs).flatten))
theorem zuG{α:Type}(xs:List α)(k:Nat):(ψo k xs).flatten.length=k*xs.length:=by
 induction k with
 | zero=>simp
 | succ k ih=>rw[ψq1,ψo1,ψs,ih,Nat.succ_mul,Nat.add_comm]
theorem zqg:OpR X (binaryOp .Mult) zuj:=by
 intro pins s σ H x y v u Q I rx ry h
 obtain⟨l,k,xs,rfl,rfl,hH,h1,h2,hz,q⟩:=h
 cases rx
 obtain⟨t,rfl⟩:=ry
 obtain⟨z,its,n,r,hl,e⟩:=I.lstM hH
 have hlen:its.toArray.size*k.toNat≤sizeLine:=by rw[ψe,← hl];exact hz
 have hcap:¬ its.toArray.size*k.toNat > (2 ^ 63 - 1) / 8:=by
  have:(sizeLine:Nat)≤(2 ^ 63 - 1) / 8:=by decide
  (first|lia|omega)
 have hfit:¬ (!Builtin.List.listFitsIndex k)=true:=by
  rw[fitsIndex_both h1 h2]
  exact ψv
 have hlong:¬ Builtin.List.listTooLong (its.toArray.size*k.toNat)=true:=by
  rw[ztk hlen]
  exact ψv
 have hnew:List.foldl (λx1 x2=>x1++x2) #[] (ψo (if its.toArray.isEmpty=true then 0 else k.toNat) its.toArray)=(ψo k.toNat its).flatten.toArray:=by
  have f0:∀m:Nat,List.foldl (λx1 x2=>x1++x2) #[] (ψo m its.toArray)=(ψo m its).flatten.toArray:=λm=>by
   have:=zlQ its m []
   rw[List.nil_append] at this
   exact this
  rw[f0]
  cases its with
  | nil=>simp
  | cons a r'=>rw[if_neg (by simp)]
 refine wpAny_binaryOp_repeat_ref (T:="list") (U:="int") (by decide) ⟨_,e,rfl⟩ (λs'=>typeIs_int s' k t) noFill_list_mul F.fills_int_mul F.slot_int_rmul repeat_list F.slot_int_index.lookup
  (call_meets F.slot_int_rmul (typeIs_int s k t) F.entry_int_rmul (F.args_int_rmul_2 _ _) (int___rmul___int_list k t l its.toArray n)
   ⟨e,rfl,⟨_,e,rfl⟩,call_meets F.slot_list_mul ⟨_,e,rfl⟩ F.entry_list_mul (F.args_list_mul_2 _ _) (AutoListH.list___mul___list_int_3 l its.toArray n k t hfit hcap hlong) ⟨e,?_⟩⟩)
 rw[hnew]
 exact⟨.ref _,_,I.lnew (t':=s.toks) (r.rep k.toNat) (by rw[zuG,Nat.mul_comm];exact hz),rfl,q _ I.fresh⟩
end
section
variable {prog:Program} {w:World} {A:Around} {E:Value→Shared→Prop} {s:Shared}
end
section
variable {X:Cx}
end
end L2
namespace Att
open PySem PySem.W PySem.Calls PyProof.Rows
theorem zi6{P:Params}{h:Heap}:∀(ns:List Int) (vs:List Value),WellAll P h vs (ns.map WData.int)→IntsAre vs ns:=by
 intro ns
 induction ns with
 | nil =>
  intro vs w
  rw[ψE1] at w
  cases w
  exact .nil
 | cons n ns ih =>
  intro vs w
  rw[ψG] at w
  cases w with
  | cons a b =>
   cases a
   exact .cons _ _ (ih _ b)
theorem zqN{l:OpenLaw}{n:Nat}(hn:l.most=some n){P:Params}{h:Heap}{args:List WData}{vals:List Value}
  (hpre:l.row.toRowW.claim.pre args=true) (hwl:WellAll P h vals args) :
  ∃a vs ns,vals=[Value.ref a]∧args=[WData.list (ns.map WData.int)]∧h.get? a=some { cls:=.type "list",data:=.seq vs.toArray }∧IntsAre vs ns∧ns.length≤n:=by
 have hsh:WShape.hasAll [] args [.list .int]=true:=(pre_splitW hpre).1
 have hc:l.pre.holds [] { args:=args }=true:=(pre_splitW hpre).2
 obtain⟨d,r,rfl,h1,h2⟩:=hasAllW_cons hsh
 obtain rfl:=hasAllW_nil h2
 obtain⟨xs,rfl,h3⟩:=hasW_list h1
 obtain⟨ns,rfl⟩:=items_int h3
 have hlen:ns.length≤n:=by
  unfold OpenLaw.pre at hc
  have h4:(WTm.not (.lt (.lit (.int (n:Int))) (.len (.arg 0)))).holds [] { args:=[.list (ns.map .int)] }=true:=by
   have h4:=(holds_andW hc).1
   rw[hn] at h4
   exact h4
  have h5:=condW_of h4 (w_not (w_lt w_lit (w_len_list (w_arg rfl))))
  rw[ψb] at h5
  refine Nat.le_of_not_lt λq=>?_
  have q':(n:Int)<((ns.length:Nat):Int):=by (first|lia|omega)
  first
   | (rw[decide_eq_true q'] at h5;exact absurd h5 (by decide))
   | (simp at h5;(first|lia|omega))
 cases hwl with
 | cons w1 w2 =>
  cases w2
  cases w1 with
  | list ho hall=>exact⟨_,_,ns,rfl,rfl,ho,zi6 ns _ hall,hlen⟩
theorem zp6(l:OpenLaw)(args:List WData):l.row.toRowW.claim.post args (.bool true) args=true :=
 postW_of (r:=l.row.toRowW) (X:=(true == true))
  (show WShape.has [] (.bool true) .bool=true by first | rfl | decide | simp[WShape.has,WShape.arms,WShape.armsAll])
  (show(WTm.eq .res (.lit (.bool true))).value [] { args:=args,res:=some (.bool true),after:=args }=some (.bool (true == true)) from w_eq_bool (w_res rfl) w_lit) rfl
theorem attach_call{l:OpenLaw}{n:Nat}{q:Program}{loose:List Str}{XP:(Str→Option Value)→Heap→Prop}{YP:World→Heap→Prop}{d:DefRec}
  (hn:l.most=some n) (hdf:d.params.defaults=[])
  (call:∀(w:World) (s₀ s₁:Shared) (mg mb:Str→Option Value) (fa:Addr) (o:Obj) (pm cd doc:Value) (a:Addr) (vs:List Value) (ns:List Int),
   Ground q loose [] XP w s₀ mg mb s₁.heap→YP w s₁.heap →
   s₁.heap.get? fa=some o→o.data=.func (docDef d.name d.params d.body d.scope pm cd doc)→s₁.heap.CodeRec cd d.name→mg d.name=some (.ref fa) →
   s₁.heap.get? a=some { cls:=.type "list",data:=.seq vs.toArray }→IntsAre vs ns→ns.length≤n→s₁.gens=#[] →
   codeAny (model l.prog w) callerA (.call (.ref fa) ⟨[.ref a],[]⟩) (λr s'=>r=.ok (.ret (.bool true))∧OldK s₁.heap s'.heap∧s'.os=s₁.os∧AllBare s'.gens) s₁) :
  WalkO q loose XP YP l.row.toRowW d [] (λf vs=>PySem.call f vs):=by
 intro w s₀ s₁ mg mb G Y fa o pm cd doc dV kV ho hd hcd hD hmg hg args vals as hpre hlay hrd hwl hlo
 obtain rfl:dV=.none:=Dflts.none hD hdf
 obtain rfl:kV=.none:=Dflts.noKw hD
 obtain⟨a,vs,ns,rfl,rfl,hobj,hints,hlen⟩:=zqN hn hpre hwl
 refine enter_call (codeAny_mono (call w s₀ s₁ mg mb fa o pm cd doc a vs ns G Y ho (fd_plain hd) hcd hmg hobj hints hlen hg) λr s' hq=>?_)
 obtain⟨rfl,h2,h3,h4⟩:=hq
 exact⟨.inl ⟨.bool true,.bool true,[],rfl,λ_=>rfl,.bool true,zp6 l _,λ_=>⟨List.Pairwise.nil,λ_ hm=>(nomatch hm)⟩⟩,h2,h3,h4⟩
section
variable {prog:Program} {w:World} {A:Around} {E:Value→Shared→Prop} {s:Shared} {K:Frag}
end
end Att
namespace L2
open PySem PySem.Spec PyProof.Rows
theorem zln:∀{vs:List Value} {ns:List Int},IntsAre vs ns→zb9 (ns.map V.int) vs
 | _,_,.nil=>.nil
 | _,_,.cons n t h=>.cons ⟨t,rfl⟩ (zln h)
def Only(H:Hp):Prop:=∀b,H b=none∨∃o xs,H b=some (.frz o (.lst xs))
theorem zsS{P:Program}{w:World}{K:ψa}{mg mb:Str→Option Value}{CX:CXT}{k:Nat}{fa a:Addr}{fd:FuncData}{x:Str}{sp:Sp}{s₁:Shared}{vs:List Value}{ns:List Int}
  (KX:K.In s₁.heap) (hns:s₁.heap.Ns mainGlobals mg) (hb:s₁.heap.Ns builtinsNs mb) (hbb:∀x:Str,x≠"__name__"→mb x=bootBuiltins x) (hlim:s₁.heap.NoLimit) (hg:s₁.gens=#[])
  (ha:s₁.heap.get? a=some { cls:=.type "list",data:=.seq vs.toArray }) (hi:IntsAre vs ns) (hl:ns.length≤sizeLine) (hr:zjB k callerA)
  (F:∀base:Heap,K.In base→base.Ns mainGlobals mg→zcC P w K mg base CX k fa fd [x] sp) (hbind:∀(s:Shared) (u:Value),BindsTo s fd ⟨[u],[]⟩ [(x,u)])
  (hsp:∀H:Hp,Only H→SqL K H a (ns.map V.int)→sp [.ref a] H (λv _=>v=.bl true) λ_ _ _=>False)
  (hCX:∀H e s',CX [] H s₁ (λ_ _ _=>False) e s'→False) :
  codeAny (model P w) callerA (.call (.ref fa) ⟨[.ref a],[]⟩) (λr s'=>r=.ok (.ret (.bool true))∧OldK s₁.heap s'.heap∧s'.os=s₁.os∧AllBare s'.gens) s₁:=by
 have rv:=zln hi
 have lenV:=hi.length
 have core:∀H:Hp,Only H→SqL K H a (ns.map V.int)→HOk P w H s₁.heap→(∀b,H b≠none→b=a)→(H a≠none→K.lookup a=none) →
   codeAny (model P w) callerA (.call (.ref fa) ⟨[.ref a],[]⟩) (λr s'=>r=.ok (.ret (.bool true))∧OldK s₁.heap s'.heap∧s'.os=s₁.os∧AllBare s'.gens) s₁:=by
  intro H hO hS hok hA hK
  have base_of:∀{b:Addr} {o:Obj},s₁.heap.get? b=some o→H b=none→(zrH s₁.heap H).get? b=some o:=λe n=>ztv e n
  have noA:∀{b:Addr} {o:Obj} {es:Array DictEntry} {ep:Nat},s₁.heap.get? b=some o→o.data=.dict es ep→H b=none:=fun {b o es ep} e d=>by
   cases q:H b with
   | none=>rfl
   | some u =>
    have e':b=a:=hA b (by rw[q];simp)
    subst e'
    rw[ha] at e;cases e
    have d':Data.seq vs.toArray _=Data.dict es ep:=d
    cases d'
  have nsK:∀{b:Addr} {m:Str→Option Value},s₁.heap.Ns b m→(zrH s₁.heap H).Ns b m:=fun {b m} ⟨o,es,ep,e,d,r⟩=>⟨o,es,ep,base_of e (noA e d),d,r⟩
  have hKb:K.In (zrH s₁.heap H):=λb o e=>base_of (KX b o e) (by
   cases q:H b with
   | none=>rfl
   | some u =>
    have e':b=a:=hA b (by rw[q];simp)
    subst e'
    rw[hK (by rw[q];simp)] at e;cases e)
  have hM:Mod K mg (zrH s₁.heap H):=⟨hKb,nsK hns,⟨mb,nsK hb,hbb⟩,let ⟨mc,h1,h2⟩:=hlim;⟨mc,nsK h1,h2⟩⟩
  have e0:Env0 P w K mg (zrH s₁.heap H) callerA [] s₁ H:=⟨rfl,hM,λb o e=>zvW e,Nat.le_of_eq (zqd _ _),trivial,λb hb=>absurd (show b∈([]:List Addr) from hb) (by simp),hok,.of_eq hg⟩
  refine codeAny_mono ((F _ hKb (nsK hns)).run callerA [] s₁ H ⟨[.ref a],[]⟩ [.ref a] [.ref a] _ _ hr e0 (hbind s₁ (.ref a)) (.cons rfl .nil) (hsp H hO hS)) λr s' h=>?_
  cases r with
  | error e=>exact(hCX H e s' h).elim
  | ok fl =>
   cases fl with
   | next=>exact False.elim h
   | brk=>exact False.elim h
   | cont=>exact False.elim h
   | ret u =>
    obtain⟨v,H',os,bare,un,hok',r',q⟩:=h
    have q':v=.bl true:=q
    subst q'
    obtain rfl:u=Value.bool true:=r'
    refine⟨rfl,OldK.of_keep λb o e=>?_,os,bare⟩
    cases q:H b with
    | none=>exact un.keep b o e q (by intro z;exact absurd (show b∈([]:List Addr) from z) (by simp)) (by simp)
    | some u =>
     rcases hO b with z | ⟨ob,xs,z⟩
     ·rw[q] at z;cases z
     ·have z2:=un.frzs b ob _ z
      obtain⟨e1,_⟩:=hok b _ z
      obtain⟨e2,_⟩:=hok' b _ z2
      rw[e] at e1;cases e1
      exact e2
 cases hk:K.lookup a with
 | some o =>
  have e:=KX a o hk
  rw[ha] at e
  cases e
  refine core (λ_=>none) (λ_=>.inl rfl) (.inr ⟨_,vs.toArray,_,hk,rfl,rfl,rfl,by rw[ψe,lenV];exact hl,by simpa using rv⟩) (λb u z=>by have z':(none:Option HO)=some u:=z;cases z') (λb z=>absurd rfl z) λz=>absurd rfl z
 | none =>
  refine core (λb=>if b=a then some (.frz { cls:=.type "list",data:=.seq vs.toArray } (.lst (ns.map V.int))) else none) (λb=>?_) (.inl (.inr ⟨{ cls:=.type "list",data:=.seq vs.toArray },if_pos rfl⟩)) (λb u z=>?_) (λb z=>?_) λ_=>hk
  ·by_cases hb:b=a
   ·exact .inr ⟨_,_,if_pos hb⟩
   ·exact .inl (if_neg hb)
  ·by_cases hb:b=a
   ·have z':=(if_pos hb).symm.trans z
    cases z'
    subst hb
    exact⟨ha,by rw[ψb];exact hl,vs,_,rv,ha⟩
   ·have z':=(if_neg hb).symm.trans z
    cases z'
  ·by_cases hb:b=a
   ·exact hb
   ·exact absurd (if_neg hb) z
end L2
namespace L2
open PySem PySem.Spec PyProof.Rows
theorem zwd{l:PySem.W.OpenLaw}{n k:Nat}{q:Program}{loose:List Str}{XP:(Str→Option Value)→Heap→Prop}{YP:World→Heap→Prop}{d:DefRec}{K:Params→ψa}{CX:World→CXT}{sp:World→Sp}{x:Str}
  (hn:l.most=some n) (hn2:n≤sizeLine) (hdf:d.params.defaults=[]) (hr:zjB k callerA)
  (hY:∀(w:World) (h:Heap),YP w h→(K w.params).In h)
  (F:∀(w:World) (mg:Str→Option Value) (fa:Addr) (h:Heap),(K w.params).In h→h.Ns mainGlobals mg→mg d.name=some (.ref fa) →
   ∃fd:FuncData,(∀(s:Shared) (u:Value),BindsTo s fd ⟨[u],[]⟩ [(x,u)]) ∧
    ∀base:Heap,(K w.params).In base→base.Ns mainGlobals mg→zcC l.prog w (K w.params) mg base (CX w) k fa fd [x] (sp w))
  (hsp:∀(w:World) (H:Hp) (a:Addr) (ns:List Int),ns.length≤n→Only H→SqL (K w.params) H a (ns.map V.int)→sp w [.ref a] H (λv _=>v=.bl true) λ_ _ _=>False)
  (hCX:∀(w:World) (H:Hp) (s:Shared) (e:Value) (s':Shared),CX w [] H s (λ_ _ _=>False) e s'→False) :
  PySem.W.WalkO q loose XP YP l.row.toRowW d [] (λf vs=>PySem.call f vs):=by
 refine Att.attach_call hn hdf λw s₀ s₁ mg mb fa o pm cd doc a vs ns G Y ho hd hcd hmg hobj hints hlen hg=>?_
 have KX:=hY w _ Y
 obtain⟨fd,hb,hF⟩:=F w mg fa _ KX G.T.g hmg
 exact zsS KX G.T.g G.T.b G.T.builtins G.T.nolimit hg hobj hints (ψF hlen hn2) hr hF hb (λH hO hS=>hsp w H a ns hlen hO hS) λH e s'=>hCX w H s₁ e s'
end L2
namespace L2
open PySem PySem.Spec PyProof.Rows
def zho(s:Stmt):Arguments:=match s with
 | .FunctionDef _ a _ _ _ _ _ _ _ _=>a
 | _=>{ posonlyargs:=[],args:=[],vararg:=none,kwonlyargs:=[],kw_defaults:=[],kwarg:=none,defaults:=[] }
def zfT(s:Stmt):List Stmt:=match s with
 | .FunctionDef _ _ b _ _ _ _ _ _ _=>b
 | _=>[]
def zai(s:Stmt):Scope:=match s with
 | .FunctionDef _ _ _ _ _ _ sc _ _ _=>sc
 | _=>{ kind:=.function,names:=[],isGenerator:=false,isCoroutine:=false }
abbrev CX0:CXT:=λ_ _ _ _ _ _=>False
abbrev E0:XK:=λ_ _ _=>False
theorem zaH{X:Cx}:zn0 CX0 X E0:=λ_ _ _ _ _ _ _ h=>h.elim
structure Fun (K:ψa) (x qual:Str) (st:Stmt) (f:Addr) (fd:FuncData):Prop where
 ex:∃(oc:Value) (od:Option Addr) (kV doc pm:Value) (an:Option Addr) (cdv ct:Value) (osl:Array (Option Value)),
  fd=ψC1 x qual (zho st) (zfT st) (zai st) .none kV doc pm an cdv ct∧K.lookup f=some ⟨oc,od,.func fd,osl⟩∧PySem.W.codeIn K cdv qual=true
 kp:ψB1 K (.ref f)=true
section
variable {P:Program} {w:World} {K:ψa} {mg:Str→Option Value} {base:Heap}
theorem Fun.ok{x qual:Str}{st:Stmt}{f:Addr}{fd:FuncData}{N ps:List Str}{k:Nat}{sp:Sp}(F:Fun K x qual st f fd)(S:zaA N ps (zai st))(len:∀vs H Q E,sp vs H Q E→vs.length=ps.length)
  (hbody:∀(cdv:Value) (A:Around) (outer:List Env) (s:Shared) (H:Hp) (vs:List V) (Q:VK) (E:XK),zjB k (A.deeper (envOfC qual (zai st) s.heap.objs.size f cdv))→sp vs H Q E →
   ∃t,PSs (zrA CX0 P w K mg base N qual (zai st) f cdv A outer s H E).nox (zfT st) t∧t { nx:=λ_ H'=>Q .non H',rt:=Q } (start N vs) H):zcC P w K mg base CX0 (k+1) f fd ps sp:=by
 obtain⟨oc,od,kV,doc,pm,an,cdv,ct,osl,rfl,lk,hcd⟩:=F.ex
 refine zwO lk hcd S len λA outer s H vs Q E hr hsp=>?_
 obtain⟨t,h,q⟩:=hbody cdv A outer s H vs Q E hr hsp
 exact⟨t,h.nox,q⟩
theorem Fun.binds{x qual:Str}{st:Stmt}{f:Addr}{fd:FuncData}{ps:List Str}(F:Fun K x qual st f fd)
  (h:∀(kV doc pm:Value) (an:Option Addr) (cdv ct:Value) (us:List Value),us.length=ps.length→bindArgs (ψC1 x qual (zho st) (zfT st) (zai st) .none kV doc pm an cdv ct) ⟨us,[]⟩=pure (ps.zip us)):za4 K fd ps []:=by
 obtain⟨oc,od,kV,doc,pm,an,cdv,ct,osl,rfl,lk,hcd⟩:=F.ex
 exact .all (h kV doc pm an cdv ct)
theorem zaO{x qual:Str}{st:Stmt}{f:Addr}{oc:Value}{od an:Option Addr}{osl:Array (Option Value)}{kV doc pm cdv ct:Value}(l:K.lookup f=some ⟨oc,od,.func (ψC1 x qual (zho st) (zfT st) (zai st) .none kV doc pm an cdv ct),osl⟩)
  (c:PySem.W.codeIn K cdv qual=true) (k:ψB1 K (.ref f)=true):Fun K x qual st f (ψC1 x qual (zho st) (zfT st) (zai st) .none kV doc pm an cdv ct):=⟨⟨oc,od,kV,doc,pm,an,cdv,ct,osl,rfl,l,c⟩,k⟩
end
theorem zbC{n:Nat}(h:n≤1000):n<sizeLine:=ψJ1 h (by decide)
section
variable {X:Cx}
theorem pv(i:Nat){x:Str}{pos:Pos}(hN:X.N[i]?=some x:=by rfl)(hv:Vis X.env.scope x:=by first | exact Or.inl rfl | exact Or.inr (Or.inl rfl) | exact Or.inr (Or.inr rfl))(hd:(x == ("__debug__":Str))=false:=by decide)
  (hcd:(x == ("__classdict__":Str))=false:=by decide):PE X (.Name x pos) (zac i):=zwQ hN hv hd hcd
end
theorem zti{A B:Prop}(h:B):if false=true then A else B:=by
 rw[if_neg ψv]
 exact h
theorem zru{A B:Prop}(h:A):if true=true then A else B:=by
 rw[if_pos rfl]
 exact h
theorem zel{c A B:Prop}[Decidable c](h1:c→A)(h2:¬ c→B):if c then A else B:=by
 by_cases h:c
 ·rw[if_pos h]
  exact h1 h
 ·rw[if_neg h]
  exact h2 h
def zaF(H H':Hp):Prop:=∀b o,H b=some o→H' b=some o
theorem zaF.refl(H:Hp):zaF H H:=λ_ _ h=>h
theorem zaF.trans{H H1 H2:Hp}(a:zaF H H1)(b:zaF H1 H2):zaF H H2:=λc o h=>b c o (a c o h)
theorem zaF.free{H H':Hp}(e:zaF H H'){l:Addr}(h:H' l=Option.none):H l=Option.none:=by
 cases q:H l with
 | none=>rfl
 | some o =>
  rw[e l o q] at h
  cases h
theorem zaF.seq{K:ψa}{H H':Hp}{a:Addr}{xs:List V}(e:zaF H H')(h:SqL K H a xs):SqL K H' a xs:=by
 rcases h with (h | ⟨o,h⟩) | h
 ·exact .inl (.inl (e _ _ h))
 ·exact .inl (.inr ⟨o,e _ _ h⟩)
 ·exact .inr h
end L2
namespace L2
open PySem PySem.Spec PyProof.Rows
section
variable {X:Cx}
theorem zsa:OpR X (binaryOp .FloorDiv) (rI (λ_ j=>0<j∧j.natAbs.log2<9000) λi j=>.int (i / j)):=opI λi j _ _ _ _ _ hc q=>by
 have h1:(0:Int)<j:=hc.1
 exact floordiv_int (by (first|lia|omega)) (by rw[ψX i (by (first|lia|omega))];exact q) (.inl (PyProof.noPylong_of_log2 hc.2))
theorem zdV:OpR X (binaryOp .FloorDiv) (rI (λ_ j=>j≠0∧j.natAbs.log2<9000) λi j=>.int (i.fdiv j)):=opI λ_ _ _ _ _ _ _ hc q=>floordiv_int hc.1 q (.inl (PyProof.noPylong_of_log2 hc.2))
theorem zhj:OpR X (binaryOp .Mod) (rI (λ_ j=>j≠0) λi j=>.int (i.fmod j)):=zuT
theorem zaG:OpR X (binaryOp .Mult) (rI IntMulOk λi j=>.int (i*j)):=opI λ_ _ _ _ _ _ _ hc q=>mul_int q hc
theorem zrw{i j:Int}(h1:-(2 ^ 64)<j)(h2:j<2 ^ 64):IntMulOk i j:=.of_right (intBits_le_64 h1 h2)
theorem mulL{i j:Int}(h1:-(2 ^ 64)<i)(h2:i<2 ^ 64):IntMulOk i j:=.of_left (intBits_le_64 h1 h2)
theorem zeM{i j:Int}(m n:Nat)(h1:i.natAbs<2 ^ m)(h2:j.natAbs<2 ^ n)(h:m+n≤134217728:=by decide):IntMulOk i j:=.of_le (intBits_le_iff.mpr h1) (intBits_le_iff.mpr h2) h
theorem zhG{j:Int}(m:Nat)(h0:j≠0)(h:j.natAbs<2 ^ m)(hm:m≤9000:=by decide):j.natAbs.log2<9000 :=
 ψi ((Nat.log2_lt (by (first|lia|omega))).mpr h) hm
theorem znF:bootBuiltins "int"=some (.type "int"):=by decide +kernel
theorem zrm:bootBuiltins "bool"=some (.type "bool"):=by decide +kernel
theorem zcE:bootBuiltins "list"=some (.type "list"):=by decide +kernel
theorem ziE:bootBuiltins "ValueError"=some (.type "ValueError"):=by decide +kernel
theorem ze2:bootBuiltins "tuple"=some (.type "tuple"):=by decide +kernel
theorem zlR(K:ψa):ψc K (.type "int") (.type "bool")=some false:=by first | rfl | kernel_rfl
def zuY(a:Addr)(c:Value)(h:Heap):Prop:=∃oe vs,h.get? a=some oe∧oe.cls=c∧oe.data=.fields vs
def excO(a:Addr)(c:Value):HO:=.ext (zuY a c)
structure zfS (K:ψa) (c:Value):Prop where
 kit:∀a:Addr,PySem.W.KitX K (.ref a) c (zuY a c)
inductive TyX (K:ψa) (H:Hp):V→Value→Prop where
 | of {x:V} {t:Value} (h:znR K H x t):TyX K H x t
 | exc {a:Addr} {c:Value} (h:H a=some (excO a c)) (k:zfS K c):TyX K H (.ref a) c
def zxu:V→Option Value
 | .ty n=>some (.type n)
 | .ref c=>some (.ref c)
 | _=>none
def zij(K:ψa):List V→Hp→VK→Prop:=λxs H Q=>∃x c t cv b,xs=[x,c]∧zxu c=some cv∧TyX K H x t∧ψc K t cv=some b∧Q (.bl b) H
def znY(C:Value)(E:XK):TS:=λ_ _ H=>E C none H
def zqz(sp:Sp)(dvs:List V)(E:St→XK)(t:TA):TE:=λσ H Q=>t σ H λvs H1=>sp (vs++dvs) H1 Q (E σ)
theorem znb{K:ψa}{H:Hp}{Q:VK}{i:Int}(q:Q (.bl true) H):zij K [.int i,.ty "int"] H Q:=⟨_,_,_,_,true,rfl,rfl,.of (.int i),rfl,q⟩
theorem zlP{K:ψa}{H:Hp}{Q:VK}{i:Int}(q:Q (.bl false) H):zij K [.int i,.ty "bool"] H Q:=⟨_,_,_,_,false,rfl,rfl,.of (.int i),zlR K,q⟩
theorem zfo{K:ψa}{H:Hp}{Q:VK}{r:Addr}{xs:List V}(h:H r=some (.tup xs))(q:Q (.bl true) H):zij K [.ref r,.ty "tuple"] H Q:=⟨_,_,_,_,true,rfl,rfl,.of (.tup h),rfl,q⟩
theorem zkC{c:V}{u cv:Value}(r:zdz c u)(h:zxu c=some cv):u=cv:=by
 cases c with
 | ty n=>cases r;exact Option.some.inj h
 | ref a=>cases r;exact Option.some.inj h
 | _=>cases h
theorem zbO:zh7 X (.builtin "isinstance") (zij X.K):=by
 intro pins s σ H xs us Q I r h
 obtain⟨x,c,t,cv,b,rfl,hc,ty,e,q⟩:=h
 obtain⟨u,w',rfl,rx,rw'⟩:=zso r
 obtain rfl:=zkC rw' hc
 cases ty with
 | of ty=>exact zqJ I rx ty e λtk=>⟨.bl b,H,I.tok tk,rfl,q⟩
 | @exc a c h k =>
  cases (show u=Value.ref a from rx)
  obtain⟨p,_,_⟩:=(show zc7 X.prog X.w H s.heap a (excO a t) from I.hok a _ h)
  exact ψW (k.kit a) I.kIn p e (λz=>nomatch z) λtk=>⟨.bl b,H,I.tok tk,rfl,q⟩
def rEqT(K:ψa):R2:=λx y H Q=>∃(a b:Addr) (ns ms:List Int),x=.ref a∧y=.ref b∧SqT K H a (ns.map V.int)∧SqT K H b (ms.map V.int)∧Q (.bl (decide (ns=ms))) H
theorem zmt:∀{ns:List Int} {us:List Value},zb9 (ns.map V.int) us→∀{j:Nat} (h:j<us.length),∃(h':j<ns.length) (t:Tok),us[j]=.int ns[j] t
 | [],_,.nil,j,h=>absurd h (ψx1 _)
 | n::ns,_,.cons r t,0,h=>by
  obtain⟨t',rfl⟩:=r
  exact⟨Nat.succ_pos _,t',rfl⟩
 | n::ns,_,.cons r t,j+1,h=>by
  obtain⟨h',t',e⟩:=zmt t (j:=j) (Nat.lt_of_succ_lt_succ h)
  exact⟨Nat.succ_lt_succ h',t',e⟩
theorem zkT{l:List Int}{j:Nat}(h:j<l.length):l.getD j 0=l[j]:=by
 rw[ψA,ψd h]
 rfl
theorem zsk{ns ms:List Int}:((ψi1 (min ns.length ms.length)).all (λj=>ns.getD j 0 == ms.getD j 0)&&ns.length == ms.length)=decide (ns=ms):=by
 by_cases h:ns=ms
 ·subst h
  rw[decide_eq_true rfl,ψL]
  refine⟨List.all_eq_true.mpr λj _=>beq_self_eq_true _,beq_self_eq_true _⟩
 ·rw[decide_eq_false h]
  refine Bool.eq_false_iff.mpr λz=>h ?_
  obtain⟨z1,z2⟩:=(ψL _ _).mp z
  have hl:ns.length=ms.length:=beq_iff_eq.mp z2
  refine List.ext_getElem hl λj h1 h2=>?_
  have q:=List.all_eq_true.mp z1 j (List.mem_range.mpr (by (first|lia|omega)))
  have q':ns.getD j 0=ms.getD j 0:=beq_iff_eq.mp q
  rw[zkT h1,zkT h2] at q'
  exact q'
theorem zqR{A:Around}{s:Shared}{ns ms:List Int}{us ws:List Value}(r1:zb9 (ns.map V.int) us)(r2:zb9 (ms.map V.int) ws) :
  ∀j (h1:j<us.toArray.size) (h2:j<ws.toArray.size),SeqAt.EqAt A s us.toArray[j] ws.toArray[j] (ns.getD j 0 == ms.getD j 0):=by
 intro j h1 h2
 rw[ψe] at h1 h2
 obtain⟨k1,t1,e1⟩:=zmt r1 h1
 obtain⟨k2,t2,e2⟩:=zmt r2 h2
 rw[List.getElem_toArray,List.getElem_toArray,e1,e2,zkT k1,zkT k2]
 exact SeqAt.EqAt.int_int _ _ _ _
theorem zyf(hu:X.A.units<cLine):OpR X (compareOp .Eq) (rEqT X.K):=by
 intro pins s σ H x y v u Q I rx ry h
 obtain⟨a,b,ns,ms,rfl,rfl,ha,hb,q⟩:=h
 cases rx
 cases ry
 obtain⟨us,r1,p1,_⟩:=I.tuple ha
 obtain⟨ws,r2,p2,_⟩:=I.tuple hb
 have l1:=r1.length
 have l2:=r2.length
 rw[ψb] at l1 l2
 refine SeqAt.RcAt.tuples p1 p2 hu (e:=λj=>ns.getD j 0 == ms.getD j 0) (zqR r1 r2) X.prog X.w X.xe _ ⟨.bl _,H,I,rfl,?_⟩
 rw[ψe,ψe,← l1,← l2,zsk]
 exact q
def tTru(K:ψa)(ta:TE):TT:=λσ H Q=>ta σ H λx H'=>∃k,zwR K x H' k∧Q k H'
def zdq(t:TS):TS:=λD σ H=>∃R:St→Hp→Prop,t { D with nx:=R } σ H∧∀σ' H',R σ' H'→D.nx σ' H'
theorem zbB{st:Stmt}{t:TS}(h:PS X st t):PS X st (zdq t):=by
 intro pins s σ H D I hw
 obtain⟨R,hw,hR⟩:=hw
 refine thn (h pins s σ H _ I hw) λf s' q=>?_
 cases f with
 | next=>obtain⟨σ',H',I',q⟩:=q;exact⟨σ',H',I',hR _ _ q⟩
 | brk=>exact q
 | cont=>exact q
 | ret u=>exact q
end
theorem zaq{H:Hp}{p:Addr}(h:H p=none)(o:HO):zaF H (upd H p o):=λb u q=>by rw[zaP (zaM q h)];exact q
theorem zaF.add{H0 H:Hp}{p:Addr}{o:HO}(s:zaF H0 H)(h:H p=none):zaF H0 (upd H p o):=s.trans (zaq h o)
theorem zaF.put{H0 H:Hp}{p:Addr}{o:HO}(s:zaF H0 H)(h:H0 p=none):zaF H0 (upd H p o):=λb u q=>by rw[zaP (zaM q h)];exact s _ _ q
theorem ztK{K:ψa}{i:Int}{H:Hp}{k:Bool}:zwR K (.int i) H k=(k=(i != 0)):=rfl
theorem zvF{K:ψa}{i:Bool}{H:Hp}{k:Bool}:zwR K (.bl i) H k=(k=i):=rfl
theorem ztV(a b:Int):scal (.int a) (.int b)=true:=rfl
theorem zu1(a b:Bool):scal (.bl a) (.bl b)=true:=rfl
theorem zw1{ns:List Int}{k:Int}(h0:0≤k)(h:k<(ns.length:Int)):∃v:Int,atI (ns.map V.int) k=some (.int v)∧ns[k.toNat]?=some v:=by
 have hk:k.toNat<ns.length:=by (first|lia|omega)
 have ek:k=((k.toNat:Nat):Int):=by (first|lia|omega)
 have q:atI (ns.map V.int) ((k.toNat:Nat):Int)=some (.int ns[k.toNat]):=zg8 (by rw[ψD,ψd hk] <;> rfl)
 rw[← ek] at q
 exact⟨ns[k.toNat],q,ψd hk⟩
def zqM(J:It)(g:TG)(tb:TS):TS:=λD σ H=>∃W:Nat→Nat→St→Hp→Prop,(∃m,W 0 m σ H)∧∀i m σ H,W i m σ H →
 (J.stop i H∧D.nx σ H)∨(J.go i H∧∃N:St→Hp→Prop,(∀σ' H',N σ' H'→∃m',m'<m∧W (i+1) m' σ' H')∧∀x H',J.yld i H x H'→g x σ H' λσ2 H2=>tb { D with nx:=N,ct:=N,bk:=D.nx } σ2 H2)
theorem zus{wi:TI}{g:TG}{tb:TS}{D:zbP}{σ:St}{H:Hp}:zjy wi g tb D σ H=wi σ H λJ H1=>zqM J g tb D σ H1:=rfl
theorem ze0{lo:Int}{n:Nat}{g:TG}{tb:TS}{D:zbP}{σ:St}{H:Hp}(Pv:Nat→St→Hp→Prop)(h0:Pv 0 σ H)
  (hs:∀i σ H,i<n→Pv i σ H→g (.int (lo+i)) σ H λσ2 H2=>tb { D with nx:=Pv (i+1),ct:=Pv (i+1),bk:=D.nx } σ2 H2) (hd:∀σ H,Pv n σ H→D.nx σ H):zqM (Itr lo n) g tb D σ H:=zpQ Pv h0 hs hd
theorem zeW{K:ψa}{a:Addr}{xs:List V}{g:TG}{tb:TS}{D:zbP}{σ:St}{H:Hp}(Pv:Nat→St→Hp→Prop)(h0:Pv 0 σ H)(hl:∀i σ H,i≤xs.length→Pv i σ H→SqL K H a xs)
  (hs:∀i x σ H,xs[i]?=some x→Pv i σ H→g x σ H λσ2 H2=>tb { D with nx:=Pv (i+1),ct:=Pv (i+1),bk:=D.nx } σ2 H2) (hd:∀σ H,Pv xs.length σ H→D.nx σ H):zqM (Itl K a) g tb D σ H:=zrE Pv h0 hl hs hd
end L2
namespace L2
open PySem PySem.Spec PyProof.Rows
section
variable {P:Program} {w:World}
theorem zc7.there{H:Hp}{h:Heap}{a:Addr}{o:HO}(x:zc7 P w H h a o):∃ob,h.get? a=some ob:=by
 cases o with
 | lst xs=>obtain⟨_,_,_,_,e⟩:=x;exact⟨_,e⟩
 | tup xs=>obtain⟨_,_,_,ob,e,_⟩:=x;exact⟨ob,e⟩
 | dK kvs=>obtain⟨_,_,_,_,ob,_,_,e,_⟩:=x;exact⟨ob,e⟩
 | dT kvs=>obtain⟨_,_,_,_,ob,_,_,e,_⟩:=x;exact⟨ob,e⟩
 | set S n=>obtain⟨ob,_,_,_,e,_⟩:=x;exact⟨ob,e⟩
 | ins C dx fs=>obtain⟨_,_,_,e,_⟩:=x;exact⟨_,e⟩
 | own y=>exact x
 | xd fs=>obtain⟨_,⟨ob,_,_,e,_⟩,_⟩:=x;exact⟨ob,e⟩
 | rng lo hi=>obtain⟨_,_,_,e⟩:=x;exact⟨_,e⟩
 | frz ob u=>obtain⟨e,_⟩:=x;exact⟨ob,e⟩
 | tbl ps=>exact⟨_,(show h.get? a=some _ from x)⟩
 | met f y=>exact⟨_,(show h.get? a=some _ from x)⟩
 | ext φ=>obtain⟨_,⟨ob,e⟩,_⟩:=x;exact⟨ob,e⟩
structure zv6 (P:Program) (w:World) (outer:List Env) (H:Hp) (s:Shared) (E:XK) (ea:Addr) (s':Shared) (B:Heap) (cls a0:Value) (H':Hp):Prop where
 os:s'.os=s.os
 bare:AllBare s'.gens
 un:Un (frs outer) [] H H' s.heap s'.heap
 hokB:HOk P w H' B
 fly:Heap.FlyingW B outer ea cls a0 s'.heap
 cov:∀b o,s.heap.get? b=some o→H b=none→b∉frs outer→B.get? b=some o
 covT:∀b o,s.heap.get? b=some o→b∉frs outer→∃o',B.get? b=some o'
 new:s.heap.get? ea=none
 free:H' ea=none
 want:E cls none H'
theorem zv6.later{outer:List Env}{H H':Hp}{s s':Shared}{E:XK}{ea:Addr}{B h:Heap}{cls a0:Value}(x:zv6 P w outer H s E ea s' B cls a0 H')(st:B.StaysIn h)(sm:s'.heap.UpToSlots h)
  (ff:s'.heap.FunFrames B outer):Un (frs outer) [] H H' s.heap h∧HOk P w H' h:=by
 have slot:∀b o,s'.heap.get? b=some o→b∈frs outer→∃sl,h.get? b=some { o with slots:=sl }:=λb o e hb=>by
  obtain⟨_,o',e',nf⟩:=ff.mem hb
  rw[e] at e'
  cases e'
  exact sm b o e nf
 refine⟨⟨λb o e n hb _=>st b o (x.cov b o e n hb),λb o e n hb hx=>?_,x.un.free,λb o e hx=>?_,x.un.tups,x.un.frzs,x.un.tbls⟩,x.hokB.kept st⟩
 ·obtain⟨sl,e1⟩:=x.un.slot b o e n hb hx
  obtain⟨sl',e2⟩:=slot b _ e1 hb
  exact⟨sl',e2⟩
 ·by_cases hb:b∈frs outer
  ·obtain⟨o1,e1⟩:=x.un.there b o e hx
   obtain⟨sl,e2⟩:=slot b o1 e1 hb
   exact⟨_,e2⟩
  ·obtain⟨o',e'⟩:=x.covT b o e hb
   exact⟨o',st b o' e'⟩
end
section
variable {P:Program} {w:World} {K:ψa} {mg:Str→Option Value} {base:Heap} {N:List Str} {qual:Str} {scope:Scope} {f:Addr} {cd:Value} {A:Around} {outer:List Env} {s₀:Shared} {H₀:Hp} {E:XK}
end
def zt6(X:Cx)(C:Addr)(E:XK):Prop:=∀(pins:List (Addr×Obj)) (σ:St) (H:Hp) (s:Shared) (ea:Addr) (h':Heap) (args:List Value),Inv X pins σ H s→Heap.MadeExcOf s.heap h' ea (.ref C) args→E (.ref C) none H→X.xe (.ref ea) { s with heap:=h' }
section
variable {P:Program} {w:World} {K:ψa} {mg:Str→Option Value} {base:Heap} {N:List Str} {qual:Str} {scope:Scope} {f:Addr} {cd:Value} {A:Around} {outer:List Env} {s₀:Shared} {H₀:Hp} {E:XK}
end
abbrev zgF:List Value:=[.type "ValueError",.type "Exception",.type "BaseException",.type "object"]
def zuf(h:Heap)(C:Addr):Prop:=∃bm N nm q bs hdct sn sub ab col dd k0 k1 k2 k3 k5 mN,h.get? C=some (excClassObj nm q C N bs bm hdct sn sub ab col dd k0 k1 k2 k3 k5 "ValueError.__new__")∧h.Ns N mN∧mN "__init__"=none∧OwnTail h zgF bm
theorem zg0{K:ψa}{h:Heap}{C:Addr}(X:K.In h)(q:ψg1 K C zgF "ValueError.__new__"=true):zuf h C:=by
 unfold ψg1 at q
 split at q
 ·rename_i dd cd sl ho
  split at q
  ·rename_i C2 bm k0 k1 k2 k3 n k5 hm hs
   simp only[ψL,beq_iff_eq,Bool.not_eq_true'] at q
   obtain⟨⟨⟨⟨⟨r1,r2⟩,r3⟩,r4⟩,r5⟩,r6⟩:=q
   subst r1 r2
   obtain⟨a1,a2,a3,a4,a5,a6,a7,a8,a9,a10,a11⟩:=cd
   dsimp only at hm r3 r5 r6
   subst hm r3
   have z:sl=#[k0,k1,k2,k3,some (.builtin "ValueError.__new__"),k5]:=by
    obtain⟨l⟩:=sl
    exact congrArg Array.mk hs
   subst z
   exact⟨bm,_,_,_,_,_,_,_,_,_,_,k0,k1,k2,k3,k5,_,X _ _ ho,.of_isNs (PySem.W.isNs_of_in X r5),PySem.W.nsMap_none_of_in X r5 r6,PySem.W.tail_of_in X r4⟩
  ·cases q
 ·cases q
theorem znX{X:Cx}{x:Str}{C:Addr}{E:XK}{z:Str}{j:Nat}{np cpos pos pz:Pos}(hm:X.mg x=some (.ref C))(hq:ψg1 X.K C zgF "ValueError.__new__"=true)(hg:Gl X x)(hc:X.calm=true)(hT:zt6 X C E)
  (hd:(x == ("__debug__":Str))=false:=by decide):PS X (.Raise (some (.Call (.Name x np) [.Constant (.str z) j pz] [] cpos)) none pos) (znY (.ref C) E):=by
 intro pins s σ H D I h
 have hw:E (.ref C) none H:=h
 have O:=zg0 I.ok.mod.kin hq
 obtain⟨b1,b2,b3,b4,b5,b6,b7,b8,b9,b10,b11,b12,b13,b14,b15,b16,b17,hC,hN,hni,T⟩:=O
 refine wpAny_Raise_call_subT (C:=C) (nm:=b3) (q:=b4) (N:=b2) (bs:=b5) (bm:=b1) (hdct:=b6) (sn:=b7) (sub:=b8) (ab:=b9) (col:=b10) (dd:=b11) (k0:=b12) (k1:=b13) (k2:=b14) (k3:=b15) (k5:=b16) (mN:=b17)
  PySem.F.excBase_ValueError (T.hasType PySem.F.excBase_ValueError.hasBase) (I.ok.hd hc) rfl hni (zjc I hg hm ⟨rfl,?_⟩ hd)
 refine Calls.evalArgs_plain ?_
 refine thn ((zaa (X:=X) (zdE (x:=z) (j:=j) (pos:=pz)) zad (by rfl)) cpos pins s σ H (λvs H1=>vs=[.str z]∧H1=H) I ⟨rfl,rfl⟩) λus s2 hQ'=>?_
 obtain⟨vs,H1,I1,r,e1,e2⟩:=hQ'
 subst e1 e2
 have hl:=r.length
 refine⟨rfl,by rw[← hl];exact ψP1 (zbC (by show 1≤1000;decide)),I1.bk _ _ hC,hN.keeps I1.bk,T.keeps I1.bk,λh' e hmade=>?_⟩
 exact hT pins σ _ s2 e h' us I1 hmade hw
section
variable {X:Cx} {CX:CXT} {k:Nat} {f:Addr} {fd:FuncData} {ps:List Str} {sp:Sp} {dvs:List V} {ds:List Value} {E:St→XK} {x:Str} {p pos:Pos} {e:Expr} {es:List Expr} {t:TA}
def zrd(CX:CXT)(X:Cx)(E:St→XK):Prop:=∀(pins:List (Addr×Obj)) (σ:St) (H:Hp) (s:Shared) (e:Value) (s':Shared),Inv X pins σ H s→CX X.stack H s (E σ) e s'→X.xe e s'
theorem zsE(F:zcC X.prog X.w X.K X.mg X.base CX k f fd ps sp)(hr:zjB k X.A)(hg:Gl X x)(hm:X.mg x=some (.ref f))(hk:ψB1 X.K (.ref f)=true)(hb:za4 X.K fd ps ds)(hd:zb9 dvs ds)(hx:zrd CX X E)
  (ha:PA X (e::es) t) (hdb:(x == ("__debug__":Str))=false:=by decide) (he:starEach (e::es) X.env=(false,eval e X.env)::starEach es X.env:=by rfl) (hpl:(backTo pos (starEach es X.env)).any (·.1)=false:=by rfl) :
  PE X (.Call (.Name x p) (e::es) [] pos) (zqz sp dvs E t):=by
 intro pins s σ H Q I h
 refine wpAny_Call_Name_kw (zjc I hg hm ?_ hdb)
 refine PySem.W.callWith_K (h₀:=X.base) I.ok.mod.kin hk (thn (ha pos pins s σ H _ I h) λus s1 ⟨vs,H1,I1,r,q⟩=>⟨I1.kIn,?_⟩) he hpl
 have r2:zb9 (vs++dvs) (us++ds):=r.append hd
 have hl:(us++ds).length=ps.length:=by rw[← r2.length];exact F.len _ _ _ _ q
 refine wpAny_call (codeAny_mono (F.run X.A X.stack s1 H1 ⟨us,[]⟩ (us++ds) (vs++dvs) Q (E σ) hr I1.env0 (hb s1 us I1.kIn hl) r2 q) λres s' hq=>?_)
 cases res with
 | error e=>exact hx pins σ H1 s1 e s' I1 hq
 | ok fl =>
  cases fl with
  | ret u=>exact I1.after hq
  | next=>exact False.elim hq
  | brk=>exact False.elim hq
  | cont=>exact False.elim hq
end
theorem Cx.Ok.pinned{X:Cx}(ok:X.Ok)(pn:List (Addr×Obj))(xe:Value→Shared→Prop):Cx.Ok { X with pn:=pn,xe:=xe } :=
 ⟨ok.mod,ok.kind,ok.glob,ok.blt,ok.above,ok.inj,ok.has,ok.cab,ok.hd,ok.frames,ok.stk,ok.exf,ok.bs,ok.bsz,ok.noex,ok.exfs,ok.funs,ok.frf⟩
theorem Inv.ofTry{X:Cx}{pins pins':List (Addr×Obj)}{xe:Value→Shared→Prop}{σ:St}{H:Hp}{s:Shared}(I:Inv { X with pn:=X.pn++pins,xe:=xe } pins' σ H s)(ok:X.Ok):Inv X pins σ H s :=
 ⟨ok,I.os,I.bare,I.base,I.loc,I.cell,I.free,I.freeC,λp hp=>I.pin p (ψl1 _ hp),I.hok,I.len⟩
theorem Inv.track{X:Cx}{pins:List (Addr×Obj)}{σ:St}{H:Hp}{s:Shared}{a:Addr}{o:HO}(I:Inv X pins σ H s)(hn:H a=none)(h0:X.s₀.heap.get? a=none)(hL:a≠X.env.locals)(hc:∀x c,X.env.cells.lookup x=some c→c≠a)
  (hp:∀p∈X.pn++pins,p.1≠a) (new:zc7 X.prog X.w (upd H a o) s.heap a o):Inv X pins σ (upd H a o) s:=by
 refine⟨I.ok,I.os,I.bare,⟨I.base.keep,I.base.slot,λb u q n hx=>?_,I.base.there,λb xs q=>?_,λb u xs q=>?_,λb ps q=>?_⟩,I.loc,I.cell,?_,λx c e=>?_,λp q=>?_,λb u e=>?_,I.len⟩
 ·have nb:b≠a:=λz=>by rw[z,h0] at q;cases q
  rw[zaP nb]
  exact I.base.free b u q n hx
 ·have q2:=I.base.tups b xs q
  rw[zaP (zaM q2 hn)]
  exact q2
 ·have q2:=I.base.frzs b u xs q
  rw[zaP (zaM q2 hn)]
  exact q2
 ·obtain⟨m,q2⟩:=I.base.tbls b ps q
  exact⟨m,by rw[zaP (zaM q2 hn)];exact q2⟩
 ·rw[zaP hL.symm]
  exact I.free
 ·rw[zaP (hc x c e)]
  exact I.freeC x c e
 ·obtain⟨e,n,r⟩:=I.pin p q
  exact⟨e,by rw[zaP (hp p q)];exact n,r⟩
 ·by_cases hb:b=a
  ·subst hb
   rw[zaj] at e
   cases e
   exact new
  ·rw[zaP hb] at e
   exact(I.hok b u e).stay (λc v _ q=>q) (λc q=>by rw[zaP (zaM q hn)];exact q) λc xs q=>by rw[zaP (zaM q hn)];exact q
theorem zk8{X:Cx}{pins:List (Addr×Obj)}{σ:St}{H:Hp}{s:Shared}{M:Model}{A:Around}{E:Value→Shared→Prop}{i:Nat}{n:Str}{pos:Pos}{Q:Unit→Shared→Prop}(I:Inv X pins σ H s)(hN:X.N.Nodup)(hi:X.N[i]?=some n)
  (hk:X.env.scope.names.lookup n=some .local) (h:∀s',Inv X pins (σ.set i none) H s'→Q () s'):wpAny M A (do bindName X.env n .none;unbindBehindTheSuite X.env n pos) Q E s:=by
 obtain⟨m,hn,hl⟩:=id I.loc
 have hcls:(X.env.scope.kind == .class || (X.env.scope.kind == .module&&X.env.locals != X.env.globals))=false:=by rw[I.ok.kind];rfl
 have hiσ:i<σ.length:=by rw[I.len];exact(List.getElem?_eq_some_iff.mp hi).1
 obtain⟨oL,_,_,hoL,_⟩:=id hn
 refine wpAny_nameGoes_keeps hk hn hcls λh' v hn' hs=>?_
 have below:∀b o,X.s₀.heap.get? b=some o→b≠X.env.locals:=λb o e=>ψl (ψi (Heap.lt_size e) I.ok.above)
 refine h _ ⟨I.ok,I.os,I.bare,⟨λb o e n hb hx=>?_,λb o e n hb hx=>?_,I.base.free,λb o e hx=>?_,I.base.tups,I.base.frzs,I.base.tbls⟩,⟨_,hn',λj y v' e1 e2 e3=>?_⟩,λy c e=>?_,I.free,I.freeC,λp hp=>?_,λb ob e=>?_,by simpa using I.len⟩
 ·exact(hs.2 b (below b o e)).trans (I.base.keep b o e n hb hx)
 ·obtain⟨sl,e1⟩:=I.base.slot b o e n hb hx
  exact⟨sl,(hs.2 b (below b o e)).trans e1⟩
 ·obtain⟨o',e1⟩:=I.base.there b o e hx
  exact⟨o',(hs.2 b (below b o e)).trans e1⟩
 ·have hj:j≠i:=λz=>by
   rw[z,ψN1 hiσ] at e2
   cases e2
  rw[ψR1 (Ne.symm hj)] at e2
  obtain⟨u',r',q⟩:=hl j y v' e1 e2 e3
  refine⟨u',r',?_⟩
  rcases q with ⟨k,e⟩ | ⟨k,c,e,z⟩
  ·refine .inl ⟨k,?_⟩
   have:y≠n:=λe=>hj (zkP hN e1 (e ▸ hi))
   simp[this,e]
  ·exact .inr ⟨k,c,e,z.sameBut hs (I.cne y c e)⟩
 ·obtain⟨w',z⟩:=I.cell y c e
  exact⟨w',z.sameBut hs (I.cne y c e)⟩
 ·obtain⟨e,n,ne,nf,d⟩:=I.pin p hp
  exact⟨(hs.2 p.1 ne).trans e,n,ne,nf,d⟩
 ·refine(I.hok b ob e).stay (λc w' hc q=>(hs.2 c ?_).trans q) (λ_ q=>q) λ_ _ q=>q
  rintro rfl
  rcases hc with rfl | hc
  ·rw[I.free] at e;cases e
  ·rw[I.free] at hc;cases hc
theorem zjo{M:Model}{A:Around}{E:Value→Shared→Prop}{h:Heap}{g:Array GenState}{d:Drawn}{t:Nat}{os:OsState}{e D:Addr}{oe:Obj}{cls:Value}{Q:Bool→Shared→Prop}(he:h.get? e=some oe)(hcls:oe.cls=cls)
  (O:zuf h D) (L:PySem.W.Looks M h (isSubtype cls (.ref D)) true) (hq:Q true ⟨h,g,d,t,os⟩):wpAny M A (excMatches (.ref e) (.ref D)) Q E ⟨h,g,d,t,os⟩:=by
 obtain⟨b1,b2,b3,b4,b5,b6,b7,b8,b9,b10,b11,b12,b13,b14,b15,b16,b17,hD,hN,hni,T⟩:=O
 have hcB:(Value.ref D::b1).contains (.type "BaseException")=true:=by rw[List.contains_cons,T.hasType PySem.F.excBase_ValueError.hasBase,Bool.or_true]
 have f:=tc_notTuple
 unfold excMatches
 repeat (first | (with_reducible refine wpAny_loadPart_at he ?_;rw[hcls]) | with_reducible refine wpAny_loadPart_at hD ?_ | (with_reducible refine wpAny_isSubtype_exc hD ?_;rw[hcB]) | (with_reducible refine L.at ?_) | wp_step)
 exact hq
def Cx.inExc(X:Cx)(ea:Addr):Cx:={ X with A:=X.A.mark (some (.ref ea)),calm:=false }
theorem Inv.toExc{X:Cx}{pins:List (Addr×Obj)}{σ:St}{H:Hp}{s:Shared}{ea:Addr}(I:Inv X pins σ H s)(hf:(X.A.mark (some (.ref ea))).frames=some X.stack):Inv (X.inExc ea) pins σ H s :=
 ⟨⟨I.ok.mod,I.ok.kind,I.ok.glob,I.ok.blt,I.ok.above,I.ok.inj,I.ok.has,I.ok.cab,(by intro z;cases z),hf,I.ok.stk,I.ok.exf,I.ok.bs,I.ok.bsz,I.ok.noex,I.ok.exfs,I.ok.funs,I.ok.frf⟩,I.os,I.bare,I.base,I.loc,I.cell,I.free,I.freeC,I.pin,I.hok,I.len⟩
theorem Inv.ofExc{X:Cx}{pins:List (Addr×Obj)}{σ:St}{H:Hp}{s:Shared}{ea:Addr}(I:Inv (X.inExc ea) pins σ H s)(ok:X.Ok):Inv X pins σ H s :=
 ⟨ok,I.os,I.bare,I.base,I.loc,I.cell,I.free,I.freeC,I.pin,I.hok,I.len⟩
structure zgM (K:ψa) (C:Addr):Prop where
 ga:ψu K (.ref C) "__getattribute__"=some (some (.builtin "BaseException.__getattribute__"))
 gn:ψu K (.ref C) "__getattr__"=some none
 cl:ψu K (.ref C) "__class__"=some (some (.builtin "object.__class__"))
 mb:ψd1 K C (.type "BaseException")=some true
 mo:ψd1 K C (.type "object")=some true
structure zrc (K:ψa) (C:Addr):Prop where
 ga:ψu K (.ref C) "__getattribute__"=some (some (.builtin "BaseException.__getattribute__"))
 gn:ψu K (.ref C) "__getattr__"=some none
 cl:ψu K (.ref C) "__class__"=some (some (.builtin "object.__class__"))
 mb:ψd1 K C (.type "BaseException")=some true
 mo:ψd1 K C (.type "object")=some true
 ok:ψg1 K C zgF "ValueError.__new__"=true
theorem zrc.five{K:ψa}{C:Addr}(Z:zrc K C):zgM K C:=⟨Z.ga,Z.gn,Z.cl,Z.mb,Z.mo⟩
section
open Builtin Builtin.ObjectAttr Builtin.Getset_descriptor PySem.W
variable {K:ψa} {prog:Program} {w:World} {A:Around} {E:Value→Shared→Prop} {h:Heap} {g:Array GenState} {d:Drawn} {t:Nat} {os:OsState} {a C:Addr} {o:Obj}
theorem zou:splitId "BaseException.__getattribute__"=some ("BaseException","__getattribute__"):=by decide +kernel
theorem zpq:builtinKind "BaseException.__getattribute__"=some .slot:=by decide +kernel
theorem zpl{R:Result→Shared→Prop}(X:K.In h)(Z:zgM K C)(hx:h.get? a=some o)(hc:o.cls=.ref C)(hq:R (.ok (.ret (.ref C))) ⟨h,g,d,t,os⟩) :
  codeAny (model prog w) A (.call (.builtin "getset_descriptor.__get__") ⟨[.builtin "object.__class__",.ref a,.ref C],[]⟩) R ⟨h,g,d,t,os⟩:=by
 have LT:PySem.W.Looks (model prog w) h (typeOf (.ref a)) (.ref C):=hc ▸ (PySem.W.Looks.ld hx).andThen .now
 have LM:=PySem.W.looks_mroIn (M:=model prog w) X Z.mo
 refine codeAny_call_builtin PySem.W.KF.slot_gs.plain PySem.W.KF.entry_gs (PySem.W.KF.slot_gs.check _ _ _ _ _ _ _ _ PySem.W.KF.type_class (PySem.W.KF.args_gs _ _ _) ?_)
 unfold Builtin.«getset_descriptor.__get__»
 unfold descrGet
 rw[PySem.W.dga_obj]
 refine wpAny_bind (wpAny_pure ?_)
 unfold descrGetter descrCheckInstance
 unfold descrNameAndClass isInstance
 simp only[PySem.W.KF.owner_class]
 repeat lk
 refine⟨Code.quiet_builtin _ (by decide +kernel),codeAny_builtin PySem.W.KF.entry_class ?_⟩
 unfold Builtin.«object.__class__»
 unfold shownTypeOf
 repeat lk
 exact hq
theorem zl4{tk:Tok}{Q:Fin→Shared→Prop}(X:K.In h)(Z:zgM K C)(hx:h.get? a=some o)(hc:o.cls=.ref C)(hq:Q (.done (.ret (.ref C))) ⟨h,g,d,t,os⟩) :
  wpAny (model prog w) A (Builtin.«object.__getattribute__» ⟨[.ref a,.str "__class__" tk],[]⟩) Q E ⟨h,g,d,t,os⟩:=by
 have LC:=PySem.W.looks_findIn (M:=model prog w) X Z.cl
 have h5:(⟨h,g,d,t,os⟩:Shared).TypeIs (.builtin "object.__class__") "getset_descriptor":=F.typeOf_object_class
 have f5:=F.typeOf_object_class
 have f6:=F.slot_gs_get.lookup
 have f7:=F.slot_gs_set.lookup
 repeat (any_goals (first | assumption | (with_reducible refine wpAny_loadPart_at hx ?_;rw[hc]) | with_reducible refine LC.at ?_ | wp_step))
 refine zpl X Z hx hc ?_
 repeat (any_goals (first | assumption | wp_step))
theorem zl6{M:Model}{v:Value}{Q:Unit→Shared→Prop}(X:K.In h)(Z:zgM K C)(hx:h.get? a=some o)(hc:o.cls=.ref C)(hq:Q () ⟨h,g,d,t,os⟩) :
  wpAny M A (checkBuiltinCall "BaseException.__getattribute__" ⟨[.ref a,v],[]⟩) Q E ⟨h,g,d,t,os⟩:=by
 have LM:=PySem.W.looks_mroIn (M:=M) X Z.mb
 have LT:PySem.W.Looks M h (typeOf (.ref a)) (.ref C):=hc ▸ (PySem.W.Looks.ld hx).andThen .now
 have ao:=F.args_bexc_ga (.ref a) v
 simp only[checkBuiltinCall,zpq,zou]
 refine wpAny_bind ?_
 unfold isInstance
 refine wpAny_bind (LT.at (LM.at ?_))
 repeat (any_goals (first | assumption | wp_step))
theorem zrn{tk:Tok}{Q:Value→Shared→Prop}(X:K.In h)(Z:zgM K C)(FB:ExcAttrBase "ValueError" zgF)(hx:h.get? a=some o)(hc:o.cls=.ref C)(hq:Q (.ref C) ⟨h,g,d,t,os⟩) :
  wpAny (model prog w) A (getAttrBy (.ref a) (.str "__class__" tk) false) Q E ⟨h,g,d,t,os⟩:=by
 have LG:=PySem.W.looks_findIn (M:=model prog w) X Z.ga
 have LN:=PySem.W.looks_findIn (M:=model prog w) X Z.gn
 have f3:=FB.ga.bind (.ref a)
 have n2:(Value.builtin "BaseException.__getattribute__" == Value.builtin "object.__getattribute__")=false:=by decide +kernel
 have n1:(onTheHeap (Value.ref C)&&(Value.builtin "BaseException.__getattribute__" == Value.builtin "object.__getattribute__"))=false:=by rw[n2];rfl
 repeat (any_goals (first | assumption | (with_reducible refine wpAny_loadPart_at hx ?_;rw[hc]) | with_reducible refine LG.at ?_ | with_reducible refine LN.at ?_ | wp_step))
 refine codeAny_call_builtin FB.ga.plain F.entry_bexc_ga (zl6 X Z hx hc (zl4 X Z hx hc ?_))
 repeat (any_goals (first | assumption | wp_step))
theorem znj{Q:Option Value→Shared→Prop}(X:K.In h)(Z:zgM K C)(FB:ExcAttrBase "ValueError" zgF)(hx:h.get? a=some o)(hc:o.cls=.ref C)(hq:Q (some (.ref C)) ⟨h,g,d,t+1,os⟩) :
  wpAny (model prog w) A (getAttr? (.ref a) "__class__") Q E ⟨h,g,d,t,os⟩:=by
 unfold getAttr? getAttrBy?
 repeat (any_goals (first | assumption | with_reducible apply zrn X Z FB hx hc | wp_step))
theorem zlx(Z:zrc K C):zfS K (.ref C):=⟨λx=>{
 ty:=λM h _ p=>by
  obtain⟨oe,vs,e,c,_⟩:=p
  exact c ▸ (PySem.W.Looks.ld e).andThen .now
 it:=λM h X _=>by
  obtain⟨b1,b2,b3,b4,b5,b6,b7,b8,b9,b10,b11,b12,b13,b14,b15,b16,b17,hC,_⟩:=zg0 X Z.ok
  intro A' Q' E' s' k q
  unfold isType loadHead
  exact wpAny_bind (wpAny_loadPart (k _ _ hC) (wpAny_pure q))
 ne:=λh tp dd its n sl X htp=>by
  obtain⟨b1,b2,b3,b4,b5,b6,b7,b8,b9,b10,b11,b12,b13,b14,b15,b16,b17,hC,_⟩:=zg0 X Z.ok
  refine Bool.eq_false_iff.mpr λq=>?_
  have e:C=tp:=Value.ref.inj (beq_iff_eq.mp q)
  subst e
  rw[hC] at htp
  have z:=congrArg Obj.data (Option.some.inj htp)
  exact nomatch z
 ca:=fun {prog w A E Q s} X p q=>by
  obtain⟨h,g,d,t,os⟩:=s
  obtain⟨oe,vs,e,c,_⟩:=p
  exact znj X Z.five PySem.F.attrBase_ValueError e c q }⟩
end
end L2
namespace L2
open PySem PySem.Spec PyProof.Rows
theorem zp8{env:Env}{x:Str}{c:Addr}(h:env.cells.lookup x=some c):cellOf env x=pure c:=by
 unfold cellOf
 rw[h]
theorem zhx{env:Env}:∀(l:List (Str×NameKind)) (cs:List (Str×Addr)),(∀y∈l,y.2=.free→∃c,env.cells.lookup y.1=some c)→(∀x c,cs.lookup x=some c→env.cells.lookup x=some c) →
  ∃cl,(forIn l cs λ(y:Str×NameKind) r=>(if (y.2 == .free)=true then do let c ← cellOf env y.1;pure (ForInStep.yield ((y.1,c)::r)) else pure (ForInStep.yield r):Sem (ForInStep (List (Str×Addr)))))=pure cl ∧
   (∀x c,cl.lookup x=some c→env.cells.lookup x=some c)∧(∀y∈l,y.2=.free→∃c,cl.lookup y.1=some c)∧∀x,(∃c,cs.lookup x=some c)→∃c,cl.lookup x=some c
 | [],cs,_,hc=>⟨cs,by simp,hc,by simp,λ_ h=>h⟩
 | y::l,cs,hf,hc=>by
  have hf':∀z∈l,z.2=.free→∃c,env.cells.lookup z.1=some c:=λz hz=>hf z (ψf _ hz)
  by_cases hy:y.2=.free
  ·obtain⟨c,e⟩:=hf y ψj hy
   have hc':∀x d,List.lookup x ((y.1,c)::cs)=some d→env.cells.lookup x=some d:=λx d q=>by
    rw[ψc1] at q
    split at q
    ·rename_i b
     cases q
     rw[beq_iff_eq.mp b,e]
    ·exact hc x d q
   obtain⟨cl,e1,e2,e3,e4⟩:=zhx l ((y.1,c)::cs) hf' hc'
   refine⟨cl,?_,e2,λz hz q=>?_,λx ⟨d,q⟩=>e4 x ?_⟩
   ·rw[List.forIn_cons,if_pos (by rw[hy];rfl),zp8 e]
    simpa using e1
   ·rcases List.mem_cons.mp hz with r | r
    ·exact e4 z.1 ⟨c,by rw[r,ψc1];simp⟩
    ·exact e3 z r q
   ·rw[ψc1]
    split
    ·exact⟨_,rfl⟩
    ·exact⟨d,q⟩
  ·obtain⟨cl,e1,e2,e3,e4⟩:=zhx l cs hf' hc
   refine⟨cl,?_,e2,λz hz q=>?_,e4⟩
   ·rw[List.forIn_cons,if_neg (by simpa using hy)]
    simpa using e1
   ·rcases List.mem_cons.mp hz with r | r
    ·rw[r] at q;exact absurd q hy
    ·exact e3 z r q
theorem zj1{scope:Scope}{env:Env}(h:∀y∈scope.names,y.2=.free→∃c,env.cells.lookup y.1=some c) :
  ∃cl,closureFor scope env=pure cl∧(∀x c,cl.lookup x=some c→env.cells.lookup x=some c)∧∀y∈scope.names,y.2=.free→∃c,cl.lookup y.1=some c:=by
 obtain⟨cl,e1,e2,e3,_⟩:=zhx scope.names [] h (by simp)
 refine⟨cl,?_,e2,e3⟩
 unfold closureFor
 simp only[bind_pure]
 exact e1
theorem zhC{P:Program}{w:World}{A:Around}{R:Result→Shared→Prop}{s:Shared}{elt target iter:Expr}{ifs:List Expr}{scope:Scope}{pos:Pos}{it acc:Value}{env:Env}{Z:Value→Shared→Prop}(J:Nat→Shared→Prop)
  (hZ:Z=notedBy (model P w) A env λe s'=>R (.error e) s')
  (zoE:∀n s,J n s→wpAny (model P w) A (pyNext it) (λr s1=>match r with
   | none=>R (.ok .next) s1
   | some v=>wpAny (model P w) A (letOwnedTupleGo target it v) (λ_ s2=>wpAny (model P w) A (assign target env v) (λ_ s3 =>
     wpAny (model P w) A (forIn ifs true λc r=>if r=true then do let ok ← isTrue c env (eval c env);pure (ForInStep.yield ok) else pure (ForInStep.yield r)) (λok s4 =>
      if ok=true then wpAny (model P w) A (eval elt env) (λx s5=>wpAny (model P w) A (call (.builtin "list.append") [acc,x]) (λ_ s6=>∃m,m<n∧J m s6) Z s5) Z s4
      else ∃m,m<n∧J m s4) Z s3) Z s2) Z s1) Z s)
  (n:Nat) (h:J n s):codeAny (model P w) A (.compLoop (.ListComp elt [⟨target,iter,ifs,0⟩] scope pos) 0 it acc env) R s:=by
 subst hZ
 refine codeAny_loop rfl J (λn s hJ=>?_) n h
 show wpAny _ _ (Sem.onRaise (compTurn (.ListComp elt [⟨target,iter,ifs,0⟩] scope pos) 0 it acc env) λx=>do noteFrame x env;theTreesLotGoes x) _ _ s
 refine wpAny_noted ?_
 rw[compTurn_list]
 refine wpAny_bind (wpAny_standAt (wpAny_bind (thn (zoE n s hJ) λr s1 h1=>?_)))
 cases r with
 | none=>exact wpAny_pure h1
 | some v =>
  refine wpAny_bind (thn h1 λ_ s2 h2=>wpAny_bind (thn h2 λ_ s3 h3=>wpAny_bind (thn h3 λok s4 h4=>?_)))
  cases ok with
  | false=>exact wpAny_pure ⟨rfl,h4⟩
  | true=>exact wpAny_bind (wpAny_bind (thn h4 λx s5 h5=>wpAny_bind (thn h5 λ_ s6 h6=>wpAny_pure (wpAny_pure ⟨rfl,h6⟩))))
def PTs(X:Cx)(ifs:List Expr)(t:TT):Prop:=∀(pins:List (Addr×Obj)) (s:Shared) (σ:St) (H:Hp) (Q:Bool→Hp→Prop),Inv X pins σ H s→t σ H Q →
 wpAny (model X.prog X.w) X.A (forIn ifs true λc r=>if r=true then do let ok ← isTrue c X.env (eval c X.env);pure (ForInStep.yield ok) else pure (ForInStep.yield r)) (TP X pins σ Q) X.xe s
def zaE:TT:=λ_ H Q=>Q true H
theorem za8{X:Cx}:PTs X [] zaE:=λ_ _ _ H _ I h=>wpAny_tests_nil ⟨H,I,h⟩
def ztJ(cap:List (Option Nat))(σ:St):St:=cap.map λo=>o.bind λj=>(σ[j]?).join
def zbA(wi:TI)(g:TG)(tt:TT)(te:TE)(cap:List (Option Nat)):TE:=λσ H Q=>wi σ H λJ H1=>∀D,H1 D=none→∃W:Nat→Nat→St→Hp→Prop,(∃m,W 0 m (ztJ cap σ) (upd H1 D (.lst [])))∧∀i m σc Hc,W i m σc Hc →
 (J.stop i Hc∧Q (.ref D) Hc)∨(J.go i Hc∧∃N:St→Hp→Prop,(∀σ' H',N σ' H'→∃m',m'<m∧W (i+1) m' σ' H')∧∀x H',J.yld i Hc x H'→g x σc H' λσ2 H2=>tt σ2 H2 λb H3=>if b=true then te σ2 H3 λy H4=>zaR (.ref D) [y] H4 λ_ H5=>N σ2 H5 else N σ2 H3)
def Cx.blk(X:Cx)(Nc:List Str)(scope:Scope)(cl:List (Str×Addr))(s:Shared)(H:Hp)(fp:List Addr):Cx:={ X with
 N:=Nc,s₀:=s,H₀:=H,env:=compEnvC scope cl s.heap.objs.size X.env,outer:=X.stack,stack:=X.stack,ex:=fp,fn:=λ_=>false,pn:=[],xe:=λ_ _=>False }
structure zpc (sc:Scope) (N Nc:List Str) (cap:List (Option Nat)) (scope:Scope):Prop where
 kind:scope.kind=.function
 nocell:∀y∈scope.names,y.2≠.cell
 free:∀y∈scope.names,y.2=.free→sc.names.lookup y.1=some .cell∨sc.names.lookup y.1=some .free
 once:∀y∈scope.names,scope.names.lookup y.1=some y.2
 nd:Nc.Nodup
 len:cap.length=Nc.length
 cap:∀(i:Nat) (y:Str) (j:Nat),Nc[i]?=some y→cap[i]?=some (some j)→N[j]?=some y∧scope.names.lookup y=some .free
def zuc(sc:Scope)(N Nc:List Str)(cap:List (Option Nat))(scope:Scope):Bool :=
 scope.kind == .function&&scope.names.all (λy=>y.2 != .cell&&scope.names.lookup y.1 == some y.2&&(y.2 != .free || sc.names.lookup y.1 == some .cell || sc.names.lookup y.1 == some .free))&&decide Nc.Nodup&&cap.length == Nc.length
  && (Nc.zip cap).all λp=>p.2.all λj=>N[j]? == some p.1&&scope.names.lookup p.1 == some .free
theorem zpc.of{sc:Scope}{N Nc:List Str}{cap:List (Option Nat)}{scope:Scope}(h:zuc sc N Nc cap scope=true):zpc sc N Nc cap scope:=by
 unfold zuc at h
 simp only[ψL,beq_iff_eq,List.all_eq_true,bne_iff_ne,ne_eq,Bool.or_eq_true,decide_eq_true_eq] at h
 obtain⟨⟨⟨⟨h1,h2⟩,h3⟩,h4⟩,h5⟩:=h
 refine⟨h1,λy hy=>(h2 y hy).1.1,λy hy hf=>?_,λy hy=>(h2 y hy).1.2,h3,h4,λi y j e1 e2=>?_⟩
 ·rcases(h2 y hy).2 with (q | q) | q
  ·exact absurd hf q
  ·exact .inl q
  ·exact .inr q
 ·have m:(y,some j)∈Nc.zip cap:=by
   refine ψM (i:=i) ?_
   rw[ψC]
   exact⟨e1,e2⟩
  have z:=h5 _ m
  simpa using z
theorem zcD{env:Env}{x:Str}:∀{names:List (Str×NameKind)} {k:NameKind},((names.map λ(n,k)=>if (k == NameKind.free&&env.scope.kind == .function&&env.kindOf n == some .cell) then (n,NameKind.cell) else (n,k)).lookup x=some k)→k≠.cell∧names.lookup x=some k∨(k=.cell∧(names.lookup x=some .cell∨names.lookup x=some .free))
 | [],_,h=>by simp at h
 | (n,q)::r,k,h=>by
  have ih:=@zcD env x r k
  rw[ψG] at h
  dsimp only at h
  by_cases hx:(x == n)=true
  ·by_cases hc:(q == NameKind.free&&env.scope.kind == .function&&env.kindOf n == some .cell)=true
   ·rw[if_pos hc,ψc1,hx] at h
    cases h
    rw[ψL,ψL] at hc
    refine .inr ⟨rfl,.inr ?_⟩
    rw[ψc1,hx]
    exact congrArg some (beq_iff_eq.mp hc.1.1)
   ·rw[if_neg hc,ψc1,hx] at h
    cases h
    rw[ψc1,hx]
    by_cases z:q=.cell
    ·exact .inr ⟨z,.inl (congrArg some z)⟩
    ·exact .inl ⟨z,rfl⟩
  ·have hx':(x == n)=false:=by simpa using hx
   rw[ψc1,hx']
   refine ih ?_
   by_cases hc:(q == NameKind.free&&env.scope.kind == .function&&env.kindOf n == some .cell)=true
   ·rw[if_pos hc,ψc1,hx'] at h
    exact h
   ·rw[if_neg hc,ψc1,hx'] at h
    exact h
section
variable {X:Cx} {pins:List (Addr×Obj)} {σ:St} {H:Hp} {s:Shared}
theorem zwg{Nc:List Str}{cap:List (Option Nat)}{scope:Scope}{cl:List (Str×Addr)}{fp:List Addr}{h1:Heap}{tk:Nat}{m1:Str→Option Value}(I:Inv X pins σ H s)(B:zpc X.env.scope X.N Nc cap scope)
  (hsub:∀x c,cl.lookup x=some c→X.env.cells.lookup x=some c) (hfr:∀y∈scope.names,y.2=.free→∃c,cl.lookup y.1=some c) (hf:∀b∈fp,zlg X pins H b) (hin:∀b∈fp,b<s.heap.objs.size)
  (hk:∀b o,s.heap.get? b=some o→h1.get? b=some o) (hn:h1.Ns s.heap.objs.size m1):Inv (X.blk Nc scope cl s H fp) [] (ztJ cap σ) H { s with heap:=h1,toks:=tk }:=by
 have ok:=I.ok
 have bsz:X.base.objs.size≤s.heap.objs.size:=ψF ok.bsz I.sz
 refine⟨⟨ok.mod,B.kind,ok.glob,ok.blt,ψh _,λx y c h1 h2=>ok.inj x y c (hsub x c h1) (hsub y c h2),λx hx=>?_,(by intro x c z;cases z),ok.hd,ok.frames,.inl rfl,λb hb=>⟨ψl (hin b hb),λx c e=>(hf b hb).2.2.2.2.1 x c (hsub x c e)⟩,
  I.bs,bsz,λb o e hb=>?_,λb hb z=>?_,I.stack,I.stkFree⟩,rfl,I.bare,Un.kept hk,⟨m1,hn,λi y v e1 e2 e3=>?_⟩,λx c e=>?_,I.hok.fresh (ψh _),λx c e=>I.freeC x c (hsub x c e),(by intro p hp;cases hp),I.hok.kept hk,?_⟩
 ·have look:∀k,(relabel scope X.env).names.lookup x=some k→k=.cell∨k=.free→∃c,cl.lookup x=some c:=λk q hk=>by
   rcases zcD q with ⟨n1,n2⟩ | ⟨_,n2 | n2⟩
   ·rcases hk with r | r
    ·exact absurd r n1
    ·exact hfr (x,k) (ψt n2) r
   ·exact absurd rfl (B.nocell _ (ψt n2))
   ·exact hfr (x,.free) (ψt n2) rfl
  rcases hx with q | q
  ·exact look _ q (.inl rfl)
  ·exact look _ q (.inr rfl)
 ·rcases(hf b hb).2.2.2.1 with q | q
  ·exact ok.noex b o e q
  ·exact absurd (ψi (Heap.lt_size e) (ψF ok.bsz q)) (ψf1 _)
 ·rcases List.mem_cons.mp (I.stkSub b z) with q | q
  ·exact(hf b hb).2.1 q
  ·exact(hf b hb).2.2.1 q
 ·have e2':(cap[i]?).map (λo=>o.bind λj=>(σ[j]?).join)=some (some v):=by rw[← ψD];exact e2
  obtain⟨o,ho,eo⟩:=Option.map_eq_some_iff.mp e2'
  obtain⟨j,rfl,ej⟩:=Option.bind_eq_some_iff.mp eo
  have ej':σ[j]?=some (some v):=by
   cases q:σ[j]? with
   | none=>rw[q] at ej;cases ej
   | some z=>rw[q] at ej;cases ej;rfl
  obtain⟨c1,c2⟩:=B.cap i y j e1 ho
  have vis:=B.free (y,.free) (ψt c2) rfl
  obtain⟨m,_,hl⟩:=I.loc
  obtain⟨u,r,lk⟩:=hl j y v c1 ej' (.inr vis)
  obtain⟨c',ec⟩:=hfr (y,.free) (ψt c2) rfl
  have ec2:=hsub _ _ ec
  rcases lk with ⟨kl,_⟩ | ⟨_,c,e,z⟩
  ·have kl':X.env.scope.names.lookup y=some .local:=kl
   rcases vis with q | q
   ·have q':X.env.scope.names.lookup y=some .cell:=q
    rw[kl'] at q';cases q'
   ·have q':X.env.scope.names.lookup y=some .free:=q
    rw[kl'] at q';cases q'
  ·have ecc:X.env.cells.lookup y=some c':=ec2
   rw[e] at ecc
   cases ecc
   refine⟨u,r,.inr ⟨?_,_,ec,?_⟩⟩
   ·rcases e3 with q | q | q
    ·rcases zcD q with ⟨_,n2⟩ | ⟨n1,_⟩
     ·rw[c2] at n2;cases n2
     ·cases n1
    ·exact .inl q
    ·exact .inr q
   ·obtain⟨o,ho,hd⟩:=z
    exact⟨o,hk _ _ ho,hd⟩
 ·obtain⟨v,o,ho,hd⟩:=I.cell x c (hsub x c e)
  exact⟨v,o,hk _ _ ho,hd⟩
 ·show(ztJ cap σ).length=Nc.length
  rw[ztJ,ψb,B.len]
theorem zqi{Nc:List Str}{scope:Scope}{cl:List (Str×Addr)}{fp:List Addr}{σc:St}{Hc:Hp}{s':Shared}{h':Heap}(I:Inv X pins σ H s)(hf:∀b∈fp,zlg X pins H b)(J:Inv (X.blk Nc scope cl s H fp) [] σc Hc s')
  (hs:Heap.SameBut s.heap.objs.size s'.heap h'):Inv X pins σ Hc { s' with heap:=h' }:=by
 have ne:∀b o,s.heap.get? b=some o→b≠s.heap.objs.size:=λb o e=>ψl (Heap.lt_size e)
 have u:=J.base
 refine I.call' (ch:=fp) J.os ⟨λb o e n hb hx=>(hs.2 b (ne b o e)).trans (u.keep b o e n hb hx),λb o e n hb hx=>?_,u.free,λb o e hx=>?_,u.tups,u.frzs,u.tbls⟩ (λb ob e=>?_) J.bare λb hb=>⟨(hf b hb).2.2.2.1,(hf b hb).2.1,(hf b hb).2.2.2.2.1,(hf b hb).2.2.2.2.2⟩
 ·obtain⟨sl,q⟩:=u.slot b o e n hb hx
  exact⟨sl,(hs.2 b (ne b o e)).trans q⟩
 ·obtain⟨o',q⟩:=u.there b o e hx
  exact⟨o',(hs.2 b (ne b o e)).trans q⟩
 ·have hC:Hc s.heap.objs.size=none:=J.free
  refine(J.hok b ob e).stay (λc w' hc q=>(hs.2 c ?_).trans q) (λ_ q=>q) λ_ _ q=>q
  rintro rfl
  rcases hc with z | hc
  ·rw[← z,hC] at e;cases e
  ·rw[hC] at hc;cases hc
end
theorem Inv.turns{X:Cx}{pins:List (Addr×Obj)}{σ:St}{H:Hp}{s:Shared}{h':Heap}{t':Nat}{ch:List Addr}(I:Inv X pins σ H s)(k:∀b o,b∉ch→s.heap.get? b=some o→h'.get? b=some o)(hf:∀b∈ch,zlg X pins H b):Inv X pins σ H { s with heap:=h',toks:=t' }:=by
 refine I.call (g':=s.gens) (d':=s.drawn) (ch:=ch) ⟨λb o e _ _ hx=>k b o hx e,λb o e _ _ hx=>⟨o.slots,k b o hx e⟩,λ_ _ _ n _=>n,λb o e hx=>⟨o,k b o hx e⟩,λ_ _ q=>q,λ_ _ _ q=>q,λ_ ps q=>⟨#[],by rw[q];simp⟩⟩ (λb u e=>?_) I.bare
  λb hb=>⟨(hf b hb).2.2.2.1,(hf b hb).2.1,(hf b hb).2.2.2.2.1,(hf b hb).2.2.2.2.2⟩
 refine(I.hok b u e).stay (λc v hc q=>k c v (λz=>?_) q) (λ_ q=>q) λ_ _ q=>q
 have n:=(hf c z).1
 rcases hc with r | r
 ·rw[r,e] at n;cases n
 ·rw[r] at n;cases n
theorem zma{X:Cx}{pins:List (Addr×Obj)}{s:Shared}{σ:St}{H:Hp}{Q:VK}{sc:Scope}{N Nc:List Str}{cap:List (Option Nat)}{elt tg iter:Expr}{ifs:List Expr}{scope:Scope}{pos pos':Pos}{wi:TI}{g:TG}{tt:TT}{te:TE}{use:Option (Value→Sem Unit)}{QQ:Value→Shared→Prop}
  (hc:X.calm=true) (hsc:X.env.scope=sc) (hN:X.N=N) (B:zpc sc N Nc cap scope) (hi:PI X tg iter wi)
  (hg:∀cl s H fp,PG (X.blk Nc scope cl s H fp) tg g) (ht:∀cl s H fp,PTs (X.blk Nc scope cl s H fp) ifs tt) (he:∀cl s H fp,PE (X.blk Nc scope cl s H fp) elt te)
  (hs:∀x,foldedSetIterable iter X.env x=pure x) (I:Inv X pins σ H s) (h:zbA wi g tt te cap σ H Q)
  (fin:∀(s3:Shared) (H3:Hp) (cl:List (Str×Addr)) (fp:List Addr) (D:Addr) (σc:St) (Hc:Hp) (s6:Shared),Inv X pins σ H3 s3→(∀b∈fp,zlg X pins H3 b)→Inv (X.blk Nc scope cl s3 H3 fp) [] σc Hc s6→Q (.ref D) Hc→compPost (model X.prog X.w) X.A X.xe use QQ (.ref D) s3.heap.objs.size (.ok .next) s6) :
  wpAny (model X.prog X.w) X.A (comprehension (.ListComp elt [⟨tg,iter,ifs,0⟩] scope pos) scope X.env pos' (newList []) false (eval iter X.env) use) QQ X.xe s:=by
 subst hsc hN
 obtain⟨cl,hclos,hsub,hfr⟩:=zj1 (scope:=scope) (env:=X.env) λy hy hf=>I.ok.has y.1 (B.free y hy hf)
 refine wpAny_comprehension_free (use:=use) rfl hs hclos B.kind (λy hy hl=>by rw[B.once y hy,hl]) (thn (hi pins s σ H _ I h) λv s1 h1=>thn h1 λitv s2 h2=>?_)
 obtain⟨it,fp,tn,J,H2,rfl,I2,T,st2,f2,hw⟩:=h2
 refine wpAny_newObj_type ?_
 have hfree:H2 s2.heap.objs.size=none:=I2.hok.fresh (ψh _)
 have I3:=I2.laid (t':=s2.toks) (o:=.lst []) (λb u e=>Heap.get?_push_of_some { cls:=.type "list",dict:=none,data:=.seq ([]:List Value).toArray } e) (ψh _) ⟨by decide,[],0,.nil,Heap.get?_push_size _ rfl⟩
 obtain⟨W,⟨m0,w0⟩,zoE⟩:=hw _ hfree
 have keep23:∀b o,s2.heap.get? b=some o→(s2.heap.push { cls:=.type "list",dict:=none,data:=.seq ([]:List Value).toArray }).get? b=some o:=λb o e=>Heap.get?_push_of_some _ e
 have hin:∀b∈fp,b<s2.heap.objs.size:=λb hb=>let ⟨o,e,_⟩:=T.obj 0 _ st2 b hb;Heap.lt_size e
 have f3:∀b∈fp,zlg X pins (upd H2 s2.heap.objs.size (.lst [])) b:=λb hb=>⟨by rw[zaP (ψl (hin b hb))];exact(f2 b hb).1,(f2 b hb).2⟩
 have st3:=T.keep 0 _ _ st2 λb _ o e=>keep23 b o e
 have hin3:∀b∈fp,b<(s2.heap.push { cls:=.type "list",dict:=none,data:=.seq ([]:List Value).toArray }).objs.size:=λb hb=>let ⟨o,e,_⟩:=T.obj 0 _ st3 b hb;Heap.lt_size e
 clear keep23 hin
 generalize s2.heap.push { cls:=.type "list",dict:=none,data:=.seq ([]:List Value).toArray }=h3 at I3 st3 hin3 ⊢
 generalize upd H2 s2.heap.objs.size (.lst [])=H3 at I3 f3 w0
 generalize s2.heap.objs.size=D at hfree w0 zoE ⊢
 refine wpAny_newFunctionEnv B.nocell (by intro y hy;cases hy) (λh1 hns hsb=>?_) B.kind
 have keep:∀b o,h3.get? b=some o→h1.get? b=some o:=λb o e=>(hsb.2 b (ψl (Heap.lt_size e))).trans (Heap.get?_push_of_some _ e)
 have I4:=zwg (tk:=s2.toks+([]:List (Str×Value)).length) I3 B hsub hfr f3 hin3 keep hns
 have st4:=T.keep 0 _ _ st3 λb _ o e=>keep b o e
 have stat:∀{H':Hp},(∀b∈fp,H' b=none)→∀b∈fp,zlg (X.blk Nc scope cl { s2 with heap:=h3,toks:=s2.toks } H3 fp) [] H' b:=λhn b hb =>
  ⟨hn b hb,ψl (hin3 b hb),λz=>by
   rcases List.mem_cons.mp (I3.stkSub b z) with q | q
   ·exact(f3 b hb).2.1 q
   ·exact(f3 b hb).2.2.1 q,.inl hb,λx c e=>(f3 b hb).2.2.2.2.1 x c (hsub x c e),by intro p hp;cases hp⟩
 have hcb:(X.blk Nc scope cl { s2 with heap:=h3,toks:=s2.toks } H3 fp).calm=true:=hc
 have loop:codeAny (model X.prog X.w) X.A (.compLoop (.ListComp elt [⟨tg,iter,ifs,0⟩] scope pos) 0 (.ref it) (.ref D) (compEnvC scope cl h3.objs.size X.env)) (compPost (model X.prog X.w) X.A X.xe use QQ (.ref D) h3.objs.size) { s2 with heap:=h1,toks:=s2.toks+([]:List (Str×Value)).length }:=by
  refine zhC (λn s'=>∃i σ' H',Inv (X.blk Nc scope cl { s2 with heap:=h3,toks:=s2.toks } H3 fp) [] σ' H' s'∧tn i s'.heap∧(∀b∈fp,H' b=none)∧W i n σ' H') rfl ?_ m0 ⟨0,_,H3,I4,st4,λb hb=>(f3 b hb).1,w0⟩
  rintro n s5 ⟨i,σ5,H5,I5,st5,fr5,w5⟩
  rcases zoE i n σ5 H5 w5 with ⟨stop,qn⟩ | ⟨go,N',hN',step⟩
  ·refine thn (T.done (X.blk Nc scope cl { s2 with heap:=h3,toks:=s2.toks } H3 fp) rfl rfl rfl hcb i [] s5 σ5 H5 _ I5 (stat fr5) st5 stop) λr s6 hQ'=>?_
   obtain⟨hr,I6⟩:=hQ'
   subst hr
   exact fin { s2 with heap:=h3,toks:=s2.toks } H3 cl fp D σ5 H5 s6 I3 f3 I6 qn
  ·refine thn (T.item (X.blk Nc scope cl { s2 with heap:=h3,toks:=s2.toks } H3 fp) rfl rfl rfl hcb i [] s5 σ5 H5 _ I5 (stat fr5) st5 go) λr s6 hQ'=>?_
   obtain⟨u,hr,h6⟩:=hQ'
   subst hr
   refine thn h6 λ_ s7 hQ'=>?_
   obtain⟨x,H7,I7,r7,y7,st7,fr7⟩:=hQ'
   have I7':=I7.pinned (stat fr7) (T.obj _ _ st7)
   refine wpAny_mono (hg cl _ H3 fp _ s7 σ5 H7 x u _ I7' r7 (step x H7 y7)) (λ_ s8 hQ'=>?_) λ_ _ z=>z.elim
   obtain⟨σ8,H8,I8,q8⟩:=hQ'
   have again:∀{H9:Hp} {s9:Shared} {m:Nat},Inv (X.blk Nc scope cl { s2 with heap:=h3,toks:=s2.toks } H3 fp) ([]++zj6 fp s7.heap) σ8 H9 s9→m<n→W (i+1) m σ8 H9→∃m,m<n∧∃i σ' H',Inv (X.blk Nc scope cl { s2 with heap:=h3,toks:=s2.toks } H3 fp) [] σ' H' s9∧tn i s9.heap∧(∀b∈fp,H' b=none)∧W i m σ' H':=fun {H9 s9 m} I9 hm w9=>by
    refine⟨m,hm,i+1,σ8,H9,I9.unpinned,T.keep _ _ _ st7 λb hb o e=>(I9.pin (b,o) (ψq _ (ψq _ (zdX hb e)))).1,λb hb=>?_,w9⟩
    obtain⟨o,e,d⟩:=T.obj _ _ st7 b hb
    exact(I9.pin (b,o) (ψq _ (ψq _ (zdX hb e)))).2.1
   refine wpAny_mono (ht cl _ H3 fp _ s8 σ8 H8 _ I8 q8) (λb s9 hQ'=>?_) λ_ _ z=>z.elim
   obtain⟨H9,I9,q9⟩:=hQ'
   cases b with
   | false =>
    rw[if_neg (by decide)] at q9
    obtain⟨m',hm,w9⟩:=hN' _ _ q9
    exact again I9 hm w9
   | true =>
    rw[if_pos rfl] at q9
    refine wpAny_mono (he cl _ H3 fp _ s9 σ8 H9 _ I9 q9) (λu s10 hQ'=>?_) λ_ _ z=>z.elim
    obtain⟨y,H10,I10,r10,q10⟩:=hQ'
    refine wpAny_mono (zbN (X:=X.blk Nc scope cl { s2 with heap:=h3,toks:=s2.toks } H3 fp) _ s10 σ8 H10 (.ref D) [y] (.ref D) [u] _ I10 rfl (.cons r10 .nil) q10) (λ_ s11 hQ'=>?_) λ_ _ z=>z.elim
    obtain⟨_,H11,I11,_,q11⟩:=hQ'
    obtain⟨m',hm,w11⟩:=hN' _ _ q11
    exact again I11 hm w11
 exact codeAny_compStart_list loop (T.self _ 0 _ _ _ st4 loop)
theorem zbX{X:Cx}{sc:Scope}{N Nc:List Str}{cap:List (Option Nat)}{elt tg iter:Expr}{ifs:List Expr}{scope:Scope}{pos:Pos}{wi:TI}{g:TG}{tt:TT}{te:TE}(hc:X.calm=true)(hsc:X.env.scope=sc)(hN:X.N=N)(B:zpc sc N Nc cap scope)(hi:PI X tg iter wi)
  (hg:∀cl s H fp,PG (X.blk Nc scope cl s H fp) tg g) (ht:∀cl s H fp,PTs (X.blk Nc scope cl s H fp) ifs tt) (he:∀cl s H fp,PE (X.blk Nc scope cl s H fp) elt te)
  (hs:∀x,foldedSetIterable iter X.env x=pure x:=by intro _;rfl):PE X (.ListComp elt [⟨tg,iter,ifs,0⟩] scope pos) (zbA wi g tt te cap):=by
 intro pins s σ H Q I h
 rw[eval_ListComp]
 refine zma hc hsc hN B hi hg ht he hs I h λs3 H3 cl fp D σc Hc s6 I3 f3 I6 q=>?_
 obtain⟨m,hn,_⟩:=id I6.loc
 exact⟨m,hn,λh' hs'=>⟨.ref D,Hc,zqi I3 f3 I6 hs',rfl,q⟩⟩
theorem zb8{X:Cx}{i:Nat}{y:Str}{py spos:Pos}{sc:Scope}{N Nc:List Str}{cap:List (Option Nat)}{elt tg iter:Expr}{ifs:List Expr}{scope:Scope}{pos:Pos}{wi:TI}{g:TG}{tt:TT}{te:TE}(hnd:X.N.Nodup)(hix:X.N[i]?=some y)(hl:X.env.scope.names.lookup y=some .local)
  (hc:X.calm=true) (hsc:X.env.scope=sc) (hN:X.N=N) (B:zpc sc N Nc cap scope) (hi:PI X tg iter wi)
  (hg:∀cl s H fp,PG (X.blk Nc scope cl s H fp) tg g) (ht:∀cl s H fp,PTs (X.blk Nc scope cl s H fp) ifs tt) (he:∀cl s H fp,PE (X.blk Nc scope cl s H fp) elt te)
  (hsw:swapsWith (.ListComp elt [⟨tg,iter,ifs,0⟩] scope pos) (some (.Name y py)) spos.line X.env=pure true:=by rfl)
  (hs:∀x,foldedSetIterable iter X.env x=pure x:=by intro _;rfl):PS X (.Assign [.Name y py] (.ListComp elt [⟨tg,iter,ifs,0⟩] scope pos) spos) (za2 (zbA wi g tt te cap) (zag i)):=by
 intro pins s σ H D0 I h
 rw[exec_Assign_Name_used _ _ _ _ hsw]
 refine wpAny_bind (wpAny_standAt (wpAny_bind (wpAny_bind (thn (zma (use:=some (assign (.Name y py) X.env)) (QQ:=λ_ s'=>SP X pins D0 .next s') hc hsc hN B hi hg ht he hs I h λs3 H3 cl fp D σc Hc s6 I3 f3 I6 q=>?_) λ_ s' hq=>wpAny_pure (wpAny_pure hq)))))
 have I6x:Inv X pins σ Hc s6:=zqi I3 f3 I6 (Heap.SameBut.refl ..)
 obtain⟨m,hn,_⟩:=id I6.loc
 have hC:Hc s3.heap.objs.size=none:=I6.free
 have fpC:=I3.fpOk (b:=s3.heap.objs.size) (ψh _) hC
 refine wpAny_assign_Name (ziA I6x hnd hix (.inl hl) (v:=.ref D) rfl (λs7 I7 ch=>?_) (.inr hl))
 obtain⟨a,same,ha⟩:=ch
 have nC:s3.heap.objs.size≠a:=by
  rcases ha with r | r
  ·rw[r];exact fpC.2.1
  ·exact(fpC.2.2.2.2.1 _ _ r).symm
 refine⟨m,hn.sameBut same nC,λh' hs'=>⟨_,_,I7.turns (t':=s7.toks) (ch:=[s3.heap.objs.size]) (λb o hb e=>(hs'.2 b (by simpa using hb)).trans e) λb hb=>?_,q⟩⟩
 have e:b=s3.heap.objs.size:=by simpa using hb
 rw[e]
 exact fpC
theorem zrb{K:ψa}{a:Addr}{xs:List V}{g:TG}{tt:TT}{te:TE}{σ:St}{H:Hp}{D:Addr}{Q:VK}(Pv:Nat→List V→St→Hp→Prop)(h0:Pv 0 [] σ (upd H D (.lst [])))(hl:∀i ys σ H,i≤xs.length→Pv i ys σ H→SqL K H a xs)
  (hs:∀i x ys σ H,xs[i]?=some x→H D=some (.lst ys)→Pv i ys σ H→g x σ H λσ2 H2=>tt σ2 H2 λb H3=>if b=true then te σ2 H3 λy H4=>zaR (.ref D) [y] H4 λ_ H5=>∃ys,H5 D=some (.lst ys)∧Pv (i+1) ys σ2 H5 else ∃ys,H3 D=some (.lst ys)∧Pv (i+1) ys σ2 H3)
  (hd:∀ys σ H,H D=some (.lst ys)→Pv xs.length ys σ H→Q (.ref D) H) :
  ∃W:Nat→Nat→St→Hp→Prop,(∃m,W 0 m σ (upd H D (.lst [])))∧∀i m σc Hc,W i m σc Hc →
   ((Itl K a).stop i Hc∧Q (.ref D) Hc)∨((Itl K a).go i Hc∧∃N:St→Hp→Prop,(∀σ' H',N σ' H'→∃m',m'<m∧W (i+1) m' σ' H')∧∀x H',(Itl K a).yld i Hc x H'→g x σc H' λσ2 H2=>tt σ2 H2 λb H3=>if b=true then te σ2 H3 λy H4=>zaR (.ref D) [y] H4 λ_ H5=>N σ2 H5 else N σ2 H3):=by
 refine⟨λi m σ H=>m=xs.length - i∧i≤xs.length∧∃ys,H D=some (.lst ys)∧Pv i ys σ H,⟨_,rfl,ψr1 _,[],zaj,h0⟩,?_⟩
 rintro i m σ H ⟨rfl,hi,ys,hD,pv⟩
 have q:=hl i ys σ H hi pv
 by_cases hlt:i<xs.length
 ·refine .inr ⟨⟨xs,xs[i],q,by simp[hlt]⟩,λσ H=>∃ys,H D=some (.lst ys)∧Pv (i+1) ys σ H,λσ' H' p'=>⟨_,by (first|lia|omega),rfl,hlt,p'⟩,λx H' yl=>?_⟩
  obtain⟨e,yl⟩:=yl
  subst e
  exact hs i x ys σ _ (yl xs q) hD pv
 ·have e:i=xs.length:=by (first|lia|omega)
  subst e
  exact .inl ⟨⟨xs,q,ψh _⟩,hd ys σ H hD pv⟩
theorem zom{lo:Int}{n:Nat}{g:TG}{tt:TT}{te:TE}{σ:St}{H:Hp}{D:Addr}{Q:VK}(Pv:Nat→List V→St→Hp→Prop)(h0:Pv 0 [] σ (upd H D (.lst [])))
  (hs:∀i ys σ H,i<n→H D=some (.lst ys)→Pv i ys σ H→g (.int (lo+i)) σ H λσ2 H2=>tt σ2 H2 λb H3=>if b=true then te σ2 H3 λy H4=>zaR (.ref D) [y] H4 λ_ H5=>∃ys,H5 D=some (.lst ys)∧Pv (i+1) ys σ2 H5 else ∃ys,H3 D=some (.lst ys)∧Pv (i+1) ys σ2 H3)
  (hd:∀ys σ H,H D=some (.lst ys)→Pv n ys σ H→Q (.ref D) H) :
  ∃W:Nat→Nat→St→Hp→Prop,(∃m,W 0 m σ (upd H D (.lst [])))∧∀i m σc Hc,W i m σc Hc →
   ((Itr lo n).stop i Hc∧Q (.ref D) Hc)∨((Itr lo n).go i Hc∧∃N:St→Hp→Prop,(∀σ' H',N σ' H'→∃m',m'<m∧W (i+1) m' σ' H')∧∀x H',(Itr lo n).yld i Hc x H'→g x σc H' λσ2 H2=>tt σ2 H2 λb H3=>if b=true then te σ2 H3 λy H4=>zaR (.ref D) [y] H4 λ_ H5=>N σ2 H5 else N σ2 H3):=by
 refine⟨λi m σ H=>m=n - i∧i≤n∧∃ys,H D=some (.lst ys)∧Pv i ys σ H,⟨_,rfl,ψr1 _,[],zaj,h0⟩,?_⟩
 rintro i m σ H ⟨rfl,hi,ys,hD,pv⟩
 by_cases hlt:i<n
 ·refine .inr ⟨hlt,λσ H=>∃ys,H D=some (.lst ys)∧Pv (i+1) ys σ H,λσ' H' p'=>⟨_,by (first|lia|omega),rfl,hlt,p'⟩,λx H' yl=>?_⟩
  obtain⟨e,yl⟩:=yl
  subst e yl
  exact hs i ys σ _ hlt hD pv
 ·have e:i=n:=by (first|lia|omega)
  subst e
  exact .inl ⟨ψh _,hd ys σ H hD pv⟩
end L2
namespace L2
open PySem PySem.Spec PyProof.Rows
theorem zp0(bs:List Bool):(ψi1 bs.length).all (λi=>bs.getD i false)=bs.all id:=by
 rw[ψI1,List.all_eq_true,List.all_eq_true]
 constructor
 ·intro h x hx
  obtain⟨i,hi,e⟩:=List.getElem_of_mem hx
  have:=h i (List.mem_range.mpr hi)
  rw[ψA,ψd hi] at this
  rw[← e]
  exact this
 ·intro h i hi
  have hi:=List.mem_range.mp hi
  rw[ψA,ψd hi]
  exact h _ (ψS1 hi)
def zrf(K:ψa):List V→Hp→VK→Prop:=λxs H Q=>∃(p:Addr) (bs:List Bool),xs=[.ref p]∧SqL K H p (bs.map V.bl)∧Q (.bl (bs.all id)) H
def zmg(K:ψa):List V→Hp→VK→Prop:=λxs H Q=>∃(p:Addr) (ns:List Int),xs=[.ref p]∧SqL K H p (ns.map V.int)∧Q (.int ns.sum) H
theorem zw5{bs:List Bool}{its:List Value}{i:Nat}{v:Value}(r:zb9 (bs.map V.bl) its)(e:its.toArray[i]?=some v):v=.bool (bs.getD i false):=by
 have l:=r.length
 rw[ψb] at l
 have e':its[i]?=some v:=by simpa using e
 have hi:i<bs.length:=by rw[l];exact(List.getElem?_eq_some_iff.mp e').1
 obtain⟨u,hu,ru⟩:=r.get (i:=i) (x:=.bl bs[i]) (by rw[ψD,ψd hi];rfl)
 rw[e'] at hu
 cases hu
 cases ru
 rw[ψA,ψd hi]
 rfl
theorem ztz{P:Program}{w:World}{A:Around}{bs:List Bool}{its:List Value}(r:zb9 (bs.map V.bl) its):TruthOf P w A (λi v=>its.toArray[i]?=some v) λi=>bs.getD i false:=λi v s Q E hP hQ=>by
 rw[zw5 r hP]
 exact wpAny_pure hQ
section
variable {X:Cx}
theorem zf5(hc:X.calm=true):zh7 X (.builtin "all") (zrf X.K):=by
 intro pins s σ H xs us Q I r h
 obtain⟨p,bs,rfl,hl,q⟩:=h
 obtain⟨u,rfl,ru⟩:=r.one
 cases ru
 obtain⟨its,rv,pl,_⟩:=I.list hl
 have l:=rv.length
 rw[ψb] at l
 obtain⟨o,n,e,_⟩:=id pl
 have hne:p≠s.heap.objs.size:=ψl (Heap.lt_size e)
 refine call_all_walk (wpAny_pyIter_list pl.isList ?_)
 refine⟨s.heap.objs.size,_,_,_,_,_,λi=>bs.getD i false,rfl,Walks.list (A:=X.A.in1) (I.ok.hd hc) _ p hne its.toArray,⟨⟨_,Heap.get?_push_size _ rfl,rfl,rfl⟩,?_⟩,ztz rv,λh' tk hk=>⟨.bl _,H,I.kept λb u eb=>?_,rfl,?_⟩⟩
 ·exact pl.isList.at λo e=>Heap.get?_push_of_some _ e
 ·exact hk b u (λz=>ψl (Heap.lt_size eb) (by simpa using z)) (Heap.get?_push_of_some _ eb)
 ·rw[ψe,← l,zp0]
  exact q
theorem zva{ns:List Int}{its:List Value}{i:Nat}{v:Value}(r:zb9 (ns.map V.int) its)(e:its.toArray[i]?=some v):∃t,v=.int (ns.getD i 0) t:=by
 have l:=r.length
 rw[ψb] at l
 have e':its[i]?=some v:=by simpa using e
 have hi:i<ns.length:=by rw[l];exact(List.getElem?_eq_some_iff.mp e').1
 obtain⟨u,hu,ru⟩:=r.get (i:=i) (x:=.int ns[i]) (by rw[ψD,ψd hi];rfl)
 rw[e'] at hu
 cases hu
 obtain⟨t,rfl⟩:=ru
 refine⟨t,?_⟩
 rw[ψA,ψd hi]
 rfl
theorem zjR(ns:List Int):∀k,k≤ns.length→preSum (λi=>ns.getD i 0) k=(ns.take k).sum
 | 0,_=>by simp[preSum]
 | k+1,h=>by
  rw[preSum,zjR ns k (by (first|lia|omega)),ψw,ψd (by (first|lia|omega)),List.sum_append,ψA,ψd (by (first|lia|omega))]
  simp
theorem zeo(hc:X.calm=true):zh7 X (.builtin "sum") (zmg X.K):=by
 intro pins s σ H xs us Q I r h
 obtain⟨p,ns,rfl,hl,q⟩:=h
 obtain⟨u,rfl,ru⟩:=r.one
 cases ru
 obtain⟨its,rv,pl,_⟩:=I.list hl
 have l:=rv.length
 rw[ψb] at l
 obtain⟨o,n,e,_⟩:=id pl
 have hlt:=Heap.lt_size e
 have hne:p≠s.heap.objs.size:=ψl hlt
 refine call_sum_walkG (wpAny_pyIter_list pl.isList ?_)
 refine⟨s.heap.objs.size,_,_,_,_,_,λi=>ns.getD i 0,rfl,Walks.list (A:=X.A.in1) (I.ok.hd hc) _ p hne its.toArray,⟨⟨_,Heap.get?_push_size _ rfl,rfl,rfl⟩,?_⟩,λb hb=>?_,λi v hv=>zva rv hv,λh' tk t' hk=>⟨.int _,H,I.kept λb u eb=>?_,⟨t',rfl⟩,?_⟩⟩
 ·exact pl.isList.at λo e=>Heap.get?_push_of_some _ e
 ·rw[Heap.size_push]
  rcases List.mem_cons.mp hb with z | z
  ·rw[z];exact ψF1 _
  ·have z':b=p:=by simpa using z
   rw[z'];exact ψO1 hlt
 ·exact hk b u (λz=>ψl (Heap.lt_size eb) (by simpa using z)) (Heap.get?_push_of_some _ eb)
 ·rw[ψe,← l,zjR _ _ (ψh _),ψO]
  exact q
end
end L2
namespace L2
open PySem PySem.Spec PyProof.Rows
def Itz(K:ψa)(p q:Addr):It where
 go:=λi H=>∃xs ys a b,SqL K H p xs∧SqL K H q ys∧xs[i]?=some a∧ys[i]?=some b
 yld:=λi H x H'=>∃t a b,x=.ref t∧H t=none∧H'=upd H t (.tup [a,b])∧(∀xs,SqL K H p xs→xs[i]?=some a)∧∀ys,SqL K H q ys→ys[i]?=some b
 stop:=λi H=>∃xs ys,SqL K H p xs∧SqL K H q ys∧i=min xs.length ys.length
def tnZ(z TI TO i1 i2 p q:Addr)(i:Nat)(h:Heap):Prop:=IsZip h z TI TO .none∧IsPair h TI (.ref i1) (.ref i2)∧(∃a b,IsPair h TO a b)∧h.IsListIter i1 p i∧h.IsListIter i2 q i
theorem zse{z TI TO i1 i2 p q:Addr}{i:Nat}{h h':Heap}(st:tnZ z TI TO i1 i2 p q i h)(k:∀b∈[z,TI,TO,i1,i2],∀o,h.get? b=some o→h'.get? b=some o):tnZ z TI TO i1 i2 p q i h':=by
 obtain⟨a1,a2,⟨x,y,a3⟩,a4,a5⟩:=st
 exact⟨k z (by simp) _ a1,k TI (by simp) _ a2,⟨x,y,k TO (by simp) _ a3⟩,a4.at λo e=>k i1 (by simp) o e,a5.at λo e=>k i2 (by simp) o e⟩
theorem zb2{o:Obj}{vs:Array Value}(h:o.data=.fields vs):∀v,o.data≠.cell v:=λv z=>by rw[h] at z;cases z
theorem ztW{P:Program}{w:World}{K:ψa}{elts:List Expr}{k:Nat}{pos:Pos}{z TI TO i1 i2 p q:Addr}(D:ZipApart z TI TO i1 i2 p q):zyL P w K (.Tuple elts k pos) (Itz K p q) [z,TI,TO,i1,i2] z (tnZ z TI TO i1 i2 p q) where
 mem:=by simp
 obj:=λi h st b hb=>by
  obtain⟨a1,a2,⟨x,y,a3⟩,⟨o4,a4,_,d4⟩,⟨o5,a5,_,d5⟩⟩:=st
  simp only[ψP,ψI,or_false] at hb
  rcases hb with rfl | rfl | rfl | rfl | rfl
  ·exact⟨_,a1,zb2 rfl⟩
  ·exact⟨_,a2,λv z=>nomatch (show Data.seq _ _=Data.cell v from z)⟩
  ·exact⟨_,a3,λv z=>nomatch (show Data.seq _ _=Data.cell v from z)⟩
  ·exact⟨_,a4,zb2 d4⟩
  ·exact⟨_,a5,zb2 d5⟩
 keep:=λi h h' st kk=>zse st kk
 item:=by
  intro X hP hw hK hc i pins s σ H E I hf st hg
  subst hP hw hK
  obtain⟨xs,ys,a,b,hx,hy,ea,eb⟩:=hg
  obtain⟨its1,r1,pl1,z1⟩:=I.list hx
  obtain⟨its2,r2,pl2,z2⟩:=I.list hy
  obtain⟨ua,eua,rua⟩:=r1.get ea
  obtain⟨ub,eub,rub⟩:=r2.get eb
  obtain⟨s1,s2,s3,s4,s5⟩:=st
  have W:=WalksT.zip2 (prog:=X.prog) (w:=X.w) (A:=X.A) (I.ok.hd hc) z TI TO i1 i2 p q D its1.toArray its2.toArray
  have hi:i<min its1.toArray.size its2.toArray.size:=by
   have h1:=(List.getElem?_eq_some_iff.mp eua).1
   have h2:=(List.getElem?_eq_some_iff.mp eub).1
   simp only[ψe]
   (first|lia|omega)
  refine W.item i s _ _ hi ⟨s1,s2,s3,s4,s5,pl1.isList,pl2.isList⟩ λT vals h' tk hp hT hTup mid kk=>⟨_,rfl,?_⟩
  obtain⟨u,v,e1,e2,rfl⟩:=hp
  have e1':u=ua:=by
   have:its1[i]?=some u:=by simpa using e1
   rw[eua] at this;cases this;rfl
  have e2':v=ub:=by
   have:its2[i]?=some v:=by simpa using e2
   rw[eub] at this;cases this;rfl
  subst e1' e2'
  refine W.go elts k pos i T { s with heap:=h',toks:=tk } _ _ mid λh2 st2 kk2=>?_
  obtain⟨t1,t2,t3,t4,t5,_,_⟩:=st2
  have sub:∀b∈[z,TO,i1,i2],b∈[z,TI,TO,i1,i2]:=λb hb=>by
   simp only[ψP,ψI,or_false] at hb ⊢
   rcases hb with h | h | h | h <;> simp[h]
  have I1:Inv X pins σ H { s with heap:=h2,toks:=tk }:=I.turns (ch:=[z,TO,i1,i2]) (λb o hb e=>kk2 b o hb (kk b o hb e)) λb hb=>hf b (sub b hb)
  have nT:H T=none:=I.hok.fresh hT
  have I2:=I1.track (a:=T) (o:=.tup [a,b]) nT (Heap.get?_none_of_le (ψF I.sz hT)) (ψs1 (ψi I.lt hT)) (λx c e=>by
   obtain⟨v,q⟩:=I.cell x c e
   exact ψl (ψi q.lt hT)) (λp hp=>ψl (ψi (Heap.lt_size (I.pin p hp).1) hT)) (by
   refine⟨by show 2≤sizeLine;decide,[u,v],.cons rua (.cons rub .nil),?_⟩
   obtain⟨o,ho,hcl,hd⟩:=hTup
   exact⟨o,kk2 T o (W.apart i T h' mid) ho,hcl,hd⟩)
  refine⟨.ref T,_,I2,rfl,⟨T,a,b,rfl,nT,rfl,λxs' h'=>?_,λys' h'=>?_⟩,⟨t1,t2,t3,t4,t5⟩,λb hb=>?_⟩
  ·rw[I.list_inj h' hx];exact ea
  ·rw[I.list_inj h' hy];exact eb
  ·have hb2:∃o,s.heap.get? b=some o:=by
    obtain⟨x3,y3,s3⟩:=s3
    obtain⟨o4,s4,_⟩:=s4
    obtain⟨o5,s5,_⟩:=s5
    simp only[ψP,ψI,or_false] at hb
    rcases hb with h | h | h | h | h <;> rw[h] <;> first | exact⟨_,s1⟩ | exact⟨_,s2⟩ | exact⟨_,s3⟩ | exact⟨_,s4⟩ | exact⟨_,s5⟩
   obtain⟨o,e⟩:=hb2
   rw[zaP (ψl (ψi (Heap.lt_size e) hT))]
   exact(hf b hb).1
 done:=by
  intro X hP hw hK hc i pins s σ H E I hf st hg
  subst hP hw hK
  obtain⟨xs,ys,hx,hy,rfl⟩:=hg
  obtain⟨its1,r1,pl1,z1⟩:=I.list hx
  obtain⟨its2,r2,pl2,z2⟩:=I.list hy
  obtain⟨s1,s2,s3,s4,s5⟩:=st
  have W:=WalksT.zip2 (prog:=X.prog) (w:=X.w) (A:=X.A) (I.ok.hd hc) z TI TO i1 i2 p q D its1.toArray its2.toArray
  have sub:∀b∈[z,TO,i1,i2],b∈[z,TI,TO,i1,i2]:=λb hb=>by
   simp only[ψP,ψI,or_false] at hb ⊢
   rcases hb with h | h | h | h <;> simp[h]
  refine W.done s _ _ ?_ λh' tk kk=>⟨rfl,I.turns (ch:=[z,TO,i1,i2]) (λb o hb e=>kk b o hb e) λb hb=>hf b (sub b hb)⟩
  rw[ψe,ψe,← r1.length,← r2.length]
  exact⟨s1,s2,s3,s4,s5,pl1.isList,pl2.isList⟩
 self:=λA i s Q E st h=>wpAny_pyIter_zip st.1 h
def zhF(K:ψa)(ta:TA):TI:=λσ H R=>ta σ H λvs H1=>∃p q,vs=[.ref p,.ref q]∧(∃xs,SqL K H1 p xs)∧(∃ys,SqL K H1 q ys)∧R (Itz K p q) H1
theorem zdD{X:Cx}{a b:Expr}{elts:List Expr}{k:Nat}{tp p pos:Pos}{ta:TA}(hg:Gl X "zip")(hm:X.mg "zip"=none)(ha:PA X [a,b] ta)(hs:starEach [a,b] X.env=[(false,eval a X.env),(false,eval b X.env)]:=by rfl)(hs2:starEach [b] X.env=[(false,eval b X.env)]:=by rfl) :
  PI X (.Tuple elts k tp) (.Call (.Name "zip" p) [a,b] [] pos) (zhF X.K ta):=by
 intro pins s σ H R I h
 refine Call_ (zhH I hg hm boot_zip (ψh1 (thn (ha pos pins s σ H _ I h) λus s1 hQ'=>?_) (by rw[hs,hs2]) (by rw[hs2];rfl)))
 obtain⟨vs,H1,I1,r1,q1⟩:=hQ'
 obtain⟨p1,p2,rfl,⟨xs,hx⟩,⟨ys,hy⟩,q⟩:=q1
 obtain⟨u,v,rfl,ru,rv⟩:=zso r1
 cases ru
 cases rv
 obtain⟨its1,_,pl1,_⟩:=I1.list hx
 obtain⟨its2,_,pl2,_⟩:=I1.list hy
 have a1:p1<s1.heap.objs.size:=by obtain⟨_,e,_⟩:=pl1.isList;exact Heap.lt_size e
 have a2:p2<s1.heap.objs.size:=by obtain⟨_,e,_⟩:=pl2.isList;exact Heap.lt_size e
 refine call_zip_2 pl1.isList pl2.isList λh' hz hTI hTO hi1 hi2 hsz hk=>?_
 refine wpAny_pyIter_zip hz ?_
 refine⟨_,_,_,_,H1,rfl,I1.kept (t':=s1.toks) hk,ztW (zipApart_new a1 a2),⟨hz,hTI,⟨_,_,hTO⟩,hi1,hi2⟩,λb hb=>?_,q⟩
 have hb':s1.heap.objs.size≤b:=by
  simp only[ψP,ψI,or_false] at hb
  rcases hb with h | h | h | h | h <;> rw[h] <;> first | exact ψh _ | exact Nat.le_add_right _ _
 exact I1.fpOk hb' (I1.hok.fresh hb')
theorem zuR{K:ψa}{p q:Addr}{xs ys:List V}{g:TG}{tb:TS}{D:zbP}{σ:St}{H:Hp}(Pv:Nat→St→Hp→Prop)(h0:Pv 0 σ H)(hl:∀i σ H,i≤min xs.length ys.length→Pv i σ H→SqL K H p xs∧SqL K H q ys)
  (hs:∀i x y t σ H,xs[i]?=some x→ys[i]?=some y→Pv i σ H→H t=none→g (.ref t) σ (upd H t (.tup [x,y])) λσ2 H2=>tb { D with nx:=Pv (i+1),ct:=Pv (i+1),bk:=D.nx } σ2 H2) (hd:∀σ H,Pv (min xs.length ys.length) σ H→D.nx σ H) :
  ∃W:Nat→Nat→St→Hp→Prop,(∃m,W 0 m σ H)∧∀i m σ H,W i m σ H →
   ((Itz K p q).stop i H∧D.nx σ H)∨((Itz K p q).go i H∧∃N:St→Hp→Prop,(∀σ' H',N σ' H'→∃m',m'<m∧W (i+1) m' σ' H')∧∀x H',(Itz K p q).yld i H x H'→g x σ H' λσ2 H2=>tb { D with nx:=N,ct:=N,bk:=D.nx } σ2 H2):=by
 refine⟨λi m σ H=>m=min xs.length ys.length - i∧i≤min xs.length ys.length∧Pv i σ H,⟨_,rfl,ψr1 _,h0⟩,?_⟩
 rintro i m σ H ⟨rfl,hi,pv⟩
 obtain⟨hx,hy⟩:=hl i σ H hi pv
 by_cases hlt:i<min xs.length ys.length
 ·have l1:i<xs.length:=by (first|lia|omega)
  have l2:i<ys.length:=by (first|lia|omega)
  refine .inr ⟨⟨xs,ys,xs[i],ys[i],hx,hy,by simp[l1],by simp[l2]⟩,Pv (i+1),λσ' H' p'=>⟨_,by (first|lia|omega),rfl,hlt,p'⟩,λx H' yl=>?_⟩
  obtain⟨t,a,b,rfl,ht,rfl,e1,e2⟩:=yl
  exact hs i a b t σ H (e1 xs hx) (e2 ys hy) pv ht
 ·have e:i=min xs.length ys.length:=by (first|lia|omega)
  subst e
  exact .inl ⟨⟨xs,ys,hx,hy,rfl⟩,hd σ H pv⟩
theorem zsv{K:ψa}{p q:Addr}{xs zs:List V}{g:TG}{tt:TT}{te:TE}{σ:St}{H:Hp}{D:Addr}{Q:VK}(Pv:Nat→List V→St→Hp→Prop)(h0:Pv 0 [] σ (upd H D (.lst [])))
  (hl:∀i ys σ H,i≤min xs.length zs.length→Pv i ys σ H→SqL K H p xs∧SqL K H q zs)
  (hs:∀i x z t ys σ H,xs[i]?=some x→zs[i]?=some z→H D=some (.lst ys)→Pv i ys σ H→H t=none→g (.ref t) σ (upd H t (.tup [x,z])) λσ2 H2=>tt σ2 H2 λb H3=>if b=true then te σ2 H3 λy H4=>zaR (.ref D) [y] H4 λ_ H5=>∃ys,H5 D=some (.lst ys)∧Pv (i+1) ys σ2 H5 else ∃ys,H3 D=some (.lst ys)∧Pv (i+1) ys σ2 H3)
  (hd:∀ys σ H,H D=some (.lst ys)→Pv (min xs.length zs.length) ys σ H→Q (.ref D) H) :
  ∃W:Nat→Nat→St→Hp→Prop,(∃m,W 0 m σ (upd H D (.lst [])))∧∀i m σc Hc,W i m σc Hc →
   ((Itz K p q).stop i Hc∧Q (.ref D) Hc)∨((Itz K p q).go i Hc∧∃N:St→Hp→Prop,(∀σ' H',N σ' H'→∃m',m'<m∧W (i+1) m' σ' H')∧∀x H',(Itz K p q).yld i Hc x H'→g x σc H' λσ2 H2=>tt σ2 H2 λb H3=>if b=true then te σ2 H3 λy H4=>zaR (.ref D) [y] H4 λ_ H5=>N σ2 H5 else N σ2 H3):=by
 refine⟨λi m σ H=>m=min xs.length zs.length - i∧i≤min xs.length zs.length∧∃ys,H D=some (.lst ys)∧Pv i ys σ H,⟨_,rfl,ψr1 _,[],zaj,h0⟩,?_⟩
 rintro i m σ H ⟨rfl,hi,ys,hD,pv⟩
 obtain⟨hx,hz⟩:=hl i ys σ H hi pv
 by_cases hlt:i<min xs.length zs.length
 ·have l1:i<xs.length:=by (first|lia|omega)
  have l2:i<zs.length:=by (first|lia|omega)
  refine .inr ⟨⟨xs,zs,xs[i],zs[i],hx,hz,by simp[l1],by simp[l2]⟩,λσ H=>∃ys,H D=some (.lst ys)∧Pv (i+1) ys σ H,λσ' H' p'=>⟨_,by (first|lia|omega),rfl,hlt,p'⟩,λx H' yl=>?_⟩
  obtain⟨t,a,b,rfl,ht,rfl,e1,e2⟩:=yl
  exact hs i a b t ys σ H (e1 xs hx) (e2 zs hz) hD pv ht
 ·have e:i=min xs.length zs.length:=by (first|lia|omega)
  subst e
  exact .inl ⟨⟨xs,zs,hx,hz,rfl⟩,hd ys σ H hD pv⟩
end L2
namespace L2
open PySem PySem.Spec PyProof.Rows
inductive Tr where
 | int (i:Int)
 | bl (b:Bool)
 | str (x:Str)
 | non
 | lst (l:List Tr)
 | tup (l:List Tr)
inductive zdl (K:ψa) (H:Hp):Nat→Tr→V→Prop where
 | int {n:Nat} (i:Int):zdl K H n (.int i) (.int i)
 | bl {n:Nat} (b:Bool):zdl K H n (.bl b) (.bl b)
 | str {n:Nat} (x:Str):zdl K H n (.str x) (.str x)
 | non {n:Nat}:zdl K H n .non .non
 | lst {n:Nat} {p:Addr} {xs:List V} {ts:List Tr} (h:SqL K H p xs) (l:xs.length=ts.length) (e:∀(i:Nat) x t,xs[i]?=some x→ts[i]?=some t→zdl K H n t x):zdl K H (n+1) (.lst ts) (.ref p)
 | tup {n:Nat} {p:Addr} {xs:List V} {ts:List Tr} (h:SqT K H p xs) (l:xs.length=ts.length) (e:∀(i:Nat) x t,xs[i]?=some x→ts[i]?=some t→zdl K H n t x):zdl K H (n+1) (.tup ts) (.ref p)
section
variable {X:Cx} {pins:List (Addr×Obj)} {σ:St} {H:Hp} {s:Shared}
theorem zf4{A:Around}{n:Nat}{xs ys:List V}{ts:List Tr}{us vs:List Value}(lx:xs.length=ts.length)(ly:ys.length=ts.length)(r1:zb9 xs us)(r2:zb9 ys vs)
  (ih:∀(i:Nat) x t,xs[i]?=some x→ts[i]?=some t→∀y,zdl X.K H n t y→∀(u v:Value) (A:Around),zdz x u→zdz y v→A.units+n<cLine→SeqAt.EqAt A s u v true)
  (ey:∀(i:Nat) y t,ys[i]?=some y→ts[i]?=some t→zdl X.K H n t y) (hu:A.units+(n+1)<cLine) :
  ∀j (h1:j<us.toArray.size) (h2:j<vs.toArray.size),SeqAt.EqAt A.in1 s us.toArray[j] vs.toArray[j] true:=by
 intro j h1 h2
 have k1:j<xs.length:=by rw[r1.length];simpa using h1
 have k2:j<ys.length:=by rw[r2.length];simpa using h2
 have k3:j<ts.length:=by (first|lia|omega)
 obtain⟨u,e1,ru⟩:=r1.get (ψd k1)
 obtain⟨v,e2,rv⟩:=r2.get (ψd k2)
 have q1:us.toArray[j]=u:=by
  have:=(List.getElem?_eq_some_iff.mp e1).2
  simpa using this
 have q2:vs.toArray[j]=v:=by
  have:=(List.getElem?_eq_some_iff.mp e2).2
  simpa using this
 rw[q1,q2]
 exact ih j _ _ (ψd k1) (ψd k3) _ (ey j _ _ (ψd k2) (ψd k3)) u v A.in1 ru rv (by show A.units+1+n<cLine;(first|lia|omega))
theorem zf8(n:Nat):(ψi1 n).all (λ_=>true)=true:=by simp
theorem zkv(I:Inv X pins σ H s){n:Nat}{t:Tr}{x:V}(hx:zdl X.K H n t x):∀y,zdl X.K H n t y→∀(u v:Value) (A:Around),zdz x u→zdz y v→A.units+n<cLine→SeqAt.EqAt A s u v true:=by
 induction hx with
 | int i =>
  intro y hy u v A ru rv hu
  cases hy
  obtain⟨a,rfl⟩:=ru
  obtain⟨b,rfl⟩:=rv
  have:=SeqAt.EqAt.int_int (A:=A) (s:=s) i a i b
  rw[beq_self_eq_true] at this
  exact this
 | bl b =>
  intro y hy u v A ru rv hu
  cases hy
  cases ru
  cases rv
  exact SeqAt.EqAt.same _
 | str x =>
  intro y hy u v A ru rv hu
  cases hy
  obtain⟨a,rfl⟩:=ru
  obtain⟨b,rfl⟩:=rv
  have:=SeqAt.EqAt.str_str (A:=A) (s:=s) x a x b
  rw[beq_self_eq_true] at this
  exact this
 | non =>
  intro y hy u v A ru rv hu
  cases hy
  cases ru
  cases rv
  exact SeqAt.EqAt.same _
 | @lst n p xs ts h l e ih =>
  intro y hy u v A ru rv hu
  cases hy with
  | @lst _ q ys _ h2 l2 e2 =>
   cases ru
   cases rv
   by_cases hpq:p=q
   ·subst hpq
    exact SeqAt.EqAt.same _
   ·obtain⟨us,r1,p1,_⟩:=I.list h
    obtain⟨vs,r2,p2,_⟩:=I.list h2
    have z:=SeqAt.RcAt.lists (A:=A) p1.isList p2.isList (by rw[ψe,ψe,← r1.length,← r2.length,l,l2]) (by (first|lia|omega)) (e:=λ_=>true) (zf4 l l2 r1 r2 ih e2 hu)
    rw[zf8] at z
    exact SeqAt.EqAt.of_refs hpq z
 | @tup n p xs ts h l e ih =>
  intro y hy u v A ru rv hu
  cases hy with
  | @tup _ q ys _ h2 l2 e2 =>
   cases ru
   cases rv
   by_cases hpq:p=q
   ·subst hpq
    exact SeqAt.EqAt.same _
   ·obtain⟨us,r1,p1,_⟩:=I.tuple h
    obtain⟨vs,r2,p2,_⟩:=I.tuple h2
    have z:=SeqAt.RcAt.tuples (A:=A) p1 p2 (by (first|lia|omega)) (e:=λ_=>true) (zf4 l l2 r1 r2 ih e2 hu)
    rw[zf8,ψe,ψe,← r1.length,← r2.length,l,l2,beq_self_eq_true,Bool.and_self] at z
    exact SeqAt.EqAt.of_refs hpq z
def rEqD(K:ψa):R2:=λx y H Q=>∃n ts,n≤60∧(zdl K H (n+1) (.lst ts) x∧zdl K H (n+1) (.lst ts) y∨zdl K H (n+1) (.tup ts) x∧zdl K H (n+1) (.tup ts) y)∧Q (.bl true) H
def zrv(K:ψa):R2:=λx y H Q=>∃n ts,n≤60∧(zdl K H (n+1) (.lst ts) x∧zdl K H (n+1) (.lst ts) y∨zdl K H (n+1) (.tup ts) x∧zdl K H (n+1) (.tup ts) y)∧Q (.bl false) H
theorem zyp(hu:X.A.units+64<cLine):OpR X (compareOp .Eq) (rEqD X.K):=by
 intro pins s σ H x y v u Q I rx ry h
 obtain⟨n,ts,hn,h,q⟩:=h
 have hu':X.A.units+(n+1)<cLine:=by (first|lia|omega)
 rcases h with ⟨h1,h2⟩ | ⟨h1,h2⟩
 ·cases h1 with
  | @lst _ p xs _ a1 a2 a3 =>
   cases h2 with
   | @lst _ p' ys _ b1 b2 b3 =>
    cases rx
    cases ry
    obtain⟨us,r1,p1,_⟩:=I.list a1
    obtain⟨vs,r2,p2,_⟩:=I.list b1
    have z:=SeqAt.RcAt.lists (A:=X.A) p1.isList p2.isList (by rw[ψe,ψe,← r1.length,← r2.length,a2,b2]) (by (first|lia|omega)) (e:=λ_=>true) (zf4 a2 b2 r1 r2 (λi x t e1 e2=>zkv I (a3 i x t e1 e2)) b3 hu')
    rw[zf8] at z
    exact z X.prog X.w X.xe _ ⟨.bl true,H,I,rfl,q⟩
 ·cases h1 with
  | @tup _ p xs _ a1 a2 a3 =>
   cases h2 with
   | @tup _ p' ys _ b1 b2 b3 =>
    cases rx
    cases ry
    obtain⟨us,r1,p1,_⟩:=I.tuple a1
    obtain⟨vs,r2,p2,_⟩:=I.tuple b1
    have z:=SeqAt.RcAt.tuples (A:=X.A) p1 p2 (by (first|lia|omega)) (e:=λ_=>true) (zf4 a2 b2 r1 r2 (λi x t e1 e2=>zkv I (a3 i x t e1 e2)) b3 hu')
    rw[zf8,ψe,ψe,← r1.length,← r2.length,a2,b2,beq_self_eq_true,Bool.and_self] at z
    exact z X.prog X.w X.xe _ ⟨.bl true,H,I,rfl,q⟩
theorem znB(hu:X.A.units+64<cLine):OpR X (compareOp .NotEq) (zrv X.K):=by
 intro pins s σ H x y v u Q I rx ry h
 obtain⟨n,ts,hn,h,q⟩:=h
 have hu':X.A.units+(n+1)<cLine:=by (first|lia|omega)
 rcases h with ⟨h1,h2⟩ | ⟨h1,h2⟩
 ·cases h1 with
  | @lst _ p xs _ a1 a2 a3 =>
   cases h2 with
   | @lst _ p' ys _ b1 b2 b3 =>
    cases rx
    cases ry
    obtain⟨us,r1,p1,_⟩:=I.list a1
    obtain⟨vs,r2,p2,_⟩:=I.list b1
    have z:=SeqAt.RcNeAt.lists (A:=X.A) p1.isList p2.isList (by rw[ψe,ψe,← r1.length,← r2.length,a2,b2]) (by (first|lia|omega)) (e:=λ_=>true) (zf4 a2 b2 r1 r2 (λi x t e1 e2=>zkv I (a3 i x t e1 e2)) b3 hu')
    rw[zf8] at z
    exact z X.prog X.w X.xe _ ⟨.bl false,H,I,rfl,q⟩
 ·cases h1 with
  | @tup _ p xs _ a1 a2 a3 =>
   cases h2 with
   | @tup _ p' ys _ b1 b2 b3 =>
    cases rx
    cases ry
    obtain⟨us,r1,p1,_⟩:=I.tuple a1
    obtain⟨vs,r2,p2,_⟩:=I.tuple b1
    have z:=SeqAt.RcNeAt.tuples (A:=X.A) p1 p2 (by (first|lia|omega)) (e:=λ_=>true) (zf4 a2 b2 r1 r2 (λi x t e1 e2=>zkv I (a3 i x t e1 e2)) b3 hu')
    rw[zf8,ψe,ψe,← r1.length,← r2.length,a2,b2,beq_self_eq_true,Bool.and_self] at z
    exact z X.prog X.w X.xe _ ⟨.bl false,H,I,rfl,q⟩
end
end L2
namespace L2
open PySem PySem.Spec PyProof.Rows
theorem zof{P:Program}{w:World}{A:Around}{E:Value→Shared→Prop}{I ax:Addr}{items:Array Value}(hh:A.handled=none)(hne:ax≠I):∀(k i:Nat) (s:Shared) (Q:List Value→Shared→Prop),s.heap.IsListIter I ax i→s.heap.IsList ax items→i+k≤items.size →
  (∀h' tk,h'.IsListIter I ax (i+k)→h'.IsList ax items→(∀b o,b≠I→s.heap.get? b=some o→h'.get? b=some o)→Q ((items.toList.drop i).take k) { s with heap:=h',toks:=tk })→wpAny (model P w) A (draw (.ref I) k) Q E s
 | 0,i,s,Q,hit,hl,_,hQ=>by
  refine wpAny_pure (a:=[]) ?_
  have:=hQ s.heap s.toks hit hl λ_ _ _ e=>e
  simpa using this
 | k+1,i,s,Q,hit,hl,hle,hQ=>by
  have hi:i<items.size:=by (first|lia|omega)
  refine wpAny_bind (m:=pyNext (.ref I)) ((Walks.list (A:=A) hh I ax hne items).item i s _ _ hi ⟨hit,hl⟩ λv h1 tk1 hv st kk=>?_)
  refine wpAny_bind (wpAny_holding (zof hh hne k (i+1) _ _ st.1 st.2 (by (first|lia|omega)) λh2 tk2 hit2 hl2 kk2=>wpAny_pure ?_))
  have hv':items[i]=v:=by
   have:=(Array.getElem?_eq_some_iff.mp hv).2
   exact this
  have hd:items.toList.drop i=v::items.toList.drop (i+1):=by
   rw[← hv',List.drop_eq_getElem_cons (by simpa using hi)]
   simp
  have:=hQ h2 tk2 (by rw[show i+(k+1)=i+1+k by (first|lia|omega)];exact hit2) hl2 λb o hb e=>kk2 b o hb (kk b o (by simpa using hb) e)
  rw[hd,List.take_succ_cons] at this
  exact this
theorem zoJ{P:Program}{w:World}{A:Around}{E:Value→Shared→Prop}{s:Shared}{t:Addr}{items:Array Value}{Q:List Value→Shared→Prop}(hh:A.handled=none)(ht:s.heap.IsList t items)
  (hQ:∀h' tk,(∀b o,s.heap.get? b=some o→h'.get? b=some o)→Q items.toList { s with heap:=h',toks:=tk }):wpAny (model P w) A (unpackItems (.ref t) items.size none) Q E s:=by
 obtain⟨o,ho,hcl,hdt⟩:=id ht
 have hne:t≠s.heap.objs.size:=ψl (Heap.lt_size ho)
 have ty:s.TypeIs (.ref t) "list":=⟨o,ho,hcl⟩
 unfold unpackItems notIterableAtAll
 refine wpAny_bind (wpAny_bind (wpAny_specialOf ty F.slot_list_iter.lookup (wpAny_pure ?_)))
 simp only[Bool.false_eq_true,if_false]
 refine wpAny_bind (wpAny_holding (wpAny_pyIter_list ht ?_))
 have ht1:(s.heap.push { cls:=.type "list_iterator",data:=.fields #[.ref t,.int 0 0] }).IsList t items:=ht.at λo e=>Heap.get?_push_of_some _ e
 refine wpAny_bind (wpAny_holding (zof hh hne items.size 0 _ _ ⟨_,Heap.get?_push_size _ rfl,rfl,rfl⟩ ht1 (by (first|lia|omega)) λh1 tk1 hit1 hl1 kk1=>?_))
 have hall:List.take items.size (List.drop 0 items.toList)=items.toList:=by
  rw[List.drop_zero]
  exact ψT (by simp)
 rw[hall,if_neg (by simp)]
 rw[ψQ1] at hit1
 refine wpAny_bind (wpAny_holding ((Walks.list (A:=A) hh _ t hne items).done _ _ _ ⟨hit1,hl1⟩ λh2 tk2 kk2=>?_))
 simp only[Option.isSome_none,Bool.false_eq_true,if_false]
 refine wpAny_pure (hQ h2 tk2 λb o e=>kk2 b o (λz=>ψl (Heap.lt_size e) (by simpa using z)) (kk1 b o (ψl (Heap.lt_size e)) (Heap.get?_push_of_some _ e)))
def gLst(K:ψa)(n:Nat)(t:TGs):TG:=λv σ H Q=>∃a xs,v=.ref a∧SqL K H a xs∧xs.length=n∧t xs σ H Q
theorem zyT{X:Cx}{pos:Pos}{es:List Expr}{k:Nat}{t:TGs}{n:Nat}(hc:X.calm=true)(h:PGs X es t)
  (hn:(assignEach es X.env).length=n:=by rfl) (hst:(assignEach es X.env).findIdx? (·.1)=none:=by rfl):PG X (.Tuple es k pos) (gLst X.K n t):=by
 intro pins s σ H v u Q I r hw
 obtain⟨a,xs,e1,hq,hl,hw⟩:=hw
 subst e1
 cases r
 obtain⟨its,rv,pl,hz⟩:=I.list hq
 rw[assign_Tuple]
 refine wpAny_bind (wpAny_standAt ?_)
 unfold unpack
 have e:(assignEach es X.env).length=its.toArray.size:=by rw[hn,ψe,← rv.length,hl]
 rw[e,hst]
 refine wpAny_bind (wpAny_holding (zoJ (I.ok.hd hc) pl.isList λh' tk hk=>?_))
 exact h pins _ σ H xs _ Q (I.kept hk) (by simpa using rv) hw
end L2
namespace L2
open PySem PySem.Spec PyProof.Rows
def rEqE(K:ψa):R2:=λx y H Q=>∃a b xs,x=.ref a∧y=.ref b∧SqL K H a xs∧SqL K H b []∧Q (.bl xs.isEmpty) H
section
variable {X:Cx}
theorem zyS(hu:X.A.units+64<cLine):OpR X (compareOp .Eq) (rEqE X.K):=by
 intro pins s σ H x y v u Q I rx ry h
 obtain⟨a,b,xs,rfl,rfl,ha,hb,q⟩:=h
 cases rx
 cases ry
 obtain⟨us,r1,p1,_⟩:=I.list ha
 obtain⟨vs,r2,p2,_⟩:=I.list hb
 cases r2
 cases xs with
 | nil =>
  cases r1
  have z:=SeqAt.RcAt.lists (A:=X.A) p1.isList p2.isList rfl (by (first|lia|omega)) (e:=λ_=>true) (λj h1 h2=>absurd h1 (ψx1 _))
  exact z X.prog X.w X.xe _ ⟨.bl true,H,I,rfl,q⟩
 | cons y ys =>
  have z:=SeqAt.RcAt.lists_lengths (A:=X.A) p1.isList p2.isList (by rw[ψe,ψe,← r1.length];rfl) (by (first|lia|omega))
  exact z X.prog X.w X.xe _ ⟨.bl false,H,I,rfl,q⟩
end
def zfH(J:It)(g:TG)(tt:TT)(te:TE)(D:Addr)(Q:VK)(σ:St)(H:Hp):Prop:=∃W:Nat→Nat→St→Hp→Prop,(∃m,W 0 m σ H)∧∀i m σc Hc,W i m σc Hc →
 (J.stop i Hc∧Q (.ref D) Hc)∨(J.go i Hc∧∃N:St→Hp→Prop,(∀σ' H',N σ' H'→∃m',m'<m∧W (i+1) m' σ' H')∧∀x H',J.yld i Hc x H'→g x σc H' λσ2 H2=>tt σ2 H2 λb H3=>if b=true then te σ2 H3 λy H4=>zaR (.ref D) [y] H4 λ_ H5=>N σ2 H5 else N σ2 H3)
theorem zry{wi:TI}{g:TG}{tt:TT}{te:TE}{cap:List (Option Nat)}{σ:St}{H:Hp}{Q:VK}:zbA wi g tt te cap σ H Q=wi σ H λJ H1=>∀D,H1 D=none→zfH J g tt te D Q (ztJ cap σ) (upd H1 D (.lst [])):=rfl
theorem zdY{K:ψa}{a:Addr}{xs:List V}{g:TG}{tt:TT}{te:TE}{σ:St}{H:Hp}{D:Addr}{Q:VK}(Pv:Nat→List V→St→Hp→Prop)(h0:Pv 0 [] σ (upd H D (.lst [])))(hl:∀i ys σ H,i≤xs.length→Pv i ys σ H→SqL K H a xs)
  (hs:∀i x ys σ H,xs[i]?=some x→H D=some (.lst ys)→Pv i ys σ H→g x σ H λσ2 H2=>tt σ2 H2 λb H3=>if b=true then te σ2 H3 λy H4=>zaR (.ref D) [y] H4 λ_ H5=>∃ys,H5 D=some (.lst ys)∧Pv (i+1) ys σ2 H5 else ∃ys,H3 D=some (.lst ys)∧Pv (i+1) ys σ2 H3)
  (hd:∀ys σ H,H D=some (.lst ys)→Pv xs.length ys σ H→Q (.ref D) H):zfH (Itl K a) g tt te D Q σ (upd H D (.lst [])):=zrb Pv h0 hl hs hd
theorem zjf{lo:Int}{n:Nat}{g:TG}{tt:TT}{te:TE}{σ:St}{H:Hp}{D:Addr}{Q:VK}(Pv:Nat→List V→St→Hp→Prop)(h0:Pv 0 [] σ (upd H D (.lst [])))
  (hs:∀i ys σ H,i<n→H D=some (.lst ys)→Pv i ys σ H→g (.int (lo+i)) σ H λσ2 H2=>tt σ2 H2 λb H3=>if b=true then te σ2 H3 λy H4=>zaR (.ref D) [y] H4 λ_ H5=>∃ys,H5 D=some (.lst ys)∧Pv (i+1) ys σ2 H5 else ∃ys,H3 D=some (.lst ys)∧Pv (i+1) ys σ2 H3)
  (hd:∀ys σ H,H D=some (.lst ys)→Pv n ys σ H→Q (.ref D) H):zfH (Itr lo n) g tt te D Q σ (upd H D (.lst [])):=zom Pv h0 hs hd
theorem zgV{K:ψa}{p q:Addr}{xs zs:List V}{g:TG}{tt:TT}{te:TE}{σ:St}{H:Hp}{D:Addr}{Q:VK}(Pv:Nat→List V→St→Hp→Prop)(h0:Pv 0 [] σ (upd H D (.lst [])))
  (hl:∀i ys σ H,i≤min xs.length zs.length→Pv i ys σ H→SqL K H p xs∧SqL K H q zs)
  (hs:∀i x z t ys σ H,xs[i]?=some x→zs[i]?=some z→H D=some (.lst ys)→Pv i ys σ H→H t=none→g (.ref t) σ (upd H t (.tup [x,z])) λσ2 H2=>tt σ2 H2 λb H3=>if b=true then te σ2 H3 λy H4=>zaR (.ref D) [y] H4 λ_ H5=>∃ys,H5 D=some (.lst ys)∧Pv (i+1) ys σ2 H5 else ∃ys,H3 D=some (.lst ys)∧Pv (i+1) ys σ2 H3)
  (hd:∀ys σ H,H D=some (.lst ys)→Pv (min xs.length zs.length) ys σ H→Q (.ref D) H):zfH (Itz K p q) g tt te D Q σ (upd H D (.lst [])):=zsv Pv h0 hl hs hd
theorem zn9{K:ψa}{p q:Addr}{xs ys:List V}{g:TG}{tb:TS}{D:zbP}{σ:St}{H:Hp}(Pv:Nat→St→Hp→Prop)(h0:Pv 0 σ H)(hl:∀i σ H,i≤min xs.length ys.length→Pv i σ H→SqL K H p xs∧SqL K H q ys)
  (hs:∀i x y t σ H,xs[i]?=some x→ys[i]?=some y→Pv i σ H→H t=none→g (.ref t) σ (upd H t (.tup [x,y])) λσ2 H2=>tb { D with nx:=Pv (i+1),ct:=Pv (i+1),bk:=D.nx } σ2 H2) (hd:∀σ H,Pv (min xs.length ys.length) σ H→D.nx σ H):zqM (Itz K p q) g tb D σ H:=zuR Pv h0 hl hs hd
end L2
namespace My3
open PySem
abbrev zcw(h:Heap)(T:Addr)(a b c:Value):Prop:=h.get? T=some { cls:=.type "tuple",data:=.seq #[a,b,c] }
structure zis (z TI TO i1 i2 i3 l1 l2 l3:Addr):Prop where
 a1:TI≠z
 a2:TO≠z
 a3:i1≠z
 a4:i2≠z
 a5:i3≠z
 b0:TI≠TO
 b1:TI≠i1
 b2:TI≠i2
 b3:TI≠i3
 c1:TO≠i1
 c2:TO≠i2
 c3:TO≠i3
 d12:i1≠i2
 d13:i1≠i3
 d23:i2≠i3
 e1:∀b∈[z,TO,i1,i2,i3],l1≠b
 e2:∀b∈[z,TO,i1,i2,i3],l2≠b
 e3:∀b∈[z,TO,i1,i2,i3],l3≠b
section
variable {P:Program} {w:World} {A:Around} {E:Value→Shared→Prop} {s:Shared}
theorem zky{T:Addr}{a b c x:Value}{k:Nat}{R:Unit→Shared→Prop}(g:zcw s.heap T a b c)
  (h:∀h',h'.get? T=some { cls:=.type "tuple",data:=.seq ((#[a,b,c]:Array Value).setIfInBounds k x) }→Heap.SameBut T s.heap h'→R () { s with heap:=h' }):wpAny (model P w) A (updateSeq T (·.setIfInBounds k x)) R E s:=by
 refine wpAny_updateSeq g rfl (h _ ?_ (Heap.SameBut.update ..))
 rw[Heap.get?_update_self _ g rfl];simp[Obj.mapSeq]
theorem zrC{z TI TO i1 i2 i3 l1 l2 l3:Addr}{k:Nat}{xs ys vs:Array Value}{x y v a b c:Value}{R:Value→Shared→Prop}(D:zis z TI TO i1 i2 i3 l1 l2 l3)
  (gz:IsZip s.heap z TI TO .none) (gI:zcw s.heap TI (.ref i1) (.ref i2) (.ref i3)) (gO:zcw s.heap TO a b c)
  (n1:s.heap.IsListIter i1 l1 k) (n2:s.heap.IsListIter i2 l2 k) (n3:s.heap.IsListIter i3 l3 k) (m1:s.heap.IsList l1 xs) (m2:s.heap.IsList l2 ys) (m3:s.heap.IsList l3 vs) (ex:xs[k]?=some x) (ey:ys[k]?=some y) (ev:vs[k]?=some v)
  (q:∀h',IsZip h' z TI TO (rawInt s.heap.objs.size)→zcw h' TO x y v→h'.IsListIter i1 l1 (k+1)→h'.IsListIter i2 l2 (k+1)→h'.IsListIter i3 l3 (k+1)→zcw h' s.heap.objs.size x y v→h'.objs.size=s.heap.objs.size+1 →
   (∀t o,t∉[z,TO,i1,i2,i3]→s.heap.get? t=some o→h'.get? t=some o)→R (.ref s.heap.objs.size) { s with heap:=h' }) :
  wpAny (model P w) A (Builtin.«zip.__next__» ⟨[.ref z],[]⟩) (λfin s'=>∃v,fin=.done (.ret v)∧R v s') E s:=by
 have lz1:=D.e1 z (by simp);have lO1:=D.e1 TO (by simp);have li11:=D.e1 i1 (by simp)
 have lz2:=D.e2 z (by simp);have lO2:=D.e2 TO (by simp);have li21:=D.e2 i1 (by simp);have li22:=D.e2 i2 (by simp)
 have lz3:=D.e3 z (by simp);have lO3:=D.e3 TO (by simp);have li31:=D.e3 i1 (by simp);have li32:=D.e3 i2 (by simp);have li33:=D.e3 i3 (by simp)
 show wpAny _ _ (field (.ref z) 2 >>= _) _ _ _;refine wpAny_bind (wpAny_field gz rfl (x:=.bool false) rfl ?_);show wpAny _ _ (field (.ref z) 3 >>= _) _ _ _
 refine wpAny_bind (wpAny_field gz rfl (x:=.ref TI) rfl ?_)
 refine wpAny_bind (wpAny_seqItems gI rfl ?_);show wpAny _ _ (Builtin.SmallTypes.ownedTupleIsFree (.ref z) >>= _) _ _ _
 refine wpAny_bind ?_;unfold Builtin.SmallTypes.ownedTupleIsFree
 refine wpAny_bind (wpAny_field gz rfl (x:=.none) rfl (wpAny_pure ?_));simp only[if_true]
 refine wpAny_bind (wpAny_rule ?_);refine wpAny_bind (wpAny_field gz rfl (x:=.ref TO) rfl ?_)
 refine wpAny_bind (wpAny_setField_rec gz (by simp) λh₁ gz₁ q₁=>?_)
 replace gz₁:IsZip h₁ z TI TO .ellipsis:=gz₁
 refine wpAny_bind ?_;simp only[List.zipIdx_cons,List.zipIdx_nil,List.forIn_cons,List.forIn_nil]
 refine wpAny_bind (wpAny_bind (wpAny_onRaise ?_));show wpAny _ _ (Builtin.SmallTypes.nextOf (.ref i1) >>= _) _ _ _
 refine wpAny_bind (wpAny_nextOf_list_item (n1.extBut q₁.extBut D.a3) (m1.extBut q₁.extBut lz1) ex λh₂ n1₂ q₂=>wpAny_pure ?_)
 have gO₂:zcw h₂ TO a b c:=q₂.extBut _ _ D.c1 (q₁.extBut _ _ D.a2 gO)
 refine wpAny_bind (wpAny_seqItems gO₂ rfl ?_)
 refine wpAny_bind (zky gO₂ λh₃ gO₃ q₃=>?_)
 replace gO₃:zcw h₃ TO x b c:=gO₃
 refine wpAny_bind (wpAny_letGo (wpAny_pure ?_))
 refine wpAny_bind (wpAny_bind (wpAny_onRaise ?_));show wpAny _ _ (Builtin.SmallTypes.nextOf (.ref i2) >>= _) _ _ _
 refine wpAny_bind (wpAny_nextOf_list_item (((n2.extBut q₁.extBut D.a4).extBut q₂.extBut D.d12.symm).extBut q₃.extBut D.c2.symm)
  (((m2.extBut q₁.extBut lz2).extBut q₂.extBut li21).extBut q₃.extBut lO2) ey λh₄ n2₄ q₄=>wpAny_pure ?_)
 have gO₄:zcw h₄ TO x b c:=q₄.extBut _ _ D.c2 gO₃
 refine wpAny_bind (wpAny_seqItems gO₄ rfl ?_)
 refine wpAny_bind (zky gO₄ λh₅ gO₅ q₅=>?_)
 replace gO₅:zcw h₅ TO x y c:=gO₅
 refine wpAny_bind (wpAny_letGo (wpAny_pure ?_))
 refine wpAny_bind (wpAny_bind (wpAny_onRaise ?_));show wpAny _ _ (Builtin.SmallTypes.nextOf (.ref i3) >>= _) _ _ _
 refine wpAny_bind (wpAny_nextOf_list_item (((((n3.extBut q₁.extBut D.a5).extBut q₂.extBut D.d13.symm).extBut q₃.extBut D.c3.symm).extBut q₄.extBut D.d23.symm).extBut q₅.extBut D.c3.symm)
  (((((m3.extBut q₁.extBut lz3).extBut q₂.extBut li31).extBut q₃.extBut lO3).extBut q₄.extBut li32).extBut q₅.extBut lO3) ev λh₆ n3₆ q₆=>wpAny_pure ?_)
 have gO₆:zcw h₆ TO x y c:=q₆.extBut _ _ D.c3 gO₅
 refine wpAny_bind (wpAny_seqItems gO₆ rfl ?_)
 refine wpAny_bind (zky gO₆ λh₇ gO₇ q₇=>?_)
 replace gO₇:zcw h₇ TO x y v:=gO₇
 refine wpAny_bind (wpAny_letGo (wpAny_pure (wpAny_pure ?_)))
 refine wpAny_bind (wpAny_seqItems gO₇ rfl ?_)
 refine wpAny_bind (wpAny_newTuple ?_)
 have sz:h₇.objs.size=s.heap.objs.size:=by rw[q₇.1,q₆.1,q₅.1,q₄.1,q₃.1,q₂.1,q₁.1]
 have gz₇:IsZip h₇ z TI TO .ellipsis:=q₇.extBut _ _ D.a2.symm (q₆.extBut _ _ D.a5.symm (q₅.extBut _ _ D.a2.symm (q₄.extBut _ _ D.a4.symm (q₃.extBut _ _ D.a2.symm (q₂.extBut _ _ D.a3.symm gz₁)))))
 have kp:∀t o,t∉[z,TO,i1,i2,i3]→s.heap.get? t=some o→h₇.get? t=some o:=λt o ht e=>by
  simp only[ψP,ψI,or_false,not_or] at ht
  obtain⟨t1,t2,t3,t4,t5⟩:=ht
  exact q₇.extBut _ _ t2 (q₆.extBut _ _ t5 (q₅.extBut _ _ t2 (q₄.extBut _ _ t4 (q₃.extBut _ _ t2 (q₂.extBut _ _ t3 (q₁.extBut _ _ t1 e))))))
 have n1₇:h₇.IsListIter i1 l1 (k+1):=((((n1₂.extBut q₃.extBut D.c1.symm).extBut q₄.extBut D.d12).extBut q₅.extBut D.c1.symm).extBut q₆.extBut D.d13).extBut q₇.extBut D.c1.symm
 have n2₇:h₇.IsListIter i2 l2 (k+1):=((n2₄.extBut q₅.extBut D.c2.symm).extBut q₆.extBut D.d23).extBut q₇.extBut D.c2.symm
 have n3₇:h₇.IsListIter i3 l3 (k+1):=n3₆.extBut q₇.extBut D.c3.symm
 have zlt:z<h₇.objs.size:=Heap.lt_size gz₇
 show wpAny _ _ (Builtin.SmallTypes.ownedTupleHandOut (.ref z) (.ref h₇.objs.size) >>= _) _ _ _;refine wpAny_bind ?_;unfold Builtin.SmallTypes.ownedTupleHandOut
 have gz₈:IsZip (h₇.push { cls:=.type "tuple",data:=.seq #[x,y,v] }) z TI TO .ellipsis:=Heap.get?_push_of_some _ gz₇
 refine wpAny_bind (wpAny_setField_rec gz₈ (by simp) λh₉ gz₉ q₉=>?_)
 replace gz₉:IsZip h₉ z TI TO (rawInt h₇.objs.size):=gz₉
 refine wpAny_setField_rec gz₉ (by simp) λhA gzA qA=>?_
 replace gzA:IsZip hA z TI TO (rawInt h₇.objs.size):=gzA
 have up:∀t o,t≠z→h₇.get? t=some o→hA.get? t=some o:=λt o t1 e=>qA.extBut _ _ t1 (q₉.extBut _ _ t1 (Heap.get?_push_of_some _ e))
 have gT:zcw hA h₇.objs.size x y v:=qA.extBut _ _ (ψs1 zlt) (q₉.extBut _ _ (ψs1 zlt) (Heap.get?_push_size _ rfl))
 have szA:hA.objs.size=h₇.objs.size+1:=by rw[qA.1,q₉.1,Heap.size_push]
 rw[sz] at gzA gT szA
 refine wpAny_pure ⟨_,rfl,?_⟩;show R (.ref h₇.objs.size) _;rw[sz]
 exact q hA gzA (up _ _ D.a2 gO₇) (n1₇.at λo e=>up _ o D.a3 e) (n2₇.at λo e=>up _ o D.a4 e) (n3₇.at λo e=>up _ o D.a5 e) gT szA λt o ht e=>up t o (λh=>ht (by simp[h])) (kp t o ht e)
theorem zvz{z TI TO i1 i2 i3 l1 l2 l3:Addr}{k:Nat}{xs:Array Value}{R:Fin→Shared→Prop}(hh:A.handled=none)(D:zis z TI TO i1 i2 i3 l1 l2 l3)
  (gz:IsZip s.heap z TI TO .none) (gI:zcw s.heap TI (.ref i1) (.ref i2) (.ref i3)) (n1:s.heap.IsListIter i1 l1 k) (m1:s.heap.IsList l1 xs) (ex:xs[k]?=none)
  (q:∀h' e,(∀t o,t∉[z,TO,i1,i2,i3]→s.heap.get? t=some o→h'.get? t=some o)→(∃o,h'.get? e=some o∧o.cls=.type "StopIteration")→E (.ref e) { s with heap:=h' }) :
  wpAny (model P w) A (Builtin.«zip.__next__» ⟨[.ref z],[]⟩) R E s:=by
 have lz1:=D.e1 z (by simp)
 show wpAny _ _ (field (.ref z) 2 >>= _) _ _ _;refine wpAny_bind (wpAny_field gz rfl (x:=.bool false) rfl ?_);show wpAny _ _ (field (.ref z) 3 >>= _) _ _ _
 refine wpAny_bind (wpAny_field gz rfl (x:=.ref TI) rfl ?_)
 refine wpAny_bind (wpAny_seqItems gI rfl ?_);show wpAny _ _ (Builtin.SmallTypes.ownedTupleIsFree (.ref z) >>= _) _ _ _
 refine wpAny_bind ?_;unfold Builtin.SmallTypes.ownedTupleIsFree
 refine wpAny_bind (wpAny_field gz rfl (x:=.none) rfl (wpAny_pure ?_));simp only[if_true]
 refine wpAny_bind (wpAny_rule ?_);refine wpAny_bind (wpAny_field gz rfl (x:=.ref TO) rfl ?_)
 refine wpAny_bind (wpAny_setField_rec gz (by simp) λh₁ gz₁ q₁=>?_)
 replace gz₁:IsZip h₁ z TI TO .ellipsis:=gz₁
 refine wpAny_bind ?_;simp only[List.zipIdx_cons,List.zipIdx_nil,List.forIn_cons,List.forIn_nil]
 refine wpAny_bind (wpAny_bind (wpAny_onRaise ?_));show wpAny _ _ (Builtin.SmallTypes.nextOf (.ref i1) >>= _) _ _ _
 refine wpAny_bind (wpAny_nextOf_list_end hh (n1.extBut q₁.extBut D.a3) (m1.extBut q₁.extBut lz1) ex λh₂ e q₂ he=>?_)
 obtain⟨oe,g1,g2⟩:=he
 have gz₂:IsZip h₂ z TI TO .ellipsis:=q₂ _ _ D.a3.symm gz₁
 have nz:e≠z:=λx=>by subst x;rw[gz₂] at g1;cases g1;simp at g2
 refine wpAny_setField_rec gz₂ (by simp) λh₃ _ q₃=>q h₃ e (λt o ht x=>?_) ⟨oe,q₃.extBut _ _ nz g1,g2⟩
 have t1:t≠z:=λh=>ht (by simp[h])
 have t3:t≠i1:=λh=>ht (by simp[h])
 exact q₃.extBut _ _ t1 (q₂ _ _ t3 (q₁.extBut _ _ t1 x))
theorem zpt{z TI TO i1 i2 i3 l1 l2 l3:Addr}{k:Nat}{xs ys vs:Array Value}{x y v a b c:Value}{R:Option Value→Shared→Prop}(D:zis z TI TO i1 i2 i3 l1 l2 l3)
  (gz:IsZip s.heap z TI TO .none) (gI:zcw s.heap TI (.ref i1) (.ref i2) (.ref i3)) (gO:zcw s.heap TO a b c)
  (n1:s.heap.IsListIter i1 l1 k) (n2:s.heap.IsListIter i2 l2 k) (n3:s.heap.IsListIter i3 l3 k) (m1:s.heap.IsList l1 xs) (m2:s.heap.IsList l2 ys) (m3:s.heap.IsList l3 vs) (ex:xs[k]?=some x) (ey:ys[k]?=some y) (ev:vs[k]?=some v)
  (q:∀h',IsZip h' z TI TO (rawInt s.heap.objs.size)→zcw h' TO x y v→h'.IsListIter i1 l1 (k+1)→h'.IsListIter i2 l2 (k+1)→h'.IsListIter i3 l3 (k+1)→zcw h' s.heap.objs.size x y v→h'.objs.size=s.heap.objs.size+1 →
   (∀t o,t∉[z,TO,i1,i2,i3]→s.heap.get? t=some o→h'.get? t=some o)→R (some (.ref s.heap.objs.size)) { s with heap:=h' }) :
  wpAny (model P w) A (pyNext (.ref z)) R E s:=by
 have ty:s.TypeIs (.ref z) "zip":=⟨_,gz,rfl⟩
 unfold pyNext
 exact wpAny_bind (wpAny_attempt (wpAny_callSpecial?_slot (name:=Str.ofString "__next__") ty F.slot_zip_next (wpAny_call_entry F.slot_zip_next ty F.entry_zip_next
  (zrC D gz gI gO n1 n2 n3 m1 m2 m3 ex ey ev λh' a1 a2 a3 a4 a5 a6 a7 a8=>wpAny_pure (q h' a1 a2 a3 a4 a5 a6 a7 a8)) (F.args_zip_next_1 _))))
theorem zp4{z TI TO i1 i2 i3 l1 l2 l3:Addr}{k:Nat}{xs:Array Value}{R:Option Value→Shared→Prop}(hh:A.handled=none)(D:zis z TI TO i1 i2 i3 l1 l2 l3)
  (gz:IsZip s.heap z TI TO .none) (gI:zcw s.heap TI (.ref i1) (.ref i2) (.ref i3)) (n1:s.heap.IsListIter i1 l1 k) (m1:s.heap.IsList l1 xs) (ex:xs[k]?=none)
  (q:∀h',(∀t o,t∉[z,TO,i1,i2,i3]→s.heap.get? t=some o→h'.get? t=some o)→R none { s with heap:=h' }):wpAny (model P w) A (pyNext (.ref z)) R E s:=by
 have ty:s.TypeIs (.ref z) "zip":=⟨_,gz,rfl⟩
 unfold pyNext
 refine wpAny_bind (wpAny_attempt (wpAny_callSpecial?_slot (name:=Str.ofString "__next__") ty F.slot_zip_next (wpAny_call_entry F.slot_zip_next ty F.entry_zip_next (zvz hh D gz gI n1 m1 ex λh' e hk he=>?_) (F.args_zip_next_1 _))))
 obtain⟨o,h1,h2⟩:=he
 exact wpAny_bind (wpAny_isInstance (T:="StopIteration") (b:=true) ⟨o,h1,h2⟩ isSubtype_stop (wpAny_pure (q _ hk)))
theorem zqU(a b c:Value):checkTypeCall "zip" ⟨[a,b,c],[]⟩=pure ():=by kernel_rfl
theorem zrF(a b c:Value):checkBuiltinCall "zip.__new__" ⟨[.type "zip",a,b,c],[]⟩=pure ():=by kernel_rfl
theorem zp5(a b c d:Value):argsOk "object.__init__" ⟨[a,b,c,d],[]⟩:=by
 unfold argsOk;rw[signature?_of (id:="object.__init__") (n:="__tini__".toList) (o:="tcejbo".toList) (by kernel_rfl) F.owner_object];kernel_rfl
abbrev it0(l:Addr):Obj:={ cls:=.type "list_iterator",data:=.fields #[.ref l,.int 0 0] }
abbrev zh1(h:Heap)(l1:Addr):Heap:=h.push (it0 l1)
abbrev zh2(h:Heap)(l1 l2:Addr):Heap:=(zh1 h l1).push (it0 l2)
abbrev zh3(h:Heap)(l1 l2 l3:Addr):Heap:=(zh2 h l1 l2).push (it0 l3)
abbrev zh4(h:Heap)(l1 l2 l3:Addr):Heap:=(zh3 h l1 l2 l3).push { cls:=.type "tuple",data:=.seq #[.ref h.objs.size,.ref (zh1 h l1).objs.size,.ref (zh2 h l1 l2).objs.size] }
abbrev zh5(h:Heap)(l1 l2 l3:Addr):Heap:=(zh4 h l1 l2 l3).push { cls:=.type "tuple",data:=.seq #[.none,.none,.none] }
abbrev zh6(h:Heap)(l1 l2 l3:Addr):Heap:=(zh5 h l1 l2 l3).push { cls:=.type "zip",data:=.fields #[.none,.bool false,.bool false,.ref (zh3 h l1 l2 l3).objs.size,.ref (zh4 h l1 l2 l3).objs.size] }
theorem new3(l1 l2 l3:Addr)(xs ys vs:Array Value) :
  Meets (Builtin.«zip.__new__» ⟨[.type "zip",.ref l1,.ref l2,.ref l3],[]⟩) (λ_ R s=>s.heap.IsList l1 xs∧s.heap.IsList l2 ys∧s.heap.IsList l3 vs ∧
   R (.ok (.ret (.ref (zh5 s.heap l1 l2 l3).objs.size))) { s with heap:=zh6 s.heap l1 l2 l3 }) :=
 .of_wp λprog w A R s h=>by
  obtain⟨hp,g,d,tk,os⟩:=s;obtain⟨m1,m2,m3,h⟩:=h
  have hsub:=sub_zip
  have k1:Heap.IsList (Shared.heap ⟨hp,g,d,tk,os⟩) l1 xs:=m1
  have k2:Heap.IsList (Shared.heap ⟨hp.push { cls:=.type "list_iterator",data:=.fields #[.ref l1,.int 0 0] },g,d,tk,os⟩) l2 ys:=Heap.IsList.push m2 _
  have k3:Heap.IsList (Shared.heap ⟨(hp.push { cls:=.type "list_iterator",data:=.fields #[.ref l1,.int 0 0] }).push { cls:=.type "list_iterator",data:=.fields #[.ref l2,.int 0 0] },g,d,tk,os⟩) l3 vs:=Heap.IsList.push (Heap.IsList.push m3 _) _
  wp_walk using wpAny_pyIter_list k1,wpAny_pyIter_list k2,wpAny_pyIter_list k3
  exact⟨_,rfl,h⟩
theorem call3{l1 l2 l3:Addr}{xs ys vs:Array Value}{R:Value→Shared→Prop}(m1:s.heap.IsList l1 xs)(m2:s.heap.IsList l2 ys)(m3:s.heap.IsList l3 vs)
  (h:∀(h':Heap) (n:Nat),n=s.heap.objs.size→IsZip h' (n+5) (n+3) (n+4) .none→zcw h' (n+3) (.ref n) (.ref (n+1)) (.ref (n+2))→zcw h' (n+4) .none .none .none→h'.IsListIter n l1 0→h'.IsListIter (n+1) l2 0→h'.IsListIter (n+2) l3 0 →
   (∀c o,s.heap.get? c=some o→h'.get? c=some o)→R (.ref (n+5)) { s with heap:=h' }) :
  wpAny (model P w) A (call (.type "zip") [.ref l1,.ref l2,.ref l3]) R E s:=by
 refine callType_new F.called_zip (by decide) (zqU _ _ _) (zrF _ _ _) (λobj=>zp5 obj _ _ _) F.entry_zip_new (new3 l1 l2 l3 xs ys vs) ⟨m1,m2,m3,?_⟩
 have z1:(zh1 s.heap l1).objs.size=s.heap.objs.size+1:=Heap.size_push ..
 have z2:(zh2 s.heap l1 l2).objs.size=s.heap.objs.size+2:=by rw[Heap.size_push,z1]
 have z3:(zh3 s.heap l1 l2 l3).objs.size=s.heap.objs.size+3:=by rw[Heap.size_push,z2]
 have z4:(zh4 s.heap l1 l2 l3).objs.size=s.heap.objs.size+4:=by rw[Heap.size_push,z3]
 have z5:(zh5 s.heap l1 l2 l3).objs.size=s.heap.objs.size+5:=by rw[Heap.size_push,z4]
 have on:∀{hh:Heap} {a:Addr} {o o':Obj},hh.get? a=some o→(hh.push o').get? a=some o:=λe=>Heap.get?_push_of_some _ e
 have y6:(zh6 s.heap l1 l2 l3).get? (zh5 s.heap l1 l2 l3).objs.size=some _:=Heap.get?_push_size _ rfl
 have y5:(zh6 s.heap l1 l2 l3).get? (zh4 s.heap l1 l2 l3).objs.size=some _:=on (Heap.get?_push_size _ rfl)
 have y4:(zh6 s.heap l1 l2 l3).get? (zh3 s.heap l1 l2 l3).objs.size=some _:=on (on (Heap.get?_push_size _ rfl))
 have y3:(zh6 s.heap l1 l2 l3).get? (zh2 s.heap l1 l2).objs.size=some _:=on (on (on (Heap.get?_push_size _ rfl)))
 have y2:(zh6 s.heap l1 l2 l3).get? (zh1 s.heap l1).objs.size=some _:=on (on (on (on (Heap.get?_push_size _ rfl))))
 have y1:(zh6 s.heap l1 l2 l3).get? s.heap.objs.size=some _:=on (on (on (on (on (Heap.get?_push_size _ rfl)))))
 show _∧_
 rw[z3,z4,z5] at y6
 rw[z4] at y5
 rw[z1,z2,z3] at y4
 rw[z2] at y3
 rw[z1] at y2
 rw[z5]
 exact⟨⟨_,y6,rfl⟩,h _ _ rfl y6 y4 y5 ⟨_,y1,rfl,rfl⟩ ⟨_,y2,rfl,rfl⟩ ⟨_,y3,rfl,rfl⟩ λc o x=>on (on (on (on (on (on x)))))⟩
end
end My3
namespace L2
open PySem PySem.Spec PyProof.Rows My3
def Itz3(K:ψa)(p q r:Addr):It where
 go:=λi H=>∃xs ys zs a b c,SqL K H p xs∧SqL K H q ys∧SqL K H r zs∧xs[i]?=some a∧ys[i]?=some b∧zs[i]?=some c
 yld:=λi H x H'=>∃t a b c,x=.ref t∧H t=none∧H'=upd H t (.tup [a,b,c])∧(∀xs,SqL K H p xs→xs[i]?=some a)∧(∀ys,SqL K H q ys→ys[i]?=some b)∧∀zs,SqL K H r zs→zs[i]?=some c
 stop:=λi H=>∃xs,SqL K H p xs∧i=xs.length
def tn3(z TI TO i1 i2 i3 p q r:Addr)(i:Nat)(h:Heap):Prop:=IsZip h z TI TO .none∧zcw h TI (.ref i1) (.ref i2) (.ref i3)∧(∃a b c,zcw h TO a b c)∧h.IsListIter i1 p i∧h.IsListIter i2 q i∧h.IsListIter i3 r i
theorem zs4{z TI TO i1 i2 i3 p q r:Addr}{i:Nat}{h h':Heap}(st:tn3 z TI TO i1 i2 i3 p q r i h)(k:∀b∈[z,TI,TO,i1,i2,i3],∀o,h.get? b=some o→h'.get? b=some o):tn3 z TI TO i1 i2 i3 p q r i h':=by
 obtain⟨a1,a2,⟨x,y,v,a3⟩,a4,a5,a6⟩:=st
 exact⟨k z (by simp) _ a1,k TI (by simp) _ a2,⟨x,y,v,k TO (by simp) _ a3⟩,a4.at λo e=>k i1 (by simp) o e,a5.at λo e=>k i2 (by simp) o e,a6.at λo e=>k i3 (by simp) o e⟩
theorem zlJ{z TI TO i1 i2 i3 p q r:Addr}{i:Nat}{h:Heap}(st:tn3 z TI TO i1 i2 i3 p q r i h):∀b∈[z,TI,TO,i1,i2,i3],∃o,h.get? b=some o∧∀v,o.data≠.cell v:=λb hb=>by
 obtain⟨a1,a2,⟨x,y,v,a3⟩,⟨o4,a4,_,d4⟩,⟨o5,a5,_,d5⟩,⟨o6,a6,_,d6⟩⟩:=st
 simp only[ψP,ψI,or_false] at hb
 rcases hb with rfl | rfl | rfl | rfl | rfl | rfl
 ·exact⟨_,a1,zb2 rfl⟩
 ·exact⟨_,a2,λv z=>nomatch (show Data.seq _ _=Data.cell v from z)⟩
 ·exact⟨_,a3,λv z=>nomatch (show Data.seq _ _=Data.cell v from z)⟩
 ·exact⟨_,a4,zb2 d4⟩
 ·exact⟨_,a5,zb2 d5⟩
 ·exact⟨_,a6,zb2 d6⟩
theorem zpB{P:Program}{w:World}{K:ψa}{elts:List Expr}{k:Nat}{pos:Pos}{z TI TO i1 i2 i3 p q r:Addr}(D:zis z TI TO i1 i2 i3 p q r):zyL P w K (.Tuple elts k pos) (Itz3 K p q r) [z,TI,TO,i1,i2,i3] z (tn3 z TI TO i1 i2 i3 p q r) where
 mem:=by simp
 obj:=λi h st=>zlJ st
 keep:=λi h h' st kk=>zs4 st kk
 item:=by
  intro X hP hw hK hc i pins s σ H E I hf st hg
  subst hP hw hK
  obtain⟨xs,ys,zs,a,b,c,hx,hy,hz,ea,eb,ec⟩:=hg
  obtain⟨its1,r1,pl1,z1⟩:=I.list hx
  obtain⟨its2,r2,pl2,z2⟩:=I.list hy
  obtain⟨its3,r3,pl3,z3⟩:=I.list hz
  obtain⟨ua,eua,rua⟩:=r1.get ea
  obtain⟨ub,eub,rub⟩:=r2.get eb
  obtain⟨uc,euc,ruc⟩:=r3.get ec
  have there:=zlJ st
  obtain⟨s1,s2,⟨x0,y0,v0,s3⟩,s4,s5,s6⟩:=st
  refine zpt D s1 s2 s3 s4 s5 s6 pl1.isList pl2.isList pl3.isList (by simpa using eua) (by simpa using eub) (by simpa using euc) λh' a1 a2 a3 a4 a5 aT asz kk=>⟨_,rfl,?_⟩
  refine wpAny_letOwnedTupleGo_zip a1 λh2 gz2 q2=>?_
  have sub:∀b∈[z,TO,i1,i2,i3],b∈[z,TI,TO,i1,i2,i3]:=λb hb=>by
   simp only[ψP,ψI,or_false] at hb ⊢
   rcases hb with h | h | h | h | h <;> simp[h]
  have I1:Inv X pins σ H { s with heap:=h2 }:=I.turns (t':=s.toks) (ch:=[z,TO,i1,i2,i3]) (λb o hb e=>q2.extBut _ _ (λx=>hb (by simp[x])) (kk b o hb e)) λb hb=>hf b (sub b hb)
  have hT:s.heap.objs.size≤s.heap.objs.size:=ψh _
  have nT:H s.heap.objs.size=none:=I.hok.fresh hT
  have zT:s.heap.objs.size≠z:=ψs1 (Heap.lt_size s1)
  have I2:=I1.track (a:=s.heap.objs.size) (o:=.tup [a,b,c]) nT (Heap.get?_none_of_le (ψF I.sz hT)) (ψs1 (ψi I.lt hT)) (λx c e=>by
   obtain⟨v,q⟩:=I.cell x c e
   exact ψl (ψi q.lt hT)) (λp hp=>ψl (ψi (Heap.lt_size (I.pin p hp).1) hT)) (by
   refine⟨by show 3≤sizeLine;decide,[ua,ub,uc],.cons rua (.cons rub (.cons ruc .nil)),?_⟩
   exact⟨_,q2.extBut _ _ zT aT,rfl,_,rfl⟩)
  refine⟨.ref s.heap.objs.size,_,I2,rfl,⟨s.heap.objs.size,a,b,c,rfl,nT,rfl,λxs' h'=>?_,λys' h'=>?_,λzs' h'=>?_⟩,?_,λb hb=>?_⟩
  ·rw[I.list_inj h' hx];exact ea
  ·rw[I.list_inj h' hy];exact eb
  ·rw[I.list_inj h' hz];exact ec
  ·have nTI:TI∉[z,TO,i1,i2,i3]:=by
    simp only[ψP,ψI,or_false,not_or]
    exact⟨D.a1,D.b0,D.b1,D.b2,D.b3⟩
   exact⟨gz2,q2.extBut _ _ D.a1 (kk _ _ nTI s2),⟨_,_,_,q2.extBut _ _ D.a2 a2⟩,a3.extBut q2.extBut D.a3,a4.extBut q2.extBut D.a4,a5.extBut q2.extBut D.a5⟩
  ·obtain⟨o,e,_⟩:=there b hb
   rw[zaP (ψl (ψi (Heap.lt_size e) hT))]
   exact(hf b hb).1
 done:=by
  intro X hP hw hK hc i pins s σ H E I hf st hg
  subst hP hw hK
  obtain⟨xs,hx,rfl⟩:=hg
  obtain⟨its1,r1,pl1,z1⟩:=I.list hx
  obtain⟨s1,s2,s3,s4,s5,s6⟩:=st
  have sub:∀b∈[z,TO,i1,i2,i3],b∈[z,TI,TO,i1,i2,i3]:=λb hb=>by
   simp only[ψP,ψI,or_false] at hb ⊢
   rcases hb with h | h | h | h | h <;> simp[h]
  refine zp4 (I.ok.hd hc) D s1 s2 s4 pl1.isList (by rw[r1.length];simp) λh' kk=>⟨rfl,I.turns (t':=s.toks) (ch:=[z,TO,i1,i2,i3]) (λb o hb e=>kk b o hb e) λb hb=>hf b (sub b hb)⟩
 self:=λA i s Q E st h=>wpAny_pyIter_zip st.1 h
def zsY(K:ψa)(ta:TA):TI:=λσ H R=>ta σ H λvs H1=>∃p q r,vs=[.ref p,.ref q,.ref r]∧(∃xs,SqL K H1 p xs)∧(∃ys,SqL K H1 q ys)∧(∃zs,SqL K H1 r zs)∧R (Itz3 K p q r) H1
theorem vals3{a b c:V}{us:List Value}(r:zb9 [a,b,c] us):∃u v w,us=[u,v,w]∧zdz a u∧zdz b v∧zdz c w:=by
 cases r with
 | cons r1 r=>cases r with
  | cons r2 r=>cases r with
   | cons r3 r=>cases r;exact⟨_,_,_,rfl,r1,r2,r3⟩
theorem zgn(n:Nat){a b:Nat}(h:a≠b):n+a≠n+b:=by (first|lia|omega)
theorem ziJ(n:Nat){b:Nat}(h:0<b):n≠n+b:=by (first|lia|omega)
theorem zrl{n l:Nat}(h:l<n):∀b∈[n+5,n+4,n,n+1,n+2],l≠b:=λb hb=>by
 simp only[ψP,ψI,or_false] at hb
 (first|lia|omega)
theorem zoL{n l1 l2 l3:Nat}(h1:l1<n)(h2:l2<n)(h3:l3<n):zis (n+5) (n+3) (n+4) n (n+1) (n+2) l1 l2 l3 :=
 ⟨zgn n (by decide),zgn n (by decide),ziJ n (by decide),zgn n (by decide),zgn n (by decide),zgn n (by decide),(ziJ n (by decide)).symm,zgn n (by decide),zgn n (by decide),(ziJ n (by decide)).symm,zgn n (by decide),zgn n (by decide),ziJ n (by decide),ziJ n (by decide),zgn n (by decide),zrl h1,zrl h2,zrl h3⟩
theorem zvN{X:Cx}{a b c:Expr}{elts:List Expr}{k:Nat}{tp p pos:Pos}{ta:TA}(hg:Gl X "zip")(hm:X.mg "zip"=none)(ha:PA X [a,b,c] ta)(hs:starEach [a,b,c] X.env=[(false,eval a X.env),(false,eval b X.env),(false,eval c X.env)]:=by rfl)(hs2:starEach [b,c] X.env=[(false,eval b X.env),(false,eval c X.env)]:=by rfl) :
  PI X (.Tuple elts k tp) (.Call (.Name "zip" p) [a,b,c] [] pos) (zsY X.K ta):=by
 intro pins s σ H R I h
 refine Call_ (zhH I hg hm boot_zip (ψh1 (thn (ha pos pins s σ H _ I h) λus s1 hQ'=>?_) (by rw[hs,hs2]) (by rw[hs2];rfl)))
 obtain⟨vs,H1,I1,r1,q1⟩:=hQ'
 obtain⟨p1,p2,p3,rfl,⟨xs,hx⟩,⟨ys,hy⟩,⟨zs,hz⟩,q⟩:=q1
 obtain⟨u,v,w,rfl,ru,rv,rw'⟩:=vals3 r1
 cases ru
 cases rv
 cases rw'
 obtain⟨its1,_,pl1,_⟩:=I1.list hx
 obtain⟨its2,_,pl2,_⟩:=I1.list hy
 obtain⟨its3,_,pl3,_⟩:=I1.list hz
 have a1:p1<s1.heap.objs.size:=by obtain⟨_,e,_⟩:=pl1.isList;exact Heap.lt_size e
 have a2:p2<s1.heap.objs.size:=by obtain⟨_,e,_⟩:=pl2.isList;exact Heap.lt_size e
 have a3:p3<s1.heap.objs.size:=by obtain⟨_,e,_⟩:=pl3.isList;exact Heap.lt_size e
 refine call3 pl1.isList pl2.isList pl3.isList λh' n hn gz gI gO n1 n2 n3 hk=>?_
 refine wpAny_pyIter_zip gz ?_
 have D:zis (n+5) (n+3) (n+4) n (n+1) (n+2) p1 p2 p3:=zoL (by rw[hn];exact a1) (by rw[hn];exact a2) (by rw[hn];exact a3)
 refine⟨_,_,_,_,H1,rfl,I1.kept (t':=s1.toks) hk,zpB D,⟨gz,gI,⟨_,_,_,gO⟩,n1,n2,n3⟩,λb hb=>?_,q⟩
 have hb':s1.heap.objs.size≤b:=by
  rw[← hn]
  simp only[ψP,ψI,or_false] at hb
  rcases hb with h | h | h | h | h | h <;> rw[h] <;> first | exact ψh _ | exact Nat.le_add_right _ _
 exact I1.fpOk hb' (I1.hok.fresh hb')
end L2
namespace L2
open PySem PySem.Spec PyProof.Rows
def ztD:List V→Option (List Value)
 | []=>some []
 | v::vs=>(zxu v).bind λc=>(ztD vs).map λcs=>c::cs
theorem zlE:∀{vs:List V} {us cs:List Value},zb9 vs us→ztD vs=some cs→us=cs
 | [],_,cs,.nil,h=>by cases h;rfl
 | v::vs,_,cs,.cons r t,h=>by
  unfold ztD at h
  obtain⟨c,h1,h2⟩:=Option.bind_eq_some_iff.mp h
  obtain⟨ds,h3,rfl⟩:=Option.map_eq_some_iff.mp h2
  rw[zkC r h1,zlE t h3]
section
variable {X:Cx}
end
end L2
namespace L2
open PySem PySem.Spec PyProof.Rows
section
variable {X:Cx}
theorem zql:∀{xs:List V} {us:List Value},xs.length=us.length→(∀(j:Nat) x u,xs[j]?=some x→us[j]?=some u→zdz x u)→zb9 xs us
 | [],[],_,_=>.nil
 | [],_::_,h,_=>by simp at h
 | _::_,[],h,_=>by simp at h
 | x::xs,u::us,h,r=>.cons (r 0 x u rfl rfl) (zql (by simpa using h) λj y v e1 e2=>r (j+1) y v e1 e2)
end
end L2
namespace L2
open PySem PySem.Spec PyProof.Rows
section
variable {X:Cx}
theorem zn5:∀{ns:List Int} {us:List Value},zb9 (ns.map V.int) us→IntsAre us ns
 | [],_,r=>by rw[ψE1] at r;cases r;exact .nil
 | n::ns,_,r=>by
  rw[ψG] at r
  cases r with
  | cons h t =>
   obtain⟨t',rfl⟩:=h
   exact .cons _ _ (zn5 t)
theorem zlX:∀{ns:List Int} {us:List Value},IntsAre us ns→zb9 (ns.map V.int) us
 | _,_,.nil=>.nil
 | _,_,.cons n t r=>.cons ⟨t,rfl⟩ (zlX r)
theorem zpk{pins:List (Addr×Obj)}{σ:St}{H:Hp}{s:Shared}{l:Addr}{h':Heap}{tk:Nat}{out:Array Value}{e:Nat}{ns':List Int}{Q:VK}(I:Inv X pins σ H s)(kp:∀b o,s.heap.get? b=some o→h'.get? b=some o)(hlt:s.heap.objs.size≤l)
  (ho:h'.get? l=some (seqObj "list" out e)) (hI:IntsAre out.toList ns') (hl:ns'.length<64) (q:H l=none→Q (.ref l) (upd H l (.lst (ns'.map V.int)))):EP X pins σ Q (.ref l) { s with heap:=h',toks:=tk }:=by
 refine⟨.ref l,_,I.laid (t':=tk) kp hlt (show zc7 X.prog X.w _ h' _ (.lst (ns'.map V.int)) from⟨?_,out.toList,e,zlX hI,ho⟩),rfl,q (I.hok.fresh hlt)⟩
 rw[ψb,sizeLine_eq]
 (first|lia|omega)
end
end L2
namespace L2
open PySem PySem.Spec PyProof.Rows
theorem zjM(K:ψa):ψc K (.type "list") (.type "tuple")=some false:=by first | rfl | kernel_rfl
theorem zlU(K:ψa):ψc K (.type "list") (.type "int")=some false:=by first | rfl | kernel_rfl
theorem zjO(K:ψa):ψc K (.type "tuple") (.type "list")=some false:=by first | rfl | kernel_rfl
theorem zk5(K:ψa):ψc K (.type "tuple") (.type "int")=some false:=by first | rfl | kernel_rfl
theorem zks(K:ψa):ψc K (.type "int") (.type "tuple")=some false:=by first | rfl | kernel_rfl
theorem zlq(K:ψa):ψc K (.type "int") (.type "list")=some false:=by first | rfl | kernel_rfl
theorem zjh(K:ψa):ψc K (.type "bool") (.type "tuple")=some false:=by first | rfl | kernel_rfl
theorem zku(K:ψa):ψc K (.type "bool") (.type "list")=some false:=by first | rfl | kernel_rfl
theorem zl3(K:ψa):ψc K (.type "bool") (.type "int")=some true:=by first | rfl | kernel_rfl
theorem zkh(K:ψa):ψc K (.type "str") (.type "tuple")=some false:=by first | rfl | kernel_rfl
theorem zmd(K:ψa):ψc K (.type "str") (.type "list")=some false:=by first | rfl | kernel_rfl
theorem zmq(K:ψa):ψc K (.type "str") (.type "int")=some false:=by first | rfl | kernel_rfl
theorem zg5(K:ψa):ψc K (.type "NoneType") (.type "tuple")=some false:=by first | rfl | kernel_rfl
theorem zhl(K:ψa):ψc K (.type "NoneType") (.type "list")=some false:=by first | rfl | kernel_rfl
theorem zhR(K:ψa):ψc K (.type "NoneType") (.type "int")=some false:=by first | rfl | kernel_rfl
theorem zdm{K:ψa}{H:Hp}{Q:VK}{x:V}{t c:String}{b:Bool}(h:znR K H x (.type t))(e:ψc K (.type t) (.type c)=some b)(q:Q (.bl b) H):zij K [x,.ty c] H Q:=⟨_,_,_,_,b,rfl,rfl,.of h,e,q⟩
end L2
namespace L2
open PySem PySem.Spec PyProof.Rows
def znZ(scope sc:Scope):Scope :=
 { scope with names:=scope.names.map λ(n,k)=>if (k == .free&&sc.kind == .function&&sc.names.lookup n == some .cell) then (n,.cell) else (n,k) }
theorem ziR:∀(names:List (Str×NameKind)) (n:Addr) (a cl:List (Str×Addr)),cellsFrom n names (a++cl)=cellsFrom n names a++cl
 | [],n,a,cl=>by unfold cellsFrom;rfl
 | (x,k)::r,n,a,cl=>by
  unfold cellsFrom
  split
  ·exact ziR r (n+1) ((x,n)::a) cl
  ·exact ziR r n a cl
theorem ziZ:∀(names:List (Str×NameKind)) (n:Addr) (a:List (Str×Addr)) (x:Str) (c:Addr),(x,c)∈cellsFrom n names a→(x,c)∈a∨(x,NameKind.cell)∈names
 | [],n,a,x,c,h=>by unfold cellsFrom at h;exact .inl h
 | (y,k)::r,n,a,x,c,h=>by
  unfold cellsFrom at h
  split at h
  ·rename_i hk
   rcases ziZ r (n+1) ((y,n)::a) x c h with q | q
   ·rcases List.mem_cons.mp q with e | q
    ·cases e
     refine .inr ?_
     have:k=NameKind.cell:=by simpa using hk
     rw[this]
     exact ψj
    ·exact .inl q
   ·exact .inr (ψf _ q)
  ·rcases ziZ r n a x c h with q | q
   ·exact .inl q
   ·exact .inr (ψf _ q)
theorem zlS{M:Model}{A:Around}{E:Value→Shared→Prop}{s:Shared}{scope:Scope}{globals:Addr}{cl:List (Str×Addr)}{qual:Str}{outer:Env}{Q:Env→Shared→Prop}
  (hQ:Q (newEnv scope s.heap.objs.size globals (cellsFrom (s.heap.objs.size+1) scope.names []++cl) qual none .none (some outer) builtinsNs) { s with heap:=pushCells (s.heap.push { cls:=.type "dict",data:=.dict #[] }) scope.names }) :
  wpAny M A (newFunctionEnv scope globals cl [] qual none .none (some outer)) Q E s:=by
 simp only[newFunctionEnv,Option.isSome_some,if_true]
 refine wpAny_bind (wpAny_alloc ?_)
 refine wpAny_bind (wpAny_layCells _ (λname kind cells=>by cases hkc:kind == NameKind.cell <;> simp[hkc]) _ _ _ _ ?_)
 rw[show({ s with heap:=s.heap.push { cls:=.type "dict",data:=.dict #[] } }:Shared).heap.objs.size=s.heap.objs.size+1 from Heap.size_push ..]
 have e:=ziR scope.names (s.heap.objs.size+1) [] cl
 rw[List.nil_append] at e
 rw[e]
 refine wpAny_bind ?_
 rw[List.forIn_nil]
 exact wpAny_pure (wpAny_pure hQ)
def Cx.blkC(X:Cx)(Nc:List Str)(scope:Scope)(cl:List (Str×Addr))(s:Shared)(H:Hp)(fp:List Addr):Cx:={ X with
 N:=Nc,s₀:=s,H₀:=H,env:=compEnvC scope (cellsFrom (s.heap.objs.size+1) scope.names []++cl) s.heap.objs.size X.env,outer:=X.stack,stack:=X.stack,ex:=fp,fn:=λx=>scope.names.lookup x == some .cell,pn:=[],xe:=λ_ _=>False }
theorem zut{X:Cx}{Nc:List Str}{scope:Scope}{cl:List (Str×Addr)}{s:Shared}{H:Hp}{fp:List Addr}:(X.blkC Nc scope cl s H fp).env.scope=znZ scope X.env.scope:=rfl
structure zlp (sc:Scope) (N Nc:List Str) (cap:List (Option Nat)) (scope:Scope):Prop where
 kind:scope.kind=.function
 free:∀y∈scope.names,y.2=.free→sc.names.lookup y.1=some .cell∨sc.names.lookup y.1=some .free
 once:∀y∈scope.names,scope.names.lookup y.1=some y.2
 nd:Nc.Nodup
 len:cap.length=Nc.length
 cap:∀(i:Nat) (y:Str) (j:Nat),Nc[i]?=some y→cap[i]?=some (some j)→N[j]?=some y∧scope.names.lookup y=some .free
def zq8(sc:Scope)(N Nc:List Str)(cap:List (Option Nat))(scope:Scope):Bool :=
 scope.kind == .function&&scope.names.all (λy=>scope.names.lookup y.1 == some y.2&&(y.2 != .free || sc.names.lookup y.1 == some .cell || sc.names.lookup y.1 == some .free))&&decide Nc.Nodup&&cap.length == Nc.length
  && (Nc.zip cap).all λp=>p.2.all λj=>N[j]? == some p.1&&scope.names.lookup p.1 == some .free
theorem zlp.of{sc:Scope}{N Nc:List Str}{cap:List (Option Nat)}{scope:Scope}(h:zq8 sc N Nc cap scope=true):zlp sc N Nc cap scope:=by
 unfold zq8 at h
 simp only[ψL,beq_iff_eq,List.all_eq_true,bne_iff_ne,ne_eq,Bool.or_eq_true,decide_eq_true_eq] at h
 obtain⟨⟨⟨⟨h1,h2⟩,h3⟩,h4⟩,h5⟩:=h
 refine⟨h1,λy hy hf=>?_,λy hy=>(h2 y hy).1,h3,h4,λi y j e1 e2=>?_⟩
 ·rcases(h2 y hy).2 with (q | q) | q
  ·exact absurd hf q
  ·exact .inl q
  ·exact .inr q
 ·have m:(y,some j)∈Nc.zip cap:=by
   refine ψM (i:=i) ?_
   rw[ψC]
   exact⟨e1,e2⟩
  have z:=h5 _ m
  simpa using z
section
variable {X:Cx} {pins:List (Addr×Obj)} {σ:St} {H:Hp} {s:Shared}
structure zuh (scope:Scope) (cl:List (Str×Addr)) (L:Addr) (h1:Heap):Prop where
 look:∀x c,(cellsFrom (L+1) scope.names []++cl).lookup x=some c→(L<c∧h1.IsCell c none∧scope.names.lookup x=some .cell∧(cellsFrom (L+1) scope.names []).lookup x=some c)∨(cl.lookup x=some c∧(cellsFrom (L+1) scope.names []).lookup x=none)
 new:∀x,scope.names.lookup x=some .cell→∃c,(cellsFrom (L+1) scope.names []++cl).lookup x=some c
 old:∀x c,scope.names.lookup x=some .free→cl.lookup x=some c→(cellsFrom (L+1) scope.names []++cl).lookup x=some c
 inj:∀x y c,(cellsFrom (L+1) scope.names []).lookup x=some c→(cellsFrom (L+1) scope.names []).lookup y=some c→x=y
theorem zr6{scope:Scope}{cl:List (Str×Addr)}{h:Heap}(once:∀y∈scope.names,scope.names.lookup y.1=some y.2):zuh scope cl h.objs.size (pushCells (h.push { cls:=.type "dict",data:=.dict #[] }) scope.names):=by
 have ok:=cellsFrom_ok scope.names (h.push { cls:=.type "dict",data:=.dict #[] }) (h.objs.size+1) [] ⟨λ_ _ hm=>(nomatch hm),List.Pairwise.nil⟩ (by rw[Heap.size_push];exact ψh _)
 rw[Heap.size_push] at ok
 have kinds:∀x c,(cellsFrom (h.objs.size+1) scope.names []).lookup x=some c→scope.names.lookup x=some .cell:=λx c e=>by
  rcases ziZ _ _ _ _ _ (ψt e) with q | q
  ·cases q
  ·exact once _ q
 refine⟨λx c e=>?_,λx e=>?_,λx c e1 e2=>?_,λx y c e1 e2=>name_of_addr ok.apart (ψt e1) (ψt e2)⟩
 ·rw[List.lookup_append] at e
  cases q:(cellsFrom (h.objs.size+1) scope.names []).lookup x with
  | none=>rw[q] at e;exact .inr ⟨e,rfl⟩
  | some d =>
   rw[q] at e
   cases e
   obtain⟨o1,o2⟩:=ok.empty x c (ψt q)
   exact .inl ⟨o2,o1,kinds x c q,rfl⟩
 ·obtain⟨c,q⟩:=ziq (n:=h.objs.size+1) e
  exact⟨c,by rw[List.lookup_append,q];rfl⟩
 ·rw[List.lookup_append]
  cases q:(cellsFrom (h.objs.size+1) scope.names []).lookup x with
  | none=>exact e2
  | some d =>
   have:=kinds x d q
   rw[e1] at this
   cases this
theorem zst{Nc:List Str}{cap:List (Option Nat)}{scope:Scope}{cl:List (Str×Addr)}{fp:List Addr}{h1:Heap}{tk:Nat}{m1:Str→Option Value}(I:Inv X pins σ H s)(B:zlp X.env.scope X.N Nc cap scope)
  (hsub:∀x c,cl.lookup x=some c→X.env.cells.lookup x=some c) (hfr:∀y∈scope.names,y.2=.free→∃c,cl.lookup y.1=some c) (hf:∀b∈fp,zlg X pins H b) (hin:∀b∈fp,b<s.heap.objs.size)
  (hk:∀b o,s.heap.get? b=some o→h1.get? b=some o) (hn:h1.Ns s.heap.objs.size m1) (C:zuh scope cl s.heap.objs.size h1):Inv (X.blkC Nc scope cl s H fp) [] (ztJ cap σ) H { s with heap:=h1,toks:=tk }:=by
 have ok:=I.ok
 have bsz:X.base.objs.size≤s.heap.objs.size:=ψF ok.bsz I.sz
 have oldlt:∀x c,cl.lookup x=some c→c<s.heap.objs.size:=λx c e=>by
  obtain⟨v,q⟩:=I.cell x c (hsub x c e)
  exact q.lt
 refine⟨⟨ok.mod,B.kind,ok.glob,ok.blt,ψh _,λx y c h1 h2=>?_,λx hx=>?_,λx c z e=>?_,ok.hd,ok.frames,.inl rfl,λb hb=>⟨ψl (hin b hb),λx c e=>?_⟩,
  I.bs,bsz,λb o e hb=>?_,λb hb z=>?_,I.stack,I.stkFree⟩,rfl,I.bare,Un.kept hk,⟨m1,hn,λi y v e1 e2 e3=>?_⟩,λx c e=>?_,I.hok.fresh (ψh _),λx c e=>?_,(by intro p hp;cases hp),I.hok.kept hk,?_⟩
 ·rcases C.look x c h1 with ⟨a1,_,_,a4⟩ | ⟨a,_⟩ <;> rcases C.look y c h2 with ⟨b1,_,_,b4⟩ | ⟨b,_⟩
  ·exact C.inj x y c a4 b4
  ·exact absurd (ψG1 a1 (oldlt y c b)) (ψf1 _)
  ·exact absurd (ψG1 b1 (oldlt x c a)) (ψf1 _)
  ·exact ok.inj x y c (hsub x c a) (hsub y c b)
 ·have fr:∀x,scope.names.lookup x=some .free→∃c,(cellsFrom (s.heap.objs.size+1) scope.names []++cl).lookup x=some c:=λx q=>by
   obtain⟨c,e⟩:=hfr (x,.free) (ψt q) rfl
   exact⟨c,C.old x c q e⟩
  have look:∀k,(relabel scope X.env).names.lookup x=some k→k=.cell∨k=.free→∃c,(cellsFrom (s.heap.objs.size+1) scope.names []++cl).lookup x=some c:=λk q hk=>by
   rcases zcD q with ⟨n1,n2⟩ | ⟨_,n2 | n2⟩
   ·rcases hk with r | r
    ·exact absurd r n1
    ·rw[r] at n2
     exact fr x n2
   ·exact C.new x n2
   ·exact fr x n2
  rcases hx with q | q
  ·exact look _ q (.inl rfl)
  ·exact look _ q (.inr rfl)
 ·obtain⟨c3,q3⟩:=ziq (n:=s.heap.objs.size+1) (show scope.names.lookup x=some .cell from beq_iff_eq.mp z)
  rcases C.look x c e with ⟨a1,_⟩ | ⟨_,b⟩
  ·exact ψP1 a1
  ·rw[q3] at b
   cases b
 ·rcases C.look x c e with ⟨a1,_⟩ | ⟨a,_⟩
  ·exact ψs1 (ψG1 (hin b hb) a1)
  ·exact(hf b hb).2.2.2.2.1 x c (hsub x c a)
 ·rcases(hf b hb).2.2.2.1 with q | q
  ·exact ok.noex b o e q
  ·exact absurd (ψi (Heap.lt_size e) (ψF ok.bsz q)) (ψf1 _)
 ·rcases List.mem_cons.mp (I.stkSub b z) with q | q
  ·exact(hf b hb).2.1 q
  ·exact(hf b hb).2.2.1 q
 ·have e2':(cap[i]?).map (λo=>o.bind λj=>(σ[j]?).join)=some (some v):=by rw[← ψD];exact e2
  obtain⟨o,ho,eo⟩:=Option.map_eq_some_iff.mp e2'
  obtain⟨j,rfl,ej⟩:=Option.bind_eq_some_iff.mp eo
  have ej':σ[j]?=some (some v):=by
   cases q:σ[j]? with
   | none=>rw[q] at ej;cases ej
   | some z=>rw[q] at ej;cases ej;rfl
  obtain⟨c1,c2⟩:=B.cap i y j e1 ho
  have vis:=B.free (y,.free) (ψt c2) rfl
  obtain⟨m,_,hl⟩:=I.loc
  obtain⟨u,r,lk⟩:=hl j y v c1 ej' (.inr vis)
  obtain⟨c',ec⟩:=hfr (y,.free) (ψt c2) rfl
  have ec2:=hsub _ _ ec
  rcases lk with ⟨kl,_⟩ | ⟨_,c,e,z⟩
  ·have kl':X.env.scope.names.lookup y=some .local:=kl
   rcases vis with q | q
   ·have q':X.env.scope.names.lookup y=some .cell:=q
    rw[kl'] at q';cases q'
   ·have q':X.env.scope.names.lookup y=some .free:=q
    rw[kl'] at q';cases q'
  ·have ecc:X.env.cells.lookup y=some c':=ec2
   rw[e] at ecc
   cases ecc
   refine⟨u,r,.inr ⟨?_,_,C.old y _ c2 ec,?_⟩⟩
   ·rcases e3 with q | q | q
    ·rcases zcD q with ⟨_,n2⟩ | ⟨n1,_⟩
     ·rw[c2] at n2;cases n2
     ·cases n1
    ·exact .inl q
    ·exact .inr q
   ·obtain⟨o,ho,hd⟩:=z
    exact⟨o,hk _ _ ho,hd⟩
 ·rcases C.look x c e with ⟨_,a2,_⟩ | ⟨a,_⟩
  ·exact⟨none,a2⟩
  ·obtain⟨v,o,ho,hd⟩:=I.cell x c (hsub x c a)
   exact⟨v,o,hk _ _ ho,hd⟩
 ·rcases C.look x c e with ⟨a1,_⟩ | ⟨a,_⟩
  ·exact I.hok.fresh (ψP1 a1)
  ·exact I.freeC x c (hsub x c a)
 ·show(ztJ cap σ).length=Nc.length
  rw[ztJ,ψb,B.len]
theorem ztn{Nc:List Str}{scope:Scope}{cl:List (Str×Addr)}{fp:List Addr}{σc:St}{Hc:Hp}{s':Shared}{h':Heap}(I:Inv X pins σ H s)(hf:∀b∈fp,zlg X pins H b)(J:Inv (X.blkC Nc scope cl s H fp) [] σc Hc s')
  (hs:Heap.SameBut s.heap.objs.size s'.heap h'):Inv X pins σ Hc { s' with heap:=h' }:=by
 have ne:∀b o,s.heap.get? b=some o→b≠s.heap.objs.size:=λb o e=>ψl (Heap.lt_size e)
 have u:=J.base
 refine I.call' (ch:=fp) J.os ⟨λb o e n hb hx=>(hs.2 b (ne b o e)).trans (u.keep b o e n hb hx),λb o e n hb hx=>?_,u.free,λb o e hx=>?_,u.tups,u.frzs,u.tbls⟩ (λb ob e=>?_) J.bare λb hb=>⟨(hf b hb).2.2.2.1,(hf b hb).2.1,(hf b hb).2.2.2.2.1,(hf b hb).2.2.2.2.2⟩
 ·obtain⟨sl,q⟩:=u.slot b o e n hb hx
  exact⟨sl,(hs.2 b (ne b o e)).trans q⟩
 ·obtain⟨o',q⟩:=u.there b o e hx
  exact⟨o',(hs.2 b (ne b o e)).trans q⟩
 ·have hC:Hc s.heap.objs.size=none:=J.free
  refine(J.hok b ob e).stay (λc w' hc q=>(hs.2 c ?_).trans q) (λ_ q=>q) λ_ _ q=>q
  rintro rfl
  rcases hc with z | hc
  ·rw[← z,hC] at e;cases e
  ·rw[hC] at hc;cases hc
end
theorem zoT{X:Cx}{pins:List (Addr×Obj)}{s:Shared}{σ:St}{H:Hp}{Q:VK}{sc:Scope}{N Nc:List Str}{cap:List (Option Nat)}{elt tg iter:Expr}{ifs:List Expr}{scope:Scope}{pos pos':Pos}{wi:TI}{g:TG}{tt:TT}{te:TE}{use:Option (Value→Sem Unit)}{QQ:Value→Shared→Prop}
  (hc:X.calm=true) (hsc:X.env.scope=sc) (hN:X.N=N) (B:zlp sc N Nc cap scope) (hi:PI X tg iter wi)
  (hg:∀cl s H fp,PG (X.blkC Nc scope cl s H fp) tg g) (ht:∀cl s H fp,PTs (X.blkC Nc scope cl s H fp) ifs tt) (he:∀cl s H fp,PE (X.blkC Nc scope cl s H fp) elt te)
  (hs:∀x,foldedSetIterable iter X.env x=pure x) (I:Inv X pins σ H s) (h:zbA wi g tt te cap σ H Q)
  (fin:∀(s3:Shared) (H3:Hp) (cl:List (Str×Addr)) (fp:List Addr) (D:Addr) (σc:St) (Hc:Hp) (s6:Shared),Inv X pins σ H3 s3→(∀b∈fp,zlg X pins H3 b)→Inv (X.blkC Nc scope cl s3 H3 fp) [] σc Hc s6→Q (.ref D) Hc→compPost (model X.prog X.w) X.A X.xe use QQ (.ref D) s3.heap.objs.size (.ok .next) s6) :
  wpAny (model X.prog X.w) X.A (comprehension (.ListComp elt [⟨tg,iter,ifs,0⟩] scope pos) scope X.env pos' (newList []) false (eval iter X.env) use) QQ X.xe s:=by
 subst hsc hN
 obtain⟨cl,hclos,hsub,hfr⟩:=zj1 (scope:=scope) (env:=X.env) λy hy hf=>I.ok.has y.1 (B.free y hy hf)
 refine wpAny_comprehension_free (use:=use) rfl hs hclos B.kind (λy hy hl=>by rw[B.once y hy,hl]) (thn (hi pins s σ H _ I h) λv s1 h1=>thn h1 λitv s2 h2=>?_)
 obtain⟨it,fp,tn,J,H2,rfl,I2,T,st2,f2,hw⟩:=h2
 refine wpAny_newObj_type ?_
 have hfree:H2 s2.heap.objs.size=none:=I2.hok.fresh (ψh _)
 have I3:=I2.laid (t':=s2.toks) (o:=.lst []) (λb u e=>Heap.get?_push_of_some { cls:=.type "list",dict:=none,data:=.seq ([]:List Value).toArray } e) (ψh _) ⟨by decide,[],0,.nil,Heap.get?_push_size _ rfl⟩
 obtain⟨W,⟨m0,w0⟩,zoE⟩:=hw _ hfree
 have keep23:∀b o,s2.heap.get? b=some o→(s2.heap.push { cls:=.type "list",dict:=none,data:=.seq ([]:List Value).toArray }).get? b=some o:=λb o e=>Heap.get?_push_of_some _ e
 have hin:∀b∈fp,b<s2.heap.objs.size:=λb hb=>let ⟨o,e,_⟩:=T.obj 0 _ st2 b hb;Heap.lt_size e
 have f3:∀b∈fp,zlg X pins (upd H2 s2.heap.objs.size (.lst [])) b:=λb hb=>⟨by rw[zaP (ψl (hin b hb))];exact(f2 b hb).1,(f2 b hb).2⟩
 have st3:=T.keep 0 _ _ st2 λb _ o e=>keep23 b o e
 have hin3:∀b∈fp,b<(s2.heap.push { cls:=.type "list",dict:=none,data:=.seq ([]:List Value).toArray }).objs.size:=λb hb=>let ⟨o,e,_⟩:=T.obj 0 _ st3 b hb;Heap.lt_size e
 clear keep23 hin
 generalize s2.heap.push { cls:=.type "list",dict:=none,data:=.seq ([]:List Value).toArray }=h3 at I3 st3 hin3 ⊢
 generalize upd H2 s2.heap.objs.size (.lst [])=H3 at I3 f3 w0
 generalize s2.heap.objs.size=D at hfree w0 zoE ⊢
 refine zlS ?_
 have Cc:=zr6 (scope:=scope) (cl:=cl) (h:=h3) B.once
 have keep:∀b o,h3.get? b=some o→(pushCells (h3.push { cls:=.type "dict",data:=.dict #[] }) scope.names).get? b=some o:=λb o e=>pushCells_keeps _ _ b o (Heap.get?_push_of_some _ e)
 have hns:(pushCells (h3.push { cls:=.type "dict",data:=.dict #[] }) scope.names).Ns h3.objs.size λ_=>none:=(Heap.Ns.new h3 (.type "dict")).keeps (pushCells_keeps _ _)
 dsimp only
 generalize pushCells (h3.push { cls:=.type "dict",data:=.dict #[] }) scope.names=h1 at Cc keep hns ⊢
 have I4:=zst (tk:=s2.toks) I3 B hsub hfr f3 hin3 keep hns Cc
 have st4:=T.keep 0 _ _ st3 λb _ o e=>keep b o e
 have stat:∀{H':Hp},(∀b∈fp,H' b=none)→∀b∈fp,zlg (X.blkC Nc scope cl { s2 with heap:=h3,toks:=s2.toks } H3 fp) [] H' b:=λhn b hb =>
  ⟨hn b hb,ψl (hin3 b hb),λz=>by
   rcases List.mem_cons.mp (I3.stkSub b z) with q | q
   ·exact(f3 b hb).2.1 q
   ·exact(f3 b hb).2.2.1 q,.inl hb,λx c e=>by
   rcases Cc.look x c e with ⟨a1,_⟩ | ⟨a,_⟩
   ·exact ψs1 (ψG1 (hin3 b hb) a1)
   ·exact(f3 b hb).2.2.2.2.1 x c (hsub x c a),by intro p hp;cases hp⟩
 have hcb:(X.blkC Nc scope cl { s2 with heap:=h3,toks:=s2.toks } H3 fp).calm=true:=hc
 have loop:codeAny (model X.prog X.w) X.A (.compLoop (.ListComp elt [⟨tg,iter,ifs,0⟩] scope pos) 0 (.ref it) (.ref D) (compEnvC scope (cellsFrom (h3.objs.size+1) scope.names []++cl) h3.objs.size X.env)) (compPost (model X.prog X.w) X.A X.xe use QQ (.ref D) h3.objs.size) { s2 with heap:=h1,toks:=s2.toks }:=by
  refine zhC (λn s'=>∃i σ' H',Inv (X.blkC Nc scope cl { s2 with heap:=h3,toks:=s2.toks } H3 fp) [] σ' H' s'∧tn i s'.heap∧(∀b∈fp,H' b=none)∧W i n σ' H') rfl ?_ m0 ⟨0,_,H3,I4,st4,λb hb=>(f3 b hb).1,w0⟩
  rintro n s5 ⟨i,σ5,H5,I5,st5,fr5,w5⟩
  rcases zoE i n σ5 H5 w5 with ⟨stop,qn⟩ | ⟨go,N',hN',step⟩
  ·refine thn (T.done (X.blkC Nc scope cl { s2 with heap:=h3,toks:=s2.toks } H3 fp) rfl rfl rfl hcb i [] s5 σ5 H5 _ I5 (stat fr5) st5 stop) λr s6 hQ'=>?_
   obtain⟨hr,I6⟩:=hQ'
   subst hr
   exact fin { s2 with heap:=h3,toks:=s2.toks } H3 cl fp D σ5 H5 s6 I3 f3 I6 qn
  ·refine thn (T.item (X.blkC Nc scope cl { s2 with heap:=h3,toks:=s2.toks } H3 fp) rfl rfl rfl hcb i [] s5 σ5 H5 _ I5 (stat fr5) st5 go) λr s6 hQ'=>?_
   obtain⟨u,hr,h6⟩:=hQ'
   subst hr
   refine thn h6 λ_ s7 hQ'=>?_
   obtain⟨x,H7,I7,r7,y7,st7,fr7⟩:=hQ'
   have I7':=I7.pinned (stat fr7) (T.obj _ _ st7)
   refine wpAny_mono (hg cl _ H3 fp _ s7 σ5 H7 x u _ I7' r7 (step x H7 y7)) (λ_ s8 hQ'=>?_) λ_ _ z=>z.elim
   obtain⟨σ8,H8,I8,q8⟩:=hQ'
   have again:∀{H9:Hp} {s9:Shared} {m:Nat},Inv (X.blkC Nc scope cl { s2 with heap:=h3,toks:=s2.toks } H3 fp) ([]++zj6 fp s7.heap) σ8 H9 s9→m<n→W (i+1) m σ8 H9→∃m,m<n∧∃i σ' H',Inv (X.blkC Nc scope cl { s2 with heap:=h3,toks:=s2.toks } H3 fp) [] σ' H' s9∧tn i s9.heap∧(∀b∈fp,H' b=none)∧W i m σ' H':=fun {H9 s9 m} I9 hm w9=>by
    refine⟨m,hm,i+1,σ8,H9,I9.unpinned,T.keep _ _ _ st7 λb hb o e=>(I9.pin (b,o) (ψq _ (ψq _ (zdX hb e)))).1,λb hb=>?_,w9⟩
    obtain⟨o,e,d⟩:=T.obj _ _ st7 b hb
    exact(I9.pin (b,o) (ψq _ (ψq _ (zdX hb e)))).2.1
   refine wpAny_mono (ht cl _ H3 fp _ s8 σ8 H8 _ I8 q8) (λb s9 hQ'=>?_) λ_ _ z=>z.elim
   obtain⟨H9,I9,q9⟩:=hQ'
   cases b with
   | false =>
    rw[if_neg (by decide)] at q9
    obtain⟨m',hm,w9⟩:=hN' _ _ q9
    exact again I9 hm w9
   | true =>
    rw[if_pos rfl] at q9
    refine wpAny_mono (he cl _ H3 fp _ s9 σ8 H9 _ I9 q9) (λu s10 hQ'=>?_) λ_ _ z=>z.elim
    obtain⟨y,H10,I10,r10,q10⟩:=hQ'
    refine wpAny_mono (zbN (X:=X.blkC Nc scope cl { s2 with heap:=h3,toks:=s2.toks } H3 fp) _ s10 σ8 H10 (.ref D) [y] (.ref D) [u] _ I10 rfl (.cons r10 .nil) q10) (λ_ s11 hQ'=>?_) λ_ _ z=>z.elim
    obtain⟨_,H11,I11,_,q11⟩:=hQ'
    obtain⟨m',hm,w11⟩:=hN' _ _ q11
    exact again I11 hm w11
 exact codeAny_compStart_list loop (T.self _ 0 _ _ _ st4 loop)
theorem zmx{X:Cx}{i:Nat}{y:Str}{py spos:Pos}{sc:Scope}{N Nc:List Str}{cap:List (Option Nat)}{elt tg iter:Expr}{ifs:List Expr}{scope:Scope}{pos:Pos}{wi:TI}{g:TG}{tt:TT}{te:TE}(hnd:X.N.Nodup)(hix:X.N[i]?=some y)(hl:X.env.scope.names.lookup y=some .local)
  (hc:X.calm=true) (hsc:X.env.scope=sc) (hN:X.N=N) (B:zlp sc N Nc cap scope) (hi:PI X tg iter wi)
  (hg:∀cl s H fp,PG (X.blkC Nc scope cl s H fp) tg g) (ht:∀cl s H fp,PTs (X.blkC Nc scope cl s H fp) ifs tt) (he:∀cl s H fp,PE (X.blkC Nc scope cl s H fp) elt te)
  (hsw:swapsWith (.ListComp elt [⟨tg,iter,ifs,0⟩] scope pos) (some (.Name y py)) spos.line X.env=pure true:=by rfl)
  (hs:∀x,foldedSetIterable iter X.env x=pure x:=by intro _;rfl):PS X (.Assign [.Name y py] (.ListComp elt [⟨tg,iter,ifs,0⟩] scope pos) spos) (za2 (zbA wi g tt te cap) (zag i)):=by
 intro pins s σ H D0 I h
 rw[exec_Assign_Name_used _ _ _ _ hsw]
 refine wpAny_bind (wpAny_standAt (wpAny_bind (wpAny_bind (thn (zoT (use:=some (assign (.Name y py) X.env)) (QQ:=λ_ s'=>SP X pins D0 .next s') hc hsc hN B hi hg ht he hs I h λs3 H3 cl fp D σc Hc s6 I3 f3 I6 q=>?_) λ_ s' hq=>wpAny_pure (wpAny_pure hq)))))
 have I6x:Inv X pins σ Hc s6:=ztn I3 f3 I6 (Heap.SameBut.refl ..)
 obtain⟨m,hn,_⟩:=id I6.loc
 have hC:Hc s3.heap.objs.size=none:=I6.free
 have fpC:=I3.fpOk (b:=s3.heap.objs.size) (ψh _) hC
 refine wpAny_assign_Name (ziA I6x hnd hix (.inl hl) (v:=.ref D) rfl (λs7 I7 ch=>?_) (.inr hl))
 obtain⟨a,same,ha⟩:=ch
 have nC:s3.heap.objs.size≠a:=by
  rcases ha with r | r
  ·rw[r];exact fpC.2.1
  ·exact(fpC.2.2.2.2.1 _ _ r).symm
 refine⟨m,hn.sameBut same nC,λh' hs'=>⟨_,_,I7.turns (t':=s7.toks) (ch:=[s3.heap.objs.size]) (λb o hb e=>(hs'.2 b (by simpa using hb)).trans e) λb hb=>?_,q⟩⟩
 have e:b=s3.heap.objs.size:=by simpa using hb
 rw[e]
 exact fpC
end L2
namespace L2
open PySem
theorem zvA{v:V}{σ:List (Option V)}{H:Hp}{Q:VK}:zac 0 (some v::σ) H Q=Q v H:=by simp[zac]
theorem zwx{x0:Option V}{v:V}{σ:List (Option V)}{H:Hp}{Q:VK}:zac 1 (x0::some v::σ) H Q=Q v H:=by simp[zac]
theorem zvb{x0 x1:Option V}{v:V}{σ:List (Option V)}{H:Hp}{Q:VK}:zac 2 (x0::x1::some v::σ) H Q=Q v H:=by simp[zac]
theorem zuz{x0 x1 x2:Option V}{v:V}{σ:List (Option V)}{H:Hp}{Q:VK}:zac 3 (x0::x1::x2::some v::σ) H Q=Q v H:=by simp[zac]
theorem zws{x0 x1 x2 x3:Option V}{v:V}{σ:List (Option V)}{H:Hp}{Q:VK}:zac 4 (x0::x1::x2::x3::some v::σ) H Q=Q v H:=by simp[zac]
theorem zww{x0 x1 x2 x3 x4:Option V}{v:V}{σ:List (Option V)}{H:Hp}{Q:VK}:zac 5 (x0::x1::x2::x3::x4::some v::σ) H Q=Q v H:=by simp[zac]
theorem zvE{x0 x1 x2 x3 x4 x5:Option V}{v:V}{σ:List (Option V)}{H:Hp}{Q:VK}:zac 6 (x0::x1::x2::x3::x4::x5::some v::σ) H Q=Q v H:=by simp[zac]
theorem zuD{x0 x1 x2 x3 x4 x5 x6:Option V}{v:V}{σ:List (Option V)}{H:Hp}{Q:VK}:zac 7 (x0::x1::x2::x3::x4::x5::x6::some v::σ) H Q=Q v H:=by simp[zac]
theorem zvq{x0 x1 x2 x3 x4 x5 x6 x7:Option V}{v:V}{σ:List (Option V)}{H:Hp}{Q:VK}:zac 8 (x0::x1::x2::x3::x4::x5::x6::x7::some v::σ) H Q=Q v H:=by simp[zac]
theorem zve{x0 x1 x2 x3 x4 x5 x6 x7 x8:Option V}{v:V}{σ:List (Option V)}{H:Hp}{Q:VK}:zac 9 (x0::x1::x2::x3::x4::x5::x6::x7::x8::some v::σ) H Q=Q v H:=by simp[zac]
theorem zta{x0 x1 x2 x3 x4 x5 x6 x7 x8 x9:Option V}{v:V}{σ:List (Option V)}{H:Hp}{Q:VK}:zac 10 (x0::x1::x2::x3::x4::x5::x6::x7::x8::x9::some v::σ) H Q=Q v H:=by simp[zac]
theorem zrV{x0 x1 x2 x3 x4 x5 x6 x7 x8 x9 x10:Option V}{v:V}{σ:List (Option V)}{H:Hp}{Q:VK}:zac 11 (x0::x1::x2::x3::x4::x5::x6::x7::x8::x9::x10::some v::σ) H Q=Q v H:=by simp[zac]
theorem ztC{x0 x1 x2 x3 x4 x5 x6 x7 x8 x9 x10 x11:Option V}{v:V}{σ:List (Option V)}{H:Hp}{Q:VK}:zac 12 (x0::x1::x2::x3::x4::x5::x6::x7::x8::x9::x10::x11::some v::σ) H Q=Q v H:=by simp[zac]
theorem ztj{x0 x1 x2 x3 x4 x5 x6 x7 x8 x9 x10 x11 x12:Option V}{v:V}{σ:List (Option V)}{H:Hp}{Q:VK}:zac 13 (x0::x1::x2::x3::x4::x5::x6::x7::x8::x9::x10::x11::x12::some v::σ) H Q=Q v H:=by simp[zac]
theorem ztd{x0:Option V}{v:V}{σ:List (Option V)}{H:Hp}{Q:St→Hp→Prop}:zag 0 v (x0::σ) H Q=Q (some v::σ) H:=rfl
theorem zs7{x0 x1:Option V}{v:V}{σ:List (Option V)}{H:Hp}{Q:St→Hp→Prop}:zag 1 v (x0::x1::σ) H Q=Q (x0::some v::σ) H:=rfl
theorem zrW{x0 x1 x2:Option V}{v:V}{σ:List (Option V)}{H:Hp}{Q:St→Hp→Prop}:zag 2 v (x0::x1::x2::σ) H Q=Q (x0::x1::some v::σ) H:=rfl
theorem zrD{x0 x1 x2 x3:Option V}{v:V}{σ:List (Option V)}{H:Hp}{Q:St→Hp→Prop}:zag 3 v (x0::x1::x2::x3::σ) H Q=Q (x0::x1::x2::some v::σ) H:=rfl
theorem zts{x0 x1 x2 x3 x4:Option V}{v:V}{σ:List (Option V)}{H:Hp}{Q:St→Hp→Prop}:zag 4 v (x0::x1::x2::x3::x4::σ) H Q=Q (x0::x1::x2::x3::some v::σ) H:=rfl
theorem zsj{x0 x1 x2 x3 x4 x5:Option V}{v:V}{σ:List (Option V)}{H:Hp}{Q:St→Hp→Prop}:zag 5 v (x0::x1::x2::x3::x4::x5::σ) H Q=Q (x0::x1::x2::x3::x4::some v::σ) H:=rfl
theorem ztS{x0 x1 x2 x3 x4 x5 x6:Option V}{v:V}{σ:List (Option V)}{H:Hp}{Q:St→Hp→Prop}:zag 6 v (x0::x1::x2::x3::x4::x5::x6::σ) H Q=Q (x0::x1::x2::x3::x4::x5::some v::σ) H:=rfl
theorem zsC{x0 x1 x2 x3 x4 x5 x6 x7:Option V}{v:V}{σ:List (Option V)}{H:Hp}{Q:St→Hp→Prop}:zag 7 v (x0::x1::x2::x3::x4::x5::x6::x7::σ) H Q=Q (x0::x1::x2::x3::x4::x5::x6::some v::σ) H:=rfl
theorem zr1{x0 x1 x2 x3 x4 x5 x6 x7 x8:Option V}{v:V}{σ:List (Option V)}{H:Hp}{Q:St→Hp→Prop}:zag 8 v (x0::x1::x2::x3::x4::x5::x6::x7::x8::σ) H Q=Q (x0::x1::x2::x3::x4::x5::x6::x7::some v::σ) H:=rfl
theorem zsu{x0 x1 x2 x3 x4 x5 x6 x7 x8 x9:Option V}{v:V}{σ:List (Option V)}{H:Hp}{Q:St→Hp→Prop}:zag 9 v (x0::x1::x2::x3::x4::x5::x6::x7::x8::x9::σ) H Q=Q (x0::x1::x2::x3::x4::x5::x6::x7::x8::some v::σ) H:=rfl
theorem zqP{x0 x1 x2 x3 x4 x5 x6 x7 x8 x9 x10:Option V}{v:V}{σ:List (Option V)}{H:Hp}{Q:St→Hp→Prop}:zag 10 v (x0::x1::x2::x3::x4::x5::x6::x7::x8::x9::x10::σ) H Q=Q (x0::x1::x2::x3::x4::x5::x6::x7::x8::x9::some v::σ) H:=rfl
theorem zpM{x0 x1 x2 x3 x4 x5 x6 x7 x8 x9 x10 x11:Option V}{v:V}{σ:List (Option V)}{H:Hp}{Q:St→Hp→Prop}:zag 11 v (x0::x1::x2::x3::x4::x5::x6::x7::x8::x9::x10::x11::σ) H Q=Q (x0::x1::x2::x3::x4::x5::x6::x7::x8::x9::x10::some v::σ) H:=rfl
theorem zpD{x0 x1 x2 x3 x4 x5 x6 x7 x8 x9 x10 x11 x12:Option V}{v:V}{σ:List (Option V)}{H:Hp}{Q:St→Hp→Prop}:zag 12 v (x0::x1::x2::x3::x4::x5::x6::x7::x8::x9::x10::x11::x12::σ) H Q=Q (x0::x1::x2::x3::x4::x5::x6::x7::x8::x9::x10::x11::some v::σ) H:=rfl
theorem zqf{x0 x1 x2 x3 x4 x5 x6 x7 x8 x9 x10 x11 x12 x13:Option V}{v:V}{σ:List (Option V)}{H:Hp}{Q:St→Hp→Prop}:zag 13 v (x0::x1::x2::x3::x4::x5::x6::x7::x8::x9::x10::x11::x12::x13::σ) H Q=Q (x0::x1::x2::x3::x4::x5::x6::x7::x8::x9::x10::x11::x12::some v::σ) H:=rfl
theorem rI_c{C:Int→Int→Prop}{g:Int→Int→V}{a b:Int}{H:Hp}{Q:VK}:rI C g (.int a) (.int b) H Q=(C a b∧Q (g a b) H):=by simp[rI]
theorem rI0_c{g:Int→Int→V}{a b:Int}{H:Hp}{Q:VK}:rI0 g (.int a) (.int b) H Q=Q (g a b) H:=by simp[rI0]
theorem zyb{K:ψa}{p:Addr}{i:Int}{H:Hp}{Q:VK}:zhO K (.ref p) (.int i) H Q=∃xs,SqL K H p xs∧∃v,atI xs i=some v∧Q v H:=by simp[zhO]
theorem zxo{K:ψa}{p:Addr}{i:Int}{H:Hp}{Q:VK}:zbM K (.ref p) (.int i) H Q=∃xs,SqT K H p xs∧∃v,atI xs i=some v∧Q v H:=by simp[zbM]
theorem ex_bl{c:Bool}{Q:Bool→Prop}:(∃k,V.bl c=V.bl k∧Q k)=Q c:=by simp
theorem zyd{c:Int}{Q:Int→Prop}:(∃k,V.int c=V.int k∧Q k)=Q c:=by simp
theorem zxi{c:Addr}{Q:Addr→Prop}:(∃k,V.ref c=V.ref k∧Q k)=Q c:=by simp
theorem zyN{c:Int}{Q:Int→Prop}:(∃k,[V.int c]=[V.int k]∧Q k)=Q c:=by simp
theorem zwY{c:Addr}{Q:Addr→Prop}:(∃k,[V.ref c]=[V.ref k]∧Q k)=Q c:=by simp
end L2
namespace L2
open PySem PySem.Spec PyProof.Rows
section
variable {α β:Type}
def Kd:Sem α→Prop
 | .pure _=>True
 | .raise _=>True
 | .unsupported _=>True
 | .finish _=>True
 | .rule _ k=>Kd (k ())
 | .at _ k=>Kd (k ())
 | .load _ _ k=>∀o,Kd (k o)
 | .update _ _ f k=>(∀o:Obj,(f o).dict=o.dict∧(f o).isFreed=o.isFreed)∧Kd (k ())
 | .alloc _ k=>∀a,Kd (k a)
 | .loadIfAlive _ k=>∀o,Kd (k o)
 | .point _ k=>Kd (k ())
 | .fresh k=>∀n,Kd (k n)
 | .ask k=>∀n,Kd (k n)
 | .handled _ k=>∀n,Kd (k n)
 | .stack k=>∀l,Kd (k l)
 | .thread k=>∀n,Kd (k n)
 | _=>False
theorem zaX{f:α→Sem β}(hf:∀x,Kd (f x)):∀{t:Sem α},Kd t→Kd (t >>= f)
 | .pure a,_=>hf a
 | .raise _,_=>trivial
 | .unsupported _,_=>trivial
 | .finish _,_=>trivial
 | .rule _ k,h=>zaX hf (t:=k ()) h
 | .at _ k,h=>zaX hf (t:=k ()) h
 | .load _ _ k,h=>λo=>zaX hf (t:=k o) (h o)
 | .update _ _ _ k,h=>⟨h.1,zaX hf (t:=k ()) h.2⟩
 | .alloc _ k,h=>λo=>zaX hf (t:=k o) (h o)
 | .loadIfAlive _ k,h=>λo=>zaX hf (t:=k o) (h o)
 | .point _ k,h=>zaX hf (t:=k ()) h
 | .fresh k,h=>λo=>zaX hf (t:=k o) (h o)
 | .ask k,h=>λo=>zaX hf (t:=k o) (h o)
 | .handled _ k,h=>λo=>zaX hf (t:=k o) (h o)
 | .stack k,h=>λo=>zaX hf (t:=k o) (h o)
 | .thread k,h=>λo=>zaX hf (t:=k o) (h o)
 | .register ..,h=>h.elim
 | .choose ..,h=>h.elim
 | .os ..,h=>h.elim
 | .call ..,h=>h.elim
 | .newGen ..,h=>h.elim
 | .genState ..,h=>h.elim
 | .resume ..,h=>h.elim
 | .yield ..,h=>h.elim
 | .fork ..,h=>h.elim
 | .await ..,h=>h.elim
def zlH(e:Addr)(od:Option Addr)(h:Heap):Prop:=∃o,h.get? e=some o∧o.dict=od
theorem zhb{M:Model}{Γ:PySem.Ctx}{Q:α→Pos→Shared→Prop}{E:Value→Pos→Shared→Prop}{e:Addr}{od:Option Addr}:∀{t:Sem α} {p:Pos} {s:Shared},Kd t→zlH e od s.heap→Sem.wp M Γ t Q E p s →
  Sem.wp M Γ t (λa p s'=>Q a p s'∧zlH e od s'.heap) E p s
 | .pure _,_,_,_,d,h=>⟨h,d⟩
 | .raise _,_,_,_,_,h=>h
 | .unsupported _,_,_,_,_,h=>h
 | .finish _,_,_,_,_,h=>h
 | .rule _ k,_,_,c,d,h=>zhb (t:=k ()) c d h
 | .at _ k,_,_,c,d,h=>zhb (t:=k ()) c d h
 | .load _ _ k,_,_,c,d,⟨o,ho,h⟩=>⟨o,ho,zhb (t:=k o) (c o) d h⟩
 | .update a _ f k,p,s,c,d,⟨hi,h⟩=>by
  refine⟨hi,zhb (t:=k ()) c.2 ?_ h⟩
  obtain⟨o,ho,hd⟩:=d
  by_cases ea:a=e
  ·subst ea
   have nf:o.isFreed=false:=(Heap.get?_some_iff.mp ho).2
   exact⟨f o,Heap.get?_update_self f ho (by rw[(c.1 o).2];exact nf),by rw[(c.1 o).1];exact hd⟩
  ·exact⟨o,(Heap.get?_update_other _ f ea).trans ho,hd⟩
 | .alloc o k,p,s,c,⟨o',ho,hd⟩,h=>zhb (t:=k _) (c _) ⟨o',Heap.get?_push_of_some _ ho,hd⟩ h
 | .loadIfAlive _ k,_,_,c,d,h=>zhb (t:=k _) (c _) d h
 | .point _ k,_,_,c,d,h=>zhb (t:=k ()) c d h
 | .fresh k,_,_,c,d,h=>zhb (t:=k _) (c _) d h
 | .ask k,_,_,c,d,h=>zhb (t:=k _) (c _) d h
 | .handled _ k,_,_,c,d,h=>zhb (t:=k _) (c _) d h
 | .stack k,_,_,c,d,h=>zhb (t:=k _) (c _) d h
 | .thread k,_,_,c,d,h=>zhb (t:=k _) (c _) d h
 | .register ..,_,_,c,_,_=>c.elim
 | .choose ..,_,_,c,_,_=>c.elim
 | .os ..,_,_,c,_,_=>c.elim
 | .call ..,_,_,c,_,_=>c.elim
 | .newGen ..,_,_,c,_,_=>c.elim
 | .genState ..,_,_,c,_,_=>c.elim
 | .resume ..,_,_,c,_,_=>c.elim
 | .yield ..,_,_,c,_,_=>c.elim
 | .fork ..,_,_,c,_,_=>c.elim
 | .await ..,_,_,c,_,_=>c.elim
theorem zl7{M:Model}{A:Around}{t:Sem α}{Q:α→Shared→Prop}{E:Value→Shared→Prop}{s:Shared}{e:Addr}{od:Option Addr}(c:Kd t)(d:zlH e od s.heap)(h:wpAny M A t (λa s'=>zlH e od s'.heap→Q a s') E s):wpAny M A t Q E s:=λΓ p hΓ =>
 Sem.wp_mono M Γ t (λ_ _ _ z=>z.1 z.2) (λ_ _ _ z=>z) p s (zhb c d (h Γ p hΓ))
end
theorem zli(f:Array Value→Array Value)(o:Obj):(Obj.mapFields f o).dict=o.dict∧(Obj.mapFields f o).isFreed=o.isFreed:=by
 obtain⟨c,d,dat,sl⟩:=o
 cases dat <;> exact⟨rfl,rfl⟩
theorem zbZ{α:Type}(a:α):Kd (pure a:Sem α):=trivial
theorem zgr{α:Type}(w:String):Kd (unsupported w:Sem α):=trivial
theorem zm7(a:Addr):Kd (load a):=λ_=>trivial
theorem zkH:Kd stack:=λ_=>trivial
theorem zsL(o:Obj):Kd (alloc o):=λ_=>trivial
theorem zt7{a:Addr}{f:Obj→Obj}(h:∀o:Obj,(f o).dict=o.dict∧(f o).isFreed=o.isFreed):Kd (update a f):=⟨h,trivial⟩
theorem zlY{α:Type}{c:Prop}[Decidable c]{a b:Sem α}(h1:Kd a)(h2:Kd b):Kd (if c then a else b):=by
 split
 ·exact h1
 ·exact h2
theorem zim(v:Value)(i:Nat):Kd (field v i):=by
 unfold field fieldsOf
 refine zaX (λx=>?_) ?_
 ·split
  ·exact zbZ _
  ·exact zgr _
 ·split
  ·refine zaX (λo=>?_) (zm7 _)
   split
   ·exact zbZ _
   ·exact zgr _
  ·exact zgr _
theorem zgI(v:Value)(i:Nat)(x:Value):Kd (setField v i x):=by
 unfold setField updateField
 split
 ·refine zaX (λo=>?_) (zm7 _)
  split
  ·exact zlY (zt7 (zli _)) (zgr _)
  ·exact zgr _
 ·exact zgr _
theorem zlK(ty:String)(vs:List Value):Kd (newFields ty vs):=by
 unfold newFields newObj newObjAsIs
 simp only
 split
 ·exact zgr _
 ·exact zaX (λ_=>zbZ _) (zsL _)
theorem zgq:∀l:List Env,Kd (readyFrames l)
 | []=>trivial
 | env::outer=>by
  have ih:=zgq outer
  unfold readyFrames
  split
  ·refine zaX (λo=>?_) (zm7 _)
   refine zlY (zbZ _) ?_
   refine zaX (λim=>?_) ?_
   ·refine zaX (λbk=>?_) ?_
    ·exact zaX (λ_=>ih) (zt7 λo=>⟨rfl,by obtain⟨c,d,dat,sl⟩:=o;cases dat <;> rfl⟩)
    ·unfold keptBack underTheClaimsCaller
     split
     ·refine zlY (zbZ _) ?_
      exact zaX (λ_=>zbZ _) (zaX (λ_=>zbZ _) zkH)
     ·exact zbZ _
   ·unfold behindIsImport
    refine zlY (zbZ _) (zlY (zbZ _) ?_)
    exact zaX (λ_=>zbZ _) (zim _ _)
  ·exact zgr _
theorem zok(env:Env):Kd (PySem.frameOf env):=by
 unfold PySem.frameOf frameEnvs
 refine zaX (λx=>?_) (zaX (λ_=>zbZ _) zkH)
 refine zaX (λy=>?_) ?_
 ·split
  ·exact zbZ _
  ·exact zgr _
 ·unfold frameObject
  split
  ·exact zbZ _
  ·exact zaX (λ_=>zbZ _) (zgq _)
theorem zit(f:Addr)(b:Bool):Kd (entryPlaceOf f b):=by
 unfold entryPlaceOf
 refine zaX (λx=>?_) zkH
 split
 ·exact zbZ _
 ·exact zbZ _
theorem zhE(e:Value)(env:Env):Kd (noteFrame e env):=by
 unfold noteFrame EntryCells.newEntry
 split
 ·refine zaX (λhead=>?_) (zim _ _)
  have rest:∀f:Addr,Kd (do let a ← PySem.frameOf env;let pl ← entryPlaceOf f (head != .none);let b ← newFields "traceback" ([head,a,.none,rawInt f,.none]++(if pl.isEmpty then ψo 6 .none else pl));setField e 1 b):=λf =>
   zaX (λ_=>zaX (λ_=>zaX (λ_=>zgI _ _ _) (zlK _ _)) (zit _ _)) (zok _)
  refine zlY ?_ (rest _)
  refine zaX (λx=>zlY (zbZ _) ?_) (zim _ _)
  exact zaX (λ_=>rest _) (zgI _ _ _)
 ·exact zgr _
theorem zfP(e:Value)(f:Option Addr):Kd (setFlight e f):=by
 unfold setFlight
 exact zaX (λ_=>zlY (zgI _ _ _) (zbZ _)) (zim _ _)
theorem zjT(env:Env)(e:Value):Kd (leaving env e):=by
 unfold leaving
 exact zaX (λ_=>zfP _ _) (zhE _ _)
structure ExI (K:ψa) (C fI:Addr):Prop where
 lk:∃nm q N bs bm sn sub ab col dd k0 k1 k2 k3 k5,K.lookup C=some (excClassObj nm q C N bs bm true sn sub ab col dd k0 k1 k2 k3 k5 "ValueError.__new__")∧PySem.W.tailIn K zgF bm=true
 ini:ψu K (.ref C) "__init__"=some (some (.ref fI))
 fn:PySem.W.isFn K (.ref fI)=true
 kp:ψB1 K (.ref C)=true
 mo:ψd1 K C (.type "object")=some true
 sa:ψu K (.ref C) "__setattr__"=some (some (.builtin "object.__setattr__"))
section
variable {K:ψa} {prog:Program} {w:World} {A:Around} {E:Value→Shared→Prop} {h:Heap} {g:Array GenState} {d:Drawn} {t:Nat} {os:OsState} {C fI:Addr} {us:List Value}
end
structure ExB (K:ψa) (D:Addr):Prop where
 sg:PySem.W.specialIn K (.ref D) "__getattribute__"=some (some (.builtin "type.__getattribute__"))
 rd:PySem.W.readsIn K D (.type "type")=true
 fc:PySem.W.findCls K (.ref D) (.type "type") "__init__"=some (.val (.builtin "ValueError.__init__"))
section
variable {X:Cx} {pins:List (Addr×Obj)} {σ:St} {H:Hp} {s:Shared}
end
section
open Builtin Builtin.ObjectAttr
variable {K:ψa} {prog:Program} {w:World} {A:Around} {E:Value→Shared→Prop} {h:Heap} {g:Array GenState} {d:Drawn} {t:Nat} {os:OsState} {C fI x:Addr} {v:Value} {name:Str} {o:Obj}
end
section
variable {X:Cx} {x:Str} {D:Addr} {np apos pos pos':Pos} {e o value:Expr} {es:List Expr} {t:TA} {to tv:TE} {f:Str}
end
section
variable {X:Cx} {CX:CXT} {k:Nat} {f C:Addr} {fd:FuncData} {ps:List Str} {sp:Sp} {E:XK} {x:Str} {p pos:Pos} {e:Expr} {es:List Expr} {t:TA}
end
def CXV(P:Program)(w:World):CXT:=λouter H s E e s'=>∃(ea:Addr) (B:Heap) (cls a0:Value) (H':Hp) (od:Option Addr),e=.ref ea∧zv6 P w outer H s (λc _ H'=>E c od H') ea s' B cls a0 H'∧zlH ea od s'.heap
section
variable {P:Program} {w:World} {K:ψa} {mg:Str→Option Value} {base:Heap} {N:List Str} {qual:Str} {scope:Scope} {f:Addr} {cd:Value} {A:Around} {outer:List Env} {s₀:Shared} {H₀:Hp} {E:XK}
theorem zjj:zn0 (CXV P w) (zrA (CXV P w) P w K mg base N qual scope f cd A outer s₀ H₀ E) E:=by
 intro pins σ H s e s' I h
 obtain⟨ea,B,cls,a0,H',od,rfl,x,dd⟩:=h
 have hfr:=I.ok.frames
 have ff:=x.fly.2.2.1
 refine zl7 (zjT _ _) dd (wpAny_leaves_onW (base:=B) (L:=s₀.heap.objs.size) hfr rfl x.fly λh' fl sm dd'=>?_)
 obtain⟨un2,hok2⟩:=x.later fl.1 sm ff
 have neL:∀b o,s₀.heap.get? b=some o→b≠s₀.heap.objs.size:=λb o e=>ψl (Heap.lt_size e)
 have notin:∀b o,s₀.heap.get? b=some o→b∉frs outer→b∉frs (envOfC qual scope s₀.heap.objs.size f cd::outer):=λb o e hb z=>by
  rcases List.mem_cons.mp (I.stkSub b z) with q | q
  ·exact neL b o e q
  ·exact hb q
 have un:Un (frs outer) [] H₀ H' s₀.heap h':=by
  refine⟨λb o e n hb hx=>?_,λb o e n hb hx=>?_,λb o e n hx=>?_,λb o e hx=>?_,λb xs e=>x.un.tups b xs (I.base.tups b xs e),λb o u e=>x.un.frzs b o u (I.base.frzs b o u e),λb ps e=>?_⟩
  ·exact un2.keep b o (I.base.keep b o e n hb hx) (I.base.free b o e n hx) (notin b o e hb) (by simp)
  ·obtain⟨sl,e1⟩:=I.base.slot b o e n hb hx
   obtain⟨sl',e2⟩:=un2.any e1 (I.base.free b o e n hx) (by simp)
   exact⟨sl',e2⟩
  ·obtain⟨o',e1⟩:=I.base.there b o e hx
   exact x.un.free b o' e1 (I.base.free b o e n hx) (by simp)
  ·obtain⟨o',e1⟩:=I.base.there b o e hx
   exact un2.there b o' e1 (by simp)
  ·obtain⟨m1,e1⟩:=I.base.tbls b ps e
   obtain⟨m2,e2⟩:=x.un.tbls b _ e1
   exact⟨m1++m2,by rw[e2,Array.append_assoc]⟩
 refine⟨ea,B,cls,a0,H',od,rfl,⟨x.os.trans I.os,x.bare,un,x.hokB,fl,λb o e n hb=>?_,λb o e hb=>?_,?_,x.free,x.want⟩,dd'⟩
 ·exact x.cov b o (I.base.keep b o e n hb (by intro z;cases z)) (I.base.free b o e n (by intro z;cases z)) (notin b o e hb)
 ·obtain⟨o',e1⟩:=I.base.there b o e (by intro z;cases z)
  exact x.covT b o' e1 (notin b o e hb)
 ·cases q:s₀.heap.get? ea with
  | none=>rfl
  | some o =>
   obtain⟨o',e1⟩:=I.base.there ea o q (by intro z;cases z)
   rw[x.new] at e1
   cases e1
end
section
variable {P:Program} {w:World} {K:ψa} {mg:Str→Option Value} {base:Heap} {N:List Str} {qual:Str} {scope:Scope} {f:Addr} {cd:Value} {A:Around} {outer:List Env} {s₀:Shared} {H₀:Hp} {E:XK}
end
section
variable {P:Program} {w:World} {K:ψa} {mg:Str→Option Value} {base:Heap} {N:List Str} {qual:Str} {scope:Scope} {f:Addr} {cd:Value} {A:Around} {outer:List Env} {s₀:Shared} {H₀:Hp} {E:XK}
theorem zqh{C:Addr}:zt6 (zrA (CXV P w) P w K mg base N qual scope f cd A outer s₀ H₀ E) C E:=by
 intro pins σ H s ea h' args I hx q
 have hfr:=I.ok.frames
 have hst:s.heap.FunFrames base (envOfC qual scope s₀.heap.objs.size f cd::outer):=I.stack
 have fresh:∀b∈frs (envOfC qual scope s₀.heap.objs.size f cd::outer),H b=none:=I.stkFree
 have inB:∀b o,s.heap.get? b=some o→b∉frs (envOfC qual scope s₀.heap.objs.size f cd::outer)→(ψX1 s.heap (frs (envOfC qual scope s₀.heap.objs.size f cd::outer))).get? b=some o:=λb o e n=>PySem.W.hideAll_get _ e n
 have st0:(ψX1 s.heap (frs (envOfC qual scope s₀.heap.objs.size f cd::outer))).StaysIn s.heap:=λb o q=>PySem.W.of_hideAll _ q
 have hl:s.heap.FunFrames (ψX1 s.heap (frs (envOfC qual scope s₀.heap.objs.size f cd::outer))) (envOfC qual scope s₀.heap.objs.size f cd::outer) :=
  PySem.W.funFrames_hide hst λenv he a ha=>List.mem_filterMap.mpr ⟨env,he,ha⟩
 generalize ψX1 s.heap (frs (envOfC qual scope s₀.heap.objs.size f cd::outer))=B at inB st0 hl
 obtain⟨t9,g9,_,_⟩:=hx.there
 refine zl7 (zjT _ _) ⟨_,g9,rfl⟩ (wpAny_leaves_madeW (base:=B) (h:=s.heap) (L:=s₀.heap.objs.size) hfr rfl st0 hl hx λh2 t x1 x2 x3 x4 d2=>?_)
 have neL:∀b o,s₀.heap.get? b=some o→b≠s₀.heap.objs.size:=λb o e=>ψl (Heap.lt_size e)
 have notin:∀b o,s₀.heap.get? b=some o→b∉frs outer→b∉frs (envOfC qual scope s₀.heap.objs.size f cd::outer):=λb o e hb z=>by
  rcases List.mem_cons.mp (I.stkSub b z) with q | q
  ·exact neL b o e q
  ·exact hb q
 have slot:∀b o,s.heap.get? b=some o→b∈frs outer→∃sl,h2.get? b=some { o with slots:=sl }:=λb o e hb=>by
  obtain⟨_,o',e',nf⟩:=hl.2.2.mem hb
  rw[e] at e'
  cases e'
  exact x4 b o (hx.keeps b o e) nf
 have hokB:HOk P w H B:=λb u e=>(I.hok b u e).stay (λc v hc q=>inB c v q λz=>by
  rcases hc with r | r
  ·rw[r] at z
   rw[fresh b z] at e
   cases e
  ·rw[fresh c z] at r
   cases r) (λ_ q=>q) λ_ _ q=>q
 have un:Un (frs outer) [] H₀ H s₀.heap h2:=by
  refine⟨λb o e n hb hx=>?_,λb o e n hb hx=>?_,I.base.free,λb o e hx=>?_,I.base.tups,I.base.frzs,I.base.tbls⟩
  ·exact x1.1 b o (inB b o (I.base.keep b o e n hb hx) (notin b o e hb))
  ·obtain⟨sl,e1⟩:=I.base.slot b o e n hb hx
   obtain⟨sl',e2⟩:=slot b _ e1 hb
   exact⟨sl',e2⟩
  ·obtain⟨o',e1⟩:=I.base.there b o e hx
   by_cases hb:b∈frs outer
   ·obtain⟨sl,e2⟩:=slot b o' e1 hb
    exact⟨_,e2⟩
   ·exact⟨o',x1.1 b o' (inB b o' e1 (notin b o e hb))⟩
 refine⟨ea,B,.ref C,.ref t,H,none,rfl,⟨I.os,I.bare,un,hokB,x1,λb o e n hb=>?_,λb o e hb=>?_,?_,?_,q⟩,d2⟩
 ·exact inB b o (I.base.keep b o e n hb (by intro z;cases z)) (notin b o e hb)
 ·obtain⟨o',e1⟩:=I.base.there b o e (by intro z;cases z)
  exact⟨o',inB b o' e1 (notin b o e hb)⟩
 ·cases q:s₀.heap.get? ea with
  | none=>rfl
  | some o =>
   obtain⟨o',e1⟩:=I.base.there ea o q (by intro z;cases z)
   rw[hx.new] at e1
   cases e1
 ·cases q:H ea with
  | none=>rfl
  | some u =>
   obtain⟨o',e1⟩:=(I.hok ea u q).there
   rw[hx.new] at e1
   cases e1
end
section
variable {K:ψa} {prog:Program} {w:World} {A:Around} {E:Value→Shared→Prop} {s:Shared} {env:Env} {C fI:Addr}
end
theorem Fun.okV{P:Program}{w:World}{K:ψa}{mg:Str→Option Value}{base:Heap}{x qual:Str}{st:Stmt}{f:Addr}{fd:FuncData}{N ps:List Str}{k:Nat}{sp:Sp}(F:Fun K x qual st f fd)(S:zaA N ps (zai st))(len:∀vs H Q E,sp vs H Q E→vs.length=ps.length)
  (hbody:∀(cdv:Value) (A:Around) (outer:List Env) (s:Shared) (H:Hp) (vs:List V) (Q:VK) (E:XK),zjB k (A.deeper (envOfC qual (zai st) s.heap.objs.size f cdv))→sp vs H Q E →
   ∃t,PSs (zrA (CXV P w) P w K mg base N qual (zai st) f cdv A outer s H E) (zfT st) t∧t { nx:=λ_ H'=>Q .non H',rt:=Q } (L2.start N vs) H):zcC P w K mg base (CXV P w) (k+1) f fd ps sp:=by
 obtain⟨oc,od,kV,doc,pm,an,cdv,ct,osl,rfl,lk,hcd⟩:=F.ex
 exact zwO lk hcd S len λA outer s H vs Q E hr hsp=>hbody cdv A outer s H vs Q E hr hsp
def zlr(a:Addr)(c:Value)(od:Option Addr)(h:Heap):Prop:=∃oe vs,h.get? a=some oe∧oe.cls=c∧oe.data=.fields vs∧oe.dict=od
def zgE(a:Addr)(c:Value)(od:Option Addr):HO:=.ext (zlr a c od)
theorem zlr.is{a:Addr}{c:Value}{od:Option Addr}{h:Heap}(x:zlr a c od h):zuY a c h:=let ⟨oe,vs,e1,e2,e3,_⟩:=x;⟨oe,vs,e1,e2,e3⟩
def zuC(K:ψa)(tb:(St→XK)→TS)(D:Value)(i:Nat)(th:TS):TS:=λd σ H =>
 tb (λσ' c od H'=>zfS K c∧ψH1 K c D=some true∧∀a,H' a=none→th { d with nx:=λσ2 H2=>d.nx (σ2.set i none) H2,bk:=λσ2 H2=>d.bk (σ2.set i none) H2,ct:=λσ2 H2=>d.ct (σ2.set i none) H2 } (σ'.set i (some (.ref a))) (upd H' a (zgE a c od))) d σ H
def Cx.inTryV(X:Cx)(pins:List (Addr×Obj))(E:St→XK):Cx:={ X with
 pn:=X.pn++pins
 xe:=λe s'=>∃pins' σ H s,Inv { X with pn:=X.pn++pins } pins' σ H s∧CXV X.prog X.w X.stack H s (E σ) e s' }
theorem Inv.toTryV{X:Cx}{pins:List (Addr×Obj)}{σ:St}{H:Hp}{s:Shared}(I:Inv X pins σ H s)(E:St→XK):Inv (X.inTryV pins E) [] σ H s :=
 ⟨I.ok.pinned _ _,I.os,I.bare,I.base,I.loc,I.cell,I.free,I.freeC,λp hp=>I.pin p (by rw[List.append_nil] at hp;exact hp),I.hok,I.len⟩
theorem zxm{X:Cx}{pins:List (Addr×Obj)}{E:St→XK}:zrd (CXV X.prog X.w) (X.inTryV pins E) E:=λpins' σ H s e s' I h =>
 ⟨pins',σ,H,s,⟨I.ok.pinned _ _,I.os,I.bare,I.base,I.loc,I.cell,I.free,I.freeC,I.pin,I.hok,I.len⟩,h⟩
theorem SP.ofTryV{X:Cx}{pins pins':List (Addr×Obj)}{E:St→XK}{D:zbP}{f:Flow}{s':Shared}(ok:X.Ok)(h:SP (X.inTryV pins E) pins' D f s'):SP X pins D f s':=by
 cases f with
 | next=>obtain⟨σ',H',I,q⟩:=h;exact⟨σ',H',I.ofTry ok,q⟩
 | brk=>obtain⟨σ',H',I,q⟩:=h;exact⟨σ',H',I.ofTry ok,q⟩
 | cont=>obtain⟨σ',H',I,q⟩:=h;exact⟨σ',H',I.ofTry ok,q⟩
 | ret u=>obtain⟨v,σ',H',I,r,q⟩:=h;exact⟨v,σ',H',I.ofTry ok,r,q⟩
theorem zwv{X:Cx}{i:Nat}{D:Addr}{x n:Str}{np pos hpos:Pos}{body:List Stmt}{b₀:Stmt}{suite:List Stmt}{tb:(St→XK)→TS}{th:TS}(hm:X.mg x=some (.ref D))(hq:ψg1 X.K D zgF "ValueError.__new__"=true)
  (hg:Gl X x) (hN:X.N.Nodup) (hi:X.N[i]?=some n) (hl:X.env.scope.names.lookup n=some .local) (hxe:X.xe=λ_ _=>False) (hst:X.stack=X.env::X.outer) (hfr:X.env.frame=some X.env.locals) (hex:X.ex=[])
  (hb:∀pins E,PSs (X.inTryV pins E) body (tb E)) (hh:∀ea,PSs (X.inExc ea) (b₀::suite) th) (hd:(x == ("__debug__":Str))=false:=by decide) :
  PS X (.Try body [.ExceptHandler (some (.Name x np)) (some n) (b₀::suite) hpos] [] [] pos) (zuC X.K tb (.ref D) i th):=by
 intro pins s σ H d I h
 refine wpAny_Try_except (wpAny_mono (hb pins _ [] s σ H d (I.toTryV _) h) (λf s₁ q=>?_) λe s₁ q=>?_)
 ·have q':=SP.ofTryV I.ok q
  cases f with
  | next=>exact wpAny_execs_nil q'
  | brk=>exact q'
  | cont=>exact q'
  | ret u=>exact q'
 obtain⟨pins',σ',H1,s1,I1,ea,B,cls,a0,H',od,rfl,x,dd⟩:=q
 replace I1:Inv X pins σ' H1 s1:=Inv.ofTry (xe:=X.xe) I1 I.ok
 obtain⟨hec,hsub,hth⟩:=x.want
 have fly:=x.fly
 rw[hst] at fly
 have ff:=x.fly.2.2.1
 have hfrm:X.A.frames=some (X.env::X.outer):=by rw[← hst];exact I.ok.frames
 refine zl7 (zhE _ _) dd (wpAny_looks_onW (base:=B) (L:=X.env.locals) hfrm hfr fly λh4 hd4 sm4 d4=>?_)
 refine zl7 (zfP _ _) d4 (wpAny_landsW hd4 λh5 fl5 sm5 d5=>?_)
 have invAt:∀{h:Heap} {tk:Nat},B.StaysIn h→s₁.heap.UpToSlots h→Inv X pins σ' H' { s₁ with heap:=h,toks:=tk }:=fun {h tk} st sm=>by
  obtain⟨un,hok⟩:=x.later st sm ff
  exact I1.call' (ch:=[]) x.os un hok x.bare λb z=>nomatch z
 have I5:Inv X pins σ' H' { s₁ with heap:=h5 }:=invAt (tk:=s₁.toks) fl5.1 (sm4.trans sm5)
 have fmark:(X.A.mark (some (.ref ea))).frames=some X.stack:=I.ok.frames
 refine wpAny_handleBy_cons (codeAny_handlers_test ?_) (by intro q;cases q)
 refine zjc (X:=X.inExc ea) (I5.toExc fmark) hg hm ?_ hd
 have kin5:=I5.kIn
 obtain⟨oe,hoe,hcls⟩:=fl5.there
 refine zjo (cls:=cls) hoe hcls (zg0 kin5 hq) (PySem.W.looks_subIn kin5 hsub) ?_
 refine codeAny_handlers_suite_as ?_
 refine zl7 (zfP _ _) d5 (lands_againW fl5 λh6 fl6 sm6 d6=>?_)
 have I6:Inv X pins σ' H' { s₁ with heap:=h6 }:=invAt (tk:=s₁.toks) fl6.1 ((sm4.trans sm5).trans sm6)
 have noat:∀b o,s1.heap.get? b=some o→b≠ea:=λb o e z=>by rw[z,x.new] at e;cases e
 have n0:X.s₀.heap.get? ea=none:=by
  cases q:X.s₀.heap.get? ea with
  | none=>rfl
  | some o =>
   obtain⟨o',e1⟩:=I1.base.there ea o q (by rw[hex];intro z;cases z)
   exact absurd rfl (noat ea o' e1)
 have nL:ea≠X.env.locals:=by
  obtain⟨m,⟨o,_,_,e,_⟩,_⟩:=I1.loc
  exact(noat _ o e).symm
 have nC:∀y c,X.env.cells.lookup y=some c→c≠ea:=λy c e=>by
  obtain⟨v,z⟩:=I1.cell y c e
  obtain⟨o,e1,_⟩:=z
  exact noat c o e1
 have nP:∀p∈X.pn++pins,p.1≠ea:=λp hp=>noat _ _ (I1.pin p hp).1
 have isx:zlr ea cls od h6:=by
  obtain⟨_,_,_,oe,vs,_,_,_,he,hc,hd,_⟩:=fl6
  obtain⟨o',e',ed⟩:=d6
  rw[he] at e'
  cases e'
  exact⟨oe,vs,he,hc.1,hd,ed⟩
 have I7:=I6.track (o:=zgE ea cls od) x.free n0 nL nC nP ⟨isx,by obtain⟨oe,_,he,_⟩:=isx;exact⟨oe,he⟩,λh1 h2 ⟨oe,vs,he,r⟩ k=>⟨oe,vs,k oe he,r⟩⟩
 refine zkj (X:=X.inExc ea) (v:=.ref ea) (I7.toExc fmark) hN hi (.inl hl) rfl (λs8 I8=>?_) (.inr hl)
 refine wpAny_mono (hh ea pins s8 _ _ _ I8 (hth ea x.free)) (λf s9 q=>?_) λe s9 q=>?_
 ·cases f with
  | next =>
   obtain⟨σ9,H9,I9,r⟩:=q
   exact zk8 (I9.ofExc I.ok) hN hi hl λs10 I10=>⟨_,_,I10,r⟩
  | brk =>
   obtain⟨σ9,H9,I9,r⟩:=q
   exact zk8 (I9.ofExc I.ok) hN hi hl λs10 I10=>⟨_,_,I10,r⟩
  | cont =>
   obtain⟨σ9,H9,I9,r⟩:=q
   exact zk8 (I9.ofExc I.ok) hN hi hl λs10 I10=>⟨_,_,I10,r⟩
  | ret u =>
   obtain⟨v,σ9,H9,I9,rv,r⟩:=q
   exact zk8 (I9.ofExc I.ok) hN hi hl λs10 I10=>⟨v,_,_,I10,rv,r⟩
 ·rw[show(X.inExc ea).xe=X.xe from rfl,hxe] at q
  exact q.elim
section
open Builtin Builtin.ObjectAttr PySem.W
variable {K:ψa} {prog:Program} {w:World} {A:Around} {E:Value→Shared→Prop} {h:Heap} {g:Array GenState} {d:Drawn} {t:Nat} {os:OsState} {a C dx:Addr}
end
structure XAttr (K:ψa) (C:Addr) (f:Str):Prop where
 five:zgM K C
 hd:PySem.W.hasDictIn K C=true
 na:ψu K (.ref C) f=some none
def zgK(K:ψa):List V→Hp→VK→Prop:=λxs H Q=>∃a c cv od dv b,xs=[.ref a,c]∧zxu c=some dv∧H a=some (zgE a cv od)∧zfS K cv∧ψc K cv dv=some b∧Q (.bl b) H
section
variable {X:Cx} {e:Expr} {f:Str} {pos:Pos} {ta:TE}
theorem zcL:zh7 X (.builtin "isinstance") (zgK X.K):=by
 intro pins s σ H xs us Q I r h
 obtain⟨a,c,cv,od,dv,b,rfl,hc,ha,k,e,q⟩:=h
 obtain⟨u,w',rfl,rx,rw'⟩:=zso r
 obtain rfl:=zkC rw' hc
 cases (show u=Value.ref a from rx)
 obtain⟨p,_,_⟩:=(show zc7 X.prog X.w H s.heap a (zgE a cv od) from I.hok a _ ha)
 exact ψW (k.kit a) I.kIn p.is e (λz=>nomatch z) λtk=>⟨.bl b,H,I.tok tk,rfl,q⟩
end
def zwt:Stmt→List Stmt
 | .ClassDef _ _ _ b _ _ _ _ _ _ _=>b
 | _=>[]
theorem vlst2{us:List Value}(h:us.length=2):∃x y,us=[x,y]:=match us,h with | [x,y],_=>⟨x,y,rfl⟩
end L2
namespace L2.St
open PySem
def it(m:Nat):Nat→Nat→Nat
 | 0,x=>x
 | n+1,x=>it m n ((x*5+1) % m)
def orb(m:Nat):Nat→Nat→List Nat
 | 0,_=>[]
 | n+1,x=>x::orb m n ((x*5+1) % m)
theorem znD(m:Nat):∀a b x,it m (a+b) x=it m b (it m a x)
 | 0,b,x=>by rw[ψQ1];rfl
 | a+1,b,x=>by rw[Nat.succ_add];exact znD m a b _
theorem znm{m j:Nat}:∀{n x},j∈orb m n x→∃k,k<n∧it m k x=j
 | 0,x,h=>by simp[orb] at h
 | n+1,x,h=>by
  rcases List.mem_cons.mp h with rfl | h
  ·exact⟨0,Nat.succ_pos _,rfl⟩
  ·obtain⟨k,h1,h2⟩:=znm h
   exact⟨k+1,by (first|lia|omega),h2⟩
def Msk(M:Nat):Prop:=M=7∨M=31∨M=127∨M=511
theorem zvw{M:Nat}(h:Msk M):(∀j,j<M+1→j∈orb (M+1) (M+1) 0)∧it (M+1) (M+1) 0=0:=by
 have key:∀m,((ψi1 m).all λj=>(orb m m 0).contains j)=true→∀j,j<m→j∈orb m m 0:=λm e j hj=>by
  have:=List.all_eq_true.mp e j (List.mem_range.mpr hj)
  simpa using this
 rcases h with rfl | rfl | rfl | rfl
 ·exact⟨key 8 (by decide +kernel),by decide +kernel⟩
 ·exact⟨key 32 (by decide +kernel),by decide +kernel⟩
 ·exact⟨key 128 (by decide +kernel),by decide +kernel⟩
 ·exact⟨key 512 (by decide +kernel),by decide +kernel⟩
theorem zyP{M:Nat}(h:Msk M){x j:Nat}(hx:x<M+1)(hj:j<M+1):∃n,n<M+1∧it (M+1) n x=j:=by
 obtain⟨h1,h2⟩:=zvw h
 obtain⟨a,a1,rfl⟩:=znm (h1 x hx)
 obtain⟨b,b1,rfl⟩:=znm (h1 j hj)
 by_cases c:a≤b
 ·exact⟨b - a,by (first|lia|omega),by rw[← znD,Nat.add_sub_cancel' c]⟩
 ·refine⟨M+1 - a+b,by (first|lia|omega),?_⟩
  rw[← znD,show a+(M+1 - a+b)=(M+1)+b by (first|lia|omega),znD,h2]
def lp(M:Nat):Nat→Nat×Nat→Nat×Nat
 | 0,s=>s
 | n+1,s=>lp M n (SetTable.leap M s.1 s.2)
theorem zud(M:Nat):∀a b s,lp M (a+b) s=lp M b (lp M a s)
 | 0,b,s=>by rw[ψQ1];rfl
 | a+1,b,s=>by rw[Nat.succ_add];exact zud M a b _
theorem ztX(M:Nat):∀n s,(lp M n s).2=s.2 / 32 ^ n
 | 0,s=>by simp[lp]
 | n+1,s=>by
  show(lp M n _).2=_
  rw[ztX M n,SetTable.leap,Nat.div_div_eq_div_mul,Nat.pow_succ,Nat.mul_comm]
theorem zxa(M:Nat):∀n s,s.1<M+1→(lp M n s).1<M+1
 | 0,s,h=>h
 | n+1,s,h=>zxa M n _ (Nat.mod_lt _ (Nat.succ_pos _))
theorem zqs(M:Nat):∀n x,(lp M n (x,0)).1=it (M+1) n x
 | 0,x=>rfl
 | n+1,x=>by
  show(lp M n ((x*5+1+0 / 32) % (M+1),0 / 32)).1=it (M+1) n ((x*5+1) % (M+1))
  rw[Nat.zero_div,Nat.add_zero,zqs M n]
theorem zuk{M:Nat}(h:Msk M){x p j:Nat}(hx:x<M+1)(hp:p<2 ^ 64)(hj:j<M+1):∃n,n≤M+13∧(lp M n (x,p)).1=j:=by
 have e:lp M 13 (x,p)=((lp M 13 (x,p)).1,0):=by
  refine Prod.ext rfl ?_
  rw[ztX]
  exact Nat.div_eq_of_lt (ψG1 hp (by decide))
 obtain⟨n,n1,n2⟩:=zyP h (zxa M 13 (x,p) hx) hj
 refine⟨13+n,by (first|lia|omega),?_⟩
 rw[zud,e,zqs]
 exact n2
theorem zqT(h:Int):SetTable.bits h<2 ^ 64:=by
 unfold SetTable.bits
 have:=ψt1 h (show(0:Int)<2 ^ 64 by decide)
 have:=ψK1 h (show(2 ^ 64:Int)≠0 by decide)
 (first|lia|omega)
def zkt(t:SetTable)(s:Nat×Nat):SetTable.Probe:={ j:=s.1,more:=SetTable.runEnd t.mask s.1 - s.1,i:=s.1,perturb:=s.2,dummy:=none }
def adv(t:SetTable):Nat→SetTable.Probe→SetTable.Probe
 | 0,p=>p
 | n+1,p=>adv t n (t.advance p)
theorem zpX(t:SetTable):∀a b p,adv t (a+b) p=adv t b (adv t a p)
 | 0,b,p=>by rw[ψQ1];rfl
 | a+1,b,p=>by rw[Nat.succ_add];exact zpX t a b _
theorem zp9(t:SetTable):∀k j i q,adv t (k+1) { j:=j,more:=k,i:=i,perturb:=q,dummy:=none }=zkt t (SetTable.leap t.mask i q)
 | 0,j,i,q=>by simp[adv,SetTable.advance,zkt]
 | k+1,j,i,q=>by
  show adv t (k+1) (t.advance _)=_
  rw[show t.advance { j:=j,more:=k+1,i:=i,perturb:=q,dummy:=none }={ j:=j+1,more:=k,i:=i,perturb:=q,dummy:=none } by simp[SetTable.advance]]
  exact zp9 t k (j+1) i q
def Reach(t:SetTable)(n:Nat)(p:SetTable.Probe):Prop:=∃r,r≤n∧t.slot (adv t r p).j=.empty
theorem zn2{t:SetTable}:∀{n s},t.slot (lp t.mask n s).1=.empty→Reach t (10*n) (zkt t s)
 | 0,s,h=>⟨0,ψh _,h⟩
 | n+1,s,h=>by
  obtain⟨r,r1,r2⟩:=zn2 (n:=n) (s:=SetTable.leap t.mask s.1 s.2) h
  have hm:SetTable.runEnd t.mask s.1 - s.1≤9:=by unfold SetTable.runEnd;split <;> (first|lia|omega)
  refine⟨SetTable.runEnd t.mask s.1 - s.1+1+r,by (first|lia|omega),?_⟩
  rw[zpX,zkt,zp9]
  exact r2
theorem ztY:∀(m:Nat) (l:List Nat),(∀j,j<m→j∈l)→m≤l.length
 | 0,l,h=>ψr1 _
 | m+1,l,h=>by
  have hm:=h m (ψF1 m)
  have:=ztY m (l.erase m) λj hj=>(List.mem_erase_of_ne (by (first|lia|omega))).mpr (h j (by (first|lia|omega)))
  rw[List.length_erase_of_mem hm] at this
  have:0<l.length:=List.length_pos_of_mem hm
  (first|lia|omega)
theorem slot_cases{t:SetTable}(hd:t.dummies=#[])(j:Nat):t.slot j=.empty∨∃i,t.slot j=.live i∧t.place[i]?=some j:=by
 unfold SetTable.slot
 rw[hd]
 by_cases c:(t.place[SetTable.below t.place j]? == some j)=true
 ·exact .inr ⟨_,by rw[if_pos c],by simpa using c⟩
 ·left
  rw[if_neg c]
  simp[SetTable.has]
theorem zoH{t:SetTable}(hd:t.dummies=#[])(hl:t.place.size<t.mask+1):∃j,j<t.mask+1∧t.slot j=.empty:=by
 refine ψY λhn=>?_
 have:=ztY (t.mask+1) t.place.toList λj hj=>by
  rcases slot_cases hd j with h | ⟨i,_,h⟩
  ·exact absurd ⟨j,hj,h⟩ hn
  ·rw[← Array.getElem?_toList] at h
   exact ψM h
 rw[Array.length_toList] at this
 (first|lia|omega)
theorem reach_start{t:SetTable}(hM:Msk t.mask)(hd:t.dummies=#[])(hl:t.place.size<t.mask+1)(h:Int):Reach t (10*(t.mask+13)) (t.probeStart h):=by
 obtain⟨j,j1,j2⟩:=zoH hd hl
 obtain⟨n,n1,n2⟩:=zuk hM (x:=SetTable.bits h % (t.mask+1)) (Nat.mod_lt _ (Nat.succ_pos _)) (zqT h) j1
 obtain⟨r,r1,r2⟩:=zn2 (t:=t) (n:=n) (s:=(SetTable.bits h % (t.mask+1),SetTable.bits h)) (by rw[n2];exact j2)
 exact⟨r,by (first|lia|omega),r2⟩
theorem adv_dummy(t:SetTable)(p:SetTable.Probe):(t.advance p).dummy=p.dummy:=by
 unfold SetTable.advance
 split
 ·rfl
 ·rfl
theorem zmb{M:Nat}{ow:Array (Option Nat)}:∀(fuel i p n:Nat),n<fuel→ow.getD (lp M n (i,p)).1 (some 0)=none→∃j,SetTable.layClean.free M ow fuel i p=some j∧ow.getD j (some 0)=none
 | 0,i,p,n,h,_=>by (first|lia|omega)
 | fuel+1,i,p,n,h,e=>by
  rw[SetTable.layClean.free]
  cases c:(ψi1 (SetTable.runEnd M i+1 - i)).find? λk=>(ow.getD (i+k) (some 0)).isNone with
  | some k =>
   have:=List.find?_some c
   exact⟨i+k,rfl,by simpa using this⟩
  | none =>
   match n,h,e with
   | 0,_,e =>
    have:=List.find?_eq_none.mp c 0 (List.mem_range.mpr (by unfold SetTable.runEnd;split <;> (first|lia|omega)))
    rw[Nat.add_zero,show ow.getD i (some 0)=none from e] at this
    simp at this
   | n+1,h,e=>exact zmb fuel _ _ n (by (first|lia|omega)) e
def Own(M:Nat)(ow:Array (Option Nat))(k:Nat):Prop:=ow.size=M+1∧ow.toList.countP Option.isSome=k∧∀v,some v∈ow.toList→v<k
theorem getD_lt{ow:Array (Option Nat)}{j:Nat}(h:ow.getD j (some 0)=none):∃hj:j<ow.size,ow[j]=none:=by
 by_cases c:j<ow.size
 ·exact⟨c,by simpa [Array.getD,c] using h⟩
 ·simp[Array.getD,c] at h
theorem zsU{M:Nat}(hM:Msk M){ow:Array (Option Nat)}{k:Nat}(o:Own M ow k)(hk:k<M+1)(h:Int):∃j,SetTable.layClean.free M ow (SetTable.turns M) (SetTable.bits h % (M+1)) (SetTable.bits h)=some j∧Own M (ow.setIfInBounds j (some k)) (k+1):=by
 obtain⟨o1,o2,o3⟩:=o
 have ex:∃j,j<M+1∧ow.getD j (some 0)=none:=by
  refine ψY λhn=>?_
  have:ow.toList.countP Option.isSome=ow.toList.length:=by
   rw[List.countP_eq_length]
   intro v hv
   cases v with
   | some v=>rfl
   | none =>
    obtain⟨j,hj,e⟩:=List.mem_iff_getElem.mp hv
    rw[Array.length_toList] at hj
    exact absurd ⟨j,by (first|lia|omega),by simpa [Array.getD,hj] using e⟩ hn
  rw[Array.length_toList] at this
  (first|lia|omega)
 obtain⟨j,j1,j2⟩:=ex
 obtain⟨n,n1,n2⟩:=zuk hM (x:=SetTable.bits h % (M+1)) (Nat.mod_lt _ (Nat.succ_pos _)) (zqT h) j1
 obtain⟨j',f1,f2⟩:=zmb (M:=M) (ow:=ow) (SetTable.turns M) _ _ n (by unfold SetTable.turns;(first|lia|omega)) (by rw[n2];exact j2)
 obtain⟨hj,ej⟩:=getD_lt f2
 refine⟨j',f1,by simpa using o1,?_,?_⟩
 ·rw[Array.toList_setIfInBounds,List.countP_set (by simpa using hj)]
  rw[show ow.toList[j']=none from by simpa using ej,o2]
  simp
 ·intro v hv
  rw[Array.toList_setIfInBounds] at hv
  rcases List.mem_or_eq_of_mem_set hv with hv | hv
  ·exact ψO1 (o3 v hv)
  ·cases hv;exact ψF1 _
theorem fold_ok{M:Nat}(hM:Msk M):∀(hs:List Int) (ow:Array (Option Nat)) (k:Nat),Own M ow k→k+hs.length<M+1 →
  ∃ow',(hs.foldl (λ(acc:Option (Array (Option Nat)×Nat)) h=>do
   let (owner,k) ← acc
   let j ← SetTable.layClean.free M owner (SetTable.turns M) (SetTable.bits h % (M+1)) (SetTable.bits h)
   pure (owner.setIfInBounds j (some k),k+1)) (some (ow,k)))=some (ow',k+hs.length)∧Own M ow' (k+hs.length)
 | [],ow,k,o,_=>⟨ow,rfl,o⟩
 | h::hs,ow,k,o,hl=>by
  rw[ψQ] at hl
  obtain⟨j,e1,e2⟩:=zsU hM o (by (first|lia|omega)) h
  obtain⟨ow',a,b⟩:=fold_ok hM hs _ _ e2 (by (first|lia|omega))
  refine⟨ow',?_,by rw[ψQ,show k+(hs.length+1)=k+1+hs.length by (first|lia|omega)];exact b⟩
  rw[List.foldl_cons,ψQ,show k+(hs.length+1)=k+1+hs.length by (first|lia|omega),← a]
  simp[e1]
theorem relaid_ok{t:SetTable}{hs:Array Int}{wanted:Nat}(hM:Msk (SetTable.sizeAbove wanted - 1))(hl:hs.size<SetTable.sizeAbove wanted - 1+1) :
  ∃t' ord,t.relaid hs wanted=some (t',ord)∧t'.mask=SetTable.sizeAbove wanted - 1∧t'.dummies=#[]∧t'.place.size=hs.size∧t'.led=t.led∧ord.size=hs.size∧∀v∈ord.toList,v<hs.size:=by
 obtain⟨ow,a,o1,o2,o3⟩:=fold_ok hM hs.toList (Array.replicate (SetTable.sizeAbove wanted - 1+1) none) 0 ⟨by simp,by simp[List.countP_replicate],by simp⟩ (by simpa using hl)
 rw[ψQ1,Array.length_toList] at o2 o3
 unfold SetTable.relaid SetTable.laid SetTable.layClean
 rw[← Array.foldl_toList,a]
 have len:((ψi1 (SetTable.sizeAbove wanted - 1+1)).filterMap λj=>(ow.getD j none).map (j,·)).length=hs.size:=by
  rw[List.length_filterMap_eq_countP,← o2,← o1]
  have:ow.toList=(ψi1 ow.size).map λj=>ow.getD j none:=by
   apply List.ext_getElem
   ·simp
   ·intro i h1 h2
    simp at h1
    simp[Array.getD,h1]
  rw[this,List.countP_map]
  congr 1
  funext j
  simp
 refine⟨_,_,rfl,rfl,rfl,by simpa using len,rfl,by simpa using len,λv hv=>?_⟩
 rw[List.toList_toArray,List.mem_map] at hv
 obtain⟨⟨j,v'⟩,hm,rfl⟩:=hv
 obtain⟨j',_,e⟩:=List.mem_filterMap.mp hm
 refine o3 v' ?_
 cases c:ow.getD j' none with
 | none=>rw[c] at e;simp at e
 | some u =>
  rw[c] at e
  simp at e
  have:j'<ow.size:=by
   refine ψY λhn=>?_
   simp[Array.getD,hn] at c
  rw[← e.2,← c]
  simp[Array.getD,this]
end L2.St
namespace L2.St
open PySem
section
variable {P:Program} {w:World} {A:Around} {E:Value→Shared→Prop} {s:Shared}
end
end L2.St
namespace L2.St
open PySem
theorem ins_size{α:Type}(xs:Array α)(p:Nat)(x:α):(SetTable.insertAt xs p x).size=xs.size+1:=by
 unfold SetTable.insertAt
 simp only[Array.size_append,Array.size_push,Array.size_extract]
 (first|lia|omega)
theorem put_ok{t:SetTable}{j:Nat}(hd:t.dummies=#[]):(t.put j).1.dummies=#[]∧(t.put j).1.place.size=t.place.size+1∧(t.put j).1.mask=t.mask:=by
 unfold SetTable.put
 refine⟨?_,ins_size _ _ _,rfl⟩
 dsimp only
 rw[hd]
 simp[SetTable.has]
section
variable {P:Program} {w:World} {A:Around} {E:Value→Shared→Prop} {s:Shared}
theorem grow{M n:Nat}(hM:Msk M)(h1:n*5<M*3)(h2:(n+1)*5≥M*3)(hz:n<300):Msk (SetTable.sizeAbove (SetTable.grown (n+1)) - 1)∧(n+1)*5<(SetTable.sizeAbove (SetTable.grown (n+1)) - 1)*3∧¬ SetTable.sizeAbove (SetTable.grown (n+1)) > sizeLine:=by
 rcases hM with rfl | rfl | rfl | rfl
 ·obtain rfl:n=4:=by (first|lia|omega)
  exact⟨.inr (.inl rfl),by decide,by decide⟩
 ·obtain rfl:n=18:=by (first|lia|omega)
  exact⟨.inr (.inr (.inl rfl)),by decide,by decide⟩
 ·obtain rfl:n=76:=by (first|lia|omega)
  exact⟨.inr (.inr (.inr rfl)),by decide,by decide⟩
 ·(first|lia|omega)
theorem lay_self{h:Heap}{S:Addr}{es es':Array (Int×Value)}{ep:Nat}{t t':SetTable}(T:h.get? S=some { cls:=.type "set",dict:=none,data:=.set es ep t,slots:=#[] }) :
  (h.update S (Obj.putSet es' t')).get? S=some { cls:=.type "set",dict:=none,data:=.set es' (ep+1) t',slots:=#[] }:=by
 have:=Heap.get?_update_self (Obj.putSet es' t') T (by rw[putSet_of es' t' rfl];rfl)
 rw[putSet_of es' t' rfl] at this;exact this
end
end L2.St
namespace L2.St
open PySem PySem.Spec
def kk(key:Nat→List Int)(ad:Nat→Addr):Nat→List (List Int×Addr)
 | 0=>[]
 | i+1=>(key i,ad i)::kk key ad i
section
variable {P:Program} {w:World} {A:Around} {E:Value→Shared→Prop} {s:Shared}
end
end L2.St
namespace L2
open PySem PySem.Spec PyProof.Rows
section
variable {X:Cx} {pins:List (Addr×Obj)} {s:Shared} {σ:St} {H:Hp}
variable {e:Expr} {t:TA} {p1 p2 pos1 pos2:Pos}
end
end L2
namespace L2
open PySem PySem.Spec PyProof.Rows
section
variable {X:Cx} {CX:CXT} {k:Nat} {f:Addr} {fd:FuncData} {ps:List Str} {sp:Sp} {E:St→XK} {pos:Pos} {fe e:Expr} {es:List Expr} {tf:TE} {t:TA}
def zgs(K:ψa):List V→Hp→VK→Prop:=λxs H Q=>∃(a tp:Addr) (cs:List V) (c:Value) (od:Option Addr) (cvs:List Value) (b:Bool),xs=[.ref a,.ref tp]∧H a=some (zgE a c od)∧zfS K c∧SqT K H tp cs∧ztD cs=some cvs∧PySem.W.kitAny K c cvs=some b∧Q (.bl b) H
theorem zga:zh7 X (.builtin "isinstance") (zgs X.K):=by
 intro pins s σ H xs us Q I r h
 obtain⟨a,tp,cs,c,od,cvs,b,rfl,ha,k,ht,hc,e,q⟩:=h
 obtain⟨u,w',rfl,rx,rw'⟩:=zso r
 cases rx
 cases rw'
 obtain⟨p',_,_⟩:=(show zc7 X.prog X.w H s.heap a (zgE a c od) from I.hok a _ ha)
 have p:=zlr.is p'
 obtain⟨ws,rv,⟨⟨cls,dd,data,sl⟩,e1,e2,n,e3⟩,_⟩:=I.tuple ht
 obtain rfl:=zlE rv hc
 simp only at e2 e3
 subst e2 e3
 exact PySem.W.kia_tup (k.kit a) I.kIn p e1 e (λz=>nomatch z) λtk=>⟨.bl b,H,I.tok tk,rfl,q⟩
end
end L2
namespace L2.Sw
open PySem PySem.Spec PyProof.Rows
theorem zhn:Slot "set_iterator" "__next__" "set_iterator.__next__":=by
 refine .of (owner:="set_iterator") (n:="__next__") (by rw[typeLookup_type,builtinLookup_eq_fast];kernel_rfl) ?_ ?_ ?_ ?_ (by rw[isSubtype_type];kernel_rfl)
 ·decide +kernel
 ·decide +kernel
 ·decide +kernel
 ·first | exact .inl (by decide +kernel) | exact .inr (by decide +kernel)
theorem zqL:Slot "set_iterator" "__iter__" "set_iterator.__iter__":=by
 refine .of (owner:="set_iterator") (n:="__iter__") (by rw[typeLookup_type,builtinLookup_eq_fast];kernel_rfl) ?_ ?_ ?_ ?_ (by rw[isSubtype_type];kernel_rfl)
 ·decide +kernel
 ·decide +kernel
 ·decide +kernel
 ·first | exact .inl (by decide +kernel) | exact .inr (by decide +kernel)
theorem zqX:entryFor table "set_iterator.__next__"=some Builtin.«set_iterator.__next__»:=entryFor_of_tree (by kernel_rfl)
theorem zxh:Manifest.owners.lookup (String.ofList "rotareti_tes".toList.reverse)=some Manifest.sig_set_iterator:=by kernel_rfl
theorem zpN(v:Value):argsOk "set_iterator.__next__" ⟨[v],[]⟩:=by
 unfold argsOk
 rw[signature?_of (id:="set_iterator.__next__") (n:="__txen__".toList) (o:="rotareti_tes".toList) (by kernel_rfl) zxh]
 kernel_rfl
theorem zvm:entryFor table "set.__iter__"=some Builtin.«frozenset.__iter__»:=entryFor_alias (id':="frozenset.__iter__") (by kernel_rfl) rfl (by decide +kernel) (by kernel_rfl)
theorem ztH:entryFor table "set_iterator.__iter__"=some Builtin.«dict_keyiterator.__iter__»:=entryFor_alias (id':="dict_keyiterator.__iter__") (by kernel_rfl) rfl (by decide +kernel) (by kernel_rfl)
theorem ztM(v:Value):argsOk "set_iterator.__iter__" ⟨[v],[]⟩:=by
 unfold argsOk
 rw[signature?_of (id:="set_iterator.__iter__") (n:="__reti__".toList) (o:="rotareti_tes".toList) (by kernel_rfl) zxh]
 kernel_rfl
def SI(h:Heap)(it S:Addr)(slot i n ep:Nat):Prop:=∃o,h.get? it=some o∧o.cls=.type "set_iterator"∧o.data=.fields #[rawInt slot,rawInt i,.ref S,rawInt n,rawInt ep]
def SO(h:Heap)(S:Addr)(es:Array (Int×Value))(ep:Nat)(t:SetTable):Prop:=h.get? S=some { cls:=.type "set",dict:=none,data:=.set es ep t,slots:=#[] }
section
variable {P:Program} {w:World} {A:Around} {E:Value→Shared→Prop} {s:Shared} {it S:Addr} {es:Array (Int×Value)} {ep:Nat} {t:SetTable} {slot i:Nat}
theorem SI.ty(x:SI s.heap it S slot i es.size ep):s.TypeIs (.ref it) "set_iterator":=let ⟨o,ho,hc,_⟩:=x;⟨o,ho,hc⟩
theorem SO.ty(x:SO s.heap S es ep t):s.TypeIs (.ref S) "set":=⟨_,x,rfl⟩
theorem zgd{Q:(Array (Int×Value)×Nat×SetTable)→Shared→Prop}(x:SO s.heap S es ep t)(f:t.fits es.size=true)(q:Q (es,ep,t) s):wpAny (model P w) A (setState S) Q E s :=
 wpAny_setState_of x rfl f q
theorem zqB{v:Value}{B:Nat→Prop}{Q:Option Value→Shared→Prop}(hi:SI s.heap it S slot i es.size ep)(x:SO s.heap S es ep t)(f:t.fits es.size=true)
  (nx:∀(A':Around) (E':Value→Shared→Prop) (Q':Option (Value×Nat)→Shared→Prop),(∀slot',B slot'→Q' (some (v,slot')) s)→wpAny (model P w) A' (setNext S slot i ep) Q' E' s)
  (q:∀slot' h',B slot'→SI h' it S slot' (i+1) es.size ep→Heap.SameBut it s.heap h'→Q (some v) { s with heap:=h' }) :
  wpAny (model P w) A (pyNext (.ref it)) Q E s:=by
 obtain⟨o,ho,hc,hd⟩:=id hi
 unfold pyNext
 refine wpAny_bind (wpAny_attempt (wpAny_callSpecial?_slot (name:=Str.ofString "__next__") hi.ty zhn (wpAny_call_entry zhn hi.ty zqX ?_ (zpN _))))
 unfold Builtin.«set_iterator.__next__»;refine wpAny_bind (wpAny_of_eq (a:=(Value.ref it,[])) rfl ?_);refine wpAny_bind (wpAny_fieldsOf ho hd ?_)
 show wpAny _ _ (setEntries S >>= _) _ _ s
 refine wpAny_bind (wpAny_setEntries_of x rfl f ?_)
 dsimp only
 rw[if_neg (by simp)]
 refine wpAny_bind (nx _ _ _ λslot' hB=>?_)
 show wpAny _ _ (setField (.ref it) 0 (rawInt slot') >>= _) _ _ s;refine wpAny_bind (wpAny_setField ho hd (by simp) ?_)
 have g1:=Heap.get?_update_self (Obj.mapFields (·.setIfInBounds 0 (rawInt slot'))) ho (Obj.isFreed_of_fields (Obj.data_mapFields hd _))
 have d1:=Obj.data_mapFields hd (·.setIfInBounds 0 (rawInt slot'))
 refine wpAny_bind (wpAny_setField g1 d1 (by simp) ?_)
 refine wpAny_pure ⟨v,rfl,wpAny_pure (q slot' _ hB ⟨_,Heap.get?_update_self _ g1 (Obj.isFreed_of_fields (Obj.data_mapFields d1 _)),?_,?_⟩ ?_)⟩
 ·rw[Obj.cls_mapFields,Obj.cls_mapFields]
  exact hc
 ·rw[Obj.data_mapFields d1]
  simp[rawInt]
 ·exact(Heap.SameBut.update ..).trans (Heap.SameBut.update ..)
theorem zte{Q:Option Value→Shared→Prop}(hh:A.handled=none)(hi:SI s.heap it S slot i es.size ep)(x:SO s.heap S es ep t)(f:t.fits es.size=true)
  (nx:∀(A':Around) (E':Value→Shared→Prop) (Q':Option (Value×Nat)→Shared→Prop),Q' none s→wpAny (model P w) A' (setNext S slot i ep) Q' E' s)
  (q:∀h',Heap.ExtBut it s.heap h'→Q none { s with heap:=h' }) :
  wpAny (model P w) A (pyNext (.ref it)) Q E s:=by
 obtain⟨o,ho,hc,hd⟩:=id hi
 unfold pyNext
 refine wpAny_bind (wpAny_attempt (wpAny_callSpecial?_slot (name:=Str.ofString "__next__") hi.ty zhn (wpAny_call_entry zhn hi.ty zqX ?_ (zpN _))))
 unfold Builtin.«set_iterator.__next__»;refine wpAny_bind (wpAny_of_eq (a:=(Value.ref it,[])) rfl ?_);refine wpAny_bind (wpAny_fieldsOf ho hd ?_)
 show wpAny _ _ (setEntries S >>= _) _ _ s
 refine wpAny_bind (wpAny_setEntries_of x rfl f ?_)
 dsimp only
 rw[if_neg (by simp)]
 refine wpAny_bind (nx _ _ _ ?_);show wpAny _ _ (setField (.ref it) 2 .none >>= _) _ _ s;refine wpAny_bind (wpAny_setField ho hd (by simp) ?_)
 refine wpAny_bind ?_
 simp only[newExc,newTuple]
 refine wpAny_bind (wpAny_newObj_type ?_ (by size_fits));refine wpAny_bind (m:=firstArgMember _ _) (wpAny_of_eq (a:=Value.none) (by first | rfl | (simp only[firstArgMember];rfl)) ?_);refine wpAny_newObj_type ?_ (by size_fits)
 simp only[raiseNew];refine wpAny_bind (wpAny_handled ?_);first | rw[show A.in1.handled=none from hh] | rw[hh]
 refine wpAny_bind (wpAny_pure (wpAny_throw ?_));refine wpAny_bind (wpAny_isInstance (T:="StopIteration") (b:=true) ⟨_,Heap.get?_push_size _ rfl,rfl⟩ isSubtype_stop ?_)
 exact wpAny_pure (q _ (((Heap.SameBut.update ..).extBut.push _).push _))
theorem zqA{Q:Value→Shared→Prop}(hi:SI s.heap it S slot i es.size ep)(q:Q (.ref it) s):wpAny (model P w) A (pyIter (.ref it)) Q E s:=by
 refine wpAny_pyIter_slot hi.ty zqL (wpAny_call_entry zqL hi.ty ztH ?_ (ztM _))
 show wpAny _ _ (ret (.ref it)) _ _ s;exact wpAny_pure ⟨_,rfl,"set_iterator",_,hi.ty,zhn.lookup,q⟩
theorem zsX{Q:Value→Shared→Prop}(x:SO s.heap S es ep t)(f:t.fits es.size=true)(dr:∀(A':Around) (E':Value→Shared→Prop) (Q':Bool→Shared→Prop),Q' false s→wpAny (model P w) A' (setDrawn S) Q' E' s)
  (q:Q (.ref s.heap.objs.size) { s with heap:=s.heap.push { cls:=.type "set_iterator",data:=.fields #[rawInt 0,rawInt 0,.ref S,rawInt es.size,rawInt ep] } }) :
  wpAny (model P w) A (pyIter (.ref S)) Q E s:=by
 refine wpAny_pyIter_slot x.ty PySem.F.slot_set_iter (wpAny_call_entry PySem.F.slot_set_iter x.ty zvm ?_ (PySem.F.args_set_iter_1 _))
 unfold Builtin.«frozenset.__iter__»
 refine wpAny_bind (wpAny_of_eq (a:=S) rfl ?_)
 refine wpAny_bind (m:=Builtin.Frozenset.sizeOf S) ?_
 unfold Builtin.Frozenset.sizeOf
 refine wpAny_bind (wpAny_setEntries_of x rfl f (wpAny_pure ?_))
 refine wpAny_bind (dr _ _ _ ?_);simp only[Bool.false_eq_true,if_false];refine wpAny_bind (wpAny_pure ?_)
 refine wpAny_bind (wpAny_setEpoch_of x rfl f ?_)
 refine wpAny_bind (wpAny_newObj_type (wpAny_pure ⟨_,rfl,"set_iterator",_,⟨_,Heap.get?_push_size _ rfl,rfl⟩,zhn.lookup,q⟩))
theorem hint{Q:Bool→Shared→Prop}(x:SO s.heap S es ep t)(q:Q false s):wpAny (model P w) A (Builtin.List.listLengthHint (.ref S)) Q E s:=by
 unfold Builtin.List.listLengthHint;refine wpAny_bind (wpAny_specialOf x.ty PySem.F.slot_set_len.lookup ?_)
 generalize e:("set.__len__":String)=nm
 wp_delta
 rw[show splitId nm=some ("set","__len__") from by subst e;decide +kernel];subst e
 refine wpAny_bind (wpAny_isInstance (T:="set") (b:=true) x.ty (by rw[isSubtype_type];kernel_rfl) ?_)
 refine wpAny_ite_split (λz=>absurd z (by decide)) λ_=>wpAny_ite_split (λ_=>wpAny_bind (wpAny_typeOf x.ty (wpAny_pure q))) λz=>absurd (by decide +kernel) z
theorem zfX{Q:Bool→Shared→Prop}(q:Q (w.params.followText "set-order") s):wpAny (model P w) A setsByText Q E s:=by
 unfold setsByText
 exact wpAny_bind (wpAny_askSetting (wpAny_pure q))
theorem zm4{xs:Array Nat}{j:Nat}(h:xs.toList.Pairwise (·<·)):∀(fuel lo hi:Nat),hi - lo≤fuel→lo≤hi→hi≤xs.size→(∀(k v:Nat),xs[k]?=some v→k<lo→v<j)→(∀(k v:Nat),xs[k]?=some v→hi≤k→j≤v) →
  SetTable.below.go xs j fuel lo hi≤xs.size∧(∀(k v:Nat),xs[k]?=some v→k<SetTable.below.go xs j fuel lo hi→v<j)∧∀(k v:Nat),xs[k]?=some v→SetTable.below.go xs j fuel lo hi≤k→j≤v
 | 0,lo,hi,h1,h2,h3,h4,h5=>by
  have:lo=hi:=by (first|lia|omega)
  subst this
  exact⟨h3,h4,h5⟩
 | fuel+1,lo,hi,h1,h2,h3,h4,h5=>by
  have mono:∀{k m v u:Nat},xs[k]?=some v→xs[m]?=some u→k<m→v<u:=fun {k m v u} e1 e2 l=>by
   rw[← Array.getElem?_toList] at e1 e2
   obtain⟨l1,rfl⟩:=List.getElem?_eq_some_iff.mp e1
   obtain⟨l2,rfl⟩:=List.getElem?_eq_some_iff.mp e2
   exact List.pairwise_iff_getElem.mp h _ _ l1 l2 l
  unfold SetTable.below.go
  by_cases c:lo<hi
  ·rw[if_pos c]
   dsimp only
   have hm:(lo+hi) / 2<hi:=by (first|lia|omega)
   have hl:lo≤(lo+hi) / 2:=by (first|lia|omega)
   generalize (lo+hi) / 2=mid at hm hl ⊢
   have em:xs[mid]?=some xs[mid]:=Array.getElem?_eq_getElem (by (first|lia|omega))
   have eg:xs.getD mid j=xs[mid]:=by
    rw[Array.getD_eq_getD_getElem?,em]
    rfl
   rw[eg]
   by_cases d:xs[mid]<j
   ·rw[if_pos d]
    refine zm4 h fuel (mid+1) hi (by (first|lia|omega)) (by (first|lia|omega)) h3 (λk v e l=>?_) h5
    rcases Nat.lt_or_ge k mid with l' | l'
    ·exact ψG1 (mono e em l') d
    ·obtain rfl:k=mid:=by (first|lia|omega)
     rw[em] at e
     cases e
     exact d
   ·rw[if_neg d]
    refine zm4 h fuel lo mid (by (first|lia|omega)) hl (by (first|lia|omega)) h4 λk v e l=>?_
    rcases Nat.lt_or_ge mid k with l' | l'
    ·exact ψP1 (ψJ1 (Nat.le_of_not_lt d) (mono em e l'))
    ·obtain rfl:k=mid:=by (first|lia|omega)
     rw[em] at e
     cases e
     exact Nat.le_of_not_lt d
  ·rw[if_neg c]
   have:lo=hi:=by (first|lia|omega)
   subst this
   exact⟨h3,h4,h5⟩
theorem zgb{xs:Array Nat}(j:Nat)(h:xs.toList.Pairwise (·<·)):SetTable.below xs j≤xs.size∧(∀(k v:Nat),xs[k]?=some v→k<SetTable.below xs j→v<j)∧∀(k v:Nat),xs[k]?=some v→SetTable.below xs j≤k→j≤v :=
 zm4 h xs.size 0 xs.size (ψh _) (ψr1 _) (ψh _) (λ_ _ _ z=>absurd z (ψx1 _)) λk v e z=>absurd (Array.getElem?_eq_some_iff.mp e).1 (by (first|lia|omega))
theorem zpe{xs:Array Nat}{i j:Nat}(h:xs.toList.Pairwise (·<·))(e:xs[i]?=some j):SetTable.below xs (j+1)=i+1:=by
 obtain⟨h1,h2,h3⟩:=zgb (j+1) h
 have a1:¬ SetTable.below xs (j+1)≤i:=λz=>absurd (h3 i j e z) (by (first|lia|omega))
 have a2:¬ i+1<SetTable.below xs (j+1):=λz=>by
  have l:i+1<xs.size:=by (first|lia|omega)
  have e2:xs[i+1]?=some xs[i+1]:=Array.getElem?_eq_getElem l
  have u1:=h2 _ _ e2 z
  rw[← Array.getElem?_toList] at e e2
  obtain⟨l1,z1⟩:=List.getElem?_eq_some_iff.mp e
  obtain⟨l2,z2⟩:=List.getElem?_eq_some_iff.mp e2
  have u2:=List.pairwise_iff_getElem.mp h _ _ l1 l2 (ψF1 i)
  (first|lia|omega)
 (first|lia|omega)
theorem zpu{xs:Array Nat}(h:xs.toList.Pairwise (·<·)):SetTable.below xs 0=0:=by
 obtain⟨h1,h2,_⟩:=zgb 0 h
 rcases Nat.eq_zero_or_pos (SetTable.below xs 0) with z | z
 ·exact z
 ·exact absurd (h2 0 _ (Array.getElem?_eq_getElem (by (first|lia|omega))) z) (ψx1 _)
theorem zsW{xs:Array Nat}{j:Nat}(h:xs.toList.Pairwise (·<·))(n:j∉xs.toList):(SetTable.insertAt xs (SetTable.below xs j) j).toList.Pairwise (·<·):=by
 obtain⟨h1,h2,h3⟩:=zgb j h
 generalize SetTable.below xs j=p at h1 h2 h3 ⊢
 have e:(SetTable.insertAt xs p j).toList=xs.toList.take p++([j]++xs.toList.drop p):=by
  unfold SetTable.insertAt
  simp only[Array.toList_append,Array.toList_push,Array.toList_extract,List.extract_eq_drop_take,List.drop_zero,Nat.sub_zero,List.append_assoc]
  rw[ψT (l:=xs.toList.drop p) (by rw[ψD1,Array.length_toList];(first|lia|omega))]
 rw[e]
 have m1:∀v∈xs.toList.take p,v<j:=λv hv=>by
  obtain⟨k,ek⟩:=ψp hv
  rw[List.getElem?_take] at ek
  split at ek
  ·exact h2 k v (by rw[← Array.getElem?_toList];exact ek) (by assumption)
  ·cases ek
 have m2:∀v∈xs.toList.drop p,j<v:=λv hv=>by
  obtain⟨k,ek⟩:=ψp hv
  rw[List.getElem?_drop] at ek
  have:=h3 (p+k) v (by rw[← Array.getElem?_toList];exact ek) (by (first|lia|omega))
  have ne:v≠j:=λz=>n (z ▸ List.mem_of_mem_drop hv)
  (first|lia|omega)
 refine List.pairwise_append.mpr ⟨h.sublist (List.take_sublist _ _),List.pairwise_append.mpr ⟨List.pairwise_singleton _ _,h.sublist (List.drop_sublist _ _),λa ha b hb=>?_⟩,λa ha b hb=>?_⟩
 ·rw[List.mem_singleton.mp ha]
  exact m2 b hb
 ·rcases List.mem_append.mp hb with hb | hb
  ·rw[List.mem_singleton.mp hb]
   exact m1 a ha
  ·exact ψG1 (m1 a ha) (m2 b hb)
def Led(w:World)(t:SetTable):Prop:=w.params.followText "set-order"=true∨(t.led=true∧t.plain=true∧t.place.toList.Pairwise (·<·))
theorem zsN{Q:Bool→Shared→Prop}(x:SO s.heap S es ep t)(f:t.fits es.size=true)(l:Led w t)(q:Q false s):wpAny (model P w) A (setDrawn S) Q E s:=by
 unfold setDrawn
 refine wpAny_bind (zgd x f ?_)
 refine wpAny_bind (zfX (wpAny_pure ?_))
 have e:(!w.params.followText "set-order"&&(!t.plain&&decide (es.size > 1)))=false:=by
  rcases l with l | ⟨_,l,_⟩ <;> rw[l]
  ·rfl
  ·rw[Bool.not_true,Bool.false_and,Bool.and_false]
 exact(congrArg (λb=>Q b s) e).mpr q
def ord(w:World)(S:Addr)(es:Array (Int×Value))(ep:Nat):Array (Int×Value):=if w.params.followText "set-order"=true then pickOrder (w.params.setOrder S ep) es else es
theorem zuQ{Q:Option (Value×Nat)→Shared→Prop}{v:Value}(x:SO s.heap S es ep t)(f:t.fits es.size=true)(l:Led w t)(hs:w.params.followText "set-order"=true∨SetTable.below t.place slot=i)(hv:((ord w S es ep)[i]?).map (·.2)=some v)
  (q:∀slot',(w.params.followText "set-order"=true∨SetTable.below t.place slot'=i+1)→Q (some (v,slot')) s):wpAny (model P w) A (setNext S slot i ep) Q E s:=by
 unfold setNext
 refine wpAny_bind (zgd x f ?_)
 refine wpAny_bind (zfX ?_)
 by_cases tx:w.params.followText "set-order"=true
 ·rw[if_pos tx]
  dsimp only
  rw[if_neg (by simp)]
  refine wpAny_bind (m:=setWalk S) ?_
  unfold setWalk
  refine wpAny_bind (zgd x f (wpAny_bind (zfX ?_)))
  rw[if_pos tx]
  refine wpAny_bind (wpAny_askSetting (wpAny_pure (wpAny_pure ?_)))
  unfold ord at hv
  rw[if_pos tx] at hv
  obtain⟨e,e1,e2⟩:=Option.map_eq_some_iff.mp hv
  show Q (Option.map (λe=>(e.snd,slot)) (pickOrder (w.params.setOrder S ep) es)[i]?) s
  rw[e1]
  subst e2
  exact q slot (.inl tx)
 ·obtain⟨l1,l2,l3⟩:=l.resolve_left tx
  have hb:=hs.resolve_left tx
  rw[if_neg tx]
  dsimp only
  unfold ord at hv
  rw[if_neg tx] at hv
  obtain⟨e,e1,e2⟩:=Option.map_eq_some_iff.mp hv
  have hp:t.place.size=es.size:=by
   unfold SetTable.fits at f
   rw[ψL,beq_iff_eq] at f
   exact f.1
  have hi:=(Array.getElem?_eq_some_iff.mp e1).1
  have e3:t.place[i]?=some t.place[i]:=Array.getElem?_eq_getElem (by (first|lia|omega))
  show wpAny _ _ (if (!t.plain&&decide (es.size > 1))=true then _ else _) _ _ s
  rw[if_neg (by rw[l2];simp)]
  show wpAny _ _ ((if (!t.led&&!es.isEmpty)=true then unsupported "set:maker-not-led" else pure ()) >>= _) _ _ s
  rw[if_neg (by rw[l1];simp)];refine wpAny_bind (wpAny_pure (wpAny_pure ?_))
  show Q (match es[SetTable.below t.place slot]?,t.place[SetTable.below t.place slot]? with
      | some (_,y),some k=>some (y,k+1)
      | _,_=>none) s
  rw[hb,e1,e3]
  subst e2
  exact q _ (.inr (zpe l3 e3))
theorem zpO{Q:Option (Value×Nat)→Shared→Prop}(x:SO s.heap S es ep t)(f:t.fits es.size=true)(l:Led w t)(hs:w.params.followText "set-order"=true∨SetTable.below t.place slot=i)(hv:(ord w S es ep)[i]?=none)
  (q:Q none s):wpAny (model P w) A (setNext S slot i ep) Q E s:=by
 unfold setNext
 refine wpAny_bind (zgd x f ?_)
 refine wpAny_bind (zfX ?_)
 by_cases tx:w.params.followText "set-order"=true
 ·rw[if_pos tx]
  dsimp only
  rw[if_neg (by simp)]
  refine wpAny_bind (m:=setWalk S) ?_
  unfold setWalk
  refine wpAny_bind (zgd x f (wpAny_bind (zfX ?_)))
  rw[if_pos tx]
  refine wpAny_bind (wpAny_askSetting (wpAny_pure (wpAny_pure ?_)))
  unfold ord at hv
  rw[if_pos tx] at hv
  show Q (Option.map (λe=>(e.snd,slot)) (pickOrder (w.params.setOrder S ep) es)[i]?) s
  rw[hv]
  exact q
 ·obtain⟨l1,l2,l3⟩:=l.resolve_left tx
  have hb:=hs.resolve_left tx
  rw[if_neg tx]
  dsimp only
  unfold ord at hv
  rw[if_neg tx] at hv
  show wpAny _ _ (if (!t.plain&&decide (es.size > 1))=true then _ else _) _ _ s
  rw[if_neg (by rw[l2];simp)]
  show wpAny _ _ ((if (!t.led&&!es.isEmpty)=true then unsupported "set:maker-not-led" else pure ()) >>= _) _ _ s
  rw[if_neg (by rw[l1];simp)];refine wpAny_bind (wpAny_pure (wpAny_pure ?_))
  show Q (match es[SetTable.below t.place slot]?,t.place[SetTable.below t.place slot]? with
      | some (_,y),some k=>some (y,k+1)
      | _,_=>none) s
  rw[hb,hv]
  exact q
theorem zlV{α:Type}{next:Nat→Nat}:∀(fuel k:Nat) (left:List α) (out:Array α),left.length=fuel→(pickOrder.go next fuel k left out).toList.Perm (out.toList++left)
 | 0,k,left,out,e=>by
  rw[ψS e,List.append_nil]
  exact .refl _
 | fuel+1,k,left,out,e=>by
  have l:next k % left.length<left.length:=Nat.mod_lt _ (by (first|lia|omega))
  unfold pickOrder.go
  generalize next k % left.length=i at l ⊢
  rw[ψd l]
  refine(zlV fuel (k+1) (left.eraseIdx i) (out.push left[i]) (by rw[List.length_eraseIdx_of_lt l];(first|lia|omega))).trans ?_
  rw[Array.toList_push,List.append_assoc];refine List.Perm.append_left _ ?_
  rw[List.eraseIdx_eq_take_drop_succ]
  have e2:left=left.take i++left[i]::left.drop (i+1):=by rw[List.getElem_cons_drop,List.take_append_drop]
  exact(List.perm_middle (a:=left[i]) (l₁:=left.take i) (l₂:=left.drop (i+1))).symm.trans (.of_eq e2.symm)
theorem ord_perm:(ord w S es ep).toList.Perm es.toList:=by
 unfold ord
 split
 ·exact zlV _ _ _ _ (Array.length_toList ..)
 ·exact .refl _
theorem src(f:t.fits es.size=true)(l:Led w t):PySem.W.KdlSrc P w "set" S S es.size (λi v=>((ord w S es ep)[i]?).map (·.2)=some v) (λh=>SO h S es ep t) where
 type:=λs x=>x.ty
 there:=λh x=>⟨Heap.lt_size x,Heap.lt_size x⟩
 keep:=λh h' x k=>k S (.inl rfl) _ x
 notList:=by decide
 notTuple:=by decide
 hint:=λA E s Q x q=>hint x q
 iter:=λA s hh x=>by
  have hne:S≠s.heap.objs.size:=ψl (Heap.lt_size x)
  have osz:(ord w S es ep).size=es.size:=by rw[← Array.length_toList,ord_perm.length_eq,Array.length_toList]
  refine⟨_,λi h=>(∃slot,SI h s.heap.objs.size S slot i es.size ep∧(w.params.followText "set-order"=true∨SetTable.below t.place slot=i))∧SO h S es ep t,λE Q q=>zsX x f (λA' E' Q' q'=>zsN x f l q') q,?_,⟨0,⟨_,Heap.get?_push_size _ rfl,rfl,rfl⟩,?_⟩,Heap.get?_push_of_some _ x⟩
  ·exact {
    sub:=λb' hb'=>by rw[List.mem_singleton] at hb';rw[hb'];exact ψj
    frame:=λi h h' st hk=>⟨let ⟨slot,⟨o,ho,r⟩,b⟩:=st.1;⟨slot,⟨o,hk _ (by simp) o ho,r⟩,b⟩,hk S (by simp) _ st.2⟩
    item:=λi s' Q E hi st hQ=>by
     obtain⟨⟨slot,si,b⟩,so⟩:=st
     have e1:(ord w S es ep)[i]?=some (ord w S es ep)[i]:=Array.getElem?_eq_getElem (by (first|lia|omega))
     refine zqB si so f (λA' E' Q' q'=>zuQ (v:=(ord w S es ep)[i].2) so f l b (by rw[e1];rfl) q') λslot' h' hB si' sm=>?_
     refine hQ _ h' s'.toks (by rw[e1];rfl) ⟨⟨slot',si',hB⟩,?_⟩ λb' o hb e=>sm.extBut b' o (λz=>hb (by simp[z])) e
     exact sm.extBut S _ hne so
    done:=λs' Q E st hQ=>by
     obtain⟨⟨slot,si,b⟩,so⟩:=st
     exact zte hh si so f (λA' E' Q' q'=>zpO so f l b (Array.getElem?_eq_none (by (first|lia|omega))) q') λh' ex=>hQ h' s'.toks λb' o hb e=>ex b' o (λz=>hb (by simp[z])) e
    self:=λi s' Q E st hQ=>by
     obtain⟨⟨slot,si,b⟩,so⟩:=st
     exact zqA si hQ }
  ·rcases l with l | ⟨_,_,l⟩
   ·exact .inl l
   ·exact .inr (zpu l)
def vI:Value→Int
 | .int k _=>k
 | _=>0
structure SJ (P:Program) (w:World) (h:Heap) (S:Addr) (es:Array (Int×Value)) (ep:Nat) (t:SetTable) (ds:List Int):Prop where
 ob:SO h S es ep t
 pl:t.place.size=es.size
 dm:t.dummies=#[]
 ms:St.Msk t.mask
 lo:es.size*5<t.mask*3
 pn:t.plain=true
 ld:w.params.followText "set-order"=true∨t.led=true
 rs:t.place.toList.Pairwise (·<·)
 el:∀e∈es.toList,∃k tk,e=((intKind P w).hash k,Value.int k tk)
 ks:(es.toList.map λe=>vI e.2).Perm ds
theorem SJ.fits{h:Heap}{ds:List Int}(T:SJ P w h S es ep t ds):t.fits es.size=true:=by
 have:=T.lo
 simp only[SetTable.fits,SetTable.fill,T.pl,T.dm,ψL,beq_self_eq_true,decide_eq_true_eq,true_and]
 show es.size+0≤t.mask
 (first|lia|omega)
theorem SJ.led{h:Heap}{ds:List Int}(T:SJ P w h S es ep t ds):Led w t:=T.ld.elim .inl λl=>.inr ⟨l,T.pn,T.rs⟩
theorem SJ.elems{h:Heap}{ds:List Int}(T:SJ P w h S es ep t ds):ElemsOf (intKind P w) es.toList:=λe he=>by
 obtain⟨k,tk,rfl⟩:=T.el e he
 exact⟨⟨k,intKind_is _ _ _ _,rfl⟩,rfl⟩
theorem zrs{j:Nat}(hd:t.dummies=#[])(h:t.slot j=.empty)(l:t.place.toList.Pairwise (·<·)):j∉t.place.toList:=by
 intro hm
 obtain⟨i,ei⟩:=ψp hm
 rw[Array.getElem?_toList] at ei
 obtain⟨h1,h2,h3⟩:=zgb j l
 have a1:¬ i<SetTable.below t.place j:=λz=>absurd (h2 i j ei z) (ψf1 _)
 have a2:¬ SetTable.below t.place j<i:=λz=>by
  have hi:=(Array.getElem?_eq_some_iff.mp ei).1
  have e2:t.place[SetTable.below t.place j]?=some t.place[SetTable.below t.place j]:=Array.getElem?_eq_getElem (by (first|lia|omega))
  have u:=h3 _ _ e2 (ψh _)
  rw[← Array.getElem?_toList] at ei e2
  obtain⟨l1,z1⟩:=List.getElem?_eq_some_iff.mp ei
  obtain⟨l2,z2⟩:=List.getElem?_eq_some_iff.mp e2
  have u2:=List.pairwise_iff_getElem.mp l _ _ l2 l1 z
  (first|lia|omega)
 have:SetTable.below t.place j=i:=by (first|lia|omega)
 unfold SetTable.slot at h
 rw[this] at h
 dsimp only at h
 rw[ei,if_pos (by simp)] at h
 cases h
theorem zqY{x:Int}(hd:t.dummies=#[]):∀(n fuel:Nat) (p:SetTable.Probe),St.Reach t n p→n<fuel→p.dummy=none→∃j,SetTable.probe.go t (λ_=>x+1) x fuel p=some (.empty j none)∧t.slot j=.empty
 | n,0,p,_,hn,_=>by (first|lia|omega)
 | n,fuel+1,p,hr,hn,hp=>by
  rw[SetTable.probe.go]
  rcases St.slot_cases hd p.j with e | ⟨i,e,_⟩
  ·exact⟨p.j,by rw[e];simp[hp],e⟩
  ·obtain⟨r,r1,r2⟩:=hr
   match r,r1,r2 with
   | 0,r1,r2=>exact absurd (show t.slot p.j=.empty from r2) (by rw[e];simp)
   | r+1,r1,r2 =>
    obtain⟨j,a,b⟩:=zqY (x:=x) hd (n - 1) fuel (t.advance p) ⟨r,by (first|lia|omega),r2⟩ (by (first|lia|omega)) (by rw[St.adv_dummy,hp])
    have c:((x+1:Int) == x)=false:=by
     rw[Bool.eq_false_iff]
     intro z
     have:=eq_of_beq z
     (first|lia|omega)
    exact⟨j,by rw[e];simpa [c] using a,b⟩
theorem zuE{h:Heap}{ds:List Int}(T:SJ P w h S es ep t ds)(x:Int)(v:Value):∃(p:Nat) (t2:SetTable),layNew t es x v=(SetTable.insertAt es p (x,v),t2,false,false)∧t2.mask=t.mask∧t2.dummies=#[]∧t2.place.size=es.size+1∧t2.plain=true∧t2.led=t.led∧t2.place.toList.Pairwise (·<·):=by
 have lo:=T.lo
 have hl:t.place.size<t.mask+1:=by rw[T.pl];(first|lia|omega)
 have hr:=St.reach_start T.ms T.dm hl x
 have hf:∃j,t.freeSlot x=some (j,false)∧t.slot j=.empty:=by
  unfold SetTable.freeSlot SetTable.probe
  obtain⟨j,a,b⟩:=zqY (x:=x) T.dm _ (10*SetTable.turns t.mask) _ hr (by unfold SetTable.turns;(first|lia|omega)) rfl
  exact⟨j,by rw[a];rfl,b⟩
 obtain⟨j,e1,e2⟩:=hf
 obtain⟨a1,a2,a3⟩:=St.put_ok (t:=t) (j:=j) T.dm
 refine⟨SetTable.below t.place j,(t.put j).1,?_,a3,a1,by rw[a2,T.pl],T.pn,rfl,zsW T.rs (zrs T.dm e2 T.rs)⟩
 unfold layNew
 rw[e1]
 have fit:(t.put j).1.fits (SetTable.insertAt es (SetTable.below t.place j) (x,v)).size=true:=by
  simp only[SetTable.fits,SetTable.fill,a1,a2,a3,St.ins_size,T.pl,ψL,beq_self_eq_true,decide_eq_true_eq,true_and]
  show es.size+1+0≤t.mask
  (first|lia|omega)
 show((SetTable.insertAt es (SetTable.below t.place j) (x,v)),((t.put j).1.orStandIn (SetTable.insertAt es (SetTable.below t.place j) (x,v)).size),false,!((t.put j).1.fits (SetTable.insertAt es (SetTable.below t.place j) (x,v)).size))=_
 unfold SetTable.orStandIn
 rw[if_pos fit,fit]
 rfl
theorem zr9{α:Type}(xs:Array α)(p:Nat)(x:α):(SetTable.insertAt xs p x).toList.Perm (x::xs.toList):=by
 refine(SetTable.insertAt_perm xs p x).trans ?_
 rw[Array.toList_push]
 exact List.perm_append_comm
theorem zqV:∀(r l:List Nat),r.Nodup→(∀v∈r,v∈l)→l.length=r.length→l.Perm r
 | [],l,_,_,e=>by rw[ψS e]
 | a::r,l,n,h,e=>by
  have ha:=h a ψj
  rw[List.nodup_cons] at n
  refine(List.perm_cons_erase ha).trans (List.Perm.cons _ (zqV r (l.erase a) n.2 (λv hv=>?_) ?_))
  ·exact(List.mem_erase_of_ne (λ(z:v=a)=>n.1 (z ▸ hv))).mpr (h v (ψf _ hv))
  ·rw[List.length_erase_of_mem ha,e]
   rfl
theorem zl8{M:Nat}{ow:Array (Option Nat)}:∀(fuel i p j:Nat),SetTable.layClean.free M ow fuel i p=some j→ow.getD j (some 0)=none
 | 0,i,p,j,e=>by
  unfold SetTable.layClean.free at e
  cases e
 | fuel+1,i,p,j,e=>by
  unfold SetTable.layClean.free at e
  split at e
  ·rename_i k hk
   cases e
   have:=List.find?_some hk
   simpa using this
  ·exact zl8 fuel _ _ j e
theorem znM{M:Nat}:∀(hs:List Int) (ow ow':Array (Option Nat)) (k k':Nat),(∀v,v<k→some v∈ow.toList) →
  (hs.foldl (λ(acc:Option (Array (Option Nat)×Nat)) h=>do
   let (owner,k) ← acc
   let j ← SetTable.layClean.free M owner (SetTable.turns M) (SetTable.bits h % (M+1)) (SetTable.bits h)
   pure (owner.setIfInBounds j (some k),k+1)) (some (ow,k)))=some (ow',k')→∀v,v<k'→some v∈ow'.toList
 | [],ow,ow',k,k',h,e=>by
  cases e
  exact h
 | x::hs,ow,ow',k,k',h,e=>by
  rw[List.foldl_cons] at e
  cases c:SetTable.layClean.free M ow (SetTable.turns M) (SetTable.bits x % (M+1)) (SetTable.bits x) with
  | none =>
   simp only[c,Option.bind_eq_bind,Option.bind_some,Option.bind_none] at e
   exfalso
   have:∀l:List Int,(l.foldl (λ(acc:Option (Array (Option Nat)×Nat)) h=>acc.bind λq=>(SetTable.layClean.free M q.1 (SetTable.turns M) (SetTable.bits h % (M+1)) (SetTable.bits h)).bind λj=>pure (q.1.setIfInBounds j (some q.2),q.2+1)) none)=none:=λl=>by
    induction l with
    | nil=>rfl
    | cons y l ih=>rw[List.foldl_cons];exact ih
   have z:=(this hs).symm.trans e
   cases z
  | some j =>
   simp only[c,Option.bind_eq_bind,Option.bind_some] at e
   refine znM hs _ ow' _ k' (λv hv=>?_) e
   have nj:=zl8 _ _ _ _ c
   obtain⟨lj,gj⟩:=St.getD_lt nj
   rw[Array.toList_setIfInBounds]
   rcases Nat.lt_or_ge v k with l | l
   ·obtain⟨i,ei⟩:=ψp (h v l)
    have ne:j≠i:=λz=>by
     subst z
     rw[Array.getElem?_toList,Array.getElem?_eq_getElem lj,gj] at ei
     cases ei
    exact ψM (by rw[ψR1 ne];exact ei)
   ·obtain rfl:v=k:=by (first|lia|omega)
    exact ψM (ψN1 (by rw[Array.length_toList];exact lj))
theorem zsg{n:Nat}{t2:SetTable}{es2:Array (Int×Value)}(hM:St.Msk t2.mask)(hn:es2.size=n+1)(c1:n*5<t2.mask*3)(c2:(n+1)*5≥t2.mask*3)(hz:n<300)(pn:t2.plain=true) :
  ∃(es3:Array (Int×Value)) (t3:SetTable),relayAll t2 es2 (SetTable.grown es2.size)=(es3,t3,false)∧es3.toList.Perm es2.toList∧St.Msk t3.mask∧(n+1)*5<t3.mask*3∧t3.dummies=#[]∧t3.place.size=n+1∧t3.plain=true∧t3.led=t2.led∧t3.place.toList.Pairwise (·<·):=by
 obtain⟨g1,g2,g3⟩:=St.grow hM c1 c2 hz
 rw[← hn] at g1 g2
 obtain⟨t3,od,r1,r2,r3,r4,r5,r6,r7⟩:=St.relaid_ok (t:=t2) (hs:=es2.map (·.1)) g1 (by rw[Array.size_map];(first|lia|omega))
 rw[Array.size_map] at r4 r6 r7
 have key:t3.plain=true∧t3.place.toList.Pairwise (·<·)∧∀v,v<es2.size→v∈od.toList:=by
  have r:=r1
  obtain⟨ow,a,o1,o2,o3⟩:=St.fold_ok g1 (es2.map (·.1)).toList (Array.replicate (SetTable.sizeAbove (SetTable.grown es2.size) - 1+1) none) 0 ⟨by simp,by simp[List.countP_replicate],by simp⟩ (by simp;(first|lia|omega))
  have al:=znM _ _ _ _ _ (λv hv=>absurd hv (ψx1 v)) a
  rw[ψQ1,Array.length_toList,Array.size_map] at al
  unfold SetTable.relaid SetTable.laid SetTable.layClean at r
  rw[← Array.foldl_toList,a] at r
  simp only[Option.map_some,Option.bind_eq_bind,Option.bind_some] at r
  have r':=Option.some.inj r
  cases r'
  refine⟨pn,?_,λv hv=>?_⟩
  ·show(List.toArray _).toList.Pairwise (·<·)
   rw[List.toList_toArray,List.pairwise_map]
   refine List.Pairwise.filterMap _ (λa a' l b hb b' hb'=>?_) List.pairwise_lt_range
   obtain⟨u,_,rfl⟩:=Option.map_eq_some_iff.mp hb
   obtain⟨u',_,rfl⟩:=Option.map_eq_some_iff.mp hb'
   exact l
  ·rw[List.toList_toArray,List.mem_map]
   obtain⟨j,ej⟩:=ψp (al v hv)
   rw[Array.getElem?_toList] at ej
   have lj:=(Array.getElem?_eq_some_iff.mp ej).1
   refine⟨(j,v),List.mem_filterMap.mpr ⟨j,List.mem_range.mpr (by (first|lia|omega)),?_⟩,rfl⟩
   rw[Array.getD_eq_getD_getElem?,ej]
   rfl
 obtain⟨k1,k2,k3⟩:=key
 have pm:od.toList.Perm (ψi1 es2.size):=zqV _ _ List.nodup_range (λv hv=>k3 v (List.mem_range.mp hv)) (by rw[Array.length_toList,r6,List.length_range])
 have cv:coversAll od es2.size=true:=by
  unfold coversAll
  exact List.isPerm_iff.mpr pm
 have pe:(od.filterMap (es2[·]?)).toList.Perm es2.toList:=by
  rw[Array.toList_filterMap]
  refine(pm.filterMap _).trans (.of_eq (filterMap_getElem?_range es2))
 have sz:(od.filterMap (es2[·]?)).size=es2.size:=by rw[← Array.length_toList,pe.length_eq,Array.length_toList]
 have ft:t3.fits (od.filterMap (es2[·]?)).size=true:=by
  simp only[SetTable.fits,SetTable.fill,r3,r4,sz,ψL,beq_self_eq_true,decide_eq_true_eq,true_and]
  show es2.size+0≤t3.mask
  rw[r2]
  (first|lia|omega)
 refine⟨_,t3,?_,pe,by rw[r2];exact g1,by rw[r2,← hn];exact g2,r3,by rw[r4,hn],k1,r5,k2⟩
 unfold relayAll
 rw[r1]
 dsimp only
 rw[if_pos (by rw[cv,ft];rfl)]
theorem addJ{k:Int}{tk:Tok}{ds:List Int}{Q:Bool→Shared→Prop}(T:SJ P w s.heap S es ep t ds)(hz:es.size<300)
  (q:∀h' b es' ep' t',SJ P w h' S es' ep' t' (if k∈ds then ds else k::ds)→Heap.SameBut S s.heap h'→Q b { s with heap:=h' }) :
  wpAny (model P w) A (setAddHashed S (.int k tk) ((intKind P w).hash k)) Q E s:=by
 have bd:es.size<scanBound:=ψG1 hz (by decide);unfold setAddHashed setAddHashedIn
 refine wpAny_holding (wpAny_bind (zgd T.ob T.fits ?_))
 dsimp only
 rw[byScan_of (knd:=intKind P w) rfl bd T.elems,if_pos rfl]
 unfold setAddByScan
 refine wpAny_bind (wpAny_bind (wpAny_rule (wpAny_bind (wpAny_setScan_of (knd:=intKind P w) (intKind_is _ _ _ _) T.ob rfl T.fits T.elems ?_))))
 have mem:∀e∈es.toList,(intKind P w).is k e.2=true↔vI e.2=k:=λe he=>by
  obtain⟨k',tk',rfl⟩:=T.el e he
  simp only[intKind,Value.isInt,vI]
  exact beq_iff_eq
 have inD:k∈ds↔∃e∈es.toList,(intKind P w).is k e.2=true:=by
  rw[← T.ks.mem_iff,List.mem_map]
  exact⟨λ⟨e,h1,h2⟩=>⟨e,h1,(mem e h1).mpr h2⟩,λ⟨e,h1,h2⟩=>⟨e,h1,(mem e h1).mp h2⟩⟩
 cases hr:List.findIdx? (λe=>(intKind P w).is k e.2) es.toList with
 | some j =>
  obtain⟨hj,hp,_⟩:=List.findIdx?_eq_some_iff_getElem.mp hr
  have hk:k∈ds:=inD.mpr ⟨_,ψS1 hj,hp⟩
  rw[if_pos hk] at q
  exact wpAny_pure (wpAny_pure (q s.heap false es ep t T (Heap.SameBut.refl S s.heap)))
 | none =>
  have hk:k∉ds:=λz=>by
   obtain⟨e,h1,h2⟩:=inD.mp z
   rw[List.findIdx?_eq_none_iff.mp hr e h1] at h2
   cases h2
  rw[if_neg hk] at q
  obtain⟨p,t2,e1,m2,d2,p2,pn2,l2,r2⟩:=zuE T ((intKind P w).hash k) (.int k tk)
  dsimp only
  rw[e1]
  dsimp only
  have sz:(SetTable.insertAt es p ((intKind P w).hash k,Value.int k tk)).size=es.size+1:=St.ins_size _ _ _
  have pm:=zr9 es p ((intKind P w).hash k,Value.int k tk)
  generalize SetTable.insertAt es p ((intKind P w).hash k,Value.int k tk)=es2 at sz pm ⊢
  have zl:es.size+1≤sizeLine:=by rw[sizeLine_eq];(first|lia|omega)
  have fl:t2.fill=es.size+1:=by simp[SetTable.fill,d2,p2]
  have el2:∀e∈es2.toList,∃k tk,e=((intKind P w).hash k,Value.int k tk):=λe he=>by
   rcases List.mem_cons.mp (pm.mem_iff.mp he) with rfl | he
   ·exact⟨_,_,rfl⟩
   ·exact T.el e he
  have ks2:(es2.toList.map λe=>vI e.2).Perm (k::ds):=(pm.map _).trans (List.Perm.cons _ T.ks)
  have ld2:w.params.followText "set-order"=true∨t2.led=true:=by rw[l2];exact T.ld
  show wpAny _ _ (pure () >>= _) _ _ s;refine wpAny_bind (wpAny_pure ?_)
  rw[if_pos pn2,hashByValue_scannable 8 (x:=.int k tk) rfl];refine wpAny_bind (wpAny_pure ?_)
  dsimp only [plainKind]
  rw[if_pos rfl]
  refine wpAny_bind (wpAny_storeSet_of T.ob rfl ?_ (by rw[sz];exact zl))
  have sb:=Heap.SameBut.update s.heap S (Obj.putSet es2 t2)
  have o1:=St.lay_self (es':=es2) (t':=t2) T.ob
  by_cases c:(!false&&t2.tooFull)=true
  ·rw[if_pos c]
   have c':(es.size+1)*5≥t.mask*3:=by
    simp only[Bool.not_false,Bool.true_and,SetTable.tooFull,decide_eq_true_eq,fl,m2] at c
    exact c
   obtain⟨es3,t3,f1,f2,f3,f4,f5,f6,f7,f8,f9⟩:=zsg (n:=es.size) (t2:=t2) (es2:=es2) (by rw[m2];exact T.ms) sz (by rw[m2];exact T.lo) (by rw[m2];exact c') hz pn2
   rw[f1]
   dsimp only
   have sz3:es3.size=es.size+1:=by rw[← Array.length_toList,f2.length_eq,Array.length_toList,sz]
   show wpAny _ _ (pure () >>= _) _ _ _;refine wpAny_bind (wpAny_pure ?_)
   refine wpAny_bind (wpAny_storeSet_of (s:={ s with heap:=_ }) o1 rfl ?_ (by rw[sz3];exact zl))
   refine wpAny_pure (wpAny_pure (q _ true es3 _ t3 ⟨St.lay_self o1,by rw[f6,sz3],f5,f3,by rw[sz3];exact f4,f7,by rw[f8];exact ld2,f9,λe he=>el2 e (f2.mem_iff.mp he),(f2.map _).trans ks2⟩ (sb.trans (Heap.SameBut.update _ S _))))
  ·rw[if_neg c]
   refine wpAny_pure (wpAny_pure (q _ true es2 _ t2 ⟨o1,by rw[p2,sz],d2,by rw[m2];exact T.ms,?_,pn2,ld2,r2,el2,ks2⟩ sb))
   simp only[Bool.not_false,Bool.true_and,SetTable.tooFull,decide_eq_true_eq,fl,m2] at c
   rw[sz,m2]
   (first|lia|omega)
def dd(val:Nat→Int):Nat→List Int
 | 0=>[]
 | i+1=>if val i∈dd val i then dd val i else val i::dd val i
theorem dd_len(val:Nat→Int):∀i,(dd val i).length≤i
 | 0=>ψh _
 | i+1=>by
  have:=dd_len val i
  unfold dd
  split
  ·(first|lia|omega)
  ·rw[ψQ]
   (first|lia|omega)
theorem dd_nodup(val:Nat→Int):∀i,(dd val i).Nodup
 | 0=>List.nodup_nil
 | i+1=>by
  unfold dd
  split
  ·exact dd_nodup val i
  ·exact List.nodup_cons.mpr ⟨by assumption,dd_nodup val i⟩
theorem dd_mem(val:Nat→Int){x:Int}:∀{i},x∈dd val i↔∃j,j<i∧val j=x
 | 0=>⟨λh=>(nomatch h),λ⟨j,h,_⟩=>absurd h (ψx1 j)⟩
 | i+1=>by
  have ih:=dd_mem val (x:=x) (i:=i)
  have e:x∈dd val (i+1)↔x∈dd val i∨val i=x:=by
   show x∈(if val i∈dd val i then dd val i else val i::dd val i)↔_
   split
   ·rename_i h
    exact⟨.inl,λz=>z.elim id λe=>e ▸ h⟩
   ·rw[ψP]
    exact⟨λz=>z.elim (λe=>.inr e.symm) .inl,λz=>z.elim .inr λe=>.inl e.symm⟩
  rw[e,ih]
  constructor
  ·rintro(⟨j,h1,h2⟩ | h)
   ·exact⟨j,by (first|lia|omega),h2⟩
   ·exact⟨i,by (first|lia|omega),h⟩
  ·rintro⟨j,h1,h2⟩
   rcases Nat.lt_or_ge j i with l | l
   ·exact .inl ⟨j,l,h2⟩
   ·obtain rfl:j=i:=by (first|lia|omega)
    exact .inr h2
theorem SJ.keep{h h':Heap}{ds:List Int}(T:SJ P w h S es ep t ds)(e:∀o,h.get? S=some o→h'.get? S=some o):SJ P w h' S es ep t ds :=
 ⟨e _ T.ob,T.pl,T.dm,T.ms,T.lo,T.pn,T.ld,T.rs,T.el,T.ks⟩
theorem SJ.size{h:Heap}{ds:List Int}(T:SJ P w h S es ep t ds):es.size=ds.length:=by
 rw[← T.ks.length_eq,ψb,Array.length_toList]
theorem loopJ{R:Result→Shared→Prop}{I:Addr}{fp wr:List Addr}{G:Array GenState→Array GenState→Prop}{n:Nat}{V:Nat→Value→Prop}{Z:Nat→Shared→Prop}
  (W:WalksS P w A.in1 I fp wr G n V Z) (S:Addr) (nS:S∉fp) (val:Nat→Int) (hv:∀i v,V i v→∃tk,v=.int (val i) tk) (hz:n<300) :
  ∀(k i:Nat) (s:Shared) (es:Array (Int×Value)) (ep:Nat) (t:SetTable),n - i=k→i≤n→Z i s→SJ P w s.heap S es ep t (dd val i) →
   (∀s' es' ep' t',Moved (S::wr) G s s'→SJ P w s'.heap S es' ep' t' (dd val n)→R (.ok (.ret .none)) s') →
   codeAny (model P w) A (.builtin "set.update.loop" ⟨[.ref S,.ref I],[]⟩) R s:=by
 have nW:S∉wr:=λh=>nS (W.sub _ h)
 have sb:∀b∈wr,b∈S::wr:=λb hb=>ψf _ hb
 intro k
 induction k with
 | zero =>
  intro i s es ep t ek hi st T q
  obtain rfl:i=n:=by (first|lia|omega)
  refine codeAny_builtin PyProof.Rows.F.entry_set_update_loop ?_;rw[Around.under_plainId ψu1 _]
  show wpAny _ A.in1 (pyNext (.ref I) >>= _) _ _ s;refine wpAny_bind (W.done s _ _ st λs' hm=>?_)
  show wpAny _ A.in1 (ret Value.none) _ _ s';exact wpAny_pure (q s' es ep t (hm.mono sb) (T.keep λo e=>hm.heap S o nW e))
 | succ k ih =>
  intro i s es ep t ek hi st T q
  have lt:i<n:=by (first|lia|omega)
  refine codeAny_builtin PyProof.Rows.F.entry_set_update_loop ?_;rw[Around.under_plainId ψu1 _]
  show wpAny _ A.in1 (pyNext (.ref I) >>= _) _ _ s;refine wpAny_bind (W.item i s _ _ lt st λv s' hP st' hm=>?_)
  obtain⟨tk,rfl⟩:=hv i v hP
  have T':SJ P w s'.heap S es ep t (dd val i):=T.keep λo e=>hm.heap S o nW e
  have zl:=dd_len val i
  have sz:=T'.size
  show wpAny _ A.in1 (holding [Value.int (val i) tk] (setAdd S (.int (val i) tk)) >>= _) _ _ s';refine wpAny_bind (wpAny_holding ?_)
  unfold setAdd
  refine wpAny_holding (wpAny_bind ((intKind P w).pyHash (k:=val i) (intKind_is _ _ _ _) ?_))
  refine addJ (s:={ s' with toks:=s'.toks+1 }) T' (by (first|lia|omega)) λh' b es' ep' t' T2 sm=>?_
  refine wpAny_pure ⟨plainId_quiet ψu1 _,ih (i+1) _ es' ep' t' (by (first|lia|omega)) lt (W.frame _ s' _ _ st' (Nat.le_succ _) λb hb o e=>?_) T2 λs'' es'' ep'' t'' hm'' T3=>?_⟩
  ·rw[sm.2 b (λh:b=S=>nS (by rw[← h];exact hb))];exact e
  ·refine q s'' es'' ep'' t'' (Moved.trans W.gtrans ((hm.mono sb).then_heap (Nat.le_succ _) λb o hb e=>?_) hm'') T3
   rw[sm.2 b (λh:b=S=>hb (by rw[h];exact ψj))];exact e
theorem zv2(v:Value){Q₁:Value→Shared→Prop}(h:Q₁ (.ref s.heap.objs.size) { s with heap:=s.heap.push { cls:=.type "set",dict:=none,data:=.set #[] 0 (.fresh 0 0 (!w.params.followText "set-order")) } }) :
  codeAny (model P w) A (.call (.builtin "set.__new__") ⟨[.type "set",v],[]⟩) (wants Q₁ E) s:=by
 refine codeAny_of_tree ?_;show wpAny _ A.in1 (do checkBuiltinCall "set.__new__" ⟨[.type "set",v],[]⟩;again (.builtin "set.__new__" ⟨[.type "set",v],[]⟩)) _ _ s
 refine wpAny_bind (wpAny_of_eq (PySem.F.newCall_set_1 v) (wpAny_pure ⟨plainId_quiet PySem.F.plain_set_new _,codeAny_builtin PySem.F.entry_set_new ?_⟩));rw[Around.under_plainId PySem.F.plain_set_new _]
 unfold Builtin.«set.__new__» Builtin.Frozenset.newClass;have hsub:=PySem.sub_set_self;obtain⟨hp,g,d,tk,os⟩:=s
 dsimp only;wp_walk
 refine wpAny_askSetting (wpAny_pure ?_);dsimp only;simp only[newObj]
 refine wpAny_bind (wpAny_alloc (wpAny_pure ?_));exact wpAny_pure h
set_option maxHeartbeats 3200000 in
theorem call_setJ{l:Addr}{its:Array Value}{val:Nat→Int}{Q:Value→Shared→Prop}
  (hh:A.handled=none) (hl:s.heap.IsList l its) (hv:∀(i:Nat) v,its[i]?=some v→∃tk,v=.int (val i) tk) (hz:its.size<300)
  (q:∀(h':Heap) (u:Nat) es ep t,SJ P w h' s.heap.objs.size es ep t (dd val its.size)→(∀b o,s.heap.get? b=some o→h'.get? b=some o)→Q (.ref s.heap.objs.size) { s with heap:=h',toks:=u }) :
  wpAny (model P w) A (call (.type "set") [.ref l]) Q E s:=by
 obtain⟨c0,tl0,mr⟩:=PySem.F.called_set.mro
 have mad:=PySem.F.called_set.made;have sub0:=PySem.F.called_set.sub;refine wpAny_call (codeAny_of_tree ?_)
 show wpAny _ _ (callAny (.type "set") _) _ _ _;refine wpAny_pure ⟨Code.quiet_builtin _ (by decide +kernel),codeAny_builtin PySem.F.entry_type_call ?_⟩;rw[Around.under_plain (weight_type_call_type "set" [.ref l] []) rfl]
 have h1:=PySem.F.called_set.notType;have h2:=PySem.F.called_set.canCreate;have tc:=PySem.F.typeCall_set_1 (.ref l);repeat (any_goals (first | assumption | wp_step))
 refine codeAny_mono (zv2 (.ref l) (E:=E) (Q₁:=λob s₁=>∃led:Bool,led=!w.params.followText "set-order"∧ob=.ref s.heap.objs.size∧s₁={ s with heap:=s.heap.push { cls:=.type "set",dict:=none,data:=.set #[] 0 (.fresh 0 0 led) } }) ⟨_,rfl,rfl,rfl⟩) λr s₁ hr=>?_
 cases r with
 | error e=>exact hr
 | ok fl =>
  cases fl with
  | ret ob =>
   obtain⟨led,hled,rfl,rfl⟩:=hr
   have gS:(s.heap.push { cls:=.type "set",dict:=none,data:=.set #[] 0 (.fresh 0 0 led) }).get? s.heap.objs.size=some { cls:=.type "set",dict:=none,data:=.set #[] 0 (.fresh 0 0 led) }:=Heap.get?_push_size _ rfl
   have tyS:Shared.TypeIs { s with heap:=s.heap.push { cls:=.type "set",dict:=none,data:=.set #[] 0 (.fresh 0 0 led) } } (.ref s.heap.objs.size) "set":=⟨_,gS,rfl⟩
   have li:=PySem.F.called_set.init.lookup;have bi:=PySem.F.called_set.init.bind (.ref s.heap.objs.size);repeat (any_goals (first | assumption | wp_step))
   refine codeAny_mono (codeAny_call_builtin (R:=wants (λr s₂=>r=.none∧∃h' u es ep t,s₂={ s with heap:=h',toks:=u }∧SJ P w h' s.heap.objs.size es ep t (dd val its.size)∧(∀b o,s.heap.get? b=some o→h'.get? b=some o)) E) PySem.F.called_set.init.plain PySem.F.entry_set_init (check_set_init_1 tyS ?_)) λr₂ s₂ hr₂=>?_
   ·obtain⟨⟨oc,od,odt,os⟩,go,gc,nl,gd⟩:=hl
    simp only at gc gd
    subst gc;subst gd
    have go':(s.heap.push { cls:=.type "set",dict:=none,data:=.set #[] 0 (.fresh 0 0 led) }).get? l=some { cls:=.type "list",dict:=od,data:=.seq its nl,slots:=os }:=Heap.get?_push_of_some _ go
    have b1:=PySem.F.sub_list_set;have b2:=PySem.F.sub_list_frozenset
    have b3:(Value.type "list" == Value.type "dict")=false:=by decide
    have hl1:(s.heap.push { cls:=.type "set",dict:=none,data:=.set #[] 0 (.fresh 0 0 led) }).IsList l its:=⟨_,go',rfl,nl,rfl⟩;unfold Builtin.«set.__init__» noKeywords Builtin.Frozenset.updateFrom
    generalize ePI:pyIter=PI
    wp_walk
    subst ePI
    refine wpAny_pyIter_list hl1 ?_;refine wpAny_bind (wpAny_runValue ?_)
    have lS:l<s.heap.objs.size:=Heap.lt_size go;have hh3:A.in1.in1.in1.handled=none:=by simp[hh]
    have sz1:(s.heap.push { cls:=.type "set",dict:=none,data:=.set #[] 0 (.fresh 0 0 led) }).objs.size=s.heap.objs.size+1:=Heap.size_push ..
    have nI:l≠(s.heap.push { cls:=.type "set",dict:=none,data:=.set #[] 0 (.fresh 0 0 led) }).objs.size:=by rw[sz1];exact ψl (ψO1 lS)
    have nSf:s.heap.objs.size∉[(s.heap.push { cls:=.type "set",dict:=none,data:=.set #[] 0 (.fresh 0 0 led) }).objs.size,l]:=by
     rw[sz1];simp only[ψP,ψI,or_false,not_or]
     exact⟨ψl (ψF1 _),ψs1 lS⟩
    refine loopJ ((Walks.list hh3 _ l nI its).toS) s.heap.objs.size nSf val hv hz (its.size - 0) 0 _ #[] 0 (.fresh 0 0 led) (by (first|lia|omega)) (ψr1 _) ⟨⟨_,Heap.get?_push_size _ rfl,rfl,rfl⟩,(hl1.push _)⟩ ⟨Heap.get?_push_of_some _ gS,rfl,rfl,.inl rfl,(by show 0*5<7*3;decide),rfl,?_,List.Pairwise.nil,λe he=>by simp at he,List.Perm.refl _⟩ ?_
    ·show w.params.followText "set-order"=true∨led=true
     rw[hled]
     cases w.params.followText "set-order" <;> simp
    ·intro s' es ep t hm T
     obtain⟨h',g',d',tk',os'⟩:=s';have eg:g'=s.gens:=hm.gens;have ed:d'=s.drawn:=hm.drawn
     have eo:os'=s.os:=hm.os
     subst eg;subst ed;subst eo
     show wpAny _ _ _ _ _ _;refine wpAny_pure ?_;show wpAny _ _ (ret Value.none) _ _ _
     refine wpAny_pure ⟨rfl,h',tk',es,ep,t,rfl,T,λb o e=>?_⟩
     have:=Heap.lt_size e
     refine hm.heap b o ?_ (Heap.get?_push_of_some _ (Heap.get?_push_of_some _ e))
     simp only[ψP,ψI,or_false,not_or]
     rw[sz1]
     exact⟨ψl this,ψl (ψO1 this)⟩
   ·cases r₂ with
    | error e=>exact hr₂
    | ok fl₂ =>
     cases fl₂ with
     | ret r =>
      obtain⟨rfl,h',u,es,ep,t,rfl,g1,g4⟩:=hr₂;repeat (any_goals (first | assumption | wp_step))
      exact q _ _ _ _ _ g1 g4
     | _=>exact hr₂.elim
  | _=>exact hr.elim
end
end L2.Sw
namespace L2
open PySem PySem.Spec PyProof.Rows
def zid(K:ψa):List V→Hp→VK→Prop:=λxs H Q=>∃(p:Addr) (ns:List Int),xs=[.ref p]∧SqL K H p (ns.map V.int)∧ns.length<64∧∀(l:Addr) (ms:List Int),H l=none→(∀x,x∈ms↔x∈ns)→ms.Pairwise (·<·)→ms.length≤ns.length→Q (.ref l) (upd H l (.lst (ms.map V.int)))
section
variable {X:Cx} {e:Expr} {t:TA} {p1 p2 pos1 pos2:Pos}
theorem zrk:∀{ms:List Int},ms.Pairwise (·≤·)→ms.Nodup→ms.Pairwise (·<·)
 | [],_,_=>.nil
 | a::ms,h,n=>by
  rw[List.pairwise_cons] at h ⊢
  rw[List.nodup_cons] at n
  refine⟨λb hb=>?_,zrk h.2 n.2⟩
  have h1:=h.1 b hb
  have h2:a≠b:=λz=>n.1 (z ▸ hb)
  (first|lia|omega)
theorem zpn(hgl:Gl X "sorted")(hml:X.mg "sorted"=none)(hgs:Gl X "set")(hms:X.mg "set"=none)(ha:PA X [e] t)(hc:X.calm=true:=by rfl)
  (he:starEach [e] X.env=(false,eval e X.env)::starEach [] X.env:=by rfl) (hpl:∀pos,(backTo pos (starEach [] X.env)).any (·.1)=false:=by intro _;rfl)
  (he2:starEach [.Call (.Name "set" p2) [e] [] pos2] X.env=(false,eval (.Call (.Name "set" p2) [e] [] pos2) X.env)::starEach [] X.env:=by rfl) :
  PE X (.Call (.Name "sorted" p1) [.Call (.Name "set" p2) [e] [] pos2] [] pos1) (tCB (zid X.K) t):=by
 intro pins s σ H Q I h
 refine wpAny_Call_Name_kw (zhH I hgl hml boot_sorted ?_ (by decide) (by decide))
 refine PyProof.Rows.callWith_builtin1 ?_ he2 (hpl _);rw[he2]
 show wpAny _ _ (spliced ((false,eval (.Call (.Name "set" p2) [e] [] pos2) X.env)::backTo pos1 (starEach [] X.env))) _ _ s;refine Calls.spliced_cons ?_
 refine wpAny_Call_Name_kw (zhH I hgs hms PyProof.Rows.boot_set ?_ (by decide) (by decide))
 refine ψh1 (thn (ha pos2 pins s σ H _ I h) λus s1 hQ'=>?_) he (hpl _)
 obtain⟨vs,H1,I1,r1,q1⟩:=hQ'
 obtain⟨p,ns,rfl,hp,l64,q⟩:=q1
 obtain⟨u,rfl,rx⟩:=znk r1
 cases rx
 obtain⟨its,rv,pl,hz⟩:=I1.list hp
 have hlen:its.length=ns.length:=by rw[← rv.length,ψb]
 refine Sw.call_setJ (its:=its.toArray) (val:=λi=>ns.getD i 0) (I1.ok.hd hc) pl.isList (λi v e=>?_) (by rw[ψe,hlen];(first|lia|omega)) λh' tk es ep tb T g4=>?_
 ·have hi:i<ns.length:=by
   have:=(Array.getElem?_eq_some_iff.mp e).1
   rw[ψe,hlen] at this
   exact this
  obtain⟨u,eu,ru⟩:=rv.get (show(ns.map V.int)[i]?=some (V.int ns[i]) by simp[hi])
  have e':its[i]?=some v:=by simpa using e
  rw[e'] at eu
  cases eu
  rw[ψA,ψd hi]
  exact ru
 ·refine Calls.spliced_nil ?_
  have szi:its.toArray.size=ns.length:=by rw[ψe];exact hlen
  rw[szi] at T
  have I2:Inv X pins σ H1 { s1 with heap:=h',toks:=tk }:=I1.kept (t':=tk) g4
  generalize s1.heap.objs.size=S at T ⊢
  have hes:=T.size
  have hdd:=Sw.dd_len (λi=>ns.getD i 0) ns.length
  refine Calls.call_function_entry kind_sorted plain_sorted entry_sorted (args_sorted1 _) ?_;unfold Builtin.«sorted»;refine wpAny_bind (m:=checkCount "sorted" 1 1 _) (wpAny_pure ?_)
  refine wpAny_bind (PySem.W.kdu_collect (A:=X.A.in1) (s:={ s1 with heap:=h',toks:=tk }) (Sw.src (P:=X.prog) (w:=X.w) T.fits T.led) (I1.ok.hd hc) T.ob (by rw[sizeLine_eq];(first|lia|omega)) λh2 tk2 acc hkp hacc=>?_)
  have pm:=(Sw.ord_perm (w:=X.w) (S:=S) (es:=es) (ep:=ep))
  have osz:(Sw.ord X.w S es ep).size=es.size:=by rw[← Array.length_toList,pm.length_eq,Array.length_toList]
  have hla:acc.toList.length=es.size:=by rw[Array.length_toList,hacc.1]
  have hI:IntsAre acc.toList ((Sw.ord X.w S es ep).toList.map λe=>Sw.vI e.2):=by
   refine zn5 (zql (by rw[ψb,ψb,hla,Array.length_toList,osz]) λj x w e1 e2=>?_)
   rw[ψD,Option.map_eq_some_iff] at e1
   obtain⟨k,hk,rfl⟩:=e1
   rw[ψD,Option.map_eq_some_iff] at hk
   obtain⟨y,hy,rfl⟩:=hk
   have e3:((Sw.ord X.w S es ep)[j]?).map (·.2)=some w:=hacc.2 j w (by rw[← Array.getElem?_toList];exact e2)
   rw[← Array.getElem?_toList,hy] at e3
   cases e3
   obtain⟨k',tk',rfl⟩:=T.el y (pm.mem_iff.mp (ψM hy))
   exact⟨tk',rfl⟩
  have hpk:((Sw.ord X.w S es ep).toList.map λe=>Sw.vI e.2).Perm (Sw.dd (λi=>ns.getD i 0) ns.length):=(pm.map _).trans T.ks
  refine wpAny_bind (wpAny_newList ?_ (by rw[hla,sizeLine_eq];(first|lia|omega)))
  have hoL:(h2.push (seqObj "list" acc.toList.toArray 0)).get? h2.objs.size=some (seqObj "list" acc.toList.toArray 0):=Heap.get?_push_size _ rfl
  refine wpAny_bind (wpAny_holding (wpAny_call_entry slot_list_sort ⟨_,hoL,rfl⟩ entry_list_sort (list_sort_tree hoL hI (by rw[hla];(first|lia|omega)) λout ns' a1 a2 a3=>⟨_,rfl,?_⟩) (args_list_sort _)))
  obtain⟨e,he⟩:=sortedHeap_at (out:=out) hoL;refine wpAny_pure ⟨_,rfl,?_⟩
  have I':Inv X pins σ H1 { s1 with heap:=h2,toks:=tk2 }:=I2.kept (t':=tk2) hkp
  have a4:=a2.trans hpk
  refine zpk (s:={ s1 with heap:=h2,toks:=tk2 }) (h':=sortedHeap (h2.push (seqObj "list" acc.toList.toArray 0)) h2.objs.size acc.toList out) (tk:=tk2) I' (λb o hb'=>?_) (ψh _) he a1 (by rw[a4.length_eq];(first|lia|omega)) λhn=>q _ ns' hn (λx=>?_) (zrk a3 (a4.nodup_iff.mpr (Sw.dd_nodup _ _))) (by rw[a4.length_eq];exact hdd)
  ·have hlt:=Heap.lt_size hb'
   rw[sortedHeap_old (ψl hlt) (by rw[size_push'];exact ψO1 hlt)]
   exact Heap.get?_push_of_some _ hb'
  ·rw[a4.mem_iff,Sw.dd_mem]
   constructor
   ·rintro⟨j,hj,rfl⟩
    rw[ψA,ψd hj]
    exact ψS1 hj
   ·intro hx
    obtain⟨j,ej⟩:=ψp hx
    exact⟨j,(List.getElem?_eq_some_iff.mp ej).1,by rw[ψA,ej];rfl⟩
end
end L2
set_option maxHeartbeats 4000000
local macro_rules
 | `(tactic| simp_all only [$xs,*])=>do
  let ds ← ("zvA zwx zvb zuz zws zww zvE zuD zvq zve zrV ztC ztj rI_c rI0_c zyb ex_bl zyd zxi zyN zwY ztd zs7 zrD zts zsj ztS zsC zr1 zsu zqP zpM zpD zqf zid zry zhF zaE tSl zfe zle zsb zaR zox tBM zus zcX zaK zaV za2 zcW zax zcR tCB zab zak tC tOp tUn tTru zc6 zv9 tIf zbb zbQ zcV zbV zar rU zrW zgs zuj zbE tB tOr zfw zca zta zxo zmg tAnd zsY zrf zg4 rEq rNe rEqD zrv rEqT gLst zxG zq9 rEqE zlN znY zuC zqz".splitOn " ").toArray.mapM λs=>`(Lean.Parser.Tactic.simpLemma| ↓ $(Lean.mkIdent s.toName):ident)
  let ps ← ("ztJ Option.bind_some Option.bind_none Option.join_some Option.map_some List.getElem?_cons_zero List.getElem?_cons_succ V.str.injEq V.ty.injEq zac rI rI0 zhO L2.start ztK zvF ztV zu1 List.map_cons List.map_nil List.length_cons List.length_nil List.replicate List.cons_append List.nil_append List.append_nil Option.some.injEq exists_eq_left' exists_eq_left exists_and_left List.cons.injEq V.int.injEq V.ref.injEq V.bl.injEq and_true true_and List.set_cons_zero List.set_cons_succ Nat.reduceAdd Nat.reduceSub Int.reduceToNat Int.reducePow Int.reduceNeg Int.reduceMul Int.reduceAdd Int.reduceSub decide_eq_true_eq Bool.not_eq_true' decide_eq_false_iff_not exists_const and_assoc exists_eq exists_eq' if_true if_false Bool.false_eq_true Bool.true_eq_false reduceCtorEq not_true_eq_false not_false_eq_true zbM".splitOn " ").toArray.mapM λs=>`(Lean.Parser.Tactic.simpLemma| $(Lean.mkIdent s.toName):ident)
  `(tactic| simp only[$xs,*,$ds,*,$ps,*])
namespace My
local macro_rules | `(tactic| omega)=>`(tactic| lia)
open PySem L2
def top(i:Nat):Stmt:=PySem.Challenge.pw_hideworth_k22_boxes_and_budgets_refused.main.body.getD i (.Pass ⟨0,0,0,0⟩)
abbrev zi5:Stmt:=top 21
abbrev zmT:Stmt:=top 22
abbrev zrr:Stmt:=top 23
abbrev zmn:Stmt:=top 24
abbrev zmC:Stmt:=top 25
abbrev zpK:Stmt:=top 26
abbrev znl:Stmt:=top 27
abbrev zih:Stmt:=top 28
abbrev zdw:Stmt:=top 29
abbrev zib:Stmt:=top 30
abbrev zhd:Stmt:=top 32
abbrev zgO:Stmt:=top 33
abbrev zdO:Stmt:=top 34
abbrev zfk:Stmt:=top 35
abbrev zj8:Stmt:=top 42
abbrev zek:Stmt:=top 43
abbrev zfn:Stmt:=top 44
abbrev zgR:Stmt:=top 45
abbrev zmD:Stmt:=top 46
abbrev zkL:Stmt:=top 47
abbrev zkr:Stmt:=top 48
abbrev zp1:Stmt:=top 49
abbrev zge:Stmt:=top 50
abbrev zgB:Stmt:=top 51
abbrev zgc:Stmt:=top 52
abbrev zhs:Stmt:=top 53
abbrev zif:Stmt:=top 54
abbrev zeG:Stmt:=top 55
abbrev za5:Stmt:=top 56
abbrev zdu:Stmt:=top 57
abbrev zcA:Stmt:=top 58
abbrev zcI:Stmt:=top 59
abbrev zeb:Stmt:=top 60
abbrev zdj:Stmt:=top 61
abbrev zdr:Stmt:=top 62
abbrev zd3:Stmt:=top 63
abbrev zmi:Stmt:=top 64
abbrev zeD:Stmt:=top 65
abbrev zda:Stmt:=top 66
abbrev zdk:Stmt:=top 67
abbrev zbz:Stmt:=top 68
abbrev zdS:Stmt:=top 69
abbrev zf7:Stmt:=top 70
abbrev zf6:Stmt:=top 71
abbrev zdR:Stmt:=top 72
abbrev zfR:Stmt:=top 73
abbrev zeF:Stmt:=top 74
abbrev zfM:Stmt:=top 76
abbrev zgN:Stmt:=top 77
abbrev zfY:Stmt:=top 78
abbrev zeg:Stmt:=top 79
abbrev zfB:Stmt:=top 80
abbrev zfG:Stmt:=top 81
abbrev zeI:Stmt:=top 82
abbrev zdx:Stmt:=top 83
abbrev ztp:Stmt:=top 84
abbrev zdo:Stmt:=(zwt (top 17)).getD 0 (.Pass ⟨0,0,0,0⟩)
set_option genInjectivity false in
set_option genSizeOf false in
structure Ad where
 f_divisor:Addr
 d_divisor:FuncData
 f_ratio:Addr
 d_ratio:FuncData
 f_plus:Addr
 d_plus:FuncData
 f_minus:Addr
 d_minus:FuncData
 f_times:Addr
 d_times:FuncData
 f_over:Addr
 d_over:FuncData
 f_below:Addr
 d_below:FuncData
 f_common:Addr
 d_common:FuncData
 f_shared_divisor:Addr
 d_shared_divisor:FuncData
 f_lowest:Addr
 d_lowest:FuncData
 f_is_whole:Addr
 d_is_whole:FuncData
 f_is_within:Addr
 d_is_within:FuncData
 f_are_weights:Addr
 d_are_weights:FuncData
 f_is_fraction:Addr
 d_is_fraction:FuncData
 f_is_box:Addr
 d_is_box:FuncData
 f_look_boxes:Addr
 d_look_boxes:FuncData
 f_look_budget:Addr
 d_look_budget:FuncData
 f_is_plan:Addr
 d_is_plan:FuncData
 f_power:Addr
 d_power:FuncData
 f_missed:Addr
 d_missed:FuncData
 f_chance:Addr
 d_chance:FuncData
 f_gain:Addr
 d_gain:FuncData
 f_cost_sum:Addr
 d_cost_sum:FuncData
 f_plan_cost:Addr
 d_plan_cost:FuncData
 f_found_by:Addr
 d_found_by:FuncData
 f_is_share:Addr
 d_is_share:FuncData
 f_is_mix:Addr
 d_is_mix:FuncData
 f_finds_enough:Addr
 d_finds_enough:FuncData
 f_is_seeker_right:Addr
 d_is_seeker_right:FuncData
 f_is_hider_paper:Addr
 d_is_hider_paper:FuncData
 f_is_last_look_worth:Addr
 d_is_last_look_worth:FuncData
 f_is_next_look_dear:Addr
 d_is_next_look_dear:FuncData
 f_is_count_best:Addr
 d_is_count_best:FuncData
 f_is_sum_low:Addr
 d_is_sum_low:FuncData
 f_is_hider_right:Addr
 d_is_hider_right:FuncData
 f_budget_judged:Addr
 d_budget_judged:FuncData
 f_added:Addr
 d_added:FuncData
 f_least_chance:Addr
 d_least_chance:FuncData
 f_fair_weights:Addr
 d_fair_weights:FuncData
 f_chance_for:Addr
 d_chance_for:FuncData
 f_counts_and_worth:Addr
 d_counts_and_worth:FuncData
 f_look_shares:Addr
 d_look_shares:FuncData
 f_mix_of:Addr
 d_mix_of:FuncData
 f_paper_of:Addr
 d_paper_of:FuncData
 f_sure_answer:Addr
 d_sure_answer:FuncData
 f_is_sure:Addr
 d_is_sure:FuncData
 f_budget_worth:Addr
 d_budget_worth:FuncData
 f__law_purse:Addr
 d__law_purse:FuncData
 f__law_draw:Addr
 d__law_draw:FuncData
 f__law_boxes:Addr
 d__law_boxes:FuncData
 f__law_no_boxes:Addr
 d__law_no_boxes:FuncData
 f__law_marks:Addr
 d__law_marks:FuncData
 f__law_asked:Addr
 d__law_asked:FuncData
 f__law_refused:Addr
 d__law_refused:FuncData
 f__law_no_budget:Addr
 d__law_no_budget:FuncData
 f_law:Addr
 d_law:FuncData
 c_HideError:Addr
 c_NoWeb:Addr
 c_NoPlan:Addr
 c_NoText:Addr
 c_NoKind:Addr
 c_TooGreat:Addr
 c_NoTree:Addr
 c_NoWeights:Addr
 c_NoTurns:Addr
 c_NoNumber:Addr
 c_NoBoxes:Addr
 c_NoBudget:Addr
 c_NoName:Addr
 c_NoOrder:Addr
 c_NoPlay:Addr
 c_NoRoad:Addr
 c_NoRow:Addr
 c_NoTable:Addr
 c_NoPaper:Addr
 i_NoPlan:Addr
 j_NoPlan:FuncData
 k_MOST_BOXES:Tok
 k_MOST_COST:Tok
 k_MOST_OF:Tok
 k_MOST_BUDGET:Tok
 k_MOST_LOOKS:Tok
structure Isa (K:ψa) (a:Ad):Prop where
 k_NoWeb:ψc K (.ref a.c_NoBudget) (.ref a.c_NoWeb)=some false
 k_NoPlan:ψc K (.ref a.c_NoBudget) (.ref a.c_NoPlan)=some false
 k_NoText:ψc K (.ref a.c_NoBudget) (.ref a.c_NoText)=some false
 k_NoKind:ψc K (.ref a.c_NoBudget) (.ref a.c_NoKind)=some false
 k_TooGreat:ψc K (.ref a.c_NoBudget) (.ref a.c_TooGreat)=some false
 k_NoTree:ψc K (.ref a.c_NoBudget) (.ref a.c_NoTree)=some false
 k_NoWeights:ψc K (.ref a.c_NoBudget) (.ref a.c_NoWeights)=some false
 k_NoTurns:ψc K (.ref a.c_NoBudget) (.ref a.c_NoTurns)=some false
 k_NoNumber:ψc K (.ref a.c_NoBudget) (.ref a.c_NoNumber)=some false
 k_NoBoxes:ψc K (.ref a.c_NoBudget) (.ref a.c_NoBoxes)=some false
 k_NoBudget:ψc K (.ref a.c_NoBudget) (.ref a.c_NoBudget)=some true
 k_NoName:ψc K (.ref a.c_NoBudget) (.ref a.c_NoName)=some false
 k_NoOrder:ψc K (.ref a.c_NoBudget) (.ref a.c_NoOrder)=some false
 k_NoPlay:ψc K (.ref a.c_NoBudget) (.ref a.c_NoPlay)=some false
 k_NoRoad:ψc K (.ref a.c_NoBudget) (.ref a.c_NoRoad)=some false
 k_NoRow:ψc K (.ref a.c_NoBudget) (.ref a.c_NoRow)=some false
 k_NoTable:ψc K (.ref a.c_NoBudget) (.ref a.c_NoTable)=some false
 k_NoPaper:ψc K (.ref a.c_NoBudget) (.ref a.c_NoPaper)=some false
 k_ValueError:ψc K (.ref a.c_NoBudget) (.type "ValueError")=some true
 sub:ψH1 K (.ref a.c_NoBudget) (.ref a.c_HideError)=some true
 ec:zfS K (.ref a.c_NoBudget)
structure Isa2 (K:ψa) (a:Ad):Prop where
 k_NoWeb:ψc K (.ref a.c_NoBoxes) (.ref a.c_NoWeb)=some false
 k_NoPlan:ψc K (.ref a.c_NoBoxes) (.ref a.c_NoPlan)=some false
 k_NoText:ψc K (.ref a.c_NoBoxes) (.ref a.c_NoText)=some false
 k_NoKind:ψc K (.ref a.c_NoBoxes) (.ref a.c_NoKind)=some false
 k_TooGreat:ψc K (.ref a.c_NoBoxes) (.ref a.c_TooGreat)=some false
 k_NoTree:ψc K (.ref a.c_NoBoxes) (.ref a.c_NoTree)=some false
 k_NoWeights:ψc K (.ref a.c_NoBoxes) (.ref a.c_NoWeights)=some false
 k_NoTurns:ψc K (.ref a.c_NoBoxes) (.ref a.c_NoTurns)=some false
 k_NoNumber:ψc K (.ref a.c_NoBoxes) (.ref a.c_NoNumber)=some false
 k_NoBoxes:ψc K (.ref a.c_NoBoxes) (.ref a.c_NoBoxes)=some true
 k_NoBudget:ψc K (.ref a.c_NoBoxes) (.ref a.c_NoBudget)=some false
 k_NoName:ψc K (.ref a.c_NoBoxes) (.ref a.c_NoName)=some false
 k_NoOrder:ψc K (.ref a.c_NoBoxes) (.ref a.c_NoOrder)=some false
 k_NoPlay:ψc K (.ref a.c_NoBoxes) (.ref a.c_NoPlay)=some false
 k_NoRoad:ψc K (.ref a.c_NoBoxes) (.ref a.c_NoRoad)=some false
 k_NoRow:ψc K (.ref a.c_NoBoxes) (.ref a.c_NoRow)=some false
 k_NoTable:ψc K (.ref a.c_NoBoxes) (.ref a.c_NoTable)=some false
 k_NoPaper:ψc K (.ref a.c_NoBoxes) (.ref a.c_NoPaper)=some false
 k_ValueError:ψc K (.ref a.c_NoBoxes) (.type "ValueError")=some true
 sub:ψH1 K (.ref a.c_NoBoxes) (.ref a.c_HideError)=some true
 ec:zfS K (.ref a.c_NoBoxes)
structure Txt (K:ψa) (mg:Str→Option Value) (a:Ad):Prop where
 F_divisor:Fun K "divisor" "divisor" zi5 a.f_divisor a.d_divisor
 b_divisor:za4 K a.d_divisor ["one","other"] []
 m_divisor:mg "divisor"=some (.ref a.f_divisor)
 F_ratio:Fun K "ratio" "ratio" zmT a.f_ratio a.d_ratio
 b_ratio:za4 K a.d_ratio ["top","bottom"] []
 m_ratio:mg "ratio"=some (.ref a.f_ratio)
 F_plus:Fun K "plus" "plus" zrr a.f_plus a.d_plus
 b_plus:za4 K a.d_plus ["one","other"] []
 m_plus:mg "plus"=some (.ref a.f_plus)
 F_minus:Fun K "minus" "minus" zmn a.f_minus a.d_minus
 b_minus:za4 K a.d_minus ["one","other"] []
 m_minus:mg "minus"=some (.ref a.f_minus)
 F_times:Fun K "times" "times" zmC a.f_times a.d_times
 b_times:za4 K a.d_times ["one","other"] []
 m_times:mg "times"=some (.ref a.f_times)
 F_over:Fun K "over" "over" zpK a.f_over a.d_over
 b_over:za4 K a.d_over ["one","other"] []
 m_over:mg "over"=some (.ref a.f_over)
 F_below:Fun K "below" "below" znl a.f_below a.d_below
 b_below:za4 K a.d_below ["one","other"] []
 m_below:mg "below"=some (.ref a.f_below)
 F_common:Fun K "common" "common" zih a.f_common a.d_common
 b_common:za4 K a.d_common ["fractions"] []
 m_common:mg "common"=some (.ref a.f_common)
 F_shared_divisor:Fun K "shared_divisor" "shared_divisor" zdw a.f_shared_divisor a.d_shared_divisor
 b_shared_divisor:za4 K a.d_shared_divisor ["numbers"] []
 m_shared_divisor:mg "shared_divisor"=some (.ref a.f_shared_divisor)
 F_lowest:Fun K "lowest" "lowest" zib a.f_lowest a.d_lowest
 b_lowest:za4 K a.d_lowest ["weights"] []
 m_lowest:mg "lowest"=some (.ref a.f_lowest)
 F_is_whole:Fun K "is_whole" "is_whole" zhd a.f_is_whole a.d_is_whole
 b_is_whole:za4 K a.d_is_whole ["thing"] []
 m_is_whole:mg "is_whole"=some (.ref a.f_is_whole)
 F_is_within:Fun K "is_within" "is_within" zgO a.f_is_within a.d_is_within
 b_is_within:za4 K a.d_is_within ["thing","least","most"] []
 m_is_within:mg "is_within"=some (.ref a.f_is_within)
 F_are_weights:Fun K "are_weights" "are_weights" zdO a.f_are_weights a.d_are_weights
 b_are_weights:za4 K a.d_are_weights ["thing","many"] []
 m_are_weights:mg "are_weights"=some (.ref a.f_are_weights)
 F_is_fraction:Fun K "is_fraction" "is_fraction" zfk a.f_is_fraction a.d_is_fraction
 b_is_fraction:za4 K a.d_is_fraction ["thing"] []
 m_is_fraction:mg "is_fraction"=some (.ref a.f_is_fraction)
 F_is_box:Fun K "is_box" "is_box" zj8 a.f_is_box a.d_is_box
 b_is_box:za4 K a.d_is_box ["thing"] []
 m_is_box:mg "is_box"=some (.ref a.f_is_box)
 F_look_boxes:Fun K "look_boxes" "look_boxes" zek a.f_look_boxes a.d_look_boxes
 b_look_boxes:za4 K a.d_look_boxes ["boxes"] []
 m_look_boxes:mg "look_boxes"=some (.ref a.f_look_boxes)
 F_look_budget:Fun K "look_budget" "look_budget" zfn a.f_look_budget a.d_look_budget
 b_look_budget:za4 K a.d_look_budget ["budget"] []
 m_look_budget:mg "look_budget"=some (.ref a.f_look_budget)
 F_is_plan:Fun K "is_plan" "is_plan" zgR a.f_is_plan a.d_is_plan
 b_is_plan:za4 K a.d_is_plan ["thing","boxes"] []
 m_is_plan:mg "is_plan"=some (.ref a.f_is_plan)
 F_power:Fun K "power" "power" zmD a.f_power a.d_power
 b_power:za4 K a.d_power ["base","count"] []
 m_power:mg "power"=some (.ref a.f_power)
 F_missed:Fun K "missed" "missed" zkL a.f_missed a.d_missed
 b_missed:za4 K a.d_missed ["box","count"] []
 m_missed:mg "missed"=some (.ref a.f_missed)
 F_chance:Fun K "chance" "chance" zkr a.f_chance a.d_chance
 b_chance:za4 K a.d_chance ["box","count"] []
 m_chance:mg "chance"=some (.ref a.f_chance)
 F_gain:Fun K "gain" "gain" zp1 a.f_gain a.d_gain
 b_gain:za4 K a.d_gain ["box","count"] []
 m_gain:mg "gain"=some (.ref a.f_gain)
 F_cost_sum:Fun K "cost_sum" "cost_sum" zge a.f_cost_sum a.d_cost_sum
 b_cost_sum:za4 K a.d_cost_sum ["boxes","plan"] []
 m_cost_sum:mg "cost_sum"=some (.ref a.f_cost_sum)
 F_plan_cost:Fun K "plan_cost" "plan_cost" zgB a.f_plan_cost a.d_plan_cost
 b_plan_cost:za4 K a.d_plan_cost ["boxes","plan"] []
 m_plan_cost:mg "plan_cost"=some (.ref a.f_plan_cost)
 F_found_by:Fun K "found_by" "found_by" zgc a.f_found_by a.d_found_by
 b_found_by:za4 K a.d_found_by ["boxes","plan"] []
 m_found_by:mg "found_by"=some (.ref a.f_found_by)
 F_is_share:Fun K "is_share" "is_share" zhs a.f_is_share a.d_is_share
 b_is_share:za4 K a.d_is_share ["thing","boxes"] []
 m_is_share:mg "is_share"=some (.ref a.f_is_share)
 F_is_mix:Fun K "is_mix" "is_mix" zif a.f_is_mix a.d_is_mix
 b_is_mix:za4 K a.d_is_mix ["thing","boxes"] []
 m_is_mix:mg "is_mix"=some (.ref a.f_is_mix)
 F_finds_enough:Fun K "finds_enough" "finds_enough" zeG a.f_finds_enough a.d_finds_enough
 b_finds_enough:za4 K a.d_finds_enough ["box","counts","weights","worth"] []
 m_finds_enough:mg "finds_enough"=some (.ref a.f_finds_enough)
 F_is_seeker_right:Fun K "is_seeker_right" "is_seeker_right" za5 a.f_is_seeker_right a.d_is_seeker_right
 b_is_seeker_right:za4 K a.d_is_seeker_right ["boxes","budget","worth","mix"] []
 m_is_seeker_right:mg "is_seeker_right"=some (.ref a.f_is_seeker_right)
 F_is_hider_paper:Fun K "is_hider_paper" "is_hider_paper" zdu a.f_is_hider_paper a.d_is_hider_paper
 b_is_hider_paper:za4 K a.d_is_hider_paper ["thing","boxes"] []
 m_is_hider_paper:mg "is_hider_paper"=some (.ref a.f_is_hider_paper)
 F_is_last_look_worth:Fun K "is_last_look_worth" "is_last_look_worth" zcA a.f_is_last_look_worth a.d_is_last_look_worth
 b_is_last_look_worth:za4 K a.d_is_last_look_worth ["box","weight","price","count"] []
 m_is_last_look_worth:mg "is_last_look_worth"=some (.ref a.f_is_last_look_worth)
 F_is_next_look_dear:Fun K "is_next_look_dear" "is_next_look_dear" zcI a.f_is_next_look_dear a.d_is_next_look_dear
 b_is_next_look_dear:za4 K a.d_is_next_look_dear ["box","weight","price","count"] []
 m_is_next_look_dear:mg "is_next_look_dear"=some (.ref a.f_is_next_look_dear)
 F_is_count_best:Fun K "is_count_best" "is_count_best" zeb a.f_is_count_best a.d_is_count_best
 b_is_count_best:za4 K a.d_is_count_best ["box","weight","price","count"] []
 m_is_count_best:mg "is_count_best"=some (.ref a.f_is_count_best)
 F_is_sum_low:Fun K "is_sum_low" "is_sum_low" zdj a.f_is_sum_low a.d_is_sum_low
 b_is_sum_low:za4 K a.d_is_sum_low ["boxes","budget","worth","paper"] []
 m_is_sum_low:mg "is_sum_low"=some (.ref a.f_is_sum_low)
 F_is_hider_right:Fun K "is_hider_right" "is_hider_right" zdr a.f_is_hider_right a.d_is_hider_right
 b_is_hider_right:za4 K a.d_is_hider_right ["boxes","budget","worth","paper"] []
 m_is_hider_right:mg "is_hider_right"=some (.ref a.f_is_hider_right)
 F_budget_judged:Fun K "budget_judged" "budget_judged" zd3 a.f_budget_judged a.d_budget_judged
 b_budget_judged:za4 K a.d_budget_judged ["boxes","budget","worth","mix","paper"] []
 m_budget_judged:mg "budget_judged"=some (.ref a.f_budget_judged)
 F_added:Fun K "added" "added" zmi a.f_added a.d_added
 b_added:za4 K a.d_added ["fractions"] []
 m_added:mg "added"=some (.ref a.f_added)
 F_least_chance:Fun K "least_chance" "least_chance" zeD a.f_least_chance a.d_least_chance
 b_least_chance:za4 K a.d_least_chance ["chances"] []
 m_least_chance:mg "least_chance"=some (.ref a.f_least_chance)
 F_fair_weights:Fun K "fair_weights" "fair_weights" zda a.f_fair_weights a.d_fair_weights
 b_fair_weights:za4 K a.d_fair_weights ["boxes","counts"] []
 m_fair_weights:mg "fair_weights"=some (.ref a.f_fair_weights)
 F_chance_for:Fun K "chance_for" "chance_for" zdk a.f_chance_for a.d_chance_for
 b_chance_for:za4 K a.d_chance_for ["boxes","budget","counts"] []
 m_chance_for:mg "chance_for"=some (.ref a.f_chance_for)
 F_counts_and_worth:Fun K "counts_and_worth" "counts_and_worth" zbz a.f_counts_and_worth a.d_counts_and_worth
 b_counts_and_worth:za4 K a.d_counts_and_worth ["boxes","budget"] []
 m_counts_and_worth:mg "counts_and_worth"=some (.ref a.f_counts_and_worth)
 F_look_shares:Fun K "look_shares" "look_shares" zdS a.f_look_shares a.d_look_shares
 b_look_shares:za4 K a.d_look_shares ["boxes","counts","worth"] []
 m_look_shares:mg "look_shares"=some (.ref a.f_look_shares)
 F_mix_of:Fun K "mix_of" "mix_of" zf7 a.f_mix_of a.d_mix_of
 b_mix_of:za4 K a.d_mix_of ["boxes","counts","worth"] []
 m_mix_of:mg "mix_of"=some (.ref a.f_mix_of)
 F_paper_of:Fun K "paper_of" "paper_of" zf6 a.f_paper_of a.d_paper_of
 b_paper_of:za4 K a.d_paper_of ["boxes","counts"] []
 m_paper_of:mg "paper_of"=some (.ref a.f_paper_of)
 F_sure_answer:Fun K "sure_answer" "sure_answer" zdR a.f_sure_answer a.d_sure_answer
 b_sure_answer:za4 K a.d_sure_answer ["boxes"] []
 m_sure_answer:mg "sure_answer"=some (.ref a.f_sure_answer)
 F_is_sure:Fun K "is_sure" "is_sure" zfR a.f_is_sure a.d_is_sure
 b_is_sure:za4 K a.d_is_sure ["boxes","budget"] []
 m_is_sure:mg "is_sure"=some (.ref a.f_is_sure)
 F_budget_worth:Fun K "budget_worth" "budget_worth" zeF a.f_budget_worth a.d_budget_worth
 b_budget_worth:za4 K a.d_budget_worth ["boxes","budget"] []
 m_budget_worth:mg "budget_worth"=some (.ref a.f_budget_worth)
 F__law_purse:Fun K "_law_purse" "_law_purse" zfM a.f__law_purse a.d__law_purse
 b__law_purse:za4 K a.d__law_purse ["_law_script"] []
 m__law_purse:mg "_law_purse"=some (.ref a.f__law_purse)
 F__law_draw:Fun K "_law_draw" "_law_draw" zgN a.f__law_draw a.d__law_draw
 b__law_draw:za4 K a.d__law_draw ["_law_purse_here","_law_out_of"] []
 m__law_draw:mg "_law_draw"=some (.ref a.f__law_draw)
 F__law_boxes:Fun K "_law_boxes" "_law_boxes" zfY a.f__law_boxes a.d__law_boxes
 b__law_boxes:za4 K a.d__law_boxes ["_law_purse_here","_law_most"] []
 m__law_boxes:mg "_law_boxes"=some (.ref a.f__law_boxes)
 F__law_no_boxes:Fun K "_law_no_boxes" "_law_no_boxes" zeg a.f__law_no_boxes a.d__law_no_boxes
 b__law_no_boxes:za4 K a.d__law_no_boxes ["_law_purse_here","_law_boxes_here"] []
 m__law_no_boxes:mg "_law_no_boxes"=some (.ref a.f__law_no_boxes)
 F__law_marks:Fun K "_law_marks" "_law_marks" zfB a.f__law_marks a.d__law_marks
 b__law_marks:za4 K a.d__law_marks ["_law_caught"] []
 m__law_marks:mg "_law_marks"=some (.ref a.f__law_marks)
 F__law_asked:Fun K "_law_asked" "_law_asked" zfG a.f__law_asked a.d__law_asked
 b__law_asked:za4 K a.d__law_asked ["_law_k","_law_boxes_here","_law_budget","_law_plan"] []
 m__law_asked:mg "_law_asked"=some (.ref a.f__law_asked)
 F__law_refused:Fun K "_law_refused" "_law_refused" zeI a.f__law_refused a.d__law_refused
 b__law_refused:za4 K a.d__law_refused ["_law_k","_law_boxes_here","_law_budget","_law_plan"] []
 m__law_refused:mg "_law_refused"=some (.ref a.f__law_refused)
 F__law_no_budget:Fun K "_law_no_budget" "_law_no_budget" zdx a.f__law_no_budget a.d__law_no_budget
 b__law_no_budget:za4 K a.d__law_no_budget ["_law_purse_here"] []
 m__law_no_budget:mg "_law_no_budget"=some (.ref a.f__law_no_budget)
 F_law:Fun K "law" "law" ztp a.f_law a.d_law
 b_law:za4 K a.d_law ["_law_script"] []
 m_law:mg "law"=some (.ref a.f_law)
 z_set:mg "set"=none
 z_isinstance:mg "isinstance"=none
 z_range:mg "range"=none
 z_all:mg "all"=none
 z_sorted:mg "sorted"=none
 z_abs:mg "abs"=none
 z_sum:mg "sum"=none
 z_len:mg "len"=none
 z_list:mg "list"=none
 z_zip:mg "zip"=none
 z_int:mg "int"=none
 z_bool:mg "bool"=none
 z_tuple:mg "tuple"=none
 z_ValueError:mg "ValueError"=none
 m_HideError:mg "HideError"=some (.ref a.c_HideError)
 m_NoWeb:mg "NoWeb"=some (.ref a.c_NoWeb)
 m_NoPlan:mg "NoPlan"=some (.ref a.c_NoPlan)
 m_NoText:mg "NoText"=some (.ref a.c_NoText)
 m_NoKind:mg "NoKind"=some (.ref a.c_NoKind)
 m_TooGreat:mg "TooGreat"=some (.ref a.c_TooGreat)
 m_NoTree:mg "NoTree"=some (.ref a.c_NoTree)
 m_NoWeights:mg "NoWeights"=some (.ref a.c_NoWeights)
 m_NoTurns:mg "NoTurns"=some (.ref a.c_NoTurns)
 m_NoNumber:mg "NoNumber"=some (.ref a.c_NoNumber)
 m_NoBoxes:mg "NoBoxes"=some (.ref a.c_NoBoxes)
 m_NoBudget:mg "NoBudget"=some (.ref a.c_NoBudget)
 m_NoName:mg "NoName"=some (.ref a.c_NoName)
 m_NoOrder:mg "NoOrder"=some (.ref a.c_NoOrder)
 m_NoPlay:mg "NoPlay"=some (.ref a.c_NoPlay)
 m_NoRoad:mg "NoRoad"=some (.ref a.c_NoRoad)
 m_NoRow:mg "NoRow"=some (.ref a.c_NoRow)
 m_NoTable:mg "NoTable"=some (.ref a.c_NoTable)
 m_NoPaper:mg "NoPaper"=some (.ref a.c_NoPaper)
 m_MOST_BOXES:mg "MOST_BOXES"=some (.int 6 a.k_MOST_BOXES)
 m_MOST_COST:mg "MOST_COST"=some (.int 60 a.k_MOST_COST)
 m_MOST_OF:mg "MOST_OF"=some (.int 50 a.k_MOST_OF)
 m_MOST_BUDGET:mg "MOST_BUDGET"=some (.int 60 a.k_MOST_BUDGET)
 m_MOST_LOOKS:mg "MOST_LOOKS"=some (.int 60 a.k_MOST_LOOKS)
 x_HideError:ψg1 K a.c_HideError zgF "ValueError.__new__"=true
 x_NoBoxes:ψg1 K a.c_NoBoxes zgF "ValueError.__new__"=true
 x_NoBudget:ψg1 K a.c_NoBudget zgF "ValueError.__new__"=true
 B:ExB K a.c_HideError
 I_NoPlan:Fun K "__init__" "NoPlan.__init__" zdo a.i_NoPlan a.j_NoPlan
 bi_NoPlan:za4 K a.j_NoPlan ["self","at"] []
 X_NoPlan:ExI K a.c_NoPlan a.i_NoPlan
 xa_NoPlan:XAttr K a.c_NoPlan "at"
 I:Isa K a
 I2:Isa2 K a
def Bd(m:Nat)(x:Int):Prop:=x.natAbs<2 ^ m
theorem Bd.mono{m n:Nat}{x:Int}(h:Bd m x)(l:m≤n):Bd n x:=ψi h (ψT1 (by decide) l)
theorem Bd.mul{m n:Nat}{x y:Int}(hx:Bd m x)(hy:Bd n y):Bd (m+n) (x*y):=by
 unfold Bd at *
 rw[Int.natAbs_mul,Nat.pow_add]
 exact Nat.mul_lt_mul'' hx hy
theorem Bd.add{m:Nat}{x y:Int}(hx:Bd m x)(hy:Bd m y):Bd (m+1) (x+y):=by
 unfold Bd at *
 rw[Nat.pow_succ,Nat.mul_two]
 exact ψJ1 (Int.natAbs_add_le x y) (Nat.add_lt_add hx hy)
theorem Bd.sub{m:Nat}{x y:Int}(hx:Bd m x)(hy:Bd m y):Bd (m+1) (x - y):=by
 unfold Bd at *
 rw[Nat.pow_succ,Nat.mul_two]
 exact ψJ1 (Int.natAbs_sub_le x y) (Nat.add_lt_add hx hy)
theorem Bd.le{m:Nat}{x y:Int}(hy:Bd m y)(h:x.natAbs≤y.natAbs):Bd m x:=ψJ1 h hy
def sg(t b:Int):Int:=if b<0 then -(ψV t b:Int) else (ψV t b:Int)
def ztO(t b:Int):Int:=t.fdiv (sg t b)
def zno(t b:Int):Int:=b.fdiv (sg t b)
theorem zqu{t b:Int}(h:b≠0):ψV t b≠0:=λe=>h (Int.gcd_eq_zero_iff.mp e).2
theorem zqZ{t b:Int}(h:b≠0):sg t b≠0:=by
 have:=zqu (t:=t) h
 unfold sg
 split <;> omega
theorem zt2(t b:Int):(sg t b).natAbs=ψV t b:=by
 unfold sg
 split <;> omega
theorem zwh(t b:Int):sg t b∣t:=by
 unfold sg
 split
 ·exact Int.neg_dvd.mpr (Int.gcd_dvd_left ..)
 ·exact Int.gcd_dvd_left ..
theorem zu5(t b:Int):sg t b∣b:=by
 unfold sg
 split
 ·exact Int.neg_dvd.mpr (Int.gcd_dvd_right ..)
 ·exact Int.gcd_dvd_right ..
theorem zf9{x g:Int}(h:g∣x):x.fdiv g*g=x:=by
 rw[Int.fdiv_eq_ediv_of_dvd h]
 exact Int.ediv_mul_cancel h
theorem zkb(t b:Int):ztO t b*sg t b=t:=zf9 (zwh t b)
theorem zgW(t b:Int):zno t b*sg t b=b:=zf9 (zu5 t b)
theorem sg_le{t b:Int}(h:b≠0):(sg t b).natAbs≤b.natAbs:=by
 rw[zt2]
 exact Nat.le_of_dvd (by omega) (Int.natAbs_dvd_natAbs.mpr (Int.gcd_dvd_right t b))
theorem zhk{q g x:Int}(h:q*g=x)(hg:g≠0):q.natAbs≤x.natAbs:=by
 rw[← h,Int.natAbs_mul]
 exact Nat.le_mul_of_pos_right _ (by omega)
theorem zvv{t b:Int}(h:b≠0):(ztO t b).natAbs≤t.natAbs:=zhk (zkb t b) (zqZ h)
theorem zuH{t b:Int}(h:b≠0):(zno t b).natAbs≤b.natAbs:=zhk (zgW t b) (zqZ h)
theorem zo2{q g x:Int}(h:q*g=x)(s:(0<x∧0<g)∨(x<0∧g<0)):0<q:=by
 rcases s with ⟨a,c⟩ | ⟨a,c⟩
 ·exact Int.pos_of_mul_pos_left (by rw[h];exact a) c
 ·by_cases z:0<q
  ·exact z
  ·have h1:0≤(-q)*(-g):=Int.mul_nonneg (by omega) (by omega)
   rw[Int.neg_mul_neg,h] at h1
   omega
theorem zsD{t b:Int}(h:b≠0):0<zno t b:=by
 refine zo2 (zgW t b) ?_
 have g:=zqu (t:=t) h
 unfold sg
 split <;> omega
theorem zuI{t b:Int}(h:b≠0):ψV (ztO t b) (zno t b)=1:=by
 have e:ψV (ztO t b*sg t b) (zno t b*sg t b)=ψV (ztO t b) (zno t b)*(sg t b).natAbs:=Int.gcd_mul_right ..
 rw[zkb,zgW,zt2] at e
 exact Nat.eq_of_mul_eq_mul_right (Nat.pos_of_ne_zero (zqu h)) (by rw[Nat.one_mul];exact e.symm)
theorem zn1{t b:Int}(h:b≠0):(ψZ t b).num=ztO t b∧((ψZ t b).den:Int)=zno t b:=by
 have p:=zsD (t:=t) h
 have g:=zuI (t:=t) h
 have e2:((zno t b).toNat:Int)=zno t b:=by omega
 have nz:(zno t b).toNat≠0:=by omega
 have red:(ztO t b).natAbs.Coprime (zno t b).toNat:=by
  have e:(zno t b).toNat=(zno t b).natAbs:=by omega
  rw[e]
  exact g
 have e:ψZ t b=⟨ztO t b,(zno t b).toNat,nz,red⟩:=by
  rw[Rat.mk_eq_divInt,e2,Rat.divInt_eq_divInt_iff h (by omega)]
  have h1:=zkb t b
  have h2:=zgW t b
  generalize ztO t b=x at h1 ⊢
  generalize zno t b=y at h2 ⊢
  rw[← h1,← h2]
  grind
 rw[e]
 exact⟨rfl,e2⟩
abbrev fr(q:Rat):List L2.V:=[.int q.num,.int (q.den:Int)]
abbrev nf(q:Rat):List Int:=[q.num,(q.den:Int)]
theorem zch(q:Rat):(q.den:Int)≠0:=by
 have:=q.den_nz
 omega
theorem zet(q:Rat):0<(q.den:Int):=by
 have:=q.den_nz
 omega
theorem zqc(p q:Rat):ψZ (p.num*q.den+q.num*p.den) (p.den*q.den)=p+q:=by
 rw[← Rat.divInt_add_divInt _ _ (zch p) (zch q),ψU,ψU]
theorem zrt(p q:Rat):ψZ (p.num*q.den - q.num*p.den) (p.den*q.den)=p - q:=by
 rw[← Rat.divInt_sub_divInt _ _ (zch p) (zch q),ψU,ψU]
theorem zqk(p q:Rat):ψZ (p.num*q.num) (p.den*q.den)=p*q:=by
 rw[← Rat.divInt_mul_divInt,ψU,ψU]
theorem zkG(p q:Rat):ψZ (p.num*q.den) (p.den*q.num)=p / q:=by
 rw[← Rat.divInt_mul_divInt,ψU,← Rat.inv_divInt,ψU,Rat.div_def]
structure Bq (n:Nat) (q:Rat):Prop where
 top:Bd n q.num
 bot:Bd n (q.den:Int)
theorem Bq.mono{m n:Nat}{q:Rat}(h:Bq m q)(l:m≤n):Bq n q:=⟨h.top.mono l,h.bot.mono l⟩
theorem zck{n:Nat}{t b:Int}(h:b≠0)(ht:Bd n t)(hb:Bd n b):Bq n (ψZ t b):=by
 obtain⟨e1,e2⟩:=zn1 (t:=t) h
 exact⟨by rw[e1];exact ht.le (zvv h),by rw[e2];exact hb.le (zuH h)⟩
theorem znK{q:Rat}(h:q≠0):q.num≠0:=λe=>h (Rat.num_eq_zero.mp e)
theorem zsP{x y:Int}(hx:0≤x)(hy:0<y):ψV y (x % y)=ψV x y:=by
 obtain⟨m,rfl⟩:=ψp1 hx
 obtain⟨n,rfl⟩:=ψp1 (ψx hy)
 rw[← Int.natCast_emod]
 show Nat.gcd n (m % n)=Nat.gcd m n
 rw[Nat.gcd_comm n,← Nat.gcd_rec,Nat.gcd_comm]
theorem zqr{x y:Int}(hx:0≤x)(hy:0<y):ψV y (x.fmod y)=ψV x y:=by
 rw[ψj1 x (ψx hy)]
 exact zsP hx hy
theorem zt0(i:Int):(if i<0 then -i else i)=(i.natAbs:Int):=by
 split <;> omega
theorem zoM(u:Int)(h:0≤u):((ψV u 0:Nat):Int)=u:=by
 show((Nat.gcd u.natAbs 0:Nat):Int)=u
 rw[Nat.gcd_zero_right]
 omega
theorem pow18:zvQ 10 18:=⟨by decide,by decide,by decide⟩
def zlG:Sp:=λvs H Q _=>∃a b:Int,vs=[.int a,.int b]∧Q (.int (ψV a b:Nat)) H
def zrS(K:ψa):Sp:=λvs H Q _=>∃(a:Addr) (ns:List Int),vs=[.ref a]∧SqL K H a (ns.map V.int)∧ns.length≤63∧∀H',Q (.bl true) H'
abbrev Box:=Int×Int×Int
abbrev bx(b:Box):List V:=[.int b.1,.int b.2.1,.int b.2.2]
def GB(b:Box):Prop:=1≤b.1∧b.1≤60∧1≤b.2.1∧b.2.1≤b.2.2∧b.2.2≤50
theorem zaC{α β:Type}{f:α→β}{l:List α}{i:Nat}{y:β}(h:(l.map f)[i]?=some y):∃x,l[i]?=some x∧y=f x:=by
 rw[ψD] at h
 obtain⟨x,h1,h2⟩:=Option.map_eq_some_iff.mp h
 exact⟨x,h1,h2.symm⟩
def Tps{α:Type}(f:α→List V)(H:Hp)(ts:List Addr)(bs:List α):Prop:=ts.length=bs.length∧∀(i:Nat) t b,ts[i]?=some t→bs[i]?=some b→H t=some (.tup (f b))
theorem Tps.same{α:Type}{f:α→List V}{H H':Hp}{ts:List Addr}{bs:List α}(h:Tps f H ts bs)(s:zaF H H'):Tps f H' ts bs:=⟨h.1,λi t b e1 e2=>s _ _ (h.2 i t b e1 e2)⟩
theorem Tps.nil{α:Type}{f:α→List V}{H:Hp}:Tps f H [] ([]:List α):=⟨rfl,λi t b e=>by simp at e⟩
theorem Tps.put{α:Type}{f:α→List V}{H H':Hp}{ts:List Addr}{bs:List α}{t:Addr}{b:α}(h:Tps f H ts bs)(s:∀(x:Addr) (u:List V),H x=some (.tup u)→H' x=some (.tup u))(e:H' t=some (.tup (f b))):Tps f H' (ts++[t]) (bs++[b]):=by
 refine⟨by rw[ψs,ψs,h.1];rfl,λi x y e1 e2=>?_⟩
 by_cases c:i<ts.length
 ·rw[ψA1 c] at e1
  rw[ψA1 (by rw[← h.1];exact c)] at e2
  exact s _ _ (h.2 i x y e1 e2)
 ·have c1:ts.length≤i:=by omega
  rw[ψz1 c1] at e1
  rw[ψz1 (by rw[← h.1];exact c1),← h.1] at e2
  have z:i - ts.length=0:=by
   have:=(List.getElem?_eq_some_iff.mp e1).1
   simp only[ψQ,List.length_nil] at this
   omega
  rw[z] at e1 e2
  simp only[List.getElem?_cons_zero,Option.some.injEq] at e1 e2
  rw[← e1,← e2]
  exact e
theorem Tps.at{α:Type}{f:α→List V}{H:Hp}{ts:List Addr}{bs:List α}(h:Tps f H ts bs){i:Nat}{t:Addr}(e:ts[i]?=some t):∃b,bs[i]?=some b∧H t=some (.tup (f b)):=by
 have hi:=(List.getElem?_eq_some_iff.mp e).1
 rw[h.1] at hi
 exact⟨bs[i],ψd hi,h.2 i t _ e (ψd hi)⟩
theorem zaz{α:Type}{l:List α}{i:Nat}{x:α}(e:l[i]?=some x):x∈l:=ψM e
structure BP (H:Hp) (l pl:Addr) (ts:List Addr) (bs:List Box) (ns:List Int):Prop where
 hl:H l=some (.lst (ts.map V.ref))
 hb:Tps bx H ts bs
 hp:H pl=some (.lst (ns.map V.int))
 len:ns.length=bs.length
 gb:∀b∈bs,GB b
 gn:∀n∈ns,0≤n∧n≤60
 l1:1≤bs.length
 l6:bs.length≤6
theorem BP.same{H H':Hp}{l pl:Addr}{ts:List Addr}{bs:List Box}{ns:List Int}(h:BP H l pl ts bs ns)(s:zaF H H'):BP H' l pl ts bs ns :=
 ⟨s _ _ h.hl,h.hb.same s,s _ _ h.hp,h.len,h.gb,h.gn,h.l1,h.l6⟩
def chq(b:Box)(n:Int):Rat:=ψZ (b.2.2 ^ n.toNat - (b.2.2 - b.2.1) ^ n.toNat) (b.2.2 ^ n.toNat)
def zaY(bs:List Box)(ns:List Int):List Int:=ψr (λb n=>b.1*n) bs ns
def zwG(bs:List Box)(ns:List Int):List Rat:=ψr chq bs ns
def Off(p c:Addr)(H:Hp):Hp:=λb=>if b=p∨b=c then none else H b
theorem zbc(p c:Addr)(H:Hp):zaF (Off p c H) H:=λb o h=>by
 unfold Off at h
 split at h
 ·cases h
 ·exact h
theorem zt5{p c b:Addr}{H:Hp}(h1:b≠p)(h2:b≠c):Off p c H b=H b:=if_neg (λz=>z.elim h1 h2)
theorem zub{p c b:Addr}{H:Hp}{o:HO}(h:Off p c H b=some o):b≠p∧b≠c:=by
 unfold Off at h
 split at h
 ·cases h
 ·rename_i z
  exact⟨λe=>z (.inl e),λe=>z (.inr e)⟩
theorem off_p{p c:Addr}{H:Hp}{o:HO}:Off p c (upd H p o)=Off p c H:=by
 funext b
 unfold Off upd
 split
 ·rfl
 ·rename_i z
  rw[if_neg λe=>z (.inl e)]
theorem off_c{p c:Addr}{H:Hp}{o:HO}:Off p c (upd H c o)=Off p c H:=by
 funext b
 unfold Off upd
 split
 ·rfl
 ·rename_i z
  rw[if_neg λe=>z (.inr e)]
theorem zb1{p c b:Addr}{H:Hp}{o:HO}(h1:b≠p)(h2:b≠c):Off p c (upd H b o)=upd (Off p c H) b o:=by
 funext x
 unfold Off upd
 by_cases e:x=b
 ·subst e
  rw[if_neg λz=>z.elim h1 h2,if_pos rfl,if_pos rfl]
 ·rw[if_neg e,if_neg e]
structure Pur (H:Hp) (p c:Addr) (t:Int):Prop where
 ne:p≠c
 hp:H p=some (.lst [.ref c,.int t])
 hc:∃ns:List Int,H c=some (.lst (ns.map V.int))∧0<ns.length∧ns.length≤63
 t0:0≤t
theorem Pur.new{H:Hp}{p c:Addr}{t:Int}(h:Pur H p c t){b:Addr}(hb:H b=none):b≠p∧b≠c:=by
 obtain⟨ns,hc,_⟩:=h.hc
 exact⟨(zaM h.hp hb).symm,(zaM hc hb).symm⟩
theorem Pur.upd{H:Hp}{p c:Addr}{t:Int}(h:Pur H p c t){b:Addr}{o:HO}(h1:b≠p)(h2:b≠c):Pur (L2.upd H b o) p c t:=by
 obtain⟨ns,hc,e⟩:=h.hc
 exact⟨h.ne,by rw[zaP h1.symm];exact h.hp,⟨ns,by rw[zaP h2.symm];exact hc,e⟩,h.t0⟩
theorem zff{H:Hp}{p c b:Addr}(hb:H b=none):Off p c H b=none:=by
 unfold Off
 split
 ·rfl
 ·exact hb
theorem Pur.same{H H':Hp}{p c:Addr}{t:Int}(h:Pur H p c t)(s:zaF H H'):Pur H' p c t:=by
 obtain⟨ns,hc,e⟩:=h.hc
 exact⟨h.ne,s _ _ h.hp,⟨ns,s _ _ hc,e⟩,h.t0⟩
theorem zig{H H':Hp}(p c:Addr)(s:zaF H H'):zaF (Off p c H) (Off p c H'):=λb o h=>by
 have n:=zub h
 rw[zt5 n.1 n.2] at h ⊢
 exact s _ _ h
def zsV:Sp:=λvs H Q _=>∃b n:Int,vs=[.int b,.int n]∧0≤n∧n≤60∧0≤b∧b≤50∧Q (.int (b ^ n.toNat)) H
def zei:Sp:=λvs H Q _=>∃(p:Addr) (b:Box) (n:Int),vs=[.ref p,.int n]∧H p=some (.tup (bx b))∧GB b∧0≤n∧n≤60∧∀(r:Addr) (H':Hp),zaF H H'→H' r=some (.tup [.int ((b.2.2 - b.2.1) ^ n.toNat),.int (b.2.2 ^ n.toNat)])→Q (.ref r) H'
def zgg:Sp:=λvs H Q _=>∃(p:Addr) (b:Box) (n:Int),vs=[.ref p,.int n]∧H p=some (.tup (bx b))∧GB b∧0≤n∧n≤60∧∀(r:Addr) (H':Hp),zaF H H'→H' r=some (.tup (fr (chq b n)))→Q (.ref r) H'
def zjb:Sp:=λvs H Q _=>∃(l pl:Addr) (ts:List Addr) (bs:List Box) (ns:List Int),vs=[.ref l,.ref pl]∧BP H l pl ts bs ns∧∀H',zaF H H'→Q (.int (zaY bs ns).sum) H'
def zra(K:ψa):Sp:=λvs H Q _=>∃(s:Addr) (ns:List Int),vs=[.ref s]∧SqL K H s (ns.map V.int)∧∀(p c:Addr) (H':Hp),zaF H H'→Pur H' p c 0→Q (.ref p) H'
def zbT:Sp:=λvs H Q _=>∃(p c:Addr) (t m:Int),vs=[.ref p,.int m]∧Pur H p c t∧t<100000∧0<m∧m≤1000000000000000000000000000000∧∀(r:Int) (H':Hp),0≤r→r<m→Off p c H'=Off p c H→Pur H' p c (t+1)→Q (.int r) H'
def zlB:Sp:=λvs H Q _=>∃t b:Int,vs=[.int t,.int b]∧b≠0∧Bd 6000 b∧∀(r:Addr) (H':Hp),zaF H H'→H' r=some (.tup (fr (ψZ t b)))→Q (.ref r) H'
theorem zt8{t b:Int}(h:b≠0)(hb:Bd 6000 b):(sg t b).natAbs.log2<9000:=zhG 6000 (zqZ h) (hb.le (sg_le h))
theorem zdd{p:Rat}(p0:0≤p)(p1:p≤1):∀n:Nat,1 - (1 - p) ^ n≤(n:Rat)*p∧0≤(1 - p) ^ n∧(1 - p) ^ n≤1
 | 0=>by
  rw[ψm1]
  refine⟨?_,?_,ψV1⟩ <;> grind
 | n+1=>by
  obtain⟨h1,h2,h3⟩:=zdd p0 p1 n
  have q0:0≤1 - p:=by grind
  have m1:0≤(1 - p) ^ n*(1 - p):=Rat.mul_nonneg h2 q0
  have m2:0≤(1 - p) ^ n*p:=Rat.mul_nonneg h2 p0
  have m3:(1 - p) ^ n*p≤1*p:=ψL1 h3 p0
  rw[ψn1]
  have c:((n+1:Nat):Rat)=(n:Rat)+1:=by exact_mod_cast rfl
  rw[c]
  refine⟨?_,m1,?_⟩ <;> grind
inductive Tg (H:Hp):V→Prop where
 | non:Tg H .non
 | bl (b:Bool):Tg H (.bl b)
 | int (i:Int):Tg H (.int i)
 | str (x:Str):Tg H (.str x)
 | lst {a:Addr} {xs:List V} (h:H a=some (.lst xs)):Tg H (.ref a)
 | tup {a:Addr} {xs:List V} (h:H a=some (.tup xs)):Tg H (.ref a)
theorem Tg.same{H H':Hp}{v:V}(h:Tg H v)(s:zaF H H'):Tg H' v:=by
 cases h with
 | non=>exact .non
 | bl b=>exact .bl b
 | int i=>exact .int i
 | str x=>exact .str x
 | lst h=>exact .lst (s _ _ h)
 | tup h=>exact .tup (s _ _ h)
inductive NL (H:Hp):V→Prop where
 | non:NL H .non
 | bl (b:Bool):NL H (.bl b)
 | int (i:Int):NL H (.int i)
 | str (x:Str):NL H (.str x)
 | tup {a:Addr} {xs:List V} (h:H a=some (.tup xs)):NL H (.ref a)
theorem NL.same{H H':Hp}{v:V}(h:NL H v)(s:zaF H H'):NL H' v:=by
 cases h with
 | non=>exact .non
 | bl b=>exact .bl b
 | int i=>exact .int i
 | str x=>exact .str x
 | tup h=>exact .tup (s _ _ h)
def isI:V→Bool
 | .int _=>true
 | _=>false
def wi(l m:Int):V→Bool
 | .int i=>decide (l≤i∧i≤m)
 | _=>false
def nn:V→Bool
 | .int i=>decide (0≤i)
 | _=>false
def iv:V→Int
 | .int i=>i
 | _=>0
def gW(n:Int)(xs:List V):Bool:=decide ((xs.length:Int)=n)&&xs.all nn&&decide (0<(xs.map iv).sum)
def gB:List V→Bool
 | [c,h,o]=>wi 1 60 c&&wi 1 50 o&&wi 1 (iv o) h
 | _=>false
def BxR(H:Hp)(x:V)(c:Bool):Prop:=((∀(a:Addr) (ys:List V),x=.ref a→H a≠some (.tup ys))∧Tg H x∧c=false)∨∃(t:Addr) (ys:List V),x=.ref t∧H t=some (.tup ys)∧(∀y∈ys,Tg H y)∧c=gB ys
def gP(n:Nat)(xs:List V):Bool:=decide (xs.length=n)&&xs.all (wi 0 60)
def gO(ns:List Int)(xs:List V):Bool:=xs.all (wi 0 ((ns.length:Int) - 1))&&decide (((ψi1 ns.length).map λk:Nat=>((xs.countP λz=>eqV z (V.int (k:Int)):Nat):Int))=ns)
theorem zir:∀{xs:List V},xs.all nn=true→∃is:List Int,xs=is.map V.int
 | [],_=>⟨[],rfl⟩
 | x::xs,h=>by
  rw[List.all_cons,ψL] at h
  obtain⟨is,rfl⟩:=zir h.2
  cases x with
  | int i=>exact⟨i::is,rfl⟩
  | _=>exact absurd h.1 (by simp[nn])
def zdb:Sp:=λvs H Q _=>∃v:V,vs=[v]∧Tg H v∧Q (.bl (isI v)) H
def zcF:Sp:=λvs H Q _=>∃(v:V) (l m:Int),vs=[v,.int l,.int m]∧Tg H v∧Q (.bl (wi l m v)) H
def zm0:Sp:=λvs H Q _=>∃(v:V) (n:Int),vs=[v,.int n]∧((NL H v∧Q (.bl false) H)∨∃(a:Addr) (xs:List V),v=.ref a∧H a=some (.lst xs)∧xs.length≤900∧(∀x∈xs,Tg H x)∧∀H',zaF H H'→Q (.bl (gW n xs)) H')
def znS:Sp:=λvs H Q _=>∃(v:V) (c:Bool),vs=[v]∧BxR H v c∧Q (.bl c) H
def ze4:Sp:=λvs H Q _=>∃(v:V) (l:Addr) (bs:List V),vs=[v,.ref l]∧H l=some (.lst bs)∧((NL H v∧Q (.bl false) H)∨∃(a:Addr) (xs:List V),v=.ref a∧H a=some (.lst xs)∧xs.length≤900∧(∀x∈xs,Tg H x)∧∀H',zaF H H'→Q (.bl (gP bs.length xs)) H')
def BxL(H:Hp)(xs:List V)(cs:List Bool):Prop:=xs.length=cs.length∧∀(i:Nat) x c,xs[i]?=some x→cs[i]?=some c→BxR H x c
def gBs(cs:List Bool):Prop:=1≤cs.length∧cs.length≤6∧cs.all id=true
section
variable {P:Program} {w:World} {mg:Str→Option Value} {base:Heap}
variable {K:ψa} {H:Hp} {Q:VK} {a:Ad}
def zi0:TS :=
 (zaK (za2 (tOp (rI (λ_ j=>j≠0) λi j=>.int (i.fmod j)) (zac 0) (zac 1)) (zag 2))
 (zaK (za2 (zac 1) (zag 0))
 (za2 (zac 2) (zag 1))))
theorem zgw(D:zbP)(σ:St)(H:Hp):zi0 D σ H=(zaK (za2 (tOp (rI (λ_ j=>j≠0) λi j=>.int (i.fmod j)) (zac 0) (zac 1)) (zag 2))
 (zaK (za2 (zac 1) (zag 0))
 (za2 (zac 2) (zag 1)))) D σ H:=rfl
def zi1(K:ψa):TS :=
 (zaK (za2 (tCB (λxs H Q=>∃i,xs=[.int i]∧Q (.int (if i<0 then -i else i)) H) (zab (zac 0) zak)) (zag 0))
 (zaK (za2 (tCB (λxs H Q=>∃i,xs=[.int i]∧Q (.int (if i<0 then -i else i)) H) (zab (zac 1) zak)) (zag 1))
 (zaK (znE (tTru K (zac 1)) (zi0))
 (zbb (zac 0)))))
theorem zo8{x y:Int}(q:Q (.int (ψV x y:Nat)) H):zi1 K { nx:=λ_ H'=>Q .non H',rt:=Q } (L2.start ["one","other","rest"] [.int x,.int y]) H:=by
 unfold zi1
 simp_all only [zgw,zac]
 refine znG (λσ H'=>H'=H∧∃u v r,σ=[some (.int u),some (.int v),r]∧0≤u∧0≤v∧ψV u v=ψV x y) (λσ _=>match σ with | [_,some (.int y),_]=>y.toNat | _=>0) ?_ ?_ ?_
 ·rw[zt0,zt0]
  exact⟨rfl,_,_,_,rfl,by omega,by omega,rfl⟩
 ·rintro σ H' ⟨rfl,u,v,r,rfl,hu,hv,hg⟩
  simp_all only [zgw,zac]
  refine zel (λc=>?_) (λc=>?_)
  ·have c':v≠0:=by simpa using c
   have hv':0<v:=by omega
   refine⟨c',hv,Int.fmod_nonneg_of_pos u hv',?_,?_⟩
   ·rw[zqr hu hv',hg]
   ·have:=Int.fmod_lt_of_pos u hv'
    omega
  ·have c':v=0:=by simpa using c
   subst c'
   rw[← hg,zoM u hu] at q
   exact q
 ·rintro σ H1 Q1 Q2 hQ ⟨v,hv,k,hk,h⟩
  exact⟨v,hv,k,hk,hQ _ _ h⟩
theorem zdZ:zaA ["one","other","rest"] ["one","other"] (zai zi5):=⟨rfl,rfl,rfl,by decide +kernel,rfl,by decide +kernel,by decide +kernel⟩
theorem zgf(T:Txt K mg a):zcC P w K mg base CX0 1 a.f_divisor a.d_divisor ["one","other"] zlG:=by
 refine T.F_divisor.ok zdZ (λvs H Q E h=>?_) (λcdv A outer s H vs Q E hr h=>?_)
 ·obtain⟨x,y,rfl,q⟩:=h
  rfl
 obtain⟨x,y,rfl,q⟩:=h
 exact⟨zi1 K,(zaf (zaL (i:=0) zdZ.nd rfl (Or.inl rfl) (zat znC rfl T.z_abs PyProof.Rows.boot_abs (zaa (pv 0) zad)))
 (zaf (zaL (i:=1) zdZ.nd rfl (Or.inl rfl) (zat znC rfl T.z_abs PyProof.Rows.boot_abs (zaa (pv 1) zad)))
 (zaf (znT PassesOwn.never (znW (pv 1) (λ_=>rfl)) (zaf (zaL (i:=2) zdZ.nd rfl (Or.inl rfl) (zaB zhj (pv 0) (pv 1)))
 (zaf (zaL (i:=0) zdZ.nd rfl (Or.inl rfl) (pv 1))
 (zam (zaL (i:=1) zdZ.nd rfl (Or.inl rfl) (pv 2))))))
 (zam (zaD (pv 0)))))),
  zo8 q⟩
def ziB:TS :=
 (zbb (zbV (zab (tOp (rI (λ_ j=>j≠0∧j.natAbs.log2<9000) λi j=>.int (i.fdiv j)) (zac 0) (zac 2)) (zab (tOp (rI (λ_ j=>j≠0∧j.natAbs.log2<9000) λi j=>.int (i.fdiv j)) (zac 1) (zac 2)) zak))))
theorem zdn(D:zbP)(σ:St)(H:Hp):ziB D σ H=(zbb (zbV (zab (tOp (rI (λ_ j=>j≠0∧j.natAbs.log2<9000) λi j=>.int (i.fdiv j)) (zac 0) (zac 2)) (zab (tOp (rI (λ_ j=>j≠0∧j.natAbs.log2<9000) λi j=>.int (i.fdiv j)) (zac 1) (zac 2)) zak)))) D σ H:=rfl
def zlW:TS :=
 (zaK (za2 (zar zlG [] E0 (zab (zac 0) (zab (zac 1) zak))) (zag 2))
 (zaK (zdq (zca (zbE (tOp (rI0 λi j=>.bl (decide (i<j))) (zac 1) (tC (.int 0)))) (za2 (tUn (rU λi=>.int (-i)) (zac 2)) (zag 2)) zaV))
 (ziB)))
theorem zdp(D:zbP)(σ:St)(H:Hp):zlW D σ H=(zaK (za2 (zar zlG [] E0 (zab (zac 0) (zab (zac 1) zak))) (zag 2))
 (zaK (zdq (zca (zbE (tOp (rI0 λi j=>.bl (decide (i<j))) (zac 1) (tC (.int 0)))) (za2 (tUn (rU λi=>.int (-i)) (zac 2)) (zag 2)) zaV))
 (ziB))) D σ H:=rfl
def zml:TS :=
 (zaK (zdq (zca (zbE (tOp rEq (zac 1) (tC (.int 0)))) zt1 zaV))
 (zlW))
theorem zr2{t b:Int}(h:b≠0)(hb:Bd 6000 b)(q:∀(r:Addr) (H':Hp),zaF H H'→H' r=some (.tup (fr (ψZ t b)))→Q (.ref r) H') :
  zml { nx:=λ_ H'=>Q .non H',rt:=Q } (L2.start ["top","bottom","shared"] [.int t,.int b]) H:=by
 unfold zml
 simp_all only [zdn,zdp,zac]
 refine⟨λσ H'=>H'=H∧σ=[some (.int t),some (.int b),none],?_,?_⟩
 ·simp_all only [zdn,zdp,zac]
  exact zel (λc=>absurd c h) (λ_=>trivial)
 ·rintro σ H' ⟨e,rfl⟩
  rw[e]
  simp_all only [zdn,zdp,zac]
  refine⟨t,b,rfl,?_⟩
  refine⟨λσ H'=>H'=H∧σ=[some (.int t),some (.int b),some (.int (sg t b))],?_,?_⟩
  ·simp_all only [zdn,zdp,zac]
   unfold sg
   exact zel (λc=>by rw[if_pos c]) (λc=>by rw[if_neg c])
  ·rintro σ H' ⟨e,rfl⟩
   rw[e]
   simp_all only [zdn,zdp,zac]
   refine⟨zqZ h,zt8 h hb,zqZ h,zt8 h hb,by decide,λp hp=>q p _ (zaq hp _) ?_⟩
   rw[fr,(zn1 h).1,(zn1 h).2]
   exact zaj
theorem zkq:zaA ["top","bottom","shared"] ["top","bottom"] (zai zmT):=⟨rfl,rfl,rfl,by decide +kernel,rfl,by decide +kernel,by decide +kernel⟩
theorem ze9(T:Txt K mg a):zcC P w K mg base CX0 2 a.f_ratio a.d_ratio ["top","bottom"] zlB:=by
 have G_divisor:=zgf (P:=P) (w:=w) (base:=base) T
 refine T.F_ratio.ok zkq (λvs H Q E h=>?_) (λcdv A outer s H vs Q E hr h=>?_)
 ·obtain⟨t,b,rfl,h,hb,q⟩:=h
  rfl
 obtain⟨t,b,rfl,h,hb,q⟩:=h
 exact⟨zml,(zaf (zbB (zbW (zbG zm5 (pv 1) zah (za9 _)) (zam ztm) zaQ))
 (zaf (zaL (i:=2) zkq.nd rfl (Or.inl rfl) (zal G_divisor (hr.mono (by decide)) rfl T.m_divisor T.F_divisor.kp T.b_divisor .nil zaH (zaa (pv 0) (zaa (pv 1) zad))))
 (zaf (zbB (zbW (zbG zqW (pv 1) zah (za9 _)) (zam (zaL (i:=2) zkq.nd rfl (Or.inl rfl) (zsd znI (pv 2)))) zaQ))
 (zam (zaD (za3 (zaa (zaB zdV (pv 0) (pv 2)) (zaa (zaB zdV (pv 1) (pv 2)) zad)))))))),
  zr2 h hb q⟩
theorem znV{b:Int}(h0:0≤b)(h1:b≤50):∀n:Nat,0≤b ^ n∧b ^ n≤50 ^ n
 | 0=>by simp
 | n+1=>by
  obtain⟨z1,z2⟩:=znV h0 h1 n
  rw[Int.pow_succ,Int.pow_succ]
  exact⟨Int.mul_nonneg z1 h0,Int.mul_le_mul z2 h1 h0 (Int.le_trans z1 z2)⟩
theorem zhB{b:Int}(h0:0≤b)(h1:b≤50){n:Nat}(hn:n≤60):Bd 400 (b ^ n):=by
 obtain⟨z1,z2⟩:=znV h0 h1 n
 have z3:(50:Int) ^ n≤50 ^ 60:=by
  exact_mod_cast ψT1 (n:=50) (by decide) hn
 have z4:(50:Int) ^ 60<2 ^ 400:=by decide +kernel
 unfold Bd
 have:(b ^ n).natAbs<(2:Int) ^ 400:=by omega
 omega
theorem zio{b:Int}(h0:1≤b):∀n:Nat,0<b ^ n
 | 0=>by simp
 | n+1=>by
  rw[Int.pow_succ]
  exact ψW1 (zio h0 n) (by omega)
def zmo:TS :=
 (zaK (za2 (tC (.int 1)) (zag 2))
 (zaK (zjy (zg4 (zab (zac 1) zak)) (zag 3)
 (za2 (tOp (rI IntMulOk λi j=>.int (i*j)) (zac 2) (zac 0)) (zag 2)))
 (zbb (zac 2))))
theorem zrM{b n:Int}(n0:0≤n)(n1:n≤60)(b0:0≤b)(b1:b≤50)(q:Q (.int (b ^ n.toNat)) H) :
  zmo { nx:=λ_ H'=>Q .non H',rt:=Q } (L2.start ["base","count","product","k"] [.int b,.int n]) H:=by
 unfold zmo
 simp_all only [zac]
 refine⟨by omega,by omega,?_⟩
 refine ze0 (λi σ H'=>H'=H∧∃k,σ=[some (.int b),some (.int n),some (.int (b ^ i)),k]) ⟨rfl,none,by rw[Int.pow_zero]⟩ ?_ ?_
 ·rintro i σ H' hi ⟨rfl,k,rfl⟩
  simp_all only [zac]
  exact⟨zrw (by omega) (by omega),by rw[Int.pow_succ]⟩
 ·rintro σ H' ⟨rfl,k,rfl⟩
  simp_all only [zac]
  exact q
theorem zic:zaA ["base","count","product","k"] ["base","count"] (zai zmD):=⟨rfl,rfl,rfl,by decide +kernel,rfl,by decide +kernel,by decide +kernel⟩
theorem zn6(T:Txt K mg a):zcC P w K mg base CX0 1 a.f_power a.d_power ["base","count"] zsV:=by
 refine T.F_power.ok zic (λvs H Q E h=>?_) (λcdv A outer s H vs Q E hr h=>?_)
 ·obtain⟨b,n,rfl,n0,n1,b0,b1,q⟩:=h
  rfl
 obtain⟨b,n,rfl,n0,n1,b0,b1,q⟩:=h
 exact⟨zmo,(zaf (zaL (i:=2) zic.nd rfl (Or.inl rfl) zah)
 (zaf (zeq PassesOwn.never rfl (zd1 rfl T.z_range (zaa (pv 1) zad)) (zao (i:=3) zic.nd rfl (Or.inl rfl))
 (zam (zaL (i:=2) zic.nd rfl (Or.inl rfl) (zaB zaG (pv 2) (pv 0)))))
 (zam (zaD (pv 2))))),
  zrM n0 n1 b0 b1 q⟩
open HT in
theorem cut63(ns:List Int):∃ms:List Int,zgT (ns.map V.int) none (some 63)=ms.map V.int∧ms.length≤63:=by
 refine⟨ns.take 63,?_,by rw[ψH];omega⟩
 unfold zgT
 rw[znQ,Nat.sub_zero,List.drop_zero]
 have e:sIx (ns.map V.int).length (ns.map V.int).length (some 63)=min 63 (ns.map V.int).length:=zpZ _ _ 63
 rw[e,List.map_take]
 by_cases c:63≤(ns.map V.int).length
 ·rw[Nat.min_eq_left c]
 ·have c':(ns.map V.int).length≤63:=by omega
  rw[Nat.min_eq_right c',ψT (ψh _),ψT c']
def zfD(K:ψa):TS :=
 (zaK (za2 (tSl (zsb K) (zac 0) zfe (zle (tC (.int 63)))) (zag 1))
 (zaK (zdq (zca (zbE (tOp (rEqE K) (zac 1) (zcV zak))) (za2 (zcV (zab (tC (.int 0)) zak)) (zag 1)) zaV))
 (zbb (zcV (zab (zac 1) (zab (tC (.int 0)) zak))))))
theorem zkz{s:Addr}{ns:List Int}(hS:SqL K H s (ns.map V.int))(q:∀(p c:Addr) (H':Hp),zaF H H'→Pur H' p c 0→Q (.ref p) H') :
  zfD K { nx:=λ_ H'=>Q .non H',rt:=Q } (L2.start ["_law_script","_law_cells"] [.ref s]) H:=by
 unfold zfD
 simp_all only [zac]
 refine⟨_,hS,λc hc=>?_⟩
 obtain⟨ms,em,lm⟩:=cut63 ns
 rw[em]
 refine⟨λσ H'=>zaF H H'∧∃(c:Addr) (ms:List Int),σ=[some (.ref s),some (.ref c)]∧H' c=some (.lst (ms.map V.int))∧0<ms.length∧ms.length≤63,?_,?_⟩
 ·simp_all only [zac]
  refine⟨by decide,λe he=>?_⟩
  have hce:c≠e:=zaM zaj he
  refine⟨_,SqL.of (by rw[zaP hce];exact zaj),SqL.of zaj,?_⟩
  refine zel (λz=>?_) (λz=>?_)
  ·refine⟨by decide,λd hd=>⟨((zaq hc _).add he).add hd,[0],zaj,by decide,by decide⟩⟩
  ·refine⟨(zaq hc _).add he,ms,by rw[zaP hce];exact zaj,?_,lm⟩
   cases ms with
   | nil=>exact absurd rfl z
   | cons x xs=>exact Nat.succ_pos _
 ·rintro σ H' ⟨s1,c,ms,rfl,h1,h2,h3⟩
  simp_all only [zac]
  refine⟨by decide,λp hp=>q p c _ (s1.add hp) ⟨(zaM h1 hp).symm,zaj,⟨ms,by rw[zaP (zaM h1 hp)];exact h1,h2,h3⟩,by decide⟩⟩
theorem zfa:zaA ["_law_script","_law_cells"] ["_law_script"] (zai zfM):=⟨rfl,rfl,rfl,by decide +kernel,rfl,by decide +kernel,by decide +kernel⟩
theorem zkK(T:Txt K mg a):zcC P w K mg base CX0 1 a.f__law_purse a.d__law_purse ["_law_script"] (zra K):=by
 refine T.F__law_purse.ok zfa (λvs H Q E h=>?_) (λcdv A outer s H vs Q E hr h=>?_)
 ·obtain⟨s,ns,rfl,hS,q⟩:=h
  rfl
 obtain⟨s,ns,rfl,hS,q⟩:=h
 exact⟨zfD K,(zaf (zaL (i:=1) zfa.nd rfl (Or.inl rfl) (zii zkg (pv 0) zke (zk2 zah)))
 (zaf (zbB (zbW (zbG (zyS hr.units) (pv 1) (zbK zad) (za9 _)) (zam (zaL (i:=1) zfa.nd rfl (Or.inl rfl) (zbK (zaa zah zad)))) zaQ))
 (zam (zaD (zbK (zaa (pv 1) (zaa zah zad))))))),
  zkz hS q⟩
theorem logM{m:Int}(h0:0<m)(h1:m≤1000000000000000000000000000000):m.natAbs.log2<9000:=zhG 100 (by omega) (by omega)
theorem zxH{n j:Nat}(h:j<n):ixN n (j:Int)=some j:=by
 unfold ixN
 rw[if_pos (by omega),if_pos (by omega)]
 simp
def zg6:TS :=
 (zaK (za2 (tOp (rI (λ_ j=>0<j) λi j=>.int (i % j)) (tOp (rI0 λi j=>.int (i+j)) (tOp (rI0 λi j=>.int (i+j)) (tOp (rI IntMulOk λi j=>.int (i*j)) (zac 5) (tC (.int 48271))) (tOp (rI IntMulOk λi j=>.int (i*j)) (tOp (rI IntMulOk λi j=>.int (i*j)) (zac 3) (zac 3)) (tC (.int 69621)))) (tC (.int 7))) (tC (.int 2147483647))) (zag 6))
 (zaK (za2 (tOp (rI (λ_ j=>0<j) λi j=>.int (i % j)) (tOp (rI IntMulOk λi j=>.int (i*j)) (zac 6) (zac 6)) (tC (.int 2147483629))) (zag 6))
 (zbb (tOp (rI (λ_ j=>j≠0) λi j=>.int (i.fmod j)) (tOp (rI (λ_ j=>0<j) λi j=>.int (i % j)) (tOp (rI IntMulOk λi j=>.int (i*j)) (zac 6) (zac 6)) (tC (.int 2147483587))) (zac 1)))))
theorem zb3(D:zbP)(σ:St)(H:Hp):zg6 D σ H=(zaK (za2 (tOp (rI (λ_ j=>0<j) λi j=>.int (i % j)) (tOp (rI0 λi j=>.int (i+j)) (tOp (rI0 λi j=>.int (i+j)) (tOp (rI IntMulOk λi j=>.int (i*j)) (zac 5) (tC (.int 48271))) (tOp (rI IntMulOk λi j=>.int (i*j)) (tOp (rI IntMulOk λi j=>.int (i*j)) (zac 3) (zac 3)) (tC (.int 69621)))) (tC (.int 7))) (tC (.int 2147483647))) (zag 6))
 (zaK (za2 (tOp (rI (λ_ j=>0<j) λi j=>.int (i % j)) (tOp (rI IntMulOk λi j=>.int (i*j)) (zac 6) (zac 6)) (tC (.int 2147483629))) (zag 6))
 (zbb (tOp (rI (λ_ j=>j≠0) λi j=>.int (i.fmod j)) (tOp (rI (λ_ j=>0<j) λi j=>.int (i % j)) (tOp (rI IntMulOk λi j=>.int (i*j)) (zac 6) (zac 6)) (tC (.int 2147483587))) (zac 1))))) D σ H:=rfl
def zgY:TS :=
 (zca (zbE (tOp (rI0 λi j=>.bl (decide (j≤i))) (zac 5) (tOp (rI zvQ λi j=>.int (i ^ j.toNat)) (tC (.int 10)) (tC (.int 18))))) (zaK (za2 (tOp (rI (λ_ j=>j≠0∧j.natAbs.log2<9000) λi j=>.int (i.fdiv j)) (zac 5) (zac 1)) (zxG (zac 2) (zac 4) zq9))
 (zbb (tOp (rI (λ_ j=>j≠0) λi j=>.int (i.fmod j)) (zac 5) (zac 1)))) zaV)
theorem zb4(D:zbP)(σ:St)(H:Hp):zgY D σ H=(zca (zbE (tOp (rI0 λi j=>.bl (decide (j≤i))) (zac 5) (tOp (rI zvQ λi j=>.int (i ^ j.toNat)) (tC (.int 10)) (tC (.int 18))))) (zaK (za2 (tOp (rI (λ_ j=>j≠0∧j.natAbs.log2<9000) λi j=>.int (i.fdiv j)) (zac 5) (zac 1)) (zxG (zac 2) (zac 4) zq9))
 (zbb (tOp (rI (λ_ j=>j≠0) λi j=>.int (i.fmod j)) (zac 5) (zac 1)))) zaV) D σ H:=rfl
def zgG(K:ψa):TS :=
 (zaK (za2 (zac 0) (gLst K 2 (zax (zag 2) (zax (zag 3) zcR))))
 (zaK (za2 (tOp (rI (λ_ j=>j≠0) λi j=>.int (i.fmod j)) (zac 3) (tCB (λxs H Q=>∃p ys,xs=[.ref p]∧(SqL K H p ys∨SqT K H p ys)∧Q (.int ys.length) H) (zab (zac 2) zak))) (zag 4))
 (zaK (za2 (tOp (zhO K) (zac 2) (zac 4)) (zag 5))
 (zaK (za2 (tOp (rI0 λi j=>.int (i+j)) (zac 3) (tC (.int 1))) (zxG (zac 0) (tC (.int 1)) zq9))
 (zaK (zdq (zgY))
 (zg6))))))
theorem zl1{p c:Addr}{t m:Int}(hP:Pur H p c t)(t1:t<100000)(m0:0<m)(m1:m≤1000000000000000000000000000000)
  (q:∀(r:Int) (H':Hp),0≤r→r<m→Off p c H'=Off p c H→Pur H' p c (t+1)→Q (.int r) H') :
  zgG K { nx:=λ_ H'=>Q .non H',rt:=Q } (L2.start ["_law_purse_here","_law_out_of","_law_cells","_law_turn","_law_at","_law_cell","_law_number"] [.ref p,.int m]) H:=by
 unfold zgG
 obtain⟨ns,hc,l0,l1⟩:=hP.hc
 have t0:=hP.t0
 have el:((ns.map V.int).length:Int)=(ns.length:Int):=by rw[ψb]
 simp_all only [zb3,zb4,zac]
 refine⟨_,SqL.of hP.hp,rfl,_,_,rfl,_,_,rfl,rfl,?_⟩
 simp_all only [zb3,zb4,zac]
 refine⟨_,.inl (SqL.of hc),?_⟩
 rw[el]
 have lp:(0:Int)<(ns.length:Int):=by omega
 rw[ψj1 t (ψx lp)]
 have k0:=ψK1 t (show(ns.length:Int)≠0 by omega)
 have k1:=ψt1 t lp
 obtain⟨v,hv,_⟩:=zw1 (ns:=ns) k0 k1
 generalize t % (ns.length:Int)=k at k0 k1 hv ⊢
 refine⟨by omega,_,SqL.of hc,_,hv,?_⟩
 refine⟨_,hP.hp,1,rfl,?_⟩
 simp_all only [zb3,zb4,zac]
 have hp2:∀G:Hp,(L2.upd G p (.lst [.ref c,.int (t+1)])) p=some (.lst [.ref c,.int (t+1)]):=λG=>zaj
 have hc2:(L2.upd H p (.lst [.ref c,.int (t+1)])) c=some (.lst (ns.map V.int)):=by rw[zaP hP.ne.symm];exact hc
 have o2:Off p c (L2.upd H p (.lst [.ref c,.int (t+1)]))=Off p c H:=off_p
 have hp3:=hp2 H
 generalize L2.upd H p (.lst [.ref c,.int (t+1)])=G at hp3 hc2 o2 ⊢
 refine⟨λσ H'=>H'=G∧σ=[some (.ref p),some (.int m),some (.ref c),some (.int t),some (.int k),some (.int v),none],?_,?_⟩
 ·simp_all only [zb3,zb4,zac]
  refine⟨pow18,zel (λz=>?_) (λz=>trivial)⟩
  obtain⟨j,rfl⟩:=ψp1 k0
  refine⟨by omega,logM m0 m1,_,hc2,j,zxH (by rw[ψb];omega),by omega,?_⟩
  rw[ψj1 v (ψx m0)]
  refine q _ _ (ψK1 _ (by omega)) (ψt1 _ m0) (off_c.trans o2) ⟨hP.ne,by rw[zaP hP.ne];exact hp3,⟨ns.set j (v.fdiv m),?_,by rw[List.length_set];exact l0,by rw[List.length_set];exact l1⟩,by omega⟩
  rw[zaj,List.map_set]
 ·rintro σ H' ⟨e,rfl⟩
  rw[e]
  simp_all only [zb3,zb4,zac]
  have a1:IntMulOk t t:=zrw (by omega) (by omega)
  have a2:IntMulOk (t*t) 69621:=zrw (by decide) (by decide)
  generalize v*48271+t*t*69621+7=y
  have b3:=ψK1 y (show(2147483647:Int)≠0 by decide)
  have b4:=ψt1 y (show(0:Int)<2147483647 by decide)
  generalize y % 2147483647=x at b3 b4 ⊢
  have b5:=ψK1 (x*x) (show(2147483629:Int)≠0 by decide)
  have b6:=ψt1 (x*x) (show(0:Int)<2147483629 by decide)
  have a3:IntMulOk x x:=zrw (by omega) (by omega)
  generalize x*x % 2147483629=w at b5 b6 ⊢
  refine⟨zrw (by decide) (by decide),a1,a2,by decide,a3,by decide,zrw (by omega) (by omega),by decide,by omega,?_⟩
  rw[ψj1 _ (ψx m0)]
  exact q _ _ (ψK1 _ (by omega)) (ψt1 _ m0) o2 ⟨hP.ne,hp3,⟨ns,hc2,l0,l1⟩,by omega⟩
theorem zcj:zaA ["_law_purse_here","_law_out_of","_law_cells","_law_turn","_law_at","_law_cell","_law_number"] ["_law_purse_here","_law_out_of"] (zai zgN):=⟨rfl,rfl,rfl,by decide +kernel,rfl,by decide +kernel,by decide +kernel⟩
theorem zej(T:Txt K mg a):zcC P w K mg base CX0 1 a.f__law_draw a.d__law_draw ["_law_purse_here","_law_out_of"] zbT:=by
 refine T.F__law_draw.ok zcj (λvs H Q E h=>?_) (λcdv A outer s H vs Q E hr h=>?_)
 ·obtain⟨p,c,t,m,rfl,hP,t1,m0,m1,q⟩:=h
  rfl
 obtain⟨p,c,t,m,rfl,hP,t1,m0,m1,q⟩:=h
 exact⟨zgG K,(zaf (zdJ (pv 0) (zyT rfl (zap (zao (i:=2) zcj.nd rfl (Or.inl rfl)) (zap (zao (i:=3) zcj.nd rfl (Or.inl rfl)) zaW))))
 (zaf (zaL (i:=4) zcj.nd rfl (Or.inl rfl) (zaB zhj (pv 3) (zat zaN rfl T.z_len ψE (zaa (pv 2) zad))))
 (zaf (zaL (i:=5) zcj.nd rfl (Or.inl rfl) (zaS zdv (pv 2) (pv 4) (λ_ _=>rfl)))
 (zaf (zdJ (zaB zcT (pv 3) zah) (zua (pv 0) zah zog))
 (zaf (zbB (zbW (zbG zly (pv 5) (zaB zqp zah zah) (za9 _)) (zaf (zdJ (zaB zdV (pv 5) (pv 1)) (zua (pv 2) (pv 4) zog))
 (zam (zaD (zaB zhj (pv 5) (pv 1))))) zaQ))
 (zaf (zaL (i:=6) zcj.nd rfl (Or.inl rfl) (zaB zre (zaB zcT (zaB zcT (zaB zaG (pv 5) zah) (zaB zaG (zaB zaG (pv 3) (pv 3)) zah)) zah) zah))
 (zaf (zaL (i:=6) zcj.nd rfl (Or.inl rfl) (zaB zre (zaB zaG (pv 6) (pv 6)) zah))
 (zam (zaD (zaB zhj (zaB zre (zaB zaG (pv 6) (pv 6)) zah) (pv 1))))))))))),
  zl1 hP t1 m0 m1 q⟩
def zls:Sp:=λvs H Q _=>∃(x y:Addr) (u v:Rat),vs=[.ref x,.ref y]∧H x=some (.tup (fr u))∧H y=some (.tup (fr v))∧Bq 2000 u∧Bq 2000 v∧∀(r:Addr) (H':Hp),zaF H H'→H' r=some (.tup (fr (u*v)))→Q (.ref r) H'
def zmG(K:ψa):TS :=
 (zbb (zar zlB [] E0 (zab (tOp (rI IntMulOk λi j=>.int (i*j)) (tOp (zbM K) (zac 0) (tC (.int 0))) (tOp (zbM K) (zac 1) (tC (.int 0)))) (zab (tOp (rI IntMulOk λi j=>.int (i*j)) (tOp (zbM K) (zac 0) (tC (.int 1))) (tOp (zbM K) (zac 1) (tC (.int 1)))) zak))))
theorem zsF{x y:Addr}{u v:Rat}(hx:H x=some (.tup (fr u)))(hy:H y=some (.tup (fr v)))(bu:Bq 2000 u)(bv:Bq 2000 v)
  (q:∀(r:Addr) (H':Hp),zaF H H'→H' r=some (.tup (fr (u*v)))→Q (.ref r) H') :
  zmG K { nx:=λ_ H'=>Q .non H',rt:=Q } (L2.start ["one","other"] [.ref x,.ref y]) H:=by
 unfold zmG
 simp_all only [zac]
 rw[← zqk] at q
 have hx:=SqT.of (K:=K) hx
 have hy:=SqT.of (K:=K) hy
 exact⟨_,hx,_,rfl,_,hy,_,rfl,_,rfl,_,rfl,zeM 2000 2000 bu.top bv.top,_,hx,_,rfl,_,hy,_,rfl,_,rfl,_,rfl,zeM 2000 2000 bu.bot bv.bot,_,_,rfl,ψN (zch u) (zch v),(bu.bot.mul bv.bot).mono (by decide),q⟩
theorem zs8:zaA ["one","other"] ["one","other"] (zai zmC):=⟨rfl,rfl,rfl,by decide +kernel,rfl,by decide +kernel,by decide +kernel⟩
theorem zsl(T:Txt K mg a):zcC P w K mg base CX0 3 a.f_times a.d_times ["one","other"] zls:=by
 have G_ratio:=ze9 (P:=P) (w:=w) (base:=base) T
 refine T.F_times.ok zs8 (λvs H Q E h=>?_) (λcdv A outer s H vs Q E hr h=>?_)
 ·obtain⟨x,y,u,v,rfl,hx,hy,bu,bv,q⟩:=h
  rfl
 obtain⟨x,y,u,v,rfl,hx,hy,bu,bv,q⟩:=h
 exact⟨zmG K,(zam (zaD (zal G_ratio (hr.mono (by decide)) rfl T.m_ratio T.F_ratio.kp T.b_ratio .nil zaH (zaa (zaB zaG (zaS zaI (pv 0) zah (λ_ _=>rfl)) (zaS zaI (pv 1) zah (λ_ _=>rfl))) (zaa (zaB zaG (zaS zaI (pv 0) zah (λ_ _=>rfl)) (zaS zaI (pv 1) zah (λ_ _=>rfl))) zad))))),
  zsF hx hy bu bv q⟩
theorem ztb{b d:Int}(hb:0<b)(hd:0<d):0<b.fdiv (ψV b d:Nat)*d∧b∣b.fdiv (ψV b d:Nat)*d∧d∣b.fdiv (ψV b d:Nat)*d∧(∀M,b∣M→d∣M→b.fdiv (ψV b d:Nat)*d∣M)∧b.fdiv (ψV b d:Nat)*d≤b*d:=by
 obtain⟨B,rfl⟩:=ψp1 (ψx hb)
 obtain⟨D,rfl⟩:=ψp1 (ψx hd)
 have e:((B:Int).fdiv (ψV (B:Int) (D:Int):Nat))*(D:Int)=((Nat.lcm B D:Nat):Int):=by
  rw[ψX _ (by omega)]
  show(((B / Nat.gcd B D:Nat):Int))*(D:Int)=_
  rw[← Int.natCast_mul]
  congr 1
  unfold Nat.lcm
  exact Nat.div_mul_right_comm (Nat.gcd_dvd_left B D) D
 rw[e]
 have B0:0<B:=by omega
 have D0:0<D:=by omega
 refine⟨?_,Int.natCast_dvd_natCast.mpr (Nat.dvd_lcm_left B D),Int.natCast_dvd_natCast.mpr (Nat.dvd_lcm_right B D),λM h1 h2=>?_,?_⟩
 ·have:=Nat.lcm_pos B0 D0
  omega
 ·rw[Int.ofNat_dvd_left] at h1 h2 ⊢
  exact Nat.lcm_dvd h1 h2
 ·rw[← Int.natCast_mul]
  have:Nat.lcm B D≤B*D:=Nat.div_le_self _ _
  omega
structure Com (qs:List Rat) (D:Int):Prop where
 pos:0<D
 all:∀q∈qs,(q.den:Int)∣D
 least:∀M:Int,(∀q∈qs,(q.den:Int)∣M)→D∣M
def zkf:Sp:=λvs H Q _=>∃(l:Addr) (us:List Addr) (qs:List Rat),vs=[.ref l]∧H l=some (.lst (us.map V.ref))∧Tps fr H us qs∧qs.length≤60∧(∀q∈qs,Bq 2200 q)∧∀(r tl:Addr) (D:Int) (H':Hp),zaF H H'→Com qs D→H' r=some (.tup [.ref tl,.int D])→H tl=none→H' tl=some (.lst ((qs.map λq=>q.num*(D / q.den)).map V.int))→Q (.ref r) H'
def zj3(K:ψa):TS :=
 (za2 (tOp (rI IntMulOk λi j=>.int (i*j)) (tOp (rI (λ_ j=>j≠0∧j.natAbs.log2<9000) λi j=>.int (i.fdiv j)) (zac 1) (zar zlG [] E0 (zab (zac 1) (zab (tOp (zbM K) (zac 2) (tC (.int 1))) zak)))) (tOp (zbM K) (zac 2) (tC (.int 1)))) (zag 1))
theorem zdU(K:ψa)(D:zbP)(σ:St)(H:Hp):zj3 K D σ H=(za2 (tOp (rI IntMulOk λi j=>.int (i*j)) (tOp (rI (λ_ j=>j≠0∧j.natAbs.log2<9000) λi j=>.int (i.fdiv j)) (zac 1) (zar zlG [] E0 (zab (zac 1) (zab (tOp (zbM K) (zac 2) (tC (.int 1))) zak)))) (tOp (zbM K) (zac 2) (tC (.int 1)))) (zag 1)) D σ H:=rfl
def zj4(K:ψa):TS :=
 (zbb (zbV (zab (zbA (zcX K (zac 0)) (zag 0) zaE (tOp (rI IntMulOk λi j=>.int (i*j)) (tOp (zbM K) (zac 0) (tC (.int 0))) (tOp (rI (λ_ j=>j≠0∧j.natAbs.log2<9000) λi j=>.int (i.fdiv j)) (zac 1) (tOp (zbM K) (zac 0) (tC (.int 1))))) [none,some 1]) (zab (zac 1) zak))))
theorem zdT(K:ψa)(D:zbP)(σ:St)(H:Hp):zj4 K D σ H=(zbb (zbV (zab (zbA (zcX K (zac 0)) (zag 0) zaE (tOp (rI IntMulOk λi j=>.int (i*j)) (tOp (zbM K) (zac 0) (tC (.int 0))) (tOp (rI (λ_ j=>j≠0∧j.natAbs.log2<9000) λi j=>.int (i.fdiv j)) (zac 1) (tOp (zbM K) (zac 0) (tC (.int 1))))) [none,some 1]) (zab (zac 1) zak)))) D σ H:=rfl
def zkI(K:ψa):TS :=
 (zaK (za2 (tC (.int 1)) (zag 1))
 (zaK (zjy (zcX K (zac 0)) (zag 2)
 (zj3 K))
 (zj4 K)))
theorem zqb{l:Addr}{us:List Addr}{qs:List Rat}(hl:H l=some (.lst (us.map V.ref)))(ht:Tps fr H us qs)(h60:qs.length≤60)(hB:∀q∈qs,Bq 2200 q)(q:∀(r tl:Addr) (D:Int) (H':Hp),zaF H H'→Com qs D→H' r=some (.tup [.ref tl,.int D])→H tl=none→H' tl=some (.lst ((qs.map λq=>q.num*(D / q.den)).map V.int))→Q (.ref r) H') :
  zkI K { nx:=λ_ H'=>Q .non H',rt:=Q } (L2.start ["fractions","bottom","fraction"] [.ref l]) H:=by
 unfold zkI
 have ul:=ht.1
 simp_all only [zdU,zdT,zac]
 refine⟨⟨_,SqL.of hl⟩,?_⟩
 refine zeW (K:=K) (xs:=us.map V.ref) (λi σ H'=>H'=H∧∃(b:Int) (x1:Option V),Com (qs.take i) b∧Bd (2200*i+1) b∧σ=[some (.ref l),some (.int b),x1]) ⟨rfl,1,_,⟨by decide,by simp,λM _=>Int.one_dvd M⟩,by show(1:Nat)<2 ^ 1;decide,rfl⟩ ?_ ?_ ?_
 ·rintro i σ H' _ ⟨rfl,_⟩
  exact SqL.of hl
 ·rintro i v σ H1 hx ⟨rfl,b,x1,C,hb,rfl⟩
  obtain⟨t,et,rfl⟩:=zaC hx
  obtain⟨f,ef,hf⟩:=ht.at et
  have li:=(List.getElem?_eq_some_iff.mp ef).1
  have bf:=hB f (zaz ef)
  obtain⟨p1,p2,p3,p4,p5⟩:=ztb C.pos (zet f)
  have g0:(ψV b f.den:Int)≠0:=by
   have:=Int.gcd_pos_of_ne_zero_right b (zch f)
   omega
  have gle:(ψV b f.den:Int).natAbs≤(f.den:Int).natAbs:=by
   have:=Int.gcd_le_natAbs_right b (zch f)
   omega
  have fdl:(b.fdiv (ψV b f.den:Nat)).natAbs≤b.natAbs:=by
   rw[ψX _ (by omega)]
   have h1:=ψU1 (ψV b f.den:Nat) (ψx C.pos)
   have h2:=Int.ediv_nonneg (b:=((ψV b f.den:Nat):Int)) (ψx C.pos) (by omega)
   have:=C.pos
   omega
  simp_all only [zdU,zdT,zac]
  refine⟨_,SqT.of hf,_,rfl,b,_,rfl,_,rfl,g0,zhG 2200 g0 (bf.bot.le gle),_,SqT.of hf,_,rfl,_,rfl,zeM (2200*i+1) 2200 (hb.le fdl) bf.bot (by omega),rfl,_,⟨p1,λr hr=>?_,λM hM=>p4 M (C.least M λr hr=>hM r ?_) (hM f ?_)⟩,?_,rfl⟩
  ·rw[ψw,ef] at hr
   rcases List.mem_append.mp hr with h | h
   ·exact Int.dvd_trans (C.all r h) p2
   ·have:r=f:=by simpa using h
    rw[this]
    exact p3
  ·rw[ψw,ef]
   exact ψl1 _ hr
  ·rw[ψw,ef]
   exact ψq _ (by simp)
  ·have hm:=hb.mul bf.bot
   have h0:=C.pos
   have h1:=zet f
   have h2:=ψW1 h0 h1
   exact(hm.le (by omega)).mono (by omega)
 ·rintro σ H1 ⟨rfl,b,x1,C,hb,rfl⟩
  rw[ψb,ul] at C hb
  rw[ψT (ψh _)] at C
  have hb2:Bd 132001 b:=hb.mono (by omega)
  simp_all only [zdU,zdT,zac]
  refine⟨⟨_,SqL.of hl⟩,λD hD=>?_⟩
  refine zdY (K:=K) (xs:=us.map V.ref) (λj ys σ H'=>zaF H1 H'∧ys=((qs.take j).map λq=>q.num*(b / q.den)).map V.int∧∃k,σ=[k,some (.int b)]) ⟨zaq hD _,rfl,_,rfl⟩ ?_ ?_ ?_
  ·rintro j ys σ H' _ ⟨s,_⟩
   exact SqL.of (s _ _ hl)
  ·rintro j v ys σ H3 hx hD3 ⟨s3,rfl,k,rfl⟩
   obtain⟨t,et,rfl⟩:=zaC hx
   obtain⟨f,ef,hf⟩:=ht.at et
   have bf:=hB f (zaz ef)
   have lj:=(List.getElem?_eq_some_iff.mp ef).1
   have hf3:=s3 _ _ hf
   have fde:b.fdiv f.den=b / f.den:=ψX _ (ψx (zet f))
   have fdl:(b.fdiv f.den).natAbs≤b.natAbs:=by
    rw[fde]
    have h1:=ψU1 (f.den:Int) (ψx C.pos)
    have h2:=Int.ediv_nonneg (b:=(f.den:Int)) (ψx C.pos) (ψx (zet f))
    have:=C.pos
    omega
   simp_all only [zdU,zdT,zac]
   refine⟨_,SqT.of hf3,_,rfl,_,SqT.of hf3,_,rfl,_,rfl,zch f,zhG 2200 (zch f) bf.bot,_,rfl,zeM 2200 132001 bf.top (hb2.le fdl),_,hD3,zbC (by rw[ψb,ψb,ψH];omega),_,zaj,s3.put hD,?_⟩
   rw[ψw,ef,fde]
   simp
  ·rintro ys σ H3 hD3 ⟨s3,rfl,k,rfl⟩
   rw[ψb,ul,ψT (ψh _)] at hD3
   exact⟨by decide,λp hp=>q p D b _ (s3.add hp) C zaj hD (by rw[zaP (zaM hD3 hp)];exact hD3)⟩
theorem zgS:zaA ["fractions","bottom","fraction"] ["fractions"] (zai zih):=⟨rfl,rfl,rfl,by decide +kernel,rfl,by decide +kernel,by decide +kernel⟩
theorem zlv(T:Txt K mg a):zcC P w K mg base CX0 2 a.f_common a.d_common ["fractions"] zkf:=by
 have G_divisor:=zgf (P:=P) (w:=w) (base:=base) T
 refine T.F_common.ok zgS (λvs H Q E h=>?_) (λcdv A outer s H vs Q E hr h=>?_)
 ·obtain⟨l,us,qs,rfl,hl,ht,h60,hB,q⟩:=h
  rfl
 obtain⟨l,us,qs,rfl,hl,ht,h60,hB,q⟩:=h
 exact⟨zkI K,(zaf (zaL (i:=1) zgS.nd rfl (Or.inr rfl) zah)
 (zaf (zeq PassesOwn.never rfl (zbU (pv 0)) (zao (i:=2) zgS.nd rfl (Or.inl rfl))
 (zam (zaL (i:=1) zgS.nd rfl (Or.inr rfl) (zaB zaG (zaB zdV (pv 1) (zal G_divisor (hr.mono (by decide)) rfl T.m_divisor T.F_divisor.kp T.b_divisor .nil zaH (zaa (pv 1) (zaa (zaS zaI (pv 2) zah (λ_ _=>rfl)) zad)))) (zaS zaI (pv 2) zah (λ_ _=>rfl))))))
 (zam (zaD (za3 (zaa (zbX (sc:=zai zih) (N:=["fractions","bottom","fraction"]) (Nc:=["fraction","bottom"]) (cap:=[none,some 1]) rfl rfl rfl (.of (by decide +kernel)) (zbU (pv 0)) (λ_ _ _ _=>(zao (i:=0) (show ψk (["fraction","bottom"]:List Str) from by decide) rfl (Or.inl rfl))) (λ_ _ _ _=>za8) (λ_ _ _ _=>(zaB zaG (zaS zaI (pv 0) zah (λ_ _=>rfl)) (zaB zdV (pv 1) (zaS zaI (pv 0) zah (λ_ _=>rfl)))))) (zaa (pv 1) zad))))))),
  zqb hl ht h60 hB q⟩
def zmN:Sp:=λvs H Q _=>∃(x y:Addr) (u v:Rat),vs=[.ref x,.ref y]∧H x=some (.tup (fr u))∧H y=some (.tup (fr v))∧Bq 2900 u∧Bq 2900 v∧∀(r:Addr) (H':Hp),zaF H H'→H' r=some (.tup (fr (u+v)))→Q (.ref r) H'
def zoe:Sp:=λvs H Q _=>∃(x y:Addr) (u v:Rat),vs=[.ref x,.ref y]∧H x=some (.tup (fr u))∧H y=some (.tup (fr v))∧Bq 2900 u∧Bq 2900 v∧∀(r:Addr) (H':Hp),zaF H H'→H' r=some (.tup (fr (u - v)))→Q (.ref r) H'
def zj9:Sp:=λvs H Q _=>∃(x y:Addr) (u v:Rat),vs=[.ref x,.ref y]∧H x=some (.tup (fr u))∧H y=some (.tup (fr v))∧v≠0∧Bq 2900 u∧Bq 2900 v∧∀(r:Addr) (H':Hp),zaF H H'→H' r=some (.tup (fr (u / v)))→Q (.ref r) H'
def zie:Sp:=λvs H Q _=>∃(x y:Addr) (u v:Rat),vs=[.ref x,.ref y]∧H x=some (.tup (fr u))∧H y=some (.tup (fr v))∧Bq 6000 u∧Bq 6000 v∧Q (.bl (decide (u<v))) H
def zpP(K:ψa):TS :=
 (zbb (zar zlB [] E0 (zab (tOp (rI0 λi j=>.int (i+j)) (tOp (rI IntMulOk λi j=>.int (i*j)) (tOp (zbM K) (zac 0) (tC (.int 0))) (tOp (zbM K) (zac 1) (tC (.int 1)))) (tOp (rI IntMulOk λi j=>.int (i*j)) (tOp (zbM K) (zac 1) (tC (.int 0))) (tOp (zbM K) (zac 0) (tC (.int 1))))) (zab (tOp (rI IntMulOk λi j=>.int (i*j)) (tOp (zbM K) (zac 0) (tC (.int 1))) (tOp (zbM K) (zac 1) (tC (.int 1)))) zak))))
theorem zuO{x y:Addr}{u v:Rat}(hx:H x=some (.tup (fr u)))(hy:H y=some (.tup (fr v)))(bu:Bq 2900 u)(bv:Bq 2900 v)(q:∀(r:Addr) (H':Hp),zaF H H'→H' r=some (.tup (fr (u+v)))→Q (.ref r) H') :
  zpP K { nx:=λ_ H'=>Q .non H',rt:=Q } (L2.start ["one","other"] [.ref x,.ref y]) H:=by
 unfold zpP
 simp_all only [zac]
 rw[← zqc] at q
 have hx:=SqT.of (K:=K) hx
 have hy:=SqT.of (K:=K) hy
 exact⟨_,hx,_,rfl,_,hy,_,rfl,_,rfl,_,rfl,zeM 2900 2900 bu.top bv.bot,_,hy,_,rfl,_,hx,_,rfl,_,rfl,_,rfl,zeM 2900 2900 bv.top bu.bot,_,hx,_,rfl,_,hy,_,rfl,_,rfl,_,rfl,zeM 2900 2900 bu.bot bv.bot,_,_,rfl,ψN (zch u) (zch v),(bu.bot.mul bv.bot).mono (by decide),q⟩
theorem zwa:zaA ["one","other"] ["one","other"] (zai zrr):=⟨rfl,rfl,rfl,by decide +kernel,rfl,by decide +kernel,by decide +kernel⟩
theorem zq6(T:Txt K mg a):zcC P w K mg base CX0 3 a.f_plus a.d_plus ["one","other"] zmN:=by
 have G_ratio:=ze9 (P:=P) (w:=w) (base:=base) T
 refine T.F_plus.ok zwa (λvs H Q E h=>?_) (λcdv A outer s H vs Q E hr h=>?_)
 ·obtain⟨x,y,u,v,rfl,hx,hy,bu,bv,q⟩:=h
  rfl
 obtain⟨x,y,u,v,rfl,hx,hy,bu,bv,q⟩:=h
 exact⟨zpP K,(zam (zaD (zal G_ratio (hr.mono (by decide)) rfl T.m_ratio T.F_ratio.kp T.b_ratio .nil zaH (zaa (zaB zcT (zaB zaG (zaS zaI (pv 0) zah (λ_ _=>rfl)) (zaS zaI (pv 1) zah (λ_ _=>rfl))) (zaB zaG (zaS zaI (pv 1) zah (λ_ _=>rfl)) (zaS zaI (pv 0) zah (λ_ _=>rfl)))) (zaa (zaB zaG (zaS zaI (pv 0) zah (λ_ _=>rfl)) (zaS zaI (pv 1) zah (λ_ _=>rfl))) zad))))),
  zuO hx hy bu bv q⟩
def znh(K:ψa):TS :=
 (zbb (zar zlB [] E0 (zab (tOp (rI0 λi j=>.int (i - j)) (tOp (rI IntMulOk λi j=>.int (i*j)) (tOp (zbM K) (zac 0) (tC (.int 0))) (tOp (zbM K) (zac 1) (tC (.int 1)))) (tOp (rI IntMulOk λi j=>.int (i*j)) (tOp (zbM K) (zac 1) (tC (.int 0))) (tOp (zbM K) (zac 0) (tC (.int 1))))) (zab (tOp (rI IntMulOk λi j=>.int (i*j)) (tOp (zbM K) (zac 0) (tC (.int 1))) (tOp (zbM K) (zac 1) (tC (.int 1)))) zak))))
theorem ztr{x y:Addr}{u v:Rat}(hx:H x=some (.tup (fr u)))(hy:H y=some (.tup (fr v)))(bu:Bq 2900 u)(bv:Bq 2900 v)(q:∀(r:Addr) (H':Hp),zaF H H'→H' r=some (.tup (fr (u - v)))→Q (.ref r) H') :
  znh K { nx:=λ_ H'=>Q .non H',rt:=Q } (L2.start ["one","other"] [.ref x,.ref y]) H:=by
 unfold znh
 simp_all only [zac]
 rw[← zrt] at q
 have hx:=SqT.of (K:=K) hx
 have hy:=SqT.of (K:=K) hy
 exact⟨_,hx,_,rfl,_,hy,_,rfl,_,rfl,_,rfl,zeM 2900 2900 bu.top bv.bot,_,hy,_,rfl,_,hx,_,rfl,_,rfl,_,rfl,zeM 2900 2900 bv.top bu.bot,_,hx,_,rfl,_,hy,_,rfl,_,rfl,_,rfl,zeM 2900 2900 bu.bot bv.bot,_,_,rfl,ψN (zch u) (zch v),(bu.bot.mul bv.bot).mono (by decide),q⟩
theorem ztR:zaA ["one","other"] ["one","other"] (zai zmn):=⟨rfl,rfl,rfl,by decide +kernel,rfl,by decide +kernel,by decide +kernel⟩
theorem zsi(T:Txt K mg a):zcC P w K mg base CX0 3 a.f_minus a.d_minus ["one","other"] zoe:=by
 have G_ratio:=ze9 (P:=P) (w:=w) (base:=base) T
 refine T.F_minus.ok ztR (λvs H Q E h=>?_) (λcdv A outer s H vs Q E hr h=>?_)
 ·obtain⟨x,y,u,v,rfl,hx,hy,bu,bv,q⟩:=h
  rfl
 obtain⟨x,y,u,v,rfl,hx,hy,bu,bv,q⟩:=h
 exact⟨znh K,(zam (zaD (zal G_ratio (hr.mono (by decide)) rfl T.m_ratio T.F_ratio.kp T.b_ratio .nil zaH (zaa (zaB zd7 (zaB zaG (zaS zaI (pv 0) zah (λ_ _=>rfl)) (zaS zaI (pv 1) zah (λ_ _=>rfl))) (zaB zaG (zaS zaI (pv 1) zah (λ_ _=>rfl)) (zaS zaI (pv 0) zah (λ_ _=>rfl)))) (zaa (zaB zaG (zaS zaI (pv 0) zah (λ_ _=>rfl)) (zaS zaI (pv 1) zah (λ_ _=>rfl))) zad))))),
  ztr hx hy bu bv q⟩
def zpH(K:ψa):TS :=
 (zbb (zar zlB [] E0 (zab (tOp (rI IntMulOk λi j=>.int (i*j)) (tOp (zbM K) (zac 0) (tC (.int 0))) (tOp (zbM K) (zac 1) (tC (.int 1)))) (zab (tOp (rI IntMulOk λi j=>.int (i*j)) (tOp (zbM K) (zac 0) (tC (.int 1))) (tOp (zbM K) (zac 1) (tC (.int 0)))) zak))))
theorem zwp{x y:Addr}{u v:Rat}(hx:H x=some (.tup (fr u)))(hy:H y=some (.tup (fr v)))(v0:v≠0)(bu:Bq 2900 u)(bv:Bq 2900 v)(q:∀(r:Addr) (H':Hp),zaF H H'→H' r=some (.tup (fr (u / v)))→Q (.ref r) H') :
  zpH K { nx:=λ_ H'=>Q .non H',rt:=Q } (L2.start ["one","other"] [.ref x,.ref y]) H:=by
 unfold zpH
 simp_all only [zac]
 rw[← zkG] at q
 have hx:=SqT.of (K:=K) hx
 have hy:=SqT.of (K:=K) hy
 exact⟨_,hx,_,rfl,_,hy,_,rfl,_,rfl,_,rfl,zeM 2900 2900 bu.top bv.bot,_,hx,_,rfl,_,hy,_,rfl,_,rfl,_,rfl,zeM 2900 2900 bu.bot bv.top,_,_,rfl,ψN (zch u) (λz=>v0 (Rat.num_eq_zero.mp z)),(bu.bot.mul bv.top).mono (by decide),q⟩
theorem zv4:zaA ["one","other"] ["one","other"] (zai zpK):=⟨rfl,rfl,rfl,by decide +kernel,rfl,by decide +kernel,by decide +kernel⟩
theorem zmO(T:Txt K mg a):zcC P w K mg base CX0 3 a.f_over a.d_over ["one","other"] zj9:=by
 have G_ratio:=ze9 (P:=P) (w:=w) (base:=base) T
 refine T.F_over.ok zv4 (λvs H Q E h=>?_) (λcdv A outer s H vs Q E hr h=>?_)
 ·obtain⟨x,y,u,v,rfl,hx,hy,v0,bu,bv,q⟩:=h
  rfl
 obtain⟨x,y,u,v,rfl,hx,hy,v0,bu,bv,q⟩:=h
 exact⟨zpH K,(zam (zaD (zal G_ratio (hr.mono (by decide)) rfl T.m_ratio T.F_ratio.kp T.b_ratio .nil zaH (zaa (zaB zaG (zaS zaI (pv 0) zah (λ_ _=>rfl)) (zaS zaI (pv 1) zah (λ_ _=>rfl))) (zaa (zaB zaG (zaS zaI (pv 0) zah (λ_ _=>rfl)) (zaS zaI (pv 1) zah (λ_ _=>rfl))) zad))))),
  zwp hx hy v0 bu bv q⟩
def zmM(K:ψa):TS :=
 (zbb (tOp (rI0 λi j=>.bl (decide (i<j))) (tOp (rI IntMulOk λi j=>.int (i*j)) (tOp (zbM K) (zac 0) (tC (.int 0))) (tOp (zbM K) (zac 1) (tC (.int 1)))) (tOp (rI IntMulOk λi j=>.int (i*j)) (tOp (zbM K) (zac 1) (tC (.int 0))) (tOp (zbM K) (zac 0) (tC (.int 1))))))
theorem ztc{x y:Addr}{u v:Rat}(hx:H x=some (.tup (fr u)))(hy:H y=some (.tup (fr v)))(bu:Bq 6000 u)(bv:Bq 6000 v)(q:Q (.bl (decide (u<v))) H) :
  zmM K { nx:=λ_ H'=>Q .non H',rt:=Q } (L2.start ["one","other"] [.ref x,.ref y]) H:=by
 unfold zmM
 simp_all only [zac]
 have hx:=SqT.of (K:=K) hx
 have hy:=SqT.of (K:=K) hy
 rw[decide_eq_decide.mpr (Rat.lt_iff u v)] at q
 exact⟨_,hx,_,rfl,_,hy,_,rfl,_,rfl,_,rfl,zeM 6000 6000 bu.top bv.bot,_,hy,_,rfl,_,hx,_,rfl,_,rfl,_,rfl,zeM 6000 6000 bv.top bu.bot,q⟩
theorem zsx:zaA ["one","other"] ["one","other"] (zai znl):=⟨rfl,rfl,rfl,by decide +kernel,rfl,by decide +kernel,by decide +kernel⟩
theorem zob(T:Txt K mg a):zcC P w K mg base CX0 1 a.f_below a.d_below ["one","other"] zie:=by
 refine T.F_below.ok zsx (λvs H Q E h=>?_) (λcdv A outer s H vs Q E hr h=>?_)
 ·obtain⟨x,y,u,v,rfl,hx,hy,bu,bv,q⟩:=h
  rfl
 obtain⟨x,y,u,v,rfl,hx,hy,bu,bv,q⟩:=h
 exact⟨zmM K,(zam (zaD (zcg zqW (zaB zaG (zaS zaI (pv 0) zah (λ_ _=>rfl)) (zaS zaI (pv 1) zah (λ_ _=>rfl))) (zaB zaG (zaS zaI (pv 1) zah (λ_ _=>rfl)) (zaS zaI (pv 0) zah (λ_ _=>rfl))) (za9 _)))),
  ztc hx hy bu bv q⟩
def zkZ(K:ψa):TS :=
 (zbb (zbV (zab (zar zsV [] E0 (zab (tOp (rI0 λi j=>.int (i - j)) (tOp (zbM K) (zac 0) (tC (.int 2))) (tOp (zbM K) (zac 0) (tC (.int 1)))) (zab (zac 1) zak))) (zab (zar zsV [] E0 (zab (tOp (zbM K) (zac 0) (tC (.int 2))) (zab (zac 1) zak))) zak))))
theorem zpV{p:Addr}{b:Box}{n:Int}(hp:H p=some (.tup (bx b)))(g:GB b)(n0:0≤n)(n1:n≤60)(q:∀(r:Addr) (H':Hp),zaF H H'→H' r=some (.tup [.int ((b.2.2 - b.2.1) ^ n.toNat),.int (b.2.2 ^ n.toNat)])→Q (.ref r) H') :
  zkZ K { nx:=λ_ H'=>Q .non H',rt:=Q } (L2.start ["box","count"] [.ref p,.int n]) H:=by
 unfold zkZ
 obtain⟨g1,g2,g3,g4,g5⟩:=g
 simp_all only [zac]
 refine⟨_,SqT.of hp,_,rfl,_,SqT.of hp,_,rfl,_,rfl,_,rfl,_,_,rfl,n0,n1,by omega,by omega,_,SqT.of hp,_,rfl,_,_,rfl,n0,n1,by omega,by omega,by decide,λr hr=>q r _ (zaq hr _) zaj⟩
theorem zq5:zaA ["box","count"] ["box","count"] (zai zkL):=⟨rfl,rfl,rfl,by decide +kernel,rfl,by decide +kernel,by decide +kernel⟩
theorem zeV(T:Txt K mg a):zcC P w K mg base CX0 2 a.f_missed a.d_missed ["box","count"] zei:=by
 have G_power:=zn6 (P:=P) (w:=w) (base:=base) T
 refine T.F_missed.ok zq5 (λvs H Q E h=>?_) (λcdv A outer s H vs Q E hr h=>?_)
 ·obtain⟨p,b,n,rfl,hp,g,n0,n1,q⟩:=h
  rfl
 obtain⟨p,b,n,rfl,hp,g,n0,n1,q⟩:=h
 exact⟨zkZ K,(zam (zaD (za3 (zaa (zal G_power (hr.mono (by decide)) rfl T.m_power T.F_power.kp T.b_power .nil zaH (zaa (zaB zd7 (zaS zaI (pv 0) zah (λ_ _=>rfl)) (zaS zaI (pv 0) zah (λ_ _=>rfl))) (zaa (pv 1) zad))) (zaa (zal G_power (hr.mono (by decide)) rfl T.m_power T.F_power.kp T.b_power .nil zaH (zaa (zaS zaI (pv 0) zah (λ_ _=>rfl)) (zaa (pv 1) zad))) zad))))),
  zpV hp g n0 n1 q⟩
theorem zft{b:Box}(g:GB b)(n:Int):0<b.2.2 ^ n.toNat:=zio (by obtain⟨g1,g2,g3,g4,g5⟩:=g;omega) _
theorem ziC{b:Box}(g:GB b){n:Int}(n1:n≤60):Bd 400 (b.2.2 ^ n.toNat):=zhB (by obtain⟨g1,g2,g3,g4,g5⟩:=g;omega) g.2.2.2.2 (by omega)
def zko(K:ψa):TS :=
 (zaK (za2 (zar zei [] E0 (zab (zac 0) (zab (zac 1) zak))) (zcW K 2 (zax (zag 2) (zax (zag 3) zcR))))
 (zbb (zar zlB [] E0 (zab (tOp (rI0 λi j=>.int (i - j)) (zac 3) (zac 2)) (zab (zac 3) zak)))))
theorem zpU{p:Addr}{b:Box}{n:Int}(hp:H p=some (.tup (bx b)))(g:GB b)(n0:0≤n)(n1:n≤60)(q:∀(r:Addr) (H':Hp),zaF H H'→H' r=some (.tup (fr (chq b n)))→Q (.ref r) H') :
  zko K { nx:=λ_ H'=>Q .non H',rt:=Q } (L2.start ["box","count","top","bottom"] [.ref p,.int n]) H:=by
 unfold zko
 simp_all only [zac]
 refine⟨p,b,n,rfl,hp,g,n0,n1,λr H1 s1 hr=>?_⟩
 simp_all only [zac]
 refine⟨_,SqT.of hr,rfl,_,_,rfl,_,_,rfl,rfl,_,rfl,_,rfl,?_⟩
 have z:=zft g n
 exact⟨_,_,rfl,by omega,(ziC g n1).mono (by decide),λr H2 s2 hr2=>q r H2 (s1.trans s2) hr2⟩
theorem ziV:zaA ["box","count","top","bottom"] ["box","count"] (zai zkr):=⟨rfl,rfl,rfl,by decide +kernel,rfl,by decide +kernel,by decide +kernel⟩
theorem zgU(T:Txt K mg a):zcC P w K mg base CX0 3 a.f_chance a.d_chance ["box","count"] zgg:=by
 have G_missed:=zeV (P:=P) (w:=w) (base:=base) T
 have G_ratio:=ze9 (P:=P) (w:=w) (base:=base) T
 refine T.F_chance.ok ziV (λvs H Q E h=>?_) (λcdv A outer s H vs Q E hr h=>?_)
 ·obtain⟨p,b,n,rfl,hp,g,n0,n1,q⟩:=h
  rfl
 obtain⟨p,b,n,rfl,hp,g,n0,n1,q⟩:=h
 exact⟨zko K,(zaf (zdJ (zal G_missed (hr.mono (by decide)) rfl T.m_missed T.F_missed.kp T.b_missed .nil zaH (zaa (pv 0) (zaa (pv 1) zad))) (zbw rfl (zap (zao (i:=2) ziV.nd rfl (Or.inl rfl)) (zap (zao (i:=3) ziV.nd rfl (Or.inl rfl)) zaW))))
 (zam (zaD (zal G_ratio (hr.mono (by decide)) rfl T.m_ratio T.F_ratio.kp T.b_ratio .nil zaH (zaa (zaB zd7 (pv 3) (pv 2)) (zaa (pv 3) zad)))))),
  zpU hp g n0 n1 q⟩
theorem zk0{α β γ:Type}(f:α→β→γ)(as:List α)(bs:List β){i:Nat}{x:α}{y:β}(h1:as[i]?=some x)(h2:bs[i]?=some y) :
  (ψr f as bs).take (i+1)=(ψr f as bs).take i++[f x y]:=by
 rw[ψw,ψy1,h1,h2]
 rfl
theorem zri{α β γ:Type}(f:α→β→γ)(as:List α)(bs:List β):(ψr f as bs).take (min as.length bs.length)=ψr f as bs :=
 ψT (by rw[ψn];exact ψh _)
def zg9(K:ψa):TS :=
 (zbb (tCB (zmg K) (zab (zbA (zhF K (zab (zac 0) (zab (zac 1) zak))) (zcW K 2 (zax (zag 0) (zax (zag 1) zcR))) zaE (tOp (rI IntMulOk λi j=>.int (i*j)) (tOp (zbM K) (zac 0) (tC (.int 0))) (zac 1)) [none,none]) zak)))
theorem zmz{l pl:Addr}{ts:List Addr}{bs:List Box}{ns:List Int}(B:BP H l pl ts bs ns)(q:∀H',zaF H H'→Q (.int (zaY bs ns).sum) H') :
  zg9 K { nx:=λ_ H'=>Q .non H',rt:=Q } (L2.start ["boxes","plan"] [.ref l,.ref pl]) H:=by
 unfold zg9
 simp_all only [zac]
 refine⟨⟨_,SqL.of B.hl⟩,⟨_,SqL.of B.hp⟩,λD hD=>?_⟩
 refine zgV (K:=K) (xs:=ts.map V.ref) (zs:=ns.map V.int) (λi ys σ H'=>zaF H H'∧ys=((zaY bs ns).take i).map V.int∧∃x y,σ=[x,y]) ⟨zaq hD _,rfl,_,_,rfl⟩ ?_ ?_ ?_
 ·rintro i ys σ H' _ ⟨s,_⟩
  exact⟨SqL.of (s _ _ B.hl),SqL.of (s _ _ B.hp)⟩
 ·rintro i x z t ys σ H' hx hz hD' ⟨s,rfl,u,v,rfl⟩ ht
  obtain⟨a,ha,rfl⟩:=zaC hx
  obtain⟨n,hn,rfl⟩:=zaC hz
  obtain⟨b,hb1,hb2⟩:=B.hb.at ha
  obtain⟨n0,n1⟩:=B.gn n (zaz hn)
  have li:=(List.getElem?_eq_some_iff.mp hb1).1
  have l6:=B.l6
  have hb3:=s _ _ hb2
  simp_all only [zac]
  refine⟨_,SqT.of zaj,rfl,_,_,rfl,_,_,rfl,rfl,?_⟩
  simp_all only [zac]
  refine⟨_,SqT.of (by rw[zaP (zaM hb3 ht)];exact hb3),_,rfl,_,rfl,zrw (by omega) (by omega),_,by rw[zaP (zaM hD' ht)];exact hD',zbC (by rw[ψb,ψH];omega),_,zaj,((s.add ht).put hD),?_⟩
  rw[zaY,zk0 _ _ _ hb1 hn,ψb1]
  rfl
 ·rintro ys σ H' hD' ⟨s,rfl,u,v,rfl⟩
  simp_all only [zac]
  refine⟨_,SqL.of hD',?_⟩
  rw[ψb,ψb,B.hb.1,zaY,zri]
  exact q _ s
theorem zmH:zaA ["boxes","plan"] ["boxes","plan"] (zai zge):=⟨rfl,rfl,rfl,by decide +kernel,rfl,by decide +kernel,by decide +kernel⟩
theorem zfp(T:Txt K mg a):zcC P w K mg base CX0 1 a.f_cost_sum a.d_cost_sum ["boxes","plan"] zjb:=by
 refine T.F_cost_sum.ok zmH (λvs H Q E h=>?_) (λcdv A outer s H vs Q E hr h=>?_)
 ·obtain⟨l,pl,ts,bs,ns,rfl,B,q⟩:=h
  rfl
 obtain⟨l,pl,ts,bs,ns,rfl,B,q⟩:=h
 exact⟨zg9 K,(zam (zaD (zat (zeo rfl) rfl T.z_sum ψa1 (zaa (zbX (sc:=zai zge) (N:=["boxes","plan"]) (Nc:=["box","count"]) (cap:=[none,none]) rfl rfl rfl (.of (by decide +kernel)) (zdD rfl T.z_zip (zaa (pv 0) (zaa (pv 1) zad))) (λ_ _ _ _=>(zbw rfl (zap (zao (i:=0) (show ψk (["box","count"]:List Str) from by decide) rfl (Or.inl rfl)) (zap (zao (i:=1) (show ψk (["box","count"]:List Str) from by decide) rfl (Or.inl rfl)) zaW)))) (λ_ _ _ _=>za8) (λ_ _ _ _=>(zaB zaG (zaS zaI (pv 0) zah (λ_ _=>rfl)) (pv 1)))) zad)))),
  zmz B q⟩
def gnq(b:Box)(n:Int):Rat:=ψZ ((b.2.2 - b.2.1) ^ n.toNat*b.2.1) (b.2.2 ^ n.toNat*b.2.2)
def zmP:Sp:=λvs H Q _=>∃(p:Addr) (b:Box) (n:Int),vs=[.ref p,.int n]∧H p=some (.tup (bx b))∧GB b∧0≤n∧n≤60∧∀(r:Addr) (H':Hp),zaF H H'→H' r=some (.tup (fr (gnq b n)))→Q (.ref r) H'
def zqH(K:ψa):TS :=
 (zaK (za2 (zar zei [] E0 (zab (zac 0) (zab (zac 1) zak))) (zcW K 2 (zax (zag 2) (zax (zag 3) zcR))))
 (zbb (zar zlB [] E0 (zab (tOp (rI IntMulOk λi j=>.int (i*j)) (zac 2) (tOp (zbM K) (zac 0) (tC (.int 1)))) (zab (tOp (rI IntMulOk λi j=>.int (i*j)) (zac 3) (tOp (zbM K) (zac 0) (tC (.int 2)))) zak)))))
theorem zvy{p:Addr}{b:Box}{n:Int}(hp:H p=some (.tup (bx b)))(g:GB b)(n0:0≤n)(n1:n≤60)(q:∀(r:Addr) (H':Hp),zaF H H'→H' r=some (.tup (fr (gnq b n)))→Q (.ref r) H') :
  zqH K { nx:=λ_ H'=>Q .non H',rt:=Q } (L2.start ["box","count","top","bottom"] [.ref p,.int n]) H:=by
 unfold zqH
 simp_all only [zac]
 refine⟨p,b,n,rfl,hp,g,n0,n1,λr H1 s1 hr=>?_⟩
 simp_all only [zac]
 have hp1:=SqT.of (K:=K) (s1 _ _ hp)
 have z:=zft g n
 have bo:=ziC g n1
 obtain⟨g1,g2,g3,g4,g5⟩:=g
 have b50:Bd 6 b.2.2:=by show b.2.2.natAbs<2 ^ 6;omega
 refine⟨_,SqT.of hr,rfl,_,_,rfl,_,_,rfl,rfl,_,hp1,_,rfl,_,rfl,_,rfl,zrw (by omega) (by omega),_,hp1,_,rfl,_,rfl,_,rfl,zrw (by omega) (by omega),?_⟩
 exact⟨_,_,rfl,ψN (by omega) (by omega),(bo.mul b50).mono (by decide),λr H2 s2 hr2=>q r H2 (s1.trans s2) hr2⟩
theorem zmB:zaA ["box","count","top","bottom"] ["box","count"] (zai zp1):=⟨rfl,rfl,rfl,by decide +kernel,rfl,by decide +kernel,by decide +kernel⟩
theorem zqI(T:Txt K mg a):zcC P w K mg base CX0 3 a.f_gain a.d_gain ["box","count"] zmP:=by
 have G_missed:=zeV (P:=P) (w:=w) (base:=base) T
 have G_ratio:=ze9 (P:=P) (w:=w) (base:=base) T
 refine T.F_gain.ok zmB (λvs H Q E h=>?_) (λcdv A outer s H vs Q E hr h=>?_)
 ·obtain⟨p,b,n,rfl,hp,g,n0,n1,q⟩:=h
  rfl
 obtain⟨p,b,n,rfl,hp,g,n0,n1,q⟩:=h
 exact⟨zqH K,(zaf (zdJ (zal G_missed (hr.mono (by decide)) rfl T.m_missed T.F_missed.kp T.b_missed .nil zaH (zaa (pv 0) (zaa (pv 1) zad))) (zbw rfl (zap (zao (i:=2) zmB.nd rfl (Or.inl rfl)) (zap (zao (i:=3) zmB.nd rfl (Or.inl rfl)) zaW))))
 (zam (zaD (zal G_ratio (hr.mono (by decide)) rfl T.m_ratio T.F_ratio.kp T.b_ratio .nil zaH (zaa (zaB zaG (pv 2) (zaS zaI (pv 0) zah (λ_ _=>rfl))) (zaa (zaB zaG (pv 3) (zaS zaI (pv 0) zah (λ_ _=>rfl))) zad)))))),
  zvy hp g n0 n1 q⟩
theorem Bq.add2{m n:Nat}{p q:Rat}(hp:Bq m p)(hq:Bq n q):Bq (m+n+1) (p+q):=by
 rw[← zqc]
 have h:Bd (m+n) (q.num*(p.den:Int)):=by rw[Nat.add_comm m n];exact hq.top.mul hp.bot
 exact zck (ψN (zch p) (zch q)) ((hp.top.mul hq.bot).add h) ((hp.bot.mul hq.bot).mono (Nat.le_succ _))
def znA:Sp:=λvs H Q _=>∃(l:Addr) (us:List Addr) (qs:List Rat),vs=[.ref l]∧H l=some (.lst (us.map V.ref))∧Tps fr H us qs∧(∀i:Nat,Bq 2900 (qs.take i).sum)∧(∀q∈qs,Bq 2900 q)∧∀(r:Addr) (H':Hp),zaF H H'→H' r=some (.tup (fr qs.sum))→Q (.ref r) H'
def zmw(K:ψa):TS :=
 (zaK (za2 (zbV (zab (tC (.int 0)) (zab (tC (.int 1)) zak))) (zag 1))
 (zaK (zjy (zcX K (zac 0)) (zag 2)
 (za2 (zar zmN [] E0 (zab (zac 1) (zab (zac 2) zak))) (zag 1)))
 (zbb (zac 1))))
theorem zrG{l:Addr}{us:List Addr}{qs:List Rat}(hl:H l=some (.lst (us.map V.ref)))(T:Tps fr H us qs)(bs:∀i:Nat,Bq 2900 (qs.take i).sum)(bq:∀q∈qs,Bq 2900 q)(q:∀(r:Addr) (H':Hp),zaF H H'→H' r=some (.tup (fr qs.sum))→Q (.ref r) H') :
  zmw K { nx:=λ_ H'=>Q .non H',rt:=Q } (L2.start ["fractions","total","fraction"] [.ref l]) H:=by
 unfold zmw
 simp_all only [zac]
 refine⟨by decide,λr0 n0=>?_⟩
 have s0:=zaq n0 (.tup [.int 0,.int 1])
 have h0:(L2.upd H r0 (.tup [.int 0,.int 1])) r0=some (.tup [.int 0,.int 1]):=zaj
 generalize L2.upd H r0 (.tup [.int 0,.int 1])=H0 at s0 h0 ⊢
 refine⟨⟨_,SqL.of (s0 _ _ hl)⟩,?_⟩
 refine zeW (K:=K) (xs:=us.map V.ref) (λi σ H'=>zaF H0 H'∧∃(r:Addr) (x:Option V),H' r=some (.tup (fr ((qs.take i).sum)))∧σ=[some (.ref l),some (.ref r),x]) ⟨.refl _,r0,_,h0,rfl⟩ ?_ ?_ ?_
 ·rintro i σ H' _ ⟨s,_⟩
  exact SqL.of (s _ _ (s0 _ _ hl))
 ·rintro i v σ H1 hx ⟨s1,r,x,hr,rfl⟩
  obtain⟨t,et,rfl⟩:=zaC hx
  obtain⟨f,ef,hf⟩:=T.at et
  simp_all only [zac]
  refine⟨r,t,_,f,rfl,hr,s1 _ _ (s0 _ _ hf),bs i,bq f (zaz ef),λr2 H2 s2 h2=>?_⟩
  have e:(qs.take (i+1)).sum=(qs.take i).sum+f:=by
   rw[ψw,ef,List.sum_append]
   show _+(f+0)=_
   rw[Rat.add_zero]
  exact⟨s1.trans s2,r2,by rw[e];exact h2,rfl⟩
 ·rintro σ H1 ⟨s1,r,x,hr,rfl⟩
  simp_all only [zac]
  rw[ψb,T.1,ψO] at hr
  exact q r H1 (s0.trans s1) hr
theorem zil:zaA ["fractions","total","fraction"] ["fractions"] (zai zmi):=⟨rfl,rfl,rfl,by decide +kernel,rfl,by decide +kernel,by decide +kernel⟩
theorem ztU(T:Txt K mg a):zcC P w K mg base CX0 4 a.f_added a.d_added ["fractions"] znA:=by
 have G_plus:=zq6 (P:=P) (w:=w) (base:=base) T
 refine T.F_added.ok zil (λvs H Q E h=>?_) (λcdv A outer s H vs Q E hr h=>?_)
 ·obtain⟨l,us,qs,rfl,hl,T',bs,bq,q⟩:=h
  rfl
 obtain⟨l,us,qs,rfl,hl,T',bs,bq,q⟩:=h
 exact⟨zmw K,(zaf (zaL (i:=1) zil.nd rfl (Or.inl rfl) (za3 (zaa zah (zaa zah zad))))
 (zaf (zeq PassesOwn.never rfl (zbU (pv 0)) (zao (i:=2) zil.nd rfl (Or.inl rfl))
 (zam (zaL (i:=1) zil.nd rfl (Or.inl rfl) (zal G_plus (hr.mono (by decide)) rfl T.m_plus T.F_plus.kp T.b_plus .nil zaH (zaa (pv 1) (zaa (pv 2) zad))))))
 (zam (zaD (pv 1))))),
  zrG hl T' bs bq q⟩
def zkA:Sp:=λvs H Q _=>∃(l:Addr) (us:List Addr) (qs:List Rat),vs=[.ref l]∧H l=some (.lst (us.map V.ref))∧Tps fr H us qs∧1≤qs.length∧(∀q∈qs,Bq 6000 q)∧∀(r:Addr) (m:Rat),H r=some (.tup (fr m))→m∈qs→(∀q∈qs,m≤q)→Q (.ref r) H
def zex(K:ψa):TS :=
 (zaK (za2 (tOp (zhO K) (zac 0) (tC (.int 0))) (zag 1))
 (zaK (zjy (zcX K (zac 0)) (zag 2)
 (zca (tB (zar zie [] E0 (zab (zac 2) (zab (zac 1) zak)))) (za2 (zac 2) (zag 1)) zaV))
 (zbb (zac 1))))
theorem zi2{l:Addr}{us:List Addr}{qs:List Rat}(hl:H l=some (.lst (us.map V.ref)))(T:Tps fr H us qs)(l1:1≤qs.length)(bq:∀q∈qs,Bq 6000 q)(q:∀(r:Addr) (m:Rat),H r=some (.tup (fr m))→m∈qs→(∀q∈qs,m≤q)→Q (.ref r) H) :
  zex K { nx:=λ_ H'=>Q .non H',rt:=Q } (L2.start ["chances","least","one"] [.ref l]) H:=by
 unfold zex
 simp_all only [zac]
 have hL:=SqL.of (K:=K) hl
 have lu:=T.1
 have e0:us[0]?=some us[0]:=ψd (by omega)
 obtain⟨f0,ef0,hf0⟩:=T.at e0
 refine⟨_,hL,_,zg8 (j:=0) (show(us.map V.ref)[0]?=some (V.ref us[0]) by rw[ψD,e0];rfl),⟨_,hL⟩,?_⟩
 refine zeW (K:=K) (xs:=us.map V.ref) (λi σ H'=>H'=H∧∃(r:Addr) (m:Rat) (x:Option V),H r=some (.tup (fr m))∧m∈qs∧(∀q∈qs.take i,m≤q)∧σ=[some (.ref l),some (.ref r),x]) ⟨rfl,us[0],f0,_,hf0,zaz ef0,by simp,rfl⟩ ?_ ?_ ?_
 ·rintro i σ H' _ ⟨rfl,_⟩
  exact hL
 ·rintro i v σ H1 hx ⟨rfl,r,m,x,hr,hm,hall,rfl⟩
  obtain⟨t,et,rfl⟩:=zaC hx
  obtain⟨f,ef,hf⟩:=T.at et
  simp_all only [zac]
  refine⟨t,r,f,m,rfl,hf,hr,bq f (zaz ef),bq m hm,?_⟩
  have tk:∀y,y∈qs.take (i+1)→y∈qs.take i∨y=f:=λy hy=>by
   rw[ψw,ef] at hy
   exact(List.mem_append.mp hy).imp id λz=>List.mem_singleton.mp z
  refine⟨_,rfl,?_⟩
  by_cases c:f<m
  ·rw[if_pos (decide_eq_true c)]
   refine⟨rfl,t,f,hf,zaz ef,λy hy=>?_,rfl⟩
   rcases tk y hy with z | rfl
   ·exact Rat.le_trans (ψe1 c) (hall y z)
   ·exact ψV1
  ·rw[if_neg (by simpa using c)]
   refine⟨rfl,r,m,hr,hm,λy hy=>?_,rfl⟩
   rcases tk y hy with z | rfl
   ·exact hall y z
   ·exact Rat.not_lt.mp c
 ·rintro σ H1 ⟨rfl,r,m,x,hr,hm,hall,rfl⟩
  simp_all only [zac]
  rw[ψb,T.1,ψO] at hall
  exact q r m hr hm hall
theorem zcU:zaA ["chances","least","one"] ["chances"] (zai zeD):=⟨rfl,rfl,rfl,by decide +kernel,rfl,by decide +kernel,by decide +kernel⟩
theorem zi7(T:Txt K mg a):zcC P w K mg base CX0 2 a.f_least_chance a.d_least_chance ["chances"] zkA:=by
 have G_below:=zob (P:=P) (w:=w) (base:=base) T
 refine T.F_least_chance.ok zcU (λvs H Q E h=>?_) (λcdv A outer s H vs Q E hr h=>?_)
 ·obtain⟨l,us,qs,rfl,hl,T',l1,bq,q⟩:=h
  rfl
 obtain⟨l,us,qs,rfl,hl,T',l1,bq,q⟩:=h
 exact⟨zex K,(zaf (zaL (i:=1) zcU.nd rfl (Or.inl rfl) (zaS zdv (pv 0) zah (λ_ _=>rfl)))
 (zaf (zeq PassesOwn.never rfl (zbU (pv 0)) (zao (i:=2) zcU.nd rfl (Or.inl rfl))
 (zam (zbW (zbF (zal G_below (hr.mono (by decide)) rfl T.m_below T.F_below.kp T.b_below .nil zaH (zaa (pv 2) (zaa (pv 1) zad)))) (zam (zaL (i:=1) zcU.nd rfl (Or.inl rfl) (pv 2))) zaQ)))
 (zam (zaD (pv 1))))),
  zi2 hl T' l1 bq q⟩
def pr(b:Box):Rat:=ψZ b.2.1 b.2.2
theorem powI(a:Int):∀n:Nat,((a ^ n:Int):Rat)=(a:Rat) ^ n
 | 0=>by rw[Int.pow_zero,ψm1];rfl
 | n+1=>by rw[Int.pow_succ,ψn1,ψK,powI a n]
theorem powD(a b:Rat)(hb:b≠0):∀n:Nat,(a / b) ^ n=a ^ n / b ^ n
 | 0=>by rw[ψm1,ψm1,ψm1];grind
 | n+1=>by
  rw[ψn1,ψn1,ψn1,powD a b hb n]
  grind
theorem zng{b:Rat}(hb:b≠0):∀n:Nat,b ^ n≠0
 | 0=>by rw[ψm1];decide
 | n+1=>by
  rw[ψn1]
  have:=zng hb n
  grind
theorem znw{b:Box}(g:GB b):0<pr b∧pr b≤1∧∀n:Nat,(((b.2.2 - b.2.1) ^ n:Int):Rat) / ((b.2.2 ^ n:Int):Rat)=(1 - pr b) ^ n:=by
 obtain⟨g1,g2,g3,g4,g5⟩:=g
 have o0:(0:Rat)<(b.2.2:Rat):=by exact_mod_cast (show(0:Int)<b.2.2 by omega)
 have h0:(0:Rat)<(b.2.1:Rat):=by exact_mod_cast (show(0:Int)<b.2.1 by omega)
 have ho:(b.2.1:Rat)≤(b.2.2:Rat):=by exact_mod_cast g4
 have on:(b.2.2:Rat)≠0:=by grind
 have e:pr b=(b.2.1:Rat) / (b.2.2:Rat):=ψJ ..
 refine⟨?_,?_,λn=>?_⟩
 ·rw[e]
  rw[Rat.div_def]
  exact Rat.mul_pos h0 (Rat.inv_pos.mpr o0)
 ·rw[e]
  have i0:=Rat.inv_pos.mpr o0
  have m:=ψL1 ho (ψe1 i0)
  rw[Rat.mul_inv_cancel _ on] at m
  rw[Rat.div_def]
  exact m
 ·rw[powI,powI,← powD _ _ on,e,ψY1]
  congr 1
  grind
theorem zhD{b:Box}(g:GB b)(n:Int):chq b n=1 - (1 - pr b) ^ n.toNat:=by
 have h:=(znw g).2.2 n.toNat
 have on:((b.2.2 ^ n.toNat:Int):Rat)≠0:=by
  have:=zft g n
  intro z
  have:(b.2.2 ^ n.toNat:Int)=0:=by exact_mod_cast z
  omega
 unfold chq
 rw[ψJ,ψY1,← h]
 grind
theorem zj2{b:Box}(g:GB b)(n:Int):gnq b n=(1 - pr b) ^ n.toNat*pr b:=by
 have h:=(znw g).2.2 n.toNat
 unfold gnq pr
 rw[ψJ,ψJ,ψK,ψK]
 unfold pr at h
 rw[ψJ] at h
 rw[← h]
 grind
theorem zeR{α:Type}{f:α→List V}{p q D:Addr}{xs zs:List V}{te:TE}{rest:St}{x0 y0:Option V}{qs:List α}(hp:H p=some (.lst xs))(hq:H q=some (.lst zs))(lq:qs.length=min xs.length zs.length)(l6:qs.length≤1000)(hD:H D=none)
  (st:∀(i:Nat) (x z:V) (w:α) (H':Hp) (R:VK),xs[i]?=some x→zs[i]?=some z→qs[i]?=some w→zaF H H'→(∀(r:Addr) (H2:Hp),zaF H' H2→H2 r=some (.tup (f w))→R (.ref r) H2)→te (some x::some z::rest) H' R)
  (hd:∀(us:List Addr) (H':Hp),zaF H H'→H' D=some (.lst (us.map V.ref))→Tps f H' us qs→Q (.ref D) H') :
  zfH (Itz K p q) (zcW K 2 (zax (zag 0) (zax (zag 1) zcR))) zaE te D Q (x0::y0::rest) (upd H D (.lst [])):=by
 refine zgV (K:=K) (xs:=xs) (zs:=zs) (λi ys σ H'=>zaF H H'∧(∃us:List Addr,ys=us.map V.ref∧Tps f H' us (qs.take i))∧∃x y,σ=x::y::rest) ⟨zaq hD _,⟨[],rfl,Tps.nil⟩,_,_,rfl⟩ ?_ ?_ ?_
 ·rintro i ys σ H' _ ⟨s,_⟩
  exact⟨SqL.of (s _ _ hp),SqL.of (s _ _ hq)⟩
 ·rintro i x z t ys σ H' hx hz hD' ⟨s,⟨us,rfl,T⟩,u,v,rfl⟩ ht
  have i1:=(List.getElem?_eq_some_iff.mp hx).1
  have i2:=(List.getElem?_eq_some_iff.mp hz).1
  have hw:qs[i]?=some (qs[i]'(by omega)):=ψd (by omega)
  have s1:=zaq ht (.tup [x,z])
  refine⟨t,_,rfl,SqT.of zaj,rfl,_,_,rfl,_,_,rfl,rfl,?_⟩
  refine st i x z _ _ _ hx hz hw (s.trans s1) λr H2 s2 h2=>?_
  have s3:=s1.trans s2
  have hD2:=s3 _ _ hD'
  have rD:r≠D:=λe=>by
   subst e
   rw[h2] at hD2
   cases hD2
  have lu:us.length≤1000:=by
   have e:=T.1
   rw[ψH] at e
   omega
  refine⟨D,_,_,rfl,rfl,hD2,zbC (by rw[ψb];exact lu),_,zaj,(s.trans s3).put hD,⟨us++[r],by rw[ψb1];rfl,?_⟩,_,_,rfl⟩
  rw[ψw,hw]
  refine T.put (λy w e=>?_) (by rw[zaP rD];exact h2)
  have nx:y≠D:=λz=>by
   subst z
   rw[e] at hD'
   cases hD'
  rw[zaP nx]
  exact s3 _ _ e
 ·rintro ys σ H' hD' ⟨s,⟨us,rfl,T⟩,u,v,rfl⟩
  rw[← lq,ψO] at T
  exact hd us H' s hD' T
theorem ze5{p q D:Addr}{xs zs:List V}{te:TE}{rest:St}{x0 y0:Option V}{vs:List V}(hp:H p=some (.lst xs))(hq:H q=some (.lst zs))(lq:vs.length=min xs.length zs.length)(l6:vs.length≤1000)(hD:H D=none)
  (st:∀(i:Nat) (x z v:V) (H':Hp) (R:VK),xs[i]?=some x→zs[i]?=some z→vs[i]?=some v→zaF H H'→(∀H2:Hp,zaF H' H2→R v H2)→te (some x::some z::rest) H' R)
  (hd:∀H':Hp,zaF H H'→H' D=some (.lst vs)→Q (.ref D) H') :
  zfH (Itz K p q) (zcW K 2 (zax (zag 0) (zax (zag 1) zcR))) zaE te D Q (x0::y0::rest) (upd H D (.lst [])):=by
 refine zgV (K:=K) (xs:=xs) (zs:=zs) (λi ys σ H'=>zaF H H'∧ys=vs.take i∧∃x y,σ=x::y::rest) ⟨zaq hD _,rfl,_,_,rfl⟩ ?_ ?_ ?_
 ·rintro i ys σ H' _ ⟨s,_⟩
  exact⟨SqL.of (s _ _ hp),SqL.of (s _ _ hq)⟩
 ·rintro i x z t ys σ H' hx hz hD' ⟨s,rfl,u,v,rfl⟩ ht
  have i1:=(List.getElem?_eq_some_iff.mp hx).1
  have i2:=(List.getElem?_eq_some_iff.mp hz).1
  have hw:vs[i]?=some (vs[i]'(by omega)):=ψd (by omega)
  have s1:=zaq ht (.tup [x,z])
  refine⟨t,_,rfl,SqT.of zaj,rfl,_,_,rfl,_,_,rfl,rfl,?_⟩
  refine st i x z _ _ _ hx hz hw (s.trans s1) λH2 s2=>?_
  refine⟨D,_,_,rfl,rfl,s2 _ _ (s1 _ _ hD'),zbC (by rw[ψH];omega),_,zaj,(s.trans (s1.trans s2)).put hD,?_,_,_,rfl⟩
  rw[ψw,hw]
  rfl
 ·rintro ys σ H' hD' ⟨s,rfl,u,v,rfl⟩
  rw[← lq,ψO] at hD'
  exact hd H' s hD'
theorem zeT{p D:Addr}{xs:List V}{te:TE}{rest:St}{x0:Option V}{vs:List V}(hp:H p=some (.lst xs))(lq:vs.length=xs.length)(l6:vs.length≤1000)(hD:H D=none)
  (st:∀(i:Nat) (x v:V) (H':Hp) (R:VK),xs[i]?=some x→vs[i]?=some v→zaF H H'→(∀H2:Hp,zaF H' H2→R v H2)→te (some x::rest) H' R)
  (hd:∀H':Hp,zaF H H'→H' D=some (.lst vs)→Q (.ref D) H') :
  zfH (Itl K p) (zag 0) zaE te D Q (x0::rest) (upd H D (.lst [])):=by
 refine zdY (K:=K) (xs:=xs) (λi ys σ H'=>zaF H H'∧ys=vs.take i∧∃x,σ=x::rest) ⟨zaq hD _,rfl,_,rfl⟩ ?_ ?_ ?_
 ·rintro i ys σ H' _ ⟨s,_⟩
  exact SqL.of (s _ _ hp)
 ·rintro i x ys σ H' hx hD' ⟨s,rfl,u,rfl⟩
  have i1:=(List.getElem?_eq_some_iff.mp hx).1
  have hw:vs[i]?=some (vs[i]'(by omega)):=ψd (by omega)
  refine st i x _ _ _ hx hw s λH2 s2=>?_
  refine⟨D,_,_,rfl,rfl,s2 _ _ hD',zbC (by rw[ψH];omega),_,zaj,(s.trans s2).put hD,?_,_,rfl⟩
  rw[ψw,hw]
  rfl
 ·rintro ys σ H' hD' ⟨s,rfl,u,rfl⟩
  rw[← lq,ψO] at hD'
  exact hd H' s hD'
def wq(b:Box)(n:Int):Rat:=(b.1:Rat) / gnq b n
def wqs(bs:List Box)(ns:List Int):List Rat:=ψr wq bs ns
def Gn(bs:List Box)(ns:List Int):Prop:=∀(i:Nat) b n,bs[i]?=some b→ns[i]?=some n→gnq b n≠0
theorem zrp{b:Box}(g:GB b){n:Int}(n1:n≤60):Bq 410 (gnq b n):=by
 have bo:=ziC g n1
 have bt:Bd 400 ((b.2.2 - b.2.1) ^ n.toNat):=zhB (by obtain⟨g1,g2,g3,g4,g5⟩:=g;omega) (by obtain⟨g1,g2,g3,g4,g5⟩:=g;omega) (by omega)
 have o0:=zft g n
 obtain⟨g1,g2,g3,g4,g5⟩:=g
 have h1:Bd 10 b.2.1:=by show b.2.1.natAbs<2 ^ 10;omega
 have h2:Bd 10 b.2.2:=by show b.2.2.natAbs<2 ^ 10;omega
 exact zck (ψN (by omega) (by omega)) (bt.mul h1) (bo.mul h2)
def zqS:Sp:=λvs H Q _=>∃(l pl:Addr) (ts:List Addr) (bs:List Box) (ns:List Int),vs=[.ref l,.ref pl]∧BP H l pl ts bs ns∧Gn bs ns∧∀(r:Addr) (us:List Addr) (H':Hp),zaF H H'→H' r=some (.lst (us.map V.ref))→Tps fr H' us (wqs bs ns)→Q (.ref r) H'
def zev(K:ψa):TS :=
 (zbb (zbA (zhF K (zab (zac 0) (zab (zac 1) zak))) (zcW K 2 (zax (zag 0) (zax (zag 1) zcR))) zaE (zar zj9 [] E0 (zab (zbV (zab (tOp (zbM K) (zac 0) (tC (.int 0))) (zab (tC (.int 1)) zak))) (zab (zar zmP [] E0 (zab (zac 0) (zab (zac 1) zak))) zak))) [none,none]))
theorem ziN{l pl:Addr}{ts:List Addr}{bs:List Box}{ns:List Int}(B:BP H l pl ts bs ns)(G:Gn bs ns)(q:∀(r:Addr) (us:List Addr) (H':Hp),zaF H H'→H' r=some (.lst (us.map V.ref))→Tps fr H' us (wqs bs ns)→Q (.ref r) H') :
  zev K { nx:=λ_ H'=>Q .non H',rt:=Q } (L2.start ["boxes","counts"] [.ref l,.ref pl]) H:=by
 unfold zev
 simp_all only [zac]
 refine⟨⟨_,SqL.of B.hl⟩,⟨_,SqL.of B.hp⟩,λD hD=>?_⟩
 refine zgV (K:=K) (xs:=ts.map V.ref) (zs:=ns.map V.int) (λi ys σ H'=>zaF H H'∧(∃us:List Addr,ys=us.map V.ref∧Tps fr H' us ((wqs bs ns).take i)∧∀u∈us,u≠D)∧∃x y,σ=[x,y]) ⟨zaq hD _,⟨[],rfl,Tps.nil,by simp⟩,_,_,rfl⟩ ?_ ?_ ?_
 ·rintro i ys σ H' _ ⟨s,_⟩
  exact⟨SqL.of (s _ _ B.hl),SqL.of (s _ _ B.hp)⟩
 ·rintro i x z t ys σ H' hx hz hD' ⟨s,⟨us,rfl,T,nu⟩,u,v,rfl⟩ ht
  obtain⟨a,ha,rfl⟩:=zaC hx
  obtain⟨n,hn,rfl⟩:=zaC hz
  obtain⟨b,hb1,hb2⟩:=B.hb.at ha
  obtain⟨n0,n1⟩:=B.gn n (zaz hn)
  have g:=B.gb b (zaz hb1)
  have hb3:=s _ _ hb2
  simp_all only [zac]
  refine⟨_,SqT.of zaj,rfl,_,_,rfl,_,_,rfl,rfl,?_⟩
  simp_all only [zac]
  have s1:=zaq ht (.tup [V.ref a,V.int n])
  have h1:(L2.upd H' t (.tup [V.ref a,V.int n])) t=some (.tup [V.ref a,V.int n]):=zaj
  generalize L2.upd H' t (.tup [V.ref a,V.int n])=H1 at s1 h1 ⊢
  refine⟨_,SqT.of (s1 _ _ hb3),_,rfl,by decide,λp np=>?_⟩
  have s2:=zaq np (.tup [V.int b.1,V.int 1])
  have h2:(L2.upd H1 p (.tup [V.int b.1,V.int 1])) p=some (.tup [V.int b.1,V.int 1]):=zaj
  generalize L2.upd H1 p (.tup [V.int b.1,V.int 1])=H2 at s2 h2 ⊢
  have hb4:=s2 _ _ (s1 _ _ hb3)
  refine⟨a,b,n,rfl,hb4,g,n0,n1,λr H3 s3 h3=>?_⟩
  have b1:Bq 2900 (b.1:Rat):=⟨by show b.1.natAbs<2 ^ 2900;exact ψi (by have:=g.1;have:=g.2.1;omega:b.1.natAbs<2 ^ 6) (ψT1 (by decide) (by decide)),by show(1:Nat)<2 ^ 2900;exact ψv1 (by decide)⟩
  refine⟨p,r,(b.1:Rat),gnq b n,rfl,s3 _ _ h2,h3,G i b n hb1 hn,b1,(zrp g n1).mono (by decide),λy H4 s4 h4=>?_⟩
  have s14:=s1.trans (s2.trans (s3.trans s4))
  have hD4:=s14 _ _ hD'
  have yD:y≠D:=λz=>by
   subst z
   rw[h4] at hD4
   cases hD4
  have lu:us.length≤6:=by
   have:=B.l6
   have e:=T.1
   rw[ψH,wqs,ψn] at e
   omega
  refine⟨_,hD4,zbC (by rw[ψb];omega),_,zaj,(s.trans s14).put hD,us++[y],by rw[ψb1];rfl,?_,λu hu=>?_⟩
  ·rw[wqs,zk0 _ _ _ hb1 hn]
   refine T.put (λx w e=>?_) (by rw[zaP yD];exact h4)
   have nx:x≠D:=λz=>by
    subst z
    rw[e] at hD'
    cases hD'
   rw[zaP nx]
   exact s14 _ _ e
  ·rcases List.mem_append.mp hu with hu | hu
   ·exact nu u hu
   ·rw[List.mem_singleton.mp hu]
    exact yD
 ·rintro ys σ H' hD' ⟨s,⟨us,rfl,T,nu⟩,u,v,rfl⟩
  rw[ψb,ψb,B.hb.1,wqs,zri] at T
  exact q D us H' s hD' T
theorem zix:zaA ["boxes","counts"] ["boxes","counts"] (zai zda):=⟨rfl,rfl,rfl,by decide +kernel,rfl,by decide +kernel,by decide +kernel⟩
theorem zf2(T:Txt K mg a):zcC P w K mg base CX0 4 a.f_fair_weights a.d_fair_weights ["boxes","counts"] zqS:=by
 have G_gain:=zqI (P:=P) (w:=w) (base:=base) T
 have G_over:=zmO (P:=P) (w:=w) (base:=base) T
 refine T.F_fair_weights.ok zix (λvs H Q E h=>?_) (λcdv A outer s H vs Q E hr h=>?_)
 ·obtain⟨l,pl,ts,bs,ns,rfl,B,G,q⟩:=h
  rfl
 obtain⟨l,pl,ts,bs,ns,rfl,B,G,q⟩:=h
 exact⟨zev K,(zam (zaD (zbX (sc:=zai zda) (N:=["boxes","counts"]) (Nc:=["box","count"]) (cap:=[none,none]) rfl rfl rfl (.of (by decide +kernel)) (zdD rfl T.z_zip (zaa (pv 0) (zaa (pv 1) zad))) (λ_ _ _ _=>(zbw rfl (zap (zao (i:=0) (show ψk (["box","count"]:List Str) from by decide) rfl (Or.inl rfl)) (zap (zao (i:=1) (show ψk (["box","count"]:List Str) from by decide) rfl (Or.inl rfl)) zaW)))) (λ_ _ _ _=>za8) (λ_ _ _ _=>(zal G_over (hr.mono (by decide)) rfl T.m_over T.F_over.kp T.b_over .nil zaH (zaa (za3 (zaa (zaS zaI (pv 0) zah (λ_ _=>rfl)) (zaa zah zad))) (zaa (zal G_gain (hr.mono (by decide)) rfl T.m_gain T.F_gain.kp T.b_gain .nil zaH (zaa (pv 0) (zaa (pv 1) zad))) zad))))))),
  ziN B G q⟩
theorem Bq.mul2{m n:Nat}{p q:Rat}(hp:Bq m p)(hq:Bq n q):Bq (m+n) (p*q):=by
 rw[← zqk]
 exact zck (ψN (zch p) (zch q)) (hp.top.mul hq.top) (hp.bot.mul hq.bot)
theorem zhr{b:Int}(h0:0≤b)(h1:b≤50)(n:Nat):Bd (6*n+1) (b ^ n):=by
 obtain⟨z1,z2⟩:=znV h0 h1 n
 have z3:(50:Nat) ^ n≤64 ^ n:=Nat.pow_le_pow_left (by decide) n
 have z4:(64:Nat) ^ n=2 ^ (6*n):=by rw[Nat.pow_mul]
 have z5:((50 ^ n:Nat):Int)=(50:Int) ^ n:=by exact_mod_cast rfl
 have z6:(2:Nat) ^ (6*n+1)=2 ^ (6*n)*2:=Nat.pow_succ ..
 have z7:0<(2:Nat) ^ (6*n):=Nat.pow_pos (by decide)
 show(b ^ n).natAbs<2 ^ (6*n+1)
 omega
theorem znL{b:Box}(g:GB b)(n:Int):Bq (6*n.toNat+2) (chq b n):=by
 have o0:=zft g n
 obtain⟨g1,g2,g3,g4,g5⟩:=g
 exact zck (by omega) ((zhr (by omega) g5 _).sub (zhr (by omega) (by omega) _)) ((zhr (by omega) g5 _).mono (by omega))
theorem zqC{b:Box}(g:GB b)(n:Int):Bq (6*n.toNat+7) (gnq b n):=by
 have o0:=zft g n
 obtain⟨g1,g2,g3,g4,g5⟩:=g
 have h1:Bd 6 b.2.1:=by show b.2.1.natAbs<2 ^ 6;omega
 have h2:Bd 6 b.2.2:=by show b.2.2.natAbs<2 ^ 6;omega
 exact zck (ψN (by omega) (by omega)) (((zhr (by omega) (by omega) _).mul h1).mono (by omega)) (((zhr (by omega) g5 _).mul h2).mono (by omega))
theorem zl9{b:Box}(g:GB b){n:Int}(gn:gnq b n≠0):Bq (6*n.toNat+14) (wq b n):=by
 have hb:=zqC g n
 unfold wq
 rw[← zkG]
 have c:Bd 7 b.1:=by have:=g.1;have:=g.2.1;show b.1.natAbs<2 ^ 7;omega
 exact zck (ψN (by show(1:Int)≠0;decide) (znK gn)) ((c.mul hb.bot).mono (by omega)) (((show Bd 1 (1:Int) from by show(1:Nat)<2 ^ 1;decide).mul hb.top).mono (by omega))
theorem zkl{j k:Nat}{f:Box×Int→Rat}:∀xs:List (Box×Int),(∀x∈xs,Bq (j*x.2.toNat+k) (f x))→Bq (j*(xs.map λx=>x.2.toNat).sum+(k+1)*xs.length+1) (xs.map f).sum
 | [],_=>⟨by show(0:Nat)<2 ^ _;exact Nat.pow_pos (by decide),by show(1:Nat)<2 ^ _;exact ψv1 (by omega)⟩
 | x::xs,h=>by
  have ih:=zkl xs λy hy=>h y (ψf _ hy)
  rw[ψG,ψR,ψG,ψR,ψQ,Nat.mul_add,Nat.mul_add]
  exact((h x ψj).add2 ih).mono (by omega)
theorem zg7:∀(bs:List Box) (ns:List Int),(∀b∈bs,GB b)→(∀n∈ns,0≤n)→((((ψm bs ns).map λx=>x.2.toNat).sum:Nat):Int)≤(zaY bs ns).sum
 | [],_,_,_=>by simp[zaY]
 | _::_,[],_,_=>by simp[zaY]
 | b::bs,n::ns,gb,n0=>by
  have ih:=zg7 bs ns (λx hx=>gb x (ψf _ hx)) (λx hx=>n0 x (ψf _ hx))
  obtain⟨g1,_⟩:=gb b ψj
  have hn:=n0 n ψj
  have m1:1*n≤b.1*n:=Int.mul_le_mul_of_nonneg_right g1 hn
  rw[Int.one_mul] at m1
  rw[ψw1,ψG,ψR]
  show((n.toNat+_:Nat):Int)≤b.1*n+(zaY bs ns).sum
  omega
theorem Bq.div2{m n:Nat}{p q:Rat}(hp:Bq m p)(hq:Bq n q)(q0:q≠0):Bq (m+n) (p / q):=by
 rw[← zkG]
 exact zck (ψN (zch p) (znK q0)) (hp.top.mul hq.bot) (hp.bot.mul hq.top)
theorem Bq.sub2{m n:Nat}{p q:Rat}(hp:Bq m p)(hq:Bq n q):Bq (m+n+1) (p - q):=by
 rw[← zrt]
 have h:Bd (m+n) (q.num*(p.den:Int)):=by rw[Nat.add_comm m n];exact hq.top.mul hp.bot
 exact zck (ψN (zch p) (zch q)) ((hp.top.mul hq.bot).sub h) ((hp.bot.mul hq.bot).mono (Nat.le_succ _))
theorem zg2{α β γ:Type}{f:α→β→γ}{as:List α}{bs:List β}(P:γ→Prop)(h:∀(i:Nat) a b,as[i]?=some a→bs[i]?=some b→P (f a b)):∀x∈ψr f as bs,P x:=λx hx=>by
 obtain⟨i,ei⟩:=ψp hx
 rw[ψy1] at ei
 cases e1:as[i]? with
 | none=>rw[e1] at ei;cases ei
 | some a =>
  cases e2:bs[i]? with
  | none=>rw[e1,e2] at ei;cases ei
  | some b =>
   rw[e1,e2] at ei
   cases ei
   exact h i a b e1 e2
theorem zhQ{α β γ:Type}{f:α→β→γ}{as:List α}{bs:List β}{i:Nat}{a:α}{b:β}{c:γ}(e1:as[i]?=some a)(e2:bs[i]?=some b)(e3:(ψr f as bs)[i]?=some c):c=f a b:=by
 rw[ψy1,e1,e2] at e3
 exact(Option.some.inj e3).symm
theorem zpC:∀(l:List Nat) (i:Nat),(l.take i).sum≤l.sum
 | [],i=>by simp
 | x::l,0=>by simp
 | x::l,i+1=>by
  have:=zpC l i
  rw[List.take_succ_cons,ψR,ψR]
  omega
theorem zlO{j k:Nat}{f:Box×Int→Rat}(xs:List (Box×Int))(h:∀x∈xs,Bq (j*x.2.toNat+k) (f x))(i:Nat):Bq (j*(xs.map λx=>x.2.toNat).sum+(k+1)*xs.length+1) ((xs.map f).take i).sum:=by
 have b:=zkl (j:=j) (k:=k) (f:=f) (xs.take i) λx hx=>h x (List.mem_of_mem_take hx)
 rw[← List.map_take]
 have t:=zpC (xs.map λx=>x.2.toNat) i
 rw[← List.map_take] at t
 have l:=List.length_take_le i xs
 exact b.mono (Nat.add_le_add_right (Nat.add_le_add (Nat.mul_le_mul_left j t) (Nat.mul_le_mul_left (k+1) (by rw[ψH];omega))) 1)
theorem zxn{b:Box}(g:GB b){n:Int}(n1:n≤60)(gn:gnq b n≠0):Bq 420 (wq b n):=by
 have hb:=zrp g n1
 unfold wq
 rw[← zkG]
 have c:Bd 7 b.1:=by have:=g.1;have:=g.2.1;show b.1.natAbs<2 ^ 7;omega
 exact zck (ψN (by show(1:Int)≠0;decide) (znK gn)) ((c.mul hb.bot).mono (by decide)) (((show Bd 1 (1:Int) from by show(1:Nat)<2 ^ 1;decide).mul hb.top).mono (by decide))
theorem zt9{b:Box}(g:GB b){n:Int}(n1:n≤60):Bq 401 (chq b n):=by
 have bo:=ziC g n1
 have bt:Bd 400 ((b.2.2 - b.2.1) ^ n.toNat):=zhB (by obtain⟨g1,g2,g3,g4,g5⟩:=g;omega) (by obtain⟨g1,g2,g3,g4,g5⟩:=g;omega) (by omega)
 have o0:=zft g n
 exact zck (by omega) (bo.sub bt) (bo.mono (by decide))
theorem zik:∀(bs:List Box) (ns:List Int),(∀b∈bs,GB b)→(∀n∈ns,0≤n∧n≤60)→0≤(zaY bs ns).sum∧(zaY bs ns).sum≤3600*bs.length
 | [],ns,_,_=>by simp[zaY]
 | b::bs,[],_,_=>by simp[zaY];omega
 | b::bs,n::ns,h1,h2=>by
  obtain⟨z1,z2⟩:=zik bs ns (λx hx=>h1 x (ψf _ hx)) (λx hx=>h2 x (ψf _ hx))
  obtain⟨g1,g2,_⟩:=h1 b ψj
  obtain⟨n0,n1⟩:=h2 n ψj
  have m1:0≤b.1*n:=Int.mul_nonneg (by omega) n0
  have m2:b.1*n≤60*60:=Int.mul_le_mul g2 n1 n0 (by decide)
  show 0≤b.1*n+(zaY bs ns).sum∧b.1*n+(zaY bs ns).sum≤3600*((bs.length+1:Nat):Int)
  omega
def zjQ(bs:List Box)(ns:List Int):List Rat:=ψr (λx y:Rat=>x*y) (wqs bs ns) (zwG bs ns)
theorem zgp{α β γ:Type}(f:α→β→γ):∀(as:List α) (bs:List β),ψr f as bs=(ψm as bs).map λx=>f x.1 x.2
 | [],_=>by simp
 | _::_,[]=>by simp
 | a::as,b::bs=>by
  rw[List.zipWith_cons_cons,ψw1,ψG,zgp f as bs]
theorem zi4(bs:List Box)(ns:List Int):zjQ bs ns=(ψm bs ns).map λx=>wq x.1 x.2*chq x.1 x.2:=by
 unfold zjQ wqs zwG
 rw[zgp wq,zgp chq,List.zipWith_map_left,List.zipWith_map_right]
 generalize ψm bs ns=l
 induction l with
 | nil=>rfl
 | cons x l ih=>rw[List.zipWith_cons_cons,ψG,ih]
def zj0(bs:List Box)(ns:List Int)(bud:Int):Rat:=((zjQ bs ns).sum+((bud - (zaY bs ns).sum:Int):Rat)) / (wqs bs ns).sum
def zgC:Sp:=λvs H Q _=>∃(l pl:Addr) (ts:List Addr) (bs:List Box) (ns:List Int) (bud:Int),vs=[.ref l,.int bud,.ref pl]∧BP H l pl ts bs ns∧(zaY bs ns).sum≤60∧Gn bs ns∧0≤bud∧bud≤60∧(wqs bs ns).sum≠0∧∀(r:Addr) (H':Hp),zaF H H'→H' r=some (.tup (fr (zj0 bs ns bud)))→Q (.ref r) H'
def zfA(K:ψa):TS :=
 (zaK (za2 (zar zqS [] E0 (zab (zac 0) (zab (zac 2) zak))) (zag 3))
 (zaK (za2 (zbA (zhF K (zab (zac 0) (zab (zac 2) zak))) (zcW K 2 (zax (zag 0) (zax (zag 1) zcR))) zaE (zar zgg [] E0 (zab (zac 0) (zab (zac 1) zak))) [none,none]) (zag 4))
 (zaK (za2 (zar znA [] E0 (zab (zbA (zhF K (zab (zac 3) (zab (zac 4) zak))) (zcW K 2 (zax (zag 0) (zax (zag 1) zcR))) zaE (zar zls [] E0 (zab (zac 0) (zab (zac 1) zak))) [none,none]) zak)) (zag 5))
 (zaK (za2 (tOp (rI0 λi j=>.int (i - j)) (zac 1) (zar zjb [] E0 (zab (zac 0) (zab (zac 2) zak)))) (zag 6))
 (zbb (zar zj9 [] E0 (zab (zar zmN [] E0 (zab (zac 5) (zab (zbV (zab (zac 6) (zab (tC (.int 1)) zak))) zak))) (zab (zar znA [] E0 (zab (zac 3) zak)) zak))))))))
theorem zkO{l pl:Addr}{ts:List Addr}{bs:List Box}{ns:List Int}{bud:Int}(B:BP H l pl ts bs ns)(cs:(zaY bs ns).sum≤60)(G:Gn bs ns)(d0:0≤bud)(d1:bud≤60)(ws:(wqs bs ns).sum≠0)(q:∀(r:Addr) (H':Hp),zaF H H'→H' r=some (.tup (fr (zj0 bs ns bud)))→Q (.ref r) H') :
  zfA K { nx:=λ_ H'=>Q .non H',rt:=Q } (L2.start ["boxes","budget","counts","weights","chances","found","spare"] [.ref l,.int bud,.ref pl]) H:=by
 unfold zfA
 simp_all only [zac]
 refine⟨l,pl,ts,bs,ns,rfl,B,G,λwl us H1 s1 hw TW=>?_⟩
 have B1:=B.same s1
 simp_all only [zac]
 refine⟨⟨_,SqL.of B1.hl⟩,⟨_,SqL.of B1.hp⟩,λD hD=>?_⟩
 have l6:=B.l6
 have len:=B.len
 have lC:(zwG bs ns).length=bs.length:=by rw[zwG,ψn,len];omega
 have lW:(wqs bs ns).length=bs.length:=by rw[wqs,ψn,len];omega
 have lP:(zjQ bs ns).length=bs.length:=by rw[zjQ,ψn,lW,lC];omega
 refine zeR (f:=fr) (qs:=zwG bs ns) B1.hl B1.hp (by rw[lC,ψb,ψb,B.hb.1,len];omega) (by omega) hD (λi x z w H3 R hx hz hv s3 k=>?_) λvs H' s hD' T=>?_
 ·obtain⟨a,ha,rfl⟩:=zaC hx
  obtain⟨n,hn,rfl⟩:=zaC hz
  obtain⟨b,hb1,hb2⟩:=B1.hb.at ha
  obtain⟨n0,n1⟩:=B1.gn n (zaz hn)
  have e:=zhQ hb1 hn hv
  subst e
  simp_all only [zac]
  exact⟨a,b,n,rfl,s3 _ _ hb2,B1.gb b (zaz hb1),n0,n1,k⟩
 simp_all only [zac]
 have hw1:=s _ _ hw
 have TW1:=TW.same s
 have n0:∀n∈ns,0≤n:=λn hn=>(B.gn n hn).1
 have mb:∀x∈ψm bs ns,GB x.1∧gnq x.1 x.2≠0:=λx hx=>by
  obtain⟨i,ei⟩:=ψp hx
  rw[ψC] at ei
  exact⟨B.gb _ (zaz ei.1),G i _ _ ei.1 ei.2⟩
 have st:=zg7 bs ns B.gb n0
 have zl:(ψm bs ns).length≤6:=by rw[ψZ1];omega
 have pW:∀i:Nat,Bq 500 ((wqs bs ns).take i).sum:=λi=>by
  have h:=zlO (j:=6) (k:=14) (f:=λx=>wq x.1 x.2) (ψm bs ns) (λx hx=>zl9 (mb x hx).1 (mb x hx).2) i
  rw[wqs,zgp]
  exact h.mono (by omega)
 have pP:∀i:Nat,Bq 900 ((zjQ bs ns).take i).sum:=λi=>by
  have h:=zlO (j:=12) (k:=16) (f:=λx=>wq x.1 x.2*chq x.1 x.2) (ψm bs ns) (λx hx=>((zl9 (mb x hx).1 (mb x hx).2).mul2 (znL (mb x hx).1 x.2)).mono (by omega)) i
  rw[zi4]
  exact h.mono (by omega)
 have bW:∀x∈wqs bs ns,Bq 420 x:=zg2 _ λi b n e1 e2=>zxn (B.gb b (zaz e1)) (B.gn n (zaz e2)).2 (G i b n e1 e2)
 have bC:∀x∈zwG bs ns,Bq 401 x:=zg2 _ λi b n e1 e2=>zt9 (B.gb b (zaz e1)) (B.gn n (zaz e2)).2
 have bP:∀x∈zjQ bs ns,Bq 900 x:=zg2 _ λi x y e1 e2=>((bW x (zaz e1)).mul2 (bC y (zaz e2))).mono (by decide)
 refine⟨⟨_,SqL.of hw1⟩,⟨_,SqL.of hD'⟩,λD2 hD2=>?_⟩
 refine zeR (f:=fr) (qs:=zjQ bs ns) hw1 hD' (by rw[lP,ψb,ψb,TW1.1,T.1,lW,lC];omega) (by omega) hD2 (λi x z w H3 R hx hz hv s3 k=>?_) λrs H2 s2 hD2' TR=>?_
 ·obtain⟨a,ha,rfl⟩:=zaC hx
  obtain⟨c,hc,rfl⟩:=zaC hz
  obtain⟨f,ef,hf⟩:=TW1.at ha
  obtain⟨g,eg,hg⟩:=T.at hc
  have e:=zhQ ef eg hv
  subst e
  simp_all only [zac]
  exact⟨a,c,f,g,rfl,s3 _ _ hf,s3 _ _ hg,(bW f (zaz ef)).mono (by decide),(bC g (zaz eg)).mono (by decide),k⟩
 have hP:Bq 900 (zjQ bs ns).sum:=by
  have:=pP (zjQ bs ns).length
  rwa[ψO] at this
 have hW:Bq 500 (wqs bs ns).sum:=by
  have:=pW (wqs bs ns).length
  rwa[ψO] at this
 refine⟨D2,rs,_,rfl,hD2',TR,λi=>(pP i).mono (by decide),λx hx=>(bP x hx).mono (by decide),λfd H3 s3 h3=>?_⟩
 have S3:=s.trans (s2.trans s3)
 refine⟨l,pl,ts,bs,ns,rfl,B1.same S3,λH4 s4=>?_⟩
 simp_all only [zac]
 refine⟨by decide,λp np=>?_⟩
 have s5:=zaq np (.tup [V.int (bud - (zaY bs ns).sum),V.int 1])
 have h5:(L2.upd H4 p (.tup [V.int (bud - (zaY bs ns).sum),V.int 1])) p=some (.tup [V.int (bud - (zaY bs ns).sum),V.int 1]):=zaj
 generalize L2.upd H4 p (.tup [V.int (bud - (zaY bs ns).sum),V.int 1])=H5 at s5 h5 ⊢
 obtain⟨z1,z2⟩:=zik bs ns B.gb B.gn
 have bS:Bq 20 ((bud - (zaY bs ns).sum:Int):Rat):=⟨by show(bud - (zaY bs ns).sum).natAbs<2 ^ 20;omega,by show(1:Nat)<2 ^ 20;decide⟩
 refine⟨fd,p,_,((bud - (zaY bs ns).sum:Int):Rat),rfl,s5 _ _ (s4 _ _ h3),h5,hP.mono (by omega),bS.mono (by decide),λr1 H6 s6 h6=>?_⟩
 have S6:=S3.trans (s4.trans (s5.trans s6))
 refine⟨wl,us,_,rfl,S6 _ _ hw,TW.same S6,λi=>(pW i).mono (by decide),λx hx=>(bW x hx).mono (by decide),λr2 H7 s7 h7=>?_⟩
 exact⟨r1,r2,_,_,rfl,s7 _ _ h6,h7,ws,(hP.add2 bS).mono (by omega),hW.mono (by omega),λr3 H8 s8 h8=>q r3 H8 (s1.trans (S6.trans (s7.trans s8))) h8⟩
theorem zcN:zaA ["boxes","budget","counts","weights","chances","found","spare"] ["boxes","budget","counts"] (zai zdk):=⟨rfl,rfl,rfl,by decide +kernel,rfl,by decide +kernel,by decide +kernel⟩
theorem zj7(T:Txt K mg a):zcC P w K mg base CX0 5 a.f_chance_for a.d_chance_for ["boxes","budget","counts"] zgC:=by
 have G_added:=ztU (P:=P) (w:=w) (base:=base) T
 have G_chance:=zgU (P:=P) (w:=w) (base:=base) T
 have G_cost_sum:=zfp (P:=P) (w:=w) (base:=base) T
 have G_fair_weights:=zf2 (P:=P) (w:=w) (base:=base) T
 have G_over:=zmO (P:=P) (w:=w) (base:=base) T
 have G_plus:=zq6 (P:=P) (w:=w) (base:=base) T
 have G_times:=zsl (P:=P) (w:=w) (base:=base) T
 refine T.F_chance_for.ok zcN (λvs H Q E h=>?_) (λcdv A outer s H vs Q E hr h=>?_)
 ·obtain⟨l,pl,ts,bs,ns,bud,rfl,B,cs,G,d0,d1,ws,q⟩:=h
  rfl
 obtain⟨l,pl,ts,bs,ns,bud,rfl,B,cs,G,d0,d1,ws,q⟩:=h
 exact⟨zfA K,(zaf (zaL (i:=3) zcN.nd rfl (Or.inl rfl) (zal G_fair_weights (hr.mono (by decide)) rfl T.m_fair_weights T.F_fair_weights.kp T.b_fair_weights .nil zaH (zaa (pv 0) (zaa (pv 2) zad))))
 (zaf (zb8 (i:=4) zcN.nd rfl rfl (sc:=zai zdk) (N:=["boxes","budget","counts","weights","chances","found","spare"]) (Nc:=["box","count"]) (cap:=[none,none]) rfl rfl rfl (.of (by decide +kernel)) (zdD rfl T.z_zip (zaa (pv 0) (zaa (pv 2) zad))) (λ_ _ _ _=>(zbw rfl (zap (zao (i:=0) (show ψk (["box","count"]:List Str) from by decide) rfl (Or.inl rfl)) (zap (zao (i:=1) (show ψk (["box","count"]:List Str) from by decide) rfl (Or.inl rfl)) zaW)))) (λ_ _ _ _=>za8) (λ_ _ _ _=>(zal G_chance (hr.mono (by decide)) rfl T.m_chance T.F_chance.kp T.b_chance .nil zaH (zaa (pv 0) (zaa (pv 1) zad)))))
 (zaf (zaL (i:=5) zcN.nd rfl (Or.inl rfl) (zal G_added (hr.mono (by decide)) rfl T.m_added T.F_added.kp T.b_added .nil zaH (zaa (zbX (sc:=zai zdk) (N:=["boxes","budget","counts","weights","chances","found","spare"]) (Nc:=["weight","one"]) (cap:=[none,none]) rfl rfl rfl (.of (by decide +kernel)) (zdD rfl T.z_zip (zaa (pv 3) (zaa (pv 4) zad))) (λ_ _ _ _=>(zbw rfl (zap (zao (i:=0) (show ψk (["weight","one"]:List Str) from by decide) rfl (Or.inl rfl)) (zap (zao (i:=1) (show ψk (["weight","one"]:List Str) from by decide) rfl (Or.inl rfl)) zaW)))) (λ_ _ _ _=>za8) (λ_ _ _ _=>(zal G_times (hr.mono (by decide)) rfl T.m_times T.F_times.kp T.b_times .nil zaH (zaa (pv 0) (zaa (pv 1) zad))))) zad)))
 (zaf (zaL (i:=6) zcN.nd rfl (Or.inl rfl) (zaB zd7 (pv 1) (zal G_cost_sum (hr.mono (by decide)) rfl T.m_cost_sum T.F_cost_sum.kp T.b_cost_sum .nil zaH (zaa (pv 0) (zaa (pv 2) zad)))))
 (zam (zaD (zal G_over (hr.mono (by decide)) rfl T.m_over T.F_over.kp T.b_over .nil zaH (zaa (zal G_plus (hr.mono (by decide)) rfl T.m_plus T.F_plus.kp T.b_plus .nil zaH (zaa (pv 5) (zaa (za3 (zaa (pv 6) (zaa zah zad))) zad))) (zaa (zal G_added (hr.mono (by decide)) rfl T.m_added T.F_added.kp T.b_added .nil zaH (zaa (pv 3) zad)) zad))))))))),
  zkO B cs G d0 d1 ws q⟩
theorem zpI{α:Type}(w ch c:α→Rat)(J:α→Bool)(V E:Rat):∀xs:List α,(∀x∈xs,J x=true→c x=w x*(E - ch x)) →
  (xs.map λx=>w x*(V - ch x)).sum - (xs.map λx=>if J x=true then c x else 0).sum=(xs.map λx=>if J x=true then 0 else w x*(E - ch x)).sum+(V - E)*(xs.map w).sum
 | [],_=>by
  simp only[ψE1,List.sum_nil]
  grind
 | x::xs,h=>by
  have ih:=zpI w ch c J V E xs λy hy=>h y (ψf _ hy)
  simp only[ψG,ψR]
  by_cases j:J x=true
  ·have hx:=h x ψj j
   simp only[j,if_true]
   rw[hx]
   grind
  ·simp only[j]
   grind
theorem zhw{α:Type}(f:α→Rat):∀xs:List α,(∀x∈xs,0≤f x)→0≤(xs.map f).sum
 | [],_=>ψV1
 | x::xs,h=>by
  have ih:=zhw f xs λy hy=>h y (ψf _ hy)
  have hx:=h x ψj
  simp only[ψG,ψR]
  grind
theorem zq3{α:Type}(f:α→Rat):∀xs:List α,xs≠[]→(∀x∈xs,0<f x)→0<(xs.map f).sum
 | [],n,_=>absurd rfl n
 | x::xs,_,h=>by
  have ih:=zhw f xs λy hy=>ψe1 (h y (ψf _ hy))
  have hx:=h x ψj
  simp only[ψG,ψR]
  grind
theorem zqv{α:Type}{w ch c:α→Rat}{J:α→Bool}{V E S:Rat}{xs:List α}(ne:xs≠[])(w0:∀x∈xs,0<w x)(hc:∀x∈xs,J x=true→c x=w x*(E - ch x))(lo:∀x∈xs,ch x≤E)(ve:E<V)(hS:(xs.map λx=>w x*(V - ch x)).sum=S) :
  (xs.map λx=>if J x=true then 0 else w x*(E - ch x)).sum<S - (xs.map λx=>if J x=true then c x else 0).sum∧0<S - (xs.map λx=>if J x=true then c x else 0).sum:=by
 have id:=zpI w ch c J V E xs hc
 rw[hS] at id
 have wp:=zq3 w xs ne w0
 have vp:0<V - E:=by grind
 have m:=Rat.mul_pos vp wp
 have nn:=zhw (λx=>if J x=true then 0 else w x*(E - ch x)) xs λx hx=>by
  have h1:0≤E - ch x:=by have:=lo x hx;grind
  have h2:=Rat.mul_nonneg (ψe1 (w0 x hx)) h1
  show 0≤(if J x=true then 0 else w x*(E - ch x))
  split
  ·exact ψV1
  ·exact h2
 constructor <;> grind
theorem zkF{α:Type}(w ch:α→Rat)(V:Rat):∀xs:List α,(xs.map λx=>w x*(V - ch x)).sum=V*(xs.map w).sum - (xs.map λx=>w x*ch x).sum
 | []=>by
  simp only[ψE1,List.sum_nil]
  grind
 | x::xs=>by
  have ih:=zkF w ch V xs
  simp only[ψG,ψR]
  grind
theorem zkD{bs:List Box}{ns:List Int}{bud:Int}(ws:(wqs bs ns).sum≠0):((ψm bs ns).map λx=>wq x.1 x.2*(zj0 bs ns bud - chq x.1 x.2)).sum=((bud - (zaY bs ns).sum:Int):Rat):=by
 rw[zkF (λx:Box×Int=>wq x.1 x.2) (λx=>chq x.1 x.2)]
 have e1:((ψm bs ns).map λx=>wq x.1 x.2).sum=(wqs bs ns).sum:=by rw[wqs,zgp]
 rw[e1,← zi4]
 unfold zj0
 generalize (wqs bs ns).sum=W at ws ⊢
 grind
theorem zxf{b:Box}(g:GB b){n:Int}(n0:0≤n)(gn:gnq b n≠0):wq b n*(chq b (n+1) - chq b n)=(b.1:Rat):=by
 have e:chq b (n+1) - chq b n=gnq b n:=by
  rw[zhD g,zhD g,zj2 g,show(n+1).toNat=n.toNat+1 by omega,ψn1]
  grind
 rw[e]
 unfold wq
 grind
def nxt(E:Rat)(bs:List Box)(ns:List Int):List Int:=ψr (λb n=>if chq b (n+1)=E then n+1 else n) bs ns
theorem zm9(E:Rat):∀(bs:List Box) (ns:List Int),ψm bs (nxt E bs ns)=(ψm bs ns).map λx=>(x.1,if chq x.1 (x.2+1)=E then x.2+1 else x.2)
 | [],_=>by simp[nxt]
 | _::_,[]=>by simp[nxt]
 | b::bs,n::ns=>by
  show ψm (b::bs) ((if chq b (n+1)=E then n+1 else n)::nxt E bs ns)=_
  rw[ψw1,ψw1,ψG,zm9 E bs ns]
theorem znU(E:Rat):∀(bs:List Box) (ns:List Int),(((zaY bs (nxt E bs ns)).sum:Int):Rat)=(((zaY bs ns).sum:Int):Rat)+((ψm bs ns).map λx=>if decide (chq x.1 (x.2+1)=E)=true then (x.1.1:Rat) else 0).sum
 | [],_=>by
  simp only[zaY,nxt,List.zipWith_nil_left,List.zip_nil_left,ψE1,List.sum_nil]
  grind
 | b::bs,[]=>by
  simp only[zaY,nxt,List.zipWith_nil_right,List.zip_nil_right,ψE1,List.sum_nil]
  grind
 | b::bs,n::ns=>by
  have ih:=znU E bs ns
  show(((b.1*(if chq b (n+1)=E then n+1 else n)+(zaY bs (nxt E bs ns)).sum:Int)):Rat)=((b.1*n+(zaY bs ns).sum:Int):Rat)+((if decide (chq b (n+1)=E)=true then (b.1:Rat) else 0)+((ψm bs ns).map λx=>if decide (chq x.1 (x.2+1)=E)=true then (x.1.1:Rat) else 0).sum)
  rw[ψM1,ψM1,ih,ψK,ψK]
  by_cases c:chq b (n+1)=E
  ·rw[if_pos c,if_pos (decide_eq_true c),ψM1]
   grind
  ·rw[if_neg c,if_neg (by simpa using c)]
   grind
theorem zpY{b:Box}(g:GB b){n:Int}(gn:gnq b n≠0):0<wq b n:=by
 obtain⟨p0,p1,_⟩:=znw g
 have c0:(0:Rat)<(b.1:Rat):=by exact_mod_cast (show(0:Int)<b.1 by have:=g.1;omega)
 have g0:0≤gnq b n:=by
  rw[zj2 g]
  exact Rat.mul_nonneg (zdd (ψe1 p0) p1 _).2.1 (ψe1 p0)
 have gp:0<gnq b n:=by grind
 unfold wq
 rw[Rat.div_def]
 exact Rat.mul_pos c0 (Rat.inv_pos.mpr gp)
theorem zoE{bs:List Box}{ns:List Int}{bud:Int}{E:Rat}(gb:∀b∈bs,GB b)(n0:∀n∈ns,0≤n)(G:Gn bs ns)(ne:ψm bs ns≠[])(lo:∀x∈ψm bs ns,chq x.1 x.2≤E)(ws:(wqs bs ns).sum≠0)(ve:E<zj0 bs ns bud) :
  ((ψm bs (nxt E bs ns)).map λx=>wq x.1 x.2*(E - chq x.1 x.2)).sum<((bud - (zaY bs (nxt E bs ns)).sum:Int):Rat)∧(zaY bs (nxt E bs ns)).sum<bud:=by
 have mb:∀x∈ψm bs ns,GB x.1∧0≤x.2∧gnq x.1 x.2≠0:=λx hx=>by
  obtain⟨i,ei⟩:=ψp hx
  rw[ψC] at ei
  exact⟨gb _ (zaz ei.1),n0 _ (zaz ei.2),G i _ _ ei.1 ei.2⟩
 have h:=zqv (w:=λx:Box×Int=>wq x.1 x.2) (ch:=λx=>chq x.1 x.2) (c:=λx=>(x.1.1:Rat)) (J:=λx=>decide (chq x.1 (x.2+1)=E)) ne (λx hx=>zpY (mb x hx).1 (mb x hx).2.2) (λx hx j=>?_) lo ve (zkD ws)
 ·have e1:((bud - (zaY bs (nxt E bs ns)).sum:Int):Rat)=((bud - (zaY bs ns).sum:Int):Rat) - ((ψm bs ns).map λx=>if decide (chq x.1 (x.2+1)=E)=true then (x.1.1:Rat) else 0).sum:=by
   rw[ψY1,ψY1,znU]
   grind
  rw[← e1] at h
  refine⟨?_,?_⟩
  ·refine(congrArg (λz=>z<((bud - (zaY bs (nxt E bs ns)).sum:Int):Rat)) ?_).mpr h.1
   rw[zm9,List.map_map]
   congr 1
   refine List.map_congr_left λx _=>?_
   show wq x.1 (if chq x.1 (x.2+1)=E then x.2+1 else x.2)*(E - chq x.1 (if chq x.1 (x.2+1)=E then x.2+1 else x.2))=if decide (chq x.1 (x.2+1)=E)=true then 0 else wq x.1 x.2*(E - chq x.1 x.2)
   by_cases c:chq x.1 (x.2+1)=E
   ·rw[if_pos c,if_pos (decide_eq_true c),c]
    grind
   ·rw[if_neg c,if_neg (by simpa using c)]
  ·have h2:=h.2
   have:(0:Int)<bud - (zaY bs (nxt E bs ns)).sum:=by exact_mod_cast h2
   omega
 ·have e:=of_decide_eq_true j
  obtain⟨g1,g2,g3⟩:=mb x hx
  show(x.1.1:Rat)=wq x.1 x.2*(E - chq x.1 x.2)
  rw[← zxf g1 g2 g3,e]
theorem zxA{b:Box}(g:GB b)(h:pr b=1):b.2.1=b.2.2:=by
 have on:(b.2.2:Rat)≠0:=λz=>by
  have:b.2.2=0:=by exact_mod_cast z
  obtain⟨g1,g2,g3,g4,g5⟩:=g
  omega
 have e:pr b=(b.2.1:Rat) / (b.2.2:Rat):=ψJ ..
 rw[e] at h
 have:(b.2.1:Rat)=(b.2.2:Rat):=by grind
 exact_mod_cast this
theorem zlA{b:Box}(g:GB b)(h:pr b=1){n:Int}(n0:0≤n)(gn:gnq b n≠0):n=0:=by
 rw[zj2 g,h] at gn
 rcases Nat.eq_zero_or_pos n.toNat with z | z
 ·omega
 ·exfalso
  apply gn
  obtain⟨k,hk⟩:∃k,n.toNat=k+1:=⟨n.toNat - 1,by omega⟩
  rw[hk,ψn1]
  grind
theorem znO(V:Rat):∀(bs:List Box) (ns:List Int),ns.length=bs.length→((ψm bs ns).map λx=>(x.1.1:Rat)*V).sum=V*(((bs.map λb=>b.1).sum:Int):Rat)
 | [],_,_=>by
  simp only[List.zip_nil_left,ψE1,List.sum_nil]
  grind
 | _::_,[],h=>by cases h
 | b::bs,n::ns,h=>by
  have ih:=znO V bs ns (Nat.succ.inj h)
  rw[ψw1,ψG,ψR,ψG,ψR,ψM1,ih]
  grind
theorem zhg:∀(bs:List Box) (ns:List Int),(∀n∈ns,n=0)→(zaY bs ns).sum=0
 | [],_,_=>by simp[zaY]
 | _::_,[],_=>by simp[zaY]
 | b::bs,n::ns,h=>by
  have ih:=zhg bs ns λx hx=>h x (ψf _ hx)
  show b.1*n+(zaY bs ns).sum=0
  rw[ih,h n ψj,Int.mul_zero]
  rfl
theorem znJ:∀(bs:List Box),(∀b∈bs,GB b)→bs≠[]→0<(bs.map λb=>b.1).sum
 | [],_,n=>absurd rfl n
 | [b],h,_=>by
  have:=(h b ψj).1
  simp only[ψG,ψE1,ψR,List.sum_nil]
  omega
 | b::c::bs,h,_=>by
  have ih:=znJ (c::bs) (λx hx=>h x (ψf _ hx)) (by simp)
  have:=(h b ψj).1
  rw[ψG,ψR]
  omega
theorem zwU{bs:List Box}{ns:List Int}{bud:Int}{E:Rat}(len:ns.length=bs.length)(gb:∀b∈bs,GB b)(n0:∀n∈ns,0≤n)(G:Gn bs ns)(ws:(wqs bs ns).sum≠0)(ve:E<zj0 bs ns bud)(mn:∀x∈ψm bs ns,E≤chq x.1 (x.2+1))
  (hs:(∀b∈bs,b.2.1=b.2.2)→bud<(bs.map λb=>b.1).sum):Gn bs (nxt E bs ns):=by
 intro i b m hb hm
 rw[nxt,ψy1,hb] at hm
 cases hn:ns[i]? with
 | none=>rw[hn] at hm;cases hm
 | some n =>
  rw[hn] at hm
  replace hm:(if chq b (n+1)=E then n+1 else n)=m:=Option.some.inj hm
  have g:=gb b (zaz hb)
  have gn:=G i b n hb hn
  have hn0:=n0 n (zaz hn)
  by_cases c:chq b (n+1)=E
  ·rw[if_pos c] at hm
   subst hm
   obtain⟨p0,p1,_⟩:=znw g
   by_cases s:pr b=1
   ·exfalso
    have z:=zlA g s hn0 gn
    subst z
    have eE:E=1:=by
     rw[← c,zhD g,s]
     show(1:Rat) - (1 - 1) ^ 1=1
     rw[ψn1,ψm1]
     grind
    have all:∀x∈ψm bs ns,pr x.1=1∧x.2=0∧GB x.1:=λx hx=>by
     have hm:=mn x hx
     obtain⟨k,ek⟩:=ψp hx
     rw[ψC] at ek
     have gx:=gb x.1 (zaz ek.1)
     obtain⟨q0,q1,_⟩:=znw gx
     have hx0:=n0 x.2 (zaz ek.2)
     rw[eE,zhD gx] at hm
     have px:pr x.1=1:=by
      refine ψY λne=>?_
      have h1:(1 - pr x.1)≠0:=by grind
      have h2:=zng h1 (x.2+1).toNat
      have h3:=(zdd (ψe1 q0) q1 (x.2+1).toNat).2.1
      grind
     exact⟨px,zlA gx px hx0 (G k _ _ ek.1 ek.2),gx⟩
    have sure:∀b∈bs,b.2.1=b.2.2:=λb' hb'=>by
     obtain⟨k,ek⟩:=ψp hb'
     have lk:=(List.getElem?_eq_some_iff.mp ek).1
     have en:ns[k]?=some ns[k]:=ψd (by omega)
     have hz:(b',ns[k])∈ψm bs ns:=ψM (List.getElem?_zip_eq_some.mpr ⟨ek,en⟩)
     exact zxA (gb b' hb') (all _ hz).1
    have hlt:=hs sure
    have W:=zkD (bud:=bud) ws
    have zs:∀n∈ns,n=0:=λn' hn'=>by
     obtain⟨k,ek⟩:=ψp hn'
     have lk:=(List.getElem?_eq_some_iff.mp ek).1
     have eb:bs[k]?=some bs[k]:=ψd (by omega)
     have hz:(bs[k],n')∈ψm bs ns:=ψM (List.getElem?_zip_eq_some.mpr ⟨eb,ek⟩)
     exact(all _ hz).2.1
    rw[zhg bs ns zs] at W
    have e1:((ψm bs ns).map λx=>wq x.1 x.2*(zj0 bs ns bud - chq x.1 x.2))=(ψm bs ns).map λx=>(x.1.1:Rat)*zj0 bs ns bud:=by
     refine List.map_congr_left λx hx=>?_
     obtain⟨a1,a2,a3⟩:=all x hx
     rw[a2]
     unfold wq
     rw[zj2 a3,zhD a3,a1]
     show(x.1.1:Rat) / ((1 - 1) ^ 0*1)*(zj0 bs ns bud - (1 - (1 - 1) ^ 0))=_
     rw[ψm1]
     grind
    rw[e1,znO _ _ _ len] at W
    have C0:=znJ bs gb (λz=>by rw[z] at hb;cases hb)
    have C1:(0:Rat)<(((bs.map λb=>b.1).sum:Int):Rat):=by exact_mod_cast C0
    have C2:((bud - 0:Int):Rat)<(((bs.map λb=>b.1).sum:Int):Rat):=by
     rw[Int.sub_zero]
     exact_mod_cast hlt
    rw[eE] at ve
    have m:=Rat.mul_lt_mul_of_pos_right ve C1
    grind
   ·rw[zj2 g]
    have h1:(1 - pr b)≠0:=by grind
    have h2:=zng h1 (n+1).toNat
    grind
  ·rw[if_neg c] at hm
   subst hm
   exact gn
theorem zoi{b:Box}(g:GB b){n:Int}(n0:0≤n):chq b n≤chq b (n+1):=by
 obtain⟨p0,p1,_⟩:=znw g
 have h:=(zdd (ψe1 p0) p1 n.toNat).2.1
 have m:=Rat.mul_nonneg h (ψe1 p0)
 rw[zhD g,zhD g,show(n+1).toNat=n.toNat+1 by omega,ψn1]
 grind
theorem zk3{b:Box}(g:GB b):chq b 0=0:=by
 rw[zhD g]
 show(1:Rat) - (1 - pr b) ^ 0=0
 rw[ψm1]
 grind
def Mid(bs:List Box)(ns:List Int)(t:Rat):Prop:=∀x∈ψm bs ns,chq x.1 x.2≤t∧t≤chq x.1 (x.2+1)
theorem ziO:∀(bs:List Box) (ns:List Int),(∀b∈bs,GB b)→(∀n∈ns,0≤n)→ns.length=bs.length→0≤(zaY bs ns).sum∧∀n∈ns,n≤(zaY bs ns).sum
 | [],[],_,_,_=>by simp[zaY]
 | [],_::_,_,_,h=>by cases h
 | _::_,[],_,_,h=>by cases h
 | b::bs,n::ns,gb,n0,h=>by
  obtain⟨z1,z2⟩:=ziO bs ns (λx hx=>gb x (ψf _ hx)) (λx hx=>n0 x (ψf _ hx)) (Nat.succ.inj h)
  obtain⟨g1,_⟩:=gb b ψj
  have hn:=n0 n ψj
  have m1:1*n≤b.1*n:=Int.mul_le_mul_of_nonneg_right g1 hn
  rw[Int.one_mul] at m1
  refine⟨?_,λm hm=>?_⟩
  ·show 0≤b.1*n+(zaY bs ns).sum
   omega
  ·show m≤b.1*n+(zaY bs ns).sum
   rcases List.mem_cons.mp hm with rfl | hm
   ·omega
   ·have:=z2 m hm
    omega
theorem zn7(E:Rat):∀(bs:List Box) (ns:List Int),(∀b∈bs,GB b)→(zaY bs ns).sum≤(zaY bs (nxt E bs ns)).sum∧((∃x∈ψm bs ns,chq x.1 (x.2+1)=E)→(zaY bs ns).sum<(zaY bs (nxt E bs ns)).sum)
 | [],_,_=>by simp[zaY]
 | b::bs,[],_=>by simp[zaY,nxt]
 | b::bs,n::ns,gb=>by
  obtain⟨z1,z2⟩:=zn7 E bs ns (λx hx=>gb x (ψf _ hx))
  obtain⟨g1,_⟩:=gb b ψj
  have e:(zaY (b::bs) (nxt E (b::bs) (n::ns))).sum=b.1*(if chq b (n+1)=E then n+1 else n)+(zaY bs (nxt E bs ns)).sum:=rfl
  have e2:(zaY (b::bs) (n::ns)).sum=b.1*n+(zaY bs ns).sum:=rfl
  rw[e,e2]
  by_cases c:chq b (n+1)=E
  ·rw[if_pos c,Int.mul_add,Int.mul_one]
   exact⟨by omega,λ_=>by omega⟩
  ·rw[if_neg c]
   refine⟨by omega,λhQ'=>?_⟩
   obtain⟨x,hx,ex⟩:=hQ'
   rw[ψw1] at hx
   rcases List.mem_cons.mp hx with rfl | hx
   ·exact absurd ex c
   ·have:=z2 ⟨x,hx,ex⟩
    omega
theorem zmF(E:Rat)(bs:List Box)(ns:List Int)(h:ns.length=bs.length):(nxt E bs ns).length=bs.length:=by rw[nxt,ψn];omega
theorem zvZ(E:Rat)(bs:List Box)(ns:List Int)(h:∀n∈ns,0≤n):∀n∈nxt E bs ns,0≤n:=λm hm=>by
 obtain⟨i,ei⟩:=ψp hm
 rw[nxt,ψy1] at ei
 cases e1:bs[i]? with
 | none=>rw[e1] at ei;cases ei
 | some b =>
  cases e2:ns[i]? with
  | none=>rw[e1,e2] at ei;cases ei
  | some n =>
   rw[e1,e2] at ei
   have:=h n (zaz e2)
   replace ei:(if chq b (n+1)=E then n+1 else n)=m:=Option.some.inj ei
   rw[← ei]
   split <;> omega
theorem zux{bs:List Box}{ns:List Int}{t E:Rat}(gb:∀b∈bs,GB b)(n0:∀n∈ns,0≤n)(M:Mid bs ns t)(te:t≤E)(mn:∀x∈ψm bs ns,E≤chq x.1 (x.2+1)):Mid bs (nxt E bs ns) E:=by
 intro y hy
 rw[zm9] at hy
 obtain⟨x,hx,rfl⟩:=List.mem_map.mp hy
 obtain⟨i,ei⟩:=ψp hx
 rw[ψC] at ei
 have g:=gb x.1 (zaz ei.1)
 have h0:=n0 x.2 (zaz ei.2)
 obtain⟨m1,m2⟩:=M x hx
 have m3:=mn x hx
 show chq x.1 (if chq x.1 (x.2+1)=E then x.2+1 else x.2)≤E∧E≤chq x.1 ((if chq x.1 (x.2+1)=E then x.2+1 else x.2)+1)
 by_cases c:chq x.1 (x.2+1)=E
 ·rw[if_pos c]
  refine⟨by rw[c];exact ψV1,?_⟩
  have:=zoi g (n:=x.2+1) (by omega)
  rw[c] at this
  exact this
 ·rw[if_neg c]
  exact⟨Rat.le_trans m1 te,m3⟩
theorem ziU{bs:List Box}{ns:List Int}(gb:∀b∈bs,GB b)(G:Gn bs ns)(ne:ψm bs ns≠[]):0<(wqs bs ns).sum:=by
 rw[wqs,zgp]
 refine zq3 (λx:Box×Int=>wq x.1 x.2) _ ne λx hx=>?_
 obtain⟨i,ei⟩:=ψp hx
 rw[ψC] at ei
 exact zpY (gb _ (zaz ei.1)) (G i _ _ ei.1 ei.2)
theorem zod{bs:List Box}{ns:List Int}{bud:Int}{t:Rat}(W:0<(wqs bs ns).sum)(h:((ψm bs ns).map λx=>wq x.1 x.2*(t - chq x.1 x.2)).sum≤((bud - (zaY bs ns).sum:Int):Rat)):t≤zj0 bs ns bud:=by
 have w:=zkD (bud:=bud) (bs:=bs) (ns:=ns) (by grind)
 rw[← w,zkF (λx:Box×Int=>wq x.1 x.2) (λx=>chq x.1 x.2),zkF (λx:Box×Int=>wq x.1 x.2) (λx=>chq x.1 x.2)] at h
 have e1:((ψm bs ns).map λx=>wq x.1 x.2).sum=(wqs bs ns).sum:=by rw[wqs,zgp]
 rw[e1] at h
 refine ψY λc=>?_
 have c':zj0 bs ns bud<t:=Rat.not_le.mp c
 have m:=Rat.mul_lt_mul_of_pos_right c' W
 grind
structure Lev (bs:List Box) (ns:List Int) (bud:Int) (t:Rat):Prop where
 len:ns.length=bs.length
 n0:∀n∈ns,0≤n
 n59:∀n∈ns,n≤59
 gn:Gn bs ns
 mid:Mid bs ns t
 tw:t≤zj0 bs ns bud
 cb:(zaY bs ns).sum≤bud
theorem zlu{bs:List Box}{ns:List Int}(l1:1≤bs.length)(h:ns.length=bs.length):ψm bs ns≠[]:=λz=>by
 have:=congrArg List.length z
 rw[ψZ1,List.length_nil] at this
 omega
theorem Lev.zero{bs:List Box}{bud:Int}(gb:∀b∈bs,GB b)(l1:1≤bs.length)(d0:0≤bud):Lev bs (bs.map λ_=>0) bud 0:=by
 have len:(bs.map λ_=>(0:Int)).length=bs.length:=ψb ..
 have z:∀n∈(bs.map λ_=>(0:Int)),n=0:=λn hn=>by
  obtain⟨_,_,e⟩:=List.mem_map.mp hn
  exact e.symm
 have gn:Gn bs (bs.map λ_=>(0:Int)):=λi b n e1 e2=>by
  have:=z n (zaz e2)
  subst this
  have g:=gb b (zaz e1)
  rw[zj2 g]
  have:=(znw g).1
  show(1 - pr b) ^ 0*pr b≠0
  rw[ψm1]
  grind
 have cz:=zhg bs _ z
 have zz:∀x∈ψm bs (bs.map λ_=>(0:Int)),GB x.1∧x.2=0:=λx hx=>by
  obtain⟨i,ei⟩:=ψp hx
  rw[ψC] at ei
  exact⟨gb _ (zaz ei.1),z _ (zaz ei.2)⟩
 refine⟨len,λn hn=>by rw[z n hn];decide,λn hn=>by rw[z n hn];decide,gn,λx hx=>?_,zod (ziU gb gn (zlu l1 len)) ?_,by omega⟩
 ·obtain⟨g,e⟩:=zz x hx
  rw[e,zk3 g]
  refine⟨ψV1,?_⟩
  have:=zoi g (n:=0) (by decide)
  rw[zk3 g] at this
  exact this
 ·have e:((ψm bs (bs.map λ_=>(0:Int))).map λx=>wq x.1 x.2*(0 - chq x.1 x.2)).sum=0:=by
   rw[show((ψm bs (bs.map λ_=>(0:Int))).map λx=>wq x.1 x.2*(0 - chq x.1 x.2))=(ψm bs (bs.map λ_=>(0:Int))).map λ_=>(0:Rat) from List.map_congr_left λx hx=>by
    obtain⟨g,e⟩:=zz x hx
    rw[e,zk3 g]
    grind]
   generalize ψm bs (bs.map λ_=>(0:Int))=l
   induction l with
   | nil=>rfl
   | cons x l ih =>
    rw[ψG,ψR,ih]
    grind
  rw[e,cz]
  exact_mod_cast (show(0:Int)≤bud - 0 by omega)
theorem Lev.step{bs:List Box}{ns:List Int}{bud:Int}{t E:Rat}(L:Lev bs ns bud t)(gb:∀b∈bs,GB b)(l1:1≤bs.length)(d1:bud≤60)(hs:(∀b∈bs,b.2.1=b.2.2)→bud<(bs.map λb=>b.1).sum)
  (mn:∀x∈ψm bs ns,E≤chq x.1 (x.2+1)) (me:∃x∈ψm bs ns,chq x.1 (x.2+1)=E) (ve:E<zj0 bs ns bud) :
  Lev bs (nxt E bs ns) bud E∧(bud - (zaY bs (nxt E bs ns)).sum).toNat<(bud - (zaY bs ns).sum).toNat:=by
 have ne:=zlu l1 L.len
 have W:=ziU gb L.gn ne
 have te:t≤E:=by
  obtain⟨x,hx,ex⟩:=me
  rw[← ex]
  exact(L.mid x hx).2
 obtain⟨t1,t2⟩:=zoE (bud:=bud) gb L.n0 L.gn ne (λx hx=>Rat.le_trans (L.mid x hx).1 te) (by grind) ve
 have gn:=zwU L.len gb L.n0 L.gn (by grind) ve mn hs
 have len:=zmF E bs ns L.len
 have n0:=zvZ E bs ns L.n0
 have ce:=ziO bs _ gb n0 len
 have mo:=(zn7 E bs ns gb).2 me
 refine⟨⟨len,n0,λn hn=>?_,gn,zux gb L.n0 L.mid te mn,zod (ziU gb gn (zlu l1 len)) (ψe1 t1),by omega⟩,by omega⟩
 have:=ce.2 n hn
 omega
def zqa(vs:List V):List Int:=vs.map λv=>match v with | .int n=>n | _=>0
theorem zoY(ns:List Int):zqa (ns.map V.int)=ns:=by
 unfold zqa
 rw[List.map_map]
 exact List.map_id ns
def zqG(bs:List Box)(bud:Int):St→Hp→Nat:=λσ H=>match σ with
 | _::_::some (.ref p)::_=>(match H p with | some (.lst vs)=>(bud - (zaY bs (zqa vs)).sum).toNat | _=>0)
 | _=>0
theorem zll{bs:List Box}{bud:Int}{x y:Option V}{p:Addr}{r:St}{H:Hp}{ns:List Int}(h:H p=some (.lst (ns.map V.int))):zqG bs bud (x::y::some (.ref p)::r) H=(bud - (zaY bs ns).sum).toNat:=by
 unfold zqG
 simp only[h,zoY]
theorem zug(u v:Rat):[u.num,(u.den:Int)]=[v.num,(v.den:Int)]↔u=v:=by
 refine⟨λh=>?_,λh=>by rw[h]⟩
 simp only[List.cons.injEq,and_true] at h
 exact Rat.ext h.1 (Int.ofNat.inj h.2)
theorem zt3{bs:List Box}{ns:List Int}{bud:Int}{t:Rat}(L:Lev bs ns bud t)(gb:∀b∈bs,GB b)(l1:1≤bs.length)(l6:bs.length≤6)(d1:bud≤60):Bq 1300 (zj0 bs ns bud):=by
 have W:=ziU gb L.gn (zlu l1 L.len)
 have st:=zg7 bs ns gb L.n0
 have cb:=L.cb
 have ce:=(ziO bs ns gb L.n0 L.len).1
 have zl:(ψm bs ns).length≤6:=by rw[ψZ1];omega
 have mb:∀x∈ψm bs ns,GB x.1∧gnq x.1 x.2≠0:=λx hx=>by
  obtain⟨i,ei⟩:=ψp hx
  rw[ψC] at ei
  exact⟨gb _ (zaz ei.1),L.gn i _ _ ei.1 ei.2⟩
 have h1:=zkl (j:=12) (k:=16) (f:=λx=>wq x.1 x.2*chq x.1 x.2) (ψm bs ns) λx hx=>((zl9 (mb x hx).1 (mb x hx).2).mul2 (znL (mb x hx).1 x.2)).mono (by omega)
 have h2:=zkl (j:=6) (k:=14) (f:=λx=>wq x.1 x.2) (ψm bs ns) λx hx=>zl9 (mb x hx).1 (mb x hx).2
 have e1:((ψm bs ns).map λx=>wq x.1 x.2).sum=(wqs bs ns).sum:=by rw[wqs,zgp]
 rw[← zi4] at h1
 rw[e1] at h2
 have bS:Bq 20 ((bud - (zaY bs ns).sum:Int):Rat):=⟨by show(bud - (zaY bs ns).sum).natAbs<2 ^ 20;omega,by show(1:Nat)<2 ^ 20;decide⟩
 have h3:=(h1.add2 bS).div2 h2 (by grind)
 exact h3.mono (by omega)
def nend(b:Box)(n:Int):Rat:=chq b (n+1)
def zld:Sp:=λvs H Q _=>∃(l:Addr) (ts:List Addr) (bs:List Box) (bud:Int),vs=[.ref l,.int bud]∧H l=some (.lst (ts.map V.ref))∧Tps bx H ts bs∧(∀b∈bs,GB b)∧1≤bs.length∧bs.length≤6∧0≤bud∧bud≤60∧((∀b∈bs,b.2.1=b.2.2)→bud<(bs.map λb=>b.1).sum) ∧
 ∀(r pl wr:Addr) (ns:List Int) (H':Hp),zaF H H'→H' r=some (.tup [.ref pl,.ref wr])→BP H' l pl ts bs ns→Lev bs ns bud (zj0 bs ns bud)→H' wr=some (.tup (fr (zj0 bs ns bud)))→Q (.ref r) H'
def zcy(K:ψa):TS :=
 (za2 (zbA (zhF K (zab (zac 2) (zab (zac 4) zak))) (zcW K 2 (zax (zag 0) (zax (zag 1) zcR))) zaE (tIf (zbE (tOp (rEqT K) (zac 1) (zac 2))) (tOp (rI0 λi j=>.int (i+j)) (zac 0) (tC (.int 1))) (zac 0)) [none,none,some 5]) (zag 2))
theorem za1(K:ψa)(D:zbP)(σ:St)(H:Hp):zcy K D σ H=(za2 (zbA (zhF K (zab (zac 2) (zab (zac 4) zak))) (zcW K 2 (zax (zag 0) (zax (zag 1) zcR))) zaE (tIf (zbE (tOp (rEqT K) (zac 1) (zac 2))) (tOp (rI0 λi j=>.int (i+j)) (zac 0) (tC (.int 1))) (zac 0)) [none,none,some 5]) (zag 2)) D σ H:=rfl
def zdG(K:ψa):TS :=
 (zaK (za2 (zar zgC [] E0 (zab (zac 0) (zab (zac 1) (zab (zac 2) zak)))) (zag 3))
 (zaK (za2 (zbA (zhF K (zab (zac 0) (zab (zac 2) zak))) (zcW K 2 (zax (zag 0) (zax (zag 1) zcR))) zaE (zar zgg [] E0 (zab (zac 0) (zab (tOp (rI0 λi j=>.int (i+j)) (zac 1) (tC (.int 1))) zak))) [none,none]) (zag 4))
 (zaK (za2 (zar zkA [] E0 (zab (zac 4) zak)) (zag 5))
 (zaK (zdq (zca (zfw (tB (zar zie [] E0 (zab (zac 5) (zab (zac 3) zak))))) (zbb (zbV (zab (zac 2) (zab (zac 3) zak)))) zaV))
 (zcy K)))))
theorem za0(K:ψa)(D:zbP)(σ:St)(H:Hp):zdG K D σ H=(zaK (za2 (zar zgC [] E0 (zab (zac 0) (zab (zac 1) (zab (zac 2) zak)))) (zag 3))
 (zaK (za2 (zbA (zhF K (zab (zac 0) (zab (zac 2) zak))) (zcW K 2 (zax (zag 0) (zax (zag 1) zcR))) zaE (zar zgg [] E0 (zab (zac 0) (zab (tOp (rI0 λi j=>.int (i+j)) (zac 1) (tC (.int 1))) zak))) [none,none]) (zag 4))
 (zaK (za2 (zar zkA [] E0 (zab (zac 4) zak)) (zag 5))
 (zaK (zdq (zca (zfw (tB (zar zie [] E0 (zab (zac 5) (zab (zac 3) zak))))) (zbb (zbV (zab (zac 2) (zab (zac 3) zak)))) zaV))
 (zcy K))))) D σ H:=rfl
def zcP(K:ψa):TS :=
 (zaK (za2 (zbA (zcX K (zac 0)) (zag 0) zaE (tC (.int 0)) [none]) (zag 2))
 (znE (tB (tC (.bl true))) (zdG K)))
theorem zgy{l:Addr}{ts:List Addr}{bs:List Box}{bud:Int}(hl:H l=some (.lst (ts.map V.ref)))(T:Tps bx H ts bs)(gb:∀b∈bs,GB b)(l1:1≤bs.length)(l6:bs.length≤6)(d0:0≤bud)(d1:bud≤60)(hs:(∀b∈bs,b.2.1=b.2.2)→bud<(bs.map λb=>b.1).sum)
  (q:∀(r pl wr:Addr) (ns:List Int) (H':Hp),zaF H H'→H' r=some (.tup [.ref pl,.ref wr])→BP H' l pl ts bs ns→Lev bs ns bud (zj0 bs ns bud)→H' wr=some (.tup (fr (zj0 bs ns bud)))→Q (.ref r) H') :
  zcP K { nx:=λ_ H'=>Q .non H',rt:=Q } (L2.start ["boxes","budget","counts","worth","ends","end"] [.ref l,.int bud]) H:=by
 unfold zcP
 simp_all only [za1,za0,zac]
 refine⟨⟨_,SqL.of hl⟩,λD hD=>?_⟩
 refine zeT (vs:=(bs.map λ_=>(0:Int)).map V.int) hl (by simp[T.1]) (by simp;omega) hD (λi x v H' R _ hv s k=>?_) λH1 s1 h1=>?_
 ·obtain⟨n,en,rfl⟩:=zaC hv
  obtain⟨_,_,rfl⟩:=zaC en
  exact k _ (.refl _)
 refine znG (λσ H'=>zaF H H'∧∃(pl:Addr) (ns:List Int) (t:Rat) (x y z:Option V),H' pl=some (.lst (ns.map V.int))∧Lev bs ns bud t∧σ=[some (.ref l),some (.int bud),some (.ref pl),x,y,z]) (zqG bs bud) ⟨s1,D,_,0,_,_,_,h1,Lev.zero gb l1 d0,rfl⟩ ?_ ?_
 ·rintro σ H' ⟨s,pl,ns,t,x,y,z,hp,L,rfl⟩
  rw[zll hp]
  have B:BP H' l pl ts bs ns:=⟨s _ _ hl,T.same s,hp,L.len,gb,λn hn=>⟨L.n0 n hn,by have:=L.n59 n hn;omega⟩,l1,by omega⟩
  have W:=ziU gb L.gn (zlu l1 L.len)
  simp_all only [za1,za0,zac]
  refine⟨l,pl,ts,bs,ns,bud,rfl,B,(by have:=L.cb;omega),L.gn,d0,d1,by grind,λwr H2 s2 hw=>?_⟩
  have B2:=B.same s2
  refine⟨⟨_,SqL.of B2.hl⟩,⟨_,SqL.of B2.hp⟩,λD2 hD2=>?_⟩
  have lE:(ψr nend bs ns).length=bs.length:=by rw[ψn,L.len];omega
  refine zeR (f:=fr) (qs:=ψr nend bs ns) B2.hl B2.hp (by rw[lE,ψb,ψb,T.1,L.len];omega) (by omega) hD2 (λi x z w H3 R hx hz hw s3 k=>?_) λus H3 s3 h3 TE=>?_
  ·obtain⟨a,ha,rfl⟩:=zaC hx
   obtain⟨n,hn,rfl⟩:=zaC hz
   obtain⟨b,hb1,hb2⟩:=B2.hb.at ha
   have e:=zhQ hb1 hn hw
   subst e
   simp_all only [za1,za0,zac]
   have:=L.n0 n (zaz hn)
   have:=L.n59 n (zaz hn)
   exact⟨a,b,n+1,rfl,s3 _ _ hb2,gb b (zaz hb1),by omega,by omega,k⟩
  ·have bE:∀x∈ψr nend bs ns,Bq 401 x:=zg2 _ λi b n h1 h2=>zt9 (gb b (zaz h1)) (by have:=L.n59 n (zaz h2);omega)
   refine⟨D2,us,_,rfl,h3,TE,by omega,λx hx=>(bE x hx).mono (by decide),λer E hE mE lE=>?_⟩
   have hw3:=s3 _ _ hw
   have mn:∀x∈ψm bs ns,E≤chq x.1 (x.2+1):=λx hx=>by
    refine lE _ ?_
    rw[zgp]
    exact List.mem_map.mpr ⟨x,hx,rfl⟩
   have me:∃x∈ψm bs ns,chq x.1 (x.2+1)=E:=by
    rw[zgp] at mE
    obtain⟨x,hx,e⟩:=List.mem_map.mp mE
    exact⟨x,hx,e⟩
   have S3:=s2.trans s3
   refine⟨λσ H'=>H'=H3∧E<zj0 bs ns bud∧σ=[some (.ref l),some (.int bud),some (.ref pl),some (.ref wr),some (.ref D2),some (.ref er)],?_,?_⟩
   ·simp_all only [za1,za0,zac]
    refine⟨er,wr,E,_,rfl,hE,hw3,(bE E mE).mono (by decide),(zt3 L gb l1 l6 d1).mono (by decide),?_⟩
    refine⟨_,rfl,?_⟩
    by_cases c:E<zj0 bs ns bud
    ·rw[if_neg (by simp[c])]
     exact⟨rfl,c⟩
    ·rw[if_pos (by simp[c])]
     have c':=Rat.not_lt.mp c
     refine⟨by decide,λp np=>?_⟩
     refine q p pl wr ns _ ((s.trans S3).add np) zaj ((B.same S3).same (zaq np _)) ⟨L.len,L.n0,L.n59,L.gn,λx hx=>⟨Rat.le_trans (L.mid x hx).1 L.tw,Rat.le_trans c' (mn x hx)⟩,ψV1,L.cb⟩ (by rw[zaP (zaM hw3 np)];exact hw3)
   ·rintro σ H4 ⟨rfl,ve,rfl⟩
    simp_all only [za1,za0,zac]
    obtain⟨Lv,dn⟩:=L.step gb l1 d1 hs mn me ve
    have hp3:=S3 _ _ hp
    refine⟨⟨_,SqL.of hp3⟩,⟨_,SqL.of h3⟩,λD3 hD3=>?_⟩
    refine ze5 (vs:=(nxt E bs ns).map V.int) hp3 h3 ?_ ?_ hD3 (λi x z v H5 R hx hz hv s5 k=>?_) λH5 s5 h5=>?_
    ·rw[ψb,ψb,ψb,zmF E bs ns L.len,TE.1,ψn,L.len]
     omega
    ·rw[ψb,zmF E bs ns L.len]
     omega
    ·obtain⟨n,hn,rfl⟩:=zaC hx
     obtain⟨a,ha,rfl⟩:=zaC hz
     obtain⟨m,hm,rfl⟩:=zaC hv
     obtain⟨f,hf1,hf2⟩:=TE.at ha
     have hi:=(List.getElem?_eq_some_iff.mp hn).1
     have hb:bs[i]?=some (bs[i]'(by rw[← L.len];exact hi)):=ψd (by rw[← L.len];exact hi)
     have e:=zhQ hb hn hm
     have e2:=zhQ hb hn hf1
     simp_all only [za1,za0,zac]
     refine⟨[f.num,(f.den:Int)],SqT.of (s5 _ _ hf2),[E.num,(E.den:Int)],SqT.of (s5 _ _ hE),?_⟩
     rw[e2,nend]
     by_cases c:chq (bs[i]'(by rw[← L.len];exact hi)) (n+1)=E
     ·rw[if_pos ((zug _ _).mpr c)]
      rw[e,if_pos c] at k
      exact k _ (.refl _)
     ·rw[if_neg (λz=>c ((zug _ _).mp z))]
      rw[e,if_neg c] at k
      exact k _ (.refl _)
    ·exact⟨s.trans (S3.trans s5),⟨D3,_,h5,E,Lv,rfl⟩,by rw[zll h5];exact dn⟩
 ·rintro σ H1 Q1 Q2 hQ ⟨c,e,h⟩
  exact⟨c,e,hQ _ _ h⟩
theorem zbo:zaA ["boxes","budget","counts","worth","ends","end"] ["boxes","budget"] (zai zbz):=⟨rfl,rfl,rfl,by decide +kernel,rfl,by decide +kernel,by decide +kernel⟩
theorem zgL(T:Txt K mg a):zcC P w K mg base CX0 6 a.f_counts_and_worth a.d_counts_and_worth ["boxes","budget"] zld:=by
 have G_below:=zob (P:=P) (w:=w) (base:=base) T
 have G_chance:=zgU (P:=P) (w:=w) (base:=base) T
 have G_chance_for:=zj7 (P:=P) (w:=w) (base:=base) T
 have G_least_chance:=zi7 (P:=P) (w:=w) (base:=base) T
 refine T.F_counts_and_worth.ok zbo (λvs H Q E h=>?_) (λcdv A outer s H vs Q E hr h=>?_)
 ·obtain⟨l,ts,bs,bud,rfl,hl,T',gb,l1,l6,d0,d1,hs,q⟩:=h
  rfl
 obtain⟨l,ts,bs,bud,rfl,hl,T',gb,l1,l6,d0,d1,hs,q⟩:=h
 exact⟨zcP K,(zaf (zb8 (i:=2) zbo.nd rfl rfl (sc:=zai zbz) (N:=["boxes","budget","counts","worth","ends","end"]) (Nc:=["box"]) (cap:=[none]) rfl rfl rfl (.of (by decide +kernel)) (zbU (pv 0)) (λ_ _ _ _=>(zao (i:=0) (show ψk (["box"]:List Str) from by decide) rfl (Or.inl rfl))) (λ_ _ _ _=>za8) (λ_ _ _ _=>zah))
 (zam (znT PassesOwn.never (zbF zeA) (zaf (zaL (i:=3) zbo.nd rfl (Or.inl rfl) (zal G_chance_for (hr.mono (by decide)) rfl T.m_chance_for T.F_chance_for.kp T.b_chance_for .nil zaH (zaa (pv 0) (zaa (pv 1) (zaa (pv 2) zad)))))
 (zaf (zb8 (i:=4) zbo.nd rfl rfl (sc:=zai zbz) (N:=["boxes","budget","counts","worth","ends","end"]) (Nc:=["box","count"]) (cap:=[none,none]) rfl rfl rfl (.of (by decide +kernel)) (zdD rfl T.z_zip (zaa (pv 0) (zaa (pv 2) zad))) (λ_ _ _ _=>(zbw rfl (zap (zao (i:=0) (show ψk (["box","count"]:List Str) from by decide) rfl (Or.inl rfl)) (zap (zao (i:=1) (show ψk (["box","count"]:List Str) from by decide) rfl (Or.inl rfl)) zaW)))) (λ_ _ _ _=>za8) (λ_ _ _ _=>(zal G_chance (hr.mono (by decide)) rfl T.m_chance T.F_chance.kp T.b_chance .nil zaH (zaa (pv 0) (zaa (zaB zcT (pv 1) zah) zad)))))
 (zaf (zaL (i:=5) zbo.nd rfl (Or.inr rfl) (zal G_least_chance (hr.mono (by decide)) rfl T.m_least_chance T.F_least_chance.kp T.b_least_chance .nil zaH (zaa (pv 4) zad)))
 (zaf (zbB (zbW (zcK (zbF (zal G_below (hr.mono (by decide)) rfl T.m_below T.F_below.kp T.b_below .nil zaH (zaa (pv 5) (zaa (pv 3) zad))))) (zam (zaD (za3 (zaa (pv 2) (zaa (pv 3) zad))))) zaQ))
 (zam (zb8 (i:=2) zbo.nd rfl rfl (sc:=zai zbz) (N:=["boxes","budget","counts","worth","ends","end"]) (Nc:=["count","one","end"]) (cap:=[none,none,some 5]) rfl rfl rfl (.of (by decide +kernel)) (zdD rfl T.z_zip (zaa (pv 2) (zaa (pv 4) zad))) (λ_ _ _ _=>(zbw rfl (zap (zao (i:=0) (show ψk (["count","one","end"]:List Str) from by decide) rfl (Or.inl rfl)) (zap (zao (i:=1) (show ψk (["count","one","end"]:List Str) from by decide) rfl (Or.inl rfl)) zaW)))) (λ_ _ _ _=>za8) (λ_ _ _ _=>(znN (zbG (zyf hr.units0) (pv 1) (pv 2) (za9 _)) (zaB zcT (pv 0) zah) (pv 0)))))))))))),
  zgy hl T' gb l1 l6 d0 d1 hs q⟩
structure zpz (ns:List Int) (g:Int):Prop where
 g0:0≤g
 all:∀n∈ns,g∣n
 most:∀d:Int,(∀n∈ns,d∣n)→d∣g
theorem zpz.ne{ns:List Int}{g n:Int}(h:zpz ns g)(hn:n∈ns)(n0:n≠0):0<g:=by
 have h1:=h.all n hn
 have h2:=h.g0
 refine ψY λc=>n0 ?_
 have:g=0:=by omega
 subst this
 exact Int.zero_dvd.mp h1
theorem zpz.le{ns:List Int}{g n:Int}(h:zpz ns g)(hn:n∈ns)(n0:n≠0):g.natAbs≤n.natAbs:=Nat.le_of_dvd (by omega) (Int.natAbs_dvd_natAbs.mpr (h.all n hn))
theorem zpz.log{ns:List Int}{g n:Int}(h:zpz ns g)(hn:n∈ns)(n0:n≠0)(b:Bd 9000 n):g.natAbs.log2<9000:=zhG 9000 (by have:=h.ne hn n0;omega) (b.le (h.le hn n0))
def zkV:Sp:=λvs H Q _=>∃(l:Addr) (ns:List Int),vs=[.ref l]∧H l=some (.lst (ns.map V.int))∧∀g:Int,zpz ns g→Q (.int g) H
def zdC(K:ψa):TS :=
 (zaK (za2 (tC (.int 0)) (zag 1))
 (zaK (zjy (zcX K (zac 0)) (zag 2)
 (za2 (zar zlG [] E0 (zab (zac 1) (zab (zac 2) zak))) (zag 1)))
 (zbb (zac 1))))
theorem zhv{l:Addr}{ns:List Int}(hl:H l=some (.lst (ns.map V.int)))(q:∀g:Int,zpz ns g→Q (.int g) H) :
  zdC K { nx:=λ_ H'=>Q .non H',rt:=Q } (L2.start ["numbers","shared","number"] [.ref l]) H:=by
 unfold zdC
 simp_all only [zac]
 refine⟨⟨_,SqL.of hl⟩,?_⟩
 refine zeW (K:=K) (xs:=ns.map V.int) (λi σ H'=>H'=H∧∃(g:Int) (x:Option V),zpz (ns.take i) g∧σ=[some (.ref l),some (.int g),x]) ⟨rfl,0,_,⟨by decide,by simp,λd _=>Int.dvd_zero d⟩,rfl⟩ ?_ ?_ ?_
 ·rintro i σ H' _ ⟨rfl,_⟩
  exact SqL.of hl
 ·rintro i v σ H1 hx ⟨rfl,g,x,G,rfl⟩
  obtain⟨n,en,rfl⟩:=zaC hx
  simp_all only [zac]
  refine⟨g,n,rfl,rfl,_,⟨by omega,λm hm=>?_,λd hd=>?_⟩,rfl⟩
  ·rw[ψw,en] at hm
   rcases List.mem_append.mp hm with h | h
   ·exact Int.dvd_trans (Int.gcd_dvd_left ..) (G.all m h)
   ·have:m=n:=by simpa using h
    rw[this]
    exact Int.gcd_dvd_right ..
  ·rw[ψw,en] at hd
   exact Int.dvd_coe_gcd (G.most d λm hm=>hd m (ψl1 _ hm)) (hd n (ψq _ (by simp)))
 ·rintro σ H1 ⟨rfl,g,x,G,rfl⟩
  rw[ψb,ψO] at G
  simp_all only [zac]
  exact q g G
theorem zcu:zaA ["numbers","shared","number"] ["numbers"] (zai zdw):=⟨rfl,rfl,rfl,by decide +kernel,rfl,by decide +kernel,by decide +kernel⟩
theorem zeZ(T:Txt K mg a):zcC P w K mg base CX0 2 a.f_shared_divisor a.d_shared_divisor ["numbers"] zkV:=by
 have G_divisor:=zgf (P:=P) (w:=w) (base:=base) T
 refine T.F_shared_divisor.ok zcu (λvs H Q E h=>?_) (λcdv A outer s H vs Q E hr h=>?_)
 ·obtain⟨l,ns,rfl,hl,q⟩:=h
  rfl
 obtain⟨l,ns,rfl,hl,q⟩:=h
 exact⟨zdC K,(zaf (zaL (i:=1) zcu.nd rfl (Or.inl rfl) zah)
 (zaf (zeq PassesOwn.never rfl (zbU (pv 0)) (zao (i:=2) zcu.nd rfl (Or.inl rfl))
 (zam (zaL (i:=1) zcu.nd rfl (Or.inl rfl) (zal G_divisor (hr.mono (by decide)) rfl T.m_divisor T.F_divisor.kp T.b_divisor .nil zaH (zaa (pv 1) (zaa (pv 2) zad))))))
 (zam (zaD (pv 1))))),
  zhv hl q⟩
def zkm:Sp:=λvs H Q _=>∃(l:Addr) (ns:List Int) (m:Int),vs=[.ref l]∧H l=some (.lst (ns.map V.int))∧ns.length≤1000∧m∈ns∧m≠0∧Bd 9000 m∧∀(r:Addr) (g:Int) (H':Hp),zaF H H'→zpz ns g→H' r=some (.lst ((ns.map λn=>n.fdiv g).map V.int))→Q (.ref r) H'
def zkU(K:ψa):TS :=
 (zaK (za2 (zar zkV [] E0 (zab (zac 0) zak)) (zag 1))
 (zbb (zbA (zcX K (zac 0)) (zag 0) zaE (tOp (rI (λ_ j=>j≠0∧j.natAbs.log2<9000) λi j=>.int (i.fdiv j)) (zac 0) (zac 1)) [none,some 1])))
theorem zrj{l:Addr}{ns:List Int}{m:Int}(hl:H l=some (.lst (ns.map V.int)))(l1:ns.length≤1000)(hm:m∈ns)(m0:m≠0)(mb:Bd 9000 m)(q:∀(r:Addr) (g:Int) (H':Hp),zaF H H'→zpz ns g→H' r=some (.lst ((ns.map λn=>n.fdiv g).map V.int))→Q (.ref r) H') :
  zkU K { nx:=λ_ H'=>Q .non H',rt:=Q } (L2.start ["weights","shared"] [.ref l]) H:=by
 unfold zkU
 simp_all only [zac]
 refine⟨l,ns,rfl,hl,λg G=>?_⟩
 refine⟨⟨_,SqL.of hl⟩,λD hD=>?_⟩
 refine zeT (vs:=(ns.map λn=>n.fdiv g).map V.int) hl (by simp) (by simpa using l1) hD (λi x v H' R hx hv s k=>?_) λH1 s1 h1=>q D g H1 s1 G h1
 obtain⟨n,en,rfl⟩:=zaC hx
 obtain⟨y,ey,rfl⟩:=zaC hv
 obtain⟨n',en',rfl⟩:=zaC ey
 rw[en] at en'
 cases en'
 simp_all only [zac]
 exact⟨by have:=G.ne hm m0;omega,G.log hm m0 mb,k _ (.refl _)⟩
theorem zlw:zaA ["weights","shared"] ["weights"] (zai zib):=⟨rfl,rfl,rfl,by decide +kernel,rfl,by decide +kernel,by decide +kernel⟩
theorem zqO(T:Txt K mg a):zcC P w K mg base CX0 3 a.f_lowest a.d_lowest ["weights"] zkm:=by
 have G_shared_divisor:=zeZ (P:=P) (w:=w) (base:=base) T
 refine T.F_lowest.ok zlw (λvs H Q E h=>?_) (λcdv A outer s H vs Q E hr h=>?_)
 ·obtain⟨l,ns,m,rfl,hl,l1,hm,m0,mb,q⟩:=h
  rfl
 obtain⟨l,ns,m,rfl,hl,l1,hm,m0,mb,q⟩:=h
 exact⟨zkU K,(zaf (zaL (i:=1) zlw.nd rfl (Or.inr rfl) (zal G_shared_divisor (hr.mono (by decide)) rfl T.m_shared_divisor T.F_shared_divisor.kp T.b_shared_divisor .nil zaH (zaa (pv 0) zad)))
 (zam (zaD (zbX (sc:=zai zib) (N:=["weights","shared"]) (Nc:=["weight","shared"]) (cap:=[none,some 1]) rfl rfl rfl (.of (by decide +kernel)) (zbU (pv 0)) (λ_ _ _ _=>(zao (i:=0) (show ψk (["weight","shared"]:List Str) from by decide) rfl (Or.inl rfl))) (λ_ _ _ _=>za8) (λ_ _ _ _=>(zaB zdV (pv 0) (pv 1))))))),
  zrj hl l1 hm m0 mb q⟩
def shq(V:Rat)(b:Box)(n:Int):Rat:=(V - chq b n) / gnq b n
def zoa:Sp:=λvs H Q _=>∃(l pl wr:Addr) (ts:List Addr) (bs:List Box) (ns:List Int) (W:Rat),vs=[.ref l,.ref pl,.ref wr]∧BP H l pl ts bs ns∧Gn bs ns∧H wr=some (.tup (fr W))∧Bq 1300 W∧∀(r:Addr) (us:List Addr) (H':Hp),zaF H H'→H' r=some (.lst (us.map V.ref))→Tps fr H' us (ψr (shq W) bs ns)→Q (.ref r) H'
def zfj(K:ψa):TS :=
 (zbb (zbA (zhF K (zab (zac 0) (zab (zac 1) zak))) (zcW K 2 (zax (zag 0) (zax (zag 1) zcR))) zaE (zar zj9 [] E0 (zab (zar zoe [] E0 (zab (zac 2) (zab (zar zgg [] E0 (zab (zac 0) (zab (zac 1) zak))) zak))) (zab (zar zmP [] E0 (zab (zac 0) (zab (zac 1) zak))) zak))) [none,none,some 2]))
theorem zjL{l pl wr:Addr}{ts:List Addr}{bs:List Box}{ns:List Int}{W:Rat}(B:BP H l pl ts bs ns)(G:Gn bs ns)(hw:H wr=some (.tup (fr W)))(bW:Bq 1300 W)(q:∀(r:Addr) (us:List Addr) (H':Hp),zaF H H'→H' r=some (.lst (us.map V.ref))→Tps fr H' us (ψr (shq W) bs ns)→Q (.ref r) H') :
  zfj K { nx:=λ_ H'=>Q .non H',rt:=Q } (L2.start ["boxes","counts","worth"] [.ref l,.ref pl,.ref wr]) H:=by
 unfold zfj
 simp_all only [zac]
 have l6:=B.l6
 refine⟨⟨_,SqL.of B.hl⟩,⟨_,SqL.of B.hp⟩,λD hD=>?_⟩
 refine zeR (f:=fr) (qs:=ψr (shq W) bs ns) B.hl B.hp (by rw[ψn,ψb,ψb,B.hb.1]) (by rw[ψn];omega) hD (λi x z w H3 R hx hz hv s3 k=>?_) λus H3 s3 h3 TE=>q D us H3 s3 h3 TE
 obtain⟨a,ha,rfl⟩:=zaC hx
 obtain⟨n,hn,rfl⟩:=zaC hz
 obtain⟨b,hb1,hb2⟩:=B.hb.at ha
 have e:=zhQ hb1 hn hv
 subst e
 have g:=B.gb b (zaz hb1)
 obtain⟨n0,n1⟩:=B.gn n (zaz hn)
 have bC:=znL g n
 have bG:=zqC g n
 simp_all only [zac]
 refine⟨a,b,n,rfl,s3 _ _ hb2,g,n0,n1,λc H4 s4 h4=>?_⟩
 refine⟨wr,c,W,_,rfl,s4 _ _ (s3 _ _ hw),h4,bW.mono (by decide),bC.mono (by omega),λd H5 s5 h5=>?_⟩
 refine⟨a,b,n,rfl,s5 _ _ (s4 _ _ (s3 _ _ hb2)),g,n0,n1,λe H6 s6 h6=>?_⟩
 exact⟨d,e,_,_,rfl,s6 _ _ h5,h6,G i b n hb1 hn,(bW.sub2 bC).mono (by omega),bG.mono (by omega),λr H7 s7 h7=>k r H7 (s4.trans (s5.trans (s6.trans s7))) h7⟩
theorem zjJ:zaA ["boxes","counts","worth"] ["boxes","counts","worth"] (zai zdS):=⟨rfl,rfl,rfl,by decide +kernel,rfl,by decide +kernel,by decide +kernel⟩
theorem zjx(T:Txt K mg a):zcC P w K mg base CX0 4 a.f_look_shares a.d_look_shares ["boxes","counts","worth"] zoa:=by
 have G_chance:=zgU (P:=P) (w:=w) (base:=base) T
 have G_gain:=zqI (P:=P) (w:=w) (base:=base) T
 have G_minus:=zsi (P:=P) (w:=w) (base:=base) T
 have G_over:=zmO (P:=P) (w:=w) (base:=base) T
 refine T.F_look_shares.ok zjJ (λvs H Q E h=>?_) (λcdv A outer s H vs Q E hr h=>?_)
 ·obtain⟨l,pl,wr,ts,bs,ns,W,rfl,B,G,hw,bW,q⟩:=h
  rfl
 obtain⟨l,pl,wr,ts,bs,ns,W,rfl,B,G,hw,bW,q⟩:=h
 exact⟨zfj K,(zam (zaD (zbX (sc:=zai zdS) (N:=["boxes","counts","worth"]) (Nc:=["box","count","worth"]) (cap:=[none,none,some 2]) rfl rfl rfl (.of (by decide +kernel)) (zdD rfl T.z_zip (zaa (pv 0) (zaa (pv 1) zad))) (λ_ _ _ _=>(zbw rfl (zap (zao (i:=0) (show ψk (["box","count","worth"]:List Str) from by decide) rfl (Or.inl rfl)) (zap (zao (i:=1) (show ψk (["box","count","worth"]:List Str) from by decide) rfl (Or.inl rfl)) zaW)))) (λ_ _ _ _=>za8) (λ_ _ _ _=>(zal G_over (hr.mono (by decide)) rfl T.m_over T.F_over.kp T.b_over .nil zaH (zaa (zal G_minus (hr.mono (by decide)) rfl T.m_minus T.F_minus.kp T.b_minus .nil zaH (zaa (pv 2) (zaa (zal G_chance (hr.mono (by decide)) rfl T.m_chance T.F_chance.kp T.b_chance .nil zaH (zaa (pv 0) (zaa (pv 1) zad))) zad))) (zaa (zal G_gain (hr.mono (by decide)) rfl T.m_gain T.F_gain.kp T.b_gain .nil zaH (zaa (pv 0) (zaa (pv 1) zad))) zad))))))),
  zjL B G hw bW q⟩
theorem zxx{b:Box}(g:GB b){n:Int}(n0:0≤n)(n1:n≤60)(gn:gnq b n≠0){W:Rat}(bW:Bq 1300 W):Bq 2200 (shq W b n):=((bW.sub2 (znL g n)).div2 (zqC g n) gn).mono (by omega)
theorem Com.bd{m:Nat}:∀{qs:List Rat} {D:Int},Com qs D→(∀q∈qs,Bq m q)→Bd (m*qs.length+1) D:=by
 intro qs D C h
 have key:∀rs:List Rat,(∀q∈rs,Bq m q)→∃M:Int,0<M∧Bd (m*rs.length+1) M∧∀q∈rs,(q.den:Int)∣M:=by
  intro rs
  induction rs with
  | nil=>exact λ_=>⟨1,by decide,by show(1:Nat)<2 ^ _;exact ψv1 (by omega),by simp⟩
  | cons r rs ih =>
   intro h
   obtain⟨M,M0,hM,hd⟩:=ih λq hq=>h q (ψf _ hq)
   refine⟨(r.den:Int)*M,ψW1 (zet r) M0,(((h r ψj).bot.mul hM).mono (by rw[ψQ,Nat.mul_add];omega)),λq hq=>?_⟩
   rcases List.mem_cons.mp hq with rfl | hq
   ·exact Int.dvd_mul_right ..
   ·exact Int.dvd_trans (hd q hq) (Int.dvd_mul_left ..)
 obtain⟨M,M0,hM,hd⟩:=key qs h
 exact hM.le (Nat.le_of_dvd (by omega) (Int.natAbs_dvd_natAbs.mpr (C.least M hd)))
theorem zv7(t b:Int)(h:b≠0):((ψZ t b).den:Int)∣b:=by
 rw[(zn1 h).2]
 exact⟨_,(zgW t b).symm⟩
theorem zxT{N D A M O X:Rat}(a1:D≠0)(a2:A≠0)(a3:M≠0)(a4:X≠0)(a5:O≠0):((N / D - (A - M) / A) / (M*X / (A*O)))=((N - D)*(A*O)+D*(M*O)) / (D*(M*X)):=by
 have h1:M*X / (A*O)≠0:=by
  rw[Rat.div_def]
  intro z
  rcases Rat.mul_eq_zero.mp z with h | h
  ·rcases Rat.mul_eq_zero.mp h with h | h
   ·exact a3 h
   ·exact a4 h
  ·have h9:A*O≠0:=λz=>(Rat.mul_eq_zero.mp z).elim a2 a5
   have:=Rat.mul_inv_cancel _ h9
   rw[h] at this
   grind
 have h2:D*(M*X)≠0:=by
  intro z
  rcases Rat.mul_eq_zero.mp z with h | h
  ·exact a1 h
  ·rcases Rat.mul_eq_zero.mp h with h | h
   ·exact a3 h
   ·exact a4 h
 have h3:A*O≠0:=by
  intro z
  rcases Rat.mul_eq_zero.mp z with h | h
  ·exact a2 h
  ·exact a5 h
 have e1:((N - D)*(A*O)+D*(M*O)) / (D*(M*X))*(M*X / (A*O))=N / D - (A - M) / A:=by
  have e2:((N - D)*(A*O)+D*(M*O)) / (D*(M*X))*(M*X / (A*O))=((N - D)*(A*O)+D*(M*O)) / D / (A*O):=by grind
  rw[e2]
  have e3:N / D - (A - M) / A=(N - D) / D+M / A:=by grind
  rw[e3]
  have e4:((N - D)*(A*O)+D*(M*O)) / D / (A*O)=(N - D) / D+(D*(M*O)) / D / (A*O):=by grind
  rw[e4]
  grind
 rw[← e1]
 grind
theorem zyW{b:Box}(g:GB b){n:Int}(n0:0≤n)(gn:gnq b n≠0)(W:Rat):((shq W b n).den:Int)∣(W.den:Int)*((b.2.2 - b.2.1) ^ n.toNat*b.2.1):=by
 have m0:(b.2.2 - b.2.1) ^ n.toNat*b.2.1≠0:=λz=>by
  refine gn ?_
  unfold gnq
  rw[z,Rat.zero_divInt]
 have d0:=zch W
 have o:=zft g n
 have h:shq W b n=ψZ ((W.num - W.den)*(b.2.2 ^ n.toNat*b.2.2)+W.den*((b.2.2 - b.2.1) ^ n.toNat*b.2.2)) ((W.den:Int)*((b.2.2 - b.2.1) ^ n.toNat*b.2.1)):=by
  unfold shq chq gnq
  have hW:=ψU W
  rw[ψJ] at hW ⊢
  rw[ψJ,ψJ]
  simp only[ψK,ψM1,ψY1] at *
  have a1:((W.den:Int):Rat)≠0:=λz=>d0 (by exact_mod_cast z)
  have a2:((b.2.2 ^ n.toNat:Int):Rat)≠0:=λz=>by
   have:(b.2.2 ^ n.toNat:Int)=0:=by exact_mod_cast z
   omega
  have a3:(((b.2.2 - b.2.1) ^ n.toNat:Int):Rat)≠0:=λz=>by
   have:((b.2.2 - b.2.1) ^ n.toNat:Int)=0:=by exact_mod_cast z
   exact m0 (by rw[this,Int.zero_mul])
  have a4:(b.2.1:Rat)≠0:=λz=>by
   have:b.2.1=0:=by exact_mod_cast z
   exact m0 (by rw[this,Int.mul_zero])
  have a5:(b.2.2:Rat)≠0:=λz=>by
   have:b.2.2=0:=by exact_mod_cast z
   have:=g.2.2.1
   have:=g.2.2.2.1
   omega
  generalize ((b.2.2 ^ n.toNat:Int):Rat)=A at *
  generalize (((b.2.2 - b.2.1) ^ n.toNat:Int):Rat)=M at *
  generalize (b.2.2:Rat)=O at *
  generalize (b.2.1:Rat)=X at *
  generalize (W.num:Rat)=N at *
  generalize ((W.den:Int):Rat)=D at *
  rw[← hW]
  exact zxT a1 a2 a3 a4 a5
 rw[h]
 exact zv7 _ _ (ψN d0 m0)
theorem zvS{bs:List Box}{ns:List Int}{W:Rat}{D:Int}(gb:∀b∈bs,GB b)(n0:∀n∈ns,0≤n)(G:Gn bs ns)(l6:bs.length≤6)(cs:(zaY bs ns).sum≤60)(bW:Bq 1300 W)(C:Com (ψr (shq W) bs ns) D):Bd 1800 D:=by
 have st:=zg7 bs ns gb n0
 have key:∀xs:List (Box×Int),(∀x∈xs,GB x.1∧0≤x.2∧gnq x.1 x.2≠0)→∃M:Int,0<M∧Bd (6*(xs.map λx=>x.2.toNat).sum+8*xs.length+1) M∧∀x∈xs,(x.1.2.2 - x.1.2.1) ^ x.2.toNat*x.1.2.1∣M:=by
  intro xs
  induction xs with
  | nil=>exact λ_=>⟨1,by decide,by show(1:Nat)<2 ^ _;exact ψv1 (by omega),by simp⟩
  | cons x xs ih =>
   intro h
   obtain⟨M,M0,hM,hd⟩:=ih λy hy=>h y (ψf _ hy)
   obtain⟨g,x0,gx⟩:=h x ψj
   have z:(x.1.2.2 - x.1.2.1) ^ x.2.toNat*x.1.2.1≠0:=λz=>by
    refine gx ?_
    unfold gnq
    rw[z,Rat.zero_divInt]
   obtain⟨g1,g2,g3,g4,g5⟩:=g
   have p:=(znV (b:=x.1.2.2 - x.1.2.1) (by omega) (by omega) x.2.toNat).1
   have p2:=Int.mul_nonneg p (show 0≤x.1.2.1 by omega)
   have hb:Bd 6 x.1.2.1:=by show x.1.2.1.natAbs<2 ^ 6;omega
   have b1:=((zhr (b:=x.1.2.2 - x.1.2.1) (by omega) (by omega) x.2.toNat).mul hb).mul hM
   refine⟨_,ψW1 (by omega) M0,b1.mono (by rw[ψG,ψR,ψQ];omega),λy hy=>?_⟩
   rcases List.mem_cons.mp hy with rfl | hy
   ·exact Int.dvd_mul_right ..
   ·exact Int.dvd_trans (hd y hy) (Int.dvd_mul_left ..)
 obtain⟨M,M0,hM,hd⟩:=key (ψm bs ns) λx hx=>by
  obtain⟨i,ei⟩:=ψp hx
  rw[ψC] at ei
  exact⟨gb _ (zaz ei.1),n0 _ (zaz ei.2),G i _ _ ei.1 ei.2⟩
 have zl:(ψm bs ns).length≤6:=by rw[ψZ1];omega
 have dv:D∣(W.den:Int)*M:=C.least _ (zg2 _ λi b n e1 e2=>Int.dvd_trans (zyW (gb b (zaz e1)) (n0 n (zaz e2)) (G i b n e1 e2) W) (Int.mul_dvd_mul_left _ (hd (b,n) (ψM (List.getElem?_zip_eq_some.mpr ⟨e1,e2⟩)))))
 have pos:=ψW1 (zet W) M0
 exact((bW.bot.mul hM).le (Nat.le_of_dvd (by omega) (Int.natAbs_dvd_natAbs.mpr dv))).mono (by omega)
def wds(R:Int)(ms:List Int):List Int:=ψr (λa b=>b - a) ms (ms.drop 1++[R])
theorem zn3(R:Int):∀ms:List Int,ms≠[]→∃x∈ms,R - x∈wds R ms
 | [],n=>absurd rfl n
 | [x],_=>⟨x,by simp,by simp[wds]⟩
 | x::y::ms,_=>by
  obtain⟨z,h1,h2⟩:=zn3 R (y::ms) (by simp)
  exact⟨z,ψf _ h1,ψf _ h2⟩
theorem zvY(R:Int)(ms:List Int)(n:ms≠[]):(wds R ms).length=ms.length:=by
 have:=List.length_pos_iff.mpr n
 rw[wds,ψn,ψs,ψD1,List.length_singleton]
 omega
open HT in
theorem cut1(xs:List V):zgT xs (some 1) none=xs.drop 1:=by
 unfold zgT
 rw[znQ,show(some (1:Int))=some ((1:Nat):Int) from rfl,zpZ]
 cases xs with
 | nil=>rfl
 | cons x xs =>
  rw[ψQ,show min 1 (xs.length+1)=1 by omega]
  exact ψT (by rw[ψD1,ψQ];omega)
def zm2:Sp:=λvs H Q _=>∃(l pl wr:Addr) (ts:List Addr) (bs:List Box) (ns:List Int) (W:Rat),vs=[.ref l,.ref pl,.ref wr]∧BP H l pl ts bs ns∧Gn bs ns∧H wr=some (.tup (fr W))∧Bq 1300 W∧(zaY bs ns).sum≤60∧∀(r:Addr) (H':Hp),zaF H H'→Q (.ref r) H'
def zha(K:ψa):TS :=
 (zaK (za2 (zbA (zhF K (zab (zac 5) (zab (zac 3) zak))) (zcW K 2 (zax (zag 0) (zax (zag 1) zcR))) zaE (tOp (rI0 λi j=>.bl (decide (i<j))) (tOp (rI (λ_ j=>j≠0) λi j=>.int (i.fmod j)) (tOp (rI0 λi j=>.int (i - j)) (zac 3) (zac 0)) (zac 2)) (zac 1)) [none,none,some 4,some 10]) (zag 12))
 (zaK (za2 (zbA (zhF K (zab (zac 1) (zab (zac 12) zak))) (zcW K 2 (zax (zag 0) (zax (zag 1) zcR))) zaE (tIf (tTru K (zac 1)) (tOp (rI0 λi j=>.int (i+j)) (zac 0) (tC (.int 1))) (zac 0)) [none,none]) (zag 13))
 (zbQ (tBM K "list" zaR (zac 9) (zab (zbV (zab (zac 13) (zab (zac 11) zak))) zak)))))
theorem zbt(K:ψa)(D:zbP)(σ:St)(H:Hp):zha K D σ H=(zaK (za2 (zbA (zhF K (zab (zac 5) (zab (zac 3) zak))) (zcW K 2 (zax (zag 0) (zax (zag 1) zcR))) zaE (tOp (rI0 λi j=>.bl (decide (i<j))) (tOp (rI (λ_ j=>j≠0) λi j=>.int (i.fmod j)) (tOp (rI0 λi j=>.int (i - j)) (zac 3) (zac 0)) (zac 2)) (zac 1)) [none,none,some 4,some 10]) (zag 12))
 (zaK (za2 (zbA (zhF K (zab (zac 1) (zab (zac 12) zak))) (zcW K 2 (zax (zag 0) (zax (zag 1) zcR))) zaE (tIf (tTru K (zac 1)) (tOp (rI0 λi j=>.int (i+j)) (zac 0) (tC (.int 1))) (zac 0)) [none,none]) (zag 13))
 (zbQ (tBM K "list" zaR (zac 9) (zab (zbV (zab (zac 13) (zab (zac 11) zak))) zak))))) D σ H:=rfl
def zjY(K:ψa):TS :=
 (zbQ (tBM K "list" zaR (zac 5) (zab (tOp (rI (λ_ j=>j≠0) λi j=>.int (i.fmod j)) (tOp (rI0 λi j=>.int (i+j)) (tOp (zhO K) (zac 5) (tUn (rU λi=>.int (-i)) (tC (.int 1)))) (zac 6)) (zac 4)) zak)))
theorem zbu(K:ψa)(D:zbP)(σ:St)(H:Hp):zjY K D σ H=(zbQ (tBM K "list" zaR (zac 5) (zab (tOp (rI (λ_ j=>j≠0) λi j=>.int (i.fmod j)) (tOp (rI0 λi j=>.int (i+j)) (tOp (zhO K) (zac 5) (tUn (rU λi=>.int (-i)) (tC (.int 1)))) (zac 6)) (zac 4)) zak))) D σ H:=rfl
def zjU(K:ψa):TS :=
 (zaK (za2 (tCB (zid K) (zab (zac 5) zak)) (zag 7))
 (zaK (za2 (zbA (zhF K (zab (zac 7) (zab (tOp zox (tSl (zsb K) (zac 7) (zle (tC (.int 1))) zfe) (zcV (zab (zac 4) zak))) zak))) (zcW K 2 (zax (zag 0) (zax (zag 1) zcR))) zaE (tOp (rI0 λi j=>.int (i - j)) (zac 1) (zac 0)) [none,none]) (zag 8))
 (zaK (za2 (zcV zak) (zag 9))
 (zaK (zjy (zhF K (zab (zac 7) (zab (zar zkm [] E0 (zab (zac 8) zak)) zak))) (zcW K 2 (zax (zag 10) (zax (zag 11) zcR)))
 (zha K))
 (zbb (zac 9))))))
theorem zbs(K:ψa)(D:zbP)(σ:St)(H:Hp):zjU K D σ H=(zaK (za2 (tCB (zid K) (zab (zac 5) zak)) (zag 7))
 (zaK (za2 (zbA (zhF K (zab (zac 7) (zab (tOp zox (tSl (zsb K) (zac 7) (zle (tC (.int 1))) zfe) (zcV (zab (zac 4) zak))) zak))) (zcW K 2 (zax (zag 0) (zax (zag 1) zcR))) zaE (tOp (rI0 λi j=>.int (i - j)) (zac 1) (zac 0)) [none,none]) (zag 8))
 (zaK (za2 (zcV zak) (zag 9))
 (zaK (zjy (zhF K (zab (zac 7) (zab (zar zkm [] E0 (zab (zac 8) zak)) zak))) (zcW K 2 (zax (zag 10) (zax (zag 11) zcR)))
 (zha K))
 (zbb (zac 9)))))) D σ H:=rfl
def zkN(K:ψa):TS :=
 (zaK (za2 (zar zkf [] E0 (zab (zar zoa [] E0 (zab (zac 0) (zab (zac 1) (zab (zac 2) zak)))) zak)) (zcW K 2 (zax (zag 3) (zax (zag 4) zcR))))
 (zaK (za2 (zcV (zab (tC (.int 0)) zak)) (zag 5))
 (zaK (zjy (zcX K (zac 3)) (zag 6)
 (zjY K))
 (zjU K))))
theorem zqw{l pl wr:Addr}{ts:List Addr}{bs:List Box}{ns:List Int}{W:Rat}(B:BP H l pl ts bs ns)(G:Gn bs ns)(hw:H wr=some (.tup (fr W)))(bW:Bq 1300 W)(cs:(zaY bs ns).sum≤60)(q:∀(r:Addr) (H':Hp),zaF H H'→Q (.ref r) H') :
  zkN K { nx:=λ_ H'=>Q .non H',rt:=Q } (L2.start ["boxes","counts","worth","lengths","ring","starts","length","edges","widths","mix","edge","weight","more","plan"] [.ref l,.ref pl,.ref wr]) H:=by
 unfold zkN
 have l6:=B.l6
 simp_all only [zbt,zbu,zbs,zac]
 refine⟨l,pl,wr,ts,bs,ns,W,rfl,B,G,hw,bW,λsr us H1 s1 h1 T1=>?_⟩
 have lq:(ψr (shq W) bs ns).length=bs.length:=by rw[ψn,B.len];omega
 have bq:∀x∈ψr (shq W) bs ns,Bq 2200 x:=zg2 _ λi b n h1 h2=>zxx (B.gb b (zaz h1)) (B.gn n (zaz h2)).1 (B.gn n (zaz h2)).2 (G i b n h1 h2) bW
 refine⟨sr,us,_,rfl,h1,T1,by omega,bq,λcr tl R H2 s2 C h2 ntl htl=>?_⟩
 have R0:=C.pos
 have bR:Bd 1800 R:=zvS B.gb (λn hn=>(B.gn n hn).1) G l6 cs bW C
 generalize hls:((ψr (shq W) bs ns).map λq=>q.num*(R / q.den))=ls at htl
 have ll:ls.length=bs.length:=by rw[← hls,ψb,lq]
 simp_all only [zbt,zbu,zbs,zac]
 refine⟨_,SqT.of h2,rfl,_,_,rfl,_,_,rfl,rfl,by decide,λsl nsl=>?_⟩
 have s3:=zaq nsl (.lst [V.int 0])
 have h3:(L2.upd H2 sl (.lst [V.int 0])) sl=some (.lst [V.int 0]):=zaj
 generalize L2.upd H2 sl (.lst [V.int 0])=H3 at s3 h3 ⊢
 have htl3:=s3 _ _ htl
 refine⟨_,rfl,⟨_,SqL.of htl3⟩,?_⟩
 refine zeW (K:=K) (xs:=ls.map V.int) (λi σ H'=>zaF H2 H'∧∃(ss:List Int) (x:Option V),H' sl=some (.lst (ss.map V.int))∧ss.length=i+1∧(∀s∈ss,0≤s∧s<R)∧σ=[some (.ref l),some (.ref pl),some (.ref wr),some (.ref tl),some (.int R),some (.ref sl),x,none,none,none,none,none,none,none]) ⟨s3,[0],_,h3,rfl,by simp;exact R0,rfl⟩ ?_ ?_ ?_
 ·rintro i σ H' _ ⟨s,_⟩
  exact SqL.of (s _ _ htl)
 ·rintro i v σ H4 hx ⟨s4,ss,x,h4,lss,hss,rfl⟩
  obtain⟨n,en,rfl⟩:=zaC hx
  have li:=(List.getElem?_eq_some_iff.mp en).1
  obtain⟨ss',s',rfl⟩:∃ss' s',ss=ss'++[s']:=⟨ss.dropLast,ss.getLast (by intro z;rw[z] at lss;simp at lss),(List.dropLast_concat_getLast _).symm⟩
  have f0:=Int.fmod_nonneg_of_pos (s'+n) R0
  have f1:=Int.fmod_lt_of_pos (s'+n) R0
  simp_all only [zbt,zbu,zbs,zac]
  refine⟨.inl ⟨rfl,_,SqL.of h4⟩,_,SqL.of h4,_,by rw[ψb1];exact zsO _ _,_,rfl,by omega,_,h4,zbC (by rw[ψb];omega),s4.put nsl,ss'++[s']++[(s'+n).fmod R],by rw[zaj,ψb1 (l₂:=[(s'+n).fmod R])];rfl,by rw[ψs,lss];rfl,λs hs=>?_⟩
  rcases List.mem_append.mp hs with z | z
  ·exact hss s z
  ·rw[List.mem_singleton.mp z]
   exact⟨f0,f1⟩
 ·rintro σ H4 ⟨s4,ss,x,h4,lss,hss,rfl⟩
  rw[ψb] at lss
  simp_all only [zbt,zbu,zbs,zac]
  refine⟨_,SqL.of h4,by omega,λel ms nel mem srt lms=>?_⟩
  have s5:=zaq nel (.lst (ms.map V.int))
  have h5:(L2.upd H4 el (.lst (ms.map V.int))) el=some (.lst (ms.map V.int)):=zaj
  generalize L2.upd H4 el (.lst (ms.map V.int))=H5 at s5 h5 ⊢
  have mne:ms≠[]:=λz=>by
   rw[z] at mem
   cases ss with
   | nil=>simp at lss
   | cons s ss=>exact absurd ((mem s).mpr ψj) (by simp)
  have lm:=zvY R ms mne
  refine⟨_,SqL.of h5,λe2 ne2=>?_⟩
  have s6:=zaq ne2 (.lst (zgT (ms.map V.int) (some 1) none))
  have h6:(L2.upd H5 e2 (.lst (zgT (ms.map V.int) (some 1) none))) e2=some (.lst (zgT (ms.map V.int) (some 1) none)):=zaj
  generalize L2.upd H5 e2 (.lst (zgT (ms.map V.int) (some 1) none))=H6 at s6 h6 ⊢
  rw[cut1] at h6
  refine⟨by decide,λe3 ne3=>?_⟩
  have s7:=zaq ne3 (.lst [V.int R])
  have h7:(L2.upd H6 e3 (.lst [V.int R])) e3=some (.lst [V.int R]):=zaj
  generalize L2.upd H6 e3 (.lst [V.int R])=H7 at s7 h7 ⊢
  refine⟨_,s7 _ _ h6,_,h7,?_,λe4 ne4=>?_⟩
  ·have:((ms.map V.int).drop 1).length≤1000:=by rw[ψD1,ψb];omega
   exact ψF (Nat.succ_le_succ this) (by decide)
  have s8:=zaq ne4 (.lst ((ms.map V.int).drop 1++[V.int R]))
  have h8:(L2.upd H7 e4 (.lst ((ms.map V.int).drop 1++[V.int R]))) e4=some (.lst ((ms.map V.int).drop 1++[V.int R])):=zaj
  generalize L2.upd H7 e4 (.lst ((ms.map V.int).drop 1++[V.int R]))=H8 at s8 h8 ⊢
  have S8:=s5.trans (s6.trans (s7.trans s8))
  have h5':=s8 _ _ (s7 _ _ (s6 _ _ h5))
  refine⟨⟨_,SqL.of h5'⟩,⟨_,SqL.of h8⟩,λD hD=>?_⟩
  have e8:(ms.map V.int).drop 1++[V.int R]=(ms.drop 1++[R]).map V.int:=by rw[ψb1,List.map_drop];rfl
  rw[e8] at h8
  refine ze5 (vs:=(wds R ms).map V.int) h5' h8 ?_ ?_ hD (λi x z v H9 R' hx hz hv s9 k=>?_) λH9 s9 h9=>?_
  ·rw[ψb,ψb,ψb,wds,ψn]
  ·rw[ψb]
   omega
  ·obtain⟨a,ha,rfl⟩:=zaC hx
   obtain⟨b,hb,rfl⟩:=zaC hz
   obtain⟨c,hc,rfl⟩:=zaC hv
   have e:=zhQ ha hb hc
   subst e
   simp_all only [zbt,zbu,zbs,zac]
   exact k _ (.refl _)
  ·refine⟨by decide,λml nml=>?_⟩
   have sa:=zaq nml (.lst [])
   have ha:(L2.upd H9 ml (.lst [])) ml=some (.lst []):=zaj
   generalize L2.upd H9 ml (.lst [])=Ha at sa ha ⊢
   obtain⟨x0,hx0,wx0⟩:=zn3 R ms mne
   obtain⟨x1,x2⟩:=hss x0 ((mem x0).mp hx0)
   have bw:Bd 9000 (R - x0):=(bR.le (by omega)).mono (by decide)
   refine⟨D,wds R ms,R - x0,rfl,sa _ _ h9,by omega,wx0,by omega,bw,λlo g Hb sb Gg hb=>?_⟩
   have Sb:=S8.trans (s9.trans (sa.trans sb))
   have h5b:=sb _ _ (sa _ _ (s9 _ _ h5'))
   refine⟨_,rfl,⟨_,SqL.of h5b⟩,⟨_,SqL.of hb⟩,?_⟩
   have S9:zaF H2 H9:=s4.trans (S8.trans s9)
   have Sab:zaF H9 Hb:=sa.trans sb
   refine zn9 (K:=K) (xs:=ms.map V.int) (ys:=((wds R ms).map λn=>n.fdiv g).map V.int) (λi σ H'=>zaF H9 H'∧H' el=some (.lst (ms.map V.int))∧H' lo=some (.lst (((wds R ms).map λn=>n.fdiv g).map V.int))∧∃(ys:List V) (y1 y2 y3 y4:Option V),H' ml=some (.lst ys)∧ys.length≤i∧σ=[some (.ref l),some (.ref pl),some (.ref wr),some (.ref tl),some (.int R),some (.ref sl),x,some (.ref el),some (.ref D),some (.ref ml),y1,y2,y3,y4]) ⟨Sab,h5b,hb,[],_,_,_,_,sb _ _ ha,by simp,rfl⟩ ?_ ?_ ?_
   ·rintro i σ H' _ ⟨_,h1,h2,_⟩
    exact⟨SqL.of h1,SqL.of h2⟩
   ·rintro i v1 v2 t σ Hc hv1 hv2 ⟨sc,hec,hlc,ys,y1,y2,y3,y4,hmc,ly,rfl⟩ ht
    obtain⟨e,ee,rfl⟩:=zaC hv1
    obtain⟨wt,ew,rfl⟩:=zaC hv2
    have li:=(List.getElem?_eq_some_iff.mp ee).1
    simp_all only [zbt,zbu,zbs,zac]
    have sd:=zaq ht (.tup [V.int e,V.int wt])
    have hd:(L2.upd Hc t (.tup [V.int e,V.int wt])) t=some (.tup [V.int e,V.int wt]):=zaj
    generalize L2.upd Hc t (.tup [V.int e,V.int wt])=Hd at sd hd ⊢
    refine⟨_,SqT.of hd,rfl,_,_,rfl,_,_,rfl,rfl,?_⟩
    have S9d:zaF H9 Hd:=sc.trans sd
    have Sd:zaF H4 Hd:=S8.trans (s9.trans S9d)
    have hsd:=Sd _ _ h4
    have htd:Hd tl=some (.lst (ls.map V.int)):=S9d _ _ (S9 _ _ htl)
    have hpd:Hd pl=some (.lst (ns.map V.int)):=S9d _ _ (S9 _ _ (s2 _ _ (s1 _ _ B.hp)))
    refine⟨⟨_,SqL.of hsd⟩,⟨_,SqL.of htd⟩,λD1 hD1=>?_⟩
    refine ze5 (vs:=(ψr (λs n=>decide ((e - s).fmod R<n)) ss ls).map V.bl) hsd htd (by rw[ψb,ψb,ψb,ψn]) (by rw[ψb,ψn];omega) hD1 (λi x z v H' R' hx hz hv s k=>?_) λHe se he=>?_
    ·obtain⟨a,ha,rfl⟩:=zaC hx
     obtain⟨b,hb,rfl⟩:=zaC hz
     obtain⟨c,hc,rfl⟩:=zaC hv
     have e:=zhQ ha hb hc
     subst e
     simp_all only [zbt,zbu,zbs,zac]
     exact⟨by omega,k _ (.refl _)⟩
    have hpe:=se _ _ hpd
    simp_all only [zbt,zbu,zbs,zac]
    refine⟨⟨_,SqL.of hpe⟩,⟨_,SqL.of he⟩,λD2 hD2=>?_⟩
    refine ze5 (vs:=(ψr (λn (b:Bool)=>if b=true then n+1 else n) ns (ψr (λs n=>decide ((e - s).fmod R<n)) ss ls)).map V.int) hpe he (by rw[ψb,ψb,ψb,ψn]) (by rw[ψb,ψn,B.len];omega) hD2 (λi x z v H' R' hx hz hv s k=>?_) λHf sf hf=>?_
    ·obtain⟨a,ha,rfl⟩:=zaC hx
     obtain⟨b,hb,rfl⟩:=zaC hz
     obtain⟨c,hc,rfl⟩:=zaC hv
     have e:=zhQ ha hb hc
     subst e
     simp_all only [zbt,zbu,zbs,zac]
     by_cases c:b=true
     ·rw[if_pos c] at k ⊢
      exact k _ (.refl _)
     ·rw[if_neg c] at k ⊢
      exact k _ (.refl _)
    have Sf:zaF Hc Hf:=sd.trans (se.trans sf)
    refine⟨.inl ⟨rfl,_,SqL.of (Sf _ _ hmc)⟩,by decide,λp np=>?_⟩
    have sg:=zaq np (.tup [V.ref D2,V.int wt])
    have hg:(L2.upd Hf p (.tup [V.ref D2,V.int wt])) p=some (.tup [V.ref D2,V.int wt]):=zaj
    generalize L2.upd Hf p (.tup [V.ref D2,V.int wt])=Hg at sg hg ⊢
    have Sg:=Sf.trans sg
    have eml:el≠ml:=zaM (s9 _ _ h5') nml
    have lml:lo≠ml:=λz=>by
     subst z
     have z1:=sb _ _ ha
     rw[hb] at z1
     have z2:=congrArg List.length (HO.lst.inj (Option.some.inj z1))
     rw[ψb,ψb,lm] at z2
     exact mne (List.length_eq_zero_iff.mp z2)
    refine⟨_,Sg _ _ hmc,zbC (by omega),(sc.trans Sg).put nml,by rw[zaP eml];exact Sg _ _ hec,by rw[zaP lml];exact Sg _ _ hlc,_,zaj,by rw[ψs];exact Nat.succ_le_succ ly⟩
   ·rintro σ Hc ⟨sc,hec,hlc,ys,y1,y2,y3,y4,hmc,ly,rfl⟩
    simp_all only [zbt,zbu,zbs,zac]
    exact q ml Hc (s1.trans (s2.trans (S9.trans sc)))
theorem zb5:zaA ["boxes","counts","worth","lengths","ring","starts","length","edges","widths","mix","edge","weight","more","plan"] ["boxes","counts","worth"] (zai zf7):=⟨rfl,rfl,rfl,by decide +kernel,rfl,by decide +kernel,by decide +kernel⟩
theorem zrh(T:Txt K mg a):zcC P w K mg base CX0 5 a.f_mix_of a.d_mix_of ["boxes","counts","worth"] zm2:=by
 have G_common:=zlv (P:=P) (w:=w) (base:=base) T
 have G_look_shares:=zjx (P:=P) (w:=w) (base:=base) T
 have G_lowest:=zqO (P:=P) (w:=w) (base:=base) T
 refine T.F_mix_of.ok zb5 (λvs H Q E h=>?_) (λcdv A outer s H vs Q E hr h=>?_)
 ·obtain⟨l,pl,wr,ts,bs,ns,W,rfl,B,G,hw,bW,cs,q⟩:=h
  rfl
 obtain⟨l,pl,wr,ts,bs,ns,W,rfl,B,G,hw,bW,cs,q⟩:=h
 exact⟨zkN K,(zaf (zdJ (zal G_common (hr.mono (by decide)) rfl T.m_common T.F_common.kp T.b_common .nil zaH (zaa (zal G_look_shares (hr.mono (by decide)) rfl T.m_look_shares T.F_look_shares.kp T.b_look_shares .nil zaH (zaa (pv 0) (zaa (pv 1) (zaa (pv 2) zad)))) zad)) (zbw rfl (zap (zao (i:=3) zb5.nd rfl (Or.inl rfl)) (zap (zao (i:=4) zb5.nd rfl (Or.inr rfl)) zaW))))
 (zaf (zaL (i:=5) zb5.nd rfl (Or.inl rfl) (zbK (zaa zah zad)))
 (zaf (zeq PassesOwn.never rfl (zbU (pv 3)) (zao (i:=6) zb5.nd rfl (Or.inl rfl))
 (zam (zbJ (zia ψB ψy ψz zbN (pv 5) (zaa (zaB zhj (zaB zcT (zaS zdv (pv 5) (zsd znI zah) (λ_ _=>rfl)) (pv 6)) (pv 4)) zad)))))
 (zaf (zaL (i:=7) zb5.nd rfl (Or.inl rfl) (zpn rfl T.z_sorted rfl T.z_set (zaa (pv 5) zad)))
 (zaf (zb8 (i:=8) zb5.nd rfl rfl (sc:=zai zf7) (N:=["boxes","counts","worth","lengths","ring","starts","length","edges","widths","mix","edge","weight","more","plan"]) (Nc:=["ahead","behind"]) (cap:=[none,none]) rfl rfl rfl (.of (by decide +kernel)) (zdD rfl T.z_zip (zaa (pv 7) (zaa (zaB zlo (zii zkg (pv 7) (zk2 zah) zke) (zbK (zaa (pv 4) zad))) zad))) (λ_ _ _ _=>(zbw rfl (zap (zao (i:=0) (show ψk (["ahead","behind"]:List Str) from by decide) rfl (Or.inl rfl)) (zap (zao (i:=1) (show ψk (["ahead","behind"]:List Str) from by decide) rfl (Or.inl rfl)) zaW)))) (λ_ _ _ _=>za8) (λ_ _ _ _=>(zaB zd7 (pv 1) (pv 0))))
 (zaf (zaL (i:=9) zb5.nd rfl (Or.inl rfl) (zbK zad))
 (zaf (zeq PassesOwn.never rfl (zdD rfl T.z_zip (zaa (pv 7) (zaa (zal G_lowest (hr.mono (by decide)) rfl T.m_lowest T.F_lowest.kp T.b_lowest .nil zaH (zaa (pv 8) zad)) zad))) (zbw rfl (zap (zao (i:=10) zb5.nd rfl (Or.inr rfl)) (zap (zao (i:=11) zb5.nd rfl (Or.inl rfl)) zaW)))
 (zaf (zb8 (i:=12) zb5.nd rfl rfl (sc:=zai zf7) (N:=["boxes","counts","worth","lengths","ring","starts","length","edges","widths","mix","edge","weight","more","plan"]) (Nc:=["start","length","ring","edge"]) (cap:=[none,none,some 4,some 10]) rfl rfl rfl (.of (by decide +kernel)) (zdD rfl T.z_zip (zaa (pv 5) (zaa (pv 3) zad))) (λ_ _ _ _=>(zbw rfl (zap (zao (i:=0) (show ψk (["start","length","ring","edge"]:List Str) from by decide) rfl (Or.inl rfl)) (zap (zao (i:=1) (show ψk (["start","length","ring","edge"]:List Str) from by decide) rfl (Or.inl rfl)) zaW)))) (λ_ _ _ _=>za8) (λ_ _ _ _=>(zcg zqW (zaB zhj (zaB zd7 (pv 3) (pv 0)) (pv 2)) (pv 1) (za9 _))))
 (zaf (zb8 (i:=13) zb5.nd rfl rfl (sc:=zai zf7) (N:=["boxes","counts","worth","lengths","ring","starts","length","edges","widths","mix","edge","weight","more","plan"]) (Nc:=["count","one"]) (cap:=[none,none]) rfl rfl rfl (.of (by decide +kernel)) (zdD rfl T.z_zip (zaa (pv 1) (zaa (pv 12) zad))) (λ_ _ _ _=>(zbw rfl (zap (zao (i:=0) (show ψk (["count","one"]:List Str) from by decide) rfl (Or.inl rfl)) (zap (zao (i:=1) (show ψk (["count","one"]:List Str) from by decide) rfl (Or.inl rfl)) zaW)))) (λ_ _ _ _=>za8) (λ_ _ _ _=>(znN (znW (pv 1) (λ_=>rfl)) (zaB zcT (pv 0) zah) (pv 0))))
 (zam (zbJ (zia ψB ψy ψz zbN (pv 9) (zaa (za3 (zaa (pv 13) (zaa (pv 11) zad))) zad)))))))
 (zam (zaD (pv 9)))))))))),
  zqw B G hw bW cs q⟩
def zhf(K:ψa):TS :=
 (zbb (zc6 (tCB (zij K) (zab (zac 0) (zab (tC (.ty "int")) zak))) (zv9 (tCB (zij K) (zab (zac 0) (zab (tC (.ty "bool")) zak))))))
theorem znn{v:V}(t:Tg H v)(q:Q (.bl (isI v)) H):zhf K { nx:=λ_ H'=>Q .non H',rt:=Q } (L2.start ["thing"] [v]) H:=by
 unfold zhf
 simp_all only [zac]
 cases t with
 | non=>exact zdm .non (zhR K) ⟨_,rfl,zti q⟩
 | bl b =>
  refine zdm (.bl b) (zl3 K) ⟨_,rfl,zru ?_⟩
  exact zdm (.bl b) rfl ⟨_,rfl,q⟩
 | int i =>
  refine znb ⟨_,rfl,zru ?_⟩
  exact zlP ⟨_,rfl,q⟩
 | str x=>exact zdm (.str x) (zmq K) ⟨_,rfl,zti q⟩
 | lst h=>exact zdm (.lst h) (zlU K) ⟨_,rfl,zti q⟩
 | tup h=>exact zdm (.tup h) (zk5 K) ⟨_,rfl,zti q⟩
theorem zmA:zaA ["thing"] ["thing"] (zai zhd):=⟨rfl,rfl,rfl,by decide +kernel,rfl,by decide +kernel,by decide +kernel⟩
theorem ze6(T:Txt K mg a):zcC P w K mg base CX0 1 a.f_is_whole a.d_is_whole ["thing"] zdb:=by
 refine T.F_is_whole.ok zmA (λvs H Q E h=>?_) (λcdv A outer s H vs Q E hr h=>?_)
 ·obtain⟨v,rfl,t,q⟩:=h
  rfl
 obtain⟨v,rfl,t,q⟩:=h
 exact⟨zhf K,(zam (zaD (zec (zat zbO rfl T.z_isinstance ψg (zaa (pv 0) (zaa (zea rfl T.z_int znF rfl) zad))) (zgo (zxZ (zat zbO rfl T.z_isinstance ψg (zaa (pv 0) (zaa (zea rfl T.z_bool zrm rfl) zad)))))))),
  znn t q⟩
def zgD:TS :=
 (zbb (zc6 (zar zdb [] E0 (zab (zac 0) zak)) (zlN (rI0 λi j=>.bl (decide (i≤j))) (rI0 λi j=>.bl (decide (i≤j))) (zac 1) (zac 0) (zac 2))))
theorem zlD{v:V}{l m:Int}(t:Tg H v)(q:Q (.bl (wi l m v)) H):zgD { nx:=λ_ H'=>Q .non H',rt:=Q } (L2.start ["thing","least","most"] [v,.int l,.int m]) H:=by
 unfold zgD
 simp_all only [zac]
 refine⟨v,rfl,t,isI v,rfl,?_⟩
 cases v with
 | int i =>
  refine zru ⟨_,rfl,zel (λc=>?_) (λc=>?_)⟩
  ·rw[show wi l m (.int i)=decide (i≤m) from by simp[wi,c]] at q
   exact⟨_,rfl,q⟩
  ·rw[show wi l m (.int i)=false from by simp[wi,c]] at q
   exact q
 | _=>exact zti q
theorem zlz:zaA ["thing","least","most"] ["thing","least","most"] (zai zgO):=⟨rfl,rfl,rfl,by decide +kernel,rfl,by decide +kernel,by decide +kernel⟩
theorem zfQ(T:Txt K mg a):zcC P w K mg base CX0 2 a.f_is_within a.d_is_within ["thing","least","most"] zcF:=by
 have G_is_whole:=ze6 (P:=P) (w:=w) (base:=base) T
 refine T.F_is_within.ok zlz (λvs H Q E h=>?_) (λcdv A outer s H vs Q E hr h=>?_)
 ·obtain⟨v,l,m,rfl,t,q⟩:=h
  rfl
 obtain⟨v,l,m,rfl,t,q⟩:=h
 exact⟨zgD,(zam (zaD (zec (zal G_is_whole (hr.mono (by decide)) rfl T.m_is_whole T.F_is_whole.kp T.b_is_whole .nil zaH (zaa (pv 0) zad)) (zgo (zrL zmU zmU (pv 1) (pv 0) (pv 2)))))),
  zlD t q⟩
theorem zro{v:V}(h:NL H v)(q:Q (.bl false) H):zij K [v,.ty "list"] H Q:=by
 cases h with
 | non=>exact zdm .non (zhl K) q
 | bl b=>exact zdm (.bl b) (zku K) q
 | int i=>exact zdm (.int i) (zlq K) q
 | str x=>exact zdm (.str x) (zmd K) q
 | tup h=>exact zdm (.tup h) (zjO K) q
theorem zw8{v:V}(t:Tg H v)(h:∀(a:Addr) (ys:List V),v=.ref a→H a≠some (.tup ys))(q:Q (.bl false) H):zij K [v,.ty "tuple"] H Q:=by
 cases t with
 | non=>exact zdm .non (zg5 K) q
 | bl b=>exact zdm (.bl b) (zjh K) q
 | int i=>exact zdm (.int i) (zks K) q
 | str x=>exact zdm (.str x) (zkh K) q
 | lst h'=>exact zdm (.lst h') (zjM K) q
 | tup h'=>exact absurd h' (h _ _ rfl)
theorem zfd{r:Addr}{xs:List V}(h:H r=some (.lst xs))(q:Q (.bl true) H):zij K [.ref r,.ty "list"] H Q:=zdm (.lst h) rfl q
theorem zmI{bs:List Bool}(h:∀b∈bs,b=true):bs.all id=true:=List.all_eq_true.mpr h
theorem ziS{K:ψa}{a:Addr}{xs:List V}{cs:List Bool}{te:TE}{σ:St}{H:Hp}{D:Addr}{Q:VK}(lc:xs.length=cs.length)(hl:SqL K H a xs)(hD:H D=none)(hx:xs.length≤900)
  (hs:∀(i:Nat) x c H' (R:VK),xs[i]?=some x→cs[i]?=some c→zaF H H'→(∀H'',zaF H' H''→R (.bl c) H'')→te (σ.set 0 (some x)) H' R)
  (hd:∀H',zaF H H'→H' D=some (.lst (cs.map V.bl))→Q (.ref D) H'):zfH (Itl K a) (zag 0) zaE te D Q σ (L2.upd H D (.lst [])):=by
 refine zdY (xs:=xs) (λi ys σ' H'=>zaF H H'∧(∀x,σ'.set 0 x=σ.set 0 x)∧ys=(cs.take i).map V.bl) ⟨zaq hD _,λ_=>rfl,rfl⟩ ?_ ?_ ?_
 ·rintro i ys σ' H' _ ⟨s,_⟩
  exact s.seq hl
 ·rintro i x ys σ' H' e hD' ⟨s,es,rfl⟩
  have li:=(List.getElem?_eq_some_iff.mp e).1
  have ec:cs[i]?=some cs[i]:=ψd (by omega)
  show te (σ'.set 0 (some x)) H' _
  rw[es]
  refine hs i x _ H' _ e ec s λH'' s2=>?_
  refine⟨D,_,_,rfl,rfl,s2 _ _ hD',zbC (by rw[ψb,ψH];omega),_,zaj,(s.trans s2).put hD,λy=>by rw[List.set_set],?_⟩
  rw[ψw,ec,ψb1]
  rfl
 ·rintro ys σ' H' hD' ⟨s,es,rfl⟩
  rw[ψT (by omega)] at hD'
  exact hd H' s hD'
theorem zjZ{K:ψa}{a:Addr}{xs:List V}{te:TE}{σ:St}{H:Hp}{D:Addr}{Q:VK}(f:V→Bool)(hl:SqL K H a xs)(hD:H D=none)(hx:xs.length≤900)
  (hs:∀(i:Nat) x H' (R:VK),xs[i]?=some x→zaF H H'→(∀H'',zaF H' H''→R (.bl (f x)) H'')→te (σ.set 0 (some x)) H' R)
  (hd:∀H',zaF H H'→H' D=some (.lst ((xs.map f).map V.bl))→Q (.ref D) H'):zfH (Itl K a) (zag 0) zaE te D Q σ (L2.upd H D (.lst [])):=by
 refine ziS (cs:=xs.map f) (by rw[ψb]) hl hD hx (λi x c H' R ex ec s hR=>hs i x H' R ex s ?_) hd
 rw[ψD,ex] at ec
 cases ec
 exact hR
def zfV(K:ψa):TS :=
 (zbb (zc6 (tCB (zrf K) (zab (zbA (zcX K (zac 0)) (zag 0) zaE (zc6 (zar zdb [] E0 (zab (zac 0) zak)) (tOp (rI0 λi j=>.bl (decide (j≤i))) (zac 0) (tC (.int 0)))) [none]) zak)) (tOp (rI0 λi j=>.bl (decide (j<i))) (tCB (zmg K) (zab (zac 0) zak)) (tC (.int 0)))))
theorem zbx(K:ψa)(D:zbP)(σ:St)(H:Hp):zfV K D σ H=(zbb (zc6 (tCB (zrf K) (zab (zbA (zcX K (zac 0)) (zag 0) zaE (zc6 (zar zdb [] E0 (zab (zac 0) zak)) (tOp (rI0 λi j=>.bl (decide (j≤i))) (zac 0) (tC (.int 0)))) [none]) zak)) (tOp (rI0 λi j=>.bl (decide (j<i))) (tCB (zmg K) (zab (zac 0) zak)) (tC (.int 0))))) D σ H:=rfl
def zfI(K:ψa):TS :=
 (zca (tOr (zfw (tB (tCB (zij K) (zab (zac 0) (zab (tC (.ty "list")) zak))))) (zbE (tOp rNe (tCB (λxs H Q=>∃p ys,xs=[.ref p]∧(SqL K H p ys∨SqT K H p ys)∧Q (.int ys.length) H) (zab (zac 0) zak)) (zac 1)))) (zbb (tC (.bl false))) zaV)
theorem zby(K:ψa)(D:zbP)(σ:St)(H:Hp):zfI K D σ H=(zca (tOr (zfw (tB (tCB (zij K) (zab (zac 0) (zab (tC (.ty "list")) zak))))) (zbE (tOp rNe (tCB (λxs H Q=>∃p ys,xs=[.ref p]∧(SqL K H p ys∨SqT K H p ys)∧Q (.int ys.length) H) (zab (zac 0) zak)) (zac 1)))) (zbb (tC (.bl false))) zaV) D σ H:=rfl
def zfc(K:ψa):TS :=
 (zaK (zdq (zfI K))
 (zfV K))
theorem zjA{v:V}{n:Int}(h:(NL H v∧Q (.bl false) H)∨∃(a:Addr) (xs:List V),v=.ref a∧H a=some (.lst xs)∧xs.length≤900∧(∀x∈xs,Tg H x)∧∀H',zaF H H'→Q (.bl (gW n xs)) H') :
  zfc K { nx:=λ_ H'=>Q .non H',rt:=Q } (L2.start ["thing","many"] [v,.int n]) H:=by
 unfold zfc
 simp_all only [zbx,zby,zac]
 rcases h with ⟨hn,q⟩ | ⟨a,xs,rfl,ha,xl,ht,q⟩
 ·refine⟨λ_ _=>False,?_,λ_ _ z=>z.elim⟩
  simp_all only [zbx,zby,zac]
  exact zro hn ⟨false,rfl,zel (λ_=>q) (λz=>absurd rfl z)⟩
 refine⟨λσ H'=>(xs.length:Int)=n∧H'=H∧σ=[some (.ref a),some (.int n)],?_,?_⟩
 ·simp_all only [zbx,zby,zac]
  refine zfd ha ⟨true,rfl,?_⟩
  refine zel (λz=>absurd z (by decide)) (λ_=>?_)
  refine⟨_,.inl (SqL.of ha),zel (λz=>?_) (λz=>⟨Classical.not_not.mp z,rfl⟩)⟩
  have:=q H (.refl _)
  rw[show gW n xs=false from by unfold gW;rw[decide_eq_false z];rfl] at this
  exact this
 ·rintro σ H' ⟨ln,e,rfl⟩
  rw[e]
  simp_all only [zbx,zby,zac]
  refine⟨⟨_,SqL.of ha⟩,λD hD=>?_⟩
  refine zjZ nn (SqL.of ha) hD xl (λi x H1 R ex s hR=>?_) λH1 s hD1=>?_
  ·simp_all only [zbx,zby,zac]
   refine⟨x,rfl,(ht x (zaz ex)).same s,isI x,rfl,?_⟩
   cases x with
   | int i=>exact zru ⟨_,rfl,hR _ (.refl _)⟩
   | _=>exact zti (hR _ (.refl _))
  ·simp_all only [zbx,zby,zac]
   refine⟨_,SqL.of hD1,?_⟩
   have hall:(xs.map nn).all id=xs.all nn:=by rw[List.all_map];rfl
   rw[hall]
   refine zel (λc=>?_) (λc=>?_)
   ·obtain⟨is,rfl⟩:=zir c
    refine⟨is,SqL.of (s _ _ ha),?_⟩
    have:=q H1 s
    rw[show gW n (is.map V.int)=decide (0<is.sum) from by
     unfold gW
     rw[decide_eq_true ln,c,List.map_map,show iv ∘ V.int=id from rfl,List.map_id]
     rfl] at this
    exact this
   ·have:=q H1 s
    rw[show gW n xs=false from by unfold gW;rw[show xs.all nn=false from by simpa using c];simp] at this
    exact this
theorem zjp:zaA ["thing","many"] ["thing","many"] (zai zdO):=⟨rfl,rfl,rfl,by decide +kernel,rfl,by decide +kernel,by decide +kernel⟩
theorem zju(T:Txt K mg a):zcC P w K mg base CX0 2 a.f_are_weights a.d_are_weights ["thing","many"] zm0:=by
 have G_is_whole:=ze6 (P:=P) (w:=w) (base:=base) T
 refine T.F_are_weights.ok zjp (λvs H Q E h=>?_) (λcdv A outer s H vs Q E hr h=>?_)
 ·obtain⟨v,n,rfl,h⟩:=h
  rfl
 obtain⟨v,n,rfl,h⟩:=h
 exact⟨zfc K,(zaf (zbB (zbW (PW.pt (zhL (zcK (zbF (zat zbO rfl T.z_isinstance ψg (zaa (pv 0) (zaa (zea rfl T.z_list zcE rfl) zad))))) (zfU (zbG zoF (zat zaN rfl T.z_len ψE (zaa (pv 0) zad)) (pv 1) (za9 _))))) (zam (zaD zeA)) zaQ))
 (zam (zaD (zec (zat (zf5 rfl) rfl T.z_all ψk1 (zaa (zbX (sc:=zai zdO) (N:=["thing","many"]) (Nc:=["weight"]) (cap:=[none]) rfl rfl rfl (.of (by decide +kernel)) (zbU (pv 0)) (λ_ _ _ _=>(zao (i:=0) (show ψk (["weight"]:List Str) from by decide) rfl (Or.inl rfl))) (λ_ _ _ _=>za8) (λ_ _ _ _=>(zec (zal G_is_whole (hr.mono (by decide)) rfl T.m_is_whole T.F_is_whole.kp T.b_is_whole .nil zaH (zaa (pv 0) zad)) (zgo (zcg zly (pv 0) zah (za9 _)))))) zad)) (zgo (zcg zu9 (zat (zeo rfl) rfl T.z_sum ψa1 (zaa (pv 0) zad)) zah (za9 _))))))),
  zjA h⟩
def zjS(K:ψa):TS :=
 (zaK (za2 (zac 0) (zcW K 3 (zax (zag 1) (zax (zag 2) (zax (zag 3) zcR)))))
 (zbb (zc6 (zar zcF [] E0 (zab (zac 1) (zab (tC (.int 1)) (zab (tC (.int 60)) zak)))) (zc6 (zar zcF [] E0 (zab (zac 3) (zab (tC (.int 1)) (zab (tC (.int 50)) zak)))) (zar zcF [] E0 (zab (zac 2) (zab (tC (.int 1)) (zab (zac 3) zak))))))))
theorem zdP(K:ψa)(D:zbP)(σ:St)(H:Hp):zjS K D σ H=(zaK (za2 (zac 0) (zcW K 3 (zax (zag 1) (zax (zag 2) (zax (zag 3) zcR)))))
 (zbb (zc6 (zar zcF [] E0 (zab (zac 1) (zab (tC (.int 1)) (zab (tC (.int 60)) zak)))) (zc6 (zar zcF [] E0 (zab (zac 3) (zab (tC (.int 1)) (zab (tC (.int 50)) zak)))) (zar zcF [] E0 (zab (zac 2) (zab (tC (.int 1)) (zab (zac 3) zak)))))))) D σ H:=rfl
def zjW(K:ψa):TS :=
 (zca (tOr (zfw (tB (tCB (zij K) (zab (zac 0) (zab (tC (.ty "tuple")) zak))))) (zbE (tOp rNe (tCB (λxs H Q=>∃p ys,xs=[.ref p]∧(SqL K H p ys∨SqT K H p ys)∧Q (.int ys.length) H) (zab (zac 0) zak)) (tC (.int 3))))) (zbb (tC (.bl false))) zaV)
theorem zdW(K:ψa)(D:zbP)(σ:St)(H:Hp):zjW K D σ H=(zca (tOr (zfw (tB (tCB (zij K) (zab (zac 0) (zab (tC (.ty "tuple")) zak))))) (zbE (tOp rNe (tCB (λxs H Q=>∃p ys,xs=[.ref p]∧(SqL K H p ys∨SqT K H p ys)∧Q (.int ys.length) H) (zab (zac 0) zak)) (tC (.int 3))))) (zbb (tC (.bl false))) zaV) D σ H:=rfl
def zkp(K:ψa):TS :=
 (zaK (zdq (zjW K))
 (zjS K))
theorem zpE{v:V}{c:Bool}(h:BxR H v c)(q:Q (.bl c) H):zkp K { nx:=λ_ H'=>Q .non H',rt:=Q } (L2.start ["thing","cost","hits","of"] [v]) H:=by
 unfold zkp
 simp_all only [zdP,zdW,zac]
 rcases h with ⟨hn,t,rfl⟩ | ⟨t,ys,rfl,hy,ht,rfl⟩
 ·refine⟨λ_ _=>False,?_,λ_ _ z=>z.elim⟩
  simp_all only [zdP,zdW,zac]
  exact zw8 t hn ⟨false,rfl,zel (λ_=>q) (λz=>absurd rfl z)⟩
 refine⟨λσ H'=>ys.length=3∧H'=H∧σ=[some (.ref t),none,none,none],?_,?_⟩
 ·simp_all only [zdP,zdW,zac]
  refine zfo hy ⟨true,rfl,?_⟩
  refine zel (λz=>absurd z (by decide)) (λ_=>?_)
  refine⟨_,.inr (SqT.of hy),zel (λz=>?_) (λz=>⟨by omega,rfl⟩)⟩
  rw[show gB ys=false from ?_] at q
  ·exact q
  ·match ys,z with
   | [],_=>rfl
   | [_],_=>rfl
   | [_,_],_=>rfl
   | [_,_,_],z=>exact absurd rfl z
   | _::_::_::_::_,_=>rfl
 ·rintro σ H' ⟨l3,e,rfl⟩
  rw[e]
  match ys,l3 with
  | [c,hh,o],_ =>
  simp_all only [zdP,zdW,zac]
  refine⟨_,SqT.of hy,rfl,_,_,rfl,_,_,rfl,_,_,rfl,rfl,?_⟩
  refine⟨c,_,_,rfl,ht _ (by simp),_,rfl,zel (λc1=>?_) (λc1=>?_)⟩
  ·refine⟨o,_,_,rfl,ht _ (by simp),_,rfl,zel (λc2=>?_) (λc2=>?_)⟩
   ·cases o with
    | int o =>
     refine⟨hh,_,_,rfl,ht _ (by simp),?_⟩
     rw[show gB [c,hh,V.int o]=wi 1 o hh from by show(wi 1 60 c&&wi 1 50 (V.int o)&&wi 1 o hh)=_;rw[c1,c2];rfl] at q
     exact q
    | _=>exact absurd c2 (by simp[wi])
   ·rw[show gB [c,hh,o]=false from by show(wi 1 60 c&&wi 1 50 o&&wi 1 (iv o) hh)=_;rw[show wi 1 50 o=false from by simpa using c2];simp] at q
    exact q
  ·rw[show gB [c,hh,o]=false from by show(wi 1 60 c&&wi 1 50 o&&wi 1 (iv o) hh)=_;rw[show wi 1 60 c=false from by simpa using c1];rfl] at q
   exact q
theorem zgQ:zaA ["thing","cost","hits","of"] ["thing"] (zai zj8):=⟨rfl,rfl,rfl,by decide +kernel,rfl,by decide +kernel,by decide +kernel⟩
theorem zrq(T:Txt K mg a):zcC P w K mg base CX0 3 a.f_is_box a.d_is_box ["thing"] znS:=by
 have G_is_within:=zfQ (P:=P) (w:=w) (base:=base) T
 refine T.F_is_box.ok zgQ (λvs H Q E h=>?_) (λcdv A outer s H vs Q E hr h=>?_)
 ·obtain⟨v,c,rfl,h,q⟩:=h
  rfl
 obtain⟨v,c,rfl,h,q⟩:=h
 exact⟨zkp K,(zaf (zbB (zbW (PW.pt (zhL (zcK (zbF (zat zbO rfl T.z_isinstance ψg (zaa (pv 0) (zaa (zea rfl T.z_tuple ze2 rfl) zad))))) (zfU (zbG zoF (zat zaN rfl T.z_len ψE (zaa (pv 0) zad)) zah (za9 _))))) (zam (zaD zeA)) zaQ))
 (zaf (zdJ (pv 0) (zbw rfl (zap (zao (i:=1) zgQ.nd rfl (Or.inl rfl)) (zap (zao (i:=2) zgQ.nd rfl (Or.inl rfl)) (zap (zao (i:=3) zgQ.nd rfl (Or.inl rfl)) zaW)))))
 (zam (zaD (zec (zal G_is_within (hr.mono (by decide)) rfl T.m_is_within T.F_is_within.kp T.b_is_within .nil zaH (zaa (pv 1) (zaa zah (zaa (zbD rfl T.m_MOST_COST ⟨_,rfl⟩) zad)))) (zec (zal G_is_within (hr.mono (by decide)) rfl T.m_is_within T.F_is_within.kp T.b_is_within .nil zaH (zaa (pv 3) (zaa zah (zaa (zbD rfl T.m_MOST_OF ⟨_,rfl⟩) zad)))) (zgo (zal G_is_within (hr.mono (by decide)) rfl T.m_is_within T.F_is_within.kp T.b_is_within .nil zaH (zaa (pv 2) (zaa zah (zaa (pv 3) zad))))))))))),
  zpE h q⟩
def zpj(H:Hp)(v:V):Prop:=NL H v∨∃(l:Addr) (xs:List V) (cs:List Bool),v=.ref l∧H l=some (.lst xs)∧xs.length≤900∧BxL H xs cs∧¬ gBs cs
theorem BxR.same{H H':Hp}{x:V}{c:Bool}(h:BxR H x c)(s:zaF H H'):BxR H' x c:=by
 rcases h with ⟨h1,h2,h3⟩ | ⟨t,ys,h1,h2,h3,h4⟩
 ·refine .inl ⟨λa ys e z=>?_,h2.same s,h3⟩
  cases h2 with
  | lst h=>cases e;rw[s _ _ h] at z;cases z
  | tup h=>cases e;exact h1 _ _ rfl h
  | _=>cases e
 ·exact .inr ⟨t,ys,h1,s _ _ h2,λy hy=>(h3 y hy).same s,h4⟩
theorem zpj.same{H H':Hp}{v:V}(h:zpj H v)(s:zaF H H'):zpj H' v:=by
 rcases h with h | ⟨l,xs,cs,h1,h2,h3,h4,h5⟩
 ·exact .inl (h.same s)
 ·exact .inr ⟨l,xs,cs,h1,s _ _ h2,h3,⟨h4.1,λi x c e1 e2=>(h4.2 i x c e1 e2).same s⟩,h5⟩
structure GdB (H:Hp) (l:Addr) (ts:List Addr) (bs:List Box):Prop where
 hl:H l=some (.lst (ts.map V.ref))
 hb:Tps bx H ts bs
 gb:∀b∈bs,GB b
 l1:1≤bs.length
 l6:bs.length≤6
theorem GdB.same{H H':Hp}{l:Addr}{ts:List Addr}{bs:List Box}(h:GdB H l ts bs)(s:zaF H H'):GdB H' l ts bs:=⟨s _ _ h.hl,h.hb.same s,h.gb,h.l1,h.l6⟩
theorem gB_bx{b:Box}(g:GB b):gB (bx b)=true:=by
 obtain⟨g1,g2,g3,g4,g5⟩:=g
 show(wi 1 60 (V.int b.1)&&wi 1 50 (V.int b.2.2)&&wi 1 b.2.2 (V.int b.2.1))=true
 have h1:wi 1 60 (V.int b.1)=true:=decide_eq_true ⟨g1,g2⟩
 have h2:wi 1 50 (V.int b.2.2)=true:=decide_eq_true ⟨by omega,g5⟩
 have h3:wi 1 b.2.2 (V.int b.2.1)=true:=decide_eq_true ⟨g3,g4⟩
 rw[h1,h2,h3]
 rfl
theorem GdB.bxl{H:Hp}{l:Addr}{ts:List Addr}{bs:List Box}(h:GdB H l ts bs):BxL H (ts.map V.ref) (bs.map λ_=>true)∧gBs (bs.map λ_=>true):=by
 refine⟨⟨by rw[ψb,ψb,h.hb.1],λi x c e1 e2=>?_⟩,by rw[ψb];exact h.l1,by rw[ψb];exact h.l6,zmI λb hb=>by obtain⟨_,_,e⟩:=List.mem_map.mp hb;exact e.symm⟩
 obtain⟨t,et,rfl⟩:=zaC e1
 obtain⟨b,eb,rfl⟩:=zaC e2
 exact .inr ⟨t,bx b,rfl,h.hb.2 i t b et eb,λy hy=>by simp[bx] at hy;rcases hy with rfl | rfl | rfl <;> exact .int _,(gB_bx (h.gb b (zaz eb))).symm⟩
def ziF(a:Ad):Sp:=λvs H Q E=>∃v:V,vs=[v]∧((zpj H v∧∀H',zaF H H'→E (.ref a.c_NoBoxes) none H')∨∃(l:Addr) (ts:List Addr) (bs:List Box),v=.ref l∧GdB H l ts bs∧∀H',zaF H H'→Q .non H')
def zfZ(K:ψa)(a:Ad)(E:XK):TS :=
 (zca (tOr (zfw (tB (tCB (zij K) (zab (zac 0) (zab (tC (.ty "list")) zak))))) (tOr (zfw (zbE (zlN (rI0 λi j=>.bl (decide (i≤j))) (rI0 λi j=>.bl (decide (i≤j))) (tC (.int 1)) (tCB (λxs H Q=>∃p ys,xs=[.ref p]∧(SqL K H p ys∨SqT K H p ys)∧Q (.int ys.length) H) (zab (zac 0) zak)) (tC (.int 6))))) (zfw (tB (tCB (zrf K) (zab (zbA (zcX K (zac 0)) (zag 0) zaE (zar znS [] E0 (zab (zac 0) zak)) [none]) zak)))))) (znY (.ref a.c_NoBoxes) E) zaV)
theorem zk9{E:XK}{v:V}(h:(zpj H v∧∀H',zaF H H'→E (.ref a.c_NoBoxes) none H')∨∃(l:Addr) (ts:List Addr) (bs:List Box),v=.ref l∧GdB H l ts bs∧∀H',zaF H H'→Q .non H') :
  zfZ K a E { nx:=λ_ H'=>Q .non H',rt:=Q } (L2.start ["boxes"] [v]) H:=by
 unfold zfZ
 simp_all only [zac]
 have main:NL H v∧(∀H',zaF H H'→E (.ref a.c_NoBoxes) none H')∨∃(l:Addr) (xs:List V) (cs:List Bool),v=.ref l∧H l=some (.lst xs)∧xs.length≤900∧BxL H xs cs∧∀H',zaF H H'→(gBs cs→Q .non H')∧(¬ gBs cs→E (.ref a.c_NoBoxes) none H'):=by
  rcases h with ⟨hn | ⟨l,xs,cs,rfl,hl,xl,hx,hg⟩,e⟩ | ⟨l,ts,bs,rfl,G,q⟩
  ·exact .inl ⟨hn,e⟩
  ·exact .inr ⟨l,xs,cs,rfl,hl,xl,hx,λH' s=>⟨λz=>absurd z hg,λ_=>e H' s⟩⟩
  ·have:=G.l6
   exact .inr ⟨l,_,_,rfl,G.hl,by rw[ψb,G.hb.1];omega,G.bxl.1,λH' s=>⟨λ_=>q H' s,λz=>absurd G.bxl.2 z⟩⟩
 clear h
 rcases main with ⟨hn,e⟩ | ⟨l,xs,cs,rfl,hl,xl,hx,out⟩
 ·exact zro hn ⟨false,rfl,zel (λ_=>e H (.refl _)) (λz=>absurd rfl z)⟩
 have lc:=hx.1
 refine zfd hl ⟨true,rfl,?_⟩
 refine zel (λz=>absurd z (by decide)) (λ_=>?_)
 obtain⟨og,ob⟩:=out H (.refl _)
 refine⟨_,rfl,_,.inl (SqL.of hl),zel (λc1=>zel (λc2=>ob λg=>absurd g.2.1 (by omega)) (λc2=>?_)) (λc1=>ob λg=>absurd g.1 (by omega))⟩
 refine⟨_,rfl,⟨_,SqL.of hl⟩,λD hD=>?_⟩
 refine ziS lc (SqL.of hl) hD xl (λi x c H1 R ex ec s hR=>?_) λH1 s hD1=>?_
 ·simp_all only [zac]
  exact⟨x,c,rfl,(hx.2 i x c ex ec).same s,hR _ (.refl _)⟩
 ·simp_all only [zac]
  obtain⟨og,ob⟩:=out H1 s
  refine⟨_,SqL.of hD1,zel (λc3=>ob λg=>absurd g.2.2 (by rw[c3];decide)) (λc3=>og ⟨by omega,by omega,by simpa using c3⟩)⟩
theorem zk1:zaA ["boxes"] ["boxes"] (zai zek):=⟨rfl,rfl,rfl,by decide +kernel,rfl,by decide +kernel,by decide +kernel⟩
theorem zdN(T:Txt K mg a):zcC P w K mg base (CXV P w) 4 a.f_look_boxes a.d_look_boxes ["boxes"] (ziF a):=by
 have G_is_box:=zrq (P:=P) (w:=w) (base:=base) T
 refine T.F_look_boxes.okV zk1 (λvs H Q E h=>?_) (λcdv A outer s H vs Q E hr h=>?_)
 ·obtain⟨v,rfl,h⟩:=h
  rfl
 obtain⟨v,rfl,h⟩:=h
 exact⟨zfZ K a E,(zam (zbW (PW.pt (zhL (zcK (zbF (zat zbO rfl T.z_isinstance ψg (zaa (pv 0) (zaa (zea rfl T.z_list zcE rfl) zad))))) (zhL (zcK (zs9 zmU zmU zah (zat zaN rfl T.z_len ψE (zaa (pv 0) zad)) (zbD rfl T.m_MOST_BOXES ⟨_,rfl⟩))) (zfU (zcK (zbF (zat (zf5 rfl) rfl T.z_all ψk1 (zaa (zbX (sc:=zai zek) (N:=["boxes"]) (Nc:=["box"]) (cap:=[none]) rfl rfl rfl (.of (by decide +kernel)) (zbU (pv 0)) (λ_ _ _ _=>(zao (i:=0) (show ψk (["box"]:List Str) from by decide) rfl (Or.inl rfl))) (λ_ _ _ _=>za8) (λ_ _ _ _=>(zal G_is_box (hr.mono (by decide)) rfl T.m_is_box T.F_is_box.kp T.b_is_box .nil zaH (zaa (pv 0) zad)))) zad)))))))) (zam (znX T.m_NoBoxes T.x_NoBoxes rfl rfl zqh)) zaQ)),
  zk9 h⟩
def zi3(K:ψa):TS :=
 (zbb (tCB (zrf K) (zab (zbA (zcX K (zac 0)) (zag 0) zaE (zar zcF [] E0 (zab (zac 0) (zab (tC (.int 0)) (zab (tC (.int 60)) zak)))) [none]) zak)))
theorem zb6(K:ψa)(D:zbP)(σ:St)(H:Hp):zi3 K D σ H=(zbb (tCB (zrf K) (zab (zbA (zcX K (zac 0)) (zag 0) zaE (zar zcF [] E0 (zab (zac 0) (zab (tC (.int 0)) (zab (tC (.int 60)) zak)))) [none]) zak))) D σ H:=rfl
def ziM(K:ψa):TS :=
 (zca (tOr (zfw (tB (tCB (zij K) (zab (zac 0) (zab (tC (.ty "list")) zak))))) (zbE (tOp rNe (tCB (λxs H Q=>∃p ys,xs=[.ref p]∧(SqL K H p ys∨SqT K H p ys)∧Q (.int ys.length) H) (zab (zac 0) zak)) (tCB (λxs H Q=>∃p ys,xs=[.ref p]∧(SqL K H p ys∨SqT K H p ys)∧Q (.int ys.length) H) (zab (zac 1) zak))))) (zbb (tC (.bl false))) zaV)
theorem zb7(K:ψa)(D:zbP)(σ:St)(H:Hp):ziM K D σ H=(zca (tOr (zfw (tB (tCB (zij K) (zab (zac 0) (zab (tC (.ty "list")) zak))))) (zbE (tOp rNe (tCB (λxs H Q=>∃p ys,xs=[.ref p]∧(SqL K H p ys∨SqT K H p ys)∧Q (.int ys.length) H) (zab (zac 0) zak)) (tCB (λxs H Q=>∃p ys,xs=[.ref p]∧(SqL K H p ys∨SqT K H p ys)∧Q (.int ys.length) H) (zab (zac 1) zak))))) (zbb (tC (.bl false))) zaV) D σ H:=rfl
def zi9(K:ψa):TS :=
 (zaK (zdq (ziM K))
 (zi3 K))
theorem zoR{v:V}{l:Addr}{bs:List V}(hl:H l=some (.lst bs))(h:(NL H v∧Q (.bl false) H)∨∃(a:Addr) (xs:List V),v=.ref a∧H a=some (.lst xs)∧xs.length≤900∧(∀x∈xs,Tg H x)∧∀H',zaF H H'→Q (.bl (gP bs.length xs)) H') :
  zi9 K { nx:=λ_ H'=>Q .non H',rt:=Q } (L2.start ["thing","boxes"] [v,.ref l]) H:=by
 unfold zi9
 simp_all only [zb6,zb7,zac]
 rcases h with ⟨hn,q⟩ | ⟨a,xs,rfl,ha,xl,ht,q⟩
 ·refine⟨λ_ _=>False,?_,λ_ _ z=>z.elim⟩
  simp_all only [zb6,zb7,zac]
  exact zro hn ⟨false,rfl,zel (λ_=>q) (λz=>absurd rfl z)⟩
 refine⟨λσ H'=>xs.length=bs.length∧H'=H∧σ=[some (.ref a),some (.ref l)],?_,?_⟩
 ·simp_all only [zb6,zb7,zac]
  refine zfd ha ⟨true,rfl,?_⟩
  refine zel (λz=>absurd z (by decide)) (λ_=>?_)
  refine⟨_,.inl (SqL.of ha),_,.inl (SqL.of hl),zel (λz=>?_) (λz=>⟨by omega,rfl⟩)⟩
  have:=q H (.refl _)
  rw[show gP bs.length xs=false from by unfold gP;rw[decide_eq_false (by omega)];rfl] at this
  exact this
 ·rintro σ H' ⟨ln,e,rfl⟩
  rw[e]
  simp_all only [zb6,zb7,zac]
  refine⟨⟨_,SqL.of ha⟩,λD hD=>?_⟩
  refine zjZ (wi 0 60) (SqL.of ha) hD xl (λi x H1 R ex s hR=>?_) λH1 s hD1=>?_
  ·simp_all only [zb6,zb7,zac]
   exact⟨x,0,60,rfl,(ht x (zaz ex)).same s,hR _ (.refl _)⟩
  ·simp_all only [zb6,zb7,zac]
   refine⟨_,SqL.of hD1,?_⟩
   have:=q H1 s
   rw[show gP bs.length xs=(xs.map (wi 0 60)).all id from by unfold gP;rw[decide_eq_true ln,List.all_map];rfl] at this
   exact this
theorem zo0:zaA ["thing","boxes"] ["thing","boxes"] (zai zgR):=⟨rfl,rfl,rfl,by decide +kernel,rfl,by decide +kernel,by decide +kernel⟩
theorem zjX(T:Txt K mg a):zcC P w K mg base CX0 3 a.f_is_plan a.d_is_plan ["thing","boxes"] ze4:=by
 have G_is_within:=zfQ (P:=P) (w:=w) (base:=base) T
 refine T.F_is_plan.ok zo0 (λvs H Q E h=>?_) (λcdv A outer s H vs Q E hr h=>?_)
 ·obtain⟨v,l,bs,rfl,hl,h⟩:=h
  rfl
 obtain⟨v,l,bs,rfl,hl,h⟩:=h
 exact⟨zi9 K,(zaf (zbB (zbW (PW.pt (zhL (zcK (zbF (zat zbO rfl T.z_isinstance ψg (zaa (pv 0) (zaa (zea rfl T.z_list zcE rfl) zad))))) (zfU (zbG zoF (zat zaN rfl T.z_len ψE (zaa (pv 0) zad)) (zat zaN rfl T.z_len ψE (zaa (pv 1) zad)) (za9 _))))) (zam (zaD zeA)) zaQ))
 (zam (zaD (zat (zf5 rfl) rfl T.z_all ψk1 (zaa (zbX (sc:=zai zgR) (N:=["thing","boxes"]) (Nc:=["count"]) (cap:=[none]) rfl rfl rfl (.of (by decide +kernel)) (zbU (pv 0)) (λ_ _ _ _=>(zao (i:=0) (show ψk (["count"]:List Str) from by decide) rfl (Or.inl rfl))) (λ_ _ _ _=>za8) (λ_ _ _ _=>(zal G_is_within (hr.mono (by decide)) rfl T.m_is_within T.F_is_within.kp T.b_is_within .nil zaH (zaa (pv 0) (zaa zah (zaa (zbD rfl T.m_MOST_LOOKS ⟨_,rfl⟩) zad)))))) zad))))),
  zoR hl h⟩
structure PapW (bs:List Box) (ns Ws:List Int) (P:Rat):Prop where
 len:Ws.length=bs.length
 eq:∀(i:Nat) b n w,bs[i]?=some b→ns[i]?=some n→Ws[i]?=some w→(w:Rat)=wq b n*P
 p0:0<P
 wb:∀w∈Ws,Bd 2700 w
 pb:Bq 2700 P
theorem zyG{q:Rat}{D:Int}(h:(q.den:Int)∣D):((q.num*(D / q.den):Int):Rat)=q*(D:Rat):=by
 obtain⟨k,rfl⟩:=h
 have d0:=zet q
 rw[Int.mul_ediv_cancel_left _ (by omega),ψK,ψK]
 have e:((q.den:Int):Rat)*q=(q.num:Rat):=by
  have h:=ψU q
  rw[ψJ] at h
  have z:((q.den:Int):Rat)≠0:=λz=>by
   have:(q.den:Int)=0:=by exact_mod_cast z
   omega
  have h2:(q.num:Rat)=q*((q.den:Int):Rat):=by
   generalize (q.num:Rat)=a at h ⊢
   generalize ((q.den:Int):Rat)=b at h z ⊢
   grind
  rw[h2,Rat.mul_comm]
 grind
theorem papW{bs:List Box}{ns:List Int}{D g:Int}(gb:∀b∈bs,GB b)(n0:∀n∈ns,0≤n∧n≤60)(G:Gn bs ns)(len:ns.length=bs.length)(l1:1≤bs.length)(l6:bs.length≤6)(C:Com (wqs bs ns) D)(Gg:zpz ((wqs bs ns).map λq=>q.num*(D / q.den)) g) :
  PapW bs ns (((wqs bs ns).map λq=>q.num*(D / q.den)).map λn=>n.fdiv g) (ψZ D g)∧0<g∧Bd 2661 g:=by
 have lw:(wqs bs ns).length=bs.length:=by rw[wqs,ψn];omega
 have bw:∀q∈wqs bs ns,Bq 380 q∧0<q:=zg2 _ λi b n e1 e2=>⟨(zl9 (gb b (zaz e1)) (G i b n e1 e2)).mono (by have:=n0 n (zaz e2);omega),zpY (gb b (zaz e1)) (G i b n e1 e2)⟩
 have D0:=C.pos
 have bD:Bd 2281 D:=(C.bd λq hq=>(bw q hq).1).mono (by omega)
 have tp:∀q∈wqs bs ns,0<q.num*(D / q.den)∧Bd 2661 (q.num*(D / q.den)):=λq hq=>by
  obtain⟨b1,q0⟩:=bw q hq
  have hd:=C.all q hq
  have dp:=zet q
  have h1:0<D / (q.den:Int):=Int.ediv_pos_of_pos_of_dvd D0 (ψx dp) hd
  have h2:0<q.num:=by
   have a:=Rat.num_nonneg.mpr (ψe1 q0)
   have b:q.num≠0:=znK (by grind)
   omega
  have h3:=ψU1 (q.den:Int) (ψx D0)
  exact⟨ψW1 h2 h1,(b1.top.mul (bD.le (x:=D / (q.den:Int)) (by omega))).mono (by decide)⟩
 obtain⟨q0,hq0⟩:∃q,q∈wqs bs ns:=⟨(wqs bs ns)[0]'(by omega),ψS1 _⟩
 have hm0:q0.num*(D / q0.den)∈(wqs bs ns).map λq=>q.num*(D / q.den):=List.mem_map.mpr ⟨q0,hq0,rfl⟩
 obtain⟨t1,t2⟩:=tp q0 hq0
 have g0:=Gg.ne hm0 (by omega)
 have bg:Bd 2661 g:=t2.le (Gg.le hm0 (by omega))
 refine⟨⟨by rw[ψb,ψb,lw],λi b n w e1 e2 e3=>?_,?_,λw hw=>?_,zck (by omega) (bD.mono (by decide)) (bg.mono (by decide))⟩,g0,bg⟩
 ·obtain⟨x,ex,rfl⟩:=zaC e3
  obtain⟨q,eq,rfl⟩:=zaC ex
  have e:=zhQ e1 e2 eq
  have hd:=Gg.all _ (List.mem_map.mpr ⟨q,zaz eq,rfl⟩)
  have f:=zf9 hd
  have h:=zyG (C.all q (zaz eq))
  rw[← f,ψK] at h
  have gr:(g:Rat)≠0:=λz=>by
   have:g=0:=by exact_mod_cast z
   omega
  rw[ψJ,← e]
  generalize (((q.num*(D / (q.den:Int))).fdiv g:Int):Rat)=w at h ⊢
  grind
 ·rw[ψJ,Rat.div_def]
  exact Rat.mul_pos (by exact_mod_cast D0) (Rat.inv_pos.mpr (by exact_mod_cast g0))
 ·obtain⟨x,hx,rfl⟩:=List.mem_map.mp hw
  obtain⟨q,hq,rfl⟩:=List.mem_map.mp hx
  have f:=zf9 (Gg.all _ hx)
  exact((tp q hq).2.le (zhk f (by omega))).mono (by decide)
def ziG:Sp:=λvs H Q _=>∃(l pl:Addr) (ts:List Addr) (bs:List Box) (ns:List Int),vs=[.ref l,.ref pl]∧BP H l pl ts bs ns∧Gn bs ns∧bs.length≤6∧∀(r wl pp cl:Addr) (Ws:List Int) (P:Rat) (H':Hp),zaF H H'→H' r=some (.tup [.ref wl,.ref pp,.ref cl])→H' wl=some (.lst (Ws.map V.int))→H' pp=some (.tup (fr P))→H' cl=some (.lst (ns.map V.int))→PapW bs ns Ws P→H wl=none→Q (.ref r) H'
def zhA(K:ψa):TS :=
 (zaK (za2 (zar zkf [] E0 (zab (zar zqS [] E0 (zab (zac 0) (zab (zac 1) zak))) zak)) (zcW K 2 (zax (zag 2) (zax (zag 3) zcR))))
 (zaK (za2 (zar zkV [] E0 (zab (zac 2) zak)) (zag 4))
 (zbb (zbV (zab (zbA (zcX K (zac 2)) (zag 0) zaE (tOp (rI (λ_ j=>j≠0∧j.natAbs.log2<9000) λi j=>.int (i.fdiv j)) (zac 0) (zac 1)) [none,some 4]) (zab (zar zlB [] E0 (zab (zac 3) (zab (zac 4) zak))) (zab (tCB (λxs H Q=>∃p ys,xs=[.ref p]∧(SqL K H p ys∨SqT K H p ys)∧∀l,H l=none→Q (.ref l) (upd H l (.lst ys))) (zab (zac 1) zak)) zak)))))))
theorem zns{l pl:Addr}{ts:List Addr}{bs:List Box}{ns:List Int}(B:BP H l pl ts bs ns)(G:Gn bs ns)(l6:bs.length≤6)(q:∀(r wl pp cl:Addr) (Ws:List Int) (P:Rat) (H':Hp),zaF H H'→H' r=some (.tup [.ref wl,.ref pp,.ref cl])→H' wl=some (.lst (Ws.map V.int))→H' pp=some (.tup (fr P))→H' cl=some (.lst (ns.map V.int))→PapW bs ns Ws P→H wl=none→Q (.ref r) H') :
  zhA K { nx:=λ_ H'=>Q .non H',rt:=Q } (L2.start ["boxes","counts","weights","bottom","shared"] [.ref l,.ref pl]) H:=by
 unfold zhA
 simp_all only [zac]
 refine⟨l,pl,ts,bs,ns,rfl,B,G,λfl us H1 s1 h1 T1=>?_⟩
 have lw:(wqs bs ns).length=bs.length:=by rw[wqs,ψn,B.len];omega
 refine⟨fl,us,_,rfl,h1,T1,by omega,zg2 _ λi b n e1 e2=>(zxn (B.gb b (zaz e1)) (B.gn n (zaz e2)).2 (G i b n e1 e2)).mono (by decide),λcr tl D H2 s2 C h2 ntl htl=>?_⟩
 simp_all only [zac]
 refine⟨_,SqT.of h2,rfl,_,_,rfl,_,_,rfl,rfl,?_⟩
 refine⟨tl,_,rfl,htl,λg Gg=>?_⟩
 obtain⟨PW,g0,bg⟩:=papW B.gb B.gn G B.len B.l1 l6 C Gg
 simp_all only [zac]
 refine⟨⟨_,SqL.of htl⟩,λD1 hD1=>?_⟩
 refine zeT (vs:=(((wqs bs ns).map λq=>q.num*(D / q.den)).map λn=>n.fdiv g).map V.int) htl (by simp) (by simp;omega) hD1 (λi x v H' R hx hv s k=>?_) λH3 s3 h3=>?_
 ·obtain⟨n,en,rfl⟩:=zaC hx
  obtain⟨y,ey,rfl⟩:=zaC hv
  obtain⟨n',en',rfl⟩:=zaC ey
  rw[en] at en'
  cases en'
  simp_all only [zac]
  exact⟨by omega,zhG 2661 (by omega) bg,k _ (.refl _)⟩
 refine⟨_,_,rfl,by omega,bg.mono (by decide),λpp H4 s4 h4=>?_⟩
 have hp4:=s4 _ _ (s3 _ _ (s2 _ _ (s1 _ _ B.hp)))
 refine⟨_,.inl (SqL.of hp4),λcl ncl=>?_⟩
 have s5:=zaq ncl (.lst (ns.map V.int))
 have h5:(L2.upd H4 cl (.lst (ns.map V.int))) cl=some (.lst (ns.map V.int)):=zaj
 generalize L2.upd H4 cl (.lst (ns.map V.int))=H5 at s5 h5 ⊢
 refine⟨by decide,λr nr=>?_⟩
 have s6:=zaq nr (.tup [V.ref D1,V.ref pp,V.ref cl])
 have h6:(L2.upd H5 r (.tup [V.ref D1,V.ref pp,V.ref cl])) r=some (.tup [V.ref D1,V.ref pp,V.ref cl]):=zaj
 generalize L2.upd H5 r (.tup [V.ref D1,V.ref pp,V.ref cl])=H6 at s6 h6 ⊢
 exact q r D1 pp cl _ _ H6 (s1.trans (s2.trans (s3.trans (s4.trans (s5.trans s6))))) h6 (s6 _ _ (s5 _ _ (s4 _ _ h3))) (s6 _ _ (s5 _ _ h4)) (s6 _ _ h5) PW ((s1.trans s2).free hD1)
theorem ze8:zaA ["boxes","counts","weights","bottom","shared"] ["boxes","counts"] (zai zf6):=⟨rfl,rfl,rfl,by decide +kernel,rfl,by decide +kernel,by decide +kernel⟩
theorem zmQ(T:Txt K mg a):zcC P w K mg base CX0 5 a.f_paper_of a.d_paper_of ["boxes","counts"] ziG:=by
 have G_common:=zlv (P:=P) (w:=w) (base:=base) T
 have G_fair_weights:=zf2 (P:=P) (w:=w) (base:=base) T
 have G_ratio:=ze9 (P:=P) (w:=w) (base:=base) T
 have G_shared_divisor:=zeZ (P:=P) (w:=w) (base:=base) T
 refine T.F_paper_of.ok ze8 (λvs H Q E h=>?_) (λcdv A outer s H vs Q E hr h=>?_)
 ·obtain⟨l,pl,ts,bs,ns,rfl,B,G,l6,q⟩:=h
  rfl
 obtain⟨l,pl,ts,bs,ns,rfl,B,G,l6,q⟩:=h
 exact⟨zhA K,(zaf (zdJ (zal G_common (hr.mono (by decide)) rfl T.m_common T.F_common.kp T.b_common .nil zaH (zaa (zal G_fair_weights (hr.mono (by decide)) rfl T.m_fair_weights T.F_fair_weights.kp T.b_fair_weights .nil zaH (zaa (pv 0) (zaa (pv 1) zad))) zad)) (zbw rfl (zap (zao (i:=2) ze8.nd rfl (Or.inl rfl)) (zap (zao (i:=3) ze8.nd rfl (Or.inl rfl)) zaW))))
 (zaf (zaL (i:=4) ze8.nd rfl (Or.inr rfl) (zal G_shared_divisor (hr.mono (by decide)) rfl T.m_shared_divisor T.F_shared_divisor.kp T.b_shared_divisor .nil zaH (zaa (pv 2) zad)))
 (zam (zaD (za3 (zaa (zbX (sc:=zai zf6) (N:=["boxes","counts","weights","bottom","shared"]) (Nc:=["weight","shared"]) (cap:=[none,some 4]) rfl rfl rfl (.of (by decide +kernel)) (zbU (pv 2)) (λ_ _ _ _=>(zao (i:=0) (show ψk (["weight","shared"]:List Str) from by decide) rfl (Or.inl rfl))) (λ_ _ _ _=>za8) (λ_ _ _ _=>(zaB zdV (pv 0) (pv 1)))) (zaa (zal G_ratio (hr.mono (by decide)) rfl T.m_ratio T.F_ratio.kp T.b_ratio .nil zaH (zaa (pv 3) (zaa (pv 4) zad))) (zaa (zdi zcM rfl T.z_list zcE (zaa (pv 1) zad)) zad)))))))),
  zns B G l6 q⟩
def zfg(a:Ad):Sp:=λvs H Q E=>∃v:V,vs=[v]∧Tg H v∧((wi 0 60 v=false∧E (.ref a.c_NoBudget) none H)∨(wi 0 60 v=true∧Q .non H))
def zfi(a:Ad)(E:XK):TS :=
 (zca (zfw (tB (zar zcF [] E0 (zab (zac 0) (zab (tC (.int 0)) (zab (tC (.int 60)) zak)))))) (znY (.ref a.c_NoBudget) E) zaV)
theorem zjN{E:XK}{v:V}(t:Tg H v)(h:(wi 0 60 v=false∧E (.ref a.c_NoBudget) none H)∨(wi 0 60 v=true∧Q .non H)):zfi a E { nx:=λ_ H'=>Q .non H',rt:=Q } (L2.start ["budget"] [v]) H:=by
 unfold zfi
 simp_all only [zac]
 refine⟨v,0,60,rfl,t,wi 0 60 v,rfl,?_⟩
 rcases h with ⟨e,h⟩ | ⟨e,h⟩
 ·rw[e]
  exact zel (λ_=>h) (λz=>absurd rfl z)
 ·rw[e]
  exact zel (λz=>absurd z (by decide)) (λ_=>h)
theorem zjw:zaA ["budget"] ["budget"] (zai zfn):=⟨rfl,rfl,rfl,by decide +kernel,rfl,by decide +kernel,by decide +kernel⟩
theorem zgt(T:Txt K mg a):zcC P w K mg base (CXV P w) 3 a.f_look_budget a.d_look_budget ["budget"] (zfg a):=by
 have G_is_within:=zfQ (P:=P) (w:=w) (base:=base) T
 refine T.F_look_budget.okV zjw (λvs H Q E h=>?_) (λcdv A outer s H vs Q E hr h=>?_)
 ·obtain⟨v,rfl,t,h⟩:=h
  rfl
 obtain⟨v,rfl,t,h⟩:=h
 exact⟨zfi a E,(zam (zbW (zcK (zbF (zal G_is_within (hr.mono (by decide)) rfl T.m_is_within T.F_is_within.kp T.b_is_within .nil zaH (zaa (pv 0) (zaa zah (zaa (zbD rfl T.m_MOST_BUDGET ⟨_,rfl⟩) zad)))))) (zam (znX T.m_NoBudget T.x_NoBudget rfl rfl zqh)) zaQ)),
  zjN t h⟩
def zwF(a:Ad)(H:Hp)(E:XK)(vb vu:V)(G:Addr→List Addr→List Box→Int→Prop):Prop :=
 (zpj H vb∧∀H',zaF H H'→E (.ref a.c_NoBoxes) none H') ∨
 ∃(l:Addr) (ts:List Addr) (bs:List Box),vb=.ref l∧GdB H l ts bs∧((Tg H vu∧wi 0 60 vu=false∧∀H',zaF H H'→E (.ref a.c_NoBudget) none H')∨∃bud:Int,vu=.int bud∧0≤bud∧bud≤60∧G l ts bs bud)
theorem znP{E:XK}{vb vu:V}{G:Addr→List Addr→List Box→Int→Prop}{R:Hp→Prop}(h:zwF a H E vb vu G)(k:∀(l:Addr) (ts:List Addr) (bs:List Box) (bud:Int) (H1:Hp),vb=.ref l→vu=.int bud→GdB H l ts bs→0≤bud→bud≤60→zaF H H1→G l ts bs bud→R H1) :
  (zpj H vb∧∀H',zaF H H'→E (.ref a.c_NoBoxes) none H')∨∃(l:Addr) (ts:List Addr) (bs:List Box),vb=.ref l∧GdB H l ts bs∧∀H',zaF H H'→Tg H' vu∧((wi 0 60 vu=false∧E (.ref a.c_NoBudget) none H')∨(wi 0 60 vu=true∧R H')):=by
 rcases h with h | ⟨l,ts,bs,e,g,⟨t,w,x⟩ | ⟨bud,e2,b0,b1,g2⟩⟩
 ·exact .inl h
 ·exact .inr ⟨l,ts,bs,e,g,λH' s=>⟨t.same s,.inl ⟨w,x H' s⟩⟩⟩
 ·exact .inr ⟨l,ts,bs,e,g,λH' s=>⟨by rw[e2];exact .int _,.inr ⟨by rw[e2];exact decide_eq_true ⟨b0,b1⟩,k l ts bs bud H' e e2 g b0 b1 s g2⟩⟩⟩
def zoj:Sp:=λvs H Q _=>∃(l:Addr) (ts:List Addr) (bs:List Box) (bud:Int),vs=[.ref l,.int bud]∧H l=some (.lst (ts.map V.ref))∧Tps bx H ts bs∧bs.length≤6∧∀(c:Bool) (H':Hp),zaF H H'→(c=true↔(∀b∈bs,b.2.1=b.2.2)∧(bs.map λb=>b.1).sum≤bud)→Q (.bl c) H'
def ziY(K:ψa):TS :=
 (zbb (zc6 (tCB (zrf K) (zab (zbA (zcX K (zac 0)) (zcW K 3 (zax (zag 0) (zax (zag 1) (zax (zag 2) zcR)))) zaE (tOp rEq (zac 1) (zac 2)) [none,none,none]) zak)) (tOp (rI0 λi j=>.bl (decide (i≤j))) (tCB (zmg K) (zab (zbA (zcX K (zac 0)) (zag 0) zaE (tOp (zbM K) (zac 0) (tC (.int 0))) [none]) zak)) (zac 1))))
theorem zpa{l:Addr}{ts:List Addr}{bs:List Box}{bud:Int}(hl:H l=some (.lst (ts.map V.ref)))(T:Tps bx H ts bs)(l6:bs.length≤6)(q:∀(c:Bool) (H':Hp),zaF H H'→(c=true↔(∀b∈bs,b.2.1=b.2.2)∧(bs.map λb=>b.1).sum≤bud)→Q (.bl c) H') :
  ziY K { nx:=λ_ H'=>Q .non H',rt:=Q } (L2.start ["boxes","budget"] [.ref l,.int bud]) H:=by
 unfold ziY
 simp_all only [zac]
 refine⟨⟨_,SqL.of hl⟩,λD hD=>?_⟩
 refine zdY (K:=K) (xs:=ts.map V.ref) (λi ys σ H'=>zaF H H'∧ys=((bs.take i).map λb=>decide (b.2.1=b.2.2)).map V.bl∧∃x y z,σ=[x,y,z]) ⟨zaq hD _,rfl,_,_,_,rfl⟩ ?_ ?_ ?_
 ·rintro i ys σ H' _ ⟨s,_⟩
  exact SqL.of (s _ _ hl)
 ·rintro i x ys σ H' hx hD' ⟨s,rfl,x,y,z,rfl⟩
  obtain⟨t,ht,rfl⟩:=zaC hx
  obtain⟨b,hb1,hb2⟩:=T.at ht
  simp_all only [zac]
  refine⟨_,SqT.of (s _ _ hb2),rfl,_,_,rfl,_,_,rfl,_,_,rfl,rfl,?_⟩
  simp_all only [zac]
  refine⟨_,hD',zbC (by rw[ψb,ψb,ψH];omega),_,zaj,s.put hD,?_⟩
  rw[ψw,hb1]
  simp
 ·rintro ys σ H1 h1 ⟨s1,rfl,x,y,z,rfl⟩
  rw[ψb,T.1,ψO] at h1
  simp_all only [zac]
  refine⟨_,SqL.of h1,?_⟩
  by_cases c:∀b∈bs,b.2.1=b.2.2
  ·have e:((bs.map λb=>decide (b.2.1=b.2.2)).all id)=true:=List.all_eq_true.mpr λx hx=>by
    obtain⟨b,hb,rfl⟩:=List.mem_map.mp hx
    exact decide_eq_true (c b hb)
   rw[e]
   refine zru ?_
   have hl1:=s1 _ _ hl
   refine⟨⟨_,SqL.of hl1⟩,λD2 hD2=>?_⟩
   refine zeT (vs:=(bs.map λb=>b.1).map V.int) hl1 (by simp[T.1]) (by simp;omega) hD2 (λi x v H' R hx hv s k=>?_) λH2 s2 h2=>?_
   ·obtain⟨t,ht,rfl⟩:=zaC hx
    obtain⟨w,hw,rfl⟩:=zaC hv
    obtain⟨b,hb,rfl⟩:=zaC hw
    obtain⟨b',hb1,hb2⟩:=T.at ht
    rw[hb] at hb1
    cases hb1
    simp_all only [zac]
    exact⟨_,SqT.of (s _ _ (s1 _ _ hb2)),_,rfl,k _ (.refl _)⟩
   ·simp_all only [zac]
    refine⟨_,SqL.of h2,?_⟩
    exact q _ H2 (s1.trans s2) ⟨λh=>⟨c,of_decide_eq_true h⟩,λh=>decide_eq_true h.2⟩
  ·have e:((bs.map λb=>decide (b.2.1=b.2.2)).all id)=false:=by
    rw[Bool.eq_false_iff]
    intro z
    refine c λb hb=>?_
    have:=List.all_eq_true.mp z _ (List.mem_map.mpr ⟨b,hb,rfl⟩)
    exact of_decide_eq_true this
   rw[e]
   refine zti ?_
   exact q _ H1 s1 ⟨λh=>absurd h (by decide),λh=>absurd h.1 c⟩
theorem zoy:zaA ["boxes","budget"] ["boxes","budget"] (zai zfR):=⟨rfl,rfl,rfl,by decide +kernel,rfl,by decide +kernel,by decide +kernel⟩
theorem zo9(T:Txt K mg a):zcC P w K mg base CX0 1 a.f_is_sure a.d_is_sure ["boxes","budget"] zoj:=by
 refine T.F_is_sure.ok zoy (λvs H Q E h=>?_) (λcdv A outer s H vs Q E hr h=>?_)
 ·obtain⟨l,ts,bs,bud,rfl,hl,T',l6,q⟩:=h
  rfl
 obtain⟨l,ts,bs,bud,rfl,hl,T',l6,q⟩:=h
 exact⟨ziY K,(zam (zaD (zec (zat (zf5 rfl) rfl T.z_all ψk1 (zaa (zbX (sc:=zai zfR) (N:=["boxes","budget"]) (Nc:=["cost","hits","of"]) (cap:=[none,none,none]) rfl rfl rfl (.of (by decide +kernel)) (zbU (pv 0)) (λ_ _ _ _=>(zbw rfl (zap (zao (i:=0) (show ψk (["cost","hits","of"]:List Str) from by decide) rfl (Or.inl rfl)) (zap (zao (i:=1) (show ψk (["cost","hits","of"]:List Str) from by decide) rfl (Or.inl rfl)) (zap (zao (i:=2) (show ψk (["cost","hits","of"]:List Str) from by decide) rfl (Or.inl rfl)) zaW))))) (λ_ _ _ _=>za8) (λ_ _ _ _=>(zcg zm5 (pv 1) (pv 2) (za9 _)))) zad)) (zgo (zcg zmU (zat (zeo rfl) rfl T.z_sum ψa1 (zaa (zbX (sc:=zai zfR) (N:=["boxes","budget"]) (Nc:=["box"]) (cap:=[none]) rfl rfl rfl (.of (by decide +kernel)) (zbU (pv 0)) (λ_ _ _ _=>(zao (i:=0) (show ψk (["box"]:List Str) from by decide) rfl (Or.inl rfl))) (λ_ _ _ _=>za8) (λ_ _ _ _=>(zaS zaI (pv 0) zah (λ_ _=>rfl)))) zad)) (pv 1) (za9 _)))))),
  zpa hl T' l6 q⟩
def zui:Sp:=λvs H Q _=>∃(l:Addr) (ts:List Addr),vs=[.ref l]∧H l=some (.lst (ts.map V.ref))∧ts.length≤6∧∀(r wr mr pr wl pp cl:Addr) (H':Hp),zaF H H'→H' r=some (.tup [.ref wr,.ref mr,.ref pr])→H' wr=some (.tup (fr 1))→H' pr=some (.tup [.ref wl,.ref pp,.ref cl])→H' wl=some (.lst ((ts.map λ_=>(1:Int)).map V.int))→H' pp=some (.tup (fr 0))→H wl=none→Q (.ref r) H'
def zfh(K:ψa):TS :=
 (zaK (za2 (zbA (zcX K (zac 0)) (zag 0) zaE (tC (.int 1)) [none]) (zag 1))
 (zbb (zbV (zab (zbV (zab (tC (.int 1)) (zab (tC (.int 1)) zak))) (zab (zcV (zab (zbV (zab (tCB (λxs H Q=>∃p ys,xs=[.ref p]∧(SqL K H p ys∨SqT K H p ys)∧∀l,H l=none→Q (.ref l) (upd H l (.lst ys))) (zab (zac 1) zak)) (zab (tC (.int 1)) zak))) zak)) (zab (zbV (zab (tCB (λxs H Q=>∃p ys,xs=[.ref p]∧(SqL K H p ys∨SqT K H p ys)∧∀l,H l=none→Q (.ref l) (upd H l (.lst ys))) (zab (zac 1) zak)) (zab (zbV (zab (tC (.int 0)) (zab (tC (.int 1)) zak))) (zab (tCB (λxs H Q=>∃p ys,xs=[.ref p]∧(SqL K H p ys∨SqT K H p ys)∧∀l,H l=none→Q (.ref l) (upd H l (.lst ys))) (zab (zac 1) zak)) zak)))) zak))))))
theorem zjs{l:Addr}{ts:List Addr}(hl:H l=some (.lst (ts.map V.ref)))(l6:ts.length≤6)(q:∀(r wr mr pr wl pp cl:Addr) (H':Hp),zaF H H'→H' r=some (.tup [.ref wr,.ref mr,.ref pr])→H' wr=some (.tup (fr 1))→H' pr=some (.tup [.ref wl,.ref pp,.ref cl])→H' wl=some (.lst ((ts.map λ_=>(1:Int)).map V.int))→H' pp=some (.tup (fr 0))→H wl=none→Q (.ref r) H') :
  zfh K { nx:=λ_ H'=>Q .non H',rt:=Q } (L2.start ["boxes","ones"] [.ref l]) H:=by
 unfold zfh
 simp_all only [zac]
 refine⟨⟨_,SqL.of hl⟩,λD hD=>?_⟩
 refine zeT (vs:=(ts.map λ_=>(1:Int)).map V.int) hl (by simp) (by simp;omega) hD (λi x v H' R _ hv s k=>?_) λH1 s1 h1=>?_
 ·obtain⟨n,en,rfl⟩:=zaC hv
  obtain⟨_,_,rfl⟩:=zaC en
  exact k _ (.refl _)
 simp_all only [zac]
 refine⟨by decide,λp1 n1=>?_⟩
 have s2:=zaq n1 (.tup [V.int 1,V.int 1])
 have h2:(L2.upd H1 p1 (.tup [V.int 1,V.int 1])) p1=some (.tup [V.int 1,V.int 1]):=zaj
 generalize L2.upd H1 p1 (.tup [V.int 1,V.int 1])=H2 at s2 h2 ⊢
 refine⟨_,.inl (SqL.of (s2 _ _ h1)),λp2 n2=>?_⟩
 have s3:=zaq n2 (.lst ((ts.map λ_=>(1:Int)).map V.int))
 have h3:(L2.upd H2 p2 (.lst ((ts.map λ_=>(1:Int)).map V.int))) p2=some (.lst ((ts.map λ_=>(1:Int)).map V.int)):=zaj
 generalize L2.upd H2 p2 (.lst ((ts.map λ_=>(1:Int)).map V.int))=H3 at s3 h3 ⊢
 refine⟨by decide,λp3 n3=>?_⟩
 have s4:=zaq n3 (.tup [V.ref p2,V.int 1])
 have h4:(L2.upd H3 p3 (.tup [V.ref p2,V.int 1])) p3=some (.tup [V.ref p2,V.int 1]):=zaj
 generalize L2.upd H3 p3 (.tup [V.ref p2,V.int 1])=H4 at s4 h4 ⊢
 refine⟨by decide,λp4 n4=>?_⟩
 have s5:=zaq n4 (.lst [V.ref p3])
 have h5:(L2.upd H4 p4 (.lst [V.ref p3])) p4=some (.lst [V.ref p3]):=zaj
 generalize L2.upd H4 p4 (.lst [V.ref p3])=H5 at s5 h5 ⊢
 have S5:=s2.trans (s3.trans (s4.trans s5))
 refine⟨_,.inl (SqL.of (S5 _ _ h1)),λp5 n5=>?_⟩
 have s6:=zaq n5 (.lst ((ts.map λ_=>(1:Int)).map V.int))
 have h6:(L2.upd H5 p5 (.lst ((ts.map λ_=>(1:Int)).map V.int))) p5=some (.lst ((ts.map λ_=>(1:Int)).map V.int)):=zaj
 generalize L2.upd H5 p5 (.lst ((ts.map λ_=>(1:Int)).map V.int))=H6 at s6 h6 ⊢
 refine⟨by decide,λp6 n6=>?_⟩
 have s7:=zaq n6 (.tup [V.int 0,V.int 1])
 have h7:(L2.upd H6 p6 (.tup [V.int 0,V.int 1])) p6=some (.tup [V.int 0,V.int 1]):=zaj
 generalize L2.upd H6 p6 (.tup [V.int 0,V.int 1])=H7 at s7 h7 ⊢
 refine⟨_,.inl (SqL.of (s7 _ _ (s6 _ _ (S5 _ _ h1)))),λp7 n7=>?_⟩
 have s8:=zaq n7 (.lst ((ts.map λ_=>(1:Int)).map V.int))
 have h8:(L2.upd H7 p7 (.lst ((ts.map λ_=>(1:Int)).map V.int))) p7=some (.lst ((ts.map λ_=>(1:Int)).map V.int)):=zaj
 generalize L2.upd H7 p7 (.lst ((ts.map λ_=>(1:Int)).map V.int))=H8 at s8 h8 ⊢
 refine⟨by decide,λp8 n8=>?_⟩
 have s9:=zaq n8 (.tup [V.ref p5,V.ref p6,V.ref p7])
 have h9:(L2.upd H8 p8 (.tup [V.ref p5,V.ref p6,V.ref p7])) p8=some (.tup [V.ref p5,V.ref p6,V.ref p7]):=zaj
 generalize L2.upd H8 p8 (.tup [V.ref p5,V.ref p6,V.ref p7])=H9 at s9 h9 ⊢
 refine⟨by decide,λr nr=>?_⟩
 have sa:=zaq nr (.tup [V.ref p1,V.ref p4,V.ref p8])
 have ha:(L2.upd H9 r (.tup [V.ref p1,V.ref p4,V.ref p8])) r=some (.tup [V.ref p1,V.ref p4,V.ref p8]):=zaj
 generalize L2.upd H9 r (.tup [V.ref p1,V.ref p4,V.ref p8])=Ha at sa ha ⊢
 have S9:=s8.trans (s9.trans sa)
 exact q r p1 p4 p8 p5 p6 p7 Ha (s1.trans (S5.trans (s6.trans (s7.trans S9)))) ha (S9 _ _ (s7 _ _ (s6 _ _ (s5 _ _ (s4 _ _ (s3 _ _ h2)))))) (sa _ _ h9) (S9 _ _ (s7 _ _ h6)) (S9 _ _ h7) ((s1.trans S5).free n5)
theorem zgx:zaA ["boxes","ones"] ["boxes"] (zai zdR):=⟨rfl,rfl,rfl,by decide +kernel,rfl,by decide +kernel,by decide +kernel⟩
theorem zjH(T:Txt K mg a):zcC P w K mg base CX0 1 a.f_sure_answer a.d_sure_answer ["boxes"] zui:=by
 refine T.F_sure_answer.ok zgx (λvs H Q E h=>?_) (λcdv A outer s H vs Q E hr h=>?_)
 ·obtain⟨l,ts,rfl,hl,l6,q⟩:=h
  rfl
 obtain⟨l,ts,rfl,hl,l6,q⟩:=h
 exact⟨zfh K,(zaf (zb8 (i:=1) zgx.nd rfl rfl (sc:=zai zdR) (N:=["boxes","ones"]) (Nc:=["box"]) (cap:=[none]) rfl rfl rfl (.of (by decide +kernel)) (zbU (pv 0)) (λ_ _ _ _=>(zao (i:=0) (show ψk (["box"]:List Str) from by decide) rfl (Or.inl rfl))) (λ_ _ _ _=>za8) (λ_ _ _ _=>zah))
 (zam (zaD (za3 (zaa (za3 (zaa zah (zaa zah zad))) (zaa (zbK (zaa (za3 (zaa (zdi zcM rfl T.z_list zcE (zaa (pv 1) zad)) (zaa zah zad))) zad)) (zaa (za3 (zaa (zdi zcM rfl T.z_list zcE (zaa (pv 1) zad)) (zaa (za3 (zaa zah (zaa zah zad))) (zaa (zdi zcM rfl T.z_list zcE (zaa (pv 1) zad)) zad)))) zad))))))),
  zjs hl l6 q⟩
def zlj(a:Ad):Sp:=λvs H Q E=>∃vb vu:V,vs=[vb,vu]∧zwF a H E vb vu λ_ _ _ _=>∀(r:Addr) (H':Hp),zaF H H'→Q (.ref r) H'
def zfs(K:ψa):TS :=
 (zaK (za2 (zar zld [] E0 (zab (zac 0) (zab (zac 1) zak))) (zcW K 2 (zax (zag 2) (zax (zag 3) zcR))))
 (zbb (zbV (zab (zac 3) (zab (zar zm2 [] E0 (zab (zac 0) (zab (zac 2) (zab (zac 3) zak)))) (zab (zar ziG [] E0 (zab (zac 0) (zab (zac 2) zak))) zak))))))
theorem zb0(K:ψa)(D:zbP)(σ:St)(H:Hp):zfs K D σ H=(zaK (za2 (zar zld [] E0 (zab (zac 0) (zab (zac 1) zak))) (zcW K 2 (zax (zag 2) (zax (zag 3) zcR))))
 (zbb (zbV (zab (zac 3) (zab (zar zm2 [] E0 (zab (zac 0) (zab (zac 2) (zab (zac 3) zak)))) (zab (zar ziG [] E0 (zab (zac 0) (zab (zac 2) zak))) zak)))))) D σ H:=rfl
def zew(K:ψa)(a:Ad)(E:XK):TS :=
 (zaK (zbQ (zar (ziF a) [] E (zab (zac 0) zak)))
 (zaK (zbQ (zar (zfg a) [] E (zab (zac 1) zak)))
 (zaK (zdq (zca (tB (zar zoj [] E0 (zab (zac 0) (zab (zac 1) zak)))) (zbb (zar zui [] E0 (zab (zac 0) zak))) zaV))
 (zfs K))))
theorem ziv{E:XK}{vb vu:V}(h:zwF a H E vb vu λ_ _ _ _=>∀(r:Addr) (H':Hp),zaF H H'→Q (.ref r) H') :
  zew K a E { nx:=λ_ H'=>Q .non H',rt:=Q } (L2.start ["boxes","budget","counts","worth"] [vb,vu]) H:=by
 unfold zew
 simp_all only [zb0,zac]
 refine⟨vb,rfl,Or.imp (λh=>h) (λ⟨l,ts,bs,e,g,k⟩=>⟨l,ts,bs,e,g,λH1 s1=>⟨vu,rfl,k H1 s1⟩⟩) (znP h ?_)⟩
 rintro l ts bs bud H1 rfl rfl g d0 d1 s1 q
 have l1:=g.l1
 have l6:=g.l6
 have gb:=g.gb
 have hl1:=s1 _ _ g.hl
 have T1:=g.hb.same s1
 refine⟨λσ H'=>zaF H1 H'∧((∀b∈bs,b.2.1=b.2.2)→bud<(bs.map λb=>b.1).sum)∧σ=[some (.ref l),some (.int bud),none,none],?_,?_⟩
 ·simp_all only [zb0,zac]
  refine⟨l,ts,bs,bud,rfl,hl1,T1,by omega,λc H2 s2 hc=>⟨c,rfl,?_⟩⟩
  cases c with
  | true =>
   refine zru ⟨l,ts,rfl,s2 _ _ hl1,by have:=T1.1;omega,λr wr mr pr wl pp cl H3 s3 a1 a2 a3 a4 a5 a6=>?_⟩
   exact q r H3 (s1.trans (s2.trans s3))
  | false =>
   refine zti ⟨s2,λh=>?_⟩
   refine ψY λz=>?_
   exact absurd (hc.mpr ⟨h,by omega⟩) (by decide)
 ·rintro σ H2 ⟨s2,hs,rfl⟩
  simp_all only [zb0,zac]
  refine⟨l,ts,bs,bud,rfl,s2 _ _ hl1,T1.same s2,gb,l1,l6,d0,d1,hs,λr pl wr ns H3 s3 h3 B L hw=>?_⟩
  simp_all only [zb0,zac]
  refine⟨_,SqT.of h3,rfl,_,_,rfl,_,_,rfl,rfl,?_⟩
  have cb:=L.cb
  refine⟨l,pl,wr,ts,bs,ns,_,rfl,B,L.gn,hw,zt3 L gb l1 l6 d1,by omega,λmr H4 s4=>?_⟩
  refine⟨l,pl,ts,bs,ns,rfl,B.same s4,L.gn,l6,λpr wl pp cl Ws P H5 s5 a1 a2 a3 a4 PW a6=>?_⟩
  refine⟨by decide,λr6 n6=>?_⟩
  have s6:=zaq n6 (.tup [V.ref wr,V.ref mr,V.ref pr])
  have h6:(L2.upd H5 r6 (.tup [V.ref wr,V.ref mr,V.ref pr])) r6=some (.tup [V.ref wr,V.ref mr,V.ref pr]):=zaj
  generalize L2.upd H5 r6 (.tup [V.ref wr,V.ref mr,V.ref pr])=H6 at s6 h6 ⊢
  exact q r6 H6 (s1.trans (s2.trans (s3.trans (s4.trans (s5.trans s6)))))
theorem zd8:zaA ["boxes","budget","counts","worth"] ["boxes","budget"] (zai zeF):=⟨rfl,rfl,rfl,by decide +kernel,rfl,by decide +kernel,by decide +kernel⟩
theorem ziI(T:Txt K mg a):zcC P w K mg base (CXV P w) 7 a.f_budget_worth a.d_budget_worth ["boxes","budget"] (zlj a):=by
 have G_counts_and_worth:=zgL (P:=P) (w:=w) (base:=base) T
 have G_is_sure:=zo9 (P:=P) (w:=w) (base:=base) T
 have G_look_boxes:=zdN (P:=P) (w:=w) (base:=base) T
 have G_look_budget:=zgt (P:=P) (w:=w) (base:=base) T
 have G_mix_of:=zrh (P:=P) (w:=w) (base:=base) T
 have G_paper_of:=zmQ (P:=P) (w:=w) (base:=base) T
 have G_sure_answer:=zjH (P:=P) (w:=w) (base:=base) T
 refine T.F_budget_worth.okV zd8 (λvs H Q E h=>?_) (λcdv A outer s H vs Q E hr h=>?_)
 ·obtain⟨vb,vu,rfl,h⟩:=h
  rfl
 obtain⟨vb,vu,rfl,h⟩:=h
 exact⟨zew K a E,(zaf (zbJ (zal G_look_boxes (hr.mono (by decide)) rfl T.m_look_boxes T.F_look_boxes.kp T.b_look_boxes .nil zjj (zaa (pv 0) zad)))
 (zaf (zbJ (zal G_look_budget (hr.mono (by decide)) rfl T.m_look_budget T.F_look_budget.kp T.b_look_budget .nil zjj (zaa (pv 1) zad)))
 (zaf (zbB (zbW (zbF (zal G_is_sure (hr.mono (by decide)) rfl T.m_is_sure T.F_is_sure.kp T.b_is_sure .nil zaH (zaa (pv 0) (zaa (pv 1) zad)))) (zam (zaD (zal G_sure_answer (hr.mono (by decide)) rfl T.m_sure_answer T.F_sure_answer.kp T.b_sure_answer .nil zaH (zaa (pv 0) zad)))) zaQ))
 (zaf (zdJ (zal G_counts_and_worth (hr.mono (by decide)) rfl T.m_counts_and_worth T.F_counts_and_worth.kp T.b_counts_and_worth .nil zaH (zaa (pv 0) (zaa (pv 1) zad))) (zbw rfl (zap (zao (i:=2) zd8.nd rfl (Or.inl rfl)) (zap (zao (i:=3) zd8.nd rfl (Or.inl rfl)) zaW))))
 (zam (zaD (za3 (zaa (pv 3) (zaa (zal G_mix_of (hr.mono (by decide)) rfl T.m_mix_of T.F_mix_of.kp T.b_mix_of .nil zaH (zaa (pv 0) (zaa (pv 2) (zaa (pv 3) zad)))) (zaa (zal G_paper_of (hr.mono (by decide)) rfl T.m_paper_of T.F_paper_of.kp T.b_paper_of .nil zaH (zaa (pv 0) (zaa (pv 2) zad))) zad)))))))))),
  ziv h⟩
theorem zp7{H:Hp}{ns:List Int}:∀x∈ns.map V.int,Tg H x:=λx hx=>by
 obtain⟨i,_,rfl⟩:=List.mem_map.mp hx
 exact .int i
theorem zpR{l pl:Addr}{ts:List Addr}{bs:List Box}{ns:List Int}(B:BP H l pl ts bs ns)(q:∀(c:Bool) (H':Hp),zaF H H'→Q (.bl c) H'):ze4 [.ref pl,.ref l] H Q E0 :=
 ⟨.ref pl,l,_,rfl,B.hl,.inr ⟨pl,_,rfl,B.hp,by rw[ψb];have:=B.len;have:=B.l6;omega,zp7,λH' s=>q _ H' s⟩⟩
def zn8:Sp:=λvs H Q _=>∃(u l pl:Addr) (ts:List Addr) (bs:List Box) (ns:List Int),vs=[.ref u,.ref l]∧BP H l pl ts bs ns∧H u=some (.tup [.ref pl,.int 1])∧∀(c:Bool) (H':Hp),zaF H H'→Q (.bl c) H'
def zhJ(K:ψa):TS :=
 (zbb (zc6 (zar ze4 [] E0 (zab (tOp (zbM K) (zac 0) (tC (.int 0))) (zab (zac 1) zak))) (zc6 (zar zdb [] E0 (zab (tOp (zbM K) (zac 0) (tC (.int 1))) zak)) (tOp (rI0 λi j=>.bl (decide (j≤i))) (tOp (zbM K) (zac 0) (tC (.int 1))) (tC (.int 1))))))
theorem zd4(K:ψa)(D:zbP)(σ:St)(H:Hp):zhJ K D σ H=(zbb (zc6 (zar ze4 [] E0 (zab (tOp (zbM K) (zac 0) (tC (.int 0))) (zab (zac 1) zak))) (zc6 (zar zdb [] E0 (zab (tOp (zbM K) (zac 0) (tC (.int 1))) zak)) (tOp (rI0 λi j=>.bl (decide (j≤i))) (tOp (zbM K) (zac 0) (tC (.int 1))) (tC (.int 1)))))) D σ H:=rfl
def zhI(K:ψa):TS :=
 (zca (tOr (zfw (tB (tCB (zij K) (zab (zac 0) (zab (tC (.ty "tuple")) zak))))) (zbE (tOp rNe (tCB (λxs H Q=>∃p ys,xs=[.ref p]∧(SqL K H p ys∨SqT K H p ys)∧Q (.int ys.length) H) (zab (zac 0) zak)) (tC (.int 2))))) (zbb (tC (.bl false))) zaV)
theorem zed(K:ψa)(D:zbP)(σ:St)(H:Hp):zhI K D σ H=(zca (tOr (zfw (tB (tCB (zij K) (zab (zac 0) (zab (tC (.ty "tuple")) zak))))) (zbE (tOp rNe (tCB (λxs H Q=>∃p ys,xs=[.ref p]∧(SqL K H p ys∨SqT K H p ys)∧Q (.int ys.length) H) (zab (zac 0) zak)) (tC (.int 2))))) (zbb (tC (.bl false))) zaV) D σ H:=rfl
def zhq(K:ψa):TS :=
 (zaK (zdq (zhI K))
 (zhJ K))
theorem zmk{u l pl:Addr}{ts:List Addr}{bs:List Box}{ns:List Int}(B:BP H l pl ts bs ns)(hu:H u=some (.tup [.ref pl,.int 1]))(q:∀(c:Bool) (H':Hp),zaF H H'→Q (.bl c) H') :
  zhq K { nx:=λ_ H'=>Q .non H',rt:=Q } (L2.start ["thing","boxes"] [.ref u,.ref l]) H:=by
 unfold zhq
 simp_all only [zd4,zed,zac]
 refine⟨λσ H'=>H'=H∧σ=[some (.ref u),some (.ref l)],?_,?_⟩
 ·simp_all only [zd4,zed,zac]
  refine zfo hu ⟨true,rfl,?_⟩
  refine zel (λz=>absurd z (by decide)) (λ_=>?_)
  refine⟨_,.inr (SqT.of hu),?_⟩
  exact zel (λz=>absurd rfl z) (λ_=>rfl)
 ·rintro σ H' ⟨e,rfl⟩
  rw[e]
  simp_all only [zd4,zed,zac]
  refine⟨_,SqT.of hu,_,rfl,zpR B λc H1 s1=>⟨c,rfl,?_⟩⟩
  cases c with
  | true =>
   have hu1:=s1 _ _ hu
   exact zru ⟨_,SqT.of hu1,_,rfl,.int 1,rfl,.int 1,true,rfl,zru ⟨_,SqT.of hu1,_,rfl,_,rfl,q _ _ s1⟩⟩
  | false=>exact zti (q _ _ s1)
theorem znu:zaA ["thing","boxes"] ["thing","boxes"] (zai zhs):=⟨rfl,rfl,rfl,by decide +kernel,rfl,by decide +kernel,by decide +kernel⟩
theorem zmK(T:Txt K mg a):zcC P w K mg base CX0 4 a.f_is_share a.d_is_share ["thing","boxes"] zn8:=by
 have G_is_plan:=zjX (P:=P) (w:=w) (base:=base) T
 have G_is_whole:=ze6 (P:=P) (w:=w) (base:=base) T
 refine T.F_is_share.ok znu (λvs H Q E h=>?_) (λcdv A outer s H vs Q E hr h=>?_)
 ·obtain⟨u,l,pl,ts,bs,ns,rfl,B,hu,q⟩:=h
  rfl
 obtain⟨u,l,pl,ts,bs,ns,rfl,B,hu,q⟩:=h
 exact⟨zhq K,(zaf (zbB (zbW (PW.pt (zhL (zcK (zbF (zat zbO rfl T.z_isinstance ψg (zaa (pv 0) (zaa (zea rfl T.z_tuple ze2 rfl) zad))))) (zfU (zbG zoF (zat zaN rfl T.z_len ψE (zaa (pv 0) zad)) zah (za9 _))))) (zam (zaD zeA)) zaQ))
 (zam (zaD (zec (zal G_is_plan (hr.mono (by decide)) rfl T.m_is_plan T.F_is_plan.kp T.b_is_plan .nil zaH (zaa (zaS zaI (pv 0) zah (λ_ _=>rfl)) (zaa (pv 1) zad))) (zec (zal G_is_whole (hr.mono (by decide)) rfl T.m_is_whole T.F_is_whole.kp T.b_is_whole .nil zaH (zaa (zaS zaI (pv 0) zah (λ_ _=>rfl)) zad)) (zgo (zcg zly (zaS zaI (pv 0) zah (λ_ _=>rfl)) zah (za9 _)))))))),
  zmk B hu q⟩
def zt4:Sp:=λvs H Q _=>∃(ml u l pl:Addr) (ts:List Addr) (bs:List Box) (ns:List Int),vs=[.ref ml,.ref l]∧BP H l pl ts bs ns∧H ml=some (.lst [.ref u])∧H u=some (.tup [.ref pl,.int 1])∧∀(c:Bool) (H':Hp),zaF H H'→Q (.bl c) H'
def zk7(K:ψa):TS :=
 (zbb (zc6 (tCB (zij K) (zab (zac 0) (zab (tC (.ty "list")) zak))) (zc6 (tOp (rI0 λi j=>.bl (decide (j≤i))) (tCB (λxs H Q=>∃p ys,xs=[.ref p]∧(SqL K H p ys∨SqT K H p ys)∧Q (.int ys.length) H) (zab (zac 0) zak)) (tC (.int 1))) (tCB (zrf K) (zab (zbA (zcX K (zac 0)) (zag 0) zaE (zar zn8 [] E0 (zab (zac 0) (zab (zac 1) zak))) [none,some 1]) zak)))))
theorem zqq{ml u l pl:Addr}{ts:List Addr}{bs:List Box}{ns:List Int}(B:BP H l pl ts bs ns)(hm:H ml=some (.lst [.ref u]))(hu:H u=some (.tup [.ref pl,.int 1]))(q:∀(c:Bool) (H':Hp),zaF H H'→Q (.bl c) H') :
  zk7 K { nx:=λ_ H'=>Q .non H',rt:=Q } (L2.start ["thing","boxes"] [.ref ml,.ref l]) H:=by
 unfold zk7
 simp_all only [zac]
 refine zfd hm ⟨true,rfl,zru ?_⟩
 refine⟨[.ref u],.inl (SqL.of hm),zel (λ_=>?_) (λz=>absurd (show(1:Int)≤1 from Int.le_refl _) z)⟩
 refine⟨⟨_,SqL.of hm⟩,λD hD=>?_⟩
 refine zdY (K:=K) (xs:=[.ref u]) (λi ys σ H'=>zaF H H'∧(∃cs:List Bool,ys=cs.map V.bl∧cs.length=i)∧∃x,σ=[x,some (.ref l)]) ⟨zaq hD _,⟨[],rfl,rfl⟩,_,rfl⟩ ?_ ?_ ?_
 ·rintro i ys σ H' _ ⟨s,_⟩
  exact SqL.of (s _ _ hm)
 ·rintro i x ys σ H' hx hD' ⟨s,⟨cs,rfl,lc⟩,x0,rfl⟩
  have i1:=(List.getElem?_eq_some_iff.mp hx).1
  match i,hx with
  | 0,hx =>
  cases hx
  simp_all only [zac]
  refine⟨u,l,pl,ts,bs,ns,rfl,B.same s,s _ _ hu,λc H2 s2=>?_⟩
  exact⟨_,s2 _ _ hD',zbC (by rw[ψb];omega),_,zaj,(s.trans s2).put hD,cs++[c],by rw[ψb1];rfl,by rw[ψs,lc];rfl⟩
 ·rintro ys σ H' hD' ⟨s,⟨cs,rfl,lc⟩,x0,rfl⟩
  simp_all only [zac]
  exact⟨_,SqL.of hD',q _ _ s⟩
theorem zqm:zaA ["thing","boxes"] ["thing","boxes"] (zai zif):=⟨rfl,rfl,rfl,by decide +kernel,rfl,by decide +kernel,by decide +kernel⟩
theorem zqy(T:Txt K mg a):zcC P w K mg base CX0 5 a.f_is_mix a.d_is_mix ["thing","boxes"] zt4:=by
 have G_is_share:=zmK (P:=P) (w:=w) (base:=base) T
 refine T.F_is_mix.ok zqm (λvs H Q E h=>?_) (λcdv A outer s H vs Q E hr h=>?_)
 ·obtain⟨ml,u,l,pl,ts,bs,ns,rfl,B,hm,hu,q⟩:=h
  rfl
 obtain⟨ml,u,l,pl,ts,bs,ns,rfl,B,hm,hu,q⟩:=h
 exact⟨zk7 K,(zam (zaD (zec (zat zbO rfl T.z_isinstance ψg (zaa (pv 0) (zaa (zea rfl T.z_list zcE rfl) zad))) (zec (zcg zly (zat zaN rfl T.z_len ψE (zaa (pv 0) zad)) zah (za9 _)) (zgo (zat (zf5 rfl) rfl T.z_all ψk1 (zaa (zbX (sc:=zai zif) (N:=["thing","boxes"]) (Nc:=["share","boxes"]) (cap:=[none,some 1]) rfl rfl rfl (.of (by decide +kernel)) (zbU (pv 0)) (λ_ _ _ _=>(zao (i:=0) (show ψk (["share","boxes"]:List Str) from by decide) rfl (Or.inl rfl))) (λ_ _ _ _=>za8) (λ_ _ _ _=>(zal G_is_share (hr.mono (by decide)) rfl T.m_is_share T.F_is_share.kp T.b_is_share .nil zaH (zaa (pv 0) (zaa (pv 1) zad))))) zad))))))),
  zqq B hm hu q⟩
theorem zvo{o:Int}(o1:1≤o){n:Nat}(hn:n≤60):(o ^ 60).fdiv (o ^ n)=o ^ (60 - n):=by
 have p:=zio o1 n
 have e:o ^ 60=o ^ (60 - n)*o ^ n:=by
  rw[← Int.pow_add]
  congr 1
  omega
 rw[e,ψX _ (ψx p)]
 exact Int.mul_ediv_cancel _ (by omega)
theorem zyt{b:Box}(g:GB b){n:Int}(n0:0≤n)(n1:n≤60)(w:Int):((w*(b.2.2 ^ n.toNat - (b.2.2 - b.2.1) ^ n.toNat)*(b.2.2 ^ 60).fdiv (b.2.2 ^ n.toNat):Int):Rat)=(w:Rat)*chq b n*((b.2.2 ^ 60:Int):Rat):=by
 have o:=zft g n
 have o1:1≤b.2.2:=by have:=g.2.2.1;have:=g.2.2.2.1;omega
 have hn:n.toNat≤60:=by omega
 rw[zvo o1 hn]
 have e:b.2.2 ^ 60=b.2.2 ^ (60 - n.toNat)*b.2.2 ^ n.toNat:=by
  rw[← Int.pow_add]
  congr 1
  omega
 rw[e]
 unfold chq
 rw[ψJ,ψK,ψK,ψK]
 have on:((b.2.2 ^ n.toNat:Int):Rat)≠0:=λz=>by
  have:(b.2.2 ^ n.toNat:Int)=0:=by exact_mod_cast z
  omega
 generalize ((b.2.2 ^ n.toNat:Int):Rat)=A at on ⊢
 generalize ((b.2.2 ^ n.toNat - (b.2.2 - b.2.1) ^ n.toNat:Int):Rat)=C
 grind
theorem zp2{a d S p w:Int}{C:Rat}(d0:0<d)(w0:0<w)(h:(p:Rat)=C*(w:Rat)):a*S*w≤p*d↔ψZ a d*(S:Rat)≤C:=by
 have dR:(0:Rat)<(d:Rat):=by exact_mod_cast d0
 have wR:(0:Rat)<(w:Rat):=by exact_mod_cast w0
 have dn:(d:Rat)≠0:=by grind
 have e:a*S*w≤p*d↔((a*S*w:Int):Rat)≤((p*d:Int):Rat):=by rw[Rat.intCast_le_intCast]
 rw[e,ψK,ψK,ψK,h,ψJ]
 constructor
 ·intro z
  have z2:(a:Rat) / (d:Rat)*(S:Rat)*((d:Rat)*(w:Rat))≤C*((d:Rat)*(w:Rat)):=by
   have e1:(a:Rat) / (d:Rat)*(S:Rat)*((d:Rat)*(w:Rat))=(a:Rat)*(S:Rat)*(w:Rat):=by
    generalize (d:Rat)=D at dn ⊢
    grind
   rw[e1]
   grind
  exact Rat.le_of_mul_le_mul_right z2 (Rat.mul_pos dR wR)
 ·intro z
  have z2:=ψL1 z (ψe1 (Rat.mul_pos dR wR))
  have e1:(a:Rat) / (d:Rat)*(S:Rat)*((d:Rat)*(w:Rat))=(a:Rat)*(S:Rat)*(w:Rat):=by
   generalize (d:Rat)=D at dn ⊢
   grind
  rw[e1] at z2
  grind
theorem znH{m:Nat}:∀l:List Int,(∀w∈l,Bd m w)→Bd (m+l.length) l.sum
 | [],_=>by show(0:Nat)<2 ^ _;exact Nat.pow_pos (by decide)
 | w::l,h=>by
  have ih:=znH l λx hx=>h x (ψf _ hx)
  have h1:=h w ψj
  rw[ψR,ψQ]
  exact((h1.mono (Nat.le_add_right m l.length)).add ih)
def wch(b:Box)(cs ws:List Int):List Rat:=ψr (λ(c w:Int)=>(w:Rat)*chq b c) cs ws
def zmy:Sp:=λvs H Q _=>∃(t c w v:Addr) (b:Box) (cs ws:List Int) (W:Rat),vs=[.ref t,.ref c,.ref w,.ref v]∧H t=some (.tup (bx b))∧GB b∧H c=some (.lst (cs.map V.int))∧H w=some (.lst (ws.map V.int))∧H v=some (.tup (fr W))∧ws.length=cs.length∧cs.length≤9∧(∀n∈cs,0≤n∧n≤60)∧(∀w∈ws,Bd 1900 w)∧Bq 2000 W∧∀(r:Bool) (H':Hp),zaF H H'→(r=true↔W*(ws.sum:Rat)≤(wch b cs ws).sum)→Q (.bl r) H'
def zfr(K:ψa):TS :=
 (zaK (za2 (zar zei [] E0 (zab (zac 0) (zab (zac 6) zak))) (zcW K 2 (zax (zag 8) (zax (zag 9) zcR))))
 (za2 (tOp (rI0 λi j=>.int (i+j)) (zac 5) (tOp (rI IntMulOk λi j=>.int (i*j)) (tOp (rI IntMulOk λi j=>.int (i*j)) (zac 7) (tOp (rI0 λi j=>.int (i - j)) (zac 9) (zac 8))) (tOp (rI (λ_ j=>j≠0∧j.natAbs.log2<9000) λi j=>.int (i.fdiv j)) (zac 4) (zac 9)))) (zag 5)))
theorem zbH(K:ψa)(D:zbP)(σ:St)(H:Hp):zfr K D σ H=(zaK (za2 (zar zei [] E0 (zab (zac 0) (zab (zac 6) zak))) (zcW K 2 (zax (zag 8) (zax (zag 9) zcR))))
 (za2 (tOp (rI0 λi j=>.int (i+j)) (zac 5) (tOp (rI IntMulOk λi j=>.int (i*j)) (tOp (rI IntMulOk λi j=>.int (i*j)) (zac 7) (tOp (rI0 λi j=>.int (i - j)) (zac 9) (zac 8))) (tOp (rI (λ_ j=>j≠0∧j.natAbs.log2<9000) λi j=>.int (i.fdiv j)) (zac 4) (zac 9)))) (zag 5))) D σ H:=rfl
def zfq(K:ψa):TS :=
 (zbb (tOp (rI0 λi j=>.bl (decide (j≤i))) (tOp (rI IntMulOk λi j=>.int (i*j)) (zac 5) (tOp (zbM K) (zac 3) (tC (.int 1)))) (tOp (rI IntMulOk λi j=>.int (i*j)) (tOp (rI IntMulOk λi j=>.int (i*j)) (tOp (zbM K) (zac 3) (tC (.int 0))) (tCB (zmg K) (zab (zac 2) zak))) (zac 4))))
theorem zbI(K:ψa)(D:zbP)(σ:St)(H:Hp):zfq K D σ H=(zbb (tOp (rI0 λi j=>.bl (decide (j≤i))) (tOp (rI IntMulOk λi j=>.int (i*j)) (zac 5) (tOp (zbM K) (zac 3) (tC (.int 1)))) (tOp (rI IntMulOk λi j=>.int (i*j)) (tOp (rI IntMulOk λi j=>.int (i*j)) (tOp (zbM K) (zac 3) (tC (.int 0))) (tCB (zmg K) (zab (zac 2) zak))) (zac 4)))) D σ H:=rfl
def zey(K:ψa):TS :=
 (zaK (za2 (zar zsV [] E0 (zab (tOp (zbM K) (zac 0) (tC (.int 2))) (zab (tC (.int 60)) zak))) (zag 4))
 (zaK (za2 (tC (.int 0)) (zag 5))
 (zaK (zjy (zhF K (zab (zac 1) (zab (zac 2) zak))) (zcW K 2 (zax (zag 6) (zax (zag 7) zcR)))
 (zfr K))
 (zfq K))))
theorem zje{t c w v:Addr}{b:Box}{cs ws:List Int}{W:Rat}(ht:H t=some (.tup (bx b)))(g:GB b)(hc:H c=some (.lst (cs.map V.int)))(hw:H w=some (.lst (ws.map V.int)))(hv:H v=some (.tup (fr W)))(len:ws.length=cs.length)(l9:cs.length≤9)(c0:∀n∈cs,0≤n∧n≤60)(bw:∀w∈ws,Bd 1900 w)(bV:Bq 2000 W)(q:∀(r:Bool) (H':Hp),zaF H H'→(r=true↔W*(ws.sum:Rat)≤(wch b cs ws).sum)→Q (.bl r) H') :
  zey K { nx:=λ_ H'=>Q .non H',rt:=Q } (L2.start ["box","counts","weights","worth","whole","parts","count","weight","top","bottom"] [.ref t,.ref c,.ref w,.ref v]) H:=by
 unfold zey
 simp_all only [zbH,zbI,zac]
 have g':=g
 obtain⟨g1,g2,g3,g4,g5⟩:=g
 refine⟨_,SqT.of ht,_,rfl,b.2.2,60,rfl,by decide,by decide,by omega,g5,?_⟩
 simp_all only [zbH,zbI,zac]
 have o60:0<b.2.2 ^ 60:=zio (by omega) 60
 have b60:Bd 400 (b.2.2 ^ 60):=zhB (by omega) g5 (by decide)
 have lw:(wch b cs ws).length=cs.length:=by rw[wch,ψn,len];omega
 refine⟨⟨_,SqL.of hc⟩,⟨_,SqL.of hw⟩,?_⟩
 refine zn9 (K:=K) (xs:=cs.map V.int) (ys:=ws.map V.int) (λi σ H'=>zaF H H'∧∃(p:Int) (y6 y7 y8 y9:Option V),(p:Rat)=((wch b cs ws).take i).sum*((b.2.2 ^ 60:Int):Rat)∧Bd (2702+i) p∧σ=[some (.ref t),some (.ref c),some (.ref w),some (.ref v),some (.int (b.2.2 ^ 60)),some (.int p),y6,y7,y8,y9]) ⟨.refl _,0,_,_,_,_,?_,?_,rfl⟩ ?_ ?_ ?_
 ·show(0:Rat)=0*_
  grind
 ·show(0:Nat)<2 ^ _
  exact Nat.pow_pos (by decide)
 ·rintro i σ H' _ ⟨s,_⟩
  exact⟨SqL.of (s _ _ hc),SqL.of (s _ _ hw)⟩
 ·rintro i x z u σ H1 hx hz ⟨s1,p,y6,y7,y8,y9,ep,bp,rfl⟩ hu
  obtain⟨n,en,rfl⟩:=zaC hx
  obtain⟨m,em,rfl⟩:=zaC hz
  obtain⟨n0,n1⟩:=c0 n (zaz en)
  have bm:=bw m (zaz em)
  have li:=(List.getElem?_eq_some_iff.mp en).1
  simp_all only [zbH,zbI,zac]
  have s2:=zaq hu (.tup [V.int n,V.int m])
  have h2:(L2.upd H1 u (.tup [V.int n,V.int m])) u=some (.tup [V.int n,V.int m]):=zaj
  generalize L2.upd H1 u (.tup [V.int n,V.int m])=H2 at s2 h2 ⊢
  refine⟨_,SqT.of h2,rfl,_,_,rfl,_,_,rfl,rfl,?_⟩
  refine⟨t,b,n,rfl,s2 _ _ (s1 _ _ ht),g',n0,n1,λr H3 s3 h3=>?_⟩
  simp_all only [zbH,zbI,zac]
  have o:=zft g' n
  have bo:=ziC g' n1
  have bt:Bd 400 ((b.2.2 - b.2.1) ^ n.toNat):=zhB (by omega) (by omega) (by omega)
  have qd:((b.2.2 ^ 60).fdiv (b.2.2 ^ n.toNat)).natAbs≤(b.2.2 ^ 60).natAbs:=by
   rw[ψX _ (ψx o)]
   have h1:=ψU1 (b.2.2 ^ n.toNat) (ψx o60)
   have h2:=Int.ediv_nonneg (b:=b.2.2 ^ n.toNat) (ψx o60) (ψx o)
   omega
  have bt2:=(bm.mul (bo.sub bt)).mul (b60.le qd)
  refine⟨_,SqT.of h3,rfl,_,_,rfl,_,_,rfl,rfl,_,rfl,_,rfl,zeM 1900 401 bm (bo.sub bt),_,rfl,by omega,zhG 400 (by omega) bo,zeM 2301 400 (bm.mul (bo.sub bt)) (b60.le qd),s1.trans (s2.trans s3),_,?_,?_,rfl⟩
  ·rw[ψM1,ep,zyt g' n0 n1 m,wch,zk0 _ _ _ en em,List.sum_append]
   show _=(_+((m:Rat)*chq b n+0))*_
   grind
  ·exact(bp.add (bt2.mono (by omega))).mono (by omega)
 ·rintro σ H1 ⟨s1,p,y6,y7,y8,y9,ep,bp,rfl⟩
  rw[ψb,ψb,len,Nat.min_self,← lw,ψO] at ep
  rw[ψb,ψb,len,Nat.min_self] at bp
  have bS:=znH ws bw
  have hv1:=SqT.of (K:=K) (s1 _ _ hv)
  simp_all only [zbH,zbI,zac]
  refine⟨_,hv1,_,rfl,_,rfl,zeM 2711 2000 (bp.mono (by omega)) bV.bot,_,hv1,_,rfl,ws,SqL.of (s1 _ _ hw),_,rfl,zeM 2000 1909 bV.top (bS.mono (by omega)),zeM 3909 400 ((bV.top.mul bS).mono (by omega)) b60,?_⟩
  refine q _ H1 s1 ?_
  rw[decide_eq_true_iff,zp2 (zet W) o60 ep,ψU]
theorem zbv:zaA ["box","counts","weights","worth","whole","parts","count","weight","top","bottom"] ["box","counts","weights","worth"] (zai zeG):=⟨rfl,rfl,rfl,by decide +kernel,rfl,by decide +kernel,by decide +kernel⟩
theorem ziQ(T:Txt K mg a):zcC P w K mg base CX0 3 a.f_finds_enough a.d_finds_enough ["box","counts","weights","worth"] zmy:=by
 have G_missed:=zeV (P:=P) (w:=w) (base:=base) T
 have G_power:=zn6 (P:=P) (w:=w) (base:=base) T
 refine T.F_finds_enough.ok zbv (λvs H Q E h=>?_) (λcdv A outer s H vs Q E hr h=>?_)
 ·obtain⟨t,c,w,v,b,cs,ws,W,rfl,ht,g,hc,hw,hv,len,l9,c0,bw,bV,q⟩:=h
  rfl
 obtain⟨t,c,w,v,b,cs,ws,W,rfl,ht,g,hc,hw,hv,len,l9,c0,bw,bV,q⟩:=h
 exact⟨zey K,(zaf (zaL (i:=4) zbv.nd rfl (Or.inl rfl) (zal G_power (hr.mono (by decide)) rfl T.m_power T.F_power.kp T.b_power .nil zaH (zaa (zaS zaI (pv 0) zah (λ_ _=>rfl)) (zaa (zbD rfl T.m_MOST_LOOKS ⟨_,rfl⟩) zad))))
 (zaf (zaL (i:=5) zbv.nd rfl (Or.inl rfl) zah)
 (zaf (zeq PassesOwn.never rfl (zdD rfl T.z_zip (zaa (pv 1) (zaa (pv 2) zad))) (zbw rfl (zap (zao (i:=6) zbv.nd rfl (Or.inl rfl)) (zap (zao (i:=7) zbv.nd rfl (Or.inl rfl)) zaW)))
 (zaf (zdJ (zal G_missed (hr.mono (by decide)) rfl T.m_missed T.F_missed.kp T.b_missed .nil zaH (zaa (pv 0) (zaa (pv 6) zad))) (zbw rfl (zap (zao (i:=8) zbv.nd rfl (Or.inl rfl)) (zap (zao (i:=9) zbv.nd rfl (Or.inl rfl)) zaW))))
 (zam (zaL (i:=5) zbv.nd rfl (Or.inl rfl) (zaB zcT (pv 5) (zaB zaG (zaB zaG (pv 7) (zaB zd7 (pv 9) (pv 8))) (zaB zdV (pv 4) (pv 9))))))))
 (zam (zaD (zcg zly (zaB zaG (pv 5) (zaS zaI (pv 3) zah (λ_ _=>rfl))) (zaB zaG (zaB zaG (zaS zaI (pv 3) zah (λ_ _=>rfl)) (zat (zeo rfl) rfl T.z_sum ψa1 (zaa (pv 2) zad))) (pv 4)) (za9 _))))))),
  zje ht g hc hw hv len l9 c0 bw bV q⟩
theorem zhc{α:Type}{g1 g2:α→V}{p D:Addr}{us:List Addr}{as:List α}{te:TE}{rest:St}{x0 y0:Option V}{vs:List V}(hp:H p=some (.lst (us.map V.ref)))(T:Tps (λa=>[g1 a,g2 a]) H us as)(lq:vs.length=as.length)(l6:vs.length≤1000)(hD:H D=none)
  (st:∀(i:Nat) (a:α) (v:V) (H':Hp) (R:VK),as[i]?=some a→vs[i]?=some v→zaF H H'→(∀H2:Hp,zaF H' H2→R v H2)→te (some (g1 a)::some (g2 a)::rest) H' R)
  (hd:∀H':Hp,zaF H H'→H' D=some (.lst vs)→Q (.ref D) H') :
  zfH (Itl K p) (zcW K 2 (zax (zag 0) (zax (zag 1) zcR))) zaE te D Q (x0::y0::rest) (upd H D (.lst [])):=by
 refine zdY (K:=K) (xs:=us.map V.ref) (λi ys σ H'=>zaF H H'∧ys=vs.take i∧∃x y,σ=x::y::rest) ⟨zaq hD _,rfl,_,_,rfl⟩ ?_ ?_ ?_
 ·rintro i ys σ H' _ ⟨s,_⟩
  exact SqL.of (s _ _ hp)
 ·rintro i x ys σ H' hx hD' ⟨s,rfl,u,v,rfl⟩
  obtain⟨t,ht,rfl⟩:=zaC hx
  obtain⟨a,ha1,ha2⟩:=T.at ht
  have i1:=(List.getElem?_eq_some_iff.mp ha1).1
  have hw:vs[i]?=some (vs[i]'(by omega)):=ψd (by omega)
  refine⟨t,_,rfl,SqT.of (s _ _ ha2),rfl,_,_,rfl,_,_,rfl,rfl,?_⟩
  refine st i a _ _ _ ha1 hw s λH2 s2=>?_
  refine⟨D,_,_,rfl,rfl,s2 _ _ hD',zbC (by rw[ψH];omega),_,zaj,(s.trans s2).put hD,?_,_,_,rfl⟩
  rw[ψw,hw]
  rfl
 ·rintro ys σ H' hD' ⟨s,rfl,u,v,rfl⟩
  rw[ψb,T.1,← lq,ψO] at hD'
  exact hd H' s hD'
def Lps(H:Hp)(us:List Addr)(cs:List (List Int)):Prop:=us.length=cs.length∧∀(i:Nat) u c,us[i]?=some u→cs[i]?=some c→H u=some (.lst (c.map V.int))
theorem zms{n:Nat}{D:Addr}{te:TE}{rest:St}{x0:Option V}{cs:List (List Int)}(lc:cs.length=n)(l6:n≤1000)(hD:H D=none)
  (st:∀(i:Nat) (c:List Int) (H':Hp) (R:VK),i<n→cs[i]?=some c→zaF H H'→(∀(r:Addr) (H2:Hp),zaF H' H2→H' r=none→H2 r=some (.lst (c.map V.int))→R (.ref r) H2)→te (some (.int (0+(i:Int)))::rest) H' R)
  (hd:∀(us:List Addr) (H':Hp),zaF H H'→H' D=some (.lst (us.map V.ref))→Lps H' us cs→Q (.ref D) H') :
  zfH (Itr 0 n) (zag 0) zaE te D Q (x0::rest) (upd H D (.lst [])):=by
 refine zjf (λi ys σ H'=>zaF H H'∧(∃us:List Addr,ys=us.map V.ref∧us.length=i∧(∀(j:Nat) u c,us[j]?=some u→cs[j]?=some c→H' u=some (.lst (c.map V.int))∧u≠D))∧∃x,σ=x::rest) ⟨zaq hD _,⟨[],rfl,rfl,λj u c e=>by cases e⟩,_,rfl⟩ ?_ ?_
 ·rintro i ys σ H' hi hD' ⟨s,⟨us,rfl,lu,hu⟩,x,rfl⟩
  have hc:cs[i]?=some (cs[i]'(by omega)):=ψd _
  refine st i _ H' _ hi hc s λr H2 s2 nr h2=>?_
  have rD:r≠D:=(zaM hD' nr).symm
  refine⟨D,_,_,rfl,rfl,s2 _ _ hD',zbC (by rw[ψb];omega),_,zaj,(s.trans s2).put hD,⟨us++[r],by rw[ψb1];rfl,by rw[ψs,lu];rfl,λj u c e1 e2=>?_⟩,_,rfl⟩
  by_cases cj:j<us.length
  ·rw[ψA1 cj] at e1
   obtain⟨a1,a2⟩:=hu j u c e1 e2
   exact⟨by rw[zaP a2];exact s2 _ _ a1,a2⟩
  ·rw[ψz1 (by omega)] at e1
   have z:j - us.length=0:=by
    have:=(List.getElem?_eq_some_iff.mp e1).1
    simp only[ψQ,List.length_nil] at this
    omega
   rw[z] at e1
   cases e1
   have ej:j=i:=by omega
   subst ej
   rw[hc] at e2
   cases e2
   exact⟨by rw[zaP rD];exact h2,rD⟩
 ·rintro ys σ H' hD' ⟨s,⟨us,rfl,lu,hu⟩,x,rfl⟩
  exact hd us H' s hD' ⟨by omega,λi u c e1 e2=>(hu i u c e1 e2).1⟩
def zni:Sp:=λvs H Q _=>∃(l v ml u pl:Addr) (bud:Int) (ts:List Addr) (bs:List Box) (ns:List Int) (W:Rat),vs=[.ref l,.int bud,.ref v,.ref ml]∧BP H l pl ts bs ns∧H v=some (.tup (fr W))∧Bq 2000 W∧H ml=some (.lst [.ref u])∧H u=some (.tup [.ref pl,.int 1])∧0≤bud∧bud≤60∧∀(r:Bool) (H':Hp),zaF H H'→Q (.bl r) H'
def zcG(K:ψa):TS :=
 (zaK (za2 (zbA (zg4 (zab (tCB (λxs H Q=>∃p ys,xs=[.ref p]∧(SqL K H p ys∨SqT K H p ys)∧Q (.int ys.length) H) (zab (zac 0) zak)) zak)) (zag 0) zaE (zbA (zcX K (zac 1)) (zcW K 2 (zax (zag 0) (zax (zag 1) zcR))) zaE (tOp (zhO K) (zac 0) (zac 2)) [none,none,some 0]) [none,some 3]) (zag 5))
 (zbb (tCB (zrf K) (zab (zbA (zhF K (zab (zac 0) (zab (zac 5) zak))) (zcW K 2 (zax (zag 0) (zax (zag 1) zcR))) zaE (zar zmy [] E0 (zab (zac 0) (zab (zac 1) (zab (zac 2) (zab (zac 3) zak))))) [none,none,some 4,some 2]) zak))))
theorem zav(K:ψa)(D:zbP)(σ:St)(H:Hp):zcG K D σ H=(zaK (za2 (zbA (zg4 (zab (tCB (λxs H Q=>∃p ys,xs=[.ref p]∧(SqL K H p ys∨SqT K H p ys)∧Q (.int ys.length) H) (zab (zac 0) zak)) zak)) (zag 0) zaE (zbA (zcX K (zac 1)) (zcW K 2 (zax (zag 0) (zax (zag 1) zcR))) zaE (tOp (zhO K) (zac 0) (zac 2)) [none,none,some 0]) [none,some 3]) (zag 5))
 (zbb (tCB (zrf K) (zab (zbA (zhF K (zab (zac 0) (zab (zac 5) zak))) (zcW K 2 (zax (zag 0) (zax (zag 1) zcR))) zaE (zar zmy [] E0 (zab (zac 0) (zab (zac 1) (zab (zac 2) (zab (zac 3) zak))))) [none,none,some 4,some 2]) zak)))) D σ H:=rfl
def zcJ(K:ψa):TS :=
 (zca (zbE (tOp (rI0 λi j=>.bl (decide (j<i))) (tCB (zmg K) (zab (zbA (zcX K (zac 3)) (zcW K 2 (zax (zag 0) (zax (zag 1) zcR))) zaE (tOp (rI IntMulOk λi j=>.int (i*j)) (zac 1) (zar zjb [] E0 (zab (zac 2) (zab (zac 0) zak)))) [none,none,some 0]) zak)) (tOp (rI IntMulOk λi j=>.int (i*j)) (zac 1) (tCB (zmg K) (zab (zac 4) zak))))) (zbb (tC (.bl false))) zaV)
theorem zaw(K:ψa)(D:zbP)(σ:St)(H:Hp):zcJ K D σ H=(zca (zbE (tOp (rI0 λi j=>.bl (decide (j<i))) (tCB (zmg K) (zab (zbA (zcX K (zac 3)) (zcW K 2 (zax (zag 0) (zax (zag 1) zcR))) zaE (tOp (rI IntMulOk λi j=>.int (i*j)) (zac 1) (zar zjb [] E0 (zab (zac 2) (zab (zac 0) zak)))) [none,none,some 0]) zak)) (tOp (rI IntMulOk λi j=>.int (i*j)) (zac 1) (tCB (zmg K) (zab (zac 4) zak))))) (zbb (tC (.bl false))) zaV) D σ H:=rfl
def zd0(K:ψa):TS :=
 (zaK (za2 (zbA (zcX K (zac 3)) (zcW K 2 (zax (zag 0) (zax (zag 1) zcR))) zaE (zac 1) [none,none]) (zag 4))
 (zaK (zdq (zcJ K))
 (zcG K)))
theorem zau(K:ψa)(D:zbP)(σ:St)(H:Hp):zd0 K D σ H=(zaK (za2 (zbA (zcX K (zac 3)) (zcW K 2 (zax (zag 0) (zax (zag 1) zcR))) zaE (zac 1) [none,none]) (zag 4))
 (zaK (zdq (zcJ K))
 (zcG K))) D σ H:=rfl
def zcZ(K:ψa):TS :=
 (zaK (zdq (zca (zfw (tB (zar zt4 [] E0 (zab (zac 3) (zab (zac 0) zak))))) (zbb (tC (.bl false))) zaV))
 (zd0 K))
theorem zgX{l v ml u pl:Addr}{bud:Int}{ts:List Addr}{bs:List Box}{ns:List Int}{W:Rat}(B:BP H l pl ts bs ns)(hv:H v=some (.tup (fr W)))(bW:Bq 2000 W)(hm:H ml=some (.lst [.ref u]))(hu:H u=some (.tup [.ref pl,.int 1]))(d0:0≤bud)(d1:bud≤60)(q:∀(r:Bool) (H':Hp),zaF H H'→Q (.bl r) H') :
  zcZ K { nx:=λ_ H'=>Q .non H',rt:=Q } (L2.start ["boxes","budget","worth","mix","weights","columns"] [.ref l,.int bud,.ref v,.ref ml]) H:=by
 unfold zcZ
 have l6:=B.l6
 have ln:=B.len
 simp_all only [zav,zaw,zau,zac]
 refine⟨λσ H'=>zaF H H'∧σ=[some (.ref l),some (.int bud),some (.ref v),some (.ref ml),none,none],?_,?_⟩
 ·simp_all only [zav,zaw,zau,zac]
  refine⟨ml,u,l,pl,ts,bs,ns,rfl,B,hm,hu,λc H1 s1=>⟨c,rfl,?_⟩⟩
  exact zel (λ_=>q _ _ s1) (λ_=>s1)
 ·rintro σ H1 ⟨s1,rfl⟩
  have tp:∀{H':Hp},zaF H H'→Tps (λ_:Unit=>[V.ref pl,V.int 1]) H' [u] [()]:=λs=>⟨rfl,λi x c e1 e2=>by
   match i,e1 with
   | 0,e1=>cases e1;exact s _ _ hu⟩
  have hm1:=s1 _ _ hm
  simp_all only [zav,zaw,zau,zac]
  refine⟨⟨_,SqL.of hm1⟩,λD hD=>?_⟩
  refine zhc (us:=[u]) (g1:=λ_=>V.ref pl) (g2:=λ_=>V.int 1) (vs:=[V.int 1]) hm1 (tp s1) rfl (by decide) hD (λi x v H' R hx hv s kk=>?_) λH2 s2 h2=>?_
  ·match i,hv with
   | 0,hv =>
   cases hv
   simp_all only [zav,zaw,zau,zac]
   exact kk _ (.refl _)
  have S2:=s1.trans s2
  refine⟨λσ H'=>zaF H2 H'∧σ=[some (.ref l),some (.int bud),some (.ref v),some (.ref ml),some (.ref D),none],?_,?_⟩
  ·simp_all only [zav,zaw,zau,zac]
   refine⟨⟨_,SqL.of (s2 _ _ hm1)⟩,λD2 hD2=>?_⟩
   refine zhc (us:=[u]) (g1:=λ_=>V.ref pl) (g2:=λ_=>V.int 1) (vs:=[V.int (1*(zaY bs ns).sum)]) (s2 _ _ hm1) (tp S2) rfl (show 1≤1000 by decide) hD2 (λi x v H' R hx hv s kk=>?_) λH3 s3 h3=>?_
   ·match i,hv with
    | 0,hv =>
    cases hv
    obtain⟨z1,z2⟩:=zik bs ns B.gb B.gn
    simp_all only [zav,zaw,zau,zac]
    refine⟨l,pl,ts,bs,ns,rfl,(B.same S2).same s,λH4 s4=>?_⟩
    simp_all only [zav,zaw,zau,zac]
    exact⟨zrw (by omega) (by omega),kk _ s4⟩
   simp_all only [zav,zaw,zau,zac]
   refine⟨[1*(zaY bs ns).sum],SqL.of h3,[1],SqL.of (s3 _ _ h2),mulL (by omega) (by omega),?_⟩
   exact zel (λ_=>q _ _ (S2.trans s3)) (λ_=>s3)
  ·rintro σ H3 ⟨s3,rfl⟩
   have S3:=S2.trans s3
   have B3:=B.same S3
   have hm3:=S3 _ _ hm
   simp_all only [zav,zaw,zau,zac]
   refine⟨_,.inl (SqL.of B3.hl),?_⟩
   rw[ψb,B.hb.1]
   refine⟨by omega,by omega,λD2 hD2=>?_⟩
   have en:(bs.length:Int).toNat=bs.length:=Int.toNat_natCast _
   rw[en]
   refine zms (cs:=(ψi1 bs.length).map λk=>[ns.getD k 0]) (by simp) (by omega) hD2 (λi c H4 R hi hc s4 kk=>?_) λvs H4 s4 h4 L4=>?_
   ·obtain⟨i',ei',rfl⟩:=zaC hc
    rw[List.getElem?_range hi] at ei'
    cases ei'
    simp_all only [zav,zaw,zau,zac]
    refine⟨⟨_,SqL.of (s4 _ _ hm3)⟩,λD3 hD3=>?_⟩
    refine zhc (us:=[u]) (g1:=λ_=>V.ref pl) (g2:=λ_=>V.int 1) (vs:=[V.int (ns.getD i 0)]) (s4 _ _ hm3) (tp (S3.trans s4)) rfl (show 1≤1000 by decide) hD3 (λj x w H5 R' hx hw s5 k5=>?_) λH5 s5 h5=>kk D3 H5 s5 hD3 h5
    match j,hw with
    | 0,hw =>
    cases hw
    have em:ns[i]?=some (ns[i]'(by omega)):=ψd _
    rw[ψA,em] at k5
    simp_all only [zav,zaw,zau,zac]
    refine⟨_,SqL.of (s5 _ _ (s4 _ _ B3.hp)),_,?_,k5 _ (.refl _)⟩
    rw[Int.zero_add]
    exact zg8 (by rw[ψD,em];rfl)
   ·simp_all only [zav,zaw,zau,zac]
    have B4:=B3.same s4
    have s24:=s3.trans s4
    have S4:=S3.trans s4
    have lc:vs.length=bs.length:=by rw[L4.1,ψb,List.length_range]
    refine⟨⟨_,SqL.of B4.hl⟩,⟨_,SqL.of h4⟩,λD3 hD3=>?_⟩
    refine ze5 (vs:=(bs.zipIdx.map λy=>decide (W*(([1]:List Int).sum:Rat)≤(wch y.1 [ns.getD y.2 0] [1]).sum)).map V.bl) B4.hl h4 (by simp[B.hb.1,lc]) (by simp;omega) hD3 (λi x z w H5 R hx hz hw s5 kk=>?_) λH5 s5 h5=>?_
    ·obtain⟨t,et,rfl⟩:=zaC hx
     obtain⟨c,ec,rfl⟩:=zaC hz
     obtain⟨r,er,rfl⟩:=zaC hw
     obtain⟨y,ey,rfl⟩:=zaC er
     obtain⟨b,eb,hb⟩:=B4.hb.at et
     have li:=(List.getElem?_eq_some_iff.mp eb).1
     rw[List.getElem?_zipIdx,eb] at ey
     simp only[Option.map_some,ψQ1,Option.some.injEq] at ey
     subst ey
     have ecol:((ψi1 bs.length).map λk=>[ns.getD k 0])[i]?=some [ns.getD i 0]:=by rw[ψD,List.getElem?_range li];rfl
     have hc:=L4.2 i c _ ec ecol
     simp_all only [zav,zaw,zau,zac]
     refine⟨t,c,D,v,b,[ns.getD i 0],[1],W,rfl,s5 _ _ hb,B.gb b (zaz eb),s5 _ _ hc,s5 _ _ (s24 _ _ h2),s5 _ _ (S4 _ _ hv),rfl,(show 1≤9 by decide),λn hn=>?_,λw hw=>?_,bW,λr H6 s6 hr=>?_⟩
     ·rw[List.mem_singleton.mp hn]
      have em:ns[i]?=some (ns[i]'(by omega)):=ψd _
      rw[ψA,em]
      exact B.gn _ (zaz em)
     ·rw[List.mem_singleton.mp hw]
      show(1:Nat)<2 ^ 1900
      exact ψv1 (by decide)
     ·have e:r=decide (W*(([1]:List Int).sum:Rat)≤(wch b [ns.getD i 0] [1]).sum):=by
       rw[ψI1,decide_eq_true_iff]
       exact hr
      rw[e]
      exact kk _ s6
    ·exact⟨D3,rfl,_,SqL.of h5,q _ H5 (S4.trans s5)⟩
theorem zcS:zaA ["boxes","budget","worth","mix","weights","columns"] ["boxes","budget","worth","mix"] (zai za5):=⟨rfl,rfl,rfl,by decide +kernel,rfl,by decide +kernel,by decide +kernel⟩
theorem zgZ(T:Txt K mg a):zcC P w K mg base CX0 6 a.f_is_seeker_right a.d_is_seeker_right ["boxes","budget","worth","mix"] zni:=by
 have G_cost_sum:=zfp (P:=P) (w:=w) (base:=base) T
 have G_finds_enough:=ziQ (P:=P) (w:=w) (base:=base) T
 have G_is_mix:=zqy (P:=P) (w:=w) (base:=base) T
 refine T.F_is_seeker_right.ok zcS (λvs H Q E h=>?_) (λcdv A outer s H vs Q E hr h=>?_)
 ·obtain⟨l,v,ml,u,pl,bud,ts,bs,ns,W,rfl,B,hv,bW,hm,hu,d0,d1,q⟩:=h
  rfl
 obtain⟨l,v,ml,u,pl,bud,ts,bs,ns,W,rfl,B,hv,bW,hm,hu,d0,d1,q⟩:=h
 exact⟨zcZ K,(zaf (zbB (zbW (zcK (zbF (zal G_is_mix (hr.mono (by decide)) rfl T.m_is_mix T.F_is_mix.kp T.b_is_mix .nil zaH (zaa (pv 3) (zaa (pv 0) zad))))) (zam (zaD zeA)) zaQ))
 (zaf (zaL (i:=4) zcS.nd rfl (Or.inr rfl) (zbX (sc:=zai za5) (N:=["boxes","budget","worth","mix","weights","columns"]) (Nc:=["plan","weight"]) (cap:=[none,none]) rfl rfl rfl (.of (by decide +kernel)) (zbU (pv 3)) (λ_ _ _ _=>(zbw rfl (zap (zao (i:=0) (show ψk (["plan","weight"]:List Str) from by decide) rfl (Or.inl rfl)) (zap (zao (i:=1) (show ψk (["plan","weight"]:List Str) from by decide) rfl (Or.inl rfl)) zaW)))) (λ_ _ _ _=>za8) (λ_ _ _ _=>(pv 1))))
 (zaf (zbB (zbW (zbG zu9 (zat (zeo rfl) rfl T.z_sum ψa1 (zaa (zbX (sc:=zai za5) (N:=["boxes","budget","worth","mix","weights","columns"]) (Nc:=["plan","weight","boxes"]) (cap:=[none,none,some 0]) rfl rfl rfl (.of (by decide +kernel)) (zbU (pv 3)) (λ_ _ _ _=>(zbw rfl (zap (zao (i:=0) (show ψk (["plan","weight","boxes"]:List Str) from by decide) rfl (Or.inl rfl)) (zap (zao (i:=1) (show ψk (["plan","weight","boxes"]:List Str) from by decide) rfl (Or.inl rfl)) zaW)))) (λ_ _ _ _=>za8) (λ_ _ _ _=>(zaB zaG (pv 1) (zal G_cost_sum (hr.mono (by decide)) rfl T.m_cost_sum T.F_cost_sum.kp T.b_cost_sum .nil zaH (zaa (pv 2) (zaa (pv 0) zad)))))) zad)) (zaB zaG (pv 1) (zat (zeo rfl) rfl T.z_sum ψa1 (zaa (pv 4) zad))) (za9 _)) (zam (zaD zeA)) zaQ))
 (zaf (zmx (i:=5) zcS.nd rfl rfl (sc:=zai za5) (N:=["boxes","budget","worth","mix","weights","columns"]) (Nc:=["k","mix"]) (cap:=[none,some 3]) rfl rfl rfl (.of (by decide +kernel)) (zd1 rfl T.z_range (zaa (zat zaN rfl T.z_len ψE (zaa (pv 0) zad)) zad)) (λ_ _ _ _=>(zao (i:=0) (show ψk (["k","mix"]:List Str) from by decide) rfl (Or.inr rfl))) (λ_ _ _ _=>za8) (λ_ _ _ _=>(zbX (N:=["k","mix"]) (Nc:=["plan","weight","k"]) (cap:=[none,none,some 0]) rfl (zut.trans (congrArg (znZ _) (rfl:_=zai za5))) rfl (.of (by decide +kernel)) (zbU (pv 1)) (λ_ _ _ _=>(zbw rfl (zap (zao (i:=0) (show ψk (["plan","weight","k"]:List Str) from by decide) rfl (Or.inl rfl)) (zap (zao (i:=1) (show ψk (["plan","weight","k"]:List Str) from by decide) rfl (Or.inl rfl)) zaW)))) (λ_ _ _ _=>za8) (λ_ _ _ _=>(zaS zdv (pv 0) (pv 2) (λ_ _=>rfl))))))
 (zam (zaD (zat (zf5 rfl) rfl T.z_all ψk1 (zaa (zbX (sc:=zai za5) (N:=["boxes","budget","worth","mix","weights","columns"]) (Nc:=["box","counts","weights","worth"]) (cap:=[none,none,some 4,some 2]) rfl rfl rfl (.of (by decide +kernel)) (zdD rfl T.z_zip (zaa (pv 0) (zaa (pv 5) zad))) (λ_ _ _ _=>(zbw rfl (zap (zao (i:=0) (show ψk (["box","counts","weights","worth"]:List Str) from by decide) rfl (Or.inl rfl)) (zap (zao (i:=1) (show ψk (["box","counts","weights","worth"]:List Str) from by decide) rfl (Or.inl rfl)) zaW)))) (λ_ _ _ _=>za8) (λ_ _ _ _=>(zal G_finds_enough (hr.mono (by decide)) rfl T.m_finds_enough T.F_finds_enough.kp T.b_finds_enough .nil zaH (zaa (pv 0) (zaa (pv 1) (zaa (pv 2) (zaa (pv 3) zad))))))) zad)))))))),
  zgX B hv bW hm hu d0 d1 q⟩
def zqD:Sp:=λvs H Q _=>∃(p:Addr) (P:Rat),vs=[.ref p]∧H p=some (.tup (fr P))∧Q (.bl true) H
theorem zyR(P:Rat):ψV P.num (P.den:Int)=1:=P.reduced
def zfy(K:ψa):TS :=
 (zbb (zc6 (tOp (rI0 λi j=>.bl (decide (j≤i))) (tOp (zbM K) (zac 0) (tC (.int 1))) (tC (.int 1))) (tOp rEq (zar zlG [] E0 (zab (tOp (zbM K) (zac 0) (tC (.int 0))) (zab (tOp (zbM K) (zac 0) (tC (.int 1))) zak))) (tC (.int 1)))))
theorem zcb(K:ψa)(D:zbP)(σ:St)(H:Hp):zfy K D σ H=(zbb (zc6 (tOp (rI0 λi j=>.bl (decide (j≤i))) (tOp (zbM K) (zac 0) (tC (.int 1))) (tC (.int 1))) (tOp rEq (zar zlG [] E0 (zab (tOp (zbM K) (zac 0) (tC (.int 0))) (zab (tOp (zbM K) (zac 0) (tC (.int 1))) zak))) (tC (.int 1))))) D σ H:=rfl
def zfK(K:ψa):TS :=
 (zca (tOr (zfw (tB (zar zdb [] E0 (zab (tOp (zbM K) (zac 0) (tC (.int 0))) zak)))) (zfw (tB (zar zdb [] E0 (zab (tOp (zbM K) (zac 0) (tC (.int 1))) zak))))) (zbb (tC (.bl false))) zaV)
theorem zcc(K:ψa)(D:zbP)(σ:St)(H:Hp):zfK K D σ H=(zca (tOr (zfw (tB (zar zdb [] E0 (zab (tOp (zbM K) (zac 0) (tC (.int 0))) zak)))) (zfw (tB (zar zdb [] E0 (zab (tOp (zbM K) (zac 0) (tC (.int 1))) zak))))) (zbb (tC (.bl false))) zaV) D σ H:=rfl
def zfC(K:ψa):TS :=
 (zca (tOr (zfw (tB (tCB (zij K) (zab (zac 0) (zab (tC (.ty "tuple")) zak))))) (zbE (tOp rNe (tCB (λxs H Q=>∃p ys,xs=[.ref p]∧(SqL K H p ys∨SqT K H p ys)∧Q (.int ys.length) H) (zab (zac 0) zak)) (tC (.int 2))))) (zbb (tC (.bl false))) zaV)
theorem zcd(K:ψa)(D:zbP)(σ:St)(H:Hp):zfC K D σ H=(zca (tOr (zfw (tB (tCB (zij K) (zab (zac 0) (zab (tC (.ty "tuple")) zak))))) (zbE (tOp rNe (tCB (λxs H Q=>∃p ys,xs=[.ref p]∧(SqL K H p ys∨SqT K H p ys)∧Q (.int ys.length) H) (zab (zac 0) zak)) (tC (.int 2))))) (zbb (tC (.bl false))) zaV) D σ H:=rfl
def zfl(K:ψa):TS :=
 (zaK (zdq (zfC K))
 (zaK (zdq (zfK K))
 (zfy K)))
theorem zjk{p:Addr}{P:Rat}(hp:H p=some (.tup (fr P)))(q:Q (.bl true) H) :
  zfl K { nx:=λ_ H'=>Q .non H',rt:=Q } (L2.start ["thing"] [.ref p]) H:=by
 unfold zfl
 have d:=zet P
 have hP:=SqT.of (K:=K) hp
 simp_all only [zcb,zcc,zcd,zac]
 refine⟨λσ H'=>H'=H∧σ=[some (.ref p)],?_,?_⟩
 ·simp_all only [zcb,zcc,zcd,zac]
  refine zfo hp ⟨true,rfl,?_⟩
  refine zel (λz=>absurd z (by decide)) (λ_=>?_)
  refine⟨_,.inr hP,?_⟩
  exact zel (λz=>absurd rfl z) (λ_=>rfl)
 ·rintro σ H' ⟨e,rfl⟩
  rw[e]
  refine⟨λσ H'=>H'=H∧σ=[some (.ref p)],?_,?_⟩
  ·simp_all only [zcb,zcc,zcd,zac]
   refine⟨_,hP,_,rfl,.int P.num,rfl,.int _,true,rfl,?_⟩
   refine zel (λz=>absurd z (by decide)) (λ_=>?_)
   refine⟨_,hP,_,rfl,.int (P.den:Int),rfl,.int _,true,rfl,?_⟩
   exact zel (λz=>absurd z (by decide)) (λ_=>rfl)
  ·rintro σ H' ⟨e,rfl⟩
   rw[e]
   simp_all only [zcb,zcc,zcd,zac]
   refine⟨_,hP,_,rfl,_,rfl,?_⟩
   refine zel (λ_=>?_) (λz=>absurd (show(1:Int)≤(P.den:Int) by omega) z)
   refine⟨_,hP,_,rfl,_,hP,_,rfl,P.num,(P.den:Int),rfl,?_⟩
   rw[zyR]
   exact⟨rfl,q⟩
theorem zjD:zaA ["thing"] ["thing"] (zai zfk):=⟨rfl,rfl,rfl,by decide +kernel,rfl,by decide +kernel,by decide +kernel⟩
theorem zjC(T:Txt K mg a):zcC P w K mg base CX0 2 a.f_is_fraction a.d_is_fraction ["thing"] zqD:=by
 have G_divisor:=zgf (P:=P) (w:=w) (base:=base) T
 have G_is_whole:=ze6 (P:=P) (w:=w) (base:=base) T
 refine T.F_is_fraction.ok zjD (λvs H Q E h=>?_) (λcdv A outer s H vs Q E hr h=>?_)
 ·obtain⟨p,P,rfl,hp,q⟩:=h
  rfl
 obtain⟨p,P,rfl,hp,q⟩:=h
 exact⟨zfl K,(zaf (zbB (zbW (PW.pt (zhL (zcK (zbF (zat zbO rfl T.z_isinstance ψg (zaa (pv 0) (zaa (zea rfl T.z_tuple ze2 rfl) zad))))) (zfU (zbG zoF (zat zaN rfl T.z_len ψE (zaa (pv 0) zad)) zah (za9 _))))) (zam (zaD zeA)) zaQ))
 (zaf (zbB (zbW (PW.pt (zhL (zcK (zbF (zal G_is_whole (hr.mono (by decide)) rfl T.m_is_whole T.F_is_whole.kp T.b_is_whole .nil zaH (zaa (zaS zaI (pv 0) zah (λ_ _=>rfl)) zad)))) (zfU (zcK (zbF (zal G_is_whole (hr.mono (by decide)) rfl T.m_is_whole T.F_is_whole.kp T.b_is_whole .nil zaH (zaa (zaS zaI (pv 0) zah (λ_ _=>rfl)) zad))))))) (zam (zaD zeA)) zaQ))
 (zam (zaD (zec (zcg zly (zaS zaI (pv 0) zah (λ_ _=>rfl)) zah (za9 _)) (zgo (zcg zm5 (zal G_divisor (hr.mono (by decide)) rfl T.m_divisor T.F_divisor.kp T.b_divisor .nil zaH (zaa (zaS zaI (pv 0) zah (λ_ _=>rfl)) (zaa (zaS zaI (pv 0) zah (λ_ _=>rfl)) zad))) zah (za9 _)))))))),
  zjk hp q⟩
structure PpH (H:Hp) (pr:Addr) (n:Nat) (Ws:List Int) (P:Rat) (ns:List Int):Prop where
 ex:∃wl pp cl:Addr,H pr=some (.tup [.ref wl,.ref pp,.ref cl])∧H wl=some (.lst (Ws.map V.int))∧H pp=some (.tup (fr P))∧H cl=some (.lst (ns.map V.int))
 lw:Ws.length=n
 ln:ns.length=n
 w0:∀w∈Ws,0≤w
 wb:∀w∈Ws,Bd 2800 w
 n0:∀m∈ns,0≤m∧m≤60
 p0:0≤P
 pb:Bq 2800 P
theorem PpH.same{H H':Hp}{pr:Addr}{n:Nat}{Ws:List Int}{P:Rat}{ns:List Int}(h:PpH H pr n Ws P ns)(s:zaF H H'):PpH H' pr n Ws P ns:=by
 obtain⟨wl,pp,cl,a1,a2,a3,a4⟩:=h.ex
 exact⟨⟨wl,pp,cl,s _ _ a1,s _ _ a2,s _ _ a3,s _ _ a4⟩,h.lw,h.ln,h.w0,h.wb,h.n0,h.p0,h.pb⟩
def zmc:Sp:=λvs H Q _=>∃(pr l:Addr) (ts:List Addr) (bs:List Box) (Ws ns:List Int) (P:Rat),vs=[.ref pr,.ref l]∧GdB H l ts bs∧PpH H pr bs.length Ws P ns∧∀(c:Bool) (H':Hp),zaF H H'→Q (.bl c) H'
theorem GdB.bp{H:Hp}{l pl:Addr}{ts:List Addr}{bs:List Box}{ns:List Int}(h:GdB H l ts bs)(hp:H pl=some (.lst (ns.map V.int)))(len:ns.length=bs.length)(gn:∀n∈ns,0≤n∧n≤60):BP H l pl ts bs ns:=⟨h.hl,h.hb,hp,len,h.gb,gn,h.l1,h.l6⟩
def zep(K:ψa):TS :=
 (zaK (za2 (zac 0) (zcW K 3 (zax (zag 2) (zax (zag 3) (zax (zag 4) zcR)))))
 (zbb (zc6 (zar zm0 [] E0 (zab (zac 2) (zab (tCB (λxs H Q=>∃p ys,xs=[.ref p]∧(SqL K H p ys∨SqT K H p ys)∧Q (.int ys.length) H) (zab (zac 1) zak)) zak))) (zc6 (zar zqD [] E0 (zab (zac 3) zak)) (zc6 (tOp (rI0 λi j=>.bl (decide (j≤i))) (tOp (zbM K) (zac 3) (tC (.int 0))) (tC (.int 0))) (zar ze4 [] E0 (zab (zac 4) (zab (zac 1) zak))))))))
theorem zce(K:ψa)(D:zbP)(σ:St)(H:Hp):zep K D σ H=(zaK (za2 (zac 0) (zcW K 3 (zax (zag 2) (zax (zag 3) (zax (zag 4) zcR)))))
 (zbb (zc6 (zar zm0 [] E0 (zab (zac 2) (zab (tCB (λxs H Q=>∃p ys,xs=[.ref p]∧(SqL K H p ys∨SqT K H p ys)∧Q (.int ys.length) H) (zab (zac 1) zak)) zak))) (zc6 (zar zqD [] E0 (zab (zac 3) zak)) (zc6 (tOp (rI0 λi j=>.bl (decide (j≤i))) (tOp (zbM K) (zac 3) (tC (.int 0))) (tC (.int 0))) (zar ze4 [] E0 (zab (zac 4) (zab (zac 1) zak)))))))) D σ H:=rfl
def zem(K:ψa):TS :=
 (zca (tOr (zfw (tB (tCB (zij K) (zab (zac 0) (zab (tC (.ty "tuple")) zak))))) (zbE (tOp rNe (tCB (λxs H Q=>∃p ys,xs=[.ref p]∧(SqL K H p ys∨SqT K H p ys)∧Q (.int ys.length) H) (zab (zac 0) zak)) (tC (.int 3))))) (zbb (tC (.bl false))) zaV)
theorem zcf(K:ψa)(D:zbP)(σ:St)(H:Hp):zem K D σ H=(zca (tOr (zfw (tB (tCB (zij K) (zab (zac 0) (zab (tC (.ty "tuple")) zak))))) (zbE (tOp rNe (tCB (λxs H Q=>∃p ys,xs=[.ref p]∧(SqL K H p ys∨SqT K H p ys)∧Q (.int ys.length) H) (zab (zac 0) zak)) (tC (.int 3))))) (zbb (tC (.bl false))) zaV) D σ H:=rfl
def zdt(K:ψa):TS :=
 (zaK (zdq (zem K))
 (zep K))
theorem zhy{pr l:Addr}{ts:List Addr}{bs:List Box}{Ws ns:List Int}{P:Rat}(B:GdB H l ts bs)(A:PpH H pr bs.length Ws P ns)(q:∀(c:Bool) (H':Hp),zaF H H'→Q (.bl c) H') :
  zdt K { nx:=λ_ H'=>Q .non H',rt:=Q } (L2.start ["thing","boxes","weights","price","counts"] [.ref pr,.ref l]) H:=by
 unfold zdt
 obtain⟨wl,pp,cl,a1,a2,a3,a4⟩:=A.ex
 have l6:=B.l6
 have lw:=A.lw
 simp_all only [zce,zcf,zac]
 refine⟨λσ H'=>H'=H∧σ=[some (.ref pr),some (.ref l),none,none,none],?_,?_⟩
 ·simp_all only [zce,zcf,zac]
  refine zfo a1 ⟨true,rfl,?_⟩
  refine zel (λz=>absurd z (by decide)) (λ_=>?_)
  refine⟨_,.inr (SqT.of a1),?_⟩
  exact zel (λz=>absurd rfl z) (λ_=>rfl)
 ·rintro σ H' ⟨e,rfl⟩
  rw[e]
  simp_all only [zce,zcf,zac]
  refine⟨_,SqT.of a1,rfl,_,_,rfl,_,_,rfl,_,_,rfl,rfl,?_⟩
  refine⟨_,.inl (SqL.of B.hl),?_⟩
  refine⟨.ref wl,_,rfl,.inr ⟨wl,_,rfl,a2,by rw[ψb];omega,zp7,λH1 s1=>⟨_,rfl,zel (λ_=>?_) (λ_=>q _ _ s1)⟩⟩⟩
  have h3:=s1 _ _ a3
  refine⟨pp,P,rfl,h3,true,rfl,zru ⟨pp,rfl,_,SqT.of h3,_,rfl,_,rfl,zel (λ_=>?_) (λ_=>q _ _ s1)⟩⟩
  exact zpR ((B.same s1).bp (s1 _ _ a4) A.ln A.n0) λc H2 s2=>q _ _ (s1.trans s2)
theorem zcr:zaA ["thing","boxes","weights","price","counts"] ["thing","boxes"] (zai zdu):=⟨rfl,rfl,rfl,by decide +kernel,rfl,by decide +kernel,by decide +kernel⟩
theorem zhh(T:Txt K mg a):zcC P w K mg base CX0 4 a.f_is_hider_paper a.d_is_hider_paper ["thing","boxes"] zmc:=by
 have G_are_weights:=zju (P:=P) (w:=w) (base:=base) T
 have G_is_fraction:=zjC (P:=P) (w:=w) (base:=base) T
 have G_is_plan:=zjX (P:=P) (w:=w) (base:=base) T
 refine T.F_is_hider_paper.ok zcr (λvs H Q E h=>?_) (λcdv A outer s H vs Q E hr h=>?_)
 ·obtain⟨pr,l,ts,bs,Ws,ns,P',rfl,B,A,q⟩:=h
  rfl
 obtain⟨pr,l,ts,bs,Ws,ns,P',rfl,B,A,q⟩:=h
 exact⟨zdt K,(zaf (zbB (zbW (PW.pt (zhL (zcK (zbF (zat zbO rfl T.z_isinstance ψg (zaa (pv 0) (zaa (zea rfl T.z_tuple ze2 rfl) zad))))) (zfU (zbG zoF (zat zaN rfl T.z_len ψE (zaa (pv 0) zad)) zah (za9 _))))) (zam (zaD zeA)) zaQ))
 (zaf (zdJ (pv 0) (zbw rfl (zap (zao (i:=2) zcr.nd rfl (Or.inl rfl)) (zap (zao (i:=3) zcr.nd rfl (Or.inl rfl)) (zap (zao (i:=4) zcr.nd rfl (Or.inl rfl)) zaW)))))
 (zam (zaD (zec (zal G_are_weights (hr.mono (by decide)) rfl T.m_are_weights T.F_are_weights.kp T.b_are_weights .nil zaH (zaa (pv 2) (zaa (zat zaN rfl T.z_len ψE (zaa (pv 1) zad)) zad))) (zec (zal G_is_fraction (hr.mono (by decide)) rfl T.m_is_fraction T.F_is_fraction.kp T.b_is_fraction .nil zaH (zaa (pv 3) zad)) (zec (zcg zly (zaS zaI (pv 3) zah (λ_ _=>rfl)) zah (za9 _)) (zgo (zal G_is_plan (hr.mono (by decide)) rfl T.m_is_plan T.F_is_plan.kp T.b_is_plan .nil zaH (zaa (pv 4) (zaa (pv 1) zad))))))))))),
  zhy B A q⟩
def zkJ(H:Hp)(t p:Addr)(b:Box)(w n:Int)(P:Rat):Prop:=H t=some (.tup (bx b))∧GB b∧H p=some (.tup (fr P))∧Bd 2800 w∧Bq 2800 P∧0≤n∧n≤60
def zq4:Sp:=λvs H Q _=>∃(t p:Addr) (b:Box) (w n:Int) (P:Rat),vs=[.ref t,.int w,.ref p,.int n]∧zkJ H t p b w n P∧∀(r:Bool) (H':Hp),zaF H H'→Q (.bl r) H'
def zcH(K:ψa):TS :=
 (zaK (za2 (zar zei [] E0 (zab (zac 0) (zab (zac 3) zak))) (zcW K 2 (zax (zag 4) (zax (zag 5) zcR))))
 (zbb (tOp (rI0 λi j=>.bl (decide (i≤j))) (tOp (rI IntMulOk λi j=>.int (i*j)) (tOp (rI IntMulOk λi j=>.int (i*j)) (tOp (rI IntMulOk λi j=>.int (i*j)) (zac 1) (tOp (zbM K) (zac 0) (tC (.int 1)))) (zac 4)) (tOp (zbM K) (zac 2) (tC (.int 1)))) (tOp (rI IntMulOk λi j=>.int (i*j)) (tOp (rI IntMulOk λi j=>.int (i*j)) (tOp (rI IntMulOk λi j=>.int (i*j)) (tOp (zbM K) (zac 2) (tC (.int 0))) (tOp (zbM K) (zac 0) (tC (.int 0)))) (tOp (zbM K) (zac 0) (tC (.int 2)))) (zac 5)))))
theorem zgm{t p:Addr}{b:Box}{w n:Int}{P:Rat}(A:zkJ H t p b w n P)(q:∀(r:Bool) (H':Hp),zaF H H'→Q (.bl r) H') :
  zcH K { nx:=λ_ H'=>Q .non H',rt:=Q } (L2.start ["box","weight","price","count","top","bottom"] [.ref t,.int w,.ref p,.int n]) H:=by
 unfold zcH
 obtain⟨ht,g,hp,bw,bP,n0,n1⟩:=A
 have bo:=ziC g n1
 have g':=g
 obtain⟨g1,g2,g3,g4,g5⟩:=g
 have bt:Bd 400 ((b.2.2 - b.2.1) ^ n.toNat):=zhB (by omega) (by omega) (by omega)
 have h6:Bd 6 b.2.1:=by show b.2.1.natAbs<2 ^ 6;omega
 have c6:Bd 6 b.1:=by show b.1.natAbs<2 ^ 6;omega
 have o6:Bd 6 b.2.2:=by show b.2.2.natAbs<2 ^ 6;omega
 simp_all only [zac]
 refine⟨t,b,n,rfl,ht,g',n0,n1,λr H1 s1 h1=>?_⟩
 simp_all only [zac]
 have ht1:=SqT.of (K:=K) (s1 _ _ ht)
 have hp1:=SqT.of (K:=K) (s1 _ _ hp)
 have m1:=bw.mul h6
 have m2:=m1.mul bt
 have m3:=bP.top.mul c6
 have m4:=m3.mul o6
 refine⟨_,SqT.of h1,rfl,_,_,rfl,_,_,rfl,rfl,?_⟩
 refine⟨_,ht1,_,rfl,_,rfl,zeM 2800 6 bw h6,_,rfl,zeM 2806 400 m1 bt,_,hp1,_,rfl,_,rfl,zeM 3206 2800 m2 bP.bot,_,hp1,_,rfl,_,ht1,_,rfl,_,rfl,_,rfl,zeM 2800 6 bP.top c6,_,ht1,_,rfl,_,rfl,zeM 2806 6 m3 o6,_,rfl,zeM 2812 400 m4 bo,?_⟩
 exact q _ H1 s1
theorem zcz:zaA ["box","weight","price","count","top","bottom"] ["box","weight","price","count"] (zai zcI):=⟨rfl,rfl,rfl,by decide +kernel,rfl,by decide +kernel,by decide +kernel⟩
theorem zgi(T:Txt K mg a):zcC P w K mg base CX0 3 a.f_is_next_look_dear a.d_is_next_look_dear ["box","weight","price","count"] zq4:=by
 have G_missed:=zeV (P:=P) (w:=w) (base:=base) T
 refine T.F_is_next_look_dear.ok zcz (λvs H Q E h=>?_) (λcdv A outer s H vs Q E hr h=>?_)
 ·obtain⟨t,p,b,w,n,P',rfl,A,q⟩:=h
  rfl
 obtain⟨t,p,b,w,n,P',rfl,A,q⟩:=h
 exact⟨zcH K,(zaf (zdJ (zal G_missed (hr.mono (by decide)) rfl T.m_missed T.F_missed.kp T.b_missed .nil zaH (zaa (pv 0) (zaa (pv 3) zad))) (zbw rfl (zap (zao (i:=4) zcz.nd rfl (Or.inl rfl)) (zap (zao (i:=5) zcz.nd rfl (Or.inl rfl)) zaW))))
 (zam (zaD (zcg zmU (zaB zaG (zaB zaG (zaB zaG (pv 1) (zaS zaI (pv 0) zah (λ_ _=>rfl))) (pv 4)) (zaS zaI (pv 2) zah (λ_ _=>rfl))) (zaB zaG (zaB zaG (zaB zaG (zaS zaI (pv 2) zah (λ_ _=>rfl)) (zaS zaI (pv 0) zah (λ_ _=>rfl))) (zaS zaI (pv 0) zah (λ_ _=>rfl))) (pv 5)) (za9 _))))),
  zgm A q⟩
def zmp:Sp:=λvs H Q _=>∃(t p:Addr) (b:Box) (w n:Int) (P:Rat),vs=[.ref t,.int w,.ref p,.int n]∧zkJ H t p b w n P∧0<n∧∀(r:Bool) (H':Hp),zaF H H'→Q (.bl r) H'
def zcB(K:ψa):TS :=
 (zaK (za2 (zar zei [] E0 (zab (zac 0) (zab (tOp (rI0 λi j=>.int (i - j)) (zac 3) (tC (.int 1))) zak))) (zcW K 2 (zax (zag 4) (zax (zag 5) zcR))))
 (zbb (tOp (rI0 λi j=>.bl (decide (j≤i))) (tOp (rI IntMulOk λi j=>.int (i*j)) (tOp (rI IntMulOk λi j=>.int (i*j)) (tOp (rI IntMulOk λi j=>.int (i*j)) (zac 1) (tOp (zbM K) (zac 0) (tC (.int 1)))) (zac 4)) (tOp (zbM K) (zac 2) (tC (.int 1)))) (tOp (rI IntMulOk λi j=>.int (i*j)) (tOp (rI IntMulOk λi j=>.int (i*j)) (tOp (rI IntMulOk λi j=>.int (i*j)) (tOp (zbM K) (zac 2) (tC (.int 0))) (tOp (zbM K) (zac 0) (tC (.int 0)))) (tOp (zbM K) (zac 0) (tC (.int 2)))) (zac 5)))))
theorem zf0{t p:Addr}{b:Box}{w n:Int}{P:Rat}(A:zkJ H t p b w n P)(np:0<n)(q:∀(r:Bool) (H':Hp),zaF H H'→Q (.bl r) H') :
  zcB K { nx:=λ_ H'=>Q .non H',rt:=Q } (L2.start ["box","weight","price","count","top","bottom"] [.ref t,.int w,.ref p,.int n]) H:=by
 unfold zcB
 obtain⟨ht,g,hp,bw,bP,n0,n1⟩:=A
 have bo:=ziC g (show n - 1≤60 by omega)
 have g':=g
 obtain⟨g1,g2,g3,g4,g5⟩:=g
 have bt:Bd 400 ((b.2.2 - b.2.1) ^ (n - 1).toNat):=zhB (by omega) (by omega) (by omega)
 have h6:Bd 6 b.2.1:=by show b.2.1.natAbs<2 ^ 6;omega
 have c6:Bd 6 b.1:=by show b.1.natAbs<2 ^ 6;omega
 have o6:Bd 6 b.2.2:=by show b.2.2.natAbs<2 ^ 6;omega
 simp_all only [zac]
 refine⟨t,b,n - 1,rfl,ht,g',by omega,by omega,λr H1 s1 h1=>?_⟩
 simp_all only [zac]
 have ht1:=SqT.of (K:=K) (s1 _ _ ht)
 have hp1:=SqT.of (K:=K) (s1 _ _ hp)
 have m1:=bw.mul h6
 have m2:=m1.mul bt
 have m3:=bP.top.mul c6
 have m4:=m3.mul o6
 refine⟨_,SqT.of h1,rfl,_,_,rfl,_,_,rfl,rfl,?_⟩
 refine⟨_,ht1,_,rfl,_,rfl,zeM 2800 6 bw h6,_,rfl,zeM 2806 400 m1 bt,_,hp1,_,rfl,_,rfl,zeM 3206 2800 m2 bP.bot,_,hp1,_,rfl,_,ht1,_,rfl,_,rfl,_,rfl,zeM 2800 6 bP.top c6,_,ht1,_,rfl,_,rfl,zeM 2806 6 m3 o6,_,rfl,zeM 2812 400 m4 bo,?_⟩
 exact q _ H1 s1
theorem zci:zaA ["box","weight","price","count","top","bottom"] ["box","weight","price","count"] (zai zcA):=⟨rfl,rfl,rfl,by decide +kernel,rfl,by decide +kernel,by decide +kernel⟩
theorem zfN(T:Txt K mg a):zcC P w K mg base CX0 3 a.f_is_last_look_worth a.d_is_last_look_worth ["box","weight","price","count"] zmp:=by
 have G_missed:=zeV (P:=P) (w:=w) (base:=base) T
 refine T.F_is_last_look_worth.ok zci (λvs H Q E h=>?_) (λcdv A outer s H vs Q E hr h=>?_)
 ·obtain⟨t,p,b,w,n,P',rfl,A,np,q⟩:=h
  rfl
 obtain⟨t,p,b,w,n,P',rfl,A,np,q⟩:=h
 exact⟨zcB K,(zaf (zdJ (zal G_missed (hr.mono (by decide)) rfl T.m_missed T.F_missed.kp T.b_missed .nil zaH (zaa (pv 0) (zaa (zaB zd7 (pv 3) zah) zad))) (zbw rfl (zap (zao (i:=4) zci.nd rfl (Or.inl rfl)) (zap (zao (i:=5) zci.nd rfl (Or.inl rfl)) zaW))))
 (zam (zaD (zcg zly (zaB zaG (zaB zaG (zaB zaG (pv 1) (zaS zaI (pv 0) zah (λ_ _=>rfl))) (pv 4)) (zaS zaI (pv 2) zah (λ_ _=>rfl))) (zaB zaG (zaB zaG (zaB zaG (zaS zaI (pv 2) zah (λ_ _=>rfl)) (zaS zaI (pv 0) zah (λ_ _=>rfl))) (zaS zaI (pv 0) zah (λ_ _=>rfl))) (pv 5)) (za9 _))))),
  zf0 A np q⟩
def zjg:Sp:=λvs H Q _=>∃(t p:Addr) (b:Box) (w n:Int) (P:Rat),vs=[.ref t,.int w,.ref p,.int n]∧zkJ H t p b w n P∧∀(r:Bool) (H':Hp),zaF H H'→Q (.bl r) H'
theorem zkJ.same{H H':Hp}{t p:Addr}{b:Box}{w n:Int}{P:Rat}(A:zkJ H t p b w n P)(s:zaF H H'):zkJ H' t p b w n P:=by
 obtain⟨a1,a2,a3,a4⟩:=A
 exact⟨s _ _ a1,a2,s _ _ a3,a4⟩
def zeY:TS :=
 (zca (tAnd (zbE (tOp (rI0 λi j=>.bl (decide (j<i))) (zac 3) (tC (.int 0)))) (zfw (tB (zar zmp [] E0 (zab (zac 0) (zab (zac 1) (zab (zac 2) (zab (zac 3) zak)))))))) (zbb (tC (.bl false))) zaV)
theorem zcx(D:zbP)(σ:St)(H:Hp):zeY D σ H=(zca (tAnd (zbE (tOp (rI0 λi j=>.bl (decide (j<i))) (zac 3) (tC (.int 0)))) (zfw (tB (zar zmp [] E0 (zab (zac 0) (zab (zac 1) (zab (zac 2) (zab (zac 3) zak)))))))) (zbb (tC (.bl false))) zaV) D σ H:=rfl
def zef:TS :=
 (zaK (zdq (zeY))
 (zbb (zar zq4 [] E0 (zab (zac 0) (zab (zac 1) (zab (zac 2) (zab (zac 3) zak)))))))
theorem zhY{t p:Addr}{b:Box}{w n:Int}{P:Rat}(A:zkJ H t p b w n P)(q:∀(r:Bool) (H':Hp),zaF H H'→Q (.bl r) H') :
  zef { nx:=λ_ H'=>Q .non H',rt:=Q } (L2.start ["box","weight","price","count"] [.ref t,.int w,.ref p,.int n]) H:=by
 unfold zef
 simp_all only [zcx,zac]
 refine⟨λσ H'=>zaF H H'∧σ=[some (.ref t),some (.int w),some (.ref p),some (.int n)],?_,?_⟩
 ·simp_all only [zcx,zac]
  by_cases c:0<n
  ·rw[if_pos c]
   exact⟨t,p,b,w,n,P,rfl,A,c,λr H1 s1=>⟨r,rfl,zel (λ_=>q _ _ s1) (λ_=>s1)⟩⟩
  ·rw[if_neg c]
   exact .refl _
 ·rintro σ H1 ⟨s1,rfl⟩
  simp_all only [zcx,zac]
  exact⟨t,p,b,w,n,P,rfl,A.same s1,λr H2 s2=>q r H2 (s1.trans s2)⟩
theorem zhV:zaA ["box","weight","price","count"] ["box","weight","price","count"] (zai zeb):=⟨rfl,rfl,rfl,by decide +kernel,rfl,by decide +kernel,by decide +kernel⟩
theorem zhP(T:Txt K mg a):zcC P w K mg base CX0 4 a.f_is_count_best a.d_is_count_best ["box","weight","price","count"] zjg:=by
 have G_is_last_look_worth:=zfN (P:=P) (w:=w) (base:=base) T
 have G_is_next_look_dear:=zgi (P:=P) (w:=w) (base:=base) T
 refine T.F_is_count_best.ok zhV (λvs H Q E h=>?_) (λcdv A outer s H vs Q E hr h=>?_)
 ·obtain⟨t,p,b,w,n,P',rfl,A,q⟩:=h
  rfl
 obtain⟨t,p,b,w,n,P',rfl,A,q⟩:=h
 exact⟨zef,(zaf (zbB (zbW (PW.pt (zwZ (zbG zu9 (pv 3) zah (za9 _)) (zu7 (zcK (zbF (zal G_is_last_look_worth (hr.mono (by decide)) rfl T.m_is_last_look_worth T.F_is_last_look_worth.kp T.b_is_last_look_worth .nil zaH (zaa (pv 0) (zaa (pv 1) (zaa (pv 2) (zaa (pv 3) zad)))))))))) (zam (zaD zeA)) zaQ))
 (zam (zaD (zal G_is_next_look_dear (hr.mono (by decide)) rfl T.m_is_next_look_dear T.F_is_next_look_dear.kp T.b_is_next_look_dear .nil zaH (zaa (pv 0) (zaa (pv 1) (zaa (pv 2) (zaa (pv 3) zad)))))))),
  zhY A q⟩
def mss(b:Box)(n:Int):List V:=[.int ((b.2.2 - b.2.1) ^ n.toNat),.int (b.2.2 ^ n.toNat)]
def mssP(x:Box×Int):List V:=mss x.1 x.2
def zsz:List (Box×Int)→Int
 | []=>1
 | x::xs=>x.1.2.2 ^ x.2.toNat*zsz xs
theorem zoh:∀(xs:List (Box×Int)) (x:Box×Int),zsz (xs++[x])=zsz xs*x.1.2.2 ^ x.2.toNat
 | [],x=>by
  show x.1.2.2 ^ x.2.toNat*1=1*x.1.2.2 ^ x.2.toNat
  rw[Int.mul_one,Int.one_mul]
 | y::ys,x=>by
  show y.1.2.2 ^ y.2.toNat*zsz (ys++[x])=y.1.2.2 ^ y.2.toNat*zsz ys*x.1.2.2 ^ x.2.toNat
  rw[zoh ys x,Int.mul_assoc]
theorem zn4:∀xs:List (Box×Int),(∀x∈xs,GB x.1)→0<zsz xs
 | [],_=>by decide
 | x::xs,h=>ψW1 (zft (h x ψj) x.2) (zn4 xs λy hy=>h y (ψf _ hy))
theorem znx:∀xs:List (Box×Int),(∀x∈xs,GB x.1∧x.2≤60)→Bd (400*xs.length+1) (zsz xs)
 | [],_=>by show(1:Nat)<2 ^ 1;decide
 | x::xs,h=>by
  have ih:=znx xs λy hy=>h y (ψf _ hy)
  obtain⟨g,n⟩:=h x ψj
  exact((ziC g n).mul ih).mono (by rw[ψQ];omega)
def zkW:Sp:=λvs H Q _=>∃(l v pr:Addr) (bud:Int) (ts:List Addr) (bs:List Box) (W P:Rat) (Ws ns:List Int),vs=[.ref l,.int bud,.ref v,.ref pr]∧GdB H l ts bs∧H v=some (.tup (fr W))∧Bq 2000 W∧PpH H pr bs.length Ws P ns∧0≤bud∧bud≤60∧∀(r:Bool) (H':Hp),zaF H H'→Q (.bl r) H'
def zgv(K:ψa):TS :=
 (zaK (za2 (tCB (zmg K) (zab (zbA (zhF K (zab (zac 4) (zab (zac 7) zak))) (zcW K 2 (zax (zag 0) (zax (zag 1) zcR))) zaE (tOp (rI IntMulOk λi j=>.int (i*j)) (tOp (rI IntMulOk λi j=>.int (i*j)) (zac 0) (tOp (rI0 λi j=>.int (i - j)) (tOp (zbM K) (zac 1) (tC (.int 1))) (tOp (zbM K) (zac 1) (tC (.int 0))))) (tOp (rI (λ_ j=>j≠0∧j.natAbs.log2<9000) λi j=>.int (i.fdiv j)) (zac 2) (tOp (zbM K) (zac 1) (tC (.int 1))))) [none,none,some 8]) zak)) (zag 11))
 (zaK (za2 (tOp (rI IntMulOk λi j=>.int (i*j)) (tOp (rI IntMulOk λi j=>.int (i*j)) (tOp (zbM K) (zac 5) (tC (.int 0))) (tOp (rI0 λi j=>.int (i - j)) (zac 1) (zar zjb [] E0 (zab (zac 0) (zab (zac 6) zak))))) (zac 8)) (zag 12))
 (zbb (tOp (rI0 λi j=>.bl (decide (i≤j))) (tOp (rI IntMulOk λi j=>.int (i*j)) (tOp (rI0 λi j=>.int (i+j)) (tOp (rI IntMulOk λi j=>.int (i*j)) (zac 11) (tOp (zbM K) (zac 5) (tC (.int 1)))) (zac 12)) (tOp (zbM K) (zac 2) (tC (.int 1)))) (tOp (rI IntMulOk λi j=>.int (i*j)) (tOp (rI IntMulOk λi j=>.int (i*j)) (tOp (rI IntMulOk λi j=>.int (i*j)) (tOp (zbM K) (zac 2) (tC (.int 0))) (tCB (zmg K) (zab (zac 4) zak))) (zac 8)) (tOp (zbM K) (zac 5) (tC (.int 1))))))))
theorem za7(K:ψa)(D:zbP)(σ:St)(H:Hp):zgv K D σ H=(zaK (za2 (tCB (zmg K) (zab (zbA (zhF K (zab (zac 4) (zab (zac 7) zak))) (zcW K 2 (zax (zag 0) (zax (zag 1) zcR))) zaE (tOp (rI IntMulOk λi j=>.int (i*j)) (tOp (rI IntMulOk λi j=>.int (i*j)) (zac 0) (tOp (rI0 λi j=>.int (i - j)) (tOp (zbM K) (zac 1) (tC (.int 1))) (tOp (zbM K) (zac 1) (tC (.int 0))))) (tOp (rI (λ_ j=>j≠0∧j.natAbs.log2<9000) λi j=>.int (i.fdiv j)) (zac 2) (tOp (zbM K) (zac 1) (tC (.int 1))))) [none,none,some 8]) zak)) (zag 11))
 (zaK (za2 (tOp (rI IntMulOk λi j=>.int (i*j)) (tOp (rI IntMulOk λi j=>.int (i*j)) (tOp (zbM K) (zac 5) (tC (.int 0))) (tOp (rI0 λi j=>.int (i - j)) (zac 1) (zar zjb [] E0 (zab (zac 0) (zab (zac 6) zak))))) (zac 8)) (zag 12))
 (zbb (tOp (rI0 λi j=>.bl (decide (i≤j))) (tOp (rI IntMulOk λi j=>.int (i*j)) (tOp (rI0 λi j=>.int (i+j)) (tOp (rI IntMulOk λi j=>.int (i*j)) (zac 11) (tOp (zbM K) (zac 5) (tC (.int 1)))) (zac 12)) (tOp (zbM K) (zac 2) (tC (.int 1)))) (tOp (rI IntMulOk λi j=>.int (i*j)) (tOp (rI IntMulOk λi j=>.int (i*j)) (tOp (rI IntMulOk λi j=>.int (i*j)) (tOp (zbM K) (zac 2) (tC (.int 0))) (tCB (zmg K) (zab (zac 4) zak))) (zac 8)) (tOp (zbM K) (zac 5) (tC (.int 1)))))))) D σ H:=rfl
def zfW(K:ψa):TS :=
 (zaK (za2 (zac 3) (zcW K 3 (zax (zag 4) (zax (zag 5) (zax (zag 6) zcR)))))
 (zaK (za2 (zbA (zhF K (zab (zac 0) (zab (zac 6) zak))) (zcW K 2 (zax (zag 0) (zax (zag 1) zcR))) zaE (zar zei [] E0 (zab (zac 0) (zab (zac 1) zak))) [none,none]) (zag 7))
 (zaK (za2 (tC (.int 1)) (zag 8))
 (zaK (zjy (zcX K (zac 7)) (zcW K 2 (zax (zag 9) (zax (zag 10) zcR)))
 (za2 (tOp (rI IntMulOk λi j=>.int (i*j)) (zac 8) (zac 10)) (zag 8)))
 (zgv K)))))
theorem zk4{l v pr:Addr}{bud:Int}{ts:List Addr}{bs:List Box}{W P:Rat}{Ws ns:List Int}(B:GdB H l ts bs)(hv:H v=some (.tup (fr W)))(bW:Bq 2000 W)(A:PpH H pr bs.length Ws P ns)(d0:0≤bud)(d1:bud≤60)(q:∀(r:Bool) (H':Hp),zaF H H'→Q (.bl r) H') :
  zfW K { nx:=λ_ H'=>Q .non H',rt:=Q } (L2.start ["boxes","budget","worth","paper","weights","price","counts","misses","whole","top","bottom","found","spare"] [.ref l,.int bud,.ref v,.ref pr]) H:=by
 unfold zfW
 obtain⟨wl,pp,cl,a1,a2,a3,a4⟩:=A.ex
 have l6:=B.l6
 have gn:∀n∈ns,0≤n∧n≤60:=A.n0
 have n60:∀n∈ns,n≤60:=λn hn=>(A.n0 n hn).2
 have gz:∀x∈ψm bs ns,GB x.1∧x.2≤60:=λx hx=>by
  obtain⟨i,ei⟩:=ψp hx
  rw[ψC] at ei
  exact⟨B.gb _ (zaz ei.1),n60 _ (zaz ei.2)⟩
 have lz:(ψm bs ns).length=bs.length:=by rw[ψZ1,A.ln];omega
 simp_all only [za7,zac]
 refine⟨_,SqT.of a1,rfl,_,_,rfl,_,_,rfl,_,_,rfl,rfl,?_⟩
 refine⟨_,rfl,⟨_,SqL.of B.hl⟩,⟨_,SqL.of a4⟩,λD hD=>?_⟩
 refine zeR (f:=mssP) (qs:=ψm bs ns) B.hl a4 (by rw[lz,ψb,ψb,B.hb.1,A.ln];omega) (by omega) hD (λi x z w H3 R hx hz hw s3 k=>?_) λus H1 s1 h1 T1=>?_
 ·obtain⟨t,ht,rfl⟩:=zaC hx
  obtain⟨n,hn,rfl⟩:=zaC hz
  obtain⟨b,hb1,hb2⟩:=B.hb.at ht
  have ez:(ψm bs ns)[i]?=some (b,n):=List.getElem?_zip_eq_some.mpr ⟨hb1,hn⟩
  rw[ez] at hw
  cases hw
  simp_all only [za7,zac]
  exact⟨t,b,n,rfl,s3 _ _ hb2,B.gb b (zaz hb1),(gn n (zaz hn)).1,(gn n (zaz hn)).2,k⟩
 simp_all only [za7,zac]
 refine⟨⟨_,SqL.of h1⟩,?_⟩
 refine zeW (K:=K) (xs:=us.map V.ref) (λi σ H'=>zaF H1 H'∧∃y9 y10,σ=[some (.ref l),some (.int bud),some (.ref v),some (.ref pr),some (.ref wl),some (.ref pp),some (.ref cl),some (.ref D),some (.int (zsz ((ψm bs ns).take i))),y9,y10,none,none]) ⟨.refl _,_,_,rfl⟩ ?_ ?_ ?_
 ·rintro i σ H' _ ⟨s,_⟩
  exact SqL.of (s _ _ h1)
 ·rintro i x σ H2 hx ⟨s2,y9,y10,rfl⟩
  obtain⟨u,eu,rfl⟩:=zaC hx
  obtain⟨z,ez,hz⟩:=T1.at eu
  have gzz:=gz z (zaz ez)
  have li:=(List.getElem?_eq_some_iff.mp ez).1
  have bb:=znx ((ψm bs ns).take i) λy hy=>gz y (List.mem_of_mem_take hy)
  rw[ψH] at bb
  simp_all only [za7,zac]
  refine⟨_,SqT.of (s2 _ _ hz),rfl,_,_,rfl,_,_,rfl,rfl,?_⟩
  refine⟨_,rfl,zeM 2401 400 (bb.mono (by omega)) (ziC gzz.1 gzz.2),s2,?_⟩
  rw[ψw,ez,Option.toList_some,zoh]
 ·rintro σ H2 ⟨s2,y9,y10,rfl⟩
  rw[ψb,T1.1,ψO]
  have S2:=s1.trans s2
  generalize hT:zsz (ψm bs ns)=T
  have T0:0<T:=by rw[← hT];exact zn4 _ λx hx=>(gz x hx).1
  have bT:Bd 2401 T:=by rw[← hT];exact(znx _ gz).mono (by omega)
  simp_all only [za7,zac]
  refine⟨⟨_,SqL.of (S2 _ _ a2)⟩,⟨_,SqL.of (s2 _ _ h1)⟩,λD2 hD2=>?_⟩
  generalize hF:ψr (λ(w:Int) (x:Box×Int)=>w*(x.1.2.2 ^ x.2.toNat - (x.1.2.2 - x.1.2.1) ^ x.2.toNat)*T.fdiv (x.1.2.2 ^ x.2.toNat)) Ws (ψm bs ns)=Fs
  have lF:Fs.length=bs.length:=by rw[← hF,ψn,lz,A.lw];omega
  have tb:∀(i:Nat) w x,Ws[i]?=some w→(ψm bs ns)[i]?=some x→Bd 401 (x.1.2.2 ^ x.2.toNat - (x.1.2.2 - x.1.2.1) ^ x.2.toNat)∧(T.fdiv (x.1.2.2 ^ x.2.toNat)).natAbs≤T.natAbs∧0<x.1.2.2 ^ x.2.toNat:=λi w x e1 e2=>by
   obtain⟨g,n1⟩:=gz x (zaz e2)
   have o:=zft g x.2
   have bt:Bd 400 ((x.1.2.2 - x.1.2.1) ^ x.2.toNat):=by
    obtain⟨g1,g2,g3,g4,g5⟩:=g
    exact zhB (by omega) (by omega) (by omega)
   refine⟨(ziC g n1).sub bt,?_,o⟩
   rw[ψX _ (ψx o)]
   have h1:=ψU1 (x.1.2.2 ^ x.2.toNat) (ψx T0)
   have h2:=Int.ediv_nonneg (b:=x.1.2.2 ^ x.2.toNat) (ψx T0) (ψx o)
   omega
  refine ze5 (vs:=Fs.map V.int) (S2 _ _ a2) (s2 _ _ h1) (by rw[ψb,lF,ψb,ψb,A.lw,T1.1,lz];omega) (by rw[ψb];omega) hD2 (λi x z w H3 R hx hz hw s3 k=>?_) λH3 s3 h3=>?_
  ·obtain⟨m,em,rfl⟩:=zaC hx
   obtain⟨u,eu,rfl⟩:=zaC hz
   obtain⟨f,ef,rfl⟩:=zaC hw
   obtain⟨y,ey,hy⟩:=T1.at eu
   rw[← hF] at ef
   have e:=zhQ em ey ef
   subst e
   obtain⟨b1,b2,o⟩:=tb i m y em ey
   obtain⟨g,n1⟩:=gz y (zaz ey)
   have hy3:=SqT.of (K:=K) (s3 _ _ (s2 _ _ hy))
   have bm:=A.wb m (zaz em)
   simp_all only [za7,zac]
   exact⟨_,hy3,_,rfl,_,hy3,_,rfl,_,rfl,_,rfl,zeM 2800 401 bm b1,_,hy3,_,rfl,_,rfl,by omega,zhG 400 (by omega) (ziC g n1),zeM 3201 2401 (bm.mul b1) (bT.le b2),k _ (.refl _)⟩
  ·have S3:=S2.trans s3
   have bp:BP H3 l cl ts bs ns:=(B.same S3).bp (S3 _ _ a4) A.ln gn
   obtain⟨c0,c1⟩:=zik bs ns B.gb gn
   have hp3:=SqT.of (K:=K) (S3 _ _ a3)
   simp_all only [za7,zac]
   refine⟨_,SqL.of h3,_,hp3,_,rfl,l,cl,ts,bs,ns,rfl,bp,λH4 s4=>?_⟩
   have S4:=S3.trans s4
   have hp4:=SqT.of (K:=K) (S4 _ _ a3)
   have hv4:=SqT.of (K:=K) (S4 _ _ hv)
   have bF:∀f∈Fs,Bd 5602 f:=by
    rw[← hF]
    exact zg2 _ λi w x e1 e2=>by
     obtain⟨b1,b2,_⟩:=tb i w x e1 e2
     exact((A.wb w (zaz e1)).mul b1).mul (bT.le b2)
   have bFs:=(znH Fs bF).mono (show _≤5608 by omega)
   have bWs:=(znH Ws A.wb).mono (show _≤2806 by have:=A.lw;omega)
   have bsp:Bd 15 (bud - (zaY bs ns).sum):=by show(bud - (zaY bs ns).sum).natAbs<2 ^ 15;omega
   have m1:=A.pb.top.mul bsp
   have m2:=m1.mul bT
   have m3:=bFs.mul A.pb.bot
   have m5:=bW.top.mul bWs
   have m6:=m5.mul bT
   simp_all only [za7,zac]
   refine⟨zeM 2800 15 A.pb.top bsp,zeM 2815 2401 m1 bT,_,hp4,_,rfl,_,rfl,zeM 5608 2800 bFs A.pb.bot,_,hv4,_,rfl,_,rfl,zeM 8409 2000 ((m3.mono (show _≤8408 by omega)).add (m2.mono (by omega))) bW.bot,_,hv4,_,rfl,Ws,SqL.of (S4 _ _ a2),_,rfl,zeM 2000 2806 bW.top bWs,zeM 4806 2401 m5 bT,_,hp4,_,rfl,_,rfl,zeM 7207 2800 m6 A.pb.bot,?_⟩
   exact q _ H4 S4
theorem zba:zaA ["boxes","budget","worth","paper","weights","price","counts","misses","whole","top","bottom","found","spare"] ["boxes","budget","worth","paper"] (zai zdj):=⟨rfl,rfl,rfl,by decide +kernel,rfl,by decide +kernel,by decide +kernel⟩
theorem zlb(T:Txt K mg a):zcC P w K mg base CX0 3 a.f_is_sum_low a.d_is_sum_low ["boxes","budget","worth","paper"] zkW:=by
 have G_cost_sum:=zfp (P:=P) (w:=w) (base:=base) T
 have G_missed:=zeV (P:=P) (w:=w) (base:=base) T
 refine T.F_is_sum_low.ok zba (λvs H Q E h=>?_) (λcdv A outer s H vs Q E hr h=>?_)
 ·obtain⟨l,v,pr,bud,ts,bs,W,P',Ws,ns,rfl,B,hv,bW,A,d0,d1,q⟩:=h
  rfl
 obtain⟨l,v,pr,bud,ts,bs,W,P',Ws,ns,rfl,B,hv,bW,A,d0,d1,q⟩:=h
 exact⟨zfW K,(zaf (zdJ (pv 3) (zbw rfl (zap (zao (i:=4) zba.nd rfl (Or.inl rfl)) (zap (zao (i:=5) zba.nd rfl (Or.inl rfl)) (zap (zao (i:=6) zba.nd rfl (Or.inl rfl)) zaW)))))
 (zaf (zb8 (i:=7) zba.nd rfl rfl (sc:=zai zdj) (N:=["boxes","budget","worth","paper","weights","price","counts","misses","whole","top","bottom","found","spare"]) (Nc:=["box","count"]) (cap:=[none,none]) rfl rfl rfl (.of (by decide +kernel)) (zdD rfl T.z_zip (zaa (pv 0) (zaa (pv 6) zad))) (λ_ _ _ _=>(zbw rfl (zap (zao (i:=0) (show ψk (["box","count"]:List Str) from by decide) rfl (Or.inl rfl)) (zap (zao (i:=1) (show ψk (["box","count"]:List Str) from by decide) rfl (Or.inl rfl)) zaW)))) (λ_ _ _ _=>za8) (λ_ _ _ _=>(zal G_missed (hr.mono (by decide)) rfl T.m_missed T.F_missed.kp T.b_missed .nil zaH (zaa (pv 0) (zaa (pv 1) zad)))))
 (zaf (zaL (i:=8) zba.nd rfl (Or.inr rfl) zah)
 (zaf (zeq PassesOwn.never rfl (zbU (pv 7)) (zbw rfl (zap (zao (i:=9) zba.nd rfl (Or.inl rfl)) (zap (zao (i:=10) zba.nd rfl (Or.inl rfl)) zaW)))
 (zam (zaL (i:=8) zba.nd rfl (Or.inr rfl) (zaB zaG (pv 8) (pv 10)))))
 (zaf (zaL (i:=11) zba.nd rfl (Or.inl rfl) (zat (zeo rfl) rfl T.z_sum ψa1 (zaa (zbX (sc:=zai zdj) (N:=["boxes","budget","worth","paper","weights","price","counts","misses","whole","top","bottom","found","spare"]) (Nc:=["weight","miss","whole"]) (cap:=[none,none,some 8]) rfl rfl rfl (.of (by decide +kernel)) (zdD rfl T.z_zip (zaa (pv 4) (zaa (pv 7) zad))) (λ_ _ _ _=>(zbw rfl (zap (zao (i:=0) (show ψk (["weight","miss","whole"]:List Str) from by decide) rfl (Or.inl rfl)) (zap (zao (i:=1) (show ψk (["weight","miss","whole"]:List Str) from by decide) rfl (Or.inl rfl)) zaW)))) (λ_ _ _ _=>za8) (λ_ _ _ _=>(zaB zaG (zaB zaG (pv 0) (zaB zd7 (zaS zaI (pv 1) zah (λ_ _=>rfl)) (zaS zaI (pv 1) zah (λ_ _=>rfl)))) (zaB zdV (pv 2) (zaS zaI (pv 1) zah (λ_ _=>rfl)))))) zad)))
 (zaf (zaL (i:=12) zba.nd rfl (Or.inl rfl) (zaB zaG (zaB zaG (zaS zaI (pv 5) zah (λ_ _=>rfl)) (zaB zd7 (pv 1) (zal G_cost_sum (hr.mono (by decide)) rfl T.m_cost_sum T.F_cost_sum.kp T.b_cost_sum .nil zaH (zaa (pv 0) (zaa (pv 6) zad))))) (pv 8)))
 (zam (zaD (zcg zmU (zaB zaG (zaB zcT (zaB zaG (pv 11) (zaS zaI (pv 5) zah (λ_ _=>rfl))) (pv 12)) (zaS zaI (pv 2) zah (λ_ _=>rfl))) (zaB zaG (zaB zaG (zaB zaG (zaS zaI (pv 2) zah (λ_ _=>rfl)) (zat (zeo rfl) rfl T.z_sum ψa1 (zaa (pv 4) zad))) (pv 8)) (zaS zaI (pv 5) zah (λ_ _=>rfl))) (za9 _)))))))))),
  zk4 B hv bW A d0 d1 q⟩
theorem zp3{p q r:Addr}{xs ws zs:List V}{g:TG}{tb:TS}{D:zbP}{σ:St}(Pv:Nat→St→Hp→Prop)(h0:Pv 0 σ H)(l1:xs.length=ws.length)(l2:xs.length=zs.length)
  (hl:∀i σ H,i≤xs.length→Pv i σ H→SqL K H p xs∧SqL K H q ws∧SqL K H r zs)
  (hs:∀i x w z t σ H,xs[i]?=some x→ws[i]?=some w→zs[i]?=some z→Pv i σ H→H t=none→g (.ref t) σ (upd H t (.tup [x,w,z])) λσ2 H2=>tb { D with nx:=Pv (i+1),ct:=Pv (i+1),bk:=D.nx } σ2 H2)
  (hd:∀σ H,Pv xs.length σ H→D.nx σ H):zqM (Itz3 K p q r) g tb D σ H:=by
 refine⟨λi m σ H=>m=xs.length - i∧i≤xs.length∧Pv i σ H,⟨_,rfl,ψr1 _,h0⟩,?_⟩
 rintro i m σ H ⟨rfl,hi,pv⟩
 obtain⟨hx,hw,hz⟩:=hl i σ H hi pv
 by_cases hlt:i<xs.length
 ·have k1:i<ws.length:=by omega
  have k2:i<zs.length:=by omega
  refine .inr ⟨⟨xs,ws,zs,xs[i],ws[i],zs[i],hx,hw,hz,by simp[hlt],by simp[k1],by simp[k2]⟩,Pv (i+1),λσ' H' p'=>⟨_,by omega,rfl,hlt,p'⟩,λx H' yl=>?_⟩
  obtain⟨t,a,b,c,rfl,ht,rfl,e1,e2,e3⟩:=yl
  exact hs i a b c t σ H (e1 xs hx) (e2 ws hw) (e3 zs hz) pv ht
 ·have e:i=xs.length:=by omega
  subst e
  exact .inl ⟨⟨xs,hx,rfl⟩,hd σ H pv⟩
def zkR:Sp:=λvs H Q _=>∃(l v pr:Addr) (bud:Int) (ts:List Addr) (bs:List Box) (W P:Rat) (Ws ns:List Int),vs=[.ref l,.int bud,.ref v,.ref pr]∧GdB H l ts bs∧H v=some (.tup (fr W))∧Bq 2000 W∧PpH H pr bs.length Ws P ns∧0≤bud∧bud≤60∧∀(r:Bool) (H':Hp),zaF H H'→Q (.bl r) H'
def zen(K:ψa):TS :=
 (zaK (za2 (zac 3) (zcW K 3 (zax (zag 4) (zax (zag 5) (zax (zag 6) zcR)))))
 (zaK (zjy (zsY K (zab (zac 0) (zab (zac 4) (zab (zac 6) zak)))) (zcW K 3 (zax (zag 7) (zax (zag 8) (zax (zag 9) zcR))))
 (zca (zfw (tB (zar zjg [] E0 (zab (zac 7) (zab (zac 8) (zab (zac 5) (zab (zac 9) zak))))))) (zbb (tC (.bl false))) zaV))
 (zbb (zar zkW [] E0 (zab (zac 0) (zab (zac 1) (zab (zac 2) (zab (zac 3) zak))))))))
theorem za6(K:ψa)(D:zbP)(σ:St)(H:Hp):zen K D σ H=(zaK (za2 (zac 3) (zcW K 3 (zax (zag 4) (zax (zag 5) (zax (zag 6) zcR)))))
 (zaK (zjy (zsY K (zab (zac 0) (zab (zac 4) (zab (zac 6) zak)))) (zcW K 3 (zax (zag 7) (zax (zag 8) (zax (zag 9) zcR))))
 (zca (zfw (tB (zar zjg [] E0 (zab (zac 7) (zab (zac 8) (zab (zac 5) (zab (zac 9) zak))))))) (zbb (tC (.bl false))) zaV))
 (zbb (zar zkW [] E0 (zab (zac 0) (zab (zac 1) (zab (zac 2) (zab (zac 3) zak)))))))) D σ H:=rfl
def zdA(K:ψa):TS :=
 (zaK (zdq (zca (zfw (tB (zar zmc [] E0 (zab (zac 3) (zab (zac 0) zak))))) (zbb (tC (.bl false))) zaV))
 (zen K))
theorem zhm{l v pr:Addr}{bud:Int}{ts:List Addr}{bs:List Box}{W P:Rat}{Ws ns:List Int}(B:GdB H l ts bs)(hv:H v=some (.tup (fr W)))(bW:Bq 2000 W)(A:PpH H pr bs.length Ws P ns)(d0:0≤bud)(d1:bud≤60)(q:∀(r:Bool) (H':Hp),zaF H H'→Q (.bl r) H') :
  zdA K { nx:=λ_ H'=>Q .non H',rt:=Q } (L2.start ["boxes","budget","worth","paper","weights","price","counts","box","weight","count"] [.ref l,.int bud,.ref v,.ref pr]) H:=by
 unfold zdA
 simp_all only [za6,zac]
 refine⟨λσ H'=>zaF H H'∧σ=[some (.ref l),some (.int bud),some (.ref v),some (.ref pr),none,none,none,none,none,none],?_,?_⟩
 ·simp_all only [za6,zac]
  exact⟨pr,l,ts,bs,Ws,ns,P,rfl,B,A,λc H1 s1=>⟨c,rfl,zel (λ_=>q _ _ s1) (λ_=>s1)⟩⟩
 ·rintro σ H1 ⟨s1,rfl⟩
  have A1:=A.same s1
  have B1:=B.same s1
  obtain⟨wl,pp,cl,a1,a2,a3,a4⟩:=A1.ex
  simp_all only [za6,zac]
  refine⟨_,SqT.of a1,rfl,_,_,rfl,_,_,rfl,_,_,rfl,rfl,?_⟩
  simp_all only [za6,zac]
  refine⟨⟨_,SqL.of B1.hl⟩,⟨_,SqL.of a2⟩,⟨_,SqL.of a4⟩,?_⟩
  refine zp3 (K:=K) (xs:=ts.map V.ref) (ws:=Ws.map V.int) (zs:=ns.map V.int) (λi σ H'=>zaF H1 H'∧∃y7 y8 y9,σ=[some (.ref l),some (.int bud),some (.ref v),some (.ref pr),some (.ref wl),some (.ref pp),some (.ref cl),y7,y8,y9]) ⟨.refl _,_,_,_,rfl⟩ (by rw[ψb,ψb,B.hb.1,A.lw]) (by rw[ψb,ψb,B.hb.1,A.ln]) ?_ ?_ ?_
  ·rintro i σ H' _ ⟨s,_⟩
   exact⟨SqL.of (s _ _ B1.hl),SqL.of (s _ _ a2),SqL.of (s _ _ a4)⟩
  ·rintro i x w z u σ H2 hx hw hz ⟨s2,y7,y8,y9,rfl⟩ hu
   obtain⟨t,et,rfl⟩:=zaC hx
   obtain⟨m,em,rfl⟩:=zaC hw
   obtain⟨n,en,rfl⟩:=zaC hz
   obtain⟨b,eb,hb⟩:=B1.hb.at et
   simp_all only [za6,zac]
   have s3:=zaq hu (.tup [V.ref t,V.int m,V.int n])
   have h3:(L2.upd H2 u (.tup [V.ref t,V.int m,V.int n])) u=some (.tup [V.ref t,V.int m,V.int n]):=zaj
   generalize L2.upd H2 u (.tup [V.ref t,V.int m,V.int n])=H3 at s3 h3 ⊢
   refine⟨_,SqT.of h3,rfl,_,_,rfl,_,_,rfl,_,_,rfl,rfl,?_⟩
   have s13:=s2.trans s3
   exact⟨t,pp,b,m,n,P,rfl,⟨s13 _ _ hb,B.gb b (zaz eb),s13 _ _ a3,A.wb m (zaz em),A.pb,(A.n0 n (zaz en)).1,(A.n0 n (zaz en)).2⟩,λr H4 s4=>⟨r,rfl,zel (λ_=>q _ _ (s1.trans (s13.trans s4))) (λ_=>s13.trans s4)⟩⟩
  ·rintro σ H2 ⟨s2,y7,y8,y9,rfl⟩
   have S2:=s1.trans s2
   simp_all only [za6,zac]
   exact⟨l,v,pr,bud,ts,bs,W,P,Ws,ns,rfl,B.same S2,S2 _ _ hv,bW,A.same S2,d0,d1,λr H3 s3=>q r H3 (S2.trans s3)⟩
theorem zbq:zaA ["boxes","budget","worth","paper","weights","price","counts","box","weight","count"] ["boxes","budget","worth","paper"] (zai zdr):=⟨rfl,rfl,rfl,by decide +kernel,rfl,by decide +kernel,by decide +kernel⟩
theorem zhe(T:Txt K mg a):zcC P w K mg base CX0 5 a.f_is_hider_right a.d_is_hider_right ["boxes","budget","worth","paper"] zkR:=by
 have G_is_count_best:=zhP (P:=P) (w:=w) (base:=base) T
 have G_is_hider_paper:=zhh (P:=P) (w:=w) (base:=base) T
 have G_is_sum_low:=zlb (P:=P) (w:=w) (base:=base) T
 refine T.F_is_hider_right.ok zbq (λvs H Q E h=>?_) (λcdv A outer s H vs Q E hr h=>?_)
 ·obtain⟨l,v,pr,bud,ts,bs,W,P',Ws,ns,rfl,B,hv,bW,A,d0,d1,q⟩:=h
  rfl
 obtain⟨l,v,pr,bud,ts,bs,W,P',Ws,ns,rfl,B,hv,bW,A,d0,d1,q⟩:=h
 exact⟨zdA K,(zaf (zbB (zbW (zcK (zbF (zal G_is_hider_paper (hr.mono (by decide)) rfl T.m_is_hider_paper T.F_is_hider_paper.kp T.b_is_hider_paper .nil zaH (zaa (pv 3) (zaa (pv 0) zad))))) (zam (zaD zeA)) zaQ))
 (zaf (zdJ (pv 3) (zbw rfl (zap (zao (i:=4) zbq.nd rfl (Or.inl rfl)) (zap (zao (i:=5) zbq.nd rfl (Or.inl rfl)) (zap (zao (i:=6) zbq.nd rfl (Or.inl rfl)) zaW)))))
 (zaf (zeq PassesOwn.never rfl (zvN rfl T.z_zip (zaa (pv 0) (zaa (pv 4) (zaa (pv 6) zad)))) (zbw rfl (zap (zao (i:=7) zbq.nd rfl (Or.inl rfl)) (zap (zao (i:=8) zbq.nd rfl (Or.inl rfl)) (zap (zao (i:=9) zbq.nd rfl (Or.inl rfl)) zaW))))
 (zam (zbW (zcK (zbF (zal G_is_count_best (hr.mono (by decide)) rfl T.m_is_count_best T.F_is_count_best.kp T.b_is_count_best .nil zaH (zaa (pv 7) (zaa (pv 8) (zaa (pv 5) (zaa (pv 9) zad))))))) (zam (zaD zeA)) zaQ)))
 (zam (zaD (zal G_is_sum_low (hr.mono (by decide)) rfl T.m_is_sum_low T.F_is_sum_low.kp T.b_is_sum_low .nil zaH (zaa (pv 0) (zaa (pv 1) (zaa (pv 2) (zaa (pv 3) zad)))))))))),
  zhm B hv bW A d0 d1 q⟩
structure JdP (H:Hp) (v ml pr pl:Addr) (n:Nat) (ns:List Int):Prop where
 hp:H pl=some (.lst (ns.map V.int))
 ln:ns.length=n
 gn:∀m∈ns,0≤m∧m≤60
 hv:∃W:Rat,H v=some (.tup (fr W))∧Bq 2000 W
 hm:∃u:Addr,H ml=some (.lst [.ref u])∧H u=some (.tup [.ref pl,.int 1])
 hpp:∃(Ws:List Int) (P:Rat),PpH H pr n Ws P ns
def ziw(a:Ad):Sp:=λvs H Q E=>∃(vb vu:V) (v ml pr:Addr),vs=[vb,vu,.ref v,.ref ml,.ref pr]∧zwF a H E vb vu λ_ _ bs _=>(∃(pl:Addr) (ns:List Int),JdP H v ml pr pl bs.length ns)∧∀(r:V) (H':Hp),zaF H H'→Q r H'
def zeU:TS :=
 (zca (zfw (tB (zar zkR [] E0 (zab (zac 0) (zab (zac 1) (zab (zac 2) (zab (zac 4) zak))))))) (zbb (zbV (zab (tC (.str "hider")) zak))) zaV)
theorem zbS(D:zbP)(σ:St)(H:Hp):zeU D σ H=(zca (zfw (tB (zar zkR [] E0 (zab (zac 0) (zab (zac 1) (zab (zac 2) (zab (zac 4) zak))))))) (zbb (zbV (zab (tC (.str "hider")) zak))) zaV) D σ H:=rfl
def zeN:TS :=
 (zca (zfw (tB (zar zni [] E0 (zab (zac 0) (zab (zac 1) (zab (zac 2) (zab (zac 3) zak))))))) (zbb (zbV (zab (tC (.str "seeker")) zak))) zaV)
theorem zbR(D:zbP)(σ:St)(H:Hp):zeN D σ H=(zca (zfw (tB (zar zni [] E0 (zab (zac 0) (zab (zac 1) (zab (zac 2) (zab (zac 3) zak))))))) (zbb (zbV (zab (tC (.str "seeker")) zak))) zaV) D σ H:=rfl
def zee(a:Ad)(E:XK):TS :=
 (zaK (zbQ (zar (ziF a) [] E (zab (zac 0) zak)))
 (zaK (zbQ (zar (zfg a) [] E (zab (zac 1) zak)))
 (zaK (zdq (zeN))
 (zaK (zdq (zeU))
 (zbb (tC .non))))))
theorem zhZ{E:XK}{vb vu:V}{v ml pr:Addr}(h:zwF a H E vb vu λ_ _ bs _=>(∃(pl:Addr) (ns:List Int),JdP H v ml pr pl bs.length ns)∧∀(r:V) (H':Hp),zaF H H'→Q r H') :
  zee a E { nx:=λ_ H'=>Q .non H',rt:=Q } (L2.start ["boxes","budget","worth","mix","paper"] [vb,vu,.ref v,.ref ml,.ref pr]) H:=by
 unfold zee
 simp_all only [zbS,zbR,zac]
 refine⟨vb,rfl,Or.imp (λh=>h) (λ⟨l,ts,bs,e,g,k⟩=>⟨l,ts,bs,e,g,λH1 s1=>⟨vu,rfl,k H1 s1⟩⟩) (znP h ?_)⟩
 rintro l ts bs bud H1 rfl rfl g d0 d1 s1 ⟨⟨pl,ns,J⟩,q⟩
 obtain⟨W,hv,bW⟩:=J.hv
 obtain⟨u,hm,hu⟩:=J.hm
 obtain⟨Ws,P,A⟩:=J.hpp
 refine⟨λσ H'=>zaF H1 H'∧σ=[some (.ref l),some (.int bud),some (.ref v),some (.ref ml),some (.ref pr)],?_,?_⟩
 ·simp_all only [zbS,zbR,zac]
  exact⟨l,v,ml,u,pl,bud,ts,bs,ns,W,rfl,(g.bp J.hp J.ln J.gn).same s1,s1 _ _ hv,bW,s1 _ _ hm,s1 _ _ hu,d0,d1,λr H2 s2=>⟨r,rfl,zel (λ_=>⟨by decide,λp np=>q _ _ ((s1.trans s2).add np)⟩) (λ_=>s2)⟩⟩
 ·rintro σ H2 ⟨s2,rfl⟩
  have S2:=s1.trans s2
  refine⟨λσ H'=>zaF H2 H'∧σ=[some (.ref l),some (.int bud),some (.ref v),some (.ref ml),some (.ref pr)],?_,?_⟩
  ·simp_all only [zbS,zbR,zac]
   exact⟨l,v,pr,bud,ts,bs,W,P,Ws,ns,rfl,g.same S2,S2 _ _ hv,bW,A.same S2,d0,d1,λr H3 s3=>⟨r,rfl,zel (λ_=>⟨by decide,λp np=>q _ _ ((S2.trans s3).add np)⟩) (λ_=>s3)⟩⟩
  ·rintro σ H3 ⟨s3,rfl⟩
   simp_all only [zbS,zbR,zac]
   exact q _ H3 (S2.trans s3)
theorem zhW:zaA ["boxes","budget","worth","mix","paper"] ["boxes","budget","worth","mix","paper"] (zai zd3):=⟨rfl,rfl,rfl,by decide +kernel,rfl,by decide +kernel,by decide +kernel⟩
theorem zhN(T:Txt K mg a):zcC P w K mg base (CXV P w) 7 a.f_budget_judged a.d_budget_judged ["boxes","budget","worth","mix","paper"] (ziw a):=by
 have G_is_hider_right:=zhe (P:=P) (w:=w) (base:=base) T
 have G_is_seeker_right:=zgZ (P:=P) (w:=w) (base:=base) T
 have G_look_boxes:=zdN (P:=P) (w:=w) (base:=base) T
 have G_look_budget:=zgt (P:=P) (w:=w) (base:=base) T
 refine T.F_budget_judged.okV zhW (λvs H Q E h=>?_) (λcdv A outer s H vs Q E hr h=>?_)
 ·obtain⟨vb,vu,v,ml,pr,rfl,h⟩:=h
  rfl
 obtain⟨vb,vu,v,ml,pr,rfl,h⟩:=h
 exact⟨zee a E,(zaf (zbJ (zal G_look_boxes (hr.mono (by decide)) rfl T.m_look_boxes T.F_look_boxes.kp T.b_look_boxes .nil zjj (zaa (pv 0) zad)))
 (zaf (zbJ (zal G_look_budget (hr.mono (by decide)) rfl T.m_look_budget T.F_look_budget.kp T.b_look_budget .nil zjj (zaa (pv 1) zad)))
 (zaf (zbB (zbW (zcK (zbF (zal G_is_seeker_right (hr.mono (by decide)) rfl T.m_is_seeker_right T.F_is_seeker_right.kp T.b_is_seeker_right .nil zaH (zaa (pv 0) (zaa (pv 1) (zaa (pv 2) (zaa (pv 3) zad))))))) (zam (zaD (za3 (zaa zdE zad)))) zaQ))
 (zaf (zbB (zbW (zcK (zbF (zal G_is_hider_right (hr.mono (by decide)) rfl T.m_is_hider_right T.F_is_hider_right.kp T.b_is_hider_right .nil zaH (zaa (pv 0) (zaa (pv 1) (zaa (pv 2) (zaa (pv 4) zad))))))) (zam (zaD (za3 (zaa zdE zad)))) zaQ))
 (zam (zaD zjV)))))),
  zhZ h⟩
def AskC(a:Ad)(H:Hp)(E:XK)(vb:V)(pl:Addr)(G:Prop):Prop :=
 (zpj H vb∧∀H',zaF H H'→E (.ref a.c_NoBoxes) none H')∨∃(l:Addr) (ts:List Addr) (bs:List Box) (ns:List Int),vb=.ref l∧BP H l pl ts bs ns∧G
def zc4(a:Ad):Sp:=λvs H Q E=>∃(vb:V) (pl:Addr),vs=[vb,.ref pl]∧AskC a H E vb pl (∀(r:V) (H':Hp),zaF H H'→Q r H')
def zgJ(a:Ad)(E:XK):TS :=
 (zaK (zbQ (zar (ziF a) [] E (zab (zac 0) zak)))
 (zbb (zar zjb [] E0 (zab (zac 0) (zab (zac 1) zak)))))
theorem BP.gd{H:Hp}{l pl:Addr}{ts:List Addr}{bs:List Box}{ns:List Int}(B:BP H l pl ts bs ns):GdB H l ts bs:=⟨B.hl,B.hb,B.gb,B.l1,B.l6⟩
theorem zl5{E:XK}{vb:V}{pl:Addr}(h:AskC a H E vb pl (∀(r:V) (H':Hp),zaF H H'→Q r H')) :
  zgJ a E { nx:=λ_ H'=>Q .non H',rt:=Q } (L2.start ["boxes","plan"] [vb,.ref pl]) H:=by
 unfold zgJ
 simp_all only [zac]
 rcases h with h | ⟨l,ts,bs,ns,rfl,B,q⟩
 ·exact⟨vb,rfl,.inl h⟩
 ·exact⟨_,rfl,.inr ⟨l,ts,bs,rfl,B.gd,λH1 s1=>⟨l,pl,ts,bs,ns,rfl,B.same s1,λH2 s2=>q _ _ (s1.trans s2)⟩⟩⟩
theorem zl0:zaA ["boxes","plan"] ["boxes","plan"] (zai zgB):=⟨rfl,rfl,rfl,by decide +kernel,rfl,by decide +kernel,by decide +kernel⟩
theorem zlh(T:Txt K mg a):zcC P w K mg base (CXV P w) 5 a.f_plan_cost a.d_plan_cost ["boxes","plan"] (zc4 a):=by
 have G_cost_sum:=zfp (P:=P) (w:=w) (base:=base) T
 have G_look_boxes:=zdN (P:=P) (w:=w) (base:=base) T
 refine T.F_plan_cost.okV zl0 (λvs H Q E h=>?_) (λcdv A outer s H vs Q E hr h=>?_)
 ·obtain⟨vb,pl,rfl,h⟩:=h
  rfl
 obtain⟨vb,pl,rfl,h⟩:=h
 exact⟨zgJ a E,(zaf (zbJ (zal G_look_boxes (hr.mono (by decide)) rfl T.m_look_boxes T.F_look_boxes.kp T.b_look_boxes .nil zjj (zaa (pv 0) zad)))
 (zam (zaD (zal G_cost_sum (hr.mono (by decide)) rfl T.m_cost_sum T.F_cost_sum.kp T.b_cost_sum .nil zaH (zaa (pv 0) (zaa (pv 1) zad)))))),
  zl5 h⟩
def zhi(K:ψa)(a:Ad)(E:XK):TS :=
 (zaK (zbQ (zar (ziF a) [] E (zab (zac 0) zak)))
 (zbb (zbA (zhF K (zab (zac 0) (zab (zac 1) zak))) (zcW K 2 (zax (zag 0) (zax (zag 1) zcR))) zaE (zar zgg [] E0 (zab (zac 0) (zab (zac 1) zak))) [none,none])))
theorem zmr{E:XK}{vb:V}{pl:Addr}(h:AskC a H E vb pl (∀(r:V) (H':Hp),zaF H H'→Q r H')) :
  zhi K a E { nx:=λ_ H'=>Q .non H',rt:=Q } (L2.start ["boxes","plan"] [vb,.ref pl]) H:=by
 unfold zhi
 simp_all only [zac]
 rcases h with h | ⟨l,ts,bs,ns,rfl,B0,q⟩
 ·exact⟨vb,rfl,.inl h⟩
 refine⟨_,rfl,.inr ⟨l,ts,bs,rfl,B0.gd,λH1 s1=>?_⟩⟩
 have B:=B0.same s1
 have l6:=B.l6
 have ln:=B.len
 refine⟨l,rfl,⟨_,SqL.of B.hl⟩,⟨_,SqL.of B.hp⟩,λD hD=>?_⟩
 refine zeR (f:=fr) (qs:=ψr chq bs ns) B.hl B.hp (by rw[ψn,ψb,ψb,B.hb.1]) (by rw[ψn];omega) hD (λi x z w H3 R hx hz hw s3 k=>?_) λus H2 s2 h2 T2=>q _ _ (s1.trans s2)
 obtain⟨t,ht,rfl⟩:=zaC hx
 obtain⟨n,hn,rfl⟩:=zaC hz
 obtain⟨b,hb1,hb2⟩:=B.hb.at ht
 have e:=zhQ hb1 hn hw
 subst e
 simp_all only [zac]
 exact⟨t,b,n,rfl,s3 _ _ hb2,B.gb b (zaz hb1),(B.gn n (zaz hn)).1,(B.gn n (zaz hn)).2,k⟩
theorem zna:zaA ["boxes","plan"] ["boxes","plan"] (zai zgc):=⟨rfl,rfl,rfl,by decide +kernel,rfl,by decide +kernel,by decide +kernel⟩
theorem zne(T:Txt K mg a):zcC P w K mg base (CXV P w) 5 a.f_found_by a.d_found_by ["boxes","plan"] (zc4 a):=by
 have G_chance:=zgU (P:=P) (w:=w) (base:=base) T
 have G_look_boxes:=zdN (P:=P) (w:=w) (base:=base) T
 refine T.F_found_by.okV zna (λvs H Q E h=>?_) (λcdv A outer s H vs Q E hr h=>?_)
 ·obtain⟨vb,pl,rfl,h⟩:=h
  rfl
 obtain⟨vb,pl,rfl,h⟩:=h
 exact⟨zhi K a E,(zaf (zbJ (zal G_look_boxes (hr.mono (by decide)) rfl T.m_look_boxes T.F_look_boxes.kp T.b_look_boxes .nil zjj (zaa (pv 0) zad)))
 (zam (zaD (zbX (sc:=zai zgc) (N:=["boxes","plan"]) (Nc:=["box","count"]) (cap:=[none,none]) rfl rfl rfl (.of (by decide +kernel)) (zdD rfl T.z_zip (zaa (pv 0) (zaa (pv 1) zad))) (λ_ _ _ _=>(zbw rfl (zap (zao (i:=0) (show ψk (["box","count"]:List Str) from by decide) rfl (Or.inl rfl)) (zap (zao (i:=1) (show ψk (["box","count"]:List Str) from by decide) rfl (Or.inl rfl)) zaW)))) (λ_ _ _ _=>za8) (λ_ _ _ _=>(zal G_chance (hr.mono (by decide)) rfl T.m_chance T.F_chance.kp T.b_chance .nil zaH (zaa (pv 0) (zaa (pv 1) zad)))))))),
  zmr h⟩
def zoc:Sp:=λvs H Q _=>∃(p c:Addr) (t:Int),vs=[.ref p,.int 4]∧Pur H p c t∧t<10000∧∀(l:Addr) (ts:List Addr) (bs:List Box) (t':Int) (H':Hp),zaF (Off p c H) (Off p c H')→Pur H' p c t'→t'≤t+50→Off p c H' l=some (.lst (ts.map V.ref))→Tps bx (Off p c H') ts bs→(∀b∈bs,GB b)→1≤bs.length→bs.length≤6→Q (.ref l) H'
theorem at2{r x y:Int}(h0:0≤r)(h1:r<2):∃v:Int,atI [V.int x,V.int y] r=some (.int v)∧(v=x∨v=y):=by
 have:r=0∨r=1:=by omega
 rcases this with rfl | rfl
 ·exact⟨x,rfl,.inl rfl⟩
 ·exact⟨y,rfl,.inr rfl⟩
def zeH(K:ψa):TS :=
 (zbQ (tBM K "list" zaR (zac 2) (zab (zbV (zab (zac 4) (zab (zac 6) (zab (zac 5) zak)))) zak)))
theorem zc1(K:ψa)(D:zbP)(σ:St)(H:Hp):zeH K D σ H=(zbQ (tBM K "list" zaR (zac 2) (zab (zbV (zab (zac 4) (zab (zac 6) (zab (zac 5) zak)))) zak))) D σ H:=rfl
def zeB(K:ψa):TS :=
 (zaK (za2 (tOp (zhO K) (zcV (zab (tOp (rI0 λi j=>.int (i+j)) (tC (.int 1)) (zar zbT [] E0 (zab (zac 0) (zab (zac 5) zak)))) (zab (zac 5) zak))) (tOp (rI (λ_ j=>0<j∧j.natAbs.log2<9000) λi j=>.int (i / j)) (zar zbT [] E0 (zab (zac 0) (zab (tC (.int 4)) zak))) (tC (.int 3)))) (zag 6))
 (zeH K))
theorem zc3(K:ψa)(D:zbP)(σ:St)(H:Hp):zeB K D σ H=(zaK (za2 (tOp (zhO K) (zcV (zab (tOp (rI0 λi j=>.int (i+j)) (tC (.int 1)) (zar zbT [] E0 (zab (zac 0) (zab (zac 5) zak)))) (zab (zac 5) zak))) (tOp (rI (λ_ j=>0<j∧j.natAbs.log2<9000) λi j=>.int (i / j)) (zar zbT [] E0 (zab (zac 0) (zab (tC (.int 4)) zak))) (tC (.int 3)))) (zag 6))
 (zeH K)) D σ H:=rfl
def zeK(K:ψa):TS :=
 (zaK (za2 (tOp (rI0 λi j=>.int (i+j)) (tC (.int 1)) (zar zbT [] E0 (zab (zac 0) (zab (tOp (zhO K) (zcV (zab (tC (.int 4)) (zab (tC (.int 50)) zak))) (zar zbT [] E0 (zab (zac 0) (zab (tC (.int 2)) zak)))) zak)))) (zag 5))
 (zeB K))
theorem zcY(K:ψa)(D:zbP)(σ:St)(H:Hp):zeK K D σ H=(zaK (za2 (tOp (rI0 λi j=>.int (i+j)) (tC (.int 1)) (zar zbT [] E0 (zab (zac 0) (zab (tOp (zhO K) (zcV (zab (tC (.int 4)) (zab (tC (.int 50)) zak))) (zar zbT [] E0 (zab (zac 0) (zab (tC (.int 2)) zak)))) zak)))) (zag 5))
 (zeB K)) D σ H:=rfl
def zgu(K:ψa):TS :=
 (zaK (za2 (tOp (rI0 λi j=>.int (i+j)) (tC (.int 1)) (zar zbT [] E0 (zab (zac 0) (zab (tOp (zhO K) (zcV (zab (tC (.int 3)) (zab (tC (.int 60)) zak))) (zar zbT [] E0 (zab (zac 0) (zab (tC (.int 2)) zak)))) zak)))) (zag 4))
 (zeK K))
theorem zaJ(K:ψa)(D:zbP)(σ:St)(H:Hp):zgu K D σ H=(zaK (za2 (tOp (rI0 λi j=>.int (i+j)) (tC (.int 1)) (zar zbT [] E0 (zab (zac 0) (zab (tOp (zhO K) (zcV (zab (tC (.int 3)) (zab (tC (.int 60)) zak))) (zar zbT [] E0 (zab (zac 0) (zab (tC (.int 2)) zak)))) zak)))) (zag 4))
 (zeK K)) D σ H:=rfl
def zfJ(K:ψa):TS :=
 (zaK (za2 (zcV zak) (zag 2))
 (zaK (zjy (zg4 (zab (tOp (rI0 λi j=>.int (i+j)) (tC (.int 1)) (zar zbT [] E0 (zab (zac 0) (zab (zac 1) zak)))) zak)) (zag 3)
 (zgu K))
 (zbb (zac 2))))
theorem zkc{p c:Addr}{t:Int}(hP:Pur H p c t)(t1:t<10000)
  (q:∀(l:Addr) (ts:List Addr) (bs:List Box) (t':Int) (H':Hp),zaF (Off p c H) (Off p c H')→Pur H' p c t'→t'≤t+50→Off p c H' l=some (.lst (ts.map V.ref))→Tps bx (Off p c H') ts bs→(∀b∈bs,GB b)→1≤bs.length→bs.length≤6→Q (.ref l) H') :
  zfJ K { nx:=λ_ H'=>Q .non H',rt:=Q } (L2.start ["_law_purse_here","_law_most","_law_found","_law_k","_law_cost","_law_of","_law_hits"] [.ref p,.int 4]) H:=by
 unfold zfJ
 simp_all only [zaJ,zac]
 refine⟨by decide,λl hl=>?_⟩
 have nl:=hP.new hl
 have P1:=hP.upd (o:=.lst []) nl.1 nl.2
 have s1:zaF (Off p c H) (Off p c (L2.upd H l (.lst []))):=by
  rw[zb1 nl.1 nl.2]
  exact zaq (zff hl) _
 have hl1:Off p c (L2.upd H l (.lst [])) l=some (.lst []):=by
  rw[zb1 nl.1 nl.2]
  exact zaj
 generalize L2.upd H l (.lst [])=H1 at P1 s1 hl1 ⊢
 refine⟨p,c,t,4,rfl,P1,by omega,by decide,by decide,λr H2 r0 r1 o2 P2=>?_⟩
 simp_all only [zaJ,zac]
 refine⟨by omega,by omega,?_⟩
 refine ze0 (λi σ H'=>∃(ts:List Addr) (bs:List Box) (u:Int),zaF (Off p c H) (Off p c H')∧Pur H' p c u∧u≤t+1+7*i∧Off p c H' l=some (.lst (ts.map V.ref))∧Tps bx (Off p c H') ts bs∧(∀b∈bs,GB b)∧bs.length=i∧∃k x y z,σ=[some (.ref p),some (.int 4),some (.ref l),k,x,y,z]) ?_ ?_ ?_
 ·refine⟨[],[],t+1,by rw[o2];exact s1,P2,by omega,by rw[o2];exact hl1,.nil,by simp,rfl,_,_,_,_,rfl⟩
 ·rintro i σ H3 hi ⟨ts,bs,u,s3,P3,hu,hl3,hb3,gb,lb,k,x,y,z,rfl⟩
  have u0:=P3.t0
  simp_all only [zaJ,zac]
  refine⟨by decide,λd1 hd1=>?_⟩
  have n1:=P3.new hd1
  have P4:=P3.upd (o:=.lst [.int 3,.int 60]) n1.1 n1.2
  have hd1':(L2.upd H3 d1 (.lst [.int 3,.int 60])) d1=some (.lst [.int 3,.int 60]):=zaj
  have s4:zaF (Off p c H3) (Off p c (L2.upd H3 d1 (.lst [.int 3,.int 60]))):=by
   rw[zb1 n1.1 n1.2]
   exact zaq (zff hd1) _
  have e4:Off p c (L2.upd H3 d1 (.lst [.int 3,.int 60])) d1=some (.lst [.int 3,.int 60]):=by
   rw[zt5 n1.1 n1.2]
   exact hd1'
  generalize L2.upd H3 d1 (.lst [.int 3,.int 60])=H4 at P4 s4 e4 ⊢
  refine⟨p,c,u,2,rfl,P4,by omega,by decide,by decide,λr1 H5 r10 r11 o5 P5=>?_⟩
  obtain⟨m1,em1,hm1⟩:=at2 (x:=3) (y:=60) r10 r11
  rw[← o5] at e4 s4
  have e4':=zbc _ _ _ _ _ e4
  simp_all only [zaJ,zac]
  refine⟨_,SqL.of e4',_,em1,?_⟩
  refine⟨p,c,u+1,m1,rfl,P5,by omega,by omega,by omega,λcost H6 c0 c1 o6 P6=>?_⟩
  rw[← o6] at s4
  simp_all only [zaJ,zac]
  ((try simp only);first | rw[zc1] | rw[zc3] | rw[zcY]);simp_all only [zaJ,zac]
  refine⟨by decide,λd2 hd2=>?_⟩
  have n2:=P6.new hd2
  have P7:=P6.upd (o:=.lst [.int 4,.int 50]) n2.1 n2.2
  have s7:zaF (Off p c H6) (Off p c (L2.upd H6 d2 (.lst [.int 4,.int 50]))):=by
   rw[zb1 n2.1 n2.2]
   exact zaq (zff hd2) _
  have e7:Off p c (L2.upd H6 d2 (.lst [.int 4,.int 50])) d2=some (.lst [.int 4,.int 50]):=by
   rw[zb1 n2.1 n2.2]
   exact zaj
  generalize L2.upd H6 d2 (.lst [.int 4,.int 50])=H7 at P7 s7 e7 ⊢
  refine⟨p,c,u+1+1,2,rfl,P7,by omega,by decide,by decide,λr2 H8 r20 r21 o8 P8=>?_⟩
  obtain⟨m2,em2,hm2⟩:=at2 (x:=4) (y:=50) r20 r21
  rw[← o8] at e7 s7
  have e7':=zbc _ _ _ _ _ e7
  simp_all only [zaJ,zac]
  refine⟨_,SqL.of e7',_,em2,?_⟩
  refine⟨p,c,_,m2,rfl,P8,by omega,by omega,by omega,λof H9 of0 of1 o9 P9=>?_⟩
  rw[← o9] at s7
  simp_all only [zaJ,zac]
  ((try simp only);first | rw[zc1] | rw[zc3] | rw[zcY]);simp_all only [zaJ,zac]
  refine⟨p,c,_,1+of,rfl,P9,by omega,by omega,by omega,λh H10 h0 h1 o10 P10=>?_⟩
  simp_all only [zaJ,zac]
  refine⟨by decide,λd3 hd3=>?_⟩
  have n3:=P10.new hd3
  have P11:=P10.upd (o:=.lst [.int (1+h),.int (1+of)]) n3.1 n3.2
  have s11:zaF (Off p c H10) (Off p c (L2.upd H10 d3 (.lst [.int (1+h),.int (1+of)]))):=by
   rw[zb1 n3.1 n3.2]
   exact zaq (zff hd3) _
  have e11:Off p c (L2.upd H10 d3 (.lst [.int (1+h),.int (1+of)])) d3=some (.lst [.int (1+h),.int (1+of)]):=by
   rw[zb1 n3.1 n3.2]
   exact zaj
  rw[o10] at s11
  generalize L2.upd H10 d3 (.lst [.int (1+h),.int (1+of)])=H11 at P11 s11 e11 ⊢
  refine⟨p,c,_,4,rfl,P11,by omega,by decide,by decide,λr3 H12 r30 r31 o12 P12=>?_⟩
  simp_all only [zaJ,zac]
  rw[← o12] at e11 s11
  have e11':=zbc _ _ _ _ _ e11
  obtain⟨m3,em3,hm3⟩:=at2 (x:=1+h) (y:=1+of) (r:=r3 / 3) (by omega) (by omega)
  refine⟨by decide,by decide +kernel,_,SqL.of e11',_,em3,?_⟩
  ((try simp only);first | rw[zc1] | rw[zc3] | rw[zcY]);simp_all only [zaJ,zac]
  have sA:zaF (Off p c H3) (Off p c H12):=s4.trans (s7.trans s11)
  have hl12:=sA _ _ hl3
  have hl12':=zbc _ _ _ _ _ hl12
  refine⟨.inl ⟨rfl,_,SqL.of hl12'⟩,by decide,λb hb=>?_⟩
  have n4:=P12.new hb
  have ne:l≠b:=zaM hl12' hb
  have hlt:=(List.getElem?_eq_none_iff (l:=ts) (i:=ts.length)).mpr (ψh _)
  refine⟨_,by rw[zaP ne];exact hl12',zbC (by rw[ψb,hb3.1];omega),?_⟩
  have P13:=(P12.upd (o:=.tup (bx (1+cost,m3,1+of))) n4.1 n4.2).upd (o:=.lst (ts.map V.ref++[.ref b])) nl.1 nl.2
  refine⟨?_,ts++[b],bs++[(1+cost,m3,1+of)],_,P13,by omega,?_,?_,?_,by rw[ψs,lb];rfl⟩
  ·rw[zb1 nl.1 nl.2,zb1 n4.1 n4.2]
   exact((s3.trans sA).add (zff hb)).put (zff hl)
  ·rw[zb1 nl.1 nl.2,zaj,ψb1]
   rfl
  ·refine hb3.put (λx v hx=>?_) ?_
   ·have hx':=sA _ _ hx
    rw[zb1 nl.1 nl.2,zb1 n4.1 n4.2,zaP (zwA hx' hl12 (by simp)),zaP (zaM hx' (zff hb))]
    exact hx'
   ·rw[zb1 nl.1 nl.2,zb1 n4.1 n4.2,zaP ne.symm,zaj]
  ·intro x hx
   rcases List.mem_append.mp hx with hx | hx
   ·exact gb x hx
   ·have:x=(1+cost,m3,1+of):=by simpa using hx
    subst this
    refine⟨?_,?_,?_,?_,?_⟩ <;> simp only <;> omega
 ·rintro σ H' ⟨ts,bs,u,s3,P3,hu,hl3,hb3,gb,lb,k,x,y,z,rfl⟩
  simp_all only [zaJ,zac]
  exact q l ts bs u H' s3 P3 (by omega) hl3 hb3 gb (by omega) (by omega)
theorem zcs:zaA ["_law_purse_here","_law_most","_law_found","_law_k","_law_cost","_law_of","_law_hits"] ["_law_purse_here","_law_most"] (zai zfY):=⟨rfl,rfl,rfl,by decide +kernel,rfl,by decide +kernel,by decide +kernel⟩
theorem zkS(T:Txt K mg a):zcC P w K mg base CX0 2 a.f__law_boxes a.d__law_boxes ["_law_purse_here","_law_most"] zoc:=by
 have G__law_draw:=zej (P:=P) (w:=w) (base:=base) T
 refine T.F__law_boxes.ok zcs (λvs H Q E h=>?_) (λcdv A outer s H vs Q E hr h=>?_)
 ·obtain⟨p,c,t,rfl,hP,t1,q⟩:=h
  rfl
 obtain⟨p,c,t,rfl,hP,t1,q⟩:=h
 exact⟨zfJ K,(zaf (zaL (i:=2) zcs.nd rfl (Or.inl rfl) (zbK zad))
 (zaf (zeq PassesOwn.never rfl (zd1 rfl T.z_range (zaa (zaB zcT zah (zal G__law_draw (hr.mono (by decide)) rfl T.m__law_draw T.F__law_draw.kp T.b__law_draw .nil zaH (zaa (pv 0) (zaa (pv 1) zad)))) zad)) (zao (i:=3) zcs.nd rfl (Or.inl rfl))
 (zaf (zaL (i:=4) zcs.nd rfl (Or.inl rfl) (zaB zcT zah (zal G__law_draw (hr.mono (by decide)) rfl T.m__law_draw T.F__law_draw.kp T.b__law_draw .nil zaH (zaa (pv 0) (zaa (zaS zdv (zbK (zaa zah (zaa zah zad))) (zal G__law_draw (hr.mono (by decide)) rfl T.m__law_draw T.F__law_draw.kp T.b__law_draw .nil zaH (zaa (pv 0) (zaa zah zad))) (λ_ _=>rfl)) zad)))))
 (zaf (zaL (i:=5) zcs.nd rfl (Or.inl rfl) (zaB zcT zah (zal G__law_draw (hr.mono (by decide)) rfl T.m__law_draw T.F__law_draw.kp T.b__law_draw .nil zaH (zaa (pv 0) (zaa (zaS zdv (zbK (zaa zah (zaa zah zad))) (zal G__law_draw (hr.mono (by decide)) rfl T.m__law_draw T.F__law_draw.kp T.b__law_draw .nil zaH (zaa (pv 0) (zaa zah zad))) (λ_ _=>rfl)) zad)))))
 (zaf (zaL (i:=6) zcs.nd rfl (Or.inl rfl) (zaS zdv (zbK (zaa (zaB zcT zah (zal G__law_draw (hr.mono (by decide)) rfl T.m__law_draw T.F__law_draw.kp T.b__law_draw .nil zaH (zaa (pv 0) (zaa (pv 5) zad)))) (zaa (pv 5) zad))) (zaB zsa (zal G__law_draw (hr.mono (by decide)) rfl T.m__law_draw T.F__law_draw.kp T.b__law_draw .nil zaH (zaa (pv 0) (zaa zah zad))) zah) (λ_ _=>rfl)))
 (zam (zbJ (zia ψB ψy ψz zbN (pv 2) (zaa (za3 (zaa (pv 4) (zaa (pv 6) (zaa (pv 5) zad)))) zad))))))))
 (zam (zaD (pv 2))))),
  zkc hP t1 q⟩
theorem Pur.put{H:Hp}{p c:Addr}{t:Int}(P:Pur H p c t){b:Addr}(hb:H b=none)(o:HO):zaF (Off p c H) (Off p c (L2.upd H b o))∧Off p c (L2.upd H b o) b=some o∧Pur (L2.upd H b o) p c t:=by
 have n:=P.new hb
 rw[zb1 n.1 n.2]
 exact⟨zaq (zff hb) _,zaj,P.upd n.1 n.2⟩
theorem zfz{p c:Addr}{H H':Hp}(o:Off p c H'=Off p c H):zaF (Off p c H) (Off p c H'):=by
 rw[o]
 exact .refl _
def zlf(H:Hp)(xs:List V):Prop:=∀x∈xs,BxR H x false
theorem zlf.nil{H:Hp}:zlf H []:=λ_ h=>nomatch h
theorem zlf.cons{H:Hp}{x:V}{xs:List V}(h:BxR H x false)(hs:zlf H xs):zlf H (x::xs):=λy hy=>(List.mem_cons.mp hy).elim (λe=>e ▸ h) (hs y)
theorem zlf.same{H H':Hp}{xs:List V}(h:zlf H xs)(s:zaF H H'):zlf H' xs:=λx hx=>(h x hx).same s
theorem zlf.app{H:Hp}{xs ys:List V}(h:zlf H xs)(h':zlf H ys):zlf H (xs++ys):=λx hx=>(List.mem_append.mp hx).elim (h x) (h' x)
theorem nbl{H:Hp}{t:Addr}{ys:List V}(ht:H t=some (.lst ys)):BxR H (.ref t) false:=.inl ⟨λa ys e h=>by { cases e;rw[ht] at h;cases h },.lst ht,rfl⟩
theorem nbn{H:Hp}:BxR H .non false:=.inl ⟨λa ys e=>(nomatch e),.non,rfl⟩
theorem nbi{H:Hp}{i:Int}:BxR H (.int i) false:=.inl ⟨λa ys e=>(nomatch e),.int i,rfl⟩
theorem Tg.ptl{H:Hp}{l:Addr}{xs ys:List V}{v:V}(h:Tg H v)(hl:H l=some (.lst xs)):Tg (L2.upd H l (.lst ys)) v:=by
 cases h with
 | non=>exact .non
 | bl b=>exact .bl b
 | int i=>exact .int i
 | str x=>exact .str x
 | @lst a _ h=>exact(Decidable.em (a=l)).elim (λe=>.lst (xs:=ys) (by rw[e];exact zaj)) λe=>.lst ((zaP e).trans h)
 | tup h=>exact .tup ((zaP (zwA h hl (by simp))).trans h)
theorem BxR.ptl{H:Hp}{l:Addr}{xs ys:List V}{v:V}{b:Bool}(h:BxR H v b)(hl:H l=some (.lst xs)):BxR (L2.upd H l (.lst ys)) v b:=by
 rcases h with ⟨h1,h2,h3⟩ | ⟨t,zs,e,ht,h2,h3⟩
 ·refine .inl ⟨λa zs e z=>?_,h2.ptl hl,h3⟩
  by_cases n:a=l
  ·rw[n,zaj] at z
   cases z
  ·rw[zaP n] at z
   exact h1 a zs e z
 ·exact .inr ⟨t,zs,e,(zaP (zwA ht hl (by simp))).trans ht,λy hy=>(h2 y hy).ptl hl,h3⟩
def flt:V→Bool
 | .int _ | .bl _ | .str _=>true
 | _=>false
theorem zyJ{H:Hp}{ys:List V}(h:ys.all flt=true):∀y∈ys,Tg H y:=λy hy=>by
 have:=List.all_eq_true.mp h y hy
 cases y <;> first | exact .int _ | exact .bl _ | exact .str _ | cases this
theorem gB3{c h o:Int}(n:1≤c→c≤60→1≤h→h≤o→o≤50→False):gB [.int c,.int h,.int o]=false:=by
 show(decide (1≤c∧c≤60)&&decide (1≤o∧o≤50)&&decide (1≤h∧h≤o))=false
 rw[Bool.eq_false_iff]
 intro z
 rw[ψL,ψL,decide_eq_true_eq,decide_eq_true_eq,decide_eq_true_eq] at z
 exact n z.1.1.1 z.1.1.2 z.2.1 z.2.2 z.1.2.2
def EvV(te:TE)(σ:St)(v:V):Prop:=∀(H:Hp) (R:VK),R v H→te σ H R
def zur(ta:TA)(σ:St)(vs:List V):Prop:=∀(H:Hp) (R:List V→Hp→Prop),R vs H→ta σ H R
def EvB(te:TE)(σ:St)(p c:Addr):Prop:=∀(H:Hp) (u:Int) (R:VK),Pur H p c u→(∀v H',zaF (Off p c H) (Off p c H')→Pur H' p c u→BxR (Off p c H') v false→R v H')→te σ H R
def zuA(ta:TA)(σ:St)(p c:Addr)(n:Nat):Prop:=∀(H:Hp) (u:Int) (R:List V→Hp→Prop),Pur H p c u→(∀vs H',zaF (Off p c H) (Off p c H')→Pur H' p c u→zlf (Off p c H') vs→vs.length=n→R vs H')→ta σ H R
section
variable {σ:St} {te ta tb:TE} {tas:TA} {p c l:Addr} {u i j:Int} {v:V} {vs xs:List V} {n m:Nat} {T:TS} {D:zbP}
theorem EvV.var(h:σ[n]?=some (some v)):EvV (zac n) σ v:=λ_ _ q=>⟨v,h,q⟩
theorem EvV.con:EvV (tC v) σ v:=λ_ _ q=>q
theorem EvV.op{g:Int→Int→V}(a:EvV ta σ (.int i))(b:EvV tb σ (.int j)):EvV (tOp (rI0 g) ta tb) σ (g i j):=λH R q=>a H _ (b H _ ⟨i,j,rfl,rfl,q⟩)
theorem EvV.un{g:Int→V}(a:EvV ta σ (.int i)):EvV (tUn (rU g) ta) σ (g i):=λH R q=>a H _ ⟨i,rfl,q⟩
theorem zur.nil:zur zak σ []:=λ_ _ q=>q
theorem zur.cons(e:EvV te σ v)(a:zur tas σ vs):zur (zab te tas) σ (v::vs):=λH R q=>e H _ (a H _ q)
theorem EvB.con(h:∀H,BxR H v false):EvB (tC v) σ p c:=λH u R P q=>q v H (.refl _) P (h _)
theorem EvB.tup(a:zur tas σ vs)(l:Nat.ble vs.length 9=true)(f:vs.all flt=true)(g:gB vs=false):EvB (zbV tas) σ p c:=λH u R P q=>a H _ ⟨ψF (Nat.le_of_ble_eq_true l) (by decide),λb hb=>by
 obtain⟨s,e,P1⟩:=P.put hb (.tup vs)
 exact q _ _ s P1 (.inr ⟨b,vs,rfl,e,zyJ f,g.symm⟩)⟩
theorem EvB.lst(a:zur tas σ vs)(l:Nat.ble vs.length 9=true):EvB (zcV tas) σ p c:=λH u R P q=>a H _ ⟨ψF (Nat.le_of_ble_eq_true l) (by decide),λb hb=>by
 obtain⟨s,e,P1⟩:=P.put hb (.lst vs)
 exact q _ _ s P1 (nbl e)⟩
theorem zuA.nil:zuA zak σ p c 0:=λH u R P q=>q [] H (.refl _) P .nil rfl
theorem zuA.cons(e:EvB te σ p c)(a:zuA tas σ p c n):zuA (zab te tas) σ p c (n+1):=λH u R P q=>e H u _ P λv H1 s1 P1 b=>a H1 u _ P1 λvs H2 s2 P2 A l=>q (v::vs) H2 (s1.trans s2) P2 (.cons (b.same s2) A) (congrArg (·+1) l)
theorem bents(a:zuA tas σ p c n)(P:Pur H p c u)(l:n≤sizeLine)(k:∀q xs H',zaF (Off p c H) (Off p c H')→Pur H' p c u→Off p c H' q=some (.lst xs)→zlf (Off p c H') xs→xs.length=n→T D (σ.set m (some (.ref q))) H'):zaK (za2 (zcV tas) (zag m)) T D σ H:=a H u _ P λvs H1 s1 P1 A e=>⟨e ▸ l,λb hb=>by
 obtain⟨s,e2,P2⟩:=P1.put hb (.lst vs)
 exact k b vs _ (s1.trans s) P2 e2 (A.same s) e⟩
theorem bcat(a:zuA tas σ p c n)(P:Pur H p c u)(ek:σ[m]?=some (some (.ref l)))(hl:Off p c H l=some (.lst xs))(A:zlf (Off p c H) xs)(z:xs.length+n≤sizeLine)(k:∀q ys H',zaF (Off p c H) (Off p c H')→Pur H' p c u→Off p c H q=none→Off p c H' q=some (.lst ys)→zlf (Off p c H') ys→ys.length=xs.length+n→T D (σ.set m (some (.ref q))) H'):zaK (za2 (tOp zox (zac m) (zcV tas)) (zag m)) T D σ H:=⟨_,ek,a H u _ P λvs H1 s1 P1 A1 e=>⟨by omega,λb hb=>by
 obtain⟨s2,e2,P2⟩:=P1.put hb (.lst vs)
 have s:=s1.trans s2
 refine⟨l,b,xs,vs,rfl,rfl,zbc _ _ _ _ _ (s _ _ hl),zbc _ _ _ _ _ e2,e ▸ z,λd hd=>?_⟩
 obtain⟨s3,e3,P3⟩:=P2.put hd (.lst (xs++vs))
 refine k d _ _ (s.trans s3) P3 ?_ e3 (((A.same s).app (A1.same s2)).same s3) (by rw[ψs,e])
 cases h:Off p c H d with
 | none=>rfl
 | some o=>exact absurd (zbc _ _ _ _ _ (s _ _ h)) (by rw[hd];exact nofun)⟩⟩
theorem bapp{H0:Hp}(a:EvB te σ p c)(P:Pur H p c u)(S:zaF (Off p c H0) (Off p c H))(n0:Off p c H0 l=none)(ek:σ[m]?=some (some (.ref l)))(hl:Off p c H l=some (.lst xs))(A:zlf (Off p c H) xs)(z:xs.length<sizeLine)(k:∀ys H',zaF (Off p c H0) (Off p c H')→Pur H' p c u→Off p c H' l=some (.lst ys)→zlf (Off p c H') ys→ys.length=xs.length+1→T D σ H'):zaK (zbQ (tBM K "list" zaR (zac m) (zab te zak))) T D σ H:=⟨_,ek,.inl ⟨rfl,_,SqL.of (zbc _ _ _ _ _ hl)⟩,a H u _ P λv H1 s1 P1 b=>by
 have h1:=s1 _ _ hl
 have n:=zub h1
 refine⟨l,xs,v,rfl,rfl,zbc _ _ _ _ _ h1,z,?_⟩
 have A2:=(A.same s1).app (.cons b .nil)
 refine k (xs++[v]) _ ?_ (P1.upd n.1 n.2) ?_ ?_ ψs
 ·rw[zb1 n.1 n.2]
  exact(S.trans s1).put n0
 ·rw[zb1 n.1 n.2]
  exact zaj
 ·rw[zb1 n.1 n.2]
  exact λx hx=>(A2 x hx).ptl h1⟩
end
open Classical in
theorem zqn{H:Hp}{l:Addr}{xs:List V}(hl:H l=some (.lst xs))(xl:xs.length≤900)(h:∀x∈xs,∃c,BxR H x c)(hb:(∃x∈xs,BxR H x false)∨xs.length=0∨6<xs.length):zpj H (.ref l):=by
 refine .inr ⟨l,xs,xs.map λx=>if BxR H x false then false else true,rfl,hl,xl,⟨by rw[ψb],λi x c e1 e2=>?_⟩,λg=>?_⟩
 ·rw[ψD,e1] at e2
  cases e2
  show BxR H x (if BxR H x false then false else true)
  by_cases z:BxR H x false
  ·rw[if_pos z];exact z
  ·rw[if_neg z]
   obtain⟨c,hc⟩:=h x (zaz e1)
   cases c with
   | true=>exact hc
   | false=>exact absurd hc z
 ·rcases hb with ⟨x,hx,z⟩ | h0 | h6
  ·have:=List.all_eq_true.mp g.2.2 _ (List.mem_map.mpr ⟨x,hx,if_pos z⟩)
   cases this
  ·have:=g.1
   rw[ψb] at this
   omega
  ·have:=g.2.1
   rw[ψb] at this
   omega
theorem GdB.tru{H:Hp}{l:Addr}{ts:List Addr}{bs:List Box}(G:GdB H l ts bs):∀x∈ts.map V.ref,∃c,BxR H x c:=λx hx=>by
 obtain⟨i,ei⟩:=ψp hx
 have li:=(List.getElem?_eq_some_iff.mp ei).1
 rw[ψb,G.hb.1] at li
 exact⟨true,G.bxl.1.2 i x true ei (by rw[ψD,ψd li];rfl)⟩
theorem iteP{c A B:Prop}[Decidable c](h:c)(a:A):if c then A else B:=by rw[if_pos h];exact a
theorem zwo{c A B:Prop}[Decidable c](h:¬ c)(b:B):if c then A else B:=by rw[if_neg h];exact b
theorem zqj(xs:List V)(lo hi:Option Int):(zgT xs lo hi).length≤xs.length:=by
 unfold zgT
 rw[ψH,ψD1]
 omega
theorem zqo{xs:List V}{lo hi:Option Int}{x:V}(h:x∈zgT xs lo hi):x∈xs:=List.mem_of_mem_drop (List.mem_of_mem_take h)
theorem zy2:zvQ 10 29:=⟨by decide,by decide,by decide⟩
def zjd:Sp:=λvs H Q _=>∃(p c l:Addr) (t:Int) (ts:List Addr) (bs:List Box),vs=[.ref p,.ref l]∧Pur H p c t∧t<10000∧GdB (Off p c H) l ts bs∧∀(v:V) (t':Int) (H':Hp),zaF (Off p c H) (Off p c H')→Pur H' p c t'→t'≤t+3→zpj (Off p c H') v→Q v H'
def zcm(K:ψa):TS :=
 (zbb (tOp (zhO K) (zcV (zab (zcV zak) (zab (tOp zuj (zac 1) (tC (.int 7))) (zab (tCB (λxs H Q=>∃p ys,xs=[.ref p]∧((SqL K H p ys∧∀l,H l=none→Q (.ref l) (upd H l (.tup ys)))∨(SqT K H p ys∧Q (.ref p) H))) (zab (zac 1) zak)) (zab (tC .non) zak))))) (tOp (rI0 λi j=>.int (i - j)) (zac 8) (tCB (λxs H Q=>∃p ys,xs=[.ref p]∧(SqL K H p ys∨SqT K H p ys)∧Q (.int ys.length) H) (zab (zac 7) zak)))))
theorem zaU(K:ψa)(D:zbP)(σ:St)(H:Hp):zcm K D σ H=(zbb (tOp (zhO K) (zcV (zab (zcV zak) (zab (tOp zuj (zac 1) (tC (.int 7))) (zab (tCB (λxs H Q=>∃p ys,xs=[.ref p]∧((SqL K H p ys∧∀l,H l=none→Q (.ref l) (upd H l (.tup ys)))∨(SqT K H p ys∧Q (.ref p) H))) (zab (zac 1) zak)) (zab (tC .non) zak))))) (tOp (rI0 λi j=>.int (i - j)) (zac 8) (tCB (λxs H Q=>∃p ys,xs=[.ref p]∧(SqL K H p ys∨SqT K H p ys)∧Q (.int ys.length) H) (zab (zac 7) zak))))) D σ H:=rfl
def zcp(K:ψa):TS :=
 (zca (zbE (tOp (rI0 λi j=>.bl (decide (i<j))) (zac 8) (tCB (λxs H Q=>∃p ys,xs=[.ref p]∧(SqL K H p ys∨SqT K H p ys)∧Q (.int ys.length) H) (zab (zac 7) zak)))) (zbb (tOp zox (tOp zox (tSl (zsb K) (zac 1) zfe (zle (zac 3))) (zcV (zab (tOp (zhO K) (zac 7) (zac 8)) zak))) (tSl (zsb K) (zac 1) (zle (tOp (rI0 λi j=>.int (i+j)) (zac 3) (tC (.int 1)))) zfe))) zaV)
theorem zaT(K:ψa)(D:zbP)(σ:St)(H:Hp):zcp K D σ H=(zca (zbE (tOp (rI0 λi j=>.bl (decide (i<j))) (zac 8) (tCB (λxs H Q=>∃p ys,xs=[.ref p]∧(SqL K H p ys∨SqT K H p ys)∧Q (.int ys.length) H) (zab (zac 7) zak)))) (zbb (tOp zox (tOp zox (tSl (zsb K) (zac 1) zfe (zle (zac 3))) (zcV (zab (tOp (zhO K) (zac 7) (zac 8)) zak))) (tSl (zsb K) (zac 1) (zle (tOp (rI0 λi j=>.int (i+j)) (zac 3) (tC (.int 1)))) zfe))) zaV) D σ H:=rfl
def zc2(K:ψa):TS :=
 (zaK (za2 (zar zbT [] E0 (zab (zac 0) (zab (tOp (rI0 λi j=>.int (i+j)) (tCB (λxs H Q=>∃p ys,xs=[.ref p]∧(SqL K H p ys∨SqT K H p ys)∧Q (.int ys.length) H) (zab (zac 7) zak)) (tC (.int 4))) zak))) (zag 8))
 (zaK (zdq (zcp K))
 (zcm K)))
theorem zdF(K:ψa)(D:zbP)(σ:St)(H:Hp):zc2 K D σ H=(zaK (za2 (zar zbT [] E0 (zab (zac 0) (zab (tOp (rI0 λi j=>.int (i+j)) (tCB (λxs H Q=>∃p ys,xs=[.ref p]∧(SqL K H p ys∨SqT K H p ys)∧Q (.int ys.length) H) (zab (zac 7) zak)) (tC (.int 4))) zak))) (zag 8))
 (zaK (zdq (zcp K))
 (zcm K))) D σ H:=rfl
def zcl(K:ψa):TS :=
 (zaK (za2 (tOp zox (zac 7) (zcV (zab (zbV (zab (tC (.bl true)) (zab (tC (.int 1)) (zab (tC (.int 1)) zak)))) (zab (zbV (zab (zac 4) (zab (tC (.bl true)) (zab (zac 6) zak)))) (zab (zbV (zab (zac 4) (zab (tC (.int 1)) (zab (tC (.bl true)) zak)))) (zab (zbV (zab (tC (.str "1")) (zab (zac 5) (zab (zac 6) zak)))) (zab (tC .non) (zab (zcV (zab (zac 4) (zab (zac 5) (zab (zac 6) zak)))) (zab (tC (.int 5)) (zab (zbV zak) zak)))))))))) (zag 7))
 (zc2 K))
theorem zdK(K:ψa)(D:zbP)(σ:St)(H:Hp):zcl K D σ H=(zaK (za2 (tOp zox (zac 7) (zcV (zab (zbV (zab (tC (.bl true)) (zab (tC (.int 1)) (zab (tC (.int 1)) zak)))) (zab (zbV (zab (zac 4) (zab (tC (.bl true)) (zab (zac 6) zak)))) (zab (zbV (zab (zac 4) (zab (tC (.int 1)) (zab (tC (.bl true)) zak)))) (zab (zbV (zab (tC (.str "1")) (zab (zac 5) (zab (zac 6) zak)))) (zab (tC .non) (zab (zcV (zab (zac 4) (zab (zac 5) (zab (zac 6) zak)))) (zab (tC (.int 5)) (zab (zbV zak) zak)))))))))) (zag 7))
 (zc2 K)) D σ H:=rfl
def zcv(K:ψa):TS :=
 (zaK (zbQ (tBM K "list" zaR (zac 7) (zab (zbV (zab (zac 4) (zab (zac 5) (zab (zac 6) (zab (tC (.int 1)) zak))))) zak)))
 (zcl K))
theorem zdL(K:ψa)(D:zbP)(σ:St)(H:Hp):zcv K D σ H=(zaK (zbQ (tBM K "list" zaR (zac 7) (zab (zbV (zab (zac 4) (zab (zac 5) (zab (zac 6) (zab (tC (.int 1)) zak))))) zak)))
 (zcl K)) D σ H:=rfl
def zct(K:ψa):TS :=
 (zaK (za2 (tOp zox (zac 7) (zcV (zab (zbV (zab (zac 4) (zab (tOp (rI0 λi j=>.int (i - j)) (tC (.int 0)) (zac 5)) (zab (zac 6) zak)))) (zab (zbV (zab (zac 4) (zab (tC (.int 51)) (zab (tC (.int 51)) zak)))) (zab (zbV (zab (zac 4) (zab (zac 5) (zab (zac 2) zak)))) (zab (zbV (zab (zac 4) (zab (tC (.int 0)) (zab (tC (.int 0)) zak)))) (zab (zbV (zab (zac 4) (zab (zac 5) zak))) zak))))))) (zag 7))
 (zcv K))
theorem zdH(K:ψa)(D:zbP)(σ:St)(H:Hp):zct K D σ H=(zaK (za2 (tOp zox (zac 7) (zcV (zab (zbV (zab (zac 4) (zab (tOp (rI0 λi j=>.int (i - j)) (tC (.int 0)) (zac 5)) (zab (zac 6) zak)))) (zab (zbV (zab (zac 4) (zab (tC (.int 51)) (zab (tC (.int 51)) zak)))) (zab (zbV (zab (zac 4) (zab (zac 5) (zab (zac 2) zak)))) (zab (zbV (zab (zac 4) (zab (tC (.int 0)) (zab (tC (.int 0)) zak)))) (zab (zbV (zab (zac 4) (zab (zac 5) zak))) zak))))))) (zag 7))
 (zcv K)) D σ H:=rfl
def zco(K:ψa):TS :=
 (zaK (za2 (zcV (zab (zbV (zab (tC (.int 0)) (zab (zac 5) (zab (zac 6) zak)))) (zab (zbV (zab (zac 2) (zab (zac 5) (zab (zac 6) zak)))) (zab (zbV (zab (tC (.int 61)) (zab (zac 5) (zab (zac 6) zak)))) (zab (zbV (zab (tOp (rI0 λi j=>.int (i - j)) (tUn (rU λi=>.int (-i)) (tC (.int 1))) (zac 2)) (zab (zac 5) (zab (zac 6) zak)))) (zab (zbV (zab (zac 4) (zab (tC (.int 0)) (zab (zac 6) zak)))) (zab (zbV (zab (zac 4) (zab (tOp (rI0 λi j=>.int (i+j)) (zac 6) (tC (.int 1))) (zab (zac 6) zak)))) zak))))))) (zag 7))
 (zct K))
theorem zdM(K:ψa)(D:zbP)(σ:St)(H:Hp):zco K D σ H=(zaK (za2 (zcV (zab (zbV (zab (tC (.int 0)) (zab (zac 5) (zab (zac 6) zak)))) (zab (zbV (zab (zac 2) (zab (zac 5) (zab (zac 6) zak)))) (zab (zbV (zab (tC (.int 61)) (zab (zac 5) (zab (zac 6) zak)))) (zab (zbV (zab (tOp (rI0 λi j=>.int (i - j)) (tUn (rU λi=>.int (-i)) (tC (.int 1))) (zac 2)) (zab (zac 5) (zab (zac 6) zak)))) (zab (zbV (zab (zac 4) (zab (tC (.int 0)) (zab (zac 6) zak)))) (zab (zbV (zab (zac 4) (zab (tOp (rI0 λi j=>.int (i+j)) (zac 6) (tC (.int 1))) (zab (zac 6) zak)))) zak))))))) (zag 7))
 (zct K)) D σ H:=rfl
def zeO(K:ψa):TS :=
 (zaK (za2 (zar zbT [] E0 (zab (zac 0) (zab (tCB (λxs H Q=>∃p ys,xs=[.ref p]∧(SqL K H p ys∨SqT K H p ys)∧Q (.int ys.length) H) (zab (zac 1) zak)) zak))) (zag 3))
 (zaK (za2 (tOp (zhO K) (zac 1) (zac 3)) (zcW K 3 (zax (zag 4) (zax (zag 5) (zax (zag 6) zcR)))))
 (zco K)))
theorem zdI(K:ψa)(D:zbP)(σ:St)(H:Hp):zeO K D σ H=(zaK (za2 (zar zbT [] E0 (zab (zac 0) (zab (tCB (λxs H Q=>∃p ys,xs=[.ref p]∧(SqL K H p ys∨SqT K H p ys)∧Q (.int ys.length) H) (zab (zac 1) zak)) zak))) (zag 3))
 (zaK (za2 (tOp (zhO K) (zac 1) (zac 3)) (zcW K 3 (zax (zag 4) (zax (zag 5) (zax (zag 6) zcR)))))
 (zco K))) D σ H:=rfl
def zd5(K:ψa):TS :=
 (zaK (za2 (tOp (rI0 λi j=>.int (i+j)) (tC (.int 61)) (zar zbT [] E0 (zab (zac 0) (zab (tOp (rI zvQ λi j=>.int (i ^ j.toNat)) (tC (.int 10)) (tC (.int 29))) zak)))) (zag 2))
 (zeO K))
theorem zh0{p c l:Addr}{t:Int}{ts:List Addr}{bs:List Box}(P:Pur H p c t)(t1:t<10000)(G:GdB (Off p c H) l ts bs)(q:∀(v:V) (t':Int) (H':Hp),zaF (Off p c H) (Off p c H')→Pur H' p c t'→t'≤t+3→zpj (Off p c H') v→Q v H') :
  zd5 K { nx:=λ_ H'=>Q .non H',rt:=Q } (L2.start ["_law_purse_here","_law_boxes_here","_law_far","_law_at","_law_cost","_law_hits","_law_of","_law_bent","_law_way"] [.ref p,.ref l]) H:=by
 unfold zd5
 have t0:=P.t0
 have l1:=G.l1
 have l6:=G.l6
 have lt:=G.hb.1
 simp_all only [zaU,zaT,zac]
 refine⟨zy2,?_⟩
 refine⟨p,c,t,_,rfl,P,by omega,by decide,by decide,λf H1 f0 f1 o1 P1=>?_⟩
 have s1:=zfz o1
 have G1:=G.same s1
 refine⟨_,rfl,?_⟩
 ((try simp only);first | rw[zdF] | rw[zdK] | rw[zdL] | rw[zdH] | rw[zdM] | rw[zdI]);simp_all only [zaU,zaT,zac]
 refine⟨_,.inl (SqL.of (zbc _ _ _ _ _ G1.hl)),?_⟩
 refine⟨p,c,t+1,_,rfl,P1,by omega,by rw[ψb];omega,by rw[ψb];omega,λat_ H2 a0 a1 o2 P2=>?_⟩
 rw[ψb] at a1
 have s2:=s1.trans (zfz o2)
 have G2:=G.same s2
 obtain⟨k,rfl⟩:∃k:Nat,at_=k:=⟨at_.toNat,by omega⟩
 have et:ts[k]?=some ts[k]:=ψd (by omega)
 obtain⟨⟨co,hi,of⟩,eb,hb⟩:=G2.hb.at et
 obtain⟨g1,g2,g3,g4,g5⟩:=G.gb _ (zaz eb)
 simp only at g1 g2 g3 g4 g5
 have hl2:=SqL.of (K:=K) (zbc _ _ _ _ _ G2.hl)
 have it:atI (ts.map V.ref) (k:Int)=some (.ref ts[k]):=zg8 (by rw[ψD,et];rfl)
 have hb2:=SqT.of (K:=K) (zbc _ _ _ _ _ hb)
 have S:=s2
 refine⟨_,_,rfl,hl2,_,it,_,rfl,_,hb2,rfl,_,_,rfl,_,_,rfl,_,_,rfl,rfl,?_⟩
 dsimp only
 unfold zco
 refine bents (.cons (.tup (.cons .con (.cons (.var rfl) (.cons (.var rfl) .nil))) rfl rfl (gB3 (λ_ _ _ _ _=>by omega))) (.cons (.tup (.cons (.var rfl) (.cons (.var rfl) (.cons (.var rfl) .nil))) rfl rfl (gB3 (λ_ _ _ _ _=>by omega))) (.cons (.tup (.cons .con (.cons (.var rfl) (.cons (.var rfl) .nil))) rfl rfl (gB3 (λ_ _ _ _ _=>by omega))) (.cons (.tup (.cons (.op (.un .con) (.var rfl)) (.cons (.var rfl) (.cons (.var rfl) .nil))) rfl rfl (gB3 (λ_ _ _ _ _=>by omega))) (.cons (.tup (.cons (.var rfl) (.cons .con (.cons (.var rfl) .nil))) rfl rfl (gB3 (λ_ _ _ _ _=>by omega))) (.cons (.tup (.cons (.var rfl) (.cons (.op (.var rfl) .con) (.cons (.var rfl) .nil))) rfl rfl (gB3 (λ_ _ _ _ _=>by omega))) .nil)))))) P2 (by decide) λq1 xs1 X1 s3 P3 h1 A1 l1'=>?_
 simp_all only [zaU,zaT,zac]
 unfold zct
 refine bcat (.cons (.tup (.cons (.var rfl) (.cons (.op .con (.var rfl)) (.cons (.var rfl) .nil))) rfl rfl (gB3 (λ_ _ _ _ _=>by omega))) (.cons (.tup (.cons (.var rfl) (.cons .con (.cons .con .nil))) rfl rfl (gB3 (λ_ _ _ _ _=>by omega))) (.cons (.tup (.cons (.var rfl) (.cons (.var rfl) (.cons (.var rfl) .nil))) rfl rfl (gB3 (λ_ _ _ _ _=>by omega))) (.cons (.tup (.cons (.var rfl) (.cons .con (.cons .con .nil))) rfl rfl (gB3 (λ_ _ _ _ _=>by omega))) (.cons (.tup (.cons (.var rfl) (.cons (.var rfl) .nil)) rfl rfl rfl) .nil))))) P3 rfl h1 A1 (by rw[l1'];decide) λq2 xs2 X2 s4 P4 n2 h2 A2 l2=>?_
 simp_all only [zaU,zaT,zac]
 unfold zcv
 refine bapp (.tup (.cons (.var rfl) (.cons (.var rfl) (.cons (.var rfl) (.cons .con .nil)))) rfl rfl rfl) P4 s4 n2 rfl h2 A2 (by rw[l2,l1'];decide) λxs3 X3 s5 P5 h3 A3 l3=>?_
 unfold zcl
 refine bcat (.cons (.tup (.cons .con (.cons .con (.cons .con .nil))) rfl rfl rfl) (.cons (.tup (.cons (.var rfl) (.cons .con (.cons (.var rfl) .nil))) rfl rfl (by simp only[gB,wi,Bool.and_false])) (.cons (.tup (.cons (.var rfl) (.cons .con (.cons .con .nil))) rfl rfl (by simp only[gB,wi,Bool.and_false,Bool.false_and])) (.cons (.tup (.cons .con (.cons (.var rfl) (.cons (.var rfl) .nil))) rfl rfl rfl) (.cons (.con λ_=>nbn) (.cons (.lst (.cons (.var rfl) (.cons (.var rfl) (.cons (.var rfl) .nil))) rfl) (.cons (.con λ_=>nbi) (.cons (.tup .nil rfl rfl rfl) .nil)))))))) P5 rfl h3 A3 (by rw[l3,l2,l1'];decide) λq23 xs X4 s6 PA n4 h23 A l4=>?_
 simp_all only [zaU,zaT,zac]
 replace S:=S.trans (s3.trans (s5.trans s6))
 have lx:xs.length=20:=by omega
 ((try simp only);first | rw[zdF] | rw[zdK] | rw[zdL] | rw[zdH] | rw[zdM] | rw[zdI]);simp_all only [zaU,zaT,zac]
 refine⟨_,.inl (SqL.of (zbc _ _ _ _ _ h23)),?_⟩
 refine⟨p,c,t+1+1,_,rfl,PA,by omega,by rw[lx];decide,by rw[lx];decide,λw H3 w0 w1 o3 PB=>?_⟩
 have sB:=zfz o3
 replace A:=A.same sB
 replace h23:=sB _ _ h23
 replace S:=S.trans sB
 have G3:=G.same S
 rw[lx] at w1
 unfold zdq
 refine⟨λσ' H'=>σ'=[some (V.ref p),some (V.ref l),some (V.int (61+f)),some (V.int k),some (.int co),some (.int hi),some (.int of),some (.ref q23),some (.int w)]∧H'=H3∧¬ w<20,?_,?_⟩
 ·unfold zcp
  simp_all only [zaU,zaT,zac]
  refine⟨_,.inl (SqL.of (zbc _ _ _ _ _ h23)),?_⟩
  by_cases hw:w<20
  ·refine iteP (by rw[lx];exact hw) ?_
   obtain⟨j,rfl⟩:∃j:Nat,w=j:=⟨w.toNat,by omega⟩
   refine⟨_,SqL.of (zbc _ _ _ _ _ G3.hl),λr1 n1=>?_⟩
   obtain⟨sC,k1,PC⟩:=PB.put n1 (.lst (zgT (ts.map V.ref) none (some (k:Int))))
   generalize L2.upd H3 r1 (.lst (zgT (ts.map V.ref) none (some (k:Int))))=Y1 at sC k1 PC ⊢
   obtain⟨v,ev⟩:∃v,xs[j]?=some v:=⟨_,ψd (by omega)⟩
   refine⟨_,SqL.of (zbc _ _ _ _ _ (sC _ _ h23)),v,zg8 ev,by decide,λr2 n2=>?_⟩
   obtain⟨sD,k2,PD⟩:=PC.put n2 (.lst [v])
   generalize L2.upd Y1 r2 (.lst [v])=Y2 at sD k2 PD ⊢
   have c1:(zgT (ts.map V.ref) none (some (k:Int))).length≤6:=ψF (zqj _ _ _) (by rw[ψb];omega)
   have c2:(zgT (ts.map V.ref) (some ((k:Int)+1)) none).length≤6:=ψF (zqj _ _ _) (by rw[ψb];omega)
   refine⟨_,zbc _ _ _ _ _ (sD _ _ k1),_,zbc _ _ _ _ _ k2,by show _+1≤sizeLine;exact ψF (Nat.add_le_add_right c1 1) (by decide),λr3 n3=>?_⟩
   obtain⟨sE,k3,PE⟩:=PD.put n3 (.lst (zgT (ts.map V.ref) none (some (k:Int))++[v]))
   generalize L2.upd Y2 r3 (.lst (zgT (ts.map V.ref) none (some (k:Int))++[v]))=Y3 at sE k3 PE ⊢
   have S3:=S.trans (sC.trans (sD.trans sE))
   refine⟨_,SqL.of (zbc _ _ _ _ _ ((G.same S3).hl)),λr4 n4=>?_⟩
   obtain⟨sF,k4,PF⟩:=PE.put n4 (.lst (zgT (ts.map V.ref) (some ((k:Int)+1)) none))
   generalize L2.upd Y3 r4 (.lst (zgT (ts.map V.ref) (some ((k:Int)+1)) none))=Y4 at sF k4 PF ⊢
   have lX:(zgT (ts.map V.ref) none (some (k:Int))++[v]++zgT (ts.map V.ref) (some ((k:Int)+1)) none).length≤13:=by
    rw[ψs,ψs]
    show _+1+_≤13
    omega
   refine⟨_,zbc _ _ _ _ _ (sF _ _ k3),_,zbc _ _ _ _ _ k4,by rw[← ψs];exact ψF lX (by decide),λr5 n5=>?_⟩
   obtain⟨sG,k5,PG⟩:=PF.put n5 (.lst (zgT (ts.map V.ref) none (some (k:Int))++[v]++zgT (ts.map V.ref) (some ((k:Int)+1)) none))
   generalize L2.upd Y4 r5 (.lst (zgT (ts.map V.ref) none (some (k:Int))++[v]++zgT (ts.map V.ref) (some ((k:Int)+1)) none))=Y5 at sG k5 PG ⊢
   have SX:=sC.trans (sD.trans (sE.trans (sF.trans sG)))
   have GX:=G.same (S.trans SX)
   have bv:=(A v (zaz ev)).same SX
   refine q _ _ _ (S.trans SX) PG (by omega) (zqn k5 (by omega) (λx hx=>?_) (.inl ⟨v,ψl1 _ (ψq _ (List.mem_singleton.mpr rfl)),bv⟩))
   rcases List.mem_append.mp hx with hx | hx
   ·rcases List.mem_append.mp hx with hx | hx
    ·exact GX.tru x (zqo hx)
    ·cases List.mem_singleton.mp hx
     exact⟨_,bv⟩
   ·exact GX.tru x (zqo hx)
  ·exact zwo (by rw[lx];exact hw) hw
 rintro σ' H' ⟨rfl,rfl,hw⟩
 unfold zcm
 simp_all only [zaU,zaT,zac]
 refine⟨by decide,λr1 n1=>?_⟩
 obtain⟨sC,k1,PC⟩:=PB.put n1 (.lst [])
 generalize L2.upd H' r1 (.lst [])=Y1 at sC k1 PC ⊢
 refine⟨_,zbc _ _ _ _ _ (sC _ _ G3.hl),by decide,by decide,by rw[ψb];exact ψF (show _≤42 by omega) (by decide),λr2 n2=>?_⟩
 obtain⟨sD,k2,PD⟩:=PC.put n2 (.lst (List.flatten [ts.map V.ref,ts.map V.ref,ts.map V.ref,ts.map V.ref,ts.map V.ref,ts.map V.ref,ts.map V.ref]))
 generalize L2.upd Y1 r2 (.lst (List.flatten [ts.map V.ref,ts.map V.ref,ts.map V.ref,ts.map V.ref,ts.map V.ref,ts.map V.ref,ts.map V.ref]))=Y2 at sD k2 PD ⊢
 have S2:=S.trans (sC.trans sD)
 refine⟨_,.inl ⟨SqL.of (zbc _ _ _ _ _ (G.same S2).hl),λr3 n3=>?_⟩⟩
 obtain⟨sE,k3,PE⟩:=PD.put n3 (.tup (ts.map V.ref))
 generalize L2.upd Y2 r3 (.tup (ts.map V.ref))=Y3 at sE k3 PE ⊢
 refine⟨by decide,λr4 n4=>?_⟩
 obtain⟨sF,k4,PF⟩:=PE.put n4 (.lst [.ref r1,.ref r2,.ref r3,.non])
 generalize L2.upd Y3 r4 (.lst [.ref r1,.ref r2,.ref r3,.non])=Y4 at sF k4 PF ⊢
 have SX:=sC.trans (sD.trans (sE.trans sF))
 have GX:=G.same (S.trans SX)
 refine⟨_,.inl (SqL.of (zbc _ _ _ _ _ (SX _ _ h23))),_,SqL.of (zbc _ _ _ _ _ k4),?_⟩
 rw[lx]
 replace k1:=(sD.trans (sE.trans sF)) _ _ k1
 replace k2:=(sE.trans sF) _ _ k2
 replace k3:=sF _ _ k3
 have e4:w=20∨w=21∨w=22∨w=23:=by omega
 have t3:t+1+1+1≤t+3:=by omega
 rcases e4 with rfl | rfl | rfl | rfl
 ·exact⟨_,rfl,q _ _ _ (S.trans SX) PF t3 (zqn k1 (by decide) (λx hx=>(nomatch hx)) (.inr (.inl rfl)))⟩
 ·have lf:(List.flatten [ts.map V.ref,ts.map V.ref,ts.map V.ref,ts.map V.ref,ts.map V.ref,ts.map V.ref,ts.map V.ref]).length=7*ts.length:=by
   simp only[ψo1,List.flatten_nil,ψs,ψb,List.length_nil]
   omega
  refine⟨_,rfl,q _ _ _ (S.trans SX) PF t3 (zqn k2 (by omega) (λx hx=>?_) (.inr (.inr (by omega))))⟩
  simp only[ψo1,List.flatten_nil,List.append_nil,List.mem_append,or_self] at hx
  exact GX.tru x hx
 ·exact⟨_,rfl,q _ _ _ (S.trans SX) PF t3 (.inl (.tup k3))⟩
 ·exact⟨_,rfl,q _ _ _ (S.trans SX) PF t3 (.inl .non)⟩
theorem zaZ:zaA ["_law_purse_here","_law_boxes_here","_law_far","_law_at","_law_cost","_law_hits","_law_of","_law_bent","_law_way"] ["_law_purse_here","_law_boxes_here"] (zai zeg):=⟨rfl,rfl,rfl,by decide +kernel,rfl,by decide +kernel,by decide +kernel⟩
theorem zhT(T:Txt K mg a):zcC P w K mg base CX0 2 a.f__law_no_boxes a.d__law_no_boxes ["_law_purse_here","_law_boxes_here"] zjd:=by
 have G__law_draw:=zej (P:=P) (w:=w) (base:=base) T
 refine T.F__law_no_boxes.ok zaZ (λvs H Q E h=>?_) (λcdv A outer s H vs Q E hr h=>?_)
 ·obtain⟨p,c,l,t,ts,bs,rfl,hP,t1,G,q⟩:=h
  rfl
 obtain⟨p,c,l,t,ts,bs,rfl,hP,t1,G,q⟩:=h
 exact⟨zd5 K,(zaf (zaL (i:=2) zaZ.nd rfl (Or.inl rfl) (zaB zcT zah (zal G__law_draw (hr.mono (by decide)) rfl T.m__law_draw T.F__law_draw.kp T.b__law_draw .nil zaH (zaa (pv 0) (zaa (zaB zqp zah zah) zad)))))
 (zaf (zaL (i:=3) zaZ.nd rfl (Or.inl rfl) (zal G__law_draw (hr.mono (by decide)) rfl T.m__law_draw T.F__law_draw.kp T.b__law_draw .nil zaH (zaa (pv 0) (zaa (zat zaN rfl T.z_len ψE (zaa (pv 1) zad)) zad))))
 (zaf (zdJ (zaS zdv (pv 1) (pv 3) (λ_ _=>rfl)) (zbw rfl (zap (zao (i:=4) zaZ.nd rfl (Or.inl rfl)) (zap (zao (i:=5) zaZ.nd rfl (Or.inl rfl)) (zap (zao (i:=6) zaZ.nd rfl (Or.inl rfl)) zaW)))))
 (zaf (zaL (i:=7) zaZ.nd rfl (Or.inl rfl) (zbK (zaa (za3 (zaa zah (zaa (pv 5) (zaa (pv 6) zad)))) (zaa (za3 (zaa (pv 2) (zaa (pv 5) (zaa (pv 6) zad)))) (zaa (za3 (zaa zah (zaa (pv 5) (zaa (pv 6) zad)))) (zaa (za3 (zaa (zaB zd7 (zsd znI zah) (pv 2)) (zaa (pv 5) (zaa (pv 6) zad)))) (zaa (za3 (zaa (pv 4) (zaa zah (zaa (pv 6) zad)))) (zaa (za3 (zaa (pv 4) (zaa (zaB zcT (pv 6) zah) (zaa (pv 6) zad)))) zad))))))))
 (zaf (zaL (i:=7) zaZ.nd rfl (Or.inl rfl) (zaB zlo (pv 7) (zbK (zaa (za3 (zaa (pv 4) (zaa (zaB zd7 zah (pv 5)) (zaa (pv 6) zad)))) (zaa (za3 (zaa (pv 4) (zaa zah (zaa zah zad)))) (zaa (za3 (zaa (pv 4) (zaa (pv 5) (zaa (pv 2) zad)))) (zaa (za3 (zaa (pv 4) (zaa zah (zaa zah zad)))) (zaa (za3 (zaa (pv 4) (zaa (pv 5) zad))) zad))))))))
 (zaf (zbJ (zia ψB ψy ψz zbN (pv 7) (zaa (za3 (zaa (pv 4) (zaa (pv 5) (zaa (pv 6) (zaa zah zad))))) zad)))
 (zaf (zaL (i:=7) zaZ.nd rfl (Or.inl rfl) (zaB zlo (pv 7) (zbK (zaa (za3 (zaa zeA (zaa zah (zaa zah zad)))) (zaa (za3 (zaa (pv 4) (zaa zeA (zaa (pv 6) zad)))) (zaa (za3 (zaa (pv 4) (zaa zah (zaa zeA zad)))) (zaa (za3 (zaa zdE (zaa (pv 5) (zaa (pv 6) zad)))) (zaa zjV (zaa (zbK (zaa (pv 4) (zaa (pv 5) (zaa (pv 6) zad)))) (zaa zah (zaa (za3 zad) zad)))))))))))
 (zaf (zaL (i:=8) zaZ.nd rfl (Or.inl rfl) (zal G__law_draw (hr.mono (by decide)) rfl T.m__law_draw T.F__law_draw.kp T.b__law_draw .nil zaH (zaa (pv 0) (zaa (zaB zcT (zat zaN rfl T.z_len ψE (zaa (pv 7) zad)) zah) zad))))
 (zaf (zbB (zbW (zbG zqW (pv 8) (zat zaN rfl T.z_len ψE (zaa (pv 7) zad)) (za9 _)) (zam (zaD (zaB zlo (zaB zlo (zii zkg (pv 1) zke (zk2 (pv 3))) (zbK (zaa (zaS zdv (pv 7) (pv 8) (λ_ _=>rfl)) zad))) (zii zkg (pv 1) (zk2 (zaB zcT (pv 3) zah)) zke)))) zaQ))
 (zam (zaD (zaS zdv (zbK (zaa (zbK zad) (zaa (zaB zqg (pv 1) zah) (zaa (zdi zkB rfl T.z_tuple ze2 (zaa (pv 1) zad)) (zaa zjV zad))))) (zaB zd7 (pv 8) (zat zaN rfl T.z_len ψE (zaa (pv 7) zad))) (λ_ _=>rfl))))))))))))),
  zh0 hP t1 G q⟩
def mkC(a:Ad):Nat→Value
 | 0=>.ref a.c_NoBoxes
 | _=>.ref a.c_NoBudget
def mkS:Nat→Str
 | 0=>"boxes"
 | _=>"budget"
def zmj(a:Ad):Sp:=λvs H Q _=>∃(x:Addr) (i:Nat) (od:Option Addr),vs=[.ref x]∧i<2∧H x=some (zgE x (mkC a i) od)∧∀(r:Addr) (H':Hp),zaF H H'→H' r=some (.lst [.str (mkS i)])→Q (.ref r) H'
theorem isV{x:Addr}{od:Option Addr}{d:V}{cv dv:Value}{b:Bool}(hc:zxu d=some dv)(h:H x=some (zgE x cv od))(k:zfS K cv)(e:ψc K cv dv=some b)(q:Q (.bl b) H):zgK K [.ref x,d] H Q:=⟨x,d,cv,_,dv,b,rfl,hc,h,k,e,q⟩
def zdh(K:ψa):TS :=
 (zca (zfw (tB (tCB (zgK K) (zab (zac 0) (zab (tC (.ty "ValueError")) zak))))) (zbQ (tBM K "list" zaR (zac 1) (zab (tC (.str "none")) zak))) zaV)
theorem zbn(K:ψa)(D:zbP)(σ:St)(H:Hp):zdh K D σ H=(zca (zfw (tB (tCB (zgK K) (zab (zac 0) (zab (tC (.ty "ValueError")) zak))))) (zbQ (tBM K "list" zaR (zac 1) (zab (tC (.str "none")) zak))) zaV) D σ H:=rfl
def zdg(K:ψa)(a:Ad):TS :=
 (zca (tOr (tB (tCB (zgs K) (zab (zac 0) (zab (zbV (zab (tC (.ref a.c_NoPaper)) (zab (tC (.ref a.c_NoText)) (zab (tC (.ref a.c_NoTree)) zak)))) zak)))) (tB (tCB (zgs K) (zab (zac 0) (zab (zbV (zab (tC (.ref a.c_NoTurns)) (zab (tC (.ref a.c_NoWeb)) (zab (tC (.ref a.c_TooGreat)) zak)))) zak))))) (zbQ (tBM K "list" zaR (zac 1) (zab (tC (.str "other")) zak))) zaV)
theorem zbd(K:ψa)(a:Ad)(D:zbP)(σ:St)(H:Hp):zdg K a D σ H=(zca (tOr (tB (tCB (zgs K) (zab (zac 0) (zab (zbV (zab (tC (.ref a.c_NoPaper)) (zab (tC (.ref a.c_NoText)) (zab (tC (.ref a.c_NoTree)) zak)))) zak)))) (tB (tCB (zgs K) (zab (zac 0) (zab (zbV (zab (tC (.ref a.c_NoTurns)) (zab (tC (.ref a.c_NoWeb)) (zab (tC (.ref a.c_TooGreat)) zak)))) zak))))) (zbQ (tBM K "list" zaR (zac 1) (zab (tC (.str "other")) zak))) zaV) D σ H:=rfl
def zdc(K:ψa)(a:Ad):TS :=
 (zca (tOr (tB (tCB (zgs K) (zab (zac 0) (zab (zbV (zab (tC (.ref a.c_NoKind)) (zab (tC (.ref a.c_NoName)) (zab (tC (.ref a.c_NoNumber)) (zab (tC (.ref a.c_NoPlay)) zak))))) zak)))) (tB (tCB (zgs K) (zab (zac 0) (zab (zbV (zab (tC (.ref a.c_NoRoad)) (zab (tC (.ref a.c_NoRow)) (zab (tC (.ref a.c_NoTable)) zak)))) zak))))) (zbQ (tBM K "list" zaR (zac 1) (zab (tC (.str "other")) zak))) zaV)
theorem zbh(K:ψa)(a:Ad)(D:zbP)(σ:St)(H:Hp):zdc K a D σ H=(zca (tOr (tB (tCB (zgs K) (zab (zac 0) (zab (zbV (zab (tC (.ref a.c_NoKind)) (zab (tC (.ref a.c_NoName)) (zab (tC (.ref a.c_NoNumber)) (zab (tC (.ref a.c_NoPlay)) zak))))) zak)))) (tB (tCB (zgs K) (zab (zac 0) (zab (zbV (zab (tC (.ref a.c_NoRoad)) (zab (tC (.ref a.c_NoRow)) (zab (tC (.ref a.c_NoTable)) zak)))) zak))))) (zbQ (tBM K "list" zaR (zac 1) (zab (tC (.str "other")) zak))) zaV) D σ H:=rfl
def zc9(K:ψa)(a:Ad):TS :=
 (zca (tB (tCB (zgK K) (zab (zac 0) (zab (tC (.ref a.c_NoOrder)) zak)))) (zbQ (tBM K "list" zaR (zac 1) (zab (tC (.str "order")) zak))) zaV)
theorem zbe(K:ψa)(a:Ad)(D:zbP)(σ:St)(H:Hp):zc9 K a D σ H=(zca (tB (tCB (zgK K) (zab (zac 0) (zab (tC (.ref a.c_NoOrder)) zak)))) (zbQ (tBM K "list" zaR (zac 1) (zab (tC (.str "order")) zak))) zaV) D σ H:=rfl
def zdf(K:ψa)(a:Ad):TS :=
 (zaK (zdq (zc9 K a))
 (zaK (zdq (zdc K a))
 (zaK (zdq (zdg K a))
 (zaK (zdq (zdh K))
 (zbb (zac 1))))))
theorem zbg(K:ψa)(a:Ad)(D:zbP)(σ:St)(H:Hp):zdf K a D σ H=(zaK (zdq (zc9 K a))
 (zaK (zdq (zdc K a))
 (zaK (zdq (zdg K a))
 (zaK (zdq (zdh K))
 (zbb (zac 1)))))) D σ H:=rfl
def zeE(K:ψa)(a:Ad):TS :=
 (zca (tB (tCB (zgK K) (zab (zac 0) (zab (tC (.ref a.c_NoPlan)) zak)))) (zbQ (tBM K "list" zaR (zac 1) (zab (tC (.str "plan")) zak))) zaV)
theorem zbm(K:ψa)(a:Ad)(D:zbP)(σ:St)(H:Hp):zeE K a D σ H=(zca (tB (tCB (zgK K) (zab (zac 0) (zab (tC (.ref a.c_NoPlan)) zak)))) (zbQ (tBM K "list" zaR (zac 1) (zab (tC (.str "plan")) zak))) zaV) D σ H:=rfl
def zeC(K:ψa)(a:Ad):TS :=
 (zca (tB (tCB (zgK K) (zab (zac 0) (zab (tC (.ref a.c_NoWeights)) zak)))) (zbQ (tBM K "list" zaR (zac 1) (zab (tC (.str "weights")) zak))) zaV)
theorem zbj(K:ψa)(a:Ad)(D:zbP)(σ:St)(H:Hp):zeC K a D σ H=(zca (tB (tCB (zgK K) (zab (zac 0) (zab (tC (.ref a.c_NoWeights)) zak)))) (zbQ (tBM K "list" zaR (zac 1) (zab (tC (.str "weights")) zak))) zaV) D σ H:=rfl
def zer(K:ψa)(a:Ad):TS :=
 (zca (tB (tCB (zgK K) (zab (zac 0) (zab (tC (.ref a.c_NoBudget)) zak)))) (zbQ (tBM K "list" zaR (zac 1) (zab (tC (.str "budget")) zak))) zaV)
theorem zbr(K:ψa)(a:Ad)(D:zbP)(σ:St)(H:Hp):zer K a D σ H=(zca (tB (tCB (zgK K) (zab (zac 0) (zab (tC (.ref a.c_NoBudget)) zak)))) (zbQ (tBM K "list" zaR (zac 1) (zab (tC (.str "budget")) zak))) zaV) D σ H:=rfl
def zeu(K:ψa)(a:Ad):TS :=
 (zca (tB (tCB (zgK K) (zab (zac 0) (zab (tC (.ref a.c_NoBoxes)) zak)))) (zbQ (tBM K "list" zaR (zac 1) (zab (tC (.str "boxes")) zak))) zaV)
theorem zbl(K:ψa)(a:Ad)(D:zbP)(σ:St)(H:Hp):zeu K a D σ H=(zca (tB (tCB (zgK K) (zab (zac 0) (zab (tC (.ref a.c_NoBoxes)) zak)))) (zbQ (tBM K "list" zaR (zac 1) (zab (tC (.str "boxes")) zak))) zaV) D σ H:=rfl
def zfE(K:ψa)(a:Ad):TS :=
 (zaK (za2 (zcV zak) (zag 1))
 (zaK (zdq (zeu K a))
 (zaK (zdq (zer K a))
 (zaK (zdq (zeC K a))
 (zaK (zdq (zeE K a))
 (zdf K a))))))
structure KK (K:ψa) (a:Ad) (i:Nat):Prop where
 ec:zfS K (mkC a i)
 kB:ψc K (mkC a i) (.ref a.c_NoBoxes)=some (decide (i=0))
 kU:ψc K (mkC a i) (.ref a.c_NoBudget)=some (decide (i=1))
 kW:ψc K (mkC a i) (.ref a.c_NoWeights)=some false
 kP:ψc K (mkC a i) (.ref a.c_NoPlan)=some false
 kO:ψc K (mkC a i) (.ref a.c_NoOrder)=some false
 k_NoKind:ψc K (mkC a i) (.ref a.c_NoKind)=some false
 k_NoName:ψc K (mkC a i) (.ref a.c_NoName)=some false
 k_NoNumber:ψc K (mkC a i) (.ref a.c_NoNumber)=some false
 k_NoPlay:ψc K (mkC a i) (.ref a.c_NoPlay)=some false
 k_NoRoad:ψc K (mkC a i) (.ref a.c_NoRoad)=some false
 k_NoRow:ψc K (mkC a i) (.ref a.c_NoRow)=some false
 k_NoTable:ψc K (mkC a i) (.ref a.c_NoTable)=some false
 k_NoPaper:ψc K (mkC a i) (.ref a.c_NoPaper)=some false
 k_NoText:ψc K (mkC a i) (.ref a.c_NoText)=some false
 k_NoTree:ψc K (mkC a i) (.ref a.c_NoTree)=some false
 k_NoTurns:ψc K (mkC a i) (.ref a.c_NoTurns)=some false
 k_NoWeb:ψc K (mkC a i) (.ref a.c_NoWeb)=some false
 k_TooGreat:ψc K (mkC a i) (.ref a.c_TooGreat)=some false
 kV:ψc K (mkC a i) (.type "ValueError")=some true
 sub:ψH1 K (mkC a i) (.ref a.c_HideError)=some true
theorem zxe{i:Nat}(I:Isa K a)(I2:Isa2 K a)(i4:i<2):KK K a i:=by
 have:i=0∨i=1:=by omega
 rcases this with rfl | rfl
 ·exact⟨I2.ec,I2.k_NoBoxes,I2.k_NoBudget,I2.k_NoWeights,I2.k_NoPlan,I2.k_NoOrder,I2.k_NoKind,I2.k_NoName,I2.k_NoNumber,I2.k_NoPlay,I2.k_NoRoad,I2.k_NoRow,I2.k_NoTable,I2.k_NoPaper,I2.k_NoText,I2.k_NoTree,I2.k_NoTurns,I2.k_NoWeb,I2.k_TooGreat,I2.k_ValueError,I2.sub⟩
 ·exact⟨I.ec,I.k_NoBoxes,I.k_NoBudget,I.k_NoWeights,I.k_NoPlan,I.k_NoOrder,I.k_NoKind,I.k_NoName,I.k_NoNumber,I.k_NoPlay,I.k_NoRoad,I.k_NoRow,I.k_NoTable,I.k_NoPaper,I.k_NoText,I.k_NoTree,I.k_NoTurns,I.k_NoWeb,I.k_TooGreat,I.k_ValueError,I.sub⟩
def mkL(i n:Nat):List V:=if i<n then [.str (mkS i)] else []
theorem zwy(i n:Nat):(mkL i n).length<sizeLine:=by
 unfold mkL
 split
 ·exact(by decide:1<sizeLine)
 ·exact(by decide:0<sizeLine)
theorem pcM{x D c:Addr}{s:Str}{b:Bool}{od:Option Addr}{cv:Value}{ls:List V}{R:St→Hp→Prop}(hx:H x=some (zgE x cv od))(ec:zfS K cv)(k:ψc K cv (.ref c)=some b)(hD:H D=some (.lst ls))(ll:ls.length<sizeLine)
  (q:if b=true then R [some (.ref x),some (.ref D)] (L2.upd H D (.lst (ls++[.str s]))) else R [some (.ref x),some (.ref D)] H) :
  (zca (tB (tCB (zgK K) (zab (zac 0) (zab (tC (.ref c)) zak)))) (zbQ (tBM K "list" zaR (zac 1) (zab (tC (.str s)) zak))) zaV) { nx:=R,rt:=Q } [some (.ref x),some (.ref D)] H:=by
 simp_all only [zbn,zbd,zbh,zbe,zbg,zbm,zbj,zbr,zbl,zac]
 refine isV rfl hx ec k ⟨b,rfl,?_⟩
 cases b with
 | true=>exact⟨.inl ⟨rfl,_,SqL.of hD⟩,_,hD,ll,q⟩
 | false=>exact q
def InM(H0:Hp)(x D:Addr)(i n:Nat)(σ:St)(H:Hp):Prop:=σ=[some (.ref x),some (.ref D)]∧zaF H0 H∧H D=some (.lst (mkL i n))
theorem InM.go{H0 H1:Hp}{x D:Addr}{i n:Nat}(hD:H0 D=none)(h:InM H0 x D i n [some (.ref x),some (.ref D)] H1):if decide (i=n)=true then InM H0 x D i (n+1) [some (.ref x),some (.ref D)] (L2.upd H1 D (.lst (mkL i n++[.str (mkS n)]))) else InM H0 x D i (n+1) [some (.ref x),some (.ref D)] H1:=by
 obtain⟨_,s,h⟩:=h
 by_cases e:i=n
 ·subst e
  rw[if_pos (decide_eq_true rfl)]
  refine⟨rfl,s.put hD,?_⟩
  rw[zaj,mkL,mkL,if_neg (ψf1 _),if_pos (ψF1 _)]
  rfl
 ·rw[if_neg (by simpa using e)]
  refine⟨rfl,s,?_⟩
  rw[h,mkL,mkL]
  by_cases l:i<n
  ·rw[if_pos l,if_pos (by omega)]
  ·rw[if_neg l,if_neg (by omega)]
theorem zka{x:Addr}{i:Nat}{od:Option Addr}(I:Isa K a)(I2:Isa2 K a)(i4:i<2)(hx:H x=some (zgE x (mkC a i) od))(q:∀(r:Addr) (H':Hp),zaF H H'→H' r=some (.lst [.str (mkS i)])→Q (.ref r) H') :
  zfE K a { nx:=λ_ H'=>Q .non H',rt:=Q } (L2.start ["_law_caught","_law_found"] [.ref x]) H:=by
 unfold zfE
 have k:=zxe I I2 i4
 simp_all only [zbn,zbd,zbh,zbe,zbg,zbm,zbj,zbr,zbl,zac]
 refine⟨by decide,λD hD=>?_⟩
 have M0:InM H x D i 0 [some (.ref x),some (.ref D)] (L2.upd H D (.lst [])):=⟨rfl,zaq hD _,by rw[zaj,mkL,if_neg (ψx1 _)]⟩
 generalize L2.upd H D (.lst [])=H0 at M0 ⊢
 have lN:=zwy i
 unfold zdq
 refine⟨InM H x D i 1,by unfold zeu;exact pcM (M0.2.1 _ _ hx) k.ec k.kB M0.2.2 (lN _) (M0.go hD),?_⟩
 rintro _ H1 ⟨rfl,M1⟩
 unfold zaK
 refine⟨InM H x D i 2,by unfold zer;exact pcM (M1.1 _ _ hx) k.ec k.kU M1.2 (lN _) (InM.go hD ⟨rfl,M1⟩),?_⟩
 rintro _ H2 ⟨rfl,M2⟩
 refine⟨InM H x D i 2,by unfold zeC;exact pcM (M2.1 _ _ hx) k.ec k.kW M2.2 (lN _) ⟨rfl,M2⟩,?_⟩
 rintro _ H3 ⟨rfl,M3⟩
 refine⟨InM H x D i 2,by unfold zeE;exact pcM (M3.1 _ _ hx) k.ec k.kP M3.2 (lN _) ⟨rfl,M3⟩,?_⟩
 rintro _ H4 ⟨rfl,M4⟩
 show zdf K a _ _ _
 unfold zdf zaK zdq
 refine⟨InM H x D i 2,by unfold zc9;exact pcM (M4.1 _ _ hx) k.ec k.kO M4.2 (lN _) ⟨rfl,M4⟩,?_⟩
 rintro _ H5 ⟨rfl,M5⟩
 refine⟨InM H x D i 2,?_,?_⟩
 ·unfold zdc
  simp_all only [zbn,zbd,zbh,zbe,zbg,zbm,zbj,zbr,zbl,zac]
  refine⟨by decide,λp np=>?_⟩
  have s1:=zaq np (.tup [.ref a.c_NoKind,.ref a.c_NoName,.ref a.c_NoNumber,.ref a.c_NoPlay])
  have h1:(L2.upd H5 p (.tup [.ref a.c_NoKind,.ref a.c_NoName,.ref a.c_NoNumber,.ref a.c_NoPlay])) p=some (.tup [.ref a.c_NoKind,.ref a.c_NoName,.ref a.c_NoNumber,.ref a.c_NoPlay]):=zaj
  generalize L2.upd H5 p (.tup [.ref a.c_NoKind,.ref a.c_NoName,.ref a.c_NoNumber,.ref a.c_NoPlay])=G1 at s1 h1 ⊢
  refine⟨_,mkC a i,od,(M5.1.trans s1) _ _ hx,k.ec,SqT.of h1,_,rfl,false,by simp only[PySem.W.kitAny,k.k_NoKind,k.k_NoName,k.k_NoNumber,k.k_NoPlay],?_⟩
  refine zwo (by decide) ⟨by decide,λp2 np2=>?_⟩
  have s2:=zaq np2 (.tup [.ref a.c_NoRoad,.ref a.c_NoRow,.ref a.c_NoTable])
  have h2:(L2.upd G1 p2 (.tup [.ref a.c_NoRoad,.ref a.c_NoRow,.ref a.c_NoTable])) p2=some (.tup [.ref a.c_NoRoad,.ref a.c_NoRow,.ref a.c_NoTable]):=zaj
  generalize L2.upd G1 p2 (.tup [.ref a.c_NoRoad,.ref a.c_NoRow,.ref a.c_NoTable])=G2 at s2 h2 ⊢
  refine⟨_,mkC a i,od,(M5.1.trans (s1.trans s2)) _ _ hx,k.ec,SqT.of h2,_,rfl,false,by simp only[PySem.W.kitAny,k.k_NoRoad,k.k_NoRow,k.k_NoTable],?_⟩
  exact zwo (by decide) ⟨rfl,M5.1.trans (s1.trans s2),(s1.trans s2) _ _ M5.2⟩
 rintro _ H6 ⟨rfl,M6⟩
 refine⟨InM H x D i 2,?_,?_⟩
 ·unfold zdg
  simp_all only [zbn,zbd,zbh,zbe,zbg,zbm,zbj,zbr,zbl,zac]
  refine⟨by decide,λp np=>?_⟩
  have s1:=zaq np (.tup [.ref a.c_NoPaper,.ref a.c_NoText,.ref a.c_NoTree])
  have h1:(L2.upd H6 p (.tup [.ref a.c_NoPaper,.ref a.c_NoText,.ref a.c_NoTree])) p=some (.tup [.ref a.c_NoPaper,.ref a.c_NoText,.ref a.c_NoTree]):=zaj
  generalize L2.upd H6 p (.tup [.ref a.c_NoPaper,.ref a.c_NoText,.ref a.c_NoTree])=G1 at s1 h1 ⊢
  refine⟨_,mkC a i,od,(M6.1.trans s1) _ _ hx,k.ec,SqT.of h1,_,rfl,false,by simp only[PySem.W.kitAny,k.k_NoPaper,k.k_NoText,k.k_NoTree],?_⟩
  refine zwo (by decide) ⟨by decide,λp2 np2=>?_⟩
  have s2:=zaq np2 (.tup [.ref a.c_NoTurns,.ref a.c_NoWeb,.ref a.c_TooGreat])
  have h2:(L2.upd G1 p2 (.tup [.ref a.c_NoTurns,.ref a.c_NoWeb,.ref a.c_TooGreat])) p2=some (.tup [.ref a.c_NoTurns,.ref a.c_NoWeb,.ref a.c_TooGreat]):=zaj
  generalize L2.upd G1 p2 (.tup [.ref a.c_NoTurns,.ref a.c_NoWeb,.ref a.c_TooGreat])=G2 at s2 h2 ⊢
  refine⟨_,mkC a i,od,(M6.1.trans (s1.trans s2)) _ _ hx,k.ec,SqT.of h2,_,rfl,false,by simp only[PySem.W.kitAny,k.k_NoTurns,k.k_NoWeb,k.k_TooGreat],?_⟩
  exact zwo (by decide) ⟨rfl,M6.1.trans (s1.trans s2),(s1.trans s2) _ _ M6.2⟩
 rintro _ H7 ⟨rfl,M7⟩
 refine⟨InM H x D i 2,?_,?_⟩
 ·unfold zdh
  simp_all only [zbn,zbd,zbh,zbe,zbg,zbm,zbj,zbr,zbl,zac]
  exact isV rfl (M7.1 _ _ hx) k.ec k.kV ⟨true,rfl,zwo (by decide) ⟨rfl,M7⟩⟩
 rintro _ H8 ⟨rfl,M8⟩
 simp_all only [zbn,zbd,zbh,zbe,zbg,zbm,zbj,zbr,zbl,zac]
 refine q D H8 M8.1 ?_
 rw[M8.2,mkL,if_pos i4]
theorem zg3:zaA ["_law_caught","_law_found"] ["_law_caught"] (zai zfB):=⟨rfl,rfl,rfl,by decide +kernel,rfl,by decide +kernel,by decide +kernel⟩
theorem zkw(T:Txt K mg a):zcC P w K mg base CX0 3 a.f__law_marks a.d__law_marks ["_law_caught"] (zmj a):=by
 refine T.F__law_marks.ok zg3 (λvs H Q E h=>?_) (λcdv A outer s H vs Q E hr h=>?_)
 ·obtain⟨x,i,od,rfl,i4,hx,q⟩:=h
  rfl
 obtain⟨x,i,od,rfl,i4,hx,q⟩:=h
 exact⟨zfE K a,(zaf (zaL (i:=1) zg3.nd rfl (Or.inl rfl) (zbK zad))
 (zaf (zbB (zbW (zbF (zat zcL rfl T.z_isinstance ψg (zaa (pv 0) (zaa (zbD rfl T.m_NoBoxes rfl) zad)))) (zam (zbJ (zia ψB ψy ψz zbN (pv 1) (zaa zdE zad)))) zaQ))
 (zaf (zbB (zbW (zbF (zat zcL rfl T.z_isinstance ψg (zaa (pv 0) (zaa (zbD rfl T.m_NoBudget rfl) zad)))) (zam (zbJ (zia ψB ψy ψz zbN (pv 1) (zaa zdE zad)))) zaQ))
 (zaf (zbB (zbW (zbF (zat zcL rfl T.z_isinstance ψg (zaa (pv 0) (zaa (zbD rfl T.m_NoWeights rfl) zad)))) (zam (zbJ (zia ψB ψy ψz zbN (pv 1) (zaa zdE zad)))) zaQ))
 (zaf (zbB (zbW (zbF (zat zcL rfl T.z_isinstance ψg (zaa (pv 0) (zaa (zbD rfl T.m_NoPlan rfl) zad)))) (zam (zbJ (zia ψB ψy ψz zbN (pv 1) (zaa zdE zad)))) zaQ))
 (zaf (zbB (zbW (zbF (zat zcL rfl T.z_isinstance ψg (zaa (pv 0) (zaa (zbD rfl T.m_NoOrder rfl) zad)))) (zam (zbJ (zia ψB ψy ψz zbN (pv 1) (zaa zdE zad)))) zaQ))
 (zaf (zbB (zbW (PW.pt (zhL (zbF (zat zga rfl T.z_isinstance ψg (zaa (pv 0) (zaa (za3 (zaa (zbD rfl T.m_NoKind rfl) (zaa (zbD rfl T.m_NoName rfl) (zaa (zbD rfl T.m_NoNumber rfl) (zaa (zbD rfl T.m_NoPlay rfl) zad))))) zad)))) (zfU (zbF (zat zga rfl T.z_isinstance ψg (zaa (pv 0) (zaa (za3 (zaa (zbD rfl T.m_NoRoad rfl) (zaa (zbD rfl T.m_NoRow rfl) (zaa (zbD rfl T.m_NoTable rfl) zad)))) zad))))))) (zam (zbJ (zia ψB ψy ψz zbN (pv 1) (zaa zdE zad)))) zaQ))
 (zaf (zbB (zbW (PW.pt (zhL (zbF (zat zga rfl T.z_isinstance ψg (zaa (pv 0) (zaa (za3 (zaa (zbD rfl T.m_NoPaper rfl) (zaa (zbD rfl T.m_NoText rfl) (zaa (zbD rfl T.m_NoTree rfl) zad)))) zad)))) (zfU (zbF (zat zga rfl T.z_isinstance ψg (zaa (pv 0) (zaa (za3 (zaa (zbD rfl T.m_NoTurns rfl) (zaa (zbD rfl T.m_NoWeb rfl) (zaa (zbD rfl T.m_TooGreat rfl) zad)))) zad))))))) (zam (zbJ (zia ψB ψy ψz zbN (pv 1) (zaa zdE zad)))) zaQ))
 (zaf (zbB (zbW (zcK (zbF (zat zcL rfl T.z_isinstance ψg (zaa (pv 0) (zaa (zea rfl T.z_ValueError ziE rfl) zad))))) (zam (zbJ (zia ψB ψy ψz zbN (pv 1) (zaa zdE zad)))) zaQ))
 (zam (zaD (pv 1)))))))))))),
  zka T.I T.I2 i4 hx q⟩
def zsR(a:Ad)(H:Hp)(E:XK)(k:Int)(vb vu:V)(ns:List Int)(R:Prop):Prop :=
 (zpj H vb∧∀H',zaF H H'→E (.ref a.c_NoBoxes) none H') ∨
 ∃(l:Addr) (ts:List Addr) (bs:List Box),vb=.ref l∧GdB H l ts bs∧ns.length=bs.length∧((k<2∧Tg H vu∧wi 0 60 vu=false∧∀H',zaF H H'→E (.ref a.c_NoBudget) none H')∨((k<2→∃bud:Int,vu=.int bud∧0≤bud∧bud≤60)∧R))
def PlH(H:Hp)(pl:Addr)(ns:List Int):Prop:=H pl=some (.lst (ns.map V.int))∧ns.length≤6∧∀n∈ns,0≤n∧n≤60
theorem zsR.b{a:Ad}{E:XK}{k:Int}{vb vu:V}{ns:List Int}{R:Prop}{G:Addr→List Addr→List Box→Int→Prop}(h:zsR a H E k vb vu ns R)(k2:k<2)(g:∀l ts bs bud,ns.length=bs.length→R→G l ts bs bud):zwF a H E vb vu G:=by
 rcases h with h | ⟨l,ts,bs,e,gd,ln,⟨_,t,w,x⟩ | ⟨hb,r⟩⟩
 ·exact .inl h
 ·exact .inr ⟨l,ts,bs,e,gd,.inl ⟨t,w,x⟩⟩
 ·obtain⟨bud,e2,b0,b1⟩:=hb k2
  exact .inr ⟨l,ts,bs,e,gd,.inr ⟨bud,e2,b0,b1,g l ts bs bud ln r⟩⟩
theorem zsR.c{a:Ad}{E:XK}{k:Int}{vb vu:V}{ns:List Int}{pl:Addr}{R G:Prop}(h:zsR a H E k vb vu ns R)(k2:¬ k<2)(P:PlH H pl ns)(g:R→G):AskC a H E vb pl G:=by
 rcases h with h | ⟨l,ts,bs,e,gd,ln,⟨z,_⟩ | ⟨hb,r⟩⟩
 ·exact .inl h
 ·exact absurd z k2
 ·exact .inr ⟨l,ts,bs,ns,e,gd.bp P.1 ln P.2.2,g r⟩
theorem zsR.same{a:Ad}{H H':Hp}{E:XK}{k:Int}{vb vu:V}{ns:List Int}{R R':Prop}(h:zsR a H E k vb vu ns R)(s:zaF H H')(rr:R→R'):zsR a H' E k vb vu ns R':=by
 rcases h with ⟨h,e⟩ | ⟨l,ts,bs,e,gd,ln,⟨z,t,w,x⟩ | ⟨hb,r⟩⟩
 ·exact .inl ⟨h.same s,λH'' s'=>e _ (s.trans s')⟩
 ·exact .inr ⟨l,ts,bs,e,gd.same s,ln,.inl ⟨z,t.same s,w,λH'' s'=>x _ (s.trans s')⟩⟩
 ·exact .inr ⟨l,ts,bs,e,gd.same s,ln,.inr ⟨hb,rr r⟩⟩
theorem rep1:∀n:Nat,(ψo n [V.int 1]).flatten=(ψo n (1:Int)).map V.int
 | 0=>rfl
 | n+1=>by
  rw[ψq1,ψo1,rep1 n]
  rfl
def zpW(a:Ad):Sp:=λvs H Q E=>∃(k:Int) (vb vu:V) (pl:Addr) (ns:List Int),vs=[.int k,vb,vu,.ref pl]∧0≤k∧k<4∧PlH H pl ns∧zsR a H E k vb vu ns (∀H',zaF H H'→Q .non H')
theorem ifk{k j:Int}{X:TS}{D:zbP}{rest:St}(h1:k=j→X D (some (.int k)::rest) H)(h2:k≠j→D.nx (some (.int k)::rest) H):(zca (zbE (tOp rEq (zac 0) (tC (.int j)))) X zaV) D (some (.int k)::rest) H:=by
 simp_all only [zbn,zbd,zbh,zbe,zbg,zbm,zbj,zbr,zbl,zac]
 by_cases e:k=j
 ·subst e
  exact iteP (by simp) (h1 rfl)
 ·exact zwo (by simpa using e) (h2 e)
def W12:Rat:=⟨1,2,by decide,by decide⟩
def W13:Rat:=⟨1,3,by decide,by decide⟩
theorem ztZ{q:Rat}{m:Nat}(m3:3≤m)(hn:q.num=1)(hd:q.den≤3):Bq m q:=by
 have h:2 ^ 3≤2 ^ m:=ψT1 (by decide) m3
 refine⟨?_,?_⟩
 ·show q.num.natAbs<2 ^ m
  rw[hn]
  omega
 ·show(q.den:Int).natAbs<2 ^ m
  omega
def zde(a:Ad)(E:XK):TS :=
 (zaK (zdq (zca (zbE (tOp rEq (zac 0) (tC (.int 2)))) (zbQ (zar (zc4 a) [] E (zab (zac 1) (zab (zac 3) zak)))) zaV))
 (zca (zbE (tOp rEq (zac 0) (tC (.int 3)))) (zbQ (zar (zc4 a) [] E (zab (zac 1) (zab (zac 3) zak)))) zaV))
theorem zcq(a:Ad)(E:XK)(D:zbP)(σ:St)(H:Hp):zde a E D σ H=(zaK (zdq (zca (zbE (tOp rEq (zac 0) (tC (.int 2)))) (zbQ (zar (zc4 a) [] E (zab (zac 1) (zab (zac 3) zak)))) zaV))
 (zca (zbE (tOp rEq (zac 0) (tC (.int 3)))) (zbQ (zar (zc4 a) [] E (zab (zac 1) (zab (zac 3) zak)))) zaV)) D σ H:=rfl
def zes(K:ψa)(a:Ad)(E:XK):TS :=
 (zca (zbE (tOp rEq (zac 0) (tC (.int 1)))) (zbQ (zar (ziw a) [] E (zab (zac 1) (zab (zac 2) (zab (zbV (zab (tC (.int 1)) (zab (tC (.int 2)) zak))) (zab (zcV (zab (zbV (zab (zac 3) (zab (tC (.int 1)) zak))) zak)) (zab (zbV (zab (tOp zuj (zcV (zab (tC (.int 1)) zak)) (tCB (λxs H Q=>∃p ys,xs=[.ref p]∧(SqL K H p ys∨SqT K H p ys)∧Q (.int ys.length) H) (zab (zac 3) zak))) (zab (zbV (zab (tC (.int 1)) (zab (tC (.int 3)) zak))) (zab (zac 3) zak)))) zak))))))) zaV)
theorem zcn(K:ψa)(a:Ad)(E:XK)(D:zbP)(σ:St)(H:Hp):zes K a E D σ H=(zca (zbE (tOp rEq (zac 0) (tC (.int 1)))) (zbQ (zar (ziw a) [] E (zab (zac 1) (zab (zac 2) (zab (zbV (zab (tC (.int 1)) (zab (tC (.int 2)) zak))) (zab (zcV (zab (zbV (zab (zac 3) (zab (tC (.int 1)) zak))) zak)) (zab (zbV (zab (tOp zuj (zcV (zab (tC (.int 1)) zak)) (tCB (λxs H Q=>∃p ys,xs=[.ref p]∧(SqL K H p ys∨SqT K H p ys)∧Q (.int ys.length) H) (zab (zac 3) zak))) (zab (zbV (zab (tC (.int 1)) (zab (tC (.int 3)) zak))) (zab (zac 3) zak)))) zak))))))) zaV) D σ H:=rfl
def zfF(K:ψa)(a:Ad)(E:XK):TS :=
 (zaK (zdq (zca (zbE (tOp rEq (zac 0) (tC (.int 0)))) (zbQ (zar (zlj a) [] E (zab (zac 1) (zab (zac 2) zak)))) zaV))
 (zaK (zdq (zes K a E))
 (zde a E)))
theorem zkX{E:XK}{k:Int}{vb vu:V}{pl:Addr}{ns:List Int}(k0:0≤k)(k4:k<4)(P:PlH H pl ns)(h:zsR a H E k vb vu ns (∀H',zaF H H'→Q .non H')) :
  zfF K a E { nx:=λ_ H'=>Q .non H',rt:=Q } (L2.start ["_law_k","_law_boxes_here","_law_budget","_law_plan"] [.int k,vb,vu,.ref pl]) H:=by
 unfold zfF
 show zaK _ _ _ [some (.int k),some vb,some vu,some (.ref pl)] H
 unfold zaK zdq
 refine⟨λσ' H'=>σ'=[some (.int k),some vb,some vu,some (.ref pl)]∧((k<1∧∀H'',zaF H' H''→Q .non H'')∨(1≤k∧H'=H)),ifk (λe=>?_) (λe=>⟨rfl,.inr ⟨by omega,rfl⟩⟩),?_⟩
 ·simp_all only [zcq,zcn,zac]
  exact⟨vb,vu,rfl,h.b (by omega) λ_ _ _ _ _ q r H' s=>.inl ⟨by omega,λH'' s'=>q H'' (s.trans s')⟩⟩
 rintro _ H1 ⟨rfl,h1⟩
 refine⟨λσ' H'=>σ'=[some (.int k),some vb,some vu,some (.ref pl)]∧((k<2∧∀H'',zaF H' H''→Q .non H'')∨(2≤k∧H'=H)),?_,?_⟩
 ·unfold zes
  rcases h1 with ⟨k1,q1⟩ | ⟨k1,rfl⟩
  ·exact ifk (λe=>absurd e (by omega)) (λ_=>⟨rfl,.inl ⟨by omega,q1⟩⟩)
  refine ifk (λe=>?_) (λe=>⟨rfl,.inr ⟨by omega,rfl⟩⟩)
  simp_all only [zcq,zcn,zac]
  have ll:=P.2.1
  refine⟨by decide,λv nv=>?_⟩
  have s2:=zaq nv (.tup [V.int 1,V.int 2])
  have hv:(L2.upd H1 v (.tup [V.int 1,V.int 2])) v=some (.tup [V.int 1,V.int 2]):=zaj
  generalize L2.upd H1 v (.tup [V.int 1,V.int 2])=H2 at s2 hv ⊢
  refine⟨by decide,λu nu=>?_⟩
  have s3:=zaq nu (.tup [V.ref pl,V.int 1])
  have hu:(L2.upd H2 u (.tup [V.ref pl,V.int 1])) u=some (.tup [V.ref pl,V.int 1]):=zaj
  generalize L2.upd H2 u (.tup [V.ref pl,V.int 1])=H3 at s3 hu ⊢
  refine⟨by decide,λml nm=>?_⟩
  have s4:=zaq nm (.lst [V.ref u])
  have hm:(L2.upd H3 ml (.lst [V.ref u])) ml=some (.lst [V.ref u]):=zaj
  generalize L2.upd H3 ml (.lst [V.ref u])=H4 at s4 hm ⊢
  refine⟨by decide,λo no=>?_⟩
  have s5:=zaq no (.lst [V.int 1])
  have ho:(L2.upd H4 o (.lst [V.int 1])) o=some (.lst [V.int 1]):=zaj
  generalize L2.upd H4 o (.lst [V.int 1])=H5 at s5 ho ⊢
  have S5:=s2.trans (s3.trans (s4.trans s5))
  refine⟨_,.inl (SqL.of (S5 _ _ P.1)),_,ho,by omega,by rw[ψb];omega,by rw[ψb];exact ψF (show 1*(ns.length:Int).toNat≤6 by omega) (by decide),λwl nw=>?_⟩
  rw[ψb,Int.toNat_natCast,rep1]
  have s6:=zaq nw (.lst ((ψo ns.length (1:Int)).map V.int))
  have hw:(L2.upd H5 wl (.lst ((ψo ns.length (1:Int)).map V.int))) wl=some (.lst ((ψo ns.length (1:Int)).map V.int)):=zaj
  generalize L2.upd H5 wl (.lst ((ψo ns.length (1:Int)).map V.int))=H6 at s6 hw ⊢
  refine⟨by decide,λpp np=>?_⟩
  have s7:=zaq np (.tup [V.int 1,V.int 3])
  have hpp:(L2.upd H6 pp (.tup [V.int 1,V.int 3])) pp=some (.tup [V.int 1,V.int 3]):=zaj
  generalize L2.upd H6 pp (.tup [V.int 1,V.int 3])=H7 at s7 hpp ⊢
  refine⟨by decide,λpr npr=>?_⟩
  have s8:=zaq npr (.tup [V.ref wl,V.ref pp,V.ref pl])
  have hpr:(L2.upd H7 pr (.tup [V.ref wl,V.ref pp,V.ref pl])) pr=some (.tup [V.ref wl,V.ref pp,V.ref pl]):=zaj
  generalize L2.upd H7 pr (.tup [V.ref wl,V.ref pp,V.ref pl])=H8 at s8 hpr ⊢
  have S8:=S5.trans (s6.trans (s7.trans s8))
  have s58:=s5.trans (s6.trans (s7.trans s8))
  refine⟨vb,vu,v,ml,pr,rfl,(h.same S8 λq=>q).b (by omega) λ_ _ bs _ ln q=>⟨⟨pl,ns,S8 _ _ P.1,ln,P.2.2,⟨W12,s3.trans (s4.trans s58) _ _ hv,ztZ (by decide) rfl (by decide)⟩,⟨u,s58 _ _ hm,s4.trans s58 _ _ hu⟩,ψo ns.length 1,W13,⟨⟨wl,pp,pl,hpr,(s7.trans s8) _ _ hw,s8 _ _ hpp,S8 _ _ P.1⟩,by rw[List.length_replicate,ln],ln,λw hw=>?_,λw hw=>?_,P.2.2,by decide,ztZ (by decide) rfl (by decide)⟩⟩,λr H' s=>.inl ⟨by omega,λH'' s'=>q H'' (S8.trans (s.trans s'))⟩⟩⟩
  ·rw[(List.mem_replicate.mp hw).2]
   decide
  ·rw[(List.mem_replicate.mp hw).2]
   show(1:Nat)<2 ^ 2800
   exact ψv1 (by decide)
 rintro _ H2 ⟨rfl,h2⟩
 show zde a E _ _ _
 unfold zde zaK zdq
 refine⟨λσ' H'=>σ'=[some (.int k),some vb,some vu,some (.ref pl)]∧((k<3∧∀H'',zaF H' H''→Q .non H'')∨(3≤k∧H'=H)),?_,?_⟩
 ·rcases h2 with ⟨k1,q1⟩ | ⟨k1,rfl⟩
  ·exact ifk (λe=>absurd e (by omega)) (λ_=>⟨rfl,.inl ⟨by omega,q1⟩⟩)
  refine ifk (λe=>?_) (λe=>⟨rfl,.inr ⟨by omega,rfl⟩⟩)
  simp_all only [zcq,zcn,zac]
  exact⟨vb,pl,rfl,h.c (by omega) P λq r H' s=>.inl ⟨by omega,λH'' s'=>q H'' (s.trans s')⟩⟩
 rintro _ H3 ⟨rfl,h3⟩
 rcases h3 with ⟨k1,q1⟩ | ⟨k1,rfl⟩
 ·exact ifk (λe=>absurd e (by omega)) (λ_=>q1 _ (.refl _))
 refine ifk (λe=>?_) (λe=>absurd (show k=3 by omega) e)
 simp_all only [zcq,zcn,zac]
 exact⟨vb,pl,rfl,h.c (by omega) P λq r H' s=>q H' s⟩
theorem zkY:zaA ["_law_k","_law_boxes_here","_law_budget","_law_plan"] ["_law_k","_law_boxes_here","_law_budget","_law_plan"] (zai zfG):=⟨rfl,rfl,rfl,by decide +kernel,rfl,by decide +kernel,by decide +kernel⟩
theorem zkn(T:Txt K mg a):zcC P w K mg base (CXV P w) 8 a.f__law_asked a.d__law_asked ["_law_k","_law_boxes_here","_law_budget","_law_plan"] (zpW a):=by
 have G_budget_judged:=zhN (P:=P) (w:=w) (base:=base) T
 have G_budget_worth:=ziI (P:=P) (w:=w) (base:=base) T
 have G_found_by:=zne (P:=P) (w:=w) (base:=base) T
 have G_plan_cost:=zlh (P:=P) (w:=w) (base:=base) T
 refine T.F__law_asked.okV zkY (λvs H Q E h=>?_) (λcdv A outer s H vs Q E hr h=>?_)
 ·obtain⟨k,vb,vu,pl,ns,rfl,k0,k4,P',h⟩:=h
  rfl
 obtain⟨k,vb,vu,pl,ns,rfl,k0,k4,P',h⟩:=h
 exact⟨zfF K a E,(zaf (zbB (zbW (zbG zm5 (pv 0) zah (za9 _)) (zam (zbJ (zal G_budget_worth (hr.mono (by decide)) rfl T.m_budget_worth T.F_budget_worth.kp T.b_budget_worth .nil zjj (zaa (pv 1) (zaa (pv 2) zad))))) zaQ))
 (zaf (zbB (zbW (zbG zm5 (pv 0) zah (za9 _)) (zam (zbJ (zal G_budget_judged (hr.mono (by decide)) rfl T.m_budget_judged T.F_budget_judged.kp T.b_budget_judged .nil zjj (zaa (pv 1) (zaa (pv 2) (zaa (za3 (zaa zah (zaa zah zad))) (zaa (zbK (zaa (za3 (zaa (pv 3) (zaa zah zad))) zad)) (zaa (za3 (zaa (zaB zqg (zbK (zaa zah zad)) (zat zaN rfl T.z_len ψE (zaa (pv 3) zad))) (zaa (za3 (zaa zah (zaa zah zad))) (zaa (pv 3) zad)))) zad)))))))) zaQ))
 (zaf (zbB (zbW (zbG zm5 (pv 0) zah (za9 _)) (zam (zbJ (zal G_plan_cost (hr.mono (by decide)) rfl T.m_plan_cost T.F_plan_cost.kp T.b_plan_cost .nil zjj (zaa (pv 1) (zaa (pv 3) zad))))) zaQ))
 (zam (zbW (zbG zm5 (pv 0) zah (za9 _)) (zam (zbJ (zal G_found_by (hr.mono (by decide)) rfl T.m_found_by T.F_found_by.kp T.b_found_by .nil zjj (zaa (pv 1) (zaa (pv 3) zad))))) zaQ))))),
  zkX k0 k4 P' h⟩
def RefA(H:Hp)(k:Int)(vb vu:V)(ns:List Int)(R:List Str→Prop):Prop :=
 (zpj H vb∧R ["boxes"]) ∨
 ∃(l:Addr) (ts:List Addr) (bs:List Box),vb=.ref l∧GdB H l ts bs∧ns.length=bs.length∧((k<2∧Tg H vu∧wi 0 60 vu=false∧R ["budget"])∨((k<2→∃bud:Int,vu=.int bud∧0≤bud∧bud≤60)∧R []))
def zcO(a:Ad):Sp:=λvs H Q _=>∃(k:Int) (vb vu:V) (pl:Addr) (ns:List Int),vs=[.int k,vb,vu,.ref pl]∧0≤k∧k<4∧PlH H pl ns∧RefA H k vb vu ns λxs=>∀(r:Addr) (H':Hp),zaF H H'→H' r=some (.lst (xs.map V.str))→Q (.ref r) H'
def zeJ(K:ψa)(a:Ad):TS :=
 (zaK (za2 (tC .non) (zag 4))
 (zaK (zuC K (λE'=>(zbQ (zqz (zpW a) [] E' (zab (zac 0) (zab (zac 1) (zab (zac 2) (zab (zac 3) zak))))))) (.ref a.c_HideError) 5
 (za2 (zac 5) (zag 4)))
 (zaK (zdq (zca (zbE (tOp (λx y H Q=>y=.non∧Q (.bl (decide (x=.non))) H) (zac 4) (tC .non))) (zbb (zcV zak)) zaV))
 (zbb (zar (zmj a) [] E0 (zab (zac 4) zak))))))
def aft(a:Ad)(Q:VK)(σ:St)(H:Hp):Prop:=zdq (zca (zbE (tOp (λx y H Q=>y=V.non∧Q (V.bl (decide (x=V.non))) H) (zac 4) (tC V.non))) (zbb (zcV zak)) zaV) { nx:=zbb (zar (zmj a) [] E0 (zab (zac 4) zak)) { nx:=λ_ H'=>Q V.non H',rt:=Q },rt:=Q } σ H
theorem ziz{k:Int}{vb vu:V}{pl:Addr}{ns:List Int}(I:Isa K a)(I2:Isa2 K a)(k0:0≤k)(k4:k<4)(P:PlH H pl ns)(h:RefA H k vb vu ns λxs=>∀(r:Addr) (H':Hp),zaF H H'→H' r=some (.lst (xs.map V.str))→Q (.ref r) H') :
  zeJ K a { nx:=λ_ H'=>Q .non H',rt:=Q } (L2.start ["_law_k","_law_boxes_here","_law_budget","_law_plan","_law_caught","e"] [.int k,vb,vu,.ref pl]) H:=by
 unfold zeJ
 simp_all only [zac]
 have ct:∀(i:Nat) (H1:Hp),i<2→zaF H H1→(∀(r:Addr) (H':Hp),zaF H H'→H' r=some (.lst ([mkS i].map V.str))→Q (.ref r) H') →
   zfS K (mkC a i)∧ψH1 K (mkC a i) (.ref a.c_HideError)=some true∧∀x:Addr,H1 x=none→aft a Q [some (V.int k),some vb,some vu,some (.ref pl),some (V.ref x),none] (L2.upd H1 x (zgE x (mkC a i) none)):=by
  intro i H1 i4 s1 q
  have kk:=zxe I I2 i4
  refine⟨kk.ec,kk.sub,λx nx=>?_⟩
  have s2:=zaq nx (zgE x (mkC a i) none)
  have h2:(L2.upd H1 x (zgE x (mkC a i) none)) x=some (zgE x (mkC a i) none):=zaj
  generalize L2.upd H1 x (zgE x (mkC a i) none)=H2 at s2 h2 ⊢
  unfold aft zdq
  refine⟨λσ' H'=>σ'=[some (V.int k),some vb,some vu,some (.ref pl),some (V.ref x),none]∧H'=H2,?_,?_⟩
  ·simp_all only [zac]
  rintro _ H3 ⟨rfl,rfl⟩
  simp_all only [zac]
  exact⟨x,i,none,rfl,i4,h2,λr H' s hr=>q r H' ((s1.trans s2).trans s) hr⟩
 have no:∀H1:Hp,zaF H H1→(∀(r:Addr) (H':Hp),zaF H H'→H' r=some (.lst (([]:List Str).map V.str))→Q (.ref r) H')→aft a Q [some (V.int k),some vb,some vu,some (.ref pl),some V.non,none] H1:=by
  intro H1 s1 q
  unfold aft zdq
  refine⟨λ_ _=>False,?_,λ_ _ z=>z.elim⟩
  simp_all only [zac]
  exact⟨by decide,λp hp=>q p _ (s1.trans (zaq hp _)) (by rw[zaj];rfl)⟩
 refine⟨k,vb,vu,pl,ns,rfl,k0,k4,P,?_⟩
 rcases h with ⟨hb,q⟩ | ⟨l,ts,bs,e,gd,ln,⟨z,t,w,q⟩ | ⟨hb,q⟩⟩
 ·exact .inl ⟨hb,λH' s=>ct 0 H' (by decide) s q⟩
 ·exact .inr ⟨l,ts,bs,e,gd,ln,.inl ⟨z,t,w,λH' s=>ct 1 H' (by decide) s q⟩⟩
 ·exact .inr ⟨l,ts,bs,e,gd,ln,.inr ⟨hb,λH' s=>no H' s q⟩⟩
theorem zcQ:zaA ["_law_k","_law_boxes_here","_law_budget","_law_plan","_law_caught","e"] ["_law_k","_law_boxes_here","_law_budget","_law_plan"] (zai zeI):=⟨rfl,rfl,rfl,by decide +kernel,rfl,by decide +kernel,by decide +kernel⟩
theorem ziu(T:Txt K mg a):zcC P w K mg base CX0 9 a.f__law_refused a.d__law_refused ["_law_k","_law_boxes_here","_law_budget","_law_plan"] (zcO a):=by
 have G__law_asked:=zkn (P:=P) (w:=w) (base:=base) T
 have G__law_marks:=zkw (P:=P) (w:=w) (base:=base) T
 refine T.F__law_refused.ok zcQ (λvs H Q E h=>?_) (λcdv A outer s H vs Q E hr h=>?_)
 ·obtain⟨k,vb,vu,pl,ns,rfl,k0,k4,P',h⟩:=h
  rfl
 obtain⟨k,vb,vu,pl,ns,rfl,k0,k4,P',h⟩:=h
 exact⟨zeJ K a,(zaf (zaL (i:=4) zcQ.nd rfl (Or.inl rfl) zjV)
 (zaf (zwv (i:=5) T.m_HideError T.x_HideError rfl zcQ.nd rfl rfl rfl rfl rfl rfl (λpins E'=>(zam (zbJ (zsE G__law_asked (hr.mono (by decide)) rfl T.m__law_asked T.F__law_asked.kp T.b__law_asked .nil zxm (zaa (pv 0) (zaa (pv 1) (zaa (pv 2) (zaa (pv 3) zad))))))))
 (λea=>(zam (zaL (i:=4) zcQ.nd rfl (Or.inl rfl) (pv 5)))))
 (zaf (zbB (zbW (zbG zwV (pv 4) zjV (za9 _)) (zam (zaD (zbK zad))) zaQ))
 (zam (zaD (zal G__law_marks (hr.mono (by decide)) rfl T.m__law_marks T.F__law_marks.kp T.b__law_marks .nil zaH (zaa (pv 4) zad))))))),
  ziz T.I T.I2 k0 k4 P' h⟩
def zht:Sp:=λvs H Q _=>∃(p c:Addr) (t:Int),vs=[.ref p]∧Pur H p c t∧t<10000∧∀(v:V) (t':Int) (H':Hp),zaF (Off p c H) (Off p c H')→Pur H' p c t'→t'≤t+3→Tg (Off p c H') v→wi 0 60 v=false→Q v H'
def zdB(K:ψa):TS :=
 (zaK (za2 (zar zbT [] E0 (zab (zac 0) (zab (tOp (rI zvQ λi j=>.int (i ^ j.toNat)) (tC (.int 10)) (tC (.int 29))) zak))) (zag 1))
 (zaK (za2 (zcV (zab (tUn (rU λi=>.int (-i)) (tC (.int 1))) (zab (tC (.int 61)) (zab (tOp (rI0 λi j=>.int (i+j)) (tC (.int 61)) (zac 1)) (zab (tOp (rI0 λi j=>.int (i - j)) (tOp (rI0 λi j=>.int (i - j)) (tC (.int 0)) (tC (.int 1))) (zac 1)) (zab (tC (.bl true)) (zab (tC (.bl false)) (zab (tC .non) (zab (tC (.str "5")) (zab (zbV (zab (tC (.int 5)) (zab (tC (.int 1)) zak))) (zab (zcV (zab (tC (.int 5)) zak)) (zab (zbV zak) zak)))))))))))) (zag 2))
 (zbb (tOp (zhO K) (zac 2) (zar zbT [] E0 (zab (zac 0) (zab (tCB (λxs H Q=>∃p ys,xs=[.ref p]∧(SqL K H p ys∨SqT K H p ys)∧Q (.int ys.length) H) (zab (zac 2) zak)) zak)))))))
theorem zhp{p c:Addr}{t:Int}(P:Pur H p c t)(t1:t<10000)(q:∀(v:V) (t':Int) (H':Hp),zaF (Off p c H) (Off p c H')→Pur H' p c t'→t'≤t+3→Tg (Off p c H') v→wi 0 60 v=false→Q v H') :
  zdB K { nx:=λ_ H'=>Q .non H',rt:=Q } (L2.start ["_law_purse_here","_law_far","_law_some"] [.ref p]) H:=by
 unfold zdB
 have t0:=P.t0
 simp_all only [zac]
 refine⟨zy2,p,c,t,_,rfl,P,by omega,by decide,by decide,λf H1 f0 f1 o1 P1=>?_⟩
 have S:=zfz o1
 simp_all only [zac]
 refine⟨by decide,λr1 n1=>?_⟩
 obtain⟨s2,k1,P2⟩:=P1.put n1 (.tup [.int 5,.int 1])
 generalize L2.upd H1 r1 (.tup [.int 5,.int 1])=H2 at s2 k1 P2 ⊢
 refine⟨by decide,λr2 n2=>?_⟩
 obtain⟨s3,k2,P3⟩:=P2.put n2 (.lst [.int 5])
 generalize L2.upd H2 r2 (.lst [.int 5])=H3 at s3 k2 P3 ⊢
 refine⟨by decide,λr3 n3=>?_⟩
 obtain⟨s4,k3,P4⟩:=P3.put n3 (.tup [])
 generalize L2.upd H3 r3 (.tup [])=H4 at s4 k3 P4 ⊢
 refine⟨by decide,λr4 n4=>?_⟩
 generalize hL:([.int (-1),.int 61,.int (61+f),.int (-1 - f),.bl true,.bl false,.non,.str (Str.ofString "5"),.ref r1,.ref r2,.ref r3]:List V)=L
 obtain⟨s5,k4,P5⟩:=P4.put n4 (.lst L)
 generalize L2.upd H4 r4 (.lst L)=H5 at s5 k4 P5 ⊢
 have lL:L.length=11:=by rw[← hL];rfl
 have al:∀x∈L,Tg (Off p c H5) x∧wi 0 60 x=false:=by
  rw[← hL]
  intro x hx
  simp only[ψP,ψI,or_false] at hx
  rcases hx with rfl | rfl | rfl | rfl | rfl | rfl | rfl | rfl | rfl | rfl | rfl
  ·exact⟨.int _,rfl⟩
  ·exact⟨.int _,rfl⟩
  ·exact⟨.int _,decide_eq_false (by omega)⟩
  ·exact⟨.int _,decide_eq_false (by omega)⟩
  ·exact⟨.bl _,rfl⟩
  ·exact⟨.bl _,rfl⟩
  ·exact⟨.non,rfl⟩
  ·exact⟨.str _,rfl⟩
  ·exact⟨.tup (s5 _ _ (s4 _ _ (s3 _ _ k1))),rfl⟩
  ·exact⟨.lst (s5 _ _ (s4 _ _ k2)),rfl⟩
  ·exact⟨.tup (s5 _ _ k3),rfl⟩
 refine⟨_,.inl (SqL.of (zbc _ _ _ _ _ k4)),p,c,_,_,rfl,P5,by omega,by omega,by omega,λw H6 w0 w1 o6 P6=>?_⟩
 have s6:=zfz o6
 obtain⟨k,rfl⟩:∃k:Nat,w=k:=⟨w.toNat,by omega⟩
 have e:L[k]?=some (L[k]'(by omega)):=ψd _
 obtain⟨a1,a2⟩:=al _ (ψS1 (by omega:k<L.length))
 exact⟨_,_,rfl,SqL.of (zbc _ _ _ _ _ (s6 _ _ k4)),_,zg8 e,q _ _ _ (S.trans (s2.trans (s3.trans (s4.trans (s5.trans s6))))) P6 (by omega) (a1.same s6) a2⟩
theorem zc0:zaA ["_law_purse_here","_law_far","_law_some"] ["_law_purse_here"] (zai zdx):=⟨rfl,rfl,rfl,by decide +kernel,rfl,by decide +kernel,by decide +kernel⟩
theorem zhu(T:Txt K mg a):zcC P w K mg base CX0 2 a.f__law_no_budget a.d__law_no_budget ["_law_purse_here"] zht:=by
 have G__law_draw:=zej (P:=P) (w:=w) (base:=base) T
 refine T.F__law_no_budget.ok zc0 (λvs H Q E h=>?_) (λcdv A outer s H vs Q E hr h=>?_)
 ·obtain⟨p,c,t,rfl,hP,t1,q⟩:=h
  rfl
 obtain⟨p,c,t,rfl,hP,t1,q⟩:=h
 exact⟨zdB K,(zaf (zaL (i:=1) zc0.nd rfl (Or.inl rfl) (zal G__law_draw (hr.mono (by decide)) rfl T.m__law_draw T.F__law_draw.kp T.b__law_draw .nil zaH (zaa (pv 0) (zaa (zaB zqp zah zah) zad))))
 (zaf (zaL (i:=2) zc0.nd rfl (Or.inl rfl) (zbK (zaa (zsd znI zah) (zaa zah (zaa (zaB zcT zah (pv 1)) (zaa (zaB zd7 (zaB zd7 zah zah) (pv 1)) (zaa zeA (zaa zeA (zaa zjV (zaa zdE (zaa (za3 (zaa zah (zaa zah zad))) (zaa (zbK (zaa zah zad)) (zaa (za3 zad) zad)))))))))))))
 (zam (zaD (zaS zdv (pv 2) (zal G__law_draw (hr.mono (by decide)) rfl T.m__law_draw T.F__law_draw.kp T.b__law_draw .nil zaH (zaa (pv 0) (zaa (zat zaN rfl T.z_len ψE (zaa (pv 2) zad)) zad))) (λ_ _=>rfl)))))),
  zhp hP t1 q⟩
theorem at7{r:Int}(h0:0≤r)(h1:r<4):∃v:Int,atI [V.int 7,V.int 7,V.int 7,V.int 61] r=some (.int v)∧0<v∧v≤61:=by
 have:r=0∨r=1∨r=2∨r=3:=by omega
 rcases this with rfl | rfl | rfl | rfl
 ·exact⟨7,rfl,by decide,by decide⟩
 ·exact⟨7,rfl,by decide,by decide⟩
 ·exact⟨7,rfl,by decide,by decide⟩
 ·exact⟨61,rfl,by decide,by decide⟩
theorem zuS{p c b:Addr}{H:Hp}(h1:b≠p)(h2:b≠c):Off p c H b=H b:=by
 unfold Off
 rw[if_neg (λz=>z.elim h1 h2)]
theorem shI{H:Hp}{p:Addr}{is:List Int}{n:Nat}(h:H p=some (.lst (is.map V.int))):zdl K H (n+1) (.lst (is.map Tr.int)) (.ref p):=by
 refine .lst (SqL.of h) (by rw[ψb,ψb]) λi x t e1 e2=>?_
 obtain⟨a,ea,rfl⟩:=zaC e1
 obtain⟨b,eb,rfl⟩:=zaC e2
 rw[ea] at eb
 cases eb
 exact .int _
def bxT(b:Box):Tr:=.tup [.int b.1,.int b.2.1,.int b.2.2]
theorem shB{H:Hp}{p:Addr}{ts:List Addr}{bs:List Box}(h:H p=some (.lst (ts.map V.ref)))(hb:Tps bx H ts bs):zdl K H (0+1+1) (.lst (bs.map bxT)) (.ref p):=by
 refine .lst (SqL.of h) (by rw[ψb,ψb,hb.1]) λi x t e1 e2=>?_
 obtain⟨a,ea,rfl⟩:=zaC e1
 obtain⟨b,eb,rfl⟩:=zaC e2
 refine .tup (SqT.of (hb.2 i a b ea eb)) rfl λj y r f1 f2=>?_
 match j,f1,f2 with
 | 0,f1,f2=>cases f1;cases f2;exact .int _
 | 1,f1,f2=>cases f1;cases f2;exact .int _
 | 2,f1,f2=>cases f1;cases f2;exact .int _
theorem sh2{H:Hp}{p a b:Addr}{A B:Tr}{n:Nat}(h:H p=some (.lst [.ref a,.ref b]))(ha:zdl K H n A (.ref a))(hb:zdl K H n B (.ref b)):zdl K H (n+1) (.lst [A,B]) (.ref p):=by
 refine .lst (SqL.of h) rfl λj y r f1 f2=>?_
 match j,f1,f2 with
 | 0,f1,f2=>cases f1;cases f2;exact ha
 | 1,f1,f2=>cases f1;cases f2;exact hb
theorem shS{H:Hp}{p:Addr}{ss:List Str}(h:H p=some (.lst (ss.map V.str))):zdl K H (0+1) (.lst (ss.map Tr.str)) (.ref p):=by
 refine .lst (SqL.of h) (by rw[ψb,ψb]) λi x t e1 e2=>?_
 obtain⟨a,ea,rfl⟩:=zaC e1
 obtain⟨b,eb,rfl⟩:=zaC e2
 rw[ea] at eb
 cases eb
 exact .str _
structure LwH (H:Hp) (l pl kp k1 k2:Addr) (ts:List Addr) (bs:List Box) (ns:List Int):Prop where
 gd:GdB H l ts bs
 pl:PlH H pl ns
 ln:ns.length=bs.length
 hk:H kp=some (.lst [.ref k1,.ref k2])
 h1:H k1=some (.lst (ts.map V.ref))
 h2:H k2=some (.lst (ns.map V.int))
theorem LwH.same{H H':Hp}{l pl kp k1 k2:Addr}{ts:List Addr}{bs:List Box}{ns:List Int}(L:LwH H l pl kp k1 k2 ts bs ns)(s:zaF H H'):LwH H' l pl kp k1 k2 ts bs ns :=
 ⟨L.gd.same s,⟨s _ _ L.pl.1,L.pl.2⟩,L.ln,s _ _ L.hk,s _ _ L.h1,s _ _ L.h2⟩
def zkM(K:ψa)(a:Ad):TS :=
 (zca (zbE (tOp (zrv K) (zar (zcO a) [] E0 (zab (zac 9) (zab (zac 2) (zab (zac 3) (zab (zac 4) zak))))) (zcV zak))) (zbb (tC (.bl false))) zaV)
theorem zbf(K:ψa)(a:Ad)(D:zbP)(σ:St)(H:Hp):zkM K a D σ H=(zca (zbE (tOp (zrv K) (zar (zcO a) [] E0 (zab (zac 9) (zab (zac 2) (zab (zac 3) (zab (zac 4) zak))))) (zcV zak))) (zbb (tC (.bl false))) zaV) D σ H:=rfl
def zkQ(K:ψa)(a:Ad):TS :=
 (zca (tOr (zbE (tOp (zrv K) (zar (zcO a) [] E0 (zab (zac 9) (zab (zac 7) (zab (zac 8) (zab (zac 4) zak))))) (zcV (zab (tC (.str "boxes")) zak)))) (zbE (tOp (zrv K) (zar (zcO a) [] E0 (zab (zac 9) (zab (zac 7) (zab (zac 3) (zab (zac 4) zak))))) (zcV (zab (tC (.str "boxes")) zak))))) (zbb (tC (.bl false))) zaV)
theorem zbi(K:ψa)(a:Ad)(D:zbP)(σ:St)(H:Hp):zkQ K a D σ H=(zca (tOr (zbE (tOp (zrv K) (zar (zcO a) [] E0 (zab (zac 9) (zab (zac 7) (zab (zac 8) (zab (zac 4) zak))))) (zcV (zab (tC (.str "boxes")) zak)))) (zbE (tOp (zrv K) (zar (zcO a) [] E0 (zab (zac 9) (zab (zac 7) (zab (zac 3) (zab (zac 4) zak))))) (zcV (zab (tC (.str "boxes")) zak))))) (zbb (tC (.bl false))) zaV) D σ H:=rfl
def zla(K:ψa)(a:Ad):TS :=
 (zca (zbE (tOp (zrv K) (zar (zcO a) [] E0 (zab (zac 9) (zab (zac 2) (zab (zac 8) (zab (zac 4) zak))))) (tOp zuj (zcV (zab (tC (.str "budget")) zak)) (tCB (λxs H Q=>(∃i,xs=[.int i]∧Q (.int i) H)∨∃k,xs=[.bl k]∧Q (.int (if k then 1 else 0)) H) (zab (tOp (rI0 λi j=>.bl (decide (i<j))) (zac 9) (tC (.int 2))) zak))))) (zbb (tC (.bl false))) zaV)
theorem zbk(K:ψa)(a:Ad)(D:zbP)(σ:St)(H:Hp):zla K a D σ H=(zca (zbE (tOp (zrv K) (zar (zcO a) [] E0 (zab (zac 9) (zab (zac 2) (zab (zac 8) (zab (zac 4) zak))))) (tOp zuj (zcV (zab (tC (.str "budget")) zak)) (tCB (λxs H Q=>(∃i,xs=[.int i]∧Q (.int i) H)∨∃k,xs=[.bl k]∧Q (.int (if k then 1 else 0)) H) (zab (tOp (rI0 λi j=>.bl (decide (i<j))) (zac 9) (tC (.int 2))) zak))))) (zbb (tC (.bl false))) zaV) D σ H:=rfl
def znt(K:ψa)(a:Ad):TS :=
 (zaK (za2 (zar zht [] E0 (zab (zac 1) zak)) (zag 8))
 (zjy (zg4 (zab (tC (.int 4)) zak)) (zag 9)
 (zaK (zdq (zla K a))
 (zkQ K a))))
theorem zeP(K:ψa)(a:Ad)(D:zbP)(σ:St)(H:Hp):znt K a D σ H=(zaK (za2 (zar zht [] E0 (zab (zac 1) zak)) (zag 8))
 (zjy (zg4 (zab (tC (.int 4)) zak)) (zag 9)
 (zaK (zdq (zla K a))
 (zkQ K a)))) D σ H:=rfl
def ziK(K:ψa)(a:Ad):TS :=
 (zaK (zjy (zg4 (zab (tC (.int 4)) zak)) (zag 9)
 (zkM K a))
 (zbb (tOp (rEqD K) (zcV (zab (zac 2) (zab (zac 4) zak))) (zac 5))))
theorem zbp(K:ψa)(a:Ad)(D:zbP)(σ:St)(H:Hp):ziK K a D σ H=(zaK (zjy (zg4 (zab (tC (.int 4)) zak)) (zag 9)
 (zkM K a))
 (zbb (tOp (rEqD K) (zcV (zab (zac 2) (zab (zac 4) zak))) (zac 5)))) D σ H:=rfl
def zmV(K:ψa)(a:Ad):TS :=
 (zaK (zjy (zg4 (zab (tC (.int 6)) zak)) (zag 6)
 (zaK (za2 (zar zjd [] E0 (zab (zac 1) (zab (zac 2) zak))) (zag 7))
 (znt K a)))
 (ziK K a))
theorem zeQ(K:ψa)(a:Ad)(D:zbP)(σ:St)(H:Hp):zmV K a D σ H=(zaK (zjy (zg4 (zab (tC (.int 6)) zak)) (zag 6)
 (zaK (za2 (zar zjd [] E0 (zab (zac 1) (zab (zac 2) zak))) (zag 7))
 (znt K a)))
 (ziK K a)) D σ H:=rfl
def zmS(K:ψa)(a:Ad):TS :=
 (zaK (za2 (zcV (zab (tCB (λxs H Q=>∃p ys,xs=[.ref p]∧(SqL K H p ys∨SqT K H p ys)∧∀l,H l=none→Q (.ref l) (upd H l (.lst ys))) (zab (zac 2) zak)) (zab (tCB (λxs H Q=>∃p ys,xs=[.ref p]∧(SqL K H p ys∨SqT K H p ys)∧∀l,H l=none→Q (.ref l) (upd H l (.lst ys))) (zab (zac 4) zak)) zak))) (zag 5))
 (zmV K a))
theorem ze1(K:ψa)(a:Ad)(D:zbP)(σ:St)(H:Hp):zmS K a D σ H=(zaK (za2 (zcV (zab (tCB (λxs H Q=>∃p ys,xs=[.ref p]∧(SqL K H p ys∨SqT K H p ys)∧∀l,H l=none→Q (.ref l) (upd H l (.lst ys))) (zab (zac 2) zak)) (zab (tCB (λxs H Q=>∃p ys,xs=[.ref p]∧(SqL K H p ys∨SqT K H p ys)∧∀l,H l=none→Q (.ref l) (upd H l (.lst ys))) (zab (zac 4) zak)) zak))) (zag 5))
 (zmV K a)) D σ H:=rfl
def zm1(K:ψa)(a:Ad):TS :=
 (zaK (za2 (zbA (zg4 (zab (tCB (λxs H Q=>∃p ys,xs=[.ref p]∧(SqL K H p ys∨SqT K H p ys)∧Q (.int ys.length) H) (zab (zac 2) zak)) zak)) (zag 0) zaE (zar zbT [] E0 (zab (zac 1) (zab (tC (.int 4)) zak))) [none,some 1]) (zag 4))
 (zmS K a))
theorem zeS(K:ψa)(a:Ad)(D:zbP)(σ:St)(H:Hp):zm1 K a D σ H=(zaK (za2 (zbA (zg4 (zab (tCB (λxs H Q=>∃p ys,xs=[.ref p]∧(SqL K H p ys∨SqT K H p ys)∧Q (.int ys.length) H) (zab (zac 2) zak)) zak)) (zag 0) zaE (zar zbT [] E0 (zab (zac 1) (zab (tC (.int 4)) zak))) [none,some 1]) (zag 4))
 (zmS K a)) D σ H:=rfl
def zpG(K:ψa)(a:Ad):TS :=
 (zaK (za2 (zar zbT [] E0 (zab (zac 1) (zab (tOp (zhO K) (zcV (zab (tC (.int 7)) (zab (tC (.int 7)) (zab (tC (.int 7)) (zab (tC (.int 61)) zak))))) (zar zbT [] E0 (zab (zac 1) (zab (tC (.int 4)) zak)))) zak))) (zag 3))
 (zm1 K a))
theorem ze3(K:ψa)(a:Ad)(D:zbP)(σ:St)(H:Hp):zpG K a D σ H=(zaK (za2 (zar zbT [] E0 (zab (zac 1) (zab (tOp (zhO K) (zcV (zab (tC (.int 7)) (zab (tC (.int 7)) (zab (tC (.int 7)) (zab (tC (.int 61)) zak))))) (zar zbT [] E0 (zab (zac 1) (zab (tC (.int 4)) zak)))) zak))) (zag 3))
 (zm1 K a)) D σ H:=rfl
def zuK(K:ψa)(a:Ad):TS :=
 (zaK (za2 (zar (zra K) [] E0 (zab (zac 0) zak)) (zag 1))
 (zaK (za2 (zar zoc [] E0 (zab (zac 1) (zab (tC (.int 4)) zak))) (zag 2))
 (zpG K a)))
theorem zyg{p:Addr}{ns0:List Int}(hS:SqL K H p (ns0.map V.int))(hl:ns0.length≤63)(q:∀H',Q (.bl true) H') :
  zuK K a { nx:=λ_ H'=>Q .non H',rt:=Q } (L2.start ["_law_script","_law_purse_here","_law_boxes_here","_law_budget","_law_plan","_law_kept","_law_turn","_law_none","_law_wrong","_law_k"] [.ref p]) H:=by
 unfold zuK
 simp_all only [zbf,zbi,zbk,zbp,zac]
 refine⟨p,ns0,rfl,hS,λu c H1 s1 P1=>?_⟩
 simp only
 refine⟨u,c,0,rfl,P1,by decide,λl ts bs t2 H2 s2 P2 ht2 hl2 hb2 gb l1 l6=>?_⟩
 have t20:=P2.t0
 ((try simp only);first | rw[zeP] | rw[zeQ] | rw[ze1] | rw[zeS] | rw[ze3]);simp_all only [zbf,zbi,zbk,zbp,zac]
 refine⟨by decide,λd n1=>?_⟩
 obtain⟨s3,h3,P3⟩:=P2.put n1 (.lst [.int 7,.int 7,.int 7,.int 61])
 generalize L2.upd H2 d (.lst [.int 7,.int 7,.int 7,.int 61])=H3 at s3 h3 P3 ⊢
 refine⟨u,c,t2,_,rfl,P3,by omega,by decide,by decide,λr H4 r0 r1 o4 P4=>?_⟩
 have s4:=zfz o4
 obtain⟨m,em,m0,m1⟩:=at7 r0 r1
 simp_all only [zbf,zbi,zbk,zbp,zac]
 refine⟨_,SqL.of (zbc _ _ _ _ _ (s4 _ _ h3)),_,em,?_⟩
 refine⟨u,c,_,m,rfl,P4,by omega,m0,by omega,λbud H5 b0 b1 o5 P5=>?_⟩
 have s5:=s3.trans (s4.trans (zfz o5))
 have G5:GdB (Off u c H5) l ts bs:=⟨s5 _ _ hl2,hb2.same s5,gb,l1,l6⟩
 ((try simp only);first | rw[zeP] | rw[zeQ] | rw[ze1] | rw[zeS] | rw[ze3]);simp_all only [zbf,zbi,zbk,zbp,zac]
 refine⟨_,.inl (SqL.of (zbc _ _ _ _ _ G5.hl)),?_⟩
 rw[ψb,G5.hb.1,Int.toNat_natCast]
 refine⟨by omega,by omega,λD hD=>?_⟩
 have nD:=P5.new hD
 have A:=P5.put hD (.lst [])
 refine zjf (λi ys σ H'=>∃t:Int,zaF (Off u c H5) (Off u c H')∧Pur H' u c t∧t≤t2+2+i∧(∃ns:List Int,ys=ns.map V.int∧ns.length=i∧∀n∈ns,0≤n∧n≤60)∧∃k,σ=[k,some (.ref u)]) ⟨_,A.1,A.2.2,by omega,⟨[],rfl,rfl,λn hn=>(nomatch hn)⟩,_,rfl⟩ ?_ ?_
 ·rintro i ys σ H6 hi hr6 ⟨t,s6,P6,ht,⟨ns,rfl,ln,gn⟩,k,rfl⟩
  have t0:=P6.t0
  simp_all only [zbf,zbi,zbk,zbp,zac]
  refine⟨u,c,t,4,rfl,P6,by omega,by decide,by decide,λn H7 n0 n1 o7 P7=>?_⟩
  have s7:=zfz o7
  have hr7:H7 D=some (.lst (ns.map V.int)):=by rw[← zuS (H:=H7) nD.1 nD.2,o7,zuS nD.1 nD.2];exact hr6
  have P8:Pur (L2.upd H7 D (.lst (ns.map V.int++[V.int n]))) u c (t+1):=P7.upd nD.1 nD.2
  refine⟨_,hr7,zbC (by rw[ψb];omega),_,zaj,?_,_,P8,?tb,ns++[n],by rw[ψb1];rfl,by rw[ψs,ln];rfl,λx hx=>?_⟩
  case tb=>omega
  ·rw[zb1 nD.1 nD.2]
   exact(s6.trans s7).put (zff hD)
  ·rcases List.mem_append.mp hx with hx | hx
   ·exact gn x hx
   ·rw[List.mem_singleton.mp hx]
    omega
 rintro ys σ H6 hr6 ⟨t6,s6,P6,ht6,⟨ns,rfl,ln,gn⟩,k,rfl⟩
 have t60:=P6.t0
 have G6:=G5.same s6
 have hp6:Off u c H6 D=some (.lst (ns.map V.int)):=(zuS nD.1 nD.2).trans hr6
 ((try simp only);first | rw[zeP] | rw[zeQ] | rw[ze1] | rw[zeS] | rw[ze3]);simp_all only [zbf,zbi,zbk,zbp,zac]
 refine⟨_,.inl (SqL.of (zbc _ _ _ _ _ G6.hl)),λk1 v1=>?_⟩
 obtain⟨z1,hk1,Q1⟩:=P6.put v1 (.lst (ts.map V.ref))
 generalize L2.upd H6 k1 (.lst (ts.map V.ref))=A1 at z1 hk1 Q1 ⊢
 refine⟨_,.inl (SqL.of (zbc _ _ _ _ _ (z1 _ _ hp6))),λk2 v2=>?_⟩
 obtain⟨z2,hk2,Q2⟩:=Q1.put v2 (.lst (ns.map V.int))
 generalize L2.upd A1 k2 (.lst (ns.map V.int))=A2 at z2 hk2 Q2 ⊢
 refine⟨by decide,λkp v3=>?_⟩
 obtain⟨z3,hkp,Q3⟩:=Q2.put v3 (.lst [.ref k1,.ref k2])
 generalize L2.upd A2 kp (.lst [.ref k1,.ref k2])=A3 at z3 hkp Q3 ⊢
 have z:=z1.trans (z2.trans z3)
 have L:LwH (Off u c A3) l D kp k1 k2 ts bs ns:=⟨G6.same z,⟨z _ _ hp6,by omega,gn⟩,by omega,hkp,(z2.trans z3) _ _ hk1,z3 _ _ hk2⟩
 clear hkp hk1 hk2 hp6 G6 hr6 P6 s6 z z1 z2 z3 v1 v2 v3 Q1 Q2 G5 P5 s5 o5 P4 o4 s4 h3 P3 s3 s2 P2 hl2 hb2
 ((try simp only);first | rw[zeP] | rw[zeQ] | rw[ze1] | rw[zeS] | rw[ze3]);simp_all only [zbf,zbi,zbk,zbp,zac]
 refine⟨by decide,by decide,?_⟩
 refine ze0 (λi σ H'=>∃(t:Int) (o6 o7 o8 o9:Option V),σ=[some (.ref p),some (.ref u),some (.ref l),some (.int bud),some (.ref D),some (.ref kp),o6,o7,o8,o9]∧zaF (Off u c A3) (Off u c H')∧Pur H' u c t∧t≤100+6*i) ⟨_,_,_,_,_,rfl,.refl _,Q3,by omega⟩ ?_ ?_
 ·rintro i σ H1 hi ⟨t,o6,o7,o8,o9,rfl,y1,R1,ht⟩
  have t0:=R1.t0
  simp_all only [zbf,zbi,zbk,zbp,zac]
  have L1:=L.same y1
  refine⟨u,c,l,t,ts,bs,rfl,R1,by omega,L1.gd,λvb t' H2 y2 R2 ht2 hb=>?_⟩
  have t0':=R2.t0
  ((try simp only);first | rw[zeP] | rw[zeQ] | rw[ze1] | rw[zeS] | rw[ze3]);simp_all only [zbf,zbi,zbk,zbp,zac]
  refine⟨u,c,t',rfl,R2,by omega,λvu t7 H3 y3 R3 ht3 hu hw=>?_⟩
  refine⟨by decide,by decide,?_⟩
  refine ze0 (λj σ H'=>∃o9:Option V,σ=[some (.ref p),some (.ref u),some (.ref l),some (.int bud),some (.ref D),some (.ref kp),some (.int (0+(i:Int))),some vb,some vu,o9]∧zaF (Off u c H3) (Off u c H')∧Pur H' u c t7) ⟨_,rfl,.refl _,R3⟩ ?_ ?_
  ·rintro j σ H4 hj ⟨o9',rfl,y4,R4⟩
   simp_all only [zbf,zbi,zbk,zbp,zac]
   refine⟨λσ' H'=>σ'=[some (.ref p),some (.ref u),some (.ref l),some (.int bud),some (.ref D),some (.ref kp),some (.int (0+(i:Int))),some vb,some vu,some (.int (0+(j:Int)))]∧zaF (Off u c H3) (Off u c H')∧Pur H' u c t7,?_,?_⟩
   ·unfold zla
    have L4:=(((L1.same y2).same y3).same y4).same (zbc u c H4)
    have hu4:=(hu.same y4).same (zbc u c H4)
    simp_all only [zbf,zbi,zbk,zbp,zac]
    refine⟨0+j,.ref l,vu,D,ns,rfl,by omega,by omega,L4.pl,.inr ⟨l,ts,bs,rfl,L4.gd,L4.ln,?_⟩⟩
    by_cases k2:0+(j:Int)<2
    ·refine .inl ⟨k2,hu4,hw,λr H5 s5 hr=>?_⟩
     refine⟨by decide,λb nb=>?_⟩
     have s6:=zaq nb (.lst [V.str "budget"])
     have hb6:(L2.upd H5 b (.lst [V.str "budget"])) b=some (.lst [V.str "budget"]):=zaj
     generalize L2.upd H5 b (.lst [V.str "budget"])=H6 at s6 hb6 ⊢
     refine .inr ?_
     rw[if_pos k2]
     refine⟨_,hb6,by decide,by decide,show 1*1≤sizeLine by decide,λb2 n2=>?_⟩
     have s7:=zaq n2 (.lst (ψo (1:Int).toNat [V.str "budget"]).flatten)
     have h7:(L2.upd H6 b2 (.lst (ψo (1:Int).toNat [V.str "budget"]).flatten)) b2=some (.lst (ψo (1:Int).toNat [V.str "budget"]).flatten):=zaj
     generalize L2.upd H6 b2 (.lst (ψo (1:Int).toNat [V.str "budget"]).flatten)=H7 at s7 h7 ⊢
     have S7:=s5.trans (s6.trans s7)
     exact⟨0,by decide,_,.inl ⟨shS ((s6.trans s7) _ _ hr),shS (ss:=["budget"]) h7⟩,y4.trans (zig u c S7),R4.same S7⟩
    ·refine .inr ⟨λz=>absurd z k2,λr H5 s5 hr=>?_⟩
     refine⟨by decide,λb nb=>?_⟩
     have s6:=zaq nb (.lst [V.str "budget"])
     have hb6:(L2.upd H5 b (.lst [V.str "budget"])) b=some (.lst [V.str "budget"]):=zaj
     generalize L2.upd H5 b (.lst [V.str "budget"])=H6 at s6 hb6 ⊢
     refine .inr ?_
     rw[if_neg k2]
     refine⟨_,hb6,by decide,by decide,show 1*0≤sizeLine by decide,λb2 n2=>?_⟩
     have s7:=zaq n2 (.lst (ψo (0:Int).toNat [V.str "budget"]).flatten)
     have h7:(L2.upd H6 b2 (.lst (ψo (0:Int).toNat [V.str "budget"]).flatten)) b2=some (.lst (ψo (0:Int).toNat [V.str "budget"]).flatten):=zaj
     generalize L2.upd H6 b2 (.lst (ψo (0:Int).toNat [V.str "budget"]).flatten)=H7 at s7 h7 ⊢
     have S7:=s5.trans (s6.trans s7)
     exact⟨0,by decide,_,.inl ⟨shS ((s6.trans s7) _ _ hr),shS (ss:=[]) h7⟩,y4.trans (zig u c S7),R4.same S7⟩
   ·rintro _ H5 ⟨rfl,y5,R5⟩
    have L5:=(((L1.same y2).same y3).same y5).same (zbc u c H5)
    have hb5:=((hb.same y3).same y5).same (zbc u c H5)
    unfold zkQ
    simp_all only [zbf,zbi,zbk,zbp,zac]
    refine⟨0+j,vb,vu,D,ns,rfl,by omega,by omega,L5.pl,.inl ⟨hb5,λr H6 s6 hr=>?_⟩⟩
    refine⟨by decide,λb nb=>?_⟩
    have s7:=zaq nb (.lst [V.str "boxes"])
    have hb7:(L2.upd H6 b (.lst [V.str "boxes"])) b=some (.lst [V.str "boxes"]):=zaj
    generalize L2.upd H6 b (.lst [V.str "boxes"])=H7 at s7 hb7 ⊢
    have S7:=s6.trans s7
    refine⟨0,by decide,_,.inl ⟨shS (s7 _ _ hr),shS (ss:=["boxes"]) hb7⟩,?_⟩
    refine⟨0+j,vb,.int bud,D,ns,rfl,by omega,by omega,(L5.same S7).pl,.inl ⟨hb5.same S7,λr2 H8 s8 hr2=>?_⟩⟩
    refine⟨by decide,λb2 nb2=>?_⟩
    have s9:=zaq nb2 (.lst [V.str "boxes"])
    have hb9:(L2.upd H8 b2 (.lst [V.str "boxes"])) b2=some (.lst [V.str "boxes"]):=zaj
    generalize L2.upd H8 b2 (.lst [V.str "boxes"])=H9 at s9 hb9 ⊢
    have S9:=S7.trans (s8.trans s9)
    refine⟨0,by decide,_,.inl ⟨shS (s9 _ _ hr2),shS (ss:=["boxes"]) hb9⟩,?_⟩
    exact⟨y5.trans (zig u c S9),R5.same S9⟩
  ·rintro σ H4 ⟨o9',rfl,y4,R4⟩
   exact⟨t7,_,_,_,_,rfl,y1.trans (y2.trans (y3.trans y4)),R4,by omega⟩
 rintro σ H1 ⟨t,o6,o7,o8,o9,rfl,y1,R1,ht⟩
 show ziK K a _ _ _
 unfold ziK
 simp_all only [zbf,zbi,zbk,zbp,zac]
 refine⟨by decide,by decide,?_⟩
 refine ze0 (λj σ H'=>∃o9:Option V,σ=[some (.ref p),some (.ref u),some (.ref l),some (.int bud),some (.ref D),some (.ref kp),o6,o7,o8,o9]∧zaF (Off u c A3) (Off u c H')) ⟨_,rfl,y1⟩ ?_ ?_
 ·rintro j σ H4 hj ⟨o9',rfl,y4⟩
  have L4:=(L.same y4).same (zbc u c H4)
  unfold zkM
  simp_all only [zbf,zbi,zbk,zbp,zac]
  refine⟨0+j,.ref l,.int bud,D,ns,rfl,by omega,by omega,L4.pl,.inr ⟨l,ts,bs,rfl,L4.gd,L4.ln,.inr ⟨λ_=>⟨bud,rfl,b0,by omega⟩,λr H5 s5 hr=>?_⟩⟩⟩
  refine⟨by decide,λb nb=>?_⟩
  have s6:=zaq nb (.lst [])
  have hb6:(L2.upd H5 b (.lst [])) b=some (.lst []):=zaj
  generalize L2.upd H5 b (.lst [])=H6 at s6 hb6 ⊢
  exact⟨0,by decide,_,.inl ⟨shS (s6 _ _ hr),shS (ss:=[]) hb6⟩,y4.trans (zig u c (s5.trans s6))⟩
 rintro σ H4 ⟨o9',rfl,y4⟩
 have L4:=(L.same y4).same (zbc u c H4)
 simp_all only [zbf,zbi,zbk,zbp,zac]
 refine⟨by decide,λb nb=>?_⟩
 have s5:=zaq nb (.lst [V.ref l,V.ref D])
 have hb5:(L2.upd H4 b (.lst [V.ref l,V.ref D])) b=some (.lst [V.ref l,V.ref D]):=zaj
 generalize L2.upd H4 b (.lst [V.ref l,V.ref D])=H5 at s5 hb5 ⊢
 replace L4:=L4.same s5
 exact⟨2,by decide,_,.inl ⟨sh2 hb5 (shB L4.gd.hl L4.gd.hb) (shI L4.pl.1),sh2 L4.hk (shB L4.h1 L4.gd.hb) (shI L4.h2)⟩,q _⟩
theorem zf1:zaA ["_law_script","_law_purse_here","_law_boxes_here","_law_budget","_law_plan","_law_kept","_law_turn","_law_none","_law_wrong","_law_k"] ["_law_script"] (zai ztp):=⟨rfl,rfl,rfl,by decide +kernel,rfl,by decide +kernel,by decide +kernel⟩
theorem zyi(T:Txt K mg a):zcC P w K mg base CX0 10 a.f_law a.d_law ["_law_script"] (zrS K):=by
 have G__law_boxes:=zkS (P:=P) (w:=w) (base:=base) T
 have G__law_draw:=zej (P:=P) (w:=w) (base:=base) T
 have G__law_no_boxes:=zhT (P:=P) (w:=w) (base:=base) T
 have G__law_no_budget:=zhu (P:=P) (w:=w) (base:=base) T
 have G__law_purse:=zkK (P:=P) (w:=w) (base:=base) T
 have G__law_refused:=ziu (P:=P) (w:=w) (base:=base) T
 refine T.F_law.ok zf1 (λvs H Q E h=>?_) (λcdv A outer s H vs Q E hr h=>?_)
 ·obtain⟨p,ns,rfl,hS,hl,q⟩:=h
  rfl
 obtain⟨p,ns,rfl,hS,hl,q⟩:=h
 exact⟨zuK K a,(zaf (zaL (i:=1) zf1.nd rfl (Or.inr rfl) (zal G__law_purse (hr.mono (by decide)) rfl T.m__law_purse T.F__law_purse.kp T.b__law_purse .nil zaH (zaa (pv 0) zad)))
 (zaf (zaL (i:=2) zf1.nd rfl (Or.inl rfl) (zal G__law_boxes (hr.mono (by decide)) rfl T.m__law_boxes T.F__law_boxes.kp T.b__law_boxes .nil zaH (zaa (pv 1) (zaa zah zad))))
 (zaf (zaL (i:=3) zf1.nd rfl (Or.inl rfl) (zal G__law_draw (hr.mono (by decide)) rfl T.m__law_draw T.F__law_draw.kp T.b__law_draw .nil zaH (zaa (pv 1) (zaa (zaS zdv (zbK (zaa zah (zaa zah (zaa zah (zaa zah zad))))) (zal G__law_draw (hr.mono (by decide)) rfl T.m__law_draw T.F__law_draw.kp T.b__law_draw .nil zaH (zaa (pv 1) (zaa zah zad))) (λ_ _=>rfl)) zad))))
 (zaf (zb8 (i:=4) zf1.nd rfl rfl (sc:=zai ztp) (N:=["_law_script","_law_purse_here","_law_boxes_here","_law_budget","_law_plan","_law_kept","_law_turn","_law_none","_law_wrong","_law_k"]) (Nc:=["_law_k","_law_purse_here"]) (cap:=[none,some 1]) rfl rfl rfl (.of (by decide +kernel)) (zd1 rfl T.z_range (zaa (zat zaN rfl T.z_len ψE (zaa (pv 2) zad)) zad)) (λ_ _ _ _=>(zao (i:=0) (show ψk (["_law_k","_law_purse_here"]:List Str) from by decide) rfl (Or.inl rfl))) (λ_ _ _ _=>za8) (λ_ _ _ _=>(zal G__law_draw (hr.mono (by decide)) rfl T.m__law_draw T.F__law_draw.kp T.b__law_draw .nil zaH (zaa (pv 1) (zaa zah zad)))))
 (zaf (zaL (i:=5) zf1.nd rfl (Or.inl rfl) (zbK (zaa (zdi zcM rfl T.z_list zcE (zaa (pv 2) zad)) (zaa (zdi zcM rfl T.z_list zcE (zaa (pv 4) zad)) zad))))
 (zaf (zeq PassesOwn.never rfl (zd1 rfl T.z_range (zaa zah zad)) (zao (i:=6) zf1.nd rfl (Or.inl rfl))
 (zaf (zaL (i:=7) zf1.nd rfl (Or.inl rfl) (zal G__law_no_boxes (hr.mono (by decide)) rfl T.m__law_no_boxes T.F__law_no_boxes.kp T.b__law_no_boxes .nil zaH (zaa (pv 1) (zaa (pv 2) zad))))
 (zaf (zaL (i:=8) zf1.nd rfl (Or.inl rfl) (zal G__law_no_budget (hr.mono (by decide)) rfl T.m__law_no_budget T.F__law_no_budget.kp T.b__law_no_budget .nil zaH (zaa (pv 1) zad)))
 (zam (zeq PassesOwn.never rfl (zd1 rfl T.z_range (zaa zah zad)) (zao (i:=9) zf1.nd rfl (Or.inl rfl))
 (zaf (zbB (zbW (zbG (znB hr.units) (zal G__law_refused (hr.mono (by decide)) rfl T.m__law_refused T.F__law_refused.kp T.b__law_refused .nil zaH (zaa (pv 9) (zaa (pv 2) (zaa (pv 8) (zaa (pv 4) zad))))) (zaB zqg (zbK (zaa zdE zad)) (zdi zqt rfl T.z_int znF (zaa (zcg zqW (pv 9) zah (za9 _)) zad))) (za9 _)) (zam (zaD zeA)) zaQ))
 (zam (zbW (PW.pt (zhL (zbG (znB hr.units) (zal G__law_refused (hr.mono (by decide)) rfl T.m__law_refused T.F__law_refused.kp T.b__law_refused .nil zaH (zaa (pv 9) (zaa (pv 7) (zaa (pv 8) (zaa (pv 4) zad))))) (zbK (zaa zdE zad)) (za9 _)) (zfU (zbG (znB hr.units) (zal G__law_refused (hr.mono (by decide)) rfl T.m__law_refused T.F__law_refused.kp T.b__law_refused .nil zaH (zaa (pv 9) (zaa (pv 7) (zaa (pv 3) (zaa (pv 4) zad))))) (zbK (zaa zdE zad)) (za9 _))))) (zam (zaD zeA)) zaQ))))))))
 (zaf (zeq PassesOwn.never rfl (zd1 rfl T.z_range (zaa zah zad)) (zao (i:=9) zf1.nd rfl (Or.inl rfl))
 (zam (zbW (zbG (znB hr.units) (zal G__law_refused (hr.mono (by decide)) rfl T.m__law_refused T.F__law_refused.kp T.b__law_refused .nil zaH (zaa (pv 9) (zaa (pv 2) (zaa (pv 3) (zaa (pv 4) zad))))) (zbK zad) (za9 _)) (zam (zaD zeA)) zaQ)))
 (zam (zaD (zcg (zyp hr.units) (zbK (zaa (pv 2) (zaa (pv 4) zad))) (pv 5) (za9 _))))))))))),
  zyg hS hl q⟩
end
theorem zny{us:List Value}{n:Nat}(h:us.length=n+1):∃a t,us=a::t∧t.length=n:=by
 cases us with
 | nil=>cases h
 | cons a t=>exact⟨a,t,rfl,Nat.succ.inj h⟩
theorem zmZ{us:List Value}(h:us.length=1):∃a0,us=[a0]:=by
 obtain⟨a0,u0,rfl,h0⟩:=zny h
 cases ψS h0
 exact⟨a0,rfl⟩
theorem zhz{us:List Value}(h:us.length=2):∃a0,∃a1,us=[a0,a1]:=by
 obtain⟨a0,u0,rfl,h0⟩:=zny h
 obtain⟨a1,u1,rfl,h1⟩:=zny h0
 cases ψS h1
 exact⟨a0,a1,rfl⟩
theorem lst3{us:List Value}(h:us.length=3):∃a0,∃a1,∃a2,us=[a0,a1,a2]:=by
 obtain⟨a0,u0,rfl,h0⟩:=zny h
 obtain⟨a1,u1,rfl,h1⟩:=zny h0
 obtain⟨a2,u2,rfl,h2⟩:=zny h1
 cases ψS h2
 exact⟨a0,a1,a2,rfl⟩
theorem zs1{us:List Value}(h:us.length=4):∃a0,∃a1,∃a2,∃a3,us=[a0,a1,a2,a3]:=by
 obtain⟨a0,u0,rfl,h0⟩:=zny h
 obtain⟨a1,u1,rfl,h1⟩:=zny h0
 obtain⟨a2,u2,rfl,h2⟩:=zny h1
 obtain⟨a3,u3,rfl,h3⟩:=zny h2
 cases ψS h3
 exact⟨a0,a1,a2,a3,rfl⟩
theorem lst5{us:List Value}(h:us.length=5):∃a0,∃a1,∃a2,∃a3,∃a4,us=[a0,a1,a2,a3,a4]:=by
 obtain⟨a0,u0,rfl,h0⟩:=zny h
 obtain⟨a1,u1,rfl,h1⟩:=zny h0
 obtain⟨a2,u2,rfl,h2⟩:=zny h1
 obtain⟨a3,u3,rfl,h3⟩:=zny h2
 obtain⟨a4,u4,rfl,h4⟩:=zny h3
 cases ψS h4
 exact⟨a0,a1,a2,a3,a4,rfl⟩
theorem zxw{K:ψa}{h:Heap}{mg:Str→Option Value}(X:K.In h)(G:h.Ns mainGlobals mg)
  {f0 f1 f2 f3 f4 f5 f6 f7 f8 f9 f10 f11 f12 f13 f14 f15 f16 f17 f18 f19 f20 f21 f22 f23 f24 f25 f26 f27 f28 f29 f30 f31 f32 f33 f34 f35 f36 f37 f38 f39 f40 f41 f42 f43 f44 f45 f46 f47 f48 f49 f50 f51 f52 f53 f54 f55:Addr} {d0 d1 d2 d3 d4 d5 d6 d7 d8 d9 d10 d11 d12 d13 d14 d15 d16 d17 d18 d19 d20 d21 d22 d23 d24 d25 d26 d27 d28 d29 d30 d31 d32 d33 d34 d35 d36 d37 d38 d39 d40 d41 d42 d43 d44 d45 d46 d47 d48 d49 d50 d51 d52 d53 d54 d55:FuncData}
  (F0:Fun K "divisor" "divisor" zi5 f0 d0) (m0:mg "divisor"=some (.ref f0))
  (F1:Fun K "ratio" "ratio" zmT f1 d1) (m1:mg "ratio"=some (.ref f1))
  (F2:Fun K "plus" "plus" zrr f2 d2) (m2:mg "plus"=some (.ref f2))
  (F3:Fun K "minus" "minus" zmn f3 d3) (m3:mg "minus"=some (.ref f3))
  (F4:Fun K "times" "times" zmC f4 d4) (m4:mg "times"=some (.ref f4))
  (F5:Fun K "over" "over" zpK f5 d5) (m5:mg "over"=some (.ref f5))
  (F6:Fun K "below" "below" znl f6 d6) (m6:mg "below"=some (.ref f6))
  (F7:Fun K "common" "common" zih f7 d7) (m7:mg "common"=some (.ref f7))
  (F8:Fun K "shared_divisor" "shared_divisor" zdw f8 d8) (m8:mg "shared_divisor"=some (.ref f8))
  (F9:Fun K "lowest" "lowest" zib f9 d9) (m9:mg "lowest"=some (.ref f9))
  (F10:Fun K "is_whole" "is_whole" zhd f10 d10) (m10:mg "is_whole"=some (.ref f10))
  (F11:Fun K "is_within" "is_within" zgO f11 d11) (m11:mg "is_within"=some (.ref f11))
  (F12:Fun K "are_weights" "are_weights" zdO f12 d12) (m12:mg "are_weights"=some (.ref f12))
  (F13:Fun K "is_fraction" "is_fraction" zfk f13 d13) (m13:mg "is_fraction"=some (.ref f13))
  (F14:Fun K "is_box" "is_box" zj8 f14 d14) (m14:mg "is_box"=some (.ref f14))
  (F15:Fun K "look_boxes" "look_boxes" zek f15 d15) (m15:mg "look_boxes"=some (.ref f15))
  (F16:Fun K "look_budget" "look_budget" zfn f16 d16) (m16:mg "look_budget"=some (.ref f16))
  (F17:Fun K "is_plan" "is_plan" zgR f17 d17) (m17:mg "is_plan"=some (.ref f17))
  (F18:Fun K "power" "power" zmD f18 d18) (m18:mg "power"=some (.ref f18))
  (F19:Fun K "missed" "missed" zkL f19 d19) (m19:mg "missed"=some (.ref f19))
  (F20:Fun K "chance" "chance" zkr f20 d20) (m20:mg "chance"=some (.ref f20))
  (F21:Fun K "gain" "gain" zp1 f21 d21) (m21:mg "gain"=some (.ref f21))
  (F22:Fun K "cost_sum" "cost_sum" zge f22 d22) (m22:mg "cost_sum"=some (.ref f22))
  (F23:Fun K "plan_cost" "plan_cost" zgB f23 d23) (m23:mg "plan_cost"=some (.ref f23))
  (F24:Fun K "found_by" "found_by" zgc f24 d24) (m24:mg "found_by"=some (.ref f24))
  (F25:Fun K "is_share" "is_share" zhs f25 d25) (m25:mg "is_share"=some (.ref f25))
  (F26:Fun K "is_mix" "is_mix" zif f26 d26) (m26:mg "is_mix"=some (.ref f26))
  (F27:Fun K "finds_enough" "finds_enough" zeG f27 d27) (m27:mg "finds_enough"=some (.ref f27))
  (F28:Fun K "is_seeker_right" "is_seeker_right" za5 f28 d28) (m28:mg "is_seeker_right"=some (.ref f28))
  (F29:Fun K "is_hider_paper" "is_hider_paper" zdu f29 d29) (m29:mg "is_hider_paper"=some (.ref f29))
  (F30:Fun K "is_last_look_worth" "is_last_look_worth" zcA f30 d30) (m30:mg "is_last_look_worth"=some (.ref f30))
  (F31:Fun K "is_next_look_dear" "is_next_look_dear" zcI f31 d31) (m31:mg "is_next_look_dear"=some (.ref f31))
  (F32:Fun K "is_count_best" "is_count_best" zeb f32 d32) (m32:mg "is_count_best"=some (.ref f32))
  (F33:Fun K "is_sum_low" "is_sum_low" zdj f33 d33) (m33:mg "is_sum_low"=some (.ref f33))
  (F34:Fun K "is_hider_right" "is_hider_right" zdr f34 d34) (m34:mg "is_hider_right"=some (.ref f34))
  (F35:Fun K "budget_judged" "budget_judged" zd3 f35 d35) (m35:mg "budget_judged"=some (.ref f35))
  (F36:Fun K "added" "added" zmi f36 d36) (m36:mg "added"=some (.ref f36))
  (F37:Fun K "least_chance" "least_chance" zeD f37 d37) (m37:mg "least_chance"=some (.ref f37))
  (F38:Fun K "fair_weights" "fair_weights" zda f38 d38) (m38:mg "fair_weights"=some (.ref f38))
  (F39:Fun K "chance_for" "chance_for" zdk f39 d39) (m39:mg "chance_for"=some (.ref f39))
  (F40:Fun K "counts_and_worth" "counts_and_worth" zbz f40 d40) (m40:mg "counts_and_worth"=some (.ref f40))
  (F41:Fun K "look_shares" "look_shares" zdS f41 d41) (m41:mg "look_shares"=some (.ref f41))
  (F42:Fun K "mix_of" "mix_of" zf7 f42 d42) (m42:mg "mix_of"=some (.ref f42))
  (F43:Fun K "paper_of" "paper_of" zf6 f43 d43) (m43:mg "paper_of"=some (.ref f43))
  (F44:Fun K "sure_answer" "sure_answer" zdR f44 d44) (m44:mg "sure_answer"=some (.ref f44))
  (F45:Fun K "is_sure" "is_sure" zfR f45 d45) (m45:mg "is_sure"=some (.ref f45))
  (F46:Fun K "budget_worth" "budget_worth" zeF f46 d46) (m46:mg "budget_worth"=some (.ref f46))
  (F47:Fun K "_law_purse" "_law_purse" zfM f47 d47) (m47:mg "_law_purse"=some (.ref f47))
  (F48:Fun K "_law_draw" "_law_draw" zgN f48 d48) (m48:mg "_law_draw"=some (.ref f48))
  (F49:Fun K "_law_boxes" "_law_boxes" zfY f49 d49) (m49:mg "_law_boxes"=some (.ref f49))
  (F50:Fun K "_law_no_boxes" "_law_no_boxes" zeg f50 d50) (m50:mg "_law_no_boxes"=some (.ref f50))
  (F51:Fun K "_law_marks" "_law_marks" zfB f51 d51) (m51:mg "_law_marks"=some (.ref f51))
  (F52:Fun K "_law_asked" "_law_asked" zfG f52 d52) (m52:mg "_law_asked"=some (.ref f52))
  (F53:Fun K "_law_refused" "_law_refused" zeI f53 d53) (m53:mg "_law_refused"=some (.ref f53))
  (F54:Fun K "_law_no_budget" "_law_no_budget" zdx f54 d54) (m54:mg "_law_no_budget"=some (.ref f54))
  (F55:Fun K "law" "law" ztp f55 d55) (m55:mg "law"=some (.ref f55))
  (z_set:mg "set"=none)
  (z_isinstance:mg "isinstance"=none)
  (z_range:mg "range"=none)
  (z_all:mg "all"=none)
  (z_sorted:mg "sorted"=none)
  (z_abs:mg "abs"=none)
  (z_sum:mg "sum"=none)
  (z_len:mg "len"=none)
  (z_list:mg "list"=none)
  (z_zip:mg "zip"=none)
  (z_int:mg "int"=none)
  (z_bool:mg "bool"=none)
  (z_tuple:mg "tuple"=none)
  (z_ValueError:mg "ValueError"=none)
  {c_HideError c_NoWeb c_NoPlan c_NoText c_NoKind c_TooGreat c_NoTree c_NoWeights c_NoTurns c_NoNumber c_NoBoxes c_NoBudget c_NoName c_NoOrder c_NoPlay c_NoRoad c_NoRow c_NoTable c_NoPaper:Addr}
  (ac_HideError:mg "HideError"=some (.ref c_HideError))
  (ac_NoWeb:mg "NoWeb"=some (.ref c_NoWeb))
  (ac_NoPlan:mg "NoPlan"=some (.ref c_NoPlan))
  (ac_NoText:mg "NoText"=some (.ref c_NoText))
  (ac_NoKind:mg "NoKind"=some (.ref c_NoKind))
  (ac_TooGreat:mg "TooGreat"=some (.ref c_TooGreat))
  (ac_NoTree:mg "NoTree"=some (.ref c_NoTree))
  (ac_NoWeights:mg "NoWeights"=some (.ref c_NoWeights))
  (ac_NoTurns:mg "NoTurns"=some (.ref c_NoTurns))
  (ac_NoNumber:mg "NoNumber"=some (.ref c_NoNumber))
  (ac_NoBoxes:mg "NoBoxes"=some (.ref c_NoBoxes))
  (ac_NoBudget:mg "NoBudget"=some (.ref c_NoBudget))
  (ac_NoName:mg "NoName"=some (.ref c_NoName))
  (ac_NoOrder:mg "NoOrder"=some (.ref c_NoOrder))
  (ac_NoPlay:mg "NoPlay"=some (.ref c_NoPlay))
  (ac_NoRoad:mg "NoRoad"=some (.ref c_NoRoad))
  (ac_NoRow:mg "NoRow"=some (.ref c_NoRow))
  (ac_NoTable:mg "NoTable"=some (.ref c_NoTable))
  (ac_NoPaper:mg "NoPaper"=some (.ref c_NoPaper))
  {k_MOST_BOXES:Tok} (ak_MOST_BOXES:mg "MOST_BOXES"=some (.int 6 k_MOST_BOXES))
  {k_MOST_COST:Tok} (ak_MOST_COST:mg "MOST_COST"=some (.int 60 k_MOST_COST))
  {k_MOST_OF:Tok} (ak_MOST_OF:mg "MOST_OF"=some (.int 50 k_MOST_OF))
  {k_MOST_BUDGET:Tok} (ak_MOST_BUDGET:mg "MOST_BUDGET"=some (.int 60 k_MOST_BUDGET))
  {k_MOST_LOOKS:Tok} (ak_MOST_LOOKS:mg "MOST_LOOKS"=some (.int 60 k_MOST_LOOKS))
  (xc_HideError:ψg1 K c_HideError zgF "ValueError.__new__"=true)
  (xc_NoBoxes:ψg1 K c_NoBoxes zgF "ValueError.__new__"=true)
  (xc_NoBudget:ψg1 K c_NoBudget zgF "ValueError.__new__"=true)
  (vsg:PySem.W.specialIn K (.ref c_HideError) "__getattribute__"=some (some (.builtin "type.__getattribute__")))
  (vrd:PySem.W.readsIn K c_HideError (.type "type")=true)
  (vfc:PySem.W.findCls K (.ref c_HideError) (.type "type") "__init__"=some (.val (.builtin "ValueError.__init__")))
  {i_NoPlan:Addr} (vin_NoPlan:ψu K (.ref c_NoPlan) "__init__"=some (some (.ref i_NoPlan)))
  {voc_NoPlan vkV_NoPlan vdc_NoPlan vpm_NoPlan vcd_NoPlan vct_NoPlan:Value} {vod_NoPlan van_NoPlan:Option Addr} {vsl_NoPlan:Array (Option Value)} (vl_NoPlan:K.lookup i_NoPlan=some ⟨voc_NoPlan,vod_NoPlan,.func (ψC1 "__init__" "NoPlan.__init__" (zho zdo) (zfT zdo) (zai zdo) .none vkV_NoPlan vdc_NoPlan vpm_NoPlan van_NoPlan vcd_NoPlan vct_NoPlan),vsl_NoPlan⟩)
  (vc_NoPlan:PySem.W.codeIn K vcd_NoPlan "NoPlan.__init__"=true)
  (vk_NoPlan:ψB1 K (.ref i_NoPlan)=true)
  {vnm_NoPlan vq_NoPlan:Str} {vN_NoPlan:Addr} {vbs_NoPlan vbm_NoPlan:List Value} {vsn_NoPlan:List Str} {vsub_NoPlan:List Value} {vab_NoPlan:Bool} {vcol_NoPlan:Option Bool} {vdd_NoPlan:Option Addr} {v0_NoPlan v1_NoPlan v2_NoPlan v3_NoPlan v5_NoPlan:Option Value} (vlk_NoPlan:K.lookup c_NoPlan=some (excClassObj vnm_NoPlan vq_NoPlan c_NoPlan vN_NoPlan vbs_NoPlan vbm_NoPlan true vsn_NoPlan vsub_NoPlan vab_NoPlan vcol_NoPlan vdd_NoPlan v0_NoPlan v1_NoPlan v2_NoPlan v3_NoPlan v5_NoPlan "ValueError.__new__"))
  (vtl_NoPlan:PySem.W.tailIn K zgF vbm_NoPlan=true)
  (vfn_NoPlan:PySem.W.isFn K (.ref i_NoPlan)=true)
  (vkp_NoPlan:ψB1 K (.ref c_NoPlan)=true)
  (vmo_NoPlan:ψd1 K c_NoPlan (.type "object")=some true)
  (vsa_NoPlan:ψu K (.ref c_NoPlan) "__setattr__"=some (some (.builtin "object.__setattr__")))
  (vga_NoPlan:ψu K (.ref c_NoPlan) "__getattribute__"=some (some (.builtin "BaseException.__getattribute__")))
  (vgn_NoPlan:ψu K (.ref c_NoPlan) "__getattr__"=some none)
  (vcl_NoPlan:ψu K (.ref c_NoPlan) "__class__"=some (some (.builtin "object.__class__")))
  (vmb_NoPlan:ψd1 K c_NoPlan (.type "BaseException")=some true)
  (vhd_NoPlan:PySem.W.hasDictIn K c_NoPlan=true)
  (vna_NoPlan:ψu K (.ref c_NoPlan) "at"=some none)
  (i_k_NoWeb:ψc K (.ref c_NoBudget) (.ref c_NoWeb)=some false)
  (i_k_NoPlan:ψc K (.ref c_NoBudget) (.ref c_NoPlan)=some false)
  (i_k_NoText:ψc K (.ref c_NoBudget) (.ref c_NoText)=some false)
  (i_k_NoKind:ψc K (.ref c_NoBudget) (.ref c_NoKind)=some false)
  (i_k_TooGreat:ψc K (.ref c_NoBudget) (.ref c_TooGreat)=some false)
  (i_k_NoTree:ψc K (.ref c_NoBudget) (.ref c_NoTree)=some false)
  (i_k_NoWeights:ψc K (.ref c_NoBudget) (.ref c_NoWeights)=some false)
  (i_k_NoTurns:ψc K (.ref c_NoBudget) (.ref c_NoTurns)=some false)
  (i_k_NoNumber:ψc K (.ref c_NoBudget) (.ref c_NoNumber)=some false)
  (i_k_NoBoxes:ψc K (.ref c_NoBudget) (.ref c_NoBoxes)=some false)
  (i_k_NoBudget:ψc K (.ref c_NoBudget) (.ref c_NoBudget)=some true)
  (i_k_NoName:ψc K (.ref c_NoBudget) (.ref c_NoName)=some false)
  (i_k_NoOrder:ψc K (.ref c_NoBudget) (.ref c_NoOrder)=some false)
  (i_k_NoPlay:ψc K (.ref c_NoBudget) (.ref c_NoPlay)=some false)
  (i_k_NoRoad:ψc K (.ref c_NoBudget) (.ref c_NoRoad)=some false)
  (i_k_NoRow:ψc K (.ref c_NoBudget) (.ref c_NoRow)=some false)
  (i_k_NoTable:ψc K (.ref c_NoBudget) (.ref c_NoTable)=some false)
  (i_k_NoPaper:ψc K (.ref c_NoBudget) (.ref c_NoPaper)=some false)
  (i_k_ValueError:ψc K (.ref c_NoBudget) (.type "ValueError")=some true)
  (i_sub:ψH1 K (.ref c_NoBudget) (.ref c_HideError)=some true)
  (e_ga:ψu K (.ref c_NoBudget) "__getattribute__"=some (some (.builtin "BaseException.__getattribute__")))
  (e_gn:ψu K (.ref c_NoBudget) "__getattr__"=some none)
  (e_cl:ψu K (.ref c_NoBudget) "__class__"=some (some (.builtin "object.__class__")))
  (e_mb:ψd1 K c_NoBudget (.type "BaseException")=some true)
  (e_mo:ψd1 K c_NoBudget (.type "object")=some true)
  (i2_k_NoWeb:ψc K (.ref c_NoBoxes) (.ref c_NoWeb)=some false)
  (i2_k_NoPlan:ψc K (.ref c_NoBoxes) (.ref c_NoPlan)=some false)
  (i2_k_NoText:ψc K (.ref c_NoBoxes) (.ref c_NoText)=some false)
  (i2_k_NoKind:ψc K (.ref c_NoBoxes) (.ref c_NoKind)=some false)
  (i2_k_TooGreat:ψc K (.ref c_NoBoxes) (.ref c_TooGreat)=some false)
  (i2_k_NoTree:ψc K (.ref c_NoBoxes) (.ref c_NoTree)=some false)
  (i2_k_NoWeights:ψc K (.ref c_NoBoxes) (.ref c_NoWeights)=some false)
  (i2_k_NoTurns:ψc K (.ref c_NoBoxes) (.ref c_NoTurns)=some false)
  (i2_k_NoNumber:ψc K (.ref c_NoBoxes) (.ref c_NoNumber)=some false)
  (i2_k_NoBoxes:ψc K (.ref c_NoBoxes) (.ref c_NoBoxes)=some true)
  (i2_k_NoBudget:ψc K (.ref c_NoBoxes) (.ref c_NoBudget)=some false)
  (i2_k_NoName:ψc K (.ref c_NoBoxes) (.ref c_NoName)=some false)
  (i2_k_NoOrder:ψc K (.ref c_NoBoxes) (.ref c_NoOrder)=some false)
  (i2_k_NoPlay:ψc K (.ref c_NoBoxes) (.ref c_NoPlay)=some false)
  (i2_k_NoRoad:ψc K (.ref c_NoBoxes) (.ref c_NoRoad)=some false)
  (i2_k_NoRow:ψc K (.ref c_NoBoxes) (.ref c_NoRow)=some false)
  (i2_k_NoTable:ψc K (.ref c_NoBoxes) (.ref c_NoTable)=some false)
  (i2_k_NoPaper:ψc K (.ref c_NoBoxes) (.ref c_NoPaper)=some false)
  (i2_k_ValueError:ψc K (.ref c_NoBoxes) (.type "ValueError")=some true)
  (i2_sub:ψH1 K (.ref c_NoBoxes) (.ref c_HideError)=some true)
  (e2_ga:ψu K (.ref c_NoBoxes) "__getattribute__"=some (some (.builtin "BaseException.__getattribute__")))
  (e2_gn:ψu K (.ref c_NoBoxes) "__getattr__"=some none)
  (e2_cl:ψu K (.ref c_NoBoxes) "__class__"=some (some (.builtin "object.__class__")))
  (e2_mb:ψd1 K c_NoBoxes (.type "BaseException")=some true)
  (e2_mo:ψd1 K c_NoBoxes (.type "object")=some true)
  : Txt K mg ⟨f0,d0,f1,d1,f2,d2,f3,d3,f4,d4,f5,d5,f6,d6,f7,d7,f8,d8,f9,d9,f10,d10,f11,d11,f12,d12,f13,d13,f14,d14,f15,d15,f16,d16,f17,d17,f18,d18,f19,d19,f20,d20,f21,d21,f22,d22,f23,d23,f24,d24,f25,d25,f26,d26,f27,d27,f28,d28,f29,d29,f30,d30,f31,d31,f32,d32,f33,d33,f34,d34,f35,d35,f36,d36,f37,d37,f38,d38,f39,d39,f40,d40,f41,d41,f42,d42,f43,d43,f44,d44,f45,d45,f46,d46,f47,d47,f48,d48,f49,d49,f50,d50,f51,d51,f52,d52,f53,d53,f54,d54,f55,d55,c_HideError,c_NoWeb,c_NoPlan,c_NoText,c_NoKind,c_TooGreat,c_NoTree,c_NoWeights,c_NoTurns,c_NoNumber,c_NoBoxes,c_NoBudget,c_NoName,c_NoOrder,c_NoPlay,c_NoRoad,c_NoRow,c_NoTable,c_NoPaper,i_NoPlan,ψC1 "__init__" "NoPlan.__init__" (zho zdo) (zfT zdo) (zai zdo) .none vkV_NoPlan vdc_NoPlan vpm_NoPlan van_NoPlan vcd_NoPlan vct_NoPlan,k_MOST_BOXES,k_MOST_COST,k_MOST_OF,k_MOST_BUDGET,k_MOST_LOOKS⟩:=by
 have VF_NoPlan:=zaO (st:=zdo) vl_NoPlan vc_NoPlan vk_NoPlan
 have vb_NoPlan:=VF_NoPlan.binds (ps:=["self","at"]) λ_ _ _ _ _ _ us hl=>by obtain⟨_,_,rfl⟩:=vlst2 hl;rfl
 exact⟨F0,F0.binds λ_ _ _ _ _ _ us hl=>by obtain⟨_,_,rfl⟩:=zhz hl;rfl,m0,F1,F1.binds λ_ _ _ _ _ _ us hl=>by obtain⟨_,_,rfl⟩:=zhz hl;rfl,m1,F2,F2.binds λ_ _ _ _ _ _ us hl=>by obtain⟨_,_,rfl⟩:=zhz hl;rfl,m2,F3,F3.binds λ_ _ _ _ _ _ us hl=>by obtain⟨_,_,rfl⟩:=zhz hl;rfl,m3,F4,F4.binds λ_ _ _ _ _ _ us hl=>by obtain⟨_,_,rfl⟩:=zhz hl;rfl,m4,F5,F5.binds λ_ _ _ _ _ _ us hl=>by obtain⟨_,_,rfl⟩:=zhz hl;rfl,m5,F6,F6.binds λ_ _ _ _ _ _ us hl=>by obtain⟨_,_,rfl⟩:=zhz hl;rfl,m6,F7,F7.binds λ_ _ _ _ _ _ us hl=>by obtain⟨_,rfl⟩:=zmZ hl;rfl,m7,F8,F8.binds λ_ _ _ _ _ _ us hl=>by obtain⟨_,rfl⟩:=zmZ hl;rfl,m8,F9,F9.binds λ_ _ _ _ _ _ us hl=>by obtain⟨_,rfl⟩:=zmZ hl;rfl,m9,F10,F10.binds λ_ _ _ _ _ _ us hl=>by obtain⟨_,rfl⟩:=zmZ hl;rfl,m10,F11,F11.binds λ_ _ _ _ _ _ us hl=>by obtain⟨_,_,_,rfl⟩:=lst3 hl;rfl,m11,F12,F12.binds λ_ _ _ _ _ _ us hl=>by obtain⟨_,_,rfl⟩:=zhz hl;rfl,m12,F13,F13.binds λ_ _ _ _ _ _ us hl=>by obtain⟨_,rfl⟩:=zmZ hl;rfl,m13,F14,F14.binds λ_ _ _ _ _ _ us hl=>by obtain⟨_,rfl⟩:=zmZ hl;rfl,m14,F15,F15.binds λ_ _ _ _ _ _ us hl=>by obtain⟨_,rfl⟩:=zmZ hl;rfl,m15,F16,F16.binds λ_ _ _ _ _ _ us hl=>by obtain⟨_,rfl⟩:=zmZ hl;rfl,m16,F17,F17.binds λ_ _ _ _ _ _ us hl=>by obtain⟨_,_,rfl⟩:=zhz hl;rfl,m17,F18,F18.binds λ_ _ _ _ _ _ us hl=>by obtain⟨_,_,rfl⟩:=zhz hl;rfl,m18,F19,F19.binds λ_ _ _ _ _ _ us hl=>by obtain⟨_,_,rfl⟩:=zhz hl;rfl,m19,F20,F20.binds λ_ _ _ _ _ _ us hl=>by obtain⟨_,_,rfl⟩:=zhz hl;rfl,m20,F21,F21.binds λ_ _ _ _ _ _ us hl=>by obtain⟨_,_,rfl⟩:=zhz hl;rfl,m21,F22,F22.binds λ_ _ _ _ _ _ us hl=>by obtain⟨_,_,rfl⟩:=zhz hl;rfl,m22,F23,F23.binds λ_ _ _ _ _ _ us hl=>by obtain⟨_,_,rfl⟩:=zhz hl;rfl,m23,F24,F24.binds λ_ _ _ _ _ _ us hl=>by obtain⟨_,_,rfl⟩:=zhz hl;rfl,m24,F25,F25.binds λ_ _ _ _ _ _ us hl=>by obtain⟨_,_,rfl⟩:=zhz hl;rfl,m25,F26,F26.binds λ_ _ _ _ _ _ us hl=>by obtain⟨_,_,rfl⟩:=zhz hl;rfl,m26,F27,F27.binds λ_ _ _ _ _ _ us hl=>by obtain⟨_,_,_,_,rfl⟩:=zs1 hl;rfl,m27,F28,F28.binds λ_ _ _ _ _ _ us hl=>by obtain⟨_,_,_,_,rfl⟩:=zs1 hl;rfl,m28,F29,F29.binds λ_ _ _ _ _ _ us hl=>by obtain⟨_,_,rfl⟩:=zhz hl;rfl,m29,F30,F30.binds λ_ _ _ _ _ _ us hl=>by obtain⟨_,_,_,_,rfl⟩:=zs1 hl;rfl,m30,F31,F31.binds λ_ _ _ _ _ _ us hl=>by obtain⟨_,_,_,_,rfl⟩:=zs1 hl;rfl,m31,F32,F32.binds λ_ _ _ _ _ _ us hl=>by obtain⟨_,_,_,_,rfl⟩:=zs1 hl;rfl,m32,F33,F33.binds λ_ _ _ _ _ _ us hl=>by obtain⟨_,_,_,_,rfl⟩:=zs1 hl;rfl,m33,F34,F34.binds λ_ _ _ _ _ _ us hl=>by obtain⟨_,_,_,_,rfl⟩:=zs1 hl;rfl,m34,F35,F35.binds λ_ _ _ _ _ _ us hl=>by obtain⟨_,_,_,_,_,rfl⟩:=lst5 hl;rfl,m35,F36,F36.binds λ_ _ _ _ _ _ us hl=>by obtain⟨_,rfl⟩:=zmZ hl;rfl,m36,F37,F37.binds λ_ _ _ _ _ _ us hl=>by obtain⟨_,rfl⟩:=zmZ hl;rfl,m37,F38,F38.binds λ_ _ _ _ _ _ us hl=>by obtain⟨_,_,rfl⟩:=zhz hl;rfl,m38,F39,F39.binds λ_ _ _ _ _ _ us hl=>by obtain⟨_,_,_,rfl⟩:=lst3 hl;rfl,m39,F40,F40.binds λ_ _ _ _ _ _ us hl=>by obtain⟨_,_,rfl⟩:=zhz hl;rfl,m40,F41,F41.binds λ_ _ _ _ _ _ us hl=>by obtain⟨_,_,_,rfl⟩:=lst3 hl;rfl,m41,F42,F42.binds λ_ _ _ _ _ _ us hl=>by obtain⟨_,_,_,rfl⟩:=lst3 hl;rfl,m42,F43,F43.binds λ_ _ _ _ _ _ us hl=>by obtain⟨_,_,rfl⟩:=zhz hl;rfl,m43,F44,F44.binds λ_ _ _ _ _ _ us hl=>by obtain⟨_,rfl⟩:=zmZ hl;rfl,m44,F45,F45.binds λ_ _ _ _ _ _ us hl=>by obtain⟨_,_,rfl⟩:=zhz hl;rfl,m45,F46,F46.binds λ_ _ _ _ _ _ us hl=>by obtain⟨_,_,rfl⟩:=zhz hl;rfl,m46,F47,F47.binds λ_ _ _ _ _ _ us hl=>by obtain⟨_,rfl⟩:=zmZ hl;rfl,m47,F48,F48.binds λ_ _ _ _ _ _ us hl=>by obtain⟨_,_,rfl⟩:=zhz hl;rfl,m48,F49,F49.binds λ_ _ _ _ _ _ us hl=>by obtain⟨_,_,rfl⟩:=zhz hl;rfl,m49,F50,F50.binds λ_ _ _ _ _ _ us hl=>by obtain⟨_,_,rfl⟩:=zhz hl;rfl,m50,F51,F51.binds λ_ _ _ _ _ _ us hl=>by obtain⟨_,rfl⟩:=zmZ hl;rfl,m51,F52,F52.binds λ_ _ _ _ _ _ us hl=>by obtain⟨_,_,_,_,rfl⟩:=zs1 hl;rfl,m52,F53,F53.binds λ_ _ _ _ _ _ us hl=>by obtain⟨_,_,_,_,rfl⟩:=zs1 hl;rfl,m53,F54,F54.binds λ_ _ _ _ _ _ us hl=>by obtain⟨_,rfl⟩:=zmZ hl;rfl,m54,F55,F55.binds λ_ _ _ _ _ _ us hl=>by obtain⟨_,rfl⟩:=zmZ hl;rfl,m55,z_set,z_isinstance,z_range,z_all,z_sorted,z_abs,z_sum,z_len,z_list,z_zip,z_int,z_bool,z_tuple,z_ValueError,ac_HideError,ac_NoWeb,ac_NoPlan,ac_NoText,ac_NoKind,ac_TooGreat,ac_NoTree,ac_NoWeights,ac_NoTurns,ac_NoNumber,ac_NoBoxes,ac_NoBudget,ac_NoName,ac_NoOrder,ac_NoPlay,ac_NoRoad,ac_NoRow,ac_NoTable,ac_NoPaper,ak_MOST_BOXES,ak_MOST_COST,ak_MOST_OF,ak_MOST_BUDGET,ak_MOST_LOOKS,xc_HideError,xc_NoBoxes,xc_NoBudget,⟨vsg,vrd,vfc⟩,VF_NoPlan,vb_NoPlan,⟨⟨_,_,_,_,_,_,_,_,_,_,_,_,_,_,_,vlk_NoPlan,vtl_NoPlan⟩,vin_NoPlan,vfn_NoPlan,vkp_NoPlan,vmo_NoPlan,vsa_NoPlan⟩,⟨⟨vga_NoPlan,vgn_NoPlan,vcl_NoPlan,vmb_NoPlan,vmo_NoPlan⟩,vhd_NoPlan,vna_NoPlan⟩,⟨i_k_NoWeb,i_k_NoPlan,i_k_NoText,i_k_NoKind,i_k_TooGreat,i_k_NoTree,i_k_NoWeights,i_k_NoTurns,i_k_NoNumber,i_k_NoBoxes,i_k_NoBudget,i_k_NoName,i_k_NoOrder,i_k_NoPlay,i_k_NoRoad,i_k_NoRow,i_k_NoTable,i_k_NoPaper,i_k_ValueError,i_sub,zlx ⟨e_ga,e_gn,e_cl,e_mb,e_mo,xc_NoBudget⟩⟩,⟨i2_k_NoWeb,i2_k_NoPlan,i2_k_NoText,i2_k_NoKind,i2_k_TooGreat,i2_k_NoTree,i2_k_NoWeights,i2_k_NoTurns,i2_k_NoNumber,i2_k_NoBoxes,i2_k_NoBudget,i2_k_NoName,i2_k_NoOrder,i2_k_NoPlay,i2_k_NoRoad,i2_k_NoRow,i2_k_NoTable,i2_k_NoPaper,i2_k_ValueError,i2_sub,zlx ⟨e2_ga,e2_gn,e2_cl,e2_mb,e2_mo,xc_NoBoxes⟩⟩⟩
theorem zxR{K:ψa}{w:World}{mg:Str→Option Value}{h:Heap}{fa:Addr}{P:Program}(X:K.In h)(G:h.Ns mainGlobals mg)(hfa:mg "law"=some (.ref fa)){a:Ad}(T:Txt K mg a) :
  ∃fd:FuncData,(∀(s:Shared) (u:Value),BindsTo s fd ⟨[u],[]⟩ [("_law_script",u)])∧∀base:Heap,K.In base→base.Ns mainGlobals mg→zcC P w K mg base CX0 10 fa fd ["_law_script"] (zrS K):=by
 have e:=hfa.symm.trans T.m_law
 cases e
 refine⟨a.d_law,λs v=>?_,λbase _ _=>zyi T⟩
 obtain⟨oc,od,kV,doc,pm,an,cdv,ct,osl,e,lk,hcd⟩:=T.F_law.ex
 rw[e]
 exact .of_eq rfl
theorem walk{l:PySem.W.OpenLaw}{q:Program}{loose:List Str}{XP:(Str→Option Value)→Heap→Prop}{YP:World→Heap→Prop}{d:DefRec}{K:Params→ψa}(hn:l.most=some 63)(hdf:d.params.defaults=[])
  (hY:∀(w:World) (h:Heap),YP w h→(K w.params).In h)
  (F:∀(w:World) (mg:Str→Option Value) (fa:Addr) (h:Heap),(K w.params).In h→h.Ns mainGlobals mg→mg d.name=some (.ref fa) →
   ∃fd:FuncData,(∀(s:Shared) (u:Value),BindsTo s fd ⟨[u],[]⟩ [("_law_script",u)])∧∀base:Heap,(K w.params).In base→base.Ns mainGlobals mg→zcC l.prog w (K w.params) mg base CX0 10 fa fd ["_law_script"] (zrS (K w.params))) :
  PySem.W.WalkO q loose XP YP l.row.toRowW d [] (λf vs=>PySem.call f vs) :=
 L2.zwd (n:=63) (k:=10) (x:="_law_script") (CX:=λ_=>CX0) (sp:=λw=>zrS (K w.params)) hn (by decide) hdf ⟨rfl,by decide,by decide⟩ hY F (λ_ _ a ns hl _ hS=>⟨a,ns,rfl,hS,hl,λ_=>rfl⟩) λ_ _ _ _ _ z=>z
end My
open PySem PySem.W in
theorem My.walk_at{K:Params→Frag}{w:World}{h:Heap}{l:OpenLaw}{q:Program}{loose:List Str}{XP:(Str→Option Value)→Heap→Prop}{d:DefRec}{C:Prop}(_:(K w.params).In h)
  (use:WalkO q loose XP (λw h=>(K w.params).In h) l.row.toRowW d [] (λf vs=>PySem.call f vs)→C) (W:WalkO q loose XP (λw h=>(K w.params).In h) l.row.toRowW d [] (λf vs=>PySem.call f vs)):C:=use W
noncomputable section
namespace Hd
open PySem PySem.W.Fast
structure Q (α:Type) where
  a:α
  b:α
  c:α
  d:α
  e:α
  f:α
  g:α
  h:α
class X where
  s:Q (Q (Q Str))
  t:Q (Q (Q String))
  r:Q (Q (Q Obj))
  p:Program
  P:Params
def sp(p:Program)(n:Nat):Stmt:=(p.main.body.drop n).headD (.Pass ⟨0,0,0,0⟩)
def st[x:X](n:Nat):Stmt:=sp x.p n
def cb:Stmt→List Stmt
  | .ClassDef _ _ _ b ..=>b
  | _=>[]
def sm[x:X](n k:Nat):Stmt:=((cb (st n)).drop k).headD (.Pass ⟨0,0,0,0⟩)
def fn(s:Stmt)(q:Str)(g:Addr)(c:List (Str×Addr))(d k o m:Value)(a:Option Addr)(z t:Value)(b:Addr):FuncData:=match s with
  | .FunctionDef n p y _ _ _ u ..=>⟨n,q,p,.stmts y,u,g,c,d,k,o,m,a,z,t,b⟩
  | _=>default
abbrev z:=W.BT.nil
def N(o:Obj)(l r:W.BT):W.BT:=.node o l r
def L(o:Obj):W.BT:=.node o .nil .nil
def e[x:X](s:Str)(n:Nat)(v:Value):DictEntry:=⟨PyData.keyHash x.P s,.str s n,v⟩
def vR(n:Nat):Option Value:=some (.ref n)
def vr(n:Nat):Value:=.ref n
def vO:Value:=.int 0 0
def vI(n:Int):Value:=.int n 0
def vS(s:Str)(n:Tok):Value:=.str s n
def vY(s:String):Value:=.type s
def vB(s:String):Value:=.builtin s
section
variable [x:X]
abbrev s0:=x.s.a.a.e
abbrev s1:=x.s.a.h.c
abbrev r2:=x.r.a.a.a
abbrev r3:=x.r.a.a.b
abbrev r4:=x.r.a.a.c
abbrev r5:=x.r.a.a.e
abbrev r6:=x.r.a.a.f
abbrev r7:=x.r.a.a.g
abbrev r8:=x.r.a.a.h
abbrev r9:=x.r.a.b.a
abbrev r10:=x.r.a.b.b
abbrev r11:=x.r.a.b.c
abbrev s12:=x.s.a.a.f
abbrev s13:=x.s.a.b.g
abbrev s14:=x.s.a.b.h
abbrev s15:=x.s.a.c.a
abbrev s16:=x.s.a.c.b
abbrev t17:=x.t.a.c.a
abbrev s18:=x.s.a.f.e
abbrev s19:=x.s.c.a.c
abbrev s20:=x.s.b.e.d
abbrev s21:=x.s.a.b.f
abbrev s22:=x.s.a.e.c
abbrev s23:=x.s.b.e.f
abbrev s24:=x.s.a.g.e
abbrev t25:=x.t.a.a.a
abbrev s26:=x.s.a.g.f
abbrev s27:=x.s.a.g.h
abbrev s28:=x.s.a.h.a
abbrev s29:=x.s.b.b.f
abbrev s30:=x.s.b.e.g
abbrev s31:=x.s.a.c.d
abbrev s32:=x.s.a.c.e
abbrev s33:=x.s.a.c.f
abbrev s34:=x.s.a.c.g
abbrev s35:=x.s.a.c.h
abbrev s36:=x.s.a.d.a
abbrev s37:=x.s.a.d.b
abbrev s38:=x.s.a.d.c
abbrev s39:=x.s.a.d.d
abbrev s40:=x.s.a.d.e
abbrev s41:=x.s.a.d.f
abbrev s42:=x.s.a.d.g
abbrev s43:=x.s.a.d.h
abbrev s44:=x.s.a.e.a
abbrev s45:=x.s.a.e.b
abbrev s46:=x.s.a.e.g
abbrev s47:=x.s.a.f.b
abbrev s48:=x.s.a.f.f
abbrev s49:=x.s.a.f.g
abbrev s50:=x.s.a.f.h
abbrev s51:=x.s.a.g.a
abbrev s52:=x.s.a.g.b
abbrev s53:=x.s.a.h.d
abbrev s54:=x.s.a.h.e
abbrev s55:=x.s.a.h.f
abbrev s56:=x.s.a.h.g
abbrev s57:=x.s.a.h.h
abbrev s58:=x.s.b.a.a
abbrev s59:=x.s.b.a.b
abbrev s60:=x.s.b.a.c
abbrev s61:=x.s.b.a.d
abbrev s62:=x.s.b.a.e
abbrev s63:=x.s.b.b.c
abbrev s64:=x.s.b.c.e
abbrev s65:=x.s.b.c.f
abbrev s66:=x.s.b.c.g
abbrev s67:=x.s.b.c.h
abbrev s68:=x.s.b.d.a
abbrev s69:=x.s.b.d.b
abbrev s70:=x.s.b.d.c
abbrev s71:=x.s.b.d.d
abbrev s72:=x.s.b.d.e
abbrev s73:=x.s.b.d.f
abbrev s74:=x.s.b.d.g
abbrev s75:=x.s.b.d.h
abbrev s76:=x.s.b.e.a
abbrev s77:=x.s.b.f.g
abbrev s78:=x.s.b.f.h
abbrev s79:=x.s.b.g.a
abbrev s80:=x.s.b.g.b
abbrev s81:=x.s.b.g.c
abbrev s82:=x.s.b.g.d
abbrev s83:=x.s.b.g.e
abbrev s84:=x.s.b.g.f
abbrev s85:=x.s.b.g.g
abbrev s86:=x.s.b.g.h
abbrev s87:=x.s.b.h.a
abbrev s88:=x.s.b.h.b
abbrev s89:=x.s.b.h.c
abbrev s90:=x.s.c.a.d
abbrev s91:=x.s.c.a.e
abbrev s92:=x.s.c.a.f
abbrev s93:=x.s.c.a.g
abbrev s94:=x.s.c.a.h
abbrev s95:=x.s.c.b.a
abbrev s96:=x.s.c.b.b
abbrev s97:=x.s.c.b.c
abbrev s98:=x.s.c.b.d
abbrev s99:=x.s.c.b.e
def i0:=e x.s.a.a.d 165 (vS s0 187)
def i1:=e s12 166 .none
def i2:=e x.s.a.a.g 167 .none
def i3:=e x.s.a.a.h 168 (vB x.t.a.a.e)
def i4:=e x.s.a.b.a 169 .none
def i5:=e x.s.a.b.b 170 (vr 6)
def i6:=e x.s.a.b.c 171 (vr 4)
def i7:=e x.s.a.b.d 173 (vS x.s.a.a.b 172)
def i8:=e x.s.a.b.e 174 .none
def i9:=e s21 206 (vr 24)
def i10:=e s13 196 (vS s0 187)
def i11:=e s14 198 (vS s21 197)
def i12:=e s15 200 (.int 2 199)
def i13:=e s16 201 (vr 22)
def i14:=e x.s.a.c.c 203 (vr 25)
def i15:=e s12 204 .none
def i16:=e s31 222 (vr 37)
def i17:=e s13 214 (vS s0 187)
def i18:=e s14 216 (vS s31 215)
def i19:=e s15 218 (.int 4 217)
def i20:=e s16 219 (vr 35)
def i21:=e s12 220 .none
def i22:=e s32 238 (vr 49)
def i23:=e s13 230 (vS s0 187)
def i24:=e s14 232 (vS s32 231)
def i25:=e s15 234 (.int 6 233)
def i26:=e s16 235 (vr 47)
def i27:=e s12 236 .none
def i28:=e s33 254 (vr 61)
def i29:=e s13 246 (vS s0 187)
def i30:=e s14 248 (vS s33 247)
def i31:=e s15 250 (.int 8 249)
def i32:=e s16 251 (vr 59)
def i33:=e s12 252 .none
def i34:=e s34 270 (vr 73)
def i35:=e s13 262 (vS s0 187)
def i36:=e s14 264 (vS s34 263)
def i37:=e s15 266 (.int 10 265)
def i38:=e s16 267 (vr 71)
def i39:=e s12 268 .none
def i40:=e s35 286 (vr 85)
def i41:=e s13 278 (vS s0 187)
def i42:=e s14 280 (vS s35 279)
def i43:=e s15 282 (.int 12 281)
def i44:=e s16 283 (vr 83)
def i45:=e s12 284 .none
def i46:=e s36 302 (vr 97)
def i47:=e s13 294 (vS s0 187)
def i48:=e s14 296 (vS s36 295)
def i49:=e s15 298 (.int 14 297)
def i50:=e s16 299 (vr 95)
def i51:=e s12 300 .none
def i52:=e s37 318 (vr 109)
def i53:=e s13 310 (vS s0 187)
def i54:=e s14 312 (vS s37 311)
def i55:=e s15 314 (.int 16 313)
def i56:=e s16 315 (vr 107)
def i57:=e s12 316 .none
def i58:=e s38 334 (vr 121)
def i59:=e s13 326 (vS s0 187)
def i60:=e s14 328 (vS s38 327)
def i61:=e s15 330 (.int 18 329)
def i62:=e s16 331 (vr 119)
def i63:=e s12 332 .none
def i64:=e s39 350 (vr 133)
def i65:=e s13 342 (vS s0 187)
def i66:=e s14 344 (vS s39 343)
def i67:=e s15 346 (.int 20 345)
def i68:=e s16 347 (vr 131)
def i69:=e s12 348 .none
def i70:=e s40 366 (vr 145)
def i71:=e s13 358 (vS s0 187)
def i72:=e s14 360 (vS s40 359)
def i73:=e s15 362 (.int 22 361)
def i74:=e s16 363 (vr 143)
def i75:=e s12 364 .none
def i76:=e s41 382 (vr 157)
def i77:=e s13 374 (vS s0 187)
def i78:=e s14 376 (vS s41 375)
def i79:=e s15 378 (.int 24 377)
def i80:=e s16 379 (vr 155)
def i81:=e s12 380 .none
def i82:=e s42 398 (vr 169)
def i83:=e s13 390 (vS s0 187)
def i84:=e s14 392 (vS s42 391)
def i85:=e s15 394 (.int 26 393)
def i86:=e s16 395 (vr 167)
def i87:=e s12 396 .none
def i88:=e s43 414 (vr 181)
def i89:=e s13 406 (vS s0 187)
def i90:=e s14 408 (vS s43 407)
def i91:=e s15 410 (.int 28 409)
def i92:=e s16 411 (vr 179)
def i93:=e s12 412 .none
def i94:=e s44 430 (vr 193)
def i95:=e s13 422 (vS s0 187)
def i96:=e s14 424 (vS s44 423)
def i97:=e s15 426 (.int 30 425)
def i98:=e s16 427 (vr 191)
def i99:=e s12 428 .none
def ztu:=e s45 455 (vr 212)
def i101:=e s13 438 (vS s0 187)
def i102:=e s14 440 (vS s45 439)
def i103:=e s15 442 (.int 32 441)
def i104:=e s22 450 (vr 209)
def i105:=e s16 452 (vr 210)
def i106:=e s12 453 .none
def zue:=e s46 480 (vr 231)
def i108:=e s13 463 (vS s0 187)
def i109:=e s14 465 (vS s46 464)
def i110:=e s15 467 (.int 37 466)
def i111:=e s22 475 (vr 228)
def i112:=e s16 477 (vr 229)
def i113:=e s12 478 .none
def zuM:=e s47 505 (vr 250)
def i115:=e s13 488 (vS s0 187)
def i116:=e s14 490 (vS s47 489)
def i117:=e s15 492 (.int 42 491)
def i118:=e s22 500 (vr 247)
def i119:=e s16 502 (vr 248)
def i120:=e s12 503 .none
def i121:=e x.s.a.a.d 165 (vS s18 531)
def zwE:=e s48 530 (vr 269)
def zwC:=e s49 541 (vr 278)
def zwD:=e s50 550 (vr 285)
def zwH:=e s51 558 (vr 292)
def zwB:=e s52 566 (vr 299)
def i127:=e s13 513 (vS s0 187)
def i128:=e s14 515 (vS s48 514)
def i129:=e s15 517 (.int 47 516)
def i130:=e s22 525 (vr 266)
def i131:=e s16 527 (vr 267)
def i132:=e s12 528 .none
def i133:=e x.s.a.a.d 165 (vS s1 643)
def zyq:=e s53 574 (vr 306)
def zx6:=e s54 582 (vr 313)
def zx5:=e s55 590 (vr 320)
def zw6:=e s56 596 (vr 325)
def zxS:=e s57 605 (vr 332)
def zx4:=e s58 611 (vr 337)
def zyV:=e s59 620 (vr 344)
def zyQ:=e s60 629 (vr 351)
def zyC:=e s61 635 (vr 356)
def zyU:=e s62 642 (vr 363)
def zyZ:=e x.s.b.a.f 646 (.int 6 645)
def zw7:=e x.s.b.a.g 648 (.int 60 647)
def zyH:=e x.s.b.a.h 650 (.int 50 649)
def zyY:=e x.s.b.b.a 652 (.int 60 651)
def zxL:=e x.s.b.b.b 654 (.int 60 653)
def zxW:=e s63 664 (vr 370)
def i150:=e s64 670 (vr 375)
def i151:=e s65 677 (vr 382)
def i152:=e s66 683 (vr 387)
def i153:=e s67 693 (vr 394)
def i154:=e s68 701 (vr 401)
def i155:=e s69 711 (vr 408)
def i156:=e s70 721 (vr 415)
def i157:=e s71 727 (vr 420)
def i158:=e s72 735 (vr 427)
def i159:=e s73 741 (vr 432)
def i160:=e s74 749 (vr 439)
def i161:=e s75 755 (vr 444)
def i162:=e s76 771 (vr 451)
def i163:=e s77 777 (vr 456)
def i164:=e s78 788 (vr 463)
def i165:=e s79 800 (vr 470)
def i166:=e s80 812 (vr 477)
def i167:=e s81 822 (vr 484)
def i168:=e s82 828 (vr 489)
def i169:=e s83 844 (vr 496)
def i170:=e s84 855 (vr 503)
def i171:=e s85 864 (vr 510)
def i172:=e s86 873 (vr 517)
def i173:=e s87 879 (vr 522)
def i174:=e s88 885 (vr 527)
def i175:=e s89 891 (vr 532)
def i176:=e x.s.a.a.d 165 (vS s19 932)
def i177:=e s90 897 (vr 537)
def i178:=e s91 903 (vr 542)
def i179:=e s92 909 (vr 547)
def i180:=e s93 915 (vr 552)
def i181:=e s94 921 (vr 557)
def i182:=e s95 931 (vr 564)
def i183:=e s96 941 (vr 571)
def i184:=e s97 954 (vr 578)
def i185:=e s98 967 (vr 585)
def i186:=e s99 982 (vr 592)
def i187:=e x.s.c.b.f 990 (vr 599)
def i188:=e x.s.c.b.g 1000 (vr 606)
def i189:=e x.s.c.e.e 1012 (vr 613)
def i190:=e x.s.c.e.f 1021 (vr 620)
def i191:=e x.s.c.e.g 1027 (vr 625)
def h0(p0:Array Value):Obj:=⟨(vY t25),none,(.seq p0 0),#[]⟩
def h1(p0:Array Value):Obj:=⟨.none,none,(.fields p0),#[]⟩
def h2(p0:Str)(p1:Tok)(p2:Str)(p3 p4:Tok)(p5:Int)(p6 p7:Value)(p8:Nat)(p9:Value)(p10:Nat)(p11 p12 p13:Value)(p14:Int)(p15:Tok):Obj:=⟨(vY x.t.a.a.b),none,(.fields #[(vS p0 p1),(vS p2 p3),(vS x.s.a.a.b p4),(vI p5),p6,vO,vO,p7,(vr p8),p9,(vI 181),(vr p10),.none,p11,p12,p13,(vI p14),(vI p5),(vS x.s.a.a.b p15)]),#[]⟩
def h3(p0 p1:Nat)(p2:Str)(p3:Tok):Obj:=⟨(vY x.t.a.a.c),none,.plain,#[(vR p0),(vR 3),(vR p1),none,(some (vS p2 p3)),none,(vR 0)]⟩
def h4(p0:Array DictEntry)(p1:Nat):Obj:=⟨(vY x.t.a.a.d),none,(.dict p0 p1),#[]⟩
def h5(p0:String)(p1:Value):Obj:=⟨(vY x.t.a.a.g),none,(.fields #[(vB p0),p1]),#[]⟩
def h6(p0:List Value):Obj:=⟨(vY x.t.a.b.a),none,(.cls ⟨s21,[(vY x.t.a.a.f)],[(vr 24),(vY x.t.a.a.f),(vY x.t.a.b.b),(vY x.t.a.b.c),(vY x.t.a.b.d)],23,s21,true,[],p0,false,none,false⟩),#[(vR 15),none,(some (vS s21 189)),(some (vS s21 197)),(some (vB x.t.a.b.e)),(some (.bool true))]⟩
def h7(p0:Nat):Obj:=⟨(vY x.t.a.b.h),none,(.fields #[(vr p0),(vr p0),(vr p0)]),#[]⟩
def h8(p0:Str)(p1 p2 p3:Nat)(p4 p5:Tok):Obj:=⟨(vY x.t.a.b.a),none,(.cls ⟨p0,[(vr 24)],[(vr p1),(vr 24),(vY x.t.a.a.f),(vY x.t.a.b.b),(vY x.t.a.b.c),(vY x.t.a.b.d)],p2,p0,true,[],[],false,none,false⟩),#[(vR p3),none,(some (vS p0 p4)),(some (vS p0 p5)),(some (vB x.t.a.b.e)),(some (.bool true))]⟩
def h9(p0:Nat)(p1:Str):Obj:=⟨.none,none,(.func (fn (sm p0 0) p1 0 [] .none .none .none .none none .none .none 0)),#[]⟩
def h10(p0:Nat)(p1:Str)(p2:Nat):Obj:=⟨(vY x.t.a.c.b),none,(.func (fn (sm p0 0) p1 3 [] .none .none .none (vS s0 187) none (vr p2) .none 0)),#[]⟩
def h11(p0:Nat)(p1:Str):Obj:=⟨.none,none,(.func (fn (st p0) p1 0 [] .none .none .none .none none .none .none 0)),#[]⟩
def h12(p0:Nat)(p1 p2:Str)(p3:Tok)(p4:Nat):Obj:=⟨(vY x.t.a.c.b),none,(.func (fn (st p0) p1 3 [] .none .none .none (vS p2 p3) none (vr p4) .none 0)),#[]⟩
def zae:=h0 #[]
def zan:=h1 #[]
def zc5:=h2 x.s.a.a.a 182 x.s.a.a.a 183 184 1 vO vO 11 (.bool false) 12 .none .none .none 185 186
def zc8:=h3 13 3 x.s.a.a.c 164
def b1148:=h4 #[i0,i1,i2,i3,i4,i5,i6,i7,i8,i9] 10
def b1149:=h1 #[(vI 2),vO,(vr 20)]
def zdy:=h0 #[(vY x.t.a.a.f)]
def zas:=h5 x.t.a.a.h (vY x.t.a.b.a)
def zd2:=h4 #[i10,i11,i12,i13] 4
def zez:=h2 s21 191 s21 192 193 2 vO vO 18 (.bool false) 19 .none .none .none 194 195
def zeh:=h3 20 17 s0 187
def zeL:=h4 #[i10,i12,i13,i14,i15] 3
def b1159:=h6 []
def zdQ:Obj:=⟨(vY x.t.a.b.f),none,(.fields #[(vS x.s.a.c.c 202),(vr 24),(vB x.t.a.b.g),.none]),#[]⟩
def zd9:=h7 24
def zds:=h5 t17 (vr 24)
def b1163:=h4 #[i0,i1,i2,i3,i4,i5,i6,i7,i8,i9,i16] 11
def b1164:=h1 #[(vI 2),vO,(vr 20),(vI 4),vO,(vr 33)]
def b1165:=h6 [(vr 37)]
def zay:=h0 #[(vr 24)]
def zd6:=h4 #[i17,i18,i19,i20] 4
def zgh:=h2 s31 209 s31 210 211 4 vO vO 31 (.bool false) 32 .none .none .none 212 213
def zfO:=h3 33 30 s0 187
def zfm:=h4 #[i17,i19,i20,i21] 2
def zfx:=h8 s31 37 36 28 207 215
def zgk:=h7 37
def zfb:=h5 t17 (vr 37)
def b1178:=h4 #[i0,i1,i2,i3,i4,i5,i6,i7,i8,i9,i16,i22] 12
def b1179:=h1 #[(vI 2),vO,(vr 20),(vI 4),vO,(vr 33),(vI 6),vO,(vr 45)]
def b1180:=h6 [(vr 37),(vr 49)]
def zfL:=h4 #[i23,i24,i25,i26] 4
def zgl:=h2 s32 225 s32 226 227 6 vO vO 43 (.bool false) 44 .none .none .none 228 229
def zf3:=h3 45 42 s0 187
def zeX:=h4 #[i23,i25,i26,i27] 2
def zfu:=h8 s32 49 48 40 223 231
def zgj:=h7 49
def ze7:=h5 t17 (vr 49)
def b1193:=h4 #[i0,i1,i2,i3,i4,i5,i6,i7,i8,i9,i16,i22,i28] 13
def b1194:=h1 #[(vI 2),vO,(vr 20),(vI 4),vO,(vr 33),(vI 6),vO,(vr 45),(vI 8),vO,(vr 57)]
def b1195:=h6 [(vr 37),(vr 49),(vr 61)]
def zgH:=h4 #[i29,i30,i31,i32] 4
def zgA:=h2 s33 241 s33 242 243 8 vO vO 55 (.bool false) 56 .none .none .none 244 245
def zgP:=h3 57 54 s0 187
def zfv:=h4 #[i29,i31,i32,i33] 2
def zgz:=h8 s33 61 60 52 239 247
def zg1:=h7 61
def zh9:=h5 t17 (vr 61)
def b1208:=h4 #[i0,i1,i2,i3,i4,i5,i6,i7,i8,i9,i16,i22,i28,i34] 14
def b1209:=h1 #[(vI 2),vO,(vr 20),(vI 4),vO,(vr 33),(vI 6),vO,(vr 45),(vI 8),vO,(vr 57),(vI 10),vO,(vr 69)]
def b1210:=h6 [(vr 37),(vr 49),(vr 61),(vr 73)]
def zjl:=h4 #[i35,i36,i37,i38] 4
def zjr:=h2 s34 257 s34 258 259 10 vO vO 67 (.bool false) 68 .none .none .none 260 261
def zjv:=h3 69 66 s0 187
def ziP:=h4 #[i35,i37,i38,i39] 2
def zi8:=h8 s34 73 72 64 255 263
def zjn:=h7 73
def zhX:=h5 t17 (vr 73)
def b1223:=h4 #[i0,i1,i2,i3,i4,i5,i6,i7,i8,i9,i16,i22,i28,i34,i40] 15
def b1224:=h1 #[(vI 2),vO,(vr 20),(vI 4),vO,(vr 33),(vI 6),vO,(vr 45),(vI 8),vO,(vr 57),(vI 10),vO,(vr 69),(vI 12),vO,(vr 81)]
def b1225:=h6 [(vr 37),(vr 49),(vr 61),(vr 73),(vr 85)]
def zjz:=h4 #[i41,i42,i43,i44] 4
def zjP:=h2 s35 273 s35 274 275 12 vO vO 79 (.bool false) 80 .none .none .none 276 277
def zjm:=h3 81 78 s0 187
def ziX:=h4 #[i41,i43,i44,i45] 2
def ziT:=h8 s35 85 84 76 271 279
def zjt:=h7 85
def zhM:=h5 t17 (vr 85)
def b1238:=h4 #[i0,i1,i2,i3,i4,i5,i6,i7,i8,i9,i16,i22,i28,i34,i40,i46] 16
def b1239:=h1 #[(vI 2),vO,(vr 20),(vI 4),vO,(vr 33),(vI 6),vO,(vr 45),(vI 8),vO,(vr 57),(vI 10),vO,(vr 69),(vI 12),vO,(vr 81),(vI 14),vO,(vr 93)]
def b1240:=h6 [(vr 37),(vr 49),(vr 61),(vr 73),(vr 85),(vr 97)]
def zji:=h4 #[i47,i48,i49,i50] 4
def zjI:=h2 s36 289 s36 290 291 14 vO vO 91 (.bool false) 92 .none .none .none 292 293
def zjq:=h3 93 90 s0 187
def zhS:=h4 #[i47,i49,i50,i51] 2
def zhK:=h8 s36 97 96 88 287 295
def ziW:=h7 97
def zhU:=h5 t17 (vr 97)
def b1253:=h4 #[i0,i1,i2,i3,i4,i5,i6,i7,i8,i9,i16,i22,i28,i34,i40,i46,i52] 17
def b1254:=h1 #[(vI 2),vO,(vr 20),(vI 4),vO,(vr 33),(vI 6),vO,(vr 45),(vI 8),vO,(vr 57),(vI 10),vO,(vr 69),(vI 12),vO,(vr 81),(vI 14),vO,(vr 93),(vI 16),vO,(vr 105)]
def b1255:=h6 [(vr 37),(vr 49),(vr 61),(vr 73),(vr 85),(vr 97),(vr 109)]
def ziL:=h4 #[i53,i54,i55,i56] 4
def ziD:=h2 s37 305 s37 306 307 16 vO vO 103 (.bool false) 104 .none .none .none 308 309
def zja:=h3 105 102 s0 187
def ziy:=h4 #[i53,i55,i56,i57] 2
def zh8:=h8 s37 109 108 100 303 311
def zjE:=h7 109
def ziH:=h5 t17 (vr 109)
def b1268:=h4 #[i0,i1,i2,i3,i4,i5,i6,i7,i8,i9,i16,i22,i28,i34,i40,i46,i52,i58] 18
def b1269:=h1 #[(vI 2),vO,(vr 20),(vI 4),vO,(vr 33),(vI 6),vO,(vr 45),(vI 8),vO,(vr 57),(vI 10),vO,(vr 69),(vI 12),vO,(vr 81),(vI 14),vO,(vr 93),(vI 16),vO,(vr 105),(vI 18),vO,(vr 117)]
def b1270:=h6 [(vr 37),(vr 49),(vr 61),(vr 73),(vr 85),(vr 97),(vr 109),(vr 121)]
def zkk:=h4 #[i59,i60,i61,i62] 4
def zlc:=h2 s38 321 s38 322 323 18 vO vO 115 (.bool false) 116 .none .none .none 324 325
def zk6:=h3 117 114 s0 187
def zjK:=h4 #[i59,i61,i62,i63] 2
def zjG:=h8 s38 121 120 112 319 327
def zkx:=h7 121
def zjF:=h5 t17 (vr 121)
def b1283:=h4 #[i0,i1,i2,i3,i4,i5,i6,i7,i8,i9,i16,i22,i28,i34,i40,i46,i52,i58,i64] 19
def b1284:=h1 #[(vI 2),vO,(vr 20),(vI 4),vO,(vr 33),(vI 6),vO,(vr 45),(vI 8),vO,(vr 57),(vI 10),vO,(vr 69),(vI 12),vO,(vr 81),(vI 14),vO,(vr 93),(vI 16),vO,(vr 105),(vI 18),vO,(vr 117),(vI 20),vO,(vr 129)]
def b1285:=h6 [(vr 37),(vr 49),(vr 61),(vr 73),(vr 85),(vr 97),(vr 109),(vr 121),(vr 133)]
def zkE:=h4 #[i65,i66,i67,i68] 4
def zow:=h2 s39 337 s39 338 339 20 vO vO 127 (.bool false) 128 .none .none .none 340 341
def zpy:=h3 129 126 s0 187
def zm3:=h4 #[i65,i67,i68,i69] 2
def znc:=h8 s39 133 132 124 335 343
def zov:=h7 133
def zlF:=h5 t17 (vr 133)
def b1298:=h4 #[i0,i1,i2,i3,i4,i5,i6,i7,i8,i9,i16,i22,i28,i34,i40,i46,i52,i58,i64,i70] 20
def b1299:=h1 #[(vI 2),vO,(vr 20),(vI 4),vO,(vr 33),(vI 6),vO,(vr 45),(vI 8),vO,(vr 57),(vI 10),vO,(vr 69),(vI 12),vO,(vr 81),(vI 14),vO,(vr 93),(vI 16),vO,(vr 105),(vI 18),vO,(vr 117),(vI 20),vO,(vr 129),(vI 22),vO,(vr 141)]
def b1300:=h6 [(vr 37),(vr 49),(vr 61),(vr 73),(vr 85),(vr 97),(vr 109),(vr 121),(vr 133),(vr 145)]
def zon:=h4 #[i71,i72,i73,i74] 4
def zpx:=h2 s40 353 s40 354 355 22 vO vO 139 (.bool false) 140 .none .none .none 356 357
def zoP:=h3 141 138 s0 187
def znq:=h4 #[i71,i73,i74,i75] 2
def znv:=h8 s40 145 144 136 351 359
def zps:=h7 145
def zmR:=h5 t17 (vr 145)
def b1313:=h4 #[i0,i1,i2,i3,i4,i5,i6,i7,i8,i9,i16,i22,i28,i34,i40,i46,i52,i58,i64,i70,i76] 21
def b1314:=h1 #[(vI 2),vO,(vr 20),(vI 4),vO,(vr 33),(vI 6),vO,(vr 45),(vI 8),vO,(vr 57),(vI 10),vO,(vr 69),(vI 12),vO,(vr 81),(vI 14),vO,(vr 93),(vI 16),vO,(vr 105),(vI 18),vO,(vr 117),(vI 20),vO,(vr 129),(vI 22),vO,(vr 141),(vI 24),vO,(vr 153)]
def b1315:=h6 [(vr 37),(vr 49),(vr 61),(vr 73),(vr 85),(vr 97),(vr 109),(vr 121),(vr 133),(vr 145),(vr 157)]
def zoZ:=h4 #[i77,i78,i79,i80] 4
def zpp:=h2 s41 369 s41 370 371 24 vO vO 151 (.bool false) 152 .none .none .none 372 373
def zlT:=h3 153 150 s0 187
def zoA:=h4 #[i77,i79,i80,i81] 2
def zo5:=h8 s41 157 156 148 367 375
def znz:=h7 157
def znr:=h5 t17 (vr 157)
def b1328:=h4 #[i0,i1,i2,i3,i4,i5,i6,i7,i8,i9,i16,i22,i28,i34,i40,i46,i52,i58,i64,i70,i76,i82] 22
def b1329:=h1 #[(vI 2),vO,(vr 20),(vI 4),vO,(vr 33),(vI 6),vO,(vr 45),(vI 8),vO,(vr 57),(vI 10),vO,(vr 69),(vI 12),vO,(vr 81),(vI 14),vO,(vr 93),(vI 16),vO,(vr 105),(vI 18),vO,(vr 117),(vI 20),vO,(vr 129),(vI 22),vO,(vr 141),(vI 24),vO,(vr 153),(vI 26),vO,(vr 165)]
def b1330:=h6 [(vr 37),(vr 49),(vr 61),(vr 73),(vr 85),(vr 97),(vr 109),(vr 121),(vr 133),(vr 145),(vr 157),(vr 169)]
def zpv:=h4 #[i83,i84,i85,i86] 4
def zki:=h2 s42 385 s42 386 387 26 vO vO 163 (.bool false) 164 .none .none .none 388 389
def zlC:=h3 165 162 s0 187
def zlk:=h4 #[i83,i85,i86,i87] 2
def zpo:=h8 s42 169 168 160 383 391
def zoo:=h7 169
def zpg:=h5 t17 (vr 169)
def b1343:=h4 #[i0,i1,i2,i3,i4,i5,i6,i7,i8,i9,i16,i22,i28,i34,i40,i46,i52,i58,i64,i70,i76,i82,i88] 23
def b1344:=h1 #[(vI 2),vO,(vr 20),(vI 4),vO,(vr 33),(vI 6),vO,(vr 45),(vI 8),vO,(vr 57),(vI 10),vO,(vr 69),(vI 12),vO,(vr 81),(vI 14),vO,(vr 93),(vI 16),vO,(vr 105),(vI 18),vO,(vr 117),(vI 20),vO,(vr 129),(vI 22),vO,(vr 141),(vI 24),vO,(vr 153),(vI 26),vO,(vr 165),(vI 28),vO,(vr 177)]
def b1345:=h6 [(vr 37),(vr 49),(vr 61),(vr 73),(vr 85),(vr 97),(vr 109),(vr 121),(vr 133),(vr 145),(vr 157),(vr 169),(vr 181)]
def zoU:=h4 #[i89,i90,i91,i92] 4
def zpr:=h2 s43 401 s43 402 403 28 vO vO 175 (.bool false) 176 .none .none .none 404 405
def zoG:=h3 177 174 s0 187
def zmm:=h4 #[i89,i91,i92,i93] 2
def zpb:=h8 s43 181 180 172 399 407
def zol:=h7 181
def zoX:=h5 t17 (vr 181)
def b1358:=h4 #[i0,i1,i2,i3,i4,i5,i6,i7,i8,i9,i16,i22,i28,i34,i40,i46,i52,i58,i64,i70,i76,i82,i88,i94] 24
def b1359:=h1 #[(vI 2),vO,(vr 20),(vI 4),vO,(vr 33),(vI 6),vO,(vr 45),(vI 8),vO,(vr 57),(vI 10),vO,(vr 69),(vI 12),vO,(vr 81),(vI 14),vO,(vr 93),(vI 16),vO,(vr 105),(vI 18),vO,(vr 117),(vI 20),vO,(vr 129),(vI 22),vO,(vr 141),(vI 24),vO,(vr 153),(vI 26),vO,(vr 165),(vI 28),vO,(vr 177),(vI 30),vO,(vr 189)]
def b1360:=h6 [(vr 37),(vr 49),(vr 61),(vr 73),(vr 85),(vr 97),(vr 109),(vr 121),(vr 133),(vr 145),(vr 157),(vr 169),(vr 181),(vr 193)]
def zo7:=h4 #[i95,i96,i97,i98] 4
def zm8:=h2 s44 417 s44 418 419 30 vO vO 187 (.bool false) 188 .none .none .none 420 421
def zoK:=h3 189 186 s0 187
def zoV:=h4 #[i95,i97,i98,i99] 2
def zop:=h8 s44 193 192 184 415 423
def zpd:=h7 193
def zpf:=h5 t17 (vr 193)
def b1373:=h4 #[i0,i1,i2,i3,i4,i5,i6,i7,i8,i9,i16,i22,i28,i34,i40,i46,i52,i58,i64,i70,i76,i82,i88,i94,ztu] 25
def b1374:=h1 #[(vI 2),vO,(vr 20),(vI 4),vO,(vr 33),(vI 6),vO,(vr 45),(vI 8),vO,(vr 57),(vI 10),vO,(vr 69),(vI 12),vO,(vr 81),(vI 14),vO,(vr 93),(vI 16),vO,(vr 105),(vI 18),vO,(vr 117),(vI 20),vO,(vr 129),(vI 22),vO,(vr 141),(vI 24),vO,(vr 153),(vI 26),vO,(vr 165),(vI 28),vO,(vr 177),(vI 30),vO,(vr 189),(vI 32),vO,(vr 201)]
def b1375:=h6 [(vr 37),(vr 49),(vr 61),(vr 73),(vr 85),(vr 97),(vr 109),(vr 121),(vr 133),(vr 145),(vr 157),(vr 169),(vr 181),(vr 193),(vr 212)]
def zmL:=h4 #[i101,i102,i103,i104,i105] 5
def zo1:=h1 #[(vI 34),(vI 4),(vr 208)]
def zmW:=h2 s45 433 s45 434 435 32 vO vO 199 (.bool false) 200 .none .none .none 436 437
def zo3:=h3 201 198 s0 187
def zm6:=h0 #[(vS x.s.a.e.d 446),(vS x.s.a.e.e 447)]
def zo4:=h9 16 x.s.a.e.f
def zoS:=h2 s22 443 x.s.a.e.f 444 445 34 (vI 2) (vI 3) 203 (.bool true) 204 (vr 205) (vr 206) (vr 207) 448 449
def zos:=h10 16 x.s.a.e.f 208
def zmu:=h0 #[(vS x.s.a.e.e 451)]
def znd:=h4 #[i101,i103,i104,i105,i106] 2
def zo6:=h8 s45 212 211 196 431 439
def znf:=h7 212
def zph:=h5 t17 (vr 212)
def b1395:=h4 #[i0,i1,i2,i3,i4,i5,i6,i7,i8,i9,i16,i22,i28,i34,i40,i46,i52,i58,i64,i70,i76,i82,i88,i94,ztu,zue] 26
def b1396:=h1 #[(vI 2),vO,(vr 20),(vI 4),vO,(vr 33),(vI 6),vO,(vr 45),(vI 8),vO,(vr 57),(vI 10),vO,(vr 69),(vI 12),vO,(vr 81),(vI 14),vO,(vr 93),(vI 16),vO,(vr 105),(vI 18),vO,(vr 117),(vI 20),vO,(vr 129),(vI 22),vO,(vr 141),(vI 24),vO,(vr 153),(vI 26),vO,(vr 165),(vI 28),vO,(vr 177),(vI 30),vO,(vr 189),(vI 32),vO,(vr 201),(vI 37),vO,(vr 220)]
def b1397:=h6 [(vr 37),(vr 49),(vr 61),(vr 73),(vr 85),(vr 97),(vr 109),(vr 121),(vr 133),(vr 145),(vr 157),(vr 169),(vr 181),(vr 193),(vr 212),(vr 231)]
def znp:=h4 #[i108,i109,i110,i111,i112] 5
def zoN:=h1 #[(vI 39),(vI 4),(vr 227)]
def zmh:=h2 s46 458 s46 459 460 37 vO vO 218 (.bool false) 219 .none .none .none 461 462
def zoQ:=h3 220 217 s0 187
def zmX:=h0 #[(vS x.s.a.e.d 471),(vS x.s.a.e.h 472)]
def zoq:=h9 17 x.s.a.f.a
def zpm:=h2 s22 468 x.s.a.f.a 469 470 39 (vI 2) (vI 3) 222 (.bool true) 223 (vr 224) (vr 225) (vr 226) 473 474
def zoC:=h10 17 x.s.a.f.a 227
def zlL:=h0 #[(vS x.s.a.e.h 476)]
def zme:=h4 #[i108,i110,i111,i112,i113] 2
def zpw:=h8 s46 231 230 215 456 464
def zmE:=h7 231
def zor:=h5 t17 (vr 231)
def b1417:=h4 #[i0,i1,i2,i3,i4,i5,i6,i7,i8,i9,i16,i22,i28,i34,i40,i46,i52,i58,i64,i70,i76,i82,i88,i94,ztu,zue,zuM] 27
def b1418:=h1 #[(vI 2),vO,(vr 20),(vI 4),vO,(vr 33),(vI 6),vO,(vr 45),(vI 8),vO,(vr 57),(vI 10),vO,(vr 69),(vI 12),vO,(vr 81),(vI 14),vO,(vr 93),(vI 16),vO,(vr 105),(vI 18),vO,(vr 117),(vI 20),vO,(vr 129),(vI 22),vO,(vr 141),(vI 24),vO,(vr 153),(vI 26),vO,(vr 165),(vI 28),vO,(vr 177),(vI 30),vO,(vr 189),(vI 32),vO,(vr 201),(vI 37),vO,(vr 220),(vI 42),vO,(vr 239)]
def b1419:=h6 [(vr 37),(vr 49),(vr 61),(vr 73),(vr 85),(vr 97),(vr 109),(vr 121),(vr 133),(vr 145),(vr 157),(vr 169),(vr 181),(vr 193),(vr 212),(vr 231),(vr 250)]
def zpi:=h4 #[i115,i116,i117,i118,i119] 5
def zq2:=h1 #[(vI 44),(vI 4),(vr 246)]
def zoI:=h2 s47 483 s47 484 485 42 vO vO 237 (.bool false) 238 .none .none .none 486 487
def zqe:=h3 239 236 s0 187
def zrg:=h0 #[(vS x.s.a.e.d 496),(vS x.s.a.f.c 497)]
def zpF:=h9 18 x.s.a.f.d
def zpA:=h2 s22 493 x.s.a.f.d 494 495 44 (vI 2) (vI 3) 241 (.bool true) 242 (vr 243) (vr 244) (vr 245) 498 499
def zq7:=h10 18 x.s.a.f.d 246
def zoW:=h0 #[(vS x.s.a.f.c 501)]
def zoB:=h4 #[i115,i117,i118,i119,i120] 2
def zqQ:=h8 s47 250 249 234 481 489
def zoz:=h7 250
def zqF:=h5 t17 (vr 250)
def b1439:=h4 #[i121,i1,i2,i3,i4,i5,i6,i7,i8,i9,i16,i22,i28,i34,i40,i46,i52,i58,i64,i70,i76,i82,i88,i94,ztu,zue,zuM,zwE,zwC,zwD,zwH,zwB] 32
def b1440:=h1 #[(vI 2),vO,(vr 20),(vI 4),vO,(vr 33),(vI 6),vO,(vr 45),(vI 8),vO,(vr 57),(vI 10),vO,(vr 69),(vI 12),vO,(vr 81),(vI 14),vO,(vr 93),(vI 16),vO,(vr 105),(vI 18),vO,(vr 117),(vI 20),vO,(vr 129),(vI 22),vO,(vr 141),(vI 24),vO,(vr 153),(vI 26),vO,(vr 165),(vI 28),vO,(vr 177),(vI 30),vO,(vr 189),(vI 32),vO,(vr 201),(vI 37),vO,(vr 220),(vI 42),vO,(vr 239),(vI 47),vO,(vr 258),(vI 53),vO,(vr 277),(vI 61),vO,(vr 284),(vI 68),vO,(vr 291),(vI 70),vO,(vr 298)]
def zmv:=h6 [(vr 37),(vr 49),(vr 61),(vr 73),(vr 85),(vr 97),(vr 109),(vr 121),(vr 133),(vr 145),(vr 157),(vr 169),(vr 181),(vr 193),(vr 212),(vr 231),(vr 250),(vr 269)]
def zsA:=h4 #[i127,i128,i129,i130,i131] 5
def zs6:=h1 #[(vI 49),(vI 4),(vr 265)]
def zrz:=h2 s48 508 s48 509 510 47 vO vO 256 (.bool false) 257 .none .none .none 511 512
def zrQ:=h3 258 255 s0 187
def zsq:=h0 #[(vS x.s.a.e.d 521),(vS x.s.a.g.c 522)]
def zss:=h9 19 x.s.a.g.d
def zsf:=h2 s22 518 x.s.a.g.d 519 520 49 (vI 2) (vI 3) 260 (.bool true) 261 (vr 262) (vr 263) (vr 264) 523 524
def ztG:=h10 19 x.s.a.g.d 265
def zrJ:=h0 #[(vS x.s.a.g.c 526)]
def ztN:=h4 #[i127,i129,i130,i131,i132] 2
def zs2:=h8 s48 269 268 253 506 514
def ztg:=h7 269
def ztl:=h5 t17 (vr 269)
def zth:=h0 #[(vS s24 536),(vS s26 537),(vS x.s.a.g.g 538)]
def ztw:=h11 21 s49
def zsn:=h2 s49 533 s49 534 535 53 (vI 2) (vI 3) 272 (.bool true) 273 (vr 274) (vr 275) (vr 276) 539 540
def ztP:=h12 21 s49 s18 531 277
def zrK:=h0 #[(vS s27 545),(vS s28 546),(vS x.s.a.h.b 547)]
def ztT:=h11 22 s50
def zs3:=h2 s50 542 s50 543 544 61 (vI 2) (vI 3) 279 (.bool true) 280 (vr 281) (vr 282) (vr 283) 548 549
def zr8:=h12 22 s50 s18 531 284
def ztf:=h0 #[(vS s24 554),(vS s26 555)]
def zsZ:=h11 23 s51
def ztq:=h2 s51 551 s51 552 553 68 (vI 2) (vI 3) 286 (.bool true) 287 (vr 288) (vr 289) (vr 290) 556 557
def zsp:=h12 23 s51 s18 531 291
def zrB:=h0 #[(vS s24 562),(vS s26 563)]
def zrR:=h11 24 s52
def zsG:=h2 s52 559 s52 560 561 70 (vI 2) (vI 3) 293 (.bool true) 294 (vr 295) (vr 296) (vr 297) 564 565
def zrx:=h12 24 s52 s18 531 298
def b1489:=h4 #[i133,i1,i2,i3,i4,i5,i6,i7,i8,i9,i16,i22,i28,i34,i40,i46,i52,i58,i64,i70,i76,i82,i88,i94,ztu,zue,zuM,zwE,zwC,zwD,zwH,zwB,zyq,zx6,zx5,zw6,zxS,zx4,zyV,zyQ,zyC,zyU,zyZ,zw7,zyH,zyY,zxL,zxW] 48
def b1490:=h1 #[(vI 2),vO,(vr 20),(vI 4),vO,(vr 33),(vI 6),vO,(vr 45),(vI 8),vO,(vr 57),(vI 10),vO,(vr 69),(vI 12),vO,(vr 81),(vI 14),vO,(vr 93),(vI 16),vO,(vr 105),(vI 18),vO,(vr 117),(vI 20),vO,(vr 129),(vI 22),vO,(vr 141),(vI 24),vO,(vr 153),(vI 26),vO,(vr 165),(vI 28),vO,(vr 177),(vI 30),vO,(vr 189),(vI 32),vO,(vr 201),(vI 37),vO,(vr 220),(vI 42),vO,(vr 239),(vI 47),vO,(vr 258),(vI 53),vO,(vr 277),(vI 61),vO,(vr 284),(vI 68),vO,(vr 291),(vI 70),vO,(vr 298),(vI 72),vO,(vr 305),(vI 74),vO,(vr 312),(vI 76),vO,(vr 319),(vI 78),vO,(vr 324),(vI 83),vO,(vr 331),(vI 88),vO,(vr 336),(vI 92),vO,(vr 343),(vI 94),vO,(vr 350),(vI 96),vO,(vr 355),(vI 100),vO,(vr 362),(vI 112),vO,(vr 369)]
def zto:=h0 #[(vS s24 570),(vS s26 571)]
def zr4:=h11 25 s53
def zrZ:=h2 s53 567 s53 568 569 72 (vI 2) (vI 3) 300 (.bool true) 301 (vr 302) (vr 303) (vr 304) 572 573
def zsQ:=h12 25 s53 s18 531 305
def ztt:=h0 #[(vS s24 578),(vS s26 579)]
def zrT:=h11 26 s54
def zsw:=h2 s54 575 s54 576 577 74 (vI 2) (vI 3) 307 (.bool true) 308 (vr 309) (vr 310) (vr 311) 580 581
def zsB:=h12 26 s54 s18 531 312
def zrN:=h0 #[(vS s24 586),(vS s26 587)]
def zsT:=h11 27 s55
def zsM:=h2 s55 583 s55 584 585 76 (vI 2) (vI 3) 314 (.bool true) 315 (vr 316) (vr 317) (vr 318) 588 589
def zrP:=h12 27 s55 s18 531 319
def ztx:=h11 28 s56
def zr3:=h2 s56 591 s56 592 593 78 (vI 1) (vI 3) 321 (.bool true) 322 .none .none (vr 323) 594 595
def ztB:=h12 28 s56 s18 531 324
def ztL:=h0 #[(vS x.s.b.b.d 600),(vS x.s.a.h.b 601),(vS x.s.b.b.e 602)]
def zrO:=h11 29 s57
def zrX:=h2 s57 597 s57 598 599 83 (vI 1) (vI 3) 326 (.bool true) 327 (vr 328) (vr 329) (vr 330) 603 604
def zrI:=h12 29 s57 s18 531 331
def zsJ:=h11 30 s58
def ztF:=h2 s58 606 s58 607 608 88 (vI 1) (vI 3) 333 (.bool true) 334 .none .none (vr 335) 609 610
def zsH:=h12 30 s58 s18 531 336
def ztQ:=h0 #[(vS s29 617)]
def zty:=h11 32 s59
def ztE:=h2 s59 614 s59 615 616 92 (vI 1) (vI 3) 338 (.bool true) 339 (vr 340) (vr 341) (vr 342) 618 619
def zsK:=h12 32 s59 x.s.b.b.g 612 343
def zsr:=h0 #[(vS s29 624),(vS x.s.b.b.h 625),(vS x.s.b.c.a 626)]
def zsh:=h11 33 s60
def zr0:=h2 s60 621 s60 622 623 94 (vI 3) (vI 3) 345 (.bool true) 346 (vr 347) (vr 348) (vr 349) 627 628
def zr7:=h12 33 s60 x.s.b.b.g 612 350
def zs5:=h11 34 s61
def zsy:=h2 s61 630 s61 631 632 96 (vI 2) (vI 3) 352 (.bool true) 353 .none .none (vr 354) 633 634
def ztI:=h12 34 s61 x.s.b.b.g 612 355
def zrU:=h0 #[(vS s29 639)]
def zs0:=h11 35 s62
def zsc:=h2 s62 636 s62 637 638 100 (vI 1) (vI 3) 357 (.bool true) 358 (vr 359) (vr 360) (vr 361) 640 641
def zsm:=h12 35 s62 x.s.b.b.g 612 362
def zr5:=h0 #[(vS s29 658),(vS x.s.b.c.b 659),(vS x.s.b.c.c 660),(vS x.s.b.c.d 661)]
def ztA:=h11 42 s63
def zsI:=h2 s63 655 s63 656 657 112 (vI 1) (vI 3) 364 (.bool true) 365 (vr 366) (vr 367) (vr 368) 662 663
def zwn:=h12 42 s63 s1 643 369
def b1562:=h4 #[i133,i1,i2,i3,i4,i5,i6,i7,i8,i9,i16,i22,i28,i34,i40,i46,i52,i58,i64,i70,i76,i82,i88,i94,ztu,zue,zuM,zwE,zwC,zwD,zwH,zwB,zyq,zx6,zx5,zw6,zxS,zx4,zyV,zyQ,zyC,zyU,zyZ,zw7,zyH,zyY,zxL,zxW,i150,i151,i152,i153,i154,i155,i156,i157,i158,i159,i160,i161,i162] 61
def b1563:=h1 #[(vI 2),vO,(vr 20),(vI 4),vO,(vr 33),(vI 6),vO,(vr 45),(vI 8),vO,(vr 57),(vI 10),vO,(vr 69),(vI 12),vO,(vr 81),(vI 14),vO,(vr 93),(vI 16),vO,(vr 105),(vI 18),vO,(vr 117),(vI 20),vO,(vr 129),(vI 22),vO,(vr 141),(vI 24),vO,(vr 153),(vI 26),vO,(vr 165),(vI 28),vO,(vr 177),(vI 30),vO,(vr 189),(vI 32),vO,(vr 201),(vI 37),vO,(vr 220),(vI 42),vO,(vr 239),(vI 47),vO,(vr 258),(vI 53),vO,(vr 277),(vI 61),vO,(vr 284),(vI 68),vO,(vr 291),(vI 70),vO,(vr 298),(vI 72),vO,(vr 305),(vI 74),vO,(vr 312),(vI 76),vO,(vr 319),(vI 78),vO,(vr 324),(vI 83),vO,(vr 331),(vI 88),vO,(vr 336),(vI 92),vO,(vr 343),(vI 94),vO,(vr 350),(vI 96),vO,(vr 355),(vI 100),vO,(vr 362),(vI 112),vO,(vr 369),(vI 117),vO,(vr 374),(vI 120),vO,(vr 381),(vI 123),vO,(vr 386),(vI 127),vO,(vr 393),(vI 132),vO,(vr 400),(vI 134),vO,(vr 407),(vI 137),vO,(vr 414),(vI 140),vO,(vr 419),(vI 142),vO,(vr 426),(vI 145),vO,(vr 431),(vI 148),vO,(vr 438),(vI 152),vO,(vr 443),(vI 154),vO,(vr 450)]
def zuu:=h11 43 s64
def zuZ:=h2 s64 665 s64 666 667 117 (vI 1) (vI 3) 371 (.bool true) 372 .none .none (vr 373) 668 669
def zuL:=h12 43 s64 s1 643 374
def zu8:=h0 #[(vS x.s.b.e.b 674)]
def zwl:=h11 44 s65
def zuN:=h2 s65 671 s65 672 673 120 (vI 1) (vI 3) 376 (.bool true) 377 (vr 378) (vr 379) (vr 380) 675 676
def zvM:=h12 44 s65 s1 643 381
def zvX:=h11 45 s66
def zwu:=h2 s66 678 s66 679 680 123 (vI 2) (vI 3) 383 (.bool true) 384 .none .none (vr 385) 681 682
def zwk:=h12 45 s66 s1 643 386
def zvp:=h0 #[(vS x.s.b.e.c 687),(vS s20 688),(vS x.s.b.e.e 689),(vS x.s.a.g.c 690)]
def zwb:=h11 46 s67
def zvP:=h2 s67 684 s67 685 686 127 (vI 2) (vI 3) 388 (.bool true) 389 (vr 390) (vr 391) (vr 392) 691 692
def zv3:=h12 46 s67 s1 643 393
def zu6:=h0 #[(vS s23 697),(vS s20 698)]
def zvI:=h11 47 s68
def zuW:=h2 s68 694 s68 695 696 132 (vI 2) (vI 3) 395 (.bool true) 396 (vr 397) (vr 398) (vr 399) 699 700
def zv1:=h12 47 s68 s1 643 400
def zwz:=h0 #[(vS s23 705),(vS s20 706),(vS s27 707),(vS s28 708)]
def zwj:=h11 48 s69
def zv0:=h2 s69 702 s69 703 704 134 (vI 2) (vI 3) 402 (.bool true) 403 (vr 404) (vr 405) (vr 406) 709 710
def zvK:=h12 48 s69 s1 643 407
def zwm:=h0 #[(vS s23 715),(vS s20 716),(vS s27 717),(vS s28 718)]
def zv5:=h11 49 s70
def zu3:=h2 s70 712 s70 713 714 137 (vI 2) (vI 3) 409 (.bool true) 410 (vr 411) (vr 412) (vr 413) 719 720
def zuV:=h12 49 s70 s1 643 414
def zuP:=h11 50 s71
def zwe:=h2 s71 722 s71 723 724 140 (vI 2) (vI 3) 416 (.bool true) 417 .none .none (vr 418) 725 726
def zun:=h12 50 s71 s1 643 419
def zu2:=h0 #[(vS s30 731),(vS x.s.b.e.h 732)]
def zu0:=h11 51 s72
def zvJ:=h2 s72 728 s72 729 730 142 (vI 2) (vI 3) 421 (.bool true) 422 (vr 423) (vr 424) (vr 425) 733 734
def zvd:=h12 51 s72 s1 643 426
def zvC:=h11 52 s73
def zvR:=h2 s73 736 s73 737 738 145 (vI 2) (vI 3) 428 (.bool true) 429 .none .none (vr 430) 739 740
def zvO:=h12 52 s73 s1 643 431
def zvu:=h0 #[(vS s29 745),(vS s30 746)]
def zwr:=h11 53 s74
def zvh:=h2 s74 742 s74 743 744 148 (vI 2) (vI 3) 433 (.bool true) 434 (vr 435) (vr 436) (vr 437) 747 748
def zwq:=h12 53 s74 s1 643 438
def zwi:=h11 54 s75
def zuq:=h2 s75 750 s75 751 752 152 (vI 2) (vI 3) 440 (.bool true) 441 .none .none (vr 442) 753 754
def zvt:=h12 54 s75 s1 643 443
def zvB:Obj:=⟨(vY t25),none,(.seq #[(vS s23 759),(vS x.s.b.f.a 760),(vS x.s.b.f.b 761),(vS x.s.b.f.c 762),(vS x.s.b.f.d 763),(vS x.s.b.f.e 764),(vS s20 765),(vS x.s.b.f.f 766),(vS s27 767),(vS s28 768)] 0),#[]⟩
def zvD:=h11 55 s76
def zv8:=h2 s76 756 s76 757 758 154 (vI 4) (vI 3) 445 (.bool true) 446 (vr 447) (vr 448) (vr 449) 769 770
def zuv:=h12 55 s76 s1 643 450
def b1645:=h4 #[i133,i1,i2,i3,i4,i5,i6,i7,i8,i9,i16,i22,i28,i34,i40,i46,i52,i58,i64,i70,i76,i82,i88,i94,ztu,zue,zuM,zwE,zwC,zwD,zwH,zwB,zyq,zx6,zx5,zw6,zxS,zx4,zyV,zyQ,zyC,zyU,zyZ,zw7,zyH,zyY,zxL,zxW,i150,i151,i152,i153,i154,i155,i156,i157,i158,i159,i160,i161,i162,i163,i164,i165,i166,i167,i168,i169,i170,i171,i172,i173,i174,i175] 74
def b1646:=h1 #[(vI 2),vO,(vr 20),(vI 4),vO,(vr 33),(vI 6),vO,(vr 45),(vI 8),vO,(vr 57),(vI 10),vO,(vr 69),(vI 12),vO,(vr 81),(vI 14),vO,(vr 93),(vI 16),vO,(vr 105),(vI 18),vO,(vr 117),(vI 20),vO,(vr 129),(vI 22),vO,(vr 141),(vI 24),vO,(vr 153),(vI 26),vO,(vr 165),(vI 28),vO,(vr 177),(vI 30),vO,(vr 189),(vI 32),vO,(vr 201),(vI 37),vO,(vr 220),(vI 42),vO,(vr 239),(vI 47),vO,(vr 258),(vI 53),vO,(vr 277),(vI 61),vO,(vr 284),(vI 68),vO,(vr 291),(vI 70),vO,(vr 298),(vI 72),vO,(vr 305),(vI 74),vO,(vr 312),(vI 76),vO,(vr 319),(vI 78),vO,(vr 324),(vI 83),vO,(vr 331),(vI 88),vO,(vr 336),(vI 92),vO,(vr 343),(vI 94),vO,(vr 350),(vI 96),vO,(vr 355),(vI 100),vO,(vr 362),(vI 112),vO,(vr 369),(vI 117),vO,(vr 374),(vI 120),vO,(vr 381),(vI 123),vO,(vr 386),(vI 127),vO,(vr 393),(vI 132),vO,(vr 400),(vI 134),vO,(vr 407),(vI 137),vO,(vr 414),(vI 140),vO,(vr 419),(vI 142),vO,(vr 426),(vI 145),vO,(vr 431),(vI 148),vO,(vr 438),(vI 152),vO,(vr 443),(vI 154),vO,(vr 450),(vI 161),vO,(vr 455),(vI 169),vO,(vr 462),(vI 174),vO,(vr 469),(vI 177),vO,(vr 476),(vI 180),vO,(vr 483),(vI 184),vO,(vr 488),(vI 193),vO,(vr 495),(vI 201),vO,(vr 502),(vI 209),vO,(vr 509),(vI 214),vO,(vr 516),(vI 220),vO,(vr 521),(vI 222),vO,(vr 526),(vI 228),vO,(vr 531)]
def zu4:=h11 56 s77
def zuJ:=h2 s77 772 s77 773 774 161 (vI 4) (vI 3) 452 (.bool true) 453 .none .none (vr 454) 775 776
def zvs:=h12 56 s77 s1 643 455
def zvU:=h0 #[(vS s29 781),(vS s30 782),(vS x.s.b.f.b 783),(vS x.s.b.h.d 784),(vS x.s.b.f.a 785)]
def zvG:=h11 57 s78
def zvn:=h2 s78 778 s78 779 780 169 (vI 2) (vI 3) 457 (.bool true) 458 (vr 459) (vr 460) (vr 461) 786 787
def zwf:=h12 57 s78 s1 643 462
def zuU:=h0 #[(vS s23 792),(vS x.s.b.f.f 793),(vS x.s.b.h.d 794),(vS s20 795),(vS s27 796),(vS s28 797)]
def zwc:=h11 58 s79
def zvl:=h2 s79 789 s79 790 791 174 (vI 4) (vI 3) 464 (.bool true) 465 (vr 466) (vr 467) (vr 468) 798 799
def zup:=h12 58 s79 s1 643 469
def zuX:=h0 #[(vS s23 804),(vS x.s.b.f.f 805),(vS x.s.b.h.d 806),(vS s20 807),(vS s27 808),(vS s28 809)]
def zvg:=h11 59 s80
def zvj:=h2 s80 801 s80 802 803 177 (vI 4) (vI 3) 471 (.bool true) 472 (vr 473) (vr 474) (vr 475) 810 811
def zvT:=h12 59 s80 s1 643 476
def zvf:=h0 #[(vS s23 816),(vS x.s.b.f.f 817),(vS x.s.b.h.d 818),(vS s20 819)]
def zvc:=h11 60 s81
def zvk:=h2 s81 813 s81 814 815 180 (vI 4) (vI 3) 478 (.bool true) 479 (vr 480) (vr 481) (vr 482) 820 821
def zvL:=h12 60 s81 s1 643 483
def zvr:=h11 61 s82
def zuo:=h2 s82 823 s82 824 825 184 (vI 4) (vI 3) 485 (.bool true) 486 .none .none (vr 487) 826 827
def zum:=h12 61 s82 s1 643 488
def zvV:Obj:=⟨(vY t25),none,(.seq #[(vS s30 832),(vS x.s.b.e.b 833),(vS x.s.b.f.c 834),(vS x.s.b.h.e 835),(vS x.s.b.f.b 836),(vS x.s.b.h.d 837),(vS x.s.b.f.a 838),(vS s23 839),(vS x.s.b.f.f 840),(vS s20 841)] 0),#[]⟩
def zvx:=h11 62 s83
def zvi:=h2 s83 829 s83 830 831 193 (vI 4) (vI 3) 490 (.bool true) 491 (vr 492) (vr 493) (vr 494) 842 843
def zuB:=h12 62 s83 s1 643 495
def zw2:=h0 #[(vS s30 848),(vS x.s.b.e.b 849),(vS x.s.b.f.c 850),(vS x.s.b.h.f 851),(vS x.s.b.h.e 852)]
def zxB:=h11 63 s84
def zxD:=h2 s84 845 s84 846 847 201 (vI 5) (vI 3) 497 (.bool true) 498 (vr 499) (vr 500) (vr 501) 853 854
def zyc:=h12 63 s84 s1 643 502
def zxd:=h0 #[(vS x.s.b.h.g 859),(vS x.s.b.h.h 860),(vS x.s.c.a.a 861)]
def zwK:=h11 64 s85
def zxN:=h2 s85 856 s85 857 858 209 (vI 1) (vI 3) 504 (.bool true) 505 (vr 506) (vr 507) (vr 508) 862 863
def zxV:=h12 64 s85 s1 643 509
def zx9:=h0 #[(vS x.s.c.a.b 868),(vS x.s.b.b.h 869),(vS s24 870)]
def zxq:=h11 65 s86
def zw0:=h2 s86 865 s86 866 867 214 (vI 1) (vI 3) 511 (.bool true) 512 (vr 513) (vr 514) (vr 515) 871 872
def zxJ:=h12 65 s86 s1 643 516
def zxz:=h11 66 s87
def zyh:=h2 s87 874 s87 875 876 220 (vI 2) (vI 3) 518 (.bool true) 519 .none .none (vr 520) 877 878
def zxQ:=h12 66 s87 s1 643 521
def zyr:=h11 67 s88
def zyk:=h2 s88 880 s88 881 882 222 (vI 3) (vI 3) 523 (.bool true) 524 .none .none (vr 525) 883 884
def zxs:=h12 67 s88 s1 643 526
def zyA:=h11 68 s89
def zym:=h2 s89 886 s89 887 888 228 (vI 2) (vI 3) 528 (.bool true) 529 .none .none (vr 530) 889 890
def zyM:=h12 68 s89 s1 643 531
def b1728:=h4 #[i176,i1,i2,i3,i4,i5,i6,i7,i8,i9,i16,i22,i28,i34,i40,i46,i52,i58,i64,i70,i76,i82,i88,i94,ztu,zue,zuM,zwE,zwC,zwD,zwH,zwB,zyq,zx6,zx5,zw6,zxS,zx4,zyV,zyQ,zyC,zyU,zyZ,zw7,zyH,zyY,zxL,zxW,i150,i151,i152,i153,i154,i155,i156,i157,i158,i159,i160,i161,i162,i163,i164,i165,i166,i167,i168,i169,i170,i171,i172,i173,i174,i175,i177,i178,i179,i180,i181,i182,i183,i184,i185,i186,i187,i188] 86
def b1729:=h1 #[(vI 2),vO,(vr 20),(vI 4),vO,(vr 33),(vI 6),vO,(vr 45),(vI 8),vO,(vr 57),(vI 10),vO,(vr 69),(vI 12),vO,(vr 81),(vI 14),vO,(vr 93),(vI 16),vO,(vr 105),(vI 18),vO,(vr 117),(vI 20),vO,(vr 129),(vI 22),vO,(vr 141),(vI 24),vO,(vr 153),(vI 26),vO,(vr 165),(vI 28),vO,(vr 177),(vI 30),vO,(vr 189),(vI 32),vO,(vr 201),(vI 37),vO,(vr 220),(vI 42),vO,(vr 239),(vI 47),vO,(vr 258),(vI 53),vO,(vr 277),(vI 61),vO,(vr 284),(vI 68),vO,(vr 291),(vI 70),vO,(vr 298),(vI 72),vO,(vr 305),(vI 74),vO,(vr 312),(vI 76),vO,(vr 319),(vI 78),vO,(vr 324),(vI 83),vO,(vr 331),(vI 88),vO,(vr 336),(vI 92),vO,(vr 343),(vI 94),vO,(vr 350),(vI 96),vO,(vr 355),(vI 100),vO,(vr 362),(vI 112),vO,(vr 369),(vI 117),vO,(vr 374),(vI 120),vO,(vr 381),(vI 123),vO,(vr 386),(vI 127),vO,(vr 393),(vI 132),vO,(vr 400),(vI 134),vO,(vr 407),(vI 137),vO,(vr 414),(vI 140),vO,(vr 419),(vI 142),vO,(vr 426),(vI 145),vO,(vr 431),(vI 148),vO,(vr 438),(vI 152),vO,(vr 443),(vI 154),vO,(vr 450),(vI 161),vO,(vr 455),(vI 169),vO,(vr 462),(vI 174),vO,(vr 469),(vI 177),vO,(vr 476),(vI 180),vO,(vr 483),(vI 184),vO,(vr 488),(vI 193),vO,(vr 495),(vI 201),vO,(vr 502),(vI 209),vO,(vr 509),(vI 214),vO,(vr 516),(vI 220),vO,(vr 521),(vI 222),vO,(vr 526),(vI 228),vO,(vr 531),(vI 237),vO,(vr 536),(vI 239),vO,(vr 541),(vI 252),vO,(vr 546),(vI 256),vO,(vr 551),(vI 259),vO,(vr 556),(vI 261),vO,(vr 563),(vI 269),vO,(vr 570),(vI 274),vO,(vr 577),(vI 285),vO,(vr 584),(vI 293),vO,(vr 591),(vI 305),vO,(vr 598),(vI 324),vO,(vr 605)]
def zw9:=h11 69 s90
def zxY:=h2 s90 892 s90 893 894 237 (vI 3) (vI 3) 533 (.bool true) 534 .none .none (vr 535) 895 896
def zys:=h12 69 s90 s1 643 536
def zyw:=h11 70 s91
def zyD:=h2 s91 898 s91 899 900 239 (vI 3) (vI 3) 538 (.bool true) 539 .none .none (vr 540) 901 902
def zxr:=h12 70 s91 s1 643 541
def zyE:=h11 71 s92
def zxg:=h2 s92 904 s92 905 906 252 (vI 2) (vI 3) 543 (.bool true) 544 .none .none (vr 545) 907 908
def zxP:=h12 71 s92 s1 643 546
def zxy:=h11 72 s93
def zyo:=h2 s93 910 s93 911 912 256 (vI 1) (vI 3) 548 (.bool true) 549 .none .none (vr 550) 913 914
def zxb:=h12 72 s93 s1 643 551
def zx3:=h11 73 s94
def zxl:=h2 s94 916 s94 917 918 259 (vI 2) (vI 3) 553 (.bool true) 554 .none .none (vr 555) 919 920
def zxt:=h12 73 s94 s1 643 556
def zxk:=h0 #[(vS s30 925),(vS x.s.b.e.b 926),(vS x.s.b.f.a 927),(vS x.s.b.f.c 928)]
def zx1:=h11 74 s95
def zyx:=h2 s95 922 s95 923 924 261 (vI 2) (vI 3) 558 (.bool true) 559 (vr 560) (vr 561) (vr 562) 929 930
def zyy:=h12 74 s95 s1 643 563
def zxv:=h0 #[(vS x.s.c.b.h 937),(vS x.s.c.c.a 938)]
def zx2:=h11 76 s96
def zy0:=h2 s96 934 s96 935 936 269 (vI 1) (vI 3) 565 (.bool true) 566 (vr 567) (vr 568) (vr 569) 939 940
def zxK:=h12 76 s96 s19 932 570
def zyF:Obj:=⟨(vY t25),none,(.seq #[(vS x.s.c.c.b 945),(vS x.s.c.c.c 946),(vS x.s.c.c.a 947),(vS x.s.c.c.d 948),(vS x.s.c.c.e 949),(vS x.s.c.c.f 950),(vS x.s.c.c.g 951)] 0),#[]⟩
def zxF:=h11 77 s97
def zxE:=h2 s97 942 s97 943 944 274 (vI 2) (vI 3) 572 (.bool true) 573 (vr 574) (vr 575) (vr 576) 952 953
def zxc:=h12 77 s97 s19 932 577
def zyj:Obj:=⟨(vY t25),none,(.seq #[(vS x.s.c.c.b 958),(vS x.s.c.c.h 959),(vS x.s.c.d.a 960),(vS x.s.c.d.b 961),(vS x.s.c.d.c 962),(vS x.s.c.d.d 963),(vS x.s.c.d.e 964)] 0),#[]⟩
def zyI:=h11 78 s98
def zx7:=h2 s98 955 s98 956 957 285 (vI 2) (vI 3) 579 (.bool true) 580 (vr 581) (vr 582) (vr 583) 965 966
def zxp:=h12 78 s98 s19 932 584
def zxC:Obj:=⟨(vY t25),none,(.seq #[(vS x.s.c.c.b 971),(vS x.s.c.d.f 972),(vS x.s.c.d.g 973),(vS x.s.c.c.e 974),(vS x.s.c.d.c 975),(vS x.s.c.d.e 976),(vS x.s.c.d.d 977),(vS x.s.c.d.h 978),(vS x.s.c.e.a 979)] 0),#[]⟩
def zwP:=h11 79 s99
def zw3:=h2 s99 968 s99 969 970 293 (vI 2) (vI 3) 586 (.bool true) 587 (vr 588) (vr 589) (vr 590) 980 981
def zxj:=h12 79 s99 s19 932 591
def zwJ:=h0 #[(vS x.s.c.e.b 986),(vS x.s.c.d.a 987)]
def zyz:=h11 80 x.s.c.b.f
def zx8:=h2 x.s.c.b.f 983 x.s.c.b.f 984 985 305 (vI 1) (vI 3) 593 (.bool true) 594 (vr 595) (vr 596) (vr 597) 988 989
def zy1:=h12 80 x.s.c.b.f s19 932 598
def zya:=h0 #[(vS x.s.c.d.b 994),(vS x.s.c.d.f 995),(vS x.s.c.e.c 996),(vS x.s.c.e.d 997)]
def zyK:=h11 81 x.s.c.b.g
def zyu:=h2 x.s.c.b.g 991 x.s.c.b.g 992 993 324 (vI 4) (vI 3) 600 (.bool true) 601 (vr 602) (vr 603) (vr 604) 998 999
def zyv:=h12 81 x.s.c.b.g s19 932 605
def zwW:=h4 #[i176,i1,i2,i3,i4,i5,i6,i7,i8,i9,i16,i22,i28,i34,i40,i46,i52,i58,i64,i70,i76,i82,i88,i94,ztu,zue,zuM,zwE,zwC,zwD,zwH,zwB,zyq,zx6,zx5,zw6,zxS,zx4,zyV,zyQ,zyC,zyU,zyZ,zw7,zyH,zyY,zxL,zxW,i150,i151,i152,i153,i154,i155,i156,i157,i158,i159,i160,i161,i162,i163,i164,i165,i166,i167,i168,i169,i170,i171,i172,i173,i174,i175,i177,i178,i179,i180,i181,i182,i183,i184,i185,i186,i187,i188,i189,i190,i191] 89
def zyX:=h1 #[(vI 2),vO,(vr 20),(vI 4),vO,(vr 33),(vI 6),vO,(vr 45),(vI 8),vO,(vr 57),(vI 10),vO,(vr 69),(vI 12),vO,(vr 81),(vI 14),vO,(vr 93),(vI 16),vO,(vr 105),(vI 18),vO,(vr 117),(vI 20),vO,(vr 129),(vI 22),vO,(vr 141),(vI 24),vO,(vr 153),(vI 26),vO,(vr 165),(vI 28),vO,(vr 177),(vI 30),vO,(vr 189),(vI 32),vO,(vr 201),(vI 37),vO,(vr 220),(vI 42),vO,(vr 239),(vI 47),vO,(vr 258),(vI 53),vO,(vr 277),(vI 61),vO,(vr 284),(vI 68),vO,(vr 291),(vI 70),vO,(vr 298),(vI 72),vO,(vr 305),(vI 74),vO,(vr 312),(vI 76),vO,(vr 319),(vI 78),vO,(vr 324),(vI 83),vO,(vr 331),(vI 88),vO,(vr 336),(vI 92),vO,(vr 343),(vI 94),vO,(vr 350),(vI 96),vO,(vr 355),(vI 100),vO,(vr 362),(vI 112),vO,(vr 369),(vI 117),vO,(vr 374),(vI 120),vO,(vr 381),(vI 123),vO,(vr 386),(vI 127),vO,(vr 393),(vI 132),vO,(vr 400),(vI 134),vO,(vr 407),(vI 137),vO,(vr 414),(vI 140),vO,(vr 419),(vI 142),vO,(vr 426),(vI 145),vO,(vr 431),(vI 148),vO,(vr 438),(vI 152),vO,(vr 443),(vI 154),vO,(vr 450),(vI 161),vO,(vr 455),(vI 169),vO,(vr 462),(vI 174),vO,(vr 469),(vI 177),vO,(vr 476),(vI 180),vO,(vr 483),(vI 184),vO,(vr 488),(vI 193),vO,(vr 495),(vI 201),vO,(vr 502),(vI 209),vO,(vr 509),(vI 214),vO,(vr 516),(vI 220),vO,(vr 521),(vI 222),vO,(vr 526),(vI 228),vO,(vr 531),(vI 237),vO,(vr 536),(vI 239),vO,(vr 541),(vI 252),vO,(vr 546),(vI 256),vO,(vr 551),(vI 259),vO,(vr 556),(vI 261),vO,(vr 563),(vI 269),vO,(vr 570),(vI 274),vO,(vr 577),(vI 285),vO,(vr 584),(vI 293),vO,(vr 591),(vI 305),vO,(vr 598),(vI 324),vO,(vr 605),(vI 333),vO,(vr 612),(vI 342),vO,(vr 619),(vI 346),vO,(vr 624)]
def zwX:=h0 #[(vS x.s.c.d.b 1004),(vS x.s.c.d.f 1005),(vS x.s.c.e.c 1006),(vS x.s.c.e.d 1007),(vS x.s.c.e.b 1008),(vS x.s.c.e.h 1009)]
def zxU:=h11 82 x.s.c.e.e
def zxI:=h2 x.s.c.e.e 1001 x.s.c.e.e 1002 1003 333 (vI 4) (vI 3) 607 (.bool true) 608 (vr 609) (vr 610) (vr 611) 1010 1011
def zyl:=h12 82 x.s.c.e.e s19 932 612
def zy3:=h0 #[(vS x.s.c.c.b 1016),(vS x.s.c.d.g 1017),(vS x.s.c.f.a 1018)]
def zxM:=h11 83 x.s.c.e.f
def zwT:=h2 x.s.c.e.f 1013 x.s.c.e.f 1014 1015 342 (vI 1) (vI 3) 614 (.bool true) 615 (vr 616) (vr 617) (vr 618) 1019 1020
def zxO:=h12 83 x.s.c.e.f s19 932 619
def zye:=h11 84 x.s.c.e.g
def zyO:=h2 x.s.c.e.g 1022 x.s.c.e.g 1023 1024 346 (vI 1) (vI 3) 621 (.bool true) 622 .none .none (vr 623) 1025 1026
def zwS:=h12 84 x.s.c.e.g s19 932 624
def m1145:Heap:=⟨⟨[r2,r3,r4,x.r.a.a.d,r5,r6,r7,r8,r9,r10,r11,zae,zan,zc5,zc8]⟩,⟨[],[],[],0,[],[],false,#[],[],0,false,false,false,0,[2000,10,10],false,0,true,[],[],0,false⟩⟩
def q0:=L zae
def q1:=L zan
def q2:=L zas
def q3:=N zeL (L zfb) z
def q4:=N zan q0 z
def q5:=N zeh (L zfx) z
def q6:=N zez (L zfm) z
def q7:=L zay
def q8:=N zae (L zgk) z
def q9:=N zan q0 (L ze7)
def q10:=N zd2 (L zgh) (L zfu)
def q11:=N zas q1 (L zeX)
def q12:=N zay q1 z
def q13:=N zae (L zfO) (L zgj)
def q14:=N zae (L zh9) z
def q15:=N zas (L zgl) (L zgz)
def q16:=N zay q1 (L zfv)
def q17:=N zd6 (L zf3) (L zg1)
def q18:=N zae q0 z
def q19:=N zae (L zhX) z
def q20:=N zas (L zi8) z
def q21:=N zdQ q20 (L zgA)
def q22:=N zfx (L zjr) z
def q23:=N zan q7 z
def q24:=N zay (L ziP) z
def q25:=N zfO (L zjl) z
def q26:=N zfL (L zjn) z
def q27:=N zd9 q26 (L zgP)
def q28:=N zgk (L zjv) z
def q29:=N zae (L zhM) z
def q30:=N zeL (N zfb q0 z) q29
def q31:=N zfu (L zjP) z
def q32:=N zas (L ziT) z
def q33:=N zay (L ziX) z
def q34:=N zez (N zfm q1 z) q33
def q35:=N zgj (L zjm) z
def q36:=N zgH (L zjt) z
def q37:=N zf3 (L zjz) z
def q38:=N zae (L zh9) q0
def q39:=N zae q0 (L zhU)
def q40:=N zan q39 (N ze7 q0 z)
def q41:=N zgh q2 (L zhK)
def q42:=N zgz (L zjI) z
def q43:=N zan q7 (L zhS)
def q44:=N zas q43 (N zeX q1 z)
def q45:=N zfO (L zjl) (L ziW)
def q46:=N zgP (L zji) z
def q47:=N zg1 (L zjq) z
def q48:=N zae q0 (L ziH)
def q49:=N zae (L zhX) q0
def q50:=N zas (L zi8) (L ziD)
def q51:=N zfx (L zjr) q2
def q52:=N zgl q2 (L zh8)
def q53:=N zay (L ziP) q1
def q54:=N zan q7 (L ziy)
def q55:=N zay q54 (N zfv q1 z)
def q56:=N zfL (L zjn) (L zja)
def q57:=N zgk (L zjv) (L ziL)
def q58:=N zf3 (L zjz) (L zjE)
def q59:=N zae (L zhM) q0
def q60:=N zae q0 (L zjF)
def q61:=N zfu (L zjP) q2
def q62:=N zgA q2 (L zjG)
def q63:=N zas (L ziT) (L zlc)
def q64:=N zan q7 (L zjK)
def q65:=N zay (L ziX) q1
def q66:=N zgj (L zjm) (L zkk)
def q67:=N zgP (L zji) (L zkx)
def q68:=N zgH (L zjt) (L zk6)
def q69:=N zae (N zh9 q0 z) q0
def q70:=N zae (L zlF) z
def q71:=N zeL (N zfb q70 q0) q59
def q72:=N zae q18 (L zhU)
def q73:=N zas (L zow) z
def q74:=N zgh q73 (L zhK)
def q75:=N zjr (L znc) z
def q76:=N zeh (N zfx q75 q2) q63
def q77:=N zgz (L zjI) q2
def q78:=N zan q12 (L zhS)
def q79:=N zan (L zm3) z
def q80:=N zez (N zfm q79 q7) q65
def q81:=N zjl (L zpy) z
def q82:=N zfO q81 (L ziW)
def q83:=N zjv (L zov) z
def q84:=N zgk q83 (L ziL)
def q85:=N zg1 (L zjq) (L zkE)
def q86:=N zae q18 (L ziH)
def q87:=N zae (L zmR) z
def q88:=N zan q72 (N ze7 q87 q0)
def q89:=N zae (N zhX q0 z) q0
def q90:=N zjP (L znv) z
def q91:=N zd2 q74 (N zfu q90 q2)
def q92:=N zas (N zi8 q2 z) (L ziD)
def q93:=N zas (L zpx) z
def q94:=N zgl q93 (L zh8)
def q95:=N zan (L znq) z
def q96:=N zas q78 (N zeX q95 q7)
def q97:=N zay (N ziP q7 z) q1
def q98:=N zan q12 (L ziy)
def q99:=N zjm (L zps) z
def q100:=N zgj q99 (L zkk)
def q101:=N zjn (L zon) z
def q102:=N zfL q101 (L zja)
def q103:=N zjz (L zoP) z
def q104:=N zf3 q103 (L zjE)
def q105:=N zae (L znr) z
def q106:=N zae (N zh9 q0 z) q105
def q107:=N zae (N zhM q0 z) q0
def q108:=N zae q18 (L zjF)
def q109:=N zas (L zpp) z
def q110:=N zgA q109 (L zjG)
def q111:=N zas (N ziT q2 z) (L zlc)
def q112:=N zjI (L zo5) z
def q113:=N zas q94 (N zgz q112 q2)
def q114:=N zan q12 (L zjK)
def q115:=N zay (N ziX q7 z) q1
def q116:=N zan (L zoA) z
def q117:=N zay q98 (N zfv q116 q7)
def q118:=N zji (L zlT) z
def q119:=N zgP q118 (L zkx)
def q120:=N zjt (L zoZ) z
def q121:=N zgH q120 (L zk6)
def q122:=N zjq (L znz) z
def q123:=N zg1 q122 (L zkE)
def q124:=N zae q18 (N zhU q0 z)
def q125:=N zae (L zpg) z
def q126:=N zae (N zhX q0 z) q125
def q127:=N zgh q73 (N zhK q2 z)
def q128:=N ziD (L zpo) z
def q129:=N zas (N zi8 q2 z) q128
def q130:=N zas (L zki) z
def q131:=N zan q12 (N zhS q7 z)
def q132:=N zan (L zlk) z
def q133:=N zay (N ziP q7 z) q132
def q134:=N ziW (L zpv) z
def q135:=N zja (L zoo) z
def q136:=N zd9 (N zfL q101 q135) q119
def q137:=N ziL (L zlC) z
def q138:=N zae q18 (N ziH q0 z)
def q139:=N zae (L zoX) z
def q140:=N zae (N zhM q0 z) q139
def q141:=N zeL (N zfb q70 q18) q140
def q142:=N zas (L zpr) z
def q143:=N zlc (L zpb) z
def q144:=N zeh (N zfx q75 q130) (N zas (N ziT q2 z) q143)
def q145:=N zgl q93 (N zh8 q2 z)
def q146:=N zan (L zmm) z
def q147:=N zez (N zfm q79 q12) (N zay (N ziX q7 z) q146)
def q148:=N zan q12 (N ziy q7 z)
def q149:=N zkk (L zoG) z
def q150:=N zk6 (L zol) z
def q151:=N zae (N zgk q83 q137) (N zgH q120 q150)
def q152:=N zjE (L zoU) z
def q153:=N zae (N zh9 q0 q0) q105
def q154:=N zae q0 (L zpf)
def q155:=N zae q154 (N zhU q0 z)
def q156:=N zae q18 (N zjF q0 z)
def q157:=N zas (L zow) (L zop)
def q158:=N zgh q157 (N zhK q2 z)
def q159:=N zgA q109 (N zjG q2 z)
def q160:=N zas (L zm8) z
def q161:=N zay q1 (L zoV)
def q162:=N zan q161 (N zhS q7 z)
def q163:=N zan q12 (N zjK q7 z)
def q164:=N zjl (L zpy) (L zpd)
def q165:=N zkx (L zo7) z
def q166:=N zkE (L zoK) z
def q167:=N zae q0 (L zo4)
def q168:=N zae q167 (N ziH q0 z)
def q169:=N zae (L zlF) q0
def q170:=N zae (L zmR) (L znd)
def q171:=N zae (N zhX q0 q0) q125
def q172:=N zjP (L znv) (L zos)
def q173:=N zi8 q2 (L zmW)
def q174:=N zjr (L znc) q2
def q175:=N ziT q2 (L znf)
def q176:=N zas (L zpx) (L zm6)
def q177:=N zgl q176 (N zh8 q2 z)
def q178:=N zan (L znq) (L zoS)
def q179:=N ziP q7 (L zo1)
def q180:=N zan (L zm3) q7
def q181:=N ziX q7 (L zo6)
def q182:=N zan (N zay q1 q1) (N ziy q7 z)
def q183:=N zjm (L zps) (L zmu)
def q184:=N zjn (L zon) (L zo3)
def q185:=N zjv (L zov) (L zmL)
def q186:=N zjt (L zoZ) (L zph)
def q187:=N zjz (L zoP) q0
def q188:=N zae (N zh9 q0 q0) (N zae (L znr) q1)
def q189:=N zfb q169 (N zae q0 (L zpw))
def q190:=N zae q154 (N zhU q0 (L zpm))
def q191:=N zae q0 (L zoN)
def q192:=N zgh q157 (N zhK q2 q0)
def q193:=N zas q173 (N ziD (L zpo) (L zor))
def q194:=N zas (L zpp) (L znp)
def q195:=N zfx q174 (N zas (L zki) (L zlL))
def q196:=N zgz (N zjI (L zo5) (L zoQ)) q160
def q197:=N zan q161 (N zhS q7 (L zmX))
def q198:=N zay q179 (N zan (L zlk) (L zmE))
def q199:=N zfm q180 (N zay q1 (L zoC))
def q200:=N zan (L zoA) (L zmh)
def q201:=N zfO q164 (N ziW (L zpv) (L zoq))
def q202:=N zji (L zlT) q0
def q203:=N zgk q185 (N ziL (L zlC) (L zme))
def q204:=N zg1 (N zjq (L znz) q0) q166
def q205:=N ziH q0 (L zoI)
def q206:=N zae (L zoX) (L zq7)
def q207:=N zae q0 (L zrg)
def q208:=N zjF q0 (L zoz)
def q209:=N zas (L zpr) q0
def q210:=N zjG q2 (L zoB)
def q211:=N zlc (L zpb) (L zpF)
def q212:=N zay q1 (L zqe)
def q213:=N zjK q7 (L zoW)
def q214:=N zan (L zmm) q0
def q215:=N ziy q7 (L zpi)
def q216:=N zay q1 (L zqF)
def q217:=N zkk (L zoG) q1
def q218:=N zkx (L zo7) (L zqQ)
def q219:=N zk6 (L zol) (L zpA)
def q220:=N zjE (L zoU) (L zq2)
def q221:=N zae (L zsA) z
def q222:=N zae (L ztl) z
def q223:=N zae (L zrB) z
def q224:=N zae (L zrQ) z
def q225:=N zae (L ztq) z
def q226:=N zae (L zrJ) z
def q227:=N zpg (L zrx) z
def q228:=N zae (L ztT) z
def q229:=N zow (L zs6) z
def q230:=N zas (L zsf) z
def q231:=N zpo (L zrR) z
def q232:=N zpp (L zrK) z
def q233:=N zas (L zsn) z
def q234:=N zpx (L zs2) z
def q235:=N zo5 (L zr8) z
def q236:=N zay (L ztf) z
def q237:=N zay (L zss) z
def q238:=N zan q1 z
def q239:=N zan (L zsp) z
def q240:=N zay (L ztw) z
def q241:=N zan (L ztN) z
def q242:=N zoA (L zs3) z
def q243:=N zpy (L zrz) z
def q244:=N zpv (L zsZ) z
def q245:=N zps (L zth) z
def q246:=N zon (L ztG) z
def q247:=N zoo (L zsG) z
def q248:=N zov (L zsq) z
def q249:=N zoZ (L ztP) z
def q250:=N zoP (L ztg) z
def q251:=N zan (L zr7) z
def q252:=N zo4 (L zsJ) z
def zin:=N zae q1 z
def q254:=N zpw (L zrU) z
def q255:=N zay (L ztE) z
def q256:=N zpm (L zsy) z
def q257:=N zae (L zrX) z
def q258:=N zas (L zsm) z
def q259:=N zoN (L zsr) z
def q260:=N zos (L zsH) z
def q261:=N zae (L zsI) z
def q262:=N zor (L zs0) z
def q263:=N zas (L ztB) z
def q264:=N zoQ (L zsh) z
def q265:=N zoS (L ztF) z
def q266:=N zqe (L ztA) z
def q267:=N zo1 (L ztL) z
def q268:=N zas (L zsK) z
def q269:=N zay (L zr3) z
def q270:=N zoC (L ztI) z
def q271:=N zo6 (L ztQ) z
def q272:=N zan (L zrI) z
def q273:=N zoq (L zs5) z
def q274:=N zan (L zwn) z
def q275:=N zo3 (L zrO) z
def q276:=N zay (L zsc) z
def q277:=N zph (L zty) z
def q278:=N zq2 (L zr5) z
def q279:=N zae (L zr0) z
def q280:=N zae (L zsM) (L zvB)
def q281:=N znr q1 (L zuV)
def q282:=N zae q0 (L zvR)
def q283:=N zae (L zrB) (L zu2)
def q284:=N zae q0 (L zv0)
def q285:=N zoX (L zrT) (L zwq)
def q286:=N zpf (L ztx) (L zuv)
def q287:=N zae (L ztq) (L zwe)
def q288:=N zae q0 (L zvu)
def q289:=N zpg (L zrx) (L zvd)
def q290:=N zae (L ztT) (L zwm)
def q291:=N zae q1 (L zuq)
def q292:=N zop q0 (L zvD)
def q293:=N zpr (L zrZ) q0
def q294:=N zpo (L zrR) (L zu0)
def q295:=N zpp (L zrK) q0
def q296:=N zas (L zsB) q1
def q297:=N zas (L zsn) q0
def q298:=N zpb (L ztt) (L zwr)
def q299:=N zo5 (L zr8) (L zv5)
def q300:=N zoV (L zrP) q0
def q301:=N zay (L ztf) q0
def q302:=N zan (L zr4) (L zvO)
def q303:=N zan q1 (L zvK)
def q304:=N zay (L zsw) q0
def q305:=N zan (L zsp) (L zun)
def q306:=N zoA (L zs3) q0
def q307:=N zan (L zrN) (L zvt)
def q308:=N zpd q1 (L zv8)
def q309:=N zpv (L zsZ) (L zuP)
def q310:=N zoG (L zsQ) q1
def q311:=N zoo (L zsG) (L zvJ)
def q312:=N zo7 q0 (L zwi)
def q313:=N zoZ (L ztP) (L zwj)
def q314:=N zol q0 (L zvh)
def q315:=N zoU (L zto) (L zvC)
def q316:=N znz q0 (L zu3)
def q317:=N zoK (L zsT) q1
def q318:=N zae (N zsA q0 z) q0
def q319:=N zan (L zr7) q1
def q320:=N zae (N ztl (L zxs) z) (L zvI)
def q321:=N zoI q0 (L zvi)
def q322:=N zpw (L zrU) (L zvr)
def q323:=N zq7 (L zuL) (L zyc)
def q324:=N zae (N zrQ (L zxq) z) (L zwk)
def q325:=N zpm (L zsy) (L zvk)
def q326:=N zmR (N zae (L zym) z) q1
def q327:=N zrg q0 (L zw2)
def q328:=N zae (N zrJ q0 z) q0
def q329:=N zas (L zsm) q1
def q330:=N zow (N zs6 (L zx9) z) (L zvX)
def zuF:=N zae q1 q0
def q332:=N znv q238 (L zv1)
def q333:=N zae (L zsI) q0
def q334:=N zas (N zsf (L zyh) z) (L zvP)
def q335:=N zor (L zs0) (L zum)
def q336:=N znc (N zan (L zxJ) z) q1
def q337:=N zpF (L zuu) (L zxB)
def q338:=N zpx (N zs2 (L zyr) z) (L zu6)
def q339:=N zay (L zuN) (L zxN)
def q340:=N zmX q0 (L zvf)
def q341:=N znq q18 (L zuW)
def q342:=N zqe (L ztA) (L zuB)
def q343:=N zay (N zss (L zxz) z) (L zwb)
def q344:=N zmE q0 (L zuo)
def q345:=N zm3 (N zae (L zw0) z) q0
def q346:=N zoC (L ztI) (L zvL)
def q347:=N zay (N ztw (L zyM) z) (L zwz)
def q348:=N zan (N ztN q1 z) q1
def q349:=N zpi q0 (L zvV)
def q350:=N zqF (L zwl) (L zwK)
def q351:=N zpy (N zrz q0 z) (L zwu)
def q352:=N zoq (L zs5) (L zvc)
def q353:=N zps (N zth (L zyA) z) q0
def q354:=N zan (L zwn) q1
def q355:=N zon (N ztG (L zxQ) z) (L zv3)
def q356:=N zay (L zsc) q0
def q357:=N zqQ (L zu8) (L zxd)
def q358:=N zov (N zsq q0 z) (L zvp)
def q359:=N zpA (L zuZ) (L zxD)
def q360:=N zoP (N ztg (L zyk) z) q0
def q361:=N zq2 (L zr5) (L zvx)
def q362:=N zas (L zvM) (L zxV)
def q363:=N zh9 q318 (N zae (N zsM q0 z) (L zvB))
def q364:=N znr q4 (L zuV)
def q365:=N zae q320 (N zo4 (N zsJ (L zw3) z) (L zwf))
def q366:=N zae zin (L zvR)
def q367:=N zae (N zlF zin q0) (N zae (N zan (L zyI) z) (L zuJ))
def q368:=N zae (N zrB (L zyo) z) (L zu2)
def q369:=N zae (N zhM (N zae (N zae (L zw9) z) (L zv0)) (N zay (N ztE (L zy1) z) q0)) (N zae (N zoX (N zrT (L zxv) z) (L zwq)) q323)
def q370:=N zae q324 (N zpf (N ztx q0 z) (L zuv))
def q371:=N zae (N ztq (L zxP) z) (L zwe)
def q372:=N ze7 (N zae q326 (N znd (N zan (L zwJ) z) q0)) (N zae (N zae (N zae (L zyx) z) (L zvu)) q327)
def q373:=N zhX q328 (N zae (N zrX q1 z) (L zvU))
def q374:=N zpg (N zrx (L zx3) z) (L zvd)
def q375:=N zae (N zae (N zae (N ztT q1 z) (L zwm)) (N zoN (N zsr q0 z) (L zvg))) (N zjF (N zae (N zan (L zxK) z) (L zuq)) (N zoz q0 q0))
def q376:=N zas q330 (N zop (N zae (L zxE) z) (L zvD))
def q377:=N zas (N zae (L zyE) z) q1
def q378:=N zjP q332 (N zos (N zsH q0 z) q1)
def q379:=N zpr (N zrZ q0 z) q0
def q380:=N zi8 q334 (N zmW (N zae (L zxp) z) q0)
def q381:=N zpo (N zrR q0 z) (L zu0)
def q382:=N zgA (N zas (N zpp (N zrK (L zys) z) q0) (N znp zin (L zuX))) (N zjG (N zas (N zsB (L zx2) z) q1) (N zoB q1 q1))
def q383:=N zjr q336 (N zas (N ztB (L zyj) z) q1)
def q384:=N zas (N ziT (N zas (N zsn q0 z) q0) (N znf (N zae (L zyz) z) (L zvl))) (N zlc (N zpb (N ztt q0 z) (L zwr)) q337)
def q385:=N zas q338 (N zm6 q18 (L zvG))
def q386:=N zas (N zan (L zxt) z) q1
def q387:=N zgz (N zjI (N zo5 (N zr8 (L zyD) z) (L zv5)) (N zoQ (N zsh (L zyu) z) (L zvT))) (N zas (N zm8 zin q0) q339)
def q388:=N zay (N zan zin q1) (N zoV (N zrP (L zxF) z) q0)
def q389:=N zay (N ztf q1 z) q0
def q390:=N zan q341 (N zoS (N ztF (L zxj) z) q0)
def q391:=N zan (N zr4 (L zxk) z) (L zvO)
def q392:=N ziP q343 (N zo1 (N ztL (L zx7) z) (L zvs))
def q393:=N zlk (N zae (L zxb) z) q0
def q394:=N zan (N zay (N zan (N zan (L zxY) z) (L zvK)) (N zas (N zsK q0 z) q1)) (N zjK (N zay (N zsw q0 z) q0) (N zoW q0 q0))
def q395:=N zan q345 (N zay (N zr3 q1 z) q0)
def q396:=N zan (N zsp q0 z) (L zun)
def q397:=N zay (N ziX q347 (N zo6 (N ztQ q0 z) (L zwc))) (N zan (N zmm (N zan (L zyy) z) q0) zuF)
def q398:=N zay q348 (N zan (N zrI (L zxC) z) q0)
def q399:=N zay (N zae (L zxl) z) q0
def q400:=N zfv (N zan (N zoA (N zs3 (L zyw) z) q0) (N zmh (N zae (L zyK) z) (L zvj))) (N zay (N zan (N zrN q0 z) (L zvt)) q350)
def q401:=N zjl q351 (N zpd (N zan (L zxc) z) (L zv8))
def q402:=N zpv (N zsZ (L zxg) z) (L zuP)
def q403:=N zgj (N zjm q353 (N zmu zin (L zuU))) (N zkk (N zoG (N zsQ (L zx1) z) q1) q354)
def q404:=N zjn q355 (N zo3 (N zrO q0 z) q1)
def q405:=N zoo (N zsG q1 z) (L zvJ)
def q406:=N zgP (N zji (N zlT q18 q1) (N zae (N zan (L zya) z) q0)) (N zkx (N zo7 (N zae (L zy0) z) (L zwi)) q357)
def q407:=N zjv q358 (N zmL q18 (L zu4))
def q408:=N zlC (N zan (L zxy) z) q1
def q409:=N zgH (N zjt (N zoZ (N ztP q1 z) (L zwj)) (N zph (N zty (L zx8) z) (L zup))) (N zk6 (N zol zin (L zvh)) q359)
def q410:=N zjz q360 (N zae (N zan (L zwP) z) (L zvn))
def q411:=N zoU (N zto q0 z) (L zvC)
def q412:=N zg1 (N zjq (N znz (N zae (L zxr) z) (L zu3)) (N zae (N zr0 (L zyv) z) q0)) (N zkE (N zoK (N zsT (L zyF) z) q1) q362)
def m1146:=N r2 (N r3 (N x.r.a.a.d (L r8) q0) (N r6 (L r10) (L zc5))) (N r4 (N r5 (L r9) q1) (N r7 (L r11) (L zc8)))
def m1162:=N r2 (N r3 (N b1148 (N r8 (L zdy) (L zeL)) (N zae q1 (L zds))) (N r6 (N r10 (L zd2) (L zdQ)) (N zc5 (L zeh) z))) (N r4 (N r5 (N r9 q2 (L b1159)) (N b1149 (L zez) z)) (N r7 (N r11 q0 (L zd9)) (N zc8 q0 z)))
def m1177:=N r2 (N r3 (N b1163 (N r8 (N zdy q0 z) q3) (N zae q4 (L zds))) (N r6 (N r10 (N zd2 (L zgh) z) (L zdQ)) (N zc5 q5 q2))) (N r4 (N r5 (N r9 (N zas q1 z) (L b1165)) (N b1164 q6 q7)) (N r7 (N r11 (N zae (L zfO) z) (L zd9)) (N zc8 q8 (L zd6))))
def m1192:=N r2 (N r3 (N b1178 (N r8 (N zdy q0 q0) q3) (N zae q9 (N zds q0 z))) (N r6 (N r10 q10 (N zdQ q2 z)) (N zc5 q5 (N zas (L zgl) z)))) (N r4 (N r5 (N r9 q11 (N b1180 q7 z)) (N b1179 q6 q12)) (N r7 (N r11 q13 (N zd9 (L zfL) z)) (N zc8 q8 (N zd6 (L zf3) z))))
def m1207:=N r2 (N r3 (N b1193 (N r8 (N zdy q14 q0) (N zeL (L zfb) q0)) (N zae q9 (N zds q0 q0))) (N r6 (N r10 q10 (N zdQ q2 (L zgA))) (N zc5 (N zeh (L zfx) q2) q15))) (N r4 (N r5 (N r9 q11 (N b1195 q7 q1)) (N b1194 (N zez (L zfm) q7) q16)) (N r7 (N r11 q13 (N zd9 (L zfL) (L zgP))) (N zc8 (N zae (L zgk) (L zgH)) q17)))
def m1222:=N r2 (N r3 (N b1208 (N r8 (N zdy q14 q0) (N zeL (N zfb q0 z) q0)) (N zae (N zan q18 (L ze7)) (N zds q19 q0))) (N r6 (N r10 (N zd2 (N zgh q2 z) (L zfu)) q21) (N zc5 (N zeh q22 q2) q15))) (N r4 (N r5 (N r9 (N zas q23 (L zeX)) (N b1210 q24 q1)) (N b1209 (N zez (N zfm q1 z) q7) q16)) (N r7 (N r11 (N zae q25 (L zgj)) q27) (N zc8 (N zae q28 (L zgH)) q17)))
def m1237:=N r2 (N r3 (N b1223 (N r8 (N zdy q14 q18) q30) (N zae (N zan q18 (N ze7 q0 z)) (N zds q19 q0))) (N r6 (N r10 (N zd2 (N zgh q2 z) q31) q21) (N zc5 (N zeh q22 q32) (N zas (N zgl q2 z) (L zgz))))) (N r4 (N r5 (N r9 (N zas q23 (N zeX q1 z)) (N b1225 q24 q1)) (N b1224 q34 (N zay q23 (L zfv)))) (N r7 (N r11 (N zae q25 q35) q27) (N zc8 (N zae q28 q36) (N zd6 q37 (L zg1)))))
def m1252:=N r2 (N r3 (N b1238 (N r8 (N zdy q38 q18) q30) (N zae q40 (N zds q19 q18))) (N r6 (N r10 (N zd2 q41 q31) (N zdQ q20 (N zgA q2 z))) (N zc5 (N zeh q22 q32) (N zas (N zgl q2 z) q42)))) (N r4 (N r5 (N r9 q44 (N b1240 q24 q23)) (N b1239 q34 (N zay q23 (N zfv q1 z)))) (N r7 (N r11 (N zae q45 q35) (N zd9 q26 q46)) (N zc8 (N zae q28 q36) (N zd6 q37 q47))))
def m1267:=N r2 (N r3 (N b1253 (N r8 (N zdy q38 q48) (N zeL (N zfb q0 q0) q29)) (N zae q40 (N zds q49 q18))) (N r6 (N r10 (N zd2 q41 q31) (N zdQ q50 (N zgA q2 z))) (N zc5 (N zeh q51 q32) (N zas q52 q42)))) (N r4 (N r5 (N r9 q44 (N b1255 q53 q23)) (N b1254 (N zez (N zfm q1 q7) q33) q55)) (N r7 (N r11 (N zae q45 q35) (N zd9 q56 q46)) (N zc8 (N zae q57 q36) (N zd6 q58 q47))))
def m1282:=N r2 (N r3 (N b1268 (N r8 (N zdy q38 q48) (N zeL (N zfb q0 q0) q59)) (N zae (N zan q39 (N ze7 q0 q0)) (N zds q49 q60))) (N r6 (N r10 (N zd2 q41 q61) (N zdQ q50 q62)) (N zc5 (N zeh q51 q63) (N zas q52 q42)))) (N r4 (N r5 (N r9 (N zas q43 (N zeX q1 q7)) (N b1270 q53 q64)) (N b1269 (N zez (N zfm q1 q7) q65) q55)) (N r7 (N r11 (N zae q45 q66) (N zd9 q56 q67)) (N zc8 (N zae q57 q68) (N zd6 q58 q47))))
def m1297:=N r2 (N r3 (N b1283 (N r8 (N zdy q69 q48) q71) (N zae (N zan q72 (N ze7 q0 q0)) (N zds q49 q60))) (N r6 (N r10 (N zd2 q74 q61) (N zdQ q50 q62)) (N zc5 q76 (N zas q52 q77)))) (N r4 (N r5 (N r9 (N zas q78 (N zeX q1 q7)) (N b1285 q53 q64)) (N b1284 q80 (N zay q54 (N zfv q1 q7)))) (N r7 (N r11 (N zae q82 q66) (N zd9 q56 q67)) (N zc8 (N zae q84 q68) (N zd6 q58 q85))))
def m1312:=N r2 (N r3 (N b1298 (N r8 (N zdy q69 q86) q71) (N zae q88 (N zds q89 q60))) (N r6 (N r10 q91 (N zdQ q92 q62)) (N zc5 q76 (N zas q94 q77)))) (N r4 (N r5 (N r9 q96 (N b1300 q97 q64)) (N b1299 q80 (N zay q98 (N zfv q1 q7)))) (N r7 (N r11 (N zae q82 q100) (N zd9 q102 q67)) (N zc8 (N zae q84 q68) (N zd6 q104 q85))))
def m1327:=N r2 (N r3 (N b1313 (N r8 (N zdy q106 q86) (N zeL (N zfb q70 q0) q107)) (N zae q88 (N zds q89 q108))) (N r6 (N r10 q91 (N zdQ q92 q110)) (N zc5 (N zeh (N zfx q75 q2) q111) q113))) (N r4 (N r5 (N r9 q96 (N b1315 q97 q114)) (N b1314 (N zez (N zfm q79 q7) q115) q117)) (N r7 (N r11 (N zae q82 q100) (N zd9 q102 q119)) (N zc8 (N zae q84 q121) (N zd6 q104 q123))))
def m1342:=N r2 (N r3 (N b1328 (N r8 (N zdy q106 q86) (N zeL (N zfb q70 q18) q107)) (N zae (N zan q124 (N ze7 q87 q0)) (N zds q126 q108))) (N r6 (N r10 (N zd2 q127 (N zfu q90 q2)) (N zdQ q129 q110)) (N zc5 (N zeh (N zfx q75 q130) q111) q113))) (N r4 (N r5 (N r9 (N zas q131 (N zeX q95 q7)) (N b1330 q133 q114)) (N b1329 (N zez (N zfm q79 q12) q115) q117)) (N r7 (N r11 (N zae (N zfO q81 q134) q100) q136) (N zc8 (N zae (N zgk q83 q137) q121) (N zd6 q104 q123))))
def m1357:=N r2 (N r3 (N b1343 (N r8 (N zdy q106 q138) q141) (N zae (N zan q124 (N ze7 q87 q18)) (N zds q126 q108))) (N r6 (N r10 (N zd2 q127 (N zfu q90 q142)) (N zdQ q129 q110)) (N zc5 q144 (N zas q145 (N zgz q112 q2))))) (N r4 (N r5 (N r9 (N zas q131 (N zeX q95 q12)) (N b1345 q133 q114)) (N b1344 q147 (N zay q148 (N zfv q116 q7)))) (N r7 (N r11 (N zae (N zfO q81 q134) (N zgj q99 q149)) q136) (N zc8 q151 (N zd6 (N zf3 q103 q152) q123))))
def m1372:=N r2 (N r3 (N b1358 (N r8 (N zdy q153 q138) q141) (N zae (N zan q155 (N ze7 q87 q18)) (N zds q126 q156))) (N r6 (N r10 (N zd2 q158 (N zfu q90 q142)) (N zdQ q129 q159)) (N zc5 q144 (N zas q145 (N zgz q112 q160))))) (N r4 (N r5 (N r9 (N zas q162 (N zeX q95 q12)) (N b1360 q133 q163)) (N b1359 q147 (N zay q148 (N zfv q116 q12)))) (N r7 (N r11 (N zae (N zfO q164 q134) (N zgj q99 q149)) (N zd9 (N zfL q101 q135) (N zgP q118 q165))) (N zc8 q151 (N zd6 (N zf3 q103 q152) (N zg1 q122 q166)))))
def m1394:=N r2 (N r3 (N b1373 (N r8 (N zdy q153 q168) (N zeL (N zfb q169 q18) q140)) (N zae (N zan q155 (N ze7 q170 q18)) (N zds q171 q156))) (N r6 (N r10 (N zd2 q158 (N zfu q172 q142)) (N zdQ (N zas q173 q128) q159)) (N zc5 (N zeh (N zfx q174 q130) (N zas q175 q143)) (N zas q177 (N zgz q112 q160))))) (N r4 (N r5 (N r9 (N zas q162 (N zeX q178 q12)) (N b1375 (N zay q179 q132) q163)) (N b1374 (N zez (N zfm q180 q12) (N zay q181 q146)) (N zay q182 (N zfv q116 q12)))) (N r7 (N r11 (N zae (N zfO q164 q134) (N zgj q183 q149)) (N zd9 (N zfL q184 q135) (N zgP q118 q165))) (N zc8 (N zae (N zgk q185 q137) (N zgH q186 q150)) (N zd6 (N zf3 q187 q152) (N zg1 q122 q166)))))
def m1416:=N r2 (N r3 (N b1395 (N r8 (N zdy q188 q168) (N zeL q189 (N zae (N zhM q0 q7) q139))) (N zae (N zan q190 (N ze7 q170 q18)) (N zds q171 (N zae q191 (N zjF q0 z))))) (N r6 (N r10 (N zd2 q192 (N zfu q172 q142)) (N zdQ q193 (N zgA q194 (N zjG q2 z)))) (N zc5 (N zeh q195 (N zas q175 q143)) (N zas q177 q196)))) (N r4 (N r5 (N r9 (N zas q197 (N zeX q178 q12)) (N b1397 q198 (N zan (N zay q1 q2) (N zjK q7 z)))) (N b1396 (N zez q199 (N zay q181 q146)) (N zay q182 (N zfv q200 q12)))) (N r7 (N r11 (N zae q201 (N zgj q183 q149)) (N zd9 (N zfL q184 q135) (N zgP q202 q165))) (N zc8 (N zae q203 (N zgH q186 q150)) (N zd6 (N zf3 q187 q152) q204))))
def m1438:=N r2 (N r3 (N b1417 (N r8 (N zdy q188 (N zae q167 q205)) (N zeL q189 (N zae (N zhM q0 q7) q206))) (N zae (N zan q190 (N ze7 q170 q207)) (N zds (N zae (N zhX q0 q0) (N zae (L zpg) q2)) (N zae q191 q208)))) (N r6 (N r10 (N zd2 q192 (N zfu q172 q209)) (N zdQ q193 (N zgA q194 q210))) (N zc5 (N zeh q195 (N zas q175 q211)) (N zas (N zgl q176 (N zh8 q2 q0)) q196)))) (N r4 (N r5 (N r9 (N zas q197 (N zeX q178 q212)) (N b1419 q198 (N zan (N zay q1 q2) q213))) (N b1418 (N zez q199 (N zay q181 q214)) (N zay (N zan (N zay q1 q1) q215) (N zfv q200 q216)))) (N r7 (N r11 (N zae q201 (N zgj q183 q217)) (N zd9 (N zfL q184 (N zja (L zoo) q7)) (N zgP q202 q218))) (N zc8 (N zae q203 (N zgH q186 q219)) (N zd6 (N zf3 q187 q220) q204))))
def m1488:=N r2 (N r3 (N b1439 (N r8 (N zdy (N zae (N zh9 q221 q0) (N zae (N znr q1 z) q1)) (N zae (N zae q222 (L zo4)) q205)) (N zeL (N zfb (N zae (N zlF q0 z) q0) (N zae q223 (L zpw))) (N zae (N zhM q18 q7) q206))) (N zae (N zan (N zae (N zae q224 (L zpf)) (N zhU q225 (L zpm))) (N ze7 (N zae (N zmR q0 z) (L znd)) q207)) (N zds (N zae (N zhX q226 q0) (N zae q227 q2)) (N zae (N zae q228 (L zoN)) q208)))) (N r6 (N r10 (N zd2 (N zgh (N zas q229 (L zop)) (N zhK (N zas q0 z) q0)) (N zfu (N zjP (N znv q1 z) (L zos)) q209)) (N zdQ (N zas (N zi8 q230 (L zmW)) (N ziD q231 (L zor))) (N zgA (N zas q232 (L znp)) q210))) (N zc5 (N zeh (N zfx (N zjr (N znc q1 z) q2) (N zas (N zki q0 z) (L zlL))) (N zas (N ziT q233 (L znf)) q211)) (N zas (N zgl (N zas q234 (L zm6)) (N zh8 q2 q0)) (N zgz (N zjI q235 (L zoQ)) (N zas (L zm8) q7)))))) (N r4 (N r5 (N r9 (N zas (N zan (N zay q4 (L zoV)) (N zhS q236 (L zmX))) (N zeX (N zan (N znq q0 z) (L zoS)) q212)) (N zmv (N zay (N ziP q237 (L zo1)) (N zan (N zlk q0 z) (L zmE))) (N zan (N zay q238 q2) q213))) (N b1440 (N zez (N zfm (N zan (N zm3 q0 z) q7) (N zay q239 (L zoC))) (N zay (N ziX q240 (L zo6)) q214)) (N zay (N zan (N zay q241 q1) q215) (N zfv (N zan q242 (L zmh)) q216)))) (N r7 (N r11 (N zae (N zfO (N zjl q243 (L zpd)) (N ziW q244 (L zoq))) (N zgj (N zjm q245 (L zmu)) q217)) (N zd9 (N zfL (N zjn q246 (L zo3)) (N zja q247 q7)) (N zgP (N zji (N zlT q0 z) q0) q218))) (N zc8 (N zae (N zgk (N zjv q248 (L zmL)) (N ziL (N zlC q1 z) (L zme))) (N zgH (N zjt q249 (L zph)) q219)) (N zd6 (N zf3 (N zjz q250 q0) q220) (N zg1 (N zjq (N znz q0 z) q0) (N zkE (L zoK) q2))))))
def m1561:=N r2 (N r3 (N b1489 (N r8 (N zdy (N zae (N zh9 q221 (N zae (L zsM) z)) (N zae (N znr q1 z) q251)) (N zae (N zae q222 q252) (N ziH q18 (N zoI q0 z)))) (N zeL (N zfb (N zae (N zlF q0 z) zin) (N zae q223 q254)) (N zae (N zhM q18 q255) (N zae (N zoX (L zrT) z) (L zq7))))) (N zae (N zan (N zae (N zae q224 (N zpf (L ztx) z)) (N zhU q225 q256)) (N ze7 (N zae (N zmR q0 z) (N znd q1 z)) (N zae q18 (L zrg)))) (N zds (N zae (N zhX q226 q257) (N zae q227 q258)) (N zae (N zae q228 q259) (N zjF zin (L zoz)))))) (N r6 (N r10 (N zd2 (N zgh (N zas q229 (N zop q0 z)) (N zhK (N zas q0 z) zin)) (N zfu (N zjP (N znv q1 z) q260) (N zas (N zpr (L zrZ) z) q261))) (N zdQ (N zas (N zi8 q230 (N zmW q0 z)) (N ziD q231 q262)) (N zgA (N zas q232 (N znp q0 z)) (N zjG (N zas (L zsB) z) (L zoB))))) (N zc5 (N zeh (N zfx (N zjr (N znc q1 z) q263) (N zas (N zki q0 z) (N zlL q0 z))) (N zas (N ziT q233 (N znf q0 z)) (N zlc (N zpb (L ztt) z) (L zpF)))) (N zas (N zgl (N zas q234 (N zm6 q0 z)) (N zh8 (N zas q1 z) zin)) (N zgz (N zjI q235 q264) (N zas (N zm8 q0 z) q7)))))) (N r4 (N r5 (N r9 (N zas (N zan (N zay q4 (N zoV (L zrP) z)) (N zhS q236 (N zmX q0 z))) (N zeX (N zan (N znq q0 z) q265) (N zay (N zan (L zr4) z) q266))) (N zmv (N zay (N ziP q237 q267) (N zan (N zlk q0 z) (N zmE q0 z))) (N zan (N zay q238 q268) (N zjK (N zay (L zsw) z) (L zoW))))) (N b1490 (N zez (N zfm (N zan (N zm3 q0 z) q269) (N zay q239 q270)) (N zay (N ziX q240 q271) (N zan (N zmm q1 z) q0))) (N zay (N zan (N zay q241 q272) (N ziy (N zay q0 z) (N zpi q0 z))) (N zfv (N zan q242 (N zmh q0 z)) (N zay (N zan (L zrN) z) (L zqF)))))) (N r7 (N r11 (N zae (N zfO (N zjl q243 (N zpd q1 z)) (N ziW q244 q273)) (N zgj (N zjm q245 (N zmu q0 z)) (N zkk (N zoG (L zsQ) z) q274))) (N zd9 (N zfL (N zjn q246 q275) (N zja q247 q276)) (N zgP (N zji (N zlT q0 z) zin) (N zkx (N zo7 q0 z) (L zqQ))))) (N zc8 (N zae (N zgk (N zjv q248 (N zmL q0 z)) (N ziL (N zlC q1 z) (N zme q1 z))) (N zgH (N zjt q249 q277) (N zk6 (N zol q0 z) (L zpA)))) (N zd6 (N zf3 (N zjz q250 zin) (N zjE (N zoU (L zto) z) q278)) (N zg1 (N zjq (N znz q0 z) q279) (N zkE (N zoK (L zsT) z) q2))))))
def m1644:=N r2 (N r3 (N b1562 (N r8 (N zdy (N zae (N zh9 (N zae (L zsA) q0) q280) (N zae q281 q251)) (N zae (N zae (N zae (L ztl) (L zvI)) q252) (N ziH q282 (N zoI q0 z)))) (N zeL (N zfb (N zae (N zlF q0 q0) zin) (N zae q283 q254)) (N zae (N zhM q284 q255) (N zae q285 (N zq7 (L zuL) z))))) (N zae (N zan (N zae (N zae (N zae (L zrQ) (L zwk)) q286) (N zhU q287 q256)) (N ze7 (N zae (N zmR q0 q1) (N znd q1 z)) (N zae q288 (N zrg q0 z)))) (N zds (N zae (N zhX (N zae (L zrJ) q0) q257) (N zae q289 q258)) (N zae (N zae q290 q259) (N zjF q291 (N zoz q0 z)))))) (N r6 (N r10 (N zd2 (N zgh (N zas (N zow (L zs6) (L zvX)) q292) (N zhK (N zas q0 q1) zin)) (N zfu (N zjP (N znv q1 (L zv1)) q260) (N zas q293 q261))) (N zdQ (N zas (N zi8 (N zas (L zsf) (L zvP)) (N zmW q0 z)) (N ziD q294 q262)) (N zgA (N zas q295 (N znp q0 z)) (N zjG q296 (N zoB q1 z))))) (N zc5 (N zeh (N zfx (N zjr (N znc q1 q1) q263) (N zas (N zki q0 q0) (N zlL q0 z))) (N zas (N ziT q297 (N znf q0 z)) (N zlc q298 (N zpF (L zuu) z)))) (N zas (N zgl (N zas (N zpx (L zs2) (L zu6)) (N zm6 q0 z)) (N zh8 (N zas q1 q1) zin)) (N zgz (N zjI q299 q264) (N zas (N zm8 q0 q0) (N zay (L zuN) z))))))) (N r4 (N r5 (N r9 (N zas (N zan (N zay (N zan q0 q1) q300) (N zhS q301 (N zmX q0 z))) (N zeX (N zan (N znq q0 (L zuW)) q265) (N zay q302 q266))) (N zmv (N zay (N ziP (N zay (L zss) (L zwb)) q267) (N zan (N zlk q0 q0) (N zmE q0 z))) (N zan (N zay q303 q268) (N zjK q304 (N zoW q0 z))))) (N b1563 (N zez (N zfm (N zan (N zm3 q0 q0) q269) (N zay q305 q270)) (N zay (N ziX (N zay (L ztw) (L zwz)) q271) (N zan (N zmm q1 q0) zin))) (N zay (N zan (N zay (N zan (L ztN) q1) q272) (N ziy (N zay q0 q0) (N zpi q0 z))) (N zfv (N zan q306 (N zmh q0 z)) (N zay q307 (N zqF (L zwl) z)))))) (N r7 (N r11 (N zae (N zfO (N zjl (N zpy (L zrz) (L zwu)) q308) (N ziW q309 q273)) (N zgj (N zjm (N zps (L zth) q0) (N zmu q0 z)) (N zkk q310 q274))) (N zd9 (N zfL (N zjn (N zon (L ztG) (L zv3)) q275) (N zja q311 q276)) (N zgP (N zji (N zlT q0 q1) zin) (N zkx q312 (N zqQ (L zu8) z))))) (N zc8 (N zae (N zgk (N zjv (N zov (L zsq) (L zvp)) (N zmL q0 z)) (N ziL (N zlC q1 q1) (N zme q1 z))) (N zgH (N zjt q313 q277) (N zk6 q314 (N zpA (L zuZ) z)))) (N zd6 (N zf3 (N zjz (N zoP (L ztg) q0) zin) (N zjE q315 q278)) (N zg1 (N zjq q316 q279) (N zkE q317 (N zas (L zvM) z)))))))
def m1727:=N r2 (N r3 (N b1645 (N r8 (N zdy (N zae (N zh9 q318 q280) (N zae q281 q319)) (N zae (N zae q320 (N zo4 (L zsJ) (L zwf))) (N ziH q282 q321))) (N zeL (N zfb (N zae (N zlF zin q0) (N zae q1 (L zuJ))) (N zae q283 q322)) (N zae (N zhM q284 (N zay (L ztE) q0)) (N zae q285 q323)))) (N zae (N zan (N zae (N zae q324 q286) (N zhU q287 q325)) (N ze7 (N zae q326 (N znd q1 q0)) (N zae q288 q327))) (N zds (N zae (N zhX q328 (N zae (L zrX) (L zvU))) (N zae q289 q329)) (N zae (N zae q290 (N zoN (L zsr) (L zvg))) (N zjF q291 (N zoz q0 q0)))))) (N r6 (N r10 (N zd2 (N zgh (N zas q330 q292) (N zhK (N zas q0 q1) zuF)) (N zfu (N zjP q332 (N zos (L zsH) q1)) (N zas q293 q333))) (N zdQ (N zas (N zi8 q334 (N zmW q0 q0)) (N ziD q294 q335)) (N zgA (N zas q295 (N znp q0 (L zuX))) (N zjG q296 (N zoB q1 q1))))) (N zc5 (N zeh (N zfx (N zjr q336 (N zas (L ztB) q1)) (N zas (N zki q0 q0) (N zlL q0 q0))) (N zas (N ziT q297 (N znf q0 (L zvl))) (N zlc q298 q337))) (N zas (N zgl (N zas q338 (N zm6 q0 (L zvG))) (N zh8 (N zas q1 q1) zuF)) (N zgz (N zjI q299 (N zoQ (L zsh) (L zvT))) (N zas (N zm8 q0 q0) q339)))))) (N r4 (N r5 (N r9 (N zas (N zan (N zay (N zan zin q1) q300) (N zhS q301 q340)) (N zeX (N zan q341 (N zoS (L ztF) q0)) (N zay q302 q342))) (N zmv (N zay (N ziP q343 (N zo1 (L ztL) (L zvs))) (N zan (N zlk q0 q0) q344)) (N zan (N zay q303 (N zas (L zsK) q1)) (N zjK q304 (N zoW q0 q0))))) (N b1646 (N zez (N zfm (N zan q345 (N zay (L zr3) q0)) (N zay q305 q346)) (N zay (N ziX q347 (N zo6 (L ztQ) (L zwc))) (N zan (N zmm q1 q0) zuF))) (N zay (N zan (N zay q348 (N zan (L zrI) q0)) (N ziy (N zay q0 q0) q349)) (N zfv (N zan q306 (N zmh q0 (L zvj))) (N zay q307 q350))))) (N r7 (N r11 (N zae (N zfO (N zjl q351 q308) (N ziW q309 q352)) (N zgj (N zjm q353 (N zmu q0 (L zuU))) (N zkk q310 q354))) (N zd9 (N zfL (N zjn q355 (N zo3 (L zrO) q1)) (N zja q311 q356)) (N zgP (N zji (N zlT q0 q1) zuF) (N zkx q312 q357)))) (N zc8 (N zae (N zgk (N zjv q358 (N zmL q0 (L zu4))) (N ziL (N zlC q1 q1) (N zme q1 q1))) (N zgH (N zjt q313 (N zph (L zty) (L zup))) (N zk6 q314 q359))) (N zd6 (N zf3 (N zjz q360 (N zae q1 (L zvn))) (N zjE q315 q361)) (N zg1 (N zjq q316 (N zae (L zr0) q0)) (N zkE q317 q362))))))
def m1803:=N r2 (N r3 (N b1728 (N r8 (N zdy (N zae q363 (N zae q364 q319)) (N zae q365 (N ziH q366 q321))) (N zeL (N zfb q367 (N zae q368 q322)) q369)) (N zae (N zan (N zae q370 (N zhU q371 q325)) q372) (N zds (N zae q373 (N zae q374 q329)) q375))) (N r6 (N r10 (N zd2 (N zgh q376 (N zhK q377 zuF)) (N zfu q378 (N zas q379 q333))) (N zdQ (N zas q380 (N ziD q381 q335)) q382)) (N zc5 (N zeh (N zfx q383 (N zas (N zki zin q0) (N zlL q0 q0))) q384) (N zas (N zgl q385 (N zh8 q386 zuF)) q387)))) (N r4 (N r5 (N r9 (N zas (N zan q388 (N zhS q389 q340)) (N zeX q390 (N zay q391 q342))) (N zmv (N zay q392 (N zan q393 q344)) q394)) (N b1729 (N zez (N zfm q395 (N zay q396 q346)) q397) (N zay (N zan q398 (N ziy q399 q349)) q400))) (N r7 (N r11 (N zae (N zfO q401 (N ziW q402 q352)) q403) (N zd9 (N zfL q404 (N zja q405 q356)) q406)) (N zc8 (N zae (N zgk q407 (N ziL q408 (N zme q1 q1))) q409) (N zd6 (N zf3 q410 (N zjE q411 q361)) q412))))
def m1824:=N r2 (N r3 (N zwW (N r8 (N zdy (N zae q363 (N zae q364 (N zan (N zr7 q0 z) q1))) (N zae q365 (N ziH q366 (N zoI (N zae (L zye) z) (L zvi))))) (N zeL (N zfb q367 (N zae q368 (N zpw (N zrU q1 z) (L zvr)))) q369)) (N zae (N zan (N zae q370 (N zhU q371 (N zpm (N zsy (L zxU) z) (L zvk)))) q372) (N zds (N zae q373 (N zae q374 (N zas (N zsm (L zwT) z) q1))) q375))) (N r6 (N r10 (N zd2 (N zgh q376 (N zhK q377 (N zae (N zan (L zwX) z) q0))) (N zfu q378 (N zas q379 (N zae (N zsI (L zwS) z) q0)))) (N zdQ (N zas q380 (N ziD q381 (N zor (N zs0 q0 z) (L zum)))) q382)) (N zc5 (N zeh (N zfx q383 (N zas (N zki zin q0) (N zlL (N zae (L zyl) z) q0))) q384) (N zas (N zgl q385 (N zh8 q386 (N zae q4 q0))) q387)))) (N r4 (N r5 (N r9 (N zas (N zan q388 (N zhS q389 (N zmX zin (L zvf)))) (N zeX q390 (N zay q391 (N zqe (N ztA (L zyO) z) (L zuB))))) (N zmv (N zay q392 (N zan q393 (N zmE (N zae (L zy3) z) (L zuo)))) q394)) (N zyX (N zez (N zfm q395 (N zay q396 (N zoC (N ztI (L zxI) z) (L zvL)))) q397) (N zay (N zan q398 (N ziy q399 (N zpi (N zae (L zxO) z) (L zvV)))) q400))) (N r7 (N r11 (N zae (N zfO q401 (N ziW q402 (N zoq (N zs5 q0 z) (L zvc)))) q403) (N zd9 (N zfL q404 (N zja q405 (N zay (N zsc (L zxM) z) q0))) q406)) (N zc8 (N zae (N zgk q407 (N ziL q408 (N zme q4 q1))) q409) (N zd6 (N zf3 q410 (N zjE q411 (N zq2 (N zr5 q1 z) (L zvx)))) q412))))
def m1825:Heap:=⟨⟨[r2,r3,r4,zwW,r5,r6,r7,r8,r9,r10,r11,zae,zyX,zc5,zc8,zdy,zas,zd2,zae,zan,zez,zeh,zae,zeL,zmv,zdQ,zd9,zds,zay,zas,zd6,zae,zan,zgh,zfO,zae,zfm,zfx,zgk,zfb,zay,zas,zfL,zae,zan,zgl,zf3,zae,zeX,zfu,zgj,ze7,zay,zas,zgH,zae,zan,zgA,zgP,zae,zfv,zgz,zg1,zh9,zay,zas,zjl,zae,zan,zjr,zjv,zae,ziP,zi8,zjn,zhX,zay,zas,zjz,zae,zan,zjP,zjm,zae,ziX,ziT,zjt,zhM,zay,zas,zji,zae,zan,zjI,zjq,zae,zhS,zhK,ziW,zhU,zay,zas,ziL,zae,zan,ziD,zja,zae,ziy,zh8,zjE,ziH,zay,zas,zkk,zae,zan,zlc,zk6,zae,zjK,zjG,zkx,zjF,zay,zas,zkE,zae,zan,zow,zpy,zae,zm3,znc,zov,zlF,zay,zas,zon,zae,zan,zpx,zoP,zae,znq,znv,zps,zmR,zay,zas,zoZ,zae,zan,zpp,zlT,zae,zoA,zo5,znz,znr,zay,zas,zpv,zae,zan,zki,zlC,zae,zlk,zpo,zoo,zpg,zay,zas,zoU,zae,zan,zpr,zoG,zae,zmm,zpb,zol,zoX,zay,zas,zo7,zae,zan,zm8,zoK,zae,zoV,zop,zpd,zpf,zay,zas,zmL,zae,zo1,zmW,zo3,zae,zan,zm6,zae,zo4,zoS,zos,zmu,znd,zo6,znf,zph,zay,zas,znp,zae,zoN,zmh,zoQ,zae,zan,zmX,zae,zoq,zpm,zoC,zlL,zme,zpw,zmE,zor,zay,zas,zpi,zae,zq2,zoI,zqe,zae,zan,zrg,zae,zpF,zpA,zq7,zoW,zoB,zqQ,zoz,zqF,zay,zas,zsA,zae,zs6,zrz,zrQ,zae,zan,zsq,zae,zss,zsf,ztG,zrJ,ztN,zs2,ztg,ztl,zae,zan,zth,zae,ztw,zsn,ztP,zae,zan,zrK,zae,ztT,zs3,zr8,zae,zan,ztf,zae,zsZ,ztq,zsp,zae,zan,zrB,zae,zrR,zsG,zrx,zae,zan,zto,zae,zr4,zrZ,zsQ,zae,zan,ztt,zae,zrT,zsw,zsB,zae,zan,zrN,zae,zsT,zsM,zrP,zae,zan,ztx,zr3,ztB,zae,zan,ztL,zae,zrO,zrX,zrI,zae,zan,zsJ,ztF,zsH,zae,zan,ztQ,zae,zty,ztE,zsK,zae,zan,zsr,zae,zsh,zr0,zr7,zae,zan,zs5,zsy,ztI,zae,zan,zrU,zae,zs0,zsc,zsm,zae,zan,zr5,zae,ztA,zsI,zwn,zae,zan,zuu,zuZ,zuL,zae,zan,zu8,zae,zwl,zuN,zvM,zae,zan,zvX,zwu,zwk,zae,zan,zvp,zae,zwb,zvP,zv3,zae,zan,zu6,zae,zvI,zuW,zv1,zae,zan,zwz,zae,zwj,zv0,zvK,zae,zan,zwm,zae,zv5,zu3,zuV,zae,zan,zuP,zwe,zun,zae,zan,zu2,zae,zu0,zvJ,zvd,zae,zan,zvC,zvR,zvO,zae,zan,zvu,zae,zwr,zvh,zwq,zae,zan,zwi,zuq,zvt,zae,zan,zvB,zae,zvD,zv8,zuv,zae,zan,zu4,zuJ,zvs,zae,zan,zvU,zae,zvG,zvn,zwf,zae,zan,zuU,zae,zwc,zvl,zup,zae,zan,zuX,zae,zvg,zvj,zvT,zae,zan,zvf,zae,zvc,zvk,zvL,zae,zan,zvr,zuo,zum,zae,zan,zvV,zae,zvx,zvi,zuB,zae,zan,zw2,zae,zxB,zxD,zyc,zae,zan,zxd,zae,zwK,zxN,zxV,zae,zan,zx9,zae,zxq,zw0,zxJ,zae,zan,zxz,zyh,zxQ,zae,zan,zyr,zyk,zxs,zae,zan,zyA,zym,zyM,zae,zan,zw9,zxY,zys,zae,zan,zyw,zyD,zxr,zae,zan,zyE,zxg,zxP,zae,zan,zxy,zyo,zxb,zae,zan,zx3,zxl,zxt,zae,zan,zxk,zae,zx1,zyx,zyy,zae,zan,zxv,zae,zx2,zy0,zxK,zae,zan,zyF,zae,zxF,zxE,zxc,zae,zan,zyj,zae,zyI,zx7,zxp,zae,zan,zxC,zae,zwP,zw3,zxj,zae,zan,zwJ,zae,zyz,zx8,zy1,zae,zan,zya,zae,zyK,zyu,zyv,zae,zan,zwX,zae,zxU,zxI,zyl,zae,zan,zy3,zae,zxM,zwT,zxO,zae,zan,zye,zyO,zwS]⟩,⟨[],[],[],0,[],[],false,#[],[],0,false,false,false,0,[2000,10,10],false,0,true,[],[],0,false⟩⟩
end
def m1138v(p:Program):Program:={ p with main:={ p.main with body:=[sp p 1,sp p 2,sp p 3,sp p 4,sp p 5,sp p 6,sp p 7,sp p 8,sp p 9,sp p 10,sp p 11,sp p 12,sp p 13,sp p 14,sp p 15,sp p 16,sp p 17,sp p 18,sp p 19,sp p 21,sp p 22,sp p 23,sp p 24,sp p 25,sp p 26,sp p 27,sp p 28,sp p 29,sp p 30,sp p 32,sp p 33,sp p 34,sp p 35,sp p 37,sp p 38,sp p 39,sp p 40,sp p 41,sp p 42,sp p 43,sp p 44,sp p 45,sp p 46,sp p 47,sp p 48,sp p 49,sp p 50,sp p 51,sp p 52,sp p 53,sp p 54,sp p 55,sp p 56,sp p 57,sp p 58,sp p 59,sp p 60,sp p 61,sp p 62,sp p 63,sp p 64,sp p 65,sp p 66,sp p 67,sp p 68,sp p 69,sp p 70,sp p 71,sp p 72,sp p 73,sp p 74,sp p 76,sp p 77,sp p 78,sp p 79,sp p 80,sp p 81,sp p 82,sp p 83,sp p 84] } }
def m1148s(p:Program):List Stmt:=[sp p 0,sp p 1]
def m1163s(p:Program):List Stmt:=[sp p 2]
def m1178s(p:Program):List Stmt:=[sp p 3]
def m1193s(p:Program):List Stmt:=[sp p 4]
def m1208s(p:Program):List Stmt:=[sp p 5]
def m1223s(p:Program):List Stmt:=[sp p 6]
def m1238s(p:Program):List Stmt:=[sp p 7]
def m1253s(p:Program):List Stmt:=[sp p 8]
def m1268s(p:Program):List Stmt:=[sp p 9]
def m1283s(p:Program):List Stmt:=[sp p 10]
def m1298s(p:Program):List Stmt:=[sp p 11]
def m1313s(p:Program):List Stmt:=[sp p 12]
def m1328s(p:Program):List Stmt:=[sp p 13]
def m1343s(p:Program):List Stmt:=[sp p 14]
def m1358s(p:Program):List Stmt:=[sp p 15]
def m1373s(p:Program):List Stmt:=[sp p 16]
def m1395s(p:Program):List Stmt:=[sp p 17]
def m1417s(p:Program):List Stmt:=[sp p 18]
def m1439s(p:Program):List Stmt:=[sp p 19,sp p 20,sp p 21,sp p 22,sp p 23,sp p 24]
def m1489s(p:Program):List Stmt:=[sp p 25,sp p 26,sp p 27,sp p 28,sp p 29,sp p 30,sp p 31,sp p 32,sp p 33,sp p 34,sp p 35,sp p 36,sp p 37,sp p 38,sp p 39,sp p 40,sp p 41,sp p 42]
def m1562s(p:Program):List Stmt:=[sp p 43,sp p 44,sp p 45,sp p 46,sp p 47,sp p 48,sp p 49,sp p 50,sp p 51,sp p 52,sp p 53,sp p 54,sp p 55]
def m1645s(p:Program):List Stmt:=[sp p 56,sp p 57,sp p 58,sp p 59,sp p 60,sp p 61,sp p 62,sp p 63,sp p 64,sp p 65,sp p 66,sp p 67,sp p 68]
def m1728s(p:Program):List Stmt:=[sp p 69,sp p 70,sp p 71,sp p 72,sp p 73,sp p 74,sp p 75,sp p 76,sp p 77,sp p 78,sp p 79,sp p 80,sp p 81]
def m1804s(p:Program):List Stmt:=[sp p 82,sp p 83,sp p 84]
def u0:Q Str:=⟨Str.ofString "<module>",Str.ofString "/claim/cut.py",Str.ofString "__main__",Str.ofString "__name__",Str.ofString "hideworth.errors",Str.ofString "__doc__",Str.ofString "__package__",Str.ofString "__loader__"⟩
def u1:Q Str:=⟨Str.ofString "__spec__",Str.ofString "__annotations__",Str.ofString "__builtins__",Str.ofString "__file__",Str.ofString "__cached__",Str.ofString "HideError",Str.ofString "__module__",Str.ofString "__qualname__"⟩
def u2:Q Str:=⟨Str.ofString "__firstlineno__",Str.ofString "__static_attributes__",Str.ofString "__weakref__",Str.ofString "NoNumber",Str.ofString "NoTable",Str.ofString "NoBoxes",Str.ofString "NoBudget",Str.ofString "NoOrder"⟩
def u3:Q Str:=⟨Str.ofString "NoWeights",Str.ofString "TooGreat",Str.ofString "NoKind",Str.ofString "NoTree",Str.ofString "NoTurns",Str.ofString "NoPlay",Str.ofString "NoRow",Str.ofString "NoName"⟩
def u4:Q Str:=⟨Str.ofString "NoRoad",Str.ofString "NoWeb",Str.ofString "__init__",Str.ofString "self",Str.ofString "road",Str.ofString "NoWeb.__init__",Str.ofString "NoPlan",Str.ofString "at"⟩
def u5:Q Str:=⟨Str.ofString "NoPlan.__init__",Str.ofString "NoText",Str.ofString "row",Str.ofString "NoText.__init__",Str.ofString "hideworth.ratios",Str.ofString "NoPaper",Str.ofString "divisor",Str.ofString "ratio"⟩
def u6:Q Str:=⟨Str.ofString "plus",Str.ofString "minus",Str.ofString "k",Str.ofString "NoPaper.__init__",Str.ofString "one",Str.ofString "other",Str.ofString "rest",Str.ofString "top"⟩
def u7:Q Str:=⟨Str.ofString "bottom",Str.ofString "shared",Str.ofString "hideworth.boxes",Str.ofString "times",Str.ofString "over",Str.ofString "below",Str.ofString "common",Str.ofString "shared_divisor"⟩
def u8:Q Str:=⟨Str.ofString "lowest",Str.ofString "is_whole",Str.ofString "is_within",Str.ofString "are_weights",Str.ofString "is_fraction",Str.ofString "MOST_BOXES",Str.ofString "MOST_COST",Str.ofString "MOST_OF"⟩
def u9:Q Str:=⟨Str.ofString "MOST_LOOKS",Str.ofString "MOST_BUDGET",Str.ofString "is_box",Str.ofString "numbers",Str.ofString "number",Str.ofString "thing",Str.ofString "hideworth.checks",Str.ofString "least"⟩
def u10:Q Str:=⟨Str.ofString "most",Str.ofString "cost",Str.ofString "hits",Str.ofString "of",Str.ofString "look_boxes",Str.ofString "look_budget",Str.ofString "is_plan",Str.ofString "power"⟩
def u11:Q Str:=⟨Str.ofString "missed",Str.ofString "chance",Str.ofString "gain",Str.ofString "cost_sum",Str.ofString "plan_cost",Str.ofString "found_by",Str.ofString "is_share",Str.ofString "is_mix"⟩
def u12:Q Str:=⟨Str.ofString "finds_enough",Str.ofString "budget",Str.ofString "base",Str.ofString "count",Str.ofString "product",Str.ofString "box",Str.ofString "boxes",Str.ofString "plan"⟩
def u13:Q Str:=⟨Str.ofString "counts",Str.ofString "weights",Str.ofString "worth",Str.ofString "whole",Str.ofString "parts",Str.ofString "weight",Str.ofString "is_seeker_right",Str.ofString "is_hider_paper"⟩
def u14:Q Str:=⟨Str.ofString "is_last_look_worth",Str.ofString "is_next_look_dear",Str.ofString "is_count_best",Str.ofString "is_sum_low",Str.ofString "is_hider_right",Str.ofString "budget_judged",Str.ofString "added",Str.ofString "least_chance"⟩
def u15:Q Str:=⟨Str.ofString "fair_weights",Str.ofString "chance_for",Str.ofString "counts_and_worth",Str.ofString "price",Str.ofString "paper",Str.ofString "mix",Str.ofString "fractions",Str.ofString "total"⟩
def u16:Q Str:=⟨Str.ofString "fraction",Str.ofString "chances",Str.ofString "law_hideworth_k22_boxes_and_budgets_refused",Str.ofString "look_shares",Str.ofString "mix_of",Str.ofString "paper_of",Str.ofString "sure_answer",Str.ofString "is_sure"⟩
def u17:Q Str:=⟨Str.ofString "budget_worth",Str.ofString "_law_purse",Str.ofString "_law_draw",Str.ofString "_law_boxes",Str.ofString "_law_no_boxes",Str.ofString "_law_marks",Str.ofString "_law_asked",Str.ofString "_law_script"⟩
def u18:Q Str:=⟨Str.ofString "_law_cells",Str.ofString "_law_purse_here",Str.ofString "_law_out_of",Str.ofString "_law_turn",Str.ofString "_law_at",Str.ofString "_law_cell",Str.ofString "_law_number",Str.ofString "_law_most"⟩
def u19:Q Str:=⟨Str.ofString "_law_found",Str.ofString "_law_k",Str.ofString "_law_cost",Str.ofString "_law_of",Str.ofString "_law_hits",Str.ofString "_law_boxes_here",Str.ofString "_law_far",Str.ofString "_law_bent"⟩
def u20:Q Str:=⟨Str.ofString "_law_way",Str.ofString "_law_caught",Str.ofString "_law_budget",Str.ofString "_law_plan",Str.ofString "_law_refused",Str.ofString "_law_no_budget",Str.ofString "law",Str.ofString "e"⟩
def u21:Q Str:=⟨Str.ofString "_law_some",Str.ofString "_law_some",Str.ofString "_law_some",Str.ofString "_law_some",Str.ofString "_law_some",Str.ofString "_law_some",Str.ofString "_law_some",Str.ofString "_law_some"⟩
def v0:Q String:=⟨"tuple","code","frame","dict","__main__.__loader__#opaque","ValueError","builtin_function_or_method","type.__prepare__"⟩
def v1:Q String:=⟨"type","Exception","BaseException","object","ValueError.__new__","getset_descriptor","ExceptionGroup.__weakref__","super"⟩
def v2:Q String:=⟨"object.__init_subclass__","function","function","function","function","function","function","function"⟩
def w0(P:Params):Q Obj:=⟨W.boot_o_0 P,W.boot_o_1 P,W.boot_o_2 P,W.boot_o_3 P,W.boot_o_4 P,W.boot_o_5 P,W.boot_o_6 P,W.boot_o_7 P⟩
def w1(P:Params):Q Obj:=⟨W.boot_o_8 P,W.boot_o_9 P,W.boot_o_10 P,W.boot_o_10 P,W.boot_o_10 P,W.boot_o_10 P,W.boot_o_10 P,W.boot_o_10 P⟩
lay_quick u0 u1 u2 u3 u4 u5 u6 u7 u8 u9 u10 u11 u12 u13 u14 u15 u16 u17 u18 u19 u20 u21 v0 v1 v2 w0 w1 PySem.Challenge.pw_hideworth_k22_boxes_and_budgets_refused
def K(a' b' c' d' e' f' g' h' i' j' k' l' m' n' o' p' q' r' s' t' u' v':Q Str)(w' x' y':Q String)(z' A':Params→Q Obj)(B':Program)(P:Params):X:=⟨⟨⟨a',b',c',d',e',f',g',h'⟩,⟨i',j',k',l',m',n',o',p'⟩,⟨q',r',s',t',u',v',v',v'⟩,⟨q',r',s',t',u',v',v',v'⟩,⟨q',r',s',t',u',v',v',v'⟩,⟨q',r',s',t',u',v',v',v'⟩,⟨q',r',s',t',u',v',v',v'⟩,⟨q',r',s',t',u',v',v',v'⟩⟩,⟨⟨w',x',y',y',y',y',y',y'⟩,⟨w',x',y',y',y',y',y',y'⟩,⟨w',x',y',y',y',y',y',y'⟩,⟨w',x',y',y',y',y',y',y'⟩,⟨w',x',y',y',y',y',y',y'⟩,⟨w',x',y',y',y',y',y',y'⟩,⟨w',x',y',y',y',y',y',y'⟩,⟨w',x',y',y',y',y',y',y'⟩⟩,⟨⟨z' P,A' P,A' P,A' P,A' P,A' P,A' P,A' P⟩,⟨z' P,A' P,A' P,A' P,A' P,A' P,A' P,A' P⟩,⟨z' P,A' P,A' P,A' P,A' P,A' P,A' P,A' P⟩,⟨z' P,A' P,A' P,A' P,A' P,A' P,A' P,A' P⟩,⟨z' P,A' P,A' P,A' P,A' P,A' P,A' P,A' P⟩,⟨z' P,A' P,A' P,A' P,A' P,A' P,A' P,A' P⟩,⟨z' P,A' P,A' P,A' P,A' P,A' P,A' P,A' P⟩,⟨z' P,A' P,A' P,A' P,A' P,A' P,A' P,A' P⟩⟩,B',P⟩
def k0:=K u0 u1 u2 u3 u4 u5 u6 u7 u8 u9 u10 u11 u12 u13 u14 u15 u16 u17 u18 u19 u20 u21 v0 v1 v2 w0 w1 PySem.Challenge.pw_hideworth_k22_boxes_and_budgets_refused
def k1:=K tw13894225608423057668 tw17531079430653816501 tw13809737476558091540 tw2367299412457286945 tw1912701158020654693 tw2188347355606102534 tw16368670287772101220 tw14842115654739255404 tw4717311838995323452 tw594758545415977400 tw10895325593200808953 tw10037743213843438893 tw10009084784789568687 tw5084553986333570498 tw16641277437810104112 tw11875653558476324687 tw1672153094372761355 tw4580522010931877059 tw15163288008780518816 tw2560371371167247513 tw13463505119322665063 tw18077194039007663117 tw15633551313878501473 tw10735261366311057212 tw13734974896645664886 tw1278260381020688717 tw13492767390215788210 tw6394307831500954438
theorem ke:k0=k1:=by
  unfold k0 k1
  rw[te13894225608423057668,te17531079430653816501,te13809737476558091540,te2367299412457286945,te1912701158020654693,te2188347355606102534,te16368670287772101220,te14842115654739255404,te4717311838995323452,te594758545415977400,te10895325593200808953,te10037743213843438893,te10009084784789568687,te5084553986333570498,te16641277437810104112,te11875653558476324687,te1672153094372761355,te4580522010931877059,te15163288008780518816,te2560371371167247513,te13463505119322665063,te18077194039007663117,te15633551313878501473,te10735261366311057212,te13734974896645664886,te1278260381020688717,te13492767390215788210,te6394307831500954438]
theorem kE{β:Type _}(f:X→β):(λP=>f (k0 P))=λP=>f (k1 P):=congrArg (λy P=>f (y P)) ke
end Hd
namespace PySem.W.Fast
def tw5704389553894642902:Program:=Hd.m1138v tw6394307831500954438
theorem te5704389553894642902:Hd.m1138v PySem.Challenge.pw_hideworth_k22_boxes_and_budgets_refused=tw5704389553894642902:=congrArg Hd.m1138v te6394307831500954438
def tw12108169518621296753(P:Params):Heap:=@Hd.m1145 (Hd.k1 P)
theorem te12108169518621296753:(λP=>@Hd.m1145 (Hd.k0 P))=tw12108169518621296753:=Hd.kE @Hd.m1145
def tw16536732412816295060(P:Params):BT:=@Hd.m1146 (Hd.k1 P)
theorem te16536732412816295060:(λP=>@Hd.m1146 (Hd.k0 P))=tw16536732412816295060:=Hd.kE @Hd.m1146
def tw7958672120700041532:List Stmt:=Hd.m1148s tw6394307831500954438
theorem te7958672120700041532:Hd.m1148s PySem.Challenge.pw_hideworth_k22_boxes_and_budgets_refused=tw7958672120700041532:=congrArg Hd.m1148s te6394307831500954438
def tw12475822818235030428(P:Params):BT:=@Hd.m1162 (Hd.k1 P)
theorem te12475822818235030428:(λP=>@Hd.m1162 (Hd.k0 P))=tw12475822818235030428:=Hd.kE @Hd.m1162
def tw1763841731429450090:List Stmt:=Hd.m1163s tw6394307831500954438
theorem te1763841731429450090:Hd.m1163s PySem.Challenge.pw_hideworth_k22_boxes_and_budgets_refused=tw1763841731429450090:=congrArg Hd.m1163s te6394307831500954438
def tw14235462737051250364(P:Params):BT:=@Hd.m1177 (Hd.k1 P)
theorem te14235462737051250364:(λP=>@Hd.m1177 (Hd.k0 P))=tw14235462737051250364:=Hd.kE @Hd.m1177
def tw14005988749496767217:List Stmt:=Hd.m1178s tw6394307831500954438
theorem te14005988749496767217:Hd.m1178s PySem.Challenge.pw_hideworth_k22_boxes_and_budgets_refused=tw14005988749496767217:=congrArg Hd.m1178s te6394307831500954438
def tw2887310003006987230(P:Params):BT:=@Hd.m1192 (Hd.k1 P)
theorem te2887310003006987230:(λP=>@Hd.m1192 (Hd.k0 P))=tw2887310003006987230:=Hd.kE @Hd.m1192
def tw11974068696107654372:List Stmt:=Hd.m1193s tw6394307831500954438
theorem te11974068696107654372:Hd.m1193s PySem.Challenge.pw_hideworth_k22_boxes_and_budgets_refused=tw11974068696107654372:=congrArg Hd.m1193s te6394307831500954438
def tw13025169805805147478(P:Params):BT:=@Hd.m1207 (Hd.k1 P)
theorem te13025169805805147478:(λP=>@Hd.m1207 (Hd.k0 P))=tw13025169805805147478:=Hd.kE @Hd.m1207
def tw5452775721525526630:List Stmt:=Hd.m1208s tw6394307831500954438
theorem te5452775721525526630:Hd.m1208s PySem.Challenge.pw_hideworth_k22_boxes_and_budgets_refused=tw5452775721525526630:=congrArg Hd.m1208s te6394307831500954438
def tw13951199909015180368(P:Params):BT:=@Hd.m1222 (Hd.k1 P)
theorem te13951199909015180368:(λP=>@Hd.m1222 (Hd.k0 P))=tw13951199909015180368:=Hd.kE @Hd.m1222
def tw148134283685489700:List Stmt:=Hd.m1223s tw6394307831500954438
theorem te148134283685489700:Hd.m1223s PySem.Challenge.pw_hideworth_k22_boxes_and_budgets_refused=tw148134283685489700:=congrArg Hd.m1223s te6394307831500954438
def tw16255411376626284581(P:Params):BT:=@Hd.m1237 (Hd.k1 P)
theorem te16255411376626284581:(λP=>@Hd.m1237 (Hd.k0 P))=tw16255411376626284581:=Hd.kE @Hd.m1237
def tw17063748820642907280:List Stmt:=Hd.m1238s tw6394307831500954438
theorem te17063748820642907280:Hd.m1238s PySem.Challenge.pw_hideworth_k22_boxes_and_budgets_refused=tw17063748820642907280:=congrArg Hd.m1238s te6394307831500954438
def tw14840089415892394022(P:Params):BT:=@Hd.m1252 (Hd.k1 P)
theorem te14840089415892394022:(λP=>@Hd.m1252 (Hd.k0 P))=tw14840089415892394022:=Hd.kE @Hd.m1252
def tw5274712381861887665:List Stmt:=Hd.m1253s tw6394307831500954438
theorem te5274712381861887665:Hd.m1253s PySem.Challenge.pw_hideworth_k22_boxes_and_budgets_refused=tw5274712381861887665:=congrArg Hd.m1253s te6394307831500954438
def tw1424634085949302772(P:Params):BT:=@Hd.m1267 (Hd.k1 P)
theorem te1424634085949302772:(λP=>@Hd.m1267 (Hd.k0 P))=tw1424634085949302772:=Hd.kE @Hd.m1267
def tw6546729328152077106:List Stmt:=Hd.m1268s tw6394307831500954438
theorem te6546729328152077106:Hd.m1268s PySem.Challenge.pw_hideworth_k22_boxes_and_budgets_refused=tw6546729328152077106:=congrArg Hd.m1268s te6394307831500954438
def tw11328441514157315959(P:Params):BT:=@Hd.m1282 (Hd.k1 P)
theorem te11328441514157315959:(λP=>@Hd.m1282 (Hd.k0 P))=tw11328441514157315959:=Hd.kE @Hd.m1282
def tw12943780661937649230:List Stmt:=Hd.m1283s tw6394307831500954438
theorem te12943780661937649230:Hd.m1283s PySem.Challenge.pw_hideworth_k22_boxes_and_budgets_refused=tw12943780661937649230:=congrArg Hd.m1283s te6394307831500954438
def tw5542886846785230642(P:Params):BT:=@Hd.m1297 (Hd.k1 P)
theorem te5542886846785230642:(λP=>@Hd.m1297 (Hd.k0 P))=tw5542886846785230642:=Hd.kE @Hd.m1297
def tw18155524923755384309:List Stmt:=Hd.m1298s tw6394307831500954438
theorem te18155524923755384309:Hd.m1298s PySem.Challenge.pw_hideworth_k22_boxes_and_budgets_refused=tw18155524923755384309:=congrArg Hd.m1298s te6394307831500954438
def tw12097026756167285996(P:Params):BT:=@Hd.m1312 (Hd.k1 P)
theorem te12097026756167285996:(λP=>@Hd.m1312 (Hd.k0 P))=tw12097026756167285996:=Hd.kE @Hd.m1312
def tw6659639323011217512:List Stmt:=Hd.m1313s tw6394307831500954438
theorem te6659639323011217512:Hd.m1313s PySem.Challenge.pw_hideworth_k22_boxes_and_budgets_refused=tw6659639323011217512:=congrArg Hd.m1313s te6394307831500954438
def tw17640182207988721954(P:Params):BT:=@Hd.m1327 (Hd.k1 P)
theorem te17640182207988721954:(λP=>@Hd.m1327 (Hd.k0 P))=tw17640182207988721954:=Hd.kE @Hd.m1327
def tw5240667798443608991:List Stmt:=Hd.m1328s tw6394307831500954438
theorem te5240667798443608991:Hd.m1328s PySem.Challenge.pw_hideworth_k22_boxes_and_budgets_refused=tw5240667798443608991:=congrArg Hd.m1328s te6394307831500954438
def tw17873341494531447541(P:Params):BT:=@Hd.m1342 (Hd.k1 P)
theorem te17873341494531447541:(λP=>@Hd.m1342 (Hd.k0 P))=tw17873341494531447541:=Hd.kE @Hd.m1342
def tw14140022297476266469:List Stmt:=Hd.m1343s tw6394307831500954438
theorem te14140022297476266469:Hd.m1343s PySem.Challenge.pw_hideworth_k22_boxes_and_budgets_refused=tw14140022297476266469:=congrArg Hd.m1343s te6394307831500954438
def tw10815413755194729519(P:Params):BT:=@Hd.m1357 (Hd.k1 P)
theorem te10815413755194729519:(λP=>@Hd.m1357 (Hd.k0 P))=tw10815413755194729519:=Hd.kE @Hd.m1357
def tw10397840318325088431:List Stmt:=Hd.m1358s tw6394307831500954438
theorem te10397840318325088431:Hd.m1358s PySem.Challenge.pw_hideworth_k22_boxes_and_budgets_refused=tw10397840318325088431:=congrArg Hd.m1358s te6394307831500954438
def tw15597791974250090819(P:Params):BT:=@Hd.m1372 (Hd.k1 P)
theorem te15597791974250090819:(λP=>@Hd.m1372 (Hd.k0 P))=tw15597791974250090819:=Hd.kE @Hd.m1372
def tw16948533404358653648:List Stmt:=Hd.m1373s tw6394307831500954438
theorem te16948533404358653648:Hd.m1373s PySem.Challenge.pw_hideworth_k22_boxes_and_budgets_refused=tw16948533404358653648:=congrArg Hd.m1373s te6394307831500954438
def tw11131854047258656716(P:Params):BT:=@Hd.m1394 (Hd.k1 P)
theorem te11131854047258656716:(λP=>@Hd.m1394 (Hd.k0 P))=tw11131854047258656716:=Hd.kE @Hd.m1394
def tw11099888027753327897:List Stmt:=Hd.m1395s tw6394307831500954438
theorem te11099888027753327897:Hd.m1395s PySem.Challenge.pw_hideworth_k22_boxes_and_budgets_refused=tw11099888027753327897:=congrArg Hd.m1395s te6394307831500954438
def tw10226467991568806873(P:Params):BT:=@Hd.m1416 (Hd.k1 P)
theorem te10226467991568806873:(λP=>@Hd.m1416 (Hd.k0 P))=tw10226467991568806873:=Hd.kE @Hd.m1416
def tw8807478890108788438:List Stmt:=Hd.m1417s tw6394307831500954438
theorem te8807478890108788438:Hd.m1417s PySem.Challenge.pw_hideworth_k22_boxes_and_budgets_refused=tw8807478890108788438:=congrArg Hd.m1417s te6394307831500954438
def tw7138434354624022665(P:Params):BT:=@Hd.m1438 (Hd.k1 P)
theorem te7138434354624022665:(λP=>@Hd.m1438 (Hd.k0 P))=tw7138434354624022665:=Hd.kE @Hd.m1438
def tw10787039462851026826:List Stmt:=Hd.m1439s tw6394307831500954438
theorem te10787039462851026826:Hd.m1439s PySem.Challenge.pw_hideworth_k22_boxes_and_budgets_refused=tw10787039462851026826:=congrArg Hd.m1439s te6394307831500954438
def tw14783526714696163922(P:Params):BT:=@Hd.m1488 (Hd.k1 P)
theorem te14783526714696163922:(λP=>@Hd.m1488 (Hd.k0 P))=tw14783526714696163922:=Hd.kE @Hd.m1488
def tw7944517735929441742:List Stmt:=Hd.m1489s tw6394307831500954438
theorem te7944517735929441742:Hd.m1489s PySem.Challenge.pw_hideworth_k22_boxes_and_budgets_refused=tw7944517735929441742:=congrArg Hd.m1489s te6394307831500954438
def tw18204344545763296019(P:Params):BT:=@Hd.m1561 (Hd.k1 P)
theorem te18204344545763296019:(λP=>@Hd.m1561 (Hd.k0 P))=tw18204344545763296019:=Hd.kE @Hd.m1561
def tw16374064323795922978:List Stmt:=Hd.m1562s tw6394307831500954438
theorem te16374064323795922978:Hd.m1562s PySem.Challenge.pw_hideworth_k22_boxes_and_budgets_refused=tw16374064323795922978:=congrArg Hd.m1562s te6394307831500954438
def tw3308177258573208696(P:Params):BT:=@Hd.m1644 (Hd.k1 P)
theorem te3308177258573208696:(λP=>@Hd.m1644 (Hd.k0 P))=tw3308177258573208696:=Hd.kE @Hd.m1644
def tw5210641727278386536:List Stmt:=Hd.m1645s tw6394307831500954438
theorem te5210641727278386536:Hd.m1645s PySem.Challenge.pw_hideworth_k22_boxes_and_budgets_refused=tw5210641727278386536:=congrArg Hd.m1645s te6394307831500954438
def tw4366967186462320058(P:Params):BT:=@Hd.m1727 (Hd.k1 P)
theorem te4366967186462320058:(λP=>@Hd.m1727 (Hd.k0 P))=tw4366967186462320058:=Hd.kE @Hd.m1727
def tw11386386037349996307:List Stmt:=Hd.m1728s tw6394307831500954438
theorem te11386386037349996307:Hd.m1728s PySem.Challenge.pw_hideworth_k22_boxes_and_budgets_refused=tw11386386037349996307:=congrArg Hd.m1728s te6394307831500954438
def tw14099879619334356667(P:Params):BT:=@Hd.m1803 (Hd.k1 P)
theorem te14099879619334356667:(λP=>@Hd.m1803 (Hd.k0 P))=tw14099879619334356667:=Hd.kE @Hd.m1803
def tw17857378679093370744:List Stmt:=Hd.m1804s tw6394307831500954438
theorem te17857378679093370744:Hd.m1804s PySem.Challenge.pw_hideworth_k22_boxes_and_budgets_refused=tw17857378679093370744:=congrArg Hd.m1804s te6394307831500954438
def tw1679985667799013927(P:Params):BT:=@Hd.m1824 (Hd.k1 P)
theorem te1679985667799013927:(λP=>@Hd.m1824 (Hd.k0 P))=tw1679985667799013927:=Hd.kE @Hd.m1824
def tw293112842571534883(P:Params):Heap:=@Hd.m1825 (Hd.k1 P)
theorem te293112842571534883:(λP=>@Hd.m1825 (Hd.k0 P))=tw293112842571534883:=Hd.kE @Hd.m1825
end PySem.W.Fast
end
open PySem PySem.W PyProof.Rows PySem.W.X PySem.W.ZRun
set_option maxRecDepth 100000 in
set_option maxHeartbeats 0 in
theorem PySem.Challenge.cw_hideworth_k22_boxes_and_budgets_refused_holds : PySem.Challenge.rw_hideworth_k22_boxes_and_budgets_refused.Holds := by
 w_on;o_law;z_head;(case hw=>w_witness2)
 k_fill
 intro w s0 s1 m0 m1 G Y fa o pm cd doc dV kV ho hd hc hD hm hg xs vs as L h1 h2 h3 h4 h5
 z_open Y L KX ZH ZN ZT
 refine My.walk_at (l:=PySem.Challenge.rw_hideworth_k22_boxes_and_budgets_refused) KX (λW=>W w s0 s1 m0 m1 G KX fa o pm cd doc dV kV ho hd hc hD hm hg xs vs as h1 h2 h3 h4 h5) (My.walk (l:=PySem.Challenge.rw_hideworth_k22_boxes_and_budgets_refused) rfl rfl (λ_ _ h=>h) ?F)
 case F =>
  intro w mg fa h KX G hmg
  refine' My.zxR KX G hmg (My.zxw KX G (L2.zaO ?l0 ?c0 ?k0) (mg_of KX G ?a0) (L2.zaO ?l1 ?c1 ?k1) (mg_of KX G ?a1) (L2.zaO ?l2 ?c2 ?k2) (mg_of KX G ?a2) (L2.zaO ?l3 ?c3 ?k3) (mg_of KX G ?a3) (L2.zaO ?l4 ?c4 ?k4) (mg_of KX G ?a4) (L2.zaO ?l5 ?c5 ?k5) (mg_of KX G ?a5) (L2.zaO ?l6 ?c6 ?k6) (mg_of KX G ?a6) (L2.zaO ?l7 ?c7 ?k7) (mg_of KX G ?a7) (L2.zaO ?l8 ?c8 ?k8) (mg_of KX G ?a8) (L2.zaO ?l9 ?c9 ?k9) (mg_of KX G ?a9) (L2.zaO ?l10 ?c10 ?k10) (mg_of KX G ?a10) (L2.zaO ?l11 ?c11 ?k11) (mg_of KX G ?a11) (L2.zaO ?l12 ?c12 ?k12) (mg_of KX G ?a12) (L2.zaO ?l13 ?c13 ?k13) (mg_of KX G ?a13) (L2.zaO ?l14 ?c14 ?k14) (mg_of KX G ?a14) (L2.zaO ?l15 ?c15 ?k15) (mg_of KX G ?a15) (L2.zaO ?l16 ?c16 ?k16) (mg_of KX G ?a16) (L2.zaO ?l17 ?c17 ?k17) (mg_of KX G ?a17) (L2.zaO ?l18 ?c18 ?k18) (mg_of KX G ?a18) (L2.zaO ?l19 ?c19 ?k19) (mg_of KX G ?a19) (L2.zaO ?l20 ?c20 ?k20) (mg_of KX G ?a20) (L2.zaO ?l21 ?c21 ?k21) (mg_of KX G ?a21) (L2.zaO ?l22 ?c22 ?k22) (mg_of KX G ?a22) (L2.zaO ?l23 ?c23 ?k23) (mg_of KX G ?a23) (L2.zaO ?l24 ?c24 ?k24) (mg_of KX G ?a24) (L2.zaO ?l25 ?c25 ?k25) (mg_of KX G ?a25) (L2.zaO ?l26 ?c26 ?k26) (mg_of KX G ?a26) (L2.zaO ?l27 ?c27 ?k27) (mg_of KX G ?a27) (L2.zaO ?l28 ?c28 ?k28) (mg_of KX G ?a28) (L2.zaO ?l29 ?c29 ?k29) (mg_of KX G ?a29) (L2.zaO ?l30 ?c30 ?k30) (mg_of KX G ?a30) (L2.zaO ?l31 ?c31 ?k31) (mg_of KX G ?a31) (L2.zaO ?l32 ?c32 ?k32) (mg_of KX G ?a32) (L2.zaO ?l33 ?c33 ?k33) (mg_of KX G ?a33) (L2.zaO ?l34 ?c34 ?k34) (mg_of KX G ?a34) (L2.zaO ?l35 ?c35 ?k35) (mg_of KX G ?a35) (L2.zaO ?l36 ?c36 ?k36) (mg_of KX G ?a36) (L2.zaO ?l37 ?c37 ?k37) (mg_of KX G ?a37) (L2.zaO ?l38 ?c38 ?k38) (mg_of KX G ?a38) (L2.zaO ?l39 ?c39 ?k39) (mg_of KX G ?a39) (L2.zaO ?l40 ?c40 ?k40) (mg_of KX G ?a40) (L2.zaO ?l41 ?c41 ?k41) (mg_of KX G ?a41) (L2.zaO ?l42 ?c42 ?k42) (mg_of KX G ?a42) (L2.zaO ?l43 ?c43 ?k43) (mg_of KX G ?a43) (L2.zaO ?l44 ?c44 ?k44) (mg_of KX G ?a44) (L2.zaO ?l45 ?c45 ?k45) (mg_of KX G ?a45) (L2.zaO ?l46 ?c46 ?k46) (mg_of KX G ?a46) (L2.zaO ?l47 ?c47 ?k47) (mg_of KX G ?a47) (L2.zaO ?l48 ?c48 ?k48) (mg_of KX G ?a48) (L2.zaO ?l49 ?c49 ?k49) (mg_of KX G ?a49) (L2.zaO ?l50 ?c50 ?k50) (mg_of KX G ?a50) (L2.zaO ?l51 ?c51 ?k51) (mg_of KX G ?a51) (L2.zaO ?l52 ?c52 ?k52) (mg_of KX G ?a52) (L2.zaO ?l53 ?c53 ?k53) (mg_of KX G ?a53) (L2.zaO ?l54 ?c54 ?k54) (mg_of KX G ?a54) (L2.zaO ?l55 ?c55 ?k55) (mg_of KX G ?a55) (mg_none_of KX G ?z_set) (mg_none_of KX G ?z_isinstance) (mg_none_of KX G ?z_range) (mg_none_of KX G ?z_all) (mg_none_of KX G ?z_sorted) (mg_none_of KX G ?z_abs) (mg_none_of KX G ?z_sum) (mg_none_of KX G ?z_len) (mg_none_of KX G ?z_list) (mg_none_of KX G ?z_zip) (mg_none_of KX G ?z_int) (mg_none_of KX G ?z_bool) (mg_none_of KX G ?z_tuple) (mg_none_of KX G ?z_ValueError) (mg_of KX G ?ac_HideError) (mg_of KX G ?ac_NoWeb) (mg_of KX G ?ac_NoPlan) (mg_of KX G ?ac_NoText) (mg_of KX G ?ac_NoKind) (mg_of KX G ?ac_TooGreat) (mg_of KX G ?ac_NoTree) (mg_of KX G ?ac_NoWeights) (mg_of KX G ?ac_NoTurns) (mg_of KX G ?ac_NoNumber) (mg_of KX G ?ac_NoBoxes) (mg_of KX G ?ac_NoBudget) (mg_of KX G ?ac_NoName) (mg_of KX G ?ac_NoOrder) (mg_of KX G ?ac_NoPlay) (mg_of KX G ?ac_NoRoad) (mg_of KX G ?ac_NoRow) (mg_of KX G ?ac_NoTable) (mg_of KX G ?ac_NoPaper) (mg_of KX G ?ak_MOST_BOXES) (mg_of KX G ?ak_MOST_COST) (mg_of KX G ?ak_MOST_OF) (mg_of KX G ?ak_MOST_BUDGET) (mg_of KX G ?ak_MOST_LOOKS) ?xc_HideError ?xc_NoBoxes ?xc_NoBudget ?vsg ?vrd ?vfc ?vin_NoPlan ?vl_NoPlan ?vc_NoPlan ?vk_NoPlan ?vlk_NoPlan ?vtl_NoPlan ?vfn_NoPlan ?vkp_NoPlan ?vmo_NoPlan ?vsa_NoPlan ?vga_NoPlan ?vgn_NoPlan ?vcl_NoPlan ?vmb_NoPlan ?vhd_NoPlan ?vna_NoPlan ?i_k_NoWeb ?i_k_NoPlan ?i_k_NoText ?i_k_NoKind ?i_k_TooGreat ?i_k_NoTree ?i_k_NoWeights ?i_k_NoTurns ?i_k_NoNumber ?i_k_NoBoxes ?i_k_NoBudget ?i_k_NoName ?i_k_NoOrder ?i_k_NoPlay ?i_k_NoRoad ?i_k_NoRow ?i_k_NoTable ?i_k_NoPaper ?i_k_ValueError ?i_sub ?e_ga ?e_gn ?e_cl ?e_mb ?e_mo ?i2_k_NoWeb ?i2_k_NoPlan ?i2_k_NoText ?i2_k_NoKind ?i2_k_TooGreat ?i2_k_NoTree ?i2_k_NoWeights ?i2_k_NoTurns ?i2_k_NoNumber ?i2_k_NoBoxes ?i2_k_NoBudget ?i2_k_NoName ?i2_k_NoOrder ?i2_k_NoPlay ?i2_k_NoRoad ?i2_k_NoRow ?i2_k_NoTable ?i2_k_NoPaper ?i2_k_ValueError ?i2_sub ?e2_ga ?e2_gn ?e2_cl ?e2_mb ?e2_mo)
  (case a0=>k_is);(case l0=>k_is);(case c0=>k_is);(case k0=>k_is)
  (case a1=>k_is);(case l1=>k_is);(case c1=>k_is);(case k1=>k_is)
  (case a2=>k_is);(case l2=>k_is);(case c2=>k_is);(case k2=>k_is)
  (case a3=>k_is);(case l3=>k_is);(case c3=>k_is);(case k3=>k_is)
  (case a4=>k_is);(case l4=>k_is);(case c4=>k_is);(case k4=>k_is)
  (case a5=>k_is);(case l5=>k_is);(case c5=>k_is);(case k5=>k_is)
  (case a6=>k_is);(case l6=>k_is);(case c6=>k_is);(case k6=>k_is)
  (case a7=>k_is);(case l7=>k_is);(case c7=>k_is);(case k7=>k_is)
  (case a8=>k_is);(case l8=>k_is);(case c8=>k_is);(case k8=>k_is)
  (case a9=>k_is);(case l9=>k_is);(case c9=>k_is);(case k9=>k_is)
  (case a10=>k_is);(case l10=>k_is);(case c10=>k_is);(case k10=>k_is)
  (case a11=>k_is);(case l11=>k_is);(case c11=>k_is);(case k11=>k_is)
  (case a12=>k_is);(case l12=>k_is);(case c12=>k_is);(case k12=>k_is)
  (case a13=>k_is);(case l13=>k_is);(case c13=>k_is);(case k13=>k_is)
  (case a14=>k_is);(case l14=>k_is);(case c14=>k_is);(case k14=>k_is)
  (case a15=>k_is);(case l15=>k_is);(case c15=>k_is);(case k15=>k_is)
  (case a16=>k_is);(case l16=>k_is);(case c16=>k_is);(case k16=>k_is)
  (case a17=>k_is);(case l17=>k_is);(case c17=>k_is);(case k17=>k_is)
  (case a18=>k_is);(case l18=>k_is);(case c18=>k_is);(case k18=>k_is)
  (case a19=>k_is);(case l19=>k_is);(case c19=>k_is);(case k19=>k_is)
  (case a20=>k_is);(case l20=>k_is);(case c20=>k_is);(case k20=>k_is)
  (case a21=>k_is);(case l21=>k_is);(case c21=>k_is);(case k21=>k_is)
  (case a22=>k_is);(case l22=>k_is);(case c22=>k_is);(case k22=>k_is)
  (case a23=>k_is);(case l23=>k_is);(case c23=>k_is);(case k23=>k_is)
  (case a24=>k_is);(case l24=>k_is);(case c24=>k_is);(case k24=>k_is)
  (case a25=>k_is);(case l25=>k_is);(case c25=>k_is);(case k25=>k_is)
  (case a26=>k_is);(case l26=>k_is);(case c26=>k_is);(case k26=>k_is)
  (case a27=>k_is);(case l27=>k_is);(case c27=>k_is);(case k27=>k_is)
  (case a28=>k_is);(case l28=>k_is);(case c28=>k_is);(case k28=>k_is)
  (case a29=>k_is);(case l29=>k_is);(case c29=>k_is);(case k29=>k_is)
  (case a30=>k_is);(case l30=>k_is);(case c30=>k_is);(case k30=>k_is)
  (case a31=>k_is);(case l31=>k_is);(case c31=>k_is);(case k31=>k_is)
  (case a32=>k_is);(case l32=>k_is);(case c32=>k_is);(case k32=>k_is)
  (case a33=>k_is);(case l33=>k_is);(case c33=>k_is);(case k33=>k_is)
  (case a34=>k_is);(case l34=>k_is);(case c34=>k_is);(case k34=>k_is)
  (case a35=>k_is);(case l35=>k_is);(case c35=>k_is);(case k35=>k_is)
  (case a36=>k_is);(case l36=>k_is);(case c36=>k_is);(case k36=>k_is)
  (case a37=>k_is);(case l37=>k_is);(case c37=>k_is);(case k37=>k_is)
  (case a38=>k_is);(case l38=>k_is);(case c38=>k_is);(case k38=>k_is)
  (case a39=>k_is);(case l39=>k_is);(case c39=>k_is);(case k39=>k_is)
  (case a40=>k_is);(case l40=>k_is);(case c40=>k_is);(case k40=>k_is)
  (case a41=>k_is);(case l41=>k_is);(case c41=>k_is);(case k41=>k_is)
  (case a42=>k_is);(case l42=>k_is);(case c42=>k_is);(case k42=>k_is)
  (case a43=>k_is);(case l43=>k_is);(case c43=>k_is);(case k43=>k_is)
  (case a44=>k_is);(case l44=>k_is);(case c44=>k_is);(case k44=>k_is)
  (case a45=>k_is);(case l45=>k_is);(case c45=>k_is);(case k45=>k_is)
  (case a46=>k_is);(case l46=>k_is);(case c46=>k_is);(case k46=>k_is)
  (case a47=>k_is);(case l47=>k_is);(case c47=>k_is);(case k47=>k_is)
  (case a48=>k_is);(case l48=>k_is);(case c48=>k_is);(case k48=>k_is)
  (case a49=>k_is);(case l49=>k_is);(case c49=>k_is);(case k49=>k_is)
  (case a50=>k_is);(case l50=>k_is);(case c50=>k_is);(case k50=>k_is)
  (case a51=>k_is);(case l51=>k_is);(case c51=>k_is);(case k51=>k_is)
  (case a52=>k_is);(case l52=>k_is);(case c52=>k_is);(case k52=>k_is)
  (case a53=>k_is);(case l53=>k_is);(case c53=>k_is);(case k53=>k_is)
  (case a54=>k_is);(case l54=>k_is);(case c54=>k_is);(case k54=>k_is)
  (case a55=>k_is);(case l55=>k_is);(case c55=>k_is);(case k55=>k_is)
  (case z_set=>k_is)
  (case z_isinstance=>k_is)
  (case z_range=>k_is)
  (case z_all=>k_is)
  (case z_sorted=>k_is)
  (case z_abs=>k_is)
  (case z_sum=>k_is)
  (case z_len=>k_is)
  (case z_list=>k_is)
  (case z_zip=>k_is)
  (case z_int=>k_is)
  (case z_bool=>k_is)
  (case z_tuple=>k_is)
  (case z_ValueError=>k_is)
  (case ac_HideError=>k_is)
  (case ac_NoWeb=>k_is)
  (case ac_NoPlan=>k_is)
  (case ac_NoText=>k_is)
  (case ac_NoKind=>k_is)
  (case ac_TooGreat=>k_is)
  (case ac_NoTree=>k_is)
  (case ac_NoWeights=>k_is)
  (case ac_NoTurns=>k_is)
  (case ac_NoNumber=>k_is)
  (case ac_NoBoxes=>k_is)
  (case ac_NoBudget=>k_is)
  (case ac_NoName=>k_is)
  (case ac_NoOrder=>k_is)
  (case ac_NoPlay=>k_is)
  (case ac_NoRoad=>k_is)
  (case ac_NoRow=>k_is)
  (case ac_NoTable=>k_is)
  (case ac_NoPaper=>k_is)
  (case ak_MOST_BOXES=>k_is)
  (case ak_MOST_COST=>k_is)
  (case ak_MOST_OF=>k_is)
  (case ak_MOST_BUDGET=>k_is)
  (case ak_MOST_LOOKS=>k_is)
  (case xc_HideError=>k_exc)
  (case xc_NoBoxes=>k_exc)
  (case xc_NoBudget=>k_exc)
  (case vsg=>k_is)
  (case vrd=>k_is)
  (case vfc=>k_is)
  (case vin_NoPlan=>k_is)
  (case vl_NoPlan=>k_is)
  (case vc_NoPlan=>k_is)
  (case vk_NoPlan=>k_is)
  (case vlk_NoPlan=>k_is)
  (case vtl_NoPlan=>kernel_rfl)
  (case vfn_NoPlan=>k_is)
  (case vkp_NoPlan=>k_is)
  (case vmo_NoPlan=>k_is)
  (case vsa_NoPlan=>k_is)
  (case vga_NoPlan=>k_is)
  (case vgn_NoPlan=>k_is)
  (case vcl_NoPlan=>k_is)
  (case vmb_NoPlan=>k_is)
  (case vhd_NoPlan=>k_is)
  (case vna_NoPlan=>k_is)
  (case i_k_NoWeb=>kit_is)
  (case i_k_NoPlan=>kit_is)
  (case i_k_NoText=>kit_is)
  (case i_k_NoKind=>kit_is)
  (case i_k_TooGreat=>kit_is)
  (case i_k_NoTree=>kit_is)
  (case i_k_NoWeights=>kit_is)
  (case i_k_NoTurns=>kit_is)
  (case i_k_NoNumber=>kit_is)
  (case i_k_NoBoxes=>kit_is)
  (case i_k_NoBudget=>kit_is)
  (case i_k_NoName=>kit_is)
  (case i_k_NoOrder=>kit_is)
  (case i_k_NoPlay=>kit_is)
  (case i_k_NoRoad=>kit_is)
  (case i_k_NoRow=>kit_is)
  (case i_k_NoTable=>kit_is)
  (case i_k_NoPaper=>kit_is)
  (case i_k_ValueError=>kit_is)
  (case i_sub=>k_is)
  (case e_ga=>k_is)
  (case e_gn=>k_is)
  (case e_cl=>k_is)
  (case e_mb=>k_is)
  (case e_mo=>k_is)
  (case i2_k_NoWeb=>kit_is)
  (case i2_k_NoPlan=>kit_is)
  (case i2_k_NoText=>kit_is)
  (case i2_k_NoKind=>kit_is)
  (case i2_k_TooGreat=>kit_is)
  (case i2_k_NoTree=>kit_is)
  (case i2_k_NoWeights=>kit_is)
  (case i2_k_NoTurns=>kit_is)
  (case i2_k_NoNumber=>kit_is)
  (case i2_k_NoBoxes=>kit_is)
  (case i2_k_NoBudget=>kit_is)
  (case i2_k_NoName=>kit_is)
  (case i2_k_NoOrder=>kit_is)
  (case i2_k_NoPlay=>kit_is)
  (case i2_k_NoRoad=>kit_is)
  (case i2_k_NoRow=>kit_is)
  (case i2_k_NoTable=>kit_is)
  (case i2_k_NoPaper=>kit_is)
  (case i2_k_ValueError=>kit_is)
  (case i2_sub=>k_is)
  (case e2_ga=>k_is)
  (case e2_gn=>k_is)
  (case e2_cl=>k_is)
  (case e2_mb=>k_is)
  (case e2_mo=>k_is)
