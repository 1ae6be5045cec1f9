import PyProof.Rows.All
import Wide.All
import OpenK.AllK
import Wide.FinOn
import Lean
import PyProof.EqAt
import PyProof.EqKinds
import PyProof.TupleCall
import KE.IntBitsLaws
import PyProof.NeKinds
import KE.KIsAll
import PyProof.ExcAttrAll.ValueError
import KE.RegKIsAll
import OpenK.KOwn
import PyProof.ConsumeWalk
import PyProof.SumWalkG
import PyProof.Rows.SeqCalls
import PyProof.Rows.SeqGen
import PyProof.ZipIter
import PyProof.Rows.ZipGen
import PyProof.Rows.FactsT2
import PyProof.WalkInts
import PyProof.SeqI3
import PyProof.AutoSeq1
import PyProof.ListRange
import KE.KDictSum
import PyProof.Rows.SortWalk
import PyProof.Rows.SetFrom
import PyProof.TupleKey
import PyProof.SetRoads
import PyProof.FactsAll.set_1
import OpenK.ZGo
import PySem.Challenge.RW_hideworth_k26_whole_budgets_papers_let_b
open PySem.W renaming Frag→ψa,kia_one→ψh1,kitOne→ψX1
open List renaming length_map→ψb,getElem?_eq_getElem→ψc,mem_cons_of_mem→ψd,zipWith→ψe,mem_cons_self→ψf,size_toArray→ψg,Nodup→ψh,sum_cons→ψk,zip→ψl,length_zipWith→ψo,getElem?_of_mem→ψq,getElem?_map→ψt,map_cons→ψu,getD_eq_getElem?_getD→ψv,take_add_one→ψx,mem_append_right→ψB,length_take→ψG,take_length→ψH,zipWith_cons_cons→ψJ,getElem?_zip_eq_some→ψK,length_cons→ψM,map_append→ψO,mem_of_getElem?→ψP,take_of_length_le→ψQ,not_mem_nil→ψR,sum_nil→ψT,length_append→ψV,getElem?_zipWith→ψX,eq_nil_of_length_eq_zero→ψa1,mem_of_mem_take→ψb1,mem_cons→ψc1,getElem?_append_right→ψf1,getElem?_append_left→ψj1,map_congr_left→ψk1,zipWith_nil_left→ψl1,lookup_cons→ψo1,map_nil→ψp1,getElem_mem→ψs1,all_eq_true→ψz1,range→ψF1,mem_of_mem_drop→ψH1,length_drop→ψI1,zipWith_nil_right→ψL1,zip_cons_cons→ψP1,getElem?_eq_none→ψS1,mem_append_left→ψU1,getElem?_zipIdx→ψV1
open PyProof.Rows renaming boot_isinstance→ψi,boot_sum→ψI,boot_max→ψr1,callWith_type1→ψt1,boot_all→ψC1
open Rat renaming intCast_mul→ψj,divInt_eq_div→ψn,divInt→ψy,num_divInt_den→ψz,mul_le_mul_of_nonneg_right→ψA,le_of_lt→ψC,intCast_add→ψN,mul_le_mul_of_nonneg_left→ψW,intCast_sub→ψY,pow_succ→ψe1,mul_nonneg→ψg1,pow_zero→ψq1,mul_pos→ψw1,le_of_mul_le_mul_right→ψy1,le_refl→ψD1,mul_lt_mul_of_pos_right→ψQ1
open Nat renaming le_refl→ψm,lt_of_lt_of_le→ψp,ne_of_lt→ψs,le_trans→ψd1,zero_le→ψu1,lt_irrefl→ψx1,lt_of_le_of_lt→ψA1,not_lt_zero→ψG1,lt_succ_self→ψJ1,ne_of_gt→ψM1,zero_add→ψN1,lt_succ_of_lt→ψT1,lt_trans→ψZ1
open PySem renaming boot_len→ψr,mem_of_lookup→ψF
open Bool renaming false_ne_true→ψw,and_eq_true→ψL,eq_iff_iff→ψR1
open Int renaming le_of_lt→ψD,mul_ne_zero→ψS,gcd→ψU,fdiv_eq_ediv_of_nonneg→ψZ,fmod_nonneg_of_pos→ψi1,mul_fdiv_add_fmod→ψm1,eq_ofNat_of_zero_le→ψn1,mul_pos→ψv1,fmod_lt_of_pos→ψB1,mul_neg→ψE1,ediv_le_self→ψK1,mul_sub→ψW1,mul_nonneg→ψY1
open Classical renaming byContradiction→ψE
open PyProof.Rows.F renaming plain_set_update_loop→ψO1
set_option Elab.async false
set_option linter.all false
set_option maxRecDepth 100000
namespace L2
open PySem PySem.Spec PyProof.Rows
abbrev Key:=Sum Int Str
def zzI:Key→Value→Bool
 | .inl k,v=>Value.isInt k v
 | .inr x,v=>Value.isStrOf x v
def keyH(w:World):Key→Int
 | .inl k=>hashInt k
 | .inr x=>hashStr w x
theorem zcu:∀{k:Key} {v:Value},zzI k v=true→(∃i t,k=Sum.inl i∧v=Value.int i t)∨(∃x t,k=Sum.inr x∧v=Value.str x t)
 | .inl i,v,h=>by
  obtain⟨t,e⟩:=Value.isInt_shape (k:=i) (v:=v) h
  exact .inl ⟨i,t,rfl,e⟩
 | .inr x,v,h=>by
  obtain⟨t,e⟩:=Value.isStrOf_shape (x:=x) (v:=v) h
  exact .inr ⟨x,t,rfl,e⟩
theorem zyq(a b:Int):decide ((Sum.inl a:Key)=Sum.inl b)=(a == b):=by
 by_cases e:a=b
 ·subst e;simp
 ·have h:¬ (Sum.inl a:Key)=Sum.inl b:=λq=>e (Sum.inl.inj q)
  rw[decide_eq_false h]
  exact(beq_eq_false_iff_ne.mpr e).symm
theorem zye(a b:Str):decide ((Sum.inr a:Key)=Sum.inr b)=decide (a=b):=by
 by_cases e:a=b
 ·subst e;simp
 ·have h:¬ (Sum.inr a:Key)=Sum.inr b:=λq=>e (Sum.inr.inj q)
  rw[decide_eq_false h,decide_eq_false e]
theorem zyW(a:Int)(b:Str):decide ((Sum.inl a:Key)=Sum.inr b)=false:=decide_eq_false (λq=>nomatch q)
theorem zzG(a:Str)(b:Int):decide ((Sum.inr a:Key)=Sum.inl b)=false:=decide_eq_false (λq=>nomatch q)
def zn4(prog:Program)(w:World):PySem.KeyKind prog w Key where
 is:=zzI
 hash:=keyH w
 inj:=λv a b ha hb=>by
  rcases zcu ha with ⟨i,t,rfl,rfl⟩ | ⟨x,t,rfl,rfl⟩
  ·rcases zcu hb with ⟨j,u,rfl,e⟩ | ⟨y,u,rfl,e⟩
   ·injection e with e1 _;rw[e1]
   ·exact nomatch e
  ·rcases zcu hb with ⟨j,u,rfl,e⟩ | ⟨y,u,rfl,e⟩
   ·exact nomatch e
   ·injection e with e1 _;rw[e1]
 byValue:=λk v h=>by
  rcases zcu h with ⟨i,t,rfl,rfl⟩ | ⟨x,t,rfl,rfl⟩ <;> rfl
 pyHash:=λhv h=>by
  rcases zcu hv with ⟨i,t,rfl,rfl⟩ | ⟨x,t,rfl,rfl⟩
  ·exact wpAny_pyHash_int h
  ·exact wpAny_pyHash_str h
 eqBool:=λhu hv h=>by
  rcases zcu hu with ⟨i,t,rfl,rfl⟩ | ⟨x,t,rfl,rfl⟩
  ·rcases zcu hv with ⟨j,u,rfl,rfl⟩ | ⟨y,u,rfl,rfl⟩
   ·rw[zyq] at h;exact wpAny_eqBool_int h
   ·rw[zyW] at h;exact SeqAt.EqAt.int_str i t y u _ _ _ _ h
  ·rcases zcu hv with ⟨j,u,rfl,rfl⟩ | ⟨y,u,rfl,rfl⟩
   ·rw[zzG] at h;exact SeqAt.EqAt.str_int x t j u _ _ _ _ h
   ·rw[zye] at h;exact wpAny_eqBool_str h
 «strs»:=λk x t v h=>by
  rcases zcu h with ⟨i,u,rfl,e⟩ | ⟨y,u,rfl,e⟩
  ·exact nomatch e
  ·injection e with e1 _
   subst e1
   cases v <;> rfl
end L2
namespace L2
open PySem PySem.Spec PyProof.Rows
inductive V where
 | non | bl (b:Bool) | int (i:Int) | str (x:Str) | byt (b:Array UInt8) | flt (b:UInt64) | ref (a:Addr) | ty (n:String)
 deriving DecidableEq
def zdt:V→Value→Prop
 | .non,u=>u=Value.none
 | .bl b,u=>u=Value.bool b
 | .int i,u=>∃t,u=Value.int i t
 | .str x,u=>∃t,u=Value.str x t
 | .byt b,u=>∃t,u=Value.bytes b t
 | .flt b,u=>∃t,u=Value.float b t
 | .ref a,u=>u=Value.ref a
 | .ty n,u=>u=Value.type n
abbrev zcU:List V→List Value→Prop:=Paired zdt
theorem zcU.length{xs:List V}{us:List Value}(r:zcU xs us):xs.length=us.length:=Paired.length r
theorem zcU.get:∀{xs:List V} {us:List Value} {i:Nat} {x:V},zcU xs us→xs[i]?=some x→∃u,us[i]?=some u∧zdt x u
 | _,_,_,_,.nil,e=>by simp at e
 | _,_,0,_,.cons r _,e=>by simp at e;subst e;exact⟨_,rfl,r⟩
 | _,_,i+1,x,.cons _ t,e=>by
  obtain⟨u,h1,h2⟩:=zcU.get (i:=i) (x:=x) t (by simpa using e)
  exact⟨u,by simpa using h1,h2⟩
theorem zcU.set{x:V}{u:Value}(r:zdt x u):∀{xs:List V} {us:List Value} (i:Nat),zcU xs us→zcU (xs.set i x) (us.set i u)
 | _,_,_,.nil=>.nil
 | _,_,0,.cons _ t=>.cons r t
 | _,_,i+1,.cons q t=>.cons q (zcU.set r i t)
theorem zcU.append:∀{xs ys:List V} {us ws:List Value},zcU xs us→zcU ys ws→zcU (xs++ys) (us++ws)
 | _,_,_,_,.nil,s=>s
 | _,_,_,_,.cons r t,s=>.cons r (zcU.append t s)
theorem zcU.take:∀{xs:List V} {us:List Value} (n:Nat),zcU xs us→zcU (xs.take n) (us.take n)
 | _,_,0,_=>.nil
 | _,_,_+1,.nil=>.nil
 | _,_,n+1,.cons r t=>.cons r (zcU.take n t)
theorem zcU.drop:∀{xs:List V} {us:List Value} (n:Nat),zcU xs us→zcU (xs.drop n) (us.drop n)
 | _,_,0,r=>r
 | _,_,_+1,.nil=>.nil
 | _,_,n+1,.cons _ t=>zcU.drop n t
def RelO:Option V→Option Value→Prop
 | some v,some u=>zdt v u
 | none,none=>True
 | _,_=>False
def KV{κ:Type}:List (κ×V)→List (κ×Value)→Prop:=Paired λ(p:κ×V) (q:κ×Value)=>p.1=q.1∧zdt p.2 q.2
def kV:Key→V
 | .inl i=>.int i
 | .inr x=>.str x
inductive HO where
  | lst (xs:List V)
  | tup (xs:List V)
  | dK (kvs:List (Key×V)) | dT (kvs:List (List Key×V))
  | set (S:Int→Bool) (n:Nat)
  | ins (C dx:Addr) (fs:List (Str×V))
  | own (x:Addr)
  | xd (fs:List (Str×V))
  | met (f x:Addr)
  | rng (lo hi:Int)
  | frz (o:Obj) (u:HO)
  | tbl (ps:Array Value)
  | ext (φ:Heap→Prop)
abbrev Hp:=Addr→Option HO
def upd(H:Hp)(a:Addr)(o:HO):Hp:=λb=>if b=a then some o else H b
theorem zai{H:Hp}{a:Addr}{o:HO}:upd H a o a=some o:=by unfold upd;rw[if_pos rfl]
theorem zbg{H:Hp}{a b:Addr}{o:HO}(h:b≠a):upd H a o b=H b:=by unfold upd;rw[if_neg h]
theorem zaO{H:Hp}{a b:Addr}{o:HO}(h:H a=some o)(h':H b=none):a≠b:=by
 intro e;subst e;rw[h] at h';cases h'
section
variable (P:Program) (w:World)
def zev(H:Hp)(h:Heap)(a:Addr):HO→Prop
 | .lst xs=>xs.length≤sizeLine∧∃(its:List Value) (n:Nat),zcU xs its∧h.get? a=some { cls:=.type "list",data:=.seq its.toArray n }
 | .tup xs=>xs.length≤sizeLine∧∃its:List Value,zcU xs its∧IsTup h a its.toArray
 | .dK kvs=>kvs.length≤sizeLine∧(a == sysModules)=false∧∃vs,KV kvs vs∧h.DictOf (zn4 P w) a vs
 | .dT kvs=>kvs.length≤sizeLine∧(a == sysModules)=false∧∃xs:List (List Key×Addr×Value),
   Paired (λ(p:List Key×V) (q:List Key×Addr×Value)=>p.1=q.1∧H q.2.1=some (.tup (p.1.map kV))∧zdt p.2 q.2.2) kvs xs ∧
   ∃o es ep,h.get? a=some o∧o.ExactDict∧o.data=.dict es ep∧es.toList=xs.map (entryOfKey (tupleKind (zn4 P w)))∧(xs.map (·.1)).Nodup
 | .set S n=>h.SetOf (intKind P w) a S n
 | .ins C dx fs=>H dx=some (.own a)∧fs.length≤1000∧dx≠a∧h.get? a=some (PySem.W.instObj C dx) ∧
   ∃mA,h.Ns1 dx mA∧(∀f,RelO (fs.lookup f) (mA f))∧PySem.Within mA (fs.map (·.1))
 | .own _=>∃o,h.get? a=some o
 | .xd fs=>∃mA,h.Ns1 a mA∧∀f,RelO (fs.lookup f) (mA f)
 | .rng lo hi=>∃t u v,h.get? a=some { cls:=.type "range",data:=.fields #[.int lo t,.int hi u,.int 1 v] }
 | .frz o u=>h.get? a=some o∧zev H h a u
 | .tbl ps=>h.get? a=some { cls:=.none,data:=.fields ps }
 | .met f x=>h.get? a=some (PySem.W.methodObj (.ref f) (.ref x))
 | .ext φ=>φ h∧(∃o,h.get? a=some o)∧∀h1 h2:Heap,φ h1→(∀o,h1.get? a=some o→h2.get? a=some o)→φ h2
def HOk(H:Hp)(h:Heap):Prop:=∀a o,H a=some o→zev P w H h a o
end
section
variable {P:Program} {w:World} {H H':Hp} {h h':Heap} {a:Addr} {o:HO}
theorem zev.lt(x:zev P w H h a o):a<h.objs.size:=by
 cases o with
 | lst xs=>obtain⟨_,_,_,_,e⟩:=x;exact Heap.lt_size e
 | tup xs=>obtain⟨_,_,_,p⟩:=x;exact p.lt
 | dK kvs=>obtain⟨_,_,_,_,o,_,_,e,_⟩:=x;exact Heap.lt_size e
 | dT kvs=>obtain⟨_,_,_,_,o,_,_,e,_⟩:=x;exact Heap.lt_size e
 | set S n=>obtain⟨o,_,_,_,e,_⟩:=x;exact Heap.lt_size e
 | ins C dx fs=>obtain⟨_,_,_,e,_⟩:=x;exact Heap.lt_size e
 | own y=>obtain⟨_,e⟩:=x;exact Heap.lt_size e
 | xd fs=>obtain⟨_,⟨_,_,_,e,_⟩,_⟩:=x;exact Heap.lt_size e
 | rng lo hi=>obtain⟨_,_,_,e⟩:=x;exact Heap.lt_size e
 | frz ob u=>obtain⟨e,_⟩:=x;exact Heap.lt_size e
 | tbl ps=>exact Heap.lt_size (show h.get? a=some _ from x)
 | met f y=>exact Heap.lt_size (show h.get? a=some _ from x)
 | ext φ=>obtain⟨_,⟨_,e⟩,_⟩:=x;exact Heap.lt_size e
theorem Paired.mapP{α β:Type}{F G:α→β→Prop}:∀{l₁:List α} {l₂:List β},Paired F l₁ l₂→(∀a b,F a b→G a b)→Paired G l₁ l₂
 | _,_,.nil,_=>.nil
 | _,_,.cons r t,f=>.cons (f _ _ r) (Paired.mapP t f)
theorem zev.stay(x:zev P w H h a o)(k:∀b u,(b=a∨H b=some (.own a))→h.get? b=some u→h'.get? b=some u)
  (ho:∀b,H b=some (.own a)→H' b=some (.own a)) (ht:∀b xs,H b=some (.tup xs)→H' b=some (.tup xs)):zev P w H' h' a o:=by
 induction o with
 | lst xs=>obtain⟨z,its,n,r,e⟩:=x;exact⟨z,its,n,r,k _ _ (.inl rfl) e⟩
 | tup xs=>obtain⟨z,its,r,ob,e,c⟩:=x;exact⟨z,its,r,ob,k _ _ (.inl rfl) e,c⟩
 | dK kvs=>obtain⟨z,y,vs,r,ob,es,ep,e,c⟩:=x;exact⟨z,y,vs,r,ob,es,ep,k _ _ (.inl rfl) e,c⟩
 | dT kvs =>
  obtain⟨z,y,xs,r,ob,es,ep,e,c⟩:=x
  exact⟨z,y,xs,Paired.mapP r λp q z=>⟨z.1,ht _ _ z.2.1,z.2.2⟩,ob,es,ep,k _ _ (.inl rfl) e,c⟩
 | set S n=>obtain⟨ob,es,ep,t,e,c⟩:=x;exact⟨ob,es,ep,t,k _ _ (.inl rfl) e,c⟩
 | ins C dx fs =>
  obtain⟨d,z,ne,e,mA,⟨od,es,ep,e2,c⟩,r⟩:=x
  exact⟨ho _ d,z,ne,k _ _ (.inl rfl) e,mA,⟨od,es,ep,k _ _ (.inr d) e2,c⟩,r⟩
 | own y=>obtain⟨ob,e⟩:=x;exact⟨ob,k _ _ (.inl rfl) e⟩
 | xd fs=>obtain⟨mA,⟨od,es,ep,e,c⟩,r⟩:=x;exact⟨mA,⟨od,es,ep,k _ _ (.inl rfl) e,c⟩,r⟩
 | rng lo hi=>obtain⟨t,u,v,e⟩:=x;exact⟨t,u,v,k _ _ (.inl rfl) e⟩
 | frz ob u ih=>obtain⟨e,q⟩:=x;exact⟨k _ _ (.inl rfl) e,ih q⟩
 | tbl ps =>
  have e:h.get? a=some { cls:=.none,data:=.fields ps }:=x
  show h'.get? a=some { cls:=.none,data:=.fields ps }
  exact k a _ (.inl rfl) e
 | met f y =>
  have e:h.get? a=some (PySem.W.methodObj (.ref f) (.ref y)):=x
  show h'.get? a=some (PySem.W.methodObj (.ref f) (.ref y))
  exact k a _ (.inl rfl) e
 | ext φ=>obtain⟨p,⟨o,e⟩,st⟩:=x;exact⟨st _ _ p λo q=>k _ _ (.inl rfl) q,⟨o,k _ _ (.inl rfl) e⟩,st⟩
theorem HOk.lt(x:HOk P w H h)(e:H a=some o):a<h.objs.size:=(x a o e).lt
theorem HOk.fresh(x:HOk P w H h)(e:h.objs.size≤a):H a=none:=by
 cases q:H a with
 | none=>rfl
 | some u=>exact absurd (ψp (x.lt q) e) (ψx1 _)
theorem HOk.kept(x:HOk P w H h)(k:∀b u,h.get? b=some u→h'.get? b=some u):HOk P w H h':=λa o e =>
 (x a o e).stay (λb u _ q=>k b u q) (λ_ q=>q) λ_ _ q=>q
theorem HOk.laid(x:HOk P w H h)(k:∀b u,h.get? b=some u→h'.get? b=some u)(hp:h.objs.size≤a)(new:zev P w (upd H a o) h' a o):HOk P w (upd H a o) h':=λb u e=>by
 have hn:=x.fresh hp
 by_cases hb:b=a
 ·subst hb;rw[zai] at e;cases e;exact new
 ·rw[zbg hb] at e
  exact(x b u e).stay (λc v _ q=>k c v q) (λc q=>by rw[zbg (zaO q hn)];exact q) λc xs q=>by rw[zbg (zaO q hn)];exact q
end
def Rd(H:Hp)(a:Addr)(u:HO):Prop:=H a=some u∨∃o,H a=some (.frz o u)
theorem Rd.ok{P:Program}{w:World}{H:Hp}{h:Heap}{a:Addr}{u:HO}(r:Rd H a u)(x:HOk P w H h):zev P w H h a u:=by
 rcases r with r | ⟨o,r⟩
 ·exact x a u r
 ·obtain⟨_,q⟩:=x a _ r
  exact q
def Mut:Option HO→Prop
 | some (.lst _)=>True
 | some (.dK _)=>True
 | some (.dT _)=>True
 | some (.set _ _)=>True
 | some (.ins _ _ _)=>True
 | some (.ext _)=>True
 | _=>False
section
variable {P:Program} {w:World} {H:Hp} {h h':Heap} {x e:Addr} {o':HO}
theorem HOk.write(ok:HOk P w H h)(mu:Mut (H x))(he:e=x∨H e=some (.own x))(k:∀b u,b≠e→h.get? b=some u→h'.get? b=some u)(heo:∃u,h'.get? e=some u)
  (new:zev P w (upd H x o') h' x o'):HOk P w (upd H x o') h':=λb u q=>by
 have nown:∀c y,H c=some (.own y)→c≠x:=λc y r z=>by subst z;rw[r] at mu;exact mu
 have ntup:∀c xs,H c=some (.tup xs)→c≠x:=λc xs r z=>by subst z;rw[r] at mu;exact mu
 by_cases hb:b=x
 ·subst hb;rw[zai] at q;cases q;exact new
 ·rw[zbg hb] at q
  by_cases hbe:b=e
  ·have q':H b=some (.own x):=by
    rcases he with z | z
    ·exact absurd (hbe.trans z) hb
    ·rw[hbe];exact z
   rw[q] at q';cases q'
   obtain⟨v,hv⟩:=heo
   exact⟨v,by rw[hbe];exact hv⟩
  ·refine(ok b u q).stay (λc v hc r=>k c v ?_ r) (λc r=>by rw[zbg (nown c b r)];exact r) λc xs r=>by rw[zbg (ntup c xs r)];exact r
   rcases hc with rfl | hc
   ·exact hbe
   ·rintro rfl
    rcases he with z | z
    ·exact nown c b hc z
    ·rw[hc] at z;cases z;exact hb rfl
end
structure Un (fs ex:List Addr) (H H':Hp) (h h':Heap):Prop where
 keep:∀b o,h.get? b=some o→H b=none→b∉fs→b∉ex→h'.get? b=some o
 slot:∀b o,h.get? b=some o→H b=none→b∈fs→b∉ex→∃sl,h'.get? b=some { o with slots:=sl }
 free:∀b o,h.get? b=some o→H b=none→b∉ex→H' b=none
 there:∀b o,h.get? b=some o→b∉ex→∃o',h'.get? b=some o'
 tups:∀b xs,H b=some (.tup xs)→H' b=some (.tup xs)
 frzs:∀b o u,H b=some (.frz o u)→H' b=some (.frz o u)
 tbls:∀b ps,H b=some (.tbl ps)→∃more,H' b=some (.tbl (ps++more))
section
variable {fs fs' ex ex':List Addr} {H H1 H2:Hp} {h h1 h2 h':Heap} {a x e:Addr} {o:HO}
theorem Un.any(u:Un fs ex H H1 h h1){b:Addr}{ob:Obj}(q:h.get? b=some ob)(n:H b=none)(hx:b∉ex):∃sl,h1.get? b=some { ob with slots:=sl }:=by
 by_cases hb:b∈fs
 ·exact u.slot b ob q n hb hx
 ·exact⟨ob.slots,u.keep b ob q n hb hx⟩
theorem Un.kept(k:∀b u,h.get? b=some u→h'.get? b=some u):Un fs ex H H h h' :=
 ⟨λb ob q _ _ _=>k b ob q,λb ob q _ _ _=>⟨ob.slots,k b ob q⟩,λ_ _ _ n _=>n,λb ob q _=>⟨ob,k b ob q⟩,λ_ _ q=>q,λ_ _ _ q=>q,λ_ ps q=>⟨#[],by rw[q];simp⟩⟩
theorem Un.refl:Un fs ex H H h h:=Un.kept λ_ _ q=>q
theorem Un.laid(k:∀b u,h.get? b=some u→h'.get? b=some u)(hp:h.objs.size≤a)(hn:H a=none):Un fs ex H (upd H a o) h h' where
 keep:=λb u q _ _ _=>k b u q
 slot:=λb u q _ _ _=>⟨u.slots,k b u q⟩
 free:=λb u q n _=>by rw[zbg (ψs (ψp (Heap.lt_size q) hp))];exact n
 there:=λb u q _=>⟨u,k b u q⟩
 tups:=λb xs q=>by rw[zbg (zaO q hn)];exact q
 frzs:=λb u xs q=>by rw[zbg (zaO q hn)];exact q
 tbls:=λb ps q=>⟨#[],by rw[zbg (zaO q hn),q];simp⟩
theorem Un.write(mu:Mut (H x))(he:e=x∨H e=some (.own x))(k:∀b u,b≠e→h.get? b=some u→h'.get? b=some u)(heo:∃u,h'.get? e=some u):Un fs ex H (upd H x o) h h':=by
 have hx:∀b,H b=none→b≠x:=λb n z=>by subst z;rw[n] at mu;exact mu
 have hb:∀b,H b=none→b≠e:=λb n z=>by
  subst z
  rcases he with r | r
  ·exact hx b n r
  ·rw[n] at r;cases r
 have hm:∀b u,H b=some u→¬ Mut (some u)→b≠x:=λb u q nm z=>by subst z;rw[q] at mu;exact nm mu
 refine⟨λb u q n _ _=>k b u (hb b n) q,λb u q n _ _=>⟨u.slots,k b u (hb b n) q⟩,λb u q n _=>by rw[zbg (hx b n)];exact n,λb u q _=>?_,
  λb xs q=>by rw[zbg (hm b _ q λz=>z)];exact q,λb u xs q=>by rw[zbg (hm b _ q λz=>z)];exact q,λb ps q=>⟨#[],by rw[zbg (hm b _ q λz=>z),q];simp⟩⟩
 by_cases hbe:b=e
 ·subst hbe;exact heo
 ·exact⟨u,k b u hbe q⟩
end
def trk(h:Heap)(H:Hp):List Addr:=(ψF1 h.objs.size).filter λa=>(H a).isSome
def zt7(h:Heap)(H:Hp):Heap:=PySem.W.hideAll h (trk h H)
theorem zrS(h:Heap)(H:Hp):(zt7 h H).objs.size=h.objs.size:=PySem.W.hideAll_size _ _
theorem zuG{h:Heap}{H:Hp}{b:Addr}{o:Obj}(e:h.get? b=some o)(n:H b=none):(zt7 h H).get? b=some o :=
 PySem.W.hideAll_get _ e λhm=>by
  have q:(H b).isSome=true:=(List.mem_filter.mp hm).2
  rw[n] at q;simp at q
theorem zxc{h:Heap}{H:Hp}{b:Addr}{o:Obj}(e:(zt7 h H).get? b=some o):h.get? b=some o∧H b=none:=by
 have e':h.get? b=some o:=PySem.W.of_hideAll (trk h H) e
 refine⟨e',?_⟩
 cases q:H b with
 | none=>rfl
 | some x =>
  have hm:b∈trk h H:=List.mem_filter.mpr ⟨List.mem_range.mpr (Heap.lt_size e'),by simp[q]⟩
  have z:(zt7 h H).get? b=none:=PySem.W.hideAll_none (trk h H) hm
  rw[z] at e;cases e
def zxn(g h:Heap)(L:Addr):List (Addr×Obj):=(ψF1 h.objs.size).filterMap λa=>if a=L∨(g.get? a).isSome=true then none else (h.get? a).map λo=>(a,o)
def rest(g h:Heap)(L d:Addr):List (Addr×Obj):=(zxn g h L).filter λp=>decide (p.1≠d)
end L2
namespace L2
open PySem PySem.Spec PyProof.Rows
structure Mod (K:ψa) (mg:Str→Option Value) (base:Heap):Prop where
 kin:K.In base
 glob:base.Ns mainGlobals mg
 blt:∃mb,base.Ns builtinsNs mb∧∀x:Str,x≠"__name__"→mb x=bootBuiltins x
 nolimit:base.NoLimit
structure Cx where
 prog:Program
 w:World
 K:ψa
 mg:Str→Option Value
 base:Heap
 A:Around
 N:List Str
 s₀:Shared
 H₀:Hp
 env:Env
 outer:List Env
 stack:List Env
 ex:List Addr
 fn:Str→Bool
 calm:Bool
 pn:List (Addr×Obj)
 xe:Value→Shared→Prop
def frs(l:List Env):List Addr:=l.filterMap (·.frame)
abbrev Cx.fs(X:Cx):List Addr:=frs X.outer
def Vis(sc:Scope)(x:Str):Prop:=sc.names.lookup x=some .local∨sc.names.lookup x=some .cell∨sc.names.lookup x=some .free
def Loc(sc:Scope)(x:Str):Prop:=sc.names.lookup x=some .local∨sc.names.lookup x=some .cell
def Look(env:Env)(h:Heap)(m:Str→Option Value)(x:Str)(u:Value):Prop :=
 (env.kindOf x=some .local∧m x=some u)∨((env.kindOf x=some .cell∨env.kindOf x=some .free)∧∃c,env.cells.lookup x=some c∧h.IsCell c (some u))
structure Cx.Ok (X:Cx):Prop where
 mod:Mod X.K X.mg X.base
 kind:X.env.scope.kind=.function
 glob:X.env.globals=mainGlobals
 blt:X.env.builtins=builtinsNs
 above:X.s₀.heap.objs.size≤X.env.locals
 inj:∀x y c,X.env.cells.lookup x=some c→X.env.cells.lookup y=some c→x=y
 has:∀x,(X.env.kindOf x=some .cell∨X.env.kindOf x=some .free)→∃c,X.env.cells.lookup x=some c
 cab:∀x c,X.fn x=true→X.env.cells.lookup x=some c→X.s₀.heap.objs.size≤c
 hd:X.calm=true→X.A.handled=none
 frames:X.A.frames=some X.stack
 stk:X.stack=X.outer∨(X.stack=X.env::X.outer∧X.env.frame=some X.env.locals)
 exf:∀b∈X.ex,b≠X.env.locals∧∀x c,X.env.cells.lookup x=some c→c≠b
 bs:∀b o,X.base.get? b=some o→X.s₀.heap.get? b=some o∧X.H₀ b=none
 bsz:X.base.objs.size≤X.s₀.heap.objs.size
 noex:∀b o,X.base.get? b=some o→b∉X.ex
 exfs:∀b∈X.ex,b∉X.fs
 funs:X.s₀.heap.FunFrames X.base X.outer
 frf:∀b∈X.fs,X.H₀ b=none
structure Inv (X:Cx) (pins:List (Addr×Obj)) (σ:List (Option V)) (H:Hp) (s:Shared):Prop where
 ok:X.Ok
 os:s.os=X.s₀.os
 bare:AllBare s.gens
 base:Un X.fs X.ex X.H₀ H X.s₀.heap s.heap
 loc:∃m,s.heap.Ns X.env.locals m∧∀(i:Nat) (x:Str) (v:V),X.N[i]?=some x→σ[i]?=some (some v)→Vis X.env.scope x→∃u,zdt v u∧Look X.env s.heap m x u
 cell:∀x c,X.env.cells.lookup x=some c→∃v,s.heap.IsCell c v
 free:H X.env.locals=none
 freeC:∀x c,X.env.cells.lookup x=some c→H c=none
 pin:∀p∈X.pn++pins,s.heap.get? p.1=some p.2∧H p.1=none∧p.1≠X.env.locals∧p.1∉X.fs∧∀v,p.2.data≠.cell v
 hok:HOk X.prog X.w H s.heap
 len:σ.length=X.N.length
section
variable {X:Cx} {pins:List (Addr×Obj)} {σ:List (Option V)} {H H':Hp} {s:Shared} {h':Heap}
theorem Cx.Ok.nofr(ok:X.Ok){b:Addr}{o:Obj}(e:X.base.get? b=some o):b∉X.fs:=λhb=>by
 have:=(ok.funs.mem hb).1
 rw[e] at this;cases this
theorem Inv.bs(I:Inv X pins σ H s):∀b o,X.base.get? b=some o→s.heap.get? b=some o∧H b=none:=λb o e =>
 ⟨I.base.keep b o (I.ok.bs b o e).1 (I.ok.bs b o e).2 (I.ok.nofr e) (I.ok.noex b o e),I.base.free b o (I.ok.bs b o e).1 (I.ok.bs b o e).2 (I.ok.noex b o e)⟩
theorem Inv.bk(I:Inv X pins σ H s):∀b o,X.base.get? b=some o→s.heap.get? b=some o:=λb o e=>(I.bs b o e).1
theorem Inv.mod(I:Inv X pins σ H s):Mod X.K X.mg X.base:=I.ok.mod
theorem Inv.kIn(I:Inv X pins σ H s):X.K.In s.heap:=I.ok.mod.kin.keeps I.bk
theorem Inv.lt(I:Inv X pins σ H s):X.env.locals<s.heap.objs.size:=let ⟨_,hn,_⟩:=I.loc;hn.lt
theorem Inv.sz(I:Inv X pins σ H s):X.s₀.heap.objs.size≤s.heap.objs.size:=ψd1 I.ok.above (Nat.le_of_lt I.lt)
theorem Inv.nofs(I:Inv X pins σ H s){a:Addr}(h:s.heap.objs.size≤a):a∉X.fs:=λhb=>by
 obtain⟨_,o,ho,_⟩:=I.ok.funs.mem hb
 exact absurd (ψp (Heap.lt_size ho) (ψd1 I.sz h)) (ψx1 _)
theorem Inv.cne(I:Inv X pins σ H s):∀x c,X.env.cells.lookup x=some c→c≠X.env.locals:=λx c e z=>by
 obtain⟨v,o,ho,hd⟩:=I.cell x c e
 obtain⟨m,⟨o',es,ep,ho',hd',_⟩,_⟩:=I.loc
 rw[z,ho'] at ho;cases ho;rw[hd'] at hd;cases hd
theorem Inv.funs(I:Inv X pins σ H s):s.heap.FunFrames X.base X.outer:=by
 have all:∀(l:List Env),(∀b∈frs l,b∈X.fs)→X.s₀.heap.FunFrames X.base l→s.heap.FunFrames X.base l:=by
  intro l
  induction l with
  | nil=>intro _ _;trivial
  | cons env r ih =>
   intro hs hl
   obtain⟨hk,⟨L,o,hf,hn,ho,hd⟩,hr⟩:=hl
   have hL:L∈X.fs:=hs L (by unfold frs;rw[List.filterMap_cons,hf];exact ψf)
   obtain⟨sl,e⟩:=I.base.slot L o ho (I.ok.frf L hL) hL λz=>I.ok.exfs L z hL
   exact⟨hk,⟨L,_,hf,hn,e,hd⟩,ih (λb hb=>hs b (by unfold frs;rw[List.filterMap_cons,hf];exact ψd _ hb)) hr⟩
 exact all X.outer (λ_ hb=>hb) I.ok.funs
theorem Inv.stack(I:Inv X pins σ H s):s.heap.FunFrames X.base X.stack:=by
 rcases I.ok.stk with e | ⟨e,hf⟩
 ·rw[e];exact I.funs
 ·rw[e]
  obtain⟨m,hn,_⟩:=I.loc
  refine .cons (by rw[I.ok.kind];decide) hf hn ?_ I.funs
  exact Heap.get?_none_of_le (ψd1 I.ok.bsz I.ok.above)
theorem Inv.stkSub(I:Inv X pins σ H s):∀b∈frs X.stack,b∈X.env.locals::X.fs:=λb hb=>by
 rcases I.ok.stk with e | ⟨e,hf⟩
 ·rw[e] at hb;exact ψd _ hb
 ·rw[e] at hb
  unfold frs at hb
  rw[List.filterMap_cons,hf] at hb
  exact hb
theorem Inv.stkFree(I:Inv X pins σ H s):∀b∈frs X.stack,H b=none:=λb hb=>by
 rcases List.mem_cons.mp (I.stkSub b hb) with e | hb
 ·rw[e];exact I.free
 ·obtain⟨_,o,ho,_⟩:=I.ok.funs.mem hb
  exact I.base.free b o ho (I.ok.frf b hb) λz=>I.ok.exfs b z hb
theorem Inv.step{g':Array GenState}{t':Nat}{d':Drawn}{ch:List Addr}(I:Inv X pins σ H s)
  (hch:∀b∈ch,(b∈X.ex∨X.s₀.heap.objs.size≤b)∧b≠X.env.locals∧(∀x c,X.env.cells.lookup x=some c→c≠b)∧∀p∈X.pn++pins,p.1≠b)
  (keep:∀b o,b≠X.env.locals→b∉X.fs→b∉ch→s.heap.get? b=some o→H b=none→h'.get? b=some o)
  (slot:∀b o,b≠X.env.locals→b∈X.fs→b∉ch→s.heap.get? b=some o→H b=none→∃sl,h'.get? b=some { o with slots:=sl }) (free:∀b o,b∉ch→s.heap.get? b=some o→H b=none→H' b=none)
  (there:∀b o,b∉ch→s.heap.get? b=some o→∃o',h'.get? b=some o')
  (tups:∀b xs,H b=some (.tup xs)→H' b=some (.tup xs)) (frzs:∀b o u,H b=some (.frz o u)→H' b=some (.frz o u)) (tbls:∀b ps,H b=some (.tbl ps)→∃more,H' b=some (.tbl (ps++more)))
  (ns:∀m,s.heap.Ns X.env.locals m→h'.Ns X.env.locals m) (hok:HOk X.prog X.w H' h') (hg:AllBare g') :
  Inv X pins σ H' { s with heap:=h',gens:=g',drawn:=d',toks:=t' }:=by
 have neL:∀b o,X.s₀.heap.get? b=some o→b≠X.env.locals:=λb o e=>ψs (ψp (Heap.lt_size e) I.ok.above)
 have neC:∀b o,X.s₀.heap.get? b=some o→b∉X.ex→b∉ch:=λb o e hx hb=>by
  rcases(hch b hb).1 with z | z
  ·exact hx z
  ·exact absurd (ψp (Heap.lt_size e) z) (ψx1 _)
 have cellK:∀x c,X.env.cells.lookup x=some c→∀v,s.heap.IsCell c v→h'.IsCell c v:=λx c e v ⟨o,ho,hd⟩=>by
  have nch:c∉ch:=λz=>(hch c z).2.2.1 x c e rfl
  by_cases hc:c∈X.fs
  ·obtain⟨sl,q⟩:=slot c o (I.cne x c e) hc nch ho (I.freeC x c e)
   exact⟨_,q,hd⟩
  ·exact⟨o,keep c o (I.cne x c e) hc nch ho (I.freeC x c e),hd⟩
 refine⟨I.ok,I.os,hg,⟨λb o e n hb hx=>?_,λb o e n hb hx=>?_,λb o e n hx=>?_,λb o e hx=>?_,λb xs e=>tups b xs (I.base.tups b xs e),λb o xs e=>frzs b o xs (I.base.frzs b o xs e),λb ps e=>?_⟩,?_,λx c e=>?_,?_,λx c e=>?_,λp hp=>?_,hok,I.len⟩
 ·exact keep b o (neL b o e) hb (neC b o e hx) (I.base.keep b o e n hb hx) (I.base.free b o e n hx)
 ·obtain⟨sl,e1⟩:=I.base.slot b o e n hb hx
  obtain⟨sl',e2⟩:=slot b _ (neL b o e) hb (neC b o e hx) e1 (I.base.free b o e n hx)
  exact⟨sl',e2⟩
 ·obtain⟨o',e1⟩:=I.base.there b o e hx
  exact free b o' (neC b o e hx) e1 (I.base.free b o e n hx)
 ·obtain⟨o',e1⟩:=I.base.there b o e hx
  exact there b o' (neC b o e hx) e1
 ·obtain⟨m1,e1⟩:=I.base.tbls b ps e
  obtain⟨m2,e2⟩:=tbls b _ e1
  exact⟨m1++m2,by rw[e2,Array.append_assoc]⟩
 ·obtain⟨m,hn,hl⟩:=I.loc
  refine⟨m,ns m hn,λi x v e1 e2 e3=>?_⟩
  obtain⟨u,r,l⟩:=hl i x v e1 e2 e3
  refine⟨u,r,?_⟩
  rcases l with l | ⟨k,c,e,z⟩
  ·exact .inl l
  ·exact .inr ⟨k,c,e,cellK x c e _ z⟩
 ·obtain⟨v,z⟩:=I.cell x c e
  exact⟨v,cellK x c e v z⟩
 ·obtain⟨m,⟨o,_,_,ho,_⟩,_⟩:=I.loc
  exact free _ o (λz=>(hch _ z).2.1 rfl) ho I.free
 ·obtain⟨v,o,ho,hd⟩:=I.cell x c e
  exact free c o (λz=>(hch c z).2.2.1 x c e rfl) ho (I.freeC x c e)
 ·obtain⟨e,n,ne,nf,d⟩:=I.pin p hp
  have nch:p.1∉ch:=λz=>(hch p.1 z).2.2.2 p hp rfl
  exact⟨keep p.1 p.2 ne nf nch e n,free p.1 p.2 nch e n,ne,nf,d⟩
theorem Inv.un{t':Nat}(I:Inv X pins σ H s)(u:Un X.fs [] H H' s.heap h')(hok:HOk X.prog X.w H' h'):Inv X pins σ H' { s with heap:=h',toks:=t' }:=by
 obtain⟨m,⟨o,es,ep,ho,r⟩,_⟩:=id I.loc
 obtain⟨sl,hL⟩:=u.any ho I.free (by simp)
 exact I.step (g':=s.gens) (d':=s.drawn) (ch:=[]) (λ_ z=>nomatch z) (λb o _ hb _ e n=>u.keep b o e n hb (by simp)) (λb o _ hb _ e n=>u.slot b o e n hb (by simp)) (λb o _ e n=>u.free b o e n (by simp)) (λb o _ e=>u.there b o e (by simp)) u.tups u.frzs u.tbls (λm' hm=>by
  obtain⟨o',es',ep',ho',r'⟩:=hm
  rw[ho] at ho';cases ho'
  exact⟨_,es',ep',hL,r'⟩) hok I.bare
theorem Inv.call{g':Array GenState}{t':Nat}{d':Drawn}{ch:List Addr}(I:Inv X pins σ H s)(u:Un (frs X.stack) ch H H' s.heap h')(hok:HOk X.prog X.w H' h')(hg:AllBare g')
  (hch:∀b∈ch,(b∈X.ex∨X.s₀.heap.objs.size≤b)∧b≠X.env.locals∧(∀x c,X.env.cells.lookup x=some c→c≠b)∧∀p∈X.pn++pins,p.1≠b) :
  Inv X pins σ H' { s with heap:=h',gens:=g',drawn:=d',toks:=t' }:=by
 obtain⟨m,⟨o,es,ep,ho,r⟩,_⟩:=id I.loc
 obtain⟨sl,hL⟩:=u.any ho I.free λz=>(hch _ z).2.1 rfl
 exact I.step (ch:=ch) hch (λb o hL hb hc e n=>u.keep b o e n (λz=>(List.mem_cons.mp (I.stkSub b z)).elim hL hb) hc) (λb o _ _ hc e n=>u.any e n hc) (λb o hc e n=>u.free b o e n hc) (λb o hc e=>u.there b o e hc) u.tups u.frzs u.tbls (λm' hm=>by
  obtain⟨o',es',ep',ho',r'⟩:=hm
  rw[ho] at ho';cases ho'
  exact⟨_,es',ep',hL,r'⟩) hok hg
theorem Inv.turned{t':Nat}{it:Addr}(I:Inv X pins σ H s)(k:∀b o,b≠it→s.heap.get? b=some o→h'.get? b=some o)(hn:H it=none)(hL:it≠X.env.locals)
  (h1:it∈X.ex∨X.s₀.heap.objs.size≤it) (h2:∀x c,X.env.cells.lookup x=some c→c≠it) (h3:∀p∈X.pn++pins,p.1≠it):Inv X pins σ H { s with heap:=h',toks:=t' }:=by
 have nit:∀b u,H b=some u→b≠it:=λb u e z=>by rw[z,hn] at e;cases e
 refine I.step (g':=s.gens) (d':=s.drawn) (ch:=[it]) (λb hb=>?_) (λb o _ _ hc e _=>k b o (λz=>hc (by simp[z])) e) (λb o _ _ hc e _=>⟨o.slots,k b o (λz=>hc (by simp[z])) e⟩) (λ_ _ _ _ n=>n)
  (λb o hc e=>⟨o,k b o (λz=>hc (by simp[z])) e⟩) (λ_ _ e=>e) (λ_ _ _ e=>e) (λb ps e=>⟨#[],by rw[e];simp⟩) (λm hm=>?_) (λb u e=>?_) I.bare
 ·have e:b=it:=by simpa using hb
  subst e
  exact⟨h1,hL,h2,h3⟩
 ·obtain⟨o,es,ep,ho,r⟩:=hm
  exact⟨o,es,ep,k _ o (Ne.symm hL) ho,r⟩
 ·refine(I.hok b u e).stay (λc v hc q=>k c v ?_ q) (λ_ q=>q) λ_ _ q=>q
  rcases hc with z | z
  ·rw[z];exact nit b u e
  ·exact nit c _ z
theorem Inv.tok(I:Inv X pins σ H s)(t:Nat):Inv X pins σ H { s with toks:=t }:=I.un (h':=s.heap) (t':=t) Un.refl I.hok
theorem Inv.kept{t':Nat}(I:Inv X pins σ H s)(k:∀b u,s.heap.get? b=some u→h'.get? b=some u):Inv X pins σ H { s with heap:=h',toks:=t' }:=I.un (Un.kept k) (I.hok.kept k)
theorem Inv.laid{a:Addr}{o:HO}{t':Nat}(I:Inv X pins σ H s)(k:∀b u,s.heap.get? b=some u→h'.get? b=some u)(hp:s.heap.objs.size≤a)(new:zev X.prog X.w (upd H a o) h' a o) :
  Inv X pins σ (upd H a o) { s with heap:=h',toks:=t' }:=I.un (Un.laid k hp (I.hok.fresh hp)) (I.hok.laid k hp new)
theorem Inv.write{x e:Addr}{o:HO}{t':Nat}(I:Inv X pins σ H s)(mu:Mut (H x))(he:e=x∨H e=some (.own x))(k:∀b u,b≠e→s.heap.get? b=some u→h'.get? b=some u)(heo:∃u,h'.get? e=some u)
  (new:zev X.prog X.w (upd H x o) h' x o):Inv X pins σ (upd H x o) { s with heap:=h',toks:=t' }:=I.un (Un.write mu he k heo) (I.hok.write mu he k heo new)
theorem Inv.pins_of{pins':List (Addr×Obj)}(I:Inv X pins σ H s)(h:∀p∈pins',s.heap.get? p.1=some p.2∧H p.1=none∧p.1≠X.env.locals∧p.1∉X.fs∧∀v,p.2.data≠.cell v):Inv X pins' σ H s :=
 ⟨I.ok,I.os,I.bare,I.base,I.loc,I.cell,I.free,I.freeC,λp hp=>(List.mem_append.mp hp).elim (λz=>I.pin p (ψU1 _ z)) (h p),I.hok,I.len⟩
theorem zpb{N:List Str}(hN:N.Nodup){i j:Nat}{x:Str}(a:N[i]?=some x)(b:N[j]?=some x):i=j:=by
 obtain⟨h1,e1⟩:=List.getElem?_eq_some_iff.mp a
 obtain⟨h2,e2⟩:=List.getElem?_eq_some_iff.mp b
 exact(List.getElem_inj hN).mp (e1.trans e2.symm)
theorem zji{M:Model}{A:Around}{E:Value→Shared→Prop}{i:Nat}{x:Str}{v:V}{u:Value}{Q:Unit→Shared→Prop}(I:Inv X pins σ H s)(hN:X.N.Nodup)(hi:X.N[i]?=some x)(hx:Loc X.env.scope x)(r:zdt v u)
  (h:∀s',Inv X pins (σ.set i (some v)) H s'→(∃a,Heap.SameBut a s.heap s'.heap∧(a=X.env.locals∨X.env.cells.lookup x=some a))→Q () s') (hf:X.fn x=true∨X.env.scope.names.lookup x=some .local:=by first | exact .inl rfl | exact .inr rfl | assumption):wpAny M A (storeName X.env x u) Q E s:=by
 obtain⟨m,hn,hl⟩:=id I.loc
 have hcls:(X.env.scope.kind == .class || (X.env.scope.kind == .module&&X.env.locals != X.env.globals))=false:=by rw[I.ok.kind];rfl
 have hiσ:i<σ.length:=by rw[I.len];exact(List.getElem?_eq_some_iff.mp hi).1
 have cne:=I.cne
 have tracked:∀{a:Addr} {h':Heap},(∃o,s.heap.get? a=some o∧H a=none)→Heap.SameBut a s.heap h'→HOk X.prog X.w H h':=fun {a h'} ha hs b ob e=>by
  obtain⟨_,_,hfree⟩:=ha
  refine(I.hok b ob e).stay (λc w' hc q=>(hs.2 c ?_).trans q) (λ_ q=>q) λ_ _ q=>q
  rintro rfl
  rcases hc with rfl | hc
  ·rw[hfree] at e;cases e
  ·rw[hfree] at hc;cases hc
 rcases hx with hk | hk
 ·refine wpAny_storeName_local hk hn (λh' hn' hs=>?_) hcls
  obtain⟨oL,_,_,hoL,_⟩:=id hn
  refine h _ ⟨I.ok,I.os,I.bare,⟨λb o e n hb hx=>?_,λb o e n hb hx=>?_,I.base.free,λb o e hx=>?_,I.base.tups,I.base.frzs,I.base.tbls⟩,⟨_,hn',λj y v' e1 e2 e3=>?_⟩,λy c e=>?_,I.free,I.freeC,λp hp=>?_,tracked ⟨oL,hoL,I.free⟩ hs,by simpa using I.len⟩ ⟨_,hs,.inl rfl⟩
  ·exact(hs.2 b (ψs (ψp (Heap.lt_size e) I.ok.above))).trans (I.base.keep b o e n hb hx)
  ·obtain⟨sl,e1⟩:=I.base.slot b o e n hb hx
   exact⟨sl,(hs.2 b (ψs (ψp (Heap.lt_size e) I.ok.above))).trans e1⟩
  ·obtain⟨o',e1⟩:=I.base.there b o e hx
   exact⟨o',(hs.2 b (ψs (ψp (Heap.lt_size e) I.ok.above))).trans e1⟩
  ·by_cases hj:j=i
   ·subst hj
    rw[hi] at e1;cases e1
    rw[List.getElem?_set_self hiσ] at e2
    cases e2
    exact⟨u,r,.inl ⟨hk,by simp⟩⟩
   ·rw[List.getElem?_set_ne (Ne.symm hj)] at e2
    obtain⟨u',r',q⟩:=hl j y v' e1 e2 e3
    refine⟨u',r',?_⟩
    rcases q with ⟨k,e⟩ | ⟨k,c,e,z⟩
    ·refine .inl ⟨k,?_⟩
     have:y≠x:=λe=>hj (zpb hN e1 (e ▸ hi))
     simp[this,e]
    ·exact .inr ⟨k,c,e,z.sameBut hs (cne y c e)⟩
  ·obtain⟨w',z⟩:=I.cell y c e
   exact⟨w',z.sameBut hs (cne y c e)⟩
  ·obtain⟨e,n,ne,nf,d⟩:=I.pin p hp
   exact⟨(hs.2 p.1 ne).trans e,n,ne,nf,d⟩
 ·have hfn:X.fn x=true:=by
   rcases hf with z | z
   ·exact z
   ·rw[z] at hk;cases hk
  obtain⟨c,hc⟩:=I.ok.has x (.inl hk)
  obtain⟨w',z⟩:=I.cell x c hc
  refine wpAny_storeName_cell I.ok.kind hk hc z (λh' hc' hs=>?_)
  obtain⟨oc,hoc,hocd⟩:=id z
  refine h { s with heap:=h' } ⟨I.ok,I.os,I.bare,⟨λb o e n hb hx=>?_,λb o e n hb hx=>?_,I.base.free,λb o e hx=>?_,I.base.tups,I.base.frzs,I.base.tbls⟩,⟨m,hn.sameBut hs (Ne.symm (cne x c hc)),λj y v' e1 e2 e3=>?_⟩,λy c' e=>?_,I.free,I.freeC,λp hp=>?_,tracked ⟨oc,hoc,I.freeC x c hc⟩ hs,by simpa using I.len⟩ ⟨c,hs,.inr hc⟩
  ·exact(hs.2 b (ψs (ψp (Heap.lt_size e) (I.ok.cab x c hfn hc)))).trans (I.base.keep b o e n hb hx)
  ·obtain⟨sl,e1⟩:=I.base.slot b o e n hb hx
   exact⟨sl,(hs.2 b (ψs (ψp (Heap.lt_size e) (I.ok.cab x c hfn hc)))).trans e1⟩
  ·obtain⟨o',e1⟩:=I.base.there b o e hx
   exact⟨o',(hs.2 b (ψs (ψp (Heap.lt_size e) (I.ok.cab x c hfn hc)))).trans e1⟩
  ·by_cases hj:j=i
   ·subst hj
    rw[hi] at e1;cases e1
    rw[List.getElem?_set_self hiσ] at e2
    cases e2
    exact⟨u,r,.inr ⟨.inl hk,c,hc,hc'⟩⟩
   ·rw[List.getElem?_set_ne (Ne.symm hj)] at e2
    obtain⟨u',r',q⟩:=hl j y v' e1 e2 e3
    refine⟨u',r',?_⟩
    rcases q with q | ⟨k,c',e,z'⟩
    ·exact .inl q
    ·refine .inr ⟨k,c',e,z'.sameBut hs ?_⟩
     rintro rfl
     exact hj (zpb hN e1 (I.ok.inj _ _ _ e hc ▸ hi))
  ·by_cases hcc:c'=c
   ·subst hcc;exact⟨_,hc'⟩
   ·obtain⟨w2,z2⟩:=I.cell y c' e
    exact⟨w2,z2.sameBut hs hcc⟩
  ·obtain⟨e,n,ne,nf,d⟩:=I.pin p hp
   refine⟨(hs.2 p.1 ?_).trans e,n,ne,nf,d⟩
   intro q
   rw[q,hoc] at e
   have q':oc=p.2:=Option.some.inj e
   exact d w' (by rw[← q'];exact hocd)
theorem ziW{M:Model}{A:Around}{E:Value→Shared→Prop}{i:Nat}{x:Str}{v:V}{u:Value}{Q:Unit→Shared→Prop}(I:Inv X pins σ H s)(hN:X.N.Nodup)(hi:X.N[i]?=some x)(hx:Loc X.env.scope x)(r:zdt v u)
  (h:∀s',Inv X pins (σ.set i (some v)) H s'→Q () s') (hf:X.fn x=true∨X.env.scope.names.lookup x=some .local:=by first | exact .inl rfl | exact .inr rfl | assumption):wpAny M A (storeName X.env x u) Q E s :=
 zji I hN hi hx r (λs' I' _=>h s' I') hf
theorem Inv.call'{s':Shared}{ch:List Addr}(I:Inv X pins σ H s)(ho:s'.os=s.os)(u:Un (frs X.stack) ch H H' s.heap s'.heap)(hok:HOk X.prog X.w H' s'.heap)(hg:AllBare s'.gens)
  (hch:∀b∈ch,(b∈X.ex∨X.s₀.heap.objs.size≤b)∧b≠X.env.locals∧(∀x c,X.env.cells.lookup x=some c→c≠b)∧∀p∈X.pn++pins,p.1≠b):Inv X pins σ H' s':=by
 obtain⟨h',g',d',t',o'⟩:=s'
 have e:o'=s.os:=ho
 subst e
 exact I.call (g':=g') (t':=t') (d':=d') u hok hg hch
end
abbrev XK:=Value→Option Addr→Hp→Prop
abbrev St:=List (Option V)
abbrev VK:=V→Hp→Prop
abbrev TE:=St→Hp→VK→Prop
abbrev TT:=St→Hp→(Bool→Hp→Prop)→Prop
abbrev TA:=St→Hp→(List V→Hp→Prop)→Prop
structure zk9 where
 nx:St→Hp→Prop
 rt:VK
 bk:St→Hp→Prop:=λ_ _=>False
 ct:St→Hp→Prop:=λ_ _=>False
abbrev TS:=zk9→St→Hp→Prop
def EP(X:Cx)(pins:List (Addr×Obj))(σ:St)(Q:VK)(u:Value)(s':Shared):Prop:=∃v H',Inv X pins σ H' s'∧zdt v u∧Q v H'
def TP(X:Cx)(pins:List (Addr×Obj))(σ:St)(Q:Bool→Hp→Prop)(b:Bool)(s':Shared):Prop:=∃H',Inv X pins σ H' s'∧Q b H'
def AP(X:Cx)(pins:List (Addr×Obj))(σ:St)(Q:List V→Hp→Prop)(us:List Value)(s':Shared):Prop:=∃vs H',Inv X pins σ H' s'∧zcU vs us∧Q vs H'
def SP(X:Cx)(pins:List (Addr×Obj))(D:zk9)(f:Flow)(s':Shared):Prop :=
 match f with
 | .next=>∃σ' H',Inv X pins σ' H' s'∧D.nx σ' H'
 | .brk=>∃σ' H',Inv X pins σ' H' s'∧D.bk σ' H'
 | .cont=>∃σ' H',Inv X pins σ' H' s'∧D.ct σ' H'
 | .ret u=>∃v σ' H',Inv X pins σ' H' s'∧zdt v u∧D.rt v H'
def PE(X:Cx)(e:Expr)(t:TE):Prop :=
 ∀(pins:List (Addr×Obj)) (s:Shared) (σ:St) (H:Hp) (Q:VK),Inv X pins σ H s→t σ H Q→wpAny (model X.prog X.w) X.A (eval e X.env) (EP X pins σ Q) X.xe s
def PT(X:Cx)(e:Expr)(t:TT):Prop :=
 ∀(pins:List (Addr×Obj)) (s:Shared) (σ:St) (H:Hp) (Q:Bool→Hp→Prop),Inv X pins σ H s→t σ H Q→wpAny (model X.prog X.w) X.A (isTrue e X.env (eval e X.env)) (TP X pins σ Q) X.xe s
def PW(X:Cx)(e:Expr)(t:TT):Prop :=
 ∀(whole:Sem Value) (pins:List (Addr×Obj)) (s:Shared) (σ:St) (H:Hp) (Q:Bool→Hp→Prop),Inv X pins σ H s→t σ H Q→wpAny (model X.prog X.w) X.A (isTrue e X.env whole) (TP X pins σ Q) X.xe s
theorem PW.pt{X:Cx}{e:Expr}{t:TT}(h:PW X e t):PT X e t:=h _
def PA(X:Cx)(es:List Expr)(t:TA):Prop :=
 ∀(pos:Pos) (pins:List (Addr×Obj)) (s:Shared) (σ:St) (H:Hp) (Q:List V→Hp→Prop),Inv X pins σ H s→t σ H Q→wpAny (model X.prog X.w) X.A (spliced (backTo pos (starEach es X.env))) (AP X pins σ Q) X.xe s
def PS(X:Cx)(st:Stmt)(t:TS):Prop :=
 ∀(pins:List (Addr×Obj)) (s:Shared) (σ:St) (H:Hp) (D:zk9),Inv X pins σ H s→t D σ H→wpAny (model X.prog X.w) X.A (exec st X.env) (SP X pins D) X.xe s
def PSs(X:Cx)(st:List Stmt)(t:TS):Prop :=
 ∀(pins:List (Addr×Obj)) (s:Shared) (σ:St) (H:Hp) (D:zk9),Inv X pins σ H s→t D σ H→wpAny (model X.prog X.w) X.A (execs st X.env) (SP X pins D) X.xe s
theorem thn{α:Type}{t:Sem α}{Q Q':α→Shared→Prop}{M:Model}{A:Around}{E:Value→Shared→Prop}{s:Shared}(h:wpAny M A t Q E s)(hQ:∀a s,Q a s→Q' a s):wpAny M A t Q' E s:=wpAny_mono h hQ λ_ _ x=>x
end L2
namespace L2
open PySem PySem.Spec PyProof.Rows
section
variable {X:Cx}
def zac(i:Nat):TE:=λσ H Q=>∃v,σ[i]?=some (some v)∧Q v H
def tC(v:V):TE:=λ_ H Q=>Q v H
theorem zzj{i:Nat}{x:Str}{pos:Pos}(hN:X.N[i]?=some x)(hv:Vis X.env.scope x)(hd:(x == ("__debug__":Str))=false:=by decide)(hcd:(x == ("__classdict__":Str))=false:=by decide):PE X (.Name x pos) (zac i):=by
 intro pins s σ H Q I h
 obtain⟨v,e,h⟩:=h
 obtain⟨m,hn,hl⟩:=I.loc
 obtain⟨u,r,l⟩:=hl i x v hN e hv
 have fin:EP X pins σ Q u s:=⟨v,H,I,r,h⟩
 rcases l with ⟨hk,hm⟩ | ⟨hk,c,hc,hcell⟩
 ·exact wpAny_Name (wpAny_loadName_local I.ok.kind hk hn hm fin) hd
 ·rcases hk with hk | hk
  ·exact wpAny_Name (wpAny_loadName_cell I.ok.kind hk hc hcell fin) hd
  ·exact wpAny_Name (wpAny_loadName_free I.ok.kind hk hc hcell fin hcd) hd
theorem zae{i j pos}:PE X (.Constant (.int i) j pos) (tC (.int i)):=λ_ _ _ H _ I h=>wpAny_Constant_int ⟨.int i,H,I.tok _,⟨_,rfl⟩,h⟩
theorem zde{b j pos}:PE X (.Constant (.bool b) j pos) (tC (.bl b)):=λ_ _ _ H _ I h=>Constant_bool ⟨.bl b,H,I,rfl,h⟩
theorem zrm{j pos}:PE X (.Constant .none j pos) (tC .non):=λ_ _ _ H _ I h=>Constant_none ⟨.non,H,I,rfl,h⟩
theorem zph{x j pos}:PE X (.Constant (.str x) j pos) (tC (.str x)):=λ_ _ _ H _ I h=>Calls.Constant_str ⟨.str x,H,I.tok _,⟨_,rfl⟩,h⟩
def Gl(X:Cx)(x:Str):Prop:=X.env.kindOf x=some .globalImplicit
theorem ztg{E:Value→Shared→Prop}{pins:List (Addr×Obj)}{s:Shared}{σ:St}{H:Hp}{x:Str}{u:Value}{pos:Pos}{Q:Value→Shared→Prop}(I:Inv X pins σ H s)(hg:Gl X x)(hm:X.mg x=some u)(h:Q u s)
  (hd:(x == ("__debug__":Str))=false:=by decide):wpAny (model X.prog X.w) X.A (eval (.Name x pos) X.env) Q E s :=
 Calls.Name_function_global I.ok.kind hg (Calls.loadGlobal_global (by rw[I.ok.glob];exact I.mod.glob.keeps I.bk) hm h) hd
theorem zit{E:Value→Shared→Prop}{pins:List (Addr×Obj)}{s:Shared}{σ:St}{H:Hp}{x:Str}{u:Value}{pos:Pos}{Q:Value→Shared→Prop}(I:Inv X pins σ H s)(hg:Gl X x)(hm:X.mg x=none)(hv:bootBuiltins x=some u)(h:Q u s)
  (hn:x≠"__name__":=by decide) (hd:(x == ("__debug__":Str))=false:=by decide):wpAny (model X.prog X.w) X.A (eval (.Name x pos) X.env) Q E s:=by
 obtain⟨mb,h1,h2⟩:=I.mod.blt
 exact Calls.Name_function_global I.ok.kind hg (Calls.loadGlobal_builtin (by rw[I.ok.glob];exact I.mod.glob.keeps I.bk) hm (by rw[I.ok.blt];exact h1.keeps I.bk) ((h2 x hn).trans hv) h) hd
theorem zh7{x:Str}{v:V}{u:Value}{pos:Pos}(hg:Gl X x)(hm:X.mg x=some u)(r:zdt v u)(hd:(x == ("__debug__":Str))=false:=by decide):PE X (.Name x pos) (tC v) :=
 λ_ _ _ H _ I h=>ztg I hg hm ⟨v,H,I,r,h⟩ hd
theorem zbZ{x:Str}{v:V}{u:Value}{pos:Pos}(hg:Gl X x)(hm:X.mg x=none)(hv:bootBuiltins x=some u)(r:zdt v u)(hn:x≠"__name__":=by decide)(hd:(x == ("__debug__":Str))=false:=by decide):PE X (.Name x pos) (tC v) :=
 λ_ _ _ H _ I h=>zit I hg hm hv ⟨v,H,I,r,h⟩ hn hd
variable {a b:Expr} {ta tb:TE} {pos:Pos}
def tB(t:TE):TT:=λσ H Q=>t σ H λx H1=>∃c,x=.bl c∧Q c H1
theorem zbt{e:Expr}{t:TE}(h:PE X e t)(he:∀whole,isTrue e X.env whole=(do let v ← whole;standAt e.pos;holding [v] (truthy v)):=by intro _;rfl):PT X e (tB t):=by
 intro pins s σ H Q I hw
 refine isTrue_plain (thn (h pins s σ H _ I hw) λv s1 hQ'=>?_) (he _)
 obtain⟨x,H1,I1,r1,q1⟩:=hQ'
 obtain⟨d,rfl,q⟩:=q1
 cases r1
 exact wpAny_truthy_bool ⟨H1,I1,q⟩
variable {tA tB':TT} {rest:List Expr}
def zzV(t u:TT):TT:=λσ H Q=>t σ H λc H1=>if c=true then u σ H1 Q else Q false H1
def tOr(t u:TT):TT:=λσ H Q=>t σ H λc H1=>if c=true then Q true H1 else u σ H1 Q
def zfe(t:TT):TT:=λσ H Q=>t σ H λc H1=>Q (!c) H1
theorem zoD(ha:PT X a tA):PW X (.BoolOp .And [a] pos) tA:=by
 intro wh pins s σ H Q I h
 refine isTrue_and (thn (ha pins s σ H Q I h) λc s1 e=>?_)
 cases c with
 | true=>exact isTrue_and_nil e
 | false=>exact e
theorem zc5(ha:PT X a tA):PW X (.BoolOp .Or [a] pos) tA:=by
 intro wh pins s σ H Q I h
 refine isTrue_or (thn (ha pins s σ H Q I h) λc s1 e=>?_)
 cases c with
 | false=>exact isTrue_or_nil e
 | true=>exact e
theorem zsv(ha:PT X a tA)(hb:PW X (.BoolOp .And (b::rest) pos) tB'):PW X (.BoolOp .And (a::b::rest) pos) (zzV tA tB'):=by
 intro wh pins s σ H Q I h
 refine isTrue_and (thn (ha pins s σ H _ I h) λc s1 hQ'=>?_)
 obtain⟨H1,I1,q1⟩:=hQ'
 cases c with
 | true=>exact hb wh pins s1 σ H1 Q I1 q1
 | false=>exact⟨H1,I1,q1⟩
theorem zdl(ha:PT X a tA)(hb:PW X (.BoolOp .Or (b::rest) pos) tB'):PW X (.BoolOp .Or (a::b::rest) pos) (tOr tA tB'):=by
 intro wh pins s σ H Q I h
 refine isTrue_or (thn (ha pins s σ H _ I h) λc s1 hQ'=>?_)
 obtain⟨H1,I1,q1⟩:=hQ'
 cases c with
 | true=>exact⟨H1,I1,q1⟩
 | false=>exact hb wh pins s1 σ H1 Q I1 q1
theorem zbL(ha:PT X a tA):PT X (.UnaryOp .Not a pos) (zfe tA):=by
 intro pins s σ H Q I h
 exact isTrue_not (ha pins s σ H (λc H1=>Q (!c) H1) I h)
def zfE(ta tb:TE):TE:=λσ H Q=>ta σ H λx H1=>∃c,x=.bl c∧if c=true then tb σ H1 Q else Q (.bl false) H1
def tOrV(ta tb:TE):TE:=λσ H Q=>ta σ H λx H1=>∃c,x=.bl c∧if c=true then Q (.bl true) H1 else tb σ H1 Q
def ztp(ta:TE):TE:=λσ H Q=>ta σ H λx H1=>∃c,x=.bl c∧Q (.bl (!c)) H1
theorem zfi{op}{t:TE}(h:PE X a t):PE X (.BoolOp op [a] pos) t:=λpins s σ H Q I hw=>BoolOp_one (h pins s σ H Q I hw)
theorem zdR(ha:PE X a ta)(hb:PE X (.BoolOp .And (b::rest) pos) tb):PE X (.BoolOp .And (a::b::rest) pos) (zfE ta tb):=by
 intro pins s σ H Q I h
 refine BoolOp_and (thn (ha pins s σ H _ I h) λv s1 hQ'=>?_)
 obtain⟨x,H1,I1,r1,q1⟩:=hQ'
 obtain⟨c,rfl,q1⟩:=q1
 cases r1
 refine wpAny_truthy_bool ?_
 cases c with
 | true=>exact hb pins s1 σ H1 Q I1 q1
 | false=>exact⟨.bl false,H1,I1,rfl,q1⟩
theorem pe_or(ha:PE X a ta)(hb:PE X (.BoolOp .Or (b::rest) pos) tb):PE X (.BoolOp .Or (a::b::rest) pos) (tOrV ta tb):=by
 intro pins s σ H Q I h
 refine BoolOp_or (thn (ha pins s σ H _ I h) λv s1 hQ'=>?_)
 obtain⟨x,H1,I1,r1,q1⟩:=hQ'
 obtain⟨c,rfl,q1⟩:=q1
 cases r1
 refine wpAny_truthy_bool ?_
 cases c with
 | false=>exact hb pins s1 σ H1 Q I1 q1
 | true=>exact⟨.bl true,H1,I1,rfl,q1⟩
theorem zsQ(ha:PE X a ta):PE X (.UnaryOp .Not a pos) (ztp ta):=by
 intro pins s σ H Q I h
 refine UnaryOp_ (thn (ha pins s σ H _ I h) λv s1 hQ'=>?_)
 obtain⟨x,H1,I1,r1,q1⟩:=hQ'
 obtain⟨c,rfl,q1⟩:=q1
 cases r1
 exact not_of (wpAny_truthy_bool ⟨.bl (!c),H1,I1,rfl,q1⟩)
def tIf(t:TT)(ta tb:TE):TE:=λσ H Q=>t σ H λc H1=>if c=true then ta σ H1 Q else tb σ H1 Q
theorem zpg{c:Expr}(hc:PT X c tA)(ha:PE X a ta)(hb:PE X b tb):PE X (.IfExp c a b pos) (tIf tA ta tb):=by
 intro pins s σ H Q I h
 refine wpAny_IfExp (thn (hc pins s σ H _ I h) λd s1 hQ'=>?_)
 obtain⟨H1,I1,q1⟩:=hQ'
 cases d with
 | true=>exact ha pins s1 σ H1 Q I1 q1
 | false=>exact hb pins s1 σ H1 Q I1 q1
end
end L2
namespace L2
open PySem PySem.Spec PyProof.Rows
def SqL(K:ψa)(H:Hp)(a:Addr)(xs:List V):Prop :=
 Rd H a (.lst xs) ∨
  ∃(o:Obj) (its:Array Value) (n:Nat),K.lookup a=some o∧o.cls=.type "list"∧o.dict=none∧o.data=.seq its n∧its.size≤sizeLine∧zcU xs its.toList
def SqT(K:ψa)(H:Hp)(a:Addr)(xs:List V):Prop :=
 Rd H a (.tup xs) ∨
  ∃(o:Obj) (its:Array Value) (n:Nat),K.lookup a=some o∧o.cls=.type "tuple"∧o.data=.seq its n∧its.size≤sizeLine∧zcU xs its.toList
def absV:Value→Option V
 | .none=>some .non
 | .bool b=>some (.bl b)
 | .int i _=>some (.int i)
 | .str x _=>some (.str x)
 | .bytes b _=>some (.byt b)
 | .float b _=>some (.flt b)
 | .ref a=>some (.ref a)
 | .type n=>some (.ty n)
 | _=>none
theorem zdt.abs{x:V}{u:Value}(r:zdt x u):absV u=some x:=by
 cases x with
 | non=>cases r;rfl
 | bl _=>cases r;rfl
 | int _=>obtain⟨t,rfl⟩:=r;rfl
 | str _=>obtain⟨t,rfl⟩:=r;rfl
 | byt _=>obtain⟨t,rfl⟩:=r;rfl
 | flt _=>obtain⟨t,rfl⟩:=r;rfl
 | ref _=>cases r;rfl
 | ty _=>cases r;rfl
theorem zdt.inj{x y:V}{u:Value}(r:zdt x u)(q:zdt y u):x=y:=Option.some.inj (r.abs.symm.trans q.abs)
theorem zcU.inj:∀{xs ys:List V} {us:List Value},zcU xs us→zcU ys us→xs=ys
 | _,_,_,.nil,.nil=>rfl
 | _,_,_,.cons r t,.cons r' t'=>by rw[r.inj r',zcU.inj t t']
section
variable {X:Cx} {pins:List (Addr×Obj)} {σ:St} {H:Hp} {s:Shared} {a:Addr} {xs ys:List V}
theorem SqL.of{K:ψa}(h:H a=some (.lst xs)):SqL K H a xs:=.inl (.inl h)
theorem SqT.of{K:ψa}(h:H a=some (.tup xs)):SqT K H a xs:=.inl (.inl h)
theorem Inv.list(I:Inv X pins σ H s)(h:SqL X.K H a xs):∃its:List Value,zcU xs its∧PlainL s.heap a its.toArray∧xs.length≤sizeLine:=by
 rcases h with h | ⟨o,its,n,hk,hc,hd,hs,hz,r⟩
 ·obtain⟨z,its,n,r,e⟩:=h.ok I.hok
  exact⟨its,r,⟨_,n,e,rfl,rfl,rfl⟩,z⟩
 ·refine⟨its.toList,r,⟨o,n,I.kIn a o hk,hc,hd,by simpa using hs⟩,?_⟩
  have e:=r.length
  simp only[Array.length_toList] at e
  (first|lia|omega)
theorem Inv.tuple(I:Inv X pins σ H s)(h:SqT X.K H a xs):∃its:List Value,zcU xs its∧IsTup s.heap a its.toArray∧xs.length≤sizeLine:=by
 rcases h with h | ⟨o,its,n,hk,hc,hs,hz,r⟩
 ·obtain⟨z,its,r,p⟩:=h.ok I.hok
  exact⟨its,r,p,z⟩
 ·refine⟨its.toList,r,⟨o,I.kIn a o hk,hc,n,by simpa using hs⟩,?_⟩
  have e:=r.length
  simp only[Array.length_toList] at e
  (first|lia|omega)
theorem Inv.list_inj(I:Inv X pins σ H s)(h:SqL X.K H a xs)(h':SqL X.K H a ys):xs=ys:=by
 obtain⟨its,r,⟨o,n,e,_,_,d⟩,_⟩:=I.list h
 obtain⟨its',r',⟨o',n',e',_,_,d'⟩,_⟩:=I.list h'
 rw[e] at e';cases e'
 rw[d] at d'
 injection d' with d1 _
 have:its=its':=by simpa using congrArg Array.toList d1
 subst this
 exact r.inj r'
theorem Inv.tuple_inj(I:Inv X pins σ H s)(h:SqT X.K H a xs)(h':SqT X.K H a ys):xs=ys:=by
 obtain⟨its,r,⟨o,e,_,n,d⟩,_⟩:=I.tuple h
 obtain⟨its',r',⟨o',e',_,n',d'⟩,_⟩:=I.tuple h'
 rw[e] at e';cases e'
 rw[d] at d'
 injection d' with d1 _
 have:its=its':=by simpa using congrArg Array.toList d1
 subst this
 exact r.inj r'
end
abbrev Cx.wish(X:Cx)(E:Value→Shared→Prop):Cx:={ X with xe:=E }
abbrev Cx.nox(X:Cx):Cx:=X.wish λ_ _=>False
theorem Cx.Ok.wish{X:Cx}(ok:X.Ok)(E:Value→Shared→Prop):(X.wish E).Ok :=
 ⟨ok.mod,ok.kind,ok.glob,ok.blt,ok.above,ok.inj,ok.has,ok.cab,ok.hd,ok.frames,ok.stk,ok.exf,ok.bs,ok.bsz,ok.noex,ok.exfs,ok.funs,ok.frf⟩
theorem Cx.Ok.unwish{X:Cx}{E:Value→Shared→Prop}(ok:(X.wish E).Ok):X.Ok :=
 ⟨ok.mod,ok.kind,ok.glob,ok.blt,ok.above,ok.inj,ok.has,ok.cab,ok.hd,ok.frames,ok.stk,ok.exf,ok.bs,ok.bsz,ok.noex,ok.exfs,ok.funs,ok.frf⟩
section
variable {X:Cx} {pins:List (Addr×Obj)} {σ:St} {H:Hp} {s:Shared} {E:Value→Shared→Prop}
theorem Inv.wish(I:Inv X pins σ H s)(E:Value→Shared→Prop):Inv (X.wish E) pins σ H s:=⟨I.ok.wish E,I.os,I.bare,I.base,I.loc,I.cell,I.free,I.freeC,I.pin,I.hok,I.len⟩
theorem Inv.unwish(I:Inv (X.wish E) pins σ H s):Inv X pins σ H s:=⟨I.ok.unwish,I.os,I.bare,I.base,I.loc,I.cell,I.free,I.freeC,I.pin,I.hok,I.len⟩
theorem SP.unwish{D:zk9}{f:Flow}{s':Shared}(h:SP (X.wish E) pins D f s'):SP X pins D f s':=by
 cases f with
 | next=>obtain⟨σ',H',I,q⟩:=h;exact⟨σ',H',I.unwish,q⟩
 | brk=>obtain⟨σ',H',I,q⟩:=h;exact⟨σ',H',I.unwish,q⟩
 | cont=>obtain⟨σ',H',I,q⟩:=h;exact⟨σ',H',I.unwish,q⟩
 | ret u=>obtain⟨v,σ',H',I,r,q⟩:=h;exact⟨v,σ',H',I.unwish,r,q⟩
theorem PSs.nox{st:List Stmt}{t:TS}(h:PSs X.nox st t):PSs X st t:=λpins s σ H D I hw =>
 wpAny_mono (h pins s σ H D (I.wish _) hw) (λ_ _ q=>q.unwish) λ_ _ z=>False.elim z
end
section
variable {X:Cx} {st:Stmt} {rest:List Stmt} {t u:TS} {e:Expr} {te:TE} {pos:Pos}
def zb1:TS:=λD σ H=>D.nx σ H
def zbd(t u:TS):TS:=λD σ H=>t { D with nx:=u D } σ H
theorem zaR:PSs X [] zb1:=λ_ _ σ H _ I h=>wpAny_execs_nil ⟨σ,H,I,h⟩
theorem zaf(h1:PS X st t)(h2:PSs X rest u):PSs X (st::rest) (zbd t u):=by
 intro pins s σ H D I h
 refine wpAny_execs_cons (thn (h1 pins s σ H { D with nx:=u D } I h) λf s1 q=>?_)
 cases f with
 | next =>
  obtain⟨σ',H',I',q⟩:=q
  exact h2 pins s1 σ' H' D I' q
 | ret v=>exact q
 | brk=>exact q
 | cont=>exact q
theorem zaj(h1:PS X st t):PSs X [st] t:=by
 intro pins s σ H D I h
 refine wpAny_execs_cons (thn (h1 pins s σ H D I h) λf s1 q=>?_)
 cases f with
 | next=>exact wpAny_execs_nil q
 | ret v=>exact q
 | brk=>exact q
 | cont=>exact q
theorem Inv.quiet{pins:List (Addr×Obj)}{σ:St}{H:Hp}{s:Shared}(I:Inv X pins σ H s):interactive X.env=false:=by simp[interactive,I.ok.kind]
def zkj(te:TE):TS:=λD σ H=>te σ H λ_ H1=>D.nx σ H1
theorem zf8(he:PE X e te)(hs:swapsWith e none pos.line X.env=pure false:=by rfl):PS X (.Expr e pos) (zkj te):=by
 intro pins s σ H D I h
 exact wpAny_Expr_any (thn (he pins s σ H _ I h) λv s1 ⟨x,H1,I1,r1,q1⟩=>⟨σ,H1,I1,q1⟩) I.quiet hs
def zbU(te:TE):TS:=λD σ H=>te σ H D.rt
theorem zar(he:PE X e te):PS X (.Return (some e) pos) (zbU te):=by
 intro pins s σ H D I h
 exact wpAny_Return_some (thn (he pins s σ H _ I h) λv s1 ⟨x,H1,I1,r1,q1⟩=>⟨x,σ,H1,I1,r1,q1⟩)
def zdQ(c:TT)(t u:TS):TS:=λD σ H=>c σ H λb H1=>if b=true then t D σ H1 else u D σ H1
theorem zbP{c:Expr}{a b:List Stmt}{tc:TT}(hc:PT X c tc)(ha:PSs X a t)(hb:PSs X b u):PS X (.If c a b pos) (zdQ tc t u):=by
 intro pins s σ H D I h
 refine wpAny_If (thn (hc pins s σ H _ I h) λd s1 hQ'=>?_)
 obtain⟨H1,I1,q1⟩:=hQ'
 cases d with
 | true=>exact ha pins s1 σ H1 D I1 q1
 | false=>exact hb pins s1 σ H1 D I1 q1
def zpm:TS:=λ_ _ _=>False
theorem zlS:PS X st zpm:=λ_ _ _ _ _ _ h=>h.elim
end
abbrev TG:=V→St→Hp→(St→Hp→Prop)→Prop
abbrev TGs:=List V→St→Hp→(St→Hp→Prop)→Prop
def PG(X:Cx)(target:Expr)(t:TG):Prop :=
 ∀(pins:List (Addr×Obj)) (s:Shared) (σ:St) (H:Hp) (v:V) (u:Value) (Q:St→Hp→Prop),Inv X pins σ H s→zdt v u→t v σ H Q →
  wpAny (model X.prog X.w) X.A (assign target X.env u) (λ_ s'=>∃σ' H',Inv X pins σ' H' s'∧Q σ' H') X.xe s
def PGs(X:Cx)(ts:List Expr)(t:TGs):Prop :=
 ∀(pins:List (Addr×Obj)) (s:Shared) (σ:St) (H:Hp) (vs:List V) (us:List Value) (Q:St→Hp→Prop),Inv X pins σ H s→zcU vs us→t vs σ H Q →
  wpAny (model X.prog X.w) X.A (assignInOrder ((assignEach ts X.env).map (·.2)) us) (λ_ s'=>∃σ' H',Inv X pins σ' H' s'∧Q σ' H') X.xe s
abbrev TSet:=V→V→V→Hp→(Hp→Prop)→Prop
def PSet(X:Cx)(t:TSet):Prop :=
 ∀(pins:List (Addr×Obj)) (s:Shared) (σ:St) (H:Hp) (o i v:V) (ov iv u:Value) (Q:Hp→Prop),Inv X pins σ H s→zdt o ov→zdt i iv→zdt v u→t o i v H Q →
  wpAny (model X.prog X.w) X.A (setItem ov iv u) (λ_ s'=>∃H',Inv X pins σ H' s'∧Q H') X.xe s
section
variable {X:Cx} {pos:Pos}
def zam(i:Nat):TG:=λv σ H Q=>Q (σ.set i (some v)) H
theorem zak{i:Nat}{x:Str}(hN:X.N.Nodup)(hi:X.N[i]?=some x)(hx:Loc X.env.scope x)(hf:X.fn x=true∨X.env.scope.names.lookup x=some .local:=by first | exact .inl rfl | exact .inr rfl | assumption):PG X (.Name x pos) (zam i):=by
 intro pins s σ H v u Q I r h
 exact wpAny_assign_Name (ziW I hN hi hx r (λs' I'=>⟨_,H,I',h⟩) hf)
def zdu:TGs:=λvs σ H Q=>vs=[]∧Q σ H
def zaH(t:TG)(u:TGs):TGs:=λvs σ H Q=>∃v r,vs=v::r∧t v σ H λσ' H'=>u r σ' H' Q
theorem za3:PGs X [] zdu:=by
 intro pins s σ H vs us Q I r h
 obtain⟨e,h⟩:=h
 subst e
 cases r
 exact assignInOrder_nil ⟨σ,H,I,h⟩
theorem zal{e:Expr}{es:List Expr}{t:TG}{u:TGs}(h1:PG X e t)(h2:PGs X es u)
  (hs:(assignEach (e::es) X.env).map (·.2)=assign e X.env::(assignEach es X.env).map (·.2):=by rfl):PGs X (e::es) (zaH t u):=by
 intro pins s σ H vs us Q I r h
 obtain⟨v,vr,e1,h⟩:=h
 subst e1
 cases r with
 | cons r rr =>
  rw[hs]
  refine assignInOrder_cons (thn (h1 pins s σ H _ _ _ I r h) λ_ s1 hQ'=>?_)
  obtain⟨σ1,H1,I1,q1⟩:=hQ'
  exact h2 pins s1 σ1 H1 _ _ Q I1 rr q1
def zdv(K:ψa)(n:Nat)(t:TGs):TG:=λv σ H Q=>∃a xs,v=.ref a∧SqT K H a xs∧xs.length=n∧t xs σ H Q
theorem zbu{es:List Expr}{k:Nat}{t:TGs}{n:Nat}(hc:X.calm=true)(h:PGs X es t)
  (hn:(assignEach es X.env).length=n:=by rfl) (hst:(assignEach es X.env).findIdx? (·.1)=none:=by rfl):PG X (.Tuple es k pos) (zdv X.K n t):=by
 intro pins s σ H v u Q I r hw
 obtain⟨a,xs,e1,hq,hl,hw⟩:=hw
 subst e1
 cases r
 obtain⟨its,rv,ht,hz⟩:=I.tuple hq
 refine assign_Tuple_tuple (I.ok.hd hc) ht (by simp[hn,← hl,rv.length]) hst λh' hx=>?_
 have I1:Inv X pins σ H { s with heap:=h' }:=I.kept (t':=s.toks) λb o e=>hx b o (ψs (Heap.lt_size e)) e
 exact h pins _ σ H xs _ Q I1 (by simpa using rv) hw
def gSub(to ti:TE)(t:TSet):TG:=λv σ H Q=>to σ H λo H1=>ti σ H1 λi H2=>t o i v H2 λH3=>Q σ H3
theorem zvX{o i:Expr}{to ti:TE}{t:TSet}(ho:PE X o to)(hi:PE X i ti)(hs:PSet X t)
  (ha:∀v,assign (.Subscript o i pos) X.env v=(do
   let ov ← holding [v] (eval o X.env)
   let iv ← holding [v,ov] (eval i X.env)
   standAt pos
   holding [v,ov,iv] (setItem ov iv v)
   release [v,ov,iv] []):=by intro _;rfl):PG X (.Subscript o i pos) (gSub to ti t):=by
 intro pins s σ H v u Q I r h
 rw[ha]
 refine wpAny_bind (wpAny_holding (thn (ho pins s σ H _ I h) λov s1 hQ'=>?_))
 obtain⟨x,H1,I1,r1,q1⟩:=hQ'
 refine wpAny_bind (wpAny_holding (thn (hi pins s1 σ H1 _ I1 q1) λiv s2 hQ'=>?_))
 obtain⟨y,H2,I2,r2,q2⟩:=hQ'
 refine wpAny_bind (wpAny_standAt (wpAny_bind (wpAny_holding (thn (hs pins s2 σ H2 x y v ov iv u _ I2 r1 r2 r q2) λ_ s3 hQ'=>?_))))
 obtain⟨H3,I3,q3⟩:=hQ'
 exact wpAny_release ⟨σ,H3,I3,q3⟩
def zbO(te:TE)(g:TG):TS:=λD σ H=>te σ H λx H1=>g x σ H1 D.nx
theorem zcY{tg e:Expr}{te:TE}{g:TG}(he:PE X e te)(hg:PG X tg g)(hs:swapsWithSole [tg] e pos.line X.env=pure false:=by rfl)(hw:swappedStores [tg] e X.env=pure none:=by rfl)
  (h1:(assignEach [tg] X.env).map (·.2)=[assign tg X.env]:=by rfl):PS X (.Assign [tg] e pos) (zbO te g):=by
 intro pins s σ H D I h
 refine wpAny_Assign_stores (thn (he pins s σ H _ I h) λv s1 hQ'=>?_) hs hw
 obtain⟨x,H1,I1,r1,q1⟩:=hQ'
 rw[h1]
 exact thn (hg pins s1 σ H1 x v _ I1 r1 q1) λ_ s2 q=>q
theorem zaN{i:Nat}{x:Str}{e:Expr}{te:TE}{pos':Pos}(hN:X.N.Nodup)(hi:X.N[i]?=some x)(hx:Loc X.env.scope x)(he:PE X e te)(hs:swapsWith e (some (.Name x pos')) pos.line X.env=pure false:=by rfl)(hf:X.fn x=true∨X.env.scope.names.lookup x=some .local:=by first | exact .inl rfl | exact .inr rfl | assumption) :
  PS X (.Assign [.Name x pos'] e pos) (zbO te (zam i)):=by
 intro pins s σ H D I h
 refine wpAny_Assign_Name (thn (he pins s σ H _ I h) λv s1 hQ'=>?_) hs
 obtain⟨y,H1,I1,r1,q1⟩:=hQ'
 exact ziW I1 hN hi hx r1 (λs2 I2=>⟨_,H1,I2,q1⟩) hf
def tPar(i j:Nat)(ta:TA):TS:=λD σ H=>ta σ H λvs H1=>∃v w,vs=[v,w]∧D.nx ((σ.set i (some v)).set j (some w)) H1
theorem zvN{i j:Nat}{x y:Str}{a b:Expr}{ta:TA}{px py pt:Pos}{kt k2 pt2}(hc:X.calm=true)(hN:X.N.Nodup)(hi:X.N[i]?=some x)(hj:X.N[j]?=some y)(hij:i≠j)
  (hx:X.env.scope.names.lookup x=some .local) (hy:X.env.scope.names.lookup y=some .local) (ha:PA X [a,b] ta)
  (hw:swappedStores [.Tuple [.Name x px,.Name y py] kt pt] (.Tuple [a,b] k2 pt2) X.env=pure (some [x,y]))
  (hs:swapsWithSole [.Tuple [.Name x px,.Name y py] kt pt] (.Tuple [a,b] k2 pt2) pos.line X.env=pure false:=by rfl) :
  PS X (.Assign [.Tuple [.Name x px,.Name y py] kt pt] (.Tuple [a,b] k2 pt2) pos) (tPar i j ta):=by
 intro pins s σ H D I h
 rw[exec_Assign_arm]
 refine wpAny_bind (wpAny_standAt ?_)
 rw[hs]
 refine wpAny_bind (wpAny_pure ?_)
 rw[if_neg (by decide)]
 refine wpAny_bind (Tuple_ (thn (ha _ pins s σ H _ I h) λus s1 hQ'=>?_))
 obtain⟨vs,H1,I1,r1,q1⟩:=hQ'
 obtain⟨v,w,e1,q1⟩:=q1
 subst e1
 obtain⟨u1,u2,rfl,rv,rw'⟩:∃u1 u2,us=[u1,u2]∧zdt v u1∧zdt w u2:=by
  cases r1 with
  | cons p q =>
   cases q with
   | cons p' q' =>
    cases q'
    exact⟨_,_,rfl,p,p'⟩
 refine wpAny_newObj_type ?_ (by show 2≤sizeLine;decide)
 have I2:Inv X pins σ H1 { s1 with heap:=s1.heap.push { cls:=.type "tuple",data:=.seq [u1,u2].toArray } }:=I1.kept (t':=s1.toks) λb o e=>Heap.get?_push_of_some _ e
 rw[hw]
 refine wpAny_bind (wpAny_pure ?_)
 show wpAny (model X.prog X.w) X.A (do rule "assign.swapped-stores";let items ← unpackItems (.ref s1.heap.objs.size) 2 none;assignInOrder [λv=>bindName X.env y v,λv=>bindName X.env x v] items.reverse;pure Flow.next) _ _ _
 refine wpAny_bind (wpAny_rule (wpAny_bind (unpackItems_tuple (items:=#[u1,u2]) (I.ok.hd hc) (IsTup.new s1.heap _) λh' hx'=>?_)))
 have I3:=I2.kept (h':=h') (t':=s1.toks) λb o e=>hx' b o (ψs (Heap.lt_size e)) e
 show wpAny _ _ (assignInOrder [λv=>bindName X.env y v,λv=>bindName X.env x v] [u2,u1] >>= λ_=>pure Flow.next) _ _ _
 refine wpAny_bind (assignInOrder_cons (wpAny_bindName (ziW I3 hN hj (.inl hy) rw' (λs2 I4=>?_) (.inr hy))))
 refine assignInOrder_cons (wpAny_bindName (ziW I4 hN hi (.inl hx) rv (λs3 I5=>assignInOrder_nil (wpAny_pure ?_)) (.inr hx)))
 rw[List.set_comm _ _ (Ne.symm hij)] at I5
 exact⟨_,H1,I5,q1⟩
end
section
variable {X:Cx} {pos:Pos}
def zkw(c:TT)(tb:TS):TS:=λD σ H=>∃W:Nat→St→Hp→Prop,(∃m,W m σ H)∧∀m σ H,W m σ H →
 c σ H λb H1=>if b=true then ∃N:St→Hp→Prop,(∀σ' H',N σ' H'→∃m',m'<m∧W m' σ' H')∧tb { D with nx:=N,ct:=N,bk:=D.nx } σ H1 else D.nx σ H1
theorem zi6{c:Expr}{body:List Stmt}{tc:TT}{tb:TS}(hp:PassesOwn (model X.prog X.w) X.A X.env X.xe)(hc:PT X c tc)(hb:PSs X body tb):PS X (.While c body [] pos) (zkw tc tb):=by
 intro pins s σ H D I h
 obtain⟨W,⟨m0,w0⟩,zp5⟩:=h
 refine wpAny_While (codeAny_whileLoop (λn s'=>∃σ' H',Inv X pins σ' H' s'∧W n σ' H') ?_ m0 ⟨σ,H,I,w0⟩)
 rintro n s1 ⟨σ1,H1,I1,w1⟩
 refine wpAny_passesOwn hp (thn (hc pins s1 σ1 H1 _ I1 (zp5 n σ1 H1 w1)) λb s2 hQ'=>?_)
 obtain⟨H2,I2,q2⟩:=hQ'
 cases b with
 | true =>
  obtain⟨N,hN,q2⟩:=q2
  rw[if_pos rfl]
  refine wpAny_passesOwn hp (thn (hb pins s2 σ1 H2 _ I2 q2) λf s3 q3=>?_)
  cases f with
  | next =>
   obtain⟨σ3,H3,I3,n3⟩:=q3
   obtain⟨m',hm,w3⟩:=hN σ3 H3 n3
   exact⟨m',hm,σ3,H3,I3,w3⟩
  | cont =>
   obtain⟨σ3,H3,I3,n3⟩:=q3
   obtain⟨m',hm,w3⟩:=hN σ3 H3 n3
   exact⟨m',hm,σ3,H3,I3,w3⟩
  | brk=>exact q3
  | ret v=>exact q3
 | false =>
  rw[if_neg ψw]
  exact wpAny_execs_nil ⟨σ1,H2,I2,q2⟩
end
structure It where
 go:Nat→Hp→Prop
 yld:Nat→Hp→V→Hp→Prop
 stop:Nat→Hp→Prop
def zmA(X:Cx)(pins:List (Addr×Obj))(H:Hp)(b:Addr):Prop :=
 H b=none∧b≠X.env.locals∧b∉X.fs∧(b∈X.ex∨X.s₀.heap.objs.size≤b)∧(∀x c,X.env.cells.lookup x=some c→c≠b)∧∀p∈X.pn++pins,p.1≠b
theorem Inv.fpOk{X:Cx}{pins:List (Addr×Obj)}{σ:St}{H H':Hp}{s:Shared}{b:Addr}(I:Inv X pins σ H s)(hb:s.heap.objs.size≤b)(hn:H' b=none):zmA X pins H' b:=by
 refine⟨hn,ψM1 (ψp I.lt hb),I.nofs hb,.inr (ψd1 I.sz hb),λx c e z=>?_,λp hp z=>?_⟩
 ·obtain⟨v,q⟩:=I.cell x c e
  exact absurd (ψp q.lt (by rw[z];exact hb)) (ψx1 _)
 ·exact absurd (ψp (Heap.lt_size (I.pin p hp).1) (by rw[z];exact hb)) (ψx1 _)
structure zxX (P:Program) (w:World) (K:ψa) (tg:Expr) (J:It) (fp:List Addr) (it:Addr) (tn:Nat→Heap→Prop):Prop where
 mem:it∈fp
 obj:∀i h,tn i h→∀b∈fp,∃o,h.get? b=some o∧∀v,o.data≠.cell v
 keep:∀i h h',tn i h→(∀b∈fp,∀o,h.get? b=some o→h'.get? b=some o)→tn i h'
 item:∀(X:Cx),X.prog=P→X.w=w→X.K=K→X.calm=true→∀(i:Nat) (pins:List (Addr×Obj)) (s:Shared) (σ:St) (H:Hp) (E:Value→Shared→Prop),Inv X pins σ H s→(∀b∈fp,zmA X pins H b)→tn i s.heap→J.go i H →
  wpAny (model P w) X.A (pyNext (.ref it)) (λr s1=>∃u,r=some u ∧
   wpAny (model P w) X.A (letOwnedTupleGo tg (.ref it) u) (λ_ s2=>∃x H',Inv X pins σ H' s2∧zdt x u∧J.yld i H x H'∧tn (i+1) s2.heap∧∀b∈fp,H' b=none) E s1) E s
 done:∀(X:Cx),X.prog=P→X.w=w→X.K=K→X.calm=true→∀(i:Nat) (pins:List (Addr×Obj)) (s:Shared) (σ:St) (H:Hp) (E:Value→Shared→Prop),Inv X pins σ H s→(∀b∈fp,zmA X pins H b)→tn i s.heap→J.stop i H →
  wpAny (model P w) X.A (pyNext (.ref it)) (λr s1=>r=none∧Inv X pins σ H s1) E s
 self:∀(A:Around) (i:Nat) (s:Shared) (Q:Value→Shared→Prop) (E:Value→Shared→Prop),tn i s.heap→Q (.ref it) s→wpAny (model P w) A (pyIter (.ref it)) Q E s
abbrev TI:=St→Hp→(It→Hp→Prop)→Prop
def PIE(X:Cx)(pins:List (Addr×Obj))(σ:St)(tg:Expr)(R:It→Hp→Prop)(itv:Value)(s2:Shared):Prop :=
 ∃(it:Addr) (fp:List Addr) (tn:Nat→Heap→Prop) (J:It) (H':Hp),itv=.ref it∧Inv X pins σ H' s2∧zxX X.prog X.w X.K tg J fp it tn∧tn 0 s2.heap∧(∀b∈fp,zmA X pins H' b)∧R J H'
def PI(X:Cx)(tg iter:Expr)(wi:TI):Prop :=
 ∀(pins:List (Addr×Obj)) (s:Shared) (σ:St) (H:Hp) (R:It→Hp→Prop),Inv X pins σ H s→wi σ H R →
  wpAny (model X.prog X.w) X.A (eval iter X.env) (λv s1=>wpAny (model X.prog X.w) X.A (pyIter v) (PIE X pins σ tg R) X.xe s1) X.xe s
theorem zwY{M:Model}{A:Around}{E:Value→Shared→Prop}{s:Shared}{tg:Expr}{it:Addr}{u:Value}{o:Obj}{n:String}{vs:Array Value}{Q:Unit→Shared→Prop}(ho:s.heap.get? it=some o)(hc:o.cls=.type n)(hd:o.data=.fields vs)
  (hn:["enumerate","zip","dict_itemiterator","dict_reverseitemiterator","odict_iterator","itertools.zip_longest","itertools.pairwise"].contains n=false) (hQ:Q () s):wpAny M A (letOwnedTupleGo tg (.ref it) u) Q E s:=by
 unfold letOwnedTupleGo
 cases tg <;> first
  | exact wpAny_pure hQ
  | (cases u <;> first
    | exact wpAny_pure hQ
    | (refine wpAny_bind (wpAny_load ho ?_)
       rw[hc,hd]
       show wpAny M A (if (["enumerate","zip","dict_itemiterator","dict_reverseitemiterator","odict_iterator","itertools.zip_longest","itertools.pairwise"].contains n&&vs[0]? == some (rawInt _))=true then _ else _) Q E s
       rw[if_neg (by intro h;rw[hn,Bool.false_and] at h;cases h)]
       exact wpAny_pure hQ))
def Itl(K:ψa)(a:Addr):It :=
 ⟨λi H=>∃xs x,SqL K H a xs∧xs[i]?=some x,λi H x H'=>H'=H∧∀xs,SqL K H a xs→xs[i]?=some x,λi H=>∃xs,SqL K H a xs∧xs.length≤i⟩
def Itt(K:ψa)(a:Addr):It :=
 ⟨λi H=>∃xs x,SqT K H a xs∧xs[i]?=some x,λi H x H'=>H'=H∧∀xs,SqT K H a xs→xs[i]?=some x,λi H=>∃xs,SqT K H a xs∧xs.length≤i⟩
def Itr(lo:Int)(n:Nat):It:=⟨λi _=>i<n,λi H x H'=>H'=H∧x=.int (lo+i),λi _=>n≤i⟩
theorem zte{P:Program}{w:World}{K:ψa}{tg:Expr}(a it:Addr):zxX P w K tg (Itl K a) [it] it (λi h=>h.IsListIter it a i) where
 mem:=by simp
 obj:=λi h st b hb=>by
  have e:b=it:=by simpa using hb
  subst e
  obtain⟨o,e,c,d⟩:=st
  exact⟨o,e,λv z=>by rw[d] at z;cases z⟩
 keep:=λi h h' st k=>st.at λo e=>k it (by simp) o e
 item:=by
  intro X hP hw hK hc i pins s σ H E I hf st hg
  subst hP hw hK
  obtain⟨xs,x,hq,hx⟩:=hg
  obtain⟨its,rv,p,hz⟩:=I.list hq
  obtain⟨u,hu,ru⟩:=rv.get hx
  obtain⟨f0,f1,f2,f3,f4,f5⟩:=hf it (by simp)
  refine wpAny_pyNext_list_item st p.isList (x:=u) (by simpa using hu) λh' st' sb=>?_
  have I1:Inv X pins σ H { s with heap:=h' }:=I.turned (t':=s.toks) (λb o hb e=>(sb.2 b hb).trans e) f0 f1 f3 f4 f5
  obtain⟨o,e,c,d⟩:=id st'
  exact⟨u,rfl,zwY (s:={ s with heap:=h' }) e c d (by decide) ⟨x,H,I1,ru,⟨rfl,λys hy=>by rw[I.list_inj hy hq];exact hx⟩,st',λb hb=>(hf b hb).1⟩⟩
 done:=by
  intro X hP hw hK hc i pins s σ H E I hf st hg
  subst hP hw hK
  obtain⟨xs,hq,hx⟩:=hg
  obtain⟨its,rv,p,hz⟩:=I.list hq
  obtain⟨f0,f1,f2,f3,f4,f5⟩:=hf it (by simp)
  have hl:=rv.length
  exact wpAny_pyNext_list_end (I.ok.hd hc) st p.isList (by simp;(first|lia|omega)) λh' eb=>⟨rfl,I.turned (t':=s.toks) (λb o hb e=>eb b o hb e) f0 f1 f3 f4 f5⟩
 self:=λ_ _ _ _ _ st h=>wpAny_pyIter_listiter st h
theorem zp3{P:Program}{w:World}{K:ψa}{tg:Expr}(a it:Addr):zxX P w K tg (Itt K a) [it] it (λi h=>h.IsTupleIter it a i) where
 mem:=by simp
 obj:=λi h st b hb=>by
  have e:b=it:=by simpa using hb
  subst e
  obtain⟨o,e,c,d⟩:=st
  exact⟨o,e,λv z=>by rw[d] at z;cases z⟩
 keep:=λi h h' st k=>st.at λo e=>k it (by simp) o e
 item:=by
  intro X hP hw hK hc i pins s σ H E I hf st hg
  subst hP hw hK
  obtain⟨xs,x,hq,hx⟩:=hg
  obtain⟨its,rv,p,hz⟩:=I.tuple hq
  obtain⟨u,hu,ru⟩:=rv.get hx
  obtain⟨f0,f1,f2,f3,f4,f5⟩:=hf it (by simp)
  refine wpAny_pyNext_tuple_item st (show s.heap.IsTuple a its.toArray from p) (x:=u) (by simpa using hu) λh' st' sb=>?_
  have I1:Inv X pins σ H { s with heap:=h' }:=I.turned (t':=s.toks) (λb o hb e=>(sb.2 b hb).trans e) f0 f1 f3 f4 f5
  obtain⟨o,e,c,d⟩:=id st'
  exact⟨u,rfl,zwY (s:={ s with heap:=h' }) e c d (by decide) ⟨x,H,I1,ru,⟨rfl,λys hy=>by rw[I.tuple_inj hy hq];exact hx⟩,st',λb hb=>(hf b hb).1⟩⟩
 done:=by
  intro X hP hw hK hc i pins s σ H E I hf st hg
  subst hP hw hK
  obtain⟨xs,hq,hx⟩:=hg
  obtain⟨its,rv,p,hz⟩:=I.tuple hq
  obtain⟨f0,f1,f2,f3,f4,f5⟩:=hf it (by simp)
  have hl:=rv.length
  exact wpAny_pyNext_tuple_end (I.ok.hd hc) st (show s.heap.IsTuple a its.toArray from p) (by simp;(first|lia|omega)) λh' eb=>⟨rfl,I.turned (t':=s.toks) (λb o hb e=>eb b o hb e) f0 f1 f3 f4 f5⟩
 self:=λ_ _ _ _ _ st h=>wpAny_pyIter_tupleiter st h
theorem zqm{P:Program}{w:World}{K:ψa}{tg:Expr}(it:Addr)(lo:Int)(n:Nat):zxX P w K tg (Itr lo n) [it] it (λi h=>IsRangeIter h it (lo+(i:Nat)*1) ((n:Int) - (i:Nat)) 1) where
 mem:=by simp
 obj:=λi h st b hb=>by
  have e:b=it:=by simpa using hb
  subst e
  exact⟨_,st,λv z=>by
   have z':Data.fields _=Data.cell v:=z
   cases z'⟩
 keep:=λi h h' st k=>k it (by simp) _ st
 item:=by
  intro X hP hw hK hc i pins s σ H E I hf st hg
  subst hP hw hK
  obtain⟨f0,f1,f2,f3,f4,f5⟩:=hf it (by simp)
  have W:=Walks.range (prog:=X.prog) (w:=X.w) (I.ok.hd hc) it lo 1 n
  refine W.item i s _ _ hg st λv h' tk hv st' kk=>?_
  obtain⟨t,rfl⟩:=hv
  have I1:Inv X pins σ H { s with heap:=h',toks:=tk }:=I.turned (λb o hb e=>kk b o (by simpa using hb) e) f0 f1 f3 f4 f5
  refine⟨_,rfl,zwY (s:={ s with heap:=h',toks:=tk }) (n:="range_iterator") st' rfl rfl (by decide) ⟨.int (lo+i),H,I1,⟨t,?_⟩,⟨rfl,rfl⟩,st',λb hb=>(hf b hb).1⟩⟩
  rw[Int.mul_one]
 done:=by
  intro X hP hw hK hc i pins s σ H E I hf st hg
  subst hP hw hK
  obtain⟨f0,f1,f2,f3,f4,f5⟩:=hf it (by simp)
  exact wpAny_pyNext_range_end (I.ok.hd hc) st (by have:n≤i:=hg;(first|lia|omega)) λh' eb=>⟨rfl,I.turned (t':=s.toks) (λb o hb e=>eb b o hb e) f0 f1 f3 f4 f5⟩
 self:=λ_ _ _ _ _ st h=>wpAny_pyIter_rangeiter st h
end L2
namespace L2
open PySem PySem.Spec PyProof.Rows
section
variable {X:Cx} {tg:Expr}
def zcz(K:ψa)(tl:TE):TI:=λσ H R=>tl σ H λx H1=>∃a,x=.ref a∧(∃xs,SqL K H1 a xs)∧R (Itl K a) H1
def iTup(K:ψa)(tl:TE):TI:=λσ H R=>tl σ H λx H1=>∃a,x=.ref a∧(∃xs,SqT K H1 a xs)∧R (Itt K a) H1
theorem zbl{l:Expr}{tl:TE}(hl:PE X l tl):PI X tg l (zcz X.K tl):=by
 intro pins s σ H R I h
 refine thn (hl pins s σ H _ I h) λv s1 hQ'=>?_
 obtain⟨x,H1,I1,r1,q1⟩:=hQ'
 obtain⟨a,e,⟨xs,hq⟩,q⟩:=q1
 subst e
 cases r1
 obtain⟨its,rv,p,hz⟩:=I1.list hq
 refine wpAny_pyIter_list p.isList ?_
 refine⟨s1.heap.objs.size,[s1.heap.objs.size],_,_,H1,rfl,I1.kept (t':=s1.toks) λb o e=>Heap.get?_push_of_some _ e,zte a _,⟨_,Heap.get?_push_size _ rfl,rfl,rfl⟩,λb hb=>?_,q⟩
 have e:b=s1.heap.objs.size:=by simpa using hb
 subst e
 exact I1.fpOk (ψm _) (I1.hok.fresh (ψm _))
theorem zo6{l:Expr}{tl:TE}(hl:PE X l tl):PI X tg l (iTup X.K tl):=by
 intro pins s σ H R I h
 refine thn (hl pins s σ H _ I h) λv s1 hQ'=>?_
 obtain⟨x,H1,I1,r1,q1⟩:=hQ'
 obtain⟨a,e,⟨xs,hq⟩,q⟩:=q1
 subst e
 cases r1
 obtain⟨its,rv,p,hz⟩:=I1.tuple hq
 refine wpAny_pyIter_tuple (show s1.heap.IsTuple a its.toArray from p) ?_
 refine⟨s1.heap.objs.size,[s1.heap.objs.size],_,_,H1,rfl,I1.kept (t':=s1.toks) λb o e=>Heap.get?_push_of_some _ e,zp3 a _,⟨_,Heap.get?_push_size _ rfl,rfl,rfl⟩,λb hb=>?_,q⟩
 have e:b=s1.heap.objs.size:=by simpa using hb
 subst e
 exact I1.fpOk (ψm _) (I1.hok.fresh (ψm _))
theorem zuA{pins:List (Addr×Obj)}{σ:St}{H:Hp}{s:Shared}{R:It→Hp→Prop}{E:Value→Shared→Prop}{lo hi:Int}{t u v:Tok}{tk:Nat}(I:Inv X pins σ H s)(h1:-(2 ^ 62)≤lo)(h2:lo<2 ^ 62)(h3:-(2 ^ 62)≤hi)(h4:hi<2 ^ 62)
  (q:R (Itr lo (hi - lo).toNat) H):wpAny (model X.prog X.w) X.A (pyIter (.ref s.heap.objs.size)) (PIE X pins σ tg R) E { s with heap:=s.heap.push { cls:=.type "range",data:=.fields #[.int lo t,.int hi u,.int 1 v] },toks:=tk }:=by
 refine wpAny_pyIter_range (IsRange.new ..) (small_one h1 h2 h3 h4) ?_
 have I1:Inv X pins σ H { s with heap:=s.heap.push { cls:=.type "range",data:=.fields #[.int lo t,.int hi u,.int 1 v] },toks:=tk }:=I.kept λb o e=>Heap.get?_push_of_some _ e
 refine⟨(s.heap.push { cls:=.type "range",data:=.fields #[.int lo t,.int hi u,.int 1 v] }).objs.size,[(s.heap.push { cls:=.type "range",data:=.fields #[.int lo t,.int hi u,.int 1 v] }).objs.size],_,_,H,rfl,
  I1.kept (t':=tk) λb o e=>Heap.get?_push_of_some _ e,zqm _ lo (hi - lo).toNat,?_,λb hb=>?_,q⟩
 ·have e1:lo+((0:Nat):Int)*1=lo:=by simp
  have e2:(((hi - lo).toNat:Nat):Int) - ((0:Nat):Int)=Builtin.Range.rangeSize lo hi 1:=by rw[rangeSize_one];split <;> (first|lia|omega)
  show IsRangeIter _ _ (lo+((0:Nat):Int)*1) ((((hi - lo).toNat:Nat):Int) - ((0:Nat):Int)) 1
  rw[e1,e2]
  exact Heap.get?_push_size _ rfl
 ·have e:b=(s.heap.push { cls:=.type "range",data:=.fields #[.int lo t,.int hi u,.int 1 v] }).objs.size:=by simpa using hb
  subst e
  exact I1.fpOk (ψm _) (I1.hok.fresh (ψm _))
def zke(ta:TA):TI:=λσ H R=>ta σ H λvs H1=>∃j:Int,vs=[.int j]∧-(2 ^ 62)≤j∧j<2 ^ 62∧R (Itr 0 j.toNat) H1
theorem zdO{a:Expr}{ta:TA}{p pos:Pos}(hg:Gl X "range")(hm:X.mg "range"=none)(ha:PA X [a] ta)(hs:starEach [a] X.env=[(false,eval a X.env)]:=by rfl):PI X tg (.Call (.Name "range" p) [a] [] pos) (zke ta):=by
 intro pins s σ H R I h
 refine Call_ (zit I hg hm boot_range (ψt1 (thn (ha pos pins s σ H _ I h) λus s1 hQ'=>?_) hs rfl))
 obtain⟨vs,H1,I1,r1,q1⟩:=hQ'
 obtain⟨j,e,q1,q2,q⟩:=q1
 subst e
 cases r1 with
 | cons r rr =>
  cases rr
  obtain⟨t,rfl⟩:=r
  exact call_range_1 (zuA I1 (by (first|lia|omega)) (by (first|lia|omega)) q1 q2 (by simpa using q))
def zll(wi:TI)(g:TG)(tb:TS):TS:=λD σ H=>wi σ H λJ H1=>∃W:Nat→Nat→St→Hp→Prop,(∃m,W 0 m σ H1)∧∀i m σ H,W i m σ H →
 (J.stop i H∧D.nx σ H)∨(J.go i H∧∃N:St→Hp→Prop,(∀σ' H',N σ' H'→∃m',m'<m∧W (i+1) m' σ' H')∧∀x H',J.yld i H x H'→g x σ H' λσ2 H2=>tb { D with nx:=N,ct:=N,bk:=D.nx } σ2 H2)
def zks(fp:List Addr)(h:Heap):List (Addr×Obj):=fp.filterMap λb=>(h.get? b).map λo=>(b,o)
theorem zeh{fp:List Addr}{h:Heap}{b:Addr}{o:Obj}(hb:b∈fp)(e:h.get? b=some o):(b,o)∈zks fp h:=List.mem_filterMap.mpr ⟨b,hb,by rw[e];rfl⟩
theorem zq6{fp:List Addr}{h:Heap}{p:Addr×Obj}(hp:p∈zks fp h):p.1∈fp∧h.get? p.1=some p.2:=by
 obtain⟨b,hb,e⟩:=List.mem_filterMap.mp hp
 cases q:h.get? b with
 | none=>rw[q] at e;cases e
 | some o =>
  rw[q] at e
  have e':(b,o)=p:=Option.some.inj e
  subst e'
  exact⟨hb,q⟩
theorem Inv.pinned{pins:List (Addr×Obj)}{σ:St}{H:Hp}{s:Shared}{fp:List Addr}(I:Inv X pins σ H s)(hf:∀b∈fp,zmA X pins H b)(ho:∀b∈fp,∃o,s.heap.get? b=some o∧∀v,o.data≠.cell v):Inv X (pins++zks fp s.heap) σ H s :=
 I.pins_of λp hp=>(List.mem_append.mp hp).elim (λz=>I.pin p (ψB _ z)) λz=>by
  obtain⟨hb,e⟩:=zq6 z
  obtain⟨f0,f1,f2,_⟩:=hf p.1 hb
  obtain⟨o,e',d⟩:=ho p.1 hb
  rw[e] at e';cases e'
  exact⟨e,f0,f1,f2,d⟩
theorem Inv.unpinned{pins pl:List (Addr×Obj)}{σ:St}{H:Hp}{s:Shared}(I:Inv X (pins++pl) σ H s):Inv X pins σ H s:=I.pins_of λp hp=>I.pin p (ψB _ (ψU1 _ hp))
theorem zdJ{iter:Expr}{body:List Stmt}{wi:TI}{g:TG}{tb:TS}{pos:Pos}(hp:PassesOwn (model X.prog X.w) X.A X.env X.xe)(hc:X.calm=true)(hi:PI X tg iter wi)(hg:PG X tg g)(hb:PSs X body tb)
  (hs:∀x,foldedSetIterable iter X.env x=pure x:=by intro _;rfl):PS X (.For tg iter body [] pos) (zll wi g tb):=by
 intro pins s σ H D I h
 refine wpAny_For (thn (hi pins s σ H _ I h) λv s1 h1=>thn h1 λitv s2 h2=>?_) hs
 obtain⟨it,fp,tn,J,H2,e,I2,T,st2,f2,W,⟨m0,w0⟩,zp5⟩:=h2
 subst e
 have stat:∀{H':Hp},(∀b∈fp,H' b=none)→∀b∈fp,zmA X pins H' b:=λhn b hb=>⟨hn b hb,(f2 b hb).2⟩
 refine codeAny_forLoop_any (λn s'=>∃i σ' H',Inv X pins σ' H' s'∧tn i s'.heap∧(∀b∈fp,H' b=none)∧W i n σ' H') ?_ m0 ⟨0,σ,H2,I2,st2,λb hb=>(f2 b hb).1,w0⟩
 rintro n s3 ⟨i,σ3,H3,I3,st3,fr3,w3⟩
 rcases zp5 i n σ3 H3 w3 with ⟨stop,qn⟩ | ⟨go,N,hN,step⟩
 ·refine wpAny_passesOwn hp (thn (T.done X rfl rfl rfl hc i pins s3 σ3 H3 X.xe I3 (stat fr3) st3 stop) λr s4 hQ'=>?_)
  obtain⟨hr,I4⟩:=hQ'
  subst hr
  exact wpAny_execs_nil ⟨σ3,H3,I4,qn⟩
 ·refine wpAny_passesOwn hp (thn (T.item X rfl rfl rfl hc i pins s3 σ3 H3 X.xe I3 (stat fr3) st3 go) λr s4 hQ'=>?_)
  obtain⟨u,hr,h4⟩:=hQ'
  subst hr
  refine wpAny_passesOwn hp (thn h4 λ_ s5 hQ'=>?_)
  obtain⟨x,H5,I5,r5,y5,st5,fr5⟩:=hQ'
  have I5':=I5.pinned (stat fr5) (T.obj _ _ st5)
  refine wpAny_passesOwn hp (thn (hg _ s5 σ3 H5 x u _ I5' r5 (step x H5 y5)) λ_ s6 hQ'=>?_)
  obtain⟨σ6,H6,I6,q6⟩:=hQ'
  refine wpAny_passesOwn hp (thn (hb _ s6 σ6 H6 _ I6 q6) λf s7 q7=>?_)
  have again:∀{σ7:St} {H7:Hp},Inv X (pins++zks fp s5.heap) σ7 H7 s7→N σ7 H7→∃m,m<n∧∃i σ' H',Inv X pins σ' H' s7∧tn i s7.heap∧(∀b∈fp,H' b=none)∧W i m σ' H':=fun {σ7 H7} I7 n7=>by
   obtain⟨m',hm,w7⟩:=hN σ7 H7 n7
   refine⟨m',hm,i+1,σ7,H7,I7.unpinned,T.keep _ _ _ st5 λb hb o e=>(I7.pin (b,o) (ψB _ (ψB _ (zeh hb e)))).1,λb hb=>?_,w7⟩
   obtain⟨o,e,d⟩:=T.obj _ _ st5 b hb
   exact(I7.pin (b,o) (ψB _ (ψB _ (zeh hb e)))).2.1
  cases f with
  | next=>obtain⟨σ7,H7,I7,n7⟩:=q7;exact again I7 n7
  | cont=>obtain⟨σ7,H7,I7,n7⟩:=q7;exact again I7 n7
  | brk=>obtain⟨σ7,H7,I7,q7⟩:=q7;exact⟨σ7,H7,I7.unpinned,q7⟩
  | ret v=>obtain⟨x7,σ7,H7,I7,r7,q7⟩:=q7;exact⟨x7,σ7,H7,I7.unpinned,r7,q7⟩
end
theorem zuC{K:ψa}{a:Addr}{xs:List V}{g:TG}{tb:TS}{D:zk9}{σ:St}{H:Hp}(Pv:Nat→St→Hp→Prop)(h0:Pv 0 σ H)(hl:∀i σ H,i≤xs.length→Pv i σ H→SqL K H a xs)
  (hs:∀i x σ H,xs[i]?=some x→Pv i σ H→g x σ H λσ2 H2=>tb { D with nx:=Pv (i+1),ct:=Pv (i+1),bk:=D.nx } σ2 H2) (hd:∀σ H,Pv xs.length σ H→D.nx σ H) :
  ∃W:Nat→Nat→St→Hp→Prop,(∃m,W 0 m σ H)∧∀i m σ H,W i m σ H →
   ((Itl K a).stop i H∧D.nx σ H)∨((Itl K a).go i H∧∃N:St→Hp→Prop,(∀σ' H',N σ' H'→∃m',m'<m∧W (i+1) m' σ' H')∧∀x H',(Itl K a).yld i H x H'→g x σ H' λσ2 H2=>tb { D with nx:=N,ct:=N,bk:=D.nx } σ2 H2):=by
 refine⟨λi m σ H=>m=xs.length - i∧i≤xs.length∧Pv i σ H,⟨xs.length,by simp,ψu1 _,h0⟩,?_⟩
 rintro i m σ H ⟨rfl,hi,p⟩
 have q:=hl i σ H hi p
 by_cases hlt:i<xs.length
 ·refine .inr ⟨⟨xs,xs[i],q,by simp[hlt]⟩,Pv (i+1),λσ' H' p'=>⟨xs.length - (i+1),by (first|lia|omega),rfl,hlt,p'⟩,λx H' y=>?_⟩
  obtain⟨e,y⟩:=y
  subst e
  exact hs i x σ _ (y xs q) p
 ·have e:i=xs.length:=by (first|lia|omega)
  subst e
  exact .inl ⟨⟨xs,q,ψm _⟩,hd σ H p⟩
theorem zsN{lo:Int}{n:Nat}{g:TG}{tb:TS}{D:zk9}{σ:St}{H:Hp}(Pv:Nat→St→Hp→Prop)(h0:Pv 0 σ H)
  (hs:∀i σ H,i<n→Pv i σ H→g (.int (lo+i)) σ H λσ2 H2=>tb { D with nx:=Pv (i+1),ct:=Pv (i+1),bk:=D.nx } σ2 H2) (hd:∀σ H,Pv n σ H→D.nx σ H) :
  ∃W:Nat→Nat→St→Hp→Prop,(∃m,W 0 m σ H)∧∀i m σ H,W i m σ H →
   ((Itr lo n).stop i H∧D.nx σ H)∨((Itr lo n).go i H∧∃N:St→Hp→Prop,(∀σ' H',N σ' H'→∃m',m'<m∧W (i+1) m' σ' H')∧∀x H',(Itr lo n).yld i H x H'→g x σ H' λσ2 H2=>tb { D with nx:=N,ct:=N,bk:=D.nx } σ2 H2):=by
 refine⟨λi m σ H=>m=n - i∧i≤n∧Pv i σ H,⟨n,by simp,ψu1 _,h0⟩,?_⟩
 rintro i m σ H ⟨rfl,hi,p⟩
 by_cases hlt:i<n
 ·refine .inr ⟨hlt,Pv (i+1),λσ' H' p'=>⟨n - (i+1),by (first|lia|omega),rfl,hlt,p'⟩,λx H' y=>?_⟩
  obtain⟨e,y⟩:=y
  subst e y
  exact hs i σ _ hlt p
 ·have e:i=n:=by (first|lia|omega)
  subst e
  exact .inl ⟨ψm _,hd σ H p⟩
theorem zi7{c:TT}{tb:TS}{D:zk9}{σ:St}{H:Hp}(Pv:St→Hp→Prop)(μ:St→Hp→Nat)(h0:Pv σ H)
  (hs:∀σ H,Pv σ H→c σ H λb H1=>if b=true then tb { D with nx:=λσ' H'=>Pv σ' H'∧μ σ' H'<μ σ H,ct:=λσ' H'=>Pv σ' H'∧μ σ' H'<μ σ H,bk:=D.nx } σ H1 else D.nx σ H1)
  (mono:∀σ H Q Q',(∀b H1,Q b H1→Q' b H1)→c σ H Q→c σ H Q'):zkw c tb D σ H:=by
 refine⟨λm σ H=>m=μ σ H∧Pv σ H,⟨_,rfl,h0⟩,?_⟩
 rintro m σ H ⟨rfl,p⟩
 refine mono σ H _ _ (λb H1 q=>?_) (hs σ H p)
 cases b with
 | true=>exact⟨_,λσ' H' ⟨p',l⟩=>⟨_,l,rfl,p'⟩,q⟩
 | false=>exact q
end L2
namespace L2
open PySem PySem.Spec PyProof.Rows
abbrev R2:=V→V→Hp→VK→Prop
def OpR(X:Cx)(f:Value→Value→Sem Value)(r:R2):Prop :=
 ∀(pins:List (Addr×Obj)) (s:Shared) (σ:St) (H:Hp) (x y:V) (v u:Value) (Q:VK),Inv X pins σ H s→zdt x v→zdt y u→r x y H Q →
  wpAny (model X.prog X.w) X.A (f v u) (EP X pins σ Q) X.xe s
def UnR(X:Cx)(f:Value→Sem Value)(r:V→Hp→VK→Prop):Prop :=
 ∀(pins:List (Addr×Obj)) (s:Shared) (σ:St) (H:Hp) (x:V) (v:Value) (Q:VK),Inv X pins σ H s→zdt x v→r x H Q →
  wpAny (model X.prog X.w) X.A (f v) (EP X pins σ Q) X.xe s
def ziL(X:Cx)(f:Value)(r:List V→Hp→VK→Prop):Prop :=
 ∀(pins:List (Addr×Obj)) (s:Shared) (σ:St) (H:Hp) (xs:List V) (us:List Value) (Q:VK),Inv X pins σ H s→zcU xs us→r xs H Q →
  wpAny (model X.prog X.w) X.A (call f us) (EP X pins σ Q) X.xe s
def TruR(X:Cx)(r:V→Hp→(Bool→Hp→Prop)→Prop):Prop :=
 ∀(pins:List (Addr×Obj)) (s:Shared) (σ:St) (H:Hp) (x:V) (v:Value) (Q:Bool→Hp→Prop),Inv X pins σ H s→zdt x v→r x H Q →
  wpAny (model X.prog X.w) X.A (truthy v) (TP X pins σ Q) X.xe s
def tOp(r:R2)(ta tb:TE):TE:=λσ H Q=>ta σ H λx H1=>tb σ H1 λy H2=>r x y H2 Q
def tUn(r:V→Hp→VK→Prop)(ta:TE):TE:=λσ H Q=>ta σ H λx H1=>r x H1 Q
def rI(C:Int→Int→Prop)(g:Int→Int→V):R2:=λx y H Q=>∃i j,x=.int i∧y=.int j∧C i j∧Q (g i j) H
def rI0(g:Int→Int→V):R2:=λx y H Q=>∃i j,x=.int i∧y=.int j∧Q (g i j) H
def rU(g:Int→V):V→Hp→VK→Prop:=λx H Q=>∃i,x=.int i∧Q (g i) H
section
variable {X:Cx} {a b c:Expr} {ta tb tc:TE} {pos:Pos}
theorem binT(ha:PE X a ta)(hb:PE X b tb){pins:List (Addr×Obj)}{s:Shared}{σ:St}{H:Hp}{R:V→V→Hp→Prop}(I:Inv X pins σ H s)
  (h:ta σ H λx H1=>tb σ H1 λy H2=>R x y H2) {Q:Value→Shared→Prop} {f:Value→Value→Sem Value}
  (hf:∀v u s2 x y H2,Inv X pins σ H2 s2→zdt x v→zdt y u→R x y H2→wpAny (model X.prog X.w) X.A (f v u) Q X.xe s2) :
  wpAny (model X.prog X.w) X.A (eval a X.env) (λv s₁=>wpAny (model X.prog X.w) X.A (eval b X.env) (λu s₂=>wpAny (model X.prog X.w) X.A (f v u) Q X.xe s₂) X.xe s₁) X.xe s:=by
 refine thn (ha pins s σ H _ I h) λv s1 hQ'=>?_
 obtain⟨x,H1,I1,r1,q1⟩:=hQ'
 refine thn (hb pins s1 σ H1 _ I1 q1) λu s2 hQ'=>?_
 obtain⟨y,H2,I2,r2,q2⟩:=hQ'
 exact hf v u s2 x y H2 I2 r1 r2 q2
theorem zas{op:Operator}{r:R2}(ho:OpR X (binaryOp op) r)(ha:PE X a ta)(hb:PE X b tb):PE X (.BinOp a op b pos) (tOp r ta tb):=by
 intro pins s σ H Q I h
 exact wpAny_BinOp (binT ha hb I h λv u s2 x y H2 I2 rx ry q=>ho pins s2 σ H2 x y v u Q I2 rx ry q)
theorem zpN{op:UnaryOp}{r:V→Hp→VK→Prop}(ho:UnR X (unaryOp op) r)(ha:PE X a ta):PE X (.UnaryOp op a pos) (tUn r ta):=by
 intro pins s σ H Q I h
 exact UnaryOp_ (thn (ha pins s σ H _ I h) λv s1 ⟨x,H1,I1,r1,q1⟩=>ho pins s1 σ H1 x v Q I1 r1 q1)
theorem opI{f:Value→Value→Sem Value}{C:Int→Int→Prop}{g:Int→Int→Int}
  (rule:∀(i j:Int) (t u:Tok) (s:Shared) (Q:Value→Shared→Prop) (E:Value→Shared→Prop),C i j→Q (.int (g i j) s.toks) { s with toks:=s.toks+1 }→wpAny (model X.prog X.w) X.A (f (.int i t) (.int j u)) Q E s) :
  OpR X f (rI C λi j=>.int (g i j)):=by
 intro pins s σ H x y v u Q I rx ry h
 obtain⟨i,j,rfl,rfl,hc,q⟩:=h
 obtain⟨t,rfl⟩:=rx
 obtain⟨t',rfl⟩:=ry
 exact rule i j t t' s _ _ hc ⟨.int (g i j),H,I.tok _,⟨_,rfl⟩,q⟩
theorem opI0{f:Value→Value→Sem Value}{g:Int→Int→Int}
  (rule:∀(i j:Int) (t u:Tok) (s:Shared) (Q:Value→Shared→Prop) (E:Value→Shared→Prop),Q (.int (g i j) s.toks) { s with toks:=s.toks+1 }→wpAny (model X.prog X.w) X.A (f (.int i t) (.int j u)) Q E s) :
  OpR X f (rI0 λi j=>.int (g i j)):=by
 intro pins s σ H x y v u Q I rx ry h
 obtain⟨i,j,rfl,rfl,q⟩:=h
 obtain⟨t,rfl⟩:=rx
 obtain⟨t',rfl⟩:=ry
 exact rule i j t t' s _ _ ⟨.int (g i j),H,I.tok _,⟨_,rfl⟩,q⟩
theorem opB0{f:Value→Value→Sem Value}{g:Int→Int→Bool}
  (rule:∀(i j:Int) (t u:Tok) (s:Shared) (Q:Value→Shared→Prop) (E:Value→Shared→Prop),Q (.bool (g i j)) s→wpAny (model X.prog X.w) X.A (f (.int i t) (.int j u)) Q E s) :
  OpR X f (rI0 λi j=>.bl (g i j)):=by
 intro pins s σ H x y v u Q I rx ry h
 obtain⟨i,j,rfl,rfl,q⟩:=h
 obtain⟨t,rfl⟩:=rx
 obtain⟨t',rfl⟩:=ry
 exact rule i j t t' s _ _ ⟨.bl (g i j),H,I,rfl,q⟩
def zyF(i j:Int):Prop:=0≤j∧j≤1000000∧i.natAbs<2 ^ 64
theorem zce:OpR X (binaryOp .Add) (rI0 λi j=>.int (i+j)):=opI0 λ_ _ _ _ _ _ _ q=>add_int q
theorem zc4:OpR X (binaryOp .Sub) (rI0 λi j=>.int (i - j)):=opI0 λ_ _ _ _ _ _ _ q=>sub_int q
theorem zmX:OpR X (binaryOp .Mod) (rI (λ_ j=>0<j) λi j=>.int (i % j)):=opI λi j _ _ _ _ _ hc q=>by
 have h1:(0:Int)<j:=hc
 exact mod_int' (by (first|lia|omega)) (by rw[Int.fmod_eq_emod_of_nonneg i (by (first|lia|omega))];exact q)
theorem zv6:OpR X (binaryOp .Mod) (rI (λ_ j=>j≠0) λi j=>.int (i.fmod j)):=opI λ_ _ _ _ _ _ _ hc q=>mod_int' hc q
theorem zsr:OpR X (binaryOp .Pow) (rI zyF λi j=>.int (i ^ j.toNat)):=opI λ_ _ _ _ _ _ _ hc q=>pow_int_small hc.1 hc.2.1 hc.2.2 q
theorem unI{f:Value→Sem Value}{g:Int→Int}
  (rule:∀(i:Int) (t:Tok) (s:Shared) (Q:Value→Shared→Prop) (E:Value→Shared→Prop),Q (.int (g i) s.toks) { s with toks:=s.toks+1 }→wpAny (model X.prog X.w) X.A (f (.int i t)) Q E s) :
  UnR X f (rU λi=>.int (g i)):=by
 intro pins s σ H x v Q I rx h
 obtain⟨i,rfl,q⟩:=h
 obtain⟨t,rfl⟩:=rx
 exact rule i t s _ _ ⟨.int (g i),H,I.tok _,⟨_,rfl⟩,q⟩
theorem zkt:UnR X (unaryOp .USub) (rU λi=>.int (-i)):=unI λ_ _ _ _ _ q=>neg_int q
end
def scal:V→V→Bool
 | .non,.non=>true | .non,.int _=>true | .int _,.non=>true | .non,.bl _=>true | .bl _,.non=>true | .non,.str _=>true | .str _,.non=>true
 | .int _,.int _=>true | .bl _,.bl _=>true | .str _,.str _=>true | .byt _,.byt _=>true
 | .int _,.str _=>true | .str _,.int _=>true | .bl _,.str _=>true | .str _,.bl _=>true
 | _,_=>false
def rEq:R2:=λx y H Q=>scal x y=true∧Q (.bl (decide (x=y))) H
def rNe:R2:=λx y H Q=>scal x y=true∧Q (.bl (!decide (x=y))) H
theorem zry{i j:Int}:decide (V.int i=V.int j)=(i == j):=by
 rw[ψR1]
 simp
theorem zvD{i j:Bool}:decide (V.bl i=V.bl j)=(i == j):=by
 rw[ψR1]
 simp
theorem zqD{i j:Str}:decide (V.str i=V.str j)=(i == j):=by
 rw[ψR1]
 simp
theorem ztb{i j:Array UInt8}:decide (V.byt i=V.byt j)=(i.toList == j.toList):=by
 rw[ψR1]
 cases i
 cases j
 simp
section
variable {X:Cx} {a b c:Expr} {ta tb tc:TE} {pos:Pos}
theorem zca{pins:List (Addr×Obj)}{σ:St}{H:Hp}{s:Shared}{Q:VK}{k k':Bool}(I:Inv X pins σ H s)(q:Q (.bl k) H)(e:k=k'):EP X pins σ Q (.bool k') s:=by
 subst e
 exact⟨.bl k,H,I,rfl,q⟩
theorem zhd:OpR X (compareOp .Eq) rEq:=by
 intro pins s σ H x y v u Q I rx ry h
 obtain⟨hs,q⟩:=h
 cases x with
 | non =>
  cases rx
  cases y with
  | non=>cases ry;exact PySem.EqNone.eq_none_none (zca I q (by simp))
  | bl j=>cases ry;exact PySem.EqNone.eq_none_bool (zca I q (by simp))
  | int j=>obtain⟨t',rfl⟩:=ry;exact PySem.EqNone.eq_none_int (zca I q (by simp))
  | str j=>obtain⟨t',rfl⟩:=ry;exact PySem.EqNone.eq_none_str (zca I q (by simp))
  | _=>exact absurd (show false=true from hs) ψw
 | bl i =>
  cases rx
  cases y with
  | non=>cases ry;exact PySem.EqNone.eq_bool_none (zca I q (by simp))
  | bl j=>cases ry;exact eq_bool (zca I q zvD)
  | str j=>obtain⟨t',rfl⟩:=ry;exact PySem.EqMixed.eq_bool_str (zca I q (by simp))
  | _=>exact absurd (show false=true from hs) ψw
 | int i =>
  obtain⟨t,rfl⟩:=rx
  cases y with
  | non=>cases ry;exact PySem.EqNone.eq_int_none (zca I q (by simp))
  | int j=>obtain⟨t',rfl⟩:=ry;exact eq_int (zca I q zry)
  | str j=>obtain⟨t',rfl⟩:=ry;exact PySem.EqMixed.eq_int_str (zca I q (by simp))
  | _=>exact absurd (show false=true from hs) ψw
 | str i =>
  obtain⟨t,rfl⟩:=rx
  cases y with
  | non=>cases ry;exact PySem.EqNone.eq_str_none (zca I q (by simp))
  | bl j=>cases ry;exact PySem.EqMixed.eq_str_bool (zca I q (by simp))
  | int j=>obtain⟨t',rfl⟩:=ry;exact PySem.EqMixed.eq_str_int (zca I q (by simp))
  | str j=>obtain⟨t',rfl⟩:=ry;exact eq_str (zca I q zqD)
  | _=>exact absurd (show false=true from hs) ψw
 | byt i =>
  obtain⟨t,rfl⟩:=rx
  cases y with
  | byt j=>obtain⟨t',rfl⟩:=ry;exact PySem.W.eq_bytes (zca I q ztb)
  | _=>exact absurd (show false=true from hs) ψw
 | _=>cases y <;> exact absurd (show false=true from hs) ψw
theorem ziK:OpR X (compareOp .NotEq) rNe:=by
 intro pins s σ H x y v u Q I rx ry h
 obtain⟨hs,q⟩:=h
 cases x with
 | non =>
  cases rx
  cases y with
  | non=>cases ry;exact PySem.EqNone.ne_none_none (zca I q (by simp))
  | bl j=>cases ry;exact PySem.EqNone.ne_none_bool (zca I q (by simp))
  | int j=>obtain⟨t',rfl⟩:=ry;exact PySem.EqNone.ne_none_int (zca I q (by simp))
  | str j=>obtain⟨t',rfl⟩:=ry;exact PySem.EqNone.ne_none_str (zca I q (by simp))
  | _=>exact absurd (show false=true from hs) ψw
 | bl i =>
  cases rx
  cases y with
  | non=>cases ry;exact PySem.EqNone.ne_bool_none (zca I q (by simp))
  | bl j=>cases ry;exact ne_bool (zca I q (congrArg not zvD))
  | str j=>obtain⟨t',rfl⟩:=ry;exact PySem.EqMixed.ne_bool_str (zca I q (by simp))
  | _=>exact absurd (show false=true from hs) ψw
 | int i =>
  obtain⟨t,rfl⟩:=rx
  cases y with
  | non=>cases ry;exact PySem.EqNone.ne_int_none (zca I q (by simp))
  | int j=>obtain⟨t',rfl⟩:=ry;exact ne_int (zca I q (congrArg not zry))
  | str j=>obtain⟨t',rfl⟩:=ry;exact PySem.EqMixed.ne_int_str (zca I q (by simp))
  | _=>exact absurd (show false=true from hs) ψw
 | str i =>
  obtain⟨t,rfl⟩:=rx
  cases y with
  | non=>cases ry;exact PySem.EqNone.ne_str_none (zca I q (by simp))
  | bl j=>cases ry;exact PySem.EqMixed.ne_str_bool (zca I q (by simp))
  | int j=>obtain⟨t',rfl⟩:=ry;exact PySem.EqMixed.ne_str_int (zca I q (by simp))
  | str j=>obtain⟨t',rfl⟩:=ry;exact ne_str (zca I q (congrArg not zqD))
  | _=>exact absurd (show false=true from hs) ψw
 | byt i =>
  obtain⟨t,rfl⟩:=rx
  cases y with
  | byt j=>obtain⟨t',rfl⟩:=ry;exact PySem.W.ne_bytes (zca I q (congrArg not ztb))
  | _=>exact absurd (show false=true from hs) ψw
 | _=>cases y <;> exact absurd (show false=true from hs) ψw
theorem zjv:OpR X (compareOp .Lt) (rI0 λi j=>.bl (decide (i<j))):=opB0 λ_ _ _ _ _ _ _ q=>lt_int q
theorem zmG:OpR X (compareOp .LtE) (rI0 λi j=>.bl (decide (i≤j))):=opB0 λ_ _ _ _ _ _ _ q=>le_int q
theorem zjD:OpR X (compareOp .Gt) (rI0 λi j=>.bl (decide (j<i))):=opB0 λ_ _ _ _ _ _ _ q=>gt_int q
theorem zmT:OpR X (compareOp .GtE) (rI0 λi j=>.bl (decide (j≤i))):=opB0 λ_ _ _ _ _ _ _ q=>ge_int q
theorem zyC:OpR X (compareOp .Is) (λx y H Q=>y=.non∧Q (.bl (decide (x=.non))) H):=by
 intro pins s σ H x y v u Q I rx ry h
 obtain⟨rfl,q⟩:=h
 cases ry
 refine is_none_gen (zca I q ?_)
 cases x <;> first
  | (cases rx;rfl)
  | (obtain⟨t,rfl⟩:=rx;rfl)
theorem za4(b:Expr){op:CmpOp}(h:op≠.In:=by decide)(h2:op≠.NotIn:=by decide):behindInMarks op b=false:=by
 have e1:(op == CmpOp.In)=false:=by cases op <;> first | rfl | exact absurd rfl h
 have e2:(op == CmpOp.NotIn)=false:=by cases op <;> first | rfl | exact absurd rfl h2
 cases b <;> simp[behindInMarks,e1,e2]
theorem zcb{op:CmpOp}{r:R2}(ho:OpR X (compareOp op) r)(ha:PE X a ta)(hb:PE X b tb)(hm:behindInMarks op b=false):PE X (.Compare a [op] [b] pos) (tOp r ta tb):=by
 intro pins s σ H Q I h
 exact wpAny_Compare1 (binT ha hb I h λv u s2 x y H2 I2 rx ry q=>ho pins s2 σ H2 x y v u Q I2 rx ry q) hm
def zb5(t:TE):TT:=λσ H Q=>t σ H λx H'=>∃k,x=.bl k∧Q k H'
theorem zbb{op:CmpOp}{r:R2}(ho:OpR X (compareOp op) r)(ha:PE X a ta)(hb:PE X b tb)(hm:behindInMarks op b=false):PT X (.Compare a [op] [b] pos) (zb5 (tOp r ta tb)):=by
 intro pins s σ H Q I h
 refine wpAny_isTrue_Compare1 (thn (ha pins s σ H _ I h) λv s1 ⟨x,H1,I1,r1,q1⟩=>thn (hb pins s1 σ H1 _ I1 q1) λu s2 ⟨y,H2,I2,r2,q2⟩ =>
  thn (ho pins s2 σ H2 x y v u _ I2 r1 r2 q2) λc s3 ⟨z,H3,I3,r3,k,e,q3⟩=>?_) hm
 subst e
 cases r3
 exact wpAny_truthy_bool ⟨H3,I3,q3⟩
def zl5(r r':R2)(ta tb tc:TE):TE:=λσ H Q=>ta σ H λx H1=>tb σ H1 λy H2=>r x y H2 λz H3=>∃k,z=.bl k ∧
 (if k=true then tc σ H3 λw' H4=>r' y w' H4 Q else Q (.bl false) H3)
theorem zuK{op op':CmpOp}{r r':R2}(ho:OpR X (compareOp op) r)(ho':OpR X (compareOp op') r')(ha:PE X a ta)(hb:PE X b tb)(hc:PE X c tc)
  (hm:lastMarks [op,op'] [b,c]=false:=by with_unfolding_all rfl):PE X (.Compare a [op,op'] [b,c] pos) (zl5 r r' ta tb tc):=by
 intro pins s σ H Q I h
 refine Compare_chain (thn (ha pins s σ H _ I h) λv s1 ⟨x,H1,I1,r1,q1⟩=>chain_link (thn (hb pins s1 σ H1 _ I1 q1) λu s2 ⟨y,H2,I2,r2,q2⟩ =>
  thn (ho pins s2 σ H2 x y v u _ I2 r1 r2 q2) λd s3 ⟨z,H3,I3,r3,k,e,q3⟩=>?_)) hm
 subst e
 cases r3
 refine wpAny_truthy_bool ?_
 cases k with
 | false=>exact ite_ff ⟨.bl false,H3,I3,rfl,q3⟩
 | true=>exact ite_tt (chain_last (thn (hc pins s3 σ H3 _ I3 q3) λw' s4 ⟨z',H4,I4,r4,q4⟩=>ho' pins s4 σ H4 y z' u w' Q I4 r2 r4 q4))
theorem zuF{op op':CmpOp}{r r':R2}(ho:OpR X (compareOp op) r)(ho':OpR X (compareOp op') r')(ha:PE X a ta)(hb:PE X b tb)(hc:PE X c tc)
  (hm:lastMarks [op,op'] [b,c]=false:=by with_unfolding_all rfl):PT X (.Compare a [op,op'] [b,c] pos) (zb5 (zl5 r r' ta tb tc)):=by
 intro pins s σ H Q I h
 refine isTrue_chain (thn (ha pins s σ H _ I h) λv s1 ⟨x,H1,I1,r1,q1⟩=>test_link (thn (hb pins s1 σ H1 _ I1 q1) λu s2 ⟨y,H2,I2,r2,q2⟩ =>
  thn (ho pins s2 σ H2 x y v u _ I2 r1 r2 q2) λd s3 ⟨z,H3,I3,r3,k,e,q3⟩=>?_)) hm
 subst e
 cases r3
 refine wpAny_truthy_bool ?_
 cases k with
 | false =>
  obtain⟨k',e',q'⟩:=q3
  cases e'
  exact ite_ff ⟨H3,I3,q'⟩
 | true =>
  refine ite_tt (test_last (thn (hc pins s3 σ H3 _ I3 q3) λw' s4 ⟨z',H4,I4,r4,q4⟩=>thn (ho' pins s4 σ H4 y z' u w' _ I4 r2 r4 q4) λd' s5 hQ'=>?_))
  obtain⟨z2,H5,I5,r5,k2,e2,q5⟩:=hQ'
  subst e2
  cases r5
  exact wpAny_truthy_bool ⟨H5,I5,q5⟩
def zy7(K:ψa)(x:V)(H:Hp)(k:Bool):Prop :=
 match x with
 | .non=>k=false
 | .bl b=>k=b
 | .int i=>k=(i != 0)
 | .str y=>y.length≤sizeLine∧k=((y.length:Int) != 0)
 | .byt y=>y.size≤sizeLine∧k=((y.size:Int) != 0)
 | .ref p=>(∃xs,SqL K H p xs∧k=!xs.isEmpty)∨(∃xs,SqT K H p xs∧k=!xs.isEmpty)∨∃kvs,H p=some (.dK kvs)∧k=!kvs.isEmpty
 | _=>False
theorem zqh{κ:Type}{kvs:List (κ×V)}{vs:List (κ×Value)}(r:KV kvs vs):(!vs.isEmpty)=!kvs.isEmpty:=by
 cases r <;> rfl
theorem zkA{xs:List V}{its:List Value}(r:zcU xs its):(!its.toArray.isEmpty)=!xs.isEmpty:=by
 cases r <;> simp
theorem zm8:(sizeLine:Nat)<2 ^ 63:=by rw[sizeLine_eq];decide
theorem zyH:TruR X (λx H Q=>∃k,zy7 X.K x H k∧Q k H):=by
 intro pins s σ H x v Q I rx h
 obtain⟨k,e,q⟩:=h
 have hl:=zm8
 have hs:sizeLine=16777216:=sizeLine_eq
 cases x with
 | non =>
  cases rx
  have e':k=false:=e
  subst e'
  exact truthy_none ⟨H,I,q⟩
 | bl b =>
  cases rx
  have e':k=b:=e
  subst e'
  exact wpAny_truthy_bool ⟨H,I,q⟩
 | int i =>
  obtain⟨t,rfl⟩:=rx
  have e':k=(i != 0):=e
  subst e'
  exact PySem.P.truthy_int ⟨H,I,q⟩
 | str y =>
  obtain⟨t,rfl⟩:=rx
  obtain⟨hy,e'⟩:y.length≤sizeLine∧k=((y.length:Int) != 0):=e
  subst e'
  exact PySem.P.truthy_str (by (first|lia|omega)) ⟨H,I.tok _,q⟩
 | byt y =>
  obtain⟨t,rfl⟩:=rx
  obtain⟨hy,e'⟩:y.size≤sizeLine∧k=((y.size:Int) != 0):=e
  subst e'
  exact PySem.W.truthy_bytes (by (first|lia|omega)) ⟨H,I.tok _,q⟩
 | ref p =>
  cases rx
  have e':(∃xs,SqL X.K H p xs∧k=!xs.isEmpty)∨(∃xs,SqT X.K H p xs∧k=!xs.isEmpty)∨∃kvs,H p=some (.dK kvs)∧k=!kvs.isEmpty:=e
  rcases e' with ⟨xs,hx,e'⟩ | ⟨xs,hx,e'⟩ | ⟨kvs,hx,e'⟩
  ·subst e'
   obtain⟨its,r,pl,hz⟩:=I.list hx
   have hlen:=r.length
   exact wpAny_truthy_list pl.isList (by simp only[ψg];(first|lia|omega)) ⟨H,I.tok _,by rw[zkA r];exact q⟩
  ·subst e'
   obtain⟨its,r,pl,hz⟩:=I.tuple hx
   have hlen:=r.length
   exact truthy_tuple pl (by simp only[ψg];(first|lia|omega)) ⟨H,I.tok _,by rw[zkA r];exact q⟩
  ·subst e'
   obtain⟨hz,hS,vs,r,m⟩:kvs.length≤sizeLine∧(p == sysModules)=false∧∃vs,KV kvs vs∧s.heap.DictOf (zn4 X.prog X.w) p vs:=I.hok p _ hx
   have hlen:kvs.length=vs.length:=Paired.length r
   exact wpAny_truthy_dict hS m (by (first|lia|omega)) ⟨H,I.tok _,by rw[zqh r];exact q⟩
 | _=>exact(show False from e).elim
theorem zpE(ha:PE X a ta)(he:∀whole,isTrue a X.env whole=(do let v ← whole;standAt a.pos;holding [v] (truthy v))) :
  PT X a (λσ H Q=>ta σ H λx H'=>∃k,zy7 X.K x H' k∧Q k H'):=by
 intro pins s σ H Q I h
 exact isTrue_plain (thn (ha pins s σ H _ I h) λv s1 ⟨x,H1,I1,r1,q1⟩=>zyH pins s1 σ H1 x v Q I1 r1 q1) (he _)
theorem zr4{x:V}{us:List Value}(r:zcU [x] us):∃u,us=[u]∧zdt x u:=by
 cases r with
 | cons r1 r2=>cases r2;exact⟨_,rfl,r1⟩
theorem zvg{x y:V}{us:List Value}(r:zcU [x,y] us):∃u w',us=[u,w']∧zdt x u∧zdt y w':=by
 cases r with
 | cons r1 r2 =>
  cases r2 with
  | cons r3 r4=>cases r4;exact⟨_,_,rfl,r1,r3⟩
theorem zo7:ziL X (.builtin "abs") (λxs H Q=>∃i,xs=[.int i]∧Q (.int (if i<0 then -i else i)) H):=by
 intro pins s σ H xs us Q I r h
 obtain⟨i,rfl,q⟩:=h
 obtain⟨u,rfl,t,rfl⟩:=zr4 r
 exact call_abs_int λu tk=>⟨.int (if i<0 then -i else i),H,I.tok _,⟨_,rfl⟩,q⟩
theorem zf5(hc:X.calm=true):ziL X (.builtin "max") (λxs H Q=>∃i j,xs=[.int i,.int j]∧Q (.int (if j > i then j else i)) H):=by
 intro pins s σ H xs us Q I r h
 obtain⟨i,j,rfl,q⟩:=h
 obtain⟨u,w',rfl,⟨t,rfl⟩,⟨t',rfl⟩⟩:=zvg r
 refine max_two_ints (I.ok.hd hc) λh' tk k=>⟨_,H,I.kept k,?_,q⟩
 by_cases hj:j > i
 ·rw[if_pos hj,if_pos hj];exact⟨_,rfl⟩
 ·rw[if_neg hj,if_neg hj];exact⟨_,rfl⟩
theorem zsg(hc:X.calm=true):ziL X (.builtin "min") (λxs H Q=>∃i j,xs=[.int i,.int j]∧Q (.int (if j<i then j else i)) H):=by
 intro pins s σ H xs us Q I r h
 obtain⟨i,j,rfl,q⟩:=h
 obtain⟨u,w',rfl,⟨t,rfl⟩,⟨t',rfl⟩⟩:=zvg r
 refine min_two_ints (I.ok.hd hc) λh' tk k=>⟨_,H,I.kept k,?_,q⟩
 by_cases hj:j<i
 ·rw[if_pos hj,if_pos hj];exact⟨_,rfl⟩
 ·rw[if_neg hj,if_neg hj];exact⟨_,rfl⟩
end
end L2
namespace L2
open PySem PySem.Spec PyProof.Rows
structure ObjM (h:Heap) (x dx C:Addr) (mA:Str→Option Value):Prop where
 obj:h.get? x=some (PySem.W.instObj C dx)
 ns:h.Ns1 dx mA
 ne:dx≠x
theorem zri{h:Heap}{dx:Addr}{mA:Str→Option Value}(n:h.Ns1 dx mA):∃od,h.get? dx=some od∧∀name,PySem.W.lookIn name od=some (mA name):=by
 obtain⟨o,es,ep,ho,hd,hk,_,hm⟩:=n
 refine⟨o,ho,λname=>?_⟩
 have e:=hm name
 unfold nsFind findBy at e
 rw[← Array.find?_toList] at e
 unfold PySem.W.lookIn
 rw[hd]
 dsimp only
 split
 ·rename_i y q
  rw[q] at e
  exact congrArg some e
 ·rename_i q
  rw[q] at e
  have a:es.toList.any (·.refKey)=false:=by
   rw[List.any_eq_false]
   intro y hy
   obtain⟨z,t,hkey⟩:=hk y (Array.mem_toList_iff.mp hy)
   simp[DictEntry.refKey,hkey]
  have a':¬ es.toList.any (·.refKey)=true:=by rw[a];exact ψw
  rw[if_neg a']
  exact congrArg some e
theorem ObjM.look{h:Heap}{x dx C:Addr}{mA:Str→Option Value}(I:ObjM h x dx C mA):∃od,PySem.W.InstAt h x (PySem.W.instObj C dx) C (some od)∧∀name,PySem.W.lookIn name od=some (mA name) :=
 let ⟨od,ho,hl⟩:=zri I.ns
 ⟨od,⟨I.obj,rfl,rfl,ho⟩,hl⟩
section
variable {prog:Program} {w:World} {A:Around} {E:Value→Shared→Prop} {s:Shared} {K:ψa} {x dx C f:Addr} {mA:Str→Option Value} {name:Str} {v:Value}
end
section
variable {P:Program} {w:World} {H H':Hp} {h h':Heap} {a C dx:Addr} {fs fs':List (Str×V)}
theorem zwX(hok:HOk P w H h)(e:H a=some (.ins C dx fs)):∃mA,ObjM h a dx C mA∧(∀f,RelO (fs.lookup f) (mA f))∧PySem.Within mA (fs.map (·.1))∧fs.length≤1000∧H dx=some (.own a):=by
 obtain⟨d,z,ne,ob,mA,n,r,q⟩:=(show zev P w H h a (.ins C dx fs) from hok a _ e)
 exact⟨mA,⟨ob,n,ne⟩,r,q,z,d⟩
end
structure Cls (K:ψa) (C:Addr):Prop where
 pg:PySem.W.plainGet K C Str.empty=true
 hd:PySem.W.hasDictIn K C=true
 po:PySem.W.plainOver K C=true
 sa:PySem.W.findIn K (.ref C) "__setattr__"=some (some (.builtin "object.__setattr__"))
theorem Cls.get{K:ψa}{C:Addr}(c:Cls K C)(f:Str):PySem.W.plainGet K C f=true:=c.pg
section
variable {X:Cx} {pins:List (Addr×Obj)} {σ:St} {H:Hp} {s:Shared} {a C dx:Addr} {fs:List (Str×V)} {f:Str} {v:V} {A:Around} {E:Value→Shared→Prop}
end
section
variable {X:Cx} {o e value:Expr} {f:Str} {pos pos' tpos:Pos} {ta tv:TE}
end
section
variable {X:Cx} {pins:List (Addr×Obj)} {σ:St} {H:Hp} {s:Shared} {A:Around} {E:Value→Shared→Prop} {Q:Value→Shared→Prop} {c:Value} {b:Bool}
inductive zpn (K:ψa) (H:Hp):V→Value→Prop where
 | non:zpn K H .non (.type "NoneType")
 | bl (x:Bool):zpn K H (.bl x) (.type "bool")
 | int (i:Int):zpn K H (.int i) (.type "int")
 | str (x:Str):zpn K H (.str x) (.type "str")
 | flt (x:UInt64):zpn K H (.flt x) (.type "float")
 | lst {a:Addr} {xs:List V} (e:H a=some (.lst xs)):zpn K H (.ref a) (.type "list")
 | frz {a:Addr} {o:Obj} {xs:List V} (e:H a=some (.frz o (.lst xs))):zpn K H (.ref a) (.type "list")
 | tup {a:Addr} {xs:List V} (e:H a=some (.tup xs)):zpn K H (.ref a) (.type "tuple")
 | dK {a:Addr} {kvs:List (Key×V)} (e:H a=some (.dK kvs)):zpn K H (.ref a) (.type "dict")
 | dT {a:Addr} {kvs:List (List Key×V)} (e:H a=some (.dT kvs)):zpn K H (.ref a) (.type "dict")
 | ins {a C dx:Addr} {fs:List (Str×V)} (e:H a=some (.ins C dx fs)) (cl:Cls K C) (ha:PySem.W.findIn K (.ref C) "__class__"=some (some (.builtin "object.__class__")))
   (hn:PySem.W.specialIn K (.builtin "object.__class__") "__get__"=some (some (.builtin "getset_descriptor.__get__"))) (htk:PySem.W.takesIn K (.builtin "object.__class__")=some true)
   (hm:PySem.W.mroIn K C (.type "object")=some true):zpn K H (.ref a) (.ref C)
theorem zrq{x:V}{u t:Value}(I:Inv X pins σ H s)(rx:zdt x u)(ty:zpn X.K H x t)(e:ψX1 X.K t c=some b)(h:∀tk,Q (.bool b) { s with toks:=tk }) :
  wpAny (model X.prog X.w) A (call (.builtin "isinstance") [u,c]) Q E s:=by
 cases ty with
 | non=>cases (show u=Value.none from rx);exact ψh1 PySem.W.kitx_none I.kIn True.intro e (λz=>nomatch z) h
 | bl y=>cases (show u=Value.bool y from rx);exact ψh1 PySem.W.kitx_bool I.kIn True.intro e (λz=>nomatch z) h
 | int i=>obtain⟨t,q⟩:=(show ∃t,u=Value.int i t from rx);cases q;exact ψh1 PySem.W.kitx_int I.kIn True.intro e (λz=>nomatch z) h
 | str y=>obtain⟨t,q⟩:=(show ∃t,u=Value.str y t from rx);cases q;exact ψh1 PySem.W.kitx_str I.kIn True.intro e (λz=>nomatch z) h
 | flt y=>obtain⟨t,q⟩:=(show ∃t,u=Value.float y t from rx);cases q;exact ψh1 PySem.W.kitx_float I.kIn True.intro e (λz=>nomatch z) h
 | @lst a xs ea =>
  cases (show u=Value.ref a from rx)
  obtain⟨_,_,n,_,h1⟩:=(show zev X.prog X.w H s.heap a (.lst xs) from I.hok a _ ea)
  exact ψh1 PySem.W.kitx_list I.kIn ⟨_,h1,rfl⟩ e (λz=>nomatch z) h
 | @frz a ob xs ea =>
  cases (show u=Value.ref a from rx)
  obtain⟨_,_,_,n,_,h1⟩:=(show zev X.prog X.w H s.heap a (.frz ob (.lst xs)) from I.hok a _ ea)
  exact ψh1 PySem.W.kitx_list I.kIn ⟨_,h1,rfl⟩ e (λz=>nomatch z) h
 | @tup a xs ea =>
  cases (show u=Value.ref a from rx)
  obtain⟨_,_,_,p⟩:=(show zev X.prog X.w H s.heap a (.tup xs) from I.hok a _ ea)
  obtain⟨o,h1,h2,_⟩:=p
  exact ψh1 PySem.W.kitx_tuple I.kIn ⟨o,h1,h2⟩ e (λz=>nomatch z) h
 | @dK a kvs ea =>
  cases (show u=Value.ref a from rx)
  obtain⟨_,_,vs,_,p⟩:=(show zev X.prog X.w H s.heap a (.dK kvs) from I.hok a _ ea)
  obtain⟨o,es,ep,h1,h2,_⟩:=p
  exact ψh1 PySem.W.kitx_dict I.kIn ⟨o,h1,h2.1⟩ e (λz=>nomatch z) h
 | @dT a kvs ea =>
  cases (show u=Value.ref a from rx)
  obtain⟨_,_,xs,_,o,es,ep,h1,h2,_⟩:=(show zev X.prog X.w H s.heap a (.dT kvs) from I.hok a _ ea)
  exact ψh1 PySem.W.kitx_dict I.kIn ⟨o,h1,h2.1⟩ e (λz=>nomatch z) h
 | @ins a C dx fs ea cl ha hn htk hm =>
  cases (show u=Value.ref a from rx)
  obtain⟨mA,O,_⟩:=zwX I.hok ea
  obtain⟨od,J,_⟩:=O.look
  exact ψh1 (PySem.W.kitx_own (cl.get _) cl.hd ha hn htk hm) I.kIn J e (λz=>nomatch z) h
end
end L2
namespace L2
open PySem PySem.Spec PyProof.Rows
structure zkW (k:Nat) (A:Around):Prop where
 hd:A.handled=none
 dp:A.depth+3*k+5<recursionLimit
 un:A.units+16*k+200<cLine
theorem zkW.mono{j k:Nat}{A:Around}(r:zkW k A)(h:j≤k):zkW j A:=⟨r.hd,by have:=r.dp;(first|lia|omega),by have:=r.un;(first|lia|omega)⟩
theorem zkW.deeper{k:Nat}{A:Around}(r:zkW (k+1) A)(env:Env):zkW k (A.deeper env) :=
 ⟨r.hd,by have:=r.dp;show A.depth+1+3*k+5<_;(first|lia|omega),by have:=r.un;show A.units+3+16*k+200<_;(first|lia|omega)⟩
theorem zkW.depth{k:Nat}{A:Around}(r:zkW k A):A.depth<recursionLimit:=by have:=r.dp;(first|lia|omega)
theorem zkW.units{k:Nat}{A:Around}(r:zkW k A):A.units+64<cLine:=by have:=r.un;(first|lia|omega)
theorem zkW.units0{k:Nat}{A:Around}(r:zkW k A):A.units<cLine:=by have:=r.un;(first|lia|omega)
def zau:TA:=λ_ H Q=>Q [] H
def zab(ta:TE)(tr:TA):TA:=λσ H Q=>ta σ H λx H1=>tr σ H1 λxs H2=>Q (x::xs) H2
section
variable {X:Cx} {e:Expr} {es:List Expr} {te:TE} {t:TA} {pos:Pos}
theorem zad:PA X [] zau:=λ_ _ _ _ H Q I h=>Calls.spliced_nil ⟨[],H,I,.nil,h⟩
theorem zaa(ha:PE X e te)(hr:PA X es t)(hs:starEach (e::es) X.env=(false,eval e X.env)::starEach es X.env:=by rfl):PA X (e::es) (zab te t):=by
 intro pos pins s σ H Q I h
 rw[hs]
 show wpAny _ _ (spliced ((false,eval e X.env)::backTo pos (starEach es X.env))) _ _ s
 refine Calls.spliced_cons (thn (ha pins s σ H _ I h) λu s1 hQ'=>?_)
 obtain⟨x,H1,I1,r1,q1⟩:=hQ'
 exact thn (hr pos pins s1 σ H1 _ I1 q1) λus s2 ⟨xs,H2,I2,r2,q2⟩=>⟨x::xs,H2,I2,.cons r1 r2,q2⟩
def zeG(t:TA):TE:=λσ H Q=>t σ H λxs H1=>xs.length≤sizeLine∧∀p,H1 p=none→Q (.ref p) (upd H1 p (.tup xs))
def zhw(t:TA):TE:=λσ H Q=>t σ H λxs H1=>xs.length≤sizeLine∧∀p,H1 p=none→Q (.ref p) (upd H1 p (.lst xs))
theorem zbE{x1}(h:PA X es t):PE X (.Tuple es x1 pos) (zeG t):=by
 intro pins s σ H Q I hq
 refine wpAny_Tuple_spliced (thn (h pos pins s σ H _ I hq) λus s1 ⟨xs,H1,I1,r,z,q⟩=>⟨by rw[← r.length];exact z,?_⟩)
 have hf:H1 s1.heap.objs.size=none:=I1.hok.fresh (ψm _)
 refine⟨.ref s1.heap.objs.size,upd H1 s1.heap.objs.size (.tup xs),I1.laid (t':=s1.toks) (λb u e=>Heap.get?_push_of_some _ e) (ψm _) ?_,rfl,q _ hf⟩
 exact⟨z,us,r,⟨_,Heap.get?_push_size _ rfl,rfl,_,rfl⟩⟩
theorem zcp(h:PA X es t):PE X (.List es pos) (zhw t):=by
 intro pins s σ H Q I hq
 refine wpAny_List_spliced (thn (h pos pins s σ H _ I hq) λus s1 ⟨xs,H1,I1,r,z,q⟩=>⟨by rw[← r.length];exact z,?_⟩)
 have hf:H1 s1.heap.objs.size=none:=I1.hok.fresh (ψm _)
 refine⟨.ref s1.heap.objs.size,upd H1 s1.heap.objs.size (.lst xs),I1.laid (t':=s1.toks) (λb u e=>Heap.get?_push_of_some _ e) (ψm _) ?_,rfl,q _ hf⟩
 exact⟨z,us,0,r,Heap.get?_push_size _ rfl⟩
end
abbrev Sp:=List V→Hp→VK→XK→Prop
abbrev CXT:=List Env→Hp→Shared→XK→Value→Shared→Prop
structure Env0 (P:Program) (w:World) (K:ψa) (mg:Str→Option Value) (base:Heap) (A:Around) (outer:List Env) (s:Shared) (H:Hp):Prop where
 frames:A.frames=some outer
 mod:Mod K mg base
 bs:∀b o,base.get? b=some o→s.heap.get? b=some o∧H b=none
 bsz:base.objs.size≤s.heap.objs.size
 funs:s.heap.FunFrames base outer
 frf:∀b∈frs outer,H b=none
 hok:HOk P w H s.heap
 bare:AllBare s.gens
def CE(outer:List Env)(P:Program)(w:World)(H:Hp)(s:Shared)(Q:VK)(u:Value)(s':Shared):Prop :=
 ∃v H',s'.os=s.os∧AllBare s'.gens∧Un (frs outer) [] H H' s.heap s'.heap∧HOk P w H' s'.heap∧zdt v u∧Q v H'
def CR(CX:CXT)(outer:List Env)(P:Program)(w:World)(H:Hp)(s:Shared)(Q:VK)(E:XK)(r:Result)(s':Shared):Prop :=
 match r with
 | .ok (.ret u)=>CE outer P w H s Q u s'
 | .ok _=>False
 | .error e=>CX outer H s E e s'
structure zcn (P:Program) (w:World) (K:ψa) (mg:Str→Option Value) (base:Heap) (CX:CXT) (k:Nat) (f:Addr) (fd:FuncData) (ps:List Str) (sp:Sp):Prop where
 len:∀vs H Q E,sp vs H Q E→vs.length=ps.length
 run:∀(A:Around) (outer:List Env) (s:Shared) (H:Hp) (args:Args) (us:List Value) (vs:List V) (Q:VK) (E:XK),zkW k A→Env0 P w K mg base A outer s H→BindsTo s fd args (ps.zip us)→zcU vs us→sp vs H Q E →
  codeAny (model P w) A (.call (.ref f) args) (CR CX outer P w H s Q E) s
section
variable {X:Cx} {pins:List (Addr×Obj)} {σ:St} {H:Hp} {s s':Shared}
theorem Inv.env0(I:Inv X pins σ H s):Env0 X.prog X.w X.K X.mg X.base X.A X.stack s H :=
 ⟨I.ok.frames,I.ok.mod,I.bs,ψd1 I.ok.bsz I.sz,I.stack,I.stkFree,I.hok,I.bare⟩
theorem Inv.after{Q:VK}{u:Value}(I:Inv X pins σ H s)(h:CE X.stack X.prog X.w H s Q u s'):EP X pins σ Q u s':=by
 obtain⟨v,H',os,bare,un,hok,r,q⟩:=h
 obtain⟨hh,g,d,t,os'⟩:=s'
 obtain rfl:os'=s.os:=os
 exact⟨v,H',I.call (h':=hh) (g':=g) (d':=d) (t':=t) (ch:=[]) un hok bare (λb z=>absurd z (by simp)),r,q⟩
end
def zaz(sp:Sp)(dvs:List V)(E:XK)(t:TA):TE:=λσ H Q=>t σ H λvs H1=>sp (vs++dvs) H1 Q E
def zbw(K:ψa)(fd:FuncData)(ps:List Str)(ds:List Value):Prop :=
 ∀(s:Shared) (us:List Value),K.In s.heap→(us++ds).length=ps.length→BindsTo s fd ⟨us,[]⟩ (ps.zip (us++ds))
theorem zbw.all{K:ψa}{fd:FuncData}{ps:List Str}(h:∀us:List Value,us.length=ps.length→bindArgs fd ⟨us,[]⟩=pure (ps.zip us)):zbw K fd ps []:=λs us _ hl=>by
 rw[List.append_nil] at hl ⊢
 exact .of_eq (h us hl)
def zqW(CX:CXT)(X:Cx)(E:XK):Prop:=∀(pins:List (Addr×Obj)) (σ:St) (H:Hp) (s:Shared) (e:Value) (s':Shared),Inv X pins σ H s→CX X.stack H s E e s'→X.xe e s'
section
variable {X:Cx} {CX:CXT} {k:Nat} {f C:Addr} {fd:FuncData} {ps:List Str} {sp:Sp} {dvs:List V} {ds:List Value} {E:XK} {x m:Str} {p pos apos:Pos} {e o:Expr} {es:List Expr} {ta:TE} {t:TA}
theorem zzk{pins:List (Addr×Obj)}{σ:St}{H:Hp}{s:Shared}{Q:VK}{us:List Value}{vs:List V}(F:zcn X.prog X.w X.K X.mg X.base CX k f fd ps sp)(hr:zkW k X.A)(hb:zbw X.K fd ps ds)(hd:zcU dvs ds)(hx:zqW CX X E)
  (I:Inv X pins σ H s) (r:zcU vs us) (h:sp (vs++dvs) H Q E):wpAny (model X.prog X.w) X.A (call (.ref f) us) (EP X pins σ Q) X.xe s:=by
 have r2:zcU (vs++dvs) (us++ds):=r.append hd
 have hl:(us++ds).length=ps.length:=by rw[← r2.length];exact F.len _ _ _ _ h
 refine wpAny_call (codeAny_mono (F.run X.A X.stack s H ⟨us,[]⟩ (us++ds) (vs++dvs) Q E hr I.env0 (hb s us I.kIn hl) r2 h) λr s' hq=>?_)
 cases r with
 | error e=>exact hx pins σ H s e s' I hq
 | ok fl =>
  cases fl with
  | ret u=>exact I.after hq
  | next=>exact False.elim hq
  | brk=>exact False.elim hq
  | cont=>exact False.elim hq
theorem zah(F:zcn X.prog X.w X.K X.mg X.base CX k f fd ps sp)(hr:zkW k X.A)(hg:Gl X x)(hm:X.mg x=some (.ref f))(hk:PySem.W.keepIn X.K (.ref f)=true)(hb:zbw X.K fd ps ds)(hd:zcU dvs ds)(hx:zqW CX X E)
  (ha:PA X (e::es) t) (hdb:(x == ("__debug__":Str))=false:=by decide) (he:starEach (e::es) X.env=(false,eval e X.env)::starEach es X.env:=by rfl) (hpl:(backTo pos (starEach es X.env)).any (·.1)=false:=by rfl) :
  PE X (.Call (.Name x p) (e::es) [] pos) (zaz sp dvs E t):=by
 intro pins s σ H Q I h
 refine wpAny_Call_Name_kw (ztg I hg hm ?_ hdb)
 refine PySem.W.callWith_K (h₀:=X.base) I.ok.mod.kin hk (thn (ha pos pins s σ H _ I h) λus s1 ⟨vs,H1,I1,r,q⟩=>⟨I1.kIn,?_⟩) he hpl
 exact zzk F hr hb hd hx I1 r q
end
section
variable {X:Cx} {CX:CXT} {k:Nat} {f C:Addr} {fd:FuncData} {ps ks:List Str} {sp:Sp} {E:XK} {x m:Str} {p pos apos kpos:Pos} {e o:Expr} {es:List Expr} {kws:List Keyword} {te ta:TE} {t tk:TA} {nm:Option Str}
variable {g:List Value→List Value→List Value} {gV:List V→List V→List V}
end
structure zaB (N P:List Str) (sc:Scope):Prop where
 kind:sc.kind=.function
 co:sc.isCoroutine=false
 gen:sc.isGenerator=false
 nd:N.Nodup
 pre:N.take P.length=P
 par:∀x∈P,sc.names.lookup x=some .local∨sc.names.lookup x=some .cell
 nofree:∀y∈sc.names,y.2≠.free
theorem zl9{kindOf:Str→Option NameKind}{x:Str}:∀{binds:List (Str×Value)} {m:Str→Option Value},(∀v,(x,v)∉binds)→bindL kindOf binds m x=m x
 | [],_,_=>rfl
 | (n,v)::r,m,h=>by
  unfold bindL
  rw[zl9 λw hw=>h w (ψd _ hw)]
  split
  ·have:x≠n:=by rintro rfl;exact h v ψf
   simp[this]
  ·rfl
theorem zmz{kindOf:Str→Option NameKind}{x:Str}:∀{binds:List (Str×Value)} {m:Str→Option Value},(∀v,(x,v)∉binds)→bindC kindOf binds m x=m x
 | [],_,_=>rfl
 | (n,v)::r,m,h=>by
  unfold bindC
  rw[zmz λw hw=>h w (ψd _ hw)]
  split
  ·rfl
  ·have:x≠n:=by rintro rfl;exact h v ψf
   simp[this]
theorem zm7{kindOf:Str→Option NameKind}{x:Str}{v:Value}:∀{P:List Str} {vs:List Value} {i:Nat} {m:Str→Option Value},P.Nodup→P[i]?=some x→vs[i]?=some v→kindOf x=some .local →
  bindL kindOf (P.zip vs) m x=some v
 | [],_,_,_,_,h,_,_=>by simp at h
 | _::_,[],_,_,_,_,h,_=>by simp at h
 | p::P,w::vs,0,m,nd,h1,h2,hk=>by
  simp at h1 h2;subst h1;subst h2
  show bindL kindOf ((p,w)::P.zip vs) m p=_
  unfold bindL
  rw[zl9 λv hv=>(List.nodup_cons.mp nd).1 (List.of_mem_zip hv).1,if_pos hk]
  simp
 | p::P,w::vs,i+1,m,nd,h1,h2,hk=>by
  show bindL kindOf ((p,w)::P.zip vs) m x=_
  unfold bindL
  exact zm7 (i:=i) (List.nodup_cons.mp nd).2 (by simpa using h1) (by simpa using h2) hk
theorem zmo{kindOf:Str→Option NameKind}{x:Str}{v:Value}:∀{P:List Str} {vs:List Value} {i:Nat} {m:Str→Option Value},P.Nodup→P[i]?=some x→vs[i]?=some v→kindOf x≠some .local →
  bindC kindOf (P.zip vs) m x=some v
 | [],_,_,_,_,h,_,_=>by simp at h
 | _::_,[],_,_,_,_,h,_=>by simp at h
 | p::P,w::vs,0,m,nd,h1,h2,hk=>by
  simp at h1 h2;subst h1;subst h2
  show bindC kindOf ((p,w)::P.zip vs) m p=_
  unfold bindC
  rw[zmz λv hv=>(List.nodup_cons.mp nd).1 (List.of_mem_zip hv).1,if_neg hk]
  simp
 | p::P,w::vs,i+1,m,nd,h1,h2,hk=>by
  show bindC kindOf ((p,w)::P.zip vs) m x=_
  unfold bindC
  exact zmo (i:=i) (List.nodup_cons.mp nd).2 (by simpa using h1) (by simpa using h2) hk
def start(N:List Str)(vs:List V):St:=vs.map some++List.replicate (N.length - vs.length) none
def zxW(CX:CXT)(P:Program)(w:World)(K:ψa)(mg:Str→Option Value)(base:Heap)(N:List Str)(qual:Str)(scope:Scope)(f:Addr)(cd:Value)(A:Around)(outer:List Env)(s:Shared)(H:Hp)(E:XK):Cx where
 prog:=P
 w:=w
 K:=K
 mg:=mg
 base:=base
 A:=A.deeper (envOfC qual scope s.heap.objs.size f cd)
 N:=N
 s₀:=s
 H₀:=H
 env:=envOfC qual scope s.heap.objs.size f cd
 outer:=outer
 stack:=envOfC qual scope s.heap.objs.size f cd::outer
 ex:=[]
 calm:=true
 fn:=λ_=>true
 pn:=[]
 xe:=λe s'=>wpAny (model P w) (A.deeper (envOfC qual scope s.heap.objs.size f cd)) (leaving (envOfC qual scope s.heap.objs.size f cd) e) (λ_ s''=>CX outer H s E e s'') (λe' s''=>CX outer H s E e' s'') s'
theorem zi4{sc:Scope}{n:Nat}{x:Str}(h:sc.names.lookup x=some .cell):∃c,(cellsFrom n sc.names []).lookup x=some c:=by
 have q:=PySem.W.cellsFrom_some sc.names n [] (.inl h)
 exact Option.isSome_iff_exists.mp q
theorem zq7{CX:CXT}{P:Program}{w:World}{K:ψa}{mg:Str→Option Value}{base:Heap}{N ps:List Str}{qual:Str}{scope:Scope}{f:Addr}{cd:Value}{A:Around}{outer:List Env}{s s1:Shared}{H:Hp}{E:XK}{us:List Value}{vs:List V}
  (S:zaB N ps scope) (hd:A.handled=none) (e0:Env0 P w K mg base A outer s H) (hl:vs.length=ps.length) (r:zcU vs us)
  (x:InCallC s s.heap.objs.size (bindL (envOfC qual scope s.heap.objs.size f cd).kindOf (ps.zip us) λ_=>none) (cellsFrom (s.heap.objs.size+1) scope.names []) (bindC (envOfC qual scope s.heap.objs.size f cd).kindOf (ps.zip us) λ_=>none) s1) :
  Inv (zxW CX P w K mg base N qual scope f cd A outer s H E) [] (start N vs) H s1:=by
 have hpl:ps.length≤N.length:=by have:=congrArg List.length S.pre;rw[ψG] at this;(first|lia|omega)
 obtain⟨h1,tk,rfl,hk⟩:=x.done
 have noA:∀b:Addr,b∉(zxW CX P w K mg base N qual scope f cd A outer s H E).ex:=λb z=>absurd (show b∈([]:List Addr) from z) (by simp)
 refine⟨⟨e0.mod,S.kind,rfl,rfl,ψm _,λy z c h1 h2=>?_,λy hy=>?_,λy c _ h=>?_,λ_=>hd,Around.frames_deeper e0.frames,.inr ⟨rfl,rfl⟩,λb z=>absurd z (noA b),e0.bs,e0.bsz,λb _ _=>noA b,λb z=>absurd z (noA b),e0.funs,e0.frf⟩,
  rfl,e0.bare,Un.kept hk,⟨_,x.toInCall.ns,λi y v h1 h2 h3=>?_⟩,λy c h=>⟨_,x.cell y c h⟩,e0.hok.fresh (ψm _),λy c h=>?_,λp hp=>absurd (show p∈([]:List (Addr×Obj)) from hp) (by simp),e0.hok.kept hk,?_⟩
 ·exact name_of_addr x.apart (ψF h1) (ψF h2)
 ·have hy:scope.names.lookup y=some .cell∨scope.names.lookup y=some .free:=hy
  rcases hy with hy | hy
  ·exact zi4 hy
  ·exact absurd rfl (S.nofree _ (ψF hy))
 ·exact Nat.le_of_lt (x.above y c (ψF h))
 ·have hi:i<vs.length:=by
   unfold start at h2
   by_cases hi:i<vs.length
   ·exact hi
   ·rw[ψf1 (by simpa using hi)] at h2
    rw[List.getElem?_replicate] at h2
    split at h2 <;> cases h2
  have ha:vs[i]?=some v:=by
   unfold start at h2
   rw[ψj1 (by simpa using hi),ψt] at h2
   cases e:vs[i]? with
   | none=>rw[e] at h2;cases h2
   | some a=>rw[e] at h2;cases h2;rfl
  obtain⟨u,hu,rv⟩:=r.get ha
  have hp:ps[i]?=some y:=by
   rw[← S.pre,List.getElem?_take_of_lt (by (first|lia|omega))];exact h1
  have ndP:ps.Nodup:=by rw[← S.pre];exact S.nd.sublist (List.take_sublist _ _)
  refine⟨u,rv,?_⟩
  rcases S.par y (ψP hp) with k | k
  ·exact .inl ⟨k,zm7 ndP hp hu k⟩
  ·obtain⟨c,e⟩:=zi4 (n:=s.heap.objs.size+1) k
   refine .inr ⟨.inl k,c,e,?_⟩
   have q:=x.cell y c e
   rw[zmo ndP hp hu (by show scope.names.lookup y≠_;rw[k];decide)] at q
   exact q
 ·exact e0.hok.fresh (Nat.le_of_lt (x.above y c (ψF h)))
 ·unfold start
  show _=N.length
  rw[ψV,ψb,List.length_replicate]
  (first|lia|omega)
theorem fn_of{CX:CXT}{P:Program}{w:World}{K:ψa}{mg:Str→Option Value}{base:Heap}{k:Nat}{f:Addr}{name qual:Str}{params:Arguments}{body:List Stmt}{scope:Scope}{dV kV doc pm cdv ct oc:Value}{an od:Option Addr}
  {osl:Array (Option Value)} {N ps:List Str} {sp:Sp} (lk:K.lookup f=some ⟨oc,od,.func (PySem.W.fnOf name qual params body scope dV kV doc pm an cdv ct),osl⟩) (hcd:PySem.W.codeIn K cdv qual=true) (S:zaB N ps scope)
  (len:∀vs H Q E,sp vs H Q E→vs.length=ps.length)
  (hbody:∀(A:Around) (outer:List Env) (s:Shared) (H:Hp) (vs:List V) (Q:VK) (E:XK),zkW k (A.deeper (envOfC qual scope s.heap.objs.size f cdv))→sp vs H Q E →
   ∃t,PSs (zxW CX P w K mg base N qual scope f cdv A outer s H E) body t∧t { nx:=λ_ H'=>Q .non H',rt:=Q } (start N vs) H) :
  zcn P w K mg base CX (k+1) f (PySem.W.fnOf name qual params body scope dV kV doc pm an cdv ct) ps sp:=by
 refine⟨len,λA outer s H args us vs Q E hr e0 hb r hsp=>?_⟩
 have hl:=len _ _ _ _ hsp
 have KX:K.In s.heap:=e0.mod.kin.keeps λb o e=>(e0.bs b o e).1
 have lim:s.heap.NoLimit:=e0.mod.nolimit.keeps λb o e=>(e0.bs b o e).1
 have hkind:∀y∈ps.zip us,scope.names.lookup y.1=some .local∨(scope.names.lookup y.1=some .cell∧((cellsFrom (s.heap.objs.size+1) scope.names []).lookup y.1).isSome=true):=λ⟨n,v⟩ hy=>by
  rcases S.par n (List.of_mem_zip hy).1 with q | q
  ·exact .inl q
  ·exact .inr ⟨q,PySem.W.cellsFrom_some _ _ _ (.inl q)⟩
 refine codeAny_call_function hr.depth (KX _ _ lk) rfl S.co S.gen rfl (PySem.W.codeRec_of KX hcd) (hb _ _ _ _ ?_)
 refine wpAny_newFunctionEnv_cells S.kind hkind λenv he s1 x=>?_
 subst he
 refine⟨lim.keeps x.toInCall.keep,codeAny_func ?_⟩
 obtain⟨t,ht,hq⟩:=hbody A outer s H vs Q E (hr.deeper _) hsp
 have I:Inv (zxW CX P w K mg base N qual scope f cdv A outer s H E) [] (start N vs) H s1:=zq7 S hr.hd e0 hl r x
 refine wpAny_mono (ht [] s1 (start N vs) H _ I hq) (λfl s' hs=>?_) λe s' hs=>hs
 have fin:∀{σ':St} {H':Hp} {v:V} {u:Value},Inv (zxW CX P w K mg base N qual scope f cdv A outer s H E) [] σ' H' s'→zdt v u→Q v H'→CE outer P w H s Q u s' :=
  fun {σ' H' v u} J rv q=>⟨v,H',J.os,J.bare,J.base,J.hok,rv,q⟩
 cases fl with
 | ret u =>
  obtain⟨v,σ',H',J,rv,q⟩:=hs
  exact fin J rv q
 | next =>
  obtain⟨σ',H',J,q⟩:=hs
  exact fin (v:=V.non) (u:=Value.none) J rfl q
 | brk =>
  obtain⟨_,_,_,q⟩:=hs
  exact False.elim q
 | cont =>
  obtain⟨_,_,_,q⟩:=hs
  exact False.elim q
end L2
namespace L2
open PySem PySem.Spec PyProof.Rows
section
variable {X:Cx} {x:Str} {p pos:Pos} {e:Expr} {es:List Expr} {t:TA} {id T:String} {r:List V→Hp→VK→Prop}
def tCB(r:List V→Hp→VK→Prop)(t:TA):TE:=λσ H Q=>t σ H λvs H1=>r vs H1 Q
theorem zao(hc:ziL X (.builtin id) r)(hg:Gl X x)(hm:X.mg x=none)(hv:bootBuiltins x=some (.builtin id))(ha:PA X (e::es) t)(hn:x≠"__name__":=by decide)(hdb:(x == ("__debug__":Str))=false:=by decide)
  (he:starEach (e::es) X.env=(false,eval e X.env)::starEach es X.env:=by rfl) (hpl:(backTo pos (starEach es X.env)).any (·.1)=false:=by rfl):PE X (.Call (.Name x p) (e::es) [] pos) (tCB r t):=by
 intro pins s σ H Q I h
 refine wpAny_Call_Name_kw (zit I hg hm hv ?_ hn hdb)
 exact PyProof.Rows.callWith_builtin1 (thn (ha pos pins s σ H _ I h) λus s1 ⟨vs,H1,I1,r1,q1⟩=>hc pins s1 σ H1 vs us Q I1 r1 q1) he hpl
theorem zcM(hc:ziL X (.type T) r)(hg:Gl X x)(hm:X.mg x=none)(hv:bootBuiltins x=some (.type T))(ha:PA X (e::es) t)(hn:x≠"__name__":=by decide)(hdb:(x == ("__debug__":Str))=false:=by decide)
  (he:starEach (e::es) X.env=(false,eval e X.env)::starEach es X.env:=by rfl) (hpl:(backTo pos (starEach es X.env)).any (·.1)=false:=by rfl):PE X (.Call (.Name x p) (e::es) [] pos) (tCB r t):=by
 intro pins s σ H Q I h
 refine wpAny_Call_Name_kw (zit I hg hm hv ?_ hn hdb)
 exact ψt1 (thn (ha pos pins s σ H _ I h) λus s1 ⟨vs,H1,I1,r1,q1⟩=>hc pins s1 σ H1 vs us Q I1 r1 q1) he hpl
end
end L2
namespace HT
open PySem PyProof.Rows
section
open PySem.SeqAt
open PySem.AutoSeq1 (wpAny_loadPart')
open PySem.MeetsSeq PySem.MeetsSeq2 PySem.MeetsSeq3
end
section
variable {prog:Program} {w:World} {A:Around} {E:Value→Shared→Prop} {s:Shared}
def sIx(n d:Nat):Option Int→Nat
 | none=>d
 | some v=>if v<0 then (v+(n:Int)).toNat else min v.toNat n
theorem zlI(n d:Nat):sIx n d none=d:=rfl
theorem znr(n d k:Nat):sIx n d (some (k:Int))=min k n:=by
 show(if (k:Int)<0 then ((k:Int)+(n:Int)).toNat else min (k:Int).toNat n)=min k n
 rw[if_neg (by (first|lia|omega)),Int.toNat_natCast]
end
end HT
namespace L2
open PySem PySem.Spec PyProof.Rows
abbrev TO:=St→Hp→(Option Int→Hp→Prop)→Prop
def PO(X:Cx)(e:Option Expr)(t:TO):Prop :=
 ∀(pins:List (Addr×Obj)) (s:Shared) (σ:St) (H:Hp) (Q:Option Int→Hp→Prop),Inv X pins σ H s→t σ H Q →
  wpAny (model X.prog X.w) X.A (evalPart e X.env) (λu s'=>∃o H',Inv X pins σ H' s'∧IsPart u o∧Q o H') X.xe s
def zcy:TO:=λ_ H Q=>Q none H
def zfS(t:TE):TO:=λσ H Q=>t σ H λx H1=>∃i,x=.int i∧Q (some i) H1
section
variable {X:Cx} {e:Expr} {te:TE} {lo hi:Option Expr} {tl th:TO} {pos p2:Pos}
theorem zdr:PO X none zcy:=by
 intro pins s σ H Q I h
 rw[evalPart_none]
 exact wpAny_pure ⟨none,H,I,.none,h⟩
theorem zdp(h:PE X e te):PO X (some e) (zfS te):=by
 intro pins s σ H Q I hw
 rw[evalPart_some]
 refine thn (h pins s σ H _ I hw) λu s1 hQ'=>?_
 obtain⟨x,H1,I1,r1,q1⟩:=hQ'
 obtain⟨i,rfl,q⟩:=q1
 obtain⟨t,rfl⟩:=r1
 exact⟨some i,H1,I1,.int i t,q⟩
def SlR(X:Cx)(r:V→Option Int→Option Int→Hp→VK→Prop):Prop :=
 ∀(pins:List (Addr×Obj)) (s:Shared) (σ:St) (H:Hp) (x:V) (v vl vu:Value) (lo hi:Option Int) (sl:Addr) (Q:VK),Inv X pins σ H s→zdt x v→s.heap.IsSliceOf sl vl vu .none→IsPart vl lo→IsPart vu hi→r x lo hi H Q →
  ∃T id,typeLookup (.type T) "__getitem__"=pure (some (.builtin id))∧s.TypeIs v T∧wpAny (model X.prog X.w) X.A (getItem v (.ref sl)) (EP X pins σ Q) X.xe s
def tSl(r:V→Option Int→Option Int→Hp→VK→Prop)(te:TE)(tl th:TO):TE:=λσ H Q=>te σ H λx H1=>tl σ H1 λl H2=>th σ H2 λu H3=>r x l u H3 Q
theorem zcD{r:V→Option Int→Option Int→Hp→VK→Prop}(hr:SlR X r)(he:PE X e te)(hl:PO X lo tl)(hu:PO X hi th):PE X (.Subscript e (.Slice lo hi none p2) pos) (tSl r te tl th):=by
 intro pins s σ H Q I h
 refine Subscript_ (thn (he pins s σ H _ I h) λv s1 hQ'=>?_)
 obtain⟨x,H1,I1,r1,q1⟩:=hQ'
 refine wpAny_Slice (thn (hl pins s1 σ H1 _ I1 q1) λvl s2 ⟨l,H2,I2,pl,q2⟩=>thn (hu pins s2 σ H2 _ I2 q2) λvu s3 hQ'=>?_)
 obtain⟨u,H3,I3,pu,q3⟩:=hQ'
 rw[evalPart_none]
 refine wpAny_pure ?_
 have I4:Inv X pins σ H3 { s3 with heap:=s3.heap.push { cls:=.type "slice",data:=.fields #[vl,vu,.none] } }:=I3.kept (t':=s3.toks) λb ob q=>Heap.get?_push_of_some _ q
 obtain⟨T,id,hT,ht,hg⟩:=hr pins { s3 with heap:=s3.heap.push { cls:=.type "slice",data:=.fields #[vl,vu,.none] } } σ H3 x v vl vu l u s3.heap.objs.size Q I4 r1 (Heap.IsSliceOf.new ..) pl pu q3
 show wpAny (model X.prog X.w) X.A (subscriptTail e (.Slice lo hi none p2) v (.ref s3.heap.objs.size)) (EP X pins σ Q) X.xe { s3 with heap:=s3.heap.push { cls:=.type "slice",data:=.fields #[vl,vu,.none] } }
 exact tail_any (ops:=[.ref s3.heap.objs.size,v]) ht hT hg (by with_unfolding_all rfl)
def znn(xs:List V)(lo hi:Option Int):List V:=(xs.drop (HT.sIx xs.length 0 lo)).take (HT.sIx xs.length xs.length hi - HT.sIx xs.length 0 lo)
theorem zoK(xs:List V)(lo hi:Option Int):(znn xs lo hi).length≤xs.length:=by
 unfold znn
 rw[ψG,ψI1]
 (first|lia|omega)
end
end L2
namespace L2
open PySem PySem.Spec PyProof.Rows
def ixN(n:Nat)(i:Int):Option Nat:=if 0≤i then (if i<n then some i.toNat else none) else if -(n:Int)≤i then some (i+n).toNat else none
def atI{α:Type}(xs:List α)(i:Int):Option α:=(ixN xs.length i).bind λj=>xs[j]?
theorem zsR{n:Nat}{i:Int}{j:Nat}(h:ixN n i=some j):seqIndex? i n=some j∧j<n∧-(n:Int)≤i∧i<n:=by
 unfold ixN at h
 by_cases h0:0≤i
 ·rw[if_pos h0] at h
  by_cases h1:i<n
  ·rw[if_pos h1] at h
   have e:i.toNat=j:=Option.some.inj h
   exact⟨by rw[seqIndex_of h0 h1,e],by (first|lia|omega),by (first|lia|omega),h1⟩
  ·rw[if_neg h1] at h;cases h
 ·rw[if_neg h0] at h
  by_cases h1:-(n:Int)≤i
  ·rw[if_pos h1] at h
   have e:(i+n).toNat=j:=Option.some.inj h
   exact⟨by rw[seqIndex_neg (by (first|lia|omega)) h1,e],by (first|lia|omega),h1,by (first|lia|omega)⟩
  ·rw[if_neg h1] at h;cases h
theorem zst{α:Type}{xs:List α}{i:Int}{v:α}(h:atI xs i=some v):∃j,seqIndex? i xs.length=some j∧xs[j]?=some v∧j<xs.length∧-(xs.length:Int)≤i∧i<xs.length:=by
 unfold atI at h
 cases e:ixN xs.length i with
 | none=>rw[e] at h;cases h
 | some j =>
  rw[e] at h
  obtain⟨h1,h2,h3,h4⟩:=zsR e
  exact⟨j,h1,h,h2,h3,h4⟩
theorem zdj{α:Type}{xs:List α}{j:Nat}{v:α}(h:xs[j]?=some v):atI xs (j:Int)=some v:=by
 have hj:j<xs.length:=(List.getElem?_eq_some_iff.mp h).1
 have e:ixN xs.length (j:Int)=some j:=by
  unfold ixN
  rw[if_pos (by (first|lia|omega)),if_pos (by (first|lia|omega))];simp
 unfold atI;rw[e];exact h
theorem zu8{α:Type}(xs:List α)(v:α):atI (xs++[v]) (-1)=some v:=by
 have hl:(xs++[v]).length=xs.length+1:=by simp
 have e:ixN (xs++[v]).length (-1)=some xs.length:=by
  unfold ixN
  rw[hl,if_neg (by decide),if_pos (by (first|lia|omega))]
  congr 1
  (first|lia|omega)
 unfold atI
 rw[e]
 show(xs++[v])[xs.length]?=some v
 simp
def zwO(b:Expr):Prop:=∀o i,subscripted b false o i=operate [o,i] (getItem o i)
def IxR(X:Cx)(r:R2):Prop :=
 ∀(value slice:Expr) (pins:List (Addr×Obj)) (s:Shared) (σ:St) (H:Hp) (x y:V) (v u:Value) (Q:VK),Inv X pins σ H s→zdt x v→zdt y u→r x y H Q →
  subscripted slice false v u=operate [v,u] (getItem v u)→wpAny (model X.prog X.w) X.A (subscriptTail value slice v u) (EP X pins σ Q) X.xe s
def MtR(X:Cx)(id:String)(r:V→List V→Hp→VK→Prop):Prop :=
 ∀(pins:List (Addr×Obj)) (s:Shared) (σ:St) (H:Hp) (x:V) (xs:List V) (v:Value) (us:List Value) (Q:VK),Inv X pins σ H s→zdt x v→zcU xs us→r x xs H Q →
  wpAny (model X.prog X.w) X.A (call (.builtin id) (v::us)) (EP X pins σ Q) X.xe s
section
variable {X:Cx} {a b:Expr} {ta tb:TE} {pos:Pos}
theorem zaw{r:R2}(hr:IxR X r)(ha:PE X a ta)(hb:PE X b tb)(hs:zwO b):PE X (.Subscript a b pos) (tOp r ta tb):=by
 intro pins s σ H Q I h
 exact Subscript_ (binT ha hb I h λv u s2 x y H2 I2 rx ry q=>hr a b pins s2 σ H2 x y v u Q I2 rx ry q (hs _ _))
def zfp(K:ψa):R2:=λx y H Q=>∃p xs i v,x=.ref p∧y=.int i∧SqL K H p xs∧atI xs i=some v∧Q v H
def zbC(K:ψa):R2:=λx y H Q=>∃p xs i v,x=.ref p∧y=.int i∧SqT K H p xs∧atI xs i=some v∧Q v H
theorem zbv:IxR X (zfp X.K):=by
 intro value slice pins s σ H x y v u Q I rx ry h hs
 obtain⟨p,xs,i,z,rfl,rfl,hq,he,q⟩:=h
 cases rx
 obtain⟨t,rfl⟩:=ry
 obtain⟨its,r,pl,hz⟩:=I.list hq
 obtain⟨j,h1,h2,h3,h4,h5⟩:=zst he
 obtain⟨w,ew,rw'⟩:=r.get h2
 have hl:=r.length
 have hn:=zm8
 have fin:EP X pins σ Q w s:=⟨z,H,I,rw',q⟩
 by_cases h0:0≤i
 ·have hj:i.toNat=j:=by
   rw[seqIndex_of h0 h5] at h1
   exact Option.some.inj h1
  exact item_listR pl.isList h0 (by (first|lia|omega)) (by rw[hj];simpa using ew) fin hs
 ·have hj:(i+(its.toArray.size:Int)).toNat=j:=by
   rw[seqIndex_neg (by (first|lia|omega)) h4] at h1
   rw[ψg,← hl]
   exact Option.some.inj h1
  exact subscriptTail_builtinR (x:=w) pl.isList.typeIs slot_list_getitem.lookup
   (wpAny_getItem_list_neg (Q:=λr s'=>r=w∧EP X pins σ Q r s') pl.isList (by (first|lia|omega)) (by rw[ψg] <;> (first|lia|omega)) (by (first|lia|omega)) (by rw[hj];simpa using ew) ⟨rfl,fin⟩) hs
theorem zaq:IxR X (zbC X.K):=by
 intro value slice pins s σ H x y v u Q I rx ry h hs
 obtain⟨p,xs,i,z,rfl,rfl,hq,he,q⟩:=h
 cases rx
 obtain⟨t,rfl⟩:=ry
 obtain⟨its,r,pl,hz⟩:=I.tuple hq
 obtain⟨j,h1,h2,h3,h4,h5⟩:=zst he
 obtain⟨w,ew,rw'⟩:=r.get h2
 have hl:=r.length
 have hn:=zm8
 have fin:EP X pins σ Q w s:=⟨z,H,I,rw',q⟩
 exact subscriptTail_builtinR (x:=w) pl.typeIs slot_tuple_getitem.lookup
  (getItem_tuple (j:=j) (Q:=λr s'=>r=w∧EP X pins σ Q r s') pl (by (first|lia|omega)) (by (first|lia|omega)) (by rw[ψg,← hl];exact h1) (by simpa using ew) ⟨rfl,fin⟩) hs
theorem zp6(its:List Value)(n j:Nat)(u:Value):Obj.mapSeq (·.setIfInBounds j u) { cls:=.type "list",data:=.seq its.toArray n }={ cls:=.type "list",data:=.seq (its.set j u).toArray n }:=by
 simp[Obj.mapSeq]
theorem Inv.lst{pins:List (Addr×Obj)}{σ:St}{H:Hp}{s:Shared}{p:Addr}{xs:List V}(I:Inv X pins σ H s)(h:H p=some (.lst xs)) :
  ∃(its:List Value) (n:Nat),zcU xs its∧s.heap.get? p=some { cls:=.type "list",data:=.seq its.toArray n }∧xs.length≤sizeLine:=by
 obtain⟨z,its,n,r,e⟩:=I.hok p _ h
 exact⟨its,n,r,e,z⟩
theorem Inv.lstUpd{pins:List (Addr×Obj)}{σ:St}{H:Hp}{s:Shared}{p:Addr}{xs ys:List V}{its its':List Value}{n n':Nat}{f:Obj→Obj}(I:Inv X pins σ H s)(h:H p=some (.lst xs))
  (ho:s.heap.get? p=some { cls:=.type "list",data:=.seq its.toArray n }) (hf:f { cls:=.type "list",data:=.seq its.toArray n }={ cls:=.type "list",data:=.seq its'.toArray n' }) (r:zcU ys its') (hz:ys.length≤sizeLine) (t:Nat) :
  Inv X pins σ (upd H p (.lst ys)) { s with heap:=s.heap.update p f,toks:=t }:=by
 have e:(s.heap.update p f).get? p=some { cls:=.type "list",data:=.seq its'.toArray n' }:=by
  rw[Heap.get?_update_self f ho (by rw[hf] <;> rfl),hf]
 refine I.write (x:=p) (e:=p) (by rw[h];trivial) (.inl rfl) (λb u hb q=>(Heap.get?_update_other _ _ (Ne.symm hb)).trans q) ⟨_,e⟩ ?_
 exact⟨hz,its',n',r,e⟩
def zvf:V→V→V→Hp→(Hp→Prop)→Prop:=λo i v H Q=>∃p xs k j,o=.ref p∧i=.int k∧H p=some (.lst xs)∧ixN xs.length k=some j∧Q (upd H p (.lst (xs.set j v)))
theorem zoP:PSet X zvf:=by
 intro pins s σ H o i v ov iv u Q I ro ri rv h
 obtain⟨p,xs,k,j,rfl,rfl,hp,hj,q⟩:=h
 cases ro
 obtain⟨t,rfl⟩:=ri
 obtain⟨its,n,r,ho,hz⟩:=I.lst hp
 obtain⟨h1,h2,h3,h4⟩:=zsR hj
 have hl:=r.length
 have hn:=zm8
 have I':Inv X pins σ (upd H p (.lst (xs.set j v))) { s with heap:=s.heap.update p (Obj.mapSeq (·.setIfInBounds j u)) } :=
  I.lstUpd hp ho (zp6 its n j u) (r.set rv j) (by rw[List.length_set];exact hz) s.toks
 by_cases h0:0≤k
 ·have hk:k.toNat=j:=by
   rw[seqIndex_of h0 h4] at h1
   exact Option.some.inj h1
  exact PySem.W.ki_setAt ho h0 (by (first|lia|omega)) (by rw[ψg,← hl];exact h4) (by rw[hk];exact⟨_,I',q⟩)
 ·have hk:(k+(its.toArray.size:Int)).toNat=j:=by
   rw[seqIndex_neg (by (first|lia|omega)) h3] at h1
   rw[ψg,← hl]
   exact Option.some.inj h1
  exact PySem.W.ki_setBack ho (by (first|lia|omega)) (by rw[ψg,← hl];exact h3) (by (first|lia|omega)) (by rw[hk];exact⟨_,I',q⟩)
theorem znk(lo hi:Option Int)(n:Nat):(sliceBounds lo hi none n).1=((HT.sIx n 0 lo:Nat):Int)∧(sliceBounds lo hi none n).2.1=((HT.sIx n n hi:Nat):Int)∧(sliceBounds lo hi none n).2.2=1:=by
 refine⟨?_,?_,rfl⟩
 ·cases lo with
  | none=>simp[sliceBounds,HT.sIx]
  | some i =>
   simp only[sliceBounds,HT.sIx,Option.getD_none,show(1:Int) > 0 by decide,if_true]
   by_cases h:i<0
   ·simp only[h,if_true] <;> (first|lia|omega)
   ·simp only[h,if_false] <;> (first|lia|omega)
 ·cases hi with
  | none=>simp[sliceBounds,HT.sIx]
  | some i =>
   simp only[sliceBounds,HT.sIx,Option.getD_none,show(1:Int) > 0 by decide,if_true]
   by_cases h:i<0
   ·simp only[h,if_true] <;> (first|lia|omega)
   ·simp only[h,if_false] <;> (first|lia|omega)
theorem zkY(its:List Value)(lo hi:Option Int):slicePick its.toArray lo hi none=((its.drop (HT.sIx its.length 0 lo)).take (HT.sIx its.length its.length hi - HT.sIx its.length 0 lo)).toArray:=by
 obtain⟨h1,h2,h3⟩:=znk lo hi its.toArray.size
 unfold slicePick
 rw[h1,h2,h3]
 simp only[sliceRange_one,pick_run,ψg] <;> rfl
def zl2(K:ψa):V→Option Int→Option Int→Hp→VK→Prop:=λx lo hi H Q=>∃a xs,x=.ref a∧SqL K H a xs∧∀p,H p=none→Q (.ref p) (upd H p (.lst (znn xs lo hi)))
theorem zdk:SlR X (zl2 X.K):=by
 intro pins s σ H x v vl vu lo hi sl Q I rx hs pl pu h
 obtain⟨a,xs,rfl,hx,q⟩:=h
 cases rx
 obtain⟨its,r,ht,hz⟩:=I.list hx
 have hlen:=r.length
 refine⟨"list",_,slot_list_getitem.lookup,ht.isList.typeIs,?_⟩
 refine wpAny_getItem_list_slice ht.isList hs pl pu .none (by simp) ?_ (by rw[ψg] <;> (first|lia|omega))
 rw[zkY,← hlen]
 refine⟨.ref s.heap.objs.size,_,I.laid (t':=s.toks) (o:=.lst (znn xs lo hi)) (λb ob q=>Heap.get?_push_of_some _ q) (ψm _) ?_,rfl,q _ (I.hok.fresh (ψm _))⟩
 exact⟨ψd1 (zoK xs lo hi) hz,_,0,(r.drop (HT.sIx xs.length 0 lo)).take (HT.sIx xs.length xs.length hi - HT.sIx xs.length 0 lo),Heap.get?_push_size _ rfl⟩
def zkU:V→Bool
 | .non=>true
 | .bl _=>true
 | .int _=>true
 | .str _=>true
 | _=>false
def eqV:V→V→Bool
 | .non,.non=>true
 | .bl a,.bl b=>a == b
 | .bl a,.int b=>(if a then 1 else 0) == b
 | .int a,.bl b=>a == (if b then 1 else 0)
 | .int a,.int b=>a == b
 | .str a,.str b=>a == b
 | _,_=>false
theorem zy0{A:Around}{s:Shared}{y x:V}{u v:Value}(ry:zdt y u)(rx:zdt x v)(fy:zkU y=true)(fx:zkU x=true):SeqAt.EqAt A s u v (eqV y x):=by
 cases y with
 | non =>
  cases ry
  cases x with
  | non=>cases rx;exact SeqAt.EqAt.same _
  | bl b=>cases rx;exact SeqAt.EqAt.none_bool b
  | int b=>obtain⟨t,rfl⟩:=rx;exact SeqAt.EqAt.none_int b t
  | str b=>obtain⟨t,rfl⟩:=rx;exact SeqAt.EqAt.none_str b t
  | _=>exact absurd (show false=true from fx) ψw
 | bl a =>
  cases ry
  cases x with
  | non=>cases rx;exact SeqAt.EqAt.bool_none a
  | bl b=>cases rx;exact SeqAt.EqAt.bool_bool a b
  | int b=>obtain⟨t,rfl⟩:=rx;exact SeqAt.EqAt.bool_int a b t
  | str b=>obtain⟨t,rfl⟩:=rx;exact SeqAt.EqAt.bool_str a b t
  | _=>exact absurd (show false=true from fx) ψw
 | int a =>
  obtain⟨t',rfl⟩:=ry
  cases x with
  | non=>cases rx;exact SeqAt.EqAt.int_none a t'
  | bl b=>cases rx;exact SeqAt.EqAt.int_bool a t' b
  | int b=>obtain⟨t,rfl⟩:=rx;exact SeqAt.EqAt.int_int a t' b t
  | str b=>obtain⟨t,rfl⟩:=rx;exact SeqAt.EqAt.int_str a t' b t
  | _=>exact absurd (show false=true from fx) ψw
 | str a =>
  obtain⟨t',rfl⟩:=ry
  cases x with
  | non=>cases rx;exact SeqAt.EqAt.str_none a t'
  | bl b=>cases rx;exact SeqAt.EqAt.str_bool a t' b
  | int b=>obtain⟨t,rfl⟩:=rx;exact SeqAt.EqAt.str_int a t' b t
  | str b=>obtain⟨t,rfl⟩:=rx;exact SeqAt.EqAt.str_str a t' b t
  | _=>exact absurd (show false=true from fx) ψw
 | _=>exact absurd (show false=true from fy) ψw
def eqU(x:V)(u:Value):Bool:=match u with
 | .none=>eqV .non x
 | .bool b=>eqV (.bl b) x
 | .int i _=>eqV (.int i) x
 | .str z _=>eqV (.str z) x
 | _=>false
theorem zvE{x y:V}{u:Value}(r:zdt y u)(f:zkU y=true):eqU x u=eqV y x:=by
 cases y with
 | non=>cases r;rfl
 | bl b=>cases r;rfl
 | int i=>obtain⟨t,rfl⟩:=r;rfl
 | str z=>obtain⟨t,rfl⟩:=r;rfl
 | _=>exact absurd (show false=true from f) ψw
theorem zoi{x:V}:∀{xs:List V} {us:List Value},zcU xs us→xs.all zkU=true→us.any (eqU x)=xs.any λy=>eqV y x
 | _,_,.nil,_=>rfl
 | y::xs,u::us,.cons r t,f=>by
  rw[List.all_cons,ψL] at f
  rw[List.any_cons,List.any_cons,zvE r f.1,zoi t f.2]
theorem zkH{A:Around}{s:Shared}{x:V}{v:Value}(rx:zdt x v)(fx:zkU x=true):∀{xs:List V} {us:List Value},zcU xs us→xs.all zkU=true→∀u∈us,SeqAt.EqAt A s u v (eqU x u)
 | _,_,.nil,_=>λu hu=>by cases hu
 | y::xs,u::us,.cons r t,f=>λu' hu=>by
  rw[List.all_cons,ψL] at f
  rcases List.mem_cons.mp hu with rfl | hu
  ·rw[zvE r f.1];exact zy0 r rx f.1 fx
  ·exact zkH rx fx t f.2 u' hu
def inV(x:V)(xs:List V):Bool:=xs.any λy=>eqV y x
def rIn(K:ψa)(neg:Bool):R2:=λx y H Q=>∃p xs,y=.ref p∧(SqL K H p xs∨SqT K H p xs)∧zkU x=true∧xs.all zkU=true∧Q (.bl (if neg then !inV x xs else inV x xs)) H
theorem zm5:OpR X (compareOp .In) (rIn X.K false):=by
 intro pins s σ H x y v u Q I rx ry h
 obtain⟨p,xs,rfl,hq,fx,fs,q⟩:=h
 cases ry
 rcases hq with hq | hq
 ·obtain⟨its,r,pl,hz⟩:=I.list hq
  refine SeqAt.in_listAt (eqU x) pl.isList (λw hw=>zkH rx fx r fs w (by simpa using hw)) ⟨.bl _,H,I,rfl,?_⟩
  rw[show its.toArray.any (eqU x)=its.any (eqU x) by simp,zoi r fs]
  exact q
 ·obtain⟨its,r,pl,hz⟩:=I.tuple hq
  refine SeqAt.in_tupleAt (eqU x) pl (λw hw=>zkH rx fx r fs w (by simpa using hw)) ⟨.bl _,H,I,rfl,?_⟩
  rw[show its.toArray.any (eqU x)=its.any (eqU x) by simp,zoi r fs]
  exact q
theorem zaA:ziL X (.builtin "len") (λxs H Q=>∃p ys,xs=[.ref p]∧(SqL X.K H p ys∨SqT X.K H p ys)∧Q (.int ys.length) H):=by
 intro pins s σ H xs us Q I r h
 obtain⟨p,ys,rfl,hq,q⟩:=h
 obtain⟨u,rfl,rx⟩:=zr4 r
 cases rx
 have hn:=zm8
 rcases hq with hq | hq
 ·obtain⟨its,r',pl,hz⟩:=I.list hq
  have hlen:=r'.length
  exact Calls.call_len_list pl.isList (by simp only[ψg] <;> (first|lia|omega)) ⟨.int ys.length,H,I.tok _,⟨s.toks+1,by rw[ψg,hlen]⟩,q⟩
 ·obtain⟨its,r',pl,hz⟩:=I.tuple hq
  have hlen:=r'.length
  exact len_tuple pl (by simp only[ψg] <;> (first|lia|omega)) ⟨.int ys.length,H,I.tok _,⟨s.toks+1,by rw[ψg,hlen]⟩,q⟩
theorem zcJ:ziL X (.type "list") (λxs H Q=>∃p ys,xs=[.ref p]∧(SqL X.K H p ys∨SqT X.K H p ys)∧∀l,H l=none→Q (.ref l) (upd H l (.lst ys))):=by
 intro pins s σ H xs us Q I r h
 obtain⟨p,ys,rfl,hq,q⟩:=h
 obtain⟨u,rfl,rx⟩:=zr4 r
 cases rx
 have fin:∀(its:List Value),zcU ys its→ys.length≤sizeLine→∀(h':Heap) (c':Nat),(∀b o',s.heap.get? b=some o'→h'.get? b=some o') →
   h'.get? s.heap.objs.size=some { cls:=.type "list",dict:=none,data:=.seq its.toArray c',slots:=#[] }→EP X pins σ Q (.ref s.heap.objs.size) { s with heap:=h' }:=λits r' hz h' c' kp e =>
  ⟨.ref s.heap.objs.size,_,I.laid (t':=s.toks) kp (ψm _) (show zev X.prog X.w _ h' _ (.lst ys) from⟨hz,its,c',r',e⟩),rfl,q _ (I.hok.fresh (ψm _))⟩
 rcases hq with hq | hq
 ·obtain⟨its,r',pl,hz⟩:=I.list hq
  have hlen:=r'.length
  obtain⟨o,ho,hc,n,hd⟩:=pl.isList
  exact call_list_seq p (.inl rfl) ho hc hd (λh' c' kp e=>fin its r' hz h' c' kp e) (by simp only[ψg] <;> (first|lia|omega))
 ·obtain⟨its,r',pl,hz⟩:=I.tuple hq
  have hlen:=r'.length
  obtain⟨o,ho,hc,n,hd⟩:=pl
  exact call_list_seq p (.inr rfl) ho hc hd (λh' c' kp e=>fin its r' hz h' c' kp e) (by simp only[ψg] <;> (first|lia|omega))
theorem zeb:ziL X (.type "tuple") (λxs H Q=>∃p ys,xs=[.ref p]∧((SqL X.K H p ys∧∀l,H l=none→Q (.ref l) (upd H l (.tup ys)))∨(SqT X.K H p ys∧Q (.ref p) H))):=by
 intro pins s σ H xs us Q I r h
 obtain⟨p,ys,rfl,h⟩:=h
 obtain⟨u,rfl,rx⟩:=zr4 r
 cases rx
 rcases h with ⟨hq,q⟩ | ⟨hq,q⟩
 ·obtain⟨its,r',pl,hz⟩:=I.list hq
  have hlen:=r'.length
  refine call_tuple_list pl.isList (λh' kp=>?_) (by simp only[ψg] <;> (first|lia|omega))
  have I1:Inv X pins σ H { s with heap:=h' }:=I.kept (t':=s.toks) kp
  have I2:Inv X pins σ (upd H h'.objs.size (.tup ys)) { s with heap:=h'.push { cls:=.type "tuple",data:=.seq its.toArray } } :=
   I1.laid (t':=s.toks) (λb o e=>Heap.get?_push_of_some _ e) (ψm _) (show zev X.prog X.w _ _ _ (.tup ys) from⟨hz,its,r',IsTup.new _ _⟩)
  exact⟨.ref h'.objs.size,_,I2,rfl,q _ (I1.hok.fresh (ψm _))⟩
 ·obtain⟨its,r',pl,hz⟩:=I.tuple hq
  exact call_tuple_same pl ⟨.ref p,H,I,rfl,q⟩
def tyV(K:ψa)(T:String)(x:V)(H:Hp):Prop:=match x with
 | .str _=>T="str"
 | .int _=>T="int"
 | .ref p=>(T="list"∧∃xs,SqL K H p xs)∨(T="tuple"∧∃o,K.lookup p=some o∧o.cls=.type "tuple"∧o.dict=none) ∨
   (T="dict"∧((∃kvs,H p=some (.dK kvs))∨∃kvs,H p=some (.dT kvs)))∨(T="set"∧∃S n,H p=some (.set S n))
 | _=>False
theorem zyD{pins:List (Addr×Obj)}{σ:St}{H:Hp}{s:Shared}{T:String}{x:V}{v:Value}(I:Inv X pins σ H s)(r:zdt x v)(ty:tyV X.K T x H) :
  s.TypeIs v T∧∀a,v=.ref a→∃ob,s.heap.get? a=some ob∧ob.dict=none:=by
 cases x with
 | str z =>
  obtain⟨t,rfl⟩:=r
  cases (show T="str" from ty)
  exact⟨typeIs_str s z t,λ_ e=>nomatch e⟩
 | int i =>
  obtain⟨t,rfl⟩:=r
  cases (show T="int" from ty)
  exact⟨typeIs_int s i t,λ_ e=>nomatch e⟩
 | ref p =>
  cases r
  rcases ty with ⟨rfl,xs,hq⟩ | ⟨rfl,o,hk,hc,hd⟩ | ⟨rfl,hk⟩ | ⟨rfl,S,n,hk⟩
  ·obtain⟨its,_,pl,_⟩:=I.list hq
   refine⟨pl.isList.typeIs,λa e=>?_⟩
   cases e
   obtain⟨o,n,e,c,hd,_⟩:=pl
   exact⟨o,e,hd⟩
  ·refine⟨⟨o,I.kIn p o hk,hc⟩,λa e=>?_⟩
   cases e
   exact⟨o,I.kIn _ o hk,hd⟩
  ·have z:∃o,s.heap.get? p=some o∧o.ExactDict:=by
    rcases hk with ⟨kvs,hk⟩ | ⟨kvs,hk⟩
    ·obtain⟨_,_,_,_,o,_,_,e,ex,_⟩:=I.hok p _ hk
     exact⟨o,e,ex⟩
    ·obtain⟨_,_,_,_,o,_,_,e,ex,_⟩:=I.hok p _ hk
     exact⟨o,e,ex⟩
   obtain⟨o,e,ex⟩:=z
   refine⟨⟨o,e,ex.1⟩,λa e2=>?_⟩
   cases e2
   exact⟨o,e,ex.2.1⟩
  ·obtain⟨o,_,_,_,e,ex,_⟩:=I.hok p _ hk
   refine⟨⟨o,e,ex.1⟩,λa e2=>?_⟩
   cases e2
   exact⟨o,e,ex.2.1⟩
 | _=>exact False.elim ty
def tBM(K:ψa)(T:String)(r:V→List V→Hp→VK→Prop)(to:TE)(t:TA):TE:=λσ H Q=>to σ H λx H1=>tyV K T x H1∧t σ H1 λxs H2=>r x xs H2 Q
variable {o e:Expr} {es:List Expr} {to:TE} {t:TA} {name:Str} {apos cpos:Pos} {T id:String} {r:V→List V→Hp→VK→Prop}
theorem zuq(pa:PlainAttrs T)(slot:Slot T name id)(hty:typeOf (.builtin id)=pure (.type "method_descriptor"))(hm:MtR X id r)(ho:PE X o to)(ha:PA X (e::es) t)
  (hbase:attributeBase o name X.env (eval o X.env)=eval o X.env:=by rfl)
  (hfew:((backTo cpos (starEach (e::es) X.env)).all (λx=>!x.1)&&(backToKw cpos (keywordEach [] X.env)).all (λx=>x.1.isSome)
   && decide ((e::es).length+([]:List Keyword).length+(if ([]:List Keyword).isEmpty then 0 else 1)<30))=true:=by rfl)
  (hline:(apos.endLine == cpos.line)=true:=by rfl) (hs:starEach (e::es) X.env=(false,eval e X.env)::starEach es X.env:=by rfl) (hplain:(backTo cpos (starEach es X.env)).any (·.1)=false:=by rfl) :
  PE X (.Call (.Attribute o name apos) (e::es) [] cpos) (tBM X.K T r to t):=by
 intro pins s σ H Q I h
 refine wpAny_Call_method_late hbase hfew hline rfl (thn (ho pins s σ H _ I h) λv s1 hQ'=>?_)
 obtain⟨x,H1,I1,r1,ty,q1⟩:=hQ'
 obtain⟨h1,h2⟩:=zyD I1 r1 ty
 refine⟨T,id,pa,slot,hty,h1,h2,?_⟩
 have hA:=ha cpos pins s1 σ H1 _ I1 q1
 rw[hs] at hA ⊢
 refine Calls.callWith_builtin (by show(false || (backTo cpos (starEach es X.env)).any (·.1))=false;rw[hplain] <;> rfl) (Calls.evalArgs_plain ?_)
 exact thn hA λus s2 ⟨vs,H2,I2,r2,q2⟩=>hm pins s2 σ H2 x vs v us Q I2 r1 r2 q2
end
end L2
namespace L2
open PySem PySem.Spec PyProof.Rows
def MtM(X:Cx)(id:String)(r:V→List V→Hp→VK→Prop):Prop :=
 ∀(pins:List (Addr×Obj)) (s:Shared) (σ:St) (H:Hp) (x:V) (xs:List V) (v:Value) (us:List Value) (Q:VK),Inv X pins σ H s→zdt x v→zcU xs us→r x xs H Q →
  wpAny (model X.prog X.w) X.A (call (.builtin id) (v::us)) (EP X pins σ Q) X.xe s
theorem zcU.one:∀{x:V} {us:List Value},zcU [x] us→∃u,us=[u]∧zdt x u
 | _,_,.cons r .nil=>⟨_,rfl,r⟩
section
variable {X:Cx} {pins:List (Addr×Obj)} {σ:St} {H:Hp} {s:Shared} {l b:Addr} {xs ys zs:List V}
theorem Inv.lset{its its':List Value}{n:Nat}{f:Array Value→Array Value}{t':Nat}(I:Inv X pins σ H s)(hH:H l=some (.lst xs))
  (e:s.heap.get? l=some { cls:=.type "list",data:=.seq its.toArray n }) (hf:f its.toArray=its'.toArray) (hv:zcU ys its') (hz:ys.length≤sizeLine) :
  Inv X pins σ (upd H l (.lst ys)) { s with heap:=s.heap.update l (Obj.mapSeq f),toks:=t' }:=by
 have q:=PySem.IsL.update e f
 rw[hf] at q
 refine I.write (x:=l) (e:=l) (by rw[hH];exact trivial) (.inl rfl) (λb' u hb hu=>(Heap.get?_update_other s.heap (Obj.mapSeq f) (Ne.symm hb)).trans hu) ⟨_,q⟩ ?_
 exact⟨hz,its',_,hv,q⟩
theorem Inv.lnew{its:List Value}{t':Nat}(I:Inv X pins σ H s)(hv:zcU ys its)(hz:ys.length≤sizeLine) :
  Inv X pins σ (upd H s.heap.objs.size (.lst ys)) { s with heap:=s.heap.push { cls:=.type "list",data:=.seq its.toArray },toks:=t' } :=
 I.laid (λ_ _ q=>Heap.get?_push_of_some _ q) (ψm _) ⟨hz,its,0,hv,Heap.get?_push_size _ rfl⟩
theorem Inv.fresh(I:Inv X pins σ H s):H s.heap.objs.size=none:=I.hok.fresh (ψm _)
theorem Inv.lstM(I:Inv X pins σ H s)(hH:H l=some (.lst xs)):xs.length≤sizeLine∧∃(its:List Value) (n:Nat),zcU xs its∧xs.length=its.length∧s.heap.get? l=some { cls:=.type "list",data:=.seq its.toArray n }:=by
 obtain⟨z,its,n,r,e⟩:=I.hok l _ hH
 exact⟨z,its,n,r,r.length,e⟩
end
section
variable {X:Cx}
def zcA:V→List V→Hp→VK→Prop:=λx vs H Q=>∃l xs y,x=.ref l∧vs=[y]∧H l=some (.lst xs)∧xs.length<sizeLine∧Q .non (upd H l (.lst (xs++[y])))
theorem ze7:MtM X "list.append" zcA:=by
 intro pins s σ H x vs v us Q I rx rv h
 obtain⟨l,xs,y,rfl,rfl,hH,hz,q⟩:=h
 cases rx
 obtain⟨u,rfl,ru⟩:=rv.one
 obtain⟨z,its,n,r,hl,e⟩:=I.lstM hH
 refine call_meets F.slot_list_append ⟨_,e,rfl⟩ F.entry_list_append (F.args_list_append_2 _ _) (PySem.list_append l its.toArray n u (by rw[ψg];(first|lia|omega))) ⟨e,?_⟩
 refine⟨.non,_,I.lset (its':=its++[u]) hH e (by simp) (r.append (.cons ru .nil)) ?_,rfl,q⟩
 rw[ψV,List.length_singleton]
 (first|lia|omega)
def zlq:R2:=λx y H Q=>∃l b xs zs,x=.ref l∧y=.ref b∧H l=some (.lst xs)∧H b=some (.lst zs)∧xs.length+zs.length≤sizeLine∧∀p,H p=none→Q (.ref p) (upd H p (.lst (xs++zs)))
theorem zeo:OpR X (binaryOp .Add) zlq:=by
 intro pins s σ H x y v u Q I rx ry h
 obtain⟨l,b,xs,zs,rfl,rfl,hH,hB,hz,q⟩:=h
 cases rx
 cases ry
 obtain⟨z,its,n,r,hl,e⟩:=I.lstM hH
 obtain⟨z2,its2,n2,r2,hl2,e2⟩:=I.lstM hB
 refine PySem.P.add_list e e2 ?_ (by rw[ψg,ψg];(first|lia|omega))
 have ea:its.toArray++its2.toArray=(its++its2).toArray:=by simp
 rw[ea]
 exact⟨.ref _,_,I.lnew (t':=s.toks) (r.append r2) (by rw[ψV];(first|lia|omega)),rfl,q _ I.fresh⟩
end
section
variable {prog:Program} {w:World} {A:Around} {E:Value→Shared→Prop} {s:Shared}
end
section
variable {X:Cx}
end
end L2
namespace Att
open PySem PySem.W PySem.Calls PyProof.Rows
theorem zjk{P:Params}{h:Heap}:∀(ns:List Int) (vs:List Value),WellAll P h vs (ns.map WData.int)→IntsAre vs ns:=by
 intro ns
 induction ns with
 | nil =>
  intro vs w
  rw[ψp1] at w
  cases w
  exact .nil
 | cons n ns ih =>
  intro vs w
  rw[ψu] at w
  cases w with
  | cons a b =>
   cases a
   exact .cons _ _ (ih _ b)
theorem zrn{l:OpenLaw}{n:Nat}(hn:l.most=some n){P:Params}{h:Heap}{args:List WData}{vals:List Value}
  (hpre:l.row.toRowW.claim.pre args=true) (hwl:WellAll P h vals args) :
  ∃a vs ns,vals=[Value.ref a]∧args=[WData.list (ns.map WData.int)]∧h.get? a=some { cls:=.type "list",data:=.seq vs.toArray }∧IntsAre vs ns∧ns.length≤n:=by
 have hsh:WShape.hasAll [] args [.list .int]=true:=(pre_splitW hpre).1
 have hc:l.pre.holds [] { args:=args }=true:=(pre_splitW hpre).2
 obtain⟨d,r,rfl,h1,h2⟩:=hasAllW_cons hsh
 obtain rfl:=hasAllW_nil h2
 obtain⟨xs,rfl,h3⟩:=hasW_list h1
 obtain⟨ns,rfl⟩:=items_int h3
 have hlen:ns.length≤n:=by
  unfold OpenLaw.pre at hc
  have h4:(WTm.not (.lt (.lit (.int (n:Int))) (.len (.arg 0)))).holds [] { args:=[.list (ns.map .int)] }=true:=by
   have h4:=(holds_andW hc).1
   rw[hn] at h4
   exact h4
  have h5:=condW_of h4 (w_not (w_lt w_lit (w_len_list (w_arg rfl))))
  rw[ψb] at h5
  refine Nat.le_of_not_lt λq=>?_
  have q':(n:Int)<((ns.length:Nat):Int):=by (first|lia|omega)
  first
   | (rw[decide_eq_true q'] at h5;exact absurd h5 (by decide))
   | (simp at h5;(first|lia|omega))
 cases hwl with
 | cons w1 w2 =>
  cases w2
  cases w1 with
  | list ho hall=>exact⟨_,_,ns,rfl,rfl,ho,zjk ns _ hall,hlen⟩
theorem zqy(l:OpenLaw)(args:List WData):l.row.toRowW.claim.post args (.bool true) args=true :=
 postW_of (r:=l.row.toRowW) (X:=(true == true))
  (show WShape.has [] (.bool true) .bool=true by first | rfl | decide | simp[WShape.has,WShape.arms,WShape.armsAll])
  (show(WTm.eq .res (.lit (.bool true))).value [] { args:=args,res:=some (.bool true),after:=args }=some (.bool (true == true)) from w_eq_bool (w_res rfl) w_lit) rfl
section
variable {prog:Program} {w:World} {A:Around} {E:Value→Shared→Prop} {s:Shared} {K:Frag}
end
end Att
namespace L2
open PySem PySem.Spec PyProof.Rows
theorem zm1:∀{vs:List Value} {ns:List Int},IntsAre vs ns→zcU (ns.map V.int) vs
 | _,_,.nil=>.nil
 | _,_,.cons n t h=>.cons ⟨t,rfl⟩ (zm1 h)
def Only(H:Hp):Prop:=∀b,H b=none∨∃o xs,H b=some (.frz o (.lst xs))
theorem zuI{P:Program}{w:World}{K:ψa}{mg mb:Str→Option Value}{CX:CXT}{k:Nat}{fa a:Addr}{fd:FuncData}{x:Str}{sp:Sp}{s₁:Shared}{vs:List Value}{ns:List Int}
  (KX:K.In s₁.heap) (hns:s₁.heap.Ns mainGlobals mg) (hb:s₁.heap.Ns builtinsNs mb) (hbb:∀x:Str,x≠"__name__"→mb x=bootBuiltins x) (hlim:s₁.heap.NoLimit) (hg:s₁.gens=#[])
  (ha:s₁.heap.get? a=some { cls:=.type "list",data:=.seq vs.toArray }) (hi:IntsAre vs ns) (hl:ns.length≤sizeLine) (hr:zkW k callerA)
  (F:∀base:Heap,K.In base→base.Ns mainGlobals mg→zcn P w K mg base CX k fa fd [x] sp) (hbind:∀(s:Shared) (u:Value),BindsTo s fd ⟨[u],[]⟩ [(x,u)])
  (hsp:∀H:Hp,Only H→SqL K H a (ns.map V.int)→sp [.ref a] H (λv _=>v=.bl true) λ_ _ _=>False)
  (hCX:∀H e s',CX [] H s₁ (λ_ _ _=>False) e s'→False) :
  codeAny (model P w) callerA (.call (.ref fa) ⟨[.ref a],[]⟩) (λr s'=>r=.ok (.ret (.bool true))∧OldK s₁.heap s'.heap∧s'.os=s₁.os∧AllBare s'.gens) s₁:=by
 have rv:=zm1 hi
 have lenV:=hi.length
 have core:∀H:Hp,Only H→SqL K H a (ns.map V.int)→HOk P w H s₁.heap→(∀b,H b≠none→b=a)→(H a≠none→K.lookup a=none) →
   codeAny (model P w) callerA (.call (.ref fa) ⟨[.ref a],[]⟩) (λr s'=>r=.ok (.ret (.bool true))∧OldK s₁.heap s'.heap∧s'.os=s₁.os∧AllBare s'.gens) s₁:=by
  intro H hO hS hok hA hK
  have base_of:∀{b:Addr} {o:Obj},s₁.heap.get? b=some o→H b=none→(zt7 s₁.heap H).get? b=some o:=λe n=>zuG e n
  have noA:∀{b:Addr} {o:Obj} {es:Array DictEntry} {ep:Nat},s₁.heap.get? b=some o→o.data=.dict es ep→H b=none:=fun {b o es ep} e d=>by
   cases q:H b with
   | none=>rfl
   | some u =>
    have e':b=a:=hA b (by rw[q];simp)
    subst e'
    rw[ha] at e;cases e
    have d':Data.seq vs.toArray _=Data.dict es ep:=d
    cases d'
  have nsK:∀{b:Addr} {m:Str→Option Value},s₁.heap.Ns b m→(zt7 s₁.heap H).Ns b m:=fun {b m} ⟨o,es,ep,e,d,r⟩=>⟨o,es,ep,base_of e (noA e d),d,r⟩
  have hKb:K.In (zt7 s₁.heap H):=λb o e=>base_of (KX b o e) (by
   cases q:H b with
   | none=>rfl
   | some u =>
    have e':b=a:=hA b (by rw[q];simp)
    subst e'
    rw[hK (by rw[q];simp)] at e;cases e)
  have hM:Mod K mg (zt7 s₁.heap H):=⟨hKb,nsK hns,⟨mb,nsK hb,hbb⟩,let ⟨mc,h1,h2⟩:=hlim;⟨mc,nsK h1,h2⟩⟩
  have e0:Env0 P w K mg (zt7 s₁.heap H) callerA [] s₁ H:=⟨rfl,hM,λb o e=>zxc e,Nat.le_of_eq (zrS _ _),trivial,λb hb=>absurd (show b∈([]:List Addr) from hb) (by simp),hok,.of_eq hg⟩
  refine codeAny_mono ((F _ hKb (nsK hns)).run callerA [] s₁ H ⟨[.ref a],[]⟩ [.ref a] [.ref a] _ _ hr e0 (hbind s₁ (.ref a)) (.cons rfl .nil) (hsp H hO hS)) λr s' h=>?_
  cases r with
  | error e=>exact(hCX H e s' h).elim
  | ok fl =>
   cases fl with
   | next=>exact False.elim h
   | brk=>exact False.elim h
   | cont=>exact False.elim h
   | ret u =>
    obtain⟨v,H',os,bare,un,hok',r',q⟩:=h
    have q':v=.bl true:=q
    subst q'
    obtain rfl:u=Value.bool true:=r'
    refine⟨rfl,OldK.of_keep λb o e=>?_,os,bare⟩
    cases q:H b with
    | none=>exact un.keep b o e q (by intro z;exact absurd (show b∈([]:List Addr) from z) (by simp)) (by simp)
    | some u =>
     rcases hO b with z | ⟨ob,xs,z⟩
     ·rw[q] at z;cases z
     ·have z2:=un.frzs b ob _ z
      obtain⟨e1,_⟩:=hok b _ z
      obtain⟨e2,_⟩:=hok' b _ z2
      rw[e] at e1;cases e1
      exact e2
 cases hk:K.lookup a with
 | some o =>
  have e:=KX a o hk
  rw[ha] at e
  cases e
  refine core (λ_=>none) (λ_=>.inl rfl) (.inr ⟨_,vs.toArray,_,hk,rfl,rfl,rfl,by rw[ψg,lenV];exact hl,by simpa using rv⟩) (λb u z=>by have z':(none:Option HO)=some u:=z;cases z') (λb z=>absurd rfl z) λz=>absurd rfl z
 | none =>
  refine core (λb=>if b=a then some (.frz { cls:=.type "list",data:=.seq vs.toArray } (.lst (ns.map V.int))) else none) (λb=>?_) (.inl (.inr ⟨{ cls:=.type "list",data:=.seq vs.toArray },if_pos rfl⟩)) (λb u z=>?_) (λb z=>?_) λ_=>hk
  ·by_cases hb:b=a
   ·exact .inr ⟨_,_,if_pos hb⟩
   ·exact .inl (if_neg hb)
  ·by_cases hb:b=a
   ·have z':=(if_pos hb).symm.trans z
    cases z'
    subst hb
    exact⟨ha,by rw[ψb];exact hl,vs,_,rv,ha⟩
   ·have z':=(if_neg hb).symm.trans z
    cases z'
  ·by_cases hb:b=a
   ·exact hb
   ·exact absurd (if_neg hb) z
end L2
namespace L2
open PySem PySem.Spec PyProof.Rows
end L2
namespace L2
open PySem PySem.Spec PyProof.Rows
def zlO(s:Stmt):Arguments:=match s with
 | .FunctionDef _ a _ _ _ _ _ _ _ _=>a
 | _=>{ posonlyargs:=[],args:=[],vararg:=none,kwonlyargs:=[],kw_defaults:=[],kwarg:=none,defaults:=[] }
def zjl(s:Stmt):List Stmt:=match s with
 | .FunctionDef _ _ b _ _ _ _ _ _ _=>b
 | _=>[]
def zag(s:Stmt):Scope:=match s with
 | .FunctionDef _ _ _ _ _ _ sc _ _ _=>sc
 | _=>{ kind:=.function,names:=[],isGenerator:=false,isCoroutine:=false }
abbrev CX0:CXT:=λ_ _ _ _ _ _=>False
abbrev E0:XK:=λ_ _ _=>False
theorem zax{X:Cx}:zqW CX0 X E0:=λ_ _ _ _ _ _ _ h=>h.elim
structure Fun (K:ψa) (x qual:Str) (st:Stmt) (f:Addr) (fd:FuncData):Prop where
 ex:∃(oc:Value) (od:Option Addr) (kV doc pm:Value) (an:Option Addr) (cdv ct:Value) (osl:Array (Option Value)),
  fd=PySem.W.fnOf x qual (zlO st) (zjl st) (zag st) .none kV doc pm an cdv ct∧K.lookup f=some ⟨oc,od,.func fd,osl⟩∧PySem.W.codeIn K cdv qual=true
 kp:PySem.W.keepIn K (.ref f)=true
section
variable {P:Program} {w:World} {K:ψa} {mg:Str→Option Value} {base:Heap}
theorem Fun.ok{x qual:Str}{st:Stmt}{f:Addr}{fd:FuncData}{N ps:List Str}{k:Nat}{sp:Sp}(F:Fun K x qual st f fd)(S:zaB N ps (zag st))(len:∀vs H Q E,sp vs H Q E→vs.length=ps.length)
  (hbody:∀(cdv:Value) (A:Around) (outer:List Env) (s:Shared) (H:Hp) (vs:List V) (Q:VK) (E:XK),zkW k (A.deeper (envOfC qual (zag st) s.heap.objs.size f cdv))→sp vs H Q E →
   ∃t,PSs (zxW CX0 P w K mg base N qual (zag st) f cdv A outer s H E).nox (zjl st) t∧t { nx:=λ_ H'=>Q .non H',rt:=Q } (start N vs) H):zcn P w K mg base CX0 (k+1) f fd ps sp:=by
 obtain⟨oc,od,kV,doc,pm,an,cdv,ct,osl,rfl,lk,hcd⟩:=F.ex
 refine fn_of lk hcd S len λA outer s H vs Q E hr hsp=>?_
 obtain⟨t,h,q⟩:=hbody cdv A outer s H vs Q E hr hsp
 exact⟨t,h.nox,q⟩
theorem Fun.binds{x qual:Str}{st:Stmt}{f:Addr}{fd:FuncData}{ps:List Str}(F:Fun K x qual st f fd)
  (h:∀(kV doc pm:Value) (an:Option Addr) (cdv ct:Value) (us:List Value),us.length=ps.length→bindArgs (PySem.W.fnOf x qual (zlO st) (zjl st) (zag st) .none kV doc pm an cdv ct) ⟨us,[]⟩=pure (ps.zip us)):zbw K fd ps []:=by
 obtain⟨oc,od,kV,doc,pm,an,cdv,ct,osl,rfl,lk,hcd⟩:=F.ex
 exact .all (h kV doc pm an cdv ct)
theorem za2{x qual:Str}{st:Stmt}{f:Addr}{oc:Value}{od an:Option Addr}{osl:Array (Option Value)}{kV doc pm cdv ct:Value}(l:K.lookup f=some ⟨oc,od,.func (PySem.W.fnOf x qual (zlO st) (zjl st) (zag st) .none kV doc pm an cdv ct),osl⟩)
  (c:PySem.W.codeIn K cdv qual=true) (k:PySem.W.keepIn K (.ref f)=true):Fun K x qual st f (PySem.W.fnOf x qual (zlO st) (zjl st) (zag st) .none kV doc pm an cdv ct):=⟨⟨oc,od,kV,doc,pm,an,cdv,ct,osl,rfl,l,c⟩,k⟩
end
theorem zbF{n:Nat}(h:n≤1000):n<sizeLine:=ψA1 h (by decide)
section
variable {X:Cx}
theorem pv(i:Nat){x:Str}{pos:Pos}(hN:X.N[i]?=some x:=by rfl)(hv:Vis X.env.scope x:=by first | exact Or.inl rfl | exact Or.inr (Or.inl rfl) | exact Or.inr (Or.inr rfl))(hd:(x == ("__debug__":Str))=false:=by decide)
  (hcd:(x == ("__classdict__":Str))=false:=by decide):PE X (.Name x pos) (zac i):=zzj hN hv hd hcd
end
theorem iteF{A B:Prop}(h:B):if false=true then A else B:=by
 rw[if_neg ψw]
 exact h
theorem zqt{A B:Prop}(h:A):if true=true then A else B:=by
 rw[if_pos rfl]
 exact h
theorem zcg{c A B:Prop}[Decidable c](h1:c→A)(h2:¬ c→B):if c then A else B:=by
 by_cases h:c
 ·rw[if_pos h]
  exact h1 h
 ·rw[if_neg h]
  exact h2 h
def zaI(H H':Hp):Prop:=∀b o,H b=some o→H' b=some o
theorem zaI.refl(H:Hp):zaI H H:=λ_ _ h=>h
theorem zaI.trans{H H1 H2:Hp}(a:zaI H H1)(b:zaI H1 H2):zaI H H2:=λc o h=>b c o (a c o h)
theorem zaI.free{H H':Hp}(e:zaI H H'){l:Addr}(h:H' l=Option.none):H l=Option.none:=by
 cases q:H l with
 | none=>rfl
 | some o =>
  rw[e l o q] at h
  cases h
theorem zaI.seq{K:ψa}{H H':Hp}{a:Addr}{xs:List V}(e:zaI H H')(h:SqL K H a xs):SqL K H' a xs:=by
 rcases h with (h | ⟨o,h⟩) | h
 ·exact .inl (.inl (e _ _ h))
 ·exact .inl (.inr ⟨o,e _ _ h⟩)
 ·exact .inr h
end L2
namespace L2
open PySem PySem.Spec PyProof.Rows
section
variable {X:Cx}
theorem zub:OpR X (binaryOp .FloorDiv) (rI (λ_ j=>0<j∧j.natAbs.log2<9000) λi j=>.int (i / j)):=opI λi j _ _ _ _ _ hc q=>by
 have h1:(0:Int)<j:=hc.1
 exact floordiv_int (by (first|lia|omega)) (by rw[ψZ i (by (first|lia|omega))];exact q) (.inl (PyProof.noPylong_of_log2 hc.2))
theorem zdF:OpR X (binaryOp .FloorDiv) (rI (λ_ j=>j≠0∧j.natAbs.log2<9000) λi j=>.int (i.fdiv j)):=opI λ_ _ _ _ _ _ _ hc q=>floordiv_int hc.1 q (.inl (PyProof.noPylong_of_log2 hc.2))
theorem zii:OpR X (binaryOp .Mod) (rI (λ_ j=>j≠0) λi j=>.int (i.fmod j)):=zv6
theorem zav:OpR X (binaryOp .Mult) (rI IntMulOk λi j=>.int (i*j)):=opI λ_ _ _ _ _ _ _ hc q=>mul_int q hc
theorem zoX{i j:Int}(h1:-(2 ^ 64)<j)(h2:j<2 ^ 64):IntMulOk i j:=.of_right (intBits_le_64 h1 h2)
theorem zwy{i j:Int}(h1:-(2 ^ 64)<i)(h2:i<2 ^ 64):IntMulOk i j:=.of_left (intBits_le_64 h1 h2)
theorem zdg{i j:Int}(m n:Nat)(h1:i.natAbs<2 ^ m)(h2:j.natAbs<2 ^ n)(h:m+n≤134217728:=by decide):IntMulOk i j:=.of_le (intBits_le_iff.mpr h1) (intBits_le_iff.mpr h2) h
theorem zhJ{j:Int}(m:Nat)(h0:j≠0)(h:j.natAbs<2 ^ m)(hm:m≤9000:=by decide):j.natAbs.log2<9000 :=
 ψp ((Nat.log2_lt (by (first|lia|omega))).mpr h) hm
theorem zoV:bootBuiltins "int"=some (.type "int"):=by decide +kernel
theorem zmS:bootBuiltins "bool"=some (.type "bool"):=by decide +kernel
theorem zbQ:bootBuiltins "list"=some (.type "list"):=by decide +kernel
theorem zbS:bootBuiltins "tuple"=some (.type "tuple"):=by decide +kernel
theorem zmU(K:ψa):ψX1 K (.type "int") (.type "bool")=some false:=by first | rfl | kernel_rfl
def zyj(a:Addr)(c:Value)(h:Heap):Prop:=∃oe vs,h.get? a=some oe∧oe.cls=c∧oe.data=.fields vs
def excO(a:Addr)(c:Value):HO:=.ext (zyj a c)
structure zxZ (K:ψa) (c:Value):Prop where
 kit:∀a:Addr,PySem.W.KitX K (.ref a) c (zyj a c)
inductive TyX (K:ψa) (H:Hp):V→Value→Prop where
 | of {x:V} {t:Value} (h:zpn K H x t):TyX K H x t
 | exc {a:Addr} {c:Value} (h:H a=some (excO a c)) (k:zxZ K c):TyX K H (.ref a) c
def clsV:V→Option Value
 | .ty n=>some (.type n)
 | .ref c=>some (.ref c)
 | _=>none
def ziw(K:ψa):List V→Hp→VK→Prop:=λxs H Q=>∃x c t cv b,xs=[x,c]∧clsV c=some cv∧TyX K H x t∧ψX1 K t cv=some b∧Q (.bl b) H
theorem zjq{K:ψa}{H:Hp}{Q:VK}{i:Int}(q:Q (.bl true) H):ziw K [.int i,.ty "int"] H Q:=⟨_,_,_,_,true,rfl,rfl,.of (.int i),rfl,q⟩
theorem ziC{K:ψa}{H:Hp}{Q:VK}{i:Int}(q:Q (.bl false) H):ziw K [.int i,.ty "bool"] H Q:=⟨_,_,_,_,false,rfl,rfl,.of (.int i),zmU K,q⟩
theorem zcK{K:ψa}{H:Hp}{Q:VK}{r:Addr}{xs:List V}(h:H r=some (.tup xs))(q:Q (.bl true) H):ziw K [.ref r,.ty "tuple"] H Q:=⟨_,_,_,_,true,rfl,rfl,.of (.tup h),rfl,q⟩
theorem zul{c:V}{u cv:Value}(r:zdt c u)(h:clsV c=some cv):u=cv:=by
 cases c with
 | ty n=>cases r;exact Option.some.inj h
 | ref a=>cases r;exact Option.some.inj h
 | _=>cases h
theorem zaT:ziL X (.builtin "isinstance") (ziw X.K):=by
 intro pins s σ H xs us Q I r h
 obtain⟨x,c,t,cv,b,rfl,hc,ty,e,q⟩:=h
 obtain⟨u,w',rfl,rx,rw'⟩:=zvg r
 obtain rfl:=zul rw' hc
 cases ty with
 | of ty=>exact zrq I rx ty e λtk=>⟨.bl b,H,I.tok tk,rfl,q⟩
 | @exc a c h k =>
  cases (show u=Value.ref a from rx)
  obtain⟨p,_,_⟩:=(show zev X.prog X.w H s.heap a (excO a t) from I.hok a _ h)
  exact ψh1 (k.kit a) I.kIn p e (λz=>nomatch z) λtk=>⟨.bl b,H,I.tok tk,rfl,q⟩
def rEqT(K:ψa):R2:=λx y H Q=>∃(a b:Addr) (ns ms:List Int),x=.ref a∧y=.ref b∧SqT K H a (ns.map V.int)∧SqT K H b (ms.map V.int)∧Q (.bl (decide (ns=ms))) H
def rNeT(K:ψa):R2:=λx y H Q=>∃(a b:Addr) (ns ms:List Int),x=.ref a∧y=.ref b∧SqT K H a (ns.map V.int)∧SqT K H b (ms.map V.int)∧Q (.bl (!decide (ns=ms))) H
theorem zn2:∀{ns:List Int} {us:List Value},zcU (ns.map V.int) us→∀{j:Nat} (h:j<us.length),∃(h':j<ns.length) (t:Tok),us[j]=.int ns[j] t
 | [],_,.nil,j,h=>absurd h (ψG1 _)
 | n::ns,_,.cons r t,0,h=>by
  obtain⟨t',rfl⟩:=r
  exact⟨Nat.succ_pos _,t',rfl⟩
 | n::ns,_,.cons r t,j+1,h=>by
  obtain⟨h',t',e⟩:=zn2 t (j:=j) (Nat.lt_of_succ_lt_succ h)
  exact⟨Nat.succ_lt_succ h',t',e⟩
theorem zhY{l:List Int}{j:Nat}(h:j<l.length):l.getD j 0=l[j]:=by
 rw[ψv,ψc h]
 rfl
theorem zpi{ns ms:List Int}:((ψF1 (min ns.length ms.length)).all (λj=>ns.getD j 0 == ms.getD j 0)&&ns.length == ms.length)=decide (ns=ms):=by
 by_cases h:ns=ms
 ·subst h
  rw[decide_eq_true rfl,ψL]
  refine⟨List.all_eq_true.mpr λj _=>beq_self_eq_true _,beq_self_eq_true _⟩
 ·rw[decide_eq_false h]
  refine Bool.eq_false_iff.mpr λz=>h ?_
  obtain⟨z1,z2⟩:=(ψL _ _).mp z
  have hl:ns.length=ms.length:=beq_iff_eq.mp z2
  refine List.ext_getElem hl λj h1 h2=>?_
  have q:=List.all_eq_true.mp z1 j (List.mem_range.mpr (by (first|lia|omega)))
  have q':ns.getD j 0=ms.getD j 0:=beq_iff_eq.mp q
  rw[zhY h1,zhY h2] at q'
  exact q'
theorem zm3{A:Around}{s:Shared}{ns ms:List Int}{us ws:List Value}(r1:zcU (ns.map V.int) us)(r2:zcU (ms.map V.int) ws) :
  ∀j (h1:j<us.toArray.size) (h2:j<ws.toArray.size),SeqAt.EqAt A s us.toArray[j] ws.toArray[j] (ns.getD j 0 == ms.getD j 0):=by
 intro j h1 h2
 rw[ψg] at h1 h2
 obtain⟨k1,t1,e1⟩:=zn2 r1 h1
 obtain⟨k2,t2,e2⟩:=zn2 r2 h2
 rw[List.getElem_toArray,List.getElem_toArray,e1,e2,zhY k1,zhY k2]
 exact SeqAt.EqAt.int_int _ _ _ _
theorem zzx(hu:X.A.units<cLine):OpR X (compareOp .Eq) (rEqT X.K):=by
 intro pins s σ H x y v u Q I rx ry h
 obtain⟨a,b,ns,ms,rfl,rfl,ha,hb,q⟩:=h
 cases rx
 cases ry
 obtain⟨us,r1,p1,_⟩:=I.tuple ha
 obtain⟨ws,r2,p2,_⟩:=I.tuple hb
 have l1:=r1.length
 have l2:=r2.length
 rw[ψb] at l1 l2
 refine SeqAt.RcAt.tuples p1 p2 hu (e:=λj=>ns.getD j 0 == ms.getD j 0) (zm3 r1 r2) X.prog X.w X.xe _ ⟨.bl _,H,I,rfl,?_⟩
 rw[ψg,ψg,← l1,← l2,zpi]
 exact q
theorem zyo(hu:X.A.units<cLine):OpR X (compareOp .NotEq) (rNeT X.K):=by
 intro pins s σ H x y v u Q I rx ry h
 obtain⟨a,b,ns,ms,rfl,rfl,ha,hb,q⟩:=h
 cases rx
 cases ry
 obtain⟨us,r1,p1,_⟩:=I.tuple ha
 obtain⟨ws,r2,p2,_⟩:=I.tuple hb
 have l1:=r1.length
 have l2:=r2.length
 rw[ψb] at l1 l2
 refine SeqAt.RcNeAt.tuples p1 p2 hu (e:=λj=>ns.getD j 0 == ms.getD j 0) (zm3 r1 r2) X.prog X.w X.xe _ ⟨.bl _,H,I,rfl,?_⟩
 rw[ψg,ψg,← l1,← l2,zpi]
 exact q
def tTru(K:ψa)(ta:TE):TT:=λσ H Q=>ta σ H λx H'=>∃k,zy7 K x H' k∧Q k H'
def zdG(t:TS):TS:=λD σ H=>∃R:St→Hp→Prop,t { D with nx:=R } σ H∧∀σ' H',R σ' H'→D.nx σ' H'
theorem zbs{st:Stmt}{t:TS}(h:PS X st t):PS X st (zdG t):=by
 intro pins s σ H D I hw
 obtain⟨R,hw,hR⟩:=hw
 refine thn (h pins s σ H _ I hw) λf s' q=>?_
 cases f with
 | next=>obtain⟨σ',H',I',q⟩:=q;exact⟨σ',H',I',hR _ _ q⟩
 | brk=>exact q
 | cont=>exact q
 | ret u=>exact q
end
theorem zan{H:Hp}{p:Addr}(h:H p=none)(o:HO):zaI H (upd H p o):=λb u q=>by rw[zbg (zaO q h)];exact q
theorem zaI.add{H0 H:Hp}{p:Addr}{o:HO}(s:zaI H0 H)(h:H p=none):zaI H0 (upd H p o):=s.trans (zan h o)
theorem zaI.put{H0 H:Hp}{p:Addr}{o:HO}(s:zaI H0 H)(h:H0 p=none):zaI H0 (upd H p o):=λb u q=>by rw[zbg (zaO q h)];exact s _ _ q
theorem ztW{K:ψa}{i:Int}{H:Hp}{k:Bool}:zy7 K (.int i) H k=(k=(i != 0)):=rfl
theorem zwB{K:ψa}{i:Bool}{H:Hp}{k:Bool}:zy7 K (.bl i) H k=(k=i):=rfl
theorem zuy(a b:Int):scal (.int a) (.int b)=true:=rfl
theorem zxJ(a b:Bool):scal (.bl a) (.bl b)=true:=rfl
def zpT(J:It)(g:TG)(tb:TS):TS:=λD σ H=>∃W:Nat→Nat→St→Hp→Prop,(∃m,W 0 m σ H)∧∀i m σ H,W i m σ H →
 (J.stop i H∧D.nx σ H)∨(J.go i H∧∃N:St→Hp→Prop,(∀σ' H',N σ' H'→∃m',m'<m∧W (i+1) m' σ' H')∧∀x H',J.yld i H x H'→g x σ H' λσ2 H2=>tb { D with nx:=N,ct:=N,bk:=D.nx } σ2 H2)
theorem zxp{wi:TI}{g:TG}{tb:TS}{D:zk9}{σ:St}{H:Hp}:zll wi g tb D σ H=wi σ H λJ H1=>zpT J g tb D σ H1:=rfl
theorem zgH{lo:Int}{n:Nat}{g:TG}{tb:TS}{D:zk9}{σ:St}{H:Hp}(Pv:Nat→St→Hp→Prop)(h0:Pv 0 σ H)
  (hs:∀i σ H,i<n→Pv i σ H→g (.int (lo+i)) σ H λσ2 H2=>tb { D with nx:=Pv (i+1),ct:=Pv (i+1),bk:=D.nx } σ2 H2) (hd:∀σ H,Pv n σ H→D.nx σ H):zpT (Itr lo n) g tb D σ H:=zsN Pv h0 hs hd
theorem zc3{K:ψa}{a:Addr}{xs:List V}{g:TG}{tb:TS}{D:zk9}{σ:St}{H:Hp}(Pv:Nat→St→Hp→Prop)(h0:Pv 0 σ H)(hl:∀i σ H,i≤xs.length→Pv i σ H→SqL K H a xs)
  (hs:∀i x σ H,xs[i]?=some x→Pv i σ H→g x σ H λσ2 H2=>tb { D with nx:=Pv (i+1),ct:=Pv (i+1),bk:=D.nx } σ2 H2) (hd:∀σ H,Pv xs.length σ H→D.nx σ H):zpT (Itl K a) g tb D σ H:=zuC Pv h0 hl hs hd
end L2
namespace L2
open PySem PySem.Spec PyProof.Rows
section
variable {P:Program} {w:World}
end
section
variable {P:Program} {w:World} {K:ψa} {mg:Str→Option Value} {base:Heap} {N:List Str} {qual:Str} {scope:Scope} {f:Addr} {cd:Value} {A:Around} {outer:List Env} {s₀:Shared} {H₀:Hp} {E:XK}
end
section
variable {P:Program} {w:World} {K:ψa} {mg:Str→Option Value} {base:Heap} {N:List Str} {qual:Str} {scope:Scope} {f:Addr} {cd:Value} {A:Around} {outer:List Env} {s₀:Shared} {H₀:Hp} {E:XK}
end
abbrev zpO:List Value:=[.type "ValueError",.type "Exception",.type "BaseException",.type "object"]
section
variable {X:Cx} {CX:CXT} {k:Nat} {f:Addr} {fd:FuncData} {ps:List Str} {sp:Sp} {dvs:List V} {ds:List Value} {E:St→XK} {x:Str} {p pos:Pos} {e:Expr} {es:List Expr} {t:TA}
end
theorem Inv.track{X:Cx}{pins:List (Addr×Obj)}{σ:St}{H:Hp}{s:Shared}{a:Addr}{o:HO}(I:Inv X pins σ H s)(hn:H a=none)(h0:X.s₀.heap.get? a=none)(hL:a≠X.env.locals)(hc:∀x c,X.env.cells.lookup x=some c→c≠a)
  (hp:∀p∈X.pn++pins,p.1≠a) (new:zev X.prog X.w (upd H a o) s.heap a o):Inv X pins σ (upd H a o) s:=by
 refine⟨I.ok,I.os,I.bare,⟨I.base.keep,I.base.slot,λb u q n hx=>?_,I.base.there,λb xs q=>?_,λb u xs q=>?_,λb ps q=>?_⟩,I.loc,I.cell,?_,λx c e=>?_,λp q=>?_,λb u e=>?_,I.len⟩
 ·have nb:b≠a:=λz=>by rw[z,h0] at q;cases q
  rw[zbg nb]
  exact I.base.free b u q n hx
 ·have q2:=I.base.tups b xs q
  rw[zbg (zaO q2 hn)]
  exact q2
 ·have q2:=I.base.frzs b u xs q
  rw[zbg (zaO q2 hn)]
  exact q2
 ·obtain⟨m,q2⟩:=I.base.tbls b ps q
  exact⟨m,by rw[zbg (zaO q2 hn)];exact q2⟩
 ·rw[zbg hL.symm]
  exact I.free
 ·rw[zbg (hc x c e)]
  exact I.freeC x c e
 ·obtain⟨e,n,r⟩:=I.pin p q
  exact⟨e,by rw[zbg (hp p q)];exact n,r⟩
 ·by_cases hb:b=a
  ·subst hb
   rw[zai] at e
   cases e
   exact new
  ·rw[zbg hb] at e
   exact(I.hok b u e).stay (λc v _ q=>q) (λc q=>by rw[zbg (zaO q hn)];exact q) λc xs q=>by rw[zbg (zaO q hn)];exact q
section
open Builtin Builtin.ObjectAttr Builtin.Getset_descriptor PySem.W
variable {K:ψa} {prog:Program} {w:World} {A:Around} {E:Value→Shared→Prop} {h:Heap} {g:Array GenState} {d:Drawn} {t:Nat} {os:OsState} {a C:Addr} {o:Obj}
end
end L2
namespace L2
open PySem PySem.Spec PyProof.Rows
theorem zrL{env:Env}{x:Str}{c:Addr}(h:env.cells.lookup x=some c):cellOf env x=pure c:=by
 unfold cellOf
 rw[h]
theorem zh9{env:Env}:∀(l:List (Str×NameKind)) (cs:List (Str×Addr)),(∀y∈l,y.2=.free→∃c,env.cells.lookup y.1=some c)→(∀x c,cs.lookup x=some c→env.cells.lookup x=some c) →
  ∃cl,(forIn l cs λ(y:Str×NameKind) r=>(if (y.2 == .free)=true then do let c ← cellOf env y.1;pure (ForInStep.yield ((y.1,c)::r)) else pure (ForInStep.yield r):Sem (ForInStep (List (Str×Addr)))))=pure cl ∧
   (∀x c,cl.lookup x=some c→env.cells.lookup x=some c)∧(∀y∈l,y.2=.free→∃c,cl.lookup y.1=some c)∧∀x,(∃c,cs.lookup x=some c)→∃c,cl.lookup x=some c
 | [],cs,_,hc=>⟨cs,by simp,hc,by simp,λ_ h=>h⟩
 | y::l,cs,hf,hc=>by
  have hf':∀z∈l,z.2=.free→∃c,env.cells.lookup z.1=some c:=λz hz=>hf z (ψd _ hz)
  by_cases hy:y.2=.free
  ·obtain⟨c,e⟩:=hf y ψf hy
   have hc':∀x d,List.lookup x ((y.1,c)::cs)=some d→env.cells.lookup x=some d:=λx d q=>by
    rw[ψo1] at q
    split at q
    ·rename_i b
     cases q
     rw[beq_iff_eq.mp b,e]
    ·exact hc x d q
   obtain⟨cl,e1,e2,e3,e4⟩:=zh9 l ((y.1,c)::cs) hf' hc'
   refine⟨cl,?_,e2,λz hz q=>?_,λx ⟨d,q⟩=>e4 x ?_⟩
   ·rw[List.forIn_cons,if_pos (by rw[hy];rfl),zrL e]
    simpa using e1
   ·rcases List.mem_cons.mp hz with r | r
    ·exact e4 z.1 ⟨c,by rw[r,ψo1];simp⟩
    ·exact e3 z r q
   ·rw[ψo1]
    split
    ·exact⟨_,rfl⟩
    ·exact⟨d,q⟩
  ·obtain⟨cl,e1,e2,e3,e4⟩:=zh9 l cs hf' hc
   refine⟨cl,?_,e2,λz hz q=>?_,e4⟩
   ·rw[List.forIn_cons,if_neg (by simpa using hy)]
    simpa using e1
   ·rcases List.mem_cons.mp hz with r | r
    ·rw[r] at q;exact absurd q hy
    ·exact e3 z r q
theorem zkr{scope:Scope}{env:Env}(h:∀y∈scope.names,y.2=.free→∃c,env.cells.lookup y.1=some c) :
  ∃cl,closureFor scope env=pure cl∧(∀x c,cl.lookup x=some c→env.cells.lookup x=some c)∧∀y∈scope.names,y.2=.free→∃c,cl.lookup y.1=some c:=by
 obtain⟨cl,e1,e2,e3,_⟩:=zh9 scope.names [] h (by simp)
 refine⟨cl,?_,e2,e3⟩
 unfold closureFor
 simp only[bind_pure]
 exact e1
theorem ziv{P:Program}{w:World}{A:Around}{R:Result→Shared→Prop}{s:Shared}{elt target iter:Expr}{ifs:List Expr}{scope:Scope}{pos:Pos}{it acc:Value}{env:Env}{Z:Value→Shared→Prop}(J:Nat→Shared→Prop)
  (hZ:Z=notedBy (model P w) A env λe s'=>R (.error e) s')
  (zp5:∀n s,J n s→wpAny (model P w) A (pyNext it) (λr s1=>match r with
   | none=>R (.ok .next) s1
   | some v=>wpAny (model P w) A (letOwnedTupleGo target it v) (λ_ s2=>wpAny (model P w) A (assign target env v) (λ_ s3 =>
     wpAny (model P w) A (forIn ifs true λc r=>if r=true then do let ok ← isTrue c env (eval c env);pure (ForInStep.yield ok) else pure (ForInStep.yield r)) (λok s4 =>
      if ok=true then wpAny (model P w) A (eval elt env) (λx s5=>wpAny (model P w) A (call (.builtin "list.append") [acc,x]) (λ_ s6=>∃m,m<n∧J m s6) Z s5) Z s4
      else ∃m,m<n∧J m s4) Z s3) Z s2) Z s1) Z s)
  (n:Nat) (h:J n s):codeAny (model P w) A (.compLoop (.ListComp elt [⟨target,iter,ifs,0⟩] scope pos) 0 it acc env) R s:=by
 subst hZ
 refine codeAny_loop rfl J (λn s hJ=>?_) n h
 show wpAny _ _ (Sem.onRaise (compTurn (.ListComp elt [⟨target,iter,ifs,0⟩] scope pos) 0 it acc env) λx=>do noteFrame x env;theTreesLotGoes x) _ _ s
 refine wpAny_noted ?_
 rw[compTurn_list]
 refine wpAny_bind (wpAny_standAt (wpAny_bind (thn (zp5 n s hJ) λr s1 h1=>?_)))
 cases r with
 | none=>exact wpAny_pure h1
 | some v =>
  refine wpAny_bind (thn h1 λ_ s2 h2=>wpAny_bind (thn h2 λ_ s3 h3=>wpAny_bind (thn h3 λok s4 h4=>?_)))
  cases ok with
  | false=>exact wpAny_pure ⟨rfl,h4⟩
  | true=>exact wpAny_bind (wpAny_bind (thn h4 λx s5 h5=>wpAny_bind (thn h5 λ_ s6 h6=>wpAny_pure (wpAny_pure ⟨rfl,h6⟩))))
def PTs(X:Cx)(ifs:List Expr)(t:TT):Prop:=∀(pins:List (Addr×Obj)) (s:Shared) (σ:St) (H:Hp) (Q:Bool→Hp→Prop),Inv X pins σ H s→t σ H Q →
 wpAny (model X.prog X.w) X.A (forIn ifs true λc r=>if r=true then do let ok ← isTrue c X.env (eval c X.env);pure (ForInStep.yield ok) else pure (ForInStep.yield r)) (TP X pins σ Q) X.xe s
def za5:TT:=λ_ H Q=>Q true H
theorem za6{X:Cx}:PTs X [] za5:=λ_ _ _ H _ I h=>wpAny_tests_nil ⟨H,I,h⟩
theorem znG{X:Cx}{c:Expr}{t:TT}(h:PT X c t):PTs X [c] t:=λpins s σ H Q I q=>wpAny_tests_one (h pins s σ H Q I q)
def ztZ(cap:List (Option Nat))(σ:St):St:=cap.map λo=>o.bind λj=>(σ[j]?).join
def zb3(wi:TI)(g:TG)(tt:TT)(te:TE)(cap:List (Option Nat)):TE:=λσ H Q=>wi σ H λJ H1=>∀D,H1 D=none→∃W:Nat→Nat→St→Hp→Prop,(∃m,W 0 m (ztZ cap σ) (upd H1 D (.lst [])))∧∀i m σc Hc,W i m σc Hc →
 (J.stop i Hc∧Q (.ref D) Hc)∨(J.go i Hc∧∃N:St→Hp→Prop,(∀σ' H',N σ' H'→∃m',m'<m∧W (i+1) m' σ' H')∧∀x H',J.yld i Hc x H'→g x σc H' λσ2 H2=>tt σ2 H2 λb H3=>if b=true then te σ2 H3 λy H4=>zcA (.ref D) [y] H4 λ_ H5=>N σ2 H5 else N σ2 H3)
def Cx.blk(X:Cx)(Nc:List Str)(scope:Scope)(cl:List (Str×Addr))(s:Shared)(H:Hp)(fp:List Addr):Cx:={ X with
 N:=Nc,s₀:=s,H₀:=H,env:=compEnvC scope cl s.heap.objs.size X.env,outer:=X.stack,stack:=X.stack,ex:=fp,fn:=λ_=>false,pn:=[],xe:=λ_ _=>False }
structure zqe (sc:Scope) (N Nc:List Str) (cap:List (Option Nat)) (scope:Scope):Prop where
 kind:scope.kind=.function
 nocell:∀y∈scope.names,y.2≠.cell
 free:∀y∈scope.names,y.2=.free→sc.names.lookup y.1=some .cell∨sc.names.lookup y.1=some .free
 once:∀y∈scope.names,scope.names.lookup y.1=some y.2
 nd:Nc.Nodup
 len:cap.length=Nc.length
 cap:∀(i:Nat) (y:Str) (j:Nat),Nc[i]?=some y→cap[i]?=some (some j)→N[j]?=some y∧scope.names.lookup y=some .free
def zvH(sc:Scope)(N Nc:List Str)(cap:List (Option Nat))(scope:Scope):Bool :=
 scope.kind == .function&&scope.names.all (λy=>y.2 != .cell&&scope.names.lookup y.1 == some y.2&&(y.2 != .free || sc.names.lookup y.1 == some .cell || sc.names.lookup y.1 == some .free))&&decide Nc.Nodup&&cap.length == Nc.length
  && (Nc.zip cap).all λp=>p.2.all λj=>N[j]? == some p.1&&scope.names.lookup p.1 == some .free
theorem zqe.of{sc:Scope}{N Nc:List Str}{cap:List (Option Nat)}{scope:Scope}(h:zvH sc N Nc cap scope=true):zqe sc N Nc cap scope:=by
 unfold zvH at h
 simp only[ψL,beq_iff_eq,ψz1,bne_iff_ne,ne_eq,Bool.or_eq_true,decide_eq_true_eq] at h
 obtain⟨⟨⟨⟨h1,h2⟩,h3⟩,h4⟩,h5⟩:=h
 refine⟨h1,λy hy=>(h2 y hy).1.1,λy hy hf=>?_,λy hy=>(h2 y hy).1.2,h3,h4,λi y j e1 e2=>?_⟩
 ·rcases(h2 y hy).2 with (q | q) | q
  ·exact absurd hf q
  ·exact .inl q
  ·exact .inr q
 ·have m:(y,some j)∈Nc.zip cap:=by
   refine ψP (i:=i) ?_
   rw[ψK]
   exact⟨e1,e2⟩
  have z:=h5 _ m
  simpa using z
theorem zc6{env:Env}{x:Str}:∀{names:List (Str×NameKind)} {k:NameKind},((names.map λ(n,k)=>if (k == NameKind.free&&env.scope.kind == .function&&env.kindOf n == some .cell) then (n,NameKind.cell) else (n,k)).lookup x=some k)→k≠.cell∧names.lookup x=some k∨(k=.cell∧(names.lookup x=some .cell∨names.lookup x=some .free))
 | [],_,h=>by simp at h
 | (n,q)::r,k,h=>by
  have ih:=@zc6 env x r k
  rw[ψu] at h
  dsimp only at h
  by_cases hx:(x == n)=true
  ·by_cases hc:(q == NameKind.free&&env.scope.kind == .function&&env.kindOf n == some .cell)=true
   ·rw[if_pos hc,ψo1,hx] at h
    cases h
    rw[ψL,ψL] at hc
    refine .inr ⟨rfl,.inr ?_⟩
    rw[ψo1,hx]
    exact congrArg some (beq_iff_eq.mp hc.1.1)
   ·rw[if_neg hc,ψo1,hx] at h
    cases h
    rw[ψo1,hx]
    by_cases z:q=.cell
    ·exact .inr ⟨z,.inl (congrArg some z)⟩
    ·exact .inl ⟨z,rfl⟩
  ·have hx':(x == n)=false:=by simpa using hx
   rw[ψo1,hx']
   refine ih ?_
   by_cases hc:(q == NameKind.free&&env.scope.kind == .function&&env.kindOf n == some .cell)=true
   ·rw[if_pos hc,ψo1,hx'] at h
    exact h
   ·rw[if_neg hc,ψo1,hx'] at h
    exact h
section
variable {X:Cx} {pins:List (Addr×Obj)} {σ:St} {H:Hp} {s:Shared}
theorem zwa{Nc:List Str}{cap:List (Option Nat)}{scope:Scope}{cl:List (Str×Addr)}{fp:List Addr}{h1:Heap}{tk:Nat}{m1:Str→Option Value}(I:Inv X pins σ H s)(B:zqe X.env.scope X.N Nc cap scope)
  (hsub:∀x c,cl.lookup x=some c→X.env.cells.lookup x=some c) (hfr:∀y∈scope.names,y.2=.free→∃c,cl.lookup y.1=some c) (hf:∀b∈fp,zmA X pins H b) (hin:∀b∈fp,b<s.heap.objs.size)
  (hk:∀b o,s.heap.get? b=some o→h1.get? b=some o) (hn:h1.Ns s.heap.objs.size m1):Inv (X.blk Nc scope cl s H fp) [] (ztZ cap σ) H { s with heap:=h1,toks:=tk }:=by
 have ok:=I.ok
 have bsz:X.base.objs.size≤s.heap.objs.size:=ψd1 ok.bsz I.sz
 refine⟨⟨ok.mod,B.kind,ok.glob,ok.blt,ψm _,λx y c h1 h2=>ok.inj x y c (hsub x c h1) (hsub y c h2),λx hx=>?_,(by intro x c z;cases z),ok.hd,ok.frames,.inl rfl,λb hb=>⟨ψs (hin b hb),λx c e=>(hf b hb).2.2.2.2.1 x c (hsub x c e)⟩,
  I.bs,bsz,λb o e hb=>?_,λb hb z=>?_,I.stack,I.stkFree⟩,rfl,I.bare,Un.kept hk,⟨m1,hn,λi y v e1 e2 e3=>?_⟩,λx c e=>?_,I.hok.fresh (ψm _),λx c e=>I.freeC x c (hsub x c e),(by intro p hp;cases hp),I.hok.kept hk,?_⟩
 ·have look:∀k,(relabel scope X.env).names.lookup x=some k→k=.cell∨k=.free→∃c,cl.lookup x=some c:=λk q hk=>by
   rcases zc6 q with ⟨n1,n2⟩ | ⟨_,n2 | n2⟩
   ·rcases hk with r | r
    ·exact absurd r n1
    ·exact hfr (x,k) (ψF n2) r
   ·exact absurd rfl (B.nocell _ (ψF n2))
   ·exact hfr (x,.free) (ψF n2) rfl
  rcases hx with q | q
  ·exact look _ q (.inl rfl)
  ·exact look _ q (.inr rfl)
 ·rcases(hf b hb).2.2.2.1 with q | q
  ·exact ok.noex b o e q
  ·exact absurd (ψp (Heap.lt_size e) (ψd1 ok.bsz q)) (ψx1 _)
 ·rcases List.mem_cons.mp (I.stkSub b z) with q | q
  ·exact(hf b hb).2.1 q
  ·exact(hf b hb).2.2.1 q
 ·have e2':(cap[i]?).map (λo=>o.bind λj=>(σ[j]?).join)=some (some v):=by rw[← ψt];exact e2
  obtain⟨o,ho,eo⟩:=Option.map_eq_some_iff.mp e2'
  obtain⟨j,rfl,ej⟩:=Option.bind_eq_some_iff.mp eo
  have ej':σ[j]?=some (some v):=by
   cases q:σ[j]? with
   | none=>rw[q] at ej;cases ej
   | some z=>rw[q] at ej;cases ej;rfl
  obtain⟨c1,c2⟩:=B.cap i y j e1 ho
  have vis:=B.free (y,.free) (ψF c2) rfl
  obtain⟨m,_,hl⟩:=I.loc
  obtain⟨u,r,lk⟩:=hl j y v c1 ej' (.inr vis)
  obtain⟨c',ec⟩:=hfr (y,.free) (ψF c2) rfl
  have ec2:=hsub _ _ ec
  rcases lk with ⟨kl,_⟩ | ⟨_,c,e,z⟩
  ·have kl':X.env.scope.names.lookup y=some .local:=kl
   rcases vis with q | q
   ·have q':X.env.scope.names.lookup y=some .cell:=q
    rw[kl'] at q';cases q'
   ·have q':X.env.scope.names.lookup y=some .free:=q
    rw[kl'] at q';cases q'
  ·have ecc:X.env.cells.lookup y=some c':=ec2
   rw[e] at ecc
   cases ecc
   refine⟨u,r,.inr ⟨?_,_,ec,?_⟩⟩
   ·rcases e3 with q | q | q
    ·rcases zc6 q with ⟨_,n2⟩ | ⟨n1,_⟩
     ·rw[c2] at n2;cases n2
     ·cases n1
    ·exact .inl q
    ·exact .inr q
   ·obtain⟨o,ho,hd⟩:=z
    exact⟨o,hk _ _ ho,hd⟩
 ·obtain⟨v,o,ho,hd⟩:=I.cell x c (hsub x c e)
  exact⟨v,o,hk _ _ ho,hd⟩
 ·show(ztZ cap σ).length=Nc.length
  rw[ztZ,ψb,B.len]
theorem zr5{Nc:List Str}{scope:Scope}{cl:List (Str×Addr)}{fp:List Addr}{σc:St}{Hc:Hp}{s':Shared}{h':Heap}(I:Inv X pins σ H s)(hf:∀b∈fp,zmA X pins H b)(J:Inv (X.blk Nc scope cl s H fp) [] σc Hc s')
  (hs:Heap.SameBut s.heap.objs.size s'.heap h'):Inv X pins σ Hc { s' with heap:=h' }:=by
 have ne:∀b o,s.heap.get? b=some o→b≠s.heap.objs.size:=λb o e=>ψs (Heap.lt_size e)
 have u:=J.base
 refine I.call' (ch:=fp) J.os ⟨λb o e n hb hx=>(hs.2 b (ne b o e)).trans (u.keep b o e n hb hx),λb o e n hb hx=>?_,u.free,λb o e hx=>?_,u.tups,u.frzs,u.tbls⟩ (λb ob e=>?_) J.bare λb hb=>⟨(hf b hb).2.2.2.1,(hf b hb).2.1,(hf b hb).2.2.2.2.1,(hf b hb).2.2.2.2.2⟩
 ·obtain⟨sl,q⟩:=u.slot b o e n hb hx
  exact⟨sl,(hs.2 b (ne b o e)).trans q⟩
 ·obtain⟨o',q⟩:=u.there b o e hx
  exact⟨o',(hs.2 b (ne b o e)).trans q⟩
 ·have hC:Hc s.heap.objs.size=none:=J.free
  refine(J.hok b ob e).stay (λc w' hc q=>(hs.2 c ?_).trans q) (λ_ q=>q) λ_ _ q=>q
  rintro rfl
  rcases hc with z | hc
  ·rw[← z,hC] at e;cases e
  ·rw[hC] at hc;cases hc
end
theorem Inv.turns{X:Cx}{pins:List (Addr×Obj)}{σ:St}{H:Hp}{s:Shared}{h':Heap}{t':Nat}{ch:List Addr}(I:Inv X pins σ H s)(k:∀b o,b∉ch→s.heap.get? b=some o→h'.get? b=some o)(hf:∀b∈ch,zmA X pins H b):Inv X pins σ H { s with heap:=h',toks:=t' }:=by
 refine I.call (g':=s.gens) (d':=s.drawn) (ch:=ch) ⟨λb o e _ _ hx=>k b o hx e,λb o e _ _ hx=>⟨o.slots,k b o hx e⟩,λ_ _ _ n _=>n,λb o e hx=>⟨o,k b o hx e⟩,λ_ _ q=>q,λ_ _ _ q=>q,λ_ ps q=>⟨#[],by rw[q];simp⟩⟩ (λb u e=>?_) I.bare
  λb hb=>⟨(hf b hb).2.2.2.1,(hf b hb).2.1,(hf b hb).2.2.2.2.1,(hf b hb).2.2.2.2.2⟩
 refine(I.hok b u e).stay (λc v hc q=>k c v (λz=>?_) q) (λ_ q=>q) λ_ _ q=>q
 have n:=(hf c z).1
 rcases hc with r | r
 ·rw[r,e] at n;cases n
 ·rw[r] at n;cases n
theorem znh{X:Cx}{pins:List (Addr×Obj)}{s:Shared}{σ:St}{H:Hp}{Q:VK}{sc:Scope}{N Nc:List Str}{cap:List (Option Nat)}{elt tg iter:Expr}{ifs:List Expr}{scope:Scope}{pos pos':Pos}{wi:TI}{g:TG}{tt:TT}{te:TE}{use:Option (Value→Sem Unit)}{QQ:Value→Shared→Prop}
  (hc:X.calm=true) (hsc:X.env.scope=sc) (hN:X.N=N) (B:zqe sc N Nc cap scope) (hi:PI X tg iter wi)
  (hg:∀cl s H fp,PG (X.blk Nc scope cl s H fp) tg g) (ht:∀cl s H fp,PTs (X.blk Nc scope cl s H fp) ifs tt) (he:∀cl s H fp,PE (X.blk Nc scope cl s H fp) elt te)
  (hs:∀x,foldedSetIterable iter X.env x=pure x) (I:Inv X pins σ H s) (h:zb3 wi g tt te cap σ H Q)
  (fin:∀(s3:Shared) (H3:Hp) (cl:List (Str×Addr)) (fp:List Addr) (D:Addr) (σc:St) (Hc:Hp) (s6:Shared),Inv X pins σ H3 s3→(∀b∈fp,zmA X pins H3 b)→Inv (X.blk Nc scope cl s3 H3 fp) [] σc Hc s6→Q (.ref D) Hc→compPost (model X.prog X.w) X.A X.xe use QQ (.ref D) s3.heap.objs.size (.ok .next) s6) :
  wpAny (model X.prog X.w) X.A (comprehension (.ListComp elt [⟨tg,iter,ifs,0⟩] scope pos) scope X.env pos' (newList []) false (eval iter X.env) use) QQ X.xe s:=by
 subst hsc hN
 obtain⟨cl,hclos,hsub,hfr⟩:=zkr (scope:=scope) (env:=X.env) λy hy hf=>I.ok.has y.1 (B.free y hy hf)
 refine wpAny_comprehension_free (use:=use) rfl hs hclos B.kind (λy hy hl=>by rw[B.once y hy,hl]) (thn (hi pins s σ H _ I h) λv s1 h1=>thn h1 λitv s2 h2=>?_)
 obtain⟨it,fp,tn,J,H2,rfl,I2,T,st2,f2,hw⟩:=h2
 refine wpAny_newObj_type ?_
 have hfree:H2 s2.heap.objs.size=none:=I2.hok.fresh (ψm _)
 have I3:=I2.laid (t':=s2.toks) (o:=.lst []) (λb u e=>Heap.get?_push_of_some { cls:=.type "list",dict:=none,data:=.seq ([]:List Value).toArray } e) (ψm _) ⟨by decide,[],0,.nil,Heap.get?_push_size _ rfl⟩
 obtain⟨W,⟨m0,w0⟩,zp5⟩:=hw _ hfree
 have keep23:∀b o,s2.heap.get? b=some o→(s2.heap.push { cls:=.type "list",dict:=none,data:=.seq ([]:List Value).toArray }).get? b=some o:=λb o e=>Heap.get?_push_of_some _ e
 have hin:∀b∈fp,b<s2.heap.objs.size:=λb hb=>let ⟨o,e,_⟩:=T.obj 0 _ st2 b hb;Heap.lt_size e
 have f3:∀b∈fp,zmA X pins (upd H2 s2.heap.objs.size (.lst [])) b:=λb hb=>⟨by rw[zbg (ψs (hin b hb))];exact(f2 b hb).1,(f2 b hb).2⟩
 have st3:=T.keep 0 _ _ st2 λb _ o e=>keep23 b o e
 have hin3:∀b∈fp,b<(s2.heap.push { cls:=.type "list",dict:=none,data:=.seq ([]:List Value).toArray }).objs.size:=λb hb=>let ⟨o,e,_⟩:=T.obj 0 _ st3 b hb;Heap.lt_size e
 clear keep23 hin
 generalize s2.heap.push { cls:=.type "list",dict:=none,data:=.seq ([]:List Value).toArray }=h3 at I3 st3 hin3 ⊢
 generalize upd H2 s2.heap.objs.size (.lst [])=H3 at I3 f3 w0
 generalize s2.heap.objs.size=D at hfree w0 zp5 ⊢
 refine wpAny_newFunctionEnv B.nocell (by intro y hy;cases hy) (λh1 hns hsb=>?_) B.kind
 have keep:∀b o,h3.get? b=some o→h1.get? b=some o:=λb o e=>(hsb.2 b (ψs (Heap.lt_size e))).trans (Heap.get?_push_of_some _ e)
 have I4:=zwa (tk:=s2.toks+([]:List (Str×Value)).length) I3 B hsub hfr f3 hin3 keep hns
 have st4:=T.keep 0 _ _ st3 λb _ o e=>keep b o e
 have stat:∀{H':Hp},(∀b∈fp,H' b=none)→∀b∈fp,zmA (X.blk Nc scope cl { s2 with heap:=h3,toks:=s2.toks } H3 fp) [] H' b:=λhn b hb =>
  ⟨hn b hb,ψs (hin3 b hb),λz=>by
   rcases List.mem_cons.mp (I3.stkSub b z) with q | q
   ·exact(f3 b hb).2.1 q
   ·exact(f3 b hb).2.2.1 q,.inl hb,λx c e=>(f3 b hb).2.2.2.2.1 x c (hsub x c e),by intro p hp;cases hp⟩
 have hcb:(X.blk Nc scope cl { s2 with heap:=h3,toks:=s2.toks } H3 fp).calm=true:=hc
 have loop:codeAny (model X.prog X.w) X.A (.compLoop (.ListComp elt [⟨tg,iter,ifs,0⟩] scope pos) 0 (.ref it) (.ref D) (compEnvC scope cl h3.objs.size X.env)) (compPost (model X.prog X.w) X.A X.xe use QQ (.ref D) h3.objs.size) { s2 with heap:=h1,toks:=s2.toks+([]:List (Str×Value)).length }:=by
  refine ziv (λn s'=>∃i σ' H',Inv (X.blk Nc scope cl { s2 with heap:=h3,toks:=s2.toks } H3 fp) [] σ' H' s'∧tn i s'.heap∧(∀b∈fp,H' b=none)∧W i n σ' H') rfl ?_ m0 ⟨0,_,H3,I4,st4,λb hb=>(f3 b hb).1,w0⟩
  rintro n s5 ⟨i,σ5,H5,I5,st5,fr5,w5⟩
  rcases zp5 i n σ5 H5 w5 with ⟨stop,qn⟩ | ⟨go,N',hN',step⟩
  ·refine thn (T.done (X.blk Nc scope cl { s2 with heap:=h3,toks:=s2.toks } H3 fp) rfl rfl rfl hcb i [] s5 σ5 H5 _ I5 (stat fr5) st5 stop) λr s6 hQ'=>?_
   obtain⟨hr,I6⟩:=hQ'
   subst hr
   exact fin { s2 with heap:=h3,toks:=s2.toks } H3 cl fp D σ5 H5 s6 I3 f3 I6 qn
  ·refine thn (T.item (X.blk Nc scope cl { s2 with heap:=h3,toks:=s2.toks } H3 fp) rfl rfl rfl hcb i [] s5 σ5 H5 _ I5 (stat fr5) st5 go) λr s6 hQ'=>?_
   obtain⟨u,hr,h6⟩:=hQ'
   subst hr
   refine thn h6 λ_ s7 hQ'=>?_
   obtain⟨x,H7,I7,r7,y7,st7,fr7⟩:=hQ'
   have I7':=I7.pinned (stat fr7) (T.obj _ _ st7)
   refine wpAny_mono (hg cl _ H3 fp _ s7 σ5 H7 x u _ I7' r7 (step x H7 y7)) (λ_ s8 hQ'=>?_) λ_ _ z=>z.elim
   obtain⟨σ8,H8,I8,q8⟩:=hQ'
   have again:∀{H9:Hp} {s9:Shared} {m:Nat},Inv (X.blk Nc scope cl { s2 with heap:=h3,toks:=s2.toks } H3 fp) ([]++zks fp s7.heap) σ8 H9 s9→m<n→W (i+1) m σ8 H9→∃m,m<n∧∃i σ' H',Inv (X.blk Nc scope cl { s2 with heap:=h3,toks:=s2.toks } H3 fp) [] σ' H' s9∧tn i s9.heap∧(∀b∈fp,H' b=none)∧W i m σ' H':=fun {H9 s9 m} I9 hm w9=>by
    refine⟨m,hm,i+1,σ8,H9,I9.unpinned,T.keep _ _ _ st7 λb hb o e=>(I9.pin (b,o) (ψB _ (ψB _ (zeh hb e)))).1,λb hb=>?_,w9⟩
    obtain⟨o,e,d⟩:=T.obj _ _ st7 b hb
    exact(I9.pin (b,o) (ψB _ (ψB _ (zeh hb e)))).2.1
   refine wpAny_mono (ht cl _ H3 fp _ s8 σ8 H8 _ I8 q8) (λb s9 hQ'=>?_) λ_ _ z=>z.elim
   obtain⟨H9,I9,q9⟩:=hQ'
   cases b with
   | false =>
    rw[if_neg (by decide)] at q9
    obtain⟨m',hm,w9⟩:=hN' _ _ q9
    exact again I9 hm w9
   | true =>
    rw[if_pos rfl] at q9
    refine wpAny_mono (he cl _ H3 fp _ s9 σ8 H9 _ I9 q9) (λu s10 hQ'=>?_) λ_ _ z=>z.elim
    obtain⟨y,H10,I10,r10,q10⟩:=hQ'
    refine wpAny_mono (ze7 (X:=X.blk Nc scope cl { s2 with heap:=h3,toks:=s2.toks } H3 fp) _ s10 σ8 H10 (.ref D) [y] (.ref D) [u] _ I10 rfl (.cons r10 .nil) q10) (λ_ s11 hQ'=>?_) λ_ _ z=>z.elim
    obtain⟨_,H11,I11,_,q11⟩:=hQ'
    obtain⟨m',hm,w11⟩:=hN' _ _ q11
    exact again I11 hm w11
 exact codeAny_compStart_list loop (T.self _ 0 _ _ _ st4 loop)
theorem zbi{X:Cx}{sc:Scope}{N Nc:List Str}{cap:List (Option Nat)}{elt tg iter:Expr}{ifs:List Expr}{scope:Scope}{pos:Pos}{wi:TI}{g:TG}{tt:TT}{te:TE}(hc:X.calm=true)(hsc:X.env.scope=sc)(hN:X.N=N)(B:zqe sc N Nc cap scope)(hi:PI X tg iter wi)
  (hg:∀cl s H fp,PG (X.blk Nc scope cl s H fp) tg g) (ht:∀cl s H fp,PTs (X.blk Nc scope cl s H fp) ifs tt) (he:∀cl s H fp,PE (X.blk Nc scope cl s H fp) elt te)
  (hs:∀x,foldedSetIterable iter X.env x=pure x:=by intro _;rfl):PE X (.ListComp elt [⟨tg,iter,ifs,0⟩] scope pos) (zb3 wi g tt te cap):=by
 intro pins s σ H Q I h
 rw[eval_ListComp]
 refine znh hc hsc hN B hi hg ht he hs I h λs3 H3 cl fp D σc Hc s6 I3 f3 I6 q=>?_
 obtain⟨m,hn,_⟩:=id I6.loc
 exact⟨m,hn,λh' hs'=>⟨.ref D,Hc,zr5 I3 f3 I6 hs',rfl,q⟩⟩
theorem zcO{X:Cx}{i:Nat}{y:Str}{py spos:Pos}{sc:Scope}{N Nc:List Str}{cap:List (Option Nat)}{elt tg iter:Expr}{ifs:List Expr}{scope:Scope}{pos:Pos}{wi:TI}{g:TG}{tt:TT}{te:TE}(hnd:X.N.Nodup)(hix:X.N[i]?=some y)(hl:X.env.scope.names.lookup y=some .local)
  (hc:X.calm=true) (hsc:X.env.scope=sc) (hN:X.N=N) (B:zqe sc N Nc cap scope) (hi:PI X tg iter wi)
  (hg:∀cl s H fp,PG (X.blk Nc scope cl s H fp) tg g) (ht:∀cl s H fp,PTs (X.blk Nc scope cl s H fp) ifs tt) (he:∀cl s H fp,PE (X.blk Nc scope cl s H fp) elt te)
  (hsw:swapsWith (.ListComp elt [⟨tg,iter,ifs,0⟩] scope pos) (some (.Name y py)) spos.line X.env=pure true:=by rfl)
  (hs:∀x,foldedSetIterable iter X.env x=pure x:=by intro _;rfl):PS X (.Assign [.Name y py] (.ListComp elt [⟨tg,iter,ifs,0⟩] scope pos) spos) (zbO (zb3 wi g tt te cap) (zam i)):=by
 intro pins s σ H D0 I h
 rw[exec_Assign_Name_used _ _ _ _ hsw]
 refine wpAny_bind (wpAny_standAt (wpAny_bind (wpAny_bind (thn (znh (use:=some (assign (.Name y py) X.env)) (QQ:=λ_ s'=>SP X pins D0 .next s') hc hsc hN B hi hg ht he hs I h λs3 H3 cl fp D σc Hc s6 I3 f3 I6 q=>?_) λ_ s' hq=>wpAny_pure (wpAny_pure hq)))))
 have I6x:Inv X pins σ Hc s6:=zr5 I3 f3 I6 (Heap.SameBut.refl ..)
 obtain⟨m,hn,_⟩:=id I6.loc
 have hC:Hc s3.heap.objs.size=none:=I6.free
 have fpC:=I3.fpOk (b:=s3.heap.objs.size) (ψm _) hC
 refine wpAny_assign_Name (zji I6x hnd hix (.inl hl) (v:=.ref D) rfl (λs7 I7 ch=>?_) (.inr hl))
 obtain⟨a,same,ha⟩:=ch
 have nC:s3.heap.objs.size≠a:=by
  rcases ha with r | r
  ·rw[r];exact fpC.2.1
  ·exact(fpC.2.2.2.2.1 _ _ r).symm
 refine⟨m,hn.sameBut same nC,λh' hs'=>⟨_,_,I7.turns (t':=s7.toks) (ch:=[s3.heap.objs.size]) (λb o hb e=>(hs'.2 b (by simpa using hb)).trans e) λb hb=>?_,q⟩⟩
 have e:b=s3.heap.objs.size:=by simpa using hb
 rw[e]
 exact fpC
theorem zth{K:ψa}{a:Addr}{xs:List V}{g:TG}{tt:TT}{te:TE}{σ:St}{H:Hp}{D:Addr}{Q:VK}(Pv:Nat→List V→St→Hp→Prop)(h0:Pv 0 [] σ (upd H D (.lst [])))(hl:∀i ys σ H,i≤xs.length→Pv i ys σ H→SqL K H a xs)
  (hs:∀i x ys σ H,xs[i]?=some x→H D=some (.lst ys)→Pv i ys σ H→g x σ H λσ2 H2=>tt σ2 H2 λb H3=>if b=true then te σ2 H3 λy H4=>zcA (.ref D) [y] H4 λ_ H5=>∃ys,H5 D=some (.lst ys)∧Pv (i+1) ys σ2 H5 else ∃ys,H3 D=some (.lst ys)∧Pv (i+1) ys σ2 H3)
  (hd:∀ys σ H,H D=some (.lst ys)→Pv xs.length ys σ H→Q (.ref D) H) :
  ∃W:Nat→Nat→St→Hp→Prop,(∃m,W 0 m σ (upd H D (.lst [])))∧∀i m σc Hc,W i m σc Hc →
   ((Itl K a).stop i Hc∧Q (.ref D) Hc)∨((Itl K a).go i Hc∧∃N:St→Hp→Prop,(∀σ' H',N σ' H'→∃m',m'<m∧W (i+1) m' σ' H')∧∀x H',(Itl K a).yld i Hc x H'→g x σc H' λσ2 H2=>tt σ2 H2 λb H3=>if b=true then te σ2 H3 λy H4=>zcA (.ref D) [y] H4 λ_ H5=>N σ2 H5 else N σ2 H3):=by
 refine⟨λi m σ H=>m=xs.length - i∧i≤xs.length∧∃ys,H D=some (.lst ys)∧Pv i ys σ H,⟨_,rfl,ψu1 _,[],zai,h0⟩,?_⟩
 rintro i m σ H ⟨rfl,hi,ys,hD,pv⟩
 have q:=hl i ys σ H hi pv
 by_cases hlt:i<xs.length
 ·refine .inr ⟨⟨xs,xs[i],q,by simp[hlt]⟩,λσ H=>∃ys,H D=some (.lst ys)∧Pv (i+1) ys σ H,λσ' H' p'=>⟨_,by (first|lia|omega),rfl,hlt,p'⟩,λx H' yl=>?_⟩
  obtain⟨e,yl⟩:=yl
  subst e
  exact hs i x ys σ _ (yl xs q) hD pv
 ·have e:i=xs.length:=by (first|lia|omega)
  subst e
  exact .inl ⟨⟨xs,q,ψm _⟩,hd ys σ H hD pv⟩
theorem zqd{lo:Int}{n:Nat}{g:TG}{tt:TT}{te:TE}{σ:St}{H:Hp}{D:Addr}{Q:VK}(Pv:Nat→List V→St→Hp→Prop)(h0:Pv 0 [] σ (upd H D (.lst [])))
  (hs:∀i ys σ H,i<n→H D=some (.lst ys)→Pv i ys σ H→g (.int (lo+i)) σ H λσ2 H2=>tt σ2 H2 λb H3=>if b=true then te σ2 H3 λy H4=>zcA (.ref D) [y] H4 λ_ H5=>∃ys,H5 D=some (.lst ys)∧Pv (i+1) ys σ2 H5 else ∃ys,H3 D=some (.lst ys)∧Pv (i+1) ys σ2 H3)
  (hd:∀ys σ H,H D=some (.lst ys)→Pv n ys σ H→Q (.ref D) H) :
  ∃W:Nat→Nat→St→Hp→Prop,(∃m,W 0 m σ (upd H D (.lst [])))∧∀i m σc Hc,W i m σc Hc →
   ((Itr lo n).stop i Hc∧Q (.ref D) Hc)∨((Itr lo n).go i Hc∧∃N:St→Hp→Prop,(∀σ' H',N σ' H'→∃m',m'<m∧W (i+1) m' σ' H')∧∀x H',(Itr lo n).yld i Hc x H'→g x σc H' λσ2 H2=>tt σ2 H2 λb H3=>if b=true then te σ2 H3 λy H4=>zcA (.ref D) [y] H4 λ_ H5=>N σ2 H5 else N σ2 H3):=by
 refine⟨λi m σ H=>m=n - i∧i≤n∧∃ys,H D=some (.lst ys)∧Pv i ys σ H,⟨_,rfl,ψu1 _,[],zai,h0⟩,?_⟩
 rintro i m σ H ⟨rfl,hi,ys,hD,pv⟩
 by_cases hlt:i<n
 ·refine .inr ⟨hlt,λσ H=>∃ys,H D=some (.lst ys)∧Pv (i+1) ys σ H,λσ' H' p'=>⟨_,by (first|lia|omega),rfl,hlt,p'⟩,λx H' yl=>?_⟩
  obtain⟨e,yl⟩:=yl
  subst e yl
  exact hs i ys σ _ hlt hD pv
 ·have e:i=n:=by (first|lia|omega)
  subst e
  exact .inl ⟨ψm _,hd ys σ H hD pv⟩
end L2
namespace L2
open PySem PySem.Spec PyProof.Rows
theorem zr7(bs:List Bool):(ψF1 bs.length).all (λi=>bs.getD i false)=bs.all id:=by
 rw[ψR1,ψz1,ψz1]
 constructor
 ·intro h x hx
  obtain⟨i,hi,e⟩:=List.getElem_of_mem hx
  have:=h i (List.mem_range.mpr hi)
  rw[ψv,ψc hi] at this
  rw[← e]
  exact this
 ·intro h i hi
  have hi:=List.mem_range.mp hi
  rw[ψv,ψc hi]
  exact h _ (ψs1 hi)
def zv1(K:ψa):List V→Hp→VK→Prop:=λxs H Q=>∃(p:Addr) (bs:List Bool),xs=[.ref p]∧SqL K H p (bs.map V.bl)∧Q (.bl (bs.all id)) H
def zmO(K:ψa):List V→Hp→VK→Prop:=λxs H Q=>∃(p:Addr) (ns:List Int),xs=[.ref p]∧SqL K H p (ns.map V.int)∧Q (.int ns.sum) H
theorem zyx{bs:List Bool}{its:List Value}{i:Nat}{v:Value}(r:zcU (bs.map V.bl) its)(e:its.toArray[i]?=some v):v=.bool (bs.getD i false):=by
 have l:=r.length
 rw[ψb] at l
 have e':its[i]?=some v:=by simpa using e
 have hi:i<bs.length:=by rw[l];exact(List.getElem?_eq_some_iff.mp e').1
 obtain⟨u,hu,ru⟩:=r.get (i:=i) (x:=.bl bs[i]) (by rw[ψt,ψc hi];rfl)
 rw[e'] at hu
 cases hu
 cases ru
 rw[ψv,ψc hi]
 rfl
theorem zut{P:Program}{w:World}{A:Around}{bs:List Bool}{its:List Value}(r:zcU (bs.map V.bl) its):TruthOf P w A (λi v=>its.toArray[i]?=some v) λi=>bs.getD i false:=λi v s Q E hP hQ=>by
 rw[zyx r hP]
 exact wpAny_pure hQ
section
variable {X:Cx}
theorem zgt(hc:X.calm=true):ziL X (.builtin "all") (zv1 X.K):=by
 intro pins s σ H xs us Q I r h
 obtain⟨p,bs,rfl,hl,q⟩:=h
 obtain⟨u,rfl,ru⟩:=r.one
 cases ru
 obtain⟨its,rv,pl,_⟩:=I.list hl
 have l:=rv.length
 rw[ψb] at l
 obtain⟨o,n,e,_⟩:=id pl
 have hne:p≠s.heap.objs.size:=ψs (Heap.lt_size e)
 refine call_all_walk (wpAny_pyIter_list pl.isList ?_)
 refine⟨s.heap.objs.size,_,_,_,_,_,λi=>bs.getD i false,rfl,Walks.list (A:=X.A.in1) (I.ok.hd hc) _ p hne its.toArray,⟨⟨_,Heap.get?_push_size _ rfl,rfl,rfl⟩,?_⟩,zut rv,λh' tk hk=>⟨.bl _,H,I.kept λb u eb=>?_,rfl,?_⟩⟩
 ·exact pl.isList.at λo e=>Heap.get?_push_of_some _ e
 ·exact hk b u (λz=>ψs (Heap.lt_size eb) (by simpa using z)) (Heap.get?_push_of_some _ eb)
 ·rw[ψg,← l,zr7]
  exact q
theorem zoe{ns:List Int}{its:List Value}{i:Nat}{v:Value}(r:zcU (ns.map V.int) its)(e:its.toArray[i]?=some v):∃t,v=.int (ns.getD i 0) t:=by
 have l:=r.length
 rw[ψb] at l
 have e':its[i]?=some v:=by simpa using e
 have hi:i<ns.length:=by rw[l];exact(List.getElem?_eq_some_iff.mp e').1
 obtain⟨u,hu,ru⟩:=r.get (i:=i) (x:=.int ns[i]) (by rw[ψt,ψc hi];rfl)
 rw[e'] at hu
 cases hu
 obtain⟨t,rfl⟩:=ru
 refine⟨t,?_⟩
 rw[ψv,ψc hi]
 rfl
theorem zkC(ns:List Int):∀k,k≤ns.length→preSum (λi=>ns.getD i 0) k=(ns.take k).sum
 | 0,_=>by simp[preSum]
 | k+1,h=>by
  rw[preSum,zkC ns k (by (first|lia|omega)),ψx,ψc (by (first|lia|omega)),List.sum_append,ψv,ψc (by (first|lia|omega))]
  simp
theorem zcr(hc:X.calm=true):ziL X (.builtin "sum") (zmO X.K):=by
 intro pins s σ H xs us Q I r h
 obtain⟨p,ns,rfl,hl,q⟩:=h
 obtain⟨u,rfl,ru⟩:=r.one
 cases ru
 obtain⟨its,rv,pl,_⟩:=I.list hl
 have l:=rv.length
 rw[ψb] at l
 obtain⟨o,n,e,_⟩:=id pl
 have hlt:=Heap.lt_size e
 have hne:p≠s.heap.objs.size:=ψs hlt
 refine call_sum_walkG (wpAny_pyIter_list pl.isList ?_)
 refine⟨s.heap.objs.size,_,_,_,_,_,λi=>ns.getD i 0,rfl,Walks.list (A:=X.A.in1) (I.ok.hd hc) _ p hne its.toArray,⟨⟨_,Heap.get?_push_size _ rfl,rfl,rfl⟩,?_⟩,λb hb=>?_,λi v hv=>zoe rv hv,λh' tk t' hk=>⟨.int _,H,I.kept λb u eb=>?_,⟨t',rfl⟩,?_⟩⟩
 ·exact pl.isList.at λo e=>Heap.get?_push_of_some _ e
 ·rw[Heap.size_push]
  rcases List.mem_cons.mp hb with z | z
  ·rw[z];exact ψJ1 _
  ·have z':b=p:=by simpa using z
   rw[z'];exact ψT1 hlt
 ·exact hk b u (λz=>ψs (Heap.lt_size eb) (by simpa using z)) (Heap.get?_push_of_some _ eb)
 ·rw[ψg,← l,zkC _ _ (ψm _),ψH]
  exact q
end
end L2
namespace L2
open PySem PySem.Spec PyProof.Rows
def Itz(K:ψa)(p q:Addr):It where
 go:=λi H=>∃xs ys a b,SqL K H p xs∧SqL K H q ys∧xs[i]?=some a∧ys[i]?=some b
 yld:=λi H x H'=>∃t a b,x=.ref t∧H t=none∧H'=upd H t (.tup [a,b])∧(∀xs,SqL K H p xs→xs[i]?=some a)∧∀ys,SqL K H q ys→ys[i]?=some b
 stop:=λi H=>∃xs ys,SqL K H p xs∧SqL K H q ys∧i=min xs.length ys.length
def tnZ(z TI TO i1 i2 p q:Addr)(i:Nat)(h:Heap):Prop:=IsZip h z TI TO .none∧IsPair h TI (.ref i1) (.ref i2)∧(∃a b,IsPair h TO a b)∧h.IsListIter i1 p i∧h.IsListIter i2 q i
theorem ztT{z TI TO i1 i2 p q:Addr}{i:Nat}{h h':Heap}(st:tnZ z TI TO i1 i2 p q i h)(k:∀b∈[z,TI,TO,i1,i2],∀o,h.get? b=some o→h'.get? b=some o):tnZ z TI TO i1 i2 p q i h':=by
 obtain⟨a1,a2,⟨x,y,a3⟩,a4,a5⟩:=st
 exact⟨k z (by simp) _ a1,k TI (by simp) _ a2,⟨x,y,k TO (by simp) _ a3⟩,a4.at λo e=>k i1 (by simp) o e,a5.at λo e=>k i2 (by simp) o e⟩
theorem zcq{o:Obj}{vs:Array Value}(h:o.data=.fields vs):∀v,o.data≠.cell v:=λv z=>by rw[h] at z;cases z
theorem ztV{P:Program}{w:World}{K:ψa}{elts:List Expr}{k:Nat}{pos:Pos}{z TI TO i1 i2 p q:Addr}(D:ZipApart z TI TO i1 i2 p q):zxX P w K (.Tuple elts k pos) (Itz K p q) [z,TI,TO,i1,i2] z (tnZ z TI TO i1 i2 p q) where
 mem:=by simp
 obj:=λi h st b hb=>by
  obtain⟨a1,a2,⟨x,y,a3⟩,⟨o4,a4,_,d4⟩,⟨o5,a5,_,d5⟩⟩:=st
  simp only[ψc1,ψR,or_false] at hb
  rcases hb with rfl | rfl | rfl | rfl | rfl
  ·exact⟨_,a1,zcq rfl⟩
  ·exact⟨_,a2,λv z=>nomatch (show Data.seq _ _=Data.cell v from z)⟩
  ·exact⟨_,a3,λv z=>nomatch (show Data.seq _ _=Data.cell v from z)⟩
  ·exact⟨_,a4,zcq d4⟩
  ·exact⟨_,a5,zcq d5⟩
 keep:=λi h h' st kk=>ztT st kk
 item:=by
  intro X hP hw hK hc i pins s σ H E I hf st hg
  subst hP hw hK
  obtain⟨xs,ys,a,b,hx,hy,ea,eb⟩:=hg
  obtain⟨its1,r1,pl1,z1⟩:=I.list hx
  obtain⟨its2,r2,pl2,z2⟩:=I.list hy
  obtain⟨ua,eua,rua⟩:=r1.get ea
  obtain⟨ub,eub,rub⟩:=r2.get eb
  obtain⟨s1,s2,s3,s4,s5⟩:=st
  have W:=WalksT.zip2 (prog:=X.prog) (w:=X.w) (A:=X.A) (I.ok.hd hc) z TI TO i1 i2 p q D its1.toArray its2.toArray
  have hi:i<min its1.toArray.size its2.toArray.size:=by
   have h1:=(List.getElem?_eq_some_iff.mp eua).1
   have h2:=(List.getElem?_eq_some_iff.mp eub).1
   simp only[ψg]
   (first|lia|omega)
  refine W.item i s _ _ hi ⟨s1,s2,s3,s4,s5,pl1.isList,pl2.isList⟩ λT vals h' tk hp hT hTup mid kk=>⟨_,rfl,?_⟩
  obtain⟨u,v,e1,e2,rfl⟩:=hp
  have e1':u=ua:=by
   have:its1[i]?=some u:=by simpa using e1
   rw[eua] at this;cases this;rfl
  have e2':v=ub:=by
   have:its2[i]?=some v:=by simpa using e2
   rw[eub] at this;cases this;rfl
  subst e1' e2'
  refine W.go elts k pos i T { s with heap:=h',toks:=tk } _ _ mid λh2 st2 kk2=>?_
  obtain⟨t1,t2,t3,t4,t5,_,_⟩:=st2
  have sub:∀b∈[z,TO,i1,i2],b∈[z,TI,TO,i1,i2]:=λb hb=>by
   simp only[ψc1,ψR,or_false] at hb ⊢
   rcases hb with h | h | h | h <;> simp[h]
  have I1:Inv X pins σ H { s with heap:=h2,toks:=tk }:=I.turns (ch:=[z,TO,i1,i2]) (λb o hb e=>kk2 b o hb (kk b o hb e)) λb hb=>hf b (sub b hb)
  have nT:H T=none:=I.hok.fresh hT
  have I2:=I1.track (a:=T) (o:=.tup [a,b]) nT (Heap.get?_none_of_le (ψd1 I.sz hT)) (ψM1 (ψp I.lt hT)) (λx c e=>by
   obtain⟨v,q⟩:=I.cell x c e
   exact ψs (ψp q.lt hT)) (λp hp=>ψs (ψp (Heap.lt_size (I.pin p hp).1) hT)) (by
   refine⟨by show 2≤sizeLine;decide,[u,v],.cons rua (.cons rub .nil),?_⟩
   obtain⟨o,ho,hcl,hd⟩:=hTup
   exact⟨o,kk2 T o (W.apart i T h' mid) ho,hcl,hd⟩)
  refine⟨.ref T,_,I2,rfl,⟨T,a,b,rfl,nT,rfl,λxs' h'=>?_,λys' h'=>?_⟩,⟨t1,t2,t3,t4,t5⟩,λb hb=>?_⟩
  ·rw[I.list_inj h' hx];exact ea
  ·rw[I.list_inj h' hy];exact eb
  ·have hb2:∃o,s.heap.get? b=some o:=by
    obtain⟨x3,y3,s3⟩:=s3
    obtain⟨o4,s4,_⟩:=s4
    obtain⟨o5,s5,_⟩:=s5
    simp only[ψc1,ψR,or_false] at hb
    rcases hb with h | h | h | h | h <;> rw[h] <;> first | exact⟨_,s1⟩ | exact⟨_,s2⟩ | exact⟨_,s3⟩ | exact⟨_,s4⟩ | exact⟨_,s5⟩
   obtain⟨o,e⟩:=hb2
   rw[zbg (ψs (ψp (Heap.lt_size e) hT))]
   exact(hf b hb).1
 done:=by
  intro X hP hw hK hc i pins s σ H E I hf st hg
  subst hP hw hK
  obtain⟨xs,ys,hx,hy,rfl⟩:=hg
  obtain⟨its1,r1,pl1,z1⟩:=I.list hx
  obtain⟨its2,r2,pl2,z2⟩:=I.list hy
  obtain⟨s1,s2,s3,s4,s5⟩:=st
  have W:=WalksT.zip2 (prog:=X.prog) (w:=X.w) (A:=X.A) (I.ok.hd hc) z TI TO i1 i2 p q D its1.toArray its2.toArray
  have sub:∀b∈[z,TO,i1,i2],b∈[z,TI,TO,i1,i2]:=λb hb=>by
   simp only[ψc1,ψR,or_false] at hb ⊢
   rcases hb with h | h | h | h <;> simp[h]
  refine W.done s _ _ ?_ λh' tk kk=>⟨rfl,I.turns (ch:=[z,TO,i1,i2]) (λb o hb e=>kk b o hb e) λb hb=>hf b (sub b hb)⟩
  rw[ψg,ψg,← r1.length,← r2.length]
  exact⟨s1,s2,s3,s4,s5,pl1.isList,pl2.isList⟩
 self:=λA i s Q E st h=>wpAny_pyIter_zip st.1 h
def zmf(K:ψa)(ta:TA):TI:=λσ H R=>ta σ H λvs H1=>∃p q,vs=[.ref p,.ref q]∧(∃xs,SqL K H1 p xs)∧(∃ys,SqL K H1 q ys)∧R (Itz K p q) H1
theorem zeC{X:Cx}{a b:Expr}{elts:List Expr}{k:Nat}{tp p pos:Pos}{ta:TA}(hg:Gl X "zip")(hm:X.mg "zip"=none)(ha:PA X [a,b] ta)(hs:starEach [a,b] X.env=[(false,eval a X.env),(false,eval b X.env)]:=by rfl)(hs2:starEach [b] X.env=[(false,eval b X.env)]:=by rfl) :
  PI X (.Tuple elts k tp) (.Call (.Name "zip" p) [a,b] [] pos) (zmf X.K ta):=by
 intro pins s σ H R I h
 refine Call_ (zit I hg hm boot_zip (ψt1 (thn (ha pos pins s σ H _ I h) λus s1 hQ'=>?_) (by rw[hs,hs2]) (by rw[hs2];rfl)))
 obtain⟨vs,H1,I1,r1,q1⟩:=hQ'
 obtain⟨p1,p2,rfl,⟨xs,hx⟩,⟨ys,hy⟩,q⟩:=q1
 obtain⟨u,v,rfl,ru,rv⟩:=zvg r1
 cases ru
 cases rv
 obtain⟨its1,_,pl1,_⟩:=I1.list hx
 obtain⟨its2,_,pl2,_⟩:=I1.list hy
 have a1:p1<s1.heap.objs.size:=by obtain⟨_,e,_⟩:=pl1.isList;exact Heap.lt_size e
 have a2:p2<s1.heap.objs.size:=by obtain⟨_,e,_⟩:=pl2.isList;exact Heap.lt_size e
 refine call_zip_2 pl1.isList pl2.isList λh' hz hTI hTO hi1 hi2 hsz hk=>?_
 refine wpAny_pyIter_zip hz ?_
 refine⟨_,_,_,_,H1,rfl,I1.kept (t':=s1.toks) hk,ztV (zipApart_new a1 a2),⟨hz,hTI,⟨_,_,hTO⟩,hi1,hi2⟩,λb hb=>?_,q⟩
 have hb':s1.heap.objs.size≤b:=by
  simp only[ψc1,ψR,or_false] at hb
  rcases hb with h | h | h | h | h <;> rw[h] <;> first | exact ψm _ | exact Nat.le_add_right _ _
 exact I1.fpOk hb' (I1.hok.fresh hb')
theorem zv3{K:ψa}{p q:Addr}{xs ys:List V}{g:TG}{tb:TS}{D:zk9}{σ:St}{H:Hp}(Pv:Nat→St→Hp→Prop)(h0:Pv 0 σ H)(hl:∀i σ H,i≤min xs.length ys.length→Pv i σ H→SqL K H p xs∧SqL K H q ys)
  (hs:∀i x y t σ H,xs[i]?=some x→ys[i]?=some y→Pv i σ H→H t=none→g (.ref t) σ (upd H t (.tup [x,y])) λσ2 H2=>tb { D with nx:=Pv (i+1),ct:=Pv (i+1),bk:=D.nx } σ2 H2) (hd:∀σ H,Pv (min xs.length ys.length) σ H→D.nx σ H) :
  ∃W:Nat→Nat→St→Hp→Prop,(∃m,W 0 m σ H)∧∀i m σ H,W i m σ H →
   ((Itz K p q).stop i H∧D.nx σ H)∨((Itz K p q).go i H∧∃N:St→Hp→Prop,(∀σ' H',N σ' H'→∃m',m'<m∧W (i+1) m' σ' H')∧∀x H',(Itz K p q).yld i H x H'→g x σ H' λσ2 H2=>tb { D with nx:=N,ct:=N,bk:=D.nx } σ2 H2):=by
 refine⟨λi m σ H=>m=min xs.length ys.length - i∧i≤min xs.length ys.length∧Pv i σ H,⟨_,rfl,ψu1 _,h0⟩,?_⟩
 rintro i m σ H ⟨rfl,hi,pv⟩
 obtain⟨hx,hy⟩:=hl i σ H hi pv
 by_cases hlt:i<min xs.length ys.length
 ·have l1:i<xs.length:=by (first|lia|omega)
  have l2:i<ys.length:=by (first|lia|omega)
  refine .inr ⟨⟨xs,ys,xs[i],ys[i],hx,hy,by simp[l1],by simp[l2]⟩,Pv (i+1),λσ' H' p'=>⟨_,by (first|lia|omega),rfl,hlt,p'⟩,λx H' yl=>?_⟩
  obtain⟨t,a,b,rfl,ht,rfl,e1,e2⟩:=yl
  exact hs i a b t σ H (e1 xs hx) (e2 ys hy) pv ht
 ·have e:i=min xs.length ys.length:=by (first|lia|omega)
  subst e
  exact .inl ⟨⟨xs,ys,hx,hy,rfl⟩,hd σ H pv⟩
theorem zuU{K:ψa}{p q:Addr}{xs zs:List V}{g:TG}{tt:TT}{te:TE}{σ:St}{H:Hp}{D:Addr}{Q:VK}(Pv:Nat→List V→St→Hp→Prop)(h0:Pv 0 [] σ (upd H D (.lst [])))
  (hl:∀i ys σ H,i≤min xs.length zs.length→Pv i ys σ H→SqL K H p xs∧SqL K H q zs)
  (hs:∀i x z t ys σ H,xs[i]?=some x→zs[i]?=some z→H D=some (.lst ys)→Pv i ys σ H→H t=none→g (.ref t) σ (upd H t (.tup [x,z])) λσ2 H2=>tt σ2 H2 λb H3=>if b=true then te σ2 H3 λy H4=>zcA (.ref D) [y] H4 λ_ H5=>∃ys,H5 D=some (.lst ys)∧Pv (i+1) ys σ2 H5 else ∃ys,H3 D=some (.lst ys)∧Pv (i+1) ys σ2 H3)
  (hd:∀ys σ H,H D=some (.lst ys)→Pv (min xs.length zs.length) ys σ H→Q (.ref D) H) :
  ∃W:Nat→Nat→St→Hp→Prop,(∃m,W 0 m σ (upd H D (.lst [])))∧∀i m σc Hc,W i m σc Hc →
   ((Itz K p q).stop i Hc∧Q (.ref D) Hc)∨((Itz K p q).go i Hc∧∃N:St→Hp→Prop,(∀σ' H',N σ' H'→∃m',m'<m∧W (i+1) m' σ' H')∧∀x H',(Itz K p q).yld i Hc x H'→g x σc H' λσ2 H2=>tt σ2 H2 λb H3=>if b=true then te σ2 H3 λy H4=>zcA (.ref D) [y] H4 λ_ H5=>N σ2 H5 else N σ2 H3):=by
 refine⟨λi m σ H=>m=min xs.length zs.length - i∧i≤min xs.length zs.length∧∃ys,H D=some (.lst ys)∧Pv i ys σ H,⟨_,rfl,ψu1 _,[],zai,h0⟩,?_⟩
 rintro i m σ H ⟨rfl,hi,ys,hD,pv⟩
 obtain⟨hx,hz⟩:=hl i ys σ H hi pv
 by_cases hlt:i<min xs.length zs.length
 ·have l1:i<xs.length:=by (first|lia|omega)
  have l2:i<zs.length:=by (first|lia|omega)
  refine .inr ⟨⟨xs,zs,xs[i],zs[i],hx,hz,by simp[l1],by simp[l2]⟩,λσ H=>∃ys,H D=some (.lst ys)∧Pv (i+1) ys σ H,λσ' H' p'=>⟨_,by (first|lia|omega),rfl,hlt,p'⟩,λx H' yl=>?_⟩
  obtain⟨t,a,b,rfl,ht,rfl,e1,e2⟩:=yl
  exact hs i a b t ys σ H (e1 xs hx) (e2 zs hz) hD pv ht
 ·have e:i=min xs.length zs.length:=by (first|lia|omega)
  subst e
  exact .inl ⟨⟨xs,zs,hx,hz,rfl⟩,hd ys σ H hD pv⟩
end L2
namespace L2
open PySem PySem.Spec PyProof.Rows
inductive Tr where
 | int (i:Int)
 | bl (b:Bool)
 | str (x:Str)
 | non
 | lst (l:List Tr)
 | tup (l:List Tr)
inductive zeF (K:ψa) (H:Hp):Nat→Tr→V→Prop where
 | int {n:Nat} (i:Int):zeF K H n (.int i) (.int i)
 | bl {n:Nat} (b:Bool):zeF K H n (.bl b) (.bl b)
 | str {n:Nat} (x:Str):zeF K H n (.str x) (.str x)
 | non {n:Nat}:zeF K H n .non .non
 | lst {n:Nat} {p:Addr} {xs:List V} {ts:List Tr} (h:SqL K H p xs) (l:xs.length=ts.length) (e:∀(i:Nat) x t,xs[i]?=some x→ts[i]?=some t→zeF K H n t x):zeF K H (n+1) (.lst ts) (.ref p)
 | tup {n:Nat} {p:Addr} {xs:List V} {ts:List Tr} (h:SqT K H p xs) (l:xs.length=ts.length) (e:∀(i:Nat) x t,xs[i]?=some x→ts[i]?=some t→zeF K H n t x):zeF K H (n+1) (.tup ts) (.ref p)
section
variable {X:Cx} {pins:List (Addr×Obj)} {σ:St} {H:Hp} {s:Shared}
theorem ziZ{A:Around}{n:Nat}{xs ys:List V}{ts:List Tr}{us vs:List Value}(lx:xs.length=ts.length)(ly:ys.length=ts.length)(r1:zcU xs us)(r2:zcU ys vs)
  (ih:∀(i:Nat) x t,xs[i]?=some x→ts[i]?=some t→∀y,zeF X.K H n t y→∀(u v:Value) (A:Around),zdt x u→zdt y v→A.units+n<cLine→SeqAt.EqAt A s u v true)
  (ey:∀(i:Nat) y t,ys[i]?=some y→ts[i]?=some t→zeF X.K H n t y) (hu:A.units+(n+1)<cLine) :
  ∀j (h1:j<us.toArray.size) (h2:j<vs.toArray.size),SeqAt.EqAt A.in1 s us.toArray[j] vs.toArray[j] true:=by
 intro j h1 h2
 have k1:j<xs.length:=by rw[r1.length];simpa using h1
 have k2:j<ys.length:=by rw[r2.length];simpa using h2
 have k3:j<ts.length:=by (first|lia|omega)
 obtain⟨u,e1,ru⟩:=r1.get (ψc k1)
 obtain⟨v,e2,rv⟩:=r2.get (ψc k2)
 have q1:us.toArray[j]=u:=by
  have:=(List.getElem?_eq_some_iff.mp e1).2
  simpa using this
 have q2:vs.toArray[j]=v:=by
  have:=(List.getElem?_eq_some_iff.mp e2).2
  simpa using this
 rw[q1,q2]
 exact ih j _ _ (ψc k1) (ψc k3) _ (ey j _ _ (ψc k2) (ψc k3)) u v A.in1 ru rv (by show A.units+1+n<cLine;(first|lia|omega))
theorem ziR(n:Nat):(ψF1 n).all (λ_=>true)=true:=by simp
theorem zsa(I:Inv X pins σ H s){n:Nat}{t:Tr}{x:V}(hx:zeF X.K H n t x):∀y,zeF X.K H n t y→∀(u v:Value) (A:Around),zdt x u→zdt y v→A.units+n<cLine→SeqAt.EqAt A s u v true:=by
 induction hx with
 | int i =>
  intro y hy u v A ru rv hu
  cases hy
  obtain⟨a,rfl⟩:=ru
  obtain⟨b,rfl⟩:=rv
  have:=SeqAt.EqAt.int_int (A:=A) (s:=s) i a i b
  rw[beq_self_eq_true] at this
  exact this
 | bl b =>
  intro y hy u v A ru rv hu
  cases hy
  cases ru
  cases rv
  exact SeqAt.EqAt.same _
 | str x =>
  intro y hy u v A ru rv hu
  cases hy
  obtain⟨a,rfl⟩:=ru
  obtain⟨b,rfl⟩:=rv
  have:=SeqAt.EqAt.str_str (A:=A) (s:=s) x a x b
  rw[beq_self_eq_true] at this
  exact this
 | non =>
  intro y hy u v A ru rv hu
  cases hy
  cases ru
  cases rv
  exact SeqAt.EqAt.same _
 | @lst n p xs ts h l e ih =>
  intro y hy u v A ru rv hu
  cases hy with
  | @lst _ q ys _ h2 l2 e2 =>
   cases ru
   cases rv
   by_cases hpq:p=q
   ·subst hpq
    exact SeqAt.EqAt.same _
   ·obtain⟨us,r1,p1,_⟩:=I.list h
    obtain⟨vs,r2,p2,_⟩:=I.list h2
    have z:=SeqAt.RcAt.lists (A:=A) p1.isList p2.isList (by rw[ψg,ψg,← r1.length,← r2.length,l,l2]) (by (first|lia|omega)) (e:=λ_=>true) (ziZ l l2 r1 r2 ih e2 hu)
    rw[ziR] at z
    exact SeqAt.EqAt.of_refs hpq z
 | @tup n p xs ts h l e ih =>
  intro y hy u v A ru rv hu
  cases hy with
  | @tup _ q ys _ h2 l2 e2 =>
   cases ru
   cases rv
   by_cases hpq:p=q
   ·subst hpq
    exact SeqAt.EqAt.same _
   ·obtain⟨us,r1,p1,_⟩:=I.tuple h
    obtain⟨vs,r2,p2,_⟩:=I.tuple h2
    have z:=SeqAt.RcAt.tuples (A:=A) p1 p2 (by (first|lia|omega)) (e:=λ_=>true) (ziZ l l2 r1 r2 ih e2 hu)
    rw[ziR,ψg,ψg,← r1.length,← r2.length,l,l2,beq_self_eq_true,Bool.and_self] at z
    exact SeqAt.EqAt.of_refs hpq z
def rNeD(K:ψa):R2:=λx y H Q=>∃n ts,n≤60∧(zeF K H (n+1) (.lst ts) x∧zeF K H (n+1) (.lst ts) y∨zeF K H (n+1) (.tup ts) x∧zeF K H (n+1) (.tup ts) y)∧Q (.bl false) H
theorem zvB(hu:X.A.units+64<cLine):OpR X (compareOp .NotEq) (rNeD X.K):=by
 intro pins s σ H x y v u Q I rx ry h
 obtain⟨n,ts,hn,h,q⟩:=h
 have hu':X.A.units+(n+1)<cLine:=by (first|lia|omega)
 rcases h with ⟨h1,h2⟩ | ⟨h1,h2⟩
 ·cases h1 with
  | @lst _ p xs _ a1 a2 a3 =>
   cases h2 with
   | @lst _ p' ys _ b1 b2 b3 =>
    cases rx
    cases ry
    obtain⟨us,r1,p1,_⟩:=I.list a1
    obtain⟨vs,r2,p2,_⟩:=I.list b1
    have z:=SeqAt.RcNeAt.lists (A:=X.A) p1.isList p2.isList (by rw[ψg,ψg,← r1.length,← r2.length,a2,b2]) (by (first|lia|omega)) (e:=λ_=>true) (ziZ a2 b2 r1 r2 (λi x t e1 e2=>zsa I (a3 i x t e1 e2)) b3 hu')
    rw[ziR] at z
    exact z X.prog X.w X.xe _ ⟨.bl false,H,I,rfl,q⟩
 ·cases h1 with
  | @tup _ p xs _ a1 a2 a3 =>
   cases h2 with
   | @tup _ p' ys _ b1 b2 b3 =>
    cases rx
    cases ry
    obtain⟨us,r1,p1,_⟩:=I.tuple a1
    obtain⟨vs,r2,p2,_⟩:=I.tuple b1
    have z:=SeqAt.RcNeAt.tuples (A:=X.A) p1 p2 (by (first|lia|omega)) (e:=λ_=>true) (ziZ a2 b2 r1 r2 (λi x t e1 e2=>zsa I (a3 i x t e1 e2)) b3 hu')
    rw[ziR,ψg,ψg,← r1.length,← r2.length,a2,b2,beq_self_eq_true,Bool.and_self] at z
    exact z X.prog X.w X.xe _ ⟨.bl false,H,I,rfl,q⟩
end
end L2
namespace L2
open PySem PySem.Spec PyProof.Rows
section
variable {X:Cx}
end
def zge(J:It)(g:TG)(tt:TT)(te:TE)(D:Addr)(Q:VK)(σ:St)(H:Hp):Prop:=∃W:Nat→Nat→St→Hp→Prop,(∃m,W 0 m σ H)∧∀i m σc Hc,W i m σc Hc →
 (J.stop i Hc∧Q (.ref D) Hc)∨(J.go i Hc∧∃N:St→Hp→Prop,(∀σ' H',N σ' H'→∃m',m'<m∧W (i+1) m' σ' H')∧∀x H',J.yld i Hc x H'→g x σc H' λσ2 H2=>tt σ2 H2 λb H3=>if b=true then te σ2 H3 λy H4=>zcA (.ref D) [y] H4 λ_ H5=>N σ2 H5 else N σ2 H3)
theorem zuQ{wi:TI}{g:TG}{tt:TT}{te:TE}{cap:List (Option Nat)}{σ:St}{H:Hp}{Q:VK}:zb3 wi g tt te cap σ H Q=wi σ H λJ H1=>∀D,H1 D=none→zge J g tt te D Q (ztZ cap σ) (upd H1 D (.lst [])):=rfl
theorem zcT{K:ψa}{a:Addr}{xs:List V}{g:TG}{tt:TT}{te:TE}{σ:St}{H:Hp}{D:Addr}{Q:VK}(Pv:Nat→List V→St→Hp→Prop)(h0:Pv 0 [] σ (upd H D (.lst [])))(hl:∀i ys σ H,i≤xs.length→Pv i ys σ H→SqL K H a xs)
  (hs:∀i x ys σ H,xs[i]?=some x→H D=some (.lst ys)→Pv i ys σ H→g x σ H λσ2 H2=>tt σ2 H2 λb H3=>if b=true then te σ2 H3 λy H4=>zcA (.ref D) [y] H4 λ_ H5=>∃ys,H5 D=some (.lst ys)∧Pv (i+1) ys σ2 H5 else ∃ys,H3 D=some (.lst ys)∧Pv (i+1) ys σ2 H3)
  (hd:∀ys σ H,H D=some (.lst ys)→Pv xs.length ys σ H→Q (.ref D) H):zge (Itl K a) g tt te D Q σ (upd H D (.lst [])):=zth Pv h0 hl hs hd
theorem zfA{lo:Int}{n:Nat}{g:TG}{tt:TT}{te:TE}{σ:St}{H:Hp}{D:Addr}{Q:VK}(Pv:Nat→List V→St→Hp→Prop)(h0:Pv 0 [] σ (upd H D (.lst [])))
  (hs:∀i ys σ H,i<n→H D=some (.lst ys)→Pv i ys σ H→g (.int (lo+i)) σ H λσ2 H2=>tt σ2 H2 λb H3=>if b=true then te σ2 H3 λy H4=>zcA (.ref D) [y] H4 λ_ H5=>∃ys,H5 D=some (.lst ys)∧Pv (i+1) ys σ2 H5 else ∃ys,H3 D=some (.lst ys)∧Pv (i+1) ys σ2 H3)
  (hd:∀ys σ H,H D=some (.lst ys)→Pv n ys σ H→Q (.ref D) H):zge (Itr lo n) g tt te D Q σ (upd H D (.lst [])):=zqd Pv h0 hs hd
theorem zhC{K:ψa}{p q:Addr}{xs zs:List V}{g:TG}{tt:TT}{te:TE}{σ:St}{H:Hp}{D:Addr}{Q:VK}(Pv:Nat→List V→St→Hp→Prop)(h0:Pv 0 [] σ (upd H D (.lst [])))
  (hl:∀i ys σ H,i≤min xs.length zs.length→Pv i ys σ H→SqL K H p xs∧SqL K H q zs)
  (hs:∀i x z t ys σ H,xs[i]?=some x→zs[i]?=some z→H D=some (.lst ys)→Pv i ys σ H→H t=none→g (.ref t) σ (upd H t (.tup [x,z])) λσ2 H2=>tt σ2 H2 λb H3=>if b=true then te σ2 H3 λy H4=>zcA (.ref D) [y] H4 λ_ H5=>∃ys,H5 D=some (.lst ys)∧Pv (i+1) ys σ2 H5 else ∃ys,H3 D=some (.lst ys)∧Pv (i+1) ys σ2 H3)
  (hd:∀ys σ H,H D=some (.lst ys)→Pv (min xs.length zs.length) ys σ H→Q (.ref D) H):zge (Itz K p q) g tt te D Q σ (upd H D (.lst [])):=zuU Pv h0 hl hs hd
theorem zpw{K:ψa}{p q:Addr}{xs ys:List V}{g:TG}{tb:TS}{D:zk9}{σ:St}{H:Hp}(Pv:Nat→St→Hp→Prop)(h0:Pv 0 σ H)(hl:∀i σ H,i≤min xs.length ys.length→Pv i σ H→SqL K H p xs∧SqL K H q ys)
  (hs:∀i x y t σ H,xs[i]?=some x→ys[i]?=some y→Pv i σ H→H t=none→g (.ref t) σ (upd H t (.tup [x,y])) λσ2 H2=>tb { D with nx:=Pv (i+1),ct:=Pv (i+1),bk:=D.nx } σ2 H2) (hd:∀σ H,Pv (min xs.length ys.length) σ H→D.nx σ H):zpT (Itz K p q) g tb D σ H:=zv3 Pv h0 hl hs hd
end L2
namespace My3
open PySem
abbrev zcX(h:Heap)(T:Addr)(a b c:Value):Prop:=h.get? T=some { cls:=.type "tuple",data:=.seq #[a,b,c] }
structure zjp (z TI TO i1 i2 i3 l1 l2 l3:Addr):Prop where
 a1:TI≠z
 a2:TO≠z
 a3:i1≠z
 a4:i2≠z
 a5:i3≠z
 b0:TI≠TO
 b1:TI≠i1
 b2:TI≠i2
 b3:TI≠i3
 c1:TO≠i1
 c2:TO≠i2
 c3:TO≠i3
 d12:i1≠i2
 d13:i1≠i3
 d23:i2≠i3
 e1:∀b∈[z,TO,i1,i2,i3],l1≠b
 e2:∀b∈[z,TO,i1,i2,i3],l2≠b
 e3:∀b∈[z,TO,i1,i2,i3],l3≠b
section
variable {P:Program} {w:World} {A:Around} {E:Value→Shared→Prop} {s:Shared}
theorem zlu{T:Addr}{a b c x:Value}{k:Nat}{R:Unit→Shared→Prop}(g:zcX s.heap T a b c)
  (h:∀h',h'.get? T=some { cls:=.type "tuple",data:=.seq ((#[a,b,c]:Array Value).setIfInBounds k x) }→Heap.SameBut T s.heap h'→R () { s with heap:=h' }):wpAny (model P w) A (updateSeq T (·.setIfInBounds k x)) R E s:=by
 refine wpAny_updateSeq g rfl (h _ ?_ (Heap.SameBut.update ..))
 rw[Heap.get?_update_self _ g rfl];simp[Obj.mapSeq]
theorem ztY{z TI TO i1 i2 i3 l1 l2 l3:Addr}{k:Nat}{xs ys vs:Array Value}{x y v a b c:Value}{R:Value→Shared→Prop}(D:zjp z TI TO i1 i2 i3 l1 l2 l3)
  (gz:IsZip s.heap z TI TO .none) (gI:zcX s.heap TI (.ref i1) (.ref i2) (.ref i3)) (gO:zcX s.heap TO a b c)
  (n1:s.heap.IsListIter i1 l1 k) (n2:s.heap.IsListIter i2 l2 k) (n3:s.heap.IsListIter i3 l3 k) (m1:s.heap.IsList l1 xs) (m2:s.heap.IsList l2 ys) (m3:s.heap.IsList l3 vs) (ex:xs[k]?=some x) (ey:ys[k]?=some y) (ev:vs[k]?=some v)
  (q:∀h',IsZip h' z TI TO (rawInt s.heap.objs.size)→zcX h' TO x y v→h'.IsListIter i1 l1 (k+1)→h'.IsListIter i2 l2 (k+1)→h'.IsListIter i3 l3 (k+1)→zcX h' s.heap.objs.size x y v→h'.objs.size=s.heap.objs.size+1 →
   (∀t o,t∉[z,TO,i1,i2,i3]→s.heap.get? t=some o→h'.get? t=some o)→R (.ref s.heap.objs.size) { s with heap:=h' }) :
  wpAny (model P w) A (Builtin.«zip.__next__» ⟨[.ref z],[]⟩) (λfin s'=>∃v,fin=.done (.ret v)∧R v s') E s:=by
 have lz1:=D.e1 z (by simp);have lO1:=D.e1 TO (by simp);have li11:=D.e1 i1 (by simp)
 have lz2:=D.e2 z (by simp);have lO2:=D.e2 TO (by simp);have li21:=D.e2 i1 (by simp);have li22:=D.e2 i2 (by simp)
 have lz3:=D.e3 z (by simp);have lO3:=D.e3 TO (by simp);have li31:=D.e3 i1 (by simp);have li32:=D.e3 i2 (by simp);have li33:=D.e3 i3 (by simp)
 show wpAny _ _ (field (.ref z) 2 >>= _) _ _ _;refine wpAny_bind (wpAny_field gz rfl (x:=.bool false) rfl ?_);show wpAny _ _ (field (.ref z) 3 >>= _) _ _ _
 refine wpAny_bind (wpAny_field gz rfl (x:=.ref TI) rfl ?_)
 refine wpAny_bind (wpAny_seqItems gI rfl ?_);show wpAny _ _ (Builtin.SmallTypes.ownedTupleIsFree (.ref z) >>= _) _ _ _
 refine wpAny_bind ?_;unfold Builtin.SmallTypes.ownedTupleIsFree
 refine wpAny_bind (wpAny_field gz rfl (x:=.none) rfl (wpAny_pure ?_));simp only[if_true]
 refine wpAny_bind (wpAny_rule ?_);refine wpAny_bind (wpAny_field gz rfl (x:=.ref TO) rfl ?_)
 refine wpAny_bind (wpAny_setField_rec gz (by simp) λh₁ gz₁ q₁=>?_)
 replace gz₁:IsZip h₁ z TI TO .ellipsis:=gz₁
 refine wpAny_bind ?_;simp only[List.zipIdx_cons,List.zipIdx_nil,List.forIn_cons,List.forIn_nil]
 refine wpAny_bind (wpAny_bind (wpAny_onRaise ?_));show wpAny _ _ (Builtin.SmallTypes.nextOf (.ref i1) >>= _) _ _ _
 refine wpAny_bind (wpAny_nextOf_list_item (n1.extBut q₁.extBut D.a3) (m1.extBut q₁.extBut lz1) ex λh₂ n1₂ q₂=>wpAny_pure ?_)
 have gO₂:zcX h₂ TO a b c:=q₂.extBut _ _ D.c1 (q₁.extBut _ _ D.a2 gO)
 refine wpAny_bind (wpAny_seqItems gO₂ rfl ?_)
 refine wpAny_bind (zlu gO₂ λh₃ gO₃ q₃=>?_)
 replace gO₃:zcX h₃ TO x b c:=gO₃
 refine wpAny_bind (wpAny_letGo (wpAny_pure ?_))
 refine wpAny_bind (wpAny_bind (wpAny_onRaise ?_));show wpAny _ _ (Builtin.SmallTypes.nextOf (.ref i2) >>= _) _ _ _
 refine wpAny_bind (wpAny_nextOf_list_item (((n2.extBut q₁.extBut D.a4).extBut q₂.extBut D.d12.symm).extBut q₃.extBut D.c2.symm)
  (((m2.extBut q₁.extBut lz2).extBut q₂.extBut li21).extBut q₃.extBut lO2) ey λh₄ n2₄ q₄=>wpAny_pure ?_)
 have gO₄:zcX h₄ TO x b c:=q₄.extBut _ _ D.c2 gO₃
 refine wpAny_bind (wpAny_seqItems gO₄ rfl ?_)
 refine wpAny_bind (zlu gO₄ λh₅ gO₅ q₅=>?_)
 replace gO₅:zcX h₅ TO x y c:=gO₅
 refine wpAny_bind (wpAny_letGo (wpAny_pure ?_))
 refine wpAny_bind (wpAny_bind (wpAny_onRaise ?_));show wpAny _ _ (Builtin.SmallTypes.nextOf (.ref i3) >>= _) _ _ _
 refine wpAny_bind (wpAny_nextOf_list_item (((((n3.extBut q₁.extBut D.a5).extBut q₂.extBut D.d13.symm).extBut q₃.extBut D.c3.symm).extBut q₄.extBut D.d23.symm).extBut q₅.extBut D.c3.symm)
  (((((m3.extBut q₁.extBut lz3).extBut q₂.extBut li31).extBut q₃.extBut lO3).extBut q₄.extBut li32).extBut q₅.extBut lO3) ev λh₆ n3₆ q₆=>wpAny_pure ?_)
 have gO₆:zcX h₆ TO x y c:=q₆.extBut _ _ D.c3 gO₅
 refine wpAny_bind (wpAny_seqItems gO₆ rfl ?_)
 refine wpAny_bind (zlu gO₆ λh₇ gO₇ q₇=>?_)
 replace gO₇:zcX h₇ TO x y v:=gO₇
 refine wpAny_bind (wpAny_letGo (wpAny_pure (wpAny_pure ?_)))
 refine wpAny_bind (wpAny_seqItems gO₇ rfl ?_)
 refine wpAny_bind (wpAny_newTuple ?_)
 have sz:h₇.objs.size=s.heap.objs.size:=by rw[q₇.1,q₆.1,q₅.1,q₄.1,q₃.1,q₂.1,q₁.1]
 have gz₇:IsZip h₇ z TI TO .ellipsis:=q₇.extBut _ _ D.a2.symm (q₆.extBut _ _ D.a5.symm (q₅.extBut _ _ D.a2.symm (q₄.extBut _ _ D.a4.symm (q₃.extBut _ _ D.a2.symm (q₂.extBut _ _ D.a3.symm gz₁)))))
 have kp:∀t o,t∉[z,TO,i1,i2,i3]→s.heap.get? t=some o→h₇.get? t=some o:=λt o ht e=>by
  simp only[ψc1,ψR,or_false,not_or] at ht
  obtain⟨t1,t2,t3,t4,t5⟩:=ht
  exact q₇.extBut _ _ t2 (q₆.extBut _ _ t5 (q₅.extBut _ _ t2 (q₄.extBut _ _ t4 (q₃.extBut _ _ t2 (q₂.extBut _ _ t3 (q₁.extBut _ _ t1 e))))))
 have n1₇:h₇.IsListIter i1 l1 (k+1):=((((n1₂.extBut q₃.extBut D.c1.symm).extBut q₄.extBut D.d12).extBut q₅.extBut D.c1.symm).extBut q₆.extBut D.d13).extBut q₇.extBut D.c1.symm
 have n2₇:h₇.IsListIter i2 l2 (k+1):=((n2₄.extBut q₅.extBut D.c2.symm).extBut q₆.extBut D.d23).extBut q₇.extBut D.c2.symm
 have n3₇:h₇.IsListIter i3 l3 (k+1):=n3₆.extBut q₇.extBut D.c3.symm
 have zlt:z<h₇.objs.size:=Heap.lt_size gz₇
 show wpAny _ _ (Builtin.SmallTypes.ownedTupleHandOut (.ref z) (.ref h₇.objs.size) >>= _) _ _ _;refine wpAny_bind ?_;unfold Builtin.SmallTypes.ownedTupleHandOut
 have gz₈:IsZip (h₇.push { cls:=.type "tuple",data:=.seq #[x,y,v] }) z TI TO .ellipsis:=Heap.get?_push_of_some _ gz₇
 refine wpAny_bind (wpAny_setField_rec gz₈ (by simp) λh₉ gz₉ q₉=>?_)
 replace gz₉:IsZip h₉ z TI TO (rawInt h₇.objs.size):=gz₉
 refine wpAny_setField_rec gz₉ (by simp) λhA gzA qA=>?_
 replace gzA:IsZip hA z TI TO (rawInt h₇.objs.size):=gzA
 have up:∀t o,t≠z→h₇.get? t=some o→hA.get? t=some o:=λt o t1 e=>qA.extBut _ _ t1 (q₉.extBut _ _ t1 (Heap.get?_push_of_some _ e))
 have gT:zcX hA h₇.objs.size x y v:=qA.extBut _ _ (ψM1 zlt) (q₉.extBut _ _ (ψM1 zlt) (Heap.get?_push_size _ rfl))
 have szA:hA.objs.size=h₇.objs.size+1:=by rw[qA.1,q₉.1,Heap.size_push]
 rw[sz] at gzA gT szA
 refine wpAny_pure ⟨_,rfl,?_⟩;show R (.ref h₇.objs.size) _;rw[sz]
 exact q hA gzA (up _ _ D.a2 gO₇) (n1₇.at λo e=>up _ o D.a3 e) (n2₇.at λo e=>up _ o D.a4 e) (n3₇.at λo e=>up _ o D.a5 e) gT szA λt o ht e=>up t o (λh=>ht (by simp[h])) (kp t o ht e)
theorem zws{z TI TO i1 i2 i3 l1 l2 l3:Addr}{k:Nat}{xs:Array Value}{R:Fin→Shared→Prop}(hh:A.handled=none)(D:zjp z TI TO i1 i2 i3 l1 l2 l3)
  (gz:IsZip s.heap z TI TO .none) (gI:zcX s.heap TI (.ref i1) (.ref i2) (.ref i3)) (n1:s.heap.IsListIter i1 l1 k) (m1:s.heap.IsList l1 xs) (ex:xs[k]?=none)
  (q:∀h' e,(∀t o,t∉[z,TO,i1,i2,i3]→s.heap.get? t=some o→h'.get? t=some o)→(∃o,h'.get? e=some o∧o.cls=.type "StopIteration")→E (.ref e) { s with heap:=h' }) :
  wpAny (model P w) A (Builtin.«zip.__next__» ⟨[.ref z],[]⟩) R E s:=by
 have lz1:=D.e1 z (by simp)
 show wpAny _ _ (field (.ref z) 2 >>= _) _ _ _;refine wpAny_bind (wpAny_field gz rfl (x:=.bool false) rfl ?_);show wpAny _ _ (field (.ref z) 3 >>= _) _ _ _
 refine wpAny_bind (wpAny_field gz rfl (x:=.ref TI) rfl ?_)
 refine wpAny_bind (wpAny_seqItems gI rfl ?_);show wpAny _ _ (Builtin.SmallTypes.ownedTupleIsFree (.ref z) >>= _) _ _ _
 refine wpAny_bind ?_;unfold Builtin.SmallTypes.ownedTupleIsFree
 refine wpAny_bind (wpAny_field gz rfl (x:=.none) rfl (wpAny_pure ?_));simp only[if_true]
 refine wpAny_bind (wpAny_rule ?_);refine wpAny_bind (wpAny_field gz rfl (x:=.ref TO) rfl ?_)
 refine wpAny_bind (wpAny_setField_rec gz (by simp) λh₁ gz₁ q₁=>?_)
 replace gz₁:IsZip h₁ z TI TO .ellipsis:=gz₁
 refine wpAny_bind ?_;simp only[List.zipIdx_cons,List.zipIdx_nil,List.forIn_cons,List.forIn_nil]
 refine wpAny_bind (wpAny_bind (wpAny_onRaise ?_));show wpAny _ _ (Builtin.SmallTypes.nextOf (.ref i1) >>= _) _ _ _
 refine wpAny_bind (wpAny_nextOf_list_end hh (n1.extBut q₁.extBut D.a3) (m1.extBut q₁.extBut lz1) ex λh₂ e q₂ he=>?_)
 obtain⟨oe,g1,g2⟩:=he
 have gz₂:IsZip h₂ z TI TO .ellipsis:=q₂ _ _ D.a3.symm gz₁
 have nz:e≠z:=λx=>by subst x;rw[gz₂] at g1;cases g1;simp at g2
 refine wpAny_setField_rec gz₂ (by simp) λh₃ _ q₃=>q h₃ e (λt o ht x=>?_) ⟨oe,q₃.extBut _ _ nz g1,g2⟩
 have t1:t≠z:=λh=>ht (by simp[h])
 have t3:t≠i1:=λh=>ht (by simp[h])
 exact q₃.extBut _ _ t1 (q₂ _ _ t3 (q₁.extBut _ _ t1 x))
theorem zpX{z TI TO i1 i2 i3 l1 l2 l3:Addr}{k:Nat}{xs ys vs:Array Value}{x y v a b c:Value}{R:Option Value→Shared→Prop}(D:zjp z TI TO i1 i2 i3 l1 l2 l3)
  (gz:IsZip s.heap z TI TO .none) (gI:zcX s.heap TI (.ref i1) (.ref i2) (.ref i3)) (gO:zcX s.heap TO a b c)
  (n1:s.heap.IsListIter i1 l1 k) (n2:s.heap.IsListIter i2 l2 k) (n3:s.heap.IsListIter i3 l3 k) (m1:s.heap.IsList l1 xs) (m2:s.heap.IsList l2 ys) (m3:s.heap.IsList l3 vs) (ex:xs[k]?=some x) (ey:ys[k]?=some y) (ev:vs[k]?=some v)
  (q:∀h',IsZip h' z TI TO (rawInt s.heap.objs.size)→zcX h' TO x y v→h'.IsListIter i1 l1 (k+1)→h'.IsListIter i2 l2 (k+1)→h'.IsListIter i3 l3 (k+1)→zcX h' s.heap.objs.size x y v→h'.objs.size=s.heap.objs.size+1 →
   (∀t o,t∉[z,TO,i1,i2,i3]→s.heap.get? t=some o→h'.get? t=some o)→R (some (.ref s.heap.objs.size)) { s with heap:=h' }) :
  wpAny (model P w) A (pyNext (.ref z)) R E s:=by
 have ty:s.TypeIs (.ref z) "zip":=⟨_,gz,rfl⟩
 unfold pyNext
 exact wpAny_bind (wpAny_attempt (wpAny_callSpecial?_slot (name:=Str.ofString "__next__") ty F.slot_zip_next (wpAny_call_entry F.slot_zip_next ty F.entry_zip_next
  (ztY D gz gI gO n1 n2 n3 m1 m2 m3 ex ey ev λh' a1 a2 a3 a4 a5 a6 a7 a8=>wpAny_pure (q h' a1 a2 a3 a4 a5 a6 a7 a8)) (F.args_zip_next_1 _))))
theorem zsd{z TI TO i1 i2 i3 l1 l2 l3:Addr}{k:Nat}{xs:Array Value}{R:Option Value→Shared→Prop}(hh:A.handled=none)(D:zjp z TI TO i1 i2 i3 l1 l2 l3)
  (gz:IsZip s.heap z TI TO .none) (gI:zcX s.heap TI (.ref i1) (.ref i2) (.ref i3)) (n1:s.heap.IsListIter i1 l1 k) (m1:s.heap.IsList l1 xs) (ex:xs[k]?=none)
  (q:∀h',(∀t o,t∉[z,TO,i1,i2,i3]→s.heap.get? t=some o→h'.get? t=some o)→R none { s with heap:=h' }):wpAny (model P w) A (pyNext (.ref z)) R E s:=by
 have ty:s.TypeIs (.ref z) "zip":=⟨_,gz,rfl⟩
 unfold pyNext
 refine wpAny_bind (wpAny_attempt (wpAny_callSpecial?_slot (name:=Str.ofString "__next__") ty F.slot_zip_next (wpAny_call_entry F.slot_zip_next ty F.entry_zip_next (zws hh D gz gI n1 m1 ex λh' e hk he=>?_) (F.args_zip_next_1 _))))
 obtain⟨o,h1,h2⟩:=he
 exact wpAny_bind (wpAny_isInstance (T:="StopIteration") (b:=true) ⟨o,h1,h2⟩ isSubtype_stop (wpAny_pure (q _ hk)))
theorem zrU(a b c:Value):checkTypeCall "zip" ⟨[a,b,c],[]⟩=pure ():=by kernel_rfl
theorem zt5(a b c:Value):checkBuiltinCall "zip.__new__" ⟨[.type "zip",a,b,c],[]⟩=pure ():=by kernel_rfl
theorem zrX(a b c d:Value):argsOk "object.__init__" ⟨[a,b,c,d],[]⟩:=by
 unfold argsOk;rw[signature?_of (id:="object.__init__") (n:="__tini__".toList) (o:="tcejbo".toList) (by kernel_rfl) F.owner_object];kernel_rfl
abbrev it0(l:Addr):Obj:={ cls:=.type "list_iterator",data:=.fields #[.ref l,.int 0 0] }
abbrev zh1(h:Heap)(l1:Addr):Heap:=h.push (it0 l1)
abbrev zh2(h:Heap)(l1 l2:Addr):Heap:=(zh1 h l1).push (it0 l2)
abbrev zh3(h:Heap)(l1 l2 l3:Addr):Heap:=(zh2 h l1 l2).push (it0 l3)
abbrev zh4(h:Heap)(l1 l2 l3:Addr):Heap:=(zh3 h l1 l2 l3).push { cls:=.type "tuple",data:=.seq #[.ref h.objs.size,.ref (zh1 h l1).objs.size,.ref (zh2 h l1 l2).objs.size] }
abbrev zh5(h:Heap)(l1 l2 l3:Addr):Heap:=(zh4 h l1 l2 l3).push { cls:=.type "tuple",data:=.seq #[.none,.none,.none] }
abbrev zh6(h:Heap)(l1 l2 l3:Addr):Heap:=(zh5 h l1 l2 l3).push { cls:=.type "zip",data:=.fields #[.none,.bool false,.bool false,.ref (zh3 h l1 l2 l3).objs.size,.ref (zh4 h l1 l2 l3).objs.size] }
theorem new3(l1 l2 l3:Addr)(xs ys vs:Array Value) :
  Meets (Builtin.«zip.__new__» ⟨[.type "zip",.ref l1,.ref l2,.ref l3],[]⟩) (λ_ R s=>s.heap.IsList l1 xs∧s.heap.IsList l2 ys∧s.heap.IsList l3 vs ∧
   R (.ok (.ret (.ref (zh5 s.heap l1 l2 l3).objs.size))) { s with heap:=zh6 s.heap l1 l2 l3 }) :=
 .of_wp λprog w A R s h=>by
  obtain⟨hp,g,d,tk,os⟩:=s;obtain⟨m1,m2,m3,h⟩:=h
  have hsub:=sub_zip
  have k1:Heap.IsList (Shared.heap ⟨hp,g,d,tk,os⟩) l1 xs:=m1
  have k2:Heap.IsList (Shared.heap ⟨hp.push { cls:=.type "list_iterator",data:=.fields #[.ref l1,.int 0 0] },g,d,tk,os⟩) l2 ys:=Heap.IsList.push m2 _
  have k3:Heap.IsList (Shared.heap ⟨(hp.push { cls:=.type "list_iterator",data:=.fields #[.ref l1,.int 0 0] }).push { cls:=.type "list_iterator",data:=.fields #[.ref l2,.int 0 0] },g,d,tk,os⟩) l3 vs:=Heap.IsList.push (Heap.IsList.push m3 _) _
  wp_walk using wpAny_pyIter_list k1,wpAny_pyIter_list k2,wpAny_pyIter_list k3
  exact⟨_,rfl,h⟩
theorem call3{l1 l2 l3:Addr}{xs ys vs:Array Value}{R:Value→Shared→Prop}(m1:s.heap.IsList l1 xs)(m2:s.heap.IsList l2 ys)(m3:s.heap.IsList l3 vs)
  (h:∀(h':Heap) (n:Nat),n=s.heap.objs.size→IsZip h' (n+5) (n+3) (n+4) .none→zcX h' (n+3) (.ref n) (.ref (n+1)) (.ref (n+2))→zcX h' (n+4) .none .none .none→h'.IsListIter n l1 0→h'.IsListIter (n+1) l2 0→h'.IsListIter (n+2) l3 0 →
   (∀c o,s.heap.get? c=some o→h'.get? c=some o)→R (.ref (n+5)) { s with heap:=h' }) :
  wpAny (model P w) A (call (.type "zip") [.ref l1,.ref l2,.ref l3]) R E s:=by
 refine callType_new F.called_zip (by decide) (zrU _ _ _) (zt5 _ _ _) (λobj=>zrX obj _ _ _) F.entry_zip_new (new3 l1 l2 l3 xs ys vs) ⟨m1,m2,m3,?_⟩
 have z1:(zh1 s.heap l1).objs.size=s.heap.objs.size+1:=Heap.size_push ..
 have z2:(zh2 s.heap l1 l2).objs.size=s.heap.objs.size+2:=by rw[Heap.size_push,z1]
 have z3:(zh3 s.heap l1 l2 l3).objs.size=s.heap.objs.size+3:=by rw[Heap.size_push,z2]
 have z4:(zh4 s.heap l1 l2 l3).objs.size=s.heap.objs.size+4:=by rw[Heap.size_push,z3]
 have z5:(zh5 s.heap l1 l2 l3).objs.size=s.heap.objs.size+5:=by rw[Heap.size_push,z4]
 have on:∀{hh:Heap} {a:Addr} {o o':Obj},hh.get? a=some o→(hh.push o').get? a=some o:=λe=>Heap.get?_push_of_some _ e
 have y6:(zh6 s.heap l1 l2 l3).get? (zh5 s.heap l1 l2 l3).objs.size=some _:=Heap.get?_push_size _ rfl
 have y5:(zh6 s.heap l1 l2 l3).get? (zh4 s.heap l1 l2 l3).objs.size=some _:=on (Heap.get?_push_size _ rfl)
 have y4:(zh6 s.heap l1 l2 l3).get? (zh3 s.heap l1 l2 l3).objs.size=some _:=on (on (Heap.get?_push_size _ rfl))
 have y3:(zh6 s.heap l1 l2 l3).get? (zh2 s.heap l1 l2).objs.size=some _:=on (on (on (Heap.get?_push_size _ rfl)))
 have y2:(zh6 s.heap l1 l2 l3).get? (zh1 s.heap l1).objs.size=some _:=on (on (on (on (Heap.get?_push_size _ rfl))))
 have y1:(zh6 s.heap l1 l2 l3).get? s.heap.objs.size=some _:=on (on (on (on (on (Heap.get?_push_size _ rfl)))))
 show _∧_
 rw[z3,z4,z5] at y6
 rw[z4] at y5
 rw[z1,z2,z3] at y4
 rw[z2] at y3
 rw[z1] at y2
 rw[z5]
 exact⟨⟨_,y6,rfl⟩,h _ _ rfl y6 y4 y5 ⟨_,y1,rfl,rfl⟩ ⟨_,y2,rfl,rfl⟩ ⟨_,y3,rfl,rfl⟩ λc o x=>on (on (on (on (on (on x)))))⟩
end
end My3
namespace L2
open PySem PySem.Spec PyProof.Rows My3
def Itz3(K:ψa)(p q r:Addr):It where
 go:=λi H=>∃xs ys zs a b c,SqL K H p xs∧SqL K H q ys∧SqL K H r zs∧xs[i]?=some a∧ys[i]?=some b∧zs[i]?=some c
 yld:=λi H x H'=>∃t a b c,x=.ref t∧H t=none∧H'=upd H t (.tup [a,b,c])∧(∀xs,SqL K H p xs→xs[i]?=some a)∧(∀ys,SqL K H q ys→ys[i]?=some b)∧∀zs,SqL K H r zs→zs[i]?=some c
 stop:=λi H=>∃xs,SqL K H p xs∧i=xs.length
def tn3(z TI TO i1 i2 i3 p q r:Addr)(i:Nat)(h:Heap):Prop:=IsZip h z TI TO .none∧zcX h TI (.ref i1) (.ref i2) (.ref i3)∧(∃a b c,zcX h TO a b c)∧h.IsListIter i1 p i∧h.IsListIter i2 q i∧h.IsListIter i3 r i
theorem zu7{z TI TO i1 i2 i3 p q r:Addr}{i:Nat}{h h':Heap}(st:tn3 z TI TO i1 i2 i3 p q r i h)(k:∀b∈[z,TI,TO,i1,i2,i3],∀o,h.get? b=some o→h'.get? b=some o):tn3 z TI TO i1 i2 i3 p q r i h':=by
 obtain⟨a1,a2,⟨x,y,v,a3⟩,a4,a5,a6⟩:=st
 exact⟨k z (by simp) _ a1,k TI (by simp) _ a2,⟨x,y,v,k TO (by simp) _ a3⟩,a4.at λo e=>k i1 (by simp) o e,a5.at λo e=>k i2 (by simp) o e,a6.at λo e=>k i3 (by simp) o e⟩
theorem znb{z TI TO i1 i2 i3 p q r:Addr}{i:Nat}{h:Heap}(st:tn3 z TI TO i1 i2 i3 p q r i h):∀b∈[z,TI,TO,i1,i2,i3],∃o,h.get? b=some o∧∀v,o.data≠.cell v:=λb hb=>by
 obtain⟨a1,a2,⟨x,y,v,a3⟩,⟨o4,a4,_,d4⟩,⟨o5,a5,_,d5⟩,⟨o6,a6,_,d6⟩⟩:=st
 simp only[ψc1,ψR,or_false] at hb
 rcases hb with rfl | rfl | rfl | rfl | rfl | rfl
 ·exact⟨_,a1,zcq rfl⟩
 ·exact⟨_,a2,λv z=>nomatch (show Data.seq _ _=Data.cell v from z)⟩
 ·exact⟨_,a3,λv z=>nomatch (show Data.seq _ _=Data.cell v from z)⟩
 ·exact⟨_,a4,zcq d4⟩
 ·exact⟨_,a5,zcq d5⟩
 ·exact⟨_,a6,zcq d6⟩
theorem zqN{P:Program}{w:World}{K:ψa}{elts:List Expr}{k:Nat}{pos:Pos}{z TI TO i1 i2 i3 p q r:Addr}(D:zjp z TI TO i1 i2 i3 p q r):zxX P w K (.Tuple elts k pos) (Itz3 K p q r) [z,TI,TO,i1,i2,i3] z (tn3 z TI TO i1 i2 i3 p q r) where
 mem:=by simp
 obj:=λi h st=>znb st
 keep:=λi h h' st kk=>zu7 st kk
 item:=by
  intro X hP hw hK hc i pins s σ H E I hf st hg
  subst hP hw hK
  obtain⟨xs,ys,zs,a,b,c,hx,hy,hz,ea,eb,ec⟩:=hg
  obtain⟨its1,r1,pl1,z1⟩:=I.list hx
  obtain⟨its2,r2,pl2,z2⟩:=I.list hy
  obtain⟨its3,r3,pl3,z3⟩:=I.list hz
  obtain⟨ua,eua,rua⟩:=r1.get ea
  obtain⟨ub,eub,rub⟩:=r2.get eb
  obtain⟨uc,euc,ruc⟩:=r3.get ec
  have there:=znb st
  obtain⟨s1,s2,⟨x0,y0,v0,s3⟩,s4,s5,s6⟩:=st
  refine zpX D s1 s2 s3 s4 s5 s6 pl1.isList pl2.isList pl3.isList (by simpa using eua) (by simpa using eub) (by simpa using euc) λh' a1 a2 a3 a4 a5 aT asz kk=>⟨_,rfl,?_⟩
  refine wpAny_letOwnedTupleGo_zip a1 λh2 gz2 q2=>?_
  have sub:∀b∈[z,TO,i1,i2,i3],b∈[z,TI,TO,i1,i2,i3]:=λb hb=>by
   simp only[ψc1,ψR,or_false] at hb ⊢
   rcases hb with h | h | h | h | h <;> simp[h]
  have I1:Inv X pins σ H { s with heap:=h2 }:=I.turns (t':=s.toks) (ch:=[z,TO,i1,i2,i3]) (λb o hb e=>q2.extBut _ _ (λx=>hb (by simp[x])) (kk b o hb e)) λb hb=>hf b (sub b hb)
  have hT:s.heap.objs.size≤s.heap.objs.size:=ψm _
  have nT:H s.heap.objs.size=none:=I.hok.fresh hT
  have zT:s.heap.objs.size≠z:=ψM1 (Heap.lt_size s1)
  have I2:=I1.track (a:=s.heap.objs.size) (o:=.tup [a,b,c]) nT (Heap.get?_none_of_le (ψd1 I.sz hT)) (ψM1 (ψp I.lt hT)) (λx c e=>by
   obtain⟨v,q⟩:=I.cell x c e
   exact ψs (ψp q.lt hT)) (λp hp=>ψs (ψp (Heap.lt_size (I.pin p hp).1) hT)) (by
   refine⟨by show 3≤sizeLine;decide,[ua,ub,uc],.cons rua (.cons rub (.cons ruc .nil)),?_⟩
   exact⟨_,q2.extBut _ _ zT aT,rfl,_,rfl⟩)
  refine⟨.ref s.heap.objs.size,_,I2,rfl,⟨s.heap.objs.size,a,b,c,rfl,nT,rfl,λxs' h'=>?_,λys' h'=>?_,λzs' h'=>?_⟩,?_,λb hb=>?_⟩
  ·rw[I.list_inj h' hx];exact ea
  ·rw[I.list_inj h' hy];exact eb
  ·rw[I.list_inj h' hz];exact ec
  ·have nTI:TI∉[z,TO,i1,i2,i3]:=by
    simp only[ψc1,ψR,or_false,not_or]
    exact⟨D.a1,D.b0,D.b1,D.b2,D.b3⟩
   exact⟨gz2,q2.extBut _ _ D.a1 (kk _ _ nTI s2),⟨_,_,_,q2.extBut _ _ D.a2 a2⟩,a3.extBut q2.extBut D.a3,a4.extBut q2.extBut D.a4,a5.extBut q2.extBut D.a5⟩
  ·obtain⟨o,e,_⟩:=there b hb
   rw[zbg (ψs (ψp (Heap.lt_size e) hT))]
   exact(hf b hb).1
 done:=by
  intro X hP hw hK hc i pins s σ H E I hf st hg
  subst hP hw hK
  obtain⟨xs,hx,rfl⟩:=hg
  obtain⟨its1,r1,pl1,z1⟩:=I.list hx
  obtain⟨s1,s2,s3,s4,s5,s6⟩:=st
  have sub:∀b∈[z,TO,i1,i2,i3],b∈[z,TI,TO,i1,i2,i3]:=λb hb=>by
   simp only[ψc1,ψR,or_false] at hb ⊢
   rcases hb with h | h | h | h | h <;> simp[h]
  refine zsd (I.ok.hd hc) D s1 s2 s4 pl1.isList (by rw[r1.length];simp) λh' kk=>⟨rfl,I.turns (t':=s.toks) (ch:=[z,TO,i1,i2,i3]) (λb o hb e=>kk b o hb e) λb hb=>hf b (sub b hb)⟩
 self:=λA i s Q E st h=>wpAny_pyIter_zip st.1 h
def zxz(K:ψa)(ta:TA):TI:=λσ H R=>ta σ H λvs H1=>∃p q r,vs=[.ref p,.ref q,.ref r]∧(∃xs,SqL K H1 p xs)∧(∃ys,SqL K H1 q ys)∧(∃zs,SqL K H1 r zs)∧R (Itz3 K p q r) H1
theorem vals3{a b c:V}{us:List Value}(r:zcU [a,b,c] us):∃u v w,us=[u,v,w]∧zdt a u∧zdt b v∧zdt c w:=by
 cases r with
 | cons r1 r=>cases r with
  | cons r2 r=>cases r with
   | cons r3 r=>cases r;exact⟨_,_,_,rfl,r1,r2,r3⟩
theorem zg3(n:Nat){a b:Nat}(h:a≠b):n+a≠n+b:=by (first|lia|omega)
theorem zjn(n:Nat){b:Nat}(h:0<b):n≠n+b:=by (first|lia|omega)
theorem zsl{n l:Nat}(h:l<n):∀b∈[n+5,n+4,n,n+1,n+2],l≠b:=λb hb=>by
 simp only[ψc1,ψR,or_false] at hb
 (first|lia|omega)
theorem zp8{n l1 l2 l3:Nat}(h1:l1<n)(h2:l2<n)(h3:l3<n):zjp (n+5) (n+3) (n+4) n (n+1) (n+2) l1 l2 l3 :=
 ⟨zg3 n (by decide),zg3 n (by decide),zjn n (by decide),zg3 n (by decide),zg3 n (by decide),zg3 n (by decide),(zjn n (by decide)).symm,zg3 n (by decide),zg3 n (by decide),(zjn n (by decide)).symm,zg3 n (by decide),zg3 n (by decide),zjn n (by decide),zjn n (by decide),zg3 n (by decide),zsl h1,zsl h2,zsl h3⟩
theorem zxt{X:Cx}{a b c:Expr}{elts:List Expr}{k:Nat}{tp p pos:Pos}{ta:TA}(hg:Gl X "zip")(hm:X.mg "zip"=none)(ha:PA X [a,b,c] ta)(hs:starEach [a,b,c] X.env=[(false,eval a X.env),(false,eval b X.env),(false,eval c X.env)]:=by rfl)(hs2:starEach [b,c] X.env=[(false,eval b X.env),(false,eval c X.env)]:=by rfl) :
  PI X (.Tuple elts k tp) (.Call (.Name "zip" p) [a,b,c] [] pos) (zxz X.K ta):=by
 intro pins s σ H R I h
 refine Call_ (zit I hg hm boot_zip (ψt1 (thn (ha pos pins s σ H _ I h) λus s1 hQ'=>?_) (by rw[hs,hs2]) (by rw[hs2];rfl)))
 obtain⟨vs,H1,I1,r1,q1⟩:=hQ'
 obtain⟨p1,p2,p3,rfl,⟨xs,hx⟩,⟨ys,hy⟩,⟨zs,hz⟩,q⟩:=q1
 obtain⟨u,v,w,rfl,ru,rv,rw'⟩:=vals3 r1
 cases ru
 cases rv
 cases rw'
 obtain⟨its1,_,pl1,_⟩:=I1.list hx
 obtain⟨its2,_,pl2,_⟩:=I1.list hy
 obtain⟨its3,_,pl3,_⟩:=I1.list hz
 have a1:p1<s1.heap.objs.size:=by obtain⟨_,e,_⟩:=pl1.isList;exact Heap.lt_size e
 have a2:p2<s1.heap.objs.size:=by obtain⟨_,e,_⟩:=pl2.isList;exact Heap.lt_size e
 have a3:p3<s1.heap.objs.size:=by obtain⟨_,e,_⟩:=pl3.isList;exact Heap.lt_size e
 refine call3 pl1.isList pl2.isList pl3.isList λh' n hn gz gI gO n1 n2 n3 hk=>?_
 refine wpAny_pyIter_zip gz ?_
 have D:zjp (n+5) (n+3) (n+4) n (n+1) (n+2) p1 p2 p3:=zp8 (by rw[hn];exact a1) (by rw[hn];exact a2) (by rw[hn];exact a3)
 refine⟨_,_,_,_,H1,rfl,I1.kept (t':=s1.toks) hk,zqN D,⟨gz,gI,⟨_,_,_,gO⟩,n1,n2,n3⟩,λb hb=>?_,q⟩
 have hb':s1.heap.objs.size≤b:=by
  rw[← hn]
  simp only[ψc1,ψR,or_false] at hb
  rcases hb with h | h | h | h | h | h <;> rw[h] <;> first | exact ψm _ | exact Nat.le_add_right _ _
 exact I1.fpOk hb' (I1.hok.fresh hb')
end L2
namespace L2
open PySem PySem.Spec PyProof.Rows
section
variable {X:Cx}
def zt2(K:ψa):List V→Hp→VK→Prop:=λxs H Q=>∃(p:Addr) (ns:List Int),xs=[.ref p]∧SqL K H p (ns.map V.int)∧0<ns.length∧∀m,m∈ns→(∀a∈ns,a≤m)→Q (.int m) H
theorem zxU{ns:List Int}{i:Nat}(h:i<ns.length):ns.getD i 0∈ns:=by
 rw[zhY h]
 exact ψs1 h
theorem zwk{ns:List Int}{a:Int}(h:a∈ns):∃i,i<ns.length∧a=ns.getD i 0:=by
 obtain⟨i,hi,e⟩:=List.getElem_of_mem h
 exact⟨i,hi,by rw[zhY hi,e]⟩
theorem zmi(hc:X.calm=true):ziL X (.builtin "max") (zt2 X.K):=by
 intro pins s σ H xs us Q I r h
 obtain⟨p,ns,rfl,hl,hn,q⟩:=h
 obtain⟨u,rfl,ru⟩:=r.one
 cases ru
 obtain⟨its,rv,pl,_⟩:=I.list hl
 have l:=rv.length
 rw[ψb] at l
 obtain⟨o,n,e,_⟩:=id pl
 have hlt:=Heap.lt_size e
 have hne:p≠s.heap.objs.size:=ψs hlt
 refine call_max_walk (wpAny_pyIter_list pl.isList ?_)
 refine⟨s.heap.objs.size,_,_,_,_,_,_,rfl,Walks.list (A:=X.A.in1) (I.ok.hd hc) _ p hne its.toArray,⟨⟨_,Heap.get?_push_size _ rfl,rfl,rfl⟩,?_⟩,λb hb=>?_,by rw[ψg];(first|lia|omega),CmpOf.ints_gt (λi=>ns.getD i 0) (λi v hv=>zoe rv hv),λv h' tk hv hk=>?_⟩
 ·exact pl.isList.at λo e=>Heap.get?_push_of_some _ e
 ·rw[Heap.size_push]
  rcases List.mem_cons.mp hb with z | z
  ·rw[z];exact ψJ1 _
  ·have z':b=p:=by simpa using z
   rw[z'];exact ψT1 hlt
 ·obtain⟨t,rfl⟩:=zoe rv hv
  obtain⟨b1,b2⟩:=argBest_gt (λi=>ns.getD i 0) (its.toArray.size - 1)
  rw[ψg] at b1 b2
  refine⟨.int _,H,I.kept λb u eb=>hk b u (λz=>ψs (Heap.lt_size eb) (by simpa using z)) (Heap.get?_push_of_some _ eb),⟨t,rfl⟩,q _ (zxU (by rw[ψg];(first|lia|omega))) λa ha=>?_⟩
  obtain⟨j,hj,rfl⟩:=zwk ha
  exact b2 j (by (first|lia|omega))
end
end L2
namespace L2
open PySem PySem.Spec PyProof.Rows
section
variable {X:Cx}
theorem ztm:∀{xs:List V} {us:List Value},xs.length=us.length→(∀(j:Nat) x u,xs[j]?=some x→us[j]?=some u→zdt x u)→zcU xs us
 | [],[],_,_=>.nil
 | [],_::_,h,_=>by simp at h
 | _::_,[],h,_=>by simp at h
 | x::xs,u::us,h,r=>.cons (r 0 x u rfl rfl) (ztm (by simpa using h) λj y v e1 e2=>r (j+1) y v e1 e2)
end
end L2
namespace L2
open PySem PySem.Spec PyProof.Rows
section
variable {X:Cx}
theorem zpx:∀{ns:List Int} {us:List Value},zcU (ns.map V.int) us→IntsAre us ns
 | [],_,r=>by rw[ψp1] at r;cases r;exact .nil
 | n::ns,_,r=>by
  rw[ψu] at r
  cases r with
  | cons h t =>
   obtain⟨t',rfl⟩:=h
   exact .cons _ _ (zpx t)
theorem znc:∀{ns:List Int} {us:List Value},IntsAre us ns→zcU (ns.map V.int) us
 | _,_,.nil=>.nil
 | _,_,.cons n t r=>.cons ⟨t,rfl⟩ (znc r)
theorem zqq{pins:List (Addr×Obj)}{σ:St}{H:Hp}{s:Shared}{l:Addr}{h':Heap}{tk:Nat}{out:Array Value}{e:Nat}{ns':List Int}{Q:VK}(I:Inv X pins σ H s)(kp:∀b o,s.heap.get? b=some o→h'.get? b=some o)(hlt:s.heap.objs.size≤l)
  (ho:h'.get? l=some (seqObj "list" out e)) (hI:IntsAre out.toList ns') (hl:ns'.length<64) (q:H l=none→Q (.ref l) (upd H l (.lst (ns'.map V.int)))):EP X pins σ Q (.ref l) { s with heap:=h',toks:=tk }:=by
 refine⟨.ref l,_,I.laid (t':=tk) kp hlt (show zev X.prog X.w _ h' _ (.lst (ns'.map V.int)) from⟨?_,out.toList,e,znc hI,ho⟩),rfl,q (I.hok.fresh hlt)⟩
 rw[ψb,sizeLine_eq]
 (first|lia|omega)
end
end L2
namespace L2
open PySem PySem.Spec PyProof.Rows
theorem zjZ(K:ψa):ψX1 K (.type "tuple") (.type "list")=some false:=by first | rfl | kernel_rfl
theorem zle(K:ψa):ψX1 K (.type "int") (.type "tuple")=some false:=by first | rfl | kernel_rfl
theorem zmQ(K:ψa):ψX1 K (.type "int") (.type "list")=some false:=by first | rfl | kernel_rfl
theorem zsp{K:ψa}{H:Hp}{Q:VK}{x:V}{t c:String}{b:Bool}(h:zpn K H x (.type t))(e:ψX1 K (.type t) (.type c)=some b)(q:Q (.bl b) H):ziw K [x,.ty c] H Q:=⟨_,_,_,_,b,rfl,rfl,.of h,e,q⟩
end L2
namespace L2
open PySem PySem.Spec PyProof.Rows
def zoZ(scope sc:Scope):Scope :=
 { scope with names:=scope.names.map λ(n,k)=>if (k == .free&&sc.kind == .function&&sc.names.lookup n == some .cell) then (n,.cell) else (n,k) }
theorem zjI:∀(names:List (Str×NameKind)) (n:Addr) (a cl:List (Str×Addr)),cellsFrom n names (a++cl)=cellsFrom n names a++cl
 | [],n,a,cl=>by unfold cellsFrom;rfl
 | (x,k)::r,n,a,cl=>by
  unfold cellsFrom
  split
  ·exact zjI r (n+1) ((x,n)::a) cl
  ·exact zjI r n a cl
theorem zjL:∀(names:List (Str×NameKind)) (n:Addr) (a:List (Str×Addr)) (x:Str) (c:Addr),(x,c)∈cellsFrom n names a→(x,c)∈a∨(x,NameKind.cell)∈names
 | [],n,a,x,c,h=>by unfold cellsFrom at h;exact .inl h
 | (y,k)::r,n,a,x,c,h=>by
  unfold cellsFrom at h
  split at h
  ·rename_i hk
   rcases zjL r (n+1) ((y,n)::a) x c h with q | q
   ·rcases List.mem_cons.mp q with e | q
    ·cases e
     refine .inr ?_
     have:k=NameKind.cell:=by simpa using hk
     rw[this]
     exact ψf
    ·exact .inl q
   ·exact .inr (ψd _ q)
  ·rcases zjL r n a x c h with q | q
   ·exact .inl q
   ·exact .inr (ψd _ q)
theorem zmx{M:Model}{A:Around}{E:Value→Shared→Prop}{s:Shared}{scope:Scope}{globals:Addr}{cl:List (Str×Addr)}{qual:Str}{outer:Env}{Q:Env→Shared→Prop}
  (hQ:Q (newEnv scope s.heap.objs.size globals (cellsFrom (s.heap.objs.size+1) scope.names []++cl) qual none .none (some outer) builtinsNs) { s with heap:=pushCells (s.heap.push { cls:=.type "dict",data:=.dict #[] }) scope.names }) :
  wpAny M A (newFunctionEnv scope globals cl [] qual none .none (some outer)) Q E s:=by
 simp only[newFunctionEnv,Option.isSome_some,if_true]
 refine wpAny_bind (wpAny_alloc ?_)
 refine wpAny_bind (wpAny_layCells _ (λname kind cells=>by cases hkc:kind == NameKind.cell <;> simp[hkc]) _ _ _ _ ?_)
 rw[show({ s with heap:=s.heap.push { cls:=.type "dict",data:=.dict #[] } }:Shared).heap.objs.size=s.heap.objs.size+1 from Heap.size_push ..]
 have e:=zjI scope.names (s.heap.objs.size+1) [] cl
 rw[List.nil_append] at e
 rw[e]
 refine wpAny_bind ?_
 rw[List.forIn_nil]
 exact wpAny_pure (wpAny_pure hQ)
def Cx.blkC(X:Cx)(Nc:List Str)(scope:Scope)(cl:List (Str×Addr))(s:Shared)(H:Hp)(fp:List Addr):Cx:={ X with
 N:=Nc,s₀:=s,H₀:=H,env:=compEnvC scope (cellsFrom (s.heap.objs.size+1) scope.names []++cl) s.heap.objs.size X.env,outer:=X.stack,stack:=X.stack,ex:=fp,fn:=λx=>scope.names.lookup x == some .cell,pn:=[],xe:=λ_ _=>False }
theorem zv4{X:Cx}{Nc:List Str}{scope:Scope}{cl:List (Str×Addr)}{s:Shared}{H:Hp}{fp:List Addr}:(X.blkC Nc scope cl s H fp).env.scope=zoZ scope X.env.scope:=rfl
structure znj (sc:Scope) (N Nc:List Str) (cap:List (Option Nat)) (scope:Scope):Prop where
 kind:scope.kind=.function
 free:∀y∈scope.names,y.2=.free→sc.names.lookup y.1=some .cell∨sc.names.lookup y.1=some .free
 once:∀y∈scope.names,scope.names.lookup y.1=some y.2
 nd:Nc.Nodup
 len:cap.length=Nc.length
 cap:∀(i:Nat) (y:Str) (j:Nat),Nc[i]?=some y→cap[i]?=some (some j)→N[j]?=some y∧scope.names.lookup y=some .free
def zrp(sc:Scope)(N Nc:List Str)(cap:List (Option Nat))(scope:Scope):Bool :=
 scope.kind == .function&&scope.names.all (λy=>scope.names.lookup y.1 == some y.2&&(y.2 != .free || sc.names.lookup y.1 == some .cell || sc.names.lookup y.1 == some .free))&&decide Nc.Nodup&&cap.length == Nc.length
  && (Nc.zip cap).all λp=>p.2.all λj=>N[j]? == some p.1&&scope.names.lookup p.1 == some .free
theorem znj.of{sc:Scope}{N Nc:List Str}{cap:List (Option Nat)}{scope:Scope}(h:zrp sc N Nc cap scope=true):znj sc N Nc cap scope:=by
 unfold zrp at h
 simp only[ψL,beq_iff_eq,ψz1,bne_iff_ne,ne_eq,Bool.or_eq_true,decide_eq_true_eq] at h
 obtain⟨⟨⟨⟨h1,h2⟩,h3⟩,h4⟩,h5⟩:=h
 refine⟨h1,λy hy hf=>?_,λy hy=>(h2 y hy).1,h3,h4,λi y j e1 e2=>?_⟩
 ·rcases(h2 y hy).2 with (q | q) | q
  ·exact absurd hf q
  ·exact .inl q
  ·exact .inr q
 ·have m:(y,some j)∈Nc.zip cap:=by
   refine ψP (i:=i) ?_
   rw[ψK]
   exact⟨e1,e2⟩
  have z:=h5 _ m
  simpa using z
section
variable {X:Cx} {pins:List (Addr×Obj)} {σ:St} {H:Hp} {s:Shared}
structure zvM (scope:Scope) (cl:List (Str×Addr)) (L:Addr) (h1:Heap):Prop where
 look:∀x c,(cellsFrom (L+1) scope.names []++cl).lookup x=some c→(L<c∧h1.IsCell c none∧scope.names.lookup x=some .cell∧(cellsFrom (L+1) scope.names []).lookup x=some c)∨(cl.lookup x=some c∧(cellsFrom (L+1) scope.names []).lookup x=none)
 new:∀x,scope.names.lookup x=some .cell→∃c,(cellsFrom (L+1) scope.names []++cl).lookup x=some c
 old:∀x c,scope.names.lookup x=some .free→cl.lookup x=some c→(cellsFrom (L+1) scope.names []++cl).lookup x=some c
 inj:∀x y c,(cellsFrom (L+1) scope.names []).lookup x=some c→(cellsFrom (L+1) scope.names []).lookup y=some c→x=y
theorem zus{scope:Scope}{cl:List (Str×Addr)}{h:Heap}(once:∀y∈scope.names,scope.names.lookup y.1=some y.2):zvM scope cl h.objs.size (pushCells (h.push { cls:=.type "dict",data:=.dict #[] }) scope.names):=by
 have ok:=cellsFrom_ok scope.names (h.push { cls:=.type "dict",data:=.dict #[] }) (h.objs.size+1) [] ⟨λ_ _ hm=>(nomatch hm),List.Pairwise.nil⟩ (by rw[Heap.size_push];exact ψm _)
 rw[Heap.size_push] at ok
 have kinds:∀x c,(cellsFrom (h.objs.size+1) scope.names []).lookup x=some c→scope.names.lookup x=some .cell:=λx c e=>by
  rcases zjL _ _ _ _ _ (ψF e) with q | q
  ·cases q
  ·exact once _ q
 refine⟨λx c e=>?_,λx e=>?_,λx c e1 e2=>?_,λx y c e1 e2=>name_of_addr ok.apart (ψF e1) (ψF e2)⟩
 ·rw[List.lookup_append] at e
  cases q:(cellsFrom (h.objs.size+1) scope.names []).lookup x with
  | none=>rw[q] at e;exact .inr ⟨e,rfl⟩
  | some d =>
   rw[q] at e
   cases e
   obtain⟨o1,o2⟩:=ok.empty x c (ψF q)
   exact .inl ⟨o2,o1,kinds x c q,rfl⟩
 ·obtain⟨c,q⟩:=zi4 (n:=h.objs.size+1) e
  exact⟨c,by rw[List.lookup_append,q];rfl⟩
 ·rw[List.lookup_append]
  cases q:(cellsFrom (h.objs.size+1) scope.names []).lookup x with
  | none=>exact e2
  | some d =>
   have:=kinds x d q
   rw[e1] at this
   cases this
theorem ztN{Nc:List Str}{cap:List (Option Nat)}{scope:Scope}{cl:List (Str×Addr)}{fp:List Addr}{h1:Heap}{tk:Nat}{m1:Str→Option Value}(I:Inv X pins σ H s)(B:znj X.env.scope X.N Nc cap scope)
  (hsub:∀x c,cl.lookup x=some c→X.env.cells.lookup x=some c) (hfr:∀y∈scope.names,y.2=.free→∃c,cl.lookup y.1=some c) (hf:∀b∈fp,zmA X pins H b) (hin:∀b∈fp,b<s.heap.objs.size)
  (hk:∀b o,s.heap.get? b=some o→h1.get? b=some o) (hn:h1.Ns s.heap.objs.size m1) (C:zvM scope cl s.heap.objs.size h1):Inv (X.blkC Nc scope cl s H fp) [] (ztZ cap σ) H { s with heap:=h1,toks:=tk }:=by
 have ok:=I.ok
 have bsz:X.base.objs.size≤s.heap.objs.size:=ψd1 ok.bsz I.sz
 have oldlt:∀x c,cl.lookup x=some c→c<s.heap.objs.size:=λx c e=>by
  obtain⟨v,q⟩:=I.cell x c (hsub x c e)
  exact q.lt
 refine⟨⟨ok.mod,B.kind,ok.glob,ok.blt,ψm _,λx y c h1 h2=>?_,λx hx=>?_,λx c z e=>?_,ok.hd,ok.frames,.inl rfl,λb hb=>⟨ψs (hin b hb),λx c e=>?_⟩,
  I.bs,bsz,λb o e hb=>?_,λb hb z=>?_,I.stack,I.stkFree⟩,rfl,I.bare,Un.kept hk,⟨m1,hn,λi y v e1 e2 e3=>?_⟩,λx c e=>?_,I.hok.fresh (ψm _),λx c e=>?_,(by intro p hp;cases hp),I.hok.kept hk,?_⟩
 ·rcases C.look x c h1 with ⟨a1,_,_,a4⟩ | ⟨a,_⟩ <;> rcases C.look y c h2 with ⟨b1,_,_,b4⟩ | ⟨b,_⟩
  ·exact C.inj x y c a4 b4
  ·exact absurd (ψZ1 a1 (oldlt y c b)) (ψx1 _)
  ·exact absurd (ψZ1 b1 (oldlt x c a)) (ψx1 _)
  ·exact ok.inj x y c (hsub x c a) (hsub y c b)
 ·have fr:∀x,scope.names.lookup x=some .free→∃c,(cellsFrom (s.heap.objs.size+1) scope.names []++cl).lookup x=some c:=λx q=>by
   obtain⟨c,e⟩:=hfr (x,.free) (ψF q) rfl
   exact⟨c,C.old x c q e⟩
  have look:∀k,(relabel scope X.env).names.lookup x=some k→k=.cell∨k=.free→∃c,(cellsFrom (s.heap.objs.size+1) scope.names []++cl).lookup x=some c:=λk q hk=>by
   rcases zc6 q with ⟨n1,n2⟩ | ⟨_,n2 | n2⟩
   ·rcases hk with r | r
    ·exact absurd r n1
    ·rw[r] at n2
     exact fr x n2
   ·exact C.new x n2
   ·exact fr x n2
  rcases hx with q | q
  ·exact look _ q (.inl rfl)
  ·exact look _ q (.inr rfl)
 ·obtain⟨c3,q3⟩:=zi4 (n:=s.heap.objs.size+1) (show scope.names.lookup x=some .cell from beq_iff_eq.mp z)
  rcases C.look x c e with ⟨a1,_⟩ | ⟨_,b⟩
  ·exact Nat.le_of_lt a1
  ·rw[q3] at b
   cases b
 ·rcases C.look x c e with ⟨a1,_⟩ | ⟨a,_⟩
  ·exact ψM1 (ψZ1 (hin b hb) a1)
  ·exact(hf b hb).2.2.2.2.1 x c (hsub x c a)
 ·rcases(hf b hb).2.2.2.1 with q | q
  ·exact ok.noex b o e q
  ·exact absurd (ψp (Heap.lt_size e) (ψd1 ok.bsz q)) (ψx1 _)
 ·rcases List.mem_cons.mp (I.stkSub b z) with q | q
  ·exact(hf b hb).2.1 q
  ·exact(hf b hb).2.2.1 q
 ·have e2':(cap[i]?).map (λo=>o.bind λj=>(σ[j]?).join)=some (some v):=by rw[← ψt];exact e2
  obtain⟨o,ho,eo⟩:=Option.map_eq_some_iff.mp e2'
  obtain⟨j,rfl,ej⟩:=Option.bind_eq_some_iff.mp eo
  have ej':σ[j]?=some (some v):=by
   cases q:σ[j]? with
   | none=>rw[q] at ej;cases ej
   | some z=>rw[q] at ej;cases ej;rfl
  obtain⟨c1,c2⟩:=B.cap i y j e1 ho
  have vis:=B.free (y,.free) (ψF c2) rfl
  obtain⟨m,_,hl⟩:=I.loc
  obtain⟨u,r,lk⟩:=hl j y v c1 ej' (.inr vis)
  obtain⟨c',ec⟩:=hfr (y,.free) (ψF c2) rfl
  have ec2:=hsub _ _ ec
  rcases lk with ⟨kl,_⟩ | ⟨_,c,e,z⟩
  ·have kl':X.env.scope.names.lookup y=some .local:=kl
   rcases vis with q | q
   ·have q':X.env.scope.names.lookup y=some .cell:=q
    rw[kl'] at q';cases q'
   ·have q':X.env.scope.names.lookup y=some .free:=q
    rw[kl'] at q';cases q'
  ·have ecc:X.env.cells.lookup y=some c':=ec2
   rw[e] at ecc
   cases ecc
   refine⟨u,r,.inr ⟨?_,_,C.old y _ c2 ec,?_⟩⟩
   ·rcases e3 with q | q | q
    ·rcases zc6 q with ⟨_,n2⟩ | ⟨n1,_⟩
     ·rw[c2] at n2;cases n2
     ·cases n1
    ·exact .inl q
    ·exact .inr q
   ·obtain⟨o,ho,hd⟩:=z
    exact⟨o,hk _ _ ho,hd⟩
 ·rcases C.look x c e with ⟨_,a2,_⟩ | ⟨a,_⟩
  ·exact⟨none,a2⟩
  ·obtain⟨v,o,ho,hd⟩:=I.cell x c (hsub x c a)
   exact⟨v,o,hk _ _ ho,hd⟩
 ·rcases C.look x c e with ⟨a1,_⟩ | ⟨a,_⟩
  ·exact I.hok.fresh (Nat.le_of_lt a1)
  ·exact I.freeC x c (hsub x c a)
 ·show(ztZ cap σ).length=Nc.length
  rw[ztZ,ψb,B.len]
theorem zuE{Nc:List Str}{scope:Scope}{cl:List (Str×Addr)}{fp:List Addr}{σc:St}{Hc:Hp}{s':Shared}{h':Heap}(I:Inv X pins σ H s)(hf:∀b∈fp,zmA X pins H b)(J:Inv (X.blkC Nc scope cl s H fp) [] σc Hc s')
  (hs:Heap.SameBut s.heap.objs.size s'.heap h'):Inv X pins σ Hc { s' with heap:=h' }:=by
 have ne:∀b o,s.heap.get? b=some o→b≠s.heap.objs.size:=λb o e=>ψs (Heap.lt_size e)
 have u:=J.base
 refine I.call' (ch:=fp) J.os ⟨λb o e n hb hx=>(hs.2 b (ne b o e)).trans (u.keep b o e n hb hx),λb o e n hb hx=>?_,u.free,λb o e hx=>?_,u.tups,u.frzs,u.tbls⟩ (λb ob e=>?_) J.bare λb hb=>⟨(hf b hb).2.2.2.1,(hf b hb).2.1,(hf b hb).2.2.2.2.1,(hf b hb).2.2.2.2.2⟩
 ·obtain⟨sl,q⟩:=u.slot b o e n hb hx
  exact⟨sl,(hs.2 b (ne b o e)).trans q⟩
 ·obtain⟨o',q⟩:=u.there b o e hx
  exact⟨o',(hs.2 b (ne b o e)).trans q⟩
 ·have hC:Hc s.heap.objs.size=none:=J.free
  refine(J.hok b ob e).stay (λc w' hc q=>(hs.2 c ?_).trans q) (λ_ q=>q) λ_ _ q=>q
  rintro rfl
  rcases hc with z | hc
  ·rw[← z,hC] at e;cases e
  ·rw[hC] at hc;cases hc
end
theorem zp0{X:Cx}{pins:List (Addr×Obj)}{s:Shared}{σ:St}{H:Hp}{Q:VK}{sc:Scope}{N Nc:List Str}{cap:List (Option Nat)}{elt tg iter:Expr}{ifs:List Expr}{scope:Scope}{pos pos':Pos}{wi:TI}{g:TG}{tt:TT}{te:TE}{use:Option (Value→Sem Unit)}{QQ:Value→Shared→Prop}
  (hc:X.calm=true) (hsc:X.env.scope=sc) (hN:X.N=N) (B:znj sc N Nc cap scope) (hi:PI X tg iter wi)
  (hg:∀cl s H fp,PG (X.blkC Nc scope cl s H fp) tg g) (ht:∀cl s H fp,PTs (X.blkC Nc scope cl s H fp) ifs tt) (he:∀cl s H fp,PE (X.blkC Nc scope cl s H fp) elt te)
  (hs:∀x,foldedSetIterable iter X.env x=pure x) (I:Inv X pins σ H s) (h:zb3 wi g tt te cap σ H Q)
  (fin:∀(s3:Shared) (H3:Hp) (cl:List (Str×Addr)) (fp:List Addr) (D:Addr) (σc:St) (Hc:Hp) (s6:Shared),Inv X pins σ H3 s3→(∀b∈fp,zmA X pins H3 b)→Inv (X.blkC Nc scope cl s3 H3 fp) [] σc Hc s6→Q (.ref D) Hc→compPost (model X.prog X.w) X.A X.xe use QQ (.ref D) s3.heap.objs.size (.ok .next) s6) :
  wpAny (model X.prog X.w) X.A (comprehension (.ListComp elt [⟨tg,iter,ifs,0⟩] scope pos) scope X.env pos' (newList []) false (eval iter X.env) use) QQ X.xe s:=by
 subst hsc hN
 obtain⟨cl,hclos,hsub,hfr⟩:=zkr (scope:=scope) (env:=X.env) λy hy hf=>I.ok.has y.1 (B.free y hy hf)
 refine wpAny_comprehension_free (use:=use) rfl hs hclos B.kind (λy hy hl=>by rw[B.once y hy,hl]) (thn (hi pins s σ H _ I h) λv s1 h1=>thn h1 λitv s2 h2=>?_)
 obtain⟨it,fp,tn,J,H2,rfl,I2,T,st2,f2,hw⟩:=h2
 refine wpAny_newObj_type ?_
 have hfree:H2 s2.heap.objs.size=none:=I2.hok.fresh (ψm _)
 have I3:=I2.laid (t':=s2.toks) (o:=.lst []) (λb u e=>Heap.get?_push_of_some { cls:=.type "list",dict:=none,data:=.seq ([]:List Value).toArray } e) (ψm _) ⟨by decide,[],0,.nil,Heap.get?_push_size _ rfl⟩
 obtain⟨W,⟨m0,w0⟩,zp5⟩:=hw _ hfree
 have keep23:∀b o,s2.heap.get? b=some o→(s2.heap.push { cls:=.type "list",dict:=none,data:=.seq ([]:List Value).toArray }).get? b=some o:=λb o e=>Heap.get?_push_of_some _ e
 have hin:∀b∈fp,b<s2.heap.objs.size:=λb hb=>let ⟨o,e,_⟩:=T.obj 0 _ st2 b hb;Heap.lt_size e
 have f3:∀b∈fp,zmA X pins (upd H2 s2.heap.objs.size (.lst [])) b:=λb hb=>⟨by rw[zbg (ψs (hin b hb))];exact(f2 b hb).1,(f2 b hb).2⟩
 have st3:=T.keep 0 _ _ st2 λb _ o e=>keep23 b o e
 have hin3:∀b∈fp,b<(s2.heap.push { cls:=.type "list",dict:=none,data:=.seq ([]:List Value).toArray }).objs.size:=λb hb=>let ⟨o,e,_⟩:=T.obj 0 _ st3 b hb;Heap.lt_size e
 clear keep23 hin
 generalize s2.heap.push { cls:=.type "list",dict:=none,data:=.seq ([]:List Value).toArray }=h3 at I3 st3 hin3 ⊢
 generalize upd H2 s2.heap.objs.size (.lst [])=H3 at I3 f3 w0
 generalize s2.heap.objs.size=D at hfree w0 zp5 ⊢
 refine zmx ?_
 have Cc:=zus (scope:=scope) (cl:=cl) (h:=h3) B.once
 have keep:∀b o,h3.get? b=some o→(pushCells (h3.push { cls:=.type "dict",data:=.dict #[] }) scope.names).get? b=some o:=λb o e=>pushCells_keeps _ _ b o (Heap.get?_push_of_some _ e)
 have hns:(pushCells (h3.push { cls:=.type "dict",data:=.dict #[] }) scope.names).Ns h3.objs.size λ_=>none:=(Heap.Ns.new h3 (.type "dict")).keeps (pushCells_keeps _ _)
 dsimp only
 generalize pushCells (h3.push { cls:=.type "dict",data:=.dict #[] }) scope.names=h1 at Cc keep hns ⊢
 have I4:=ztN (tk:=s2.toks) I3 B hsub hfr f3 hin3 keep hns Cc
 have st4:=T.keep 0 _ _ st3 λb _ o e=>keep b o e
 have stat:∀{H':Hp},(∀b∈fp,H' b=none)→∀b∈fp,zmA (X.blkC Nc scope cl { s2 with heap:=h3,toks:=s2.toks } H3 fp) [] H' b:=λhn b hb =>
  ⟨hn b hb,ψs (hin3 b hb),λz=>by
   rcases List.mem_cons.mp (I3.stkSub b z) with q | q
   ·exact(f3 b hb).2.1 q
   ·exact(f3 b hb).2.2.1 q,.inl hb,λx c e=>by
   rcases Cc.look x c e with ⟨a1,_⟩ | ⟨a,_⟩
   ·exact ψM1 (ψZ1 (hin3 b hb) a1)
   ·exact(f3 b hb).2.2.2.2.1 x c (hsub x c a),by intro p hp;cases hp⟩
 have hcb:(X.blkC Nc scope cl { s2 with heap:=h3,toks:=s2.toks } H3 fp).calm=true:=hc
 have loop:codeAny (model X.prog X.w) X.A (.compLoop (.ListComp elt [⟨tg,iter,ifs,0⟩] scope pos) 0 (.ref it) (.ref D) (compEnvC scope (cellsFrom (h3.objs.size+1) scope.names []++cl) h3.objs.size X.env)) (compPost (model X.prog X.w) X.A X.xe use QQ (.ref D) h3.objs.size) { s2 with heap:=h1,toks:=s2.toks }:=by
  refine ziv (λn s'=>∃i σ' H',Inv (X.blkC Nc scope cl { s2 with heap:=h3,toks:=s2.toks } H3 fp) [] σ' H' s'∧tn i s'.heap∧(∀b∈fp,H' b=none)∧W i n σ' H') rfl ?_ m0 ⟨0,_,H3,I4,st4,λb hb=>(f3 b hb).1,w0⟩
  rintro n s5 ⟨i,σ5,H5,I5,st5,fr5,w5⟩
  rcases zp5 i n σ5 H5 w5 with ⟨stop,qn⟩ | ⟨go,N',hN',step⟩
  ·refine thn (T.done (X.blkC Nc scope cl { s2 with heap:=h3,toks:=s2.toks } H3 fp) rfl rfl rfl hcb i [] s5 σ5 H5 _ I5 (stat fr5) st5 stop) λr s6 hQ'=>?_
   obtain⟨hr,I6⟩:=hQ'
   subst hr
   exact fin { s2 with heap:=h3,toks:=s2.toks } H3 cl fp D σ5 H5 s6 I3 f3 I6 qn
  ·refine thn (T.item (X.blkC Nc scope cl { s2 with heap:=h3,toks:=s2.toks } H3 fp) rfl rfl rfl hcb i [] s5 σ5 H5 _ I5 (stat fr5) st5 go) λr s6 hQ'=>?_
   obtain⟨u,hr,h6⟩:=hQ'
   subst hr
   refine thn h6 λ_ s7 hQ'=>?_
   obtain⟨x,H7,I7,r7,y7,st7,fr7⟩:=hQ'
   have I7':=I7.pinned (stat fr7) (T.obj _ _ st7)
   refine wpAny_mono (hg cl _ H3 fp _ s7 σ5 H7 x u _ I7' r7 (step x H7 y7)) (λ_ s8 hQ'=>?_) λ_ _ z=>z.elim
   obtain⟨σ8,H8,I8,q8⟩:=hQ'
   have again:∀{H9:Hp} {s9:Shared} {m:Nat},Inv (X.blkC Nc scope cl { s2 with heap:=h3,toks:=s2.toks } H3 fp) ([]++zks fp s7.heap) σ8 H9 s9→m<n→W (i+1) m σ8 H9→∃m,m<n∧∃i σ' H',Inv (X.blkC Nc scope cl { s2 with heap:=h3,toks:=s2.toks } H3 fp) [] σ' H' s9∧tn i s9.heap∧(∀b∈fp,H' b=none)∧W i m σ' H':=fun {H9 s9 m} I9 hm w9=>by
    refine⟨m,hm,i+1,σ8,H9,I9.unpinned,T.keep _ _ _ st7 λb hb o e=>(I9.pin (b,o) (ψB _ (ψB _ (zeh hb e)))).1,λb hb=>?_,w9⟩
    obtain⟨o,e,d⟩:=T.obj _ _ st7 b hb
    exact(I9.pin (b,o) (ψB _ (ψB _ (zeh hb e)))).2.1
   refine wpAny_mono (ht cl _ H3 fp _ s8 σ8 H8 _ I8 q8) (λb s9 hQ'=>?_) λ_ _ z=>z.elim
   obtain⟨H9,I9,q9⟩:=hQ'
   cases b with
   | false =>
    rw[if_neg (by decide)] at q9
    obtain⟨m',hm,w9⟩:=hN' _ _ q9
    exact again I9 hm w9
   | true =>
    rw[if_pos rfl] at q9
    refine wpAny_mono (he cl _ H3 fp _ s9 σ8 H9 _ I9 q9) (λu s10 hQ'=>?_) λ_ _ z=>z.elim
    obtain⟨y,H10,I10,r10,q10⟩:=hQ'
    refine wpAny_mono (ze7 (X:=X.blkC Nc scope cl { s2 with heap:=h3,toks:=s2.toks } H3 fp) _ s10 σ8 H10 (.ref D) [y] (.ref D) [u] _ I10 rfl (.cons r10 .nil) q10) (λ_ s11 hQ'=>?_) λ_ _ z=>z.elim
    obtain⟨_,H11,I11,_,q11⟩:=hQ'
    obtain⟨m',hm,w11⟩:=hN' _ _ q11
    exact again I11 hm w11
 exact codeAny_compStart_list loop (T.self _ 0 _ _ _ st4 loop)
theorem zot{X:Cx}{i:Nat}{y:Str}{py spos:Pos}{sc:Scope}{N Nc:List Str}{cap:List (Option Nat)}{elt tg iter:Expr}{ifs:List Expr}{scope:Scope}{pos:Pos}{wi:TI}{g:TG}{tt:TT}{te:TE}(hnd:X.N.Nodup)(hix:X.N[i]?=some y)(hl:X.env.scope.names.lookup y=some .local)
  (hc:X.calm=true) (hsc:X.env.scope=sc) (hN:X.N=N) (B:znj sc N Nc cap scope) (hi:PI X tg iter wi)
  (hg:∀cl s H fp,PG (X.blkC Nc scope cl s H fp) tg g) (ht:∀cl s H fp,PTs (X.blkC Nc scope cl s H fp) ifs tt) (he:∀cl s H fp,PE (X.blkC Nc scope cl s H fp) elt te)
  (hsw:swapsWith (.ListComp elt [⟨tg,iter,ifs,0⟩] scope pos) (some (.Name y py)) spos.line X.env=pure true:=by rfl)
  (hs:∀x,foldedSetIterable iter X.env x=pure x:=by intro _;rfl):PS X (.Assign [.Name y py] (.ListComp elt [⟨tg,iter,ifs,0⟩] scope pos) spos) (zbO (zb3 wi g tt te cap) (zam i)):=by
 intro pins s σ H D0 I h
 rw[exec_Assign_Name_used _ _ _ _ hsw]
 refine wpAny_bind (wpAny_standAt (wpAny_bind (wpAny_bind (thn (zp0 (use:=some (assign (.Name y py) X.env)) (QQ:=λ_ s'=>SP X pins D0 .next s') hc hsc hN B hi hg ht he hs I h λs3 H3 cl fp D σc Hc s6 I3 f3 I6 q=>?_) λ_ s' hq=>wpAny_pure (wpAny_pure hq)))))
 have I6x:Inv X pins σ Hc s6:=zuE I3 f3 I6 (Heap.SameBut.refl ..)
 obtain⟨m,hn,_⟩:=id I6.loc
 have hC:Hc s3.heap.objs.size=none:=I6.free
 have fpC:=I3.fpOk (b:=s3.heap.objs.size) (ψm _) hC
 refine wpAny_assign_Name (zji I6x hnd hix (.inl hl) (v:=.ref D) rfl (λs7 I7 ch=>?_) (.inr hl))
 obtain⟨a,same,ha⟩:=ch
 have nC:s3.heap.objs.size≠a:=by
  rcases ha with r | r
  ·rw[r];exact fpC.2.1
  ·exact(fpC.2.2.2.2.1 _ _ r).symm
 refine⟨m,hn.sameBut same nC,λh' hs'=>⟨_,_,I7.turns (t':=s7.toks) (ch:=[s3.heap.objs.size]) (λb o hb e=>(hs'.2 b (by simpa using hb)).trans e) λb hb=>?_,q⟩⟩
 have e:b=s3.heap.objs.size:=by simpa using hb
 rw[e]
 exact fpC
end L2
namespace L2
open PySem
theorem zw1{v:V}{σ:List (Option V)}{H:Hp}{Q:VK}:zac 0 (some v::σ) H Q=Q v H:=by simp[zac]
theorem zw5{x0:Option V}{v:V}{σ:List (Option V)}{H:Hp}{Q:VK}:zac 1 (x0::some v::σ) H Q=Q v H:=by simp[zac]
theorem zwW{x0 x1:Option V}{v:V}{σ:List (Option V)}{H:Hp}{Q:VK}:zac 2 (x0::x1::some v::σ) H Q=Q v H:=by simp[zac]
theorem zwv{x0 x1 x2:Option V}{v:V}{σ:List (Option V)}{H:Hp}{Q:VK}:zac 3 (x0::x1::x2::some v::σ) H Q=Q v H:=by simp[zac]
theorem zxL{x0 x1 x2 x3:Option V}{v:V}{σ:List (Option V)}{H:Hp}{Q:VK}:zac 4 (x0::x1::x2::x3::some v::σ) H Q=Q v H:=by simp[zac]
theorem zwR{x0 x1 x2 x3 x4:Option V}{v:V}{σ:List (Option V)}{H:Hp}{Q:VK}:zac 5 (x0::x1::x2::x3::x4::some v::σ) H Q=Q v H:=by simp[zac]
theorem zwi{x0 x1 x2 x3 x4 x5:Option V}{v:V}{σ:List (Option V)}{H:Hp}{Q:VK}:zac 6 (x0::x1::x2::x3::x4::x5::some v::σ) H Q=Q v H:=by simp[zac]
theorem zxo{x0 x1 x2 x3 x4 x5 x6:Option V}{v:V}{σ:List (Option V)}{H:Hp}{Q:VK}:zac 7 (x0::x1::x2::x3::x4::x5::x6::some v::σ) H Q=Q v H:=by simp[zac]
theorem zxg{x0 x1 x2 x3 x4 x5 x6 x7:Option V}{v:V}{σ:List (Option V)}{H:Hp}{Q:VK}:zac 8 (x0::x1::x2::x3::x4::x5::x6::x7::some v::σ) H Q=Q v H:=by simp[zac]
theorem zwT{x0 x1 x2 x3 x4 x5 x6 x7 x8:Option V}{v:V}{σ:List (Option V)}{H:Hp}{Q:VK}:zac 9 (x0::x1::x2::x3::x4::x5::x6::x7::x8::some v::σ) H Q=Q v H:=by simp[zac]
theorem ztX{x0 x1 x2 x3 x4 x5 x6 x7 x8 x9:Option V}{v:V}{σ:List (Option V)}{H:Hp}{Q:VK}:zac 10 (x0::x1::x2::x3::x4::x5::x6::x7::x8::x9::some v::σ) H Q=Q v H:=by simp[zac]
theorem zu6{x0 x1 x2 x3 x4 x5 x6 x7 x8 x9 x10:Option V}{v:V}{σ:List (Option V)}{H:Hp}{Q:VK}:zac 11 (x0::x1::x2::x3::x4::x5::x6::x7::x8::x9::x10::some v::σ) H Q=Q v H:=by simp[zac]
theorem zuP{x0 x1 x2 x3 x4 x5 x6 x7 x8 x9 x10 x11:Option V}{v:V}{σ:List (Option V)}{H:Hp}{Q:VK}:zac 12 (x0::x1::x2::x3::x4::x5::x6::x7::x8::x9::x10::x11::some v::σ) H Q=Q v H:=by simp[zac]
theorem zur{x0 x1 x2 x3 x4 x5 x6 x7 x8 x9 x10 x11 x12:Option V}{v:V}{σ:List (Option V)}{H:Hp}{Q:VK}:zac 13 (x0::x1::x2::x3::x4::x5::x6::x7::x8::x9::x10::x11::x12::some v::σ) H Q=Q v H:=by simp[zac]
theorem zt0{x0:Option V}{v:V}{σ:List (Option V)}{H:Hp}{Q:St→Hp→Prop}:zam 0 v (x0::σ) H Q=Q (some v::σ) H:=rfl
theorem zuO{x0 x1:Option V}{v:V}{σ:List (Option V)}{H:Hp}{Q:St→Hp→Prop}:zam 1 v (x0::x1::σ) H Q=Q (x0::some v::σ) H:=rfl
theorem zuz{x0 x1 x2:Option V}{v:V}{σ:List (Option V)}{H:Hp}{Q:St→Hp→Prop}:zam 2 v (x0::x1::x2::σ) H Q=Q (x0::x1::some v::σ) H:=rfl
theorem ztP{x0 x1 x2 x3:Option V}{v:V}{σ:List (Option V)}{H:Hp}{Q:St→Hp→Prop}:zam 3 v (x0::x1::x2::x3::σ) H Q=Q (x0::x1::x2::some v::σ) H:=rfl
theorem ztJ{x0 x1 x2 x3 x4:Option V}{v:V}{σ:List (Option V)}{H:Hp}{Q:St→Hp→Prop}:zam 4 v (x0::x1::x2::x3::x4::σ) H Q=Q (x0::x1::x2::x3::some v::σ) H:=rfl
theorem zvn{x0 x1 x2 x3 x4 x5:Option V}{v:V}{σ:List (Option V)}{H:Hp}{Q:St→Hp→Prop}:zam 5 v (x0::x1::x2::x3::x4::x5::σ) H Q=Q (x0::x1::x2::x3::x4::some v::σ) H:=rfl
theorem zuL{x0 x1 x2 x3 x4 x5 x6:Option V}{v:V}{σ:List (Option V)}{H:Hp}{Q:St→Hp→Prop}:zam 6 v (x0::x1::x2::x3::x4::x5::x6::σ) H Q=Q (x0::x1::x2::x3::x4::x5::some v::σ) H:=rfl
theorem zu0{x0 x1 x2 x3 x4 x5 x6 x7:Option V}{v:V}{σ:List (Option V)}{H:Hp}{Q:St→Hp→Prop}:zam 7 v (x0::x1::x2::x3::x4::x5::x6::x7::σ) H Q=Q (x0::x1::x2::x3::x4::x5::x6::some v::σ) H:=rfl
theorem zva{x0 x1 x2 x3 x4 x5 x6 x7 x8:Option V}{v:V}{σ:List (Option V)}{H:Hp}{Q:St→Hp→Prop}:zam 8 v (x0::x1::x2::x3::x4::x5::x6::x7::x8::σ) H Q=Q (x0::x1::x2::x3::x4::x5::x6::x7::some v::σ) H:=rfl
theorem zuR{x0 x1 x2 x3 x4 x5 x6 x7 x8 x9:Option V}{v:V}{σ:List (Option V)}{H:Hp}{Q:St→Hp→Prop}:zam 9 v (x0::x1::x2::x3::x4::x5::x6::x7::x8::x9::σ) H Q=Q (x0::x1::x2::x3::x4::x5::x6::x7::x8::some v::σ) H:=rfl
theorem zrH{x0 x1 x2 x3 x4 x5 x6 x7 x8 x9 x10:Option V}{v:V}{σ:List (Option V)}{H:Hp}{Q:St→Hp→Prop}:zam 10 v (x0::x1::x2::x3::x4::x5::x6::x7::x8::x9::x10::σ) H Q=Q (x0::x1::x2::x3::x4::x5::x6::x7::x8::x9::some v::σ) H:=rfl
theorem zrQ{x0 x1 x2 x3 x4 x5 x6 x7 x8 x9 x10 x11:Option V}{v:V}{σ:List (Option V)}{H:Hp}{Q:St→Hp→Prop}:zam 11 v (x0::x1::x2::x3::x4::x5::x6::x7::x8::x9::x10::x11::σ) H Q=Q (x0::x1::x2::x3::x4::x5::x6::x7::x8::x9::x10::some v::σ) H:=rfl
theorem zqL{x0 x1 x2 x3 x4 x5 x6 x7 x8 x9 x10 x11 x12:Option V}{v:V}{σ:List (Option V)}{H:Hp}{Q:St→Hp→Prop}:zam 12 v (x0::x1::x2::x3::x4::x5::x6::x7::x8::x9::x10::x11::x12::σ) H Q=Q (x0::x1::x2::x3::x4::x5::x6::x7::x8::x9::x10::x11::some v::σ) H:=rfl
theorem zto{x0 x1 x2 x3 x4 x5 x6 x7 x8 x9 x10 x11 x12 x13:Option V}{v:V}{σ:List (Option V)}{H:Hp}{Q:St→Hp→Prop}:zam 13 v (x0::x1::x2::x3::x4::x5::x6::x7::x8::x9::x10::x11::x12::x13::σ) H Q=Q (x0::x1::x2::x3::x4::x5::x6::x7::x8::x9::x10::x11::x12::some v::σ) H:=rfl
theorem rI_c{C:Int→Int→Prop}{g:Int→Int→V}{a b:Int}{H:Hp}{Q:VK}:rI C g (.int a) (.int b) H Q=(C a b∧Q (g a b) H):=by simp[rI]
theorem rI0_c{g:Int→Int→V}{a b:Int}{H:Hp}{Q:VK}:rI0 g (.int a) (.int b) H Q=Q (g a b) H:=by simp[rI0]
theorem zzp{K:ψa}{p:Addr}{i:Int}{H:Hp}{Q:VK}:zfp K (.ref p) (.int i) H Q=∃xs,SqL K H p xs∧∃v,atI xs i=some v∧Q v H:=by simp[zfp]
theorem zzM{K:ψa}{p:Addr}{i:Int}{H:Hp}{Q:VK}:zbC K (.ref p) (.int i) H Q=∃xs,SqT K H p xs∧∃v,atI xs i=some v∧Q v H:=by simp[zbC]
theorem ex_bl{c:Bool}{Q:Bool→Prop}:(∃k,V.bl c=V.bl k∧Q k)=Q c:=by simp
theorem zy5{c:Int}{Q:Int→Prop}:(∃k,V.int c=V.int k∧Q k)=Q c:=by simp
theorem zy9{c:Addr}{Q:Addr→Prop}:(∃k,V.ref c=V.ref k∧Q k)=Q c:=by simp
theorem zzJ{c:Int}{Q:Int→Prop}:(∃k,[V.int c]=[V.int k]∧Q k)=Q c:=by simp
theorem zzv{c:Addr}{Q:Addr→Prop}:(∃k,[V.ref c]=[V.ref k]∧Q k)=Q c:=by simp
end L2
namespace Att
open PySem PySem.W PySem.Calls PyProof.Rows
theorem zjQ{x:Int}:∀{ns:List Int},x∈ns→WData.weight (.int x)≤WData.weightAll (ns.map WData.int)
 | [],h=>absurd h (ψR)
 | y::ns,h=>by
  rw[ψu,WData.weightAll]
  rcases List.mem_cons.mp h with e | e
  ·rw[← e]
   (first|lia|omega)
  ·have:=zjQ e
   (first|lia|omega)
theorem zxu{ns:List Int}(h:WData.layableAll [WData.list (ns.map WData.int)]=true):∀x∈ns,x.natAbs<2 ^ 2 ^ 20:=by
 intro x hx
 have h1:(WData.list (ns.map WData.int)).layable=true:=(layW_cons h).1
 have h2:WData.weight (.list (ns.map WData.int))≤2 ^ 20:=by
  unfold WData.layable at h1
  rw[ψL] at h1
  exact of_decide_eq_true h1.2
 rw[WData.weight] at h2
 have h3:=ψd1 (zjQ hx) h2
 rw[WData.weight] at h3
 by_cases h0:x=0
 ·subst h0
  exact Nat.two_pow_pos _
 ·rw[if_neg (by simpa using h0)] at h3
  have hn:x.natAbs≠0:=λe=>h0 (Int.natAbs_eq_zero.mp e)
  exact(Nat.log2_lt hn).mp h3
theorem attach_callL{l:OpenLaw}{n:Nat}{q:Program}{loose:List Str}{XP:(Str→Option Value)→Heap→Prop}{YP:World→Heap→Prop}{d:DefRec}
  (hn:l.most=some n) (hdf:d.params.defaults=[])
  (call:∀(w:World) (s₀ s₁:Shared) (mg mb:Str→Option Value) (fa:Addr) (o:Obj) (pm cd doc:Value) (a:Addr) (vs:List Value) (ns:List Int),(∀x∈ns,x.natAbs<2 ^ 2 ^ 20) →
   Ground q loose [] XP w s₀ mg mb s₁.heap→YP w s₁.heap →
   s₁.heap.get? fa=some o→o.data=.func (docDef d.name d.params d.body d.scope pm cd doc)→s₁.heap.CodeRec cd d.name→mg d.name=some (.ref fa) →
   s₁.heap.get? a=some { cls:=.type "list",data:=.seq vs.toArray }→IntsAre vs ns→ns.length≤n→s₁.gens=#[] →
   codeAny (model l.prog w) callerA (.call (.ref fa) ⟨[.ref a],[]⟩) (λr s'=>r=.ok (.ret (.bool true))∧OldK s₁.heap s'.heap∧s'.os=s₁.os∧AllBare s'.gens) s₁) :
  WalkO q loose XP YP l.row.toRowW d [] (λf vs=>PySem.call f vs):=by
 intro w s₀ s₁ mg mb G Y fa o pm cd doc dV kV ho hd hcd hD hmg hg args vals as hpre hlay hrd hwl hlo
 obtain rfl:dV=.none:=Dflts.none hD hdf
 obtain rfl:kV=.none:=Dflts.noKw hD
 obtain⟨a,vs,ns,rfl,rfl,hobj,hints,hlen⟩:=zrn hn hpre hwl
 refine enter_call (codeAny_mono (call w s₀ s₁ mg mb fa o pm cd doc a vs ns (zxu hlay) G Y ho (fd_plain hd) hcd hmg hobj hints hlen hg) λr s' hq=>?_)
 obtain⟨rfl,h2,h3,h4⟩:=hq
 exact⟨.inl ⟨.bool true,.bool true,[],rfl,λ_=>rfl,.bool true,zqy l _,λ_=>⟨List.Pairwise.nil,λ_ hm=>(nomatch hm)⟩⟩,h2,h3,h4⟩
end Att
namespace L2
open PySem PySem.Spec PyProof.Rows
theorem zvb{l:PySem.W.OpenLaw}{n k:Nat}{q:Program}{loose:List Str}{XP:(Str→Option Value)→Heap→Prop}{YP:World→Heap→Prop}{d:DefRec}{K:Params→ψa}{CX:World→CXT}{sp:World→Sp}{x:Str}
  (hn:l.most=some n) (hn2:n≤sizeLine) (hdf:d.params.defaults=[]) (hr:zkW k callerA)
  (hY:∀(w:World) (h:Heap),YP w h→(K w.params).In h)
  (F:∀(w:World) (mg:Str→Option Value) (fa:Addr) (h:Heap),(K w.params).In h→h.Ns mainGlobals mg→mg d.name=some (.ref fa) →
   ∃fd:FuncData,(∀(s:Shared) (u:Value),BindsTo s fd ⟨[u],[]⟩ [(x,u)]) ∧
    ∀base:Heap,(K w.params).In base→base.Ns mainGlobals mg→zcn l.prog w (K w.params) mg base (CX w) k fa fd [x] (sp w))
  (hsp:∀(w:World) (H:Hp) (a:Addr) (ns:List Int),(∀x∈ns,x.natAbs<2 ^ 2 ^ 20)→ns.length≤n→Only H→SqL (K w.params) H a (ns.map V.int)→sp w [.ref a] H (λv _=>v=.bl true) λ_ _ _=>False)
  (hCX:∀(w:World) (H:Hp) (s:Shared) (e:Value) (s':Shared),CX w [] H s (λ_ _ _=>False) e s'→False) :
  PySem.W.WalkO q loose XP YP l.row.toRowW d [] (λf vs=>PySem.call f vs):=by
 refine Att.attach_callL hn hdf λw s₀ s₁ mg mb fa o pm cd doc a vs ns hb0 G Y ho hd hcd hmg hobj hints hlen hg=>?_
 have KX:=hY w _ Y
 obtain⟨fd,hb,hF⟩:=F w mg fa _ KX G.T.g hmg
 exact zuI KX G.T.g G.T.b G.T.builtins G.T.nolimit hg hobj hints (ψd1 hlen hn2) hr hF hb (λH hO hS=>hsp w H a ns hb0 hlen hO hS) λH e s'=>hCX w H s₁ e s'
end L2
namespace L2
open PySem PySem.Spec PyProof.Rows
def zwM(K:ψa):R2:=λx y H Q=>rNe x y H Q∨rNeD K x y H Q
section
variable {X:Cx}
theorem zxy(hu:X.A.units+64<cLine):OpR X (compareOp .NotEq) (zwM X.K):=by
 intro pins s σ H x y v u Q I rx ry h
 rcases h with h | h
 ·exact ziK pins s σ H x y v u Q I rx ry h
 ·exact zvB hu pins s σ H x y v u Q I rx ry h
end
end L2
namespace L2.St
open PySem
def it(m:Nat):Nat→Nat→Nat
 | 0,x=>x
 | n+1,x=>it m n ((x*5+1) % m)
def orb(m:Nat):Nat→Nat→List Nat
 | 0,_=>[]
 | n+1,x=>x::orb m n ((x*5+1) % m)
theorem zoY(m:Nat):∀a b x,it m (a+b) x=it m b (it m a x)
 | 0,b,x=>by rw[ψN1];rfl
 | a+1,b,x=>by rw[Nat.succ_add];exact zoY m a b _
theorem zow{m j:Nat}:∀{n x},j∈orb m n x→∃k,k<n∧it m k x=j
 | 0,x,h=>by simp[orb] at h
 | n+1,x,h=>by
  rcases List.mem_cons.mp h with rfl | h
  ·exact⟨0,Nat.succ_pos _,rfl⟩
  ·obtain⟨k,h1,h2⟩:=zow h
   exact⟨k+1,by (first|lia|omega),h2⟩
def Msk(M:Nat):Prop:=M=7∨M=31∨M=127∨M=511
theorem zxT{M:Nat}(h:Msk M):(∀j,j<M+1→j∈orb (M+1) (M+1) 0)∧it (M+1) (M+1) 0=0:=by
 have key:∀m,((ψF1 m).all λj=>(orb m m 0).contains j)=true→∀j,j<m→j∈orb m m 0:=λm e j hj=>by
  have:=List.all_eq_true.mp e j (List.mem_range.mpr hj)
  simpa using this
 rcases h with rfl | rfl | rfl | rfl
 ·exact⟨key 8 (by decide +kernel),by decide +kernel⟩
 ·exact⟨key 32 (by decide +kernel),by decide +kernel⟩
 ·exact⟨key 128 (by decide +kernel),by decide +kernel⟩
 ·exact⟨key 512 (by decide +kernel),by decide +kernel⟩
theorem zx4{M:Nat}(h:Msk M){x j:Nat}(hx:x<M+1)(hj:j<M+1):∃n,n<M+1∧it (M+1) n x=j:=by
 obtain⟨h1,h2⟩:=zxT h
 obtain⟨a,a1,rfl⟩:=zow (h1 x hx)
 obtain⟨b,b1,rfl⟩:=zow (h1 j hj)
 by_cases c:a≤b
 ·exact⟨b - a,by (first|lia|omega),by rw[← zoY,Nat.add_sub_cancel' c]⟩
 ·refine⟨M+1 - a+b,by (first|lia|omega),?_⟩
  rw[← zoY,show a+(M+1 - a+b)=(M+1)+b by (first|lia|omega),zoY,h2]
def lp(M:Nat):Nat→Nat×Nat→Nat×Nat
 | 0,s=>s
 | n+1,s=>lp M n (SetTable.leap M s.1 s.2)
theorem zv0(M:Nat):∀a b s,lp M (a+b) s=lp M b (lp M a s)
 | 0,b,s=>by rw[ψN1];rfl
 | a+1,b,s=>by rw[Nat.succ_add];exact zv0 M a b _
theorem zvx(M:Nat):∀n s,(lp M n s).2=s.2 / 32 ^ n
 | 0,s=>by simp[lp]
 | n+1,s=>by
  show(lp M n _).2=_
  rw[zvx M n,SetTable.leap,Nat.div_div_eq_div_mul,Nat.pow_succ,Nat.mul_comm]
theorem zzb(M:Nat):∀n s,s.1<M+1→(lp M n s).1<M+1
 | 0,s,h=>h
 | n+1,s,h=>zzb M n _ (Nat.mod_lt _ (Nat.succ_pos _))
theorem zqX(M:Nat):∀n x,(lp M n (x,0)).1=it (M+1) n x
 | 0,x=>rfl
 | n+1,x=>by
  show(lp M n ((x*5+1+0 / 32) % (M+1),0 / 32)).1=it (M+1) n ((x*5+1) % (M+1))
  rw[Nat.zero_div,Nat.add_zero,zqX M n]
theorem zvY{M:Nat}(h:Msk M){x p j:Nat}(hx:x<M+1)(hp:p<2 ^ 64)(hj:j<M+1):∃n,n≤M+13∧(lp M n (x,p)).1=j:=by
 have e:lp M 13 (x,p)=((lp M 13 (x,p)).1,0):=by
  refine Prod.ext rfl ?_
  rw[zvx]
  exact Nat.div_eq_of_lt (ψZ1 hp (by decide))
 obtain⟨n,n1,n2⟩:=zx4 h (zzb M 13 (x,p) hx) hj
 refine⟨13+n,by (first|lia|omega),?_⟩
 rw[zv0,e,zqX]
 exact n2
theorem zrC(h:Int):SetTable.bits h<2 ^ 64:=by
 unfold SetTable.bits
 have:=Int.emod_lt_of_pos h (show(0:Int)<2 ^ 64 by decide)
 have:=Int.emod_nonneg h (show(2 ^ 64:Int)≠0 by decide)
 (first|lia|omega)
def zk7(t:SetTable)(s:Nat×Nat):SetTable.Probe:={ j:=s.1,more:=SetTable.runEnd t.mask s.1 - s.1,i:=s.1,perturb:=s.2,dummy:=none }
def adv(t:SetTable):Nat→SetTable.Probe→SetTable.Probe
 | 0,p=>p
 | n+1,p=>adv t n (t.advance p)
theorem zs9(t:SetTable):∀a b p,adv t (a+b) p=adv t b (adv t a p)
 | 0,b,p=>by rw[ψN1];rfl
 | a+1,b,p=>by rw[Nat.succ_add];exact zs9 t a b _
theorem zrN(t:SetTable):∀k j i q,adv t (k+1) { j:=j,more:=k,i:=i,perturb:=q,dummy:=none }=zk7 t (SetTable.leap t.mask i q)
 | 0,j,i,q=>by simp[adv,SetTable.advance,zk7]
 | k+1,j,i,q=>by
  show adv t (k+1) (t.advance _)=_
  rw[show t.advance { j:=j,more:=k+1,i:=i,perturb:=q,dummy:=none }={ j:=j+1,more:=k,i:=i,perturb:=q,dummy:=none } by simp[SetTable.advance]]
  exact zrN t k (j+1) i q
def Reach(t:SetTable)(n:Nat)(p:SetTable.Probe):Prop:=∃r,r≤n∧t.slot (adv t r p).j=.empty
theorem zpz{t:SetTable}:∀{n s},t.slot (lp t.mask n s).1=.empty→Reach t (10*n) (zk7 t s)
 | 0,s,h=>⟨0,ψm _,h⟩
 | n+1,s,h=>by
  obtain⟨r,r1,r2⟩:=zpz (n:=n) (s:=SetTable.leap t.mask s.1 s.2) h
  have hm:SetTable.runEnd t.mask s.1 - s.1≤9:=by unfold SetTable.runEnd;split <;> (first|lia|omega)
  refine⟨SetTable.runEnd t.mask s.1 - s.1+1+r,by (first|lia|omega),?_⟩
  rw[zs9,zk7,zrN]
  exact r2
theorem zvr:∀(m:Nat) (l:List Nat),(∀j,j<m→j∈l)→m≤l.length
 | 0,l,h=>ψu1 _
 | m+1,l,h=>by
  have hm:=h m (ψJ1 m)
  have:=zvr m (l.erase m) λj hj=>(List.mem_erase_of_ne (by (first|lia|omega))).mpr (h j (by (first|lia|omega)))
  rw[List.length_erase_of_mem hm] at this
  have:0<l.length:=List.length_pos_of_mem hm
  (first|lia|omega)
theorem slot_cases{t:SetTable}(hd:t.dummies=#[])(j:Nat):t.slot j=.empty∨∃i,t.slot j=.live i∧t.place[i]?=some j:=by
 unfold SetTable.slot
 rw[hd]
 by_cases c:(t.place[SetTable.below t.place j]? == some j)=true
 ·exact .inr ⟨_,by rw[if_pos c],by simpa using c⟩
 ·left
  rw[if_neg c]
  simp[SetTable.has]
theorem zp4{t:SetTable}(hd:t.dummies=#[])(hl:t.place.size<t.mask+1):∃j,j<t.mask+1∧t.slot j=.empty:=by
 refine ψE λhn=>?_
 have:=zvr (t.mask+1) t.place.toList λj hj=>by
  rcases slot_cases hd j with h | ⟨i,_,h⟩
  ·exact absurd ⟨j,hj,h⟩ hn
  ·rw[← Array.getElem?_toList] at h
   exact ψP h
 rw[Array.length_toList] at this
 (first|lia|omega)
theorem reach_start{t:SetTable}(hM:Msk t.mask)(hd:t.dummies=#[])(hl:t.place.size<t.mask+1)(h:Int):Reach t (10*(t.mask+13)) (t.probeStart h):=by
 obtain⟨j,j1,j2⟩:=zp4 hd hl
 obtain⟨n,n1,n2⟩:=zvY hM (x:=SetTable.bits h % (t.mask+1)) (Nat.mod_lt _ (Nat.succ_pos _)) (zrC h) j1
 obtain⟨r,r1,r2⟩:=zpz (t:=t) (n:=n) (s:=(SetTable.bits h % (t.mask+1),SetTable.bits h)) (by rw[n2];exact j2)
 exact⟨r,by (first|lia|omega),r2⟩
theorem adv_dummy(t:SetTable)(p:SetTable.Probe):(t.advance p).dummy=p.dummy:=by
 unfold SetTable.advance
 split
 ·rfl
 ·rfl
theorem zl8{M:Nat}{ow:Array (Option Nat)}:∀(fuel i p n:Nat),n<fuel→ow.getD (lp M n (i,p)).1 (some 0)=none→∃j,SetTable.layClean.free M ow fuel i p=some j∧ow.getD j (some 0)=none
 | 0,i,p,n,h,_=>by (first|lia|omega)
 | fuel+1,i,p,n,h,e=>by
  rw[SetTable.layClean.free]
  cases c:(ψF1 (SetTable.runEnd M i+1 - i)).find? λk=>(ow.getD (i+k) (some 0)).isNone with
  | some k =>
   have:=List.find?_some c
   exact⟨i+k,rfl,by simpa using this⟩
  | none =>
   match n,h,e with
   | 0,_,e =>
    have:=List.find?_eq_none.mp c 0 (List.mem_range.mpr (by unfold SetTable.runEnd;split <;> (first|lia|omega)))
    rw[Nat.add_zero,show ow.getD i (some 0)=none from e] at this
    simp at this
   | n+1,h,e=>exact zl8 fuel _ _ n (by (first|lia|omega)) e
def Own(M:Nat)(ow:Array (Option Nat))(k:Nat):Prop:=ow.size=M+1∧ow.toList.countP Option.isSome=k∧∀v,some v∈ow.toList→v<k
theorem getD_lt{ow:Array (Option Nat)}{j:Nat}(h:ow.getD j (some 0)=none):∃hj:j<ow.size,ow[j]=none:=by
 by_cases c:j<ow.size
 ·exact⟨c,by simpa [Array.getD,c] using h⟩
 ·simp[Array.getD,c] at h
theorem zvk{M:Nat}(hM:Msk M){ow:Array (Option Nat)}{k:Nat}(o:Own M ow k)(hk:k<M+1)(h:Int):∃j,SetTable.layClean.free M ow (SetTable.turns M) (SetTable.bits h % (M+1)) (SetTable.bits h)=some j∧Own M (ow.setIfInBounds j (some k)) (k+1):=by
 obtain⟨o1,o2,o3⟩:=o
 have ex:∃j,j<M+1∧ow.getD j (some 0)=none:=by
  refine ψE λhn=>?_
  have:ow.toList.countP Option.isSome=ow.toList.length:=by
   rw[List.countP_eq_length]
   intro v hv
   cases v with
   | some v=>rfl
   | none =>
    obtain⟨j,hj,e⟩:=List.mem_iff_getElem.mp hv
    rw[Array.length_toList] at hj
    exact absurd ⟨j,by (first|lia|omega),by simpa [Array.getD,hj] using e⟩ hn
  rw[Array.length_toList] at this
  (first|lia|omega)
 obtain⟨j,j1,j2⟩:=ex
 obtain⟨n,n1,n2⟩:=zvY hM (x:=SetTable.bits h % (M+1)) (Nat.mod_lt _ (Nat.succ_pos _)) (zrC h) j1
 obtain⟨j',f1,f2⟩:=zl8 (M:=M) (ow:=ow) (SetTable.turns M) _ _ n (by unfold SetTable.turns;(first|lia|omega)) (by rw[n2];exact j2)
 obtain⟨hj,ej⟩:=getD_lt f2
 refine⟨j',f1,by simpa using o1,?_,?_⟩
 ·rw[Array.toList_setIfInBounds,List.countP_set (by simpa using hj)]
  rw[show ow.toList[j']=none from by simpa using ej,o2]
  simp
 ·intro v hv
  rw[Array.toList_setIfInBounds] at hv
  rcases List.mem_or_eq_of_mem_set hv with hv | hv
  ·exact ψT1 (o3 v hv)
  ·cases hv;exact ψJ1 _
theorem fold_ok{M:Nat}(hM:Msk M):∀(hs:List Int) (ow:Array (Option Nat)) (k:Nat),Own M ow k→k+hs.length<M+1 →
  ∃ow',(hs.foldl (λ(acc:Option (Array (Option Nat)×Nat)) h=>do
   let (owner,k) ← acc
   let j ← SetTable.layClean.free M owner (SetTable.turns M) (SetTable.bits h % (M+1)) (SetTable.bits h)
   pure (owner.setIfInBounds j (some k),k+1)) (some (ow,k)))=some (ow',k+hs.length)∧Own M ow' (k+hs.length)
 | [],ow,k,o,_=>⟨ow,rfl,o⟩
 | h::hs,ow,k,o,hl=>by
  rw[ψM] at hl
  obtain⟨j,e1,e2⟩:=zvk hM o (by (first|lia|omega)) h
  obtain⟨ow',a,b⟩:=fold_ok hM hs _ _ e2 (by (first|lia|omega))
  refine⟨ow',?_,by rw[ψM,show k+(hs.length+1)=k+1+hs.length by (first|lia|omega)];exact b⟩
  rw[List.foldl_cons,ψM,show k+(hs.length+1)=k+1+hs.length by (first|lia|omega),← a]
  simp[e1]
theorem relaid_ok{t:SetTable}{hs:Array Int}{wanted:Nat}(hM:Msk (SetTable.sizeAbove wanted - 1))(hl:hs.size<SetTable.sizeAbove wanted - 1+1) :
  ∃t' ord,t.relaid hs wanted=some (t',ord)∧t'.mask=SetTable.sizeAbove wanted - 1∧t'.dummies=#[]∧t'.place.size=hs.size∧t'.led=t.led∧ord.size=hs.size∧∀v∈ord.toList,v<hs.size:=by
 obtain⟨ow,a,o1,o2,o3⟩:=fold_ok hM hs.toList (Array.replicate (SetTable.sizeAbove wanted - 1+1) none) 0 ⟨by simp,by simp[List.countP_replicate],by simp⟩ (by simpa using hl)
 rw[ψN1,Array.length_toList] at o2 o3
 unfold SetTable.relaid SetTable.laid SetTable.layClean
 rw[← Array.foldl_toList,a]
 have len:((ψF1 (SetTable.sizeAbove wanted - 1+1)).filterMap λj=>(ow.getD j none).map (j,·)).length=hs.size:=by
  rw[List.length_filterMap_eq_countP,← o2,← o1]
  have:ow.toList=(ψF1 ow.size).map λj=>ow.getD j none:=by
   apply List.ext_getElem
   ·simp
   ·intro i h1 h2
    simp at h1
    simp[Array.getD,h1]
  rw[this,List.countP_map]
  congr 1
  funext j
  simp
 refine⟨_,_,rfl,rfl,rfl,by simpa using len,rfl,by simpa using len,λv hv=>?_⟩
 rw[List.toList_toArray,List.mem_map] at hv
 obtain⟨⟨j,v'⟩,hm,rfl⟩:=hv
 obtain⟨j',_,e⟩:=List.mem_filterMap.mp hm
 refine o3 v' ?_
 cases c:ow.getD j' none with
 | none=>rw[c] at e;simp at e
 | some u =>
  rw[c] at e
  simp at e
  have:j'<ow.size:=by
   refine ψE λhn=>?_
   simp[Array.getD,hn] at c
  rw[← e.2,← c]
  simp[Array.getD,this]
end L2.St
namespace L2.St
open PySem
section
variable {P:Program} {w:World} {A:Around} {E:Value→Shared→Prop} {s:Shared}
end
end L2.St
namespace L2.St
open PySem
theorem ins_size{α:Type}(xs:Array α)(p:Nat)(x:α):(SetTable.insertAt xs p x).size=xs.size+1:=by
 unfold SetTable.insertAt
 simp only[Array.size_append,Array.size_push,Array.size_extract]
 (first|lia|omega)
theorem put_ok{t:SetTable}{j:Nat}(hd:t.dummies=#[]):(t.put j).1.dummies=#[]∧(t.put j).1.place.size=t.place.size+1∧(t.put j).1.mask=t.mask:=by
 unfold SetTable.put
 refine⟨?_,ins_size _ _ _,rfl⟩
 dsimp only
 rw[hd]
 simp[SetTable.has]
section
variable {P:Program} {w:World} {A:Around} {E:Value→Shared→Prop} {s:Shared}
theorem grow{M n:Nat}(hM:Msk M)(h1:n*5<M*3)(h2:(n+1)*5≥M*3)(hz:n<300):Msk (SetTable.sizeAbove (SetTable.grown (n+1)) - 1)∧(n+1)*5<(SetTable.sizeAbove (SetTable.grown (n+1)) - 1)*3∧¬ SetTable.sizeAbove (SetTable.grown (n+1)) > sizeLine:=by
 rcases hM with rfl | rfl | rfl | rfl
 ·obtain rfl:n=4:=by (first|lia|omega)
  exact⟨.inr (.inl rfl),by decide,by decide⟩
 ·obtain rfl:n=18:=by (first|lia|omega)
  exact⟨.inr (.inr (.inl rfl)),by decide,by decide⟩
 ·obtain rfl:n=76:=by (first|lia|omega)
  exact⟨.inr (.inr (.inr rfl)),by decide,by decide⟩
 ·(first|lia|omega)
theorem lay_self{h:Heap}{S:Addr}{es es':Array (Int×Value)}{ep:Nat}{t t':SetTable}(T:h.get? S=some { cls:=.type "set",dict:=none,data:=.set es ep t,slots:=#[] }) :
  (h.update S (Obj.putSet es' t')).get? S=some { cls:=.type "set",dict:=none,data:=.set es' (ep+1) t',slots:=#[] }:=by
 have:=Heap.get?_update_self (Obj.putSet es' t') T (by rw[putSet_of es' t' rfl];rfl)
 rw[putSet_of es' t' rfl] at this;exact this
end
end L2.St
namespace L2.St
open PySem PySem.Spec
def kk(key:Nat→List Int)(ad:Nat→Addr):Nat→List (List Int×Addr)
 | 0=>[]
 | i+1=>(key i,ad i)::kk key ad i
section
variable {P:Program} {w:World} {A:Around} {E:Value→Shared→Prop} {s:Shared}
end
end L2.St
namespace L2
open PySem PySem.Spec PyProof.Rows
section
variable {X:Cx} {pins:List (Addr×Obj)} {s:Shared} {σ:St} {H:Hp}
variable {e:Expr} {t:TA} {p1 p2 pos1 pos2:Pos}
end
end L2
namespace L2.Sw
open PySem PySem.Spec PyProof.Rows
theorem zik:Slot "set_iterator" "__next__" "set_iterator.__next__":=by
 refine .of (owner:="set_iterator") (n:="__next__") (by rw[typeLookup_type,builtinLookup_eq_fast];kernel_rfl) ?_ ?_ ?_ ?_ (by rw[isSubtype_type];kernel_rfl)
 ·decide +kernel
 ·decide +kernel
 ·decide +kernel
 ·first | exact .inl (by decide +kernel) | exact .inr (by decide +kernel)
theorem zrf:Slot "set_iterator" "__iter__" "set_iterator.__iter__":=by
 refine .of (owner:="set_iterator") (n:="__iter__") (by rw[typeLookup_type,builtinLookup_eq_fast];kernel_rfl) ?_ ?_ ?_ ?_ (by rw[isSubtype_type];kernel_rfl)
 ·decide +kernel
 ·decide +kernel
 ·decide +kernel
 ·first | exact .inl (by decide +kernel) | exact .inr (by decide +kernel)
theorem zrb:entryFor table "set_iterator.__next__"=some Builtin.«set_iterator.__next__»:=entryFor_of_tree (by kernel_rfl)
theorem zyV:Manifest.owners.lookup (String.ofList "rotareti_tes".toList.reverse)=some Manifest.sig_set_iterator:=by kernel_rfl
theorem zrP(v:Value):argsOk "set_iterator.__next__" ⟨[v],[]⟩:=by
 unfold argsOk
 rw[signature?_of (id:="set_iterator.__next__") (n:="__txen__".toList) (o:="rotareti_tes".toList) (by kernel_rfl) zyV]
 kernel_rfl
theorem zw6:entryFor table "set.__iter__"=some Builtin.«frozenset.__iter__»:=entryFor_alias (id':="frozenset.__iter__") (by kernel_rfl) rfl (by decide +kernel) (by kernel_rfl)
theorem zuc:entryFor table "set_iterator.__iter__"=some Builtin.«dict_keyiterator.__iter__»:=entryFor_alias (id':="dict_keyiterator.__iter__") (by kernel_rfl) rfl (by decide +kernel) (by kernel_rfl)
theorem zvc(v:Value):argsOk "set_iterator.__iter__" ⟨[v],[]⟩:=by
 unfold argsOk
 rw[signature?_of (id:="set_iterator.__iter__") (n:="__reti__".toList) (o:="rotareti_tes".toList) (by kernel_rfl) zyV]
 kernel_rfl
def SI(h:Heap)(it S:Addr)(slot i n ep:Nat):Prop:=∃o,h.get? it=some o∧o.cls=.type "set_iterator"∧o.data=.fields #[rawInt slot,rawInt i,.ref S,rawInt n,rawInt ep]
def SO(h:Heap)(S:Addr)(es:Array (Int×Value))(ep:Nat)(t:SetTable):Prop:=h.get? S=some { cls:=.type "set",dict:=none,data:=.set es ep t,slots:=#[] }
section
variable {P:Program} {w:World} {A:Around} {E:Value→Shared→Prop} {s:Shared} {it S:Addr} {es:Array (Int×Value)} {ep:Nat} {t:SetTable} {slot i:Nat}
theorem SI.ty(x:SI s.heap it S slot i es.size ep):s.TypeIs (.ref it) "set_iterator":=let ⟨o,ho,hc,_⟩:=x;⟨o,ho,hc⟩
theorem SO.ty(x:SO s.heap S es ep t):s.TypeIs (.ref S) "set":=⟨_,x,rfl⟩
theorem zgv{Q:(Array (Int×Value)×Nat×SetTable)→Shared→Prop}(x:SO s.heap S es ep t)(f:t.fits es.size=true)(q:Q (es,ep,t) s):wpAny (model P w) A (setState S) Q E s :=
 wpAny_setState_of x rfl f q
theorem zqz{v:Value}{B:Nat→Prop}{Q:Option Value→Shared→Prop}(hi:SI s.heap it S slot i es.size ep)(x:SO s.heap S es ep t)(f:t.fits es.size=true)
  (nx:∀(A':Around) (E':Value→Shared→Prop) (Q':Option (Value×Nat)→Shared→Prop),(∀slot',B slot'→Q' (some (v,slot')) s)→wpAny (model P w) A' (setNext S slot i ep) Q' E' s)
  (q:∀slot' h',B slot'→SI h' it S slot' (i+1) es.size ep→Heap.SameBut it s.heap h'→Q (some v) { s with heap:=h' }) :
  wpAny (model P w) A (pyNext (.ref it)) Q E s:=by
 obtain⟨o,ho,hc,hd⟩:=id hi
 unfold pyNext
 refine wpAny_bind (wpAny_attempt (wpAny_callSpecial?_slot (name:=Str.ofString "__next__") hi.ty zik (wpAny_call_entry zik hi.ty zrb ?_ (zrP _))))
 unfold Builtin.«set_iterator.__next__»;refine wpAny_bind (wpAny_of_eq (a:=(Value.ref it,[])) rfl ?_);refine wpAny_bind (wpAny_fieldsOf ho hd ?_)
 show wpAny _ _ (setEntries S >>= _) _ _ s
 refine wpAny_bind (wpAny_setEntries_of x rfl f ?_)
 dsimp only
 rw[if_neg (by simp)]
 refine wpAny_bind (nx _ _ _ λslot' hB=>?_)
 show wpAny _ _ (setField (.ref it) 0 (rawInt slot') >>= _) _ _ s;refine wpAny_bind (wpAny_setField ho hd (by simp) ?_)
 have g1:=Heap.get?_update_self (Obj.mapFields (·.setIfInBounds 0 (rawInt slot'))) ho (Obj.isFreed_of_fields (Obj.data_mapFields hd _))
 have d1:=Obj.data_mapFields hd (·.setIfInBounds 0 (rawInt slot'))
 refine wpAny_bind (wpAny_setField g1 d1 (by simp) ?_)
 refine wpAny_pure ⟨v,rfl,wpAny_pure (q slot' _ hB ⟨_,Heap.get?_update_self _ g1 (Obj.isFreed_of_fields (Obj.data_mapFields d1 _)),?_,?_⟩ ?_)⟩
 ·rw[Obj.cls_mapFields,Obj.cls_mapFields]
  exact hc
 ·rw[Obj.data_mapFields d1]
  simp[rawInt]
 ·exact(Heap.SameBut.update ..).trans (Heap.SameBut.update ..)
theorem zu5{Q:Option Value→Shared→Prop}(hh:A.handled=none)(hi:SI s.heap it S slot i es.size ep)(x:SO s.heap S es ep t)(f:t.fits es.size=true)
  (nx:∀(A':Around) (E':Value→Shared→Prop) (Q':Option (Value×Nat)→Shared→Prop),Q' none s→wpAny (model P w) A' (setNext S slot i ep) Q' E' s)
  (q:∀h',Heap.ExtBut it s.heap h'→Q none { s with heap:=h' }) :
  wpAny (model P w) A (pyNext (.ref it)) Q E s:=by
 obtain⟨o,ho,hc,hd⟩:=id hi
 unfold pyNext
 refine wpAny_bind (wpAny_attempt (wpAny_callSpecial?_slot (name:=Str.ofString "__next__") hi.ty zik (wpAny_call_entry zik hi.ty zrb ?_ (zrP _))))
 unfold Builtin.«set_iterator.__next__»;refine wpAny_bind (wpAny_of_eq (a:=(Value.ref it,[])) rfl ?_);refine wpAny_bind (wpAny_fieldsOf ho hd ?_)
 show wpAny _ _ (setEntries S >>= _) _ _ s
 refine wpAny_bind (wpAny_setEntries_of x rfl f ?_)
 dsimp only
 rw[if_neg (by simp)]
 refine wpAny_bind (nx _ _ _ ?_);show wpAny _ _ (setField (.ref it) 2 .none >>= _) _ _ s;refine wpAny_bind (wpAny_setField ho hd (by simp) ?_)
 refine wpAny_bind ?_
 simp only[newExc,newTuple]
 refine wpAny_bind (wpAny_newObj_type ?_ (by size_fits));refine wpAny_bind (m:=firstArgMember _ _) (wpAny_of_eq (a:=Value.none) (by first | rfl | (simp only[firstArgMember];rfl)) ?_);refine wpAny_newObj_type ?_ (by size_fits)
 simp only[raiseNew];refine wpAny_bind (wpAny_handled ?_);first | rw[show A.in1.handled=none from hh] | rw[hh]
 refine wpAny_bind (wpAny_pure (wpAny_throw ?_));refine wpAny_bind (wpAny_isInstance (T:="StopIteration") (b:=true) ⟨_,Heap.get?_push_size _ rfl,rfl⟩ isSubtype_stop ?_)
 exact wpAny_pure (q _ (((Heap.SameBut.update ..).extBut.push _).push _))
theorem zrK{Q:Value→Shared→Prop}(hi:SI s.heap it S slot i es.size ep)(q:Q (.ref it) s):wpAny (model P w) A (pyIter (.ref it)) Q E s:=by
 refine wpAny_pyIter_slot hi.ty zrf (wpAny_call_entry zrf hi.ty zuc ?_ (zvc _))
 show wpAny _ _ (ret (.ref it)) _ _ s;exact wpAny_pure ⟨_,rfl,"set_iterator",_,hi.ty,zik.lookup,q⟩
theorem zu4{Q:Value→Shared→Prop}(x:SO s.heap S es ep t)(f:t.fits es.size=true)(dr:∀(A':Around) (E':Value→Shared→Prop) (Q':Bool→Shared→Prop),Q' false s→wpAny (model P w) A' (setDrawn S) Q' E' s)
  (q:Q (.ref s.heap.objs.size) { s with heap:=s.heap.push { cls:=.type "set_iterator",data:=.fields #[rawInt 0,rawInt 0,.ref S,rawInt es.size,rawInt ep] } }) :
  wpAny (model P w) A (pyIter (.ref S)) Q E s:=by
 refine wpAny_pyIter_slot x.ty PySem.F.slot_set_iter (wpAny_call_entry PySem.F.slot_set_iter x.ty zw6 ?_ (PySem.F.args_set_iter_1 _))
 unfold Builtin.«frozenset.__iter__»
 refine wpAny_bind (wpAny_of_eq (a:=S) rfl ?_)
 refine wpAny_bind (m:=Builtin.Frozenset.sizeOf S) ?_
 unfold Builtin.Frozenset.sizeOf
 refine wpAny_bind (wpAny_setEntries_of x rfl f (wpAny_pure ?_))
 refine wpAny_bind (dr _ _ _ ?_);simp only[Bool.false_eq_true,if_false];refine wpAny_bind (wpAny_pure ?_)
 refine wpAny_bind (wpAny_setEpoch_of x rfl f ?_)
 refine wpAny_bind (wpAny_newObj_type (wpAny_pure ⟨_,rfl,"set_iterator",_,⟨_,Heap.get?_push_size _ rfl,rfl⟩,zik.lookup,q⟩))
theorem hint{Q:Bool→Shared→Prop}(x:SO s.heap S es ep t)(q:Q false s):wpAny (model P w) A (Builtin.List.listLengthHint (.ref S)) Q E s:=by
 unfold Builtin.List.listLengthHint;refine wpAny_bind (wpAny_specialOf x.ty PySem.F.slot_set_len.lookup ?_)
 generalize e:("set.__len__":String)=nm
 wp_delta
 rw[show splitId nm=some ("set","__len__") from by subst e;decide +kernel];subst e
 refine wpAny_bind (wpAny_isInstance (T:="set") (b:=true) x.ty (by rw[isSubtype_type];kernel_rfl) ?_)
 refine wpAny_ite_split (λz=>absurd z (by decide)) λ_=>wpAny_ite_split (λ_=>wpAny_bind (wpAny_typeOf x.ty (wpAny_pure q))) λz=>absurd (by decide +kernel) z
theorem zgd{Q:Bool→Shared→Prop}(q:Q (w.params.followText "set-order") s):wpAny (model P w) A setsByText Q E s:=by
 unfold setsByText
 exact wpAny_bind (wpAny_askSetting (wpAny_pure q))
theorem zno{xs:Array Nat}{j:Nat}(h:xs.toList.Pairwise (·<·)):∀(fuel lo hi:Nat),hi - lo≤fuel→lo≤hi→hi≤xs.size→(∀(k v:Nat),xs[k]?=some v→k<lo→v<j)→(∀(k v:Nat),xs[k]?=some v→hi≤k→j≤v) →
  SetTable.below.go xs j fuel lo hi≤xs.size∧(∀(k v:Nat),xs[k]?=some v→k<SetTable.below.go xs j fuel lo hi→v<j)∧∀(k v:Nat),xs[k]?=some v→SetTable.below.go xs j fuel lo hi≤k→j≤v
 | 0,lo,hi,h1,h2,h3,h4,h5=>by
  have:lo=hi:=by (first|lia|omega)
  subst this
  exact⟨h3,h4,h5⟩
 | fuel+1,lo,hi,h1,h2,h3,h4,h5=>by
  have mono:∀{k m v u:Nat},xs[k]?=some v→xs[m]?=some u→k<m→v<u:=fun {k m v u} e1 e2 l=>by
   rw[← Array.getElem?_toList] at e1 e2
   obtain⟨l1,rfl⟩:=List.getElem?_eq_some_iff.mp e1
   obtain⟨l2,rfl⟩:=List.getElem?_eq_some_iff.mp e2
   exact List.pairwise_iff_getElem.mp h _ _ l1 l2 l
  unfold SetTable.below.go
  by_cases c:lo<hi
  ·rw[if_pos c]
   dsimp only
   have hm:(lo+hi) / 2<hi:=by (first|lia|omega)
   have hl:lo≤(lo+hi) / 2:=by (first|lia|omega)
   generalize (lo+hi) / 2=mid at hm hl ⊢
   have em:xs[mid]?=some xs[mid]:=Array.getElem?_eq_getElem (by (first|lia|omega))
   have eg:xs.getD mid j=xs[mid]:=by
    rw[Array.getD_eq_getD_getElem?,em]
    rfl
   rw[eg]
   by_cases d:xs[mid]<j
   ·rw[if_pos d]
    refine zno h fuel (mid+1) hi (by (first|lia|omega)) (by (first|lia|omega)) h3 (λk v e l=>?_) h5
    rcases Nat.lt_or_ge k mid with l' | l'
    ·exact ψZ1 (mono e em l') d
    ·obtain rfl:k=mid:=by (first|lia|omega)
     rw[em] at e
     cases e
     exact d
   ·rw[if_neg d]
    refine zno h fuel lo mid (by (first|lia|omega)) hl (by (first|lia|omega)) h4 λk v e l=>?_
    rcases Nat.lt_or_ge mid k with l' | l'
    ·exact Nat.le_of_lt (ψA1 (Nat.le_of_not_lt d) (mono em e l'))
    ·obtain rfl:k=mid:=by (first|lia|omega)
     rw[em] at e
     cases e
     exact Nat.le_of_not_lt d
  ·rw[if_neg c]
   have:lo=hi:=by (first|lia|omega)
   subst this
   exact⟨h3,h4,h5⟩
theorem zgC{xs:Array Nat}(j:Nat)(h:xs.toList.Pairwise (·<·)):SetTable.below xs j≤xs.size∧(∀(k v:Nat),xs[k]?=some v→k<SetTable.below xs j→v<j)∧∀(k v:Nat),xs[k]?=some v→SetTable.below xs j≤k→j≤v :=
 zno h xs.size 0 xs.size (ψm _) (ψu1 _) (ψm _) (λ_ _ _ z=>absurd z (ψG1 _)) λk v e z=>absurd (Array.getElem?_eq_some_iff.mp e).1 (by (first|lia|omega))
theorem zpY{xs:Array Nat}{i j:Nat}(h:xs.toList.Pairwise (·<·))(e:xs[i]?=some j):SetTable.below xs (j+1)=i+1:=by
 obtain⟨h1,h2,h3⟩:=zgC (j+1) h
 have a1:¬ SetTable.below xs (j+1)≤i:=λz=>absurd (h3 i j e z) (by (first|lia|omega))
 have a2:¬ i+1<SetTable.below xs (j+1):=λz=>by
  have l:i+1<xs.size:=by (first|lia|omega)
  have e2:xs[i+1]?=some xs[i+1]:=Array.getElem?_eq_getElem l
  have u1:=h2 _ _ e2 z
  rw[← Array.getElem?_toList] at e e2
  obtain⟨l1,z1⟩:=List.getElem?_eq_some_iff.mp e
  obtain⟨l2,z2⟩:=List.getElem?_eq_some_iff.mp e2
  have u2:=List.pairwise_iff_getElem.mp h _ _ l1 l2 (ψJ1 i)
  (first|lia|omega)
 (first|lia|omega)
theorem zpS{xs:Array Nat}(h:xs.toList.Pairwise (·<·)):SetTable.below xs 0=0:=by
 obtain⟨h1,h2,_⟩:=zgC 0 h
 rcases Nat.eq_zero_or_pos (SetTable.below xs 0) with z | z
 ·exact z
 ·exact absurd (h2 0 _ (Array.getElem?_eq_getElem (by (first|lia|omega))) z) (ψG1 _)
theorem ztS{xs:Array Nat}{j:Nat}(h:xs.toList.Pairwise (·<·))(n:j∉xs.toList):(SetTable.insertAt xs (SetTable.below xs j) j).toList.Pairwise (·<·):=by
 obtain⟨h1,h2,h3⟩:=zgC j h
 generalize SetTable.below xs j=p at h1 h2 h3 ⊢
 have e:(SetTable.insertAt xs p j).toList=xs.toList.take p++([j]++xs.toList.drop p):=by
  unfold SetTable.insertAt
  simp only[Array.toList_append,Array.toList_push,Array.toList_extract,List.extract_eq_drop_take,List.drop_zero,Nat.sub_zero,List.append_assoc]
  rw[ψQ (l:=xs.toList.drop p) (by rw[ψI1,Array.length_toList];(first|lia|omega))]
 rw[e]
 have m1:∀v∈xs.toList.take p,v<j:=λv hv=>by
  obtain⟨k,ek⟩:=ψq hv
  rw[List.getElem?_take] at ek
  split at ek
  ·exact h2 k v (by rw[← Array.getElem?_toList];exact ek) (by assumption)
  ·cases ek
 have m2:∀v∈xs.toList.drop p,j<v:=λv hv=>by
  obtain⟨k,ek⟩:=ψq hv
  rw[List.getElem?_drop] at ek
  have:=h3 (p+k) v (by rw[← Array.getElem?_toList];exact ek) (by (first|lia|omega))
  have ne:v≠j:=λz=>n (z ▸ ψH1 hv)
  (first|lia|omega)
 refine List.pairwise_append.mpr ⟨h.sublist (List.take_sublist _ _),List.pairwise_append.mpr ⟨List.pairwise_singleton _ _,h.sublist (List.drop_sublist _ _),λa ha b hb=>?_⟩,λa ha b hb=>?_⟩
 ·rw[List.mem_singleton.mp ha]
  exact m2 b hb
 ·rcases List.mem_append.mp hb with hb | hb
  ·rw[List.mem_singleton.mp hb]
   exact m1 a ha
  ·exact ψZ1 (m1 a ha) (m2 b hb)
def Led(w:World)(t:SetTable):Prop:=w.params.followText "set-order"=true∨(t.led=true∧t.plain=true∧t.place.toList.Pairwise (·<·))
theorem zvh{Q:Bool→Shared→Prop}(x:SO s.heap S es ep t)(f:t.fits es.size=true)(l:Led w t)(q:Q false s):wpAny (model P w) A (setDrawn S) Q E s:=by
 unfold setDrawn
 refine wpAny_bind (zgv x f ?_)
 refine wpAny_bind (zgd (wpAny_pure ?_))
 have e:(!w.params.followText "set-order"&&(!t.plain&&decide (es.size > 1)))=false:=by
  rcases l with l | ⟨_,l,_⟩ <;> rw[l]
  ·rfl
  ·rw[Bool.not_true,Bool.false_and,Bool.and_false]
 exact(congrArg (λb=>Q b s) e).mpr q
def ord(w:World)(S:Addr)(es:Array (Int×Value))(ep:Nat):Array (Int×Value):=if w.params.followText "set-order"=true then pickOrder (w.params.setOrder S ep) es else es
theorem zwc{Q:Option (Value×Nat)→Shared→Prop}{v:Value}(x:SO s.heap S es ep t)(f:t.fits es.size=true)(l:Led w t)(hs:w.params.followText "set-order"=true∨SetTable.below t.place slot=i)(hv:((ord w S es ep)[i]?).map (·.2)=some v)
  (q:∀slot',(w.params.followText "set-order"=true∨SetTable.below t.place slot'=i+1)→Q (some (v,slot')) s):wpAny (model P w) A (setNext S slot i ep) Q E s:=by
 unfold setNext
 refine wpAny_bind (zgv x f ?_)
 refine wpAny_bind (zgd ?_)
 by_cases tx:w.params.followText "set-order"=true
 ·rw[if_pos tx]
  dsimp only
  rw[if_neg (by simp)]
  refine wpAny_bind (m:=setWalk S) ?_
  unfold setWalk
  refine wpAny_bind (zgv x f (wpAny_bind (zgd ?_)))
  rw[if_pos tx]
  refine wpAny_bind (wpAny_askSetting (wpAny_pure (wpAny_pure ?_)))
  unfold ord at hv
  rw[if_pos tx] at hv
  obtain⟨e,e1,e2⟩:=Option.map_eq_some_iff.mp hv
  show Q (Option.map (λe=>(e.snd,slot)) (pickOrder (w.params.setOrder S ep) es)[i]?) s
  rw[e1]
  subst e2
  exact q slot (.inl tx)
 ·obtain⟨l1,l2,l3⟩:=l.resolve_left tx
  have hb:=hs.resolve_left tx
  rw[if_neg tx]
  dsimp only
  unfold ord at hv
  rw[if_neg tx] at hv
  obtain⟨e,e1,e2⟩:=Option.map_eq_some_iff.mp hv
  have hp:t.place.size=es.size:=by
   unfold SetTable.fits at f
   rw[ψL,beq_iff_eq] at f
   exact f.1
  have hi:=(Array.getElem?_eq_some_iff.mp e1).1
  have e3:t.place[i]?=some t.place[i]:=Array.getElem?_eq_getElem (by (first|lia|omega))
  show wpAny _ _ (if (!t.plain&&decide (es.size > 1))=true then _ else _) _ _ s
  rw[if_neg (by rw[l2];simp)]
  show wpAny _ _ ((if (!t.led&&!es.isEmpty)=true then unsupported "set:maker-not-led" else pure ()) >>= _) _ _ s
  rw[if_neg (by rw[l1];simp)];refine wpAny_bind (wpAny_pure (wpAny_pure ?_))
  show Q (match es[SetTable.below t.place slot]?,t.place[SetTable.below t.place slot]? with
      | some (_,y),some k=>some (y,k+1)
      | _,_=>none) s
  rw[hb,e1,e3]
  subst e2
  exact q _ (.inr (zpY l3 e3))
theorem zsk{Q:Option (Value×Nat)→Shared→Prop}(x:SO s.heap S es ep t)(f:t.fits es.size=true)(l:Led w t)(hs:w.params.followText "set-order"=true∨SetTable.below t.place slot=i)(hv:(ord w S es ep)[i]?=none)
  (q:Q none s):wpAny (model P w) A (setNext S slot i ep) Q E s:=by
 unfold setNext
 refine wpAny_bind (zgv x f ?_)
 refine wpAny_bind (zgd ?_)
 by_cases tx:w.params.followText "set-order"=true
 ·rw[if_pos tx]
  dsimp only
  rw[if_neg (by simp)]
  refine wpAny_bind (m:=setWalk S) ?_
  unfold setWalk
  refine wpAny_bind (zgv x f (wpAny_bind (zgd ?_)))
  rw[if_pos tx]
  refine wpAny_bind (wpAny_askSetting (wpAny_pure (wpAny_pure ?_)))
  unfold ord at hv
  rw[if_pos tx] at hv
  show Q (Option.map (λe=>(e.snd,slot)) (pickOrder (w.params.setOrder S ep) es)[i]?) s
  rw[hv]
  exact q
 ·obtain⟨l1,l2,l3⟩:=l.resolve_left tx
  have hb:=hs.resolve_left tx
  rw[if_neg tx]
  dsimp only
  unfold ord at hv
  rw[if_neg tx] at hv
  show wpAny _ _ (if (!t.plain&&decide (es.size > 1))=true then _ else _) _ _ s
  rw[if_neg (by rw[l2];simp)]
  show wpAny _ _ ((if (!t.led&&!es.isEmpty)=true then unsupported "set:maker-not-led" else pure ()) >>= _) _ _ s
  rw[if_neg (by rw[l1];simp)];refine wpAny_bind (wpAny_pure (wpAny_pure ?_))
  show Q (match es[SetTable.below t.place slot]?,t.place[SetTable.below t.place slot]? with
      | some (_,y),some k=>some (y,k+1)
      | _,_=>none) s
  rw[hb,hv]
  exact q
theorem zna{α:Type}{next:Nat→Nat}:∀(fuel k:Nat) (left:List α) (out:Array α),left.length=fuel→(pickOrder.go next fuel k left out).toList.Perm (out.toList++left)
 | 0,k,left,out,e=>by
  rw[ψa1 e,List.append_nil]
  exact .refl _
 | fuel+1,k,left,out,e=>by
  have l:next k % left.length<left.length:=Nat.mod_lt _ (by (first|lia|omega))
  unfold pickOrder.go
  generalize next k % left.length=i at l ⊢
  rw[ψc l]
  refine(zna fuel (k+1) (left.eraseIdx i) (out.push left[i]) (by rw[List.length_eraseIdx_of_lt l];(first|lia|omega))).trans ?_
  rw[Array.toList_push,List.append_assoc];refine List.Perm.append_left _ ?_
  rw[List.eraseIdx_eq_take_drop_succ]
  have e2:left=left.take i++left[i]::left.drop (i+1):=by rw[List.getElem_cons_drop,List.take_append_drop]
  exact(List.perm_middle (a:=left[i]) (l₁:=left.take i) (l₂:=left.drop (i+1))).symm.trans (.of_eq e2.symm)
theorem ord_perm:(ord w S es ep).toList.Perm es.toList:=by
 unfold ord
 split
 ·exact zna _ _ _ _ (Array.length_toList ..)
 ·exact .refl _
theorem src(f:t.fits es.size=true)(l:Led w t):PySem.W.KdlSrc P w "set" S S es.size (λi v=>((ord w S es ep)[i]?).map (·.2)=some v) (λh=>SO h S es ep t) where
 type:=λs x=>x.ty
 there:=λh x=>⟨Heap.lt_size x,Heap.lt_size x⟩
 keep:=λh h' x k=>k S (.inl rfl) _ x
 notList:=by decide
 notTuple:=by decide
 hint:=λA E s Q x q=>hint x q
 iter:=λA s hh x=>by
  have hne:S≠s.heap.objs.size:=ψs (Heap.lt_size x)
  have osz:(ord w S es ep).size=es.size:=by rw[← Array.length_toList,ord_perm.length_eq,Array.length_toList]
  refine⟨_,λi h=>(∃slot,SI h s.heap.objs.size S slot i es.size ep∧(w.params.followText "set-order"=true∨SetTable.below t.place slot=i))∧SO h S es ep t,λE Q q=>zu4 x f (λA' E' Q' q'=>zvh x f l q') q,?_,⟨0,⟨_,Heap.get?_push_size _ rfl,rfl,rfl⟩,?_⟩,Heap.get?_push_of_some _ x⟩
  ·exact {
    sub:=λb' hb'=>by rw[List.mem_singleton] at hb';rw[hb'];exact ψf
    frame:=λi h h' st hk=>⟨let ⟨slot,⟨o,ho,r⟩,b⟩:=st.1;⟨slot,⟨o,hk _ (by simp) o ho,r⟩,b⟩,hk S (by simp) _ st.2⟩
    item:=λi s' Q E hi st hQ=>by
     obtain⟨⟨slot,si,b⟩,so⟩:=st
     have e1:(ord w S es ep)[i]?=some (ord w S es ep)[i]:=Array.getElem?_eq_getElem (by (first|lia|omega))
     refine zqz si so f (λA' E' Q' q'=>zwc (v:=(ord w S es ep)[i].2) so f l b (by rw[e1];rfl) q') λslot' h' hB si' sm=>?_
     refine hQ _ h' s'.toks (by rw[e1];rfl) ⟨⟨slot',si',hB⟩,?_⟩ λb' o hb e=>sm.extBut b' o (λz=>hb (by simp[z])) e
     exact sm.extBut S _ hne so
    done:=λs' Q E st hQ=>by
     obtain⟨⟨slot,si,b⟩,so⟩:=st
     exact zu5 hh si so f (λA' E' Q' q'=>zsk so f l b (Array.getElem?_eq_none (by (first|lia|omega))) q') λh' ex=>hQ h' s'.toks λb' o hb e=>ex b' o (λz=>hb (by simp[z])) e
    self:=λi s' Q E st hQ=>by
     obtain⟨⟨slot,si,b⟩,so⟩:=st
     exact zrK si hQ }
  ·rcases l with l | ⟨_,_,l⟩
   ·exact .inl l
   ·exact .inr (zpS l)
def vI:Value→Int
 | .int k _=>k
 | _=>0
structure SJ (P:Program) (w:World) (h:Heap) (S:Addr) (es:Array (Int×Value)) (ep:Nat) (t:SetTable) (ds:List Int):Prop where
 ob:SO h S es ep t
 pl:t.place.size=es.size
 dm:t.dummies=#[]
 ms:St.Msk t.mask
 lo:es.size*5<t.mask*3
 pn:t.plain=true
 ld:w.params.followText "set-order"=true∨t.led=true
 rs:t.place.toList.Pairwise (·<·)
 el:∀e∈es.toList,∃k tk,e=((intKind P w).hash k,Value.int k tk)
 ks:(es.toList.map λe=>vI e.2).Perm ds
theorem SJ.fits{h:Heap}{ds:List Int}(T:SJ P w h S es ep t ds):t.fits es.size=true:=by
 have:=T.lo
 simp only[SetTable.fits,SetTable.fill,T.pl,T.dm,ψL,beq_self_eq_true,decide_eq_true_eq,true_and]
 show es.size+0≤t.mask
 (first|lia|omega)
theorem SJ.led{h:Heap}{ds:List Int}(T:SJ P w h S es ep t ds):Led w t:=T.ld.elim .inl λl=>.inr ⟨l,T.pn,T.rs⟩
theorem SJ.elems{h:Heap}{ds:List Int}(T:SJ P w h S es ep t ds):ElemsOf (intKind P w) es.toList:=λe he=>by
 obtain⟨k,tk,rfl⟩:=T.el e he
 exact⟨⟨k,intKind_is _ _ _ _,rfl⟩,rfl⟩
theorem zs8{j:Nat}(hd:t.dummies=#[])(h:t.slot j=.empty)(l:t.place.toList.Pairwise (·<·)):j∉t.place.toList:=by
 intro hm
 obtain⟨i,ei⟩:=ψq hm
 rw[Array.getElem?_toList] at ei
 obtain⟨h1,h2,h3⟩:=zgC j l
 have a1:¬ i<SetTable.below t.place j:=λz=>absurd (h2 i j ei z) (ψx1 _)
 have a2:¬ SetTable.below t.place j<i:=λz=>by
  have hi:=(Array.getElem?_eq_some_iff.mp ei).1
  have e2:t.place[SetTable.below t.place j]?=some t.place[SetTable.below t.place j]:=Array.getElem?_eq_getElem (by (first|lia|omega))
  have u:=h3 _ _ e2 (ψm _)
  rw[← Array.getElem?_toList] at ei e2
  obtain⟨l1,z1⟩:=List.getElem?_eq_some_iff.mp ei
  obtain⟨l2,z2⟩:=List.getElem?_eq_some_iff.mp e2
  have u2:=List.pairwise_iff_getElem.mp l _ _ l2 l1 z
  (first|lia|omega)
 have:SetTable.below t.place j=i:=by (first|lia|omega)
 unfold SetTable.slot at h
 rw[this] at h
 dsimp only at h
 rw[ei,if_pos (by simp)] at h
 cases h
theorem zrw{x:Int}(hd:t.dummies=#[]):∀(n fuel:Nat) (p:SetTable.Probe),St.Reach t n p→n<fuel→p.dummy=none→∃j,SetTable.probe.go t (λ_=>x+1) x fuel p=some (.empty j none)∧t.slot j=.empty
 | n,0,p,_,hn,_=>by (first|lia|omega)
 | n,fuel+1,p,hr,hn,hp=>by
  rw[SetTable.probe.go]
  rcases St.slot_cases hd p.j with e | ⟨i,e,_⟩
  ·exact⟨p.j,by rw[e];simp[hp],e⟩
  ·obtain⟨r,r1,r2⟩:=hr
   match r,r1,r2 with
   | 0,r1,r2=>exact absurd (show t.slot p.j=.empty from r2) (by rw[e];simp)
   | r+1,r1,r2 =>
    obtain⟨j,a,b⟩:=zrw (x:=x) hd (n - 1) fuel (t.advance p) ⟨r,by (first|lia|omega),r2⟩ (by (first|lia|omega)) (by rw[St.adv_dummy,hp])
    have c:((x+1:Int) == x)=false:=by
     rw[Bool.eq_false_iff]
     intro z
     have:=eq_of_beq z
     (first|lia|omega)
    exact⟨j,by rw[e];simpa [c] using a,b⟩
theorem zw8{h:Heap}{ds:List Int}(T:SJ P w h S es ep t ds)(x:Int)(v:Value):∃(p:Nat) (t2:SetTable),layNew t es x v=(SetTable.insertAt es p (x,v),t2,false,false)∧t2.mask=t.mask∧t2.dummies=#[]∧t2.place.size=es.size+1∧t2.plain=true∧t2.led=t.led∧t2.place.toList.Pairwise (·<·):=by
 have lo:=T.lo
 have hl:t.place.size<t.mask+1:=by rw[T.pl];(first|lia|omega)
 have hr:=St.reach_start T.ms T.dm hl x
 have hf:∃j,t.freeSlot x=some (j,false)∧t.slot j=.empty:=by
  unfold SetTable.freeSlot SetTable.probe
  obtain⟨j,a,b⟩:=zrw (x:=x) T.dm _ (10*SetTable.turns t.mask) _ hr (by unfold SetTable.turns;(first|lia|omega)) rfl
  exact⟨j,by rw[a];rfl,b⟩
 obtain⟨j,e1,e2⟩:=hf
 obtain⟨a1,a2,a3⟩:=St.put_ok (t:=t) (j:=j) T.dm
 refine⟨SetTable.below t.place j,(t.put j).1,?_,a3,a1,by rw[a2,T.pl],T.pn,rfl,ztS T.rs (zs8 T.dm e2 T.rs)⟩
 unfold layNew
 rw[e1]
 have fit:(t.put j).1.fits (SetTable.insertAt es (SetTable.below t.place j) (x,v)).size=true:=by
  simp only[SetTable.fits,SetTable.fill,a1,a2,a3,St.ins_size,T.pl,ψL,beq_self_eq_true,decide_eq_true_eq,true_and]
  show es.size+1+0≤t.mask
  (first|lia|omega)
 show((SetTable.insertAt es (SetTable.below t.place j) (x,v)),((t.put j).1.orStandIn (SetTable.insertAt es (SetTable.below t.place j) (x,v)).size),false,!((t.put j).1.fits (SetTable.insertAt es (SetTable.below t.place j) (x,v)).size))=_
 unfold SetTable.orStandIn
 rw[if_pos fit,fit]
 rfl
theorem zu9{α:Type}(xs:Array α)(p:Nat)(x:α):(SetTable.insertAt xs p x).toList.Perm (x::xs.toList):=by
 refine(SetTable.insertAt_perm xs p x).trans ?_
 rw[Array.toList_push]
 exact List.perm_append_comm
theorem ztc:∀(r l:List Nat),r.Nodup→(∀v∈r,v∈l)→l.length=r.length→l.Perm r
 | [],l,_,_,e=>by rw[ψa1 e]
 | a::r,l,n,h,e=>by
  have ha:=h a ψf
  rw[List.nodup_cons] at n
  refine(List.perm_cons_erase ha).trans (List.Perm.cons _ (ztc r (l.erase a) n.2 (λv hv=>?_) ?_))
  ·exact(List.mem_erase_of_ne (λ(z:v=a)=>n.1 (z ▸ hv))).mpr (h v (ψd _ hv))
  ·rw[List.length_erase_of_mem ha,e]
   rfl
theorem zmW{M:Nat}{ow:Array (Option Nat)}:∀(fuel i p j:Nat),SetTable.layClean.free M ow fuel i p=some j→ow.getD j (some 0)=none
 | 0,i,p,j,e=>by
  unfold SetTable.layClean.free at e
  cases e
 | fuel+1,i,p,j,e=>by
  unfold SetTable.layClean.free at e
  split at e
  ·rename_i k hk
   cases e
   have:=List.find?_some hk
   simpa using this
  ·exact zmW fuel _ _ j e
theorem zpF{M:Nat}:∀(hs:List Int) (ow ow':Array (Option Nat)) (k k':Nat),(∀v,v<k→some v∈ow.toList) →
  (hs.foldl (λ(acc:Option (Array (Option Nat)×Nat)) h=>do
   let (owner,k) ← acc
   let j ← SetTable.layClean.free M owner (SetTable.turns M) (SetTable.bits h % (M+1)) (SetTable.bits h)
   pure (owner.setIfInBounds j (some k),k+1)) (some (ow,k)))=some (ow',k')→∀v,v<k'→some v∈ow'.toList
 | [],ow,ow',k,k',h,e=>by
  cases e
  exact h
 | x::hs,ow,ow',k,k',h,e=>by
  rw[List.foldl_cons] at e
  cases c:SetTable.layClean.free M ow (SetTable.turns M) (SetTable.bits x % (M+1)) (SetTable.bits x) with
  | none =>
   simp only[c,Option.bind_eq_bind,Option.bind_some,Option.bind_none] at e
   exfalso
   have:∀l:List Int,(l.foldl (λ(acc:Option (Array (Option Nat)×Nat)) h=>acc.bind λq=>(SetTable.layClean.free M q.1 (SetTable.turns M) (SetTable.bits h % (M+1)) (SetTable.bits h)).bind λj=>pure (q.1.setIfInBounds j (some q.2),q.2+1)) none)=none:=λl=>by
    induction l with
    | nil=>rfl
    | cons y l ih=>rw[List.foldl_cons];exact ih
   have z:=(this hs).symm.trans e
   cases z
  | some j =>
   simp only[c,Option.bind_eq_bind,Option.bind_some] at e
   refine zpF hs _ ow' _ k' (λv hv=>?_) e
   have nj:=zmW _ _ _ _ c
   obtain⟨lj,gj⟩:=St.getD_lt nj
   rw[Array.toList_setIfInBounds]
   rcases Nat.lt_or_ge v k with l | l
   ·obtain⟨i,ei⟩:=ψq (h v l)
    have ne:j≠i:=λz=>by
     subst z
     rw[Array.getElem?_toList,Array.getElem?_eq_getElem lj,gj] at ei
     cases ei
    exact ψP (by rw[List.getElem?_set_ne ne];exact ei)
   ·obtain rfl:v=k:=by (first|lia|omega)
    exact ψP (List.getElem?_set_self (by rw[Array.length_toList];exact lj))
theorem zuf{n:Nat}{t2:SetTable}{es2:Array (Int×Value)}(hM:St.Msk t2.mask)(hn:es2.size=n+1)(c1:n*5<t2.mask*3)(c2:(n+1)*5≥t2.mask*3)(hz:n<300)(pn:t2.plain=true) :
  ∃(es3:Array (Int×Value)) (t3:SetTable),relayAll t2 es2 (SetTable.grown es2.size)=(es3,t3,false)∧es3.toList.Perm es2.toList∧St.Msk t3.mask∧(n+1)*5<t3.mask*3∧t3.dummies=#[]∧t3.place.size=n+1∧t3.plain=true∧t3.led=t2.led∧t3.place.toList.Pairwise (·<·):=by
 obtain⟨g1,g2,g3⟩:=St.grow hM c1 c2 hz
 rw[← hn] at g1 g2
 obtain⟨t3,od,r1,r2,r3,r4,r5,r6,r7⟩:=St.relaid_ok (t:=t2) (hs:=es2.map (·.1)) g1 (by rw[Array.size_map];(first|lia|omega))
 rw[Array.size_map] at r4 r6 r7
 have key:t3.plain=true∧t3.place.toList.Pairwise (·<·)∧∀v,v<es2.size→v∈od.toList:=by
  have r:=r1
  obtain⟨ow,a,o1,o2,o3⟩:=St.fold_ok g1 (es2.map (·.1)).toList (Array.replicate (SetTable.sizeAbove (SetTable.grown es2.size) - 1+1) none) 0 ⟨by simp,by simp[List.countP_replicate],by simp⟩ (by simp;(first|lia|omega))
  have al:=zpF _ _ _ _ _ (λv hv=>absurd hv (ψG1 v)) a
  rw[ψN1,Array.length_toList,Array.size_map] at al
  unfold SetTable.relaid SetTable.laid SetTable.layClean at r
  rw[← Array.foldl_toList,a] at r
  simp only[Option.map_some,Option.bind_eq_bind,Option.bind_some] at r
  have r':=Option.some.inj r
  cases r'
  refine⟨pn,?_,λv hv=>?_⟩
  ·show(List.toArray _).toList.Pairwise (·<·)
   rw[List.toList_toArray,List.pairwise_map]
   refine List.Pairwise.filterMap _ (λa a' l b hb b' hb'=>?_) List.pairwise_lt_range
   obtain⟨u,_,rfl⟩:=Option.map_eq_some_iff.mp hb
   obtain⟨u',_,rfl⟩:=Option.map_eq_some_iff.mp hb'
   exact l
  ·rw[List.toList_toArray,List.mem_map]
   obtain⟨j,ej⟩:=ψq (al v hv)
   rw[Array.getElem?_toList] at ej
   have lj:=(Array.getElem?_eq_some_iff.mp ej).1
   refine⟨(j,v),List.mem_filterMap.mpr ⟨j,List.mem_range.mpr (by (first|lia|omega)),?_⟩,rfl⟩
   rw[Array.getD_eq_getD_getElem?,ej]
   rfl
 obtain⟨k1,k2,k3⟩:=key
 have pm:od.toList.Perm (ψF1 es2.size):=ztc _ _ List.nodup_range (λv hv=>k3 v (List.mem_range.mp hv)) (by rw[Array.length_toList,r6,List.length_range])
 have cv:coversAll od es2.size=true:=by
  unfold coversAll
  exact List.isPerm_iff.mpr pm
 have pe:(od.filterMap (es2[·]?)).toList.Perm es2.toList:=by
  rw[Array.toList_filterMap]
  refine(pm.filterMap _).trans (.of_eq (filterMap_getElem?_range es2))
 have sz:(od.filterMap (es2[·]?)).size=es2.size:=by rw[← Array.length_toList,pe.length_eq,Array.length_toList]
 have ft:t3.fits (od.filterMap (es2[·]?)).size=true:=by
  simp only[SetTable.fits,SetTable.fill,r3,r4,sz,ψL,beq_self_eq_true,decide_eq_true_eq,true_and]
  show es2.size+0≤t3.mask
  rw[r2]
  (first|lia|omega)
 refine⟨_,t3,?_,pe,by rw[r2];exact g1,by rw[r2,← hn];exact g2,r3,by rw[r4,hn],k1,r5,k2⟩
 unfold relayAll
 rw[r1]
 dsimp only
 rw[if_pos (by rw[cv,ft];rfl)]
theorem addJ{k:Int}{tk:Tok}{ds:List Int}{Q:Bool→Shared→Prop}(T:SJ P w s.heap S es ep t ds)(hz:es.size<300)
  (q:∀h' b es' ep' t',SJ P w h' S es' ep' t' (if k∈ds then ds else k::ds)→Heap.SameBut S s.heap h'→Q b { s with heap:=h' }) :
  wpAny (model P w) A (setAddHashed S (.int k tk) ((intKind P w).hash k)) Q E s:=by
 have bd:es.size<scanBound:=ψZ1 hz (by decide);unfold setAddHashed setAddHashedIn
 refine wpAny_holding (wpAny_bind (zgv T.ob T.fits ?_))
 dsimp only
 rw[byScan_of (knd:=intKind P w) rfl bd T.elems,if_pos rfl]
 unfold setAddByScan
 refine wpAny_bind (wpAny_bind (wpAny_rule (wpAny_bind (wpAny_setScan_of (knd:=intKind P w) (intKind_is _ _ _ _) T.ob rfl T.fits T.elems ?_))))
 have mem:∀e∈es.toList,(intKind P w).is k e.2=true↔vI e.2=k:=λe he=>by
  obtain⟨k',tk',rfl⟩:=T.el e he
  simp only[intKind,Value.isInt,vI]
  exact beq_iff_eq
 have inD:k∈ds↔∃e∈es.toList,(intKind P w).is k e.2=true:=by
  rw[← T.ks.mem_iff,List.mem_map]
  exact⟨λ⟨e,h1,h2⟩=>⟨e,h1,(mem e h1).mpr h2⟩,λ⟨e,h1,h2⟩=>⟨e,h1,(mem e h1).mp h2⟩⟩
 cases hr:List.findIdx? (λe=>(intKind P w).is k e.2) es.toList with
 | some j =>
  obtain⟨hj,hp,_⟩:=List.findIdx?_eq_some_iff_getElem.mp hr
  have hk:k∈ds:=inD.mpr ⟨_,ψs1 hj,hp⟩
  rw[if_pos hk] at q
  exact wpAny_pure (wpAny_pure (q s.heap false es ep t T (Heap.SameBut.refl S s.heap)))
 | none =>
  have hk:k∉ds:=λz=>by
   obtain⟨e,h1,h2⟩:=inD.mp z
   rw[List.findIdx?_eq_none_iff.mp hr e h1] at h2
   cases h2
  rw[if_neg hk] at q
  obtain⟨p,t2,e1,m2,d2,p2,pn2,l2,r2⟩:=zw8 T ((intKind P w).hash k) (.int k tk)
  dsimp only
  rw[e1]
  dsimp only
  have sz:(SetTable.insertAt es p ((intKind P w).hash k,Value.int k tk)).size=es.size+1:=St.ins_size _ _ _
  have pm:=zu9 es p ((intKind P w).hash k,Value.int k tk)
  generalize SetTable.insertAt es p ((intKind P w).hash k,Value.int k tk)=es2 at sz pm ⊢
  have zl:es.size+1≤sizeLine:=by rw[sizeLine_eq];(first|lia|omega)
  have fl:t2.fill=es.size+1:=by simp[SetTable.fill,d2,p2]
  have el2:∀e∈es2.toList,∃k tk,e=((intKind P w).hash k,Value.int k tk):=λe he=>by
   rcases List.mem_cons.mp (pm.mem_iff.mp he) with rfl | he
   ·exact⟨_,_,rfl⟩
   ·exact T.el e he
  have ks2:(es2.toList.map λe=>vI e.2).Perm (k::ds):=(pm.map _).trans (List.Perm.cons _ T.ks)
  have ld2:w.params.followText "set-order"=true∨t2.led=true:=by rw[l2];exact T.ld
  show wpAny _ _ (pure () >>= _) _ _ s;refine wpAny_bind (wpAny_pure ?_)
  rw[if_pos pn2,hashByValue_scannable 8 (x:=.int k tk) rfl];refine wpAny_bind (wpAny_pure ?_)
  dsimp only [plainKind]
  rw[if_pos rfl]
  refine wpAny_bind (wpAny_storeSet_of T.ob rfl ?_ (by rw[sz];exact zl))
  have sb:=Heap.SameBut.update s.heap S (Obj.putSet es2 t2)
  have o1:=St.lay_self (es':=es2) (t':=t2) T.ob
  by_cases c:(!false&&t2.tooFull)=true
  ·rw[if_pos c]
   have c':(es.size+1)*5≥t.mask*3:=by
    simp only[Bool.not_false,Bool.true_and,SetTable.tooFull,decide_eq_true_eq,fl,m2] at c
    exact c
   obtain⟨es3,t3,f1,f2,f3,f4,f5,f6,f7,f8,f9⟩:=zuf (n:=es.size) (t2:=t2) (es2:=es2) (by rw[m2];exact T.ms) sz (by rw[m2];exact T.lo) (by rw[m2];exact c') hz pn2
   rw[f1]
   dsimp only
   have sz3:es3.size=es.size+1:=by rw[← Array.length_toList,f2.length_eq,Array.length_toList,sz]
   show wpAny _ _ (pure () >>= _) _ _ _;refine wpAny_bind (wpAny_pure ?_)
   refine wpAny_bind (wpAny_storeSet_of (s:={ s with heap:=_ }) o1 rfl ?_ (by rw[sz3];exact zl))
   refine wpAny_pure (wpAny_pure (q _ true es3 _ t3 ⟨St.lay_self o1,by rw[f6,sz3],f5,f3,by rw[sz3];exact f4,f7,by rw[f8];exact ld2,f9,λe he=>el2 e (f2.mem_iff.mp he),(f2.map _).trans ks2⟩ (sb.trans (Heap.SameBut.update _ S _))))
  ·rw[if_neg c]
   refine wpAny_pure (wpAny_pure (q _ true es2 _ t2 ⟨o1,by rw[p2,sz],d2,by rw[m2];exact T.ms,?_,pn2,ld2,r2,el2,ks2⟩ sb))
   simp only[Bool.not_false,Bool.true_and,SetTable.tooFull,decide_eq_true_eq,fl,m2] at c
   rw[sz,m2]
   (first|lia|omega)
def dd(val:Nat→Int):Nat→List Int
 | 0=>[]
 | i+1=>if val i∈dd val i then dd val i else val i::dd val i
theorem dd_len(val:Nat→Int):∀i,(dd val i).length≤i
 | 0=>ψm _
 | i+1=>by
  have:=dd_len val i
  unfold dd
  split
  ·(first|lia|omega)
  ·rw[ψM]
   (first|lia|omega)
theorem dd_nodup(val:Nat→Int):∀i,(dd val i).Nodup
 | 0=>List.nodup_nil
 | i+1=>by
  unfold dd
  split
  ·exact dd_nodup val i
  ·exact List.nodup_cons.mpr ⟨by assumption,dd_nodup val i⟩
theorem dd_mem(val:Nat→Int){x:Int}:∀{i},x∈dd val i↔∃j,j<i∧val j=x
 | 0=>⟨λh=>(nomatch h),λ⟨j,h,_⟩=>absurd h (ψG1 j)⟩
 | i+1=>by
  have ih:=dd_mem val (x:=x) (i:=i)
  have e:x∈dd val (i+1)↔x∈dd val i∨val i=x:=by
   show x∈(if val i∈dd val i then dd val i else val i::dd val i)↔_
   split
   ·rename_i h
    exact⟨.inl,λz=>z.elim id λe=>e ▸ h⟩
   ·rw[ψc1]
    exact⟨λz=>z.elim (λe=>.inr e.symm) .inl,λz=>z.elim .inr λe=>.inl e.symm⟩
  rw[e,ih]
  constructor
  ·rintro(⟨j,h1,h2⟩ | h)
   ·exact⟨j,by (first|lia|omega),h2⟩
   ·exact⟨i,by (first|lia|omega),h⟩
  ·rintro⟨j,h1,h2⟩
   rcases Nat.lt_or_ge j i with l | l
   ·exact .inl ⟨j,l,h2⟩
   ·obtain rfl:j=i:=by (first|lia|omega)
    exact .inr h2
theorem SJ.keep{h h':Heap}{ds:List Int}(T:SJ P w h S es ep t ds)(e:∀o,h.get? S=some o→h'.get? S=some o):SJ P w h' S es ep t ds :=
 ⟨e _ T.ob,T.pl,T.dm,T.ms,T.lo,T.pn,T.ld,T.rs,T.el,T.ks⟩
theorem SJ.size{h:Heap}{ds:List Int}(T:SJ P w h S es ep t ds):es.size=ds.length:=by
 rw[← T.ks.length_eq,ψb,Array.length_toList]
theorem loopJ{R:Result→Shared→Prop}{I:Addr}{fp wr:List Addr}{G:Array GenState→Array GenState→Prop}{n:Nat}{V:Nat→Value→Prop}{Z:Nat→Shared→Prop}
  (W:WalksS P w A.in1 I fp wr G n V Z) (S:Addr) (nS:S∉fp) (val:Nat→Int) (hv:∀i v,V i v→∃tk,v=.int (val i) tk) (hz:n<300) :
  ∀(k i:Nat) (s:Shared) (es:Array (Int×Value)) (ep:Nat) (t:SetTable),n - i=k→i≤n→Z i s→SJ P w s.heap S es ep t (dd val i) →
   (∀s' es' ep' t',Moved (S::wr) G s s'→SJ P w s'.heap S es' ep' t' (dd val n)→R (.ok (.ret .none)) s') →
   codeAny (model P w) A (.builtin "set.update.loop" ⟨[.ref S,.ref I],[]⟩) R s:=by
 have nW:S∉wr:=λh=>nS (W.sub _ h)
 have sb:∀b∈wr,b∈S::wr:=λb hb=>ψd _ hb
 intro k
 induction k with
 | zero =>
  intro i s es ep t ek hi st T q
  obtain rfl:i=n:=by (first|lia|omega)
  refine codeAny_builtin PyProof.Rows.F.entry_set_update_loop ?_;rw[Around.under_plainId ψO1 _]
  show wpAny _ A.in1 (pyNext (.ref I) >>= _) _ _ s;refine wpAny_bind (W.done s _ _ st λs' hm=>?_)
  show wpAny _ A.in1 (ret Value.none) _ _ s';exact wpAny_pure (q s' es ep t (hm.mono sb) (T.keep λo e=>hm.heap S o nW e))
 | succ k ih =>
  intro i s es ep t ek hi st T q
  have lt:i<n:=by (first|lia|omega)
  refine codeAny_builtin PyProof.Rows.F.entry_set_update_loop ?_;rw[Around.under_plainId ψO1 _]
  show wpAny _ A.in1 (pyNext (.ref I) >>= _) _ _ s;refine wpAny_bind (W.item i s _ _ lt st λv s' hP st' hm=>?_)
  obtain⟨tk,rfl⟩:=hv i v hP
  have T':SJ P w s'.heap S es ep t (dd val i):=T.keep λo e=>hm.heap S o nW e
  have zl:=dd_len val i
  have sz:=T'.size
  show wpAny _ A.in1 (holding [Value.int (val i) tk] (setAdd S (.int (val i) tk)) >>= _) _ _ s';refine wpAny_bind (wpAny_holding ?_)
  unfold setAdd
  refine wpAny_holding (wpAny_bind ((intKind P w).pyHash (k:=val i) (intKind_is _ _ _ _) ?_))
  refine addJ (s:={ s' with toks:=s'.toks+1 }) T' (by (first|lia|omega)) λh' b es' ep' t' T2 sm=>?_
  refine wpAny_pure ⟨plainId_quiet ψO1 _,ih (i+1) _ es' ep' t' (by (first|lia|omega)) lt (W.frame _ s' _ _ st' (Nat.le_succ _) λb hb o e=>?_) T2 λs'' es'' ep'' t'' hm'' T3=>?_⟩
  ·rw[sm.2 b (λh:b=S=>nS (by rw[← h];exact hb))];exact e
  ·refine q s'' es'' ep'' t'' (Moved.trans W.gtrans ((hm.mono sb).then_heap (Nat.le_succ _) λb o hb e=>?_) hm'') T3
   rw[sm.2 b (λh:b=S=>hb (by rw[h];exact ψf))];exact e
theorem zxF(v:Value){Q₁:Value→Shared→Prop}(h:Q₁ (.ref s.heap.objs.size) { s with heap:=s.heap.push { cls:=.type "set",dict:=none,data:=.set #[] 0 (.fresh 0 0 (!w.params.followText "set-order")) } }) :
  codeAny (model P w) A (.call (.builtin "set.__new__") ⟨[.type "set",v],[]⟩) (wants Q₁ E) s:=by
 refine codeAny_of_tree ?_;show wpAny _ A.in1 (do checkBuiltinCall "set.__new__" ⟨[.type "set",v],[]⟩;again (.builtin "set.__new__" ⟨[.type "set",v],[]⟩)) _ _ s
 refine wpAny_bind (wpAny_of_eq (PySem.F.newCall_set_1 v) (wpAny_pure ⟨plainId_quiet PySem.F.plain_set_new _,codeAny_builtin PySem.F.entry_set_new ?_⟩));rw[Around.under_plainId PySem.F.plain_set_new _]
 unfold Builtin.«set.__new__» Builtin.Frozenset.newClass;have hsub:=PySem.sub_set_self;obtain⟨hp,g,d,tk,os⟩:=s
 dsimp only;wp_walk
 refine wpAny_askSetting (wpAny_pure ?_);dsimp only;simp only[newObj]
 refine wpAny_bind (wpAny_alloc (wpAny_pure ?_));exact wpAny_pure h
set_option maxHeartbeats 3200000 in
theorem call_setJ{l:Addr}{its:Array Value}{val:Nat→Int}{Q:Value→Shared→Prop}
  (hh:A.handled=none) (hl:s.heap.IsList l its) (hv:∀(i:Nat) v,its[i]?=some v→∃tk,v=.int (val i) tk) (hz:its.size<300)
  (q:∀(h':Heap) (u:Nat) es ep t,SJ P w h' s.heap.objs.size es ep t (dd val its.size)→(∀b o,s.heap.get? b=some o→h'.get? b=some o)→Q (.ref s.heap.objs.size) { s with heap:=h',toks:=u }) :
  wpAny (model P w) A (call (.type "set") [.ref l]) Q E s:=by
 obtain⟨c0,tl0,mr⟩:=PySem.F.called_set.mro
 have mad:=PySem.F.called_set.made;have sub0:=PySem.F.called_set.sub;refine wpAny_call (codeAny_of_tree ?_)
 show wpAny _ _ (callAny (.type "set") _) _ _ _;refine wpAny_pure ⟨Code.quiet_builtin _ (by decide +kernel),codeAny_builtin PySem.F.entry_type_call ?_⟩;rw[Around.under_plain (weight_type_call_type "set" [.ref l] []) rfl]
 have h1:=PySem.F.called_set.notType;have h2:=PySem.F.called_set.canCreate;have tc:=PySem.F.typeCall_set_1 (.ref l);repeat (any_goals (first | assumption | wp_step))
 refine codeAny_mono (zxF (.ref l) (E:=E) (Q₁:=λob s₁=>∃led:Bool,led=!w.params.followText "set-order"∧ob=.ref s.heap.objs.size∧s₁={ s with heap:=s.heap.push { cls:=.type "set",dict:=none,data:=.set #[] 0 (.fresh 0 0 led) } }) ⟨_,rfl,rfl,rfl⟩) λr s₁ hr=>?_
 cases r with
 | error e=>exact hr
 | ok fl =>
  cases fl with
  | ret ob =>
   obtain⟨led,hled,rfl,rfl⟩:=hr
   have gS:(s.heap.push { cls:=.type "set",dict:=none,data:=.set #[] 0 (.fresh 0 0 led) }).get? s.heap.objs.size=some { cls:=.type "set",dict:=none,data:=.set #[] 0 (.fresh 0 0 led) }:=Heap.get?_push_size _ rfl
   have tyS:Shared.TypeIs { s with heap:=s.heap.push { cls:=.type "set",dict:=none,data:=.set #[] 0 (.fresh 0 0 led) } } (.ref s.heap.objs.size) "set":=⟨_,gS,rfl⟩
   have li:=PySem.F.called_set.init.lookup;have bi:=PySem.F.called_set.init.bind (.ref s.heap.objs.size);repeat (any_goals (first | assumption | wp_step))
   refine codeAny_mono (codeAny_call_builtin (R:=wants (λr s₂=>r=.none∧∃h' u es ep t,s₂={ s with heap:=h',toks:=u }∧SJ P w h' s.heap.objs.size es ep t (dd val its.size)∧(∀b o,s.heap.get? b=some o→h'.get? b=some o)) E) PySem.F.called_set.init.plain PySem.F.entry_set_init (check_set_init_1 tyS ?_)) λr₂ s₂ hr₂=>?_
   ·obtain⟨⟨oc,od,odt,os⟩,go,gc,nl,gd⟩:=hl
    simp only at gc gd
    subst gc;subst gd
    have go':(s.heap.push { cls:=.type "set",dict:=none,data:=.set #[] 0 (.fresh 0 0 led) }).get? l=some { cls:=.type "list",dict:=od,data:=.seq its nl,slots:=os }:=Heap.get?_push_of_some _ go
    have b1:=PySem.F.sub_list_set;have b2:=PySem.F.sub_list_frozenset
    have b3:(Value.type "list" == Value.type "dict")=false:=by decide
    have hl1:(s.heap.push { cls:=.type "set",dict:=none,data:=.set #[] 0 (.fresh 0 0 led) }).IsList l its:=⟨_,go',rfl,nl,rfl⟩;unfold Builtin.«set.__init__» noKeywords Builtin.Frozenset.updateFrom
    generalize ePI:pyIter=PI
    wp_walk
    subst ePI
    refine wpAny_pyIter_list hl1 ?_;refine wpAny_bind (wpAny_runValue ?_)
    have lS:l<s.heap.objs.size:=Heap.lt_size go;have hh3:A.in1.in1.in1.handled=none:=by simp[hh]
    have sz1:(s.heap.push { cls:=.type "set",dict:=none,data:=.set #[] 0 (.fresh 0 0 led) }).objs.size=s.heap.objs.size+1:=Heap.size_push ..
    have nI:l≠(s.heap.push { cls:=.type "set",dict:=none,data:=.set #[] 0 (.fresh 0 0 led) }).objs.size:=by rw[sz1];exact ψs (ψT1 lS)
    have nSf:s.heap.objs.size∉[(s.heap.push { cls:=.type "set",dict:=none,data:=.set #[] 0 (.fresh 0 0 led) }).objs.size,l]:=by
     rw[sz1];simp only[ψc1,ψR,or_false,not_or]
     exact⟨ψs (ψJ1 _),ψM1 lS⟩
    refine loopJ ((Walks.list hh3 _ l nI its).toS) s.heap.objs.size nSf val hv hz (its.size - 0) 0 _ #[] 0 (.fresh 0 0 led) (by (first|lia|omega)) (ψu1 _) ⟨⟨_,Heap.get?_push_size _ rfl,rfl,rfl⟩,(hl1.push _)⟩ ⟨Heap.get?_push_of_some _ gS,rfl,rfl,.inl rfl,(by show 0*5<7*3;decide),rfl,?_,List.Pairwise.nil,λe he=>by simp at he,List.Perm.refl _⟩ ?_
    ·show w.params.followText "set-order"=true∨led=true
     rw[hled]
     cases w.params.followText "set-order" <;> simp
    ·intro s' es ep t hm T
     obtain⟨h',g',d',tk',os'⟩:=s';have eg:g'=s.gens:=hm.gens;have ed:d'=s.drawn:=hm.drawn
     have eo:os'=s.os:=hm.os
     subst eg;subst ed;subst eo
     show wpAny _ _ _ _ _ _;refine wpAny_pure ?_;show wpAny _ _ (ret Value.none) _ _ _
     refine wpAny_pure ⟨rfl,h',tk',es,ep,t,rfl,T,λb o e=>?_⟩
     have:=Heap.lt_size e
     refine hm.heap b o ?_ (Heap.get?_push_of_some _ (Heap.get?_push_of_some _ e))
     simp only[ψc1,ψR,or_false,not_or]
     rw[sz1]
     exact⟨ψs this,ψs (ψT1 this)⟩
   ·cases r₂ with
    | error e=>exact hr₂
    | ok fl₂ =>
     cases fl₂ with
     | ret r =>
      obtain⟨rfl,h',u,es,ep,t,rfl,g1,g4⟩:=hr₂;repeat (any_goals (first | assumption | wp_step))
      exact q _ _ _ _ _ g1 g4
     | _=>exact hr₂.elim
  | _=>exact hr.elim
end
end L2.Sw
namespace L2
open PySem PySem.Spec PyProof.Rows
def zli(K:ψa):List V→Hp→VK→Prop:=λxs H Q=>∃(p:Addr) (ns:List Int),xs=[.ref p]∧SqL K H p (ns.map V.int)∧ns.length<64∧∀(l:Addr) (ms:List Int),H l=none→(∀x,x∈ms↔x∈ns)→ms.Pairwise (·<·)→ms.length≤ns.length→Q (.ref l) (upd H l (.lst (ms.map V.int)))
section
variable {X:Cx} {e:Expr} {t:TA} {p1 p2 pos1 pos2:Pos}
theorem zqI:∀{ms:List Int},ms.Pairwise (·≤·)→ms.Nodup→ms.Pairwise (·<·)
 | [],_,_=>.nil
 | a::ms,h,n=>by
  rw[List.pairwise_cons] at h ⊢
  rw[List.nodup_cons] at n
  refine⟨λb hb=>?_,zqI h.2 n.2⟩
  have h1:=h.1 b hb
  have h2:a≠b:=λz=>n.1 (z ▸ hb)
  (first|lia|omega)
theorem zqj(hgl:Gl X "sorted")(hml:X.mg "sorted"=none)(hgs:Gl X "set")(hms:X.mg "set"=none)(ha:PA X [e] t)(hc:X.calm=true:=by rfl)
  (he:starEach [e] X.env=(false,eval e X.env)::starEach [] X.env:=by rfl) (hpl:∀pos,(backTo pos (starEach [] X.env)).any (·.1)=false:=by intro _;rfl)
  (he2:starEach [.Call (.Name "set" p2) [e] [] pos2] X.env=(false,eval (.Call (.Name "set" p2) [e] [] pos2) X.env)::starEach [] X.env:=by rfl) :
  PE X (.Call (.Name "sorted" p1) [.Call (.Name "set" p2) [e] [] pos2] [] pos1) (tCB (zli X.K) t):=by
 intro pins s σ H Q I h
 refine wpAny_Call_Name_kw (zit I hgl hml boot_sorted ?_ (by decide) (by decide))
 refine PyProof.Rows.callWith_builtin1 ?_ he2 (hpl _);rw[he2]
 show wpAny _ _ (spliced ((false,eval (.Call (.Name "set" p2) [e] [] pos2) X.env)::backTo pos1 (starEach [] X.env))) _ _ s;refine Calls.spliced_cons ?_
 refine wpAny_Call_Name_kw (zit I hgs hms PyProof.Rows.boot_set ?_ (by decide) (by decide))
 refine ψt1 (thn (ha pos2 pins s σ H _ I h) λus s1 hQ'=>?_) he (hpl _)
 obtain⟨vs,H1,I1,r1,q1⟩:=hQ'
 obtain⟨p,ns,rfl,hp,l64,q⟩:=q1
 obtain⟨u,rfl,rx⟩:=zr4 r1
 cases rx
 obtain⟨its,rv,pl,hz⟩:=I1.list hp
 have hlen:its.length=ns.length:=by rw[← rv.length,ψb]
 refine Sw.call_setJ (its:=its.toArray) (val:=λi=>ns.getD i 0) (I1.ok.hd hc) pl.isList (λi v e=>?_) (by rw[ψg,hlen];(first|lia|omega)) λh' tk es ep tb T g4=>?_
 ·have hi:i<ns.length:=by
   have:=(Array.getElem?_eq_some_iff.mp e).1
   rw[ψg,hlen] at this
   exact this
  obtain⟨u,eu,ru⟩:=rv.get (show(ns.map V.int)[i]?=some (V.int ns[i]) by simp[hi])
  have e':its[i]?=some v:=by simpa using e
  rw[e'] at eu
  cases eu
  rw[ψv,ψc hi]
  exact ru
 ·refine Calls.spliced_nil ?_
  have szi:its.toArray.size=ns.length:=by rw[ψg];exact hlen
  rw[szi] at T
  have I2:Inv X pins σ H1 { s1 with heap:=h',toks:=tk }:=I1.kept (t':=tk) g4
  generalize s1.heap.objs.size=S at T ⊢
  have hes:=T.size
  have hdd:=Sw.dd_len (λi=>ns.getD i 0) ns.length
  refine Calls.call_function_entry kind_sorted plain_sorted entry_sorted (args_sorted1 _) ?_;unfold Builtin.«sorted»;refine wpAny_bind (m:=checkCount "sorted" 1 1 _) (wpAny_pure ?_)
  refine wpAny_bind (PySem.W.kdu_collect (A:=X.A.in1) (s:={ s1 with heap:=h',toks:=tk }) (Sw.src (P:=X.prog) (w:=X.w) T.fits T.led) (I1.ok.hd hc) T.ob (by rw[sizeLine_eq];(first|lia|omega)) λh2 tk2 acc hkp hacc=>?_)
  have pm:=(Sw.ord_perm (w:=X.w) (S:=S) (es:=es) (ep:=ep))
  have osz:(Sw.ord X.w S es ep).size=es.size:=by rw[← Array.length_toList,pm.length_eq,Array.length_toList]
  have hla:acc.toList.length=es.size:=by rw[Array.length_toList,hacc.1]
  have hI:IntsAre acc.toList ((Sw.ord X.w S es ep).toList.map λe=>Sw.vI e.2):=by
   refine zpx (ztm (by rw[ψb,ψb,hla,Array.length_toList,osz]) λj x w e1 e2=>?_)
   rw[ψt,Option.map_eq_some_iff] at e1
   obtain⟨k,hk,rfl⟩:=e1
   rw[ψt,Option.map_eq_some_iff] at hk
   obtain⟨y,hy,rfl⟩:=hk
   have e3:((Sw.ord X.w S es ep)[j]?).map (·.2)=some w:=hacc.2 j w (by rw[← Array.getElem?_toList];exact e2)
   rw[← Array.getElem?_toList,hy] at e3
   cases e3
   obtain⟨k',tk',rfl⟩:=T.el y (pm.mem_iff.mp (ψP hy))
   exact⟨tk',rfl⟩
  have hpk:((Sw.ord X.w S es ep).toList.map λe=>Sw.vI e.2).Perm (Sw.dd (λi=>ns.getD i 0) ns.length):=(pm.map _).trans T.ks
  refine wpAny_bind (wpAny_newList ?_ (by rw[hla,sizeLine_eq];(first|lia|omega)))
  have hoL:(h2.push (seqObj "list" acc.toList.toArray 0)).get? h2.objs.size=some (seqObj "list" acc.toList.toArray 0):=Heap.get?_push_size _ rfl
  refine wpAny_bind (wpAny_holding (wpAny_call_entry slot_list_sort ⟨_,hoL,rfl⟩ entry_list_sort (list_sort_tree hoL hI (by rw[hla];(first|lia|omega)) λout ns' a1 a2 a3=>⟨_,rfl,?_⟩) (args_list_sort _)))
  obtain⟨e,he⟩:=sortedHeap_at (out:=out) hoL;refine wpAny_pure ⟨_,rfl,?_⟩
  have I':Inv X pins σ H1 { s1 with heap:=h2,toks:=tk2 }:=I2.kept (t':=tk2) hkp
  have a4:=a2.trans hpk
  refine zqq (s:={ s1 with heap:=h2,toks:=tk2 }) (h':=sortedHeap (h2.push (seqObj "list" acc.toList.toArray 0)) h2.objs.size acc.toList out) (tk:=tk2) I' (λb o hb'=>?_) (ψm _) he a1 (by rw[a4.length_eq];(first|lia|omega)) λhn=>q _ ns' hn (λx=>?_) (zqI a3 (a4.nodup_iff.mpr (Sw.dd_nodup _ _))) (by rw[a4.length_eq];exact hdd)
  ·have hlt:=Heap.lt_size hb'
   rw[sortedHeap_old (ψs hlt) (by rw[size_push'];exact ψT1 hlt)]
   exact Heap.get?_push_of_some _ hb'
  ·rw[a4.mem_iff,Sw.dd_mem]
   constructor
   ·rintro⟨j,hj,rfl⟩
    rw[ψv,ψc hj]
    exact ψs1 hj
   ·intro hx
    obtain⟨j,ej⟩:=ψq hx
    exact⟨j,(List.getElem?_eq_some_iff.mp ej).1,by rw[ψv,ej];rfl⟩
end
end L2
set_option maxHeartbeats 4000000
local macro_rules
 | `(tactic| simp_all only [$xs,*])=>do
  let ds ← ("zw1 zw5 zwW zwv zxL zwR zwi zxo zxg zwT ztX zu6 zuP rI_c rI0_c zzp zzM ex_bl zy5 zy9 zzJ zzv zt0 zuO zuz ztP ztJ zvn zuL zu0 zva zuR zrH zrQ zqL zwM zuQ zt2 zmO rNeD za5 tSl zcy zfS zl2 zcA zlq rNeT tBM zxp zcz zbd zb1 zbO zdv zaH zdu tCB zab zau tC tOp tUn zb5 tB zzV tOr zfe zdQ zbU zkj zhw zeG zaz rU rEq rIn zke ztp rNe zur zto zli zmf tTru zfE tIf tOrV zxz zv1 tPar rEqT zl5 iTup gSub zvf".splitOn " ").toArray.mapM λs=>`(Lean.Parser.Tactic.simpLemma| ↓ $(Lean.mkIdent s.toName):ident)
  let ps ← ("ztZ Option.bind_some Option.bind_none Option.join_some Option.map_some List.getElem?_cons_zero List.getElem?_cons_succ V.str.injEq V.ty.injEq zac rI rI0 zfp zbC L2.start ztW zwB zuy zxJ List.map_cons List.map_nil List.length_cons List.length_nil List.replicate List.cons_append List.nil_append List.append_nil Option.some.injEq exists_eq_left' exists_eq_left exists_and_left List.cons.injEq V.int.injEq V.ref.injEq V.bl.injEq and_true true_and List.set_cons_zero List.set_cons_succ Nat.reduceAdd Nat.reduceSub Int.reduceToNat Int.reducePow Int.reduceNeg Int.reduceMul Int.reduceAdd Int.reduceSub decide_eq_true_eq Bool.not_eq_true' decide_eq_false_iff_not exists_const and_assoc exists_eq exists_eq' if_true if_false Bool.false_eq_true Bool.true_eq_false reduceCtorEq not_true_eq_false not_false_eq_true".splitOn " ").toArray.mapM λs=>`(Lean.Parser.Tactic.simpLemma| $(Lean.mkIdent s.toName):ident)
  `(tactic| simp only[$xs,*,$ds,*,$ps,*])
set_option hygiene false
local macro_rules|`((Qa))=>`(hr.mono (Qn))
local macro_rules|`((Qb))=>`(λxs H Q=>∃p ys,xs=[.ref p]∧(SqL K H p ys∨SqT K H p ys)∧Q (.int ys.length) H)
local macro_rules|`((Qc))=>`(rI IntMulOk λi j=>.int (i*j))
local macro_rules|`((Qd))=>`(λcdv A outer s H vs Q E hr h=>?_)
local macro_rules|`((Qe))=>`(by omega)
local macro_rules|`((Qf))=>`(Or.inl rfl)
local macro_rules|`((Qg))=>`(zaw zaq (pv 0) zae (Qp))
local macro_rules|`((Qh))=>`(tC (.int 1))
local macro_rules|`((Qi))=>`(.of (by decide +kernel))
local macro_rules|`((Qj))=>`(λvs H Q E h=>?_)
local macro_rules|`((Qk))=>`(zdv K 2 (zaH (zam 0) (zaH (zam 1) zdu)))
local macro_rules|`((Ql))=>`(tC (.int 0))
local macro_rules|`((Qm))=>`(zaj (zar (zcM zeb rfl T.z_tuple zbS (zaa (zbi (sc:=zag zb9) (N:=["_law_thing"]) (Nc:=["_law_part"]) (cap:=[none]) rfl rfl rfl (Qi) (zo6 (pv 0)) (λ_ _ _ _=>(zak (i:=0) (show ψh (["_law_part"]:List Str) from by decide) rfl (Qf))) (QF) (λ_ _ _ _=>(zah G__law_deep (Qa) rfl T.m__law_deep T.F__law_deep.kp T.b__law_deep .nil zax (Qap)))) zad))))
local macro_rules|`((Qn))=>`(by decide)
local macro_rules|`((Qo))=>`(zaj (zar (zbi (sc:=zag zb9) (N:=["_law_thing"]) (Nc:=["_law_part"]) (cap:=[none]) rfl rfl rfl (Qi) (Qbk) (λ_ _ _ _=>(zak (i:=0) (show ψh (["_law_part"]:List Str) from by decide) rfl (Qf))) (QF) (λ_ _ _ _=>(zah G__law_deep (Qa) rfl T.m__law_deep T.F__law_deep.kp T.b__law_deep .nil zax (Qap))))))
local macro_rules|`((Qp))=>`(λ_ _=>rfl)
local macro_rules|`((Qq))=>`(λ_ _ _ _=>(zbu rfl (zal (zak (i:=0) (show ψh (["box","count"]:List Str) from by decide) rfl (Qf)) (zal (zak (i:=1) (show ψh (["box","count"]:List Str) from by decide) rfl (Qf)) za3))))
local macro_rules|`((Qr))=>`(zah G__law_draw (Qa) rfl T.m__law_draw T.F__law_draw.kp T.b__law_draw .nil zax (zaa (pv 1) (QaB)))
local macro_rules|`((Qs))=>`(zbt (zao zaT rfl T.z_isinstance ψi (zaa (pv 0) (zaa (zbZ rfl T.z_tuple zbS rfl) zad))))
local macro_rules|`((Qt))=>`(λxs H Q=>∃p ys,xs=[.ref p]∧(SqL K H p ys∨SqT K H p ys)∧∀l,H l=none→Q (Qa5) (upd H l (.lst ys)))
local macro_rules|`((Qu))=>`(zao zaA rfl T.z_len ψr (Qap))
local macro_rules|`((Qv))=>`(rI0 λi j=>.int (i+j))
local macro_rules|`((Qw))=>`(.bool true)
local macro_rules|`((Qx))=>`(zao zaT rfl T.z_isinstance ψi (zaa (pv 0) (Qcb)))
local macro_rules|`((Qy))=>`(λz=>absurd z (Qn))
local macro_rules|`((Qz))=>`(zaw zaq (pv 5) zae (Qp))
local macro_rules|`((QA))=>`(rI (λ_ j=>j≠0∧j.natAbs.log2<9000) λi j=>.int (i.fdiv j))
local macro_rules|`((QB))=>`(tOp (zbC K) (zac 0) (Qh))
local macro_rules|`((QC))=>`(zbU (tC (.bl false)))
local macro_rules|`((QD))=>`(zab (zac 1) zau)
local macro_rules|`((QE))=>`(zab (zac 0) zau)
local macro_rules|`((QF))=>`(λ_ _ _ _=>za6)
local macro_rules|`((QG))=>`(zaa (pv 1) zad)
local macro_rules|`((QH))=>`(λ_ _ _ _=>(zbu rfl (zal (zak (i:=0) (show ψh (["_law_plan_here","_law_weight"]:List Str) from by decide) rfl (Qf)) (zal (zak (i:=1) (show ψh (["_law_plan_here","_law_weight"]:List Str) from by decide) rfl (Qf)) za3))))
local macro_rules|`((QI))=>`(us.map V.ref)
local macro_rules|`((QJ))=>`(rI0 λi j=>.int (i - j))
local macro_rules|`((QK))=>`(tOp (zbC K) (zac 0) (Ql))
local macro_rules|`((QL))=>`(zaw zaq (pv 1) zae (Qp))
local macro_rules|`((QM))=>`(xs.map λx=>x.2)
local macro_rules|`((QN))=>`(λz=>absurd rfl z)
local macro_rules|`((QO))=>`(zab (zac 3) zau)
local macro_rules|`((QP))=>`(zaj (zar zde))
local macro_rules|`((QR))=>`(.lst (ts.map V.ref))
local macro_rules|`((QS))=>`(.lst (Qcx))
local macro_rules|`((QT))=>`(rI0 λi j=>.bl (decide (i<j)))
local macro_rules|`((QU))=>`(zaa (pv 3) zad)
local macro_rules|`((QV))=>`(tC (.int 2))
local macro_rules|`((QW))=>`(tB (tCB (ziw K) (zab (zac 0) (zab (tC (.ty "tuple")) zau))))
local macro_rules|`((QX))=>`(λxs H Q=>∃i j,xs=[.int i,.int j]∧Q (.int (if j > i then j else i)) H)
local macro_rules|`((QY))=>`(s26 p0 p l r cell bud x6 x7 x8 x9 xa xb xc)
local macro_rules|`((QZ))=>`(rI0 λi j=>.bl (decide (j<i)))
local macro_rules|`((Q0))=>`(.ref r)
local macro_rules|`((Q3))=>`(.tup [.ref wl,.ref pp,.ref cl])
local macro_rules|`((Q4))=>`(tOp (zbC K) (zac 5) (Ql))
local macro_rules|`((Q5))=>`(tOp (zbC K) (zac 1) (Qh))
local macro_rules|`((Q6))=>`((zbI ts).map V.int)
local macro_rules|`((Q7))=>`(zab (zac 0) (QD))
local macro_rules|`((Q8))=>`(zaw zaq (pv 2) zae (Qp))
local macro_rules|`((Q9))=>`(λ_ _ _ _=>(zak (i:=0) (show ψh (["box"]:List Str) from by decide) rfl (Qf)))
local macro_rules|`((Qaa))=>`(zbs (zbP (PW.pt (zdl (zbL (Qs)) (zc5 (zbb ziK (Qu) zae (za4 _))))) (QP) zaR))
local macro_rules|`((Qab))=>`(λ(w:Int) (x:Box×Int)=>w*(x.1.2.2 ^ x.2.toNat - (x.1.2.2 - x.1.2.1) ^ x.2.toNat)*T.fdiv (x.1.2.2 ^ x.2.toNat))
local macro_rules|`((Qac))=>`(zaa (pv 0) (QG))
local macro_rules|`((Qad))=>`(tCB (ziw K) (zab (zac 0) (zab (tC (.ty "list")) zau)))
local macro_rules|`((Qae))=>`(rI0 λi j=>.bl (decide (j≤i)))
local macro_rules|`((Qaf))=>`(rI0 λi j=>.bl (decide (i≤j)))
local macro_rules|`((Qag))=>`(.tup (fr W))
local macro_rules|`((Qah))=>`(tOp (zbC K) (zac 5) (Qh))
local macro_rules|`((Qai))=>`(ms.map V.int)
local macro_rules|`((Qaj))=>`(.tup [.ref wr,.ref mr,.ref pr])
local macro_rules|`((Qak))=>`(rI (λ_ j=>j≠0) λi j=>.int (i.fmod j))
local macro_rules|`((Qal))=>`(λi x v H' R hx hv s k=>?_)
local macro_rules|`((Qam))=>`(zih R ns ss ls ms ((QaR).map λw=>w.fdiv g))
local macro_rules|`((Qan))=>`(zab (zac 2) zau)
local macro_rules|`((Qao))=>`(.tup [.int ((b.2.2 - b.2.1) ^ n.toNat),.int (b.2.2 ^ n.toNat)])
local macro_rules|`((Qap))=>`(zaa (pv 0) zad)
local macro_rules|`((Qaq))=>`(zah G_is_whole (Qa) rfl T.m_is_whole T.F_is_whole.kp T.b_is_whole .nil zax (zaa (Qg) zad))
local macro_rules|`((Qar))=>`(ze8 bs ns bud)
local macro_rules|`((Qas))=>`(tCB (Qb) (QE))
local macro_rules|`((Qat))=>`(⟨true,rfl,?_⟩)
local macro_rules|`((Qau))=>`(tOp (zbC K) (zac 0) (QV))
local macro_rules|`((Qav))=>`(∀b∈bs,GB b)
local macro_rules|`((Qaw))=>`(zaa (pv 2) zad)
local macro_rules|`((Qax))=>`(zab (zac 0) (zab (zac 1) (zab (zac 2) (QO))))
local macro_rules|`((Qay))=>`(ψl bs ns)
local macro_rules|`((Qaz))=>`(wqs bs ns)
local macro_rules|`((QaA))=>`(zas zav (Qg) (QL))
local macro_rules|`((QaB))=>`(zaa zae zad)
local macro_rules|`((QaC))=>`(zaa (pv 0) (zaa (pv 1) (zaa (pv 2) (QU))))
local macro_rules|`((QaD))=>`(s1.trans s2)
local macro_rules|`((QaE))=>`(zcz K (zac 0))
local macro_rules|`((QaF))=>`(tOp (Qc) (tOp (zbC K) (zac 1) (Ql)) (QB))
local macro_rules|`((QaG))=>`(L2.start ["one","other"] [.ref x,.ref y])
local macro_rules|`((QaH))=>`(⟨⟨_,SqL.of hl⟩,λD hD=>?_⟩)
local macro_rules|`((QaI))=>`(.lst (Ws.map V.int))
local macro_rules|`((QaJ))=>`(pln R ns ss ls e)
local macro_rules|`((QaK))=>`(⟨_,SqT.of a1,rfl,_,_,rfl,_,_,rfl,_,_,rfl,rfl,?_⟩)
local macro_rules|`((QaL))=>`(λx hx=>gb x (Qbr))
local macro_rules|`((QaM))=>`(λ_=>?_)
local macro_rules|`((QaN))=>`(Off p p H')
local macro_rules|`((QaO))=>`(zah G_missed (Qa) rfl T.m_missed T.F_missed.kp T.b_missed .nil zax (Qac))
local macro_rules|`((QaP))=>`(zab (Qh) (zab (tUn (rU λi=>.int (-i)) (Qh)) zau))
local macro_rules|`((QaQ))=>`(zab (zac 4) zau)
local macro_rules|`((QaR))=>`(wds R ms)
local macro_rules|`((QaS))=>`(zao (zcr rfl) rfl T.z_sum ψI (QbL))
local macro_rules|`((QaT))=>`(zbO (zac 3) (zdv K 3 (zaH (zam 4) (zaH (zam 5) (zaH (zam 6) zdu)))))
local macro_rules|`((QaU))=>`(rI (λ_ j=>0<j) λi j=>.int (i % j))
local macro_rules|`((QaV))=>`(∀b∈bs,b.2.1=b.2.2)
local macro_rules|`((QaW))=>`(tOp (zbC K) (zac 2) (Qh))
local macro_rules|`((QaX))=>`(zab (tOp (zbC K) (zac 5) (QV)) zau)
local macro_rules|`((QaY))=>`(λe w=>w.fdiv g*(λe=>if cov R s L e=true then (1:Int) else 0) e)
local macro_rules|`((QaZ))=>`(zaw zbv (pv 0) zae (Qp))
local macro_rules|`((Qa0))=>`(zaw zaq (pv 3) zae (Qp))
local macro_rules|`((Qa1))=>`(zab (zac 5) zau)
local macro_rules|`((Qa2))=>`(nxt E bs ns)
local macro_rules|`((Qa3))=>`(Off p p H)
local macro_rules|`((Qa4))=>`(by simpa using c)
local macro_rules|`((Qa5))=>`(.ref l)
local macro_rules|`((Qa6))=>`(zdO rfl T.z_range (zaa (Qu) zad))
local macro_rules|`((Qa7))=>`(List.getElem?_eq_some_iff.mp hx)
local macro_rules|`((Qa8))=>`(List.getElem?_eq_some_iff.mp e1)
local macro_rules|`((Qa9))=>`(zaa (pv 5) zad)
local macro_rules|`((Qba))=>`(zdv K 2 (zaH (zam 2) (zaH (zam 3) zdu)))
local macro_rules|`((Qbb))=>`(tOp (Qc) (tOp (Qc) (tOp (zbC K) (zac 2) (Ql)) (QK)) (Qau))
local macro_rules|`((Qbc))=>`(⟨by decide,λr nr=>?_⟩)
local macro_rules|`((Qbd))=>`(Or.inr rfl)
local macro_rules|`((Qbe))=>`(zab (zac 0) (zab (zac 6) zau))
local macro_rules|`((Qbf))=>`(show ψh (["cost","hits","of"]:List Str) from by decide)
local macro_rules|`((Qbg))=>`(.tup (bx b))
local macro_rules|`((Qbh))=>`(⟨⟨_,SqL.of B.hl⟩,⟨_,SqL.of B.hp⟩,λD hD=>?_⟩)
local macro_rules|`((Qbi))=>`(.lst (QI))
local macro_rules|`((Qbj))=>`(zao zaA rfl T.z_len ψr (QU))
local macro_rules|`((Qbk))=>`(zbl (pv 0))
local macro_rules|`((Qbl))=>`(λi x v H' R hx hv s kk=>?_)
local macro_rules|`((Qbm))=>`(zaz zbW [] E0 (zab (zac 1) (zab (tC (.int 5)) zau)))
local macro_rules|`((Qbn))=>`(zaa (pv 0) (zaa (pv 6) zad))
local macro_rules|`((Qbo))=>`(bs.map λb=>b.1)
local macro_rules|`((Qbp))=>`(bs.map λ_=>(0:Int))
local macro_rules|`((Qbq))=>`(.tup (fr P))
local macro_rules|`((Qbr))=>`(ψd _ hx)
local macro_rules|`((Qbs))=>`(.lst (x.2.1.map V.int))
local macro_rules|`((Qbt))=>`(.int bud)
local macro_rules|`((Qbu))=>`(λz=>absurd z (Qe))
local macro_rules|`((Qbv))=>`(zab (zac 1) (Qan))
local macro_rules|`((Qbw))=>`(zaa zae (zaa (zpN zkt zae) zad))
local macro_rules|`((Qbx))=>`(some (.ref pr'))
local macro_rules|`((Qby))=>`(by simp)
local macro_rules|`((Qbz))=>`(List.getElem?_eq_some_iff.mp hk)
local macro_rules|`((QbA))=>`(.refl _)
local macro_rules|`((QbB))=>`(.ref ml)
local macro_rules|`((QbC))=>`(zaH (zam 9) (zaH (zam 10) zdu))
local macro_rules|`((QbD))=>`(zaa zae (QaB))
local macro_rules|`((QbE))=>`(⟨_,SqT.of h1,rfl,_,_,rfl,_,_,rfl,rfl,?_⟩)
local macro_rules|`((QbF))=>`(zcM zcJ rfl T.z_list zbQ (QG))
local macro_rules|`((QbG))=>`(zbs (zbP (zbt (Qx)) (Qo) zaR))
local macro_rules|`((QbH))=>`(zaz zbW [] E0 (zab (zac 1) (zab (QV) zau)))
local macro_rules|`((QbI))=>`(zaa (pv 1) (Qaw))
local macro_rules|`((QbJ))=>`(zaH (zam 4) (zaH (zam 5) zdu))
local macro_rules|`((QbK))=>`(zaF bs ns)
local macro_rules|`((QbL))=>`(zaa (pv 4) zad)
local macro_rules|`((QbM))=>`(λb n=>(b,n,shq W b n))
local macro_rules|`((QbN))=>`(zbd (zdG (zjc)) (zbd (zdG (zjt)) (zie K)))
local macro_rules|`((QbO))=>`(zab (tC (.int 60)) zau)
local macro_rules|`((QbP))=>`(zab (tOp (Qc) (QB) (Q5)) zau)
local macro_rules|`((QbQ))=>`(tOp (Qc) (QK) (Q5))
local macro_rules|`((QbR))=>`(.tup [V.ref x.1,V.int x.2.2])
local macro_rules|`((QbS))=>`(λe w=>if cov R s L e=true then w else 0)
local macro_rules|`((QbT))=>`(λe w=>if e<b then w else 0)
local macro_rules|`((QbU))=>`(zdv K 2 (zaH (zam 6) (zaH (zam 7) zdu)))
local macro_rules|`((QbV))=>`(zaa (Qz) zad)
local macro_rules|`((QbW))=>`(.tup (fr v))
local macro_rules|`((QbX))=>`(.tup (fr u))
local macro_rules|`((QbY))=>`(some (.ref v))
local macro_rules|`((QbZ))=>`(by cases z)
local macro_rules|`((Qb0))=>`(.bl true)
local macro_rules|`((Qb1))=>`(tSl (zl2 K) (zac 0) zcy (zfS (zac 3)))
local macro_rules|`((Qb2))=>`(.tup [.int s,.int t])
local macro_rules|`((Qb3))=>`(zke (zab (Qas) zau))
local macro_rules|`((Qb4))=>`(tC (.int 3))
local macro_rules|`((Qb5))=>`(⟨by omega,by omega,?_⟩)
local macro_rules|`((Qb6))=>`(⟨by decide,λp np=>?_⟩)
local macro_rules|`((Qb7))=>`(tOp (zfp K) (zac 0) (Ql))
local macro_rules|`((Qb8))=>`(tOp (zbC K) (zac 3) (Ql))
local macro_rules|`((Qb9))=>`(.ref p)
local macro_rules|`((Qca))=>`(.lst (Qai))
local macro_rules|`((Qcb))=>`(zaa (zbZ rfl T.z_list zbQ rfl) zad)
local macro_rules|`((Qcc))=>`(λ_=>rfl)
local macro_rules|`((Qcd))=>`(znn (Qai) (some 1) none)
local macro_rules|`((Qce))=>`(zbs (zbP (Qs) (Qm) zaR))
local macro_rules|`((Qcf))=>`(zaw zaq (pv 6) zae (Qp))
local macro_rules|`((Qcg))=>`(zaw zaq (pv 4) zae (Qp))
local macro_rules|`((Qch))=>`(.tup (fr (Qar)))
local macro_rules|`((Qci))=>`(⟨by omega,by omega,λD hD=>?_⟩)
local macro_rules|`((Qcj))=>`(λi x z w H3 R hx hz hw s3 k=>?_)
local macro_rules|`((Qck))=>`(λi x z w H3 R hx hz hv s3 k=>?_)
local macro_rules|`((Qcl))=>`(zas zav (zas zav (Q8) (Qg)) (Qg))
local macro_rules|`((Qcm))=>`(rI zyF λi j=>.int (i ^ j.toNat))
local macro_rules|`((Qcn))=>`(ψe (shq W) bs ns)
local macro_rules|`((Qco))=>`(zcD zdk (pv 0) zdr (zdp (pv 3)))
local macro_rules|`((Qcp))=>`(zas zav (QL) (Qg))
local macro_rules|`((Qcq))=>`(zab (zac 0) (Qan))
local macro_rules|`((Qcr))=>`(xs.map λx=>x.2.2)
local macro_rules|`((Qcs))=>`(s2.trans s3)
local macro_rules|`((Qct))=>`(List.getElem?_eq_some_iff.mp ei)
local macro_rules|`((Qcu))=>`(K w.params)
local macro_rules|`((Qcv))=>`((QI).take j)
local macro_rules|`((Qcw))=>`(zab (Qh) zau)
local macro_rules|`((Qcx))=>`(ns.map V.int)
local macro_rules|`((Qcy))=>`(.lst (Q6))
local macro_rules|`((Qcz))=>`(zcM zcJ rfl T.z_list zbQ (QU))
local macro_rules|`((QcA))=>`(zaj (zar (pv 0)))
local macro_rules|`((QcB))=>`(zaa (pv 0) (Qaw))
local macro_rules|`((QcC))=>`(.ref pr)
set_option hygiene true
namespace My
local macro_rules | `(tactic| omega)=>`(tactic| lia)
open PySem L2
def top(i:Nat):Stmt:=PySem.Challenge.pw_hideworth_k26_whole_budgets_papers_let_b.main.body.getD i (.Pass ⟨0,0,0,0⟩)
abbrev zju:Stmt:=top 6
abbrev zoH:Stmt:=top 7
abbrev zqU:Stmt:=top 8
abbrev znY:Stmt:=top 9
abbrev zol:Stmt:=top 10
abbrev ztu:Stmt:=top 11
abbrev znJ:Stmt:=top 12
abbrev zi1:Stmt:=top 13
abbrev zd0:Stmt:=top 14
abbrev ziY:Stmt:=top 15
abbrev zhW:Stmt:=top 17
abbrev zhu:Stmt:=top 18
abbrev zfz:Stmt:=top 20
abbrev zef:Stmt:=top 19
abbrev zkL:Stmt:=top 27
abbrev zeN:Stmt:=top 28
abbrev zfD:Stmt:=top 29
abbrev zhL:Stmt:=top 30
abbrev znS:Stmt:=top 31
abbrev zlw:Stmt:=top 32
abbrev zlN:Stmt:=top 33
abbrev zrl:Stmt:=top 34
abbrev zgy:Stmt:=top 35
abbrev zia:Stmt:=top 36
abbrev zi9:Stmt:=top 37
abbrev zeW:Stmt:=top 38
abbrev zbH:Stmt:=top 39
abbrev zdY:Stmt:=top 40
abbrev zc1:Stmt:=top 41
abbrev zdd:Stmt:=top 42
abbrev zex:Stmt:=top 43
abbrev zdK:Stmt:=top 44
abbrev zdW:Stmt:=top 45
abbrev zey:Stmt:=top 46
abbrev znV:Stmt:=top 47
abbrev zeT:Stmt:=top 48
abbrev zdE:Stmt:=top 49
abbrev zdS:Stmt:=top 50
abbrev zb2:Stmt:=top 51
abbrev zea:Stmt:=top 52
abbrev zgD:Stmt:=top 53
abbrev zgx:Stmt:=top 54
abbrev zd9:Stmt:=top 55
abbrev zf2:Stmt:=top 56
abbrev zeS:Stmt:=top 57
abbrev zh0:Stmt:=top 59
abbrev ze1:Stmt:=top 60
abbrev zhp:Stmt:=top 61
abbrev zhi:Stmt:=top 62
abbrev zgr:Stmt:=top 63
abbrev zgg:Stmt:=top 64
abbrev zer:Stmt:=top 65
abbrev zfr:Stmt:=top 66
abbrev zhf:Stmt:=top 67
abbrev zht:Stmt:=top 68
abbrev zhk:Stmt:=top 69
abbrev zfw:Stmt:=top 70
abbrev zeP:Stmt:=top 71
abbrev zeg:Stmt:=top 72
abbrev zdP:Stmt:=top 73
abbrev zeQ:Stmt:=top 74
abbrev zf3:Stmt:=top 75
abbrev zdM:Stmt:=top 76
abbrev zb9:Stmt:=top 77
abbrev zcL:Stmt:=top 78
abbrev zcW:Stmt:=top 79
abbrev zdB:Stmt:=top 80
abbrev zqG:Stmt:=top 81
set_option genInjectivity false in
set_option genSizeOf false in
structure Ad where
 f_divisor:Addr
 d_divisor:FuncData
 f_ratio:Addr
 d_ratio:FuncData
 f_plus:Addr
 d_plus:FuncData
 f_minus:Addr
 d_minus:FuncData
 f_times:Addr
 d_times:FuncData
 f_over:Addr
 d_over:FuncData
 f_below:Addr
 d_below:FuncData
 f_common:Addr
 d_common:FuncData
 f_shared_divisor:Addr
 d_shared_divisor:FuncData
 f_lowest:Addr
 d_lowest:FuncData
 f_is_whole:Addr
 d_is_whole:FuncData
 f_is_within:Addr
 d_is_within:FuncData
 f_is_fraction:Addr
 d_is_fraction:FuncData
 f_are_weights:Addr
 d_are_weights:FuncData
 f_is_box:Addr
 d_is_box:FuncData
 f_look_boxes:Addr
 d_look_boxes:FuncData
 f_look_budget:Addr
 d_look_budget:FuncData
 f_is_plan:Addr
 d_is_plan:FuncData
 f_power:Addr
 d_power:FuncData
 f_missed:Addr
 d_missed:FuncData
 f_chance:Addr
 d_chance:FuncData
 f_gain:Addr
 d_gain:FuncData
 f_cost_sum:Addr
 d_cost_sum:FuncData
 f_is_share:Addr
 d_is_share:FuncData
 f_is_mix:Addr
 d_is_mix:FuncData
 f_finds_enough:Addr
 d_finds_enough:FuncData
 f_is_seeker_right:Addr
 d_is_seeker_right:FuncData
 f_is_hider_paper:Addr
 d_is_hider_paper:FuncData
 f_is_last_look_worth:Addr
 d_is_last_look_worth:FuncData
 f_is_next_look_dear:Addr
 d_is_next_look_dear:FuncData
 f_is_count_best:Addr
 d_is_count_best:FuncData
 f_is_sum_low:Addr
 d_is_sum_low:FuncData
 f_is_hider_right:Addr
 d_is_hider_right:FuncData
 f_budget_judged:Addr
 d_budget_judged:FuncData
 f_added:Addr
 d_added:FuncData
 f_least_chance:Addr
 d_least_chance:FuncData
 f_fair_weights:Addr
 d_fair_weights:FuncData
 f_chance_for:Addr
 d_chance_for:FuncData
 f_counts_and_worth:Addr
 d_counts_and_worth:FuncData
 f_look_shares:Addr
 d_look_shares:FuncData
 f_mix_of:Addr
 d_mix_of:FuncData
 f_paper_of:Addr
 d_paper_of:FuncData
 f_sure_answer:Addr
 d_sure_answer:FuncData
 f_is_sure:Addr
 d_is_sure:FuncData
 f_budget_worth:Addr
 d_budget_worth:FuncData
 f__law_mix:Addr
 d__law_mix:FuncData
 f__law_cell_at:Addr
 d__law_cell_at:FuncData
 f__law_left:Addr
 d__law_left:FuncData
 f__law_draw:Addr
 d__law_draw:FuncData
 f__law_boxes:Addr
 d__law_boxes:FuncData
 f__law_whole:Addr
 d__law_whole:FuncData
 f__law_fraction:Addr
 d__law_fraction:FuncData
 f__law_lowest:Addr
 d__law_lowest:FuncData
 f__law_miss:Addr
 d__law_miss:FuncData
 f__law_plus:Addr
 d__law_plus:FuncData
 f__law_less:Addr
 d__law_less:FuncData
 f__law_plan:Addr
 d__law_plan:FuncData
 f__law_price:Addr
 d__law_price:FuncData
 f__law_chance:Addr
 d__law_chance:FuncData
 f__law_keeps:Addr
 d__law_keeps:FuncData
 f__law_finds:Addr
 d__law_finds:FuncData
 f__law_marks:Addr
 d__law_marks:FuncData
 f__law_hides:Addr
 d__law_hides:FuncData
 f__law_deep:Addr
 d__law_deep:FuncData
 f__law_mix_else:Addr
 d__law_mix_else:FuncData
 f__law_paper_else:Addr
 d__law_paper_else:FuncData
 f__law_worth_else:Addr
 d__law_worth_else:FuncData
 f_law:Addr
 d_law:FuncData
 c_NoNumber:Addr
 c_NoBoxes:Addr
 c_NoBudget:Addr
 k_MOST_BOXES:Tok
 k_MOST_COST:Tok
 k_MOST_OF:Tok
 k_MOST_BUDGET:Tok
 k_MOST_LOOKS:Tok
structure Txt (K:ψa) (mg:Str→Option Value) (a:Ad):Prop where
 F_divisor:Fun K "divisor" "divisor" zju a.f_divisor a.d_divisor
 b_divisor:zbw K a.d_divisor ["one","other"] []
 m_divisor:mg "divisor"=some (.ref a.f_divisor)
 F_ratio:Fun K "ratio" "ratio" zoH a.f_ratio a.d_ratio
 b_ratio:zbw K a.d_ratio ["top","bottom"] []
 m_ratio:mg "ratio"=some (.ref a.f_ratio)
 F_plus:Fun K "plus" "plus" zqU a.f_plus a.d_plus
 b_plus:zbw K a.d_plus ["one","other"] []
 m_plus:mg "plus"=some (.ref a.f_plus)
 F_minus:Fun K "minus" "minus" znY a.f_minus a.d_minus
 b_minus:zbw K a.d_minus ["one","other"] []
 m_minus:mg "minus"=some (.ref a.f_minus)
 F_times:Fun K "times" "times" zol a.f_times a.d_times
 b_times:zbw K a.d_times ["one","other"] []
 m_times:mg "times"=some (.ref a.f_times)
 F_over:Fun K "over" "over" ztu a.f_over a.d_over
 b_over:zbw K a.d_over ["one","other"] []
 m_over:mg "over"=some (.ref a.f_over)
 F_below:Fun K "below" "below" znJ a.f_below a.d_below
 b_below:zbw K a.d_below ["one","other"] []
 m_below:mg "below"=some (.ref a.f_below)
 F_common:Fun K "common" "common" zi1 a.f_common a.d_common
 b_common:zbw K a.d_common ["fractions"] []
 m_common:mg "common"=some (.ref a.f_common)
 F_shared_divisor:Fun K "shared_divisor" "shared_divisor" zd0 a.f_shared_divisor a.d_shared_divisor
 b_shared_divisor:zbw K a.d_shared_divisor ["numbers"] []
 m_shared_divisor:mg "shared_divisor"=some (.ref a.f_shared_divisor)
 F_lowest:Fun K "lowest" "lowest" ziY a.f_lowest a.d_lowest
 b_lowest:zbw K a.d_lowest ["weights"] []
 m_lowest:mg "lowest"=some (.ref a.f_lowest)
 F_is_whole:Fun K "is_whole" "is_whole" zhW a.f_is_whole a.d_is_whole
 b_is_whole:zbw K a.d_is_whole ["thing"] []
 m_is_whole:mg "is_whole"=some (.ref a.f_is_whole)
 F_is_within:Fun K "is_within" "is_within" zhu a.f_is_within a.d_is_within
 b_is_within:zbw K a.d_is_within ["thing","least","most"] []
 m_is_within:mg "is_within"=some (.ref a.f_is_within)
 F_is_fraction:Fun K "is_fraction" "is_fraction" zfz a.f_is_fraction a.d_is_fraction
 b_is_fraction:zbw K a.d_is_fraction ["thing"] []
 m_is_fraction:mg "is_fraction"=some (.ref a.f_is_fraction)
 F_are_weights:Fun K "are_weights" "are_weights" zef a.f_are_weights a.d_are_weights
 b_are_weights:zbw K a.d_are_weights ["thing","many"] []
 m_are_weights:mg "are_weights"=some (.ref a.f_are_weights)
 F_is_box:Fun K "is_box" "is_box" zkL a.f_is_box a.d_is_box
 b_is_box:zbw K a.d_is_box ["thing"] []
 m_is_box:mg "is_box"=some (.ref a.f_is_box)
 F_look_boxes:Fun K "look_boxes" "look_boxes" zeN a.f_look_boxes a.d_look_boxes
 b_look_boxes:zbw K a.d_look_boxes ["boxes"] []
 m_look_boxes:mg "look_boxes"=some (.ref a.f_look_boxes)
 F_look_budget:Fun K "look_budget" "look_budget" zfD a.f_look_budget a.d_look_budget
 b_look_budget:zbw K a.d_look_budget ["budget"] []
 m_look_budget:mg "look_budget"=some (.ref a.f_look_budget)
 F_is_plan:Fun K "is_plan" "is_plan" zhL a.f_is_plan a.d_is_plan
 b_is_plan:zbw K a.d_is_plan ["thing","boxes"] []
 m_is_plan:mg "is_plan"=some (.ref a.f_is_plan)
 F_power:Fun K "power" "power" znS a.f_power a.d_power
 b_power:zbw K a.d_power ["base","count"] []
 m_power:mg "power"=some (.ref a.f_power)
 F_missed:Fun K "missed" "missed" zlw a.f_missed a.d_missed
 b_missed:zbw K a.d_missed ["box","count"] []
 m_missed:mg "missed"=some (.ref a.f_missed)
 F_chance:Fun K "chance" "chance" zlN a.f_chance a.d_chance
 b_chance:zbw K a.d_chance ["box","count"] []
 m_chance:mg "chance"=some (.ref a.f_chance)
 F_gain:Fun K "gain" "gain" zrl a.f_gain a.d_gain
 b_gain:zbw K a.d_gain ["box","count"] []
 m_gain:mg "gain"=some (.ref a.f_gain)
 F_cost_sum:Fun K "cost_sum" "cost_sum" zgy a.f_cost_sum a.d_cost_sum
 b_cost_sum:zbw K a.d_cost_sum ["boxes","plan"] []
 m_cost_sum:mg "cost_sum"=some (.ref a.f_cost_sum)
 F_is_share:Fun K "is_share" "is_share" zia a.f_is_share a.d_is_share
 b_is_share:zbw K a.d_is_share ["thing","boxes"] []
 m_is_share:mg "is_share"=some (.ref a.f_is_share)
 F_is_mix:Fun K "is_mix" "is_mix" zi9 a.f_is_mix a.d_is_mix
 b_is_mix:zbw K a.d_is_mix ["thing","boxes"] []
 m_is_mix:mg "is_mix"=some (.ref a.f_is_mix)
 F_finds_enough:Fun K "finds_enough" "finds_enough" zeW a.f_finds_enough a.d_finds_enough
 b_finds_enough:zbw K a.d_finds_enough ["box","counts","weights","worth"] []
 m_finds_enough:mg "finds_enough"=some (.ref a.f_finds_enough)
 F_is_seeker_right:Fun K "is_seeker_right" "is_seeker_right" zbH a.f_is_seeker_right a.d_is_seeker_right
 b_is_seeker_right:zbw K a.d_is_seeker_right ["boxes","budget","worth","mix"] []
 m_is_seeker_right:mg "is_seeker_right"=some (.ref a.f_is_seeker_right)
 F_is_hider_paper:Fun K "is_hider_paper" "is_hider_paper" zdY a.f_is_hider_paper a.d_is_hider_paper
 b_is_hider_paper:zbw K a.d_is_hider_paper ["thing","boxes"] []
 m_is_hider_paper:mg "is_hider_paper"=some (.ref a.f_is_hider_paper)
 F_is_last_look_worth:Fun K "is_last_look_worth" "is_last_look_worth" zc1 a.f_is_last_look_worth a.d_is_last_look_worth
 b_is_last_look_worth:zbw K a.d_is_last_look_worth ["box","weight","price","count"] []
 m_is_last_look_worth:mg "is_last_look_worth"=some (.ref a.f_is_last_look_worth)
 F_is_next_look_dear:Fun K "is_next_look_dear" "is_next_look_dear" zdd a.f_is_next_look_dear a.d_is_next_look_dear
 b_is_next_look_dear:zbw K a.d_is_next_look_dear ["box","weight","price","count"] []
 m_is_next_look_dear:mg "is_next_look_dear"=some (.ref a.f_is_next_look_dear)
 F_is_count_best:Fun K "is_count_best" "is_count_best" zex a.f_is_count_best a.d_is_count_best
 b_is_count_best:zbw K a.d_is_count_best ["box","weight","price","count"] []
 m_is_count_best:mg "is_count_best"=some (.ref a.f_is_count_best)
 F_is_sum_low:Fun K "is_sum_low" "is_sum_low" zdK a.f_is_sum_low a.d_is_sum_low
 b_is_sum_low:zbw K a.d_is_sum_low ["boxes","budget","worth","paper"] []
 m_is_sum_low:mg "is_sum_low"=some (.ref a.f_is_sum_low)
 F_is_hider_right:Fun K "is_hider_right" "is_hider_right" zdW a.f_is_hider_right a.d_is_hider_right
 b_is_hider_right:zbw K a.d_is_hider_right ["boxes","budget","worth","paper"] []
 m_is_hider_right:mg "is_hider_right"=some (.ref a.f_is_hider_right)
 F_budget_judged:Fun K "budget_judged" "budget_judged" zey a.f_budget_judged a.d_budget_judged
 b_budget_judged:zbw K a.d_budget_judged ["boxes","budget","worth","mix","paper"] []
 m_budget_judged:mg "budget_judged"=some (.ref a.f_budget_judged)
 F_added:Fun K "added" "added" znV a.f_added a.d_added
 b_added:zbw K a.d_added ["fractions"] []
 m_added:mg "added"=some (.ref a.f_added)
 F_least_chance:Fun K "least_chance" "least_chance" zeT a.f_least_chance a.d_least_chance
 b_least_chance:zbw K a.d_least_chance ["chances"] []
 m_least_chance:mg "least_chance"=some (.ref a.f_least_chance)
 F_fair_weights:Fun K "fair_weights" "fair_weights" zdE a.f_fair_weights a.d_fair_weights
 b_fair_weights:zbw K a.d_fair_weights ["boxes","counts"] []
 m_fair_weights:mg "fair_weights"=some (.ref a.f_fair_weights)
 F_chance_for:Fun K "chance_for" "chance_for" zdS a.f_chance_for a.d_chance_for
 b_chance_for:zbw K a.d_chance_for ["boxes","budget","counts"] []
 m_chance_for:mg "chance_for"=some (.ref a.f_chance_for)
 F_counts_and_worth:Fun K "counts_and_worth" "counts_and_worth" zb2 a.f_counts_and_worth a.d_counts_and_worth
 b_counts_and_worth:zbw K a.d_counts_and_worth ["boxes","budget"] []
 m_counts_and_worth:mg "counts_and_worth"=some (.ref a.f_counts_and_worth)
 F_look_shares:Fun K "look_shares" "look_shares" zea a.f_look_shares a.d_look_shares
 b_look_shares:zbw K a.d_look_shares ["boxes","counts","worth"] []
 m_look_shares:mg "look_shares"=some (.ref a.f_look_shares)
 F_mix_of:Fun K "mix_of" "mix_of" zgD a.f_mix_of a.d_mix_of
 b_mix_of:zbw K a.d_mix_of ["boxes","counts","worth"] []
 m_mix_of:mg "mix_of"=some (.ref a.f_mix_of)
 F_paper_of:Fun K "paper_of" "paper_of" zgx a.f_paper_of a.d_paper_of
 b_paper_of:zbw K a.d_paper_of ["boxes","counts"] []
 m_paper_of:mg "paper_of"=some (.ref a.f_paper_of)
 F_sure_answer:Fun K "sure_answer" "sure_answer" zd9 a.f_sure_answer a.d_sure_answer
 b_sure_answer:zbw K a.d_sure_answer ["boxes"] []
 m_sure_answer:mg "sure_answer"=some (.ref a.f_sure_answer)
 F_is_sure:Fun K "is_sure" "is_sure" zf2 a.f_is_sure a.d_is_sure
 b_is_sure:zbw K a.d_is_sure ["boxes","budget"] []
 m_is_sure:mg "is_sure"=some (.ref a.f_is_sure)
 F_budget_worth:Fun K "budget_worth" "budget_worth" zeS a.f_budget_worth a.d_budget_worth
 b_budget_worth:zbw K a.d_budget_worth ["boxes","budget"] []
 m_budget_worth:mg "budget_worth"=some (.ref a.f_budget_worth)
 F__law_mix:Fun K "_law_mix" "_law_mix" zh0 a.f__law_mix a.d__law_mix
 b__law_mix:zbw K a.d__law_mix ["_law_number","_law_k"] []
 m__law_mix:mg "_law_mix"=some (.ref a.f__law_mix)
 F__law_cell_at:Fun K "_law_cell_at" "_law_cell_at" ze1 a.f__law_cell_at a.d__law_cell_at
 b__law_cell_at:zbw K a.d__law_cell_at ["_law_script","_law_k"] []
 m__law_cell_at:mg "_law_cell_at"=some (.ref a.f__law_cell_at)
 F__law_left:Fun K "_law_left" "_law_left" zhp a.f__law_left a.d__law_left
 b__law_left:zbw K a.d__law_left ["_law_script","_law_k"] []
 m__law_left:mg "_law_left"=some (.ref a.f__law_left)
 F__law_draw:Fun K "_law_draw" "_law_draw" zhi a.f__law_draw a.d__law_draw
 b__law_draw:zbw K a.d__law_draw ["_law_left_here","_law_base"] []
 m__law_draw:mg "_law_draw"=some (.ref a.f__law_draw)
 F__law_boxes:Fun K "_law_boxes" "_law_boxes" zgr a.f__law_boxes a.d__law_boxes
 b__law_boxes:zbw K a.d__law_boxes ["_law_left_here","_law_most"] []
 m__law_boxes:mg "_law_boxes"=some (.ref a.f__law_boxes)
 F__law_whole:Fun K "_law_whole" "_law_whole" zgg a.f__law_whole a.d__law_whole
 b__law_whole:zbw K a.d__law_whole ["_law_thing"] []
 m__law_whole:mg "_law_whole"=some (.ref a.f__law_whole)
 F__law_fraction:Fun K "_law_fraction" "_law_fraction" zer a.f__law_fraction a.d__law_fraction
 b__law_fraction:zbw K a.d__law_fraction ["_law_thing"] []
 m__law_fraction:mg "_law_fraction"=some (.ref a.f__law_fraction)
 F__law_lowest:Fun K "_law_lowest" "_law_lowest" zfr a.f__law_lowest a.d__law_lowest
 b__law_lowest:zbw K a.d__law_lowest ["_law_top","_law_bottom"] []
 m__law_lowest:mg "_law_lowest"=some (.ref a.f__law_lowest)
 F__law_miss:Fun K "_law_miss" "_law_miss" zhf a.f__law_miss a.d__law_miss
 b__law_miss:zbw K a.d__law_miss ["_law_box","_law_many"] []
 m__law_miss:mg "_law_miss"=some (.ref a.f__law_miss)
 F__law_plus:Fun K "_law_plus" "_law_plus" zht a.f__law_plus a.d__law_plus
 b__law_plus:zbw K a.d__law_plus ["_law_one","_law_other"] []
 m__law_plus:mg "_law_plus"=some (.ref a.f__law_plus)
 F__law_less:Fun K "_law_less" "_law_less" zhk a.f__law_less a.d__law_less
 b__law_less:zbw K a.d__law_less ["_law_one","_law_other"] []
 m__law_less:mg "_law_less"=some (.ref a.f__law_less)
 F__law_plan:Fun K "_law_plan" "_law_plan" zfw a.f__law_plan a.d__law_plan
 b__law_plan:zbw K a.d__law_plan ["_law_boxes_here","_law_thing"] []
 m__law_plan:mg "_law_plan"=some (.ref a.f__law_plan)
 F__law_price:Fun K "_law_price" "_law_price" zeP a.f__law_price a.d__law_price
 b__law_price:zbw K a.d__law_price ["_law_boxes_here","_law_plan_here"] []
 m__law_price:mg "_law_price"=some (.ref a.f__law_price)
 F__law_chance:Fun K "_law_chance" "_law_chance" zeg a.f__law_chance a.d__law_chance
 b__law_chance:zbw K a.d__law_chance ["_law_boxes_here","_law_mix_here","_law_k"] []
 m__law_chance:mg "_law_chance"=some (.ref a.f__law_chance)
 F__law_keeps:Fun K "_law_keeps" "_law_keeps" zdP a.f__law_keeps a.d__law_keeps
 b__law_keeps:zbw K a.d__law_keeps ["_law_boxes_here","_law_budget","_law_mix_here"] []
 m__law_keeps:mg "_law_keeps"=some (.ref a.f__law_keeps)
 F__law_finds:Fun K "_law_finds" "_law_finds" zeQ a.f__law_finds a.d__law_finds
 b__law_finds:zbw K a.d__law_finds ["_law_boxes_here","_law_budget","_law_worth","_law_mix_here"] []
 m__law_finds:mg "_law_finds"=some (.ref a.f__law_finds)
 F__law_marks:Fun K "_law_marks" "_law_marks" zf3 a.f__law_marks a.d__law_marks
 b__law_marks:zbw K a.d__law_marks ["_law_box","_law_weight","_law_price_here","_law_count"] []
 m__law_marks:mg "_law_marks"=some (.ref a.f__law_marks)
 F__law_hides:Fun K "_law_hides" "_law_hides" zdM a.f__law_hides a.d__law_hides
 b__law_hides:zbw K a.d__law_hides ["_law_boxes_here","_law_budget","_law_worth","_law_paper"] []
 m__law_hides:mg "_law_hides"=some (.ref a.f__law_hides)
 F__law_deep:Fun K "_law_deep" "_law_deep" zb9 a.f__law_deep a.d__law_deep
 b__law_deep:zbw K a.d__law_deep ["_law_thing"] []
 m__law_deep:mg "_law_deep"=some (.ref a.f__law_deep)
 F__law_mix_else:Fun K "_law_mix_else" "_law_mix_else" zcL a.f__law_mix_else a.d__law_mix_else
 b__law_mix_else:zbw K a.d__law_mix_else ["_law_mix_here","_law_left_here","_law_many"] []
 m__law_mix_else:mg "_law_mix_else"=some (.ref a.f__law_mix_else)
 F__law_paper_else:Fun K "_law_paper_else" "_law_paper_else" zcW a.f__law_paper_else a.d__law_paper_else
 b__law_paper_else:zbw K a.d__law_paper_else ["_law_paper","_law_left_here","_law_many"] []
 m__law_paper_else:mg "_law_paper_else"=some (.ref a.f__law_paper_else)
 F__law_worth_else:Fun K "_law_worth_else" "_law_worth_else" zdB a.f__law_worth_else a.d__law_worth_else
 b__law_worth_else:zbw K a.d__law_worth_else ["_law_worth","_law_left_here"] []
 m__law_worth_else:mg "_law_worth_else"=some (.ref a.f__law_worth_else)
 F_law:Fun K "law" "law" zqG a.f_law a.d_law
 b_law:zbw K a.d_law ["_law_script"] []
 m_law:mg "law"=some (.ref a.f_law)
 z_set:mg "set"=none
 z_isinstance:mg "isinstance"=none
 z_range:mg "range"=none
 z_all:mg "all"=none
 z_sorted:mg "sorted"=none
 z_abs:mg "abs"=none
 z_sum:mg "sum"=none
 z_len:mg "len"=none
 z_list:mg "list"=none
 z_zip:mg "zip"=none
 z_int:mg "int"=none
 z_bool:mg "bool"=none
 z_tuple:mg "tuple"=none
 z_max:mg "max"=none
 z_min:mg "min"=none
 m_NoNumber:mg "NoNumber"=some (.ref a.c_NoNumber)
 m_NoBoxes:mg "NoBoxes"=some (.ref a.c_NoBoxes)
 m_NoBudget:mg "NoBudget"=some (.ref a.c_NoBudget)
 m_MOST_BOXES:mg "MOST_BOXES"=some (.int 6 a.k_MOST_BOXES)
 m_MOST_COST:mg "MOST_COST"=some (.int 60 a.k_MOST_COST)
 m_MOST_OF:mg "MOST_OF"=some (.int 50 a.k_MOST_OF)
 m_MOST_BUDGET:mg "MOST_BUDGET"=some (.int 60 a.k_MOST_BUDGET)
 m_MOST_LOOKS:mg "MOST_LOOKS"=some (.int 60 a.k_MOST_LOOKS)
 x_NoNumber:PySem.W.excIn K a.c_NoNumber zpO "ValueError.__new__"=true
 x_NoBoxes:PySem.W.excIn K a.c_NoBoxes zpO "ValueError.__new__"=true
 x_NoBudget:PySem.W.excIn K a.c_NoBudget zpO "ValueError.__new__"=true
def Bd(m:Nat)(x:Int):Prop:=x.natAbs<2 ^ m
theorem Bd.mono{m n:Nat}{x:Int}(h:Bd m x)(l:m≤n):Bd n x:=ψp h (Nat.pow_le_pow_right (Qn) l)
theorem Bd.mul{m n:Nat}{x y:Int}(hx:Bd m x)(hy:Bd n y):Bd (m+n) (x*y):=by
 unfold Bd at *
 rw[Int.natAbs_mul,Nat.pow_add]
 exact Nat.mul_lt_mul'' hx hy
theorem Bd.add{m:Nat}{x y:Int}(hx:Bd m x)(hy:Bd m y):Bd (m+1) (x+y):=by
 unfold Bd at *
 rw[Nat.pow_succ,Nat.mul_two]
 exact ψA1 (Int.natAbs_add_le x y) (Nat.add_lt_add hx hy)
theorem Bd.sub{m:Nat}{x y:Int}(hx:Bd m x)(hy:Bd m y):Bd (m+1) (x - y):=by
 unfold Bd at *
 rw[Nat.pow_succ,Nat.mul_two]
 exact ψA1 (Int.natAbs_sub_le x y) (Nat.add_lt_add hx hy)
theorem Bd.le{m:Nat}{x y:Int}(hy:Bd m y)(h:x.natAbs≤y.natAbs):Bd m x:=ψA1 h hy
theorem zsJ{r:Int}(h1:-1000000000000000000000000000000≤r)(h2:r≤1000000000000000000000000000000):Bd 100 r:=by
 unfold Bd
 omega
def sg(t b:Int):Int:=if b<0 then -(ψU t b:Int) else (ψU t b:Int)
def zud(t b:Int):Int:=t.fdiv (sg t b)
def znK(t b:Int):Int:=b.fdiv (sg t b)
theorem zq4{t b:Int}(h:b≠0):ψU t b≠0:=λe=>h (Int.gcd_eq_zero_iff.mp e).2
theorem zni{t b:Int}(h:b≠0):sg t b≠0:=by
 have:=zq4 (t:=t) h
 unfold sg
 split <;> omega
theorem zvV(t b:Int):(sg t b).natAbs=ψU t b:=by
 unfold sg
 split <;> omega
theorem zwD(t b:Int):sg t b∣t:=by
 unfold sg
 split
 ·exact Int.neg_dvd.mpr (Int.gcd_dvd_left ..)
 ·exact Int.gcd_dvd_left ..
theorem zwS(t b:Int):sg t b∣b:=by
 unfold sg
 split
 ·exact Int.neg_dvd.mpr (Int.gcd_dvd_right ..)
 ·exact Int.gcd_dvd_right ..
theorem zdh{x g:Int}(h:g∣x):x.fdiv g*g=x:=by
 rw[Int.fdiv_eq_ediv_of_dvd h]
 exact Int.ediv_mul_cancel h
theorem zk1(t b:Int):zud t b*sg t b=t:=zdh (zwD t b)
theorem zhN(t b:Int):znK t b*sg t b=b:=zdh (zwS t b)
theorem zzd{t b:Int}(h:b≠0):(sg t b).natAbs≤b.natAbs:=by
 rw[zvV]
 exact Nat.le_of_dvd (Qe) (Int.natAbs_dvd_natAbs.mpr (Int.gcd_dvd_right t b))
theorem zgs{q g x:Int}(h:q*g=x)(hg:g≠0):q.natAbs≤x.natAbs:=by
 rw[← h,Int.natAbs_mul]
 exact Nat.le_mul_of_pos_right _ (Qe)
theorem zqY{t b:Int}(h:b≠0):(zud t b).natAbs≤t.natAbs:=zgs (zk1 t b) (zni h)
theorem zrM{t b:Int}(h:b≠0):(znK t b).natAbs≤b.natAbs:=zgs (zhN t b) (zni h)
theorem zpU{q g x:Int}(h:q*g=x)(s:(0<x∧0<g)∨(x<0∧g<0)):0<q:=by
 rcases s with ⟨a,c⟩ | ⟨a,c⟩
 ·exact Int.pos_of_mul_pos_left (by rw[h];exact a) c
 ·by_cases z:0<q
  ·exact z
  ·have h1:0≤(-q)*(-g):=ψY1 (Qe) (Qe)
   rw[Int.neg_mul_neg,h] at h1
   omega
theorem ztR{t b:Int}(h:b≠0):0<znK t b:=by
 refine zpU (zhN t b) ?_
 have g:=zq4 (t:=t) h
 unfold sg
 split <;> omega
theorem zxD{t b:Int}(h:b≠0):ψU (zud t b) (znK t b)=1:=by
 have e:ψU (zud t b*sg t b) (znK t b*sg t b)=ψU (zud t b) (znK t b)*(sg t b).natAbs:=Int.gcd_mul_right ..
 rw[zk1,zhN,zvV] at e
 exact Nat.eq_of_mul_eq_mul_right (Nat.pos_of_ne_zero (zq4 h)) (by rw[Nat.one_mul];exact e.symm)
theorem ziB{t b:Int}(h:b≠0):(ψy t b).num=zud t b∧((ψy t b).den:Int)=znK t b:=by
 have p:=ztR (t:=t) h
 have g:=zxD (t:=t) h
 have e2:((znK t b).toNat:Int)=znK t b:=by omega
 have nz:(znK t b).toNat≠0:=by omega
 have red:(zud t b).natAbs.Coprime (znK t b).toNat:=by
  have e:(znK t b).toNat=(znK t b).natAbs:=by omega
  rw[e]
  exact g
 have e:ψy t b=⟨zud t b,(znK t b).toNat,nz,red⟩:=by
  rw[Rat.mk_eq_divInt,e2,Rat.divInt_eq_divInt_iff h (Qe)]
  have h1:=zk1 t b
  have h2:=zhN t b
  generalize zud t b=x at h1 ⊢
  generalize znK t b=y at h2 ⊢
  rw[← h1,← h2]
  grind
 rw[e]
 exact⟨rfl,e2⟩
abbrev fr(q:Rat):List L2.V:=[.int q.num,.int (q.den:Int)]
abbrev nf(q:Rat):List Int:=[q.num,(q.den:Int)]
theorem zcC(q:Rat):(q.den:Int)≠0:=by
 have:=q.den_nz
 omega
theorem zb4(q:Rat):0<(q.den:Int):=by
 have:=q.den_nz
 omega
theorem zsx(p q:Rat):ψy (p.num*q.den+q.num*p.den) (p.den*q.den)=p+q:=by
 rw[← Rat.divInt_add_divInt _ _ (zcC p) (zcC q),ψz,ψz]
theorem ztw(p q:Rat):ψy (p.num*q.den - q.num*p.den) (p.den*q.den)=p - q:=by
 rw[← Rat.divInt_sub_divInt _ _ (zcC p) (zcC q),ψz,ψz]
theorem zsU(p q:Rat):ψy (p.num*q.num) (p.den*q.den)=p*q:=by
 rw[← Rat.divInt_mul_divInt,ψz,ψz]
theorem zlG(p q:Rat):ψy (p.num*q.den) (p.den*q.num)=p / q:=by
 rw[← Rat.divInt_mul_divInt,ψz,← Rat.inv_divInt,ψz,Rat.div_def]
structure Bq (n:Nat) (q:Rat):Prop where
 top:Bd n q.num
 bot:Bd n (q.den:Int)
theorem Bq.mono{m n:Nat}{q:Rat}(h:Bq m q)(l:m≤n):Bq n q:=⟨h.top.mono l,h.bot.mono l⟩
theorem zb8{n:Nat}{t b:Int}(h:b≠0)(ht:Bd n t)(hb:Bd n b):Bq n (ψy t b):=by
 obtain⟨e1,e2⟩:=ziB (t:=t) h
 exact⟨by rw[e1];exact ht.le (zqY h),by rw[e2];exact hb.le (zrM h)⟩
theorem zoS{q:Rat}(h:q≠0):q.num≠0:=λe=>h (Rat.num_eq_zero.mp e)
theorem zvi{x y:Int}(hx:0≤x)(hy:0<y):ψU y (x % y)=ψU x y:=by
 obtain⟨m,rfl⟩:=ψn1 hx
 obtain⟨n,rfl⟩:=ψn1 (ψD hy)
 rw[← Int.natCast_emod]
 show Nat.gcd n (m % n)=Nat.gcd m n
 rw[Nat.gcd_comm n,← Nat.gcd_rec,Nat.gcd_comm]
theorem zmw{x y:Int}(hx:0≤x)(hy:0<y):ψU y (x.fmod y)=ψU x y:=by
 rw[Int.fmod_eq_emod_of_nonneg x (ψD hy)]
 exact zvi hx hy
theorem zvI(i:Int):(if i<0 then -i else i)=(i.natAbs:Int):=by
 split <;> omega
theorem zkp(u:Int)(h:0≤u):((ψU u 0:Nat):Int)=u:=by
 show((Nat.gcd u.natAbs 0:Nat):Int)=u
 rw[Nat.gcd_zero_right]
 omega
theorem zyt:zyF 10 18:=⟨by decide,by decide,by decide⟩
def zsF:Sp:=λvs H Q _=>∃a b:Int,vs=[.int a,.int b]∧Q (.int (ψU a b:Nat)) H
def zig:Sp:=λvs H Q _=>∃a:Int,vs=[.int a]∧Q (Qb0) H
abbrev Box:=Int×Int×Int
abbrev bx(b:Box):List V:=[.int b.1,.int b.2.1,.int b.2.2]
def GB(b:Box):Prop:=1≤b.1∧b.1≤60∧1≤b.2.1∧b.2.1≤b.2.2∧b.2.2≤50
theorem zat{α β:Type}{f:α→β}{l:List α}{i:Nat}{y:β}(h:(l.map f)[i]?=some y):∃x,l[i]?=some x∧y=f x:=by
 rw[ψt] at h
 obtain⟨x,h1,h2⟩:=Option.map_eq_some_iff.mp h
 exact⟨x,h1,h2.symm⟩
def Tps{α:Type}(f:α→List V)(H:Hp)(ts:List Addr)(bs:List α):Prop:=ts.length=bs.length∧∀(i:Nat) t b,ts[i]?=some t→bs[i]?=some b→H t=some (.tup (f b))
theorem Tps.same{α:Type}{f:α→List V}{H H':Hp}{ts:List Addr}{bs:List α}(h:Tps f H ts bs)(s:zaI H H'):Tps f H' ts bs:=⟨h.1,λi t b e1 e2=>s _ _ (h.2 i t b e1 e2)⟩
theorem Tps.nil{α:Type}{f:α→List V}{H:Hp}:Tps f H [] ([]:List α):=⟨rfl,λi t b e=>by simp at e⟩
theorem Tps.put{α:Type}{f:α→List V}{H H':Hp}{ts:List Addr}{bs:List α}{t:Addr}{b:α}(h:Tps f H ts bs)(s:∀(x:Addr) (u:List V),H x=some (.tup u)→H' x=some (.tup u))(e:H' t=some (.tup (f b))):Tps f H' (ts++[t]) (bs++[b]):=by
 refine⟨by rw[ψV,ψV,h.1];rfl,λi x y e1 e2=>?_⟩
 by_cases c:i<ts.length
 ·rw[ψj1 c] at e1
  rw[ψj1 (by rw[← h.1];exact c)] at e2
  exact s _ _ (h.2 i x y e1 e2)
 ·have c1:ts.length≤i:=by omega
  rw[ψf1 c1] at e1
  rw[ψf1 (by rw[← h.1];exact c1),← h.1] at e2
  have z:i - ts.length=0:=by
   have:=(Qa8).1
   simp only[ψM,List.length_nil] at this
   omega
  rw[z] at e1 e2
  simp only[List.getElem?_cons_zero,Option.some.injEq] at e1 e2
  rw[← e1,← e2]
  exact e
theorem Tps.app{α:Type}{f:α→List V}{H:Hp}{ts us:List Addr}{bs cs:List α}(h:Tps f H ts bs)(h2:Tps f H us cs):Tps f H (ts++us) (bs++cs):=by
 refine⟨by rw[ψV,ψV,h.1,h2.1],λi x y e1 e2=>?_⟩
 by_cases c:i<ts.length
 ·rw[ψj1 c] at e1
  rw[ψj1 (by rw[← h.1];exact c)] at e2
  exact h.2 i x y e1 e2
 ·have c1:ts.length≤i:=by omega
  rw[ψf1 c1] at e1
  rw[ψf1 (by rw[← h.1];exact c1),← h.1] at e2
  exact h2.2 _ x y e1 e2
theorem Tps.at{α:Type}{f:α→List V}{H:Hp}{ts:List Addr}{bs:List α}(h:Tps f H ts bs){i:Nat}{t:Addr}(e:ts[i]?=some t):∃b,bs[i]?=some b∧H t=some (.tup (f b)):=by
 have hi:=(List.getElem?_eq_some_iff.mp e).1
 rw[h.1] at hi
 exact⟨bs[i],ψc hi,h.2 i t _ e (ψc hi)⟩
theorem zap{α:Type}{l:List α}{i:Nat}{x:α}(e:l[i]?=some x):x∈l:=ψP e
structure BP (H:Hp) (l pl:Addr) (ts:List Addr) (bs:List Box) (ns:List Int):Prop where
 hl:H l=some (QR)
 hb:Tps bx H ts bs
 hp:H pl=some (QS)
 len:ns.length=bs.length
 gb:∀b∈bs,GB b
 gn:∀n∈ns,0≤n∧n≤60
 l1:1≤bs.length
 l6:bs.length≤6
theorem BP.same{H H':Hp}{l pl:Addr}{ts:List Addr}{bs:List Box}{ns:List Int}(h:BP H l pl ts bs ns)(s:zaI H H'):BP H' l pl ts bs ns :=
 ⟨s _ _ h.hl,h.hb.same s,s _ _ h.hp,h.len,h.gb,h.gn,h.l1,h.l6⟩
def chq(b:Box)(n:Int):Rat:=ψy (b.2.2 ^ n.toNat - (b.2.2 - b.2.1) ^ n.toNat) (b.2.2 ^ n.toNat)
def zaF(bs:List Box)(ns:List Int):List Int:=ψe (λb n=>b.1*n) bs ns
def zk0(bs:List Box)(ns:List Int):List Rat:=ψe chq bs ns
def Off(p c:Addr)(H:Hp):Hp:=λb=>if b=p∨b=c then none else H b
theorem zbx(p c:Addr)(H:Hp):zaI (Off p c H) H:=λb o h=>by
 unfold Off at h
 split at h
 ·cases h
 ·exact h
theorem zha{p c b:Addr}{H:Hp}(h1:b≠p)(h2:b≠c):Off p c H b=H b:=if_neg (λz=>z.elim h1 h2)
theorem zme{p c b:Addr}{H:Hp}{o:HO}(h:Off p c H b=some o):b≠p∧b≠c:=by
 unfold Off at h
 split at h
 ·cases h
 ·rename_i z
  exact⟨λe=>z (.inl e),λe=>z (.inr e)⟩
theorem zzF{p c:Addr}{H:Hp}{o:HO}:Off p c (upd H p o)=Off p c H:=by
 funext b
 unfold Off upd
 split
 ·rfl
 ·rename_i z
  rw[if_neg λe=>z (.inl e)]
theorem zjS{p c b:Addr}{H:Hp}{o:HO}(h1:b≠p)(h2:b≠c):Off p c (upd H b o)=upd (Off p c H) b o:=by
 funext x
 unfold Off upd
 by_cases e:x=b
 ·subst e
  rw[if_neg λz=>z.elim h1 h2,if_pos rfl,if_pos rfl]
 ·rw[if_neg e,if_neg e]
theorem znT{H:Hp}{p c b:Addr}(hb:H b=none):Off p c H b=none:=by
 unfold Off
 split
 ·rfl
 ·exact hb
theorem zd7{H H':Hp}(p c:Addr)(s:zaI H H'):zaI (Off p c H) (Off p c H'):=λb o h=>by
 have n:=zme h
 rw[zha n.1 n.2] at h ⊢
 exact s _ _ h
def zra:Sp:=λvs H Q _=>∃(p:Addr) (b:Box),vs=[.ref p]∧H p=some (Qbg)∧GB b∧Q (Qb0) H
def zs2:Sp:=λvs H Q _=>∃(l:Addr) (ts:List Addr) (bs:List Box),vs=[.ref l]∧H l=some (QR)∧Tps bx H ts bs∧(Qav)∧1≤bs.length∧bs.length≤6∧∀H',zaI H H'→Q .non H'
def ztK:Sp:=λvs H Q _=>∃b n:Int,vs=[.int b,.int n]∧0≤n∧n≤60∧0≤b∧b≤50∧Q (.int (b ^ n.toNat)) H
def zft:Sp:=λvs H Q _=>∃(p:Addr) (b:Box) (n:Int),vs=[.ref p,.int n]∧H p=some (Qbg)∧GB b∧0≤n∧n≤60∧∀(r:Addr) (H':Hp),zaI H H'→H' r=some (Qao)→Q (Q0) H'
def zjb:Sp:=λvs H Q _=>∃(p:Addr) (b:Box) (n:Int),vs=[.ref p,.int n]∧H p=some (Qbg)∧GB b∧0≤n∧n≤60∧∀(r:Addr) (H':Hp),zaI H H'→H' r=some (.tup (fr (chq b n)))→Q (Q0) H'
def zpH:Sp:=λvs H Q _=>∃(l pl:Addr) (ts:List Addr) (bs:List Box) (ns:List Int),vs=[.ref l,.ref pl]∧BP H l pl ts bs ns∧∀H',zaI H H'→Q (.int (QbK).sum) H'
def zmZ:Sp:=λvs H Q _=>∃t b:Int,vs=[.int t,.int b]∧b≠0∧Bd 6000 b∧∀(r:Addr) (H':Hp),zaI H H'→H' r=some (.tup (fr (ψy t b)))→Q (Q0) H'
theorem zvO{t b:Int}(h:b≠0)(hb:Bd 6000 b):(sg t b).natAbs.log2<9000:=zhJ 6000 (zni h) (hb.le (zzd h))
theorem zbK{p:Rat}(p0:0≤p)(p1:p≤1):∀n:Nat,1 - (1 - p) ^ n≤(n:Rat)*p∧0≤(1 - p) ^ n∧(1 - p) ^ n≤1
 | 0=>by
  rw[ψq1]
  refine⟨?_,?_,ψD1⟩ <;> grind
 | n+1=>by
  obtain⟨h1,h2,h3⟩:=zbK p0 p1 n
  have q0:0≤1 - p:=by grind
  have m1:0≤(1 - p) ^ n*(1 - p):=ψg1 h2 q0
  have m2:0≤(1 - p) ^ n*p:=ψg1 h2 p0
  have m3:(1 - p) ^ n*p≤1*p:=ψA h3 p0
  rw[ψe1]
  have c:((n+1:Nat):Rat)=(n:Rat)+1:=by exact_mod_cast rfl
  rw[c]
  refine⟨?_,m1,?_⟩ <;> grind
theorem zg5{p:Rat}(p0:0≤p)(p1:p≤1):∀n:Nat,(n:Rat)*p*(1 - p) ^ n≤1 - (1 - p) ^ n
 | 0=>by
  rw[ψq1]
  have c:((0:Nat):Rat)=0:=rfl
  rw[c]
  grind
 | n+1=>by
  have h:=zg5 p0 p1 n
  obtain⟨_,h2,h3⟩:=zbK p0 p1 n
  have c:((n+1:Nat):Rat)=(n:Rat)+1:=by exact_mod_cast rfl
  have n0:(0:Rat)≤(n:Rat):=by exact_mod_cast ψu1 n
  have a1:0≤((n:Rat)+1)*p:=ψg1 (by grind) p0
  have a2:0≤((n:Rat)+1)*p*(1 - p) ^ n:=ψg1 a1 h2
  have a3:0≤((n:Rat)+1)*p*(1 - p) ^ n*p:=ψg1 a2 p0
  rw[ψe1,c]
  have e1:((n:Rat)+1)*p*((1 - p) ^ n*(1 - p))=((n:Rat)+1)*p*(1 - p) ^ n - ((n:Rat)+1)*p*(1 - p) ^ n*p:=by grind
  have e2:((n:Rat)+1)*p*(1 - p) ^ n=(n:Rat)*p*(1 - p) ^ n+(1 - p) ^ n*p:=by grind
  rw[e1]
  grind
theorem zkS(a:Rat)(m:Nat):∀k:Nat,a ^ (m+k)=a ^ m*a ^ k
 | 0=>by rw[Nat.add_zero,ψq1,Rat.mul_one]
 | k+1=>by rw[← Nat.add_assoc,ψe1,ψe1,zkS a m k,Rat.mul_assoc]
theorem conc{p:Rat}(p0:0≤p)(p1:p≤1)(m n:Nat):(1 - p) ^ m - (1 - p) ^ n≤((n:Rat) - (m:Rat))*((1 - p) ^ m*p):=by
 rcases Nat.le_total m n with h | h
 ·obtain⟨k,rfl⟩:=Nat.exists_eq_add_of_le h
  obtain⟨h1,h2,h3⟩:=zbK p0 p1 k
  obtain⟨_,g2,_⟩:=zbK p0 p1 m
  have c:((m+k:Nat):Rat)=(m:Rat)+(k:Rat):=by exact_mod_cast rfl
  rw[c,zkS]
  have a:=ψW h1 g2
  grind
 ·obtain⟨k,rfl⟩:=Nat.exists_eq_add_of_le h
  have h1:=zg5 p0 p1 k
  obtain⟨_,g2,_⟩:=zbK p0 p1 n
  have c:((n+k:Nat):Rat)=(n:Rat)+(k:Rat):=by exact_mod_cast rfl
  rw[c,zkS]
  have a:=ψW h1 g2
  grind
structure Drw (H:Hp) (p:Addr) (c:Int):Prop where
 hp:∃n f:Int,H p=some (.lst [.int n,.int f,.int c])∧n.natAbs<2 ^ 2 ^ 20∧(f=0∨f=1∧0≤n)
 c0:0≤c
theorem Drw.new{H:Hp}{p:Addr}{c:Int}(h:Drw H p c){b:Addr}(hb:H b=none):b≠p:=by
 obtain⟨n,f,hp,_⟩:=h.hp
 exact(zaO hp hb).symm
theorem Drw.upd{H:Hp}{p:Addr}{c:Int}(h:Drw H p c){b:Addr}{o:HO}(h1:b≠p):Drw (L2.upd H b o) p c:=by
 obtain⟨n,f,hp,e⟩:=h.hp
 exact⟨⟨n,f,by rw[zbg h1.symm];exact hp,e⟩,h.c0⟩
theorem Drw.same{H H':Hp}{p:Addr}{c:Int}(h:Drw H p c)(s:zaI H H'):Drw H' p c:=by
 obtain⟨n,f,hp,e⟩:=h.hp
 exact⟨⟨n,f,s _ _ hp,e⟩,h.c0⟩
theorem zwo{H H1 H2:Hp}{p:Addr}(hp:H p=none)(s1:zaI H H1)(s2:zaI (Off p p H1) (Off p p H2)):zaI H H2:=λb o h=>by
 have n:b≠p:=zaO h hp
 have:=s2 b o (by rw[zha n n];exact s1 _ _ h)
 rwa[zha n n] at this
theorem Drw.mk2{H:Hp}{p:Addr}{c:Int}(h:Drw H p c){b:Addr}(hb:H b=none)(o:HO):∃H2,H2=L2.upd H b o∧Drw H2 p c∧zaI (Qa3) (Off p p H2)∧Off p p H2 b=some o∧zaI H H2:=by
 have n:=h.new hb
 refine⟨_,rfl,h.upd n,?_,?_,zan hb _⟩
 ·rw[zjS n n]
  exact zan (znT hb) _
 ·rw[zjS n n]
  exact zai
theorem Drw.put{H0 H:Hp}{p:Addr}{c:Int}(h:Drw H p c){b:Addr}(n:b≠p)(s:zaI (Off p p H0) (Qa3))(f:Off p p H0 b=none)(o:HO):∃H2,H2=L2.upd H b o∧Drw H2 p c∧zaI (Off p p H0) (Off p p H2)∧Off p p H2 b=some o∧∀x,x≠b→Off p p H2 x=Off p p H x:=by
 refine⟨_,rfl,h.upd n,?_,?_,λx hx=>?_⟩
 ·rw[zjS n n]
  exact s.put f
 ·rw[zjS n n]
  exact zai
 ·rw[zjS n n,zbg hx]
def zq2:Sp:=λvs H Q _=>∃n k:Int,vs=[.int n,.int k]∧n.natAbs<2 ^ 2 ^ 20∧0≤k∧k≤100000∧∀r:Int,0≤r→r<2147483587→Q (.int r) H
def zpy(K:ψa):Sp:=λvs H Q _=>∃(p:Addr) (x:Int),vs=[.ref p,.int 0]∧H p=some (.lst [.int x])∧Q (.int x) H
def zvz(K:ψa):Sp:=λvs H Q _=>∃(p:Addr) (x:Int),vs=[.ref p,.int 0]∧H p=some (.lst [.int x])∧x.natAbs<2 ^ 2 ^ 20∧∀(l:Addr) (H':Hp),zaI H H'→H l=none→Drw H' l 0→Q (Qa5) H'
def zbW:Sp:=λvs H Q _=>∃(p:Addr) (c m:Int),vs=[.ref p,.int m]∧Drw H p c∧c<10000∧0<m∧m≤1000000000000000000000000000000∧∀(r:Int) (H':Hp),0≤r→r<m→Off p p H'=Off p p H→Drw H' p (c+1)→Q (.int r) H'
section
variable {P:Program} {w:World} {mg:Str→Option Value} {base:Heap}
variable {K:ψa} {H:Hp} {Q:VK} {a:Ad}
theorem eqT{f g:TS}(h:f=g)(D:zk9)(σ:St)(H:Hp):f D σ H=g D σ H:=by rw[h]
def zjN:TS :=
 (zbd (zbO (tOp (Qak) (zac 0) (zac 1)) (zam 2))
 (zbd (zbO (zac 1) (zam 0))
 (zbO (zac 2) (zam 1))))
def zgT:=eqT (zjN.eq_1)
def zjF(K:ψa):TS :=
 (zbd (zbO (tCB (λxs H Q=>∃i,xs=[.int i]∧Q (.int (if i<0 then -i else i)) H) (QE)) (zam 0))
 (zbd (zbO (tCB (λxs H Q=>∃i,xs=[.int i]∧Q (.int (if i<0 then -i else i)) H) (QD)) (zam 1))
 (zbd (zkw (tTru K (zac 1)) (zjN))
 (zbU (zac 0)))))
theorem zqf{x y:Int}(q:Q (.int (ψU x y:Nat)) H):zjF K { nx:=λ_ H'=>Q .non H',rt:=Q } (L2.start ["one","other","rest"] [.int x,.int y]) H:=by
 unfold zjF
 simp_all only [zgT,zac]
 refine zi7 (λσ H'=>H'=H∧∃u v r,σ=[some (.int u),some (.int v),r]∧0≤u∧0≤v∧ψU u v=ψU x y) (λσ _=>match σ with | [_,some (.int y),_]=>y.toNat | _=>0) ?_ ?_ ?_
 ·rw[zvI,zvI]
  exact⟨rfl,_,_,_,rfl,by omega,by omega,rfl⟩
 ·rintro σ H' ⟨rfl,u,v,r,rfl,hu,hv,hg⟩
  simp_all only [zgT,zac]
  refine zcg (λc=>?_) (λc=>?_)
  ·have c':v≠0:=by simpa using c
   have hv':0<v:=by omega
   refine⟨c',hv,ψi1 u hv',?_,?_⟩
   ·rw[zmw hu hv',hg]
   ·have:=ψB1 u hv'
    omega
  ·have c':v=0:=by simpa using c
   subst c'
   rw[← hg,zkp u hu] at q
   exact q
 ·rintro σ H1 Q1 Q2 hQ ⟨v,hv,k,hk,h⟩
  exact⟨v,hv,k,hk,hQ _ _ h⟩
theorem zei:zaB ["one","other","rest"] ["one","other"] (zag zju):=⟨rfl,rfl,rfl,by decide +kernel,rfl,by decide +kernel,by decide +kernel⟩
theorem zgB(T:Txt K mg a):zcn P w K mg base CX0 1 a.f_divisor a.d_divisor ["one","other"] zsF:=by
 refine T.F_divisor.ok zei (Qj) (Qd)
 ·obtain⟨x,y,rfl,q⟩:=h
  rfl
 obtain⟨x,y,rfl,q⟩:=h
 exact⟨zjF K,(zaf (zaN (i:=0) zei.nd rfl (Qf) (zao zo7 rfl T.z_abs PyProof.Rows.boot_abs (Qap)))
 (zaf (zaN (i:=1) zei.nd rfl (Qf) (zao zo7 rfl T.z_abs PyProof.Rows.boot_abs (QG)))
 (zaf (zi6 PassesOwn.never (zpE (pv 1) (Qcc)) (zaf (zaN (i:=2) zei.nd rfl (Qf) (zas zii (pv 0) (pv 1)))
 (zaf (zaN (i:=0) zei.nd rfl (Qf) (pv 1))
 (zaj (zaN (i:=1) zei.nd rfl (Qf) (pv 2))))))
 (QcA)))),
  zqf q⟩
def zne:TS :=
 (zbU (zeG (zab (tOp (QA) (zac 0) (zac 2)) (zab (tOp (QA) (zac 1) (zac 2)) zau))))
def zdL:=eqT (zne.eq_1)
def zl3:TS :=
 (zbd (zbO (zaz zsF [] E0 (Q7)) (zam 2))
 (zbd (zdG (zdQ (zb5 (tOp (QT) (zac 1) (Ql))) (zbO (tUn (rU λi=>.int (-i)) (zac 2)) (zam 2)) zb1))
 (zne)))
def zdI:=eqT (zl3.eq_1)
def znU:TS :=
 (zbd (zdG (zdQ (zb5 (tOp rEq (zac 1) (Ql))) zpm zb1))
 (zl3))
theorem zvl{t b:Int}(h:b≠0)(hb:Bd 6000 b)(q:∀(r:Addr) (H':Hp),zaI H H'→H' r=some (.tup (fr (ψy t b)))→Q (Q0) H') :
  znU { nx:=λ_ H'=>Q .non H',rt:=Q } (L2.start ["top","bottom","shared"] [.int t,.int b]) H:=by
 unfold znU
 simp_all only [zdL,zdI,zac]
 refine⟨λσ H'=>H'=H∧σ=[some (.int t),some (.int b),none],?_,?_⟩
 ·simp_all only [zdL,zdI,zac]
  exact zcg (λc=>absurd c h) (λ_=>trivial)
 ·rintro σ H' ⟨e,rfl⟩
  rw[e]
  simp_all only [zdL,zdI,zac]
  refine⟨t,b,rfl,?_⟩
  refine⟨λσ H'=>H'=H∧σ=[some (.int t),some (.int b),some (.int (sg t b))],?_,?_⟩
  ·simp_all only [zdL,zdI,zac]
   unfold sg
   exact zcg (λc=>by rw[if_pos c]) (λc=>by rw[if_neg c])
  ·rintro σ H' ⟨e,rfl⟩
   rw[e]
   simp_all only [zdL,zdI,zac]
   refine⟨zni h,zvO h hb,zni h,zvO h hb,by decide,λp hp=>q p _ (zan hp _) ?_⟩
   rw[fr,(ziB h).1,(ziB h).2]
   exact zai
theorem zkM:zaB ["top","bottom","shared"] ["top","bottom"] (zag zoH):=⟨rfl,rfl,rfl,by decide +kernel,rfl,by decide +kernel,by decide +kernel⟩
theorem zfv(T:Txt K mg a):zcn P w K mg base CX0 2 a.f_ratio a.d_ratio ["top","bottom"] zmZ:=by
 have G_divisor:=zgB (P:=P) (w:=w) (base:=base) T
 refine T.F_ratio.ok zkM (Qj) (Qd)
 ·obtain⟨t,b,rfl,h,hb,q⟩:=h
  rfl
 obtain⟨t,b,rfl,h,hb,q⟩:=h
 exact⟨znU,(zaf (zbs (zbP (zbb zhd (pv 1) zae (za4 _)) (zaj zlS) zaR))
 (zaf (zaN (i:=2) zkM.nd rfl (Qf) (zah G_divisor (Qa) rfl T.m_divisor T.F_divisor.kp T.b_divisor .nil zax (Qac)))
 (zaf (zbs (zbP (zbb zjv (pv 1) zae (za4 _)) (zaj (zaN (i:=2) zkM.nd rfl (Qf) (zpN zkt (pv 2)))) zaR))
 (zaj (zar (zbE (zaa (zas zdF (pv 0) (pv 2)) (zaa (zas zdF (pv 1) (pv 2)) zad)))))))),
  zvl h hb q⟩
theorem zpc{b:Int}(h0:0≤b)(h1:b≤50):∀n:Nat,0≤b ^ n∧b ^ n≤50 ^ n
 | 0=>by simp
 | n+1=>by
  obtain⟨z1,z2⟩:=zpc h0 h1 n
  rw[Int.pow_succ,Int.pow_succ]
  exact⟨ψY1 z1 h0,Int.mul_le_mul z2 h1 h0 (Int.le_trans z1 z2)⟩
theorem zeO{b:Int}(h0:0≤b)(h1:b≤50){n:Nat}(hn:n≤60):Bd 400 (b ^ n):=by
 obtain⟨z1,z2⟩:=zpc h0 h1 n
 have z3:(50:Int) ^ n≤50 ^ 60:=by
  exact_mod_cast Nat.pow_le_pow_right (n:=50) (Qn) hn
 have z4:(50:Int) ^ 60<2 ^ 400:=by decide +kernel
 unfold Bd
 have:(b ^ n).natAbs<(2:Int) ^ 400:=by omega
 omega
theorem zgz{b:Int}(h0:1≤b):∀n:Nat,0<b ^ n
 | 0=>by simp
 | n+1=>by
  rw[Int.pow_succ]
  exact ψv1 (zgz h0 n) (Qe)
def zok:TS :=
 (zbd (zbO (Qh) (zam 2))
 (zbd (zll (zke (QD)) (zam 3)
 (zbO (tOp (Qc) (zac 2) (zac 0)) (zam 2)))
 (zbU (zac 2))))
theorem zue{b n:Int}(n0:0≤n)(n1:n≤60)(b0:0≤b)(b1:b≤50)(q:Q (.int (b ^ n.toNat)) H) :
  zok { nx:=λ_ H'=>Q .non H',rt:=Q } (L2.start ["base","count","product","k"] [.int b,.int n]) H:=by
 unfold zok
 simp_all only [zac]
 refine(Qb5)
 refine zgH (λi σ H'=>H'=H∧∃k,σ=[some (.int b),some (.int n),some (.int (b ^ i)),k]) ⟨rfl,none,by rw[Int.pow_zero]⟩ ?_ ?_
 ·rintro i σ H' hi ⟨rfl,k,rfl⟩
  simp_all only [zac]
  exact⟨zoX (Qe) (Qe),by rw[Int.pow_succ]⟩
 ·rintro σ H' ⟨rfl,k,rfl⟩
  simp_all only [zac]
  exact q
theorem ziU:zaB ["base","count","product","k"] ["base","count"] (zag znS):=⟨rfl,rfl,rfl,by decide +kernel,rfl,by decide +kernel,by decide +kernel⟩
theorem zo1(T:Txt K mg a):zcn P w K mg base CX0 1 a.f_power a.d_power ["base","count"] ztK:=by
 refine T.F_power.ok ziU (Qj) (Qd)
 ·obtain⟨b,n,rfl,n0,n1,b0,b1,q⟩:=h
  rfl
 obtain⟨b,n,rfl,n0,n1,b0,b1,q⟩:=h
 exact⟨zok,(zaf (zaN (i:=2) ziU.nd rfl (Qf) zae)
 (zaf (zdJ PassesOwn.never rfl (zdO rfl T.z_range (QG)) (zak (i:=3) ziU.nd rfl (Qf))
 (zaj (zaN (i:=2) ziU.nd rfl (Qf) (zas zav (pv 2) (pv 0)))))
 (zaj (zar (pv 2))))),
  zue n0 n1 b0 b1 q⟩
def zmu:Sp:=λvs H Q _=>∃(x y:Addr) (u v:Rat),vs=[.ref x,.ref y]∧H x=some (QbX)∧H y=some (QbW)∧Bq 2000 u∧Bq 2000 v∧∀(r:Addr) (H':Hp),zaI H H'→H' r=some (.tup (fr (u*v)))→Q (Q0) H'
def znX(K:ψa):TS :=
 (zbU (zaz zmZ [] E0 (zab (tOp (Qc) (QK) (tOp (zbC K) (zac 1) (Ql))) (QbP))))
theorem zuB{x y:Addr}{u v:Rat}(hx:H x=some (QbX))(hy:H y=some (QbW))(bu:Bq 2000 u)(bv:Bq 2000 v)
  (q:∀(r:Addr) (H':Hp),zaI H H'→H' r=some (.tup (fr (u*v)))→Q (Q0) H') :
  znX K { nx:=λ_ H'=>Q .non H',rt:=Q } (QaG) H:=by
 unfold znX
 simp_all only [zac]
 rw[← zsU] at q
 have hx:=SqT.of (K:=K) hx
 have hy:=SqT.of (K:=K) hy
 exact⟨_,hx,_,rfl,_,hy,_,rfl,_,rfl,_,rfl,zdg 2000 2000 bu.top bv.top,_,hx,_,rfl,_,hy,_,rfl,_,rfl,_,rfl,zdg 2000 2000 bu.bot bv.bot,_,_,rfl,ψS (zcC u) (zcC v),(bu.bot.mul bv.bot).mono (Qn),q⟩
theorem zt4:zaB ["one","other"] ["one","other"] (zag zol):=⟨rfl,rfl,rfl,by decide +kernel,rfl,by decide +kernel,by decide +kernel⟩
theorem zt6(T:Txt K mg a):zcn P w K mg base CX0 3 a.f_times a.d_times ["one","other"] zmu:=by
 have G_ratio:=zfv (P:=P) (w:=w) (base:=base) T
 refine T.F_times.ok zt4 (Qj) (Qd)
 ·obtain⟨x,y,u,v,rfl,hx,hy,bu,bv,q⟩:=h
  rfl
 obtain⟨x,y,u,v,rfl,hx,hy,bu,bv,q⟩:=h
 exact⟨znX K,(zaj (zar (zah G_ratio (Qa) rfl T.m_ratio T.F_ratio.kp T.b_ratio .nil zax (zaa (QaA) (zaa (QaA) zad))))),
  zuB hx hy bu bv q⟩
theorem zux{b d:Int}(hb:0<b)(hd:0<d):0<b.fdiv (ψU b d:Nat)*d∧b∣b.fdiv (ψU b d:Nat)*d∧d∣b.fdiv (ψU b d:Nat)*d∧(∀M,b∣M→d∣M→b.fdiv (ψU b d:Nat)*d∣M)∧b.fdiv (ψU b d:Nat)*d≤b*d:=by
 obtain⟨B,rfl⟩:=ψn1 (ψD hb)
 obtain⟨D,rfl⟩:=ψn1 (ψD hd)
 have e:((B:Int).fdiv (ψU (B:Int) (D:Int):Nat))*(D:Int)=((Nat.lcm B D:Nat):Int):=by
  rw[ψZ _ (Qe)]
  show(((B / Nat.gcd B D:Nat):Int))*(D:Int)=_
  rw[← Int.natCast_mul]
  congr 1
  unfold Nat.lcm
  exact Nat.div_mul_right_comm (Nat.gcd_dvd_left B D) D
 rw[e]
 have B0:0<B:=by omega
 have D0:0<D:=by omega
 refine⟨?_,Int.natCast_dvd_natCast.mpr (Nat.dvd_lcm_left B D),Int.natCast_dvd_natCast.mpr (Nat.dvd_lcm_right B D),λM h1 h2=>?_,?_⟩
 ·have:=Nat.lcm_pos B0 D0
  omega
 ·rw[Int.ofNat_dvd_left] at h1 h2 ⊢
  exact Nat.lcm_dvd h1 h2
 ·rw[← Int.natCast_mul]
  have:Nat.lcm B D≤B*D:=Nat.div_le_self _ _
  omega
structure Com (qs:List Rat) (D:Int):Prop where
 pos:0<D
 all:∀q∈qs,(q.den:Int)∣D
 least:∀M:Int,(∀q∈qs,(q.den:Int)∣M)→D∣M
def zk2:Sp:=λvs H Q _=>∃(l:Addr) (us:List Addr) (qs:List Rat),vs=[.ref l]∧H l=some (Qbi)∧Tps fr H us qs∧qs.length≤60∧(∀q∈qs,Bq 2200 q)∧∀(r tl:Addr) (D:Int) (H':Hp),zaI H H'→Com qs D→H' r=some (.tup [.ref tl,.int D])→H tl=none→H' tl=some (.lst ((qs.map λq=>q.num*(D / q.den)).map V.int))→Q (Q0) H'
def zkq(K:ψa):TS :=
 (zbO (tOp (Qc) (tOp (QA) (zac 1) (zaz zsF [] E0 (zab (zac 1) (zab (QaW) zau)))) (QaW)) (zam 1))
def zed(K:ψa):=eqT (zkq.eq_1 K)
def zkF(K:ψa):TS :=
 (zbU (zeG (zab (zb3 (QaE) (zam 0) za5 (tOp (Qc) (QK) (tOp (QA) (zac 1) (QB))) [none,some 1]) (QD))))
def zee(K:ψa):=eqT (zkF.eq_1 K)
def zkV(K:ψa):TS :=
 (zbd (zbO (Qh) (zam 1))
 (zbd (zll (QaE) (zam 2)
 (zkq K))
 (zkF K)))
theorem zrZ{l:Addr}{us:List Addr}{qs:List Rat}(hl:H l=some (Qbi))(ht:Tps fr H us qs)(h60:qs.length≤60)(hB:∀q∈qs,Bq 2200 q)(q:∀(r tl:Addr) (D:Int) (H':Hp),zaI H H'→Com qs D→H' r=some (.tup [.ref tl,.int D])→H tl=none→H' tl=some (.lst ((qs.map λq=>q.num*(D / q.den)).map V.int))→Q (Q0) H') :
  zkV K { nx:=λ_ H'=>Q .non H',rt:=Q } (L2.start ["fractions","bottom","fraction"] [.ref l]) H:=by
 unfold zkV
 have ul:=ht.1
 simp_all only [zed,zee,zac]
 refine⟨⟨_,SqL.of hl⟩,?_⟩
 refine zc3 (K:=K) (xs:=us.map V.ref) (λi σ H'=>H'=H∧∃(b:Int) (x1:Option V),Com (qs.take i) b∧Bd (2200*i+1) b∧σ=[some (Qa5),some (.int b),x1]) ⟨rfl,1,_,⟨by decide,by simp,λM _=>Int.one_dvd M⟩,by show(1:Nat)<2 ^ 1;decide,rfl⟩ ?_ ?_ ?_
 ·rintro i σ H' _ ⟨rfl,_⟩
  exact SqL.of hl
 ·rintro i v σ H1 hx ⟨rfl,b,x1,C,hb,rfl⟩
  obtain⟨t,et,rfl⟩:=zat hx
  obtain⟨f,ef,hf⟩:=ht.at et
  have li:=(List.getElem?_eq_some_iff.mp ef).1
  have bf:=hB f (zap ef)
  obtain⟨p1,p2,p3,p4,p5⟩:=zux C.pos (zb4 f)
  have g0:(ψU b f.den:Int)≠0:=by
   have:=Int.gcd_pos_of_ne_zero_right b (zcC f)
   omega
  have gle:(ψU b f.den:Int).natAbs≤(f.den:Int).natAbs:=by
   have:=Int.gcd_le_natAbs_right b (zcC f)
   omega
  have fdl:(b.fdiv (ψU b f.den:Nat)).natAbs≤b.natAbs:=by
   rw[ψZ _ (Qe)]
   have h1:=ψK1 (ψU b f.den:Nat) (ψD C.pos)
   have h2:=Int.ediv_nonneg (b:=((ψU b f.den:Nat):Int)) (ψD C.pos) (Qe)
   have:=C.pos
   omega
  simp_all only [zed,zee,zac]
  refine⟨_,SqT.of hf,_,rfl,b,_,rfl,_,rfl,g0,zhJ 2200 g0 (bf.bot.le gle),_,SqT.of hf,_,rfl,_,rfl,zdg (2200*i+1) 2200 (hb.le fdl) bf.bot (Qe),rfl,_,⟨p1,λr hr=>?_,λM hM=>p4 M (C.least M λr hr=>hM r ?_) (hM f ?_)⟩,?_,rfl⟩
  ·rw[ψx,ef] at hr
   rcases List.mem_append.mp hr with h | h
   ·exact Int.dvd_trans (C.all r h) p2
   ·have:r=f:=by simpa using h
    rw[this]
    exact p3
  ·rw[ψx,ef]
   exact ψU1 _ hr
  ·rw[ψx,ef]
   exact ψB _ (Qby)
  ·have hm:=hb.mul bf.bot
   have h0:=C.pos
   have h1:=zb4 f
   have h2:=ψv1 h0 h1
   exact(hm.le (Qe)).mono (Qe)
 ·rintro σ H1 ⟨rfl,b,x1,C,hb,rfl⟩
  rw[ψb,ul] at C hb
  rw[ψQ (ψm _)] at C
  have hb2:Bd 132001 b:=hb.mono (Qe)
  simp_all only [zed,zee,zac]
  refine(QaH)
  refine zcT (K:=K) (xs:=us.map V.ref) (λj ys σ H'=>zaI H1 H'∧ys=((qs.take j).map λq=>q.num*(b / q.den)).map V.int∧∃k,σ=[k,some (.int b)]) ⟨zan hD _,rfl,_,rfl⟩ ?_ ?_ ?_
  ·rintro j ys σ H' _ ⟨s,_⟩
   exact SqL.of (s _ _ hl)
  ·rintro j v ys σ H3 hx hD3 ⟨s3,rfl,k,rfl⟩
   obtain⟨t,et,rfl⟩:=zat hx
   obtain⟨f,ef,hf⟩:=ht.at et
   have bf:=hB f (zap ef)
   have lj:=(List.getElem?_eq_some_iff.mp ef).1
   have hf3:=s3 _ _ hf
   have fde:b.fdiv f.den=b / f.den:=ψZ _ (ψD (zb4 f))
   have fdl:(b.fdiv f.den).natAbs≤b.natAbs:=by
    rw[fde]
    have h1:=ψK1 (f.den:Int) (ψD C.pos)
    have h2:=Int.ediv_nonneg (b:=(f.den:Int)) (ψD C.pos) (ψD (zb4 f))
    have:=C.pos
    omega
   simp_all only [zed,zee,zac]
   refine⟨_,SqT.of hf3,_,rfl,_,SqT.of hf3,_,rfl,_,rfl,zcC f,zhJ 2200 (zcC f) bf.bot,_,rfl,zdg 2200 132001 bf.top (hb2.le fdl),_,hD3,zbF (by rw[ψb,ψb,ψG];omega),_,zai,s3.put hD,?_⟩
   rw[ψx,ef,fde]
   simp
  ·rintro ys σ H3 hD3 ⟨s3,rfl,k,rfl⟩
   rw[ψb,ul,ψQ (ψm _)] at hD3
   exact⟨by decide,λp hp=>q p D b _ (s3.add hp) C zai hD (by rw[zbg (zaO hD3 hp)];exact hD3)⟩
theorem zhM:zaB ["fractions","bottom","fraction"] ["fractions"] (zag zi1):=⟨rfl,rfl,rfl,by decide +kernel,rfl,by decide +kernel,by decide +kernel⟩
theorem zmK(T:Txt K mg a):zcn P w K mg base CX0 2 a.f_common a.d_common ["fractions"] zk2:=by
 have G_divisor:=zgB (P:=P) (w:=w) (base:=base) T
 refine T.F_common.ok zhM (Qj) (Qd)
 ·obtain⟨l,us,qs,rfl,hl,ht,h60,hB,q⟩:=h
  rfl
 obtain⟨l,us,qs,rfl,hl,ht,h60,hB,q⟩:=h
 exact⟨zkV K,(zaf (zaN (i:=1) zhM.nd rfl (Qbd) zae)
 (zaf (zdJ PassesOwn.never rfl (Qbk) (zak (i:=2) zhM.nd rfl (Qf))
 (zaj (zaN (i:=1) zhM.nd rfl (Qbd) (zas zav (zas zdF (pv 1) (zah G_divisor (Qa) rfl T.m_divisor T.F_divisor.kp T.b_divisor .nil zax (zaa (pv 1) (zaa (Q8) zad)))) (Q8)))))
 (zaj (zar (zbE (zaa (zbi (sc:=zag zi1) (N:=["fractions","bottom","fraction"]) (Nc:=["fraction","bottom"]) (cap:=[none,some 1]) rfl rfl rfl (Qi) (Qbk) (λ_ _ _ _=>(zak (i:=0) (show ψh (["fraction","bottom"]:List Str) from by decide) rfl (Qf))) (QF) (λ_ _ _ _=>(zas zav (Qg) (zas zdF (pv 1) (Qg))))) (QG))))))),
  zrZ hl ht h60 hB q⟩
def znw:Sp:=λvs H Q _=>∃(x y:Addr) (u v:Rat),vs=[.ref x,.ref y]∧H x=some (QbX)∧H y=some (QbW)∧Bq 2900 u∧Bq 2900 v∧∀(r:Addr) (H':Hp),zaI H H'→H' r=some (.tup (fr (u+v)))→Q (Q0) H'
def zpe:Sp:=λvs H Q _=>∃(x y:Addr) (u v:Rat),vs=[.ref x,.ref y]∧H x=some (QbX)∧H y=some (QbW)∧Bq 2900 u∧Bq 2900 v∧∀(r:Addr) (H':Hp),zaI H H'→H' r=some (.tup (fr (u - v)))→Q (Q0) H'
def zkZ:Sp:=λvs H Q _=>∃(x y:Addr) (u v:Rat),vs=[.ref x,.ref y]∧H x=some (QbX)∧H y=some (QbW)∧v≠0∧Bq 2900 u∧Bq 2900 v∧∀(r:Addr) (H':Hp),zaI H H'→H' r=some (.tup (fr (u / v)))→Q (Q0) H'
def zl1:Sp:=λvs H Q _=>∃(x y:Addr) (u v:Rat),vs=[.ref x,.ref y]∧H x=some (QbX)∧H y=some (QbW)∧Bq 6000 u∧Bq 6000 v∧Q (.bl (decide (u<v))) H
def zsK(K:ψa):TS :=
 (zbU (zaz zmZ [] E0 (zab (tOp (Qv) (QbQ) (QaF)) (QbP))))
theorem zxQ{x y:Addr}{u v:Rat}(hx:H x=some (QbX))(hy:H y=some (QbW))(bu:Bq 2900 u)(bv:Bq 2900 v)(q:∀(r:Addr) (H':Hp),zaI H H'→H' r=some (.tup (fr (u+v)))→Q (Q0) H') :
  zsK K { nx:=λ_ H'=>Q .non H',rt:=Q } (QaG) H:=by
 unfold zsK
 simp_all only [zac]
 rw[← zsx] at q
 have hx:=SqT.of (K:=K) hx
 have hy:=SqT.of (K:=K) hy
 exact⟨_,hx,_,rfl,_,hy,_,rfl,_,rfl,_,rfl,zdg 2900 2900 bu.top bv.bot,_,hy,_,rfl,_,hx,_,rfl,_,rfl,_,rfl,zdg 2900 2900 bv.top bu.bot,_,hx,_,rfl,_,hy,_,rfl,_,rfl,_,rfl,zdg 2900 2900 bu.bot bv.bot,_,_,rfl,ψS (zcC u) (zcC v),(bu.bot.mul bv.bot).mono (Qn),q⟩
theorem zwF:zaB ["one","other"] ["one","other"] (zag zqU):=⟨rfl,rfl,rfl,by decide +kernel,rfl,by decide +kernel,by decide +kernel⟩
theorem zse(T:Txt K mg a):zcn P w K mg base CX0 3 a.f_plus a.d_plus ["one","other"] znw:=by
 have G_ratio:=zfv (P:=P) (w:=w) (base:=base) T
 refine T.F_plus.ok zwF (Qj) (Qd)
 ·obtain⟨x,y,u,v,rfl,hx,hy,bu,bv,q⟩:=h
  rfl
 obtain⟨x,y,u,v,rfl,hx,hy,bu,bv,q⟩:=h
 exact⟨zsK K,(zaj (zar (zah G_ratio (Qa) rfl T.m_ratio T.F_ratio.kp T.b_ratio .nil zax (zaa (zas zce (QaA) (Qcp)) (zaa (QaA) zad))))),
  zxQ hx hy bu bv q⟩
def zor(K:ψa):TS :=
 (zbU (zaz zmZ [] E0 (zab (tOp (QJ) (QbQ) (QaF)) (QbP))))
theorem zuY{x y:Addr}{u v:Rat}(hx:H x=some (QbX))(hy:H y=some (QbW))(bu:Bq 2900 u)(bv:Bq 2900 v)(q:∀(r:Addr) (H':Hp),zaI H H'→H' r=some (.tup (fr (u - v)))→Q (Q0) H') :
  zor K { nx:=λ_ H'=>Q .non H',rt:=Q } (QaG) H:=by
 unfold zor
 simp_all only [zac]
 rw[← ztw] at q
 have hx:=SqT.of (K:=K) hx
 have hy:=SqT.of (K:=K) hy
 exact⟨_,hx,_,rfl,_,hy,_,rfl,_,rfl,_,rfl,zdg 2900 2900 bu.top bv.bot,_,hy,_,rfl,_,hx,_,rfl,_,rfl,_,rfl,zdg 2900 2900 bv.top bu.bot,_,hx,_,rfl,_,hy,_,rfl,_,rfl,_,rfl,zdg 2900 2900 bu.bot bv.bot,_,_,rfl,ψS (zcC u) (zcC v),(bu.bot.mul bv.bot).mono (Qn),q⟩
theorem zuN:zaB ["one","other"] ["one","other"] (zag znY):=⟨rfl,rfl,rfl,by decide +kernel,rfl,by decide +kernel,by decide +kernel⟩
theorem zup(T:Txt K mg a):zcn P w K mg base CX0 3 a.f_minus a.d_minus ["one","other"] zpe:=by
 have G_ratio:=zfv (P:=P) (w:=w) (base:=base) T
 refine T.F_minus.ok zuN (Qj) (Qd)
 ·obtain⟨x,y,u,v,rfl,hx,hy,bu,bv,q⟩:=h
  rfl
 obtain⟨x,y,u,v,rfl,hx,hy,bu,bv,q⟩:=h
 exact⟨zor K,(zaj (zar (zah G_ratio (Qa) rfl T.m_ratio T.F_ratio.kp T.b_ratio .nil zax (zaa (zas zc4 (QaA) (Qcp)) (zaa (QaA) zad))))),
  zuY hx hy bu bv q⟩
def zq3(K:ψa):TS :=
 (zbU (zaz zmZ [] E0 (zab (QbQ) (zab (tOp (Qc) (QB) (tOp (zbC K) (zac 1) (Ql))) zau))))
theorem zxI{x y:Addr}{u v:Rat}(hx:H x=some (QbX))(hy:H y=some (QbW))(v0:v≠0)(bu:Bq 2900 u)(bv:Bq 2900 v)(q:∀(r:Addr) (H':Hp),zaI H H'→H' r=some (.tup (fr (u / v)))→Q (Q0) H') :
  zq3 K { nx:=λ_ H'=>Q .non H',rt:=Q } (QaG) H:=by
 unfold zq3
 simp_all only [zac]
 rw[← zlG] at q
 have hx:=SqT.of (K:=K) hx
 have hy:=SqT.of (K:=K) hy
 exact⟨_,hx,_,rfl,_,hy,_,rfl,_,rfl,_,rfl,zdg 2900 2900 bu.top bv.bot,_,hx,_,rfl,_,hy,_,rfl,_,rfl,_,rfl,zdg 2900 2900 bu.bot bv.top,_,_,rfl,ψS (zcC u) (λz=>v0 (Rat.num_eq_zero.mp z)),(bu.bot.mul bv.top).mono (Qn),q⟩
theorem zxf:zaB ["one","other"] ["one","other"] (zag ztu):=⟨rfl,rfl,rfl,by decide +kernel,rfl,by decide +kernel,by decide +kernel⟩
theorem zou(T:Txt K mg a):zcn P w K mg base CX0 3 a.f_over a.d_over ["one","other"] zkZ:=by
 have G_ratio:=zfv (P:=P) (w:=w) (base:=base) T
 refine T.F_over.ok zxf (Qj) (Qd)
 ·obtain⟨x,y,u,v,rfl,hx,hy,v0,bu,bv,q⟩:=h
  rfl
 obtain⟨x,y,u,v,rfl,hx,hy,v0,bu,bv,q⟩:=h
 exact⟨zq3 K,(zaj (zar (zah G_ratio (Qa) rfl T.m_ratio T.F_ratio.kp T.b_ratio .nil zax (zaa (QaA) (zaa (QaA) zad))))),
  zxI hx hy v0 bu bv q⟩
def zop(K:ψa):TS :=
 (zbU (tOp (QT) (QbQ) (QaF)))
theorem zug{x y:Addr}{u v:Rat}(hx:H x=some (QbX))(hy:H y=some (QbW))(bu:Bq 6000 u)(bv:Bq 6000 v)(q:Q (.bl (decide (u<v))) H) :
  zop K { nx:=λ_ H'=>Q .non H',rt:=Q } (QaG) H:=by
 unfold zop
 simp_all only [zac]
 have hx:=SqT.of (K:=K) hx
 have hy:=SqT.of (K:=K) hy
 rw[decide_eq_decide.mpr (Rat.lt_iff u v)] at q
 exact⟨_,hx,_,rfl,_,hy,_,rfl,_,rfl,_,rfl,zdg 6000 6000 bu.top bv.bot,_,hy,_,rfl,_,hx,_,rfl,_,rfl,_,rfl,zdg 6000 6000 bv.top bu.bot,q⟩
theorem ztO:zaB ["one","other"] ["one","other"] (zag znJ):=⟨rfl,rfl,rfl,by decide +kernel,rfl,by decide +kernel,by decide +kernel⟩
theorem zo8(T:Txt K mg a):zcn P w K mg base CX0 1 a.f_below a.d_below ["one","other"] zl1:=by
 refine T.F_below.ok ztO (Qj) (Qd)
 ·obtain⟨x,y,u,v,rfl,hx,hy,bu,bv,q⟩:=h
  rfl
 obtain⟨x,y,u,v,rfl,hx,hy,bu,bv,q⟩:=h
 exact⟨zop K,(zaj (zar (zcb zjv (QaA) (Qcp) (za4 _)))),
  zug hx hy bu bv q⟩
def zkR(K:ψa):TS :=
 (zbU (zeG (zab (zaz ztK [] E0 (zab (tOp (QJ) (Qau) (QB)) (QD))) (zab (zaz ztK [] E0 (zab (Qau) (QD))) zau))))
theorem ztn{p:Addr}{b:Box}{n:Int}(hp:H p=some (Qbg))(g:GB b)(n0:0≤n)(n1:n≤60)(q:∀(r:Addr) (H':Hp),zaI H H'→H' r=some (Qao)→Q (Q0) H') :
  zkR K { nx:=λ_ H'=>Q .non H',rt:=Q } (L2.start ["box","count"] [.ref p,.int n]) H:=by
 unfold zkR
 obtain⟨g1,g2,g3,g4,g5⟩:=g
 simp_all only [zac]
 refine⟨_,SqT.of hp,_,rfl,_,SqT.of hp,_,rfl,_,rfl,_,rfl,_,_,rfl,n0,n1,by omega,by omega,_,SqT.of hp,_,rfl,_,_,rfl,n0,n1,by omega,by omega,by decide,λr hr=>q r _ (zan hr _) zai⟩
theorem zrE:zaB ["box","count"] ["box","count"] (zag zlw):=⟨rfl,rfl,rfl,by decide +kernel,rfl,by decide +kernel,by decide +kernel⟩
theorem zfb(T:Txt K mg a):zcn P w K mg base CX0 2 a.f_missed a.d_missed ["box","count"] zft:=by
 have G_power:=zo1 (P:=P) (w:=w) (base:=base) T
 refine T.F_missed.ok zrE (Qj) (Qd)
 ·obtain⟨p,b,n,rfl,hp,g,n0,n1,q⟩:=h
  rfl
 obtain⟨p,b,n,rfl,hp,g,n0,n1,q⟩:=h
 exact⟨zkR K,(zaj (zar (zbE (zaa (zah G_power (Qa) rfl T.m_power T.F_power.kp T.b_power .nil zax (zaa (zas zc4 (Qg) (Qg)) (QG))) (zaa (zah G_power (Qa) rfl T.m_power T.F_power.kp T.b_power .nil zax (zaa (Qg) (QG))) zad))))),
  ztn hp g n0 n1 q⟩
theorem zdn{b:Box}(g:GB b)(n:Int):0<b.2.2 ^ n.toNat:=zgz (by obtain⟨g1,g2,g3,g4,g5⟩:=g;omega) _
theorem zgL{b:Box}(g:GB b){n:Int}(n1:n≤60):Bd 400 (b.2.2 ^ n.toNat):=zeO (by obtain⟨g1,g2,g3,g4,g5⟩:=g;omega) g.2.2.2.2 (Qe)
def zkT(K:ψa):TS :=
 (zbd (zbO (zaz zft [] E0 (Q7)) (Qba))
 (zbU (zaz zmZ [] E0 (zab (tOp (QJ) (zac 3) (zac 2)) (QO)))))
theorem zrc{p:Addr}{b:Box}{n:Int}(hp:H p=some (Qbg))(g:GB b)(n0:0≤n)(n1:n≤60)(q:∀(r:Addr) (H':Hp),zaI H H'→H' r=some (.tup (fr (chq b n)))→Q (Q0) H') :
  zkT K { nx:=λ_ H'=>Q .non H',rt:=Q } (L2.start ["box","count","top","bottom"] [.ref p,.int n]) H:=by
 unfold zkT
 simp_all only [zac]
 refine⟨p,b,n,rfl,hp,g,n0,n1,λr H1 s1 hr=>?_⟩
 simp_all only [zac]
 refine⟨_,SqT.of hr,rfl,_,_,rfl,_,_,rfl,rfl,_,rfl,_,rfl,?_⟩
 have z:=zdn g n
 exact⟨_,_,rfl,by omega,(zgL g n1).mono (Qn),λr H2 s2 hr2=>q r H2 (QaD) hr2⟩
theorem zjT:zaB ["box","count","top","bottom"] ["box","count"] (zag zlN):=⟨rfl,rfl,rfl,by decide +kernel,rfl,by decide +kernel,by decide +kernel⟩
theorem zjE(T:Txt K mg a):zcn P w K mg base CX0 3 a.f_chance a.d_chance ["box","count"] zjb:=by
 have G_missed:=zfb (P:=P) (w:=w) (base:=base) T
 have G_ratio:=zfv (P:=P) (w:=w) (base:=base) T
 refine T.F_chance.ok zjT (Qj) (Qd)
 ·obtain⟨p,b,n,rfl,hp,g,n0,n1,q⟩:=h
  rfl
 obtain⟨p,b,n,rfl,hp,g,n0,n1,q⟩:=h
 exact⟨zkT K,(zaf (zcY (QaO) (zbu rfl (zal (zak (i:=2) zjT.nd rfl (Qf)) (zal (zak (i:=3) zjT.nd rfl (Qf)) za3))))
 (zaj (zar (zah G_ratio (Qa) rfl T.m_ratio T.F_ratio.kp T.b_ratio .nil zax (zaa (zas zc4 (pv 3) (pv 2)) (QU)))))),
  zrc hp g n0 n1 q⟩
theorem zhD{α β γ:Type}(f:α→β→γ)(as:List α)(bs:List β){i:Nat}{x:α}{y:β}(h1:as[i]?=some x)(h2:bs[i]?=some y) :
  (ψe f as bs).take (i+1)=(ψe f as bs).take i++[f x y]:=by
 rw[ψx,ψX,h1,h2]
 rfl
theorem zsP{α β γ:Type}(f:α→β→γ)(as:List α)(bs:List β):(ψe f as bs).take (min as.length bs.length)=ψe f as bs :=
 ψQ (by rw[ψo];exact ψm _)
def zid(K:ψa):TS :=
 (zbU (tCB (zmO K) (zab (zb3 (zmf K (Q7)) (Qk) za5 (tOp (Qc) (QK) (zac 1)) [none,none]) zau)))
theorem zoL{l pl:Addr}{ts:List Addr}{bs:List Box}{ns:List Int}(B:BP H l pl ts bs ns)(q:∀H',zaI H H'→Q (.int (QbK).sum) H') :
  zid K { nx:=λ_ H'=>Q .non H',rt:=Q } (L2.start ["boxes","plan"] [.ref l,.ref pl]) H:=by
 unfold zid
 simp_all only [zac]
 refine(Qbh)
 refine zhC (K:=K) (xs:=ts.map V.ref) (zs:=ns.map V.int) (λi ys σ H'=>zaI H H'∧ys=((QbK).take i).map V.int∧∃x y,σ=[x,y]) ⟨zan hD _,rfl,_,_,rfl⟩ ?_ ?_ ?_
 ·rintro i ys σ H' _ ⟨s,_⟩
  exact⟨SqL.of (s _ _ B.hl),SqL.of (s _ _ B.hp)⟩
 ·rintro i x z t ys σ H' hx hz hD' ⟨s,rfl,u,v,rfl⟩ ht
  obtain⟨a,ha,rfl⟩:=zat hx
  obtain⟨n,hn,rfl⟩:=zat hz
  obtain⟨b,hb1,hb2⟩:=B.hb.at ha
  obtain⟨n0,n1⟩:=B.gn n (zap hn)
  have li:=(List.getElem?_eq_some_iff.mp hb1).1
  have l6:=B.l6
  have hb3:=s _ _ hb2
  simp_all only [zac]
  refine⟨_,SqT.of zai,rfl,_,_,rfl,_,_,rfl,rfl,?_⟩
  simp_all only [zac]
  refine⟨_,SqT.of (by rw[zbg (zaO hb3 ht)];exact hb3),_,rfl,_,rfl,zoX (Qe) (Qe),_,by rw[zbg (zaO hD' ht)];exact hD',zbF (by rw[ψb,ψG];omega),_,zai,((s.add ht).put hD),?_⟩
  rw[zaF,zhD _ _ _ hb1 hn,ψO]
  rfl
 ·rintro ys σ H' hD' ⟨s,rfl,u,v,rfl⟩
  simp_all only [zac]
  refine⟨_,SqL.of hD',?_⟩
  rw[ψb,ψb,B.hb.1,zaF,zsP]
  exact q _ s
theorem znI:zaB ["boxes","plan"] ["boxes","plan"] (zag zgy):=⟨rfl,rfl,rfl,by decide +kernel,rfl,by decide +kernel,by decide +kernel⟩
theorem zhg(T:Txt K mg a):zcn P w K mg base CX0 1 a.f_cost_sum a.d_cost_sum ["boxes","plan"] zpH:=by
 refine T.F_cost_sum.ok znI (Qj) (Qd)
 ·obtain⟨l,pl,ts,bs,ns,rfl,B,q⟩:=h
  rfl
 obtain⟨l,pl,ts,bs,ns,rfl,B,q⟩:=h
 exact⟨zid K,(zaj (zar (zao (zcr rfl) rfl T.z_sum ψI (zaa (zbi (sc:=zag zgy) (N:=["boxes","plan"]) (Nc:=["box","count"]) (cap:=[none,none]) rfl rfl rfl (Qi) (zeC rfl T.z_zip (Qac)) (Qq) (QF) (λ_ _ _ _=>(zas zav (Qg) (pv 1)))) zad)))),
  zoL B q⟩
def gnq(b:Box)(n:Int):Rat:=ψy ((b.2.2 - b.2.1) ^ n.toNat*b.2.1) (b.2.2 ^ n.toNat*b.2.2)
def zoy:Sp:=λvs H Q _=>∃(p:Addr) (b:Box) (n:Int),vs=[.ref p,.int n]∧H p=some (Qbg)∧GB b∧0≤n∧n≤60∧∀(r:Addr) (H':Hp),zaI H H'→H' r=some (.tup (fr (gnq b n)))→Q (Q0) H'
def ztr(K:ψa):TS :=
 (zbd (zbO (zaz zft [] E0 (Q7)) (Qba))
 (zbU (zaz zmZ [] E0 (zab (tOp (Qc) (zac 2) (QB)) (zab (tOp (Qc) (zac 3) (Qau)) zau)))))
theorem zwu{p:Addr}{b:Box}{n:Int}(hp:H p=some (Qbg))(g:GB b)(n0:0≤n)(n1:n≤60)(q:∀(r:Addr) (H':Hp),zaI H H'→H' r=some (.tup (fr (gnq b n)))→Q (Q0) H') :
  ztr K { nx:=λ_ H'=>Q .non H',rt:=Q } (L2.start ["box","count","top","bottom"] [.ref p,.int n]) H:=by
 unfold ztr
 simp_all only [zac]
 refine⟨p,b,n,rfl,hp,g,n0,n1,λr H1 s1 hr=>?_⟩
 simp_all only [zac]
 have hp1:=SqT.of (K:=K) (s1 _ _ hp)
 have z:=zdn g n
 have bo:=zgL g n1
 obtain⟨g1,g2,g3,g4,g5⟩:=g
 have b50:Bd 6 b.2.2:=by show b.2.2.natAbs<2 ^ 6;omega
 refine⟨_,SqT.of hr,rfl,_,_,rfl,_,_,rfl,rfl,_,hp1,_,rfl,_,rfl,_,rfl,zoX (Qe) (Qe),_,hp1,_,rfl,_,rfl,_,rfl,zoX (Qe) (Qe),?_⟩
 exact⟨_,_,rfl,ψS (Qe) (Qe),(bo.mul b50).mono (Qn),λr H2 s2 hr2=>q r H2 (QaD) hr2⟩
theorem znR:zaB ["box","count","top","bottom"] ["box","count"] (zag zrl):=⟨rfl,rfl,rfl,by decide +kernel,rfl,by decide +kernel,by decide +kernel⟩
theorem zqZ(T:Txt K mg a):zcn P w K mg base CX0 3 a.f_gain a.d_gain ["box","count"] zoy:=by
 have G_missed:=zfb (P:=P) (w:=w) (base:=base) T
 have G_ratio:=zfv (P:=P) (w:=w) (base:=base) T
 refine T.F_gain.ok znR (Qj) (Qd)
 ·obtain⟨p,b,n,rfl,hp,g,n0,n1,q⟩:=h
  rfl
 obtain⟨p,b,n,rfl,hp,g,n0,n1,q⟩:=h
 exact⟨ztr K,(zaf (zcY (QaO) (zbu rfl (zal (zak (i:=2) znR.nd rfl (Qf)) (zal (zak (i:=3) znR.nd rfl (Qf)) za3))))
 (zaj (zar (zah G_ratio (Qa) rfl T.m_ratio T.F_ratio.kp T.b_ratio .nil zax (zaa (zas zav (pv 2) (Qg)) (zaa (zas zav (pv 3) (Qg)) zad)))))),
  zwu hp g n0 n1 q⟩
theorem Bq.add2{m n:Nat}{p q:Rat}(hp:Bq m p)(hq:Bq n q):Bq (m+n+1) (p+q):=by
 rw[← zsx]
 have h:Bd (m+n) (q.num*(p.den:Int)):=by rw[Nat.add_comm m n];exact hq.top.mul hp.bot
 exact zb8 (ψS (zcC p) (zcC q)) ((hp.top.mul hq.bot).add h) ((hp.bot.mul hq.bot).mono (Nat.le_succ _))
def znZ:Sp:=λvs H Q _=>∃(l:Addr) (us:List Addr) (qs:List Rat),vs=[.ref l]∧H l=some (Qbi)∧Tps fr H us qs∧(∀i:Nat,Bq 2900 (qs.take i).sum)∧(∀q∈qs,Bq 2900 q)∧∀(r:Addr) (H':Hp),zaI H H'→H' r=some (.tup (fr qs.sum))→Q (Q0) H'
def zoC(K:ψa):TS :=
 (zbd (zbO (zeG (zab (Ql) (Qcw))) (zam 1))
 (zbd (zll (QaE) (zam 2)
 (zbO (zaz znw [] E0 (Qbv)) (zam 1)))
 (zbU (zac 1))))
theorem zuj{l:Addr}{us:List Addr}{qs:List Rat}(hl:H l=some (Qbi))(T:Tps fr H us qs)(bs:∀i:Nat,Bq 2900 (qs.take i).sum)(bq:∀q∈qs,Bq 2900 q)(q:∀(r:Addr) (H':Hp),zaI H H'→H' r=some (.tup (fr qs.sum))→Q (Q0) H') :
  zoC K { nx:=λ_ H'=>Q .non H',rt:=Q } (L2.start ["fractions","total","fraction"] [.ref l]) H:=by
 unfold zoC
 simp_all only [zac]
 refine⟨by decide,λr0 n0=>?_⟩
 have s0:=zan n0 (.tup [.int 0,.int 1])
 have h0:(L2.upd H r0 (.tup [.int 0,.int 1])) r0=some (.tup [.int 0,.int 1]):=zai
 generalize L2.upd H r0 (.tup [.int 0,.int 1])=H0 at s0 h0 ⊢
 refine⟨⟨_,SqL.of (s0 _ _ hl)⟩,?_⟩
 refine zc3 (K:=K) (xs:=us.map V.ref) (λi σ H'=>zaI H0 H'∧∃(r:Addr) (x:Option V),H' r=some (.tup (fr ((qs.take i).sum)))∧σ=[some (Qa5),some (Q0),x]) ⟨.refl _,r0,_,h0,rfl⟩ ?_ ?_ ?_
 ·rintro i σ H' _ ⟨s,_⟩
  exact SqL.of (s _ _ (s0 _ _ hl))
 ·rintro i v σ H1 hx ⟨s1,r,x,hr,rfl⟩
  obtain⟨t,et,rfl⟩:=zat hx
  obtain⟨f,ef,hf⟩:=T.at et
  simp_all only [zac]
  refine⟨r,t,_,f,rfl,hr,s1 _ _ (s0 _ _ hf),bs i,bq f (zap ef),λr2 H2 s2 h2=>?_⟩
  have e:(qs.take (i+1)).sum=(qs.take i).sum+f:=by
   rw[ψx,ef,List.sum_append]
   show _+(f+0)=_
   rw[Rat.add_zero]
  exact⟨s1.trans s2,r2,by rw[e];exact h2,rfl⟩
 ·rintro σ H1 ⟨s1,r,x,hr,rfl⟩
  simp_all only [zac]
  rw[ψb,T.1,ψH] at hr
  exact q r H1 (s0.trans s1) hr
theorem ziS:zaB ["fractions","total","fraction"] ["fractions"] (zag znV):=⟨rfl,rfl,rfl,by decide +kernel,rfl,by decide +kernel,by decide +kernel⟩
theorem zuW(T:Txt K mg a):zcn P w K mg base CX0 4 a.f_added a.d_added ["fractions"] znZ:=by
 have G_plus:=zse (P:=P) (w:=w) (base:=base) T
 refine T.F_added.ok ziS (Qj) (Qd)
 ·obtain⟨l,us,qs,rfl,hl,T',bs,bq,q⟩:=h
  rfl
 obtain⟨l,us,qs,rfl,hl,T',bs,bq,q⟩:=h
 exact⟨zoC K,(zaf (zaN (i:=1) ziS.nd rfl (Qf) (zbE (QbD)))
 (zaf (zdJ PassesOwn.never rfl (Qbk) (zak (i:=2) ziS.nd rfl (Qf))
 (zaj (zaN (i:=1) ziS.nd rfl (Qf) (zah G_plus (Qa) rfl T.m_plus T.F_plus.kp T.b_plus .nil zax (QbI)))))
 (zaj (zar (pv 1))))),
  zuj hl T' bs bq q⟩
def zps:Sp:=λvs H Q _=>∃(l:Addr) (us:List Addr) (qs:List Rat),vs=[.ref l]∧H l=some (Qbi)∧Tps fr H us qs∧1≤qs.length∧(∀q∈qs,Bq 6000 q)∧∀(r:Addr) (m:Rat),H r=some (.tup (fr m))→m∈qs→(∀q∈qs,m≤q)→Q (Q0) H
def zeY(K:ψa):TS :=
 (zbd (zbO (Qb7) (zam 1))
 (zbd (zll (QaE) (zam 2)
 (zdQ (tB (zaz zl1 [] E0 (zab (zac 2) (QD)))) (zbO (zac 2) (zam 1)) zb1))
 (zbU (zac 1))))
theorem zjm{l:Addr}{us:List Addr}{qs:List Rat}(hl:H l=some (Qbi))(T:Tps fr H us qs)(l1:1≤qs.length)(bq:∀q∈qs,Bq 6000 q)(q:∀(r:Addr) (m:Rat),H r=some (.tup (fr m))→m∈qs→(∀q∈qs,m≤q)→Q (Q0) H) :
  zeY K { nx:=λ_ H'=>Q .non H',rt:=Q } (L2.start ["chances","least","one"] [.ref l]) H:=by
 unfold zeY
 simp_all only [zac]
 have hL:=SqL.of (K:=K) hl
 have lu:=T.1
 have e0:us[0]?=some us[0]:=ψc (Qe)
 obtain⟨f0,ef0,hf0⟩:=T.at e0
 refine⟨_,hL,_,zdj (j:=0) (show(QI)[0]?=some (V.ref us[0]) by rw[ψt,e0];rfl),⟨_,hL⟩,?_⟩
 refine zc3 (K:=K) (xs:=us.map V.ref) (λi σ H'=>H'=H∧∃(r:Addr) (m:Rat) (x:Option V),H r=some (.tup (fr m))∧m∈qs∧(∀q∈qs.take i,m≤q)∧σ=[some (Qa5),some (Q0),x]) ⟨rfl,us[0],f0,_,hf0,zap ef0,by simp,rfl⟩ ?_ ?_ ?_
 ·rintro i σ H' _ ⟨rfl,_⟩
  exact hL
 ·rintro i v σ H1 hx ⟨rfl,r,m,x,hr,hm,hall,rfl⟩
  obtain⟨t,et,rfl⟩:=zat hx
  obtain⟨f,ef,hf⟩:=T.at et
  simp_all only [zac]
  refine⟨t,r,f,m,rfl,hf,hr,bq f (zap ef),bq m hm,?_⟩
  have tk:∀y,y∈qs.take (i+1)→y∈qs.take i∨y=f:=λy hy=>by
   rw[ψx,ef] at hy
   exact(List.mem_append.mp hy).imp id λz=>List.mem_singleton.mp z
  refine⟨_,rfl,?_⟩
  by_cases c:f<m
  ·rw[if_pos (decide_eq_true c)]
   refine⟨rfl,t,f,hf,zap ef,λy hy=>?_,rfl⟩
   rcases tk y hy with z | rfl
   ·exact Rat.le_trans (ψC c) (hall y z)
   ·exact ψD1
  ·rw[if_neg (Qa4)]
   refine⟨rfl,r,m,hr,hm,λy hy=>?_,rfl⟩
   rcases tk y hy with z | rfl
   ·exact hall y z
   ·exact Rat.not_lt.mp c
 ·rintro σ H1 ⟨rfl,r,m,x,hr,hm,hall,rfl⟩
  simp_all only [zac]
  rw[ψb,T.1,ψH] at hall
  exact q r m hr hm hall
theorem zdq:zaB ["chances","least","one"] ["chances"] (zag zeT):=⟨rfl,rfl,rfl,by decide +kernel,rfl,by decide +kernel,by decide +kernel⟩
theorem zjH(T:Txt K mg a):zcn P w K mg base CX0 2 a.f_least_chance a.d_least_chance ["chances"] zps:=by
 have G_below:=zo8 (P:=P) (w:=w) (base:=base) T
 refine T.F_least_chance.ok zdq (Qj) (Qd)
 ·obtain⟨l,us,qs,rfl,hl,T',l1,bq,q⟩:=h
  rfl
 obtain⟨l,us,qs,rfl,hl,T',l1,bq,q⟩:=h
 exact⟨zeY K,(zaf (zaN (i:=1) zdq.nd rfl (Qf) (QaZ))
 (zaf (zdJ PassesOwn.never rfl (Qbk) (zak (i:=2) zdq.nd rfl (Qf))
 (zaj (zbP (zbt (zah G_below (Qa) rfl T.m_below T.F_below.kp T.b_below .nil zax (zaa (pv 2) (QG)))) (zaj (zaN (i:=1) zdq.nd rfl (Qf) (pv 2))) zaR)))
 (zaj (zar (pv 1))))),
  zjm hl T' l1 bq q⟩
def pr(b:Box):Rat:=ψy b.2.1 b.2.2
theorem powI(a:Int):∀n:Nat,((a ^ n:Int):Rat)=(a:Rat) ^ n
 | 0=>by rw[Int.pow_zero,ψq1];rfl
 | n+1=>by rw[Int.pow_succ,ψe1,ψj,powI a n]
theorem powD(a b:Rat)(hb:b≠0):∀n:Nat,(a / b) ^ n=a ^ n / b ^ n
 | 0=>by rw[ψq1,ψq1,ψq1];grind
 | n+1=>by
  rw[ψe1,ψe1,ψe1,powD a b hb n]
  grind
theorem znN{b:Rat}(hb:b≠0):∀n:Nat,b ^ n≠0
 | 0=>by rw[ψq1];decide
 | n+1=>by
  rw[ψe1]
  have:=znN hb n
  grind
theorem zkh{b:Box}(g:GB b):0<pr b∧pr b≤1∧∀n:Nat,(((b.2.2 - b.2.1) ^ n:Int):Rat) / ((b.2.2 ^ n:Int):Rat)=(1 - pr b) ^ n:=by
 obtain⟨g1,g2,g3,g4,g5⟩:=g
 have o0:(0:Rat)<(b.2.2:Rat):=by exact_mod_cast (show(0:Int)<b.2.2 by omega)
 have h0:(0:Rat)<(b.2.1:Rat):=by exact_mod_cast (show(0:Int)<b.2.1 by omega)
 have ho:(b.2.1:Rat)≤(b.2.2:Rat):=by exact_mod_cast g4
 have on:(b.2.2:Rat)≠0:=by grind
 have e:pr b=(b.2.1:Rat) / (b.2.2:Rat):=ψn ..
 refine⟨?_,?_,λn=>?_⟩
 ·rw[e]
  rw[Rat.div_def]
  exact ψw1 h0 (Rat.inv_pos.mpr o0)
 ·rw[e]
  have i0:=Rat.inv_pos.mpr o0
  have m:=ψA ho (ψC i0)
  rw[Rat.mul_inv_cancel _ on] at m
  rw[Rat.div_def]
  exact m
 ·rw[powI,powI,← powD _ _ on,e,ψY]
  congr 1
  grind
theorem zff{b:Box}(g:GB b)(n:Int):chq b n=1 - (1 - pr b) ^ n.toNat:=by
 have h:=(zkh g).2.2 n.toNat
 have on:((b.2.2 ^ n.toNat:Int):Rat)≠0:=by
  have:=zdn g n
  intro z
  have:(b.2.2 ^ n.toNat:Int)=0:=by exact_mod_cast z
  omega
 unfold chq
 rw[ψn,ψY,← h]
 grind
theorem zfL{b:Box}(g:GB b)(n:Int):gnq b n=(1 - pr b) ^ n.toNat*pr b:=by
 have h:=(zkh g).2.2 n.toNat
 unfold gnq pr
 rw[ψn,ψn,ψj,ψj]
 unfold pr at h
 rw[ψn] at h
 rw[← h]
 grind
theorem zf6{α:Type}{f:α→List V}{p q D:Addr}{xs zs:List V}{te:TE}{rest:St}{x0 y0:Option V}{qs:List α}(hp:H p=some (.lst xs))(hq:H q=some (.lst zs))(lq:qs.length=min xs.length zs.length)(l6:qs.length≤1000)(hD:H D=none)
  (st:∀(i:Nat) (x z:V) (w:α) (H':Hp) (R:VK),xs[i]?=some x→zs[i]?=some z→qs[i]?=some w→zaI H H'→(∀(r:Addr) (H2:Hp),zaI H' H2→H2 r=some (.tup (f w))→R (Q0) H2)→te (some x::some z::rest) H' R)
  (hd:∀(us:List Addr) (H':Hp),zaI H H'→H' D=some (Qbi)→Tps f H' us qs→Q (.ref D) H') :
  zge (Itz K p q) (Qk) za5 te D Q (x0::y0::rest) (upd H D (.lst [])):=by
 refine zhC (K:=K) (xs:=xs) (zs:=zs) (λi ys σ H'=>zaI H H'∧(∃us:List Addr,ys=us.map V.ref∧Tps f H' us (qs.take i))∧∃x y,σ=x::y::rest) ⟨zan hD _,⟨[],rfl,Tps.nil⟩,_,_,rfl⟩ ?_ ?_ ?_
 ·rintro i ys σ H' _ ⟨s,_⟩
  exact⟨SqL.of (s _ _ hp),SqL.of (s _ _ hq)⟩
 ·rintro i x z t ys σ H' hx hz hD' ⟨s,⟨us,rfl,T⟩,u,v,rfl⟩ ht
  have i1:=(Qa7).1
  have i2:=(List.getElem?_eq_some_iff.mp hz).1
  have hw:qs[i]?=some (qs[i]'(by omega)):=ψc (Qe)
  have s1:=zan ht (.tup [x,z])
  refine⟨t,_,rfl,SqT.of zai,rfl,_,_,rfl,_,_,rfl,rfl,?_⟩
  refine st i x z _ _ _ hx hz hw (s.trans s1) λr H2 s2 h2=>?_
  have s3:=s1.trans s2
  have hD2:=s3 _ _ hD'
  have rD:r≠D:=λe=>by
   subst e
   rw[h2] at hD2
   cases hD2
  have lu:us.length≤1000:=by
   have e:=T.1
   rw[ψG] at e
   omega
  refine⟨D,_,_,rfl,rfl,hD2,zbF (by rw[ψb];exact lu),_,zai,(s.trans s3).put hD,⟨us++[r],by rw[ψO];rfl,?_⟩,_,_,rfl⟩
  rw[ψx,hw]
  refine T.put (λy w e=>?_) (by rw[zbg rD];exact h2)
  have nx:y≠D:=λz=>by
   subst z
   rw[e] at hD'
   cases hD'
  rw[zbg nx]
  exact s3 _ _ e
 ·rintro ys σ H' hD' ⟨s,⟨us,rfl,T⟩,u,v,rfl⟩
  rw[← lq,ψH] at T
  exact hd us H' s hD' T
theorem zfn{p q D:Addr}{xs zs:List V}{te:TE}{rest:St}{x0 y0:Option V}{vs:List V}(hp:H p=some (.lst xs))(hq:H q=some (.lst zs))(lq:vs.length=min xs.length zs.length)(l6:vs.length≤1000)(hD:H D=none)
  (st:∀(i:Nat) (x z v:V) (H':Hp) (R:VK),xs[i]?=some x→zs[i]?=some z→vs[i]?=some v→zaI H H'→(∀H2:Hp,zaI H' H2→R v H2)→te (some x::some z::rest) H' R)
  (hd:∀H':Hp,zaI H H'→H' D=some (.lst vs)→Q (.ref D) H') :
  zge (Itz K p q) (Qk) za5 te D Q (x0::y0::rest) (upd H D (.lst [])):=by
 refine zhC (K:=K) (xs:=xs) (zs:=zs) (λi ys σ H'=>zaI H H'∧ys=vs.take i∧∃x y,σ=x::y::rest) ⟨zan hD _,rfl,_,_,rfl⟩ ?_ ?_ ?_
 ·rintro i ys σ H' _ ⟨s,_⟩
  exact⟨SqL.of (s _ _ hp),SqL.of (s _ _ hq)⟩
 ·rintro i x z t ys σ H' hx hz hD' ⟨s,rfl,u,v,rfl⟩ ht
  have i1:=(Qa7).1
  have i2:=(List.getElem?_eq_some_iff.mp hz).1
  have hw:vs[i]?=some (vs[i]'(by omega)):=ψc (Qe)
  have s1:=zan ht (.tup [x,z])
  refine⟨t,_,rfl,SqT.of zai,rfl,_,_,rfl,_,_,rfl,rfl,?_⟩
  refine st i x z _ _ _ hx hz hw (s.trans s1) λH2 s2=>?_
  refine⟨D,_,_,rfl,rfl,s2 _ _ (s1 _ _ hD'),zbF (by rw[ψG];omega),_,zai,(s.trans (QaD)).put hD,?_,_,_,rfl⟩
  rw[ψx,hw]
  rfl
 ·rintro ys σ H' hD' ⟨s,rfl,u,v,rfl⟩
  rw[← lq,ψH] at hD'
  exact hd H' s hD'
theorem zcx{p D:Addr}{xs:List V}{te:TE}{rest:St}{x0:Option V}{vs:List V}(hp:H p=some (.lst xs))(lq:vs.length=xs.length)(l6:vs.length≤1000)(hD:H D=none)
  (st:∀(i:Nat) (x v:V) (H':Hp) (R:VK),xs[i]?=some x→vs[i]?=some v→zaI H H'→(∀H2:Hp,zaI H' H2→R v H2)→te (some x::rest) H' R)
  (hd:∀H':Hp,zaI H H'→H' D=some (.lst vs)→Q (.ref D) H') :
  zge (Itl K p) (zam 0) za5 te D Q (x0::rest) (upd H D (.lst [])):=by
 refine zcT (K:=K) (xs:=xs) (λi ys σ H'=>zaI H H'∧ys=vs.take i∧∃x,σ=x::rest) ⟨zan hD _,rfl,_,rfl⟩ ?_ ?_ ?_
 ·rintro i ys σ H' _ ⟨s,_⟩
  exact SqL.of (s _ _ hp)
 ·rintro i x ys σ H' hx hD' ⟨s,rfl,u,rfl⟩
  have i1:=(Qa7).1
  have hw:vs[i]?=some (vs[i]'(by omega)):=ψc (Qe)
  refine st i x _ _ _ hx hw s λH2 s2=>?_
  refine⟨D,_,_,rfl,rfl,s2 _ _ hD',zbF (by rw[ψG];omega),_,zai,(s.trans s2).put hD,?_,_,rfl⟩
  rw[ψx,hw]
  rfl
 ·rintro ys σ H' hD' ⟨s,rfl,u,rfl⟩
  rw[← lq,ψH] at hD'
  exact hd H' s hD'
def wq(b:Box)(n:Int):Rat:=(b.1:Rat) / gnq b n
def wqs(bs:List Box)(ns:List Int):List Rat:=ψe wq bs ns
def Gn(bs:List Box)(ns:List Int):Prop:=∀(i:Nat) b n,bs[i]?=some b→ns[i]?=some n→gnq b n≠0
theorem zsq{b:Box}(g:GB b){n:Int}(n1:n≤60):Bq 410 (gnq b n):=by
 have bo:=zgL g n1
 have bt:Bd 400 ((b.2.2 - b.2.1) ^ n.toNat):=zeO (by obtain⟨g1,g2,g3,g4,g5⟩:=g;omega) (by obtain⟨g1,g2,g3,g4,g5⟩:=g;omega) (Qe)
 have o0:=zdn g n
 obtain⟨g1,g2,g3,g4,g5⟩:=g
 have h1:Bd 10 b.2.1:=by show b.2.1.natAbs<2 ^ 10;omega
 have h2:Bd 10 b.2.2:=by show b.2.2.natAbs<2 ^ 10;omega
 exact zb8 (ψS (Qe) (Qe)) (bt.mul h1) (bo.mul h2)
def zrI:Sp:=λvs H Q _=>∃(l pl:Addr) (ts:List Addr) (bs:List Box) (ns:List Int),vs=[.ref l,.ref pl]∧BP H l pl ts bs ns∧Gn bs ns∧∀(r:Addr) (us:List Addr) (H':Hp),zaI H H'→H' r=some (Qbi)→Tps fr H' us (Qaz)→Q (Q0) H'
def zeU(K:ψa):TS :=
 (zbU (zb3 (zmf K (Q7)) (Qk) za5 (zaz zkZ [] E0 (zab (zeG (zab (QK) (Qcw))) (zab (zaz zoy [] E0 (Q7)) zau))) [none,none]))
theorem zjs{l pl:Addr}{ts:List Addr}{bs:List Box}{ns:List Int}(B:BP H l pl ts bs ns)(G:Gn bs ns)(q:∀(r:Addr) (us:List Addr) (H':Hp),zaI H H'→H' r=some (Qbi)→Tps fr H' us (Qaz)→Q (Q0) H') :
  zeU K { nx:=λ_ H'=>Q .non H',rt:=Q } (L2.start ["boxes","counts"] [.ref l,.ref pl]) H:=by
 unfold zeU
 simp_all only [zac]
 refine(Qbh)
 refine zhC (K:=K) (xs:=ts.map V.ref) (zs:=ns.map V.int) (λi ys σ H'=>zaI H H'∧(∃us:List Addr,ys=us.map V.ref∧Tps fr H' us ((Qaz).take i)∧∀u∈us,u≠D)∧∃x y,σ=[x,y]) ⟨zan hD _,⟨[],rfl,Tps.nil,by simp⟩,_,_,rfl⟩ ?_ ?_ ?_
 ·rintro i ys σ H' _ ⟨s,_⟩
  exact⟨SqL.of (s _ _ B.hl),SqL.of (s _ _ B.hp)⟩
 ·rintro i x z t ys σ H' hx hz hD' ⟨s,⟨us,rfl,T,nu⟩,u,v,rfl⟩ ht
  obtain⟨a,ha,rfl⟩:=zat hx
  obtain⟨n,hn,rfl⟩:=zat hz
  obtain⟨b,hb1,hb2⟩:=B.hb.at ha
  obtain⟨n0,n1⟩:=B.gn n (zap hn)
  have g:=B.gb b (zap hb1)
  have hb3:=s _ _ hb2
  simp_all only [zac]
  refine⟨_,SqT.of zai,rfl,_,_,rfl,_,_,rfl,rfl,?_⟩
  simp_all only [zac]
  have s1:=zan ht (.tup [V.ref a,V.int n])
  have h1:(L2.upd H' t (.tup [V.ref a,V.int n])) t=some (.tup [V.ref a,V.int n]):=zai
  generalize L2.upd H' t (.tup [V.ref a,V.int n])=H1 at s1 h1 ⊢
  refine⟨_,SqT.of (s1 _ _ hb3),_,rfl,by decide,λp np=>?_⟩
  have s2:=zan np (.tup [V.int b.1,V.int 1])
  have h2:(L2.upd H1 p (.tup [V.int b.1,V.int 1])) p=some (.tup [V.int b.1,V.int 1]):=zai
  generalize L2.upd H1 p (.tup [V.int b.1,V.int 1])=H2 at s2 h2 ⊢
  have hb4:=s2 _ _ (s1 _ _ hb3)
  refine⟨a,b,n,rfl,hb4,g,n0,n1,λr H3 s3 h3=>?_⟩
  have b1:Bq 2900 (b.1:Rat):=⟨by show b.1.natAbs<2 ^ 2900;exact ψp (by have:=g.1;have:=g.2.1;omega:b.1.natAbs<2 ^ 6) (Nat.pow_le_pow_right (Qn) (Qn)),by show(1:Nat)<2 ^ 2900;exact Nat.one_lt_two_pow (Qn)⟩
  refine⟨p,r,(b.1:Rat),gnq b n,rfl,s3 _ _ h2,h3,G i b n hb1 hn,b1,(zsq g n1).mono (Qn),λy H4 s4 h4=>?_⟩
  have s14:=s1.trans (s2.trans (s3.trans s4))
  have hD4:=s14 _ _ hD'
  have yD:y≠D:=λz=>by
   subst z
   rw[h4] at hD4
   cases hD4
  have lu:us.length≤6:=by
   have:=B.l6
   have e:=T.1
   rw[ψG,wqs,ψo] at e
   omega
  refine⟨_,hD4,zbF (by rw[ψb];omega),_,zai,(s.trans s14).put hD,us++[y],by rw[ψO];rfl,?_,λu hu=>?_⟩
  ·rw[wqs,zhD _ _ _ hb1 hn]
   refine T.put (λx w e=>?_) (by rw[zbg yD];exact h4)
   have nx:x≠D:=λz=>by
    subst z
    rw[e] at hD'
    cases hD'
   rw[zbg nx]
   exact s14 _ _ e
  ·rcases List.mem_append.mp hu with hu | hu
   ·exact nu u hu
   ·rw[List.mem_singleton.mp hu]
    exact yD
 ·rintro ys σ H' hD' ⟨s,⟨us,rfl,T,nu⟩,u,v,rfl⟩
  rw[ψb,ψb,B.hb.1,wqs,zsP] at T
  exact q D us H' s hD' T
theorem zjx:zaB ["boxes","counts"] ["boxes","counts"] (zag zdE):=⟨rfl,rfl,rfl,by decide +kernel,rfl,by decide +kernel,by decide +kernel⟩
theorem zf9(T:Txt K mg a):zcn P w K mg base CX0 4 a.f_fair_weights a.d_fair_weights ["boxes","counts"] zrI:=by
 have G_gain:=zqZ (P:=P) (w:=w) (base:=base) T
 have G_over:=zou (P:=P) (w:=w) (base:=base) T
 refine T.F_fair_weights.ok zjx (Qj) (Qd)
 ·obtain⟨l,pl,ts,bs,ns,rfl,B,G,q⟩:=h
  rfl
 obtain⟨l,pl,ts,bs,ns,rfl,B,G,q⟩:=h
 exact⟨zeU K,(zaj (zar (zbi (sc:=zag zdE) (N:=["boxes","counts"]) (Nc:=["box","count"]) (cap:=[none,none]) rfl rfl rfl (Qi) (zeC rfl T.z_zip (Qac)) (Qq) (QF) (λ_ _ _ _=>(zah G_over (Qa) rfl T.m_over T.F_over.kp T.b_over .nil zax (zaa (zbE (zaa (Qg) (QaB))) (zaa (zah G_gain (Qa) rfl T.m_gain T.F_gain.kp T.b_gain .nil zax (Qac)) zad))))))),
  zjs B G q⟩
theorem Bq.mul2{m n:Nat}{p q:Rat}(hp:Bq m p)(hq:Bq n q):Bq (m+n) (p*q):=by
 rw[← zsU]
 exact zb8 (ψS (zcC p) (zcC q)) (hp.top.mul hq.top) (hp.bot.mul hq.bot)
theorem zif{b:Int}(h0:0≤b)(h1:b≤50)(n:Nat):Bd (6*n+1) (b ^ n):=by
 obtain⟨z1,z2⟩:=zpc h0 h1 n
 have z3:(50:Nat) ^ n≤64 ^ n:=Nat.pow_le_pow_left (Qn) n
 have z4:(64:Nat) ^ n=2 ^ (6*n):=by rw[Nat.pow_mul]
 have z5:((50 ^ n:Nat):Int)=(50:Int) ^ n:=by exact_mod_cast rfl
 have z6:(2:Nat) ^ (6*n+1)=2 ^ (6*n)*2:=Nat.pow_succ ..
 have z7:0<(2:Nat) ^ (6*n):=Nat.pow_pos (Qn)
 show(b ^ n).natAbs<2 ^ (6*n+1)
 omega
theorem zo2{b:Box}(g:GB b)(n:Int):Bq (6*n.toNat+2) (chq b n):=by
 have o0:=zdn g n
 obtain⟨g1,g2,g3,g4,g5⟩:=g
 exact zb8 (Qe) ((zif (Qe) g5 _).sub (zif (Qe) (Qe) _)) ((zif (Qe) g5 _).mono (Qe))
theorem zqJ{b:Box}(g:GB b)(n:Int):Bq (6*n.toNat+7) (gnq b n):=by
 have o0:=zdn g n
 obtain⟨g1,g2,g3,g4,g5⟩:=g
 have h1:Bd 6 b.2.1:=by show b.2.1.natAbs<2 ^ 6;omega
 have h2:Bd 6 b.2.2:=by show b.2.2.natAbs<2 ^ 6;omega
 exact zb8 (ψS (Qe) (Qe)) (((zif (Qe) (Qe) _).mul h1).mono (Qe)) (((zif (Qe) g5 _).mul h2).mono (Qe))
theorem zng{b:Box}(g:GB b){n:Int}(gn:gnq b n≠0):Bq (6*n.toNat+14) (wq b n):=by
 have hb:=zqJ g n
 unfold wq
 rw[← zlG]
 have c:Bd 7 b.1:=by have:=g.1;have:=g.2.1;show b.1.natAbs<2 ^ 7;omega
 exact zb8 (ψS (by show(1:Int)≠0;decide) (zoS gn)) ((c.mul hb.bot).mono (Qe)) (((show Bd 1 (1:Int) from by show(1:Nat)<2 ^ 1;decide).mul hb.top).mono (Qe))
theorem zkK{j k:Nat}{f:Box×Int→Rat}:∀xs:List (Box×Int),(∀x∈xs,Bq (j*x.2.toNat+k) (f x))→Bq (j*(xs.map λx=>x.2.toNat).sum+(k+1)*xs.length+1) (xs.map f).sum
 | [],_=>⟨by show(0:Nat)<2 ^ _;exact Nat.pow_pos (Qn),by show(1:Nat)<2 ^ _;exact Nat.one_lt_two_pow (Qe)⟩
 | x::xs,h=>by
  have ih:=zkK xs λy hy=>h y (ψd _ hy)
  rw[ψu,ψk,ψu,ψk,ψM,Nat.mul_add,Nat.mul_add]
  exact((h x ψf).add2 ih).mono (Qe)
theorem zhV:∀(bs:List Box) (ns:List Int),(Qav)→(∀n∈ns,0≤n)→((((Qay).map λx=>x.2.toNat).sum:Nat):Int)≤(zaF bs ns).sum
 | [],_,_,_=>by simp[zaF]
 | _::_,[],_,_=>by simp[zaF]
 | b::bs,n::ns,gb,n0=>by
  have ih:=zhV bs ns (QaL) (λx hx=>n0 x (Qbr))
  obtain⟨g1,_⟩:=gb b ψf
  have hn:=n0 n ψf
  have m1:1*n≤b.1*n:=Int.mul_le_mul_of_nonneg_right g1 hn
  rw[Int.one_mul] at m1
  rw[ψP1,ψu,ψk]
  show((n.toNat+_:Nat):Int)≤b.1*n+(zaF bs ns).sum
  omega
theorem Bq.div2{m n:Nat}{p q:Rat}(hp:Bq m p)(hq:Bq n q)(q0:q≠0):Bq (m+n) (p / q):=by
 rw[← zlG]
 exact zb8 (ψS (zcC p) (zoS q0)) (hp.top.mul hq.bot) (hp.bot.mul hq.top)
theorem Bq.sub2{m n:Nat}{p q:Rat}(hp:Bq m p)(hq:Bq n q):Bq (m+n+1) (p - q):=by
 rw[← ztw]
 have h:Bd (m+n) (q.num*(p.den:Int)):=by rw[Nat.add_comm m n];exact hq.top.mul hp.bot
 exact zb8 (ψS (zcC p) (zcC q)) ((hp.top.mul hq.bot).sub h) ((hp.bot.mul hq.bot).mono (Nat.le_succ _))
theorem zg9{α β γ:Type}{f:α→β→γ}{as:List α}{bs:List β}(P:γ→Prop)(h:∀(i:Nat) a b,as[i]?=some a→bs[i]?=some b→P (f a b)):∀x∈ψe f as bs,P x:=λx hx=>by
 obtain⟨i,ei⟩:=ψq hx
 rw[ψX] at ei
 cases e1:as[i]? with
 | none=>rw[e1] at ei;cases ei
 | some a =>
  cases e2:bs[i]? with
  | none=>rw[e1,e2] at ei;cases ei
  | some b =>
   rw[e1,e2] at ei
   cases ei
   exact h i a b e1 e2
theorem ziO{α β γ:Type}{f:α→β→γ}{as:List α}{bs:List β}{i:Nat}{a:α}{b:β}{c:γ}(e1:as[i]?=some a)(e2:bs[i]?=some b)(e3:(ψe f as bs)[i]?=some c):c=f a b:=by
 rw[ψX,e1,e2] at e3
 exact(Option.some.inj e3).symm
theorem zr6:∀(l:List Nat) (i:Nat),(l.take i).sum≤l.sum
 | [],i=>by simp
 | x::l,0=>by simp
 | x::l,i+1=>by
  have:=zr6 l i
  rw[List.take_succ_cons,ψk,ψk]
  omega
theorem zm0{j k:Nat}{f:Box×Int→Rat}(xs:List (Box×Int))(h:∀x∈xs,Bq (j*x.2.toNat+k) (f x))(i:Nat):Bq (j*(xs.map λx=>x.2.toNat).sum+(k+1)*xs.length+1) ((xs.map f).take i).sum:=by
 have b:=zkK (j:=j) (k:=k) (f:=f) (xs.take i) λx hx=>h x (ψb1 hx)
 rw[← List.map_take]
 have t:=zr6 (xs.map λx=>x.2.toNat) i
 rw[← List.map_take] at t
 have l:=List.length_take_le i xs
 exact b.mono (Nat.add_le_add_right (Nat.add_le_add (Nat.mul_le_mul_left j t) (Nat.mul_le_mul_left (k+1) (by rw[ψG];omega))) 1)
theorem zzW{b:Box}(g:GB b){n:Int}(n1:n≤60)(gn:gnq b n≠0):Bq 420 (wq b n):=by
 have hb:=zsq g n1
 unfold wq
 rw[← zlG]
 have c:Bd 7 b.1:=by have:=g.1;have:=g.2.1;show b.1.natAbs<2 ^ 7;omega
 exact zb8 (ψS (by show(1:Int)≠0;decide) (zoS gn)) ((c.mul hb.bot).mono (Qn)) (((show Bd 1 (1:Int) from by show(1:Nat)<2 ^ 1;decide).mul hb.top).mono (Qn))
theorem zvR{b:Box}(g:GB b){n:Int}(n1:n≤60):Bq 401 (chq b n):=by
 have bo:=zgL g n1
 have bt:Bd 400 ((b.2.2 - b.2.1) ^ n.toNat):=zeO (by obtain⟨g1,g2,g3,g4,g5⟩:=g;omega) (by obtain⟨g1,g2,g3,g4,g5⟩:=g;omega) (Qe)
 have o0:=zdn g n
 exact zb8 (Qe) (bo.sub bt) (bo.mono (Qn))
theorem zi0:∀(bs:List Box) (ns:List Int),(Qav)→(∀n∈ns,0≤n∧n≤60)→0≤(zaF bs ns).sum∧(QbK).sum≤3600*bs.length
 | [],ns,_,_=>by simp[zaF]
 | b::bs,[],_,_=>by simp[zaF];omega
 | b::bs,n::ns,h1,h2=>by
  obtain⟨z1,z2⟩:=zi0 bs ns (λx hx=>h1 x (Qbr)) (λx hx=>h2 x (Qbr))
  obtain⟨g1,g2,_⟩:=h1 b ψf
  obtain⟨n0,n1⟩:=h2 n ψf
  have m1:0≤b.1*n:=ψY1 (Qe) n0
  have m2:b.1*n≤60*60:=Int.mul_le_mul g2 n1 n0 (Qn)
  show 0≤b.1*n+(zaF bs ns).sum∧b.1*n+(zaF bs ns).sum≤3600*((bs.length+1:Nat):Int)
  omega
def ziI(bs:List Box)(ns:List Int):List Rat:=ψe (λx y:Rat=>x*y) (Qaz) (zk0 bs ns)
theorem zg0{α β γ:Type}(f:α→β→γ):∀(as:List α) (bs:List β),ψe f as bs=(ψl as bs).map λx=>f x.1 x.2
 | [],_=>by simp
 | _::_,[]=>by simp
 | a::as,b::bs=>by
  rw[ψJ,ψP1,ψu,zg0 f as bs]
theorem zjV(bs:List Box)(ns:List Int):ziI bs ns=(ψl bs ns).map λx=>wq x.1 x.2*chq x.1 x.2:=by
 unfold ziI wqs zk0
 rw[zg0 wq,zg0 chq,List.zipWith_map_left,List.zipWith_map_right]
 generalize ψl bs ns=l
 induction l with
 | nil=>rfl
 | cons x l ih=>rw[ψJ,ψu,ih]
def ze8(bs:List Box)(ns:List Int)(bud:Int):Rat:=((ziI bs ns).sum+((bud - (zaF bs ns).sum:Int):Rat)) / (wqs bs ns).sum
def zjo:Sp:=λvs H Q _=>∃(l pl:Addr) (ts:List Addr) (bs:List Box) (ns:List Int) (bud:Int),vs=[.ref l,.int bud,.ref pl]∧BP H l pl ts bs ns∧(QbK).sum≤60∧Gn bs ns∧0≤bud∧bud≤60∧(Qaz).sum≠0∧∀(r:Addr) (H':Hp),zaI H H'→H' r=some (Qch)→Q (Q0) H'
def zgc(K:ψa):TS :=
 (zbd (zbO (zaz zrI [] E0 (Qcq)) (zam 3))
 (zbd (zbO (zb3 (zmf K (Qcq)) (Qk) za5 (zaz zjb [] E0 (Q7)) [none,none]) (zam 4))
 (zbd (zbO (zaz znZ [] E0 (zab (zb3 (zmf K (zab (zac 3) (QaQ))) (Qk) za5 (zaz zmu [] E0 (Q7)) [none,none]) zau)) (zam 5))
 (zbd (zbO (tOp (QJ) (zac 1) (zaz zpH [] E0 (Qcq))) (zam 6))
 (zbU (zaz zkZ [] E0 (zab (zaz znw [] E0 (zab (zac 5) (zab (zeG (zab (zac 6) (Qcw))) zau))) (zab (zaz znZ [] E0 (QO)) zau))))))))
theorem zlo{l pl:Addr}{ts:List Addr}{bs:List Box}{ns:List Int}{bud:Int}(B:BP H l pl ts bs ns)(cs:(QbK).sum≤60)(G:Gn bs ns)(d0:0≤bud)(d1:bud≤60)(ws:(Qaz).sum≠0)(q:∀(r:Addr) (H':Hp),zaI H H'→H' r=some (Qch)→Q (Q0) H') :
  zgc K { nx:=λ_ H'=>Q .non H',rt:=Q } (L2.start ["boxes","budget","counts","weights","chances","found","spare"] [.ref l,.int bud,.ref pl]) H:=by
 unfold zgc
 simp_all only [zac]
 refine⟨l,pl,ts,bs,ns,rfl,B,G,λwl us H1 s1 hw TW=>?_⟩
 have B1:=B.same s1
 simp_all only [zac]
 refine⟨⟨_,SqL.of B1.hl⟩,⟨_,SqL.of B1.hp⟩,λD hD=>?_⟩
 have l6:=B.l6
 have len:=B.len
 have lC:(zk0 bs ns).length=bs.length:=by rw[zk0,ψo,len];omega
 have lW:(Qaz).length=bs.length:=by rw[wqs,ψo,len];omega
 have lP:(ziI bs ns).length=bs.length:=by rw[ziI,ψo,lW,lC];omega
 refine zf6 (f:=fr) (qs:=zk0 bs ns) B1.hl B1.hp (by rw[lC,ψb,ψb,B.hb.1,len];omega) (Qe) hD (Qck) λvs H' s hD' T=>?_
 ·obtain⟨a,ha,rfl⟩:=zat hx
  obtain⟨n,hn,rfl⟩:=zat hz
  obtain⟨b,hb1,hb2⟩:=B1.hb.at ha
  obtain⟨n0,n1⟩:=B1.gn n (zap hn)
  have e:=ziO hb1 hn hv
  subst e
  simp_all only [zac]
  exact⟨a,b,n,rfl,s3 _ _ hb2,B1.gb b (zap hb1),n0,n1,k⟩
 simp_all only [zac]
 have hw1:=s _ _ hw
 have TW1:=TW.same s
 have n0:∀n∈ns,0≤n:=λn hn=>(B.gn n hn).1
 have mb:∀x∈ψl bs ns,GB x.1∧gnq x.1 x.2≠0:=λx hx=>by
  obtain⟨i,ei⟩:=ψq hx
  rw[ψK] at ei
  exact⟨B.gb _ (zap ei.1),G i _ _ ei.1 ei.2⟩
 have st:=zhV bs ns B.gb n0
 have zl:(Qay).length≤6:=by rw[List.length_zip];omega
 have pW:∀i:Nat,Bq 500 ((Qaz).take i).sum:=λi=>by
  have h:=zm0 (j:=6) (k:=14) (f:=λx=>wq x.1 x.2) (Qay) (λx hx=>zng (mb x hx).1 (mb x hx).2) i
  rw[wqs,zg0]
  exact h.mono (Qe)
 have pP:∀i:Nat,Bq 900 ((ziI bs ns).take i).sum:=λi=>by
  have h:=zm0 (j:=12) (k:=16) (f:=λx=>wq x.1 x.2*chq x.1 x.2) (Qay) (λx hx=>((zng (mb x hx).1 (mb x hx).2).mul2 (zo2 (mb x hx).1 x.2)).mono (Qe)) i
  rw[zjV]
  exact h.mono (Qe)
 have bW:∀x∈wqs bs ns,Bq 420 x:=zg9 _ λi b n e1 e2=>zzW (B.gb b (zap e1)) (B.gn n (zap e2)).2 (G i b n e1 e2)
 have bC:∀x∈zk0 bs ns,Bq 401 x:=zg9 _ λi b n e1 e2=>zvR (B.gb b (zap e1)) (B.gn n (zap e2)).2
 have bP:∀x∈ziI bs ns,Bq 900 x:=zg9 _ λi x y e1 e2=>((bW x (zap e1)).mul2 (bC y (zap e2))).mono (Qn)
 refine⟨⟨_,SqL.of hw1⟩,⟨_,SqL.of hD'⟩,λD2 hD2=>?_⟩
 refine zf6 (f:=fr) (qs:=ziI bs ns) hw1 hD' (by rw[lP,ψb,ψb,TW1.1,T.1,lW,lC];omega) (Qe) hD2 (Qck) λrs H2 s2 hD2' TR=>?_
 ·obtain⟨a,ha,rfl⟩:=zat hx
  obtain⟨c,hc,rfl⟩:=zat hz
  obtain⟨f,ef,hf⟩:=TW1.at ha
  obtain⟨g,eg,hg⟩:=T.at hc
  have e:=ziO ef eg hv
  subst e
  simp_all only [zac]
  exact⟨a,c,f,g,rfl,s3 _ _ hf,s3 _ _ hg,(bW f (zap ef)).mono (Qn),(bC g (zap eg)).mono (Qn),k⟩
 have hP:Bq 900 (ziI bs ns).sum:=by
  have:=pP (ziI bs ns).length
  rwa[ψH] at this
 have hW:Bq 500 (Qaz).sum:=by
  have:=pW (Qaz).length
  rwa[ψH] at this
 refine⟨D2,rs,_,rfl,hD2',TR,λi=>(pP i).mono (Qn),λx hx=>(bP x hx).mono (Qn),λfd H3 s3 h3=>?_⟩
 have S3:=s.trans (Qcs)
 refine⟨l,pl,ts,bs,ns,rfl,B1.same S3,λH4 s4=>?_⟩
 simp_all only [zac]
 refine(Qb6)
 have s5:=zan np (.tup [V.int (bud - (zaF bs ns).sum),V.int 1])
 have h5:(L2.upd H4 p (.tup [V.int (bud - (zaF bs ns).sum),V.int 1])) p=some (.tup [V.int (bud - (zaF bs ns).sum),V.int 1]):=zai
 generalize L2.upd H4 p (.tup [V.int (bud - (zaF bs ns).sum),V.int 1])=H5 at s5 h5 ⊢
 obtain⟨z1,z2⟩:=zi0 bs ns B.gb B.gn
 have bS:Bq 20 ((bud - (zaF bs ns).sum:Int):Rat):=⟨by show(bud - (zaF bs ns).sum).natAbs<2 ^ 20;omega,by show(1:Nat)<2 ^ 20;decide⟩
 refine⟨fd,p,_,((bud - (zaF bs ns).sum:Int):Rat),rfl,s5 _ _ (s4 _ _ h3),h5,hP.mono (Qe),bS.mono (Qn),λr1 H6 s6 h6=>?_⟩
 have S6:=S3.trans (s4.trans (s5.trans s6))
 refine⟨wl,us,_,rfl,S6 _ _ hw,TW.same S6,λi=>(pW i).mono (Qn),λx hx=>(bW x hx).mono (Qn),λr2 H7 s7 h7=>?_⟩
 exact⟨r1,r2,_,_,rfl,s7 _ _ h6,h7,ws,(hP.add2 bS).mono (Qe),hW.mono (Qe),λr3 H8 s8 h8=>q r3 H8 (s1.trans (S6.trans (s7.trans s8))) h8⟩
theorem zds:zaB ["boxes","budget","counts","weights","chances","found","spare"] ["boxes","budget","counts"] (zag zdS):=⟨rfl,rfl,rfl,by decide +kernel,rfl,by decide +kernel,by decide +kernel⟩
theorem zlM(T:Txt K mg a):zcn P w K mg base CX0 5 a.f_chance_for a.d_chance_for ["boxes","budget","counts"] zjo:=by
 have G_added:=zuW (P:=P) (w:=w) (base:=base) T
 have G_chance:=zjE (P:=P) (w:=w) (base:=base) T
 have G_cost_sum:=zhg (P:=P) (w:=w) (base:=base) T
 have G_fair_weights:=zf9 (P:=P) (w:=w) (base:=base) T
 have G_over:=zou (P:=P) (w:=w) (base:=base) T
 have G_plus:=zse (P:=P) (w:=w) (base:=base) T
 have G_times:=zt6 (P:=P) (w:=w) (base:=base) T
 refine T.F_chance_for.ok zds (Qj) (Qd)
 ·obtain⟨l,pl,ts,bs,ns,bud,rfl,B,cs,G,d0,d1,ws,q⟩:=h
  rfl
 obtain⟨l,pl,ts,bs,ns,bud,rfl,B,cs,G,d0,d1,ws,q⟩:=h
 exact⟨zgc K,(zaf (zaN (i:=3) zds.nd rfl (Qf) (zah G_fair_weights (Qa) rfl T.m_fair_weights T.F_fair_weights.kp T.b_fair_weights .nil zax (QcB)))
 (zaf (zcO (i:=4) zds.nd rfl rfl (sc:=zag zdS) (N:=["boxes","budget","counts","weights","chances","found","spare"]) (Nc:=["box","count"]) (cap:=[none,none]) rfl rfl rfl (Qi) (zeC rfl T.z_zip (QcB)) (Qq) (QF) (λ_ _ _ _=>(zah G_chance (Qa) rfl T.m_chance T.F_chance.kp T.b_chance .nil zax (Qac))))
 (zaf (zaN (i:=5) zds.nd rfl (Qf) (zah G_added (Qa) rfl T.m_added T.F_added.kp T.b_added .nil zax (zaa (zbi (sc:=zag zdS) (N:=["boxes","budget","counts","weights","chances","found","spare"]) (Nc:=["weight","one"]) (cap:=[none,none]) rfl rfl rfl (Qi) (zeC rfl T.z_zip (zaa (pv 3) (QbL))) (λ_ _ _ _=>(zbu rfl (zal (zak (i:=0) (show ψh (["weight","one"]:List Str) from by decide) rfl (Qf)) (zal (zak (i:=1) (show ψh (["weight","one"]:List Str) from by decide) rfl (Qf)) za3)))) (QF) (λ_ _ _ _=>(zah G_times (Qa) rfl T.m_times T.F_times.kp T.b_times .nil zax (Qac)))) zad)))
 (zaf (zaN (i:=6) zds.nd rfl (Qf) (zas zc4 (pv 1) (zah G_cost_sum (Qa) rfl T.m_cost_sum T.F_cost_sum.kp T.b_cost_sum .nil zax (QcB))))
 (zaj (zar (zah G_over (Qa) rfl T.m_over T.F_over.kp T.b_over .nil zax (zaa (zah G_plus (Qa) rfl T.m_plus T.F_plus.kp T.b_plus .nil zax (zaa (pv 5) (zaa (zbE (zaa (pv 6) (QaB))) zad))) (zaa (zah G_added (Qa) rfl T.m_added T.F_added.kp T.b_added .nil zax (QU)) zad))))))))),
  zlo B cs G d0 d1 ws q⟩
theorem zty{α:Type}(w ch c:α→Rat)(J:α→Bool)(V E:Rat):∀xs:List α,(∀x∈xs,J x=true→c x=w x*(E - ch x)) →
  (xs.map λx=>w x*(V - ch x)).sum - (xs.map λx=>if J x=true then c x else 0).sum=(xs.map λx=>if J x=true then 0 else w x*(E - ch x)).sum+(V - E)*(xs.map w).sum
 | [],_=>by
  simp only[ψp1,ψT]
  grind
 | x::xs,h=>by
  have ih:=zty w ch c J V E xs λy hy=>h y (ψd _ hy)
  simp only[ψu,ψk]
  by_cases j:J x=true
  ·have hx:=h x ψf j
   simp only[j,if_true]
   rw[hx]
   grind
  ·simp only[j]
   grind
theorem zir{α:Type}(f:α→Rat):∀xs:List α,(∀x∈xs,0≤f x)→0≤(xs.map f).sum
 | [],_=>ψD1
 | x::xs,h=>by
  have ih:=zir f xs λy hy=>h y (ψd _ hy)
  have hx:=h x ψf
  simp only[ψu,ψk]
  grind
theorem zqK{α:Type}(f:α→Rat):∀xs:List α,xs≠[]→(∀x∈xs,0<f x)→0<(xs.map f).sum
 | [],n,_=>absurd rfl n
 | x::xs,_,h=>by
  have ih:=zir f xs λy hy=>ψC (h y (ψd _ hy))
  have hx:=h x ψf
  simp only[ψu,ψk]
  grind
theorem zsB{α:Type}{w ch c:α→Rat}{J:α→Bool}{V E S:Rat}{xs:List α}(ne:xs≠[])(w0:∀x∈xs,0<w x)(hc:∀x∈xs,J x=true→c x=w x*(E - ch x))(lo:∀x∈xs,ch x≤E)(ve:E<V)(hS:(xs.map λx=>w x*(V - ch x)).sum=S) :
  (xs.map λx=>if J x=true then 0 else w x*(E - ch x)).sum<S - (xs.map λx=>if J x=true then c x else 0).sum∧0<S - (xs.map λx=>if J x=true then c x else 0).sum:=by
 have id:=zty w ch c J V E xs hc
 rw[hS] at id
 have wp:=zqK w xs ne w0
 have vp:0<V - E:=by grind
 have m:=ψw1 vp wp
 have nn:=zir (λx=>if J x=true then 0 else w x*(E - ch x)) xs λx hx=>by
  have h1:0≤E - ch x:=by have:=lo x hx;grind
  have h2:=ψg1 (ψC (w0 x hx)) h1
  show 0≤(if J x=true then 0 else w x*(E - ch x))
  split
  ·exact ψD1
  ·exact h2
 constructor <;> grind
theorem zlg{α:Type}(w ch:α→Rat)(V:Rat):∀xs:List α,(xs.map λx=>w x*(V - ch x)).sum=V*(xs.map w).sum - (xs.map λx=>w x*ch x).sum
 | []=>by
  simp only[ψp1,ψT]
  grind
 | x::xs=>by
  have ih:=zlg w ch V xs
  simp only[ψu,ψk]
  grind
theorem ziX{bs:List Box}{ns:List Int}{bud:Int}(ws:(Qaz).sum≠0):((Qay).map λx=>wq x.1 x.2*(ze8 bs ns bud - chq x.1 x.2)).sum=((bud - (zaF bs ns).sum:Int):Rat):=by
 rw[zlg (λx:Box×Int=>wq x.1 x.2) (λx=>chq x.1 x.2)]
 have e1:((Qay).map λx=>wq x.1 x.2).sum=(wqs bs ns).sum:=by rw[wqs,zg0]
 rw[e1,← zjV]
 unfold ze8
 generalize (Qaz).sum=W at ws ⊢
 grind
theorem zzq{b:Box}(g:GB b){n:Int}(n0:0≤n)(gn:gnq b n≠0):wq b n*(chq b (n+1) - chq b n)=(b.1:Rat):=by
 have e:chq b (n+1) - chq b n=gnq b n:=by
  rw[zff g,zff g,zfL g,show(n+1).toNat=n.toNat+1 by omega,ψe1]
  grind
 rw[e]
 unfold wq
 grind
def nxt(E:Rat)(bs:List Box)(ns:List Int):List Int:=ψe (λb n=>if chq b (n+1)=E then n+1 else n) bs ns
theorem znD(E:Rat):∀(bs:List Box) (ns:List Int),ψl bs (nxt E bs ns)=(ψl bs ns).map λx=>(x.1,if chq x.1 (x.2+1)=E then x.2+1 else x.2)
 | [],_=>by simp[nxt]
 | _::_,[]=>by simp[nxt]
 | b::bs,n::ns=>by
  show ψl (b::bs) ((if chq b (n+1)=E then n+1 else n)::nxt E bs ns)=_
  rw[ψP1,ψP1,ψu,znD E bs ns]
theorem zo4(E:Rat):∀(bs:List Box) (ns:List Int),(((zaF bs (Qa2)).sum:Int):Rat)=(((QbK).sum:Int):Rat)+((Qay).map λx=>if decide (chq x.1 (x.2+1)=E)=true then (x.1.1:Rat) else 0).sum
 | [],_=>by
  simp only[zaF,nxt,ψl1,List.zip_nil_left,ψp1,ψT]
  grind
 | b::bs,[]=>by
  simp only[zaF,nxt,ψL1,List.zip_nil_right,ψp1,ψT]
  grind
 | b::bs,n::ns=>by
  have ih:=zo4 E bs ns
  show(((b.1*(if chq b (n+1)=E then n+1 else n)+(zaF bs (Qa2)).sum:Int)):Rat)=((b.1*n+(zaF bs ns).sum:Int):Rat)+((if decide (chq b (n+1)=E)=true then (b.1:Rat) else 0)+((Qay).map λx=>if decide (chq x.1 (x.2+1)=E)=true then (x.1.1:Rat) else 0).sum)
  rw[ψN,ψN,ih,ψj,ψj]
  by_cases c:chq b (n+1)=E
  ·rw[if_pos c,if_pos (decide_eq_true c),ψN]
   grind
  ·rw[if_neg c,if_neg (Qa4)]
   grind
theorem znf{b:Box}(g:GB b){n:Int}(gn:gnq b n≠0):0<wq b n:=by
 obtain⟨p0,p1,_⟩:=zkh g
 have c0:(0:Rat)<(b.1:Rat):=by exact_mod_cast (show(0:Int)<b.1 by have:=g.1;omega)
 have g0:0≤gnq b n:=by
  rw[zfL g]
  exact ψg1 (zbK (ψC p0) p1 _).2.1 (ψC p0)
 have gp:0<gnq b n:=by grind
 unfold wq
 rw[Rat.div_def]
 exact ψw1 c0 (Rat.inv_pos.mpr gp)
theorem zp5{bs:List Box}{ns:List Int}{bud:Int}{E:Rat}(gb:∀b∈bs,GB b)(n0:∀n∈ns,0≤n)(G:Gn bs ns)(ne:ψl bs ns≠[])(lo:∀x∈ψl bs ns,chq x.1 x.2≤E)(ws:(Qaz).sum≠0)(ve:E<ze8 bs ns bud) :
  ((ψl bs (Qa2)).map λx=>wq x.1 x.2*(E - chq x.1 x.2)).sum<((bud - (zaF bs (Qa2)).sum:Int):Rat)∧(zaF bs (Qa2)).sum<bud:=by
 have mb:∀x∈ψl bs ns,GB x.1∧0≤x.2∧gnq x.1 x.2≠0:=λx hx=>by
  obtain⟨i,ei⟩:=ψq hx
  rw[ψK] at ei
  exact⟨gb _ (zap ei.1),n0 _ (zap ei.2),G i _ _ ei.1 ei.2⟩
 have h:=zsB (w:=λx:Box×Int=>wq x.1 x.2) (ch:=λx=>chq x.1 x.2) (c:=λx=>(x.1.1:Rat)) (J:=λx=>decide (chq x.1 (x.2+1)=E)) ne (λx hx=>znf (mb x hx).1 (mb x hx).2.2) (λx hx j=>?_) lo ve (ziX ws)
 ·have e1:((bud - (zaF bs (Qa2)).sum:Int):Rat)=((bud - (zaF bs ns).sum:Int):Rat) - ((Qay).map λx=>if decide (chq x.1 (x.2+1)=E)=true then (x.1.1:Rat) else 0).sum:=by
   rw[ψY,ψY,zo4]
   grind
  rw[← e1] at h
  refine⟨?_,?_⟩
  ·refine(congrArg (λz=>z<((bud - (zaF bs (Qa2)).sum:Int):Rat)) ?_).mpr h.1
   rw[znD,List.map_map]
   congr 1
   refine ψk1 λx _=>?_
   show wq x.1 (if chq x.1 (x.2+1)=E then x.2+1 else x.2)*(E - chq x.1 (if chq x.1 (x.2+1)=E then x.2+1 else x.2))=if decide (chq x.1 (x.2+1)=E)=true then 0 else wq x.1 x.2*(E - chq x.1 x.2)
   by_cases c:chq x.1 (x.2+1)=E
   ·rw[if_pos c,if_pos (decide_eq_true c),c]
    grind
   ·rw[if_neg c,if_neg (Qa4)]
  ·have h2:=h.2
   have:(0:Int)<bud - (zaF bs (Qa2)).sum:=by exact_mod_cast h2
   omega
 ·have e:=of_decide_eq_true j
  obtain⟨g1,g2,g3⟩:=mb x hx
  show(x.1.1:Rat)=wq x.1 x.2*(E - chq x.1 x.2)
  rw[← zzq g1 g2 g3,e]
theorem zyy{b:Box}(g:GB b)(h:pr b=1):b.2.1=b.2.2:=by
 have on:(b.2.2:Rat)≠0:=λz=>by
  have:b.2.2=0:=by exact_mod_cast z
  obtain⟨g1,g2,g3,g4,g5⟩:=g
  omega
 have e:pr b=(b.2.1:Rat) / (b.2.2:Rat):=ψn ..
 rw[e] at h
 have:(b.2.1:Rat)=(b.2.2:Rat):=by grind
 exact_mod_cast this
theorem zmk{b:Box}(g:GB b)(h:pr b=1){n:Int}(n0:0≤n)(gn:gnq b n≠0):n=0:=by
 rw[zfL g,h] at gn
 rcases Nat.eq_zero_or_pos n.toNat with z | z
 ·omega
 ·exfalso
  apply gn
  obtain⟨k,hk⟩:∃k,n.toNat=k+1:=⟨n.toNat - 1,by omega⟩
  rw[hk,ψe1]
  grind
theorem zpq(V:Rat):∀(bs:List Box) (ns:List Int),ns.length=bs.length→((Qay).map λx=>(x.1.1:Rat)*V).sum=V*(((Qbo).sum:Int):Rat)
 | [],_,_=>by
  simp only[List.zip_nil_left,ψp1,ψT]
  grind
 | _::_,[],h=>by cases h
 | b::bs,n::ns,h=>by
  have ih:=zpq V bs ns (Nat.succ.inj h)
  rw[ψP1,ψu,ψk,ψu,ψk,ψN,ih]
  grind
theorem ziq:∀(bs:List Box) (ns:List Int),(∀n∈ns,n=0)→(QbK).sum=0
 | [],_,_=>by simp[zaF]
 | _::_,[],_=>by simp[zaF]
 | b::bs,n::ns,h=>by
  have ih:=ziq bs ns λx hx=>h x (Qbr)
  show b.1*n+(zaF bs ns).sum=0
  rw[ih,h n ψf,Int.mul_zero]
  rfl
theorem zpA:∀(bs:List Box),(Qav)→bs≠[]→0<(bs.map λb=>b.1).sum
 | [],_,n=>absurd rfl n
 | [b],h,_=>by
  have:=(h b ψf).1
  simp only[ψu,ψp1,ψk,ψT]
  omega
 | b::c::bs,h,_=>by
  have ih:=zpA (c::bs) (λx hx=>h x (Qbr)) (Qby)
  have:=(h b ψf).1
  rw[ψu,ψk]
  omega
theorem zyd{bs:List Box}{ns:List Int}{bud:Int}{E:Rat}(len:ns.length=bs.length)(gb:∀b∈bs,GB b)(n0:∀n∈ns,0≤n)(G:Gn bs ns)(ws:(Qaz).sum≠0)(ve:E<ze8 bs ns bud)(mn:∀x∈ψl bs ns,E≤chq x.1 (x.2+1))
  (hs:(QaV)→bud<(bs.map λb=>b.1).sum):Gn bs (nxt E bs ns):=by
 intro i b m hb hm
 rw[nxt,ψX,hb] at hm
 cases hn:ns[i]? with
 | none=>rw[hn] at hm;cases hm
 | some n =>
  rw[hn] at hm
  replace hm:(if chq b (n+1)=E then n+1 else n)=m:=Option.some.inj hm
  have g:=gb b (zap hb)
  have gn:=G i b n hb hn
  have hn0:=n0 n (zap hn)
  by_cases c:chq b (n+1)=E
  ·rw[if_pos c] at hm
   subst hm
   obtain⟨p0,p1,_⟩:=zkh g
   by_cases s:pr b=1
   ·exfalso
    have z:=zmk g s hn0 gn
    subst z
    have eE:E=1:=by
     rw[← c,zff g,s]
     show(1:Rat) - (1 - 1) ^ 1=1
     rw[ψe1,ψq1]
     grind
    have all:∀x∈ψl bs ns,pr x.1=1∧x.2=0∧GB x.1:=λx hx=>by
     have hm:=mn x hx
     obtain⟨k,ek⟩:=ψq hx
     rw[ψK] at ek
     have gx:=gb x.1 (zap ek.1)
     obtain⟨q0,q1,_⟩:=zkh gx
     have hx0:=n0 x.2 (zap ek.2)
     rw[eE,zff gx] at hm
     have px:pr x.1=1:=by
      refine ψE λne=>?_
      have h1:(1 - pr x.1)≠0:=by grind
      have h2:=znN h1 (x.2+1).toNat
      have h3:=(zbK (ψC q0) q1 (x.2+1).toNat).2.1
      grind
     exact⟨px,zmk gx px hx0 (G k _ _ ek.1 ek.2),gx⟩
    have sure:∀b∈bs,b.2.1=b.2.2:=λb' hb'=>by
     obtain⟨k,ek⟩:=ψq hb'
     have lk:=(List.getElem?_eq_some_iff.mp ek).1
     have en:ns[k]?=some ns[k]:=ψc (Qe)
     have hz:(b',ns[k])∈ψl bs ns:=ψP (List.getElem?_zip_eq_some.mpr ⟨ek,en⟩)
     exact zyy (gb b' hb') (all _ hz).1
    have hlt:=hs sure
    have W:=ziX (bud:=bud) ws
    have zs:∀n∈ns,n=0:=λn' hn'=>by
     obtain⟨k,ek⟩:=ψq hn'
     have lk:=(List.getElem?_eq_some_iff.mp ek).1
     have eb:bs[k]?=some bs[k]:=ψc (Qe)
     have hz:(bs[k],n')∈ψl bs ns:=ψP (List.getElem?_zip_eq_some.mpr ⟨eb,ek⟩)
     exact(all _ hz).2.1
    rw[ziq bs ns zs] at W
    have e1:((Qay).map λx=>wq x.1 x.2*(ze8 bs ns bud - chq x.1 x.2))=(ψl bs ns).map λx=>(x.1.1:Rat)*ze8 bs ns bud:=by
     refine ψk1 λx hx=>?_
     obtain⟨a1,a2,a3⟩:=all x hx
     rw[a2]
     unfold wq
     rw[zfL a3,zff a3,a1]
     show(x.1.1:Rat) / ((1 - 1) ^ 0*1)*(ze8 bs ns bud - (1 - (1 - 1) ^ 0))=_
     rw[ψq1]
     grind
    rw[e1,zpq _ _ _ len] at W
    have C0:=zpA bs gb (λz=>by rw[z] at hb;cases hb)
    have C1:(0:Rat)<(((Qbo).sum:Int):Rat):=by exact_mod_cast C0
    have C2:((bud - 0:Int):Rat)<(((Qbo).sum:Int):Rat):=by
     rw[Int.sub_zero]
     exact_mod_cast hlt
    rw[eE] at ve
    have m:=ψQ1 ve C1
    grind
   ·rw[zfL g]
    have h1:(1 - pr b)≠0:=by grind
    have h2:=znN h1 (n+1).toNat
    grind
  ·rw[if_neg c] at hm
   subst hm
   exact gn
theorem zpv{b:Box}(g:GB b){n:Int}(n0:0≤n):chq b n≤chq b (n+1):=by
 obtain⟨p0,p1,_⟩:=zkh g
 have h:=(zbK (ψC p0) p1 n.toNat).2.1
 have m:=ψg1 h (ψC p0)
 rw[zff g,zff g,show(n+1).toNat=n.toNat+1 by omega,ψe1]
 grind
theorem zlU{b:Box}(g:GB b):chq b 0=0:=by
 rw[zff g]
 show(1:Rat) - (1 - pr b) ^ 0=0
 rw[ψq1]
 grind
def Mid(bs:List Box)(ns:List Int)(t:Rat):Prop:=∀x∈ψl bs ns,chq x.1 x.2≤t∧t≤chq x.1 (x.2+1)
theorem zjP:∀(bs:List Box) (ns:List Int),(Qav)→(∀n∈ns,0≤n)→ns.length=bs.length→0≤(zaF bs ns).sum∧∀n∈ns,n≤(zaF bs ns).sum
 | [],[],_,_,_=>by simp[zaF]
 | [],_::_,_,_,h=>by cases h
 | _::_,[],_,_,h=>by cases h
 | b::bs,n::ns,gb,n0,h=>by
  obtain⟨z1,z2⟩:=zjP bs ns (QaL) (λx hx=>n0 x (Qbr)) (Nat.succ.inj h)
  obtain⟨g1,_⟩:=gb b ψf
  have hn:=n0 n ψf
  have m1:1*n≤b.1*n:=Int.mul_le_mul_of_nonneg_right g1 hn
  rw[Int.one_mul] at m1
  refine⟨?_,λm hm=>?_⟩
  ·show 0≤b.1*n+(zaF bs ns).sum
   omega
  ·show m≤b.1*n+(zaF bs ns).sum
   rcases List.mem_cons.mp hm with rfl | hm
   ·omega
   ·have:=z2 m hm
    omega
theorem zo9(E:Rat):∀(bs:List Box) (ns:List Int),(Qav)→(QbK).sum≤(zaF bs (Qa2)).sum∧((∃x∈ψl bs ns,chq x.1 (x.2+1)=E)→(QbK).sum<(zaF bs (Qa2)).sum)
 | [],_,_=>by simp[zaF]
 | b::bs,[],_=>by simp[zaF,nxt]
 | b::bs,n::ns,gb=>by
  obtain⟨z1,z2⟩:=zo9 E bs ns (QaL)
  obtain⟨g1,_⟩:=gb b ψf
  have e:(zaF (b::bs) (nxt E (b::bs) (n::ns))).sum=b.1*(if chq b (n+1)=E then n+1 else n)+(zaF bs (Qa2)).sum:=rfl
  have e2:(zaF (b::bs) (n::ns)).sum=b.1*n+(zaF bs ns).sum:=rfl
  rw[e,e2]
  by_cases c:chq b (n+1)=E
  ·rw[if_pos c,Int.mul_add,Int.mul_one]
   exact⟨by omega,λ_=>by omega⟩
  ·rw[if_neg c]
   refine⟨by omega,λhQ'=>?_⟩
   obtain⟨x,hx,ex⟩:=hQ'
   rw[ψP1] at hx
   rcases List.mem_cons.mp hx with rfl | hx
   ·exact absurd ex c
   ·have:=z2 ⟨x,hx,ex⟩
    omega
theorem zoh(E:Rat)(bs:List Box)(ns:List Int)(h:ns.length=bs.length):(Qa2).length=bs.length:=by rw[nxt,ψo];omega
theorem zww(E:Rat)(bs:List Box)(ns:List Int)(h:∀n∈ns,0≤n):∀n∈nxt E bs ns,0≤n:=λm hm=>by
 obtain⟨i,ei⟩:=ψq hm
 rw[nxt,ψX] at ei
 cases e1:bs[i]? with
 | none=>rw[e1] at ei;cases ei
 | some b =>
  cases e2:ns[i]? with
  | none=>rw[e1,e2] at ei;cases ei
  | some n =>
   rw[e1,e2] at ei
   have:=h n (zap e2)
   replace ei:(if chq b (n+1)=E then n+1 else n)=m:=Option.some.inj ei
   rw[← ei]
   split <;> omega
theorem zxC{bs:List Box}{ns:List Int}{t E:Rat}(gb:∀b∈bs,GB b)(n0:∀n∈ns,0≤n)(M:Mid bs ns t)(te:t≤E)(mn:∀x∈ψl bs ns,E≤chq x.1 (x.2+1)):Mid bs (Qa2) E:=by
 intro y hy
 rw[znD] at hy
 obtain⟨x,hx,rfl⟩:=List.mem_map.mp hy
 obtain⟨i,ei⟩:=ψq hx
 rw[ψK] at ei
 have g:=gb x.1 (zap ei.1)
 have h0:=n0 x.2 (zap ei.2)
 obtain⟨m1,m2⟩:=M x hx
 have m3:=mn x hx
 show chq x.1 (if chq x.1 (x.2+1)=E then x.2+1 else x.2)≤E∧E≤chq x.1 ((if chq x.1 (x.2+1)=E then x.2+1 else x.2)+1)
 by_cases c:chq x.1 (x.2+1)=E
 ·rw[if_pos c]
  refine⟨by rw[c];exact ψD1,?_⟩
  have:=zpv g (n:=x.2+1) (Qe)
  rw[c] at this
  exact this
 ·rw[if_neg c]
  exact⟨Rat.le_trans m1 te,m3⟩
theorem zhh{bs:List Box}{ns:List Int}(gb:∀b∈bs,GB b)(G:Gn bs ns)(ne:ψl bs ns≠[]):0<(wqs bs ns).sum:=by
 rw[wqs,zg0]
 refine zqK (λx:Box×Int=>wq x.1 x.2) _ ne λx hx=>?_
 obtain⟨i,ei⟩:=ψq hx
 rw[ψK] at ei
 exact znf (gb _ (zap ei.1)) (G i _ _ ei.1 ei.2)
theorem zo0{bs:List Box}{ns:List Int}{bud:Int}{t:Rat}(W:0<(wqs bs ns).sum)(h:((Qay).map λx=>wq x.1 x.2*(t - chq x.1 x.2)).sum≤((bud - (zaF bs ns).sum:Int):Rat)):t≤ze8 bs ns bud:=by
 have w:=ziX (bud:=bud) (bs:=bs) (ns:=ns) (by grind)
 rw[← w,zlg (λx:Box×Int=>wq x.1 x.2) (λx=>chq x.1 x.2),zlg (λx:Box×Int=>wq x.1 x.2) (λx=>chq x.1 x.2)] at h
 have e1:((Qay).map λx=>wq x.1 x.2).sum=(wqs bs ns).sum:=by rw[wqs,zg0]
 rw[e1] at h
 refine ψE λc=>?_
 have c':ze8 bs ns bud<t:=Rat.not_le.mp c
 have m:=ψQ1 c' W
 grind
structure Lev (bs:List Box) (ns:List Int) (bud:Int) (t:Rat):Prop where
 len:ns.length=bs.length
 n0:∀n∈ns,0≤n
 n59:∀n∈ns,n≤59
 gn:Gn bs ns
 mid:Mid bs ns t
 tw:t≤ze8 bs ns bud
 cb:(QbK).sum≤bud
theorem zjB{bs:List Box}{ns:List Int}(l1:1≤bs.length)(h:ns.length=bs.length):ψl bs ns≠[]:=λz=>by
 have:=congrArg List.length z
 rw[List.length_zip,List.length_nil] at this
 omega
theorem Lev.zero{bs:List Box}{bud:Int}(gb:∀b∈bs,GB b)(l1:1≤bs.length)(d0:0≤bud):Lev bs (bs.map λ_=>0) bud 0:=by
 have len:(Qbp).length=bs.length:=ψb ..
 have z:∀n∈(Qbp),n=0:=λn hn=>by
  obtain⟨_,_,e⟩:=List.mem_map.mp hn
  exact e.symm
 have gn:Gn bs (bs.map λ_=>(0:Int)):=λi b n e1 e2=>by
  have:=z n (zap e2)
  subst this
  have g:=gb b (zap e1)
  rw[zfL g]
  have:=(zkh g).1
  show(1 - pr b) ^ 0*pr b≠0
  rw[ψq1]
  grind
 have cz:=ziq bs _ z
 have zz:∀x∈ψl bs (Qbp),GB x.1∧x.2=0:=λx hx=>by
  obtain⟨i,ei⟩:=ψq hx
  rw[ψK] at ei
  exact⟨gb _ (zap ei.1),z _ (zap ei.2)⟩
 refine⟨len,λn hn=>by rw[z n hn];decide,λn hn=>by rw[z n hn];decide,gn,λx hx=>?_,zo0 (zhh gb gn (zjB l1 len)) ?_,by omega⟩
 ·obtain⟨g,e⟩:=zz x hx
  rw[e,zlU g]
  refine⟨ψD1,?_⟩
  have:=zpv g (n:=0) (Qn)
  rw[zlU g] at this
  exact this
 ·have e:((ψl bs (Qbp)).map λx=>wq x.1 x.2*(0 - chq x.1 x.2)).sum=0:=by
   rw[show((ψl bs (Qbp)).map λx=>wq x.1 x.2*(0 - chq x.1 x.2))=(ψl bs (Qbp)).map λ_=>(0:Rat) from ψk1 λx hx=>by
    obtain⟨g,e⟩:=zz x hx
    rw[e,zlU g]
    grind]
   generalize ψl bs (bs.map λ_=>(0:Int))=l
   induction l with
   | nil=>rfl
   | cons x l ih =>
    rw[ψu,ψk,ih]
    grind
  rw[e,cz]
  exact_mod_cast (show(0:Int)≤bud - 0 by omega)
theorem Lev.step{bs:List Box}{ns:List Int}{bud:Int}{t E:Rat}(L:Lev bs ns bud t)(gb:∀b∈bs,GB b)(l1:1≤bs.length)(d1:bud≤60)(hs:(QaV)→bud<(bs.map λb=>b.1).sum)
  (mn:∀x∈ψl bs ns,E≤chq x.1 (x.2+1)) (me:∃x∈ψl bs ns,chq x.1 (x.2+1)=E) (ve:E<ze8 bs ns bud) :
  Lev bs (Qa2) bud E∧(bud - (zaF bs (Qa2)).sum).toNat<(bud - (zaF bs ns).sum).toNat:=by
 have ne:=zjB l1 L.len
 have W:=zhh gb L.gn ne
 have te:t≤E:=by
  obtain⟨x,hx,ex⟩:=me
  rw[← ex]
  exact(L.mid x hx).2
 obtain⟨t1,t2⟩:=zp5 (bud:=bud) gb L.n0 L.gn ne (λx hx=>Rat.le_trans (L.mid x hx).1 te) (by grind) ve
 have gn:=zyd L.len gb L.n0 L.gn (by grind) ve mn hs
 have len:=zoh E bs ns L.len
 have n0:=zww E bs ns L.n0
 have ce:=zjP bs _ gb n0 len
 have mo:=(zo9 E bs ns gb).2 me
 refine⟨⟨len,n0,λn hn=>?_,gn,zxC gb L.n0 L.mid te mn,zo0 (zhh gb gn (zjB l1 len)) (ψC t1),by omega⟩,by omega⟩
 have:=ce.2 n hn
 omega
def zsb(vs:List V):List Int:=vs.map λv=>match v with | .int n=>n | _=>0
theorem zqo(ns:List Int):zsb (ns.map V.int)=ns:=by
 unfold zsb
 rw[List.map_map]
 exact List.map_id ns
def zqB(bs:List Box)(bud:Int):St→Hp→Nat:=λσ H=>match σ with
 | _::_::some (.ref p)::_=>(match H p with | some (.lst vs)=>(bud - (zaF bs (zsb vs)).sum).toNat | _=>0)
 | _=>0
theorem zmb{bs:List Box}{bud:Int}{x y:Option V}{p:Addr}{r:St}{H:Hp}{ns:List Int}(h:H p=some (QS)):zqB bs bud (x::y::some (.ref p)::r) H=(bud - (zaF bs ns).sum).toNat:=by
 unfold zqB
 simp only[h,zqo]
theorem zvv(u v:Rat):[u.num,(u.den:Int)]=[v.num,(v.den:Int)]↔u=v:=by
 refine⟨λh=>?_,λh=>by rw[h]⟩
 simp only[List.cons.injEq,and_true] at h
 exact Rat.ext h.1 (Int.ofNat.inj h.2)
theorem zti{bs:List Box}{ns:List Int}{bud:Int}{t:Rat}(L:Lev bs ns bud t)(gb:∀b∈bs,GB b)(l1:1≤bs.length)(l6:bs.length≤6)(d1:bud≤60):Bq 1300 (ze8 bs ns bud):=by
 have W:=zhh gb L.gn (zjB l1 L.len)
 have st:=zhV bs ns gb L.n0
 have cb:=L.cb
 have ce:=(zjP bs ns gb L.n0 L.len).1
 have zl:(Qay).length≤6:=by rw[List.length_zip];omega
 have mb:∀x∈ψl bs ns,GB x.1∧gnq x.1 x.2≠0:=λx hx=>by
  obtain⟨i,ei⟩:=ψq hx
  rw[ψK] at ei
  exact⟨gb _ (zap ei.1),L.gn i _ _ ei.1 ei.2⟩
 have h1:=zkK (j:=12) (k:=16) (f:=λx=>wq x.1 x.2*chq x.1 x.2) (Qay) λx hx=>((zng (mb x hx).1 (mb x hx).2).mul2 (zo2 (mb x hx).1 x.2)).mono (Qe)
 have h2:=zkK (j:=6) (k:=14) (f:=λx=>wq x.1 x.2) (Qay) λx hx=>zng (mb x hx).1 (mb x hx).2
 have e1:((Qay).map λx=>wq x.1 x.2).sum=(wqs bs ns).sum:=by rw[wqs,zg0]
 rw[← zjV] at h1
 rw[e1] at h2
 have bS:Bq 20 ((bud - (zaF bs ns).sum:Int):Rat):=⟨by show(bud - (zaF bs ns).sum).natAbs<2 ^ 20;omega,by show(1:Nat)<2 ^ 20;decide⟩
 have h3:=(h1.add2 bS).div2 h2 (by grind)
 exact h3.mono (Qe)
def nend(b:Box)(n:Int):Rat:=chq b (n+1)
def zpj:Sp:=λvs H Q _=>∃(l:Addr) (ts:List Addr) (bs:List Box) (bud:Int),vs=[.ref l,.int bud]∧H l=some (QR)∧Tps bx H ts bs∧(Qav)∧1≤bs.length∧bs.length≤6∧0≤bud∧bud≤60∧((QaV)→bud<(bs.map λb=>b.1).sum) ∧
 ∀(r pl wr:Addr) (ns:List Int) (H':Hp),zaI H H'→H' r=some (.tup [.ref pl,.ref wr])→BP H' l pl ts bs ns→Lev bs ns bud (Qar)→H' wr=some (Qch)→Q (Q0) H'
def zd2(K:ψa):TS :=
 (zbO (zb3 (zmf K (zab (zac 2) (QaQ))) (Qk) za5 (tIf (zb5 (tOp (rEqT K) (zac 1) (zac 2))) (tOp (Qv) (zac 0) (Qh)) (zac 0)) [none,none,some 5]) (zam 2))
def zbz(K:ψa):=eqT (zd2.eq_1 K)
def zd3(K:ψa):TS :=
 (zbd (zbO (zaz zjo [] E0 (zab (zac 0) (Qbv))) (zam 3))
 (zbd (zbO (zb3 (zmf K (Qcq)) (Qk) za5 (zaz zjb [] E0 (zab (zac 0) (zab (tOp (Qv) (zac 1) (Qh)) zau))) [none,none]) (zam 4))
 (zbd (zbO (zaz zps [] E0 (QaQ)) (zam 5))
 (zbd (zdG (zdQ (zfe (tB (zaz zl1 [] E0 (zab (zac 5) (QO))))) (zbU (zeG (zab (zac 2) (QO)))) zb1))
 (zd2 K)))))
def zbA(K:ψa):=eqT (zd3.eq_1 K)
def zdo(K:ψa):TS :=
 (zbd (zbO (zb3 (QaE) (zam 0) za5 (Ql) [none]) (zam 2))
 (zkw (tB (tC (Qb0))) (zd3 K)))
theorem zhm{l:Addr}{ts:List Addr}{bs:List Box}{bud:Int}(hl:H l=some (QR))(T:Tps bx H ts bs)(gb:∀b∈bs,GB b)(l1:1≤bs.length)(l6:bs.length≤6)(d0:0≤bud)(d1:bud≤60)(hs:(QaV)→bud<(bs.map λb=>b.1).sum)
  (q:∀(r pl wr:Addr) (ns:List Int) (H':Hp),zaI H H'→H' r=some (.tup [.ref pl,.ref wr])→BP H' l pl ts bs ns→Lev bs ns bud (Qar)→H' wr=some (Qch)→Q (Q0) H') :
  zdo K { nx:=λ_ H'=>Q .non H',rt:=Q } (L2.start ["boxes","budget","counts","worth","ends","end"] [.ref l,.int bud]) H:=by
 unfold zdo
 simp_all only [zbz,zbA,zac]
 refine(QaH)
 refine zcx (vs:=(Qbp).map V.int) hl (by simp[T.1]) (by simp;omega) hD (λi x v H' R _ hv s k=>?_) λH1 s1 h1=>?_
 ·obtain⟨n,en,rfl⟩:=zat hv
  obtain⟨_,_,rfl⟩:=zat en
  exact k _ (QbA)
 refine zi7 (λσ H'=>zaI H H'∧∃(pl:Addr) (ns:List Int) (t:Rat) (x y z:Option V),H' pl=some (QS)∧Lev bs ns bud t∧σ=[some (Qa5),some (Qbt),some (.ref pl),x,y,z]) (zqB bs bud) ⟨s1,D,_,0,_,_,_,h1,Lev.zero gb l1 d0,rfl⟩ ?_ ?_
 ·rintro σ H' ⟨s,pl,ns,t,x,y,z,hp,L,rfl⟩
  rw[zmb hp]
  have B:BP H' l pl ts bs ns:=⟨s _ _ hl,T.same s,hp,L.len,gb,λn hn=>⟨L.n0 n hn,by have:=L.n59 n hn;omega⟩,l1,by omega⟩
  have W:=zhh gb L.gn (zjB l1 L.len)
  simp_all only [zbz,zbA,zac]
  refine⟨l,pl,ts,bs,ns,bud,rfl,B,(by have:=L.cb;omega),L.gn,d0,d1,by grind,λwr H2 s2 hw=>?_⟩
  have B2:=B.same s2
  refine⟨⟨_,SqL.of B2.hl⟩,⟨_,SqL.of B2.hp⟩,λD2 hD2=>?_⟩
  have lE:(ψe nend bs ns).length=bs.length:=by rw[ψo,L.len];omega
  refine zf6 (f:=fr) (qs:=ψe nend bs ns) B2.hl B2.hp (by rw[lE,ψb,ψb,T.1,L.len];omega) (Qe) hD2 (Qcj) λus H3 s3 h3 TE=>?_
  ·obtain⟨a,ha,rfl⟩:=zat hx
   obtain⟨n,hn,rfl⟩:=zat hz
   obtain⟨b,hb1,hb2⟩:=B2.hb.at ha
   have e:=ziO hb1 hn hw
   subst e
   simp_all only [zbz,zbA,zac]
   have:=L.n0 n (zap hn)
   have:=L.n59 n (zap hn)
   exact⟨a,b,n+1,rfl,s3 _ _ hb2,gb b (zap hb1),by omega,by omega,k⟩
  ·have bE:∀x∈ψe nend bs ns,Bq 401 x:=zg9 _ λi b n h1 h2=>zvR (gb b (zap h1)) (by have:=L.n59 n (zap h2);omega)
   refine⟨D2,us,_,rfl,h3,TE,by omega,λx hx=>(bE x hx).mono (Qn),λer E hE mE lE=>?_⟩
   have hw3:=s3 _ _ hw
   have mn:∀x∈ψl bs ns,E≤chq x.1 (x.2+1):=λx hx=>by
    refine lE _ ?_
    rw[zg0]
    exact List.mem_map.mpr ⟨x,hx,rfl⟩
   have me:∃x∈ψl bs ns,chq x.1 (x.2+1)=E:=by
    rw[zg0] at mE
    obtain⟨x,hx,e⟩:=List.mem_map.mp mE
    exact⟨x,hx,e⟩
   have S3:=s2.trans s3
   refine⟨λσ H'=>H'=H3∧E<ze8 bs ns bud∧σ=[some (Qa5),some (Qbt),some (.ref pl),some (.ref wr),some (.ref D2),some (.ref er)],?_,?_⟩
   ·simp_all only [zbz,zbA,zac]
    refine⟨er,wr,E,_,rfl,hE,hw3,(bE E mE).mono (Qn),(zti L gb l1 l6 d1).mono (Qn),?_⟩
    refine⟨_,rfl,?_⟩
    by_cases c:E<ze8 bs ns bud
    ·rw[if_neg (by simp[c])]
     exact⟨rfl,c⟩
    ·rw[if_pos (by simp[c])]
     have c':=Rat.not_lt.mp c
     refine(Qb6)
     refine q p pl wr ns _ ((s.trans S3).add np) zai ((B.same S3).same (zan np _)) ⟨L.len,L.n0,L.n59,L.gn,λx hx=>⟨Rat.le_trans (L.mid x hx).1 L.tw,Rat.le_trans c' (mn x hx)⟩,ψD1,L.cb⟩ (by rw[zbg (zaO hw3 np)];exact hw3)
   ·rintro σ H4 ⟨rfl,ve,rfl⟩
    simp_all only [zbz,zbA,zac]
    obtain⟨Lv,dn⟩:=L.step gb l1 d1 hs mn me ve
    have hp3:=S3 _ _ hp
    refine⟨⟨_,SqL.of hp3⟩,⟨_,SqL.of h3⟩,λD3 hD3=>?_⟩
    refine zfn (vs:=(Qa2).map V.int) hp3 h3 ?_ ?_ hD3 (λi x z v H5 R hx hz hv s5 k=>?_) λH5 s5 h5=>?_
    ·rw[ψb,ψb,ψb,zoh E bs ns L.len,TE.1,ψo,L.len]
     omega
    ·rw[ψb,zoh E bs ns L.len]
     omega
    ·obtain⟨n,hn,rfl⟩:=zat hx
     obtain⟨a,ha,rfl⟩:=zat hz
     obtain⟨m,hm,rfl⟩:=zat hv
     obtain⟨f,hf1,hf2⟩:=TE.at ha
     have hi:=(List.getElem?_eq_some_iff.mp hn).1
     have hb:bs[i]?=some (bs[i]'(by rw[← L.len];exact hi)):=ψc (by rw[← L.len];exact hi)
     have e:=ziO hb hn hm
     have e2:=ziO hb hn hf1
     simp_all only [zbz,zbA,zac]
     refine⟨[f.num,(f.den:Int)],SqT.of (s5 _ _ hf2),[E.num,(E.den:Int)],SqT.of (s5 _ _ hE),?_⟩
     rw[e2,nend]
     by_cases c:chq (bs[i]'(by rw[← L.len];exact hi)) (n+1)=E
     ·rw[if_pos ((zvv _ _).mpr c)]
      rw[e,if_pos c] at k
      exact k _ (QbA)
     ·rw[if_neg (λz=>c ((zvv _ _).mp z))]
      rw[e,if_neg c] at k
      exact k _ (QbA)
    ·exact⟨s.trans (S3.trans s5),⟨D3,_,h5,E,Lv,rfl⟩,by rw[zmb h5];exact dn⟩
 ·rintro σ H1 Q1 Q2 hQ ⟨c,e,h⟩
  exact⟨c,e,hQ _ _ h⟩
theorem zbR:zaB ["boxes","budget","counts","worth","ends","end"] ["boxes","budget"] (zag zb2):=⟨rfl,rfl,rfl,by decide +kernel,rfl,by decide +kernel,by decide +kernel⟩
theorem zho(T:Txt K mg a):zcn P w K mg base CX0 6 a.f_counts_and_worth a.d_counts_and_worth ["boxes","budget"] zpj:=by
 have G_below:=zo8 (P:=P) (w:=w) (base:=base) T
 have G_chance:=zjE (P:=P) (w:=w) (base:=base) T
 have G_chance_for:=zlM (P:=P) (w:=w) (base:=base) T
 have G_least_chance:=zjH (P:=P) (w:=w) (base:=base) T
 refine T.F_counts_and_worth.ok zbR (Qj) (Qd)
 ·obtain⟨l,ts,bs,bud,rfl,hl,T',gb,l1,l6,d0,d1,hs,q⟩:=h
  rfl
 obtain⟨l,ts,bs,bud,rfl,hl,T',gb,l1,l6,d0,d1,hs,q⟩:=h
 exact⟨zdo K,(zaf (zcO (i:=2) zbR.nd rfl rfl (sc:=zag zb2) (N:=["boxes","budget","counts","worth","ends","end"]) (Nc:=["box"]) (cap:=[none]) rfl rfl rfl (Qi) (Qbk) (Q9) (QF) (λ_ _ _ _=>zae))
 (zaj (zi6 PassesOwn.never (zbt zde) (zaf (zaN (i:=3) zbR.nd rfl (Qf) (zah G_chance_for (Qa) rfl T.m_chance_for T.F_chance_for.kp T.b_chance_for .nil zax (zaa (pv 0) (QbI))))
 (zaf (zcO (i:=4) zbR.nd rfl rfl (sc:=zag zb2) (N:=["boxes","budget","counts","worth","ends","end"]) (Nc:=["box","count"]) (cap:=[none,none]) rfl rfl rfl (Qi) (zeC rfl T.z_zip (QcB)) (Qq) (QF) (λ_ _ _ _=>(zah G_chance (Qa) rfl T.m_chance T.F_chance.kp T.b_chance .nil zax (zaa (pv 0) (zaa (zas zce (pv 1) zae) zad)))))
 (zaf (zaN (i:=5) zbR.nd rfl (Qbd) (zah G_least_chance (Qa) rfl T.m_least_chance T.F_least_chance.kp T.b_least_chance .nil zax (QbL)))
 (zaf (zbs (zbP (zbL (zbt (zah G_below (Qa) rfl T.m_below T.F_below.kp T.b_below .nil zax (zaa (pv 5) (QU))))) (zaj (zar (zbE (zaa (pv 2) (QU))))) zaR))
 (zaj (zcO (i:=2) zbR.nd rfl rfl (sc:=zag zb2) (N:=["boxes","budget","counts","worth","ends","end"]) (Nc:=["count","one","end"]) (cap:=[none,none,some 5]) rfl rfl rfl (Qi) (zeC rfl T.z_zip (zaa (pv 2) (QbL))) (λ_ _ _ _=>(zbu rfl (zal (zak (i:=0) (show ψh (["count","one","end"]:List Str) from by decide) rfl (Qf)) (zal (zak (i:=1) (show ψh (["count","one","end"]:List Str) from by decide) rfl (Qf)) za3)))) (QF) (λ_ _ _ _=>(zpg (zbb (zzx hr.units0) (pv 1) (pv 2) (za4 _)) (zas zce (pv 0) zae) (pv 0)))))))))))),
  zhm hl T' gb l1 l6 d0 d1 hs q⟩
structure zqi (ns:List Int) (g:Int):Prop where
 g0:0≤g
 all:∀n∈ns,g∣n
 most:∀d:Int,(∀n∈ns,d∣n)→d∣g
theorem zqi.ne{ns:List Int}{g n:Int}(h:zqi ns g)(hn:n∈ns)(n0:n≠0):0<g:=by
 have h1:=h.all n hn
 have h2:=h.g0
 refine ψE λc=>n0 ?_
 have:g=0:=by omega
 subst this
 exact Int.zero_dvd.mp h1
theorem zqi.le{ns:List Int}{g n:Int}(h:zqi ns g)(hn:n∈ns)(n0:n≠0):g.natAbs≤n.natAbs:=Nat.le_of_dvd (Qe) (Int.natAbs_dvd_natAbs.mpr (h.all n hn))
theorem zqi.log{ns:List Int}{g n:Int}(h:zqi ns g)(hn:n∈ns)(n0:n≠0)(b:Bd 9000 n):g.natAbs.log2<9000:=zhJ 9000 (by have:=h.ne hn n0;omega) (b.le (h.le hn n0))
def zlr:Sp:=λvs H Q _=>∃(l:Addr) (ns:List Int),vs=[.ref l]∧H l=some (QS)∧∀g:Int,zqi ns g→Q (.int g) H
def zdZ(K:ψa):TS :=
 (zbd (zbO (Ql) (zam 1))
 (zbd (zll (QaE) (zam 2)
 (zbO (zaz zsF [] E0 (Qbv)) (zam 1)))
 (zbU (zac 1))))
theorem zic{l:Addr}{ns:List Int}(hl:H l=some (QS))(q:∀g:Int,zqi ns g→Q (.int g) H) :
  zdZ K { nx:=λ_ H'=>Q .non H',rt:=Q } (L2.start ["numbers","shared","number"] [.ref l]) H:=by
 unfold zdZ
 simp_all only [zac]
 refine⟨⟨_,SqL.of hl⟩,?_⟩
 refine zc3 (K:=K) (xs:=ns.map V.int) (λi σ H'=>H'=H∧∃(g:Int) (x:Option V),zqi (ns.take i) g∧σ=[some (Qa5),some (.int g),x]) ⟨rfl,0,_,⟨by decide,by simp,λd _=>Int.dvd_zero d⟩,rfl⟩ ?_ ?_ ?_
 ·rintro i σ H' _ ⟨rfl,_⟩
  exact SqL.of hl
 ·rintro i v σ H1 hx ⟨rfl,g,x,G,rfl⟩
  obtain⟨n,en,rfl⟩:=zat hx
  simp_all only [zac]
  refine⟨g,n,rfl,rfl,_,⟨by omega,λm hm=>?_,λd hd=>?_⟩,rfl⟩
  ·rw[ψx,en] at hm
   rcases List.mem_append.mp hm with h | h
   ·exact Int.dvd_trans (Int.gcd_dvd_left ..) (G.all m h)
   ·have:m=n:=by simpa using h
    rw[this]
    exact Int.gcd_dvd_right ..
  ·rw[ψx,en] at hd
   exact Int.dvd_coe_gcd (G.most d λm hm=>hd m (ψU1 _ hm)) (hd n (ψB _ (Qby)))
 ·rintro σ H1 ⟨rfl,g,x,G,rfl⟩
  rw[ψb,ψH] at G
  simp_all only [zac]
  exact q g G
theorem zcS:zaB ["numbers","shared","number"] ["numbers"] (zag zd0):=⟨rfl,rfl,rfl,by decide +kernel,rfl,by decide +kernel,by decide +kernel⟩
theorem ze3(T:Txt K mg a):zcn P w K mg base CX0 2 a.f_shared_divisor a.d_shared_divisor ["numbers"] zlr:=by
 have G_divisor:=zgB (P:=P) (w:=w) (base:=base) T
 refine T.F_shared_divisor.ok zcS (Qj) (Qd)
 ·obtain⟨l,ns,rfl,hl,q⟩:=h
  rfl
 obtain⟨l,ns,rfl,hl,q⟩:=h
 exact⟨zdZ K,(zaf (zaN (i:=1) zcS.nd rfl (Qf) zae)
 (zaf (zdJ PassesOwn.never rfl (Qbk) (zak (i:=2) zcS.nd rfl (Qf))
 (zaj (zaN (i:=1) zcS.nd rfl (Qf) (zah G_divisor (Qa) rfl T.m_divisor T.F_divisor.kp T.b_divisor .nil zax (QbI)))))
 (zaj (zar (pv 1))))),
  zic hl q⟩
def zpo:Sp:=λvs H Q _=>∃(l:Addr) (ns:List Int) (m:Int),vs=[.ref l]∧H l=some (QS)∧ns.length≤1000∧m∈ns∧m≠0∧Bd 9000 m∧∀(r:Addr) (g:Int) (H':Hp),zaI H H'→zqi ns g→H' r=some (.lst ((ns.map λn=>n.fdiv g).map V.int))→Q (Q0) H'
def zln(K:ψa):TS :=
 (zbd (zbO (zaz zlr [] E0 (QE)) (zam 1))
 (zbU (zb3 (QaE) (zam 0) za5 (tOp (QA) (zac 0) (zac 1)) [none,some 1])))
theorem zrj{l:Addr}{ns:List Int}{m:Int}(hl:H l=some (QS))(l1:ns.length≤1000)(hm:m∈ns)(m0:m≠0)(mb:Bd 9000 m)(q:∀(r:Addr) (g:Int) (H':Hp),zaI H H'→zqi ns g→H' r=some (.lst ((ns.map λn=>n.fdiv g).map V.int))→Q (Q0) H') :
  zln K { nx:=λ_ H'=>Q .non H',rt:=Q } (L2.start ["weights","shared"] [.ref l]) H:=by
 unfold zln
 simp_all only [zac]
 refine⟨l,ns,rfl,hl,λg G=>?_⟩
 refine(QaH)
 refine zcx (vs:=(ns.map λn=>n.fdiv g).map V.int) hl (Qby) (by simpa using l1) hD (Qal) λH1 s1 h1=>q D g H1 s1 G h1
 obtain⟨n,en,rfl⟩:=zat hx
 obtain⟨y,ey,rfl⟩:=zat hv
 obtain⟨n',en',rfl⟩:=zat ey
 rw[en] at en'
 cases en'
 simp_all only [zac]
 exact⟨by have:=G.ne hm m0;omega,G.log hm m0 mb,k _ (QbA)⟩
theorem znl:zaB ["weights","shared"] ["weights"] (zag ziY):=⟨rfl,rfl,rfl,by decide +kernel,rfl,by decide +kernel,by decide +kernel⟩
theorem ztq(T:Txt K mg a):zcn P w K mg base CX0 3 a.f_lowest a.d_lowest ["weights"] zpo:=by
 have G_shared_divisor:=ze3 (P:=P) (w:=w) (base:=base) T
 refine T.F_lowest.ok znl (Qj) (Qd)
 ·obtain⟨l,ns,m,rfl,hl,l1,hm,m0,mb,q⟩:=h
  rfl
 obtain⟨l,ns,m,rfl,hl,l1,hm,m0,mb,q⟩:=h
 exact⟨zln K,(zaf (zaN (i:=1) znl.nd rfl (Qbd) (zah G_shared_divisor (Qa) rfl T.m_shared_divisor T.F_shared_divisor.kp T.b_shared_divisor .nil zax (Qap)))
 (zaj (zar (zbi (sc:=zag ziY) (N:=["weights","shared"]) (Nc:=["weight","shared"]) (cap:=[none,some 1]) rfl rfl rfl (Qi) (Qbk) (λ_ _ _ _=>(zak (i:=0) (show ψh (["weight","shared"]:List Str) from by decide) rfl (Qf))) (QF) (λ_ _ _ _=>(zas zdF (pv 0) (pv 1))))))),
  zrj hl l1 hm m0 mb q⟩
def shq(V:Rat)(b:Box)(n:Int):Rat:=(V - chq b n) / gnq b n
def zpD:Sp:=λvs H Q _=>∃(l pl wr:Addr) (ts:List Addr) (bs:List Box) (ns:List Int) (W:Rat),vs=[.ref l,.ref pl,.ref wr]∧BP H l pl ts bs ns∧Gn bs ns∧H wr=some (Qag)∧Bq 1300 W∧∀(r:Addr) (us:List Addr) (H':Hp),zaI H H'→H' r=some (Qbi)→Tps fr H' us (Qcn)→Q (Q0) H'
def zfy(K:ψa):TS :=
 (zbU (zb3 (zmf K (Q7)) (Qk) za5 (zaz zkZ [] E0 (zab (zaz zpe [] E0 (zab (zac 2) (zab (zaz zjb [] E0 (Q7)) zau))) (zab (zaz zoy [] E0 (Q7)) zau))) [none,none,some 2]))
theorem zjX{l pl wr:Addr}{ts:List Addr}{bs:List Box}{ns:List Int}{W:Rat}(B:BP H l pl ts bs ns)(G:Gn bs ns)(hw:H wr=some (Qag))(bW:Bq 1300 W)(q:∀(r:Addr) (us:List Addr) (H':Hp),zaI H H'→H' r=some (Qbi)→Tps fr H' us (Qcn)→Q (Q0) H') :
  zfy K { nx:=λ_ H'=>Q .non H',rt:=Q } (L2.start ["boxes","counts","worth"] [.ref l,.ref pl,.ref wr]) H:=by
 unfold zfy
 simp_all only [zac]
 have l6:=B.l6
 refine(Qbh)
 refine zf6 (f:=fr) (qs:=ψe (shq W) bs ns) B.hl B.hp (by rw[ψo,ψb,ψb,B.hb.1]) (by rw[ψo];omega) hD (Qck) λus H3 s3 h3 TE=>q D us H3 s3 h3 TE
 obtain⟨a,ha,rfl⟩:=zat hx
 obtain⟨n,hn,rfl⟩:=zat hz
 obtain⟨b,hb1,hb2⟩:=B.hb.at ha
 have e:=ziO hb1 hn hv
 subst e
 have g:=B.gb b (zap hb1)
 obtain⟨n0,n1⟩:=B.gn n (zap hn)
 have bC:=zo2 g n
 have bG:=zqJ g n
 simp_all only [zac]
 refine⟨a,b,n,rfl,s3 _ _ hb2,g,n0,n1,λc H4 s4 h4=>?_⟩
 refine⟨wr,c,W,_,rfl,s4 _ _ (s3 _ _ hw),h4,bW.mono (Qn),bC.mono (Qe),λd H5 s5 h5=>?_⟩
 refine⟨a,b,n,rfl,s5 _ _ (s4 _ _ (s3 _ _ hb2)),g,n0,n1,λe H6 s6 h6=>?_⟩
 exact⟨d,e,_,_,rfl,s6 _ _ h5,h6,G i b n hb1 hn,(bW.sub2 bC).mono (Qe),bG.mono (Qe),λr H7 s7 h7=>k r H7 (s4.trans (s5.trans (s6.trans s7))) h7⟩
theorem zkm:zaB ["boxes","counts","worth"] ["boxes","counts","worth"] (zag zea):=⟨rfl,rfl,rfl,by decide +kernel,rfl,by decide +kernel,by decide +kernel⟩
theorem zj7(T:Txt K mg a):zcn P w K mg base CX0 4 a.f_look_shares a.d_look_shares ["boxes","counts","worth"] zpD:=by
 have G_chance:=zjE (P:=P) (w:=w) (base:=base) T
 have G_gain:=zqZ (P:=P) (w:=w) (base:=base) T
 have G_minus:=zup (P:=P) (w:=w) (base:=base) T
 have G_over:=zou (P:=P) (w:=w) (base:=base) T
 refine T.F_look_shares.ok zkm (Qj) (Qd)
 ·obtain⟨l,pl,wr,ts,bs,ns,W,rfl,B,G,hw,bW,q⟩:=h
  rfl
 obtain⟨l,pl,wr,ts,bs,ns,W,rfl,B,G,hw,bW,q⟩:=h
 exact⟨zfy K,(zaj (zar (zbi (sc:=zag zea) (N:=["boxes","counts","worth"]) (Nc:=["box","count","worth"]) (cap:=[none,none,some 2]) rfl rfl rfl (Qi) (zeC rfl T.z_zip (Qac)) (λ_ _ _ _=>(zbu rfl (zal (zak (i:=0) (show ψh (["box","count","worth"]:List Str) from by decide) rfl (Qf)) (zal (zak (i:=1) (show ψh (["box","count","worth"]:List Str) from by decide) rfl (Qf)) za3)))) (QF) (λ_ _ _ _=>(zah G_over (Qa) rfl T.m_over T.F_over.kp T.b_over .nil zax (zaa (zah G_minus (Qa) rfl T.m_minus T.F_minus.kp T.b_minus .nil zax (zaa (pv 2) (zaa (zah G_chance (Qa) rfl T.m_chance T.F_chance.kp T.b_chance .nil zax (Qac)) zad))) (zaa (zah G_gain (Qa) rfl T.m_gain T.F_gain.kp T.b_gain .nil zax (Qac)) zad))))))),
  zjX B G hw bW q⟩
theorem zzr{b:Box}(g:GB b){n:Int}(n0:0≤n)(n1:n≤60)(gn:gnq b n≠0){W:Rat}(bW:Bq 1300 W):Bq 2200 (shq W b n):=((bW.sub2 (zo2 g n)).div2 (zqJ g n) gn).mono (Qe)
theorem Com.bd{m:Nat}:∀{qs:List Rat} {D:Int},Com qs D→(∀q∈qs,Bq m q)→Bd (m*qs.length+1) D:=by
 intro qs D C h
 have key:∀rs:List Rat,(∀q∈rs,Bq m q)→∃M:Int,0<M∧Bd (m*rs.length+1) M∧∀q∈rs,(q.den:Int)∣M:=by
  intro rs
  induction rs with
  | nil=>exact λ_=>⟨1,by decide,by show(1:Nat)<2 ^ _;exact Nat.one_lt_two_pow (Qe),by simp⟩
  | cons r rs ih =>
   intro h
   obtain⟨M,M0,hM,hd⟩:=ih λq hq=>h q (ψd _ hq)
   refine⟨(r.den:Int)*M,ψv1 (zb4 r) M0,(((h r ψf).bot.mul hM).mono (by rw[ψM,Nat.mul_add];omega)),λq hq=>?_⟩
   rcases List.mem_cons.mp hq with rfl | hq
   ·exact Int.dvd_mul_right ..
   ·exact Int.dvd_trans (hd q hq) (Int.dvd_mul_left ..)
 obtain⟨M,M0,hM,hd⟩:=key qs h
 exact hM.le (Nat.le_of_dvd (Qe) (Int.natAbs_dvd_natAbs.mpr (C.least M hd)))
theorem zxS(t b:Int)(h:b≠0):((ψy t b).den:Int)∣b:=by
 rw[(ziB h).2]
 exact⟨_,(zhN t b).symm⟩
theorem zyg{N D A M O X:Rat}(a1:D≠0)(a2:A≠0)(a3:M≠0)(a4:X≠0)(a5:O≠0):((N / D - (A - M) / A) / (M*X / (A*O)))=((N - D)*(A*O)+D*(M*O)) / (D*(M*X)):=by
 have h1:M*X / (A*O)≠0:=by
  rw[Rat.div_def]
  intro z
  rcases Rat.mul_eq_zero.mp z with h | h
  ·rcases Rat.mul_eq_zero.mp h with h | h
   ·exact a3 h
   ·exact a4 h
  ·have h9:A*O≠0:=λz=>(Rat.mul_eq_zero.mp z).elim a2 a5
   have:=Rat.mul_inv_cancel _ h9
   rw[h] at this
   grind
 have h2:D*(M*X)≠0:=by
  intro z
  rcases Rat.mul_eq_zero.mp z with h | h
  ·exact a1 h
  ·rcases Rat.mul_eq_zero.mp h with h | h
   ·exact a3 h
   ·exact a4 h
 have h3:A*O≠0:=by
  intro z
  rcases Rat.mul_eq_zero.mp z with h | h
  ·exact a2 h
  ·exact a5 h
 have e1:((N - D)*(A*O)+D*(M*O)) / (D*(M*X))*(M*X / (A*O))=N / D - (A - M) / A:=by
  have e2:((N - D)*(A*O)+D*(M*O)) / (D*(M*X))*(M*X / (A*O))=((N - D)*(A*O)+D*(M*O)) / D / (A*O):=by grind
  rw[e2]
  have e3:N / D - (A - M) / A=(N - D) / D+M / A:=by grind
  rw[e3]
  have e4:((N - D)*(A*O)+D*(M*O)) / D / (A*O)=(N - D) / D+(D*(M*O)) / D / (A*O):=by grind
  rw[e4]
  grind
 rw[← e1]
 grind
theorem zzC{b:Box}(g:GB b){n:Int}(n0:0≤n)(gn:gnq b n≠0)(W:Rat):((shq W b n).den:Int)∣(W.den:Int)*((b.2.2 - b.2.1) ^ n.toNat*b.2.1):=by
 have m0:(b.2.2 - b.2.1) ^ n.toNat*b.2.1≠0:=λz=>by
  refine gn ?_
  unfold gnq
  rw[z,Rat.zero_divInt]
 have d0:=zcC W
 have o:=zdn g n
 have h:shq W b n=ψy ((W.num - W.den)*(b.2.2 ^ n.toNat*b.2.2)+W.den*((b.2.2 - b.2.1) ^ n.toNat*b.2.2)) ((W.den:Int)*((b.2.2 - b.2.1) ^ n.toNat*b.2.1)):=by
  unfold shq chq gnq
  have hW:=ψz W
  rw[ψn] at hW ⊢
  rw[ψn,ψn]
  simp only[ψj,ψN,ψY] at *
  have a1:((W.den:Int):Rat)≠0:=λz=>d0 (by exact_mod_cast z)
  have a2:((b.2.2 ^ n.toNat:Int):Rat)≠0:=λz=>by
   have:(b.2.2 ^ n.toNat:Int)=0:=by exact_mod_cast z
   omega
  have a3:(((b.2.2 - b.2.1) ^ n.toNat:Int):Rat)≠0:=λz=>by
   have:((b.2.2 - b.2.1) ^ n.toNat:Int)=0:=by exact_mod_cast z
   exact m0 (by rw[this,Int.zero_mul])
  have a4:(b.2.1:Rat)≠0:=λz=>by
   have:b.2.1=0:=by exact_mod_cast z
   exact m0 (by rw[this,Int.mul_zero])
  have a5:(b.2.2:Rat)≠0:=λz=>by
   have:b.2.2=0:=by exact_mod_cast z
   have:=g.2.2.1
   have:=g.2.2.2.1
   omega
  generalize ((b.2.2 ^ n.toNat:Int):Rat)=A at *
  generalize (((b.2.2 - b.2.1) ^ n.toNat:Int):Rat)=M at *
  generalize (b.2.2:Rat)=O at *
  generalize (b.2.1:Rat)=X at *
  generalize (W.num:Rat)=N at *
  generalize ((W.den:Int):Rat)=D at *
  rw[← hW]
  exact zyg a1 a2 a3 a4 a5
 rw[h]
 exact zxS _ _ (ψS d0 m0)
theorem zxV{bs:List Box}{ns:List Int}{W:Rat}{D:Int}(gb:∀b∈bs,GB b)(n0:∀n∈ns,0≤n)(G:Gn bs ns)(l6:bs.length≤6)(cs:(QbK).sum≤60)(bW:Bq 1300 W)(C:Com (Qcn) D):Bd 1800 D:=by
 have st:=zhV bs ns gb n0
 have key:∀xs:List (Box×Int),(∀x∈xs,GB x.1∧0≤x.2∧gnq x.1 x.2≠0)→∃M:Int,0<M∧Bd (6*(xs.map λx=>x.2.toNat).sum+8*xs.length+1) M∧∀x∈xs,(x.1.2.2 - x.1.2.1) ^ x.2.toNat*x.1.2.1∣M:=by
  intro xs
  induction xs with
  | nil=>exact λ_=>⟨1,by decide,by show(1:Nat)<2 ^ _;exact Nat.one_lt_two_pow (Qe),by simp⟩
  | cons x xs ih =>
   intro h
   obtain⟨M,M0,hM,hd⟩:=ih λy hy=>h y (ψd _ hy)
   obtain⟨g,x0,gx⟩:=h x ψf
   have z:(x.1.2.2 - x.1.2.1) ^ x.2.toNat*x.1.2.1≠0:=λz=>by
    refine gx ?_
    unfold gnq
    rw[z,Rat.zero_divInt]
   obtain⟨g1,g2,g3,g4,g5⟩:=g
   have p:=(zpc (b:=x.1.2.2 - x.1.2.1) (Qe) (Qe) x.2.toNat).1
   have p2:=ψY1 p (show 0≤x.1.2.1 by omega)
   have hb:Bd 6 x.1.2.1:=by show x.1.2.1.natAbs<2 ^ 6;omega
   have b1:=((zif (b:=x.1.2.2 - x.1.2.1) (Qe) (Qe) x.2.toNat).mul hb).mul hM
   refine⟨_,ψv1 (Qe) M0,b1.mono (by rw[ψu,ψk,ψM];omega),λy hy=>?_⟩
   rcases List.mem_cons.mp hy with rfl | hy
   ·exact Int.dvd_mul_right ..
   ·exact Int.dvd_trans (hd y hy) (Int.dvd_mul_left ..)
 obtain⟨M,M0,hM,hd⟩:=key (Qay) λx hx=>by
  obtain⟨i,ei⟩:=ψq hx
  rw[ψK] at ei
  exact⟨gb _ (zap ei.1),n0 _ (zap ei.2),G i _ _ ei.1 ei.2⟩
 have zl:(Qay).length≤6:=by rw[List.length_zip];omega
 have dv:D∣(W.den:Int)*M:=C.least _ (zg9 _ λi b n e1 e2=>Int.dvd_trans (zzC (gb b (zap e1)) (n0 n (zap e2)) (G i b n e1 e2) W) (Int.mul_dvd_mul_left _ (hd (b,n) (ψP (List.getElem?_zip_eq_some.mpr ⟨e1,e2⟩)))))
 have pos:=ψv1 (zb4 W) M0
 exact((bW.bot.mul hM).le (Nat.le_of_dvd (Qe) (Int.natAbs_dvd_natAbs.mpr dv))).mono (Qe)
structure PapW (bs:List Box) (ns Ws:List Int) (P:Rat):Prop where
 len:Ws.length=bs.length
 eq:∀(i:Nat) b n w,bs[i]?=some b→ns[i]?=some n→Ws[i]?=some w→(w:Rat)=wq b n*P
 p0:0<P
 wb:∀w∈Ws,Bd 2700 w
 pb:Bq 2700 P
theorem zvF{q:Rat}{D:Int}(h:(q.den:Int)∣D):((q.num*(D / q.den):Int):Rat)=q*(D:Rat):=by
 obtain⟨k,rfl⟩:=h
 have d0:=zb4 q
 rw[Int.mul_ediv_cancel_left _ (Qe),ψj,ψj]
 have e:((q.den:Int):Rat)*q=(q.num:Rat):=by
  have h:=ψz q
  rw[ψn] at h
  have z:((q.den:Int):Rat)≠0:=λz=>by
   have:(q.den:Int)=0:=by exact_mod_cast z
   omega
  have h2:(q.num:Rat)=q*((q.den:Int):Rat):=by
   generalize (q.num:Rat)=a at h ⊢
   generalize ((q.den:Int):Rat)=b at h z ⊢
   grind
  rw[h2,Rat.mul_comm]
 grind
theorem papW{bs:List Box}{ns:List Int}{D g:Int}(gb:∀b∈bs,GB b)(n0:∀n∈ns,0≤n∧n≤60)(G:Gn bs ns)(len:ns.length=bs.length)(l1:1≤bs.length)(l6:bs.length≤6)(C:Com (Qaz) D)(Gg:zqi ((Qaz).map λq=>q.num*(D / q.den)) g) :
  PapW bs ns (((Qaz).map λq=>q.num*(D / q.den)).map λn=>n.fdiv g) (ψy D g)∧0<g∧Bd 2661 g:=by
 have lw:(Qaz).length=bs.length:=by rw[wqs,ψo];omega
 have bw:∀q∈wqs bs ns,Bq 380 q∧0<q:=zg9 _ λi b n e1 e2=>⟨(zng (gb b (zap e1)) (G i b n e1 e2)).mono (by have:=n0 n (zap e2);omega),znf (gb b (zap e1)) (G i b n e1 e2)⟩
 have D0:=C.pos
 have bD:Bd 2281 D:=(C.bd λq hq=>(bw q hq).1).mono (Qe)
 have tp:∀q∈wqs bs ns,0<q.num*(D / q.den)∧Bd 2661 (q.num*(D / q.den)):=λq hq=>by
  obtain⟨b1,q0⟩:=bw q hq
  have hd:=C.all q hq
  have dp:=zb4 q
  have h1:0<D / (q.den:Int):=Int.ediv_pos_of_pos_of_dvd D0 (ψD dp) hd
  have h2:0<q.num:=by
   have a:=Rat.num_nonneg.mpr (ψC q0)
   have b:q.num≠0:=zoS (by grind)
   omega
  have h3:=ψK1 (q.den:Int) (ψD D0)
  exact⟨ψv1 h2 h1,(b1.top.mul (bD.le (x:=D / (q.den:Int)) (Qe))).mono (Qn)⟩
 obtain⟨q0,hq0⟩:∃q,q∈wqs bs ns:=⟨(Qaz)[0]'(by omega),ψs1 _⟩
 have hm0:q0.num*(D / q0.den)∈(Qaz).map λq=>q.num*(D / q.den):=List.mem_map.mpr ⟨q0,hq0,rfl⟩
 obtain⟨t1,t2⟩:=tp q0 hq0
 have g0:=Gg.ne hm0 (Qe)
 have bg:Bd 2661 g:=t2.le (Gg.le hm0 (Qe))
 refine⟨⟨by rw[ψb,ψb,lw],λi b n w e1 e2 e3=>?_,?_,λw hw=>?_,zb8 (Qe) (bD.mono (Qn)) (bg.mono (Qn))⟩,g0,bg⟩
 ·obtain⟨x,ex,rfl⟩:=zat e3
  obtain⟨q,eq,rfl⟩:=zat ex
  have e:=ziO e1 e2 eq
  have hd:=Gg.all _ (List.mem_map.mpr ⟨q,zap eq,rfl⟩)
  have f:=zdh hd
  have h:=zvF (C.all q (zap eq))
  rw[← f,ψj] at h
  have gr:(g:Rat)≠0:=λz=>by
   have:g=0:=by exact_mod_cast z
   omega
  rw[ψn,← e]
  generalize (((q.num*(D / (q.den:Int))).fdiv g:Int):Rat)=w at h ⊢
  grind
 ·rw[ψn,Rat.div_def]
  exact ψw1 (by exact_mod_cast D0) (Rat.inv_pos.mpr (by exact_mod_cast g0))
 ·obtain⟨x,hx,rfl⟩:=List.mem_map.mp hw
  obtain⟨q,hq,rfl⟩:=List.mem_map.mp hx
  have f:=zdh (Gg.all _ hx)
  exact((tp q hq).2.le (zgs f (Qe))).mono (Qn)
def zmt:Sp:=λvs H Q _=>∃(l pl:Addr) (ts:List Addr) (bs:List Box) (ns:List Int),vs=[.ref l,.ref pl]∧BP H l pl ts bs ns∧Gn bs ns∧bs.length≤6∧∀(r wl pp cl:Addr) (Ws:List Int) (P:Rat) (H':Hp),zaI H H'→H' r=some (Q3)→H' wl=some (QaI)→H' pp=some (Qbq)→H' cl=some (QS)→PapW bs ns Ws P→H wl=none→H cl=none→Q (Q0) H'
def zin(K:ψa):TS :=
 (zbd (zbO (zaz zk2 [] E0 (zab (zaz zrI [] E0 (Q7)) zau)) (Qba))
 (zbd (zbO (zaz zlr [] E0 (Qan)) (zam 4))
 (zbU (zeG (zab (zb3 (zcz K (zac 2)) (zam 0) za5 (tOp (QA) (zac 0) (zac 1)) [none,some 4]) (zab (zaz zmZ [] E0 (zab (zac 3) (QaQ))) (zab (tCB (Qt) (QD)) zau)))))))
theorem znH{l pl:Addr}{ts:List Addr}{bs:List Box}{ns:List Int}(B:BP H l pl ts bs ns)(G:Gn bs ns)(l6:bs.length≤6)(q:∀(r wl pp cl:Addr) (Ws:List Int) (P:Rat) (H':Hp),zaI H H'→H' r=some (Q3)→H' wl=some (QaI)→H' pp=some (Qbq)→H' cl=some (QS)→PapW bs ns Ws P→H wl=none→H cl=none→Q (Q0) H') :
  zin K { nx:=λ_ H'=>Q .non H',rt:=Q } (L2.start ["boxes","counts","weights","bottom","shared"] [.ref l,.ref pl]) H:=by
 unfold zin
 simp_all only [zac]
 refine⟨l,pl,ts,bs,ns,rfl,B,G,λfl us H1 s1 h1 T1=>?_⟩
 have lw:(Qaz).length=bs.length:=by rw[wqs,ψo,B.len];omega
 refine⟨fl,us,_,rfl,h1,T1,by omega,zg9 _ λi b n e1 e2=>(zzW (B.gb b (zap e1)) (B.gn n (zap e2)).2 (G i b n e1 e2)).mono (Qn),λcr tl D H2 s2 C h2 ntl htl=>?_⟩
 simp_all only [zac]
 refine⟨_,SqT.of h2,rfl,_,_,rfl,_,_,rfl,rfl,?_⟩
 refine⟨tl,_,rfl,htl,λg Gg=>?_⟩
 obtain⟨PW,g0,bg⟩:=papW B.gb B.gn G B.len B.l1 l6 C Gg
 simp_all only [zac]
 refine⟨⟨_,SqL.of htl⟩,λD1 hD1=>?_⟩
 refine zcx (vs:=(((Qaz).map λq=>q.num*(D / q.den)).map λn=>n.fdiv g).map V.int) htl (Qby) (by simp;omega) hD1 (Qal) λH3 s3 h3=>?_
 ·obtain⟨n,en,rfl⟩:=zat hx
  obtain⟨y,ey,rfl⟩:=zat hv
  obtain⟨n',en',rfl⟩:=zat ey
  rw[en] at en'
  cases en'
  simp_all only [zac]
  exact⟨by omega,zhJ 2661 (Qe) bg,k _ (QbA)⟩
 refine⟨_,_,rfl,by omega,bg.mono (Qn),λpp H4 s4 h4=>?_⟩
 have hp4:=s4 _ _ (s3 _ _ (s2 _ _ (s1 _ _ B.hp)))
 refine⟨_,.inl (SqL.of hp4),λcl ncl=>?_⟩
 have s5:=zan ncl (QS)
 have h5:(L2.upd H4 cl (QS)) cl=some (.lst (Qcx)):=zai
 generalize L2.upd H4 cl (.lst (Qcx))=H5 at s5 h5 ⊢
 refine(Qbc)
 have s6:=zan nr (.tup [V.ref D1,V.ref pp,V.ref cl])
 have h6:(L2.upd H5 r (.tup [V.ref D1,V.ref pp,V.ref cl])) r=some (.tup [V.ref D1,V.ref pp,V.ref cl]):=zai
 generalize L2.upd H5 r (.tup [V.ref D1,V.ref pp,V.ref cl])=H6 at s6 h6 ⊢
 exact q r D1 pp cl _ _ H6 (s1.trans (s2.trans (s3.trans (s4.trans (s5.trans s6))))) h6 (s6 _ _ (s5 _ _ (s4 _ _ h3))) (s6 _ _ (s5 _ _ h4)) (s6 _ _ h5) PW ((QaD).free hD1) ((s1.trans (s2.trans (s3.trans s4))).free ncl)
theorem zfG:zaB ["boxes","counts","weights","bottom","shared"] ["boxes","counts"] (zag zgx):=⟨rfl,rfl,rfl,by decide +kernel,rfl,by decide +kernel,by decide +kernel⟩
theorem znp(T:Txt K mg a):zcn P w K mg base CX0 5 a.f_paper_of a.d_paper_of ["boxes","counts"] zmt:=by
 have G_common:=zmK (P:=P) (w:=w) (base:=base) T
 have G_fair_weights:=zf9 (P:=P) (w:=w) (base:=base) T
 have G_ratio:=zfv (P:=P) (w:=w) (base:=base) T
 have G_shared_divisor:=ze3 (P:=P) (w:=w) (base:=base) T
 refine T.F_paper_of.ok zfG (Qj) (Qd)
 ·obtain⟨l,pl,ts,bs,ns,rfl,B,G,l6,q⟩:=h
  rfl
 obtain⟨l,pl,ts,bs,ns,rfl,B,G,l6,q⟩:=h
 exact⟨zin K,(zaf (zcY (zah G_common (Qa) rfl T.m_common T.F_common.kp T.b_common .nil zax (zaa (zah G_fair_weights (Qa) rfl T.m_fair_weights T.F_fair_weights.kp T.b_fair_weights .nil zax (Qac)) zad)) (zbu rfl (zal (zak (i:=2) zfG.nd rfl (Qf)) (zal (zak (i:=3) zfG.nd rfl (Qf)) za3))))
 (zaf (zaN (i:=4) zfG.nd rfl (Qbd) (zah G_shared_divisor (Qa) rfl T.m_shared_divisor T.F_shared_divisor.kp T.b_shared_divisor .nil zax (Qaw)))
 (zaj (zar (zbE (zaa (zbi (sc:=zag zgx) (N:=["boxes","counts","weights","bottom","shared"]) (Nc:=["weight","shared"]) (cap:=[none,some 4]) rfl rfl rfl (Qi) (zbl (pv 2)) (λ_ _ _ _=>(zak (i:=0) (show ψh (["weight","shared"]:List Str) from by decide) rfl (Qf))) (QF) (λ_ _ _ _=>(zas zdF (pv 0) (pv 1)))) (zaa (zah G_ratio (Qa) rfl T.m_ratio T.F_ratio.kp T.b_ratio .nil zax (zaa (pv 3) (QbL))) (zaa (QbF) zad)))))))),
  znH B G l6 q⟩
abbrev Yb:=Box×Int×Rat
def yv(z:Yb):Rat:=(z.2.1:Rat)+z.2.2
def cy(z:Yb):Rat:=(z.1.1:Rat)*yv z
def cys(zs:List Yb):Rat:=(zs.map cy).sum
theorem zlQ{b:Box}(g:GB b){n:Int}(n0:0≤n):chq b (n+1)=chq b n+gnq b n:=by
 rw[zff g,zff g,zfL g,show(n+1).toNat=n.toNat+1 by omega,ψe1]
 grind
theorem zkD{b:Box}(g:GB b)(n:Int):0≤gnq b n:=by
 obtain⟨p0,p1,_⟩:=zkh g
 rw[zfL g]
 exact ψg1 (zbK (ψC p0) p1 _).2.1 (ψC p0)
theorem zyK{n:Int}(n0:0≤n):((n.toNat:Nat):Rat)=(n:Rat):=by
 have:((n.toNat:Nat):Int)=n:=Int.toNat_of_nonneg n0
 exact_mod_cast congrArg (Int.cast (R:=Rat)) this
theorem zqM{b:Box}(g:GB b){m n:Int}(m0:0≤m)(n0:0≤n):chq b m≤chq b n+gnq b n*((m:Rat) - (n:Rat)):=by
 obtain⟨p0,p1,_⟩:=zkh g
 have hc:=conc (ψC p0) p1 n.toNat m.toNat
 rw[zyK n0,zyK m0,← zfL g n] at hc
 rw[zff g m,zff g n]
 grind
theorem zvW(W:Rat):∀(bs:List Box) (ns:List Int),(Qav)→Gn bs ns→ns.length=bs.length→cys (ψe (QbM) bs ns)=((QbK).sum:Rat)+((Qay).map λx=>wq x.1 x.2*(W - chq x.1 x.2)).sum
 | [],ns,_,_,_=>by
  simp only[cys,zaF,ψp1,List.zip_nil_left,ψl1,ψT]
  rw[show((0:Int):Rat)=0 from rfl]
  grind
 | _::_,[],_,_,h=>by cases h
 | b::bs,n::ns,gb,G,len=>by
  have ih:=zvW W bs ns (QaL) (λi b' n' e1 e2=>G (i+1) b' n' e1 e2) (Nat.succ.inj len)
  have gn:=G 0 b n rfl rfl
  show cy (b,n,shq W b n)+cys (ψe (QbM) bs ns)=((b.1*n+(zaF bs ns).sum:Int):Rat)+(wq b n*(W - chq b n)+((Qay).map λx=>wq x.1 x.2*(W - chq x.1 x.2)).sum)
  rw[ih,ψN,ψj]
  have e:cy (b,n,shq W b n)=(b.1:Rat)*(n:Rat)+wq b n*(W - chq b n):=by
   show(b.1:Rat)*((n:Rat)+shq W b n)=_
   unfold shq wq
   grind
  rw[e]
  grind
def wds(R:Int):List Int→List Int
 | []=>[]
 | [x]=>[R - x]
 | x::y::ms=>(y - x)::wds R (y::ms)
theorem ztv(R:Int):∀ms:List Int,ms≠[]→ψe (λa b=>b - a) ms (ms.drop 1++[R])=wds R ms
 | [],h=>absurd rfl h
 | [x],_=>rfl
 | x::y::ms,_=>by
  have ih:=ztv R (y::ms) (Qby)
  show(y - x)::ψe (λa b=>b - a) (y::ms) (ms++[R])=(y - x)::wds R (y::ms)
  rw[← ih]
  rfl
theorem ze4(R:Int):∀ms:List Int,(QaR).length=ms.length
 | []=>rfl
 | [x]=>rfl
 | x::y::ms=>by
  show(wds R (y::ms)).length+1=_
  rw[ze4 R (y::ms)]
  rfl
theorem zoG{R:Int}:∀ms:List Int,ms.Pairwise (·<·)→(∀x∈ms,x<R)→∀w∈wds R ms,0<w
 | [],_,_,w,h=>by cases h
 | [x],_,hR,w,h=>by
  rw[List.mem_singleton.mp h]
  have:=hR x ψf
  omega
 | x::y::ms,hp,hR,w,h=>by
  obtain⟨h1,h2⟩:=List.pairwise_cons.mp hp
  rcases List.mem_cons.mp h with rfl | h
  ·have:=h1 y ψf
   omega
  ·exact zoG (y::ms) h2 (λz hz=>hR z (ψd _ hz)) w h
theorem zma{R:Int}:∀(h:Int) (ms:List Int),(h::ms).Pairwise (·<·)→(∀x∈h::ms,x<R)→∀b,(b∈h::ms∨b=R)→(ψe (QbT) (h::ms) (wds R (h::ms))).sum=b - h
 | h,[],_,hR,b,hb=>by
  have l:=hR h ψf
  show(if h<b then R - h else 0)+0=b - h
  rcases hb with hb | rfl
  ·rw[List.mem_singleton.mp hb,if_neg (Qe)]
   omega
  ·rw[if_pos l]
   omega
 | h,y::ms,hp,hR,b,hb=>by
  obtain⟨h1,h2⟩:=List.pairwise_cons.mp hp
  have ih:=zma y ms h2 (λz hz=>hR z (ψd _ hz)) 
  show(if h<b then y - h else 0)+(ψe (QbT) (y::ms) (wds R (y::ms))).sum=b - h
  have hl:=hR h ψf
  have ge:∀z∈y::ms,h<z:=h1
  by_cases c:b=h
  ·subst c
   have z:∀(es ws:List Int),(∀e∈es,b<e)→(ψe (QbT) es ws).sum=0:=by
    intro es
    induction es with
    | nil=>intro ws _;rfl
    | cons e es ihe =>
     intro ws he
     cases ws with
     | nil=>rfl
     | cons w ws =>
      rw[ψJ,ψk,ihe ws λz hz=>he z (ψd _ hz),if_neg (by have:=he e ψf;omega)]
      rfl
   rw[if_neg (Qe),z _ _ ge]
   omega
  ·have hb2:b∈y::ms∨b=R:=by
    rcases hb with hb | hb
    ·rcases List.mem_cons.mp hb with hb | hb
     ·exact absurd hb c
     ·exact .inl hb
    ·exact .inr hb
   have lt:h<b:=by
    rcases hb2 with hb | hb
    ·exact ge b hb
    ·omega
   rw[if_pos lt,ih b hb2]
   omega
theorem zi8(f g:Int→Int→Int):∀(es ws:List Int),(ψe (λe w=>f e w+g e w) es ws).sum=(ψe f es ws).sum+(ψe g es ws).sum
 | [],_=>by simp
 | _::_,[]=>by simp
 | e::es,w::ws=>by
  simp only[ψJ,ψk]
  rw[zi8 f g es ws]
  omega
theorem zlj(f g:Int→Int→Int):∀(es ws:List Int),(ψe (λe w=>f e w - g e w) es ws).sum=(ψe f es ws).sum - (ψe g es ws).sum
 | [],_=>by simp
 | _::_,[]=>by simp
 | e::es,w::ws=>by
  simp only[ψJ,ψk]
  rw[zlj f g es ws]
  omega
theorem zcR{f g:Int→Int→Int}:∀(es ws:List Int),(∀e∈es,∀w,f e w=g e w)→(ψe f es ws).sum=(ψe g es ws).sum
 | [],_,_=>by simp
 | _::_,[],_=>by simp
 | e::es,w::ws,h=>by
  simp only[ψJ,ψk]
  rw[h e ψf w,zcR es ws λx hx=>h x (Qbr)]
theorem zi2:∀(es ws:List Int),ws.length=es.length→(ψe (λ_ w=>w) es ws).sum=ws.sum
 | [],[],_=>rfl
 | [],_::_,h=>by cases h
 | _::_,[],h=>by cases h
 | e::es,w::ws,h=>by
  rw[ψJ,ψk,ψk,zi2 es ws (Nat.succ.inj h)]
structure Edg (R:Int) (ms:List Int):Prop where
 ne:ms≠[]
 srt:ms.Pairwise (·<·)
 lo:∀x∈ms,0≤x
 hi:∀x∈ms,x<R
 zero:(0:Int)∈ms
theorem Edg.ahead{R:Int}{ms:List Int}(h:Edg R ms){b:Int}(hb:b∈ms∨b=R):(ψe (QbT) ms (QaR)).sum=b:=by
 cases ms with
 | nil=>exact absurd rfl h.ne
 | cons x ms =>
  have x0:x=0:=by
   have l:=h.lo x ψf
   rcases List.mem_cons.mp h.zero with z | z
   ·exact z.symm
   ·have:=(List.pairwise_cons.mp h.srt).1 0 z
    omega
  have:=zma x ms h.srt h.hi b hb
  rw[this,x0]
  omega
theorem Edg.whole{R:Int}{ms:List Int}(h:Edg R ms):(QaR).sum=R:=by
 have a:=h.ahead (b:=R) (.inr rfl)
 rw[← zi2 ms (QaR) (ze4 R ms),← zcR (f:=λe w=>if e<R then w else 0) ms (QaR) λe he w=>if_pos (h.hi e he)]
 exact a
theorem ze0{x R k:Int}(h0:0≤x - R*k)(h1:x - R*k<R):x.fmod R=x - R*k:=by
 have R0:0<R:=by omega
 have e:=ψm1 x R
 have f0:=ψi1 x R0
 have f1:=ψB1 x R0
 have:R*(x.fdiv R - k)=(x - R*k) - x.fmod R:=by
  rw[ψW1]
  omega
 have d:x.fdiv R - k=0:=by
  refine ψE λz=>?_
  rcases Int.lt_or_gt_of_ne z with c | c
  ·have:=Int.mul_le_mul_of_nonneg_left (show x.fdiv R - k≤-1 by omega) (ψD R0)
   omega
  ·have:=Int.mul_le_mul_of_nonneg_left (show 1≤x.fdiv R - k by omega) (ψD R0)
   omega
 rw[d,Int.mul_zero] at this
 omega
def cov(R s L e:Int):Bool:=decide ((e - s).fmod R<L)
theorem Edg.arc{R:Int}{ms:List Int}(h:Edg R ms){s L:Int}(hs:s∈ms)(L0:0≤L)(L1:L≤R)(he:(s+L).fmod R∈ms):(ψe (QbS) ms (QaR)).sum=L:=by
 have s0:=h.lo s hs
 have s1:=h.hi s hs
 have as:=h.ahead (.inl hs)
 by_cases c:s+L≤R
 ·have hb:s+L∈ms∨s+L=R:=by
   by_cases c2:s+L=R
   ·exact .inr c2
   ·rw[ze0 (k:=0) (Qe) (Qe)] at he
    rw[Int.mul_zero,Int.sub_zero] at he
    exact .inl he
  have ab:=h.ahead hb
  rw[zcR (g:=λe w=>(if e<s+L then w else 0) - (if e<s then w else 0)) ms (QaR) λe hm w=>?_,zlj,ab,as]
  ·omega
  have e0:=h.lo e hm
  have e1:=h.hi e hm
  unfold cov
  by_cases c3:e<s
  ·rw[ze0 (k:=-1) (by rw[ψE1];omega) (by rw[ψE1];omega),if_neg (by rw[ψE1];simp;omega),if_pos (Qe),if_pos c3]
   omega
  ·rw[ze0 (k:=0) (Qe) (Qe),if_neg c3]
   by_cases c4:e<s+L
   ·rw[if_pos (by simp;omega),if_pos c4]
    omega
   ·rw[if_neg (by simp;omega),if_neg c4]
    rfl
 ·rw[ze0 (k:=1) (Qe) (Qe),Int.mul_one] at he
  have ab:=h.ahead (.inl he)
  have w:=h.whole
  rw[zcR (g:=λe w=>(w - (if e<s then w else 0))+(if e<s+L - R then w else 0)) ms (QaR) λe hm w=>?_,zi8,zlj,ab,as,zi2 ms (QaR) (ze4 R ms),w]
  ·omega
  have e0:=h.lo e hm
  have e1:=h.hi e hm
  unfold cov
  by_cases c3:e<s
  ·rw[ze0 (k:=-1) (by rw[ψE1];omega) (by rw[ψE1];omega),if_pos c3]
   by_cases c4:e<s+L - R
   ·rw[if_pos (by rw[ψE1];simp;omega),if_pos c4]
    omega
   ·rw[if_neg (by rw[ψE1];simp;omega),if_neg c4]
    omega
  ·have c4:¬ e<s+L - R:=by omega
   rw[ze0 (k:=0) (Qe) (Qe),if_neg c3,if_neg c4,if_pos (by simp;omega)]
   omega
def zky:Int→List Int→List Int
 | A,[]=>[A]
 | A,L::ls=>A::zky (A+L) ls
theorem zxY{R A L e:Int}(R0:0<R)(L0:0≤L)(L1:L≤R):(if cov R (A.fmod R) L e=true then (1:Int) else 0)=(e - A).fdiv R - (e - (A+L)).fdiv R:=by
 have ea:=ψm1 (e - A) R
 have f0:=ψi1 (e - A) R0
 have f1:=ψB1 (e - A) R0
 have eA:=ψm1 A R
 have es:(e - A.fmod R).fmod R=(e - A).fmod R:=by
  rw[ze0 (x:=e - A.fmod R) (k:=(e - A).fdiv R+A.fdiv R) (by rw[Int.mul_add];omega) (by rw[Int.mul_add];omega),Int.mul_add]
  omega
 have key:∀k:Int,0≤(e - (A+L)) - R*k→(e - (A+L)) - R*k<R→(e - (A+L)).fdiv R=k:=λk h0 h1=>by
  have m:=ze0 h0 h1
  have ex:=ψm1 (e - (A+L)) R
  have:R*((e - (A+L)).fdiv R - k)=0:=by
   rw[ψW1]
   omega
  rcases Int.mul_eq_zero.mp this with z | z <;> omega
 unfold cov
 rw[es]
 by_cases c:(e - A).fmod R<L
 ·rw[if_pos (decide_eq_true c),key ((e - A).fdiv R - 1) (by rw[ψW1];omega) (by rw[ψW1];omega)]
  omega
 ·rw[if_neg (Qa4),key ((e - A).fdiv R) (Qe) (Qe)]
  omega
theorem zmF{R e:Int}(R0:0<R):∀(ls:List Int) (A:Int),(∀L∈ls,0≤L∧L≤R)→(ψe (λa L=>if cov R (a.fmod R) L e=true then (1:Int) else 0) (zky A ls) ls).sum=(e - A).fdiv R - (e - (A+ls.sum)).fdiv R
 | [],A,_=>by
  show(0:Int)=_
  rw[ψT,Int.add_zero]
  omega
 | L::ls,A,h=>by
  have ih:=zmF (e:=e) R0 ls (A+L) λx hx=>h x (Qbr)
  obtain⟨h0,h1⟩:=h L ψf
  show(if cov R (A.fmod R) L e=true then (1:Int) else 0)+(ψe (λa L=>if cov R (a.fmod R) L e=true then (1:Int) else 0) (zky (A+L) ls) ls).sum=_
  rw[ih,zxY R0 h0 h1,ψk,Int.add_assoc]
  omega
def pln(R:Int)(ns ss ls:List Int)(e:Int):List Int:=ψe (λn (c:Bool)=>if c=true then n+1 else n) ns (ψe (λs L=>cov R s L e) ss ls)
theorem zpd(R n s L e:Int)(ns ss ls:List Int):pln R (n::ns) (s::ss) (L::ls) e=(if cov R s L e=true then n+1 else n)::pln R ns ss ls e:=rfl
theorem zrh{R e:Int}{ns ss ls:List Int}(h1:ls.length=ns.length)(h2:ls.length≤ss.length):(QaJ).length=ns.length:=by
 unfold pln
 rw[ψo,ψo]
 omega
theorem zvu{R e:Int}{ns ss ls:List Int}{k:Nat}{n s L:Int}(h1:ns[k]?=some n)(h2:ss[k]?=some s)(h3:ls[k]?=some L):(QaJ)[k]?=some (if cov R s L e=true then n+1 else n):=by
 unfold pln
 rw[ψX,ψX,h1,h2,h3]
structure zuH (bs:List Box) (bud:Int) (W:Rat) (xs:List (List Int×Int)):Prop where
 l1:1≤xs.length
 ln:xs.length≤bs.length+1
 pl:∀x∈xs,x.1.length=bs.length∧∀m∈x.1,0≤m∧m≤60
 w0:∀x∈xs,1≤x.2
 wb:∀x∈xs,Bd 1800 x.2
 ch:∀(k:Nat) b,bs[k]?=some b→(xs.map λx=>(x.2:Rat)*chq b (x.1.getD k 0)).sum=W*(((QM).sum:Int):Rat)
 co:(xs.map λx=>x.2*(zaF bs x.1).sum).sum=bud*(xs.map λx=>x.2).sum
 one:(∀b∈bs,b.1=1)→∀x∈xs,x.1.sum≤bud
theorem zja(f:Int→Int):∀(es ws:List Int) (g:Int),(∀w∈ws,g∣w)→(ψe (λe w=>w.fdiv g*f e) es ws).sum*g=(ψe (λe w=>w*f e) es ws).sum
 | [],_,_,_=>by simp
 | _::_,[],_,_=>by simp
 | e::es,w::ws,g,h=>by
  have ih:=zja f es ws g λx hx=>h x (Qbr)
  have d:=zdh (h w ψf)
  simp only[ψJ,ψk]
  rw[Int.add_mul,ih,Int.mul_right_comm,d]
def zih(R:Int)(ns ss ls ms ws:List Int):List (List Int×Int):=ψe (λe w=>(pln R ns ss ls e,w)) ms ws
theorem zlE{α:Type}(f:List Int×Int→α)(R:Int)(ns ss ls ms ws:List Int):(zih R ns ss ls ms ws).map f=ψe (λe w=>f (pln R ns ss ls e,w)) ms ws:=by
 unfold zih
 rw[List.map_zipWith]
theorem zk3(h:Int→Int→Int)(g:Int):∀(es ws:List Int),ψe h es (ws.map λw=>w.fdiv g)=ψe (λe w=>h e (w.fdiv g)) es ws
 | [],_=>by simp
 | _::_,[]=>by simp
 | e::es,w::ws=>by
  rw[ψu,ψJ,ψJ,zk3 h g es ws]
def cnl(R:Int):List Box→List Int→List Int→Int
 | b::bs,n::ns,L::ls=>b.1*(n*R+L)+cnl R bs ns ls
 | _,_,_=>0
theorem zmM{R:Int}{ms ws:List Int}(wR:(ψe (λ_ w=>w) ms ws).sum=R):∀(bs:List Box) (ns ss ls:List Int),ns.length=bs.length→ls.length=bs.length→bs.length≤ss.length→(∀(i:Nat) s L,ss[i]?=some s→ls[i]?=some L→(ψe (QbS) ms ws).sum=L) →
  (ψe (λe w=>w*(zaF bs (QaJ)).sum) ms ws).sum=cnl R bs ns ls
 | [],ns,ss,ls,_,_,_,_=>by
  rw[zcR (g:=λ_ _=>0) ms ws λe _ w=>by simp[zaF]]
  show _=(0:Int)
  have:∀es us:List Int,(ψe (λ_ _=>(0:Int)) es us).sum=0:=by
   intro es
   induction es with
   | nil=>intro us;rfl
   | cons e es ih =>
    intro us
    cases us with
    | nil=>rfl
    | cons u us =>
     rw[ψJ,ψk,ih us]
     rfl
  exact this ms ws
 | _::_,[],_,_,h,_,_,_=>by cases h
 | _::_,_::_,_,[],_,h,_,_=>by cases h
 | _::_,_::_,[],_::_,_,_,h,_=>by cases h
 | b::bs,n::ns,s::ss,L::ls,h1,h2,h3,h=>by
  have ih:=zmM wR bs ns ss ls (Nat.succ.inj h1) (Nat.succ.inj h2) (Nat.le_of_succ_le_succ h3) λi s' L' e1 e2=>h (i+1) s' L' e1 e2
  have a:=h 0 s L rfl rfl
  have sc:∀(c:Int) (f:Int→Int→Int) (es us:List Int),(ψe (λe w=>c*f e w) es us).sum=c*(ψe f es us).sum:=by
   intro c f es
   induction es with
   | nil=>intro us;simp
   | cons e es ihe =>
    intro us
    cases us with
    | nil=>simp
    | cons u us =>
     simp only[ψJ,ψk]
     rw[ihe us,Int.mul_add]
  rw[zcR (g:=λe w=>(b.1*(n*w+(if cov R s L e=true then w else 0)))+w*(zaF bs (QaJ)).sum) ms ws λe _ w=>?_,zi8,ih,sc b.1 (λe w=>n*w+(if cov R s L e=true then w else 0)),zi8,a,sc n (λ_ w=>w),wR]
  ·rfl
  rw[zpd]
  show w*(b.1*(if cov R s L e=true then n+1 else n)+(zaF bs (QaJ)).sum)=_
  by_cases c:cov R s L e=true
  ·rw[if_pos c,if_pos c]
   grind
  ·rw[if_neg c,if_neg c]
   grind
theorem zsz{R e:Int}:∀(ns ss ls:List Int),ls.length=ns.length→ns.length≤ss.length→(QaJ).sum=ns.sum+(ψe (λs L=>if cov R s L e=true then (1:Int) else 0) ss ls).sum
 | [],ss,ls,h,_=>by
  have:ls=[]:=List.length_eq_zero_iff.mp h
  subst this
  simp[pln]
 | _::_,_,[],h,_=>by cases h
 | _::_,[],_::_,_,h=>by cases h
 | n::ns,s::ss,L::ls,h1,h2=>by
  rw[zpd,ψk,zsz ns ss ls (Nat.succ.inj h1) (Nat.le_of_succ_le_succ h2),ψJ,ψk,ψk]
  split <;> omega
theorem zsf{R:Int}:∀(bs:List Box) (ns ls:List Int),(∀b∈bs,b.1=1)→ns.length=bs.length→ls.length=bs.length→cnl R bs ns ls=ns.sum*R+ls.sum
 | [],[],[],_,_,_=>by simp[cnl]
 | [],_::_,_,_,h,_=>by cases h
 | [],[],_::_,_,_,h=>by cases h
 | _::_,[],_,_,h,_=>by cases h
 | _::_,_::_,[],_,_,h=>by cases h
 | b::bs,n::ns,L::ls,hb,h1,h2=>by
  show b.1*(n*R+L)+cnl R bs ns ls=_
  rw[zsf bs ns ls (λx hx=>hb x (Qbr)) (Nat.succ.inj h1) (Nat.succ.inj h2),hb b ψf,ψk,ψk,Int.one_mul,Int.add_mul]
  omega
theorem zrD{R:Int}{W:Rat}:∀(bs:List Box) (ns:List Int) (ls:List Int),ns.length=bs.length→ls.length=bs.length→(∀(i:Nat) b n L,bs[i]?=some b→ns[i]?=some n→ls[i]?=some L→(L:Rat)=shq W b n*(R:Rat))→(cnl R bs ns ls:Rat)=cys (ψe (QbM) bs ns)*(R:Rat)
 | [],_,_,_,_,_=>by
  show((0:Int):Rat)=0*(R:Rat)
  rw[show((0:Int):Rat)=0 from rfl]
  grind
 | _::_,[],_,h,_,_=>by cases h
 | _::_,_::_,[],_,h,_=>by cases h
 | b::bs,n::ns,L::ls,h1,h2,h=>by
  have ih:=zrD (R:=R) (W:=W) bs ns ls (Nat.succ.inj h1) (Nat.succ.inj h2) λi b' n' L' e1 e2 e3=>h (i+1) b' n' L' e1 e2 e3
  have h0:=h 0 b n L rfl rfl rfl
  show((b.1*(n*R+L)+cnl R bs ns ls:Int):Rat)=((b.1:Rat)*((n:Rat)+shq W b n)+cys (ψe (QbM) bs ns))*(R:Rat)
  rw[ψN,ψj,ψN,ψj,ih,h0]
  grind
theorem zzT(A B:Rat)(f:Int→Int→Int)(g:Int→Int→Int):∀(es ws:List Int),(ψe (λe w=>A*(f e w:Rat)+B*(g e w:Rat)) es ws).sum=A*(((ψe f es ws).sum:Int):Rat)+B*(((ψe g es ws).sum:Int):Rat)
 | [],_=>by
  simp only[ψl1,ψT]
  rw[show((0:Int):Rat)=0 from rfl]
  grind
 | _::_,[]=>by
  simp only[ψL1,ψT]
  rw[show((0:Int):Rat)=0 from rfl]
  grind
 | e::es,w::ws=>by
  simp only[ψJ,ψk]
  rw[zzT A B f g es ws,ψN,ψN]
  grind
theorem zmP:∀(ls:List Int) (A:Int) (i:Nat) (a L:Int),(zky A ls)[i]?=some a→ls[i]?=some L→(zky A ls)[i+1]?=some (a+L)
 | [],_,_,_,_,_,h=>by cases h
 | L::ls,A,0,a,L',h1,h2=>by
  cases h2
  replace h1:some A=some a:=h1
  cases h1
  cases ls <;> rfl
 | L::ls,A,i+1,a,L',h1,h2=>zmP ls (A+L) i a L' h1 h2
theorem zi5:∀(ls:List Int) (A:Int),(zky A ls).length=ls.length+1
 | [],_=>rfl
 | L::ls,A=>by
  show(zky (A+L) ls).length+1=_
  rw[zi5 ls (A+L)]
  rfl
theorem zsu{x R k:Int}(h0:0≤x - R*k)(h1:x - R*k<R):x.fdiv R=k:=by
 have m:=ze0 h0 h1
 have ex:=ψm1 x R
 have:R*(x.fdiv R - k)=0:=by
  rw[ψW1]
  omega
 rcases Int.mul_eq_zero.mp this with z | z <;> omega
theorem zm2{x L R:Int}(R0:0<R):(x.fmod R+L).fmod R=(x+L).fmod R:=by
 have e:=ψm1 x R
 have e2:=ψm1 (x+L) R
 have f0:=ψi1 (x+L) R0
 have f1:=ψB1 (x+L) R0
 rw[ze0 (x:=x.fmod R+L) (k:=(x+L).fdiv R - x.fdiv R) (by rw[ψW1];omega) (by rw[ψW1];omega),ψW1]
 omega
theorem zpa{w:Int}:∀l:List Int,(∀z∈l,0<z)→(0≤l.sum∧(w∈l→w≤l.sum))
 | [],_=>⟨Int.le_refl 0,λh=>by cases h⟩
 | z::l,hp=>by
  obtain⟨h1,h2⟩:=zpa (w:=w) l λy hy=>hp y (ψd _ hy)
  have:=hp z ψf
  rw[ψk]
  refine⟨by omega,λhm=>?_⟩
  rcases List.mem_cons.mp hm with rfl | hm
  ·omega
  ·have:=h2 hm
   omega
theorem zzR{bs:List Box}{ns ls ms:List Int}{bud R g:Int}{W:Rat}(gb:∀b∈bs,GB b)(n0:∀n∈ns,0≤n)(n59:∀n∈ns,n≤59)(G:Gn bs ns)(len:ns.length=bs.length)(lls:ls.length=bs.length)(hL:∀(i:Nat) b n L,bs[i]?=some b→ns[i]?=some n→ls[i]?=some L→(L:Rat)=shq W b n*(R:Rat)∧0≤L∧L≤R)
  (cs:cys (ψe (QbM) bs ns)=(bud:Rat)) (R0:0<R) (bR:Bd 1800 R) (E:Edg R ms) (lm:ms.length≤bs.length+1) (st:∀a∈zky 0 ls,a.fmod R∈ms) (Gg:zqi (QaR) g) :
  zuH bs bud W (zih R ns ((zky 0 ls).map λa=>a.fmod R) ls ms ((QaR).map λw=>w.fdiv g)):=by
 have wl:=ze4 R ms
 have wp:=zoG ms E.srt E.hi
 have wR:(ψe (λ_ w=>w) ms (QaR)).sum=R:=by rw[zi2 ms _ wl];exact E.whole
 have mp:0<ms.length:=List.length_pos_iff.mpr E.ne
 obtain⟨w1,hw1⟩:∃w,w∈wds R ms:=⟨(QaR)[0]'(by omega),ψs1 _⟩
 have w1p:=wp w1 hw1
 have g0:=Gg.ne hw1 (Qe)
 have al:=zi5 ls 0
 have sl:((zky 0 ls).map λa=>a.fmod R).length=bs.length+1:=by rw[ψb,al,lls]
 have arc:∀(i:Nat) s L,((zky 0 ls).map λa=>a.fmod R)[i]?=some s→ls[i]?=some L→(ψe (QbS) ms (QaR)).sum=L:=λi s L e1 e2=>by
  obtain⟨a,ea,rfl⟩:=zat e1
  have li:=(List.getElem?_eq_some_iff.mp e2).1
  have eb:bs[i]?=some (bs[i]'(by omega)):=ψc _
  have en:ns[i]?=some (ns[i]'(by omega)):=ψc _
  obtain⟨_,L0,L1⟩:=hL i _ _ L eb en e2
  refine E.arc (st a (zap ea)) L0 L1 ?_
  rw[zm2 R0]
  exact st _ (zap (zmP ls 0 i a L ea e2))
 generalize hss:((zky 0 ls).map λa=>a.fmod R)=ss at sl arc ⊢
 have gR:(g:Rat)≠0:=λz=>by
  have:g=0:=by exact_mod_cast z
  omega
 have dv:=Gg.all
 have T:((Qam).map λx=>x.2).sum*g=R:=by
  rw[zlE,zk3 (λ_ w=>w),zcR (g:=λe w=>w.fdiv g*(λ_=>(1:Int)) e) ms (QaR) λe _ w=>(Int.mul_one _).symm,zja (λ_=>(1:Int)) ms _ g dv,zcR (g:=λ_ w=>w) ms (QaR) λe _ w=>Int.mul_one _]
  exact wR
 generalize hT:((Qam).map λx=>x.2).sum=TT at T ⊢
 have mem:∀x∈zih R ns ss ls ms ((QaR).map λw=>w.fdiv g),∃e∈ms,∃w∈wds R ms,x=(pln R ns ss ls e,w.fdiv g):=zg9 (λx=>∃e∈ms,∃w∈wds R ms,x=(pln R ns ss ls e,w.fdiv g)) λi e w e1 e2=>by
  obtain⟨w',ew,rfl⟩:=zat e2
  exact⟨e,zap e1,w',zap ew,rfl⟩
 have cn:cnl R bs ns ls=bud*R:=by
  have h:=zrD (R:=R) (W:=W) bs ns ls len lls λi b n L e1 e2 e3=>(hL i b n L e1 e2 e3).1
  rw[cs,← ψj] at h
  exact_mod_cast h
 have lx:(Qam).length=ms.length:=by
  unfold zih
  rw[ψo,ψb,wl]
  omega
 refine⟨by omega,by omega,λx hx=>?_,λx hx=>?_,λx hx=>?_,λk b hk=>?_,?_,λh1 x hx=>?_⟩
 ·obtain⟨e,he,w,hw,rfl⟩:=mem x hx
  refine⟨by rw[zrh (Qe) (Qe),len],λm hm=>?_⟩
  obtain⟨i,ei⟩:=ψq hm
  have li:=(Qct).1
  rw[zrh (Qe) (Qe)] at li
  have en:ns[i]?=some (ns[i]'li):=ψc _
  have es:ss[i]?=some (ss[i]'(by omega)):=ψc _
  have el:ls[i]?=some (ls[i]'(by omega)):=ψc _
  rw[zvu en es el] at ei
  have:=n0 _ (zap en)
  have:=n59 _ (zap en)
  rw[← Option.some.inj ei]
  split <;> omega
 ·obtain⟨e,he,w,hw,rfl⟩:=mem x hx
  have f:=zdh (dv w hw)
  have p:=wp w hw
  show 1≤w.fdiv g
  refine ψE λc=>?_
  have:=Int.mul_le_mul_of_nonneg_right (show w.fdiv g≤0 by omega) (ψD g0)
  omega
 ·obtain⟨e,he,w,hw,rfl⟩:=mem x hx
  have f:=zdh (dv w hw)
  have le:w≤R:=by
   rw[← E.whole]
   exact(zpa _ wp).2 hw
  have p:=wp w hw
  exact(bR.le (Qe)).le (zgs f (Qe))
 ·have lk:=(Qbz).1
  have en:ns[k]?=some (ns[k]'(by omega)):=ψc _
  have es:ss[k]?=some (ss[k]'(by omega)):=ψc _
  have el:ls[k]?=some (ls[k]'(by omega)):=ψc _
  have pa:∀e,(QaJ)[k]?=_:=λe=>zvu (e:=e) (R:=R) en es el
  have A:=arc k _ _ es el
  obtain⟨q,_,_⟩:=hL k b _ _ hk en el
  have nk:=n0 _ (zap en)
  have gk:=G k b _ hk en
  have gbk:=gb b (zap hk)
  generalize ns[k]'(by omega)=n at en pa q nk gk
  generalize ss[k]'(by omega)=s at es pa A
  generalize ls[k]'(by omega)=L at el pa A q
  have U:(ψe (QaY) ms (QaR)).sum*g=L:=by
   rw[zja (λe=>if cov R s L e=true then (1:Int) else 0) ms _ g dv,zcR (g:=λe w=>if cov R s L e=true then w else 0) ms (QaR) λe _ w=>?_]
   ·exact A
   ·by_cases c:cov R s L e=true
    ·simp only[if_pos c,Int.mul_one]
    ·simp only[if_neg c,Int.mul_zero]
  have T2:(ψe (λe w=>w.fdiv g) ms (QaR)).sum=TT:=by
   rw[← hT,zlE,zk3 (λ_ w=>w)]
  rw[zlE]
  have e1:ψe (λe w=>((w:Int):Rat)*chq b ((QaJ).getD k 0)) ms ((QaR).map λw=>w.fdiv g)=ψe (λe w=>chq b n*(((w.fdiv g):Int):Rat)+gnq b n*((w.fdiv g*(λe=>if cov R s L e=true then (1:Int) else 0) e:Int):Rat)) ms (wds R ms):=by
   rw[List.zipWith_map_right]
   congr 1
   funext e w
   rw[ψv,pa e]
   show(((w.fdiv g):Int):Rat)*chq b (if cov R s L e=true then n+1 else n)=_
   rw[ψj]
   by_cases c:cov R s L e=true
   ·simp only[if_pos c]
    rw[zlQ gbk nk,show((1:Int):Rat)=1 from rfl]
    grind
   ·simp only[if_neg c]
    rw[show((0:Int):Rat)=0 from rfl]
    grind
  show(ψe (λe w=>((w:Int):Rat)*chq b ((QaJ).getD k 0)) ms ((QaR).map λw=>w.fdiv g)).sum=_
  rw[hT,e1,zzT (chq b n) (gnq b n) (λ_ w=>w.fdiv g) (QaY),T2]
  generalize (ψe (QaY) ms (QaR)).sum=UU at U ⊢
  have TR:(TT:Rat)*(g:Rat)=(R:Rat):=by rw[← ψj,T]
  have UR:(UU:Rat)*(g:Rat)=(L:Rat):=by rw[← ψj,U]
  have sq:shq W b n*gnq b n=W - chq b n:=by
   unfold shq
   generalize gnq b n=x at gk ⊢
   grind
  have h:(chq b n*(TT:Rat)+gnq b n*(UU:Rat))*(g:Rat)=W*(TT:Rat)*(g:Rat):=by
   have a1:(chq b n*(TT:Rat)+gnq b n*(UU:Rat))*(g:Rat)=chq b n*((TT:Rat)*(g:Rat))+gnq b n*((UU:Rat)*(g:Rat)):=by grind
   have a2:W*(TT:Rat)*(g:Rat)=W*((TT:Rat)*(g:Rat)):=by grind
   rw[a1,a2,TR,UR,q]
   have a3:gnq b n*(shq W b n*(R:Rat))=(shq W b n*gnq b n)*(R:Rat):=by grind
   rw[a3,sq]
   grind
  have h2:(chq b n*(TT:Rat)+gnq b n*(UU:Rat) - W*(TT:Rat))*(g:Rat)=0:=by
   generalize chq b n*(TT:Rat)+gnq b n*(UU:Rat)=X at h ⊢
   generalize W*(TT:Rat)=Y at h ⊢
   grind
  rcases Rat.mul_eq_zero.mp h2 with z | z
  ·generalize chq b n*(TT:Rat)+gnq b n*(UU:Rat)=X at z ⊢
   generalize W*(TT:Rat)=Y at z ⊢
   grind
  ·exact absurd z gR
 ·have C:=zmM wR bs ns ss ls len lls (Qe) arc
  have D:((Qam).map λx=>x.2*(zaF bs x.1).sum).sum*g=bud*R:=by
   rw[zlE,zk3 (λe w=>w*(zaF bs (QaJ)).sum),zja (λe=>(zaF bs (QaJ)).sum) ms _ g dv,C,cn]
  have:(((Qam).map λx=>x.2*(zaF bs x.1).sum).sum - bud*TT)*g=0:=by
   rw[Int.sub_mul,D,Int.mul_assoc,T]
   omega
  rcases Int.mul_eq_zero.mp this with z | z <;> omega
 ·obtain⟨e,he,w,hw,rfl⟩:=mem x hx
  show(QaJ).sum≤bud
  have e0:=E.lo e he
  have e1:=E.hi e he
  have o:=zsf (R:=R) bs ns ls h1 len lls
  rw[cn] at o
  have sL:ls.sum=R*(bud - ns.sum):=by
   rw[ψW1,Int.mul_comm R bud,Int.mul_comm R ns.sum]
   omega
  have cc:=zmF (e:=e) R0 ls 0 λL hm=>by
   obtain⟨i,ei⟩:=ψq hm
   have li:=(Qct).1
   exact(hL i _ _ L (ψc (Qe)) (ψc (Qe)) ei).2
  rw[zsz ns ss ls (Qe) (Qe),← hss,List.zipWith_map_left,cc,Int.sub_zero,Int.zero_add,sL,zsu (x:=e) (k:=0) (Qe) (Qe),zsu (x:=e - R*(bud - ns.sum)) (k:=-(bud - ns.sum)) (by rw[ψE1];omega) (by rw[ψE1];omega)]
  omega
open HT in
theorem cut1(xs:List V):znn xs (some 1) none=xs.drop 1:=by
 unfold znn
 rw[zlI,show(some (1:Int))=some ((1:Nat):Int) from rfl,znr]
 cases xs with
 | nil=>rfl
 | cons x xs =>
  rw[ψM,show min 1 (xs.length+1)=1 by omega]
  exact ψQ (by rw[ψI1,ψM];omega)
abbrev Mp:=Addr×List Int×Int
abbrev mt1(x:Mp):V:=.ref x.1
abbrev mt2(x:Mp):V:=.int x.2.2
theorem Tps.single{α:Type}{f:α→List V}{H:Hp}{t:Addr}{b:α}(h:H t=some (.tup (f b))):Tps f H [t] [b] :=
 ⟨rfl,λi t' b' e1 e2=>by
  match i with
  | 0 =>
   cases e1
   cases e2
   exact h
  | i+1=>cases e1⟩
structure MxH (H:Hp) (ml:Addr) (us:List Addr) (xs:List Mp):Prop where
 hm:H ml=some (Qbi)
 tp:Tps (λx=>[mt1 x,mt2 x]) H us xs
 pl:∀x∈xs,H x.1=some (Qbs)
theorem MxH.same{H H':Hp}{ml:Addr}{us:List Addr}{xs:List Mp}(h:MxH H ml us xs)(s:zaI H H'):MxH H' ml us xs:=⟨s _ _ h.hm,h.tp.same s,λx hx=>s _ _ (h.pl x hx)⟩
theorem zmE:∀(ls:List Int) (A L:Int),zky A (ls++[L])=zky A ls++[A+ls.sum+L]
 | [],A,L=>by
  show [A,A+L]=[A,A+0+L]
  rw[Int.add_zero]
 | M::ls,A,L=>by
  show A::zky (A+M) (ls++[L])=A::(zky (A+M) ls++[A+(M+ls.sum)+L])
  rw[zmE ls (A+M) L,Int.add_assoc A M]
theorem zmI:∀(ls:List Int) (A:Int),∃init,zky A ls=init++[A+ls.sum]
 | [],A=>⟨[],by rw[ψT,Int.add_zero];rfl⟩
 | M::ls,A=>by
  obtain⟨init,e⟩:=zmI ls (A+M)
  exact⟨A::init,by rw[ψk,← Int.add_assoc,zky,e];rfl⟩
theorem zwZ{bs:List Box}{ns:List Int}{bud:Int}(gb:∀b∈bs,GB b)(L:Lev bs ns bud (Qar)){i:Nat}{b:Box}{n:Int}(e1:bs[i]?=some b)(e2:ns[i]?=some n):0≤shq (Qar) b n∧shq (Qar) b n≤1:=by
 have g:=gb b (zap e1)
 have n0:=L.n0 n (zap e2)
 have gn:=L.gn i b n e1 e2
 have gp:0<gnq b n:=by
  have:=zkD g n
  grind
 obtain⟨m1,m2⟩:=L.mid (b,n) (ψP (List.getElem?_zip_eq_some.mpr ⟨e1,e2⟩))
 replace m1:chq b n≤ze8 bs ns bud:=m1
 replace m2:ze8 bs ns bud≤chq b (n+1):=m2
 rw[zlQ g n0] at m2
 have ip:=Rat.inv_pos.mpr gp
 unfold shq
 constructor
 ·rw[Rat.div_def]
  exact ψg1 (by grind) (ψC ip)
 ·have:=ψA (show ze8 bs ns bud - chq b n≤gnq b n by grind) (ψC ip)
  rw[Rat.mul_inv_cancel _ gn] at this
  rw[Rat.div_def]
  exact this
def zsS:Sp:=λvs H Q _=>∃(l pl wr:Addr) (ts:List Addr) (bs:List Box) (ns:List Int) (bud:Int),vs=[.ref l,.ref pl,.ref wr]∧BP H l pl ts bs ns∧Lev bs ns bud (Qar)∧H wr=some (Qch)∧bud≤60∧∀(r:Addr) (us:List Addr) (xs:List Mp) (H':Hp),zaI H H'→MxH H' r us xs→zuH bs bud (Qar) (QM)→(∀x∈xs,H x.1=none)→Q (Q0) H'
def zkx(K:ψa):TS :=
 (zbd (zbO (zb3 (zmf K (zab (zac 5) (QO))) (Qk) za5 (tOp (QT) (tOp (Qak) (tOp (QJ) (zac 3) (zac 0)) (zac 2)) (zac 1)) [none,none,some 4,some 10]) (zam 12))
 (zbd (zbO (zb3 (zmf K (zab (zac 1) (zab (zac 12) zau))) (Qk) za5 (tIf (tTru K (zac 1)) (tOp (Qv) (zac 0) (Qh)) (zac 0)) [none,none]) (zam 13))
 (zkj (tBM K "list" zcA (zac 9) (zab (zeG (zab (zac 13) (zab (zac 11) zau))) zau)))))
def zbY(K:ψa):=eqT (zkx.eq_1 K)
def zkG(K:ψa):TS :=
 (zkj (tBM K "list" zcA (zac 5) (zab (tOp (Qak) (tOp (Qv) (tOp (zfp K) (zac 5) (tUn (rU λi=>.int (-i)) (Qh))) (zac 6)) (zac 4)) zau)))
def zbV(K:ψa):=eqT (zkG.eq_1 K)
def zko(K:ψa):TS :=
 (zbd (zbO (tCB (zli K) (Qa1)) (zam 7))
 (zbd (zbO (zb3 (zmf K (zab (zac 7) (zab (tOp zlq (tSl (zl2 K) (zac 7) (zfS (Qh)) zcy) (zhw (QaQ))) zau))) (Qk) za5 (tOp (QJ) (zac 1) (zac 0)) [none,none]) (zam 8))
 (zbd (zbO (zhw zau) (zam 9))
 (zbd (zll (zmf K (zab (zac 7) (zab (zaz zpo [] E0 (zab (zac 8) zau)) zau))) (zdv K 2 (zaH (zam 10) (zaH (zam 11) zdu)))
 (zkx K))
 (zbU (zac 9))))))
def zbX(K:ψa):=eqT (zko.eq_1 K)
def zlD(K:ψa):TS :=
 (zbd (zbO (zaz zk2 [] E0 (zab (zaz zpD [] E0 (zab (zac 0) (Qbv))) zau)) (zdv K 2 (zaH (zam 3) (zaH (zam 4) zdu))))
 (zbd (zbO (zhw (zab (Ql) zau)) (zam 5))
 (zbd (zll (zcz K (zac 3)) (zam 6)
 (zkG K))
 (zko K))))
theorem zsO{l pl wr:Addr}{ts:List Addr}{bs:List Box}{ns:List Int}{bud:Int}(B:BP H l pl ts bs ns)(L:Lev bs ns bud (Qar))(hw:H wr=some (Qch))(d1:bud≤60)(q:∀(r:Addr) (us:List Addr) (xs:List Mp) (H':Hp),zaI H H'→MxH H' r us xs→zuH bs bud (Qar) (QM)→(∀x∈xs,H x.1=none)→Q (Q0) H') :
  zlD K { nx:=λ_ H'=>Q .non H',rt:=Q } (L2.start ["boxes","counts","worth","lengths","ring","starts","length","edges","widths","mix","edge","weight","more","plan"] [.ref l,.ref pl,.ref wr]) H:=by
 unfold zlD
 have l6:=B.l6
 have G:=L.gn
 have bW:=zti L B.gb B.l1 l6 d1
 have cs:(QbK).sum≤60:=by have:=L.cb;omega
 generalize hW:ze8 bs ns bud=W at bW hw
 simp_all only [zbY,zbV,zbX,zac]
 refine⟨l,pl,wr,ts,bs,ns,W,rfl,B,G,hw,bW,λsr us H1 s1 h1 T1=>?_⟩
 have lq:(Qcn).length=bs.length:=by rw[ψo,B.len];omega
 have bq:∀x∈ψe (shq W) bs ns,Bq 2200 x:=zg9 _ λi b n h1 h2=>zzr (B.gb b (zap h1)) (B.gn n (zap h2)).1 (B.gn n (zap h2)).2 (G i b n h1 h2) bW
 refine⟨sr,us,_,rfl,h1,T1,by omega,bq,λcr tl R H2 s2 C h2 ntl htl=>?_⟩
 have R0:=C.pos
 have bR:Bd 1800 R:=zxV B.gb (λn hn=>(B.gn n hn).1) G l6 cs bW C
 generalize hls:((Qcn).map λq=>q.num*(R / q.den))=ls at htl
 have ll:ls.length=bs.length:=by rw[← hls,ψb,lq]
 simp_all only [zbY,zbV,zbX,zac]
 refine⟨_,SqT.of h2,rfl,_,_,rfl,_,_,rfl,rfl,by decide,λsl nsl=>?_⟩
 have s3:=zan nsl (.lst [V.int 0])
 have h3:(L2.upd H2 sl (.lst [V.int 0])) sl=some (.lst [V.int 0]):=zai
 generalize L2.upd H2 sl (.lst [V.int 0])=H3 at s3 h3 ⊢
 have htl3:=s3 _ _ htl
 refine⟨_,rfl,⟨_,SqL.of htl3⟩,?_⟩
 refine zc3 (K:=K) (xs:=ls.map V.int) (λi σ H'=>zaI H2 H'∧∃x:Option V,H' sl=some (.lst (((zky 0 (ls.take i)).map λa=>a.fmod R).map V.int))∧σ=[some (Qa5),some (.ref pl),some (.ref wr),some (.ref tl),some (.int R),some (.ref sl),x,none,none,none,none,none,none,none]) ⟨s3,_,by rw[h3];show some (HO.lst [V.int 0])=some (HO.lst [V.int ((0:Int).fmod R)]);rw[Int.zero_fmod],rfl⟩ ?_ ?_ ?_
 ·rintro i σ H' _ ⟨s,_⟩
  exact SqL.of (s _ _ htl)
 ·rintro i v σ H4 hx ⟨s4,x,h4,rfl⟩
  obtain⟨n,en,rfl⟩:=zat hx
  have li:=(List.getElem?_eq_some_iff.mp en).1
  obtain⟨init,ei⟩:=zmI (ls.take i) 0
  have en2:ls.take (i+1)=ls.take i++[n]:=by rw[ψx,en];rfl
  have la:=zi5 (ls.take i) 0
  rw[ψG] at la
  simp_all only [zbY,zbV,zbX,zac]
  refine⟨.inl ⟨rfl,_,SqL.of h4⟩,_,SqL.of h4,_,by rw[ei,ψO,ψO];exact zu8 _ _,_,rfl,by omega,_,h4,zbF (by rw[ψb,ψb];omega),s4.put nsl,?_⟩
  rw[zai,en2,zmE,ψO (l₂:=[0+(ls.take i).sum+n]),ψO (l₂:=[0+(ls.take i).sum+n].map λa=>a.fmod R),zm2 R0]
  rfl
 ·rintro σ H4 ⟨s4,x,h4,rfl⟩
  rw[ψb,ψH] at h4
  have al:=zi5 ls 0
  generalize hss:((zky 0 ls).map λa=>a.fmod R)=ss at h4
  have lss:ss.length=bs.length+1:=by rw[← hss,ψb,al,ll]
  have bss:∀s∈ss,0≤s∧s<R:=λs hs=>by
   rw[← hss] at hs
   obtain⟨a,_,rfl⟩:=List.mem_map.mp hs
   exact⟨ψi1 a R0,ψB1 a R0⟩
  have zss:(0:Int)∈ss:=by
   rw[← hss]
   refine List.mem_map.mpr ⟨0,?_,Int.zero_fmod R⟩
   cases ls <;> exact ψf
  simp_all only [zbY,zbV,zbX,zac]
  refine⟨_,SqL.of h4,by omega,λel ms nel mem srt lms=>?_⟩
  have s5:=zan nel (Qca)
  have h5:(L2.upd H4 el (Qca)) el=some (.lst (Qai)):=zai
  generalize L2.upd H4 el (.lst (Qai))=H5 at s5 h5 ⊢
  have mne:ms≠[]:=λz=>by
   have:=(mem 0).mpr zss
   rw[z] at this
   cases this
  have E:Edg R ms:=⟨mne,srt,λy hy=>(bss y ((mem y).mp hy)).1,λy hy=>(bss y ((mem y).mp hy)).2,(mem 0).mpr zss⟩
  have lm:=ze4 R ms
  have wp:=zoG ms E.srt E.hi
  refine⟨_,SqL.of h5,λe2 ne2=>?_⟩
  have s6:=zan ne2 (.lst (Qcd))
  have h6:(L2.upd H5 e2 (.lst (Qcd))) e2=some (.lst (Qcd)):=zai
  generalize L2.upd H5 e2 (.lst (Qcd))=H6 at s6 h6 ⊢
  rw[cut1] at h6
  refine⟨by decide,λe3 ne3=>?_⟩
  have s7:=zan ne3 (.lst [V.int R])
  have h7:(L2.upd H6 e3 (.lst [V.int R])) e3=some (.lst [V.int R]):=zai
  generalize L2.upd H6 e3 (.lst [V.int R])=H7 at s7 h7 ⊢
  refine⟨_,s7 _ _ h6,_,h7,?_,λe4 ne4=>?_⟩
  ·have:((Qai).drop 1).length≤1000:=by rw[ψI1,ψb];omega
   exact ψd1 (Nat.succ_le_succ this) (Qn)
  have s8:=zan ne4 (.lst ((Qai).drop 1++[V.int R]))
  have h8:(L2.upd H7 e4 (.lst ((Qai).drop 1++[V.int R]))) e4=some (.lst ((Qai).drop 1++[V.int R])):=zai
  generalize L2.upd H7 e4 (.lst ((Qai).drop 1++[V.int R]))=H8 at s8 h8 ⊢
  have S8:=s5.trans (s6.trans (s7.trans s8))
  have h5':=s8 _ _ (s7 _ _ (s6 _ _ h5))
  refine⟨⟨_,SqL.of h5'⟩,⟨_,SqL.of h8⟩,λD hD=>?_⟩
  have e8:(Qai).drop 1++[V.int R]=(ms.drop 1++[R]).map V.int:=by rw[ψO,List.map_drop];rfl
  rw[e8] at h8
  refine zfn (vs:=(ψe (λa b=>b - a) ms (ms.drop 1++[R])).map V.int) h5' h8 ?_ ?_ hD (λi x z v H9 R' hx hz hv s9 k=>?_) λH9 s9 h9=>?_
  ·rw[ψb,ψb,ψb,ψo]
  ·rw[ψb,ψo]
   omega
  ·obtain⟨a,ha,rfl⟩:=zat hx
   obtain⟨b,hb,rfl⟩:=zat hz
   obtain⟨c,hc,rfl⟩:=zat hv
   have e:=ziO ha hb hc
   subst e
   simp_all only [zbY,zbV,zbX,zac]
   exact k _ (QbA)
  ·refine⟨by decide,λml nml=>?_⟩
   have sa:=zan nml (.lst [])
   have ha:(L2.upd H9 ml (.lst [])) ml=some (.lst []):=zai
   generalize L2.upd H9 ml (.lst [])=Ha at sa ha ⊢
   rw[ztv R ms mne] at h9
   have mp:=List.length_pos_iff.mpr mne
   obtain⟨w1,hw1⟩:∃w,w∈wds R ms:=⟨(QaR)[0]'(by omega),ψs1 _⟩
   have w1p:=wp w1 hw1
   have w1R:w1≤R:=by rw[← E.whole];exact(zpa _ wp).2 hw1
   have bw:Bd 9000 w1:=(bR.le (Qe)).mono (Qn)
   refine⟨D,wds R ms,w1,rfl,sa _ _ h9,by omega,hw1,by omega,bw,λlo g Hb sb Gg hb=>?_⟩
   have Sb:=S8.trans (s9.trans (sa.trans sb))
   have h5b:=sb _ _ (sa _ _ (s9 _ _ h5'))
   refine⟨_,rfl,⟨_,SqL.of h5b⟩,⟨_,SqL.of hb⟩,?_⟩
   have S9:zaI H2 H9:=s4.trans (S8.trans s9)
   have Sab:zaI H9 Hb:=sa.trans sb
   refine zpw (K:=K) (xs:=ms.map V.int) (ys:=((QaR).map λn=>n.fdiv g).map V.int) (λi σ H'=>zaI H9 H'∧H' el=some (Qca)∧H' lo=some (.lst (((QaR).map λn=>n.fdiv g).map V.int))∧∃(us:List Addr) (xs:List Mp) (y1 y2 y3 y4:Option V),H' ml=some (Qbi)∧Tps (λx=>[mt1 x,mt2 x]) H' us xs∧(∀x∈xs,H' x.1=some (Qbs)∧x.1≠ml∧H x.1=none)∧xs.map (λx=>x.2)=(zih R ns ss ls ms ((QaR).map λn=>n.fdiv g)).take i∧σ=[some (Qa5),some (.ref pl),some (.ref wr),some (.ref tl),some (.int R),some (.ref sl),x,some (.ref el),some (.ref D),some (QbB),y1,y2,y3,y4]) ⟨Sab,h5b,hb,[],[],_,_,_,_,sb _ _ ha,Tps.nil,by simp,rfl,rfl⟩ ?_ ?_ ?_
   ·rintro i σ H' _ ⟨_,h1,h2,_⟩
    exact⟨SqL.of h1,SqL.of h2⟩
   ·rintro i v1 v2 t σ Hc hv1 hv2 ⟨sc,hec,hlc,us',xs,y1,y2,y3,y4,hmc,Tc,hxc,exs,rfl⟩ ht
    obtain⟨e,ee,rfl⟩:=zat hv1
    obtain⟨wt,ew,rfl⟩:=zat hv2
    have li:=(List.getElem?_eq_some_iff.mp ee).1
    simp_all only [zbY,zbV,zbX,zac]
    have sd:=zan ht (.tup [V.int e,V.int wt])
    have hd:(L2.upd Hc t (.tup [V.int e,V.int wt])) t=some (.tup [V.int e,V.int wt]):=zai
    generalize L2.upd Hc t (.tup [V.int e,V.int wt])=Hd at sd hd ⊢
    refine⟨_,SqT.of hd,rfl,_,_,rfl,_,_,rfl,rfl,?_⟩
    have S9d:zaI H9 Hd:=sc.trans sd
    have Sd:zaI H4 Hd:=S8.trans (s9.trans S9d)
    have hsd:=Sd _ _ h4
    have htd:Hd tl=some (.lst (ls.map V.int)):=S9d _ _ (S9 _ _ htl)
    have hpd:Hd pl=some (.lst (Qcx)):=S9d _ _ (S9 _ _ (s2 _ _ (s1 _ _ B.hp)))
    refine⟨⟨_,SqL.of hsd⟩,⟨_,SqL.of htd⟩,λD1 hD1=>?_⟩
    refine zfn (vs:=(ψe (λs n=>decide ((e - s).fmod R<n)) ss ls).map V.bl) hsd htd (by rw[ψb,ψb,ψb,ψo]) (by rw[ψb,ψo];omega) hD1 (λi x z v H' R' hx hz hv s k=>?_) λHe se he=>?_
    ·obtain⟨a,ha,rfl⟩:=zat hx
     obtain⟨b,hb,rfl⟩:=zat hz
     obtain⟨c,hc,rfl⟩:=zat hv
     have e:=ziO ha hb hc
     subst e
     simp_all only [zbY,zbV,zbX,zac]
     exact⟨by omega,k _ (QbA)⟩
    have hpe:=se _ _ hpd
    simp_all only [zbY,zbV,zbX,zac]
    refine⟨⟨_,SqL.of hpe⟩,⟨_,SqL.of he⟩,λD2 hD2=>?_⟩
    refine zfn (vs:=(ψe (λn (b:Bool)=>if b=true then n+1 else n) ns (ψe (λs n=>decide ((e - s).fmod R<n)) ss ls)).map V.int) hpe he (by rw[ψb,ψb,ψb,ψo]) (by rw[ψb,ψo,B.len];omega) hD2 (λi x z v H' R' hx hz hv s k=>?_) λHf sf hf=>?_
    ·obtain⟨a,ha,rfl⟩:=zat hx
     obtain⟨b,hb,rfl⟩:=zat hz
     obtain⟨c,hc,rfl⟩:=zat hv
     have e:=ziO ha hb hc
     subst e
     simp_all only [zbY,zbV,zbX,zac]
     by_cases c:b=true
     ·rw[if_pos c] at k ⊢
      exact k _ (QbA)
     ·rw[if_neg c] at k ⊢
      exact k _ (QbA)
    have Sf:zaI Hc Hf:=sd.trans (se.trans sf)
    refine⟨.inl ⟨rfl,_,SqL.of (Sf _ _ hmc)⟩,by decide,λp np=>?_⟩
    have sg:=zan np (.tup [V.ref D2,V.int wt])
    have hg:(L2.upd Hf p (.tup [V.ref D2,V.int wt])) p=some (.tup [V.ref D2,V.int wt]):=zai
    generalize L2.upd Hf p (.tup [V.ref D2,V.int wt])=Hg at sg hg ⊢
    have Sg:=Sf.trans sg
    have eml:el≠ml:=zaO (s9 _ _ h5') nml
    have lml:lo≠ml:=λz=>by
     subst z
     have z1:=sb _ _ ha
     rw[hb] at z1
     have z2:=congrArg List.length (HO.lst.inj (Option.some.inj z1))
     rw[ψb,ψb,lm] at z2
     exact mne (List.length_eq_zero_iff.mp z2)
    have lxs:xs.length≤i:=by
     have:=congrArg List.length exs
     rw[ψb,ψG] at this
     omega
    have hm':=Sg _ _ hmc
    have pml:p≠ml:=λz=>by
     subst z
     rw[hg] at hm'
     cases hm'
    have Dml:D2≠ml:=(zaO (se _ _ (sd _ _ hmc)) hD2).symm
    have T2:=Tc.1
    refine⟨_,hm',zbF (by rw[ψb];omega),(sc.trans Sg).put nml,by rw[zbg eml];exact Sg _ _ hec,by rw[zbg lml];exact Sg _ _ hlc,us'++[p],by rw[zai,ψO];rfl,xs++[(D2,pln R ns ss ls e,wt)],?_,λy hy=>?_,?_⟩
    ·refine Tc.put (λy w e=>?_) (by rw[zbg pml];exact hg)
     have nx:y≠ml:=λz=>by
      subst z
      rw[e] at hmc
      cases hmc
     rw[zbg nx]
     exact Sg _ _ e
    ·rcases List.mem_append.mp hy with z | z
     ·obtain⟨z1,z2,z3⟩:=hxc y z
      exact⟨by rw[zbg z2];exact Sg _ _ z1,z2,z3⟩
     ·rw[List.mem_singleton.mp z]
      exact⟨by rw[zbg Dml];exact sg _ _ hf,Dml,(s1.trans (s2.trans (S9.trans (S9d.trans se)))).free hD2⟩
    ·rw[ψO,exs,zih,zhD _ _ _ ee ew]
     rfl
   ·rintro σ Hc ⟨sc,hec,hlc,us',xs,y1,y2,y3,y4,hmc,Tc,hxc,exs,rfl⟩
    simp_all only [zbY,zbV,zbX,zac]
    refine q ml us' xs Hc (s1.trans (s2.trans (S9.trans sc))) ⟨hmc,Tc,λy hy=>(hxc y hy).1⟩ ?_ λy hy=>(hxc y hy).2.2
    rw[exs,ψQ (by simp only[zih,ψo,ψb];omega),← hss]
    have hWb:ze8 bs ns bud=W:=hW
    rw[hWb]
    refine zzR B.gb (λn hn=>(B.gn n hn).1) L.n59 G B.len ll (λi b n M e1 e2 e3=>?_) ?_ R0 bR E (Qe) (λa ha=>(mem _).mpr (by rw[← hss];exact List.mem_map.mpr ⟨a,ha,rfl⟩)) Gg
    ·rw[← hls] at e3
     obtain⟨q',eq',rfl⟩:=zat e3
     have eqq:=ziO e1 e2 eq'
     have tq:=zvF (C.all q' (zap eq'))
     have su:=zwZ B.gb L e1 e2
     rw[hWb,← eqq] at su
     rw[← eqq]
     have RR:(0:Rat)<(R:Rat):=by exact_mod_cast R0
     have a1:=ψg1 su.1 (ψC RR)
     have a2:=ψA su.2 (ψC RR)
     rw[← tq] at a1 a2
     rw[Rat.one_mul] at a2
     exact⟨tq,by exact_mod_cast a1,by exact_mod_cast a2⟩
    ·rw[zvW W bs ns B.gb G B.len,← hWb]
     have wi:=ziX (bud:=bud) (bs:=bs) (ns:=ns) (by have:=zhh B.gb G (zjB B.l1 B.len);grind)
     rw[wi,ψY]
     grind
theorem zcw:zaB ["boxes","counts","worth","lengths","ring","starts","length","edges","widths","mix","edge","weight","more","plan"] ["boxes","counts","worth"] (zag zgD):=⟨rfl,rfl,rfl,by decide +kernel,rfl,by decide +kernel,by decide +kernel⟩
theorem zsn(T:Txt K mg a):zcn P w K mg base CX0 5 a.f_mix_of a.d_mix_of ["boxes","counts","worth"] zsS:=by
 have G_common:=zmK (P:=P) (w:=w) (base:=base) T
 have G_look_shares:=zj7 (P:=P) (w:=w) (base:=base) T
 have G_lowest:=ztq (P:=P) (w:=w) (base:=base) T
 refine T.F_mix_of.ok zcw (Qj) (Qd)
 ·obtain⟨l,pl,wr,ts,bs,ns,bud,rfl,B,L,hw,d1,q⟩:=h
  rfl
 obtain⟨l,pl,wr,ts,bs,ns,bud,rfl,B,L,hw,d1,q⟩:=h
 exact⟨zlD K,(zaf (zcY (zah G_common (Qa) rfl T.m_common T.F_common.kp T.b_common .nil zax (zaa (zah G_look_shares (Qa) rfl T.m_look_shares T.F_look_shares.kp T.b_look_shares .nil zax (zaa (pv 0) (QbI))) zad)) (zbu rfl (zal (zak (i:=3) zcw.nd rfl (Qf)) (zal (zak (i:=4) zcw.nd rfl (Qbd)) za3))))
 (zaf (zaN (i:=5) zcw.nd rfl (Qf) (zcp (QaB)))
 (zaf (zdJ PassesOwn.never rfl (zbl (pv 3)) (zak (i:=6) zcw.nd rfl (Qf))
 (zaj (zf8 (zuq PySem.F.plainAttrs_list PySem.F.slot_list_append PySem.F.type_list_append ze7 (pv 5) (zaa (zas zii (zas zce (zaw zbv (pv 5) (zpN zkt zae) (Qp)) (pv 6)) (pv 4)) zad)))))
 (zaf (zaN (i:=7) zcw.nd rfl (Qf) (zqj rfl T.z_sorted rfl T.z_set (Qa9)))
 (zaf (zcO (i:=8) zcw.nd rfl rfl (sc:=zag zgD) (N:=["boxes","counts","worth","lengths","ring","starts","length","edges","widths","mix","edge","weight","more","plan"]) (Nc:=["ahead","behind"]) (cap:=[none,none]) rfl rfl rfl (Qi) (zeC rfl T.z_zip (zaa (pv 7) (zaa (zas zeo (zcD zdk (pv 7) (zdp zae) zdr) (zcp (QbL))) zad))) (λ_ _ _ _=>(zbu rfl (zal (zak (i:=0) (show ψh (["ahead","behind"]:List Str) from by decide) rfl (Qf)) (zal (zak (i:=1) (show ψh (["ahead","behind"]:List Str) from by decide) rfl (Qf)) za3)))) (QF) (λ_ _ _ _=>(zas zc4 (pv 1) (pv 0))))
 (zaf (zaN (i:=9) zcw.nd rfl (Qf) (zcp zad))
 (zaf (zdJ PassesOwn.never rfl (zeC rfl T.z_zip (zaa (pv 7) (zaa (zah G_lowest (Qa) rfl T.m_lowest T.F_lowest.kp T.b_lowest .nil zax (zaa (pv 8) zad)) zad))) (zbu rfl (zal (zak (i:=10) zcw.nd rfl (Qbd)) (zal (zak (i:=11) zcw.nd rfl (Qf)) za3)))
 (zaf (zcO (i:=12) zcw.nd rfl rfl (sc:=zag zgD) (N:=["boxes","counts","worth","lengths","ring","starts","length","edges","widths","mix","edge","weight","more","plan"]) (Nc:=["start","length","ring","edge"]) (cap:=[none,none,some 4,some 10]) rfl rfl rfl (Qi) (zeC rfl T.z_zip (zaa (pv 5) (QU))) (λ_ _ _ _=>(zbu rfl (zal (zak (i:=0) (show ψh (["start","length","ring","edge"]:List Str) from by decide) rfl (Qf)) (zal (zak (i:=1) (show ψh (["start","length","ring","edge"]:List Str) from by decide) rfl (Qf)) za3)))) (QF) (λ_ _ _ _=>(zcb zjv (zas zii (zas zc4 (pv 3) (pv 0)) (pv 2)) (pv 1) (za4 _))))
 (zaf (zcO (i:=13) zcw.nd rfl rfl (sc:=zag zgD) (N:=["boxes","counts","worth","lengths","ring","starts","length","edges","widths","mix","edge","weight","more","plan"]) (Nc:=["count","one"]) (cap:=[none,none]) rfl rfl rfl (Qi) (zeC rfl T.z_zip (zaa (pv 1) (zaa (pv 12) zad))) (λ_ _ _ _=>(zbu rfl (zal (zak (i:=0) (show ψh (["count","one"]:List Str) from by decide) rfl (Qf)) (zal (zak (i:=1) (show ψh (["count","one"]:List Str) from by decide) rfl (Qf)) za3)))) (QF) (λ_ _ _ _=>(zpg (zpE (pv 1) (Qcc)) (zas zce (pv 0) zae) (pv 0))))
 (zaj (zf8 (zuq PySem.F.plainAttrs_list PySem.F.slot_list_append PySem.F.type_list_append ze7 (pv 9) (zaa (zbE (zaa (pv 13) (zaa (pv 11) zad))) zad)))))))
 (zaj (zar (pv 9)))))))))),
  zsO B L hw d1 q⟩
def zil(K:ψa):TS :=
 (zbU (zfE (tCB (ziw K) (zab (zac 0) (zab (tC (.ty "int")) zau))) (ztp (tCB (ziw K) (zab (zac 0) (zab (tC (.ty "bool")) zau))))))
theorem znt{x:Int}(q:Q (Qb0) H):zil K { nx:=λ_ H'=>Q .non H',rt:=Q } (L2.start ["thing"] [.int x]) H:=by
 unfold zil
 simp_all only [zac]
 refine zjq ⟨_,rfl,zqt ?_⟩
 exact ziC ⟨_,rfl,q⟩
theorem zn3:zaB ["thing"] ["thing"] (zag zhW):=⟨rfl,rfl,rfl,by decide +kernel,rfl,by decide +kernel,by decide +kernel⟩
theorem zfK(T:Txt K mg a):zcn P w K mg base CX0 1 a.f_is_whole a.d_is_whole ["thing"] zig:=by
 refine T.F_is_whole.ok zn3 (Qj) (Qd)
 ·obtain⟨x,rfl,q⟩:=h
  rfl
 obtain⟨x,rfl,q⟩:=h
 exact⟨zil K,(zaj (zar (zdR (zao zaT rfl T.z_isinstance ψi (zaa (pv 0) (zaa (zbZ rfl T.z_int zoV rfl) zad))) (zfi (zsQ (zao zaT rfl T.z_isinstance ψi (zaa (pv 0) (zaa (zbZ rfl T.z_bool zmS rfl) zad)))))))),
  znt q⟩
def zfh:Sp:=λvs H Q _=>∃x l m:Int,vs=[.int x,.int l,.int m]∧Q (.bl (decide (l≤x∧x≤m))) H
def zhr:TS :=
 (zbU (zfE (zaz zig [] E0 (QE)) (zl5 (Qaf) (Qaf) (zac 1) (zac 0) (zac 2))))
theorem zml{x l m:Int}(q:Q (.bl (decide (l≤x∧x≤m))) H):zhr { nx:=λ_ H'=>Q .non H',rt:=Q } (L2.start ["thing","least","most"] [.int x,.int l,.int m]) H:=by
 unfold zhr
 simp_all only [zac]
 refine⟨x,rfl,true,rfl,zqt ?_⟩
 by_cases c:l≤x
 ·rw[if_pos c]
  by_cases d:x≤m
  ·rw[decide_eq_true (show l≤x∧x≤m from⟨c,d⟩)] at q
   rw[decide_eq_true d]
   exact q
  ·rw[decide_eq_false (λz:l≤x∧x≤m=>d z.2)] at q
   rw[decide_eq_false d]
   exact q
 ·rw[if_neg c]
  rw[decide_eq_false (λz:l≤x∧x≤m=>c z.1)] at q
  exact q
theorem zmy:zaB ["thing","least","most"] ["thing","least","most"] (zag zhu):=⟨rfl,rfl,rfl,by decide +kernel,rfl,by decide +kernel,by decide +kernel⟩
theorem zgf(T:Txt K mg a):zcn P w K mg base CX0 2 a.f_is_within a.d_is_within ["thing","least","most"] zfh:=by
 have G_is_whole:=zfK (P:=P) (w:=w) (base:=base) T
 refine T.F_is_within.ok zmy (Qj) (Qd)
 ·obtain⟨x,l,m,rfl,q⟩:=h
  rfl
 obtain⟨x,l,m,rfl,q⟩:=h
 exact⟨zhr,(zaj (zar (zdR (zah G_is_whole (Qa) rfl T.m_is_whole T.F_is_whole.kp T.b_is_whole .nil zax (Qap)) (zfi (zuK zmG zmG (pv 1) (pv 0) (pv 2)))))),
  zml q⟩
def zkv(K:ψa):TS :=
 (zbd (zbO (zac 0) (zdv K 3 (zaH (zam 1) (zaH (zam 2) (zaH (zam 3) zdu)))))
 (zbU (zfE (zaz zfh [] E0 (zab (zac 1) (zab (Qh) (QbO)))) (zfE (zaz zfh [] E0 (zab (zac 3) (zab (Qh) (zab (tC (.int 50)) zau)))) (zaz zfh [] E0 (zab (zac 2) (zab (Qh) (QO))))))))
def zfH(K:ψa):=eqT (zkv.eq_1 K)
def zku(K:ψa):TS :=
 (zdQ (tOr (zfe (QW)) (zb5 (tOp rNe (Qas) (Qb4)))) (QC) zb1)
def zfs(K:ψa):=eqT (zku.eq_1 K)
def zls(K:ψa):TS :=
 (zbd (zdG (zku K))
 (zkv K))
theorem zs7{p:Addr}{b:Box}(hp:H p=some (Qbg))(g:GB b)(q:Q (Qb0) H):zls K { nx:=λ_ H'=>Q .non H',rt:=Q } (L2.start ["thing","cost","hits","of"] [.ref p]) H:=by
 unfold zls
 obtain⟨g1,g2,g3,g4,g5⟩:=g
 simp_all only [zfH,zfs,zac]
 refine⟨λσ H'=>H'=H∧σ=[some (Qb9),none,none,none],?_,?_⟩
 ·simp_all only [zfH,zfs,zac]
  refine zcK hp (Qat)
  refine zcg (Qy) (QaM)
  refine⟨_,.inr (SqT.of hp),?_⟩
  exact zcg (QN) (Qcc)
 ·rintro σ H' ⟨e,rfl⟩
  rw[e]
  simp_all only [zfH,zfs,zac]
  refine⟨_,SqT.of hp,rfl,_,_,rfl,_,_,rfl,_,_,rfl,rfl,?_⟩
  refine⟨_,_,_,rfl,true,by rw[decide_eq_true ⟨g1,g2⟩],zqt ⟨_,_,_,rfl,true,by rw[decide_eq_true (show 1≤b.2.2∧b.2.2≤50 from⟨by omega,g5⟩)],zqt ⟨_,_,_,rfl,?_⟩⟩⟩
  rw[decide_eq_true ⟨g3,g4⟩]
  exact q
theorem zhP:zaB ["thing","cost","hits","of"] ["thing"] (zag zkL):=⟨rfl,rfl,rfl,by decide +kernel,rfl,by decide +kernel,by decide +kernel⟩
theorem zr8(T:Txt K mg a):zcn P w K mg base CX0 3 a.f_is_box a.d_is_box ["thing"] zra:=by
 have G_is_within:=zgf (P:=P) (w:=w) (base:=base) T
 refine T.F_is_box.ok zhP (Qj) (Qd)
 ·obtain⟨p,b,rfl,hp,g,q⟩:=h
  rfl
 obtain⟨p,b,rfl,hp,g,q⟩:=h
 exact⟨zls K,(zaf (Qaa)
 (zaf (zcY (pv 0) (zbu rfl (zal (zak (i:=1) zhP.nd rfl (Qf)) (zal (zak (i:=2) zhP.nd rfl (Qf)) (zal (zak (i:=3) zhP.nd rfl (Qf)) za3)))))
 (zaj (zar (zdR (zah G_is_within (Qa) rfl T.m_is_within T.F_is_within.kp T.b_is_within .nil zax (zaa (pv 1) (zaa zae (zaa (zh7 rfl T.m_MOST_COST ⟨_,rfl⟩) zad)))) (zdR (zah G_is_within (Qa) rfl T.m_is_within T.F_is_within.kp T.b_is_within .nil zax (zaa (pv 3) (zaa zae (zaa (zh7 rfl T.m_MOST_OF ⟨_,rfl⟩) zad)))) (zfi (zah G_is_within (Qa) rfl T.m_is_within T.F_is_within.kp T.b_is_within .nil zax (zaa (pv 2) (zaa zae (QU))))))))))),
  zs7 hp g q⟩
theorem zcI{K:ψa}{H:Hp}{Q:VK}{r:Addr}{xs:List V}(h:H r=some (.lst xs))(q:Q (Qb0) H):ziw K [.ref r,.ty "list"] H Q:=⟨_,_,_,_,true,rfl,rfl,.of (.lst h),rfl,q⟩
theorem zog{bs:List Bool}(h:∀b∈bs,b=true):bs.all id=true:=List.all_eq_true.mpr h
def zfZ(K:ψa):TS :=
 (zdQ (tOr (zfe (tB (Qad))) (tOr (zfe (zb5 (zl5 (Qaf) (Qaf) (Qh) (Qas) (tC (.int 6))))) (zfe (tB (tCB (zv1 K) (zab (zb3 (QaE) (zam 0) za5 (zaz zra [] E0 (QE)) [none]) zau)))))) zpm zb1)
theorem zlF{l:Addr}{ts:List Addr}{bs:List Box}(hl:H l=some (QR))(hb:Tps bx H ts bs)(gb:∀b∈bs,GB b)(l1:1≤bs.length)(l6:bs.length≤6)(q:∀H',zaI H H'→Q .non H') :
  zfZ K { nx:=λ_ H'=>Q .non H',rt:=Q } (L2.start ["boxes"] [.ref l]) H:=by
 unfold zfZ
 simp_all only [zac]
 refine zcI hl (Qat)
 refine zcg (Qy) (QaM)
 refine⟨_,.inl (SqL.of hl),?_⟩
 rw[ψb,hb.1]
 refine zcg (QaM) (λz=>absurd (show(1:Int)≤(bs.length:Int) by omega) z)
 refine zcg (λz=>absurd (show(bs.length:Int)≤6 by omega) z) (QaM)
 refine(QaH)
 refine zcT (K:=K) (xs:=ts.map V.ref) (λi ys σ H'=>zaI H H'∧∃cs:List Bool,ys=cs.map V.bl∧(∀b∈cs,b=true)∧cs.length≤i∧∃z,σ=[z]) ⟨zan hD _,[],rfl,by simp,by simp,_,rfl⟩ ?_ ?_ ?_
 ·rintro i ys σ H' _ ⟨s,_⟩
  exact SqL.of (s _ _ hl)
 ·rintro i x ys σ H' hx hD' ⟨s,cs,rfl,hc,lc,z,rfl⟩
  obtain⟨t,ht,rfl⟩:=zat hx
  obtain⟨b,hb1,hb2⟩:=hb.at ht
  have hi:=(List.getElem?_eq_some_iff.mp ht).1
  simp_all only [zac]
  refine⟨t,b,rfl,s _ _ hb2,gb b (zap hb1),_,hD',zbF (by rw[ψb];have:=hb.1;omega),_,zai,s.put hD,cs++[true],by simp,?_,by rw[ψV];exact Nat.succ_le_succ lc⟩
  intro b hb
  rcases List.mem_append.mp hb with h | h
  ·exact hc b h
  ·simpa using h
 ·rintro ys σ H' hD' ⟨s,cs,rfl,hc,_,z,rfl⟩
  simp_all only [zac]
  refine⟨_,SqL.of hD',?_⟩
  rw[zog hc]
  exact zcg (Qy) (λ_=>q _ s)
theorem zlT:zaB ["boxes"] ["boxes"] (zag zeN):=⟨rfl,rfl,rfl,by decide +kernel,rfl,by decide +kernel,by decide +kernel⟩
theorem zhE(T:Txt K mg a):zcn P w K mg base CX0 4 a.f_look_boxes a.d_look_boxes ["boxes"] zs2:=by
 have G_is_box:=zr8 (P:=P) (w:=w) (base:=base) T
 refine T.F_look_boxes.ok zlT (Qj) (Qd)
 ·obtain⟨l,ts,bs,rfl,hl,hb,gb,l1,l6,q⟩:=h
  rfl
 obtain⟨l,ts,bs,rfl,hl,hb,gb,l1,l6,q⟩:=h
 exact⟨zfZ K,(zaj (zbP (PW.pt (zdl (zbL (zbt (Qx))) (zdl (zbL (zuF zmG zmG zae (Qu) (zh7 rfl T.m_MOST_BOXES ⟨_,rfl⟩))) (zc5 (zbL (zbt (zao (zgt rfl) rfl T.z_all ψC1 (zaa (zbi (sc:=zag zeN) (N:=["boxes"]) (Nc:=["box"]) (cap:=[none]) rfl rfl rfl (Qi) (Qbk) (Q9) (QF) (λ_ _ _ _=>(zah G_is_box (Qa) rfl T.m_is_box T.F_is_box.kp T.b_is_box .nil zax (Qap)))) zad)))))))) (zaj zlS) zaR)),
  zlF hl hb gb l1 l6 q⟩
def zgl:Sp:=λvs H Q _=>∃n:Int,vs=[.int n]∧0≤n∧n≤60∧Q .non H
def zfC:TS :=
 (zdQ (zfe (tB (zaz zfh [] E0 (zab (zac 0) (zab (Ql) (QbO)))))) zpm zb1)
theorem zkl{n:Int}(n0:0≤n)(n1:n≤60)(q:Q .non H):zfC { nx:=λ_ H'=>Q .non H',rt:=Q } (L2.start ["budget"] [.int n]) H:=by
 unfold zfC
 simp_all only [zac]
 exact⟨n,0,60,rfl,true,by rw[decide_eq_true ⟨n0,n1⟩],zcg (Qy) (λ_=>q)⟩
theorem zj3:zaB ["budget"] ["budget"] (zag zfD):=⟨rfl,rfl,rfl,by decide +kernel,rfl,by decide +kernel,by decide +kernel⟩
theorem zg2(T:Txt K mg a):zcn P w K mg base CX0 3 a.f_look_budget a.d_look_budget ["budget"] zgl:=by
 have G_is_within:=zgf (P:=P) (w:=w) (base:=base) T
 refine T.F_look_budget.ok zj3 (Qj) (Qd)
 ·obtain⟨n,rfl,n0,n1,q⟩:=h
  rfl
 obtain⟨n,rfl,n0,n1,q⟩:=h
 exact⟨zfC,(zaj (zbP (zbL (zbt (zah G_is_within (Qa) rfl T.m_is_within T.F_is_within.kp T.b_is_within .nil zax (zaa (pv 0) (zaa zae (zaa (zh7 rfl T.m_MOST_BUDGET ⟨_,rfl⟩) zad)))))) (zaj zlS) zaR)),
  zkl n0 n1 q⟩
def zpI:Sp:=λvs H Q _=>∃(l:Addr) (ts:List Addr) (bs:List Box) (bud:Int),vs=[.ref l,.int bud]∧H l=some (QR)∧Tps bx H ts bs∧bs.length≤6∧∀(c:Bool) (H':Hp),zaI H H'→(c=true↔(QaV)∧(Qbo).sum≤bud)→Q (.bl c) H'
def zjd(K:ψa):TS :=
 (zbU (zfE (tCB (zv1 K) (zab (zb3 (QaE) (zdv K 3 (zaH (zam 0) (zaH (zam 1) (zaH (zam 2) zdu)))) za5 (tOp rEq (zac 1) (zac 2)) [none,none,none]) zau)) (tOp (Qaf) (tCB (zmO K) (zab (zb3 (QaE) (zam 0) za5 (QK) [none]) zau)) (zac 1))))
theorem zp2{l:Addr}{ts:List Addr}{bs:List Box}{bud:Int}(hl:H l=some (QR))(T:Tps bx H ts bs)(l6:bs.length≤6)(q:∀(c:Bool) (H':Hp),zaI H H'→(c=true↔(QaV)∧(Qbo).sum≤bud)→Q (.bl c) H') :
  zjd K { nx:=λ_ H'=>Q .non H',rt:=Q } (L2.start ["boxes","budget"] [.ref l,.int bud]) H:=by
 unfold zjd
 simp_all only [zac]
 refine(QaH)
 refine zcT (K:=K) (xs:=ts.map V.ref) (λi ys σ H'=>zaI H H'∧ys=((bs.take i).map λb=>decide (b.2.1=b.2.2)).map V.bl∧∃x y z,σ=[x,y,z]) ⟨zan hD _,rfl,_,_,_,rfl⟩ ?_ ?_ ?_
 ·rintro i ys σ H' _ ⟨s,_⟩
  exact SqL.of (s _ _ hl)
 ·rintro i x ys σ H' hx hD' ⟨s,rfl,x,y,z,rfl⟩
  obtain⟨t,ht,rfl⟩:=zat hx
  obtain⟨b,hb1,hb2⟩:=T.at ht
  simp_all only [zac]
  refine⟨_,SqT.of (s _ _ hb2),rfl,_,_,rfl,_,_,rfl,_,_,rfl,rfl,?_⟩
  simp_all only [zac]
  refine⟨_,hD',zbF (by rw[ψb,ψb,ψG];omega),_,zai,s.put hD,?_⟩
  rw[ψx,hb1]
  simp
 ·rintro ys σ H1 h1 ⟨s1,rfl,x,y,z,rfl⟩
  rw[ψb,T.1,ψH] at h1
  simp_all only [zac]
  refine⟨_,SqL.of h1,?_⟩
  by_cases c:∀b∈bs,b.2.1=b.2.2
  ·have e:((bs.map λb=>decide (b.2.1=b.2.2)).all id)=true:=List.all_eq_true.mpr λx hx=>by
    obtain⟨b,hb,rfl⟩:=List.mem_map.mp hx
    exact decide_eq_true (c b hb)
   rw[e]
   refine zqt ?_
   have hl1:=s1 _ _ hl
   refine⟨⟨_,SqL.of hl1⟩,λD2 hD2=>?_⟩
   refine zcx (vs:=(Qbo).map V.int) hl1 (by simp[T.1]) (by simp;omega) hD2 (Qal) λH2 s2 h2=>?_
   ·obtain⟨t,ht,rfl⟩:=zat hx
    obtain⟨w,hw,rfl⟩:=zat hv
    obtain⟨b,hb,rfl⟩:=zat hw
    obtain⟨b',hb1,hb2⟩:=T.at ht
    rw[hb] at hb1
    cases hb1
    simp_all only [zac]
    exact⟨_,SqT.of (s _ _ (s1 _ _ hb2)),_,rfl,k _ (QbA)⟩
   ·simp_all only [zac]
    refine⟨_,SqL.of h2,?_⟩
    exact q _ H2 (QaD) ⟨λh=>⟨c,of_decide_eq_true h⟩,λh=>decide_eq_true h.2⟩
  ·have e:((bs.map λb=>decide (b.2.1=b.2.2)).all id)=false:=by
    rw[Bool.eq_false_iff]
    intro z
    refine c λb hb=>?_
    have:=List.all_eq_true.mp z _ (List.mem_map.mpr ⟨b,hb,rfl⟩)
    exact of_decide_eq_true this
   rw[e]
   refine iteF ?_
   exact q _ H1 s1 ⟨λh=>absurd h (Qn),λh=>absurd h.1 c⟩
theorem zqr:zaB ["boxes","budget"] ["boxes","budget"] (zag zf2):=⟨rfl,rfl,rfl,by decide +kernel,rfl,by decide +kernel,by decide +kernel⟩
theorem zqc(T:Txt K mg a):zcn P w K mg base CX0 1 a.f_is_sure a.d_is_sure ["boxes","budget"] zpI:=by
 refine T.F_is_sure.ok zqr (Qj) (Qd)
 ·obtain⟨l,ts,bs,bud,rfl,hl,T',l6,q⟩:=h
  rfl
 obtain⟨l,ts,bs,bud,rfl,hl,T',l6,q⟩:=h
 exact⟨zjd K,(zaj (zar (zdR (zao (zgt rfl) rfl T.z_all ψC1 (zaa (zbi (sc:=zag zf2) (N:=["boxes","budget"]) (Nc:=["cost","hits","of"]) (cap:=[none,none,none]) rfl rfl rfl (Qi) (Qbk) (λ_ _ _ _=>(zbu rfl (zal (zak (i:=0) (Qbf) rfl (Qf)) (zal (zak (i:=1) (Qbf) rfl (Qf)) (zal (zak (i:=2) (Qbf) rfl (Qf)) za3))))) (QF) (λ_ _ _ _=>(zcb zhd (pv 1) (pv 2) (za4 _)))) zad)) (zfi (zcb zmG (zao (zcr rfl) rfl T.z_sum ψI (zaa (zbi (sc:=zag zf2) (N:=["boxes","budget"]) (Nc:=["box"]) (cap:=[none]) rfl rfl rfl (Qi) (Qbk) (Q9) (QF) (λ_ _ _ _=>(Qg))) zad)) (pv 1) (za4 _)))))),
  zp2 hl T' l6 q⟩
def zbI(ts:List Addr):List Int:=ts.map λ_=>(1:Int)
def zvy:Sp:=λvs H Q _=>∃(l:Addr) (ts:List Addr),vs=[.ref l]∧H l=some (QR)∧ts.length≤6∧∀(r wr mr pr wl pp cl t u:Addr) (H':Hp),zaI H H'→H' r=some (Qaj)→H' wr=some (.tup (fr 1))→H' pr=some (Q3)→H' wl=some (Qcy)→H' pp=some (.tup (fr 0))→H' cl=some (Qcy)→MxH H' mr [t] [(u,zbI ts,1)]→H wl=none→H cl=none→H u=none→Q (Q0) H'
def zfu(K:ψa):TS :=
 (zbd (zbO (zb3 (QaE) (zam 0) za5 (Qh) [none]) (zam 1))
 (zbU (zeG (zab (zeG (zab (Qh) (Qcw))) (zab (zhw (zab (zeG (zab (tCB (Qt) (QD)) (Qcw))) zau)) (zab (zeG (zab (tCB (Qt) (QD)) (zab (zeG (zab (Ql) (Qcw))) (zab (tCB (Qt) (QD)) zau)))) zau))))))
theorem zki{l:Addr}{ts:List Addr}(hl:H l=some (QR))(l6:ts.length≤6)(q:∀(r wr mr pr wl pp cl t u:Addr) (H':Hp),zaI H H'→H' r=some (Qaj)→H' wr=some (.tup (fr 1))→H' pr=some (Q3)→H' wl=some (Qcy)→H' pp=some (.tup (fr 0))→H' cl=some (Qcy)→MxH H' mr [t] [(u,zbI ts,1)]→H wl=none→H cl=none→H u=none→Q (Q0) H') :
  zfu K { nx:=λ_ H'=>Q .non H',rt:=Q } (L2.start ["boxes","ones"] [.ref l]) H:=by
 unfold zfu
 simp_all only [zac]
 refine(QaH)
 refine zcx (vs:=(zbI ts).map V.int) hl (by simp[zbI]) (by simp[zbI];omega) hD (λi x v H' R _ hv s k=>?_) λH1 s1 h1=>?_
 ·obtain⟨n,en,rfl⟩:=zat hv
  obtain⟨_,_,rfl⟩:=zat en
  exact k _ (QbA)
 refine⟨by decide,λp1 n1=>?_⟩
 have s2:=zan n1 (.tup [V.int 1,V.int 1])
 have h2:(L2.upd H1 p1 (.tup [V.int 1,V.int 1])) p1=some (.tup [V.int 1,V.int 1]):=zai
 generalize L2.upd H1 p1 (.tup [V.int 1,V.int 1])=H2 at s2 h2 ⊢
 refine⟨_,rfl,_,.inl (SqL.of (s2 _ _ h1)),λp2 n2=>?_⟩
 have s3:=zan n2 (Qcy)
 have h3:(L2.upd H2 p2 (Qcy)) p2=some (.lst (Q6)):=zai
 generalize L2.upd H2 p2 (.lst (Q6))=H3 at s3 h3 ⊢
 refine⟨by decide,λp3 n3=>?_⟩
 have s4:=zan n3 (.tup [V.ref p2,V.int 1])
 have h4:(L2.upd H3 p3 (.tup [V.ref p2,V.int 1])) p3=some (.tup [V.ref p2,V.int 1]):=zai
 generalize L2.upd H3 p3 (.tup [V.ref p2,V.int 1])=H4 at s4 h4 ⊢
 refine⟨by decide,λp4 n4=>?_⟩
 have s5:=zan n4 (.lst [V.ref p3])
 have h5:(L2.upd H4 p4 (.lst [V.ref p3])) p4=some (.lst [V.ref p3]):=zai
 generalize L2.upd H4 p4 (.lst [V.ref p3])=H5 at s5 h5 ⊢
 have S5:=s2.trans (s3.trans (s4.trans s5))
 refine⟨_,rfl,_,.inl (SqL.of (S5 _ _ h1)),λp5 n5=>?_⟩
 have s6:=zan n5 (Qcy)
 have h6:(L2.upd H5 p5 (Qcy)) p5=some (.lst (Q6)):=zai
 generalize L2.upd H5 p5 (.lst (Q6))=H6 at s6 h6 ⊢
 refine⟨by decide,λp6 n6=>?_⟩
 have s7:=zan n6 (.tup [V.int 0,V.int 1])
 have h7:(L2.upd H6 p6 (.tup [V.int 0,V.int 1])) p6=some (.tup [V.int 0,V.int 1]):=zai
 generalize L2.upd H6 p6 (.tup [V.int 0,V.int 1])=H7 at s7 h7 ⊢
 refine⟨_,rfl,_,.inl (SqL.of (s7 _ _ (s6 _ _ (S5 _ _ h1)))),λp7 n7=>?_⟩
 have s8:=zan n7 (Qcy)
 have h8:(L2.upd H7 p7 (Qcy)) p7=some (.lst (Q6)):=zai
 generalize L2.upd H7 p7 (.lst (Q6))=H8 at s8 h8 ⊢
 refine⟨by decide,λp8 n8=>?_⟩
 have s9:=zan n8 (.tup [V.ref p5,V.ref p6,V.ref p7])
 have h9:(L2.upd H8 p8 (.tup [V.ref p5,V.ref p6,V.ref p7])) p8=some (.tup [V.ref p5,V.ref p6,V.ref p7]):=zai
 generalize L2.upd H8 p8 (.tup [V.ref p5,V.ref p6,V.ref p7])=H9 at s9 h9 ⊢
 refine(Qbc)
 have sa:=zan nr (.tup [V.ref p1,V.ref p4,V.ref p8])
 have ha:(L2.upd H9 r (.tup [V.ref p1,V.ref p4,V.ref p8])) r=some (.tup [V.ref p1,V.ref p4,V.ref p8]):=zai
 generalize L2.upd H9 r (.tup [V.ref p1,V.ref p4,V.ref p8])=Ha at sa ha ⊢
 have S9:=s8.trans (s9.trans sa)
 have S5a:=s6.trans (s7.trans S9)
 refine q r p1 p4 p8 p5 p6 p7 p3 p2 Ha (s1.trans (S5.trans S5a)) ha (S5a _ _ (s5 _ _ (s4 _ _ (s3 _ _ h2)))) (sa _ _ h9) (S9 _ _ (s7 _ _ h6)) (S9 _ _ h7) (sa _ _ (s9 _ _ h8)) ⟨S5a _ _ h5,Tps.single (S5a _ _ (s5 _ _ h4)),λx hx=>?_⟩ ((s1.trans S5).free n5) ((s1.trans (S5.trans (s6.trans s7))).free n7) ((QaD).free n2)
 rw[List.mem_singleton.mp hx]
 exact S5a _ _ (s5 _ _ (s4 _ _ h3))
theorem zg1:zaB ["boxes","ones"] ["boxes"] (zag zd9):=⟨rfl,rfl,rfl,by decide +kernel,rfl,by decide +kernel,by decide +kernel⟩
theorem zkb(T:Txt K mg a):zcn P w K mg base CX0 1 a.f_sure_answer a.d_sure_answer ["boxes"] zvy:=by
 refine T.F_sure_answer.ok zg1 (Qj) (Qd)
 ·obtain⟨l,ts,rfl,hl,l6,q⟩:=h
  rfl
 obtain⟨l,ts,rfl,hl,l6,q⟩:=h
 exact⟨zfu K,(zaf (zcO (i:=1) zg1.nd rfl rfl (sc:=zag zd9) (N:=["boxes","ones"]) (Nc:=["box"]) (cap:=[none]) rfl rfl rfl (Qi) (Qbk) (Q9) (QF) (λ_ _ _ _=>zae))
 (zaj (zar (zbE (zaa (zbE (QbD)) (zaa (zcp (zaa (zbE (zaa (QbF) (QaB))) zad)) (zaa (zbE (zaa (QbF) (zaa (zbE (QbD)) (zaa (QbF) zad)))) zad))))))),
  zki hl l6 q⟩
abbrev Pw:=List Int×Int
def wsm(xs:List Pw):Int:=(QM).sum
def psm(bs:List Box)(xs:List Pw):Int:=(xs.map λx=>x.2*(zaF bs x.1).sum).sum
def csm(b:Box)(k:Nat)(xs:List Pw):Rat:=(xs.map λx=>(x.2:Rat)*chq b (x.1.getD k 0)).sum
def zhn(bs:List Box)(Ws ms:List Int):Rat:=(ψe (λ(w:Int) (c:Rat)=>(w:Rat)*c) Ws (zk0 bs ms)).sum
structure zqs (bs:List Box) (bud:Int) (V:Rat) (xs:List Pw):Prop where
 co:psm bs xs≤bud*wsm xs
 ch:∀(k:Nat) b,bs[k]?=some b→V*(wsm xs:Rat)≤csm b k xs
def Mrk(b:Box)(w:Int)(P:Rat)(n:Int):Prop:=(w:Rat)*gnq b n≤P*(b.1:Rat)∧(0<n→P*(b.1:Rat)≤(w:Rat)*gnq b (n - 1))
structure zqn (bs:List Box) (bud:Int) (V:Rat) (Ws:List Int) (P:Rat) (ns:List Int):Prop where
 mr:∀(i:Nat) b w n,bs[i]?=some b→Ws[i]?=some w→ns[i]?=some n→Mrk b w P n
 sm:zhn bs Ws ns+P*((bud - (zaF bs ns).sum:Int):Rat)≤V*(Ws.sum:Rat)
theorem zya{b:Box}(g:GB b){w:Int}(w0:0≤w){P:Rat}{n:Int}(n0:0≤n)(h:Mrk b w P n){m:Int}(m0:0≤m):(w:Rat)*(chq b m - chq b n)≤P*(b.1:Rat)*((m:Rat) - (n:Rat)):=by
 have wR:(0:Rat)≤(w:Rat):=by exact_mod_cast w0
 obtain⟨h1,h2⟩:=h
 rcases Int.lt_or_le m n with c | c
 ·have h3:=h2 (Qe)
  have s:=zqM g m0 (n:=n - 1) (Qe)
  have e:=zlQ g (n:=n - 1) (Qe)
  rw[show n - 1+1=n by omega] at e
  rw[ψY,show((1:Int):Rat)=1 from rfl] at s
  have s2:chq b m - chq b n≤gnq b (n - 1)*((m:Rat) - (n:Rat)):=by
   rw[e]
   grind
  have s3:=ψW s2 wR
  have d:(0:Rat)≤(n:Rat) - (m:Rat):=by
   have:(m:Rat)≤(n:Rat):=by exact_mod_cast (show m≤n by omega)
   grind
  have s4:=ψA h3 d
  grind
 ·have s:=zqM g m0 n0
  have s2:chq b m - chq b n≤gnq b n*((m:Rat) - (n:Rat)):=by grind
  have s3:=ψW s2 wR
  have d:(0:Rat)≤(m:Rat) - (n:Rat):=by
   have:(n:Rat)≤(m:Rat):=by exact_mod_cast c
   grind
  have s4:=ψA h1 d
  grind
theorem zpt{P:Rat}:∀(bs:List Box) (Ws ns ms:List Int),(Qav)→(∀w∈Ws,0≤w)→(∀n∈ns,0≤n)→(∀m∈ms,0≤m)→Ws.length=bs.length→ns.length=bs.length→ms.length=bs.length→(∀(i:Nat) b w n,bs[i]?=some b→Ws[i]?=some w→ns[i]?=some n→Mrk b w P n) →
  zhn bs Ws ms≤zhn bs Ws ns+P*(((zaF bs ms).sum - (zaF bs ns).sum:Int):Rat)
 | [],_,_,_,_,_,_,_,_,_,_,_=>by
  simp only[zhn,zk0,zaF,ψl1,ψL1,ψT]
  rw[show((0 - 0:Int):Rat)=0 from rfl]
  grind
 | _::_,[],_,_,_,_,_,_,h,_,_,_=>by cases h
 | _::_,_::_,[],_,_,_,_,_,_,h,_,_=>by cases h
 | _::_,_::_,_::_,[],_,_,_,_,_,_,h,_=>by cases h
 | b::bs,w::Ws,n::ns,m::ms,gb,w0,n0,m0,l1,l2,l3,h=>by
  have ih:=zpt (P:=P) bs Ws ns ms (QaL) (λx hx=>w0 x (Qbr)) (λx hx=>n0 x (Qbr)) (λx hx=>m0 x (Qbr)) (Nat.succ.inj l1) (Nat.succ.inj l2) (Nat.succ.inj l3) λi b' w' n' e1 e2 e3=>h (i+1) b' w' n' e1 e2 e3
  have t:=zya (gb b ψf) (w0 w ψf) (n0 n ψf) (h 0 b w n rfl rfl rfl) (m0 m ψf)
  show(w:Rat)*chq b m+zhn bs Ws ms≤((w:Rat)*chq b n+zhn bs Ws ns)+P*(((b.1*m+(zaF bs ms).sum) - (b.1*n+(zaF bs ns).sum):Int):Rat)
  have e:(((b.1*m+(zaF bs ms).sum) - (b.1*n+(zaF bs ns).sum):Int):Rat)=(b.1:Rat)*((m:Rat) - (n:Rat))+(((zaF bs ms).sum - (zaF bs ns).sum:Int):Rat):=by
   rw[ψY,ψY,ψN,ψN,ψj,ψj]
   grind
  rw[e]
  generalize zhn bs Ws ms=A at ih ⊢
  generalize zhn bs Ws ns=B at ih ⊢
  generalize (((zaF bs ms).sum - (zaF bs ns).sum:Int):Rat)=C at ih ⊢
  have t2:(w:Rat)*chq b m - (w:Rat)*chq b n≤P*(b.1:Rat)*((m:Rat) - (n:Rat)):=by grind
  grind
theorem zuD:∀(bs:List Box) (Ws ms:List Int),Ws.length=bs.length→ms.length=bs.length→zhn bs Ws ms=((ψl bs Ws).zipIdx.map λy=>(y.1.2:Rat)*chq y.1.1 (ms.getD y.2 0)).sum:=by
 intro bs Ws ms l1 l2
 unfold zhn
 congr 1
 refine List.ext_getElem? λi=>?_
 rw[ψX,zk0,ψX,ψt,ψV1]
 by_cases c:i<bs.length
 ·have e1:bs[i]?=some (bs[i]'c):=ψc c
  have e2:Ws[i]?=some (Ws[i]'(by omega)):=ψc _
  have e3:ms[i]?=some (ms[i]'(by omega)):=ψc _
  have e4:(ψl bs Ws)[i]?=some (bs[i]'c,Ws[i]'(by omega)):=List.getElem?_zip_eq_some.mpr ⟨e1,e2⟩
  rw[e1,e2,e3,e4]
  simp only[Option.map_some,ψN1]
  rw[ψv,e3]
  rfl
 ·have e1:bs[i]?=none:=ψS1 (Qe)
  have e2:Ws[i]?=none:=ψS1 (Qe)
  have e4:(ψl bs Ws)[i]?=none:=ψS1 (by rw[List.length_zip];omega)
  rw[e1,e2,e4]
  rfl
theorem zcs{α:Type}(f:α→Rat)(c:Rat):∀l:List α,(l.map f).sum*c=(l.map λx=>f x*c).sum
 | []=>by
  simp only[ψp1,ψT]
  grind
 | x::l=>by
  rw[ψu,ψk,ψu,ψk,← zcs f c l]
  grind
theorem zlX{α:Type}(f g:α→Rat):∀l:List α,(l.map λx=>f x+g x).sum=(l.map f).sum+(l.map g).sum
 | []=>by
  simp only[ψp1,ψT]
  grind
 | x::l=>by
  simp only[ψu,ψk]
  rw[zlX f g l]
  grind
theorem zoU{α:Type}:∀l:List α,(l.map λ_=>(0:Rat)).sum=0
 | []=>rfl
 | _::l=>by
  rw[ψu,ψk,zoU l,Rat.add_zero]
theorem zpu{α β:Type}(f:α→β→Rat)(l:List α):∀m:List β,(l.map λx=>(m.map λy=>f x y).sum).sum=(m.map λy=>(l.map λx=>f x y).sum).sum
 | []=>by
  simp only[ψp1,ψT]
  exact zoU l
 | y::m=>by
  simp only[ψu,ψk]
  rw[zlX,zpu f l m]
theorem zta{α:Type}(f g:α→Rat):∀l:List α,(∀x∈l,f x≤g x)→(l.map f).sum≤(l.map g).sum
 | [],_=>ψD1
 | x::l,h=>by
  have ih:=zta f g l λy hy=>h y (ψd _ hy)
  have hx:=h x ψf
  rw[ψu,ψk,ψu,ψk]
  grind
theorem zi3{α:Type}(f:α→Int):∀l:List α,(((l.map f).sum:Int):Rat)=(l.map λx=>(f x:Rat)).sum
 | []=>rfl
 | x::l=>by
  rw[ψu,ψk,ψu,ψk,ψN,zi3 f l]
theorem zmL{bs:List Box}{bud:Int}{V V' P:Rat}{xs:List Pw}{Ws ns:List Int}(gb:∀b∈bs,GB b)(S:zqs bs bud V xs)(Hd:zqn bs bud V' Ws P ns)(hx:∀x∈xs,x.1.length=bs.length∧(∀m∈x.1,0≤m)∧0≤x.2)(x1:0<wsm xs)(w0:∀w∈Ws,0≤w)(wp:0<Ws.sum)(lw:Ws.length=bs.length)(ln:ns.length=bs.length)(n0:∀n∈ns,0≤n)(p0:0≤P):V≤V':=by
 have S0:(0:Rat)<(Ws.sum:Rat):=by exact_mod_cast wp
 have T0:(0:Rat)<(wsm xs:Rat):=by exact_mod_cast x1
 have wc:(wsm xs:Rat)=(xs.map λx=>(x.2:Rat)).sum:=zi3 _ xs
 have A:(xs.map λx=>(x.2:Rat)*zhn bs Ws x.1).sum≤V'*(Ws.sum:Rat)*(wsm xs:Rat):=by
  have h1:=zta (λx:Pw=>(x.2:Rat)*zhn bs Ws x.1) (λx=>V'*(Ws.sum:Rat)*(x.2:Rat)+P*((x.2*(zaF bs x.1).sum - bud*x.2:Int):Rat)) xs λx hm=>by
   obtain⟨a1,a2,a3⟩:=hx x hm
   have h:=zpt (P:=P) bs Ws ns x.1 gb w0 n0 a2 lw ln a1 Hd.mr
   have s:=Hd.sm
   have w0:(0:Rat)≤(x.2:Rat):=by exact_mod_cast a3
   have h2:zhn bs Ws x.1≤V'*(Ws.sum:Rat)+P*(((zaF bs x.1).sum - bud:Int):Rat):=by
    rw[ψY] at h s ⊢
    generalize zhn bs Ws x.1=A at *
    generalize zhn bs Ws ns=B at *
    grind
   have h3:=ψW h2 w0
   rw[ψY,ψj,ψj]
   rw[ψY] at h3
   grind
  rw[zlX] at h1
  have e1:(xs.map λx=>V'*(Ws.sum:Rat)*(x.2:Rat)).sum=V'*(Ws.sum:Rat)*(wsm xs:Rat):=by
   rw[wc,Rat.mul_comm (V'*(Ws.sum:Rat)),zcs]
   congr 1
   exact ψk1 λx _=>Rat.mul_comm _ _
  have e2:(xs.map λx=>P*((x.2*(zaF bs x.1).sum - bud*x.2:Int):Rat)).sum=P*((psm bs xs - bud*wsm xs:Int):Rat):=by
   rw[Rat.mul_comm P,ψY,ψj bud,wc,psm,zi3,Rat.sub_eq_add_neg,← Rat.neg_mul,Rat.mul_comm (-(bud:Rat)),zcs _ (-(bud:Rat)),← zlX,zcs]
   congr 1
   refine ψk1 λx _=>?_
   rw[ψY,ψj bud]
   grind
  rw[e1,e2] at h1
  have co:=S.co
  have n1:((psm bs xs - bud*wsm xs:Int):Rat)≤0:=by exact_mod_cast (show psm bs xs - bud*wsm xs≤0 by omega)
  have n2:=ψW n1 p0
  grind
 have Bq':(xs.map λx=>(x.2:Rat)*zhn bs Ws x.1).sum=((ψl bs Ws).zipIdx.map λy=>(y.1.2:Rat)*csm y.1.1 y.2 xs).sum:=by
  have e1:(xs.map λx=>(x.2:Rat)*zhn bs Ws x.1)=xs.map λx=>((ψl bs Ws).zipIdx.map λy=>(y.1.2:Rat)*((x.2:Rat)*chq y.1.1 (x.1.getD y.2 0))).sum:=by
   refine ψk1 λx hm=>?_
   rw[zuD bs Ws x.1 lw (hx x hm).1,Rat.mul_comm,zcs]
   congr 1
   exact ψk1 λy _=>by grind
  rw[e1,zpu]
  congr 1
  refine ψk1 λy _=>?_
  unfold csm
  rw[Rat.mul_comm (y.1.2:Rat),zcs]
  congr 1
  exact ψk1 λx _=>by grind
 have C:=zta (λy:(Box×Int)×Nat=>(y.1.2:Rat)*(V*(wsm xs:Rat))) (λy=>(y.1.2:Rat)*csm y.1.1 y.2 xs) (ψl bs Ws).zipIdx λy hy=>by
  obtain⟨i,ei⟩:=ψq hy
  rw[ψV1] at ei
  obtain⟨z,ez,e⟩:=Option.map_eq_some_iff.mp ei
  rw[ψK] at ez
  rw[← e]
  have h:=S.ch (0+i) z.1 (by rw[ψN1];exact ez.1)
  have w0:(0:Rat)≤(z.2:Rat):=by exact_mod_cast w0 _ (zap ez.2)
  exact ψW h w0
 rw[← Bq'] at C
 have D:((ψl bs Ws).zipIdx.map λy=>(y.1.2:Rat)*(V*(wsm xs:Rat))).sum=(Ws.sum:Rat)*(V*(wsm xs:Rat)):=by
  rw[← zcs (λy:(Box×Int)×Nat=>(y.1.2:Rat))]
  congr 1
  rw[← zi3 (λy:(Box×Int)×Nat=>y.1.2)]
  congr 2
  show List.map (Prod.snd ∘ Prod.fst) (ψl bs Ws).zipIdx=Ws
  rw[← List.map_map (f:=Prod.fst) (g:=Prod.snd),List.zipIdx_map_fst,List.map_snd_zip (Qe)]
 rw[D] at C
 have E:=Rat.le_trans C A
 have F:(0:Rat)<(Ws.sum:Rat)*(wsm xs:Rat):=ψw1 S0 T0
 refine ψE λc=>?_
 have c':V'<V:=Rat.not_le.mp c
 have G:=ψQ1 c' F
 grind
structure zoR (bs:List Box) (bud:Int) (W:Rat) (xs:List Pw) (Ws:List Int) (P:Rat) (ns:List Int):Prop where
 bW:Bq 1300 W
 x1:1≤xs.length
 xn:xs.length≤bs.length+1
 pl:∀x∈xs,x.1.length=bs.length∧∀m∈x.1,0≤m∧m≤60
 xw:∀x∈xs,1≤x.2∧Bd 1800 x.2
 seek:zqs bs bud W xs
 one:(∀b∈bs,b.1=1)→∀x∈xs,x.1.sum≤bud
 lw:Ws.length=bs.length
 ww:∀w∈Ws,1≤w∧Bd 2700 w
 p0:0≤P
 pb:Bq 2700 P
 ln:ns.length=bs.length
 nn:∀n∈ns,0≤n∧n≤60
 hide:zqn bs bud W Ws P ns
theorem zsw{P:Rat}:∀{bs:List Box} {ns Ws ms:List Int},(∀(i:Nat) b n w,bs[i]?=some b→ns[i]?=some n→Ws[i]?=some w→(w:Rat)=wq b n*P)→ns.length=bs.length→Ws.length=bs.length→ms.length=bs.length →
  (Ws.sum:Rat)=(wqs bs ns).sum*P∧zhn bs Ws ms=(ψe (λx y:Rat=>x*y) (Qaz) (zk0 bs ms)).sum*P
 | [],[],[],[],_,_,_,_=>by
  refine⟨?_,?_⟩
  ·show((0:Int):Rat)=0*P
   rw[show((0:Int):Rat)=0 from rfl]
   grind
  ·simp only[zhn,wqs,zk0,ψl1,ψT]
   grind
 | [],_::_,_,_,_,h,_,_=>by cases h
 | [],_,_::_,_,_,_,h,_=>by cases h
 | [],_,_,_::_,_,_,_,h=>by cases h
 | _::_,[],_,_,_,h,_,_=>by cases h
 | _::_,_::_,[],_,_,_,h,_=>by cases h
 | _::_,_::_,_::_,[],_,_,_,h=>by cases h
 | b::bs,n::ns,w::Ws,m::ms,h,l1,l2,l3=>by
  obtain⟨z1,z2⟩:=zsw (P:=P) (bs:=bs) (ns:=ns) (Ws:=Ws) (ms:=ms) (λi b' n' w' e1 e2 e3=>h (i+1) b' n' w' e1 e2 e3) (Nat.succ.inj l1) (Nat.succ.inj l2) (Nat.succ.inj l3)
  have h0:=h 0 b n w rfl rfl rfl
  refine⟨?_,?_⟩
  ·show(((w+Ws.sum:Int)):Rat)=(wq b n+(wqs bs ns).sum)*P
   rw[ψN,z1,h0]
   grind
  ·show(w:Rat)*chq b m+zhn bs Ws ms=(wq b n*chq b m+(ψe (λx y:Rat=>x*y) (Qaz) (zk0 bs ms)).sum)*P
   rw[z2,h0]
   grind
theorem zoR.of{bs:List Box}{ns Ws:List Int}{bud:Int}{P:Rat}{xs:List Pw}(gb:∀b∈bs,GB b)(l1:1≤bs.length)(l6:bs.length≤6)(d1:bud≤60)(L:Lev bs ns bud (Qar))(PW:PapW bs ns Ws P)(M:zuH bs bud (Qar) xs):zoR bs bud (Qar) xs Ws P ns:=by
 have W:=zhh gb L.gn (zjB l1 L.len)
 obtain⟨e1,e2⟩:=zsw PW.eq L.len PW.len L.len
 refine⟨zti L gb l1 l6 d1,M.l1,M.ln,M.pl,λx hx=>⟨M.w0 x hx,M.wb x hx⟩,⟨?_,λk b hk=>?_⟩,M.one,PW.len,λw hw=>⟨?_,PW.wb w hw⟩,ψC PW.p0,PW.pb,L.len,λn hn=>⟨L.n0 n hn,by have:=L.n59 n hn;omega⟩,⟨λi b w n h1 h2 h3=>?_,?_⟩⟩
 ·exact Int.le_of_eq M.co
 ·unfold csm wsm
  rw[M.ch k b hk]
  exact ψD1
 ·obtain⟨i,ei⟩:=ψq hw
  have li:=(Qct).1
  have hb:bs[i]?=some (bs[i]'(by rw[← PW.len];exact li)):=ψc _
  have hn:ns[i]?=some (ns[i]'(by rw[L.len,← PW.len];exact li)):=ψc _
  have e:=PW.eq i _ _ w hb hn ei
  have p:=ψw1 (znf (gb _ (zap hb)) (L.gn i _ _ hb hn)) PW.p0
  rw[← e] at p
  have:(0:Int)<w:=by exact_mod_cast p
  omega
 ·have g:=gb b (zap h1)
  have gn:=L.gn i b n h1 h3
  have e:=PW.eq i b n w h1 h3 h2
  have n0:=L.n0 n (zap h3)
  have k:(w:Rat)*gnq b n=P*(b.1:Rat):=by
   rw[e]
   unfold wq
   grind
  refine⟨by rw[k];exact ψD1,λnp=>?_⟩
  rw[← k]
  have wR:(0:Rat)≤(w:Rat):=by
   rw[e]
   exact ψC (ψw1 (znf g gn) PW.p0)
  refine ψW ?_ wR
  obtain⟨p0,p1,_⟩:=zkh g
  rw[zfL g,zfL g,show n.toNat=(n - 1).toNat+1 by omega,ψe1]
  have h:=(zbK (ψC p0) p1 (n - 1).toNat).2.1
  have a:=ψg1 h (ψC p0)
  have c:=ψg1 a (ψC p0)
  grind
 ·rw[e2,e1]
  have e3:(ψe (λx y:Rat=>x*y) (Qaz) (zk0 bs ns)).sum=(ziI bs ns).sum:=rfl
  rw[e3]
  have v:ze8 bs ns bud*(wqs bs ns).sum=(ziI bs ns).sum+((bud - (zaF bs ns).sum:Int):Rat):=by
   unfold ze8
   generalize (Qaz).sum=S at W ⊢
   have:S≠0:=by grind
   grind
  have e4:ze8 bs ns bud*((Qaz).sum*P)=ze8 bs ns bud*(wqs bs ns).sum*P:=by grind
  rw[e4,v]
  grind
theorem zis(ts:List Addr):∀n∈zbI ts,n=1:=λn hn=>by
 obtain⟨_,_,e⟩:=List.mem_map.mp hn
 exact e.symm
theorem zt3(ts:List Addr):(zbI ts).length=ts.length:=ψb ..
theorem zoM(ts:List Addr):(zbI ts).sum=(ts.length:Int):=by
 induction ts with
 | nil=>rfl
 | cons t ts ih =>
  show 1+(zbI ts).sum=_
  rw[ih,ψM]
  omega
theorem znm:∀(bs:List Box) (ts:List Addr),ts.length=bs.length→(zaF bs (zbI ts)).sum=(bs.map λb=>b.1).sum
 | [],_,_=>by simp[zaF]
 | _::_,[],h=>by cases h
 | b::bs,t::ts,h=>by
  show b.1*1+(zaF bs (zbI ts)).sum=b.1+(bs.map λb=>b.1).sum
  rw[znm bs ts (Nat.succ.inj h),Int.mul_one]
theorem zla{b:Box}(g:GB b)(h:b.2.1=b.2.2):chq b 1=1∧gnq b 1=0:=by
 have o0:(b.2.2:Rat)≠0:=λz=>by
  have:b.2.2=0:=by exact_mod_cast z
  have:=g.2.2.1
  have:=g.2.2.2.1
  omega
 have p:pr b=1:=by
  unfold pr
  rw[h,ψn]
  grind
 rw[zff g,zfL g,p,show(1:Int).toNat=0+1 from rfl,ψe1,ψq1]
 constructor <;> grind
theorem zpk:∀(bs:List Box) (ts:List Addr),(Qav)→(QaV)→ts.length=bs.length→zhn bs (zbI ts) (zbI ts)=((ts.length:Int):Rat)
 | [],[],_,_,_=>by
  simp only[zhn,zk0,zbI,ψp1,ψl1,ψT]
  rfl
 | [],_::_,_,_,h=>by cases h
 | _::_,[],_,_,h=>by cases h
 | b::bs,t::ts,gb,hs,h=>by
  have ih:=zpk bs ts (QaL) (λx hx=>hs x (Qbr)) (Nat.succ.inj h)
  show((1:Int):Rat)*chq b 1+zhn bs (zbI ts) (zbI ts)=(((ts.length+1:Nat):Int):Rat)
  rw[ih,(zla (gb b ψf) (hs b ψf)).1,show((ts.length+1:Nat):Int)=(ts.length:Int)+1 by omega,ψN,show((1:Int):Rat)=1 from rfl]
  grind
theorem zoR.sure{bs:List Box}{ts:List Addr}{bud:Int}(gb:∀b∈bs,GB b)(lt:ts.length=bs.length)(l1:1≤bs.length)(hs:∀b∈bs,b.2.1=b.2.2)(hc:(Qbo).sum≤bud):zoR bs bud 1 [(zbI ts,1)] (zbI ts) 0 (zbI ts):=by
 have ol:=zt3 ts
 have oc:=znm bs ts lt
 have one1:∀m:Nat,1≤m→(1:Nat)<2 ^ m:=λm h=>Nat.one_lt_two_pow (Qe)
 refine⟨⟨one1 _ (Qn),one1 _ (Qn)⟩,ψm _,by show 1≤_;omega,λx hx=>?_,λx hx=>?_,⟨?_,λk b hk=>?_⟩,λh1 x hx=>?_,by omega,λw hw=>?_,ψD1,⟨Nat.pow_pos (Qn),one1 _ (Qn)⟩,by omega,λn hn=>?_,⟨λi b w n e1 e2 e3=>?_,?_⟩⟩
 ·rw[List.mem_singleton.mp hx]
  exact⟨by show(zbI ts).length=_;omega,λm hm=>by rw[zis ts m hm];decide⟩
 ·rw[List.mem_singleton.mp hx]
  exact⟨Int.le_refl 1,one1 _ (Qn)⟩
 ·show 1*(zaF bs (zbI ts)).sum+0≤bud*(1+0)
  rw[oc]
  omega
 ·have lk:=(Qbz).1
  have e:(zbI ts).getD k 0=1:=by
   rw[ψv,ψc (Qe)]
   exact zis ts _ (ψs1 _)
  show(1:Rat)*((1+0:Int):Rat)≤((1:Int):Rat)*chq b ((zbI ts).getD k 0)+0
  rw[e,(zla (gb b (zap hk)) (hs b (zap hk))).1,show((1+0:Int):Rat)=1 from rfl,show((1:Int):Rat)=1 from rfl]
  grind
 ·rw[List.mem_singleton.mp hx]
  show(zbI ts).sum≤bud
  rw[zoM]
  have:(Qbo).sum=(bs.length:Int):=by
   clear hc oc hs gb l1 lt
   induction bs with
   | nil=>rfl
   | cons b bs ih =>
    rw[ψu,ψk,ih λx hx=>h1 x (Qbr),h1 b ψf,ψM]
    omega
  omega
 ·rw[zis ts w hw]
  exact⟨Int.le_refl 1,one1 _ (Qn)⟩
 ·rw[zis ts n hn]
  decide
 ·rw[zis ts w (zap e2),zis ts n (zap e3)]
  have g:=gb b (zap e1)
  refine⟨?_,λ_=>?_⟩
  ·rw[(zla g (hs b (zap e1))).2]
   grind
  ·have:=zkD g (1 - 1)
   rw[show((1:Int):Rat)=1 from rfl]
   grind
 ·rw[zpk bs ts gb hs lt,zoM]
  generalize ((bud - (zaF bs (zbI ts)).sum:Int):Rat)=C
  grind
def zfJ:Sp:=λvs H Q _=>∃(l:Addr) (ts:List Addr) (bs:List Box) (bud:Int),vs=[.ref l,.int bud]∧H l=some (QR)∧Tps bx H ts bs∧(Qav)∧1≤bs.length∧bs.length≤6∧0≤bud∧bud≤60 ∧
 ∀(r wr mr pr wl pp cl:Addr) (W P:Rat) (us:List Addr) (xs:List Mp) (Ws ns:List Int) (H':Hp),zaI H H'→H' r=some (Qaj)→H' wr=some (Qag)→MxH H' mr us xs→H' pr=some (Q3)→H' wl=some (QaI)→H' pp=some (Qbq)→H' cl=some (QS)→zoR bs bud W (QM) Ws P ns→H wl=none→H cl=none→(∀x∈xs,H x.1=none)→Q (Q0) H'
def zfQ(K:ψa):TS :=
 (zbd (zbO (zaz zpj [] E0 (Q7)) (Qba))
 (zbU (zeG (zab (zac 3) (zab (zaz zsS [] E0 (zab (zac 0) (zab (zac 2) (QO)))) (zab (zaz zmt [] E0 (Qcq)) zau))))))
def zcv(K:ψa):=eqT (zfQ.eq_1 K)
def zeV(K:ψa):TS :=
 (zbd (zkj (zaz zs2 [] E0 (QE)))
 (zbd (zkj (zaz zgl [] E0 (QD)))
 (zbd (zdG (zdQ (tB (zaz zpI [] E0 (Q7))) (zbU (zaz zvy [] E0 (QE))) zb1))
 (zfQ K))))
theorem zjg{l:Addr}{ts:List Addr}{bs:List Box}{bud:Int}(hl:H l=some (QR))(T:Tps bx H ts bs)(gb:∀b∈bs,GB b)(l1:1≤bs.length)(l6:bs.length≤6)(d0:0≤bud)(d1:bud≤60)
  (q:∀(r wr mr pr wl pp cl:Addr) (W P:Rat) (us:List Addr) (xs:List Mp) (Ws ns:List Int) (H':Hp),zaI H H'→H' r=some (Qaj)→H' wr=some (Qag)→MxH H' mr us xs→H' pr=some (Q3)→H' wl=some (QaI)→H' pp=some (Qbq)→H' cl=some (QS)→zoR bs bud W (QM) Ws P ns→H wl=none→H cl=none→(∀x∈xs,H x.1=none)→Q (Q0) H') :
  zeV K { nx:=λ_ H'=>Q .non H',rt:=Q } (L2.start ["boxes","budget","counts","worth"] [.ref l,.int bud]) H:=by
 unfold zeV
 simp_all only [zcv,zac]
 refine⟨l,ts,bs,rfl,hl,T,gb,l1,by omega,λH1 s1=>?_⟩
 refine⟨bud,rfl,d0,d1,?_⟩
 have hl1:=s1 _ _ hl
 have T1:=T.same s1
 refine⟨λσ H'=>zaI H1 H'∧((QaV)→bud<(bs.map λb=>b.1).sum)∧σ=[some (Qa5),some (Qbt),none,none],?_,?_⟩
 ·simp_all only [zcv,zac]
  refine⟨l,ts,bs,bud,rfl,hl1,T1,by omega,λc H2 s2 hc=>⟨c,rfl,?_⟩⟩
  cases c with
  | true =>
   obtain⟨c1,c2⟩:=hc.mp rfl
   refine zqt ⟨l,ts,rfl,s2 _ _ hl1,by have:=T.1;omega,λr wr mr pr wl pp cl t u H3 s3 a1 a2 a3 a4 a5 a6 a7 a8 a9 aa=>?_⟩
   exact q r wr mr pr wl pp cl _ _ _ _ _ _ H3 (s1.trans (Qcs)) a1 a2 a7 a3 a4 a5 a6 (zoR.sure gb T.1 l1 c1 c2) ((QaD).free a8) ((QaD).free a9) λx hx=>by rw[List.mem_singleton.mp hx];exact(QaD).free aa
  | false =>
   refine iteF ⟨s2,λh=>?_⟩
   refine ψE λz=>?_
   exact absurd (hc.mpr ⟨h,by omega⟩) (Qn)
 ·rintro σ H2 ⟨s2,hs,rfl⟩
  simp_all only [zcv,zac]
  refine⟨l,ts,bs,bud,rfl,s2 _ _ hl1,T1.same s2,gb,l1,l6,d0,d1,hs,λr pl wr ns H3 s3 h3 B L hw=>?_⟩
  simp_all only [zcv,zac]
  refine⟨_,SqT.of h3,rfl,_,_,rfl,_,_,rfl,rfl,?_⟩
  refine⟨l,pl,wr,ts,bs,ns,bud,rfl,B,L,hw,d1,λmr us xs H4 s4 Mx MO fx=>?_⟩
  refine⟨l,pl,ts,bs,ns,rfl,B.same s4,L.gn,l6,λpr wl pp cl Ws P H5 s5 a1 a2 a3 a4 PW a6 a7=>?_⟩
  have S3:=s1.trans (Qcs)
  refine⟨by decide,λr6 n6=>?_⟩
  have s6:=zan n6 (.tup [V.ref wr,V.ref mr,V.ref pr])
  have h6:(L2.upd H5 r6 (.tup [V.ref wr,V.ref mr,V.ref pr])) r6=some (.tup [V.ref wr,V.ref mr,V.ref pr]):=zai
  generalize L2.upd H5 r6 (.tup [V.ref wr,V.ref mr,V.ref pr])=H6 at s6 h6 ⊢
  exact q r6 wr mr pr wl pp cl _ _ _ _ _ _ H6 (s1.trans (s2.trans (s3.trans (s4.trans (s5.trans s6))))) h6 (s6 _ _ (s5 _ _ (s4 _ _ hw))) (Mx.same (s5.trans s6)) (s6 _ _ a1) (s6 _ _ a2) (s6 _ _ a3) (s6 _ _ a4) (zoR.of gb l1 l6 d1 L PW MO) ((S3.trans s4).free a6) ((S3.trans s4).free a7) λx hx=>S3.free (fx x hx)
theorem zel:zaB ["boxes","budget","counts","worth"] ["boxes","budget"] (zag zeS):=⟨rfl,rfl,rfl,by decide +kernel,rfl,by decide +kernel,by decide +kernel⟩
theorem zje(T:Txt K mg a):zcn P w K mg base CX0 7 a.f_budget_worth a.d_budget_worth ["boxes","budget"] zfJ:=by
 have G_counts_and_worth:=zho (P:=P) (w:=w) (base:=base) T
 have G_is_sure:=zqc (P:=P) (w:=w) (base:=base) T
 have G_look_boxes:=zhE (P:=P) (w:=w) (base:=base) T
 have G_look_budget:=zg2 (P:=P) (w:=w) (base:=base) T
 have G_mix_of:=zsn (P:=P) (w:=w) (base:=base) T
 have G_paper_of:=znp (P:=P) (w:=w) (base:=base) T
 have G_sure_answer:=zkb (P:=P) (w:=w) (base:=base) T
 refine T.F_budget_worth.ok zel (Qj) (Qd)
 ·obtain⟨l,ts,bs,bud,rfl,hl,T',gb,l1,l6,d0,d1,q⟩:=h
  rfl
 obtain⟨l,ts,bs,bud,rfl,hl,T',gb,l1,l6,d0,d1,q⟩:=h
 exact⟨zeV K,(zaf (zf8 (zah G_look_boxes (Qa) rfl T.m_look_boxes T.F_look_boxes.kp T.b_look_boxes .nil zax (Qap)))
 (zaf (zf8 (zah G_look_budget (Qa) rfl T.m_look_budget T.F_look_budget.kp T.b_look_budget .nil zax (QG)))
 (zaf (zbs (zbP (zbt (zah G_is_sure (Qa) rfl T.m_is_sure T.F_is_sure.kp T.b_is_sure .nil zax (Qac))) (zaj (zar (zah G_sure_answer (Qa) rfl T.m_sure_answer T.F_sure_answer.kp T.b_sure_answer .nil zax (Qap)))) zaR))
 (zaf (zcY (zah G_counts_and_worth (Qa) rfl T.m_counts_and_worth T.F_counts_and_worth.kp T.b_counts_and_worth .nil zax (Qac)) (zbu rfl (zal (zak (i:=2) zel.nd rfl (Qf)) (zal (zak (i:=3) zel.nd rfl (Qf)) za3))))
 (zaj (zar (zbE (zaa (pv 3) (zaa (zah G_mix_of (Qa) rfl T.m_mix_of T.F_mix_of.kp T.b_mix_of .nil zax (zaa (pv 0) (zaa (pv 2) (QU)))) (zaa (zah G_paper_of (Qa) rfl T.m_paper_of T.F_paper_of.kp T.b_paper_of .nil zax (QcB)) zad)))))))))),
  zjg hl T' gb l1 l6 d0 d1 q⟩
structure Bx6 (H:Hp) (l:Addr) (ts:List Addr) (bs:List Box):Prop where
 hl:H l=some (QR)
 hb:Tps bx H ts bs
 gb:∀b∈bs,GB b
 l1:1≤bs.length
 l6:bs.length≤6
theorem Bx6.same{H H':Hp}{l:Addr}{ts:List Addr}{bs:List Box}(h:Bx6 H l ts bs)(s:zaI H H'):Bx6 H' l ts bs:=⟨s _ _ h.hl,h.hb.same s,h.gb,h.l1,h.l6⟩
theorem Bx6.ix{H:Hp}{l:Addr}{ts:List Addr}{bs:List Box}(h:Bx6 H l ts bs){i:Nat}(hi:i<bs.length):∃(t:Addr) (b:Box),ts[i]?=some t∧bs[i]?=some b∧atI (ts.map V.ref) (i:Int)=some (.ref t)∧H t=some (Qbg)∧GB b:=by
 have lt:=h.hb.1
 have e:ts[i]?=some (ts[i]'(by omega)):=ψc (Qe)
 obtain⟨b,h1,h2⟩:=h.hb.at e
 exact⟨_,b,e,h1,zdj (by rw[ψt,e];rfl),h2,h.gb b (zap h1)⟩
theorem Bx6.bp{H:Hp}{l pl:Addr}{ts:List Addr}{bs:List Box}{ns:List Int}(h:Bx6 H l ts bs)(hp:H pl=some (QS))(len:ns.length=bs.length)(gn:∀n∈ns,0≤n∧n≤60):BP H l pl ts bs ns:=⟨h.hl,h.hb,hp,len,h.gb,gn,h.l1,h.l6⟩
def okP(ms:List Int):Bool:=ms.all λm=>decide (m≤60)
theorem zhe{ms:List Int}:okP ms=true↔∀m∈ms,m≤60:=by
 unfold okP
 rw[ψz1]
 exact⟨λh m hm=>of_decide_eq_true (h m hm),λh m hm=>decide_eq_true (h m hm)⟩
def zjW(n:Nat)(xs:List Mp):Prop:=1≤xs.length∧xs.length≤9∧∀x∈xs,x.2.1.length=n∧(∀m∈x.2.1,0≤m∧m≤100)∧1≤x.2.2∧Bd 1900 x.2.2
theorem zgw{α:Type}(f:α→Bool)(l:List α):(l.map f).all id=l.all f:=by
 rw[List.all_map]
 rfl
def zkI:Sp:=λvs H Q _=>∃(pl l:Addr) (ts:List Addr) (bs:List Box) (ms:List Int),vs=[.ref pl,.ref l]∧Bx6 H l ts bs∧H pl=some (Qca)∧ms.length=bs.length∧(∀m∈ms,0≤m)∧∀H',zaI H H'→Q (.bl (okP ms)) H'
def zjw(K:ψa):TS :=
 (zbU (tCB (zv1 K) (zab (zb3 (QaE) (zam 0) za5 (zaz zfh [] E0 (zab (zac 0) (zab (Ql) (QbO)))) [none]) zau)))
def zdC(K:ψa):=eqT (zjw.eq_1 K)
def zjO(K:ψa):TS :=
 (zdQ (tOr (zfe (tB (Qad))) (zb5 (tOp rNe (Qas) (tCB (Qb) (QD))))) (QC) zb1)
def zdD(K:ψa):=eqT (zjO.eq_1 K)
def zjA(K:ψa):TS :=
 (zbd (zdG (zjO K))
 (zjw K))
theorem zpJ{pl l:Addr}{ts:List Addr}{bs:List Box}{ms:List Int}(B:Bx6 H l ts bs)(hp:H pl=some (Qca))(len:ms.length=bs.length)(m0:∀m∈ms,0≤m)(q:∀H',zaI H H'→Q (.bl (okP ms)) H') :
  zjA K { nx:=λ_ H'=>Q .non H',rt:=Q } (L2.start ["thing","boxes"] [.ref pl,.ref l]) H:=by
 unfold zjA
 have l6:=B.l6
 simp_all only [zdC,zdD,zac]
 refine⟨λσ H'=>H'=H∧σ=[some (.ref pl),some (Qa5)],?_,?_⟩
 ·simp_all only [zdC,zdD,zac]
  refine zcI hp (Qat)
  refine zcg (Qy) (QaM)
  refine⟨_,.inl (SqL.of hp),_,.inl (SqL.of B.hl),?_⟩
  rw[ψb,ψb,B.hb.1,len]
  exact zcg (QN) (Qcc)
 ·rintro σ H' ⟨e,rfl⟩
  rw[e]
  simp_all only [zdC,zdD,zac]
  refine⟨⟨_,SqL.of hp⟩,λD hD=>?_⟩
  refine zcx (vs:=(ms.map λm=>decide (m≤60)).map V.bl) hp (Qby) (by simp;omega) hD (Qal) λH1 s1 h1=>?_
  ·obtain⟨m,em,rfl⟩:=zat hx
   obtain⟨w,ew,rfl⟩:=zat hv
   obtain⟨m',em',rfl⟩:=zat ew
   rw[em] at em'
   cases em'
   simp_all only [zdC,zdD,zac]
   refine⟨_,_,_,rfl,?_⟩
   rw[decide_eq_decide.mpr (show(0≤m∧m≤60)↔m≤60 from⟨λz=>z.2,λz=>⟨m0 m (zap em),z⟩⟩)]
   exact k _ (QbA)
  ·refine⟨D,rfl,_,SqL.of h1,?_⟩
   rw[zgw]
   exact q _ s1
theorem zpM:zaB ["thing","boxes"] ["thing","boxes"] (zag zhL):=⟨rfl,rfl,rfl,by decide +kernel,rfl,by decide +kernel,by decide +kernel⟩
theorem zkE(T:Txt K mg a):zcn P w K mg base CX0 3 a.f_is_plan a.d_is_plan ["thing","boxes"] zkI:=by
 have G_is_within:=zgf (P:=P) (w:=w) (base:=base) T
 refine T.F_is_plan.ok zpM (Qj) (Qd)
 ·obtain⟨pl,l,ts,bs,ms,rfl,B,hp,len,m0,q⟩:=h
  rfl
 obtain⟨pl,l,ts,bs,ms,rfl,B,hp,len,m0,q⟩:=h
 exact⟨zjA K,(zaf (zbs (zbP (PW.pt (zdl (zbL (zbt (Qx))) (zc5 (zbb ziK (Qu) (zao zaA rfl T.z_len ψr (QG)) (za4 _))))) (QP) zaR))
 (zaj (zar (zao (zgt rfl) rfl T.z_all ψC1 (zaa (zbi (sc:=zag zhL) (N:=["thing","boxes"]) (Nc:=["count"]) (cap:=[none]) rfl rfl rfl (Qi) (Qbk) (λ_ _ _ _=>(zak (i:=0) (show ψh (["count"]:List Str) from by decide) rfl (Qf))) (QF) (λ_ _ _ _=>(zah G_is_within (Qa) rfl T.m_is_within T.F_is_within.kp T.b_is_within .nil zax (zaa (pv 0) (zaa zae (zaa (zh7 rfl T.m_MOST_LOOKS ⟨_,rfl⟩) zad)))))) zad))))),
  zpJ B hp len m0 q⟩
def zl7:Sp:=λvs H Q _=>∃(u l:Addr) (ts:List Addr) (bs:List Box) (x:Mp),vs=[.ref u,.ref l]∧Bx6 H l ts bs∧H u=some (.tup [mt1 x,mt2 x])∧H x.1=some (Qbs)∧x.2.1.length=bs.length∧(∀m∈x.2.1,0≤m)∧1≤x.2.2∧∀H',zaI H H'→Q (.bl (okP x.2.1)) H'
def ziz(K:ψa):TS :=
 (zbU (zfE (zaz zkI [] E0 (zab (QK) (QD))) (zfE (zaz zig [] E0 (zab (QB) zau)) (tOp (Qae) (QB) (Qh)))))
def zep(K:ψa):=eqT (ziz.eq_1 K)
def ziA(K:ψa):TS :=
 (zdQ (tOr (zfe (QW)) (zb5 (tOp rNe (Qas) (QV)))) (QC) zb1)
def zeA(K:ψa):=eqT (ziA.eq_1 K)
def zhZ(K:ψa):TS :=
 (zbd (zdG (ziA K))
 (ziz K))
theorem znz{u l:Addr}{ts:List Addr}{bs:List Box}{x:Mp}(B:Bx6 H l ts bs)(hu:H u=some (.tup [mt1 x,mt2 x]))(hx:H x.1=some (Qbs))(len:x.2.1.length=bs.length)(m0:∀m∈x.2.1,0≤m)(w1:1≤x.2.2)(q:∀H',zaI H H'→Q (.bl (okP x.2.1)) H') :
  zhZ K { nx:=λ_ H'=>Q .non H',rt:=Q } (L2.start ["thing","boxes"] [.ref u,.ref l]) H:=by
 unfold zhZ
 simp_all only [zep,zeA,zac]
 refine⟨λσ H'=>H'=H∧σ=[some (.ref u),some (Qa5)],?_,?_⟩
 ·simp_all only [zep,zeA,zac]
  refine zcK hu (Qat)
  refine zcg (Qy) (QaM)
  refine⟨_,.inr (SqT.of hu),?_⟩
  exact zcg (QN) (Qcc)
 ·rintro σ H' ⟨e,rfl⟩
  rw[e]
  simp_all only [zep,zeA,zac]
  refine⟨_,SqT.of hu,_,rfl,x.1,l,ts,bs,x.2.1,rfl,B,hx,len,m0,λH1 s1=>⟨okP x.2.1,rfl,?_⟩⟩
  by_cases c:okP x.2.1=true
  ·rw[if_pos c]
   have hu1:=s1 _ _ hu
   refine⟨_,SqT.of hu1,_,rfl,x.2.2,rfl,true,rfl,zqt ⟨_,SqT.of hu1,_,rfl,_,rfl,?_⟩⟩
   rw[decide_eq_true w1,← c]
   exact q _ s1
  ·rw[if_neg c]
   rw[Bool.not_eq_true] at c
   rw[← c]
   exact q _ s1
theorem zoF:zaB ["thing","boxes"] ["thing","boxes"] (zag zia):=⟨rfl,rfl,rfl,by decide +kernel,rfl,by decide +kernel,by decide +kernel⟩
theorem znB(T:Txt K mg a):zcn P w K mg base CX0 4 a.f_is_share a.d_is_share ["thing","boxes"] zl7:=by
 have G_is_plan:=zkE (P:=P) (w:=w) (base:=base) T
 have G_is_whole:=zfK (P:=P) (w:=w) (base:=base) T
 refine T.F_is_share.ok zoF (Qj) (Qd)
 ·obtain⟨u,l,ts,bs,x,rfl,B,hu,hx,len,m0,w1,q⟩:=h
  rfl
 obtain⟨u,l,ts,bs,x,rfl,B,hu,hx,len,m0,w1,q⟩:=h
 exact⟨zhZ K,(zaf (Qaa)
 (zaj (zar (zdR (zah G_is_plan (Qa) rfl T.m_is_plan T.F_is_plan.kp T.b_is_plan .nil zax (zaa (Qg) (QG))) (zdR (Qaq) (zfi (zcb zmT (Qg) zae (za4 _)))))))),
  znz B hu hx len m0 w1 q⟩
def okM(xs:List Mp):Bool:=xs.all λx=>okP x.2.1
def zrV:Sp:=λvs H Q _=>∃(ml l:Addr) (ts:List Addr) (bs:List Box) (us:List Addr) (xs:List Mp),vs=[.ref ml,.ref l]∧Bx6 H l ts bs∧MxH H ml us xs∧zjW bs.length xs∧∀H',zaI H H'→Q (.bl (okM xs)) H'
def zlp(K:ψa):TS :=
 (zbU (zfE (Qad) (zfE (tOp (Qae) (Qas) (Qh)) (tCB (zv1 K) (zab (zb3 (QaE) (zam 0) za5 (zaz zl7 [] E0 (Q7)) [none,some 1]) zau)))))
theorem zsh{ml l:Addr}{ts:List Addr}{bs:List Box}{us:List Addr}{xs:List Mp}(B:Bx6 H l ts bs)(M:MxH H ml us xs)(g:zjW bs.length xs)(q:∀H',zaI H H'→Q (.bl (okM xs)) H') :
  zlp K { nx:=λ_ H'=>Q .non H',rt:=Q } (L2.start ["thing","boxes"] [.ref ml,.ref l]) H:=by
 unfold zlp
 obtain⟨x1,x9,gx⟩:=g
 have lu:=M.tp.1
 simp_all only [zac]
 refine zcI M.hm ⟨true,rfl,zqt ?_⟩
 refine⟨_,.inl (SqL.of M.hm),?_⟩
 rw[ψb,lu]
 refine zcg (QaM) (λz=>absurd (show(1:Int)≤(xs.length:Int) by omega) z)
 refine⟨⟨_,SqL.of M.hm⟩,λD hD=>?_⟩
 refine zcx (vs:=(xs.map λx=>okP x.2.1).map V.bl) M.hm (by simp[lu]) (by simp;omega) hD (Qal) λH1 s1 h1=>?_
 ·obtain⟨u,eu,rfl⟩:=zat hx
  obtain⟨w,ew,rfl⟩:=zat hv
  obtain⟨x,ex,rfl⟩:=zat ew
  obtain⟨x',ex',hu⟩:=M.tp.at eu
  rw[ex] at ex'
  cases ex'
  obtain⟨a1,a2,a3,_⟩:=gx x (zap ex)
  simp_all only [zac]
  exact⟨u,l,ts,bs,x,rfl,B.same s,s _ _ hu,s _ _ (M.pl x (zap ex)),a1,λm hm=>(a2 m hm).1,a3,λH2 s2=>k _ s2⟩
 ·refine⟨D,rfl,_,SqL.of h1,?_⟩
  rw[zgw]
  exact q _ s1
theorem zsY:zaB ["thing","boxes"] ["thing","boxes"] (zag zi9):=⟨rfl,rfl,rfl,by decide +kernel,rfl,by decide +kernel,by decide +kernel⟩
theorem zsZ(T:Txt K mg a):zcn P w K mg base CX0 5 a.f_is_mix a.d_is_mix ["thing","boxes"] zrV:=by
 have G_is_share:=znB (P:=P) (w:=w) (base:=base) T
 refine T.F_is_mix.ok zsY (Qj) (Qd)
 ·obtain⟨ml,l,ts,bs,us,xs,rfl,B,M,g,q⟩:=h
  rfl
 obtain⟨ml,l,ts,bs,us,xs,rfl,B,M,g,q⟩:=h
 exact⟨zlp K,(zaj (zar (zdR (Qx) (zdR (zcb zmT (Qu) zae (za4 _)) (zfi (zao (zgt rfl) rfl T.z_all ψC1 (zaa (zbi (sc:=zag zi9) (N:=["thing","boxes"]) (Nc:=["share","boxes"]) (cap:=[none,some 1]) rfl rfl rfl (Qi) (Qbk) (λ_ _ _ _=>(zak (i:=0) (show ψh (["share","boxes"]:List Str) from by decide) rfl (Qf))) (QF) (λ_ _ _ _=>(zah G_is_share (Qa) rfl T.m_is_share T.F_is_share.kp T.b_is_share .nil zax (Qac)))) zad))))))),
  zsh B M g q⟩
theorem zxi{o:Int}(o1:1≤o){n:Nat}(hn:n≤60):(o ^ 60).fdiv (o ^ n)=o ^ (60 - n):=by
 have p:=zgz o1 n
 have e:o ^ 60=o ^ (60 - n)*o ^ n:=by
  rw[← Int.pow_add]
  congr 1
  omega
 rw[e,ψZ _ (ψD p)]
 exact Int.mul_ediv_cancel _ (Qe)
theorem zvJ{b:Box}(g:GB b){n:Int}(n0:0≤n)(n1:n≤60)(w:Int):((w*(b.2.2 ^ n.toNat - (b.2.2 - b.2.1) ^ n.toNat)*(b.2.2 ^ 60).fdiv (b.2.2 ^ n.toNat):Int):Rat)=(w:Rat)*chq b n*((b.2.2 ^ 60:Int):Rat):=by
 have o:=zdn g n
 have o1:1≤b.2.2:=by have:=g.2.2.1;have:=g.2.2.2.1;omega
 have hn:n.toNat≤60:=by omega
 rw[zxi o1 hn]
 have e:b.2.2 ^ 60=b.2.2 ^ (60 - n.toNat)*b.2.2 ^ n.toNat:=by
  rw[← Int.pow_add]
  congr 1
  omega
 rw[e]
 unfold chq
 rw[ψn,ψj,ψj,ψj]
 have on:((b.2.2 ^ n.toNat:Int):Rat)≠0:=λz=>by
  have:(b.2.2 ^ n.toNat:Int)=0:=by exact_mod_cast z
  omega
 generalize ((b.2.2 ^ n.toNat:Int):Rat)=A at on ⊢
 generalize ((b.2.2 ^ n.toNat - (b.2.2 - b.2.1) ^ n.toNat:Int):Rat)=C
 grind
theorem zsj{a d S p w:Int}{C:Rat}(d0:0<d)(w0:0<w)(h:(p:Rat)=C*(w:Rat)):a*S*w≤p*d↔ψy a d*(S:Rat)≤C:=by
 have dR:(0:Rat)<(d:Rat):=by exact_mod_cast d0
 have wR:(0:Rat)<(w:Rat):=by exact_mod_cast w0
 have dn:(d:Rat)≠0:=by grind
 have e:a*S*w≤p*d↔((a*S*w:Int):Rat)≤((p*d:Int):Rat):=by rw[Rat.intCast_le_intCast]
 rw[e,ψj,ψj,ψj,h,ψn]
 constructor
 ·intro z
  have z2:(a:Rat) / (d:Rat)*(S:Rat)*((d:Rat)*(w:Rat))≤C*((d:Rat)*(w:Rat)):=by
   have e1:(a:Rat) / (d:Rat)*(S:Rat)*((d:Rat)*(w:Rat))=(a:Rat)*(S:Rat)*(w:Rat):=by
    generalize (d:Rat)=D at dn ⊢
    grind
   rw[e1]
   grind
  exact ψy1 z2 (ψw1 dR wR)
 ·intro z
  have z2:=ψA z (ψC (ψw1 dR wR))
  have e1:(a:Rat) / (d:Rat)*(S:Rat)*((d:Rat)*(w:Rat))=(a:Rat)*(S:Rat)*(w:Rat):=by
   generalize (d:Rat)=D at dn ⊢
   grind
  rw[e1] at z2
  grind
theorem zkn{m:Nat}:∀l:List Int,(∀w∈l,Bd m w)→Bd (m+l.length) l.sum
 | [],_=>by show(0:Nat)<2 ^ _;exact Nat.pow_pos (Qn)
 | w::l,h=>by
  have ih:=zkn l λx hx=>h x (Qbr)
  have h1:=h w ψf
  rw[ψk,ψM]
  exact((h1.mono (Nat.le_add_right m l.length)).add ih)
def wch(b:Box)(cs ws:List Int):List Rat:=ψe (λ(c w:Int)=>(w:Rat)*chq b c) cs ws
def ztk:Sp:=λvs H Q _=>∃(t c w v:Addr) (b:Box) (cs ws:List Int) (W:Rat),vs=[.ref t,.ref c,.ref w,.ref v]∧H t=some (Qbg)∧GB b∧H c=some (.lst (cs.map V.int))∧H w=some (.lst (ws.map V.int))∧H v=some (Qag)∧ws.length=cs.length∧cs.length≤9∧(∀n∈cs,0≤n∧n≤60)∧(∀w∈ws,Bd 1900 w)∧Bq 2000 W∧∀(r:Bool) (H':Hp),zaI H H'→(r=true↔W*(ws.sum:Rat)≤(wch b cs ws).sum)→Q (.bl r) H'
def zfN(K:ψa):TS :=
 (zbd (zbO (zaz zft [] E0 (Qbe)) (zdv K 2 (zaH (zam 8) (zaH (zam 9) zdu))))
 (zbO (tOp (Qv) (zac 5) (tOp (Qc) (tOp (Qc) (zac 7) (tOp (QJ) (zac 9) (zac 8))) (tOp (QA) (zac 4) (zac 9)))) (zam 5)))
def zcc(K:ψa):=eqT (zfN.eq_1 K)
def zfM(K:ψa):TS :=
 (zbU (tOp (Qae) (tOp (Qc) (zac 5) (tOp (zbC K) (zac 3) (Qh))) (tOp (Qc) (tOp (Qc) (Qb8) (tCB (zmO K) (Qan))) (zac 4))))
def zcd(K:ψa):=eqT (zfM.eq_1 K)
def zeX(K:ψa):TS :=
 (zbd (zbO (zaz ztK [] E0 (zab (Qau) (QbO))) (zam 4))
 (zbd (zbO (Ql) (zam 5))
 (zbd (zll (zmf K (Qbv)) (QbU)
 (zfN K))
 (zfM K))))
theorem zjy{t c w v:Addr}{b:Box}{cs ws:List Int}{W:Rat}(ht:H t=some (Qbg))(g:GB b)(hc:H c=some (.lst (cs.map V.int)))(hw:H w=some (.lst (ws.map V.int)))(hv:H v=some (Qag))(len:ws.length=cs.length)(l9:cs.length≤9)(c0:∀n∈cs,0≤n∧n≤60)(bw:∀w∈ws,Bd 1900 w)(bV:Bq 2000 W)(q:∀(r:Bool) (H':Hp),zaI H H'→(r=true↔W*(ws.sum:Rat)≤(wch b cs ws).sum)→Q (.bl r) H') :
  zeX K { nx:=λ_ H'=>Q .non H',rt:=Q } (L2.start ["box","counts","weights","worth","whole","parts","count","weight","top","bottom"] [.ref t,.ref c,.ref w,.ref v]) H:=by
 unfold zeX
 simp_all only [zcc,zcd,zac]
 have g':=g
 obtain⟨g1,g2,g3,g4,g5⟩:=g
 refine⟨_,SqT.of ht,_,rfl,b.2.2,60,rfl,by decide,by decide,by omega,g5,?_⟩
 simp_all only [zcc,zcd,zac]
 have o60:0<b.2.2 ^ 60:=zgz (Qe) 60
 have b60:Bd 400 (b.2.2 ^ 60):=zeO (Qe) g5 (Qn)
 have lw:(wch b cs ws).length=cs.length:=by rw[wch,ψo,len];omega
 refine⟨⟨_,SqL.of hc⟩,⟨_,SqL.of hw⟩,?_⟩
 refine zpw (K:=K) (xs:=cs.map V.int) (ys:=ws.map V.int) (λi σ H'=>zaI H H'∧∃(p:Int) (y6 y7 y8 y9:Option V),(p:Rat)=((wch b cs ws).take i).sum*((b.2.2 ^ 60:Int):Rat)∧Bd (2702+i) p∧σ=[some (.ref t),some (.ref c),some (.ref w),some (.ref v),some (.int (b.2.2 ^ 60)),some (.int p),y6,y7,y8,y9]) ⟨.refl _,0,_,_,_,_,?_,?_,rfl⟩ ?_ ?_ ?_
 ·show(0:Rat)=0*_
  grind
 ·show(0:Nat)<2 ^ _
  exact Nat.pow_pos (Qn)
 ·rintro i σ H' _ ⟨s,_⟩
  exact⟨SqL.of (s _ _ hc),SqL.of (s _ _ hw)⟩
 ·rintro i x z u σ H1 hx hz ⟨s1,p,y6,y7,y8,y9,ep,bp,rfl⟩ hu
  obtain⟨n,en,rfl⟩:=zat hx
  obtain⟨m,em,rfl⟩:=zat hz
  obtain⟨n0,n1⟩:=c0 n (zap en)
  have bm:=bw m (zap em)
  have li:=(List.getElem?_eq_some_iff.mp en).1
  simp_all only [zcc,zcd,zac]
  have s2:=zan hu (.tup [V.int n,V.int m])
  have h2:(L2.upd H1 u (.tup [V.int n,V.int m])) u=some (.tup [V.int n,V.int m]):=zai
  generalize L2.upd H1 u (.tup [V.int n,V.int m])=H2 at s2 h2 ⊢
  refine⟨_,SqT.of h2,rfl,_,_,rfl,_,_,rfl,rfl,?_⟩
  refine⟨t,b,n,rfl,s2 _ _ (s1 _ _ ht),g',n0,n1,λr H3 s3 h3=>?_⟩
  simp_all only [zcc,zcd,zac]
  have o:=zdn g' n
  have bo:=zgL g' n1
  have bt:Bd 400 ((b.2.2 - b.2.1) ^ n.toNat):=zeO (Qe) (Qe) (Qe)
  have qd:((b.2.2 ^ 60).fdiv (b.2.2 ^ n.toNat)).natAbs≤(b.2.2 ^ 60).natAbs:=by
   rw[ψZ _ (ψD o)]
   have h1:=ψK1 (b.2.2 ^ n.toNat) (ψD o60)
   have h2:=Int.ediv_nonneg (b:=b.2.2 ^ n.toNat) (ψD o60) (ψD o)
   omega
  have bt2:=(bm.mul (bo.sub bt)).mul (b60.le qd)
  refine⟨_,SqT.of h3,rfl,_,_,rfl,_,_,rfl,rfl,_,rfl,_,rfl,zdg 1900 401 bm (bo.sub bt),_,rfl,by omega,zhJ 400 (Qe) bo,zdg 2301 400 (bm.mul (bo.sub bt)) (b60.le qd),s1.trans (Qcs),_,?_,?_,rfl⟩
  ·rw[ψN,ep,zvJ g' n0 n1 m,wch,zhD _ _ _ en em,List.sum_append]
   show _=(_+((m:Rat)*chq b n+0))*_
   grind
  ·exact(bp.add (bt2.mono (Qe))).mono (Qe)
 ·rintro σ H1 ⟨s1,p,y6,y7,y8,y9,ep,bp,rfl⟩
  rw[ψb,ψb,len,Nat.min_self,← lw,ψH] at ep
  rw[ψb,ψb,len,Nat.min_self] at bp
  have bS:=zkn ws bw
  have hv1:=SqT.of (K:=K) (s1 _ _ hv)
  simp_all only [zcc,zcd,zac]
  refine⟨_,hv1,_,rfl,_,rfl,zdg 2711 2000 (bp.mono (Qe)) bV.bot,_,hv1,_,rfl,ws,SqL.of (s1 _ _ hw),_,rfl,zdg 2000 1909 bV.top (bS.mono (Qe)),zdg 3909 400 ((bV.top.mul bS).mono (Qe)) b60,?_⟩
  refine q _ H1 s1 ?_
  rw[decide_eq_true_iff,zsj (zb4 W) o60 ep,ψz]
theorem zb0:zaB ["box","counts","weights","worth","whole","parts","count","weight","top","bottom"] ["box","counts","weights","worth"] (zag zeW):=⟨rfl,rfl,rfl,by decide +kernel,rfl,by decide +kernel,by decide +kernel⟩
theorem zjU(T:Txt K mg a):zcn P w K mg base CX0 3 a.f_finds_enough a.d_finds_enough ["box","counts","weights","worth"] ztk:=by
 have G_missed:=zfb (P:=P) (w:=w) (base:=base) T
 have G_power:=zo1 (P:=P) (w:=w) (base:=base) T
 refine T.F_finds_enough.ok zb0 (Qj) (Qd)
 ·obtain⟨t,c,w,v,b,cs,ws,W,rfl,ht,g,hc,hw,hv,len,l9,c0,bw,bV,q⟩:=h
  rfl
 obtain⟨t,c,w,v,b,cs,ws,W,rfl,ht,g,hc,hw,hv,len,l9,c0,bw,bV,q⟩:=h
 exact⟨zeX K,(zaf (zaN (i:=4) zb0.nd rfl (Qf) (zah G_power (Qa) rfl T.m_power T.F_power.kp T.b_power .nil zax (zaa (Qg) (zaa (zh7 rfl T.m_MOST_LOOKS ⟨_,rfl⟩) zad))))
 (zaf (zaN (i:=5) zb0.nd rfl (Qf) zae)
 (zaf (zdJ PassesOwn.never rfl (zeC rfl T.z_zip (QbI)) (zbu rfl (zal (zak (i:=6) zb0.nd rfl (Qf)) (zal (zak (i:=7) zb0.nd rfl (Qf)) za3)))
 (zaf (zcY (zah G_missed (Qa) rfl T.m_missed T.F_missed.kp T.b_missed .nil zax (Qbn)) (zbu rfl (zal (zak (i:=8) zb0.nd rfl (Qf)) (zal (zak (i:=9) zb0.nd rfl (Qf)) za3))))
 (zaj (zaN (i:=5) zb0.nd rfl (Qf) (zas zce (pv 5) (zas zav (zas zav (pv 7) (zas zc4 (pv 9) (pv 8))) (zas zdF (pv 4) (pv 9))))))))
 (zaj (zar (zcb zmT (zas zav (pv 5) (Qa0)) (zas zav (zas zav (Qa0) (zao (zcr rfl) rfl T.z_sum ψI (Qaw))) (pv 4)) (za4 _))))))),
  zjy ht g hc hw hv len l9 c0 bw bV q⟩
def col(xs:List Mp)(k:Nat):List Int:=xs.map λx=>x.2.1.getD k 0
theorem zqQ(b:Box)(k:Nat):∀xs:List Mp,(wch b (col xs k) (Qcr)).sum=csm b k (QM)
 | []=>rfl
 | x::xs=>by
  show(x.2.2:Rat)*chq b (x.2.1.getD k 0)+(wch b (col xs k) (Qcr)).sum=(x.2.2:Rat)*chq b (x.2.1.getD k 0)+csm b k (QM)
  rw[zqQ b k xs]
theorem zmC(xs:List Mp):wsm (xs.map λx=>x.2)=(xs.map λx=>x.2.2).sum:=by
 unfold wsm
 rw[List.map_map]
 rfl
theorem zvw(bs:List Box)(xs:List Mp):psm bs (xs.map λx=>x.2)=(xs.map λx=>x.2.2*(zaF bs x.2.1).sum).sum:=by
 unfold psm
 rw[List.map_map]
 rfl
theorem zdz{α:Type}{g1 g2:α→V}{p D:Addr}{us:List Addr}{as:List α}{te:TE}{rest:St}{x0 y0:Option V}{vs:List V}(hp:H p=some (Qbi))(T:Tps (λa=>[g1 a,g2 a]) H us as)(lq:vs.length=as.length)(l6:vs.length≤1000)(hD:H D=none)
  (st:∀(i:Nat) (a:α) (v:V) (H':Hp) (R:VK),as[i]?=some a→vs[i]?=some v→zaI H H'→(∀H2:Hp,zaI H' H2→R v H2)→te (some (g1 a)::some (g2 a)::rest) H' R)
  (hd:∀H':Hp,zaI H H'→H' D=some (.lst vs)→Q (.ref D) H') :
  zge (Itl K p) (Qk) za5 te D Q (x0::y0::rest) (upd H D (.lst [])):=by
 refine zcT (K:=K) (xs:=us.map V.ref) (λi ys σ H'=>zaI H H'∧ys=vs.take i∧∃x y,σ=x::y::rest) ⟨zan hD _,rfl,_,_,rfl⟩ ?_ ?_ ?_
 ·rintro i ys σ H' _ ⟨s,_⟩
  exact SqL.of (s _ _ hp)
 ·rintro i x ys σ H' hx hD' ⟨s,rfl,u,v,rfl⟩
  obtain⟨t,ht,rfl⟩:=zat hx
  obtain⟨a,ha1,ha2⟩:=T.at ht
  have i1:=(List.getElem?_eq_some_iff.mp ha1).1
  have hw:vs[i]?=some (vs[i]'(by omega)):=ψc (Qe)
  refine⟨t,_,rfl,SqT.of (s _ _ ha2),rfl,_,_,rfl,_,_,rfl,rfl,?_⟩
  refine st i a _ _ _ ha1 hw s λH2 s2=>?_
  refine⟨D,_,_,rfl,rfl,s2 _ _ hD',zbF (by rw[ψG];omega),_,zai,(s.trans s2).put hD,?_,_,_,rfl⟩
  rw[ψx,hw]
  rfl
 ·rintro ys σ H' hD' ⟨s,rfl,u,v,rfl⟩
  rw[ψb,T.1,← lq,ψH] at hD'
  exact hd H' s hD'
def Lps(H:Hp)(us:List Addr)(cs:List (List Int)):Prop:=us.length=cs.length∧∀(i:Nat) u c,us[i]?=some u→cs[i]?=some c→H u=some (.lst (c.map V.int))
theorem znv{n:Nat}{D:Addr}{te:TE}{rest:St}{x0:Option V}{cs:List (List Int)}(lc:cs.length=n)(l6:n≤1000)(hD:H D=none)
  (st:∀(i:Nat) (c:List Int) (H':Hp) (R:VK),i<n→cs[i]?=some c→zaI H H'→(∀(r:Addr) (H2:Hp),zaI H' H2→H' r=none→H2 r=some (.lst (c.map V.int))→R (Q0) H2)→te (some (.int (0+(i:Int)))::rest) H' R)
  (hd:∀(us:List Addr) (H':Hp),zaI H H'→H' D=some (Qbi)→Lps H' us cs→Q (.ref D) H') :
  zge (Itr 0 n) (zam 0) za5 te D Q (x0::rest) (upd H D (.lst [])):=by
 refine zfA (λi ys σ H'=>zaI H H'∧(∃us:List Addr,ys=us.map V.ref∧us.length=i∧(∀(j:Nat) u c,us[j]?=some u→cs[j]?=some c→H' u=some (.lst (c.map V.int))∧u≠D))∧∃x,σ=x::rest) ⟨zan hD _,⟨[],rfl,rfl,λj u c e=>by cases e⟩,_,rfl⟩ ?_ ?_
 ·rintro i ys σ H' hi hD' ⟨s,⟨us,rfl,lu,hu⟩,x,rfl⟩
  have hc:cs[i]?=some (cs[i]'(by omega)):=ψc _
  refine st i _ H' _ hi hc s λr H2 s2 nr h2=>?_
  have rD:r≠D:=(zaO hD' nr).symm
  refine⟨D,_,_,rfl,rfl,s2 _ _ hD',zbF (by rw[ψb];omega),_,zai,(s.trans s2).put hD,⟨us++[r],by rw[ψO];rfl,by rw[ψV,lu];rfl,λj u c e1 e2=>?_⟩,_,rfl⟩
  by_cases cj:j<us.length
  ·rw[ψj1 cj] at e1
   obtain⟨a1,a2⟩:=hu j u c e1 e2
   exact⟨by rw[zbg a2];exact s2 _ _ a1,a2⟩
  ·rw[ψf1 (Qe)] at e1
   have z:j - us.length=0:=by
    have:=(Qa8).1
    simp only[ψM,List.length_nil] at this
    omega
   rw[z] at e1
   cases e1
   have ej:j=i:=by omega
   subst ej
   rw[hc] at e2
   cases e2
   exact⟨by rw[zbg rD];exact h2,rD⟩
 ·rintro ys σ H' hD' ⟨s,⟨us,rfl,lu,hu⟩,x,rfl⟩
  exact hd us H' s hD' ⟨by omega,λi u c e1 e2=>(hu i u c e1 e2).1⟩
theorem zuw{W:Rat}{bs:List Box}{xs:List Pw}:(∀y∈bs.zipIdx,decide (W*(wsm xs:Rat)≤csm y.1 y.2 xs)=true)↔∀(k:Nat) b,bs[k]?=some b→W*(wsm xs:Rat)≤csm b k xs:=by
 simp only[decide_eq_true_eq]
 constructor
 ·intro z k b hk
  have m:(b,k)∈bs.zipIdx:=ψP (i:=k) (by rw[ψV1,hk];simp)
  exact z (b,k) m
 ·intro z y hy
  obtain⟨i,ei⟩:=ψq hy
  rw[ψV1] at ei
  obtain⟨b,eb,e⟩:=Option.map_eq_some_iff.mp ei
  rw[← e,ψN1]
  exact z i b eb
def zo3:Sp:=λvs H Q _=>∃(l v ml:Addr) (bud:Int) (ts:List Addr) (bs:List Box) (us:List Addr) (xs:List Mp) (W:Rat),vs=[.ref l,.int bud,.ref v,.ref ml]∧Bx6 H l ts bs∧H v=some (Qag)∧Bq 2000 W∧MxH H ml us xs∧zjW bs.length xs∧0≤bud∧bud≤60∧∀(r:Bool) (H':Hp),zaI H H'→(r=true↔okM xs=true∧zqs bs bud W (QM))→Q (.bl r) H'
def zeD(K:ψa):TS :=
 (zbd (zbO (zb3 (Qb3) (zam 0) za5 (zb3 (zcz K (zac 1)) (Qk) za5 (tOp (zfp K) (zac 0) (zac 2)) [none,none,some 0]) [none,some 3]) (zam 5))
 (zbU (tCB (zv1 K) (zab (zb3 (zmf K (zab (zac 0) (Qa1))) (Qk) za5 (zaz ztk [] E0 (Qax)) [none,none,some 4,some 2]) zau))))
def zaC(K:ψa):=eqT (zeD.eq_1 K)
def zet(K:ψa):TS :=
 (zdQ (zb5 (tOp (QZ) (tCB (zmO K) (zab (zb3 (zcz K (zac 3)) (Qk) za5 (tOp (Qc) (zac 1) (zaz zpH [] E0 (zab (zac 2) (QE)))) [none,none,some 0]) zau)) (tOp (Qc) (zac 1) (tCB (zmO K) (QaQ))))) (QC) zb1)
def zaD(K:ψa):=eqT (zet.eq_1 K)
def zes(K:ψa):TS :=
 (zbd (zbO (zb3 (zcz K (zac 3)) (Qk) za5 (zac 1) [none,none]) (zam 4))
 (zbd (zdG (zet K))
 (zeD K)))
def zaE(K:ψa):=eqT (zes.eq_1 K)
def zdy(K:ψa):TS :=
 (zbd (zdG (zdQ (zfe (tB (zaz zrV [] E0 (zab (zac 3) (QE))))) (QC) zb1))
 (zes K))
theorem zhF{l v ml:Addr}{bud:Int}{ts:List Addr}{bs:List Box}{us:List Addr}{xs:List Mp}{W:Rat}(B:Bx6 H l ts bs)(hv:H v=some (Qag))(bW:Bq 2000 W)(M:MxH H ml us xs)(g:zjW bs.length xs)(d0:0≤bud)(d1:bud≤60)(q:∀(r:Bool) (H':Hp),zaI H H'→(r=true↔okM xs=true∧zqs bs bud W (QM))→Q (.bl r) H') :
  zdy K { nx:=λ_ H'=>Q .non H',rt:=Q } (L2.start ["boxes","budget","worth","mix","weights","columns"] [.ref l,.int bud,.ref v,.ref ml]) H:=by
 unfold zdy
 have g':=g
 obtain⟨x1,x9,gx⟩:=g
 have l6:=B.l6
 simp_all only [zaC,zaD,zaE,zac]
 refine⟨λσ H'=>zaI H H'∧okM xs=true∧σ=[some (Qa5),some (Qbt),some (.ref v),some (QbB),none,none],?_,?_⟩
 ·simp_all only [zaC,zaD,zaE,zac]
  refine⟨ml,l,ts,bs,us,xs,rfl,B,M,g',λH1 s1=>⟨okM xs,rfl,?_⟩⟩
  by_cases c:okM xs=true
  ·rw[if_neg (by simp[c])]
   exact⟨s1,c⟩
  ·rw[if_pos (Qa4)]
   exact q false H1 s1 ⟨λz=>(QbZ),λz=>absurd z.1 c⟩
 ·rintro σ H1 ⟨s1,ok,rfl⟩
  have M1:=M.same s1
  have B1:=B.same s1
  have okx:∀x∈xs,∀m∈x.2.1,0≤m∧m≤60:=λx hx m hm=>⟨((gx x hx).2.1 m hm).1,zhe.mp (List.all_eq_true.mp ok x hx) m hm⟩
  simp_all only [zaC,zaD,zaE,zac]
  refine⟨⟨_,SqL.of M1.hm⟩,λD hD=>?_⟩
  refine zdz (g1:=mt1) (g2:=mt2) (vs:=(Qcr).map V.int) M1.hm M1.tp (Qby) (by simp;omega) hD (Qbl) λH2 s2 h2=>?_
  ·obtain⟨w,hw,rfl⟩:=zat hv
   obtain⟨y,hy,rfl⟩:=zat hw
   rw[hx] at hy
   cases hy
   simp_all only [zaC,zaD,zaE,zac]
   exact kk _ (QbA)
  have M2:=M1.same s2
  have B2:=B1.same s2
  have bws:∀w∈xs.map λx=>x.2.2,Bd 1900 w:=λw hw=>by
   obtain⟨x,hx,rfl⟩:=List.mem_map.mp hw
   exact(gx x hx).2.2.2
  refine⟨λσ H'=>zaI H2 H'∧psm bs (xs.map λx=>x.2)≤bud*wsm (QM)∧σ=[some (Qa5),some (Qbt),some (.ref v),some (QbB),some (.ref D),none],?_,?_⟩
  ·simp_all only [zaC,zaD,zaE,zac]
   refine⟨⟨_,SqL.of M2.hm⟩,λD2 hD2=>?_⟩
   refine zdz (g1:=mt1) (g2:=mt2) (vs:=(xs.map λx=>x.2.2*(zaF bs x.2.1).sum).map V.int) M2.hm M2.tp (Qby) (by simp;omega) hD2 (Qbl) λH3 s3 h3=>?_
   ·obtain⟨w,hw,rfl⟩:=zat hv
    obtain⟨y,hy,rfl⟩:=zat hw
    rw[hx] at hy
    cases hy
    obtain⟨a1,_,a3,a4⟩:=gx x (zap hx)
    have bp:BP H' l x.1 ts bs x.2.1:=(B2.same s).bp (s _ _ (M2.pl x (zap hx))) a1 (okx x (zap hx))
    obtain⟨z1,z2⟩:=zi0 bs x.2.1 B.gb (okx x (zap hx))
    simp_all only [zaC,zaD,zaE,zac]
    refine⟨l,x.1,ts,bs,x.2.1,rfl,bp,λH4 s4=>?_⟩
    simp_all only [zaC,zaD,zaE,zac]
    exact⟨zoX (Qe) (Qe),kk _ s4⟩
   simp_all only [zaC,zaD,zaE,zac]
   refine⟨_,SqL.of h3,xs.map λx=>x.2.2,SqL.of (s3 _ _ h2),zwy (Qe) (Qe),?_⟩
   rw[← zvw,← zmC]
   by_cases c:psm bs (xs.map λx=>x.2)≤bud*wsm (QM)
   ·rw[if_neg (Qe)]
    exact⟨s3,c⟩
   ·rw[if_pos (Qe)]
    exact q false H3 (s1.trans (Qcs)) ⟨λz=>(QbZ),λz=>absurd z.2.co c⟩
  ·rintro σ H3 ⟨s3,co,rfl⟩
   have M3:=M2.same s3
   have B3:=B2.same s3
   simp_all only [zaC,zaD,zaE,zac]
   refine⟨_,.inl (SqL.of B3.hl),?_⟩
   rw[ψb,B.hb.1]
   refine⟨by omega,by omega,λD2 hD2=>?_⟩
   have en:(bs.length:Int).toNat=bs.length:=Int.toNat_natCast _
   rw[en]
   refine znv (cs:=(ψF1 bs.length).map (col xs)) (Qby) (Qe) hD2 (λi c H4 R hi hc s4 kk=>?_) λvs H4 s4 h4 L4=>?_
   ·obtain⟨i',ei',rfl⟩:=zat hc
    rw[List.getElem?_range hi] at ei'
    cases ei'
    have M4:=M3.same s4
    simp_all only [zaC,zaD,zaE,zac]
    refine⟨⟨_,SqL.of M4.hm⟩,λD3 hD3=>?_⟩
    refine zdz (g1:=mt1) (g2:=mt2) (vs:=(col xs i).map V.int) M4.hm M4.tp (by simp[col]) (by simp[col];omega) hD3 (λj x w H5 R' hx hw s5 k5=>?_) λH5 s5 h5=>kk D3 H5 s5 hD3 h5
    obtain⟨z,hz,rfl⟩:=zat hw
    obtain⟨y,hy,rfl⟩:=zat hz
    rw[hx] at hy
    cases hy
    obtain⟨a1,_⟩:=gx x (zap hx)
    have em:x.2.1[i]?=some (x.2.1[i]'(by omega)):=ψc _
    rw[ψv,em] at k5
    simp_all only [zaC,zaD,zaE,zac]
    refine⟨_,SqL.of (s5 _ _ (M4.pl x (zap hx))),_,?_,k5 _ (QbA)⟩
    rw[Int.zero_add]
    exact zdj (by rw[ψt,em];rfl)
   ·simp_all only [zaC,zaD,zaE,zac]
    have B4:=B3.same s4
    have s24:=s3.trans s4
    have S4:=s1.trans (s2.trans s24)
    have lc:vs.length=bs.length:=by rw[L4.1,ψb,List.length_range]
    refine⟨⟨_,SqL.of B4.hl⟩,⟨_,SqL.of h4⟩,λD3 hD3=>?_⟩
    refine zfn (vs:=(bs.zipIdx.map λy=>decide (W*(wsm (xs.map λx=>x.2):Rat)≤csm y.1 y.2 (QM))).map V.bl) B4.hl h4 (by simp[B.hb.1,lc]) (by simp;omega) hD3 (λi x z w H5 R hx hz hw s5 kk=>?_) λH5 s5 h5=>?_
    ·obtain⟨t,et,rfl⟩:=zat hx
     obtain⟨c,ec,rfl⟩:=zat hz
     obtain⟨r,er,rfl⟩:=zat hw
     obtain⟨y,ey,rfl⟩:=zat er
     obtain⟨b,eb,hb⟩:=B4.hb.at et
     have li:=(List.getElem?_eq_some_iff.mp eb).1
     rw[ψV1,eb] at ey
     simp only[Option.map_some,ψN1,Option.some.injEq] at ey
     subst ey
     have ecol:((ψF1 bs.length).map (col xs))[i]?=some (col xs i):=by rw[ψt,List.getElem?_range li];rfl
     have hc:=L4.2 i c _ ec ecol
     simp_all only [zaC,zaD,zaE,zac]
     refine⟨t,c,D,v,b,col xs i,xs.map λx=>x.2.2,W,rfl,s5 _ _ hb,B.gb b (zap eb),s5 _ _ hc,s5 _ _ (s24 _ _ h2),s5 _ _ (S4 _ _ hv),by rw[col,ψb,ψb],by rw[col,ψb];exact x9,λn hn=>?_,bws,bW,λr H6 s6 hr=>?_⟩
     ·obtain⟨x,hx,rfl⟩:=List.mem_map.mp hn
      have em:x.2.1[i]?=some (x.2.1[i]'(by rw[(gx x hx).1];exact li)):=ψc _
      rw[ψv,em]
      exact okx x hx _ (zap em)
     ·rw[zqQ,← zmC] at hr
      have e:r=decide (W*(wsm (xs.map λx=>x.2):Rat)≤csm b i (QM)):=by
       rw[ψR1,decide_eq_true_iff]
       exact hr
      rw[e]
      exact kk _ s6
    ·refine⟨D3,rfl,_,SqL.of h5,?_⟩
     refine q _ H5 (S4.trans s5) ?_
     rw[zgw,ψz1,zuw]
     exact⟨λz=>⟨ok,co,z⟩,λz=>z.2.ch⟩
theorem zdm:zaB ["boxes","budget","worth","mix","weights","columns"] ["boxes","budget","worth","mix"] (zag zbH):=⟨rfl,rfl,rfl,by decide +kernel,rfl,by decide +kernel,by decide +kernel⟩
theorem zhx(T:Txt K mg a):zcn P w K mg base CX0 6 a.f_is_seeker_right a.d_is_seeker_right ["boxes","budget","worth","mix"] zo3:=by
 have G_cost_sum:=zhg (P:=P) (w:=w) (base:=base) T
 have G_finds_enough:=zjU (P:=P) (w:=w) (base:=base) T
 have G_is_mix:=zsZ (P:=P) (w:=w) (base:=base) T
 refine T.F_is_seeker_right.ok zdm (Qj) (Qd)
 ·obtain⟨l,v,ml,bud,ts,bs,us,xs,W,rfl,B,hv,bW,M,g,d0,d1,q⟩:=h
  rfl
 obtain⟨l,v,ml,bud,ts,bs,us,xs,W,rfl,B,hv,bW,M,g,d0,d1,q⟩:=h
 exact⟨zdy K,(zaf (zbs (zbP (zbL (zbt (zah G_is_mix (Qa) rfl T.m_is_mix T.F_is_mix.kp T.b_is_mix .nil zax (zaa (pv 3) (Qap))))) (QP) zaR))
 (zaf (zaN (i:=4) zdm.nd rfl (Qbd) (zbi (sc:=zag zbH) (N:=["boxes","budget","worth","mix","weights","columns"]) (Nc:=["plan","weight"]) (cap:=[none,none]) rfl rfl rfl (Qi) (zbl (pv 3)) (λ_ _ _ _=>(zbu rfl (zal (zak (i:=0) (show ψh (["plan","weight"]:List Str) from by decide) rfl (Qf)) (zal (zak (i:=1) (show ψh (["plan","weight"]:List Str) from by decide) rfl (Qf)) za3)))) (QF) (λ_ _ _ _=>(pv 1))))
 (zaf (zbs (zbP (zbb zjD (zao (zcr rfl) rfl T.z_sum ψI (zaa (zbi (sc:=zag zbH) (N:=["boxes","budget","worth","mix","weights","columns"]) (Nc:=["plan","weight","boxes"]) (cap:=[none,none,some 0]) rfl rfl rfl (Qi) (zbl (pv 3)) (λ_ _ _ _=>(zbu rfl (zal (zak (i:=0) (show ψh (["plan","weight","boxes"]:List Str) from by decide) rfl (Qf)) (zal (zak (i:=1) (show ψh (["plan","weight","boxes"]:List Str) from by decide) rfl (Qf)) za3)))) (QF) (λ_ _ _ _=>(zas zav (pv 1) (zah G_cost_sum (Qa) rfl T.m_cost_sum T.F_cost_sum.kp T.b_cost_sum .nil zax (zaa (pv 2) (Qap)))))) zad)) (zas zav (pv 1) (QaS)) (za4 _)) (QP) zaR))
 (zaf (zot (i:=5) zdm.nd rfl rfl (sc:=zag zbH) (N:=["boxes","budget","worth","mix","weights","columns"]) (Nc:=["k","mix"]) (cap:=[none,some 3]) rfl rfl rfl (Qi) (Qa6) (λ_ _ _ _=>(zak (i:=0) (show ψh (["k","mix"]:List Str) from by decide) rfl (Qbd))) (QF) (λ_ _ _ _=>(zbi (N:=["k","mix"]) (Nc:=["plan","weight","k"]) (cap:=[none,none,some 0]) rfl (zv4.trans (congrArg (zoZ _) (rfl:_=zag zbH))) rfl (Qi) (zbl (pv 1)) (λ_ _ _ _=>(zbu rfl (zal (zak (i:=0) (show ψh (["plan","weight","k"]:List Str) from by decide) rfl (Qf)) (zal (zak (i:=1) (show ψh (["plan","weight","k"]:List Str) from by decide) rfl (Qf)) za3)))) (QF) (λ_ _ _ _=>(zaw zbv (pv 0) (pv 2) (Qp))))))
 (zaj (zar (zao (zgt rfl) rfl T.z_all ψC1 (zaa (zbi (sc:=zag zbH) (N:=["boxes","budget","worth","mix","weights","columns"]) (Nc:=["box","counts","weights","worth"]) (cap:=[none,none,some 4,some 2]) rfl rfl rfl (Qi) (zeC rfl T.z_zip (zaa (pv 0) (Qa9))) (λ_ _ _ _=>(zbu rfl (zal (zak (i:=0) (show ψh (["box","counts","weights","worth"]:List Str) from by decide) rfl (Qf)) (zal (zak (i:=1) (show ψh (["box","counts","weights","worth"]:List Str) from by decide) rfl (Qf)) za3)))) (QF) (λ_ _ _ _=>(zah G_finds_enough (Qa) rfl T.m_finds_enough T.F_finds_enough.kp T.b_finds_enough .nil zax (QaC)))) zad)))))))),
  zhF B hv bW M g d0 d1 q⟩
def zyz:Sp:=λvs H Q _=>∃(wl:Addr) (Ws:List Int),vs=[.ref wl,.int (Ws.length:Nat)]∧H wl=some (QaI)∧(∀w∈Ws,0≤w)∧Ws.length≤6∧∀H',zaI H H'→Q (.bl (decide (0<Ws.sum))) H'
def zfY(K:ψa):TS :=
 (zbU (zfE (tCB (zv1 K) (zab (zb3 (QaE) (zam 0) za5 (zfE (zaz zig [] E0 (QE)) (tOp (Qae) (zac 0) (Ql))) [none]) zau)) (tOp (QZ) (tCB (zmO K) (QE)) (Ql))))
def zcf(K:ψa):=eqT (zfY.eq_1 K)
def zfT(K:ψa):TS :=
 (zdQ (tOr (zfe (tB (Qad))) (zb5 (tOp rNe (Qas) (zac 1)))) (QC) zb1)
def zch(K:ψa):=eqT (zfT.eq_1 K)
def zfI(K:ψa):TS :=
 (zbd (zdG (zfT K))
 (zfY K))
theorem zj1{wl:Addr}{Ws:List Int}(hw:H wl=some (QaI))(w0:∀w∈Ws,0≤w)(l6:Ws.length≤6)(q:∀H',zaI H H'→Q (.bl (decide (0<Ws.sum))) H') :
  zfI K { nx:=λ_ H'=>Q .non H',rt:=Q } (L2.start ["thing","many"] [.ref wl,.int (Ws.length:Nat)]) H:=by
 unfold zfI
 simp_all only [zcf,zch,zac]
 refine⟨λσ H'=>H'=H∧σ=[some (.ref wl),some (.int (Ws.length:Nat))],?_,?_⟩
 ·simp_all only [zcf,zch,zac]
  refine zcI hw (Qat)
  refine zcg (Qy) (QaM)
  refine⟨_,.inl (SqL.of hw),?_⟩
  rw[ψb]
  exact zcg (QN) (Qcc)
 ·rintro σ H' ⟨e,rfl⟩
  rw[e]
  simp_all only [zcf,zch,zac]
  refine⟨⟨_,SqL.of hw⟩,λD hD=>?_⟩
  refine zcx (vs:=(Ws.map λ_=>true).map V.bl) hw (Qby) (by simp;omega) hD (Qal) λH1 s1 h1=>?_
  ·obtain⟨w,ew,rfl⟩:=zat hx
   obtain⟨r,er,rfl⟩:=zat hv
   obtain⟨_,_,rfl⟩:=zat er
   simp_all only [zcf,zch,zac]
   refine⟨w,rfl,true,rfl,zqt ?_⟩
   rw[decide_eq_true (w0 w (zap ew))]
   exact k _ (QbA)
  ·simp_all only [zcf,zch,zac]
   refine⟨_,SqL.of h1,?_⟩
   rw[zgw,show(Ws.all λ_=>true)=true from List.all_eq_true.mpr λ_ _=>rfl]
   exact zqt ⟨Ws,SqL.of (s1 _ _ hw),q _ s1⟩
theorem zj8:zaB ["thing","many"] ["thing","many"] (zag zef):=⟨rfl,rfl,rfl,by decide +kernel,rfl,by decide +kernel,by decide +kernel⟩
theorem zj6(T:Txt K mg a):zcn P w K mg base CX0 2 a.f_are_weights a.d_are_weights ["thing","many"] zyz:=by
 have G_is_whole:=zfK (P:=P) (w:=w) (base:=base) T
 refine T.F_are_weights.ok zj8 (Qj) (Qd)
 ·obtain⟨wl,Ws,rfl,hw,w0,l6,q⟩:=h
  rfl
 obtain⟨wl,Ws,rfl,hw,w0,l6,q⟩:=h
 exact⟨zfI K,(zaf (zbs (zbP (PW.pt (zdl (zbL (zbt (Qx))) (zc5 (zbb ziK (Qu) (pv 1) (za4 _))))) (QP) zaR))
 (zaj (zar (zdR (zao (zgt rfl) rfl T.z_all ψC1 (zaa (zbi (sc:=zag zef) (N:=["thing","many"]) (Nc:=["weight"]) (cap:=[none]) rfl rfl rfl (Qi) (Qbk) (λ_ _ _ _=>(zak (i:=0) (show ψh (["weight"]:List Str) from by decide) rfl (Qf))) (QF) (λ_ _ _ _=>(zdR (zah G_is_whole (Qa) rfl T.m_is_whole T.F_is_whole.kp T.b_is_whole .nil zax (Qap)) (zfi (zcb zmT (pv 0) zae (za4 _)))))) zad)) (zfi (zcb zjD (zao (zcr rfl) rfl T.z_sum ψI (Qap)) zae (za4 _))))))),
  zj1 hw w0 l6 q⟩
def zvs:Sp:=λvs H Q _=>∃(p:Addr) (P:Rat),vs=[.ref p]∧H p=some (Qbq)∧Q (Qb0) H
theorem zvK(P:Rat):ψU P.num (P.den:Int)=1:=P.reduced
def zgj(K:ψa):TS :=
 (zbU (zfE (tOp (Qae) (QB) (Qh)) (tOp rEq (zaz zsF [] E0 (zab (QK) (zab (QB) zau))) (Qh))))
def zcF(K:ψa):=eqT (zgj.eq_1 K)
def zgb(K:ψa):TS :=
 (zdQ (tOr (zfe (tB (zaz zig [] E0 (zab (QK) zau)))) (zfe (tB (zaz zig [] E0 (zab (QB) zau))))) (QC) zb1)
def zcE(K:ψa):=eqT (zgb.eq_1 K)
def zgo(K:ψa):TS :=
 (zdQ (tOr (zfe (QW)) (zb5 (tOp rNe (Qas) (QV)))) (QC) zb1)
def zcB(K:ψa):=eqT (zgo.eq_1 K)
def zfx(K:ψa):TS :=
 (zbd (zdG (zgo K))
 (zbd (zdG (zgb K))
 (zgj K)))
theorem zkd{p:Addr}{P:Rat}(hp:H p=some (Qbq))(q:Q (Qb0) H) :
  zfx K { nx:=λ_ H'=>Q .non H',rt:=Q } (L2.start ["thing"] [.ref p]) H:=by
 unfold zfx
 have d:=zb4 P
 have hP:=SqT.of (K:=K) hp
 simp_all only [zcF,zcE,zcB,zac]
 refine⟨λσ H'=>H'=H∧σ=[some (Qb9)],?_,?_⟩
 ·simp_all only [zcF,zcE,zcB,zac]
  refine zcK hp (Qat)
  refine zcg (Qy) (QaM)
  refine⟨_,.inr hP,?_⟩
  exact zcg (QN) (Qcc)
 ·rintro σ H' ⟨e,rfl⟩
  rw[e]
  refine⟨λσ H'=>H'=H∧σ=[some (Qb9)],?_,?_⟩
  ·simp_all only [zcF,zcE,zcB,zac]
   refine⟨_,hP,_,rfl,P.num,rfl,true,rfl,?_⟩
   refine zcg (Qy) (QaM)
   refine⟨_,hP,_,rfl,(P.den:Int),rfl,true,rfl,?_⟩
   exact zcg (Qy) (Qcc)
  ·rintro σ H' ⟨e,rfl⟩
   rw[e]
   simp_all only [zcF,zcE,zcB,zac]
   refine⟨_,hP,_,rfl,_,rfl,?_⟩
   refine zcg (QaM) (λz=>absurd (show(1:Int)≤(P.den:Int) by omega) z)
   refine⟨_,hP,_,rfl,_,hP,_,rfl,P.num,(P.den:Int),rfl,?_⟩
   rw[zvK]
   exact⟨rfl,q⟩
theorem zjY:zaB ["thing"] ["thing"] (zag zfz):=⟨rfl,rfl,rfl,by decide +kernel,rfl,by decide +kernel,by decide +kernel⟩
theorem zka(T:Txt K mg a):zcn P w K mg base CX0 2 a.f_is_fraction a.d_is_fraction ["thing"] zvs:=by
 have G_divisor:=zgB (P:=P) (w:=w) (base:=base) T
 have G_is_whole:=zfK (P:=P) (w:=w) (base:=base) T
 refine T.F_is_fraction.ok zjY (Qj) (Qd)
 ·obtain⟨p,P,rfl,hp,q⟩:=h
  rfl
 obtain⟨p,P,rfl,hp,q⟩:=h
 exact⟨zfx K,(zaf (Qaa)
 (zaf (zbs (zbP (PW.pt (zdl (zbL (zbt (Qaq))) (zc5 (zbL (zbt (Qaq)))))) (QP) zaR))
 (zaj (zar (zdR (zcb zmT (Qg) zae (za4 _)) (zfi (zcb zhd (zah G_divisor (Qa) rfl T.m_divisor T.F_divisor.kp T.b_divisor .nil zax (zaa (Qg) (zaa (Qg) zad))) zae (za4 _)))))))),
  zkd hp q⟩
structure PpH (H:Hp) (pr:Addr) (n:Nat) (Ws:List Int) (P:Rat) (ns:List Int):Prop where
 ex:∃wl pp cl:Addr,H pr=some (Q3)∧H wl=some (QaI)∧H pp=some (Qbq)∧H cl=some (QS)
 lw:Ws.length=n
 ln:ns.length=n
 w0:∀w∈Ws,0≤w
 wb:∀w∈Ws,Bd 2800 w
 n0:∀m∈ns,0≤m∧m≤100
 p0:0≤P
 pb:Bq 2800 P
theorem PpH.same{H H':Hp}{pr:Addr}{n:Nat}{Ws:List Int}{P:Rat}{ns:List Int}(h:PpH H pr n Ws P ns)(s:zaI H H'):PpH H' pr n Ws P ns:=by
 obtain⟨wl,pp,cl,a1,a2,a3,a4⟩:=h.ex
 exact⟨⟨wl,pp,cl,s _ _ a1,s _ _ a2,s _ _ a3,s _ _ a4⟩,h.lw,h.ln,h.w0,h.wb,h.n0,h.p0,h.pb⟩
def okH(Ws ns:List Int):Bool:=decide (0<Ws.sum)&&okP ns
def zpB:Sp:=λvs H Q _=>∃(pr l:Addr) (ts:List Addr) (bs:List Box) (Ws ns:List Int) (P:Rat),vs=[.ref pr,.ref l]∧Bx6 H l ts bs∧PpH H pr bs.length Ws P ns∧∀H',zaI H H'→Q (.bl (okH Ws ns)) H'
def zeH(K:ψa):TS :=
 (zbd (zbO (zac 0) (zdv K 3 (zaH (zam 2) (zaH (zam 3) (zaH (zam 4) zdu)))))
 (zbU (zfE (zaz zyz [] E0 (zab (zac 2) (zab (tCB (Qb) (QD)) zau))) (zfE (zaz zvs [] E0 (QO)) (zfE (tOp (Qae) (Qb8) (Ql)) (zaz zkI [] E0 (zab (zac 4) (QD))))))))
def zcN(K:ψa):=eqT (zeH.eq_1 K)
def zeR(K:ψa):TS :=
 (zdQ (tOr (zfe (QW)) (zb5 (tOp rNe (Qas) (Qb4)))) (QC) zb1)
def zcG(K:ψa):=eqT (zeR.eq_1 K)
def zdV(K:ψa):TS :=
 (zbd (zdG (zeR K))
 (zeH K))
theorem zio{pr l:Addr}{ts:List Addr}{bs:List Box}{Ws ns:List Int}{P:Rat}(B:Bx6 H l ts bs)(A:PpH H pr bs.length Ws P ns)(q:∀H',zaI H H'→Q (.bl (okH Ws ns)) H') :
  zdV K { nx:=λ_ H'=>Q .non H',rt:=Q } (L2.start ["thing","boxes","weights","price","counts"] [.ref pr,.ref l]) H:=by
 unfold zdV
 obtain⟨wl,pp,cl,a1,a2,a3,a4⟩:=A.ex
 have l6:=B.l6
 have lw:=A.lw
 simp_all only [zcN,zcG,zac]
 refine⟨λσ H'=>H'=H∧σ=[some (QcC),some (Qa5),none,none,none],?_,?_⟩
 ·simp_all only [zcN,zcG,zac]
  refine zcK a1 (Qat)
  refine zcg (Qy) (QaM)
  refine⟨_,.inr (SqT.of a1),?_⟩
  exact zcg (QN) (Qcc)
 ·rintro σ H' ⟨e,rfl⟩
  rw[e]
  simp_all only [zcN,zcG,zac]
  refine(QaK)
  refine⟨_,.inl (SqL.of B.hl),?_⟩
  rw[ψb,B.hb.1,← lw]
  refine⟨wl,Ws,rfl,a2,A.w0,by omega,λH1 s1=>⟨decide (0<Ws.sum),rfl,?_⟩⟩
  unfold okH at q
  by_cases c:0<Ws.sum
  ·rw[if_pos (decide_eq_true c)]
   rw[decide_eq_true c,Bool.true_and] at q
   have h3:=s1 _ _ a3
   refine⟨pp,P,rfl,h3,true,rfl,zqt ⟨pp,rfl,_,SqT.of h3,_,rfl,_,rfl,?_⟩⟩
   have n0:0≤P.num:=Rat.num_nonneg.mpr A.p0
   rw[if_pos n0]
   exact⟨cl,l,ts,bs,ns,rfl,B.same s1,s1 _ _ a4,A.ln,λm hm=>(A.n0 m hm).1,λH2 s2=>q _ (QaD)⟩
  ·rw[if_neg (Qa4)]
   rw[decide_eq_false c,Bool.false_and] at q
   exact q _ s1
theorem zcP:zaB ["thing","boxes","weights","price","counts"] ["thing","boxes"] (zag zdY):=⟨rfl,rfl,rfl,by decide +kernel,rfl,by decide +kernel,by decide +kernel⟩
theorem zim(T:Txt K mg a):zcn P w K mg base CX0 4 a.f_is_hider_paper a.d_is_hider_paper ["thing","boxes"] zpB:=by
 have G_are_weights:=zj6 (P:=P) (w:=w) (base:=base) T
 have G_is_fraction:=zka (P:=P) (w:=w) (base:=base) T
 have G_is_plan:=zkE (P:=P) (w:=w) (base:=base) T
 refine T.F_is_hider_paper.ok zcP (Qj) (Qd)
 ·obtain⟨pr,l,ts,bs,Ws,ns,P',rfl,B,A,q⟩:=h
  rfl
 obtain⟨pr,l,ts,bs,Ws,ns,P',rfl,B,A,q⟩:=h
 exact⟨zdV K,(zaf (Qaa)
 (zaf (zcY (pv 0) (zbu rfl (zal (zak (i:=2) zcP.nd rfl (Qf)) (zal (zak (i:=3) zcP.nd rfl (Qf)) (zal (zak (i:=4) zcP.nd rfl (Qf)) za3)))))
 (zaj (zar (zdR (zah G_are_weights (Qa) rfl T.m_are_weights T.F_are_weights.kp T.b_are_weights .nil zax (zaa (pv 2) (zaa (zao zaA rfl T.z_len ψr (QG)) zad))) (zdR (zah G_is_fraction (Qa) rfl T.m_is_fraction T.F_is_fraction.kp T.b_is_fraction .nil zax (QU)) (zdR (zcb zmT (Qa0) zae (za4 _)) (zfi (zah G_is_plan (Qa) rfl T.m_is_plan T.F_is_plan.kp T.b_is_plan .nil zax (zaa (pv 4) (QG))))))))))),
  zio B A q⟩
theorem zlx{b:Box}(g:GB b)(w n:Int)(P:Rat):(w*b.2.1*(b.2.2 - b.2.1) ^ n.toNat*(P.den:Int)≤P.num*b.1*b.2.2*b.2.2 ^ n.toNat↔(w:Rat)*gnq b n≤P*(b.1:Rat))∧(P.num*b.1*b.2.2*b.2.2 ^ n.toNat≤w*b.2.1*(b.2.2 - b.2.1) ^ n.toNat*(P.den:Int)↔P*(b.1:Rat)≤(w:Rat)*gnq b n):=by
 have o:=zdn g n
 have o1:0<b.2.2:=by have:=g.2.2.1;have:=g.2.2.2.1;omega
 have d:=zb4 P
 have D:(0:Rat)<((b.2.2 ^ n.toNat*b.2.2*P.den:Int):Rat):=by exact_mod_cast ψv1 (ψv1 o o1) d
 have e1:(w:Rat)*gnq b n*((b.2.2 ^ n.toNat*b.2.2*P.den:Int):Rat)=((w*b.2.1*(b.2.2 - b.2.1) ^ n.toNat*(P.den:Int):Int):Rat):=by
  unfold gnq
  rw[ψn]
  simp only[ψj]
  have on:((b.2.2 ^ n.toNat:Int):Rat)≠0:=λz=>by
   have:(b.2.2 ^ n.toNat:Int)=0:=by exact_mod_cast z
   omega
  have oo:(b.2.2:Rat)≠0:=λz=>by
   have:b.2.2=0:=by exact_mod_cast z
   omega
  generalize ((b.2.2 ^ n.toNat:Int):Rat)=A at on ⊢
  generalize (b.2.2:Rat)=O at oo ⊢
  generalize (((b.2.2 - b.2.1) ^ n.toNat:Int):Rat)=M
  grind
 have e2:P*(b.1:Rat)*((b.2.2 ^ n.toNat*b.2.2*P.den:Int):Rat)=((P.num*b.1*b.2.2*b.2.2 ^ n.toNat:Int):Rat):=by
  have h:=ψz P
  rw[ψn] at h
  simp only[ψj]
  have dn:((P.den:Int):Rat)≠0:=λz=>by
   have:(P.den:Int)=0:=by exact_mod_cast z
   omega
  have h2:(P.num:Rat)=P*((P.den:Int):Rat):=by
   generalize ((P.den:Int):Rat)=x at h dn ⊢
   generalize (P.num:Rat)=y at h ⊢
   grind
  rw[h2]
  generalize ((P.den:Int):Rat)=x
  grind
 constructor
 ·rw[← Rat.intCast_le_intCast,← e1,← e2]
  exact⟨λz=>ψy1 z D,λz=>ψA z (ψC D)⟩
 ·rw[← Rat.intCast_le_intCast,← e1,← e2]
  exact⟨λz=>ψy1 z D,λz=>ψA z (ψC D)⟩
def zjj(H:Hp)(t p:Addr)(b:Box)(w n:Int)(P:Rat):Prop:=H t=some (Qbg)∧GB b∧H p=some (Qbq)∧Bd 2800 w∧Bq 2800 P∧0≤n∧n≤60
def zqV:Sp:=λvs H Q _=>∃(t p:Addr) (b:Box) (w n:Int) (P:Rat),vs=[.ref t,.int w,.ref p,.int n]∧zjj H t p b w n P∧∀(r:Bool) (H':Hp),zaI H H'→(r=true↔(w:Rat)*gnq b n≤P*(b.1:Rat))→Q (.bl r) H'
def zdc(K:ψa):TS :=
 (zbd (zbO (zaz zft [] E0 (zab (zac 0) (QO))) (zdv K 2 (QbJ)))
 (zbU (tOp (Qaf) (tOp (Qc) (tOp (Qc) (tOp (Qc) (zac 1) (QB)) (zac 4)) (QaW)) (tOp (Qc) (Qbb) (zac 5)))))
theorem zgK{t p:Addr}{b:Box}{w n:Int}{P:Rat}(A:zjj H t p b w n P)(q:∀(r:Bool) (H':Hp),zaI H H'→(r=true↔(w:Rat)*gnq b n≤P*(b.1:Rat))→Q (.bl r) H') :
  zdc K { nx:=λ_ H'=>Q .non H',rt:=Q } (L2.start ["box","weight","price","count","top","bottom"] [.ref t,.int w,.ref p,.int n]) H:=by
 unfold zdc
 obtain⟨ht,g,hp,bw,bP,n0,n1⟩:=A
 have cm:=(zlx g w n P).1
 have bo:=zgL g n1
 have g':=g
 obtain⟨g1,g2,g3,g4,g5⟩:=g
 have bt:Bd 400 ((b.2.2 - b.2.1) ^ n.toNat):=zeO (Qe) (Qe) (Qe)
 have h6:Bd 6 b.2.1:=by show b.2.1.natAbs<2 ^ 6;omega
 have c6:Bd 6 b.1:=by show b.1.natAbs<2 ^ 6;omega
 have o6:Bd 6 b.2.2:=by show b.2.2.natAbs<2 ^ 6;omega
 simp_all only [zac]
 refine⟨t,b,n,rfl,ht,g',n0,n1,λr H1 s1 h1=>?_⟩
 simp_all only [zac]
 have ht1:=SqT.of (K:=K) (s1 _ _ ht)
 have hp1:=SqT.of (K:=K) (s1 _ _ hp)
 have m1:=bw.mul h6
 have m2:=m1.mul bt
 have m3:=bP.top.mul c6
 have m4:=m3.mul o6
 refine(QbE)
 refine⟨_,ht1,_,rfl,_,rfl,zdg 2800 6 bw h6,_,rfl,zdg 2806 400 m1 bt,_,hp1,_,rfl,_,rfl,zdg 3206 2800 m2 bP.bot,_,hp1,_,rfl,_,ht1,_,rfl,_,rfl,_,rfl,zdg 2800 6 bP.top c6,_,ht1,_,rfl,_,rfl,zdg 2806 6 m3 o6,_,rfl,zdg 2812 400 m4 bo,?_⟩
 exact q _ H1 s1 (by rw[decide_eq_true_iff];exact cm)
theorem zc0:zaB ["box","weight","price","count","top","bottom"] ["box","weight","price","count"] (zag zdd):=⟨rfl,rfl,rfl,by decide +kernel,rfl,by decide +kernel,by decide +kernel⟩
theorem zgM(T:Txt K mg a):zcn P w K mg base CX0 3 a.f_is_next_look_dear a.d_is_next_look_dear ["box","weight","price","count"] zqV:=by
 have G_missed:=zfb (P:=P) (w:=w) (base:=base) T
 refine T.F_is_next_look_dear.ok zc0 (Qj) (Qd)
 ·obtain⟨t,p,b,w,n,P',rfl,A,q⟩:=h
  rfl
 obtain⟨t,p,b,w,n,P',rfl,A,q⟩:=h
 exact⟨zdc K,(zaf (zcY (zah G_missed (Qa) rfl T.m_missed T.F_missed.kp T.b_missed .nil zax (zaa (pv 0) (QU))) (zbu rfl (zal (zak (i:=4) zc0.nd rfl (Qf)) (zal (zak (i:=5) zc0.nd rfl (Qf)) za3))))
 (zaj (zar (zcb zmG (zas zav (zas zav (zas zav (pv 1) (Qg)) (pv 4)) (Q8)) (zas zav (Qcl) (pv 5)) (za4 _))))),
  zgK A q⟩
def zr9:Sp:=λvs H Q _=>∃(t p:Addr) (b:Box) (w n:Int) (P:Rat),vs=[.ref t,.int w,.ref p,.int n]∧zjj H t p b w n P∧0<n∧∀(r:Bool) (H':Hp),zaI H H'→(r=true↔P*(b.1:Rat)≤(w:Rat)*gnq b (n - 1))→Q (.bl r) H'
def zc2(K:ψa):TS :=
 (zbd (zbO (zaz zft [] E0 (zab (zac 0) (zab (tOp (QJ) (zac 3) (Qh)) zau))) (zdv K 2 (QbJ)))
 (zbU (tOp (Qae) (tOp (Qc) (tOp (Qc) (tOp (Qc) (zac 1) (QB)) (zac 4)) (QaW)) (tOp (Qc) (Qbb) (zac 5)))))
theorem zf0{t p:Addr}{b:Box}{w n:Int}{P:Rat}(A:zjj H t p b w n P)(np:0<n)(q:∀(r:Bool) (H':Hp),zaI H H'→(r=true↔P*(b.1:Rat)≤(w:Rat)*gnq b (n - 1))→Q (.bl r) H') :
  zc2 K { nx:=λ_ H'=>Q .non H',rt:=Q } (L2.start ["box","weight","price","count","top","bottom"] [.ref t,.int w,.ref p,.int n]) H:=by
 unfold zc2
 obtain⟨ht,g,hp,bw,bP,n0,n1⟩:=A
 have cm:=(zlx g w (n - 1) P).2
 have bo:=zgL g (show n - 1≤60 by omega)
 have g':=g
 obtain⟨g1,g2,g3,g4,g5⟩:=g
 have bt:Bd 400 ((b.2.2 - b.2.1) ^ (n - 1).toNat):=zeO (Qe) (Qe) (Qe)
 have h6:Bd 6 b.2.1:=by show b.2.1.natAbs<2 ^ 6;omega
 have c6:Bd 6 b.1:=by show b.1.natAbs<2 ^ 6;omega
 have o6:Bd 6 b.2.2:=by show b.2.2.natAbs<2 ^ 6;omega
 simp_all only [zac]
 refine⟨t,b,n - 1,rfl,ht,g',by omega,by omega,λr H1 s1 h1=>?_⟩
 simp_all only [zac]
 have ht1:=SqT.of (K:=K) (s1 _ _ ht)
 have hp1:=SqT.of (K:=K) (s1 _ _ hp)
 have m1:=bw.mul h6
 have m2:=m1.mul bt
 have m3:=bP.top.mul c6
 have m4:=m3.mul o6
 refine(QbE)
 refine⟨_,ht1,_,rfl,_,rfl,zdg 2800 6 bw h6,_,rfl,zdg 2806 400 m1 bt,_,hp1,_,rfl,_,rfl,zdg 3206 2800 m2 bP.bot,_,hp1,_,rfl,_,ht1,_,rfl,_,rfl,_,rfl,zdg 2800 6 bP.top c6,_,ht1,_,rfl,_,rfl,zdg 2806 6 m3 o6,_,rfl,zdg 2812 400 m4 bo,?_⟩
 exact q _ H1 s1 (by rw[decide_eq_true_iff];exact cm)
theorem zcH:zaB ["box","weight","price","count","top","bottom"] ["box","weight","price","count"] (zag zc1):=⟨rfl,rfl,rfl,by decide +kernel,rfl,by decide +kernel,by decide +kernel⟩
theorem zgh(T:Txt K mg a):zcn P w K mg base CX0 3 a.f_is_last_look_worth a.d_is_last_look_worth ["box","weight","price","count"] zr9:=by
 have G_missed:=zfb (P:=P) (w:=w) (base:=base) T
 refine T.F_is_last_look_worth.ok zcH (Qj) (Qd)
 ·obtain⟨t,p,b,w,n,P',rfl,A,np,q⟩:=h
  rfl
 obtain⟨t,p,b,w,n,P',rfl,A,np,q⟩:=h
 exact⟨zc2 K,(zaf (zcY (zah G_missed (Qa) rfl T.m_missed T.F_missed.kp T.b_missed .nil zax (zaa (pv 0) (zaa (zas zc4 (pv 3) zae) zad))) (zbu rfl (zal (zak (i:=4) zcH.nd rfl (Qf)) (zal (zak (i:=5) zcH.nd rfl (Qf)) za3))))
 (zaj (zar (zcb zmT (zas zav (zas zav (zas zav (pv 1) (Qg)) (pv 4)) (Q8)) (zas zav (Qcl) (pv 5)) (za4 _))))),
  zf0 A np q⟩
def zm6:Sp:=λvs H Q _=>∃(t p:Addr) (b:Box) (w n:Int) (P:Rat),vs=[.ref t,.int w,.ref p,.int n]∧zjj H t p b w n P∧∀(r:Bool) (H':Hp),zaI H H'→(r=true↔Mrk b w P n)→Q (.bl r) H'
theorem zjj.same{H H':Hp}{t p:Addr}{b:Box}{w n:Int}{P:Rat}(A:zjj H t p b w n P)(s:zaI H H'):zjj H' t p b w n P:=by
 obtain⟨a1,a2,a3,a4⟩:=A
 exact⟨s _ _ a1,a2,s _ _ a3,a4⟩
def ze6:TS :=
 (zdQ (zzV (zb5 (tOp (QZ) (zac 3) (Ql))) (zfe (tB (zaz zr9 [] E0 (Qax))))) (QC) zb1)
def zcZ:=eqT (ze6.eq_1)
def zek:TS :=
 (zbd (zdG (ze6))
 (zbU (zaz zqV [] E0 (Qax))))
theorem ziN{t p:Addr}{b:Box}{w n:Int}{P:Rat}(A:zjj H t p b w n P)(q:∀(r:Bool) (H':Hp),zaI H H'→(r=true↔Mrk b w P n)→Q (.bl r) H') :
  zek { nx:=λ_ H'=>Q .non H',rt:=Q } (L2.start ["box","weight","price","count"] [.ref t,.int w,.ref p,.int n]) H:=by
 unfold zek
 simp_all only [zcZ,zac]
 refine⟨λσ H'=>zaI H H'∧(0<n→P*(b.1:Rat)≤(w:Rat)*gnq b (n - 1))∧σ=[some (.ref t),some (.int w),some (Qb9),some (.int n)],?_,?_⟩
 ·simp_all only [zcZ,zac]
  by_cases c:0<n
  ·rw[if_pos c]
   refine⟨t,p,b,w,n,P,rfl,A,c,λr H1 s1 hr=>⟨r,rfl,?_⟩⟩
   cases r with
   | true=>exact zcg (Qy) (λ_=>⟨s1,λ_=>hr.mp rfl⟩)
   | false=>exact zcg (λ_=>q false H1 s1 ⟨λz=>(QbZ),λz=>absurd (hr.mpr (z.2 c)) (Qn)⟩) (QN)
  ·rw[if_neg c]
   exact⟨.refl _,λz=>absurd z c⟩
 ·rintro σ H1 ⟨s1,hl,rfl⟩
  simp_all only [zcZ,zac]
  refine⟨t,p,b,w,n,P,rfl,A.same s1,λr H2 s2 hr=>?_⟩
  exact q r H2 (QaD) ⟨λz=>⟨hr.mp z,hl⟩,λz=>hr.mpr z.1⟩
theorem ziG:zaB ["box","weight","price","count"] ["box","weight","price","count"] (zag zex):=⟨rfl,rfl,rfl,by decide +kernel,rfl,by decide +kernel,by decide +kernel⟩
theorem ziQ(T:Txt K mg a):zcn P w K mg base CX0 4 a.f_is_count_best a.d_is_count_best ["box","weight","price","count"] zm6:=by
 have G_is_last_look_worth:=zgh (P:=P) (w:=w) (base:=base) T
 have G_is_next_look_dear:=zgM (P:=P) (w:=w) (base:=base) T
 refine T.F_is_count_best.ok ziG (Qj) (Qd)
 ·obtain⟨t,p,b,w,n,P',rfl,A,q⟩:=h
  rfl
 obtain⟨t,p,b,w,n,P',rfl,A,q⟩:=h
 exact⟨zek,(zaf (zbs (zbP (PW.pt (zsv (zbb zjD (pv 3) zae (za4 _)) (zoD (zbL (zbt (zah G_is_last_look_worth (Qa) rfl T.m_is_last_look_worth T.F_is_last_look_worth.kp T.b_is_last_look_worth .nil zax (QaC))))))) (QP) zaR))
 (zaj (zar (zah G_is_next_look_dear (Qa) rfl T.m_is_next_look_dear T.F_is_next_look_dear.kp T.b_is_next_look_dear .nil zax (QaC))))),
  ziN A q⟩
def mss(b:Box)(n:Int):List V:=[.int ((b.2.2 - b.2.1) ^ n.toNat),.int (b.2.2 ^ n.toNat)]
def mssP(x:Box×Int):List V:=mss x.1 x.2
def ztE:List (Box×Int)→Int
 | []=>1
 | x::xs=>x.1.2.2 ^ x.2.toNat*ztE xs
theorem zpC:∀(xs:List (Box×Int)) (x:Box×Int),ztE (xs++[x])=ztE xs*x.1.2.2 ^ x.2.toNat
 | [],x=>by
  show x.1.2.2 ^ x.2.toNat*1=1*x.1.2.2 ^ x.2.toNat
  rw[Int.mul_one,Int.one_mul]
 | y::ys,x=>by
  show y.1.2.2 ^ y.2.toNat*ztE (ys++[x])=y.1.2.2 ^ y.2.toNat*ztE ys*x.1.2.2 ^ x.2.toNat
  rw[zpC ys x,Int.mul_assoc]
theorem zpl:∀xs:List (Box×Int),(∀x∈xs,GB x.1)→0<ztE xs
 | [],_=>by decide
 | x::xs,h=>ψv1 (zdn (h x ψf) x.2) (zpl xs λy hy=>h y (ψd _ hy))
theorem znQ:∀xs:List (Box×Int),(∀x∈xs,GB x.1∧x.2≤60)→Bd (400*xs.length+1) (ztE xs)
 | [],_=>by show(1:Nat)<2 ^ 1;decide
 | x::xs,h=>by
  have ih:=znQ xs λy hy=>h y (ψd _ hy)
  obtain⟨g,n⟩:=h x ψf
  exact((zgL g n).mul ih).mono (by rw[ψM];omega)
theorem zpf:∀(xs:List (Box×Int)) (x:Box×Int),x∈xs→x.1.2.2 ^ x.2.toNat∣ztE xs
 | y::ys,x,h=>by
  rcases List.mem_cons.mp h with rfl | h
  ·exact Int.dvd_mul_right ..
  ·exact Int.dvd_trans (zpf ys x h) (Int.dvd_mul_left ..)
theorem zrz{b:Box}(g:GB b){n w T:Int}(h:b.2.2 ^ n.toNat∣T):((w*(b.2.2 ^ n.toNat - (b.2.2 - b.2.1) ^ n.toNat)*T.fdiv (b.2.2 ^ n.toNat):Int):Rat)=(w:Rat)*chq b n*(T:Rat):=by
 have o:=zdn g n
 have f:=zdh h
 generalize T.fdiv (b.2.2 ^ n.toNat)=k at f ⊢
 rw[← f]
 unfold chq
 rw[ψn,ψj,ψj,ψj]
 have on:((b.2.2 ^ n.toNat:Int):Rat)≠0:=λz=>by
  have:(b.2.2 ^ n.toNat:Int)=0:=by exact_mod_cast z
  omega
 generalize ((b.2.2 ^ n.toNat:Int):Rat)=A at on ⊢
 generalize ((b.2.2 ^ n.toNat - (b.2.2 - b.2.1) ^ n.toNat:Int):Rat)=C
 grind
theorem zpr{T:Int}:∀(bs:List Box) (Ws ns:List Int),(Qav)→(∀x∈ψl bs ns,x.1.2.2 ^ x.2.toNat∣T)→(((ψe (Qab) Ws (Qay)).sum:Int):Rat)=zhn bs Ws ns*(T:Rat)
 | [],Ws,ns,_,_=>by
  simp only[zhn,zk0,List.zip_nil_left,ψl1,ψL1,ψT]
  rw[show((0:Int):Rat)=0 from rfl]
  grind
 | _::_,Ws,[],_,_=>by
  simp only[zhn,zk0,List.zip_nil_right,ψL1,ψT]
  rw[show((0:Int):Rat)=0 from rfl]
  grind
 | _::_,[],_::_,_,_=>by
  simp only[zhn,ψl1,ψT]
  rw[show((0:Int):Rat)=0 from rfl]
  grind
 | b::bs,w::Ws,n::ns,gb,h=>by
  have ih:=zpr bs Ws ns (QaL) (λx hx=>h x (Qbr))
  have t:=zrz (gb b ψf) (w:=w) (h (b,n) ψf)
  show((w*(b.2.2 ^ n.toNat - (b.2.2 - b.2.1) ^ n.toNat)*T.fdiv (b.2.2 ^ n.toNat)+(ψe (Qab) Ws (Qay)).sum:Int):Rat)=((w:Rat)*chq b n+zhn bs Ws ns)*(T:Rat)
  rw[ψN,t,ih]
  grind
theorem zwL{F P W:Rat}{f S T s:Int}(T0:0<T)(h:(f:Rat)=F*(T:Rat)):(f*(P.den:Int)+P.num*s*T)*(W.den:Int)≤W.num*S*T*(P.den:Int)↔F+P*(s:Rat)≤W*(S:Rat):=by
 have dP:=zb4 P
 have dW:=zb4 W
 have TR:(0:Rat)<(T:Rat):=by exact_mod_cast T0
 have pR:(0:Rat)<((P.den:Int):Rat):=by exact_mod_cast dP
 have wR:(0:Rat)<((W.den:Int):Rat):=by exact_mod_cast dW
 have hP:(P.num:Rat)=P*((P.den:Int):Rat):=by
  have h:=ψz P
  rw[ψn] at h
  generalize ((P.den:Int):Rat)=x at h pR ⊢
  generalize (P.num:Rat)=y at h ⊢
  have:x≠0:=by grind
  grind
 have hW:(W.num:Rat)=W*((W.den:Int):Rat):=by
  have h:=ψz W
  rw[ψn] at h
  generalize ((W.den:Int):Rat)=x at h wR ⊢
  generalize (W.num:Rat)=y at h ⊢
  have:x≠0:=by grind
  grind
 rw[← Rat.intCast_le_intCast]
 simp only[ψj,ψN]
 rw[h,hP,hW]
 have D:=ψw1 (ψw1 TR pR) wR
 have e1:(F*(T:Rat)*((P.den:Int):Rat)+P*((P.den:Int):Rat)*(s:Rat)*(T:Rat))*((W.den:Int):Rat)=(F+P*(s:Rat))*((T:Rat)*((P.den:Int):Rat)*((W.den:Int):Rat)):=by
  generalize ((P.den:Int):Rat)=x
  generalize ((W.den:Int):Rat)=y
  grind
 have e2:W*((W.den:Int):Rat)*(S:Rat)*(T:Rat)*((P.den:Int):Rat)=W*(S:Rat)*((T:Rat)*((P.den:Int):Rat)*((W.den:Int):Rat)):=by
  generalize ((P.den:Int):Rat)=x
  generalize ((W.den:Int):Rat)=y
  grind
 rw[e1,e2]
 exact⟨λz=>ψy1 z D,λz=>ψA z (ψC D)⟩
def zoQ:Sp:=λvs H Q _=>∃(l v pr:Addr) (bud:Int) (ts:List Addr) (bs:List Box) (W P:Rat) (Ws ns:List Int),vs=[.ref l,.int bud,.ref v,.ref pr]∧Bx6 H l ts bs∧H v=some (Qag)∧Bq 2000 W∧PpH H pr bs.length Ws P ns∧(∀n∈ns,n≤60)∧0≤bud∧bud≤60∧∀(r:Bool) (H':Hp),zaI H H'→(r=true↔zhn bs Ws ns+P*((bud - (zaF bs ns).sum:Int):Rat)≤W*(Ws.sum:Rat))→Q (.bl r) H'
def zgU(K:ψa):TS :=
 (zbd (zbO (tCB (zmO K) (zab (zb3 (zmf K (zab (zac 4) (zab (zac 7) zau))) (Qk) za5 (tOp (Qc) (tOp (Qc) (zac 0) (tOp (QJ) (Q5) (tOp (zbC K) (zac 1) (Ql)))) (tOp (QA) (zac 2) (Q5))) [none,none,some 8]) zau)) (zam 11))
 (zbd (zbO (tOp (Qc) (tOp (Qc) (Q4) (tOp (QJ) (zac 1) (zaz zpH [] E0 (Qbe)))) (zac 8)) (zam 12))
 (zbU (tOp (Qaf) (tOp (Qc) (tOp (Qv) (tOp (Qc) (zac 11) (Qah)) (zac 12)) (QaW)) (tOp (Qc) (tOp (Qc) (tOp (Qc) (tOp (zbC K) (zac 2) (Ql)) (tCB (zmO K) (QaQ))) (zac 8)) (Qah))))))
def zbG(K:ψa):=eqT (zgU.eq_1 K)
def zgp(K:ψa):TS :=
 (zbd (QaT)
 (zbd (zbO (zb3 (zmf K (Qbe)) (Qk) za5 (zaz zft [] E0 (Q7)) [none,none]) (zam 7))
 (zbd (zbO (Qh) (zam 8))
 (zbd (zll (zcz K (zac 7)) (zdv K 2 (QbC))
 (zbO (tOp (Qc) (zac 8) (zac 10)) (zam 8)))
 (zgU K)))))
theorem zlC{l v pr:Addr}{bud:Int}{ts:List Addr}{bs:List Box}{W P:Rat}{Ws ns:List Int}(B:Bx6 H l ts bs)(hv:H v=some (Qag))(bW:Bq 2000 W)(A:PpH H pr bs.length Ws P ns)(n60:∀n∈ns,n≤60)(d0:0≤bud)(d1:bud≤60)(q:∀(r:Bool) (H':Hp),zaI H H'→(r=true↔zhn bs Ws ns+P*((bud - (zaF bs ns).sum:Int):Rat)≤W*(Ws.sum:Rat))→Q (.bl r) H') :
  zgp K { nx:=λ_ H'=>Q .non H',rt:=Q } (L2.start ["boxes","budget","worth","paper","weights","price","counts","misses","whole","top","bottom","found","spare"] [.ref l,.int bud,.ref v,.ref pr]) H:=by
 unfold zgp
 obtain⟨wl,pp,cl,a1,a2,a3,a4⟩:=A.ex
 have l6:=B.l6
 have gn:∀n∈ns,0≤n∧n≤60:=λn hn=>⟨(A.n0 n hn).1,n60 n hn⟩
 have gz:∀x∈ψl bs ns,GB x.1∧x.2≤60:=λx hx=>by
  obtain⟨i,ei⟩:=ψq hx
  rw[ψK] at ei
  exact⟨B.gb _ (zap ei.1),n60 _ (zap ei.2)⟩
 have lz:(Qay).length=bs.length:=by rw[List.length_zip,A.ln];omega
 simp_all only [zbG,zac]
 refine(QaK)
 refine⟨_,rfl,⟨_,SqL.of B.hl⟩,⟨_,SqL.of a4⟩,λD hD=>?_⟩
 refine zf6 (f:=mssP) (qs:=ψl bs ns) B.hl a4 (by rw[lz,ψb,ψb,B.hb.1,A.ln];omega) (Qe) hD (Qcj) λus H1 s1 h1 T1=>?_
 ·obtain⟨t,ht,rfl⟩:=zat hx
  obtain⟨n,hn,rfl⟩:=zat hz
  obtain⟨b,hb1,hb2⟩:=B.hb.at ht
  have ez:(Qay)[i]?=some (b,n):=List.getElem?_zip_eq_some.mpr ⟨hb1,hn⟩
  rw[ez] at hw
  cases hw
  simp_all only [zbG,zac]
  exact⟨t,b,n,rfl,s3 _ _ hb2,B.gb b (zap hb1),(gn n (zap hn)).1,(gn n (zap hn)).2,k⟩
 simp_all only [zbG,zac]
 refine⟨⟨_,SqL.of h1⟩,?_⟩
 refine zc3 (K:=K) (xs:=us.map V.ref) (λi σ H'=>zaI H1 H'∧∃y9 y10,σ=[some (Qa5),some (Qbt),some (.ref v),some (QcC),some (.ref wl),some (.ref pp),some (.ref cl),some (.ref D),some (.int (ztE ((Qay).take i))),y9,y10,none,none]) ⟨.refl _,_,_,rfl⟩ ?_ ?_ ?_
 ·rintro i σ H' _ ⟨s,_⟩
  exact SqL.of (s _ _ h1)
 ·rintro i x σ H2 hx ⟨s2,y9,y10,rfl⟩
  obtain⟨u,eu,rfl⟩:=zat hx
  obtain⟨z,ez,hz⟩:=T1.at eu
  have gzz:=gz z (zap ez)
  have li:=(List.getElem?_eq_some_iff.mp ez).1
  have bb:=znQ ((Qay).take i) λy hy=>gz y (ψb1 hy)
  rw[ψG] at bb
  simp_all only [zbG,zac]
  refine⟨_,SqT.of (s2 _ _ hz),rfl,_,_,rfl,_,_,rfl,rfl,?_⟩
  refine⟨_,rfl,zdg 2401 400 (bb.mono (Qe)) (zgL gzz.1 gzz.2),s2,?_⟩
  rw[ψx,ez,Option.toList_some,zpC]
 ·rintro σ H2 ⟨s2,y9,y10,rfl⟩
  rw[ψb,T1.1,ψH]
  have S2:=s1.trans s2
  generalize hT:ztE (ψl bs ns)=T
  have T0:0<T:=by rw[← hT];exact zpl _ λx hx=>(gz x hx).1
  have bT:Bd 2401 T:=by rw[← hT];exact(znQ _ gz).mono (Qe)
  have dvT:∀x∈ψl bs ns,x.1.2.2 ^ x.2.toNat∣T:=λx hx=>by rw[← hT];exact zpf _ x hx
  simp_all only [zbG,zac]
  refine⟨⟨_,SqL.of (S2 _ _ a2)⟩,⟨_,SqL.of (s2 _ _ h1)⟩,λD2 hD2=>?_⟩
  generalize hF:ψe (Qab) Ws (ψl bs ns)=Fs
  have lF:Fs.length=bs.length:=by rw[← hF,ψo,lz,A.lw];omega
  have tb:∀(i:Nat) w x,Ws[i]?=some w→(Qay)[i]?=some x→Bd 401 (x.1.2.2 ^ x.2.toNat - (x.1.2.2 - x.1.2.1) ^ x.2.toNat)∧(T.fdiv (x.1.2.2 ^ x.2.toNat)).natAbs≤T.natAbs∧0<x.1.2.2 ^ x.2.toNat:=λi w x e1 e2=>by
   obtain⟨g,n1⟩:=gz x (zap e2)
   have o:=zdn g x.2
   have bt:Bd 400 ((x.1.2.2 - x.1.2.1) ^ x.2.toNat):=by
    obtain⟨g1,g2,g3,g4,g5⟩:=g
    exact zeO (Qe) (Qe) (Qe)
   refine⟨(zgL g n1).sub bt,?_,o⟩
   rw[ψZ _ (ψD o)]
   have h1:=ψK1 (x.1.2.2 ^ x.2.toNat) (ψD T0)
   have h2:=Int.ediv_nonneg (b:=x.1.2.2 ^ x.2.toNat) (ψD T0) (ψD o)
   omega
  refine zfn (vs:=Fs.map V.int) (S2 _ _ a2) (s2 _ _ h1) (by rw[ψb,lF,ψb,ψb,A.lw,T1.1,lz];omega) (by rw[ψb];omega) hD2 (Qcj) λH3 s3 h3=>?_
  ·obtain⟨m,em,rfl⟩:=zat hx
   obtain⟨u,eu,rfl⟩:=zat hz
   obtain⟨f,ef,rfl⟩:=zat hw
   obtain⟨y,ey,hy⟩:=T1.at eu
   rw[← hF] at ef
   have e:=ziO em ey ef
   subst e
   obtain⟨b1,b2,o⟩:=tb i m y em ey
   obtain⟨g,n1⟩:=gz y (zap ey)
   have hy3:=SqT.of (K:=K) (s3 _ _ (s2 _ _ hy))
   have bm:=A.wb m (zap em)
   simp_all only [zbG,zac]
   exact⟨_,hy3,_,rfl,_,hy3,_,rfl,_,rfl,_,rfl,zdg 2800 401 bm b1,_,hy3,_,rfl,_,rfl,by omega,zhJ 400 (Qe) (zgL g n1),zdg 3201 2401 (bm.mul b1) (bT.le b2),k _ (QbA)⟩
  ·have S3:=S2.trans s3
   have bp:BP H3 l cl ts bs ns:=(B.same S3).bp (S3 _ _ a4) A.ln gn
   obtain⟨c0,c1⟩:=zi0 bs ns B.gb gn
   have hp3:=SqT.of (K:=K) (S3 _ _ a3)
   simp_all only [zbG,zac]
   refine⟨_,SqL.of h3,_,hp3,_,rfl,l,cl,ts,bs,ns,rfl,bp,λH4 s4=>?_⟩
   have S4:=S3.trans s4
   have hp4:=SqT.of (K:=K) (S4 _ _ a3)
   have hv4:=SqT.of (K:=K) (S4 _ _ hv)
   have bF:∀f∈Fs,Bd 5602 f:=by
    rw[← hF]
    exact zg9 _ λi w x e1 e2=>by
     obtain⟨b1,b2,_⟩:=tb i w x e1 e2
     exact((A.wb w (zap e1)).mul b1).mul (bT.le b2)
   have bFs:=(zkn Fs bF).mono (show _≤5608 by omega)
   have bWs:=(zkn Ws A.wb).mono (show _≤2806 by have:=A.lw;omega)
   have bsp:Bd 15 (bud - (zaF bs ns).sum):=by show(bud - (zaF bs ns).sum).natAbs<2 ^ 15;omega
   have m1:=A.pb.top.mul bsp
   have m2:=m1.mul bT
   have m3:=bFs.mul A.pb.bot
   have m5:=bW.top.mul bWs
   have m6:=m5.mul bT
   simp_all only [zbG,zac]
   refine⟨zdg 2800 15 A.pb.top bsp,zdg 2815 2401 m1 bT,_,hp4,_,rfl,_,rfl,zdg 5608 2800 bFs A.pb.bot,_,hv4,_,rfl,_,rfl,zdg 8409 2000 ((m3.mono (show _≤8408 by omega)).add (m2.mono (Qe))) bW.bot,_,hv4,_,rfl,Ws,SqL.of (S4 _ _ a2),_,rfl,zdg 2000 2806 bW.top bWs,zdg 4806 2401 m5 bT,_,hp4,_,rfl,_,rfl,zdg 7207 2800 m6 A.pb.bot,?_⟩
   refine q _ H4 S4 ?_
   rw[decide_eq_true_iff]
   refine zwL T0 ?_
   rw[← hF]
   exact zpr bs Ws ns B.gb dvT
theorem zbM:zaB ["boxes","budget","worth","paper","weights","price","counts","misses","whole","top","bottom","found","spare"] ["boxes","budget","worth","paper"] (zag zdK):=⟨rfl,rfl,rfl,by decide +kernel,rfl,by decide +kernel,by decide +kernel⟩
theorem zlL(T:Txt K mg a):zcn P w K mg base CX0 3 a.f_is_sum_low a.d_is_sum_low ["boxes","budget","worth","paper"] zoQ:=by
 have G_cost_sum:=zhg (P:=P) (w:=w) (base:=base) T
 have G_missed:=zfb (P:=P) (w:=w) (base:=base) T
 refine T.F_is_sum_low.ok zbM (Qj) (Qd)
 ·obtain⟨l,v,pr,bud,ts,bs,W,P',Ws,ns,rfl,B,hv,bW,A,n60,d0,d1,q⟩:=h
  rfl
 obtain⟨l,v,pr,bud,ts,bs,W,P',Ws,ns,rfl,B,hv,bW,A,n60,d0,d1,q⟩:=h
 exact⟨zgp K,(zaf (zcY (pv 3) (zbu rfl (zal (zak (i:=4) zbM.nd rfl (Qf)) (zal (zak (i:=5) zbM.nd rfl (Qf)) (zal (zak (i:=6) zbM.nd rfl (Qf)) za3)))))
 (zaf (zcO (i:=7) zbM.nd rfl rfl (sc:=zag zdK) (N:=["boxes","budget","worth","paper","weights","price","counts","misses","whole","top","bottom","found","spare"]) (Nc:=["box","count"]) (cap:=[none,none]) rfl rfl rfl (Qi) (zeC rfl T.z_zip (Qbn)) (Qq) (QF) (λ_ _ _ _=>(QaO)))
 (zaf (zaN (i:=8) zbM.nd rfl (Qbd) zae)
 (zaf (zdJ PassesOwn.never rfl (zbl (pv 7)) (zbu rfl (zal (zak (i:=9) zbM.nd rfl (Qf)) (zal (zak (i:=10) zbM.nd rfl (Qf)) za3)))
 (zaj (zaN (i:=8) zbM.nd rfl (Qbd) (zas zav (pv 8) (pv 10)))))
 (zaf (zaN (i:=11) zbM.nd rfl (Qf) (zao (zcr rfl) rfl T.z_sum ψI (zaa (zbi (sc:=zag zdK) (N:=["boxes","budget","worth","paper","weights","price","counts","misses","whole","top","bottom","found","spare"]) (Nc:=["weight","miss","whole"]) (cap:=[none,none,some 8]) rfl rfl rfl (Qi) (zeC rfl T.z_zip (zaa (pv 4) (zaa (pv 7) zad))) (λ_ _ _ _=>(zbu rfl (zal (zak (i:=0) (show ψh (["weight","miss","whole"]:List Str) from by decide) rfl (Qf)) (zal (zak (i:=1) (show ψh (["weight","miss","whole"]:List Str) from by decide) rfl (Qf)) za3)))) (QF) (λ_ _ _ _=>(zas zav (zas zav (pv 0) (zas zc4 (QL) (QL))) (zas zdF (pv 2) (QL))))) zad)))
 (zaf (zaN (i:=12) zbM.nd rfl (Qf) (zas zav (zas zav (Qz) (zas zc4 (pv 1) (zah G_cost_sum (Qa) rfl T.m_cost_sum T.F_cost_sum.kp T.b_cost_sum .nil zax (Qbn)))) (pv 8)))
 (zaj (zar (zcb zmG (zas zav (zas zce (zas zav (pv 11) (Qz)) (pv 12)) (Q8)) (zas zav (zas zav (zas zav (Q8) (QaS)) (pv 8)) (Qz)) (za4 _)))))))))),
  zlC B hv bW A n60 d0 d1 q⟩
theorem zsA{p q r:Addr}{xs ws zs:List V}{g:TG}{tb:TS}{D:zk9}{σ:St}(Pv:Nat→St→Hp→Prop)(h0:Pv 0 σ H)(l1:xs.length=ws.length)(l2:xs.length=zs.length)
  (hl:∀i σ H,i≤xs.length→Pv i σ H→SqL K H p xs∧SqL K H q ws∧SqL K H r zs)
  (hs:∀i x w z t σ H,xs[i]?=some x→ws[i]?=some w→zs[i]?=some z→Pv i σ H→H t=none→g (.ref t) σ (upd H t (.tup [x,w,z])) λσ2 H2=>tb { D with nx:=Pv (i+1),ct:=Pv (i+1),bk:=D.nx } σ2 H2)
  (hd:∀σ H,Pv xs.length σ H→D.nx σ H):zpT (Itz3 K p q r) g tb D σ H:=by
 refine⟨λi m σ H=>m=xs.length - i∧i≤xs.length∧Pv i σ H,⟨_,rfl,ψu1 _,h0⟩,?_⟩
 rintro i m σ H ⟨rfl,hi,pv⟩
 obtain⟨hx,hw,hz⟩:=hl i σ H hi pv
 by_cases hlt:i<xs.length
 ·have k1:i<ws.length:=by omega
  have k2:i<zs.length:=by omega
  refine .inr ⟨⟨xs,ws,zs,xs[i],ws[i],zs[i],hx,hw,hz,by simp[hlt],by simp[k1],by simp[k2]⟩,Pv (i+1),λσ' H' p'=>⟨_,by omega,rfl,hlt,p'⟩,λx H' yl=>?_⟩
  obtain⟨t,a,b,c,rfl,ht,rfl,e1,e2,e3⟩:=yl
  exact hs i a b c t σ H (e1 xs hx) (e2 ws hw) (e3 zs hz) pv ht
 ·have e:i=xs.length:=by omega
  subst e
  exact .inl ⟨⟨xs,hx,rfl⟩,hd σ H pv⟩
def zsc:Sp:=λvs H Q _=>∃(l v pr:Addr) (bud:Int) (ts:List Addr) (bs:List Box) (W P:Rat) (Ws ns:List Int),vs=[.ref l,.int bud,.ref v,.ref pr]∧Bx6 H l ts bs∧H v=some (Qag)∧Bq 2000 W∧PpH H pr bs.length Ws P ns∧0≤bud∧bud≤60∧∀(r:Bool) (H':Hp),zaI H H'→(r=true↔okH Ws ns=true∧zqn bs bud W Ws P ns)→Q (.bl r) H'
def zeI(K:ψa):TS :=
 (zbd (QaT)
 (zbd (zll (zxz K (zab (zac 0) (zab (zac 4) (zab (zac 6) zau)))) (zdv K 3 (zaH (zam 7) (zaH (zam 8) (zaH (zam 9) zdu))))
 (zdQ (zfe (tB (zaz zm6 [] E0 (zab (zac 7) (zab (zac 8) (zab (zac 5) (zab (zac 9) zau))))))) (QC) zb1))
 (zbU (zaz zoQ [] E0 (Qax)))))
def zbJ(K:ψa):=eqT (zeI.eq_1 K)
def zdU(K:ψa):TS :=
 (zbd (zdG (zdQ (zfe (tB (zaz zpB [] E0 (zab (zac 3) (QE))))) (QC) zb1))
 (zeI K))
theorem zhX{l v pr:Addr}{bud:Int}{ts:List Addr}{bs:List Box}{W P:Rat}{Ws ns:List Int}(B:Bx6 H l ts bs)(hv:H v=some (Qag))(bW:Bq 2000 W)(A:PpH H pr bs.length Ws P ns)(d0:0≤bud)(d1:bud≤60)(q:∀(r:Bool) (H':Hp),zaI H H'→(r=true↔okH Ws ns=true∧zqn bs bud W Ws P ns)→Q (.bl r) H') :
  zdU K { nx:=λ_ H'=>Q .non H',rt:=Q } (L2.start ["boxes","budget","worth","paper","weights","price","counts","box","weight","count"] [.ref l,.int bud,.ref v,.ref pr]) H:=by
 unfold zdU
 have l6:=B.l6
 simp_all only [zbJ,zac]
 refine⟨λσ H'=>zaI H H'∧okH Ws ns=true∧σ=[some (Qa5),some (Qbt),some (.ref v),some (QcC),none,none,none,none,none,none],?_,?_⟩
 ·simp_all only [zbJ,zac]
  refine⟨pr,l,ts,bs,Ws,ns,P,rfl,B,A,λH1 s1=>⟨okH Ws ns,rfl,?_⟩⟩
  by_cases c:okH Ws ns=true
  ·rw[if_neg (by simp[c])]
   exact⟨s1,c⟩
  ·rw[if_pos (Qa4)]
   exact q false H1 s1 ⟨λz=>(QbZ),λz=>absurd z.1 c⟩
 ·rintro σ H1 ⟨s1,ok,rfl⟩
  have A1:=A.same s1
  have B1:=B.same s1
  obtain⟨wl,pp,cl,a1,a2,a3,a4⟩:=A1.ex
  have n60:∀n∈ns,n≤60:=zhe.mp (by unfold okH at ok;rw[ψL] at ok;exact ok.2)
  simp_all only [zbJ,zac]
  refine(QaK)
  simp_all only [zbJ,zac]
  refine⟨⟨_,SqL.of B1.hl⟩,⟨_,SqL.of a2⟩,⟨_,SqL.of a4⟩,?_⟩
  refine zsA (K:=K) (xs:=ts.map V.ref) (ws:=Ws.map V.int) (zs:=ns.map V.int) (λi σ H'=>zaI H1 H'∧(∀(j:Nat) b w n,j<i→bs[j]?=some b→Ws[j]?=some w→ns[j]?=some n→Mrk b w P n)∧∃y7 y8 y9,σ=[some (Qa5),some (Qbt),some (.ref v),some (QcC),some (.ref wl),some (.ref pp),some (.ref cl),y7,y8,y9]) ⟨.refl _,λj b w n hj=>absurd hj (ψG1 j),_,_,_,rfl⟩ (by rw[ψb,ψb,B.hb.1,A.lw]) (by rw[ψb,ψb,B.hb.1,A.ln]) ?_ ?_ ?_
  ·rintro i σ H' _ ⟨s,_⟩
   exact⟨SqL.of (s _ _ B1.hl),SqL.of (s _ _ a2),SqL.of (s _ _ a4)⟩
  ·rintro i x w z u σ H2 hx hw hz ⟨s2,hm,y7,y8,y9,rfl⟩ hu
   obtain⟨t,et,rfl⟩:=zat hx
   obtain⟨m,em,rfl⟩:=zat hw
   obtain⟨n,en,rfl⟩:=zat hz
   obtain⟨b,eb,hb⟩:=B1.hb.at et
   simp_all only [zbJ,zac]
   have s3:=zan hu (.tup [V.ref t,V.int m,V.int n])
   have h3:(L2.upd H2 u (.tup [V.ref t,V.int m,V.int n])) u=some (.tup [V.ref t,V.int m,V.int n]):=zai
   generalize L2.upd H2 u (.tup [V.ref t,V.int m,V.int n])=H3 at s3 h3 ⊢
   refine⟨_,SqT.of h3,rfl,_,_,rfl,_,_,rfl,_,_,rfl,rfl,?_⟩
   have s13:=s2.trans s3
   refine⟨t,pp,b,m,n,P,rfl,⟨s13 _ _ hb,B.gb b (zap eb),s13 _ _ a3,A.wb m (zap em),A.pb,(A.n0 n (zap en)).1,n60 n (zap en)⟩,λr H4 s4 hr=>⟨r,rfl,?_⟩⟩
   cases r with
   | true =>
    refine zcg (Qy) (λ_=>⟨s13.trans s4,λj b' w' n' hj e1 e2 e3=>?_⟩)
    by_cases ej:j=i
    ·subst ej
     rw[eb] at e1
     rw[em] at e2
     rw[en] at e3
     cases e1
     cases e2
     cases e3
     exact hr.mp rfl
    ·exact hm j b' w' n' (Qe) e1 e2 e3
   | false =>
    refine zcg (λ_=>q false H4 (s1.trans (s13.trans s4)) ⟨λz=>(QbZ),λz=>absurd (hr.mpr (z.2.mr i b m n eb em en)) (Qn)⟩) (QN)
  ·rintro σ H2 ⟨s2,hm,y7,y8,y9,rfl⟩
   rw[ψb,B.hb.1] at hm
   have S2:=s1.trans s2
   simp_all only [zbJ,zac]
   refine⟨l,v,pr,bud,ts,bs,W,P,Ws,ns,rfl,B.same S2,S2 _ _ hv,bW,A.same S2,n60,d0,d1,λr H3 s3 hr=>?_⟩
   exact q r H3 (S2.trans s3) ⟨λz=>⟨ok,⟨λi b w n e1 e2 e3=>hm i b w n (Qa8).1 e1 e2 e3,hr.mp z⟩⟩,λz=>hr.mpr z.2.sm⟩
theorem zbT:zaB ["boxes","budget","worth","paper","weights","price","counts","box","weight","count"] ["boxes","budget","worth","paper"] (zag zdW):=⟨rfl,rfl,rfl,by decide +kernel,rfl,by decide +kernel,by decide +kernel⟩
theorem zib(T:Txt K mg a):zcn P w K mg base CX0 5 a.f_is_hider_right a.d_is_hider_right ["boxes","budget","worth","paper"] zsc:=by
 have G_is_count_best:=ziQ (P:=P) (w:=w) (base:=base) T
 have G_is_hider_paper:=zim (P:=P) (w:=w) (base:=base) T
 have G_is_sum_low:=zlL (P:=P) (w:=w) (base:=base) T
 refine T.F_is_hider_right.ok zbT (Qj) (Qd)
 ·obtain⟨l,v,pr,bud,ts,bs,W,P',Ws,ns,rfl,B,hv,bW,A,d0,d1,q⟩:=h
  rfl
 obtain⟨l,v,pr,bud,ts,bs,W,P',Ws,ns,rfl,B,hv,bW,A,d0,d1,q⟩:=h
 exact⟨zdU K,(zaf (zbs (zbP (zbL (zbt (zah G_is_hider_paper (Qa) rfl T.m_is_hider_paper T.F_is_hider_paper.kp T.b_is_hider_paper .nil zax (zaa (pv 3) (Qap))))) (QP) zaR))
 (zaf (zcY (pv 3) (zbu rfl (zal (zak (i:=4) zbT.nd rfl (Qf)) (zal (zak (i:=5) zbT.nd rfl (Qf)) (zal (zak (i:=6) zbT.nd rfl (Qf)) za3)))))
 (zaf (zdJ PassesOwn.never rfl (zxt rfl T.z_zip (zaa (pv 0) (zaa (pv 4) (zaa (pv 6) zad)))) (zbu rfl (zal (zak (i:=7) zbT.nd rfl (Qf)) (zal (zak (i:=8) zbT.nd rfl (Qf)) (zal (zak (i:=9) zbT.nd rfl (Qf)) za3))))
 (zaj (zbP (zbL (zbt (zah G_is_count_best (Qa) rfl T.m_is_count_best T.F_is_count_best.kp T.b_is_count_best .nil zax (zaa (pv 7) (zaa (pv 8) (zaa (pv 5) (zaa (pv 9) zad))))))) (QP) zaR)))
 (zaj (zar (zah G_is_sum_low (Qa) rfl T.m_is_sum_low T.F_is_sum_low.kp T.b_is_sum_low .nil zax (QaC))))))),
  zhX B hv bW A d0 d1 q⟩
def Jdg(s h:Prop)(H:Hp)(v:V):Prop:=(s∧h∧v=.non)∨(¬ s∧∃r,v=.ref r∧H r=some (.tup [.str "seeker"]))∨(s∧¬ h∧∃r,v=.ref r∧H r=some (.tup [.str "hider"]))
def zoW:Sp:=λvs H Q _=>∃(l v ml pr:Addr) (bud:Int) (ts:List Addr) (bs:List Box) (us:List Addr) (xs:List Mp) (W P:Rat) (Ws ns:List Int),vs=[.ref l,.int bud,.ref v,.ref ml,.ref pr]∧Bx6 H l ts bs∧H v=some (Qag)∧Bq 2000 W∧MxH H ml us xs∧zjW bs.length xs∧PpH H pr bs.length Ws P ns∧0≤bud∧bud≤60∧∀(r:V) (H':Hp),zaI H H'→Jdg (okM xs=true∧zqs bs bud W (QM)) (okH Ws ns=true∧zqn bs bud W Ws P ns) H' r→Q r H'
def ze5:TS :=
 (zdQ (zfe (tB (zaz zsc [] E0 (zab (zac 0) (zab (zac 1) (zab (zac 2) (QaQ))))))) (zbU (zeG (zab (tC (.str "hider")) zau))) zb1)
def zcj:=eqT (ze5.eq_1)
def zfm:TS :=
 (zdQ (zfe (tB (zaz zo3 [] E0 (Qax)))) (zbU (zeG (zab (tC (.str "seeker")) zau))) zb1)
def zci:=eqT (zfm.eq_1)
def zeB:TS :=
 (zbd (zkj (zaz zs2 [] E0 (QE)))
 (zbd (zkj (zaz zgl [] E0 (QD)))
 (zbd (zdG (zfm))
 (zbd (zdG (ze5))
 (zbU (tC .non))))))
theorem ziJ{l v ml pr:Addr}{bud:Int}{ts:List Addr}{bs:List Box}{us:List Addr}{xs:List Mp}{W P:Rat}{Ws ns:List Int}(B:Bx6 H l ts bs)(hv:H v=some (Qag))(bW:Bq 2000 W)(M:MxH H ml us xs)(g:zjW bs.length xs)(A:PpH H pr bs.length Ws P ns)(d0:0≤bud)(d1:bud≤60)(q:∀(r:V) (H':Hp),zaI H H'→Jdg (okM xs=true∧zqs bs bud W (QM)) (okH Ws ns=true∧zqn bs bud W Ws P ns) H' r→Q r H') :
  zeB { nx:=λ_ H'=>Q .non H',rt:=Q } (L2.start ["boxes","budget","worth","mix","paper"] [.ref l,.int bud,.ref v,.ref ml,.ref pr]) H:=by
 unfold zeB
 simp_all only [zcj,zci,zac]
 refine⟨l,ts,bs,rfl,B.hl,B.hb,B.gb,B.l1,B.l6,λH1 s1=>⟨bud,rfl,d0,d1,?_⟩⟩
 refine⟨λσ H'=>zaI H1 H'∧(okM xs=true∧zqs bs bud W (QM))∧σ=[some (Qa5),some (Qbt),some (.ref v),some (QbB),some (QcC)],?_,?_⟩
 ·simp_all only [zcj,zci,zac]
  refine⟨l,v,ml,bud,ts,bs,us,xs,W,rfl,B.same s1,s1 _ _ hv,bW,M.same s1,g,d0,d1,λr H2 s2 hr=>⟨r,rfl,?_⟩⟩
  cases r with
  | true=>exact zcg (Qy) (λ_=>⟨s2,hr.mp rfl⟩)
  | false =>
   refine zcg (λ_=>(Qb6)) (QN)
   exact q _ _ ((QaD).add np) (.inr (.inl ⟨λz=>absurd (hr.mpr z) (Qn),p,rfl,zai⟩))
 ·rintro σ H2 ⟨s2,sk,rfl⟩
  have S2:=s1.trans s2
  refine⟨λσ H'=>zaI H2 H'∧(okH Ws ns=true∧zqn bs bud W Ws P ns)∧σ=[some (Qa5),some (Qbt),some (.ref v),some (QbB),some (QcC)],?_,?_⟩
  ·simp_all only [zcj,zci,zac]
   refine⟨l,v,pr,bud,ts,bs,W,P,Ws,ns,rfl,B.same S2,S2 _ _ hv,bW,A.same S2,d0,d1,λr H3 s3 hr=>⟨r,rfl,?_⟩⟩
   cases r with
   | true=>exact zcg (Qy) (λ_=>⟨s3,hr.mp rfl⟩)
   | false =>
    refine zcg (λ_=>(Qb6)) (QN)
    exact q _ _ ((S2.trans s3).add np) (.inr (.inr ⟨sk,λz=>absurd (hr.mpr z) (Qn),p,rfl,zai⟩))
  ·rintro σ H3 ⟨s3,hd,rfl⟩
   simp_all only [zcj,zci,zac]
   exact q _ H3 (S2.trans s3) (.inl ⟨sk,hd,rfl⟩)
theorem ziM:zaB ["boxes","budget","worth","mix","paper"] ["boxes","budget","worth","mix","paper"] (zag zey):=⟨rfl,rfl,rfl,by decide +kernel,rfl,by decide +kernel,by decide +kernel⟩
theorem ziE(T:Txt K mg a):zcn P w K mg base CX0 7 a.f_budget_judged a.d_budget_judged ["boxes","budget","worth","mix","paper"] zoW:=by
 have G_is_hider_right:=zib (P:=P) (w:=w) (base:=base) T
 have G_is_seeker_right:=zhx (P:=P) (w:=w) (base:=base) T
 have G_look_boxes:=zhE (P:=P) (w:=w) (base:=base) T
 have G_look_budget:=zg2 (P:=P) (w:=w) (base:=base) T
 refine T.F_budget_judged.ok ziM (Qj) (Qd)
 ·obtain⟨l,v,ml,pr,bud,ts,bs,us,xs,W,P',Ws,ns,rfl,B,hv,bW,M,g,A,d0,d1,q⟩:=h
  rfl
 obtain⟨l,v,ml,pr,bud,ts,bs,us,xs,W,P',Ws,ns,rfl,B,hv,bW,M,g,A,d0,d1,q⟩:=h
 exact⟨zeB,(zaf (zf8 (zah G_look_boxes (Qa) rfl T.m_look_boxes T.F_look_boxes.kp T.b_look_boxes .nil zax (Qap)))
 (zaf (zf8 (zah G_look_budget (Qa) rfl T.m_look_budget T.F_look_budget.kp T.b_look_budget .nil zax (QG)))
 (zaf (zbs (zbP (zbL (zbt (zah G_is_seeker_right (Qa) rfl T.m_is_seeker_right T.F_is_seeker_right.kp T.b_is_seeker_right .nil zax (QaC)))) (zaj (zar (zbE (zaa zph zad)))) zaR))
 (zaf (zbs (zbP (zbL (zbt (zah G_is_hider_right (Qa) rfl T.m_is_hider_right T.F_is_hider_right.kp T.b_is_hider_right .nil zax (zaa (pv 0) (zaa (pv 1) (zaa (pv 2) (QbL))))))) (zaj (zar (zbE (zaa zph zad)))) zaR))
 (zaj (zar zrm)))))),
  ziJ B hv bW M g A d0 d1 q⟩
def zh8:TS :=
 (zbd (zbO (tOp (QaU) (tOp (Qc) (tOp (Qv) (tOp (Qv) (tOp (Qc) (zac 0) (zac 0)) (tOp (Qc) (zac 1) (zac 0))) (tOp (Qc) (tOp (Qc) (tC (.int 7)) (zac 1)) (zac 1))) (tC (.int 1103515245))) (tC (.int 2147483629))) (zam 2))
 (zbU (tOp (QaU) (tOp (Qc) (zac 2) (zac 2)) (tC (.int 2147483587)))))
theorem znE{n k:Int}(hn:n.natAbs<2 ^ 2 ^ 20)(k0:0≤k)(k1:k≤100000)(q:∀r:Int,0≤r→r<2147483587→Q (.int r) H) :
  zh8 { nx:=λ_ H'=>Q .non H',rt:=Q } (L2.start ["_law_number","_law_k","_law_mixed"] [.int n,.int k]) H:=by
 unfold zh8
 simp_all only [zac]
 refine⟨zdg 1048576 1048576 hn hn,zwy (Qe) (Qe),zoX (Qe) (Qe),zoX (Qe) (Qe),zoX (Qn) (Qn),by decide,?_⟩
 have b3:=Int.emod_nonneg ((n*n+k*n+7*k*k)*1103515245) (show(2147483629:Int)≠0 by decide)
 have b4:=Int.emod_lt_of_pos ((n*n+k*n+7*k*k)*1103515245) (show(0:Int)<2147483629 by decide)
 generalize (n*n+k*n+7*k*k)*1103515245 % 2147483629=x at b3 b4 ⊢
 refine⟨zoX (Qe) (Qe),by decide,q _ (Int.emod_nonneg _ (Qn)) (Int.emod_lt_of_pos _ (Qn))⟩
theorem zjh:zaB ["_law_number","_law_k","_law_mixed"] ["_law_number","_law_k"] (zag zh0):=⟨rfl,rfl,rfl,by decide +kernel,rfl,by decide +kernel,by decide +kernel⟩
theorem zn1(T:Txt K mg a):zcn P w K mg base CX0 1 a.f__law_mix a.d__law_mix ["_law_number","_law_k"] zq2:=by
 refine T.F__law_mix.ok zjh (Qj) (Qd)
 ·obtain⟨n,k,rfl,hn,k0,k1,q⟩:=h
  rfl
 obtain⟨n,k,rfl,hn,k0,k1,q⟩:=h
 exact⟨zh8,(zaf (zaN (i:=2) zjh.nd rfl (Qf) (zas zmX (zas zav (zas zce (zas zce (zas zav (pv 0) (pv 0)) (zas zav (pv 1) (pv 0))) (zas zav (zas zav zae (pv 1)) (pv 1))) zae) zae))
 (zaj (zar (zas zmX (zas zav (pv 2) (pv 2)) zae)))),
  znE hn k0 k1 q⟩
def zfP(K:ψa):TS :=
 (zdQ (zb5 (tOp (QT) (zac 1) (Qas))) (zbU (tOp (zfp K) (zac 0) (zac 1))) zb1)
def zen(K:ψa):=eqT (zfP.eq_1 K)
def zeZ(K:ψa):TS :=
 (zbd (zdG (zfP K))
 (zbU (Ql)))
theorem zjJ{p:Addr}{x:Int}(hp:H p=some (.lst [.int x]))(q:Q (.int x) H) :
  zeZ K { nx:=λ_ H'=>Q .non H',rt:=Q } (L2.start ["_law_script","_law_k"] [.ref p,.int 0]) H:=by
 unfold zeZ
 simp_all only [zen,zac]
 refine⟨λ_ _=>False,?_,λ_ _ z=>z.elim⟩
 simp_all only [zen,zac]
 refine⟨_,.inl (SqL.of hp),?_⟩
 exact zcg (λ_=>⟨_,SqL.of hp,_,rfl,q⟩) (λz=>absurd (show(0:Int)<1 by decide) z)
theorem zjM:zaB ["_law_script","_law_k"] ["_law_script","_law_k"] (zag ze1):=⟨rfl,rfl,rfl,by decide +kernel,rfl,by decide +kernel,by decide +kernel⟩
theorem zjR(T:Txt K mg a):zcn P w K mg base CX0 1 a.f__law_cell_at a.d__law_cell_at ["_law_script","_law_k"] (zpy K):=by
 refine T.F__law_cell_at.ok zjM (Qj) (Qd)
 ·obtain⟨p,x,rfl,hp,q⟩:=h
  rfl
 obtain⟨p,x,rfl,hp,q⟩:=h
 exact⟨zeZ K,(zaf (zbs (zbP (zbb zjv (pv 1) (Qu) (za4 _)) (zaj (zar (zaw zbv (pv 0) (pv 1) (Qp)))) zaR))
 (zaj (zar zae))),
  zjJ hp q⟩
def zhG:TS :=
 (zbU (zhw (zab (tOp (QJ) (zac 2) (tOp (Qcm) (tC (.int 10)) (tC (.int 18)))) (zab (Qh) (zab (Ql) zau)))))
def zd1:=eqT (zhG.eq_1)
def zhT:TS :=
 (zdQ (zb5 (tOp (QT) (zac 2) (tOp (Qcm) (tC (.int 10)) (tC (.int 18))))) (zbU (zhw (zab (zac 2) (zab (Ql) (zab (Ql) zau))))) zb1)
def zdT:=eqT (zhT.eq_1)
def zhs(K:ψa):TS :=
 (zbd (zbO (zaz (zpy K) [] E0 (Q7)) (zam 2))
 (zbd (zdG (zhT))
 (zhG)))
theorem zms{p:Addr}{x:Int}(hp:H p=some (.lst [.int x]))(bx:x.natAbs<2 ^ 2 ^ 20)(q:∀(l:Addr) (H':Hp),zaI H H'→H l=none→Drw H' l 0→Q (Qa5) H') :
  zhs K { nx:=λ_ H'=>Q .non H',rt:=Q } (L2.start ["_law_script","_law_k","_law_cell"] [.ref p,.int 0]) H:=by
 unfold zhs
 simp_all only [zd1,zdT,zac]
 refine⟨p,x,rfl,hp,?_⟩
 refine⟨λσ H'=>H'=H∧1000000000000000000≤x∧σ=[some (Qb9),some (.int 0),some (.int x)],?_,?_⟩
 ·simp_all only [zd1,zdT,zac]
  refine⟨zyt,zcg (λc=>⟨by decide,λl hl=>?_⟩) (λc=>by omega)⟩
  exact q l _ (zan hl _) hl ⟨⟨x,0,zai,bx,.inl rfl⟩,by decide⟩
 ·rintro σ H1 ⟨rfl,c,rfl⟩
  simp_all only [zd1,zdT,zac]
  refine⟨zyt,by decide,λl hl=>?_⟩
  exact q l _ (zan hl _) hl ⟨⟨_,1,zai,ψA1 (Qe) bx,.inr ⟨rfl,by omega⟩⟩,by decide⟩
theorem ziy:zaB ["_law_script","_law_k","_law_cell"] ["_law_script","_law_k"] (zag zhp):=⟨rfl,rfl,rfl,by decide +kernel,rfl,by decide +kernel,by decide +kernel⟩
theorem zmp(T:Txt K mg a):zcn P w K mg base CX0 2 a.f__law_left a.d__law_left ["_law_script","_law_k"] (zvz K):=by
 have G__law_cell_at:=zjR (P:=P) (w:=w) (base:=base) T
 refine T.F__law_left.ok ziy (Qj) (Qd)
 ·obtain⟨p,x,rfl,hp,bx,q⟩:=h
  rfl
 obtain⟨p,x,rfl,hp,bx,q⟩:=h
 exact⟨zhs K,(zaf (zaN (i:=2) ziy.nd rfl (Qf) (zah G__law_cell_at (Qa) rfl T.m__law_cell_at T.F__law_cell_at.kp T.b__law_cell_at .nil zax (Qac)))
 (zaf (zbs (zbP (zbb zjv (pv 2) (zas zsr zae zae) (za4 _)) (zaj (zar (zcp (zaa (pv 2) (QbD))))) zaR))
 (zaj (zar (zcp (zaa (zas zc4 (pv 2) (zas zsr zae zae)) (QbD))))))),
  zms hp bx q⟩
theorem logM{m:Int}(h0:0<m)(h1:m≤1000000000000000000000000000000):m.natAbs.log2<9000:=zhJ 100 (Qe) (Qe)
def zhK(K:ψa):TS :=
 (zbd (zbO (tOp (QaU) (Qb7) (zac 1)) (zam 3))
 (zbd (zbO (tOp (rI (λ_ j=>0<j∧j.natAbs.log2<9000) λi j=>.int (i / j)) (Qb7) (zac 1)) (gSub (zac 0) (Ql) zvf))
 (zbU (zac 3))))
def zc7(K:ψa):=eqT (zhK.eq_1 K)
def zhO(K:ψa):TS :=
 (zdQ (zb5 (tOp rEq (tOp (zfp K) (zac 0) (Qh)) (Ql))) (zbd (zbO (zaz zq2 [] E0 (zab (Qb7) (zab (tOp (zfp K) (zac 0) (QV)) zau))) (zam 2))
 (zbU (tOp (QaU) (tOp (QaU) (tOp (Qc) (zac 2) (tOp (Qv) (zac 2) (QV))) (tC (.int 2147483579))) (zac 1)))) zb1)
def zdb(K:ψa):=eqT (zhO.eq_1 K)
def zhj(K:ψa):TS :=
 (zbd (zbO (tOp (Qv) (tOp (zfp K) (zac 0) (QV)) (Qh)) (gSub (zac 0) (QV) zvf))
 (zbd (zdG (zhO K))
 (zhK K)))
theorem zmc{p:Addr}{c m:Int}(hP:Drw H p c)(c1:c<10000)(m0:0<m)(m1:m≤1000000000000000000000000000000)
  (q:∀(r:Int) (H':Hp),0≤r→r<m→Off p p H'=Off p p H→Drw H' p (c+1)→Q (.int r) H') :
  zhj K { nx:=λ_ H'=>Q .non H',rt:=Q } (L2.start ["_law_left_here","_law_base","_law_mixed","_law_digit"] [.ref p,.int m]) H:=by
 unfold zhj
 obtain⟨n,f,hp,bn,hf⟩:=hP.hp
 have c0:=hP.c0
 simp_all only [zc7,zdb,zac]
 refine⟨_,SqL.of hp,_,rfl,_,rfl,_,hp,2,rfl,?_⟩
 simp_all only [zc7,zdb,zac]
 have hp2:(L2.upd H p (.lst [.int n,.int f,.int (c+1)])) p=some (.lst [.int n,.int f,.int (c+1)]):=zai
 have o2:Off p p (L2.upd H p (.lst [.int n,.int f,.int (c+1)]))=Off p p H:=zzF
 generalize L2.upd H p (.lst [.int n,.int f,.int (c+1)])=G at hp2 o2 ⊢
 refine⟨λσ H'=>H'=G∧f=1∧0≤n∧σ=[some (Qb9),some (.int m),none,none],?_,?_⟩
 ·simp_all only [zc7,zdb,zac]
  refine⟨_,SqL.of hp2,_,rfl,rfl,zcg (λz=>?_) (λz=>?_)⟩
  ·refine⟨_,SqL.of hp2,_,rfl,_,SqL.of hp2,_,rfl,n,c+1,rfl,bn,by omega,by omega,λx x0 x1=>?_⟩
   refine⟨x,rfl,x,rfl,zoX (Qe) (Qe),by decide,m0,?_⟩
   exact q _ _ (Int.emod_nonneg _ (Qe)) (Int.emod_lt_of_pos _ m0) o2 ⟨⟨n,f,hp2,bn,hf⟩,by omega⟩
  ·rcases hf with rfl | h
   ·exact absurd rfl z
   ·exact h
 ·rintro σ H' ⟨rfl,rfl,n0,rfl⟩
  simp_all only [zc7,zdb,zac]
  refine⟨_,SqL.of hp2,_,rfl,n,rfl,m0,_,SqL.of hp2,_,rfl,n,rfl,m0,logM m0 m1,_,hp2,0,rfl,?_⟩
  have d0:0≤n / m:=Int.ediv_nonneg n0 (Qe)
  have d1:n / m≤n:=ψK1 m n0
  exact q _ _ (Int.emod_nonneg _ (Qe)) (Int.emod_lt_of_pos _ m0) (zzF.trans o2) ⟨⟨n / m,1,zai,ψA1 (Qe) bn,.inr ⟨rfl,d0⟩⟩,by omega⟩
theorem zgn:zaB ["_law_left_here","_law_base","_law_mixed","_law_digit"] ["_law_left_here","_law_base"] (zag zhi):=⟨rfl,rfl,rfl,by decide +kernel,rfl,by decide +kernel,by decide +kernel⟩
theorem zdN(T:Txt K mg a):zcn P w K mg base CX0 2 a.f__law_draw a.d__law_draw ["_law_left_here","_law_base"] zbW:=by
 have G__law_mix:=zn1 (P:=P) (w:=w) (base:=base) T
 refine T.F__law_draw.ok zgn (Qj) (Qd)
 ·obtain⟨p,c,m,rfl,hP,c1,m0,m1,q⟩:=h
  rfl
 obtain⟨p,c,m,rfl,hP,c1,m0,m1,q⟩:=h
 exact⟨zhj K,(zaf (zcY (zas zce (QaZ) zae) (zvX (pv 0) zae zoP))
 (zaf (zbs (zbP (zbb zhd (QaZ) zae (za4 _)) (zaf (zaN (i:=2) zgn.nd rfl (Qf) (zah G__law_mix (Qa) rfl T.m__law_mix T.F__law_mix.kp T.b__law_mix .nil zax (zaa (QaZ) (zaa (QaZ) zad))))
 (zaj (zar (zas zmX (zas zmX (zas zav (pv 2) (zas zce (pv 2) zae)) zae) (pv 1))))) zaR))
 (zaf (zaN (i:=3) zgn.nd rfl (Qf) (zas zmX (QaZ) (pv 1)))
 (zaf (zcY (zas zub (QaZ) (pv 1)) (zvX (pv 0) zae zoP))
 (zaj (zar (pv 3))))))),
  zmc hP c1 m0 m1 q⟩
theorem zsC{t b:Int}(h:b≠0)(hb:Bd 8000 b):(sg t b).natAbs.log2<9000:=zhJ 8000 (zni h) (hb.le (zzd h))
def zmn:Sp:=λvs H Q _=>∃t b:Int,vs=[.int t,.int b]∧0<b∧Bd 8000 b∧∀(r:Addr) (H':Hp),zaI H H'→H' r=some (.tup (fr (ψy t b)))→Q (Q0) H'
def zgq:TS :=
 (zbU (zeG (zab (tOp (QA) (zac 0) (zac 2)) (zab (tOp (QA) (zac 1) (zac 2)) zau))))
def zeL:=eqT (zgq.eq_1)
def zfq:TS :=
 (zbd (zbO (zac 1) (zam 2))
 (zbd (zbO (tOp (Qak) (zac 0) (zac 1)) (zam 3))
 (zbd (zkw (zb5 (tOp (QZ) (zac 3) (Ql))) (tPar 2 3 (zab (zac 3) (zab (tOp (Qak) (zac 2) (zac 3)) zau))))
 (zgq))))
theorem zkg{t b:Int}(h:0<b)(hb:Bd 8000 b)(q:∀(r:Addr) (H':Hp),zaI H H'→H' r=some (.tup (fr (ψy t b)))→Q (Q0) H') :
  zfq { nx:=λ_ H'=>Q .non H',rt:=Q } (L2.start ["_law_top","_law_bottom","_law_one","_law_other"] [.int t,.int b]) H:=by
 unfold zfq
 simp_all only [zeL,zac]
 have h0:b≠0:=by omega
 have e0:sg t b=(ψU t b:Int):=by unfold sg;rw[if_neg (Qe)]
 have f0:=ψi1 t h
 have g0:ψU b (t.fmod b)=ψU t b:=by
  have e:t.fmod b=t - b*(t.fdiv b):=Int.fmod_def t b
  rw[e,Int.gcd_comm t b]
  have:t - b*t.fdiv b=t+b*(-(t.fdiv b)):=by rw[ψE1];omega
  rw[this]
  exact Int.gcd_add_mul_left_right b t _
 refine⟨h0,?_⟩
 refine zi7 (λσ H'=>H'=H∧∃u v,σ=[some (.int t),some (.int b),some (.int u),some (.int v)]∧0≤u∧0≤v∧ψU u v=ψU t b) (λσ _=>match σ with | [_,_,_,some (.int v)]=>v.toNat | _=>0) ?_ ?_ ?_
 ·exact⟨rfl,_,_,rfl,by omega,f0,g0⟩
 ·rintro σ H' ⟨rfl,u,v,rfl,hu,hv,hg⟩
  simp_all only [zeL,zac]
  refine zcg (λc=>?_) (λc=>?_)
  ·have hv':0<v:=by omega
   refine⟨by omega,hv,ψi1 u hv',?_,?_⟩
   ·rw[zmw hu hv',hg]
   ·have:=ψB1 u hv'
    omega
  ·have c':v=0:=by omega
   subst c'
   have e:u=sg t b:=by
    rw[e0,← hg,zkp u hu]
   subst e
   refine⟨zni h0,zsC h0 hb,zni h0,zsC h0 hb,by decide,λp hp=>q p _ (zan hp _) ?_⟩
   rw[fr,(ziB h0).1,(ziB h0).2]
   exact zai
 ·rintro σ H1 Q1 Q2 hQ ⟨v,hv,k,hk,h,h1,b,hb,h2⟩
  exact⟨v,hv,k,hk,h,h1,b,hb,hQ _ _ h2⟩
theorem zdH:zaB ["_law_top","_law_bottom","_law_one","_law_other"] ["_law_top","_law_bottom"] (zag zfr):=⟨rfl,rfl,rfl,by decide +kernel,rfl,by decide +kernel,by decide +kernel⟩
theorem ze2(T:Txt K mg a):zcn P w K mg base CX0 1 a.f__law_lowest a.d__law_lowest ["_law_top","_law_bottom"] zmn:=by
 refine T.F__law_lowest.ok zdH (Qj) (Qd)
 ·obtain⟨t,b,rfl,h,hb,q⟩:=h
  rfl
 obtain⟨t,b,rfl,h,hb,q⟩:=h
 exact⟨zfq,(zaf (zaN (i:=2) zdH.nd rfl (Qf) (pv 1))
 (zaf (zaN (i:=3) zdH.nd rfl (Qf) (zas zii (pv 0) (pv 1)))
 (zaf (zi6 PassesOwn.never (zbb zjD (pv 3) zae (za4 _)) (zaj (zvN (i:=2) (j:=3) rfl zdH.nd rfl rfl (Qn) rfl rfl (zaa (pv 3) (zaa (zas zii (pv 2) (pv 3)) zad)) rfl)))
 (zaj (zar (zbE (zaa (zas zdF (pv 0) (pv 2)) (zaa (zas zdF (pv 1) (pv 2)) zad)))))))),
  zkg h hb q⟩
def zmh:Sp:=λvs H Q _=>∃(p:Addr) (b:Box) (n:Int),vs=[.ref p,.int n]∧H p=some (Qbg)∧GB b∧0≤n∧n≤60∧∀(r:Addr) (H':Hp),zaI H H'→H' r=some (Qao)→Q (Q0) H'
def zhQ(K:ψa):TS :=
 (zbd (zbO (tOp (Qc) (zac 2) (tOp (QJ) (Qau) (QB))) (zam 2))
 (zbO (tOp (Qc) (zac 3) (Qau)) (zam 3)))
def zdX(K:ψa):=eqT (zhQ.eq_1 K)
def zhl(K:ψa):TS :=
 (zbd (zbO (Qh) (zam 2))
 (zbd (zbO (Qh) (zam 3))
 (zbd (zll (zke (QD)) (zam 4)
 (zhQ K))
 (zbU (zeG (zab (zac 2) (QO)))))))
theorem zmD{p:Addr}{b:Box}{n:Int}(hp:H p=some (Qbg))(g:GB b)(n0:0≤n)(n1:n≤60)(q:∀(r:Addr) (H':Hp),zaI H H'→H' r=some (Qao)→Q (Q0) H') :
  zhl K { nx:=λ_ H'=>Q .non H',rt:=Q } (L2.start ["_law_box","_law_many","_law_top","_law_bottom","_law_turn"] [.ref p,.int n]) H:=by
 unfold zhl
 obtain⟨g1,g2,g3,g4,g5⟩:=g
 have hP:=SqT.of (K:=K) hp
 simp_all only [zdX,zac]
 refine(Qb5)
 refine zgH (λi σ H'=>H'=H∧∃k,σ=[some (Qb9),some (.int n),some (.int ((b.2.2 - b.2.1) ^ i)),some (.int (b.2.2 ^ i)),k]) ⟨rfl,none,by rw[Int.pow_zero,Int.pow_zero]⟩ ?_ ?_
 ·rintro i σ H' hi ⟨rfl,k,rfl⟩
  simp_all only [zdX,zac]
  refine⟨_,hP,_,rfl,_,hP,_,rfl,_,rfl,_,rfl,zoX (Qe) (Qe),_,hP,_,rfl,_,rfl,zoX (Qe) (Qe),?_⟩
  rw[Int.pow_succ,Int.pow_succ]
  exact⟨rfl,rfl⟩
 ·rintro σ H' ⟨rfl,k,rfl⟩
  simp_all only [zdX,zac]
  exact⟨by decide,λr hr=>q r _ (zan hr _) zai⟩
theorem zdf:zaB ["_law_box","_law_many","_law_top","_law_bottom","_law_turn"] ["_law_box","_law_many"] (zag zhf):=⟨rfl,rfl,rfl,by decide +kernel,rfl,by decide +kernel,by decide +kernel⟩
theorem zf7(T:Txt K mg a):zcn P w K mg base CX0 1 a.f__law_miss a.d__law_miss ["_law_box","_law_many"] zmh:=by
 refine T.F__law_miss.ok zdf (Qj) (Qd)
 ·obtain⟨p,b,n,rfl,hp,g,n0,n1,q⟩:=h
  rfl
 obtain⟨p,b,n,rfl,hp,g,n0,n1,q⟩:=h
 exact⟨zhl K,(zaf (zaN (i:=2) zdf.nd rfl (Qf) zae)
 (zaf (zaN (i:=3) zdf.nd rfl (Qf) zae)
 (zaf (zdJ PassesOwn.never rfl (zdO rfl T.z_range (QG)) (zak (i:=4) zdf.nd rfl (Qf))
 (zaf (zaN (i:=2) zdf.nd rfl (Qf) (zas zav (pv 2) (zas zc4 (Qg) (Qg))))
 (zaj (zaN (i:=3) zdf.nd rfl (Qf) (zas zav (pv 3) (Qg))))))
 (zaj (zar (zbE (zaa (pv 2) (QU)))))))),
  zmD hp g n0 n1 q⟩
def zoI:Sp:=λvs H Q _=>∃(x y:Addr) (m1 m2:Nat) (s t u v:Int),vs=[.ref x,.ref y]∧H x=some (Qb2)∧H y=some (.tup [.int u,.int v])∧0<t∧0<v∧Bd 30000 s∧Bd m1 t∧Bd 30000 u∧Bd m2 v∧m1+m2≤8000∧∀(r:Addr) (H':Hp),zaI H H'→H' r=some (.tup (fr (ψy s t+ψy u v)))→Q (Q0) H'
def zhc(K:ψa):TS :=
 (zbU (zaz zmn [] E0 (zab (tOp (Qv) (QbQ) (QaF)) (QbP))))
theorem zmq{x y:Addr}{m1 m2:Nat}{s t u v:Int}(hx:H x=some (Qb2))(hy:H y=some (.tup [.int u,.int v]))(t0:0<t)(v0:0<v)(bs:Bd 30000 s)(bt:Bd m1 t)(bu:Bd 30000 u)(bv:Bd m2 v)(hm:m1+m2≤8000)(q:∀(r:Addr) (H':Hp),zaI H H'→H' r=some (.tup (fr (ψy s t+ψy u v)))→Q (Q0) H') :
  zhc K { nx:=λ_ H'=>Q .non H',rt:=Q } (L2.start ["_law_one","_law_other"] [.ref x,.ref y]) H:=by
 unfold zhc
 simp_all only [zac]
 rw[Rat.divInt_add_divInt s u (Qe) (Qe)] at q
 have hx:=SqT.of (K:=K) hx
 have hy:=SqT.of (K:=K) hy
 exact⟨_,hx,_,rfl,_,hy,_,rfl,_,rfl,_,rfl,zdg 30000 m2 bs bv (Qe),_,hy,_,rfl,_,hx,_,rfl,_,rfl,_,rfl,zdg 30000 m1 bu bt (Qe),_,hx,_,rfl,_,hy,_,rfl,_,rfl,_,rfl,zdg m1 m2 bt bv (Qe),_,_,rfl,ψv1 t0 v0,(bt.mul bv).mono hm,q⟩
theorem zmd:zaB ["_law_one","_law_other"] ["_law_one","_law_other"] (zag zht):=⟨rfl,rfl,rfl,by decide +kernel,rfl,by decide +kernel,by decide +kernel⟩
theorem ziD(T:Txt K mg a):zcn P w K mg base CX0 2 a.f__law_plus a.d__law_plus ["_law_one","_law_other"] zoI:=by
 have G__law_lowest:=ze2 (P:=P) (w:=w) (base:=base) T
 refine T.F__law_plus.ok zmd (Qj) (Qd)
 ·obtain⟨x,y,m1,m2,s,t,u,v,rfl,hx,hy,t0,v0,bs,bt,bu,bv,hm,q⟩:=h
  rfl
 obtain⟨x,y,m1,m2,s,t,u,v,rfl,hx,hy,t0,v0,bs,bt,bu,bv,hm,q⟩:=h
 exact⟨zhc K,(zaj (zar (zah G__law_lowest (Qa) rfl T.m__law_lowest T.F__law_lowest.kp T.b__law_lowest .nil zax (zaa (zas zce (QaA) (Qcp)) (zaa (QaA) zad))))),
  zmq hx hy t0 v0 bs bt bu bv hm q⟩
def znu:Sp:=λvs H Q _=>∃(x y:Addr) (s t u v:Int),vs=[.ref x,.ref y]∧H x=some (Qb2)∧H y=some (.tup [.int u,.int v])∧Bd 30000 s∧Bd 30000 t∧Bd 30000 u∧Bd 30000 v∧Q (.bl (decide (s*v<u*t))) H
def zhq(K:ψa):TS :=
 (zbU (tOp (QT) (QbQ) (QaF)))
theorem zmN{x y:Addr}{s t u v:Int}(hx:H x=some (Qb2))(hy:H y=some (.tup [.int u,.int v]))(bs:Bd 30000 s)(bt:Bd 30000 t)(bu:Bd 30000 u)(bv:Bd 30000 v)(q:Q (.bl (decide (s*v<u*t))) H) :
  zhq K { nx:=λ_ H'=>Q .non H',rt:=Q } (L2.start ["_law_one","_law_other"] [.ref x,.ref y]) H:=by
 unfold zhq
 simp_all only [zac]
 have hx:=SqT.of (K:=K) hx
 have hy:=SqT.of (K:=K) hy
 exact⟨_,hx,_,rfl,_,hy,_,rfl,_,rfl,_,rfl,zdg 30000 30000 bs bv,_,hy,_,rfl,_,hx,_,rfl,_,rfl,_,rfl,zdg 30000 30000 bu bt,q⟩
theorem zmH:zaB ["_law_one","_law_other"] ["_law_one","_law_other"] (zag zhk):=⟨rfl,rfl,rfl,by decide +kernel,rfl,by decide +kernel,by decide +kernel⟩
theorem zix(T:Txt K mg a):zcn P w K mg base CX0 1 a.f__law_less a.d__law_less ["_law_one","_law_other"] znu:=by
 refine T.F__law_less.ok zmH (Qj) (Qd)
 ·obtain⟨x,y,s,t,u,v,rfl,hx,hy,bs,bt,bu,bv,q⟩:=h
  rfl
 obtain⟨x,y,s,t,u,v,rfl,hx,hy,bs,bt,bu,bv,q⟩:=h
 exact⟨zhq K,(zaj (zar (zcb zjv (QaA) (Qcp) (za4 _)))),
  zmN hx hy bs bt bu bv q⟩
theorem zvS{s t u v:Int}(t0:0<t)(v0:0<v):s*v<u*t↔ψy s t<ψy u v:=by
 have tR:(0:Rat)<(t:Rat):=by exact_mod_cast t0
 have vR:(0:Rat)<(v:Rat):=by exact_mod_cast v0
 have tn:(t:Rat)≠0:=by grind
 have vn:(v:Rat)≠0:=by grind
 rw[← Rat.intCast_lt_intCast,ψj,ψj,ψn,ψn]
 have D:=ψw1 tR vR
 have e1:(s:Rat) / (t:Rat)*((t:Rat)*(v:Rat))=(s:Rat)*(v:Rat):=by
  generalize (t:Rat)=x at tn ⊢
  grind
 have e2:(u:Rat) / (v:Rat)*((t:Rat)*(v:Rat))=(u:Rat)*(t:Rat):=by
  generalize (v:Rat)=x at vn ⊢
  grind
 rw[← e1,← e2]
 constructor
 ·intro z
  refine ψE λc=>?_
  have:=ψA (Rat.not_lt.mp c) (ψC D)
  grind
 ·exact λz=>ψQ1 z D
def zgu:Sp:=λvs H Q _=>∃x:Int,vs=[.int x]∧Q (Qb0) H
def zgm(K:ψa):TS :=
 (zbU (zfE (tCB (ziw K) (zab (zac 0) (zab (tC (.ty "int")) zau))) (ztp (tCB (ziw K) (zab (zac 0) (zab (tC (.ty "bool")) zau))))))
theorem zly{x:Int}(q:Q (Qb0) H):zgm K { nx:=λ_ H'=>Q .non H',rt:=Q } (L2.start ["_law_thing"] [.int x]) H:=by
 unfold zgm
 simp_all only [zac]
 refine zjq ⟨_,rfl,zqt ?_⟩
 exact ziC ⟨_,rfl,q⟩
theorem zlV:zaB ["_law_thing"] ["_law_thing"] (zag zgg):=⟨rfl,rfl,rfl,by decide +kernel,rfl,by decide +kernel,by decide +kernel⟩
theorem zec(T:Txt K mg a):zcn P w K mg base CX0 1 a.f__law_whole a.d__law_whole ["_law_thing"] zgu:=by
 refine T.F__law_whole.ok zlV (Qj) (Qd)
 ·obtain⟨x,rfl,q⟩:=h
  rfl
 obtain⟨x,rfl,q⟩:=h
 exact⟨zgm K,(zaj (zar (zdR (zao zaT rfl T.z_isinstance ψi (zaa (pv 0) (zaa (zbZ rfl T.z_int zoV rfl) zad))) (zfi (zsQ (zao zaT rfl T.z_isinstance ψi (zaa (pv 0) (zaa (zbZ rfl T.z_bool zmS rfl) zad)))))))),
  zly q⟩
def zn0:Sp:=λvs H Q _=>∃(p:Addr) (P:Rat),vs=[.ref p]∧H p=some (Qbq)∧∀H',zaI H H'→Q (Qb0) H'
def zfg(K:ψa):TS :=
 (zbU (zfE (tOp (QZ) (QB) (Ql)) (tOp (rIn K false) (zac 1) (zeG (QaP)))))
def zcl(K:ψa):=eqT (zfg.eq_1 K)
def zfd(K:ψa):TS :=
 (zbd (zbO (zac 0) (zdv K 2 (zaH (zam 1) (zaH (zam 2) zdu))))
 (zbd (zkw (zb5 (tOp (QZ) (zac 2) (Ql))) (tPar 1 2 (zab (zac 2) (zab (tOp (Qak) (zac 1) (zac 2)) zau))))
 (zfg K)))
def zcm(K:ψa):=eqT (zfd.eq_1 K)
def zfj(K:ψa):TS :=
 (zdQ (tOr (zfe (QW)) (tOr (zb5 (tOp rNe (Qas) (QV))) (tOr (zfe (tB (zaz zgu [] E0 (zab (QK) zau)))) (zfe (tB (zaz zgu [] E0 (zab (QB) zau))))))) (QC) zb1)
def zck(K:ψa):=eqT (zfj.eq_1 K)
def zeu(K:ψa):TS :=
 (zbd (zdG (zfj K))
 (zfd K))
theorem ziH{p:Addr}{P:Rat}(hp:H p=some (Qbq))(q:∀H',zaI H H'→Q (Qb0) H') :
  zeu K { nx:=λ_ H'=>Q .non H',rt:=Q } (L2.start ["_law_thing","_law_one","_law_other"] [.ref p]) H:=by
 unfold zeu
 have d:=zb4 P
 have hP:=SqT.of (K:=K) hp
 simp_all only [zcl,zcm,zck,zac]
 refine⟨λσ H'=>H'=H∧σ=[some (Qb9),none,none],?_,?_⟩
 ·simp_all only [zcl,zcm,zck,zac]
  refine zcK hp (Qat)
  refine zcg (Qy) (QaM)
  refine⟨_,.inr hP,?_⟩
  refine zcg (QN) (QaM)
  refine⟨_,hP,_,rfl,P.num,rfl,true,rfl,?_⟩
  refine zcg (Qy) (QaM)
  refine⟨_,hP,_,rfl,(P.den:Int),rfl,true,rfl,?_⟩
  exact zcg (Qy) (Qcc)
 ·rintro σ H' ⟨e,rfl⟩
  rw[e]
  simp_all only [zcl,zcm,zck,zac]
  refine⟨_,hP,rfl,_,_,rfl,_,_,rfl,rfl,?_⟩
  refine zi7 (λσ H'=>H'=H∧∃u v,σ=[some (Qb9),some (.int u),some (.int v)]∧0≤v∧ψU u v=1) (λσ _=>match σ with | [_,_,some (.int v)]=>v.toNat | _=>0) ⟨rfl,_,_,rfl,by omega,zvK P⟩ ?_ ?_
  ·rintro σ H' ⟨rfl,u,v,rfl,hv,hg⟩
   simp_all only [zcl,zcm,zck,zac]
   refine zcg (λc=>?_) (λc=>?_)
   ·have hv':0<v:=by omega
    refine⟨by omega,ψi1 u hv',?_,?_⟩
    ·have e:u.fmod v=u+v*(-(u.fdiv v)):=by
      have:=ψm1 u v
      rw[ψE1]
      omega
     rw[e,Int.gcd_add_mul_left_right,Int.gcd_comm]
     exact hg
    ·have:=ψB1 u hv'
     omega
   ·have c':v=0:=by omega
    subst c'
    rw[Int.gcd_zero_right] at hg
    refine⟨_,hP,_,rfl,_,rfl,?_⟩
    rw[if_pos d]
    refine(Qbc)
    refine⟨_,.inr (SqT.of zai),rfl,rfl,?_⟩
    have:inV (V.int u) [V.int 1,V.int (-1)]=true:=by
     have:u=1∨u=-1:=by omega
     rcases this with rfl | rfl <;> decide
    rw[this]
    exact q _ (zan nr _)
  ·rintro σ H1 Q1 Q2 hQ ⟨v,hv,k,hk,h,h1,b,hb,h2⟩
   exact⟨v,hv,k,hk,h,h1,b,hb,hQ _ _ h2⟩
theorem zda:zaB ["_law_thing","_law_one","_law_other"] ["_law_thing"] (zag zer):=⟨rfl,rfl,rfl,by decide +kernel,rfl,by decide +kernel,by decide +kernel⟩
theorem zfO(T:Txt K mg a):zcn P w K mg base CX0 2 a.f__law_fraction a.d__law_fraction ["_law_thing"] zn0:=by
 have G__law_whole:=zec (P:=P) (w:=w) (base:=base) T
 refine T.F__law_fraction.ok zda (Qj) (Qd)
 ·obtain⟨p,P',rfl,hp,q⟩:=h
  rfl
 obtain⟨p,P',rfl,hp,q⟩:=h
 exact⟨zeu K,(zaf (zbs (zbP (PW.pt (zdl (zbL (Qs)) (zdl (zbb ziK (Qu) zae (za4 _)) (zdl (zbL (zbt (zah G__law_whole (Qa) rfl T.m__law_whole T.F__law_whole.kp T.b__law_whole .nil zax (zaa (Qg) zad)))) (zc5 (zbL (zbt (zah G__law_whole (Qa) rfl T.m__law_whole T.F__law_whole.kp T.b__law_whole .nil zax (zaa (Qg) zad))))))))) (QP) zaR))
 (zaf (zcY (pv 0) (zbu rfl (zal (zak (i:=1) zda.nd rfl (Qf)) (zal (zak (i:=2) zda.nd rfl (Qf)) za3))))
 (zaf (zi6 PassesOwn.never (zbb zjD (pv 2) zae (za4 _)) (zaj (zvN (i:=1) (j:=2) rfl zda.nd rfl rfl (Qn) rfl rfl (zaa (pv 2) (zaa (zas zii (pv 1) (pv 2)) zad)) rfl)))
 (zaj (zar (zdR (zcb zjD (Qg) zae (za4 _)) (zfi (zcb zm5 (pv 1) (zbE (Qbw)) (by with_unfolding_all rfl))))))))),
  ziH hp q⟩
def znM:Sp:=λvs H Q _=>∃(l pl:Addr) (ts:List Addr) (bs:List Box) (ms:List Int),vs=[.ref l,.ref pl]∧Bx6 H l ts bs∧H pl=some (Qca)∧ms.length=bs.length∧(∀m∈ms,0≤m)∧∀H',zaI H H'→Q (.bl (okP ms)) H'
def zhR(K:ψa):TS :=
 (zbU (tOp rEq (tCB (Qb) (zab (zb3 (zcz K (zac 1)) (zam 0) (tOr (zfe (tB (zaz zgu [] E0 (QE)))) (tOr (zb5 (tOp (QT) (zac 0) (Ql))) (zb5 (tOp (QZ) (zac 0) (tC (.int 60)))))) (zac 0) [none]) zau)) (Ql)))
def zc8(K:ψa):=eqT (zhR.eq_1 K)
def zhI(K:ψa):TS :=
 (zdQ (tOr (zfe (tB (tCB (ziw K) (zab (zac 1) (zab (tC (.ty "list")) zau))))) (zb5 (tOp rNe (tCB (Qb) (QD)) (Qas)))) (QC) zb1)
def zc9(K:ψa):=eqT (zhI.eq_1 K)
def zhv(K:ψa):TS :=
 (zbd (zdG (zhI K))
 (zhR K))
theorem zmg{l pl:Addr}{ts:List Addr}{bs:List Box}{ms:List Int}(B:Bx6 H l ts bs)(hp:H pl=some (Qca))(len:ms.length=bs.length)(m0:∀m∈ms,0≤m)(q:∀H',zaI H H'→Q (.bl (okP ms)) H') :
  zhv K { nx:=λ_ H'=>Q .non H',rt:=Q } (L2.start ["_law_boxes_here","_law_thing"] [.ref l,.ref pl]) H:=by
 unfold zhv
 have l6:=B.l6
 simp_all only [zc8,zc9,zac]
 refine⟨λσ H'=>H'=H∧σ=[some (Qa5),some (.ref pl)],?_,?_⟩
 ·simp_all only [zc8,zc9,zac]
  refine zcI hp (Qat)
  refine zcg (Qy) (QaM)
  refine⟨_,.inl (SqL.of hp),_,.inl (SqL.of B.hl),?_⟩
  rw[ψb,ψb,B.hb.1,len]
  exact zcg (QN) (Qcc)
 ·rintro σ H' ⟨e,rfl⟩
  rw[e]
  simp_all only [zc8,zc9,zac]
  refine⟨⟨_,SqL.of hp⟩,λD hD=>?_⟩
  refine zcT (K:=K) (xs:=ms.map V.int) (λi ys σ H'=>zaI H H'∧ys.length≤i∧(ys=[]↔∀m∈ms.take i,m≤60)∧∃z,σ=[z]) ⟨zan hD _,by simp,by simp,_,rfl⟩ ?_ ?_ ?_
  ·rintro i ys σ H' _ ⟨s,_⟩
   exact SqL.of (s _ _ hp)
  ·rintro i x ys σ H' hx hD' ⟨s,ly,hy,z,rfl⟩
   obtain⟨m,hm,rfl⟩:=zat hx
   have h0:=m0 m (zap hm)
   have li:=(List.getElem?_eq_some_iff.mp hm).1
   simp_all only [zc8,zc9,zac]
   refine⟨m,rfl,true,rfl,?_⟩
   refine zcg (Qy) (QaM)
   refine zcg (Qbu) (QaM)
   have tk:ms.take (i+1)=ms.take i++[m]:=by rw[ψx,hm];rfl
   refine zcg (λc=>?_) (λc=>?_)
   ·refine⟨_,hD',zbF (Qe),_,zai,s.put hD,by rw[ψV];exact Nat.succ_le_succ ly,?_⟩
    rw[tk]
    constructor
    ·intro z
     simp at z
    ·intro z
     have:=z m (ψB _ (Qby))
     omega
   ·refine⟨_,hD',s,by omega,?_⟩
    rw[hy,tk]
    constructor
    ·intro z y hy'
     rcases List.mem_append.mp hy' with h | h
     ·exact z y h
     ·rw[List.mem_singleton.mp h]
      omega
    ·intro z y hy'
     exact z y (ψU1 _ hy')
  ·rintro ys σ H' hD' ⟨s,ly,hy,z,rfl⟩
   rw[ψb,ψH] at hy
   refine⟨D,rfl,_,.inl (SqL.of hD'),?_⟩
   have e:decide ((ys.length:Int)=0)=okP ms:=by
    rw[ψR1,decide_eq_true_iff,zhe,← hy]
    exact⟨λz=>List.length_eq_zero_iff.mp (Qe),λz=>by rw[z];rfl⟩
   rw[e]
   exact q _ s
theorem zl6:zaB ["_law_boxes_here","_law_thing"] ["_law_boxes_here","_law_thing"] (zag zfw):=⟨rfl,rfl,rfl,by decide +kernel,rfl,by decide +kernel,by decide +kernel⟩
theorem ziu(T:Txt K mg a):zcn P w K mg base CX0 2 a.f__law_plan a.d__law_plan ["_law_boxes_here","_law_thing"] znM:=by
 have G__law_whole:=zec (P:=P) (w:=w) (base:=base) T
 refine T.F__law_plan.ok zl6 (Qj) (Qd)
 ·obtain⟨l,pl,ts,bs,ms,rfl,B,hp,len,m0,q⟩:=h
  rfl
 obtain⟨l,pl,ts,bs,ms,rfl,B,hp,len,m0,q⟩:=h
 exact⟨zhv K,(zaf (zbs (zbP (PW.pt (zdl (zbL (zbt (zao zaT rfl T.z_isinstance ψi (zaa (pv 1) (Qcb))))) (zc5 (zbb ziK (zao zaA rfl T.z_len ψr (QG)) (Qu) (za4 _))))) (QP) zaR))
 (zaj (zar (zcb zhd (zao zaA rfl T.z_len ψr (zaa (zbi (sc:=zag zfw) (N:=["_law_boxes_here","_law_thing"]) (Nc:=["_law_one"]) (cap:=[none]) rfl rfl rfl (Qi) (zbl (pv 1)) (λ_ _ _ _=>(zak (i:=0) (show ψh (["_law_one"]:List Str) from by decide) rfl (Qf))) (λ_ _ _ _=>(znG (PW.pt (zdl (zbL (zbt (zah G__law_whole (Qa) rfl T.m__law_whole T.F__law_whole.kp T.b__law_whole .nil zax (Qap)))) (zdl (zbb zjv (pv 0) zae (za4 _)) (zc5 (zbb zjD (pv 0) zae (za4 _)))))))) (λ_ _ _ _=>(pv 0))) zad)) zae (za4 _))))),
  zmg B hp len m0 q⟩
theorem zlc:∀(bs:List Box) (ms:List Int),(Qav)→(∀m∈ms,0≤m∧m≤100)→0≤(zaF bs ms).sum∧(zaF bs ms).sum≤6000*(bs.length:Int)
 | [],_,_,_=>by simp[zaF]
 | _::_,[],_,_=>by simp[zaF];omega
 | b::bs,m::ms,gb,h=>by
  obtain⟨z1,z2⟩:=zlc bs ms (QaL) (λx hx=>h x (Qbr))
  obtain⟨g1,g2,_⟩:=gb b ψf
  obtain⟨m0,m1⟩:=h m ψf
  have a1:0≤b.1*m:=ψY1 (Qe) m0
  have a2:b.1*m≤60*100:=Int.mul_le_mul g2 m1 m0 (Qn)
  have e:(zaF (b::bs) (m::ms)).sum=b.1*m+(zaF bs ms).sum:=rfl
  rw[e,ψM]
  omega
def znx:Sp:=λvs H Q _=>∃(l pl:Addr) (ts:List Addr) (bs:List Box) (ms:List Int),vs=[.ref l,.ref pl]∧Bx6 H l ts bs∧H pl=some (Qca)∧ms.length=bs.length∧(∀m∈ms,0≤m∧m≤100)∧∀H',zaI H H'→Q (.int (zaF bs ms).sum) H'
def zfU(K:ψa):TS :=
 (zbU (tCB (zmO K) (zab (zb3 (Qb3) (zam 0) za5 (tOp (Qc) (tOp (zbC K) (tOp (zfp K) (zac 2) (zac 0)) (Ql)) (tOp (zfp K) (zac 1) (zac 0))) [none,some 1,some 0]) zau)))
theorem zlh{l pl:Addr}{ts:List Addr}{bs:List Box}{ms:List Int}(B:Bx6 H l ts bs)(hp:H pl=some (Qca))(len:ms.length=bs.length)(m0:∀m∈ms,0≤m∧m≤100)(q:∀H',zaI H H'→Q (.int (zaF bs ms).sum) H') :
  zfU K { nx:=λ_ H'=>Q .non H',rt:=Q } (L2.start ["_law_boxes_here","_law_plan_here"] [.ref l,.ref pl]) H:=by
 unfold zfU
 simp_all only [zac]
 have l6:=B.l6
 refine⟨_,.inl (SqL.of B.hl),?_⟩
 rw[ψb,B.hb.1]
 refine(Qci)
 refine zfA (λi ys σ H'=>zaI H H'∧ys=((zaF bs ms).take i).map V.int∧∃z,σ=[z,some (.ref pl),some (Qa5)]) ⟨zan hD _,rfl,_,rfl⟩ ?_ ?_
 ·rintro i ys σ H' hi hD' ⟨s,rfl,z,rfl⟩
  have hi':i<bs.length:=by omega
  obtain⟨t,b,et,eb,ea,hb,gb⟩:=(B.same s).ix hi'
  have em:ms[i]?=some (ms[i]'(by rw[len];exact hi')):=ψc _
  obtain⟨m0,m1⟩:=m0 _ (zap em)
  simp_all only [zac]
  have z0:(0:Int)+(i:Int)=(i:Int):=Int.zero_add _
  rw[z0]
  refine⟨_,SqL.of (s _ _ B.hl),_,ea,_,rfl,_,SqT.of hb,_,rfl,_,SqL.of (s _ _ hp),_,zdj (by rw[ψt,em];rfl),_,rfl,_,rfl,zoX (Qe) (Qe),_,hD',zbF (by rw[ψb,ψG];omega),_,zai,s.put hD,?_⟩
  rw[zaF,zhD _ _ _ eb em,ψO]
  rfl
 ·rintro ys σ H' hD' ⟨s,rfl,z,rfl⟩
  simp_all only [zac]
  refine⟨_,SqL.of hD',?_⟩
  rw[ψQ (by rw[zaF,ψo];omega)]
  exact q _ s
theorem zk8:zaB ["_law_boxes_here","_law_plan_here"] ["_law_boxes_here","_law_plan_here"] (zag zeP):=⟨rfl,rfl,rfl,by decide +kernel,rfl,by decide +kernel,by decide +kernel⟩
theorem zhH(T:Txt K mg a):zcn P w K mg base CX0 1 a.f__law_price a.d__law_price ["_law_boxes_here","_law_plan_here"] znx:=by
 refine T.F__law_price.ok zk8 (Qj) (Qd)
 ·obtain⟨l,pl,ts,bs,ms,rfl,B,hp,len,m0,q⟩:=h
  rfl
 obtain⟨l,pl,ts,bs,ms,rfl,B,hp,len,m0,q⟩:=h
 exact⟨zfU K,(zaj (zar (zao (zcr rfl) rfl T.z_sum ψI (zaa (zbi (sc:=zag zeP) (N:=["_law_boxes_here","_law_plan_here"]) (Nc:=["_law_k","_law_plan_here","_law_boxes_here"]) (cap:=[none,some 1,some 0]) rfl rfl rfl (Qi) (Qa6) (λ_ _ _ _=>(zak (i:=0) (show ψh (["_law_k","_law_plan_here","_law_boxes_here"]:List Str) from by decide) rfl (Qf))) (QF) (λ_ _ _ _=>(zas zav (zaw zaq (zaw zbv (pv 2) (pv 0) (Qp)) zae (Qp)) (zaw zbv (pv 1) (pv 0) (Qp))))) zad)))),
  zlh B hp len m0 q⟩
def tm(b:Box)(W:Int)(k:Nat)(x:Mp):Rat:=ψy (x.2.2*(b.2.2 ^ (x.2.1.getD k 0).toNat - (b.2.2 - b.2.1) ^ (x.2.1.getD k 0).toNat)) (b.2.2 ^ (x.2.1.getD k 0).toNat*W)
theorem zx8{b:Box}(g:GB b){W:Int}(W0:0<W)(k:Nat)(x:Mp):tm b W k x=(x.2.2:Rat)*chq b (x.2.1.getD k 0) / (W:Rat):=by
 unfold tm chq
 have o:=zdn g (x.2.1.getD k 0)
 rw[ψn,ψn,ψj (b.2.2 ^ (x.2.1.getD k 0).toNat) W,ψj]
 have on:((b.2.2 ^ (x.2.1.getD k 0).toNat:Int):Rat)≠0:=λz=>by
  have:(b.2.2 ^ (x.2.1.getD k 0).toNat:Int)=0:=by exact_mod_cast z
  omega
 have wn:(W:Rat)≠0:=λz=>by
  have:W=0:=by exact_mod_cast z
  omega
 generalize ((b.2.2 ^ (x.2.1.getD k 0).toNat - (b.2.2 - b.2.1) ^ (x.2.1.getD k 0).toNat:Int):Rat)=A
 generalize ((b.2.2 ^ (x.2.1.getD k 0).toNat:Int):Rat)=C at on ⊢
 generalize (W:Rat)=D at wn ⊢
 grind
theorem zvG{b:Box}(g:GB b){W:Int}(W0:0<W)(k:Nat):∀xs:List Mp,(xs.map (tm b W k)).sum=csm b k (xs.map λx=>x.2) / (W:Rat)
 | []=>by
  show(0:Rat)=0 / (W:Rat)
  grind
 | x::xs=>by
  show tm b W k x+(xs.map (tm b W k)).sum=((x.2.2:Rat)*chq b (x.2.1.getD k 0)+csm b k (QM)) / (W:Rat)
  rw[zvG g W0 k xs,zx8 g W0]
  grind
theorem zso{b:Box}(g:GB b){W:Int}(W0:0<W)(k:Nat):∀xs:List Mp,(∀x∈xs,0≤x.2.1.getD k 0∧x.2.1.getD k 0≤60∧Bd 1900 x.2.2)→∃p:Int,(xs.map (tm b W k)).sum=ψy p (b.2.2 ^ 60*W)∧Bd (2702+xs.length) p
 | [],_=>⟨0,by rw[Rat.zero_divInt];rfl,by show(0:Nat)<2 ^ _;exact Nat.pow_pos (Qn)⟩
 | x::xs,h=>by
  obtain⟨p,ep,bp⟩:=zso g W0 k xs λy hy=>h y (ψd _ hy)
  obtain⟨n0,n1,bw⟩:=h x ψf
  have t6:=zvJ g n0 n1 x.2.2
  have o:=zdn g (x.2.1.getD k 0)
  have o1:1≤b.2.2:=by have:=g.2.2.1;have:=g.2.2.2.1;omega
  have o60:0<b.2.2 ^ 60:=zgz o1 60
  have b60:Bd 400 (b.2.2 ^ 60):=zeO (Qe) g.2.2.2.2 (Qn)
  have bo:=zgL g n1
  have bt:Bd 400 ((b.2.2 - b.2.1) ^ (x.2.1.getD k 0).toNat):=by
   obtain⟨g1,g2,g3,g4,g5⟩:=g
   exact zeO (Qe) (Qe) (Qe)
  have qd:((b.2.2 ^ 60).fdiv (b.2.2 ^ (x.2.1.getD k 0).toNat)).natAbs≤(b.2.2 ^ 60).natAbs:=by
   rw[ψZ _ (ψD o)]
   have h1:=ψK1 (b.2.2 ^ (x.2.1.getD k 0).toNat) (ψD o60)
   have h2:=Int.ediv_nonneg (b:=b.2.2 ^ (x.2.1.getD k 0).toNat) (ψD o60) (ψD o)
   omega
  have bb:=(bw.mul (bo.sub bt)).mul (b60.le qd)
  generalize x.2.2*(b.2.2 ^ (x.2.1.getD k 0).toNat - (b.2.2 - b.2.1) ^ (x.2.1.getD k 0).toNat)*(b.2.2 ^ 60).fdiv (b.2.2 ^ (x.2.1.getD k 0).toNat)=r at t6 bb
  refine⟨p+r,?_,?_⟩
  ·rw[ψu,ψk,ep,zx8 g W0,ψn,ψn,ψN,t6,ψj]
   have wn:(W:Rat)≠0:=λz=>by
    have:W=0:=by exact_mod_cast z
    omega
   have on:((b.2.2 ^ 60:Int):Rat)≠0:=λz=>by
    have:(b.2.2 ^ 60:Int)=0:=by exact_mod_cast z
    omega
   generalize ((b.2.2 ^ 60:Int):Rat)=A at on ⊢
   generalize (W:Rat)=D at wn ⊢
   grind
  ·rw[ψM]
   exact(bp.add (bb.mono (Qe))).mono (Qe)
theorem zqS{n:Nat}{xs:List Mp}(g:zjW n xs):0<wsm (QM)∧Bd 1909 (wsm (QM)):=by
 obtain⟨x1,x9,gx⟩:=g
 rw[zmC]
 have hw:∀w∈xs.map λx=>x.2.2,0<w:=λw hw=>by
  obtain⟨x,hx,rfl⟩:=List.mem_map.mp hw
  have:=(gx x hx).2.2.1
  omega
 obtain⟨x0,hx0⟩:∃x,x∈xs:=⟨xs[0]'(by omega),ψs1 _⟩
 have h1:=(zpa (w:=x0.2.2) _ hw).2 (List.mem_map.mpr ⟨x0,hx0,rfl⟩)
 have h2:=(gx x0 hx0).2.2.1
 refine⟨by omega,(zkn _ λw hw=>?_).mono (show 1900+(xs.map λx=>x.2.2).length≤1909 by rw[ψb];omega)⟩
 obtain⟨x,hx,rfl⟩:=List.mem_map.mp hw
 exact(gx x hx).2.2.2
def zm9:Sp:=λvs H Q _=>∃(l ml:Addr) (ts:List Addr) (bs:List Box) (us:List Addr) (xs:List Mp) (k:Nat) (b:Box),vs=[.ref l,.ref ml,.int k]∧Bx6 H l ts bs∧MxH H ml us xs∧zjW bs.length xs∧okM xs=true∧bs[k]?=some b∧∀(r:Addr) (C:Rat) (H':Hp),zaI H H'→H' r=some (.tup (fr C))→Bq 2800 C→C=csm b k (xs.map λx=>x.2) / (wsm (xs.map λx=>x.2):Rat)→Q (Q0) H'
def zf4(K:ψa):TS :=
 (zbd (zbO (zaz zmh [] E0 (zab (tOp (zfp K) (zac 0) (zac 2)) (zab (tOp (zfp K) (zac 5) (zac 2)) zau))) (zdv K 2 (zaH (zam 7) (zaH (zam 8) zdu))))
 (zbO (zaz zoI [] E0 (zab (zac 3) (zab (zeG (zab (tOp (Qc) (zac 6) (tOp (QJ) (zac 8) (zac 7))) (zab (tOp (Qc) (zac 8) (zac 4)) zau))) zau))) (zam 3)))
def zbB(K:ψa):=eqT (zf4.eq_1 K)
def zfB(K:ψa):TS :=
 (zbd (zbO (zeG (zab (Ql) (Qcw))) (zam 3))
 (zbd (zbO (tCB (zmO K) (zab (zb3 (zcz K (zac 1)) (Qk) za5 (zac 1) [none,none]) zau)) (zam 4))
 (zbd (zll (zcz K (zac 1)) (zdv K 2 (zaH (zam 5) (zaH (zam 6) zdu)))
 (zf4 K))
 (zbU (zac 3)))))
theorem zj4{l ml:Addr}{ts:List Addr}{bs:List Box}{us:List Addr}{xs:List Mp}{k:Nat}{b:Box}(B:Bx6 H l ts bs)(M:MxH H ml us xs)(g:zjW bs.length xs)(ok:okM xs=true)(hk:bs[k]?=some b)(q:∀(r:Addr) (C:Rat) (H':Hp),zaI H H'→H' r=some (.tup (fr C))→Bq 2800 C→C=csm b k (xs.map λx=>x.2) / (wsm (xs.map λx=>x.2):Rat)→Q (Q0) H') :
  zfB K { nx:=λ_ H'=>Q .non H',rt:=Q } (L2.start ["_law_boxes_here","_law_mix_here","_law_k","_law_total","_law_whole_here","_law_plan_here","_law_weight","_law_top","_law_bottom"] [.ref l,.ref ml,.int k]) H:=by
 unfold zfB
 obtain⟨W0,bW⟩:=zqS g
 obtain⟨x1,x9,gx⟩:=g
 have kl:=(Qbz).1
 have gbk:=B.gb b (zap hk)
 have o1:1≤b.2.2:=by have:=gbk.2.2.1;have:=gbk.2.2.2.1;omega
 have o60:0<b.2.2 ^ 60:=zgz o1 60
 have b60:Bd 400 (b.2.2 ^ 60):=zeO (Qe) gbk.2.2.2.2 (Qn)
 have en:∀x∈xs,∃m,x.2.1[k]?=some m∧x.2.1.getD k 0=m∧0≤m∧m≤60:=λx hx=>by
  have em:x.2.1[k]?=some (x.2.1[k]'(by rw[(gx x hx).1];exact kl)):=ψc _
  exact⟨_,em,by rw[ψv,em];rfl,((gx x hx).2.1 _ (zap em)).1,zhe.mp (List.all_eq_true.mp ok x hx) _ (zap em)⟩
 generalize hWW:wsm (xs.map λx=>x.2)=WW at W0 bW q
 have bqs:∀i:Nat,Bq 2712 ((xs.take i).map (tm b WW k)).sum:=λi=>by
  obtain⟨p,ep,bp⟩:=zso gbk W0 k (xs.take i) λx hx=>by
   obtain⟨m,_,e,m0,m1⟩:=en x (ψb1 hx)
   rw[e]
   exact⟨m0,m1,(gx x (ψb1 hx)).2.2.2⟩
  rw[ep]
  refine zb8 (ψS (Qe) (Qe)) (bp.mono ?_) ((b60.mul bW).mono (Qn))
  rw[ψG]
  omega
 simp_all only [zbB,zac]
 refine⟨by decide,λr0 n0=>?_⟩
 have s0:=zan n0 (.tup [.int 0,.int 1])
 have h0:(L2.upd H r0 (.tup [.int 0,.int 1])) r0=some (.tup [.int 0,.int 1]):=zai
 generalize L2.upd H r0 (.tup [.int 0,.int 1])=H0 at s0 h0 ⊢
 have M0:=M.same s0
 refine⟨⟨_,SqL.of M0.hm⟩,λD hD=>?_⟩
 refine zdz (g1:=mt1) (g2:=mt2) (vs:=(Qcr).map V.int) M0.hm M0.tp (Qby) (by simp;omega) hD (Qbl) λH1 s1 h1=>?_
 ·obtain⟨w,hw,rfl⟩:=zat hv
  obtain⟨y,hy,rfl⟩:=zat hw
  rw[hx] at hy
  cases hy
  simp_all only [zbB,zac]
  exact kk _ (QbA)
 simp_all only [zbB,zac]
 refine⟨_,SqL.of h1,?_⟩
 rw[← zmC,hWW]
 have M1:=M0.same s1
 refine⟨⟨_,SqL.of M1.hm⟩,?_⟩
 refine zc3 (K:=K) (xs:=us.map V.ref) (λi σ H'=>zaI H1 H'∧∃(r:Addr) (y5 y6 y7 y8:Option V),H' r=some (.tup (fr (((xs.take i).map (tm b WW k)).sum)))∧σ=[some (Qa5),some (QbB),some (.int k),some (Q0),some (.int WW),y5,y6,y7,y8]) ⟨.refl _,r0,_,_,_,_,s1 _ _ h0,rfl⟩ ?_ ?_ ?_
 ·rintro i σ H' _ ⟨s,_⟩
  exact SqL.of (s _ _ M1.hm)
 ·rintro i v σ H2 hx ⟨s2,r,y5,y6,y7,y8,hr,rfl⟩
  obtain⟨u,eu,rfl⟩:=zat hx
  obtain⟨x,ex,hu⟩:=M1.tp.at eu
  obtain⟨a1,a2,a3,a4⟩:=gx x (zap ex)
  have S2:=s0.trans (QaD)
  obtain⟨t,b',et,eb,ea,hb,gb⟩:=(B.same S2).ix kl
  rw[hk] at eb
  cases eb
  obtain⟨m,em,eg,m0,m1⟩:=en x (zap ex)
  have bo:=zgL gb m1
  have o:=zdn gb m
  have bt:Bd 400 ((b.2.2 - b.2.1) ^ m.toNat):=by
   obtain⟨g1,g2,g3,g4,g5⟩:=gb
   exact zeO (Qe) (Qe) (Qe)
  have hpl:=S2 _ _ (M.pl x (zap ex))
  simp_all only [zbB,zac]
  refine⟨_,SqT.of (s2 _ _ hu),rfl,_,_,rfl,_,_,rfl,rfl,?_⟩
  simp_all only [zbB,zac]
  refine⟨_,SqL.of (S2 _ _ B.hl),_,ea,_,SqL.of hpl,_,zdj (by rw[ψt,em];rfl),t,b,_,rfl,hb,gb,m0,m1,λz H3 s3 h3=>?_⟩
  simp_all only [zbB,zac]
  refine⟨_,SqT.of h3,rfl,_,_,rfl,_,_,rfl,rfl,?_⟩
  simp_all only [zbB,zac]
  refine⟨zdg 1900 401 a4 (bo.sub bt),zdg 400 1909 bo bW,by decide,λy ny=>?_⟩
  have s4:=zan ny (.tup [V.int (x.2.2*(b.2.2 ^ m.toNat - (b.2.2 - b.2.1) ^ m.toNat)),V.int (b.2.2 ^ m.toNat*WW)])
  have h4:(L2.upd H3 y (.tup [V.int (x.2.2*(b.2.2 ^ m.toNat - (b.2.2 - b.2.1) ^ m.toNat)),V.int (b.2.2 ^ m.toNat*WW)])) y=some (.tup [V.int (x.2.2*(b.2.2 ^ m.toNat - (b.2.2 - b.2.1) ^ m.toNat)),V.int (b.2.2 ^ m.toNat*WW)]):=zai
  generalize L2.upd H3 y (.tup [V.int (x.2.2*(b.2.2 ^ m.toNat - (b.2.2 - b.2.1) ^ m.toNat)),V.int (b.2.2 ^ m.toNat*WW)])=H4 at s4 h4 ⊢
  refine⟨r,y,2712,2309,_,_,_,_,rfl,s4 _ _ (s3 _ _ hr),h4,zb4 _,ψv1 o W0,(bqs i).top.mono (Qn),(bqs i).bot,(a4.mul (bo.sub bt)).mono (Qn),bo.mul bW,by decide,λr' H5 s5 h5=>?_⟩
  rw[ψz] at h5
  have e:((xs.take (i+1)).map (tm b WW k)).sum=((xs.take i).map (tm b WW k)).sum+ψy (x.2.2*(b.2.2 ^ m.toNat - (b.2.2 - b.2.1) ^ m.toNat)) (b.2.2 ^ m.toNat*WW):=by
   rw[ψx,ex,ψO,List.sum_append]
   show _+(tm b WW k x+0)=_
   rw[Rat.add_zero,tm,eg]
  exact⟨s2.trans (s3.trans (s4.trans s5)),r',by rw[e];exact h5,rfl⟩
 ·rintro σ H2 ⟨s2,r,y5,y6,y7,y8,hr,rfl⟩
  have bb:=bqs xs.length
  rw[ψH] at bb
  rw[ψb,M.tp.1,ψH] at hr
  simp_all only [zbB,zac]
  exact q r _ H2 (s0.trans (QaD)) hr (bb.mono (Qn)) (zvG gbk W0 k xs)
theorem zb7:zaB ["_law_boxes_here","_law_mix_here","_law_k","_law_total","_law_whole_here","_law_plan_here","_law_weight","_law_top","_law_bottom"] ["_law_boxes_here","_law_mix_here","_law_k"] (zag zeg):=⟨rfl,rfl,rfl,by decide +kernel,rfl,by decide +kernel,by decide +kernel⟩
theorem zkk(T:Txt K mg a):zcn P w K mg base CX0 3 a.f__law_chance a.d__law_chance ["_law_boxes_here","_law_mix_here","_law_k"] zm9:=by
 have G__law_miss:=zf7 (P:=P) (w:=w) (base:=base) T
 have G__law_plus:=ziD (P:=P) (w:=w) (base:=base) T
 refine T.F__law_chance.ok zb7 (Qj) (Qd)
 ·obtain⟨l,ml,ts,bs,us,xs,k,b,rfl,B,M,g,ok,hk,q⟩:=h
  rfl
 obtain⟨l,ml,ts,bs,us,xs,k,b,rfl,B,M,g,ok,hk,q⟩:=h
 exact⟨zfB K,(zaf (zaN (i:=3) zb7.nd rfl (Qf) (zbE (QbD)))
 (zaf (zaN (i:=4) zb7.nd rfl (Qf) (zao (zcr rfl) rfl T.z_sum ψI (zaa (zbi (sc:=zag zeg) (N:=["_law_boxes_here","_law_mix_here","_law_k","_law_total","_law_whole_here","_law_plan_here","_law_weight","_law_top","_law_bottom"]) (Nc:=["_law_plan_here","_law_weight"]) (cap:=[none,none]) rfl rfl rfl (Qi) (zbl (pv 1)) (QH) (QF) (λ_ _ _ _=>(pv 1))) zad)))
 (zaf (zdJ PassesOwn.never rfl (zbl (pv 1)) (zbu rfl (zal (zak (i:=5) zb7.nd rfl (Qf)) (zal (zak (i:=6) zb7.nd rfl (Qf)) za3)))
 (zaf (zcY (zah G__law_miss (Qa) rfl T.m__law_miss T.F__law_miss.kp T.b__law_miss .nil zax (zaa (zaw zbv (pv 0) (pv 2) (Qp)) (zaa (zaw zbv (pv 5) (pv 2) (Qp)) zad))) (zbu rfl (zal (zak (i:=7) zb7.nd rfl (Qf)) (zal (zak (i:=8) zb7.nd rfl (Qf)) za3))))
 (zaj (zaN (i:=3) zb7.nd rfl (Qf) (zah G__law_plus (Qa) rfl T.m__law_plus T.F__law_plus.kp T.b__law_plus .nil zax (zaa (pv 3) (zaa (zbE (zaa (zas zav (pv 6) (zas zc4 (pv 8) (pv 7))) (zaa (zas zav (pv 8) (pv 4)) zad))) zad)))))))
 (zaj (zar (pv 3)))))),
  zj4 B M g ok hk q⟩
def zr3:Sp:=λvs H Q _=>∃(l ml:Addr) (ts:List Addr) (bs:List Box) (us:List Addr) (xs:List Mp) (bud:Int),vs=[.ref l,.int bud,.ref ml]∧Bx6 H l ts bs∧MxH H ml us xs∧zjW bs.length xs∧0≤bud∧bud≤60∧∀(r:Bool) (H':Hp),zaI H H'→(r=true↔okM xs=true∧psm bs (xs.map λx=>x.2)≤bud*wsm (QM))→Q (.bl r) H'
def zgR(K:ψa):TS :=
 (zdQ (tOr (zfe (tB (zaz zgu [] E0 (zab (tOp (zbC K) (zac 3) (Qh)) zau)))) (zb5 (tOp (QT) (tOp (zbC K) (zac 3) (Qh)) (Qh)))) (QC) zb1)
def za8(K:ψa):=eqT (zgR.eq_1 K)
def zgW(K:ψa):TS :=
 (zdQ (tOr (zfe (tB (tCB (ziw K) (zab (zac 3) (zab (tC (.ty "tuple")) zau))))) (tOr (zb5 (tOp rNe (tCB (Qb) (QO)) (QV))) (zfe (tB (zaz znM [] E0 (zab (zac 0) (zab (Qb8) zau))))))) (QC) zb1)
def za7(K:ψa):=eqT (zgW.eq_1 K)
def zgX(K:ψa):TS :=
 (zbd (zbO (tCB (zmO K) (zab (zb3 (zcz K (zac 2)) (Qk) za5 (zac 1) [none,none]) zau)) (zam 4))
 (zbU (tOp (Qaf) (tCB (zmO K) (zab (zb3 (zcz K (zac 2)) (Qk) za5 (tOp (Qc) (zac 1) (zaz znx [] E0 (zab (zac 2) (QE)))) [none,none,some 0]) zau)) (tOp (Qc) (zac 1) (zac 4)))))
def za9(K:ψa):=eqT (zgX.eq_1 K)
def zgN(K:ψa):TS :=
 (zdQ (tOr (zfe (tB (tCB (ziw K) (zab (zac 2) (zab (tC (.ty "list")) zau))))) (zb5 (tOp rEq (tCB (Qb) (Qan)) (Ql)))) (QC) zb1)
def zba(K:ψa):=eqT (zgN.eq_1 K)
def zga(K:ψa):TS :=
 (zbd (zdG (zgN K))
 (zbd (zll (zcz K (zac 2)) (zam 3)
 (zbd (zdG (zgW K))
 (zgR K)))
 (zgX K)))
theorem zkJ{l ml:Addr}{ts:List Addr}{bs:List Box}{us:List Addr}{xs:List Mp}{bud:Int}(B:Bx6 H l ts bs)(M:MxH H ml us xs)(g:zjW bs.length xs)(d0:0≤bud)(d1:bud≤60)(q:∀(r:Bool) (H':Hp),zaI H H'→(r=true↔okM xs=true∧psm bs (xs.map λx=>x.2)≤bud*wsm (QM))→Q (.bl r) H') :
  zga K { nx:=λ_ H'=>Q .non H',rt:=Q } (L2.start ["_law_boxes_here","_law_budget","_law_mix_here","_law_part","_law_whole_here"] [.ref l,.int bud,.ref ml]) H:=by
 unfold zga
 obtain⟨x1,x9,gx⟩:=g
 simp_all only [za8,za7,za9,zba,zac]
 refine⟨λσ H'=>H'=H∧σ=[some (Qa5),some (Qbt),some (QbB),none,none],?_,?_⟩
 ·simp_all only [za8,za7,za9,zba,zac]
  refine zcI M.hm (Qat)
  refine zcg (Qy) (QaM)
  refine⟨_,.inl (SqL.of M.hm),?_⟩
  rw[ψb,M.tp.1]
  exact zcg (Qbu) (Qcc)
 ·rintro σ H' ⟨e,rfl⟩
  rw[e]
  simp_all only [za8,za7,za9,zba,zac]
  refine⟨⟨_,SqL.of M.hm⟩,?_⟩
  refine zc3 (K:=K) (xs:=us.map V.ref) (λi σ H'=>zaI H H'∧(∀x∈xs.take i,okP x.2.1=true)∧∃y,σ=[some (Qa5),some (Qbt),some (QbB),y,none]) ⟨.refl _,by simp,_,rfl⟩ ?_ ?_ ?_
  ·rintro i σ H' _ ⟨s,_⟩
   exact SqL.of (s _ _ M.hm)
  ·rintro i v σ H1 hx ⟨s1,hok,y,rfl⟩
   obtain⟨u,eu,rfl⟩:=zat hx
   obtain⟨x,ex,hu⟩:=M.tp.at eu
   have hu1:=s1 _ _ hu
   obtain⟨a1,a2,a3,a4⟩:=gx x (zap ex)
   simp_all only [za8,za7,za9,zba,zac]
   refine⟨λσ H'=>zaI H1 H'∧okP x.2.1=true∧σ=[some (Qa5),some (Qbt),some (QbB),some (.ref u),none],?_,?_⟩
   ·simp_all only [za8,za7,za9,zba,zac]
    refine zcK hu1 (Qat)
    refine zcg (Qy) (QaM)
    refine⟨_,.inr (SqT.of hu1),?_⟩
    refine zcg (QN) (QaM)
    refine⟨_,SqT.of hu1,_,rfl,l,x.1,ts,bs,x.2.1,rfl,B.same s1,s1 _ _ (M.pl x (zap ex)),a1,λm hm=>(a2 m hm).1,λH2 s2=>⟨okP x.2.1,rfl,?_⟩⟩
    by_cases c:okP x.2.1=true
    ·rw[if_neg (by simp[c])]
     exact⟨s2,c⟩
    ·rw[if_pos (Qa4)]
     exact q false H2 (QaD) ⟨λz=>(QbZ),λz=>absurd (List.all_eq_true.mp z.1 x (zap ex)) c⟩
   ·rintro σ H2 ⟨s2,hx2,rfl⟩
    have hu2:=s2 _ _ hu1
    simp_all only [za8,za7,za9,zba,zac]
    refine⟨_,SqT.of hu2,_,rfl,x.2.2,rfl,true,rfl,?_⟩
    refine zcg (Qy) (QaM)
    refine⟨_,SqT.of hu2,_,rfl,x.2.2,rfl,?_⟩
    refine zcg (Qbu) (λ_=>⟨s1.trans s2,λy hy=>?_⟩)
    rw[ψx,ex] at hy
    rcases List.mem_append.mp hy with z | z
    ·exact hok y z
    ·have:y=x:=by simpa using z
     rw[this]
     exact hx2
  ·rintro σ H1 ⟨s1,hok,y,rfl⟩
   rw[ψb,M.tp.1,ψH] at hok
   have ok:okM xs=true:=List.all_eq_true.mpr hok
   have M1:=M.same s1
   simp_all only [za8,za7,za9,zba,zac]
   refine⟨⟨_,SqL.of M1.hm⟩,λD hD=>?_⟩
   refine zdz (g1:=mt1) (g2:=mt2) (vs:=(Qcr).map V.int) M1.hm M1.tp (Qby) (by simp;omega) hD (Qbl) λH2 s2 h2=>?_
   ·obtain⟨w,hw,rfl⟩:=zat hv
    obtain⟨y,hy,rfl⟩:=zat hw
    rw[hx] at hy
    cases hy
    simp_all only [za8,za7,za9,zba,zac]
    exact kk _ (QbA)
   simp_all only [za8,za7,za9,zba,zac]
   refine⟨_,SqL.of h2,?_⟩
   have M2:=M1.same s2
   have B2:=B.same (QaD)
   refine⟨⟨_,SqL.of M2.hm⟩,λD2 hD2=>?_⟩
   refine zdz (g1:=mt1) (g2:=mt2) (vs:=(xs.map λx=>x.2.2*(zaF bs x.2.1).sum).map V.int) M2.hm M2.tp (Qby) (by simp;omega) hD2 (Qbl) λH3 s3 h3=>?_
   ·obtain⟨w,hw,rfl⟩:=zat hv
    obtain⟨y,hy,rfl⟩:=zat hw
    rw[hx] at hy
    cases hy
    obtain⟨a1,a2,a3,a4⟩:=gx x (zap hx)
    have l6:=B.l6
    obtain⟨z1,z2⟩:=zlc bs x.2.1 B.gb a2
    simp_all only [za8,za7,za9,zba,zac]
    refine⟨l,x.1,ts,bs,x.2.1,rfl,B2.same s,s _ _ (M2.pl x (zap hx)),a1,a2,λH4 s4=>?_⟩
    simp_all only [za8,za7,za9,zba,zac]
    exact⟨zoX (Qe) (Qe),kk _ s4⟩
   simp_all only [za8,za7,za9,zba,zac]
   refine⟨_,SqL.of h3,zwy (Qe) (Qe),?_⟩
   rw[← zvw,← zmC]
   refine q _ H3 (s1.trans (Qcs)) ?_
   rw[decide_eq_true_iff]
   exact⟨λz=>⟨ok,z⟩,λz=>z.2⟩
theorem zfF:zaB ["_law_boxes_here","_law_budget","_law_mix_here","_law_part","_law_whole_here"] ["_law_boxes_here","_law_budget","_law_mix_here"] (zag zdP):=⟨rfl,rfl,rfl,by decide +kernel,rfl,by decide +kernel,by decide +kernel⟩
theorem zlv(T:Txt K mg a):zcn P w K mg base CX0 3 a.f__law_keeps a.d__law_keeps ["_law_boxes_here","_law_budget","_law_mix_here"] zr3:=by
 have G__law_plan:=ziu (P:=P) (w:=w) (base:=base) T
 have G__law_price:=zhH (P:=P) (w:=w) (base:=base) T
 have G__law_whole:=zec (P:=P) (w:=w) (base:=base) T
 refine T.F__law_keeps.ok zfF (Qj) (Qd)
 ·obtain⟨l,ml,ts,bs,us,xs,bud,rfl,B,M,g,d0,d1,q⟩:=h
  rfl
 obtain⟨l,ml,ts,bs,us,xs,bud,rfl,B,M,g,d0,d1,q⟩:=h
 exact⟨zga K,(zaf (zbs (zbP (PW.pt (zdl (zbL (zbt (zao zaT rfl T.z_isinstance ψi (zaa (pv 2) (Qcb))))) (zc5 (zbb zhd (zao zaA rfl T.z_len ψr (Qaw)) zae (za4 _))))) (QP) zaR))
 (zaf (zdJ PassesOwn.never rfl (zbl (pv 2)) (zak (i:=3) zfF.nd rfl (Qf))
 (zaf (zbs (zbP (PW.pt (zdl (zbL (zbt (zao zaT rfl T.z_isinstance ψi (zaa (pv 3) (zaa (zbZ rfl T.z_tuple zbS rfl) zad))))) (zdl (zbb ziK (Qbj) zae (za4 _)) (zc5 (zbL (zbt (zah G__law_plan (Qa) rfl T.m__law_plan T.F__law_plan.kp T.b__law_plan .nil zax (zaa (pv 0) (zaa (Qa0) zad))))))))) (QP) zaR))
 (zaj (zbP (PW.pt (zdl (zbL (zbt (zah G__law_whole (Qa) rfl T.m__law_whole T.F__law_whole.kp T.b__law_whole .nil zax (zaa (Qa0) zad)))) (zc5 (zbb zjv (Qa0) zae (za4 _))))) (QP) zaR))))
 (zaf (zaN (i:=4) zfF.nd rfl (Qf) (zao (zcr rfl) rfl T.z_sum ψI (zaa (zbi (sc:=zag zdP) (N:=["_law_boxes_here","_law_budget","_law_mix_here","_law_part","_law_whole_here"]) (Nc:=["_law_plan_here","_law_weight"]) (cap:=[none,none]) rfl rfl rfl (Qi) (zbl (pv 2)) (QH) (QF) (λ_ _ _ _=>(pv 1))) zad)))
 (zaj (zar (zcb zmG (zao (zcr rfl) rfl T.z_sum ψI (zaa (zbi (sc:=zag zdP) (N:=["_law_boxes_here","_law_budget","_law_mix_here","_law_part","_law_whole_here"]) (Nc:=["_law_plan_here","_law_weight","_law_boxes_here"]) (cap:=[none,none,some 0]) rfl rfl rfl (Qi) (zbl (pv 2)) (λ_ _ _ _=>(zbu rfl (zal (zak (i:=0) (show ψh (["_law_plan_here","_law_weight","_law_boxes_here"]:List Str) from by decide) rfl (Qf)) (zal (zak (i:=1) (show ψh (["_law_plan_here","_law_weight","_law_boxes_here"]:List Str) from by decide) rfl (Qf)) za3)))) (QF) (λ_ _ _ _=>(zas zav (pv 1) (zah G__law_price (Qa) rfl T.m__law_price T.F__law_price.kp T.b__law_price .nil zax (zaa (pv 2) (Qap)))))) zad)) (zas zav (pv 1) (pv 4)) (za4 _))))))),
  zkJ B M g d0 d1 q⟩
def zlH:Sp:=λvs H Q _=>∃(l v ml:Addr) (bud:Int) (ts:List Addr) (bs:List Box) (us:List Addr) (xs:List Mp) (W:Rat),vs=[.ref l,.int bud,.ref v,.ref ml]∧Bx6 H l ts bs∧H v=some (Qag)∧Bq 2000 W∧MxH H ml us xs∧zjW bs.length xs∧0≤bud∧bud≤60∧∀(r:Bool) (H':Hp),zaI H H'→(r=true↔okM xs=true∧zqs bs bud W (QM))→Q (.bl r) H'
def zhb(K:ψa):TS :=
 (zbU (tOp rEq (tCB (Qb) (zab (zb3 (Qb3) (zam 0) (tB (zaz znu [] E0 (zab (zaz zm9 [] E0 (zab (zac 2) (zab (zac 3) (QE)))) (QD)))) (zac 0) [none,some 2,some 0,some 3]) zau)) (Ql)))
def zco(K:ψa):=eqT (zhb.eq_1 K)
def zfV(K:ψa):TS :=
 (zbd (zdG (zdQ (zfe (tB (zaz zr3 [] E0 (zab (zac 0) (zab (zac 1) (QO)))))) (QC) zb1))
 (zhb K))
theorem zlZ{l v ml:Addr}{bud:Int}{ts:List Addr}{bs:List Box}{us:List Addr}{xs:List Mp}{W:Rat}(B:Bx6 H l ts bs)(hv:H v=some (Qag))(bW:Bq 2000 W)(M:MxH H ml us xs)(g:zjW bs.length xs)(d0:0≤bud)(d1:bud≤60)(q:∀(r:Bool) (H':Hp),zaI H H'→(r=true↔okM xs=true∧zqs bs bud W (QM))→Q (.bl r) H') :
  zfV K { nx:=λ_ H'=>Q .non H',rt:=Q } (L2.start ["_law_boxes_here","_law_budget","_law_worth","_law_mix_here"] [.ref l,.int bud,.ref v,.ref ml]) H:=by
 unfold zfV
 have l6:=B.l6
 obtain⟨W0,_⟩:=zqS g
 simp_all only [zco,zac]
 refine⟨λσ H'=>zaI H H'∧(okM xs=true∧psm bs (xs.map λx=>x.2)≤bud*wsm (QM))∧σ=[some (Qa5),some (Qbt),some (.ref v),some (QbB)],?_,?_⟩
 ·simp_all only [zco,zac]
  refine⟨l,ml,ts,bs,us,xs,bud,rfl,B,M,g,d0,d1,λr H1 s1 hr=>⟨r,rfl,?_⟩⟩
  cases r with
  | true=>exact zcg (Qy) (λ_=>⟨s1,hr.mp rfl⟩)
  | false=>exact zcg (λ_=>q false H1 s1 ⟨λz=>(QbZ),λz=>absurd (hr.mpr ⟨z.1,z.2.co⟩) (Qn)⟩) (QN)
 ·rintro σ H1 ⟨s1,⟨ok,co⟩,rfl⟩
  have B1:=B.same s1
  simp_all only [zco,zac]
  refine⟨_,.inl (SqL.of B1.hl),?_⟩
  rw[ψb,B.hb.1]
  refine(Qci)
  have en:(bs.length:Int).toNat=bs.length:=Int.toNat_natCast _
  rw[en]
  refine zfA (λi ys σ H'=>zaI H1 H'∧ys.length≤i∧(ys=[]↔∀(k:Nat) b,k<i→bs[k]?=some b→W*(wsm (xs.map λx=>x.2):Rat)≤csm b k (QM))∧∃z,σ=[z,some (.ref v),some (Qa5),some (QbB)]) ⟨zan hD _,by simp,⟨λ_ k b hk=>absurd hk (ψG1 k),λ_=>rfl⟩,_,rfl⟩ ?_ ?_
  ·rintro i ys σ H2 hi hD2 ⟨s2,ly,hy,z,rfl⟩
   have eb:bs[i]?=some (bs[i]'hi):=ψc hi
   have S2:=s1.trans s2
   simp_all only [zco,zac]
   rw[Int.zero_add]
   refine⟨l,ml,ts,bs,us,xs,i,_,rfl,B.same S2,M.same S2,g,ok,eb,λc C H3 s3 h3 bC eC=>?_⟩
   have S3:=S2.trans s3
   refine⟨c,v,C.num,(C.den:Int),W.num,(W.den:Int),rfl,h3,S3 _ _ hv,bC.top.mono (Qn),bC.bot.mono (Qn),bW.top.mono (Qn),bW.bot.mono (Qn),?_⟩
   have WR:(0:Rat)<(wsm (xs.map λx=>x.2):Rat):=by exact_mod_cast W0
   have wn:(wsm (xs.map λx=>x.2):Rat)≠0:=by grind
   have cmp:C.num*(W.den:Int)<W.num*(C.den:Int)↔¬ W*(wsm (xs.map λx=>x.2):Rat)≤csm (bs[i]'hi) i (xs.map λx=>x.2):=by
    rw[zvS (zb4 C) (zb4 W),ψz,ψz]
    have e1:csm (bs[i]'hi) i (xs.map λx=>x.2)=C*(wsm (xs.map λx=>x.2):Rat):=by
     rw[eC]
     generalize (wsm (xs.map λx=>x.2):Rat)=x at wn ⊢
     grind
    rw[e1]
    constructor
    ·intro z z2
     exact absurd (ψy1 z2 WR) (Rat.not_le.mpr z)
    ·intro z
     refine ψE λc=>z ?_
     exact ψA (Rat.not_lt.mp c) (ψC WR)
   refine⟨_,rfl,?_⟩
   have hD3:=s3 _ _ hD2
   by_cases cc:C.num*(W.den:Int)<W.num*(C.den:Int)
   ·rw[if_pos (decide_eq_true cc)]
    refine⟨_,hD3,zbF (Qe),_,zai,(Qcs).put hD,by rw[ψV];exact Nat.succ_le_succ ly,?_⟩
    constructor
    ·intro z
     simp at z
    ·intro z
     exact absurd (z i _ (ψJ1 i) eb) (cmp.mp cc)
   ·rw[if_neg (by simpa using cc)]
    refine⟨_,hD3,s2.trans s3,by omega,?_⟩
    rw[hy]
    have hi2:W*(wsm (xs.map λx=>x.2):Rat)≤csm (bs[i]'hi) i (xs.map λx=>x.2):=ψE λz=>cc (cmp.mpr z)
    constructor
    ·intro z k b hk e
     by_cases ck:k=i
     ·subst ck
      rw[eb] at e
      cases e
      exact hi2
     ·exact z k b (Qe) e
    ·intro z k b hk e
     exact z k b (Qe) e
  ·rintro ys σ H2 hD2 ⟨s2,ly,hy,z,rfl⟩
   simp_all only [zco,zac]
   refine⟨_,.inl (SqL.of hD2),?_⟩
   refine q _ H2 (QaD) ?_
   rw[decide_eq_true_iff]
   constructor
   ·intro z
    have e:ys=[]:=List.length_eq_zero_iff.mp (Qe)
    exact⟨ok,co,λk b hk=>hy.mp e k b (Qbz).1 hk⟩
   ·intro z
    rw[hy.mpr λk b _ hk=>z.2.ch k b hk]
    rfl
theorem zkX:zaB ["_law_boxes_here","_law_budget","_law_worth","_law_mix_here"] ["_law_boxes_here","_law_budget","_law_worth","_law_mix_here"] (zag zeQ):=⟨rfl,rfl,rfl,by decide +kernel,rfl,by decide +kernel,by decide +kernel⟩
theorem zlA(T:Txt K mg a):zcn P w K mg base CX0 4 a.f__law_finds a.d__law_finds ["_law_boxes_here","_law_budget","_law_worth","_law_mix_here"] zlH:=by
 have G__law_chance:=zkk (P:=P) (w:=w) (base:=base) T
 have G__law_keeps:=zlv (P:=P) (w:=w) (base:=base) T
 have G__law_less:=zix (P:=P) (w:=w) (base:=base) T
 refine T.F__law_finds.ok zkX (Qj) (Qd)
 ·obtain⟨l,v,ml,bud,ts,bs,us,xs,W,rfl,B,hv,bW,M,g,d0,d1,q⟩:=h
  rfl
 obtain⟨l,v,ml,bud,ts,bs,us,xs,W,rfl,B,hv,bW,M,g,d0,d1,q⟩:=h
 exact⟨zfV K,(zaf (zbs (zbP (zbL (zbt (zah G__law_keeps (Qa) rfl T.m__law_keeps T.F__law_keeps.kp T.b__law_keeps .nil zax (zaa (pv 0) (zaa (pv 1) (QU)))))) (QP) zaR))
 (zaj (zar (zcb zhd (zao zaA rfl T.z_len ψr (zaa (zbi (sc:=zag zeQ) (N:=["_law_boxes_here","_law_budget","_law_worth","_law_mix_here"]) (Nc:=["_law_k","_law_worth","_law_boxes_here","_law_mix_here"]) (cap:=[none,some 2,some 0,some 3]) rfl rfl rfl (Qi) (Qa6) (λ_ _ _ _=>(zak (i:=0) (show ψh (["_law_k","_law_worth","_law_boxes_here","_law_mix_here"]:List Str) from by decide) rfl (Qf))) (λ_ _ _ _=>(znG (zbt (zah G__law_less (Qa) rfl T.m__law_less T.F__law_less.kp T.b__law_less .nil zax (zaa (zah G__law_chance (Qa) rfl T.m__law_chance T.F__law_chance.kp T.b__law_chance .nil zax (zaa (pv 2) (zaa (pv 3) (Qap)))) (QG)))))) (λ_ _ _ _=>(pv 0))) zad)) zae (za4 _))))),
  zlZ B hv bW M g d0 d1 q⟩
theorem zoO{b:Box}(g:GB b)(w n:Int)(P:Rat):(w*b.2.1*(P.den:Int)*(b.2.2 - b.2.1) ^ n.toNat≤P.num*b.1*b.2.2*b.2.2 ^ n.toNat↔(w:Rat)*gnq b n≤P*(b.1:Rat))∧(P.num*b.1*b.2.2*b.2.2 ^ n.toNat≤w*b.2.1*(P.den:Int)*(b.2.2 - b.2.1) ^ n.toNat↔P*(b.1:Rat)≤(w:Rat)*gnq b n):=by
 have e:w*b.2.1*(P.den:Int)*(b.2.2 - b.2.1) ^ n.toNat=w*b.2.1*(b.2.2 - b.2.1) ^ n.toNat*(P.den:Int):=Int.mul_right_comm ..
 rw[e]
 exact zlx g w n P
def zsy:Sp:=λvs H Q _=>∃(t p:Addr) (b:Box) (w n:Int) (P:Rat),vs=[.ref t,.int w,.ref p,.int n]∧zjj H t p b w n P∧∀(r:Bool) (H':Hp),zaI H H'→(r=true↔Mrk b w P n)→Q (.bl r) H'
def zgS(K:ψa):TS :=
 (zbd (zbO (zaz zmh [] E0 (zab (zac 0) (zab (tCB (QX) (zab (Ql) (zab (tOp (QJ) (zac 3) (Qh)) zau))) zau))) (QbU))
 (zbU (tOrV (tOp rEq (zac 3) (Ql)) (tOp (Qae) (tOp (Qc) (zac 4) (zac 6)) (tOp (Qc) (zac 5) (zac 7))))))
def zcV(K:ψa):=eqT (zgS.eq_1 K)
def zgO:TS :=
 (zdQ (zb5 (tOp (QZ) (tOp (Qc) (zac 4) (zac 6)) (tOp (Qc) (zac 5) (zac 7)))) (QC) zb1)
def zcQ:=eqT (zgO.eq_1)
def zfX(K:ψa):TS :=
 (zbd (zbO (tOp (Qc) (tOp (Qc) (zac 1) (QB)) (QaW)) (zam 4))
 (zbd (zbO (Qbb) (zam 5))
 (zbd (zbO (zaz zmh [] E0 (zab (zac 0) (QO))) (QbU))
 (zbd (zdG (zgO))
 (zgS K)))))
theorem zkN{t p:Addr}{b:Box}{w n:Int}{P:Rat}(A:zjj H t p b w n P)(q:∀(r:Bool) (H':Hp),zaI H H'→(r=true↔Mrk b w P n)→Q (.bl r) H') :
  zfX K { nx:=λ_ H'=>Q .non H',rt:=Q } (L2.start ["_law_box","_law_weight","_law_price_here","_law_count","_law_gain","_law_due","_law_top","_law_bottom"] [.ref t,.int w,.ref p,.int n]) H:=by
 unfold zfX
 obtain⟨ht,g,hp,bw,bP,n0,n1⟩:=A
 have cm:=(zoO g w n P).1
 have cl:=(zoO g w (n - 1) P).2
 have g':=g
 obtain⟨g1,g2,g3,g4,g5⟩:=g
 have h6:Bd 6 b.2.1:=by show b.2.1.natAbs<2 ^ 6;omega
 have c6:Bd 6 b.1:=by show b.1.natAbs<2 ^ 6;omega
 have o6:Bd 6 b.2.2:=by show b.2.2.natAbs<2 ^ 6;omega
 have hT:=SqT.of (K:=K) ht
 have hP:=SqT.of (K:=K) hp
 have m1:=bw.mul h6
 have m2:=m1.mul bP.bot
 have m3:=bP.top.mul c6
 have m4:=m3.mul o6
 have bt:∀m:Int,m≤60→Bd 400 ((b.2.2 - b.2.1) ^ m.toNat):=λm hm=>zeO (Qe) (Qe) (Qe)
 simp_all only [zcV,zcQ,zac]
 refine⟨_,hT,_,rfl,_,rfl,zdg 2800 6 bw h6,_,hP,_,rfl,_,rfl,zdg 2806 2800 m1 bP.bot,_,hP,_,rfl,_,hT,_,rfl,_,rfl,_,rfl,zdg 2800 6 bP.top c6,_,hT,_,rfl,_,rfl,zdg 2806 6 m3 o6,?_⟩
 refine⟨t,b,n,rfl,ht,g',n0,n1,λr H1 s1 h1=>?_⟩
 simp_all only [zcV,zcQ,zac]
 refine(QbE)
 refine⟨λσ H'=>H'=H1∧(w:Rat)*gnq b n≤P*(b.1:Rat)∧∃y6 y7,σ=[some (.ref t),some (.int w),some (Qb9),some (.int n),some (.int (w*b.2.1*(P.den:Int))),some (.int (P.num*b.1*b.2.2)),y6,y7],?_,?_⟩
 ·simp_all only [zcV,zcQ,zac]
  refine⟨zdg 5606 400 m2 (bt n n1),zdg 2812 400 m4 (zgL g' n1),?_⟩
  by_cases c:w*b.2.1*(P.den:Int)*(b.2.2 - b.2.1) ^ n.toNat≤P.num*b.1*b.2.2*b.2.2 ^ n.toNat
  ·rw[if_neg (Qe)]
   exact cm.mp c
  ·rw[if_pos (Qe)]
   exact q false H1 s1 ⟨λz=>(QbZ),λz=>absurd (cm.mpr z.1) c⟩
 ·rintro σ H2 ⟨rfl,hn,y6,y7,rfl⟩
  simp_all only [zcV,zcQ,zac]
  by_cases cn:n=0
  ·have e0:(if n - 1 > 0 then n - 1 else 0)=0:=if_neg (Qe)
   rw[e0]
   refine⟨t,b,0,rfl,s1 _ _ ht,g',by decide,by decide,λr3 H3 s3 h3=>?_⟩
   refine⟨_,rfl,_,SqT.of h3,rfl,_,_,rfl,_,_,rfl,rfl,?_⟩
   rw[if_pos cn]
   exact q true H3 (s1.trans s3) ⟨λ_=>⟨hn,λz=>absurd z (Qe)⟩,λ_=>rfl⟩
  ·have e0:(if n - 1 > 0 then n - 1 else 0)=n - 1:=by
    split <;> omega
   rw[e0]
   refine⟨t,b,n - 1,rfl,s1 _ _ ht,g',by omega,by omega,λr3 H3 s3 h3=>?_⟩
   refine⟨_,rfl,_,SqT.of h3,rfl,_,_,rfl,_,_,rfl,rfl,?_⟩
   rw[if_neg cn]
   refine⟨_,rfl,zdg 5606 400 m2 (bt (n - 1) (Qe)),_,rfl,zdg 2812 400 m4 (zgL g' (show n - 1≤60 by omega)),?_⟩
   refine q _ H3 (s1.trans s3) ?_
   rw[decide_eq_true_iff,cl]
   exact⟨λz=>⟨hn,λ_=>z⟩,λz=>z.2 (Qe)⟩
theorem zct:zaB ["_law_box","_law_weight","_law_price_here","_law_count","_law_gain","_law_due","_law_top","_law_bottom"] ["_law_box","_law_weight","_law_price_here","_law_count"] (zag zf3):=⟨rfl,rfl,rfl,by decide +kernel,rfl,by decide +kernel,by decide +kernel⟩
theorem zld(T:Txt K mg a):zcn P w K mg base CX0 3 a.f__law_marks a.d__law_marks ["_law_box","_law_weight","_law_price_here","_law_count"] zsy:=by
 have G__law_miss:=zf7 (P:=P) (w:=w) (base:=base) T
 refine T.F__law_marks.ok zct (Qj) (Qd)
 ·obtain⟨t,p,b,w,n,P',rfl,A,q⟩:=h
  rfl
 obtain⟨t,p,b,w,n,P',rfl,A,q⟩:=h
 exact⟨zfX K,(zaf (zaN (i:=4) zct.nd rfl (Qf) (zas zav (zas zav (pv 1) (Qg)) (Q8)))
 (zaf (zaN (i:=5) zct.nd rfl (Qf) (Qcl))
 (zaf (zcY (zah G__law_miss (Qa) rfl T.m__law_miss T.F__law_miss.kp T.b__law_miss .nil zax (zaa (pv 0) (QU))) (zbu rfl (zal (zak (i:=6) zct.nd rfl (Qf)) (zal (zak (i:=7) zct.nd rfl (Qf)) za3))))
 (zaf (zbs (zbP (zbb zjD (zas zav (pv 4) (pv 6)) (zas zav (pv 5) (pv 7)) (za4 _)) (QP) zaR))
 (zaf (zcY (zah G__law_miss (Qa) rfl T.m__law_miss T.F__law_miss.kp T.b__law_miss .nil zax (zaa (pv 0) (zaa (zao (zf5 rfl) rfl T.z_max ψr1 (zaa zae (zaa (zas zc4 (pv 3) zae) zad))) zad))) (zbu rfl (zal (zak (i:=6) zct.nd rfl (Qf)) (zal (zak (i:=7) zct.nd rfl (Qf)) za3))))
 (zaj (zar (pe_or (zcb zhd (pv 3) zae (za4 _)) (zfi (zcb zmT (zas zav (pv 4) (pv 6)) (zas zav (pv 5) (pv 7)) (za4 _))))))))))),
  zkN A q⟩
def zkB(bs:List Box)(Ws ns:List Int):List Rat:=ψe (λ(w:Int) (c:Rat)=>(w:Rat)*c) Ws (zk0 bs ns)
theorem zvm{b:Box}(g:GB b)(w n:Int):ψy (w*(b.2.2 ^ n.toNat - (b.2.2 - b.2.1) ^ n.toNat)) (b.2.2 ^ n.toNat)=(w:Rat)*chq b n:=by
 unfold chq
 rw[ψn,ψn,ψj]
 have o:=zdn g n
 have on:((b.2.2 ^ n.toNat:Int):Rat)≠0:=λz=>by
  have:(b.2.2 ^ n.toNat:Int)=0:=by exact_mod_cast z
  omega
 grind
theorem zxR{m1 m2 k:Nat}{s t u v:Int}(t0:0<t)(v0:0<v)(bt:Bd m1 t)(bv:Bd m2 v)(h1:Bd k (s*v))(h2:Bd k (u*t)):Bd (k+1) (ψy s t+ψy u v).num∧Bd (m1+m2) ((ψy s t+ψy u v).den:Int):=by
 rw[Rat.divInt_add_divInt s u (Qe) (Qe)]
 have n0:t*v≠0:=ψS (Qe) (Qe)
 rw[(ziB n0).1,(ziB n0).2]
 exact⟨(h1.add h2).le (zqY n0),(bt.mul bv).le (zrM n0)⟩
def zox:Sp:=λvs H Q _=>∃(l v pr:Addr) (bud:Int) (ts:List Addr) (bs:List Box) (W P:Rat) (Ws ns:List Int),vs=[.ref l,.int bud,.ref v,.ref pr]∧Bx6 H l ts bs∧H v=some (Qag)∧Bq 2000 W∧PpH H pr bs.length Ws P ns∧0≤bud∧bud≤60∧∀(r:Bool) (H':Hp),zaI H H'→(r=true↔okH Ws ns=true∧zqn bs bud W Ws P ns)→Q (.bl r) H'
def zg6(K:ψa):TS :=
 (zbd (zbO (zaz zmh [] E0 (zab (tOp (zfp K) (zac 0) (zac 8)) (zab (tOp (zfp K) (zac 6) (zac 8)) zau))) (zdv K 2 (QbC)))
 (zbO (zaz zoI [] E0 (zab (zac 7) (zab (zeG (zab (tOp (Qc) (tOp (zfp K) (zac 4) (zac 8)) (tOp (QJ) (zac 10) (zac 9))) (zab (zac 10) zau))) zau))) (zam 7)))
def zaZ(K:ψa):=eqT (zg6.eq_1 K)
def zgV(K:ψa):TS :=
 (zbU (ztp (zaz znu [] E0 (zab (zeG (zab (tOp (Qc) (tOp (zbC K) (zac 2) (Ql)) (tCB (zmO K) (QaQ))) (zab (QaW) zau))) (zab (zac 7) zau)))))
def zaY(K:ψa):=eqT (zgV.eq_1 K)
def zg7(K:ψa):TS :=
 (zbd (zbO (zeG (zab (tOp (Qc) (Q4) (tOp (QJ) (zac 1) (zaz znx [] E0 (Qbe)))) (zab (Qah) zau))) (zam 7))
 (zbd (zll (Qb3) (zam 8)
 (zg6 K))
 (zgV K)))
def zaU(K:ψa):=eqT (zg7.eq_1 K)
def zg4(K:ψa):TS :=
 (zdQ (zb5 (tOp (rIn K false) (tC (.bl false)) (zb3 (Qb3) (zam 0) za5 (zaz zsy [] E0 (zab (tOp (zfp K) (zac 2) (zac 0)) (zab (tOp (zfp K) (zac 3) (zac 0)) (zab (zac 1) (zab (tOp (zfp K) (zac 4) (zac 0)) zau))))) [none,some 5,some 0,some 4,some 6]))) (QC) zb1)
def zaV(K:ψa):=eqT (zg4.eq_1 K)
def zgY(K:ψa):TS :=
 (zdQ (tOr (zb5 (tOp rEq (tCB (zmO K) (QaQ)) (Ql))) (tOr (zfe (tB (zaz zn0 [] E0 (Qa1)))) (tOr (zb5 (tOp (QT) (Q4) (Ql))) (zfe (tB (zaz znM [] E0 (Qbe))))))) (QC) zb1)
def za1(K:ψa):=eqT (zgY.eq_1 K)
def zgZ(K:ψa):TS :=
 (zdQ (tOr (zb5 (tOp rNe (tCB (Qb) (QaQ)) (Qas))) (zb5 (tOp (QZ) (tCB (Qb) (zab (zb3 (zcz K (zac 4)) (zam 0) (tOr (zfe (tB (zaz zgu [] E0 (QE)))) (zb5 (tOp (QT) (zac 0) (Ql)))) (zac 0) [none]) zau)) (Ql)))) (QC) zb1)
def zaX(K:ψa):=eqT (zgZ.eq_1 K)
def zgQ(K:ψa):TS :=
 (zbd (QaT)
 (zbd (zdG (zgZ K))
 (zbd (zdG (zgY K))
 (zbd (zdG (zg4 K))
 (zg7 K)))))
def zaW(K:ψa):=eqT (zgQ.eq_1 K)
def zgP(K:ψa):TS :=
 (zdQ (tOr (zfe (tB (tCB (ziw K) (zab (zac 3) (zab (tC (.ty "tuple")) zau))))) (tOr (zb5 (tOp rNe (tCB (Qb) (QO)) (Qb4))) (zfe (tB (tCB (ziw K) (zab (Qb8) (zab (tC (.ty "list")) zau))))))) (QC) zb1)
def za0(K:ψa):=eqT (zgP.eq_1 K)
def zf1(K:ψa):TS :=
 (zbd (zdG (zgP K))
 (zgQ K))
theorem zlP{l v pr:Addr}{bud:Int}{ts:List Addr}{bs:List Box}{W P:Rat}{Ws ns:List Int}(B:Bx6 H l ts bs)(hv:H v=some (Qag))(bW:Bq 2000 W)(A:PpH H pr bs.length Ws P ns)(d0:0≤bud)(d1:bud≤60)(q:∀(r:Bool) (H':Hp),zaI H H'→(r=true↔okH Ws ns=true∧zqn bs bud W Ws P ns)→Q (.bl r) H') :
  zf1 K { nx:=λ_ H'=>Q .non H',rt:=Q } (L2.start ["_law_boxes_here","_law_budget","_law_worth","_law_paper","_law_weights","_law_price_here","_law_counts","_law_total","_law_k","_law_top","_law_bottom"] [.ref l,.int bud,.ref v,.ref pr]) H:=by
 unfold zf1
 have l6:=B.l6
 obtain⟨wl,pp,cl,a1,a2,a3,a4⟩:=A.ex
 have lw:=A.lw
 have ln:=A.ln
 have bWs:=(zkn Ws A.wb).mono (show _≤2806 by omega)
 simp_all only [zaZ,zaY,zaU,zaV,za1,zaX,zaW,za0,zac]
 refine⟨λσ H'=>H'=H∧σ=[some (Qa5),some (Qbt),some (.ref v),some (QcC),none,none,none,none,none,none,none],?_,?_⟩
 ·simp_all only [zaZ,zaY,zaU,zaV,za1,zaX,zaW,za0,zac]
  refine zcK a1 (Qat)
  refine zcg (Qy) (QaM)
  refine⟨_,.inr (SqT.of a1),?_⟩
  refine zcg (QN) (QaM)
  refine⟨_,SqT.of a1,_,rfl,zcI a2 (Qat)⟩
  exact zcg (Qy) (Qcc)
 rintro σ H' ⟨e,rfl⟩
 rw[e]
 simp_all only [zaZ,zaY,zaU,zaV,za1,zaX,zaW,za0,zac]
 refine(QaK)
 refine⟨λσ H'=>zaI H H'∧σ=[some (Qa5),some (Qbt),some (.ref v),some (QcC),some (.ref wl),some (.ref pp),some (.ref cl),none,none,none,none],?_,?_⟩
 ·simp_all only [zaZ,zaY,zaU,zaV,za1,zaX,zaW,za0,zac]
  refine⟨_,.inl (SqL.of a2),_,.inl (SqL.of B.hl),?_⟩
  rw[ψb,ψb,B.hb.1,lw]
  refine zcg (QN) (QaM)
  refine⟨⟨_,SqL.of a2⟩,λD hD=>?_⟩
  refine zcT (K:=K) (xs:=Ws.map V.int) (λi ys σ H'=>zaI H H'∧ys=[]∧∃z,σ=[z]) ⟨zan hD _,rfl,_,rfl⟩ ?_ ?_ ?_
  ·rintro i ys σ H' _ ⟨s,_⟩
   exact SqL.of (s _ _ a2)
  ·rintro i x ys σ H' hx hD' ⟨s,rfl,z,rfl⟩
   obtain⟨m,hm,rfl⟩:=zat hx
   have m0:=A.w0 m (zap hm)
   simp_all only [zaZ,zaY,zaU,zaV,za1,zaX,zaW,za0,zac]
   refine⟨m,rfl,true,rfl,?_⟩
   refine zcg (Qy) (QaM)
   exact zcg (Qbu) (λ_=>⟨_,hD',s,rfl⟩)
  ·rintro ys σ H' hD' ⟨s,rfl,z,rfl⟩
   refine⟨D,rfl,_,.inl (SqL.of hD'),?_⟩
   exact zcg (Qy) (λ_=>s)
 rintro σ H1 ⟨s1,rfl⟩
 refine⟨λσ H'=>zaI H H'∧okH Ws ns=true∧σ=[some (Qa5),some (Qbt),some (.ref v),some (QcC),some (.ref wl),some (.ref pp),some (.ref cl),none,none,none,none],?_,?_⟩
 ·simp_all only [zaZ,zaY,zaU,zaV,za1,zaX,zaW,za0,zac]
  refine⟨Ws,SqL.of (s1 _ _ a2),?_⟩
  have sp:0≤Ws.sum:=by
   have:∀l:List Int,(∀w∈l,0≤w)→0≤l.sum:=by
    intro l
    induction l with
    | nil=>intro _;exact Int.le_refl 0
    | cons w l ih =>
     intro h
     have:=ih λx hx=>h x (Qbr)
     have:=h w ψf
     rw[ψk]
     omega
   exact this Ws A.w0
  by_cases c0:Ws.sum=0
  ·rw[if_pos c0]
   refine q false H1 s1 ⟨λz=>(QbZ),λz=>?_⟩
   have:=z.1
   unfold okH at this
   rw[decide_eq_false (Qe),Bool.false_and] at this
   exact absurd this (Qn)
  rw[if_neg c0]
  refine⟨pp,P,rfl,s1 _ _ a3,λH2 s2=>(Qat)⟩
  refine zcg (Qy) (QaM)
  have S2:=s1.trans s2
  have n0:0≤P.num:=Rat.num_nonneg.mpr A.p0
  refine⟨_,SqT.of (S2 _ _ a3),_,rfl,_,rfl,?_⟩
  refine zcg (Qbu) (QaM)
  refine⟨l,cl,ts,bs,ns,rfl,B.same S2,S2 _ _ a4,ln,λm hm=>(A.n0 m hm).1,λH3 s3=>⟨okP ns,rfl,?_⟩⟩
  have eo:okH Ws ns=okP ns:=by
   unfold okH
   rw[decide_eq_true (show 0<Ws.sum by omega),Bool.true_and]
  by_cases c:okP ns=true
  ·rw[if_neg (by simp[c])]
   exact⟨S2.trans s3,by rw[eo];exact c⟩
  ·rw[if_pos (Qa4)]
   exact q false H3 (S2.trans s3) ⟨λz=>(QbZ),λz=>absurd (eo ▸ z.1) c⟩
 rintro σ H2 ⟨s2,ok,rfl⟩
 have n60:∀n∈ns,n≤60:=zhe.mp (by unfold okH at ok;rw[ψL] at ok;exact ok.2)
 have gn:∀n∈ns,0≤n∧n≤60:=λn hn=>⟨(A.n0 n hn).1,n60 n hn⟩
 have tri:∀i:Nat,i<bs.length→∃w n,Ws[i]?=some w∧ns[i]?=some n:=λi hi=>⟨_,_,ψc (Qe),ψc (Qe)⟩
 refine⟨λσ H'=>zaI H H'∧(∀(i:Nat) b w n,bs[i]?=some b→Ws[i]?=some w→ns[i]?=some n→Mrk b w P n)∧σ=[some (Qa5),some (Qbt),some (.ref v),some (QcC),some (.ref wl),some (.ref pp),some (.ref cl),none,none,none,none],?_,?_⟩
 ·simp_all only [zaZ,zaY,zaU,zaV,za1,zaX,zaW,za0,zac]
  have B2:=B.same s2
  refine⟨_,.inl (SqL.of B2.hl),?_⟩
  rw[ψb,B.hb.1]
  refine(Qci)
  have en:(bs.length:Int).toNat=bs.length:=Int.toNat_natCast _
  rw[en]
  refine zfA (λi ys σ H'=>zaI H2 H'∧(∃rs:List Bool,ys=rs.map V.bl∧rs.length=i∧(rs.all id=true↔∀(j:Nat) b w n,j<i→bs[j]?=some b→Ws[j]?=some w→ns[j]?=some n→Mrk b w P n))∧∃z,σ=[z,some (.ref pp),some (Qa5),some (.ref wl),some (.ref cl)]) ⟨zan hD _,⟨[],rfl,rfl,⟨λ_ j b w n hj=>absurd hj (ψG1 j),λ_=>rfl⟩⟩,_,rfl⟩ ?_ ?_
  ·rintro i ys σ H3 hi hD3 ⟨s3,⟨rs,rfl,lr,hr⟩,z,rfl⟩
   have S3:=s2.trans s3
   obtain⟨t,b,et,eb,ea,hb,gb⟩:=(B.same S3).ix hi
   obtain⟨w,n,ew,en⟩:=tri i hi
   simp_all only [zaZ,zaY,zaU,zaV,za1,zaX,zaW,za0,zac]
   rw[Int.zero_add]
   refine⟨_,SqL.of (S3 _ _ B.hl),_,ea,_,SqL.of (S3 _ _ a2),_,zdj (by rw[ψt,ew];rfl),_,SqL.of (S3 _ _ a4),_,zdj (by rw[ψt,en];rfl),?_⟩
   refine⟨t,pp,b,w,n,P,rfl,⟨hb,gb,S3 _ _ a3,A.wb w (zap ew),A.pb,(gn n (zap en)).1,(gn n (zap en)).2⟩,λr H4 s4 h4=>?_⟩
   refine⟨_,s4 _ _ hD3,zbF (by rw[ψb];omega),_,zai,(s3.trans s4).put hD,rs++[r],by rw[ψO];rfl,by rw[ψV,lr];rfl,?_⟩
   rw[List.all_append,ψL,hr]
   constructor
   ·rintro⟨z1,z2⟩ j b' w' n' hj e1 e2 e3
    by_cases ej:j=i
    ·subst ej
     rw[eb] at e1
     rw[ew] at e2
     rw[en] at e3
     cases e1
     cases e2
     cases e3
     refine h4.mp ?_
     simpa using z2
    ·exact z1 j b' w' n' (Qe) e1 e2 e3
   ·intro z
    refine⟨λj b' w' n' hj e1 e2 e3=>z j b' w' n' (Qe) e1 e2 e3,?_⟩
    have:=h4.mpr (z i b w n (Qe) eb ew en)
    simpa using this
  ·rintro ys σ H3 hD3 ⟨s3,⟨rs,rfl,lr,hr⟩,z,rfl⟩
   simp_all only [zaZ,zaY,zaU,zaV,za1,zaX,zaW,za0,zac]
   have ein:inV (V.bl false) (rs.map V.bl)=!rs.all id:=by
    have:∀rs:List Bool,inV (V.bl false) (rs.map V.bl)=!rs.all id:=by
     intro rs
     induction rs with
     | nil=>rfl
     | cons r rs ih =>
      show(eqV (V.bl r) (V.bl false) || inV (V.bl false) (rs.map V.bl))=!(id r&&rs.all id)
      rw[ih]
      cases r <;> simp[eqV]
    exact this rs
   have fl:(rs.map V.bl).all zkU=true:=by
    rw[ψz1]
    intro y hy
    obtain⟨r,_,rfl⟩:=List.mem_map.mp hy
    rfl
   refine⟨_,.inl (SqL.of hD3),rfl,fl,?_⟩
   rw[ein]
   by_cases c:rs.all id=true
   ·rw[if_neg (by simp[c])]
    exact⟨s2.trans s3,λi b w n e1 e2 e3=>hr.mp c i b w n (Qa8).1 e1 e2 e3⟩
   ·rw[if_pos (Qa4)]
    exact q false H3 (Qcs) ⟨λz=>(QbZ),λz=>absurd (hr.mpr λj b w n _ e1 e2 e3=>z.2.mr j b w n e1 e2 e3) c⟩
 rintro σ H3 ⟨s3,mk,rfl⟩
 simp_all only [zaZ,zaY,zaU,zaV,za1,zaX,zaW,za0,zac]
 obtain⟨c0,c1⟩:=zlc bs ns B.gb A.n0
 have hp3:=SqT.of (K:=K) (s3 _ _ a3)
 refine⟨_,hp3,_,rfl,l,cl,ts,bs,ns,rfl,B.same s3,s3 _ _ a4,ln,A.n0,λH4 s4=>?_⟩
 have S4:=s3.trans s4
 have hp4:=SqT.of (K:=K) (S4 _ _ a3)
 have bsp:Bd 16 (bud - (zaF bs ns).sum):=by show(bud - (zaF bs ns).sum).natAbs<2 ^ 16;omega
 have dP:=zb4 P
 simp_all only [zaZ,zaY,zaU,zaV,za1,zaX,zaW,za0,zac]
 refine⟨zdg 2800 16 A.pb.top bsp,_,hp4,_,rfl,by decide,λp0 f0=>?_⟩
 have s5:=zan f0 (.tup [V.int (P.num*(bud - (zaF bs ns).sum)),V.int (P.den:Int)])
 have h5:(L2.upd H4 p0 (.tup [V.int (P.num*(bud - (zaF bs ns).sum)),V.int (P.den:Int)])) p0=some (.tup [V.int (P.num*(bud - (zaF bs ns).sum)),V.int (P.den:Int)]):=zai
 generalize L2.upd H4 p0 (.tup [V.int (P.num*(bud - (zaF bs ns).sum)),V.int (P.den:Int)])=H5 at s5 h5 ⊢
 have S5:=S4.trans s5
 refine⟨_,.inl (SqL.of (S5 _ _ B.hl)),?_⟩
 rw[ψb,B.hb.1]
 refine(Qb5)
 have eni:(bs.length:Int).toNat=bs.length:=Int.toNat_natCast _
 rw[eni]
 have lh:(zkB bs Ws ns).length=bs.length:=by rw[zkB,ψo,zk0,ψo];omega
 have eP:ψy (P.num*(bud - (zaF bs ns).sum)) (P.den:Int)=P*((bud - (zaF bs ns).sum:Int):Rat):=by
  rw[ψn,ψj]
  have h:=ψz P
  rw[ψn] at h
  have z:((P.den:Int):Rat)≠0:=λz=>by
   have:(P.den:Int)=0:=by exact_mod_cast z
   omega
  generalize ((P.den:Int):Rat)=d at h z ⊢
  generalize (P.num:Rat)=n at h ⊢
  grind
 refine zgH (λi σ H'=>zaI H5 H'∧∃(r:Addr) (s t:Int) (y8 y9 y10:Option V),H' r=some (Qb2)∧0<t∧ψy s t=P*((bud - (zaF bs ns).sum:Int):Rat)+((zkB bs Ws ns).take i).sum∧Bd (2816+3700*i) s∧Bd (2800+400*i) t∧σ=[some (Qa5),some (Qbt),some (.ref v),some (QcC),some (.ref wl),some (.ref pp),some (.ref cl),some (Q0),y8,y9,y10]) ⟨.refl _,p0,_,_,_,_,_,h5,dP,?_,A.pb.top.mul bsp,A.pb.bot,rfl⟩ ?_ ?_
 ·rw[eP]
  show _=_+0
  rw[Rat.add_zero]
 ·rintro i σ H6 hi ⟨s6,r,s,t,y8,y9,y10,hr,t0,ev,bs',bt',rfl⟩
  have S6:=S5.trans s6
  obtain⟨u,b,eu,eb,ea,hb,gb⟩:=(B.same S6).ix hi
  obtain⟨w,n,ew,en⟩:=tri i hi
  obtain⟨n0,n1⟩:=gn n (zap en)
  have bo:=zgL gb n1
  have o:=zdn gb n
  have bm:Bd 400 ((b.2.2 - b.2.1) ^ n.toNat):=by
   obtain⟨g1,g2,g3,g4,g5⟩:=gb
   exact zeO (Qe) (Qe) (Qe)
  have bw:=A.wb w (zap ew)
  have bu:=bw.mul (bo.sub bm)
  simp_all only [zaZ,zaY,zaU,zaV,za1,zaX,zaW,za0,zac]
  rw[Int.zero_add]
  refine⟨_,SqL.of (S6 _ _ B.hl),_,ea,_,SqL.of (S6 _ _ a4),_,zdj (by rw[ψt,en];rfl),u,b,n,rfl,hb,gb,n0,n1,λc H7 s7 h7=>?_⟩
  simp_all only [zaZ,zaY,zaU,zaV,za1,zaX,zaW,za0,zac]
  refine⟨_,SqT.of h7,rfl,_,_,rfl,_,_,rfl,rfl,?_⟩
  refine⟨_,SqL.of (s7 _ _ (S6 _ _ a2)),_,zdj (by rw[ψt,ew];rfl),_,rfl,_,rfl,_,rfl,zdg 2800 401 bw (bo.sub bm),by decide,λd nd=>?_⟩
  have s8:=zan nd (.tup [V.int (w*(b.2.2 ^ n.toNat - (b.2.2 - b.2.1) ^ n.toNat)),V.int (b.2.2 ^ n.toNat)])
  have h8:(L2.upd H7 d (.tup [V.int (w*(b.2.2 ^ n.toNat - (b.2.2 - b.2.1) ^ n.toNat)),V.int (b.2.2 ^ n.toNat)])) d=some (.tup [V.int (w*(b.2.2 ^ n.toNat - (b.2.2 - b.2.1) ^ n.toNat)),V.int (b.2.2 ^ n.toNat)]):=zai
  generalize L2.upd H7 d (.tup [V.int (w*(b.2.2 ^ n.toNat - (b.2.2 - b.2.1) ^ n.toNat)),V.int (b.2.2 ^ n.toNat)])=H8 at s8 h8 ⊢
  refine⟨r,d,2800+400*i,400,_,_,_,_,rfl,s8 _ _ (s7 _ _ hr),h8,t0,o,bs'.mono (Qe),bt',bu.mono (Qn),bo,by omega,λr' H9 s9 h9=>?_⟩
  obtain⟨q1,q2⟩:=zxR (k:=6515+3700*i) t0 o bt' bo ((bs'.mul bo).mono (Qe)) ((bu.mul bt').mono (Qe))
  have et:(zkB bs Ws ns)[i]?=some ((w:Rat)*chq b n):=by
   rw[zkB,ψX,ew,zk0,ψX,eb,en]
  refine⟨s6.trans (s7.trans (s8.trans s9)),r',_,_,h9,zb4 _,?_,q1.mono (Qe),q2.mono (Qe),rfl⟩
  rw[ψz,ev,zvm gb,ψx,et,List.sum_append]
  show _=_+(_+((w:Rat)*chq b n+0))
  rw[Rat.add_zero,Rat.add_assoc]
 ·rintro σ H6 ⟨s6,r,s,t,y8,y9,y10,hr,t0,ev,bs',bt',rfl⟩
  have S6:=S5.trans s6
  rw[← lh,ψH] at ev
  have hv6:=SqT.of (K:=K) (S6 _ _ hv)
  have dW:=zb4 W
  simp_all only [zaZ,zaY,zaU,zaV,za1,zaX,zaW,za0,zac]
  refine⟨_,hv6,_,rfl,Ws,SqL.of (S6 _ _ a2),_,rfl,zdg 2000 2806 bW.top bWs,_,hv6,_,rfl,by decide,λd nd=>?_⟩
  have s7:=zan nd (.tup [V.int (W.num*Ws.sum),V.int (W.den:Int)])
  have h7:(L2.upd H6 d (.tup [V.int (W.num*Ws.sum),V.int (W.den:Int)])) d=some (.tup [V.int (W.num*Ws.sum),V.int (W.den:Int)]):=zai
  generalize L2.upd H6 d (.tup [V.int (W.num*Ws.sum),V.int (W.den:Int)])=H7 at s7 h7 ⊢
  refine⟨d,r,_,_,_,_,rfl,h7,s7 _ _ hr,(bW.top.mul bWs).mono (Qn),bW.bot.mono (Qn),bs'.mono (Qe),bt'.mono (Qe),_,rfl,?_⟩
  refine q _ H7 (S6.trans s7) ?_
  have eW:ψy (W.num*Ws.sum) (W.den:Int)=W*(Ws.sum:Rat):=by
   rw[ψn,ψj]
   have h:=ψz W
   rw[ψn] at h
   have z:((W.den:Int):Rat)≠0:=λz=>by
    have:(W.den:Int)=0:=by exact_mod_cast z
    omega
   generalize ((W.den:Int):Rat)=d at h z ⊢
   generalize (W.num:Rat)=n at h ⊢
   grind
  have ef:zhn bs Ws ns=(zkB bs Ws ns).sum:=rfl
  have cmp:=zvS (s:=W.num*Ws.sum) (u:=s) dW t0
  rw[eW,ev,← ef] at cmp
  rw[Bool.not_eq_true',decide_eq_false_iff_not,cmp]
  constructor
  ·intro z
   refine⟨ok,mk,?_⟩
   have:=Rat.not_lt.mp z
   grind
  ·intro z z2
   have:=z.2.sm
   have:=Rat.not_le.mpr z2
   grind
theorem zb6:zaB ["_law_boxes_here","_law_budget","_law_worth","_law_paper","_law_weights","_law_price_here","_law_counts","_law_total","_law_k","_law_top","_law_bottom"] ["_law_boxes_here","_law_budget","_law_worth","_law_paper"] (zag zdM):=⟨rfl,rfl,rfl,by decide +kernel,rfl,by decide +kernel,by decide +kernel⟩
theorem zk5(T:Txt K mg a):zcn P w K mg base CX0 4 a.f__law_hides a.d__law_hides ["_law_boxes_here","_law_budget","_law_worth","_law_paper"] zox:=by
 have G__law_fraction:=zfO (P:=P) (w:=w) (base:=base) T
 have G__law_less:=zix (P:=P) (w:=w) (base:=base) T
 have G__law_marks:=zld (P:=P) (w:=w) (base:=base) T
 have G__law_miss:=zf7 (P:=P) (w:=w) (base:=base) T
 have G__law_plan:=ziu (P:=P) (w:=w) (base:=base) T
 have G__law_plus:=ziD (P:=P) (w:=w) (base:=base) T
 have G__law_price:=zhH (P:=P) (w:=w) (base:=base) T
 have G__law_whole:=zec (P:=P) (w:=w) (base:=base) T
 refine T.F__law_hides.ok zb6 (Qj) (Qd)
 ·obtain⟨l,v,pr,bud,ts,bs,W,P',Ws,ns,rfl,B,hv,bW,A,d0,d1,q⟩:=h
  rfl
 obtain⟨l,v,pr,bud,ts,bs,W,P',Ws,ns,rfl,B,hv,bW,A,d0,d1,q⟩:=h
 exact⟨zf1 K,(zaf (zbs (zbP (PW.pt (zdl (zbL (zbt (zao zaT rfl T.z_isinstance ψi (zaa (pv 3) (zaa (zbZ rfl T.z_tuple zbS rfl) zad))))) (zdl (zbb ziK (Qbj) zae (za4 _)) (zc5 (zbL (zbt (zao zaT rfl T.z_isinstance ψi (zaa (Qa0) (Qcb))))))))) (QP) zaR))
 (zaf (zcY (pv 3) (zbu rfl (zal (zak (i:=4) zb6.nd rfl (Qbd)) (zal (zak (i:=5) zb6.nd rfl (Qbd)) (zal (zak (i:=6) zb6.nd rfl (Qbd)) za3)))))
 (zaf (zbs (zbP (PW.pt (zdl (zbb ziK (zao zaA rfl T.z_len ψr (QbL)) (Qu) (za4 _)) (zc5 (zbb zjD (zao zaA rfl T.z_len ψr (zaa (zbi (sc:=zag zdM) (N:=["_law_boxes_here","_law_budget","_law_worth","_law_paper","_law_weights","_law_price_here","_law_counts","_law_total","_law_k","_law_top","_law_bottom"]) (Nc:=["_law_one"]) (cap:=[none]) rfl rfl rfl (Qi) (zbl (pv 4)) (λ_ _ _ _=>(zak (i:=0) (show ψh (["_law_one"]:List Str) from by decide) rfl (Qf))) (λ_ _ _ _=>(znG (PW.pt (zdl (zbL (zbt (zah G__law_whole (Qa) rfl T.m__law_whole T.F__law_whole.kp T.b__law_whole .nil zax (Qap)))) (zc5 (zbb zjv (pv 0) zae (za4 _))))))) (λ_ _ _ _=>(pv 0))) zad)) zae (za4 _))))) (QP) zaR))
 (zaf (zbs (zbP (PW.pt (zdl (zbb zhd (QaS) zae (za4 _)) (zdl (zbL (zbt (zah G__law_fraction (Qa) rfl T.m__law_fraction T.F__law_fraction.kp T.b__law_fraction .nil zax (Qa9)))) (zdl (zbb zjv (Qz) zae (za4 _)) (zc5 (zbL (zbt (zah G__law_plan (Qa) rfl T.m__law_plan T.F__law_plan.kp T.b__law_plan .nil zax (Qbn))))))))) (QP) zaR))
 (zaf (zbs (zbP (zbb zm5 zde (zbi (sc:=zag zdM) (N:=["_law_boxes_here","_law_budget","_law_worth","_law_paper","_law_weights","_law_price_here","_law_counts","_law_total","_law_k","_law_top","_law_bottom"]) (Nc:=["_law_k","_law_price_here","_law_boxes_here","_law_weights","_law_counts"]) (cap:=[none,some 5,some 0,some 4,some 6]) rfl rfl rfl (Qi) (Qa6) (λ_ _ _ _=>(zak (i:=0) (show ψh (["_law_k","_law_price_here","_law_boxes_here","_law_weights","_law_counts"]:List Str) from by decide) rfl (Qf))) (QF) (λ_ _ _ _=>(zah G__law_marks (Qa) rfl T.m__law_marks T.F__law_marks.kp T.b__law_marks .nil zax (zaa (zaw zbv (pv 2) (pv 0) (Qp)) (zaa (zaw zbv (pv 3) (pv 0) (Qp)) (zaa (pv 1) (zaa (zaw zbv (pv 4) (pv 0) (Qp)) zad))))))) (by with_unfolding_all rfl)) (QP) zaR))
 (zaf (zaN (i:=7) zb6.nd rfl (Qf) (zbE (zaa (zas zav (Qz) (zas zc4 (pv 1) (zah G__law_price (Qa) rfl T.m__law_price T.F__law_price.kp T.b__law_price .nil zax (Qbn)))) (QbV))))
 (zaf (zdJ PassesOwn.never rfl (Qa6) (zak (i:=8) zb6.nd rfl (Qf))
 (zaf (zcY (zah G__law_miss (Qa) rfl T.m__law_miss T.F__law_miss.kp T.b__law_miss .nil zax (zaa (zaw zbv (pv 0) (pv 8) (Qp)) (zaa (zaw zbv (pv 6) (pv 8) (Qp)) zad))) (zbu rfl (zal (zak (i:=9) zb6.nd rfl (Qf)) (zal (zak (i:=10) zb6.nd rfl (Qf)) za3))))
 (zaj (zaN (i:=7) zb6.nd rfl (Qf) (zah G__law_plus (Qa) rfl T.m__law_plus T.F__law_plus.kp T.b__law_plus .nil zax (zaa (pv 7) (zaa (zbE (zaa (zas zav (zaw zbv (pv 4) (pv 8) (Qp)) (zas zc4 (pv 10) (pv 9))) (zaa (pv 10) zad))) zad)))))))
 (zaj (zar (zsQ (zah G__law_less (Qa) rfl T.m__law_less T.F__law_less.kp T.b__law_less .nil zax (zaa (zbE (zaa (zas zav (Q8) (QaS)) (zaa (Q8) zad))) (zaa (pv 7) zad))))))))))))),
  zlP B hv bW A d0 d1 q⟩
theorem at2{r x y:Int}(h0:0≤r)(h1:r<2):∃v:Int,atI [V.int x,V.int y] r=some (.int v)∧(v=x∨v=y):=by
 have:r=0∨r=1:=by omega
 rcases this with rfl | rfl
 ·exact⟨x,rfl,.inl rfl⟩
 ·exact⟨y,rfl,.inr rfl⟩
theorem at3{r x y z:Int}(h0:0≤r)(h1:r<3):∃v:Int,atI [V.int x,V.int y,V.int z] r=some (.int v)∧(v=x∨v=y∨v=z):=by
 have:r=0∨r=1∨r=2:=by omega
 rcases this with rfl | rfl | rfl
 ·exact⟨x,rfl,.inl rfl⟩
 ·exact⟨y,rfl,.inr (.inl rfl)⟩
 ·exact⟨z,rfl,.inr (.inr rfl)⟩
def zmm:Sp:=λvs H Q _=>∃(p:Addr) (c:Int),vs=[.ref p,.int 6]∧Drw H p c∧c<1000∧∀(l:Addr) (ts:List Addr) (bs:List Box) (c':Int) (H':Hp),zaI (Qa3) (QaN)→Drw H' p c'→c'≤c+31→Off p p H' l=some (QR)→Tps bx (QaN) ts bs→(Qav)→1≤bs.length→bs.length≤6→Q (Qa5) H'
def zg8(K:ψa):TS :=
 (zbd (zbO (tOp (Qv) (Qh) (zaz zbW [] E0 (zab (zac 0) (zab (tOp (zfp K) (zhw (zab (Qh) (zab (tC (.int 4)) (QbO)))) (zaz zbW [] E0 (zab (zac 0) (zab (Qb4) zau)))) zau)))) (zam 4))
 (zbd (zbO (tOp (Qv) (Qh) (zaz zbW [] E0 (zab (zac 0) (zab (tOp (zfp K) (zhw (zab (Qb4) (zab (tC (.int 50)) zau))) (zaz zbW [] E0 (zab (zac 0) (zab (QV) zau)))) zau)))) (zam 5))
 (zkj (tBM K "list" zcA (zac 2) (zab (zeG (zab (zac 4) (zab (tOp (Qv) (Qh) (zaz zbW [] E0 (zab (zac 0) (Qa1)))) (Qa1)))) zau)))))
def zby(K:ψa):=eqT (zg8.eq_1 K)
def zgk(K:ψa):TS :=
 (zbd (zbO (zhw zau) (zam 2))
 (zbd (zll (zke (zab (tOp (Qv) (Qh) (zaz zbW [] E0 (Q7))) zau)) (zam 3)
 (zg8 K))
 (zbU (zac 2))))
theorem zlz{p:Addr}{c:Int}(hP:Drw H p c)(c1:c<1000)(q:∀(l:Addr) (ts:List Addr) (bs:List Box) (c':Int) (H':Hp),zaI (Qa3) (QaN)→Drw H' p c'→c'≤c+31→Off p p H' l=some (QR)→Tps bx (QaN) ts bs→(Qav)→1≤bs.length→bs.length≤6→Q (Qa5) H') :
  zgk K { nx:=λ_ H'=>Q .non H',rt:=Q } (L2.start ["_law_left_here","_law_most","_law_found","_law_k","_law_cost","_law_of"] [.ref p,.int 6]) H:=by
 unfold zgk
 have c0:=hP.c0
 simp_all only [zby,zac]
 refine⟨by decide,λl hl=>?_⟩
 obtain⟨H1,e1,P1,s1,h1,_⟩:=hP.mk2 hl (.lst [])
 have nl:=hP.new hl
 have fl:Off p p H l=none:=znT hl
 rw[← e1]
 refine⟨p,c,6,rfl,P1,by omega,by decide,by decide,λr H2 r0 r1 o2 P2=>?_⟩
 simp_all only [zby,zac]
 refine(Qb5)
 refine zgH (λi σ H'=>∃(ts:List Addr) (bs:List Box) (u:Int),zaI (Qa3) (QaN)∧Drw H' p u∧u≤c+1+5*i∧Off p p H' l=some (QR)∧Tps bx (QaN) ts bs∧(Qav)∧bs.length=i∧∃x y z,σ=[some (Qb9),some (.int 6),some (Qa5),x,y,z]) ?_ ?_ ?_
 ·exact⟨[],[],c+1,by rw[o2];exact s1,P2,by omega,by rw[o2];exact h1,.nil,by simp,rfl,_,_,_,rfl⟩
 ·rintro i σ H3 hi ⟨ts,bs,u,s3,P3,hu,hl3,T3,gb,lb,x,y,z,rfl⟩
  have u0:=P3.c0
  simp_all only [zby,zac]
  refine⟨by decide,λd1 hd1=>?_⟩
  obtain⟨H4,e4,P4,s4,h4,_⟩:=P3.mk2 hd1 (.lst [.int 1,.int 4,.int 60])
  rw[← e4]
  refine⟨p,u,3,rfl,P4,by omega,by decide,by decide,λr1 H5 r10 r11 o5 P5=>?_⟩
  obtain⟨m1,em1,hm1⟩:=at3 (x:=1) (y:=4) (z:=60) r10 r11
  rw[← o5] at h4 s4
  simp_all only [zby,zac]
  refine⟨_,SqL.of (zbx _ _ _ _ _ h4),_,em1,?_⟩
  refine⟨p,u+1,m1,rfl,P5,by omega,by omega,by omega,λcost H6 k0 k1 o6 P6=>?_⟩
  rw[← o6] at s4
  simp_all only [zby,zac]
  refine⟨by decide,λd2 hd2=>?_⟩
  obtain⟨H7,e7,P7,s7,h7,_⟩:=P6.mk2 hd2 (.lst [.int 3,.int 50])
  rw[← e7]
  refine⟨p,u+1+1,2,rfl,P7,by omega,by decide,by decide,λr2 H8 r20 r21 o8 P8=>?_⟩
  obtain⟨m2,em2,hm2⟩:=at2 (x:=3) (y:=50) r20 r21
  rw[← o8] at h7 s7
  simp_all only [zby,zac]
  refine⟨_,SqL.of (zbx _ _ _ _ _ h7),_,em2,?_⟩
  refine⟨p,_,m2,rfl,P8,by omega,by omega,by omega,λof H9 of0 of1 o9 P9=>?_⟩
  rw[← o9] at s7
  simp_all only [zby,zac]
  have S9:=s4.trans s7
  have hl9:=S9 _ _ hl3
  refine⟨.inl ⟨rfl,_,SqL.of (zbx _ _ _ _ _ hl9)⟩,?_⟩
  refine⟨p,_,1+of,rfl,P9,by omega,by omega,by omega,λh H10 h0 h1 o10 P10=>?_⟩
  rw[← o10] at S9 hl9
  simp_all only [zby,zac]
  refine⟨by decide,λb hb=>?_⟩
  obtain⟨H11,e11,P11,s11,h11,_⟩:=P10.mk2 hb (.tup [.int (1+cost),.int (1+h),.int (1+of)])
  rw[← e11]
  have S11:=S9.trans s11
  have hl11:=s11 _ _ hl9
  refine⟨_,zbx _ _ _ _ _ hl11,zbF (by rw[ψb,T3.1];omega),?_⟩
  obtain⟨H12,e12,P12,s12,h12,k12⟩:=P11.put nl (s3.trans S11) fl (.lst (ts.map V.ref++[V.ref b]))
  rw[← e12]
  have bl:b≠l:=λz=>by
   subst z
   rw[hl11] at h11
   cases h11
  refine⟨s12,ts++[b],bs++[(1+cost,1+h,1+of)],_,P12,by omega,by rw[h12,ψO];rfl,?_,?_,by rw[ψV,lb];rfl⟩
  ·refine T3.put (λx w e=>?_) (by rw[k12 _ bl];exact h11)
   have nx:x≠l:=λz=>by
    subst z
    rw[e] at hl3
    cases hl3
   rw[k12 _ nx]
   exact S11 _ _ e
  ·intro y hy
   rcases List.mem_append.mp hy with z | z
   ·exact gb y z
   ·rw[List.mem_singleton.mp z]
    refine⟨?_,?_,?_,?_,?_⟩ <;> show _≤_ <;> omega
 ·rintro σ H3 ⟨ts,bs,u,s3,P3,hu,hl3,T3,gb,lb,x,y,z,rfl⟩
  simp_all only [zby,zac]
  exact q l ts bs u H3 s3 P3 (Qe) hl3 T3 gb (Qe) (Qe)
theorem zdi:zaB ["_law_left_here","_law_most","_law_found","_law_k","_law_cost","_law_of"] ["_law_left_here","_law_most"] (zag zgr):=⟨rfl,rfl,rfl,by decide +kernel,rfl,by decide +kernel,by decide +kernel⟩
theorem zl0(T:Txt K mg a):zcn P w K mg base CX0 3 a.f__law_boxes a.d__law_boxes ["_law_left_here","_law_most"] zmm:=by
 have G__law_draw:=zdN (P:=P) (w:=w) (base:=base) T
 refine T.F__law_boxes.ok zdi (Qj) (Qd)
 ·obtain⟨p,c,rfl,hP,c1,q⟩:=h
  rfl
 obtain⟨p,c,rfl,hP,c1,q⟩:=h
 exact⟨zgk K,(zaf (zaN (i:=2) zdi.nd rfl (Qf) (zcp zad))
 (zaf (zdJ PassesOwn.never rfl (zdO rfl T.z_range (zaa (zas zce zae (zah G__law_draw (Qa) rfl T.m__law_draw T.F__law_draw.kp T.b__law_draw .nil zax (Qac))) zad)) (zak (i:=3) zdi.nd rfl (Qf))
 (zaf (zaN (i:=4) zdi.nd rfl (Qf) (zas zce zae (zah G__law_draw (Qa) rfl T.m__law_draw T.F__law_draw.kp T.b__law_draw .nil zax (zaa (pv 0) (zaa (zaw zbv (zcp (zaa zae (QbD))) (zah G__law_draw (Qa) rfl T.m__law_draw T.F__law_draw.kp T.b__law_draw .nil zax (zaa (pv 0) (QaB))) (Qp)) zad)))))
 (zaf (zaN (i:=5) zdi.nd rfl (Qf) (zas zce zae (zah G__law_draw (Qa) rfl T.m__law_draw T.F__law_draw.kp T.b__law_draw .nil zax (zaa (pv 0) (zaa (zaw zbv (zcp (QbD)) (zah G__law_draw (Qa) rfl T.m__law_draw T.F__law_draw.kp T.b__law_draw .nil zax (zaa (pv 0) (QaB))) (Qp)) zad)))))
 (zaj (zf8 (zuq PySem.F.plainAttrs_list PySem.F.slot_list_append PySem.F.type_list_append ze7 (pv 2) (zaa (zbE (zaa (pv 4) (zaa (zas zce zae (zah G__law_draw (Qa) rfl T.m__law_draw T.F__law_draw.kp T.b__law_draw .nil zax (zaa (pv 0) (Qa9)))) (Qa9)))) zad)))))))
 (zaj (zar (pv 2))))),
  zlz hP c1 q⟩
inductive ShT (H:Hp):Nat→Tr→V→Prop where
 | int {n:Nat} (i:Int):ShT H n (.int i) (.int i)
 | lst {n:Nat} {p:Addr} {xs:List V} {ts:List Tr} (h:H p=some (.lst xs)) (l:xs.length=ts.length) (b:xs.length≤1000) (e:∀(i:Nat) x t,xs[i]?=some x→ts[i]?=some t→ShT H n t x):ShT H (n+1) (.lst ts) (Qb9)
 | tup {n:Nat} {p:Addr} {xs:List V} {ts:List Tr} (h:H p=some (.tup xs)) (l:xs.length=ts.length) (b:xs.length≤1000) (e:∀(i:Nat) x t,xs[i]?=some x→ts[i]?=some t→ShT H n t x):ShT H (n+1) (.tup ts) (Qb9)
theorem ShT.same{H H':Hp}(s:zaI H H'){n:Nat}{t:Tr}{x:V}(h:ShT H n t x):ShT H' n t x:=by
 induction h with
 | int i=>exact .int i
 | lst h l b _ ih=>exact .lst (s _ _ h) l b ih
 | tup h l b _ ih=>exact .tup (s _ _ h) l b ih
theorem ShT.shows{H:Hp}{K:ψa}{n:Nat}{t:Tr}{x:V}(h:ShT H n t x):zeF K H n t x:=by
 induction h with
 | int i=>exact .int i
 | lst h l b _ ih=>exact .lst (SqL.of h) l ih
 | tup h l b _ ih=>exact .tup (SqT.of h) l ih
def Nw(H H':Hp):Hp:=λa=>match H a with | none=>H' a | some _=>none
theorem zqa{H H':Hp}{a:Addr}{o:HO}(h:H a=none)(h':H' a=some o):Nw H H' a=some o:=by
 unfold Nw
 rw[h]
 exact h'
theorem zsT{H H':Hp}{a:Addr}{o:HO}(h:Nw H H' a=some o):H a=none∧H' a=some o:=by
 unfold Nw at h
 cases e:H a with
 | none =>
  rw[e] at h
  exact⟨rfl,h⟩
 | some x =>
  rw[e] at h
  cases h
theorem zq8{H H':Hp}:zaI (Nw H H') H':=λ_ _ h=>(zsT h).2
def zjr(n:Nat):Sp:=λvs H Q _=>∃(x:V) (t:Tr),vs=[x]∧ShT H n t x∧∀(y:V) (H':Hp),zaI H H'→ShT (Nw H H') n t y→Q y H'
def zsm:Sp:=λ_ _ _ _=>False
def zij:Nat→Sp
 | 0=>zsm
 | n+1=>zjr n
def NwD(H:Hp)(D:Addr)(H':Hp):Hp:=Nw (upd H D (.lst [])) H'
theorem zwf{H H' H2:Hp}{D:Addr}{o:HO}(s:zaI H' H2):zaI (NwD H D H') (NwD H D (upd H2 D o)):=λa x h=>by
 obtain⟨h1,h2⟩:=zsT h
 have n:a≠D:=λe=>by
  subst e
  rw[zai] at h1
  cases h1
 exact zqa h1 (by rw[zbg n];exact s _ _ h2)
theorem zxE{H H' H2:Hp}{D:Addr}{o o':HO}(s0:zaI H H')(hD:H' D=some o'):zaI (Nw H' H2) (NwD H D (upd H2 D o)):=λa x h=>by
 obtain⟨h1,h2⟩:=zsT h
 have n:a≠D:=λe=>by
  subst e
  rw[hD] at h1
  cases h1
 refine zqa ?_ (by rw[zbg n];exact h2)
 rw[zbg n]
 cases e:H a with
 | none=>rfl
 | some y=>exact absurd (s0 _ _ e) (by rw[h1];exact nofun)
theorem ztd{H H':Hp}{D:Addr}:zaI (NwD H D H') (Nw H H'):=λa x h=>by
 obtain⟨h1,h2⟩:=zsT h
 have n:a≠D:=λe=>by
  subst e
  rw[zai] at h1
  cases h1
 rw[zbg n] at h1
 exact zqa h1 h2
theorem zyP{H H':Hp}{l:Addr}{o:HO}(hl:H' l=none):zaI (Nw H H') (Nw H (upd H' l o)):=λa x h=>by
 obtain⟨h1,h2⟩:=zsT h
 have n:a≠l:=λe=>by
  subst e
  rw[hl] at h2
  cases h2
 exact zqa h1 (by rw[zbg n];exact h2)
theorem zu1{a:Addr}{xs:List V}{g:TG}{tt:TT}{te:TE}{σ:St}{D:Addr}(Pv:Nat→List V→St→Hp→Prop)(h0:Pv 0 [] σ (upd H D (.lst [])))(hl:∀i ys σ H,i≤xs.length→Pv i ys σ H→SqT K H a xs)
  (hs:∀i x ys σ H,xs[i]?=some x→H D=some (.lst ys)→Pv i ys σ H→g x σ H λσ2 H2=>tt σ2 H2 λb H3=>if b=true then te σ2 H3 λy H4=>zcA (.ref D) [y] H4 λ_ H5=>∃ys,H5 D=some (.lst ys)∧Pv (i+1) ys σ2 H5 else ∃ys,H3 D=some (.lst ys)∧Pv (i+1) ys σ2 H3)
  (hd:∀ys σ H,H D=some (.lst ys)→Pv xs.length ys σ H→Q (.ref D) H):zge (Itt K a) g tt te D Q σ (upd H D (.lst [])):=by
 refine⟨λi m σ H=>m=xs.length - i∧i≤xs.length∧∃ys,H D=some (.lst ys)∧Pv i ys σ H,⟨_,rfl,ψu1 _,[],zai,h0⟩,?_⟩
 rintro i m σ H ⟨rfl,hi,ys,hD,pv⟩
 have q:=hl i ys σ H hi pv
 by_cases hlt:i<xs.length
 ·refine .inr ⟨⟨xs,xs[i],q,by simp[hlt]⟩,λσ H=>∃ys,H D=some (.lst ys)∧Pv (i+1) ys σ H,λσ' H' p'=>⟨_,by omega,rfl,hlt,p'⟩,λx H' yl=>?_⟩
  obtain⟨e,yl⟩:=yl
  subst e
  exact hs i x ys σ _ (yl xs q) hD pv
 ·have e:i=xs.length:=by omega
  subst e
  exact .inl ⟨⟨xs,q,ψm _⟩,hd ys σ H hD pv⟩
def DpI(H:Hp)(D:Addr)(n:Nat)(ts:List Tr)(i:Nat)(ys:List V)(σ:St)(H':Hp):Prop:=zaI H H'∧ys.length=i∧(∀(j:Nat) y t,ys[j]?=some y→ts[j]?=some t→ShT (NwD H D H') n t y)∧∃x,σ=[x]
theorem DpI.zero{D:Addr}{n:Nat}{ts:List Tr}{x:Option V}(hD:H D=none):DpI H D n ts 0 [] [x] (upd H D (.lst [])):=⟨zan hD _,rfl,λj y t e=>by simp at e,_,rfl⟩
theorem DpI.put{D:Addr}{n:Nat}{ts:List Tr}{i:Nat}{ys:List V}{σ:St}{H' H2:Hp}{x:Option V}{y:V}{t:Tr}(hD:H D=none)(I:DpI H D n ts i ys σ H')(h':H' D=some (.lst ys))(s:zaI H' H2)(ht:ts[i]?=some t)(h:ShT (Nw H' H2) n t y):DpI H D n ts (i+1) (ys++[y]) [x] (upd H2 D (.lst (ys++[y]))):=by
 obtain⟨s0,rfl,a,_⟩:=I
 refine⟨(s0.trans s).put hD,by simp,λj z u e1 e2=>?_,_,rfl⟩
 by_cases c:j<ys.length
 ·rw[ψj1 c] at e1
  exact(a j z u e1 e2).same (zwf s)
 ·rw[ψf1 (Qe)] at e1
  have k:j - ys.length=0:=by
   have:=(Qa8).1
   simp at this
   omega
  have k2:j=ys.length:=by omega
  subst k2
  rw[ht] at e2
  cases e2
  rw[Nat.sub_self] at e1
  cases e1
  exact h.same (zxE s0 h')
def zhy(K:ψa)(nRec:Nat):TS :=
 (zdQ (QW) (zbU (tCB (λxs H Q=>∃p ys,xs=[.ref p]∧((SqL K H p ys∧∀l,H l=none→Q (Qa5) (upd H l (.tup ys)))∨(SqT K H p ys∧Q (Qb9) H))) (zab (zb3 (iTup K (zac 0)) (zam 0) za5 (zaz (zij nRec) [] E0 (QE)) [none]) zau))) zb1)
def zbj(K:ψa)(nRec:Nat):=eqT (zhy.eq_1 K nRec)
def zhz(K:ψa)(nRec:Nat):TS :=
 (zdQ (tB (Qad)) (zbU (zb3 (QaE) (zam 0) za5 (zaz (zij nRec) [] E0 (QE)) [none])) zb1)
def zbk(K:ψa)(nRec:Nat):=eqT (zhz.eq_1 K nRec)
def zdx(K:ψa)(nRec:Nat):TS :=
 (zbd (zdG (zhz K nRec))
 (zbd (zdG (zhy K nRec))
 (zbU (zac 0))))
theorem zeK{n:Nat}{x:V}{t:Tr}(h1:ShT H n t x)(q:∀(y:V) (H':Hp),zaI H H'→ShT (Nw H H') n t y→Q y H') :
  zdx K n { nx:=λ_ H'=>Q .non H',rt:=Q } (L2.start ["_law_thing"] [x]) H:=by
 unfold zdx
 simp_all only [zbj,zbk,zac]
 cases h1 with
 | int i =>
  refine⟨λσ H'=>H'=H∧σ=[some (.int i)],?_,?_⟩
  ·simp_all only [zbj,zbk,zac]
   refine zsp (.int i) (zmQ K) ⟨false,rfl,zcg (Qy) (QaM)⟩
   first | rfl | trivial
  rintro σ H1 ⟨rfl,rfl⟩
  simp_all only [zbj,zbk,zac]
  refine⟨λσ H'=>H'=H1∧σ=[some (.int i)],?_,?_⟩
  ·simp_all only [zbj,zbk,zac]
   refine zsp (.int i) (zle K) ⟨false,rfl,zcg (Qy) (QaM)⟩
   first | rfl | trivial
  rintro σ H2 ⟨rfl,rfl⟩
  simp_all only [zbj,zbk,zac]
  exact q _ _ (QbA) (.int i)
 | @lst n p xs ts h l b e =>
  refine⟨λσ H'=>False,?_,λ_ _ z=>z.elim⟩
  simp_all only [zbj,zbk,zac]
  refine zcI h ⟨true,rfl,zcg (QaM) (QN)⟩
  refine⟨⟨_,SqL.of h⟩,λD hD=>?_⟩
  refine zcT (K:=K) (xs:=xs) (DpI H D n ts) (.zero hD) ?_ ?_ ?_
  ·rintro i ys σ H' _ ⟨s,_⟩
   exact SqL.of (s _ _ h)
  ·rintro i x ys σ H' hx hD' I
   obtain⟨s,ly,a,u,rfl⟩:=id I
   have i1:=(Qa7).1
   have ht:ts[i]?=some (ts[i]'(by omega)):=ψc (Qe)
   simp_all only [zbj,zbk,zac]
   refine⟨x,_,rfl,(e i x _ hx ht).same s,λy H2 s2 h2=>?_⟩
   exact⟨_,s2 _ _ hD',zbF (Qe),_,zai,I.put hD hD' s2 ht h2⟩
  ·rintro ys σ H' hD' ⟨s,ly,a,u,rfl⟩
   refine q _ _ s (.lst (zqa hD hD') (Qe) (Qe) λj y t e1 e2=>?_)
   exact(a j y t e1 e2).same ztd
 | @tup n p xs ts h l b e =>
  refine⟨λσ H'=>H'=H∧σ=[some (Qb9)],?_,?_⟩
  ·simp_all only [zbj,zbk,zac]
   refine zsp (.tup h) (zjZ K) ⟨false,rfl,zcg (Qy) (QaM)⟩
   first | rfl | trivial
  rintro σ H1 ⟨rfl,rfl⟩
  simp_all only [zbj,zbk,zac]
  refine⟨λσ H'=>False,?_,λ_ _ z=>z.elim⟩
  simp_all only [zbj,zbk,zac]
  refine zcK h ⟨true,rfl,zcg (QaM) (QN)⟩
  refine⟨⟨_,SqT.of h⟩,λD hD=>?_⟩
  refine zu1 (K:=K) (xs:=xs) (DpI H1 D n ts) (.zero hD) ?_ ?_ ?_
  ·rintro i ys σ H' _ ⟨s,_⟩
   exact SqT.of (s _ _ h)
  ·rintro i x ys σ H' hx hD' I
   obtain⟨s,ly,a,u,rfl⟩:=id I
   have i1:=(Qa7).1
   have ht:ts[i]?=some (ts[i]'(by omega)):=ψc (Qe)
   simp_all only [zbj,zbk,zac]
   refine⟨x,_,rfl,(e i x _ hx ht).same s,λy H2 s2 h2=>?_⟩
   exact⟨_,s2 _ _ hD',zbF (Qe),_,zai,I.put hD hD' s2 ht h2⟩
  ·rintro ys σ H' hD' ⟨s,ly,a,u,rfl⟩
   refine⟨D,rfl,_,.inl ⟨SqL.of hD',λr hr=>?_⟩⟩
   have hr0:H1 r=none:=by
    cases e:H1 r with
    | none=>rfl
    | some y=>exact absurd (s _ _ e) (by rw[hr];exact nofun)
   refine q _ _ (s.trans (zan hr _)) (.tup (zqa hr0 zai) (Qe) (Qe) λj y t e1 e2=>?_)
   exact((a j y t e1 e2).same ztd).same (zyP hr)
theorem zuo{P:Program}{w:World}{K:ψa}{mg:Str→Option Value}{base:Heap}{CX:CXT}{k:Nat}{f:Addr}{fd:FuncData}{ps:List Str}:zcn P w K mg base CX k f fd ps zsm :=
 ⟨λ_ _ _ _ h=>h.elim,λ_ _ _ _ _ _ _ _ _ _ _ _ _ h=>h.elim⟩
theorem zeM:zaB ["_law_thing"] ["_law_thing"] (zag zb9):=⟨rfl,rfl,rfl,by decide +kernel,rfl,by decide +kernel,by decide +kernel⟩
theorem zj5(T:Txt K mg a):zcn P w K mg base CX0 1 a.f__law_deep a.d__law_deep ["_law_thing"] (zjr 0):=by
 have G__law_deep:zcn P w K mg base CX0 0 a.f__law_deep a.d__law_deep ["_law_thing"] (zij 0):=zuo
 refine T.F__law_deep.ok zeM (Qj) (Qd)
 ·obtain⟨x,t,rfl,h1,q⟩:=h
  rfl
 obtain⟨x,t,rfl,h1,q⟩:=h
 exact⟨zdx K 0,(zaf (QbG)
 (zaf (Qce)
 (QcA))),zeK h1 q⟩
theorem zj2(T:Txt K mg a):zcn P w K mg base CX0 2 a.f__law_deep a.d__law_deep ["_law_thing"] (zjr 1):=by
 have G__law_deep:zcn P w K mg base CX0 1 a.f__law_deep a.d__law_deep ["_law_thing"] (zij 1):=zj5 T
 refine T.F__law_deep.ok zeM (Qj) (Qd)
 ·obtain⟨x,t,rfl,h1,q⟩:=h
  rfl
 obtain⟨x,t,rfl,h1,q⟩:=h
 exact⟨zdx K 1,(zaf (QbG)
 (zaf (Qce)
 (QcA))),zeK h1 q⟩
theorem zkc(T:Txt K mg a):zcn P w K mg base CX0 3 a.f__law_deep a.d__law_deep ["_law_thing"] (zjr 2):=by
 have G__law_deep:zcn P w K mg base CX0 2 a.f__law_deep a.d__law_deep ["_law_thing"] (zij 2):=zj2 T
 refine T.F__law_deep.ok zeM (Qj) (Qd)
 ·obtain⟨x,t,rfl,h1,q⟩:=h
  rfl
 obtain⟨x,t,rfl,h1,q⟩:=h
 exact⟨zdx K 2,(zaf (QbG)
 (zaf (Qce)
 (QcA))),zeK h1 q⟩
theorem znd(T:Txt K mg a):zcn P w K mg base CX0 4 a.f__law_deep a.d__law_deep ["_law_thing"] (zjr 3):=by
 have G__law_deep:zcn P w K mg base CX0 3 a.f__law_deep a.d__law_deep ["_law_thing"] (zij 3):=zkc T
 refine T.F__law_deep.ok zeM (Qj) (Qd)
 ·obtain⟨x,t,rfl,h1,q⟩:=h
  rfl
 obtain⟨x,t,rfl,h1,q⟩:=h
 exact⟨zdx K 3,(zaf (QbG)
 (zaf (Qce)
 (QcA))),zeK h1 q⟩
open HT in
theorem zoT(xs:List V)(k:Nat):znn xs none (some (k:Int))=xs.take k:=by
 unfold znn
 rw[znr,zlI,List.drop_zero,Nat.sub_zero]
 by_cases c:k≤xs.length
 ·rw[Nat.min_eq_left c]
 ·rw[Nat.min_eq_right (Qe),ψQ (ψm _),ψQ (Qe)]
open HT in
theorem zvC(xs:List V)(k:Nat):znn xs (some (k:Int)) none=xs.drop k:=by
 unfold znn
 rw[znr,zlI]
 by_cases c:k≤xs.length
 ·rw[Nat.min_eq_left c]
  exact ψQ (by rw[ψI1];omega)
 ·rw[Nat.min_eq_right (Qe),List.drop_eq_nil_of_le (ψm _),List.drop_eq_nil_of_le (Qe)]
  exact ψQ (Qby)
theorem zrd(xs:List V)(k:Nat):znn xs (some ((k:Int)+1)) none=xs.drop (k+1):=zvC xs (k+1)
theorem Drw.lst{H:Hp}{p:Addr}{c:Int}(h:Drw H p c):∃zs,H p=some (.lst zs):=by
 obtain⟨n,f,hp,_⟩:=h.hp
 exact⟨_,hp⟩
def zjG:Sp:=λvs H Q _=>∃(v p:Addr) (c:Int) (W:Rat),vs=[.ref v,.ref p]∧Drw H p c∧c<1000∧Off p p H v=some (Qag)∧Bq 1300 W∧∀(r:Addr) (W':Rat) (H':Hp),zaI (Qa3) (QaN)→Drw H' p (c+1+1)→Off p p H' r=some (.tup (fr W'))→Bq 2000 W'→Q (Q0) H'
theorem zgi{H:Hp}{p b:Addr}{c:Int}{xs:List V}(P:Drw H p c)(hb:H b=some (.tup xs)):Off p p H b=some (.tup xs):=by
 obtain⟨zs,hp⟩:=P.lst
 have n:b≠p:=λe=>by
  subst e
  rw[hb] at hp
  cases hp
 rw[zha n n]
 exact hb
theorem zyh{m:Nat}{x:Int}(h:Bd m x):Bd m (if x > 0 then x else 0):=by
 by_cases c:x > 0
 ·rw[if_pos c]
  exact h
 ·rw[if_neg c]
  exact h.le (Qe)
def zdA(K:ψa):TS :=
 (zbd (zbO (tOp (zfp K) (zhw (zab (Qh) (zab (tC (.int 10)) (zab (tOp (Qcm) (tC (.int 10)) (tC (.int 30))) zau)))) (zaz zbW [] E0 (zab (zac 1) (zab (Qb4) zau)))) (zam 2))
 (zbU (zaz zmn [] E0 (zab (tCB (QX) (zab (Ql) (zab (tOp (Qv) (tOp (Qc) (QK) (zac 2)) (tOp (zfp K) (zhw (QaP)) (QbH))) zau))) (zab (tOp (Qc) (QB) (zac 2)) zau)))))
theorem zhB{v p:Addr}{c:Int}{W:Rat}(P:Drw H p c)(c1:c<1000)(hv:Off p p H v=some (Qag))(bW:Bq 1300 W)(q:∀(r:Addr) (W':Rat) (H':Hp),zaI (Qa3) (QaN)→Drw H' p (c+1+1)→Off p p H' r=some (.tup (fr W'))→Bq 2000 W'→Q (Q0) H') :
  zdA K { nx:=λ_ H'=>Q .non H',rt:=Q } (L2.start ["_law_worth","_law_left_here","_law_far"] [.ref v,.ref p]) H:=by
 unfold zdA
 have c0:=P.c0
 simp_all only [zac]
 refine⟨⟨by decide,by decide,by decide⟩,by decide,λl hl=>?_⟩
 obtain⟨H1,e1,P1,s1,h1,_⟩:=P.mk2 hl (.lst [.int 1,.int 10,.int 1000000000000000000000000000000])
 rw[← e1]
 refine⟨p,c,3,rfl,P1,by omega,by decide,by decide,λr1 H2 r10 r11 o2 P2=>?_⟩
 obtain⟨far,ef,hf⟩:=at3 (x:=1) (y:=10) (z:=1000000000000000000000000000000) r10 r11
 rw[← o2] at h1 s1
 have hv2:=s1 _ _ hv
 simp_all only [zac]
 refine⟨_,SqL.of (zbx _ _ _ _ _ h1),_,ef,?_⟩
 have bf:Bd 100 far:=by rcases hf with rfl | rfl | rfl <;> exact zsJ (Qn) (Qn)
 have f0:0<far:=by rcases hf with rfl | rfl | rfl <;> decide
 refine⟨_,SqT.of (zbx _ _ _ _ _ hv2),_,rfl,_,rfl,_,rfl,zdg 1300 100 bW.top bf,by decide,λl2 hl2=>?_⟩
 obtain⟨H3,e3,P3,s3,h3,_⟩:=P2.mk2 hl2 (.lst [.int 1,.int (-1)])
 rw[← e3]
 refine⟨p,c+1,2,rfl,P3,by omega,by decide,by decide,λr2 H4 r20 r21 o4 P4=>?_⟩
 obtain⟨d,ed,hd⟩:=at2 (x:=1) (y:=-1) r20 r21
 rw[← o4] at h3 s3
 have hv4:=s3 _ _ hv2
 have bd1:Bd 1400 d:=(show Bd 1 d by rcases hd with rfl | rfl <;> (show(_:Nat)<_;decide)).mono (Qn)
 refine⟨_,_,rfl,SqL.of (zbx _ _ _ _ _ h3),_,ed,_,rfl,_,SqT.of (zbx _ _ _ _ _ hv4),_,rfl,_,rfl,_,rfl,zdg 1300 100 bW.bot bf,?_⟩
 have dp:0<(W.den:Int)*far:=ψv1 (zb4 W) f0
 have bb:Bd 1400 ((W.den:Int)*far):=bW.bot.mul bf
 refine⟨_,_,rfl,dp,bb.mono (Qn),λr H5 s5 h5=>?_⟩
 have P5:=P4.same s5
 have bt:Bd 1401 (if W.num*far+d > 0 then W.num*far+d else 0):=zyh ((bW.top.mul bf).add bd1)
 exact q r _ H5 ((s1.trans s3).trans (zd7 p p s5)) P5 (zgi P5 h5) ((zb8 (Int.ne_of_gt dp) bt (bb.mono (Qn))).mono (Qn))
theorem zeJ:zaB ["_law_worth","_law_left_here","_law_far"] ["_law_worth","_law_left_here"] (zag zdB):=⟨rfl,rfl,rfl,by decide +kernel,rfl,by decide +kernel,by decide +kernel⟩
theorem zhU(T:Txt K mg a):zcn P w K mg base CX0 3 a.f__law_worth_else a.d__law_worth_else ["_law_worth","_law_left_here"] zjG:=by
 have G__law_draw:=zdN (P:=P) (w:=w) (base:=base) T
 have G__law_lowest:=ze2 (P:=P) (w:=w) (base:=base) T
 refine T.F__law_worth_else.ok zeJ (Qj) (Qd)
 ·obtain⟨v,p,c,W,rfl,P,c1,hv,bW,q⟩:=h
  rfl
 obtain⟨v,p,c,W,rfl,P,c1,hv,bW,q⟩:=h
 exact⟨zdA K,(zaf (zaN (i:=2) zeJ.nd rfl (Qf) (zaw zbv (zcp (zaa zae (zaa zae (zaa (zas zsr zae zae) zad)))) (Qr) (Qp)))
 (zaj (zar (zah G__law_lowest (Qa) rfl T.m__law_lowest T.F__law_lowest.kp T.b__law_lowest .nil zax (zaa (zao (zf5 rfl) rfl T.z_max ψr1 (zaa zae (zaa (zas zce (zas zav (Qg) (pv 2)) (zaw zbv (zcp (Qbw)) (Qr) (Qp))) zad))) (zaa (zas zav (Qg) (pv 2)) zad)))))),
  zhB P c1 hv bW q⟩
theorem zjz{n:Nat}(h:n≤100):n≤sizeLine:=ψd1 h (Qn)
theorem zo5{a:Addr}{xs:List V}{k i j:Nat}{te:TE}{σ:St}{G:V→Hp→Prop}(hv:σ[i]?=some (some (.ref a)))(hk:σ[j]?=some (some (.int k)))(ha:H a=some (.lst xs))(lx:xs.length≤90)
  (gs:∀v H1 H2,zaI H1 H2→G v H1→G v H2) (he:∀(H1:Hp) (R:VK),zaI H H1→(∀v H2,zaI H1 H2→G v H2→R v H2)→te σ H1 R)
  (q:∀(r:Addr) (v:V) (H':Hp),zaI H H'→H r=none→G v H'→H' r=some (.lst (xs.take k++[v]++xs.drop (k+1)))→Q (Q0) H') :
  (tOp zlq (tOp zlq (tSl (zl2 K) (zac i) zcy (zfS (zac j))) (zhw (zab te zau))) (tSl (zl2 K) (zac i) (zfS (tOp (Qv) (zac j) (Qh))) zcy)) σ H Q:=by
 simp_all only [zac]
 refine⟨_,hv,_,hk,_,rfl,_,rfl,_,SqL.of ha,λa1 n1=>?_⟩
 rw[zoT]
 have s1:=zan n1 (.lst (xs.take k))
 have h1:(L2.upd H a1 (.lst (xs.take k))) a1=some (.lst (xs.take k)):=zai
 generalize L2.upd H a1 (.lst (xs.take k))=H1 at s1 h1 ⊢
 refine he H1 _ s1 λv H2 s2 g2=>⟨by decide,λa2 n2=>?_⟩
 have s3:=zan n2 (.lst [v])
 have h3:(L2.upd H2 a2 (.lst [v])) a2=some (.lst [v]):=zai
 generalize L2.upd H2 a2 (.lst [v])=H3 at s3 h3 ⊢
 refine⟨_,s3 _ _ (s2 _ _ h1),_,h3,?_,λa3 n3=>?_⟩
 ·exact zjz (by simp;omega)
 have s4:=zan n3 (.lst (xs.take k++[v]))
 have h4:(L2.upd H3 a3 (.lst (xs.take k++[v]))) a3=some (.lst (xs.take k++[v])):=zai
 generalize L2.upd H3 a3 (.lst (xs.take k++[v]))=H4 at s4 h4 ⊢
 have S4:=s1.trans (s2.trans (s3.trans s4))
 refine⟨_,hv,_,hk,_,rfl,_,rfl,_,SqL.of (S4 _ _ ha),λa4 n4=>?_⟩
 rw[zrd]
 have s5:=zan n4 (.lst (xs.drop (k+1)))
 have h5:(L2.upd H4 a4 (.lst (xs.drop (k+1)))) a4=some (.lst (xs.drop (k+1))):=zai
 generalize L2.upd H4 a4 (.lst (xs.drop (k+1)))=H5 at s5 h5 ⊢
 refine⟨_,s5 _ _ h4,_,h5,?_,λa5 n5=>?_⟩
 ·exact zjz (by simp;omega)
 have S5:=S4.trans s5
 exact q a5 v _ (S5.add n5) (S5.free n5) (gs v _ _ ((s3.trans (s4.trans s5)).add n5) g2) zai
theorem if_lt{A B:TS}{D:zk9}{σ:St}{i:Nat}{x y:Int}(h:σ[i]?=some (some (.int x)))(ha:x<y→A D σ H)(hb:¬ x<y→B D σ H):(zdQ (zb5 (tOp (QT) (zac i) (tC (.int y)))) A B) D σ H:=by
 simp_all only [zac]
 refine⟨_,h,_,rfl,?_⟩
 exact zcg ha hb
theorem Tps.take{α:Type}{f:α→List V}{H:Hp}{ts:List Addr}{bs:List α}(h:Tps f H ts bs)(k:Nat):Tps f H (ts.take k) (bs.take k) :=
 ⟨by rw[ψG,ψG,h.1],λi t b e1 e2=>by
  rw[List.getElem?_take] at e1 e2
  by_cases c:i<k
  ·rw[if_pos c] at e1 e2
   exact h.2 i t b e1 e2
  ·rw[if_neg c] at e1
   cases e1⟩
theorem Tps.drop{α:Type}{f:α→List V}{H:Hp}{ts:List Addr}{bs:List α}(h:Tps f H ts bs)(k:Nat):Tps f H (ts.drop k) (bs.drop k) :=
 ⟨by rw[ψI1,ψI1,h.1],λi t b e1 e2=>by
  rw[List.getElem?_drop] at e1 e2
  exact h.2 _ t b e1 e2⟩
structure MxP (H:Hp) (p:Addr) (us:List Addr) (xs:List Mp):Prop where
 tp:Tps (λx=>[mt1 x,mt2 x]) H us xs
 pl:∀x∈xs,H x.1=some (Qbs)∧x.1≠p
theorem MxP.same{H H':Hp}{p:Addr}{us:List Addr}{xs:List Mp}(h:MxP H p us xs)(s:zaI H H'):MxP H' p us xs:=⟨h.tp.same s,λx hx=>⟨s _ _ (h.pl x hx).1,(h.pl x hx).2⟩⟩
theorem MxP.take{H:Hp}{p:Addr}{us:List Addr}{xs:List Mp}(h:MxP H p us xs)(k:Nat):MxP H p (us.take k) (xs.take k):=⟨h.tp.take k,λx hx=>h.pl x (ψb1 hx)⟩
theorem MxP.drop{H:Hp}{p:Addr}{us:List Addr}{xs:List Mp}(h:MxP H p us xs)(k:Nat):MxP H p (us.drop k) (xs.drop k):=⟨h.tp.drop k,λx hx=>h.pl x (ψH1 hx)⟩
theorem MxP.app{H:Hp}{p:Addr}{us vs:List Addr}{xs ys:List Mp}(h:MxP H p us xs)(h2:MxP H p vs ys):MxP H p (us++vs) (xs++ys):=⟨h.tp.app h2.tp,λx hx=>(List.mem_append.mp hx).elim (h.pl x) (h2.pl x)⟩
theorem MxP.one{H:Hp}{p u:Addr}{x:Mp}(h:H u=some (.tup [mt1 x,mt2 x]))(hx:H x.1=some (Qbs))(n:x.1≠p):MxP H p [u] [x]:=⟨Tps.single h,λy hy=>by
 rw[List.mem_singleton.mp hy]
 exact⟨hx,n⟩⟩
theorem MxP.off{H:Hp}{p ml:Addr}{c:Int}{us:List Addr}{xs:List Mp}(P:Drw H p c)(h:MxP H p us xs)(hm:H ml=some (Qbi))(n:ml≠p):MxH (Qa3) ml us xs :=
 ⟨by rw[zha n n];exact hm,⟨h.tp.1,λi t b e1 e2=>zgi P (h.tp.2 i t b e1 e2)⟩,λx hx=>by
  rw[zha (h.pl x hx).2 (h.pl x hx).2]
  exact(h.pl x hx).1⟩
theorem MxH.mxp{H:Hp}{p ml:Addr}{us:List Addr}{xs:List Mp}(h:MxH (Qa3) ml us xs):MxP H p us xs:=⟨h.tp.same (zbx _ _ _),λx hx=>⟨zbx _ _ _ _ _ (h.pl x hx),(zme (h.pl x hx)).1⟩⟩
def GT(n:Nat)(x:Mp):Prop:=x.2.1.length=n∧(∀m∈x.2.1,0≤m∧m≤60)∧1≤x.2.2∧Bd 1800 x.2.2
def GX(n:Nat)(x:Mp):Prop:=x.2.1.length=n∧(∀m∈x.2.1,0≤m∧m≤100)∧1≤x.2.2∧Bd 1900 x.2.2
theorem GT.gx{n:Nat}{x:Mp}(h:GT n x):GX n x:=⟨h.1,λm hm=>⟨(h.2.1 m hm).1,by have:=(h.2.1 m hm).2;omega⟩,h.2.2.1,h.2.2.2.mono (Qn)⟩
theorem GT.times{n:Nat}{x:Mp}(h:GT n x){t:Int}(t1:1≤t)(t5:t≤5):GX n (x.1,x.2.1,t*x.2.2) :=
 ⟨h.1,h.gx.2.1,by
  have:=Int.mul_le_mul t1 h.2.2.1 (Qn) (Qe)
  rw[Int.one_mul] at this
  exact this,(Bd.mul (show Bd 3 t by show t.natAbs<8;omega) h.2.2.2).mono (Qn)⟩
theorem zkz{α β:Type}{g1 g2:α→V}{f:β→List V}{p D:Addr}{us:List Addr}{as:List α}{te:TE}{rest:St}{x0 y0:Option V}{qs:List β}(hp:H p=some (Qbi))(T:Tps (λa=>[g1 a,g2 a]) H us as)(lq:qs.length=as.length)(l6:qs.length≤1000)(hD:H D=none)
  (st:∀(i:Nat) (a:α) (w:β) (H':Hp) (R:VK),as[i]?=some a→qs[i]?=some w→zaI H H'→(∀(r:Addr) (H2:Hp),zaI H' H2→H2 r=some (.tup (f w))→R (Q0) H2)→te (some (g1 a)::some (g2 a)::rest) H' R)
  (hd:∀(vs:List Addr) (H':Hp),zaI H H'→H' D=some (.lst (vs.map V.ref))→Tps f H' vs qs→Q (.ref D) H') :
  zge (Itl K p) (Qk) za5 te D Q (x0::y0::rest) (upd H D (.lst [])):=by
 refine zcT (K:=K) (xs:=us.map V.ref) (λi ys σ H'=>zaI H H'∧(∃vs:List Addr,ys=vs.map V.ref∧Tps f H' vs (qs.take i))∧∃x y,σ=x::y::rest) ⟨zan hD _,⟨[],rfl,Tps.nil⟩,_,_,rfl⟩ ?_ ?_ ?_
 ·rintro i ys σ H' _ ⟨s,_⟩
  exact SqL.of (s _ _ hp)
 ·rintro i x ys σ H' hx hD' ⟨s,⟨vs,rfl,T'⟩,u,v,rfl⟩
  obtain⟨t,ht,rfl⟩:=zat hx
  obtain⟨a,ha1,ha2⟩:=T.at ht
  have i1:=(List.getElem?_eq_some_iff.mp ha1).1
  have hw:qs[i]?=some (qs[i]'(by omega)):=ψc (Qe)
  refine⟨t,_,rfl,SqT.of (s _ _ ha2),rfl,_,_,rfl,_,_,rfl,rfl,?_⟩
  refine st i a _ _ _ ha1 hw s λr H2 s3 h2=>?_
  have hD2:=s3 _ _ hD'
  have rD:r≠D:=λe=>by
   subst e
   rw[h2] at hD2
   cases hD2
  have lu:vs.length≤1000:=by
   have e:=T'.1
   rw[ψG] at e
   omega
  refine⟨D,_,_,rfl,rfl,hD2,zbF (by rw[ψb];exact lu),_,zai,(s.trans s3).put hD,⟨vs++[r],by rw[ψO];rfl,?_⟩,_,_,rfl⟩
  rw[ψx,hw]
  refine T'.put (λy w e=>?_) (by rw[zbg rD];exact h2)
  have nx:y≠D:=λz=>by
   subst z
   rw[e] at hD'
   cases hD'
  rw[zbg nx]
  exact s3 _ _ e
 ·rintro ys σ H' hD' ⟨s,⟨vs,rfl,T'⟩,u,v,rfl⟩
  rw[ψb,T.1,← lq,ψH] at T'
  exact hd vs H' s hD' T'
def zjf(ns:List Int)(i:Nat)(v:Int):List Int:=ns.take i++[v]++ns.drop (i+1)
theorem zfW{ns:List Int}{i:Nat}{v:Int}(h:i<ns.length):(zjf ns i v).length=ns.length:=by
 unfold zjf
 simp
 omega
theorem zjK{ns:List Int}{i:Nat}{v z:Int}(h:z∈zjf ns i v):z=v∨z∈ns:=by
 rcases List.mem_append.mp h with h | h
 ·rcases List.mem_append.mp h with h | h
  ·exact .inr (ψb1 h)
  ·exact .inl (List.mem_singleton.mp h)
 ·exact .inr (ψH1 h)
def zqu(t:Int)(xs:List Mp):List Mp:=xs.map λx=>(x.1,x.2.1,t*x.2.2)
theorem zlY{t:Int}{xs:List Mp}{y:Mp}(h:y∈zqu t xs):∃x∈xs,y=(x.1,x.2.1,t*x.2.2):=by
 obtain⟨x,hx,e⟩:=List.mem_map.mp h
 exact⟨x,hx,e.symm⟩
def zmV:Sp:=λvs H Q _=>∃(ml p:Addr) (n:Nat) (c:Int) (us:List Addr) (xs:List Mp),vs=[.ref ml,.ref p,.int n]∧Drw H p c∧c<1000∧MxH (Qa3) ml us xs∧1≤n∧n≤6∧1≤xs.length∧xs.length≤7∧(∀x∈xs,GT n x)∧∀(r:Addr) (us':List Addr) (xs':List Mp) (c':Int) (H':Hp),zaI (Qa3) (QaN)→Drw H' p c'→c'≤c+3→MxH (QaN) r us' xs'→zjW n xs'→Q (Q0) H'
theorem zlm{H0 H1 H':Hp}{p r:Addr}{c c':Int}{n:Nat}{us:List Addr}{xs:List Mp}(o:Off p p H1=Off p p H0)(P:Drw H1 p c')(s:zaI H1 H')(hr:H' r=some (Qbi))(nr:r≠p)(M:MxP H' p us xs)(l1:1≤xs.length)(l9:xs.length≤9)(g:∀x∈xs,GX n x)(q:∀(r:Addr) (us':List Addr) (xs':List Mp) (c':Int) (H':Hp),zaI (Off p p H0) (QaN)→Drw H' p c'→c'≤c+3→MxH (QaN) r us' xs'→zjW n xs'→Q (Q0) H')(cc:c'≤c+3):Q (Q0) H' :=
 q r us xs c' H' (by rw[← o];exact zd7 p p s) (P.same s) cc (M.off (P.same s) hr nr) ⟨l1,l9,g⟩
def zfk(K:ψa):TS :=
 (zbU (tOp zlq (tOp zlq (Qb1) (zhw (zab (zeG (zab (zac 9) (Qa1))) zau))) (tSl (zl2 K) (zac 0) (zfS (tOp (Qv) (zac 3) (Qh))) zcy)))
def zd4(K:ψa):=eqT (zfk.eq_1 K)
def zfc(K:ψa):TS :=
 (zbd (zbO (tOp zlq (tOp zlq (tSl (zl2 K) (zac 4) zcy (zfS (zac 8))) (zhw (zab (tCB (QX) (zab (Ql) (zab (tOp (Qv) (tOp (zfp K) (zac 4) (zac 8)) (tOp (zfp K) (zhw (QaP)) (tOp (QJ) (zac 6) (Qb4)))) zau))) zau))) (tSl (zl2 K) (zac 4) (zfS (tOp (Qv) (zac 8) (Qh))) zcy)) (zam 9))
 (zfk K))
def zd6(K:ψa):=eqT (zfc.eq_1 K)
def zfl(K:ψa):TS :=
 (zdQ (zb5 (tOp rEq (zac 6) (QV))) (zbU (tOp zlq (zb3 (zcz K (tOp zlq (Qb1) (tSl (zl2 K) (zac 0) (zfS (tOp (Qv) (zac 3) (Qh))) zcy))) (Qk) za5 (zeG (zab (zac 0) (zab (tOp (Qc) (QV) (zac 1)) zau))) [none,none]) (zhw (zab (zeG (zab (zac 4) (Qa1))) (zab (zeG (zab (zac 4) (Qa1))) zau))))) zb1)
def zaL(K:ψa):=eqT (zfl.eq_1 K)
def zfo(K:ψa):TS :=
 (zdQ (zb5 (tOp rEq (zac 6) (Qh))) (zbU (tOp zlq (tSl (zl2 K) (zac 0) (zfS (zac 3)) zcy) (Qb1))) zb1)
def zaM(K:ψa):=eqT (zfo.eq_1 K)
def zfa(K:ψa):TS :=
 (zbd (zdG (zfo K))
 (zbd (zdG (zfl K))
 (zbd (zbO (zaz zbW [] E0 (Qbv)) (zam 8))
 (zfc K))))
def zaJ(K:ψa):=eqT (zfa.eq_1 K)
def ze9(K:ψa):TS :=
 (zdQ (zb5 (tOp rEq (zac 6) (Ql))) (zbd (zbO (tOp (Qv) (Qh) (Qbm)) (zam 7))
 (zbU (zb3 (QaE) (Qk) za5 (zeG (zab (zac 0) (zab (tOp (Qc) (zac 2) (zac 1)) zau))) [none,none,some 7]))) zb1)
def zaK(K:ψa):=eqT (ze9.eq_1 K)
def zeq(K:ψa):TS :=
 (zbd (zbO (zaz zbW [] E0 (zab (zac 1) (zab (Qas) zau))) (zam 3))
 (zbd (zbO (tOp (zfp K) (zac 0) (zac 3)) (zdv K 2 (QbJ)))
 (zbd (zbO (Qbm) (zam 6))
 (zbd (zdG (ze9 K))
 (zfa K)))))
theorem ziF{ml p:Addr}{n:Nat}{c:Int}{us:List Addr}{xs:List Mp}(P:Drw H p c)(c1:c<1000)(M:MxH (Qa3) ml us xs)(n1:1≤n)(n6:n≤6)(x1:1≤xs.length)(x7:xs.length≤7)(g:∀x∈xs,GT n x)(q:∀(r:Addr) (us':List Addr) (xs':List Mp) (c':Int) (H':Hp),zaI (Qa3) (QaN)→Drw H' p c'→c'≤c+3→MxH (QaN) r us' xs'→zjW n xs'→Q (Q0) H') :
  zeq K { nx:=λ_ H'=>Q .non H',rt:=Q } (L2.start ["_law_mix_here","_law_left_here","_law_many","_law_at","_law_plan_here","_law_weight","_law_choice","_law_times_over","_law_k","_law_bent"] [.ref ml,.ref p,.int n]) H:=by
 unfold zeq
 have c0:=P.c0
 have lu:=M.tp.1
 simp_all only [zaL,zaM,zaJ,zaK,zac]
 refine⟨_,.inl (SqL.of (zbx _ _ _ _ _ M.hm)),?_⟩
 rw[ψb,lu]
 refine⟨p,c,_,rfl,P,by omega,by omega,by omega,λr1 H1 r10 r11 o1 P1=>?_⟩
 obtain⟨j,rfl⟩:=ψn1 r10
 rw[← o1] at M
 have hj:j<xs.length:=by omega
 have eu:us[j]?=some (us[j]'(by omega)):=ψc (Qe)
 have ex:xs[j]?=some xs[j]:=ψc hj
 have ht:=M.tp.2 j _ _ eu ex
 generalize us[j]'(by omega)=u at eu ht
 generalize xs[j]=x at ex ht
 have gx:=g x (zap ex)
 simp_all only [zaL,zaM,zaJ,zaK,zac]
 refine⟨_,SqL.of (zbx _ _ _ _ _ M.hm),_,zdj (by rw[ψt,eu];rfl),_,rfl,_,SqT.of (zbx _ _ _ _ _ ht),rfl,_,_,rfl,_,_,rfl,rfl,?_⟩
 refine⟨p,c+1,5,rfl,P1,by omega,by decide,by decide,λch H2 ch0 ch1 o2 P2=>?_⟩
 rw[← o2] at M ht
 have o21:=o2.trans o1
 have Mp0:=M.mxp
 have hm:=zbx _ _ _ _ _ M.hm
 have nm:=(zme M.hm).1
 have hx:=Mp0.pl x (zap ex)
 refine⟨λσ H'=>H'=H2∧ch≠0∧σ=[some (QbB),some (Qb9),some (.int n),some (.int j),some (.ref x.1),some (.int x.2.2),some (.int ch),none,none,none],?_,?_⟩
 ·simp_all only [zaL,zaM,zaJ,zaK,zac]
  refine zcg (λz=>?_) (λz=>z)
  refine⟨p,c+1+1,5,rfl,P2,by omega,by decide,by decide,λt H3 t0 t1 o3 P3=>?_⟩
  rw[← o3] at M
  have M3:=M.mxp
  have hm3:=zbx _ _ _ _ _ M.hm
  obtain⟨zs,hz⟩:=P3.lst
  refine⟨_,rfl,⟨_,SqL.of hm3⟩,λD hD=>?_⟩
  refine zkz (qs:=zqu (1+t) xs) (f:=λx=>[mt1 x,mt2 x]) hm3 M3.tp (by simp[zqu]) (by simp[zqu];omega) hD (λi a w H' R ha hw s k=>?_) λvs H4 s4 h4 T4=>?_
  ·obtain⟨y,ey,rfl⟩:=zat hw
   rw[ha] at ey
   cases ey
   simp_all only [zaL,zaM,zaJ,zaK,zac]
   refine⟨zwy (Qe) (Qe),by decide,λr nr=>?_⟩
   exact k r _ (zan nr _) zai
  ·refine zlm (o3.trans o21) P3 s4 h4 (zaO hz hD).symm ⟨T4,λy hy=>?_⟩ (by simp[zqu];omega) (by simp[zqu];omega) (λy hy=>?_) q (Qe)
   ·obtain⟨w,hw,rfl⟩:=zlY hy
    exact(M3.same s4).pl w hw
   ·obtain⟨w,hw,rfl⟩:=zlY hy
    exact(g w hw).times (Qe) (Qe)
 rintro σ H' ⟨rfl,ch2,rfl⟩
 simp_all only [zaL,zaM,zaJ,zaK,zac]
 obtain⟨zs,hz⟩:=P2.lst
 refine⟨λσ H3=>H3=H'∧ch≠1∧σ=[some (QbB),some (Qb9),some (.int n),some (.int j),some (.ref x.1),some (.int x.2.2),some (.int ch),none,none,none],?_,?_⟩
 ·simp_all only [zaL,zaM,zaJ,zaK,zac]
  refine zcg (λz=>?_) (λz=>z)
  refine⟨_,SqL.of hm,λa1 na1=>?_⟩
  rw[zvC]
  have s3:=zan na1 (.lst ((QI).drop j))
  have h3:(L2.upd H' a1 (.lst ((QI).drop j))) a1=some (.lst ((QI).drop j)):=zai
  generalize L2.upd H' a1 (.lst ((QI).drop j))=H3 at s3 h3 ⊢
  refine⟨_,SqL.of (s3 _ _ hm),λa2 na2=>?_⟩
  rw[zoT]
  have s4:=zan na2 (.lst (Qcv))
  have h4:(L2.upd H3 a2 (.lst (Qcv))) a2=some (.lst (Qcv)):=zai
  generalize L2.upd H3 a2 (.lst (Qcv))=H4 at s4 h4 ⊢
  refine⟨_,s4 _ _ h3,_,h4,?_,λa3 na3=>?_⟩
  ·exact zjz (by simp;omega)
  have s5:=zan na3 (.lst ((QI).drop j++(us.map V.ref).take j))
  have h5:(L2.upd H4 a3 (.lst ((QI).drop j++(us.map V.ref).take j))) a3=some (.lst ((QI).drop j++(us.map V.ref).take j)):=zai
  generalize L2.upd H4 a3 (.lst ((QI).drop j++(us.map V.ref).take j))=H5 at s5 h5 ⊢
  have S:=s3.trans (s4.trans s5)
  have M5:=Mp0.same S
  rw[← List.map_drop,← List.map_take,← ψO] at h5
  refine zlm o21 P2 S h5 (zaO (s4 _ _ (s3 _ _ hz)) na3).symm ((M5.drop j).app (M5.take j)) (by simp;omega) (by simp;omega) (λy hy=>?_) q (Qe)
  exact(g y ((List.mem_append.mp hy).elim ψH1 ψb1)).gx
 rintro σ H3 ⟨rfl,ch3,rfl⟩
 simp_all only [zaL,zaM,zaJ,zaK,zac]
 refine⟨λσ H4=>H4=H3∧ch≠2∧σ=[some (QbB),some (Qb9),some (.int n),some (.int j),some (.ref x.1),some (.int x.2.2),some (.int ch),none,none,none],?_,?_⟩
 ·simp_all only [zaL,zaM,zaJ,zaK,zac]
  refine zcg (λz=>?_) (λz=>z)
  refine⟨_,SqL.of hm,λa1 na1=>?_⟩
  rw[zoT]
  have s4:=zan na1 (.lst (Qcv))
  have h4:(L2.upd H3 a1 (.lst (Qcv))) a1=some (.lst (Qcv)):=zai
  generalize L2.upd H3 a1 (.lst (Qcv))=H4 at s4 h4 ⊢
  refine⟨_,SqL.of (s4 _ _ hm),λa2 na2=>?_⟩
  rw[zrd]
  have s5:=zan na2 (.lst ((QI).drop (j+1)))
  have h5:(L2.upd H4 a2 (.lst ((QI).drop (j+1)))) a2=some (.lst ((QI).drop (j+1))):=zai
  generalize L2.upd H4 a2 (.lst ((QI).drop (j+1)))=H5 at s5 h5 ⊢
  refine⟨_,s5 _ _ h4,_,h5,?_,λa3 na3=>?_⟩
  ·exact zjz (by simp;omega)
  have s6:=zan na3 (.lst ((QI).take j++(us.map V.ref).drop (j+1)))
  have h6:(L2.upd H5 a3 (.lst ((QI).take j++(us.map V.ref).drop (j+1)))) a3=some (.lst ((QI).take j++(us.map V.ref).drop (j+1))):=zai
  generalize L2.upd H5 a3 (.lst ((QI).take j++(us.map V.ref).drop (j+1)))=H6 at s6 h6 ⊢
  have S6:=s4.trans (s5.trans s6)
  have M6:=Mp0.same S6
  rw[← List.map_drop,← List.map_take,← ψO] at h6
  have M7:=(M6.take j).app (M6.drop (j+1))
  have l7:(xs.take j++xs.drop (j+1)).length+1=xs.length:=by simp;omega
  refine⟨⟨_,SqL.of h6⟩,λD hD=>?_⟩
  refine zkz (qs:=zqu 2 (xs.take j++xs.drop (j+1))) (f:=λx=>[mt1 x,mt2 x]) h6 M7.tp (by simp[zqu]) (by rw[show(zqu 2 (xs.take j++xs.drop (j+1))).length=(xs.take j++xs.drop (j+1)).length by simp[zqu]];omega) hD (λi a w H' R ha hw s k=>?_) λvs H7 s7 h7 T7=>?_
  ·obtain⟨y,ey,rfl⟩:=zat hw
   rw[ha] at ey
   cases ey
   simp_all only [zaL,zaM,zaJ,zaK,zac]
   refine⟨zwy (Qe) (Qe),by decide,λr nr=>?_⟩
   exact k r _ (zan nr _) zai
  refine⟨by decide,λb1 nb1=>?_⟩
  have s8:=zan nb1 (QbR)
  have h8:(L2.upd H7 b1 (QbR)) b1=some (.tup [V.ref x.1,V.int x.2.2]):=zai
  generalize L2.upd H7 b1 (.tup [V.ref x.1,V.int x.2.2])=H8 at s8 h8 ⊢
  refine⟨by decide,λb2 nb2=>?_⟩
  have s9:=zan nb2 (QbR)
  have h9:(L2.upd H8 b2 (QbR)) b2=some (.tup [V.ref x.1,V.int x.2.2]):=zai
  generalize L2.upd H8 b2 (.tup [V.ref x.1,V.int x.2.2])=H9 at s9 h9 ⊢
  refine⟨by decide,λb3 nb3=>?_⟩
  have sa:=zan nb3 (.lst [V.ref b1,V.ref b2])
  have ha:(L2.upd H9 b3 (.lst [V.ref b1,V.ref b2])) b3=some (.lst [V.ref b1,V.ref b2]):=zai
  generalize L2.upd H9 b3 (.lst [V.ref b1,V.ref b2])=Ha at sa ha ⊢
  have S10:=s8.trans (s9.trans sa)
  have lv:vs.length≤6:=by
   have e1:=T7.1
   have e2:(zqu 2 (xs.take j++xs.drop (j+1))).length=(xs.take j++xs.drop (j+1)).length:=by simp[zqu]
   omega
  refine⟨_,rfl,_,S10 _ _ h7,_,ha,?_,λb4 nb4=>?_⟩
  ·exact zjz (by simp;omega)
  have sb:=zan nb4 (.lst (vs.map V.ref++[V.ref b1,V.ref b2]))
  have hb:(L2.upd Ha b4 (.lst (vs.map V.ref++[V.ref b1,V.ref b2]))) b4=some (.lst (vs.map V.ref++[V.ref b1,V.ref b2])):=zai
  generalize L2.upd Ha b4 (.lst (vs.map V.ref++[V.ref b1,V.ref b2]))=Hb at sb hb ⊢
  have hb':Hb b4=some (.lst ((vs++[b1]++[b2]).map V.ref)):=by rw[hb];simp
  have S11:=S10.trans sb
  have S12:=S6.trans (s7.trans S11)
  have hxb:=S12 _ _ hx.1
  refine zlm o21 P2 S12 hb' (zaO (S10 _ _ (s7 _ _ (S6 _ _ hz))) nb4).symm (((MxP.mk (T7.same S11) λy hy=>?_).app (.one (x:=x) (sb _ _ (sa _ _ (s9 _ _ h8))) hxb hx.2)).app (.one (x:=x) (sb _ _ (sa _ _ h9)) hxb hx.2)) (Qby) (by have:=T7.1;simp;omega) (λy hy=>?_) q (Qe)
  ·obtain⟨w,hw,rfl⟩:=zlY hy
   exact(M7.same (s7.trans S11)).pl w hw
  ·rcases List.mem_append.mp hy with hy | hy
   ·rcases List.mem_append.mp hy with hy | hy
    ·obtain⟨w,hw,rfl⟩:=zlY hy
     exact(g w ((List.mem_append.mp hw).elim ψb1 ψH1)).times (Qn) (Qn)
    ·rw[List.mem_singleton.mp hy]
     exact gx.gx
   ·rw[List.mem_singleton.mp hy]
    exact gx.gx
 rintro σ H4 ⟨rfl,ch4,rfl⟩
 simp_all only [zaL,zaM,zaJ,zaK,zac]
 refine⟨p,c+1+1,n,rfl,P2,by omega,by omega,by omega,λk H5 k0 k1 o5 P5=>?_⟩
 obtain⟨i,rfl⟩:=ψn1 k0
 rw[← o5] at M
 have M5:=M.mxp
 have hm5:=zbx _ _ _ _ _ M.hm
 have hx5:=M5.pl x (zap ex)
 obtain⟨zs5,hz5⟩:=P5.lst
 have lx:x.2.1.length=n:=gx.1
 have em:x.2.1[i]?=some (x.2.1[i]'(by omega)):=ψc (Qe)
 generalize x.2.1[i]'(by omega)=m at em
 have gm:=gx.2.1 m (zap em)
 obtain⟨d,ed,hd⟩:=at2 (x:=1) (y:=-1) (r:=ch - 3) (Qe) (Qe)
 have gv:0≤(if m+d > 0 then m+d else 0)∧(if m+d > 0 then m+d else 0)≤100:=by
  split <;> omega
 (try simp only);first | rw[zd4] | rw[zd6]
 refine zo5 (i:=4) (j:=8) (k:=i) (G:=λu _=>u=.int (if m+d > 0 then m+d else 0)) rfl rfl hx5.1 (by rw[ψb];omega) (λ_ _ _ _ e=>e) (λH6 R s6 k=>?_) (λa6 u Hb Sb fb e hb=>?_)
 ·simp_all only [zaL,zaM,zaJ,zaK,zac]
  refine⟨_,SqL.of (s6 _ _ hx5.1),_,zdj (by rw[ψt,em];rfl),by decide,λa2 na2=>?_⟩
  exact⟨_,SqL.of zai,_,ed,_,rfl,_,rfl,k _ _ (zan na2 _) rfl⟩
 subst e
 generalize (if m+d > 0 then m+d else 0)=v at gv hb
 have hb':Hb a6=some (.lst ((zjf x.2.1 i v).map V.int)):=by rw[hb];simp[zjf]
 simp_all only [zaL,zaM,zaJ,zaK,zac]
 (try simp only);first | rw[zd4] | rw[zd6]
 refine zo5 (i:=0) (j:=3) (k:=j) (G:=λu H=>∃e,u=.ref e∧H e=some (.tup [.ref a6,.int x.2.2])) rfl rfl (Sb _ _ hm5) (by rw[ψb];omega) (λ_ _ _ s e=>e.imp λ_ z=>⟨z.1,s _ _ z.2⟩) (λH6 R s6 k=>?_) (λb6 u Hh Sg fg e hh=>?_)
 ·simp_all only [zaL,zaM,zaJ,zaK,zac]
  exact⟨by decide,λe fe=>k _ _ (zan fe _) ⟨e,rfl,zai⟩⟩
 obtain⟨b2,rfl,hd2⟩:=e
 have S:=Sb.trans Sg
 have hh':Hh b6=some (.lst ((us.take j++[b2]++us.drop (j+1)).map V.ref)):=by rw[hh];simp
 have Mh:=M5.same S
 have ln:(zjf x.2.1 i v).length=n:=by rw[zfW (Qe),lx]
 have a6p:a6≠p:=(zaO hz5 fb).symm
 refine zlm (o5.trans o21) P5 S hh' (zaO (Sb _ _ hz5) fg).symm (((Mh.take j).app (.one (x:=(a6,zjf x.2.1 i v,x.2.2)) hd2 (Sg _ _ hb') a6p)).app (Mh.drop (j+1))) (by simp;omega) (by simp;omega) (λy hy=>?_) q (Qe)
 rcases List.mem_append.mp hy with hy | hy
 ·rcases List.mem_append.mp hy with hy | hy
  ·exact(g y (ψb1 hy)).gx
  ·rw[List.mem_singleton.mp hy]
   exact⟨ln,λz hz=>(zjK hz).elim (λe=>by rw[e];exact gv) (gx.gx.2.1 z),gx.gx.2.2⟩
 ·exact(g y (ψH1 hy)).gx
theorem zbN:zaB ["_law_mix_here","_law_left_here","_law_many","_law_at","_law_plan_here","_law_weight","_law_choice","_law_times_over","_law_k","_law_bent"] ["_law_mix_here","_law_left_here","_law_many"] (zag zcL):=⟨rfl,rfl,rfl,by decide +kernel,rfl,by decide +kernel,by decide +kernel⟩
theorem ziP(T:Txt K mg a):zcn P w K mg base CX0 3 a.f__law_mix_else a.d__law_mix_else ["_law_mix_here","_law_left_here","_law_many"] zmV:=by
 have G__law_draw:=zdN (P:=P) (w:=w) (base:=base) T
 refine T.F__law_mix_else.ok zbN (Qj) (Qd)
 ·obtain⟨ml,p,n,c,us,xs,rfl,P,c1,M,n1,n6,x1,x7,g,q⟩:=h
  rfl
 obtain⟨ml,p,n,c,us,xs,rfl,P,c1,M,n1,n6,x1,x7,g,q⟩:=h
 exact⟨zeq K,(zaf (zaN (i:=3) zbN.nd rfl (Qf) (zah G__law_draw (Qa) rfl T.m__law_draw T.F__law_draw.kp T.b__law_draw .nil zax (zaa (pv 1) (zaa (Qu) zad))))
 (zaf (zcY (zaw zbv (pv 0) (pv 3) (Qp)) (zbu rfl (zal (zak (i:=4) zbN.nd rfl (Qf)) (zal (zak (i:=5) zbN.nd rfl (Qf)) za3))))
 (zaf (zaN (i:=6) zbN.nd rfl (Qf) (Qr))
 (zaf (zbs (zbP (zbb zhd (pv 6) zae (za4 _)) (zaf (zaN (i:=7) zbN.nd rfl (Qbd) (zas zce zae (Qr)))
 (zaj (zar (zbi (sc:=zag zcL) (N:=["_law_mix_here","_law_left_here","_law_many","_law_at","_law_plan_here","_law_weight","_law_choice","_law_times_over","_law_k","_law_bent"]) (Nc:=["_law_one","_law_other","_law_times_over"]) (cap:=[none,none,some 7]) rfl rfl rfl (Qi) (Qbk) (λ_ _ _ _=>(zbu rfl (zal (zak (i:=0) (show ψh (["_law_one","_law_other","_law_times_over"]:List Str) from by decide) rfl (Qf)) (zal (zak (i:=1) (show ψh (["_law_one","_law_other","_law_times_over"]:List Str) from by decide) rfl (Qf)) za3)))) (QF) (λ_ _ _ _=>(zbE (zaa (pv 0) (zaa (zas zav (pv 2) (pv 1)) zad)))))))) zaR))
 (zaf (zbs (zbP (zbb zhd (pv 6) zae (za4 _)) (zaj (zar (zas zeo (zcD zdk (pv 0) (zdp (pv 3)) zdr) (Qco)))) zaR))
 (zaf (zbs (zbP (zbb zhd (pv 6) zae (za4 _)) (zaj (zar (zas zeo (zbi (sc:=zag zcL) (N:=["_law_mix_here","_law_left_here","_law_many","_law_at","_law_plan_here","_law_weight","_law_choice","_law_times_over","_law_k","_law_bent"]) (Nc:=["_law_one","_law_other"]) (cap:=[none,none]) rfl rfl rfl (Qi) (zbl (zas zeo (Qco) (zcD zdk (pv 0) (zdp (zas zce (pv 3) zae)) zdr))) (λ_ _ _ _=>(zbu rfl (zal (zak (i:=0) (show ψh (["_law_one","_law_other"]:List Str) from by decide) rfl (Qf)) (zal (zak (i:=1) (show ψh (["_law_one","_law_other"]:List Str) from by decide) rfl (Qf)) za3)))) (QF) (λ_ _ _ _=>(zbE (zaa (pv 0) (zaa (zas zav zae (pv 1)) zad))))) (zcp (zaa (zbE (zaa (pv 4) (Qa9))) (zaa (zbE (zaa (pv 4) (Qa9))) zad)))))) zaR))
 (zaf (zaN (i:=8) zbN.nd rfl (Qf) (zah G__law_draw (Qa) rfl T.m__law_draw T.F__law_draw.kp T.b__law_draw .nil zax (QbI)))
 (zaf (zaN (i:=9) zbN.nd rfl (Qf) (zas zeo (zas zeo (zcD zdk (pv 4) zdr (zdp (pv 8))) (zcp (zaa (zao (zf5 rfl) rfl T.z_max ψr1 (zaa zae (zaa (zas zce (zaw zbv (pv 4) (pv 8) (Qp)) (zaw zbv (zcp (Qbw)) (zas zc4 (pv 6) zae) (Qp))) zad))) zad))) (zcD zdk (pv 4) (zdp (zas zce (pv 8) zae)) zdr)))
 (zaj (zar (zas zeo (zas zeo (Qco) (zcp (zaa (zbE (zaa (pv 9) (Qa9))) zad))) (zcD zdk (pv 0) (zdp (zas zce (pv 3) zae)) zdr)))))))))))),
  ziF P c1 M n1 n6 x1 x7 g q⟩
structure PpT (H:Hp) (pr:Addr) (n:Nat) (Ws:List Int) (P:Rat) (ns:List Int):Prop where
 ex:∃wl pp cl:Addr,H pr=some (Q3)∧H wl=some (QaI)∧H pp=some (Qbq)∧H cl=some (QS)
 lw:Ws.length=n
 ln:ns.length=n
 w0:∀w∈Ws,1≤w
 wb:∀w∈Ws,Bd 2700 w
 n0:∀m∈ns,0≤m∧m≤60
 p0:0≤P
 pb:Bq 2700 P
theorem PpT.same{H H':Hp}{pr:Addr}{n:Nat}{Ws:List Int}{P:Rat}{ns:List Int}(h:PpT H pr n Ws P ns)(s:zaI H H'):PpT H' pr n Ws P ns:=by
 obtain⟨wl,pp,cl,a1,a2,a3,a4⟩:=h.ex
 exact⟨⟨wl,pp,cl,s _ _ a1,s _ _ a2,s _ _ a3,s _ _ a4⟩,h.lw,h.ln,h.w0,h.wb,h.n0,h.p0,h.pb⟩
theorem PpT.pph{H:Hp}{pr:Addr}{n:Nat}{Ws:List Int}{P:Rat}{ns:List Int}(h:PpT H pr n Ws P ns):PpH H pr n Ws P ns :=
 ⟨h.ex,h.lw,h.ln,λw hw=>by have:=h.w0 w hw;omega,λw hw=>(h.wb w hw).mono (Qn),λm hm=>⟨(h.n0 m hm).1,by have:=(h.n0 m hm).2;omega⟩,h.p0,h.pb.mono (Qn)⟩
theorem zmj{t b:Int}(h:0≤t)(hb:0<b):0≤ψy t b:=by
 rw[Rat.divInt_nonneg_iff_of_pos_right hb]
 exact h
theorem zvt{P:Rat}(h:0≤P):0≤P.num:=Rat.num_nonneg.mpr h
def zjC:Sp:=λvs H Q _=>∃(pr p:Addr) (n:Nat) (c:Int) (Ws ns:List Int) (P:Rat),vs=[.ref pr,.ref p,.int n]∧Drw H p c∧c<1000∧PpT (Qa3) pr n Ws P ns∧1≤n∧n≤6∧∀(r:Addr) (Ws' ns':List Int) (P':Rat) (c':Int) (H':Hp),zaI (Qa3) (QaN)→Drw H' p c'→c'≤c+4→PpH (QaN) r n Ws' P' ns'→Q (Q0) H'
theorem zlk{H0 H1 H':Hp}{p r wl pp cl:Addr}{c c':Int}{n:Nat}{Ws ns:List Int}{P:Rat}(o:Off p p H1=Off p p H0)(D:Drw H1 p c')(s:zaI H1 H')(hr:H' r=some (Q3))(hw:H' wl=some (QaI))(nw:wl≠p)(hp:H' pp=some (Qbq))(hc:H' cl=some (QS))(nc:cl≠p)(lw:Ws.length=n)(ln:ns.length=n)(w0:∀w∈Ws,0≤w∧Bd 2800 w)(n0:∀m∈ns,0≤m∧m≤100)(p0:0≤P)(pb:Bq 2800 P)(cc:c'≤c+4)(q:∀(r:Addr) (Ws' ns':List Int) (P':Rat) (c':Int) (H':Hp),zaI (Off p p H0) (QaN)→Drw H' p c'→c'≤c+4→PpH (QaN) r n Ws' P' ns'→Q (Q0) H'):Q (Q0) H' :=
 q r Ws ns P c' H' (by rw[← o];exact zd7 p p s) (D.same s) cc ⟨⟨wl,pp,cl,zgi (D.same s) hr,by rw[zha nw nw];exact hw,zgi (D.same s) hp,by rw[zha nc nc];exact hc⟩,lw,ln,λw h=>(w0 w h).1,λw h=>(w0 w h).2,n0,p0,pb⟩
def zeE(K:ψa):TS :=
 (zbU (zeG (zab (zac 3) (zab (zac 4) (zab (tOp zlq (tOp zlq (tSl (zl2 K) (zac 5) zcy (zfS (zac 6))) (zhw (zab (tCB (QX) (zab (Ql) (zab (tOp (Qv) (tOp (zfp K) (zac 5) (zac 6)) (tOp (zfp K) (zhw (QaP)) (tOp (QJ) (zac 7) (tC (.int 4))))) zau))) zau))) (tSl (zl2 K) (zac 5) (zfS (tOp (Qv) (zac 6) (Qh))) zcy)) zau)))))
def zaQ(K:ψa):=eqT (zeE.eq_1 K)
def zem(K:ψa):TS :=
 (zdQ (zb5 (tOp rEq (zac 7) (Qb4))) (zbU (zeG (zab (zac 3) (zab (zaz zmn [] E0 (zab (tOp (Qv) (tOp (zbC K) (zac 4) (Ql)) (QbH)) (zab (tOp (Qv) (tOp (zbC K) (zac 4) (Qh)) (QbH)) zau))) (Qa1))))) zb1)
def zaS(K:ψa):=eqT (zem.eq_1 K)
def zej:TS :=
 (zbU (zeG (zab (zac 3) (zab (zac 4) (Qa1)))))
def zfR:=eqT (zej.eq_1)
def zew(K:ψa):TS :=
 (zdQ (zb5 (tOp (QT) (zac 7) (Qb4))) (zbd (zbO (tOp zlq (tOp zlq (tSl (zl2 K) (zac 3) zcy (zfS (zac 6))) (zhw (zab (tOp (Qv) (tOp (zfp K) (zac 3) (zac 6)) (tOp (zfp K) (zhw (zab (Qh) (zab (tOp (QJ) (Ql) (tCB (λxs H Q=>∃i j,xs=[.int i,.int j]∧Q (.int (if j<i then j else i)) H) (zab (Qh) (zab (tOp (zfp K) (zac 3) (zac 6)) zau)))) zau))) (tOp (QJ) (zac 7) (Qh)))) zau))) (tSl (zl2 K) (zac 3) (zfS (tOp (Qv) (zac 6) (Qh))) zcy)) (zam 3))
 (zej)) zb1)
def zaG(K:ψa):=eqT (zew.eq_1 K)
def zez(K:ψa):TS :=
 (zdQ (zb5 (tOp rEq (zac 7) (Ql))) (zbd (zbO (tOp (Qv) (Qh) (Qbm)) (zam 8))
 (zbU (zeG (zab (zb3 (zcz K (zac 3)) (zam 0) za5 (tOp (Qc) (zac 1) (zac 0)) [none,some 8]) (zab (zaz zmn [] E0 (zab (tOp (Qc) (zac 8) (tOp (zbC K) (zac 4) (Ql))) (zab (tOp (zbC K) (zac 4) (Qh)) zau))) (Qa1)))))) zb1)
def zaP(K:ψa):=eqT (zez.eq_1 K)
def zdw(K:ψa):TS :=
 (zbd (zbO (zac 0) (zdv K 3 (zaH (zam 3) (QbJ))))
 (zbd (zbO (zaz zbW [] E0 (Qbv)) (zam 6))
 (zbd (zbO (zaz zbW [] E0 (zab (zac 1) (zab (tC (.int 6)) zau))) (zam 7))
 (zbd (zdG (zez K))
 (zbd (zdG (zew K))
 (zbd (zdG (zem K))
 (zeE K)))))))
theorem zhS{pr p:Addr}{n:Nat}{c:Int}{Ws ns:List Int}{P:Rat}(D:Drw H p c)(c1:c<1000)(A:PpT (Qa3) pr n Ws P ns)(n1:1≤n)(n6:n≤6)(q:∀(r:Addr) (Ws' ns':List Int) (P':Rat) (c':Int) (H':Hp),zaI (Qa3) (QaN)→Drw H' p c'→c'≤c+4→PpH (QaN) r n Ws' P' ns'→Q (Q0) H') :
  zdw K { nx:=λ_ H'=>Q .non H',rt:=Q } (L2.start ["_law_paper","_law_left_here","_law_many","_law_weights","_law_price_here","_law_counts","_law_k","_law_choice","_law_times_over"] [.ref pr,.ref p,.int n]) H:=by
 unfold zdw
 have c0:=D.c0
 obtain⟨⟨wl,pp,cl,a1,a2,a3,a4⟩,lw,ln,w1,wb,n0,p0,pb⟩:=A
 have nw:=(zme a2).1
 have nc:=(zme a4).1
 have wx:∀w∈Ws,0≤w∧Bd 2800 w:=λw hw=>⟨by have:=w1 w hw;omega,(wb w hw).mono (Qn)⟩
 have nx:∀m∈ns,0≤m∧m≤100:=λm hm=>⟨(n0 m hm).1,by have:=(n0 m hm).2;omega⟩
 simp_all only [zaQ,zaS,zaG,zaP,zac]
 refine⟨_,SqT.of (zbx _ _ _ _ _ a1),rfl,_,_,rfl,_,_,rfl,_,_,rfl,rfl,?_⟩
 refine⟨p,c,n,rfl,D,by omega,by omega,by omega,λk H1 k0 k1 o1 D1=>?_⟩
 obtain⟨i,rfl⟩:=ψn1 k0
 refine⟨p,c+1,6,rfl,D1,by omega,by decide,by decide,λch H2 ch0 ch1 o2 D2=>?_⟩
 have o21:=o2.trans o1
 rw[← o21] at a1 a2 a3 a4
 have h1:=zbx _ _ _ _ _ a1
 have h2:=zbx _ _ _ _ _ a2
 have h3:=zbx _ _ _ _ _ a3
 have h4:=zbx _ _ _ _ _ a4
 obtain⟨zs,hz⟩:=D2.lst
 refine⟨λσ H'=>H'=H2∧ch≠0∧σ=[some (QcC),some (Qb9),some (.int n),some (.ref wl),some (.ref pp),some (.ref cl),some (.int i),some (.int ch),none],?_,?_⟩
 ·simp_all only [zaQ,zaS,zaG,zaP,zac]
  refine zcg (λz=>?_) (λz=>z)
  refine⟨p,c+1+1,5,rfl,D2,by omega,by decide,by decide,λt H3 t0 t1 o3 D3=>?_⟩
  rw[← o3] at a2 a3 a4
  have g2:=zbx _ _ _ _ _ a2
  have g3:=zbx _ _ _ _ _ a3
  have g4:=zbx _ _ _ _ _ a4
  obtain⟨zs3,hz3⟩:=D3.lst
  simp_all only [zaQ,zaS,zaG,zaP,zac]
  refine⟨⟨_,SqL.of g2⟩,λE hE=>?_⟩
  refine zcx (vs:=(Ws.map λw=>(1+t)*w).map V.int) g2 (Qby) (by simp;omega) hE (Qal) λH4 s4 h4'=>?_
  ·obtain⟨m,em,rfl⟩:=zat hx
   obtain⟨w,ew,rfl⟩:=zat hv
   obtain⟨m',em',rfl⟩:=zat ew
   rw[em] at em'
   cases em'
   simp_all only [zaQ,zaS,zaG,zaP,zac]
   exact⟨zwy (Qe) (Qe),k _ (QbA)⟩
  refine⟨_,SqT.of (s4 _ _ g3),_,rfl,_,rfl,zwy (Qe) (Qe),_,SqT.of (s4 _ _ g3),_,rfl,_,_,rfl,zb4 P,pb.bot.mono (Qn),λr1 H5 s5 h5=>?_⟩
  refine(Qbc)
  have s6:=zan nr (.tup [V.ref E,V.ref r1,V.ref cl])
  have h6:(L2.upd H5 r (.tup [V.ref E,V.ref r1,V.ref cl])) r=some (.tup [V.ref E,V.ref r1,V.ref cl]):=zai
  generalize L2.upd H5 r (.tup [V.ref E,V.ref r1,V.ref cl])=H6 at s6 h6 ⊢
  have S:=s4.trans (s5.trans s6)
  have bt:Bd 2800 ((1+t)*P.num):=(Bd.mul (show Bd 3 (1+t) by show(1+t).natAbs<8;omega) pb.top).mono (Qn)
  refine zlk (o3.trans o21) D3 S h6 (s6 _ _ (s5 _ _ h4')) (zaO hz3 hE).symm (s6 _ _ h5) (S _ _ g4) nc (by simp[lw]) ln (λw hw=>?_) nx (zmj (ψY1 (Qe) (zvt p0)) (zb4 P)) (zb8 (zcC P) bt (pb.bot.mono (Qn))) (Qe) q
  obtain⟨y,hy,rfl⟩:=List.mem_map.mp hw
  exact⟨ψY1 (Qe) (wx y hy).1,(Bd.mul (show Bd 3 (1+t) by show(1+t).natAbs<8;omega) (wb y hy)).mono (Qn)⟩
 rintro σ H' ⟨rfl,ch2,rfl⟩
 simp_all only [zaQ,zaS,zaG,zaP,zac]
 have ew:Ws[i]?=some (Ws[i]'(by omega)):=ψc (Qe)
 have en:ns[i]?=some (ns[i]'(by omega)):=ψc (Qe)
 generalize Ws[i]'(by omega)=w at ew
 generalize ns[i]'(by omega)=m at en
 have gw1:=w1 w (zap ew)
 have gwb:=wb w (zap ew)
 have gm:=n0 m (zap en)
 refine⟨λσ H3=>H3=H'∧3≤ch∧σ=[some (QcC),some (Qb9),some (.int n),some (.ref wl),some (.ref pp),some (.ref cl),some (.int i),some (.int ch),none],?_,?_⟩
 ·rw[zaG]
  refine if_lt rfl (λz=>?_) (λz=>⟨rfl,by omega,rfl⟩)
  obtain⟨d,ed,hd⟩:=at2 (x:=1) (y:=0 - 1) (r:=ch - 1) (Qe) (Qe)
  have em1:(if w<1 then w else 1)=1:=if_neg (Qe)
  refine zo5 (i:=3) (j:=6) (k:=i) (G:=λu _=>u=.int (w+d)) rfl rfl h2 (by rw[ψb];omega) (λ_ _ _ _ e=>e) (λH3 R s3 k=>?_) (λe6 u H8 S8 f8 e g8=>?_)
  ·simp_all only [zaQ,zaS,zaG,zaP,zac]
   have g2:=SqL.of (K:=K) (s3 _ _ h2)
   refine⟨_,g2,_,zdj (by rw[ψt,ew];rfl),_,g2,_,zdj (by rw[ψt,ew];rfl),_,rfl,by decide,λe2 ne2=>?_⟩
   rw[em1]
   exact⟨_,SqL.of zai,_,ed,_,rfl,_,rfl,k _ _ (zan ne2 _) rfl⟩
  subst e
  have g8':H8 e6=some (.lst ((zjf Ws i (w+d)).map V.int)):=by rw[g8];simp[zjf]
  simp_all only [zaQ,zaS,zaG,zaP,zac]
  (try simp only);first | rw[zfR]
  simp_all only [zaQ,zaS,zaG,zaP,zac]
  refine(Qbc)
  have s9:=zan nr (.tup [V.ref e6,V.ref pp,V.ref cl])
  have g9:(L2.upd H8 r (.tup [V.ref e6,V.ref pp,V.ref cl])) r=some (.tup [V.ref e6,V.ref pp,V.ref cl]):=zai
  generalize L2.upd H8 r (.tup [V.ref e6,V.ref pp,V.ref cl])=H9 at s9 g9 ⊢
  have S:=S8.trans s9
  have bd1:Bd 2700 d:=(show Bd 1 d by rcases hd with rfl | rfl <;> (show(_:Nat)<_;decide)).mono (Qn)
  refine zlk o21 D2 S g9 (s9 _ _ g8') (zaO hz f8).symm (S _ _ h3) (S _ _ h4) nc (by rw[zfW (Qe),lw]) ln (λy hy=>(zjK hy).elim (λe=>?_) (wx y)) nx p0 (pb.mono (Qn)) (Qe) q
  rw[e]
  exact⟨by omega,(gwb.add bd1).mono (Qn)⟩
 rintro σ H3 ⟨rfl,ch3,rfl⟩
 simp_all only [zaQ,zaS,zaG,zaP,zac]
 refine⟨λσ H4=>H4=H3∧ch≠3∧σ=[some (QcC),some (Qb9),some (.int n),some (.ref wl),some (.ref pp),some (.ref cl),some (.int i),some (.int ch),none],?_,?_⟩
 ·simp_all only [zaQ,zaS,zaG,zaP,zac]
  refine zcg (λz=>?_) (λz=>z)
  refine⟨_,SqT.of h3,_,rfl,p,c+1+1,2,rfl,D2,by omega,by decide,by decide,λd1 H4 d10 d11 o4 D4=>⟨_,rfl,_,rfl,?_⟩⟩
  rw[← o4] at a2 a3 a4
  refine⟨_,SqT.of (zbx _ _ _ _ _ a3),_,rfl,p,c+1+1+1,2,rfl,D4,by omega,by decide,by decide,λd2 H5 d20 d21 o5 D5=>⟨_,rfl,_,rfl,?_⟩⟩
  rw[← o5] at a2 a3 a4
  have g2:=zbx _ _ _ _ _ a2
  have g4:=zbx _ _ _ _ _ a4
  have dp:=zb4 P
  have bt:Bd 2701 (P.num+d1):=pb.top.add ((show Bd 1 d1 by show d1.natAbs<2;omega).mono (Qn))
  have bb:Bd 2701 ((P.den:Int)+d2):=pb.bot.add ((show Bd 1 d2 by show d2.natAbs<2;omega).mono (Qn))
  refine⟨_,_,rfl,by omega,bb.mono (Qn),λr1 H6 s6 g6=>(Qbc)⟩
  have s7:=zan nr (.tup [V.ref wl,V.ref r1,V.ref cl])
  have g7:(L2.upd H6 r (.tup [V.ref wl,V.ref r1,V.ref cl])) r=some (.tup [V.ref wl,V.ref r1,V.ref cl]):=zai
  generalize L2.upd H6 r (.tup [V.ref wl,V.ref r1,V.ref cl])=H7 at s7 g7 ⊢
  have S:=s6.trans s7
  exact zlk (o5.trans (o4.trans o21)) D5 S g7 (S _ _ g2) nw (s7 _ _ g6) (S _ _ g4) nc lw ln wx nx (zmj (by have:=zvt p0;omega) (Qe)) ((zb8 (Qe) bt bb).mono (Qn)) (Qe) q
 rintro σ H4 ⟨rfl,ch4,rfl⟩
 obtain⟨d,ed,hd⟩:=at2 (x:=1) (y:=-1) (r:=ch - 4) (Qe) (Qe)
 have gv:0≤(if m+d > 0 then m+d else 0)∧(if m+d > 0 then m+d else 0)≤100:=by
  split <;> omega
 refine Exists.intro (.ref wl) (And.intro rfl (Exists.intro (.ref pp) (And.intro rfl ?_)))
 refine zo5 (i:=5) (j:=6) (k:=i) (G:=λu _=>u=.int (if m+d > 0 then m+d else 0)) rfl rfl h4 (by rw[ψb];omega) (λ_ _ _ _ e=>e) (λH5 R s5 k=>?_) (λe6 u Ha Sa fa e ga=>?_)
 ·simp_all only [zaQ,zaS,zaG,zaP,zac]
  refine⟨_,SqL.of (s5 _ _ h4),_,zdj (by rw[ψt,en];rfl),by decide,λa2 na2=>?_⟩
  exact⟨_,SqL.of zai,_,ed,_,rfl,_,rfl,k _ _ (zan na2 _) rfl⟩
 subst e
 generalize (if m+d > 0 then m+d else 0)=v at gv ga
 have ga':Ha e6=some (.lst ((zjf ns i v).map V.int)):=by rw[ga];simp[zjf]
 refine And.intro (show 3≤sizeLine by decide) λr nr=>?_
 have sb:=zan nr (.tup [V.ref wl,V.ref pp,V.ref e6])
 have gb:(L2.upd Ha r (.tup [V.ref wl,V.ref pp,V.ref e6])) r=some (.tup [V.ref wl,V.ref pp,V.ref e6]):=zai
 generalize L2.upd Ha r (.tup [V.ref wl,V.ref pp,V.ref e6])=Hb at sb gb ⊢
 have S:=Sa.trans sb
 exact zlk o21 D2 S gb (S _ _ h2) nw (S _ _ h3) (sb _ _ ga') (zaO hz fa).symm lw (by rw[zfW (Qe),ln]) wx (λy hy=>(zjK hy).elim (λe=>by rw[e];exact gv) (nx y)) p0 (pb.mono (Qn)) (Qe) q
theorem zbD:zaB ["_law_paper","_law_left_here","_law_many","_law_weights","_law_price_here","_law_counts","_law_k","_law_choice","_law_times_over"] ["_law_paper","_law_left_here","_law_many"] (zag zcW):=⟨rfl,rfl,rfl,by decide +kernel,rfl,by decide +kernel,by decide +kernel⟩
theorem zhA(T:Txt K mg a):zcn P w K mg base CX0 3 a.f__law_paper_else a.d__law_paper_else ["_law_paper","_law_left_here","_law_many"] zjC:=by
 have G__law_draw:=zdN (P:=P) (w:=w) (base:=base) T
 have G__law_lowest:=ze2 (P:=P) (w:=w) (base:=base) T
 refine T.F__law_paper_else.ok zbD (Qj) (Qd)
 ·obtain⟨pr,p,n,c,Ws,ns,P,rfl,D,c1,A,n1,n6,q⟩:=h
  rfl
 obtain⟨pr,p,n,c,Ws,ns,P,rfl,D,c1,A,n1,n6,q⟩:=h
 exact⟨zdw K,(zaf (zcY (pv 0) (zbu rfl (zal (zak (i:=3) zbD.nd rfl (Qf)) (zal (zak (i:=4) zbD.nd rfl (Qf)) (zal (zak (i:=5) zbD.nd rfl (Qf)) za3)))))
 (zaf (zaN (i:=6) zbD.nd rfl (Qf) (zah G__law_draw (Qa) rfl T.m__law_draw T.F__law_draw.kp T.b__law_draw .nil zax (QbI)))
 (zaf (zaN (i:=7) zbD.nd rfl (Qf) (Qr))
 (zaf (zbs (zbP (zbb zhd (pv 7) zae (za4 _)) (zaf (zaN (i:=8) zbD.nd rfl (Qbd) (zas zce zae (Qr)))
 (zaj (zar (zbE (zaa (zbi (sc:=zag zcW) (N:=["_law_paper","_law_left_here","_law_many","_law_weights","_law_price_here","_law_counts","_law_k","_law_choice","_law_times_over"]) (Nc:=["_law_one","_law_times_over"]) (cap:=[none,some 8]) rfl rfl rfl (Qi) (zbl (pv 3)) (λ_ _ _ _=>(zak (i:=0) (show ψh (["_law_one","_law_times_over"]:List Str) from by decide) rfl (Qf))) (QF) (λ_ _ _ _=>(zas zav (pv 1) (pv 0)))) (zaa (zah G__law_lowest (Qa) rfl T.m__law_lowest T.F__law_lowest.kp T.b__law_lowest .nil zax (zaa (zas zav (pv 8) (Qcg)) (zaa (Qcg) zad))) (Qa9))))))) zaR))
 (zaf (zbs (zbP (zbb zjv (pv 7) zae (za4 _)) (zaf (zaN (i:=3) zbD.nd rfl (Qf) (zas zeo (zas zeo (zcD zdk (pv 3) zdr (zdp (pv 6))) (zcp (zaa (zas zce (zaw zbv (pv 3) (pv 6) (Qp)) (zaw zbv (zcp (zaa zae (zaa (zas zc4 zae (zao (zsg rfl) rfl T.z_min PyProof.Rows.boot_min (zaa zae (zaa (zaw zbv (pv 3) (pv 6) (Qp)) zad)))) zad))) (zas zc4 (pv 7) zae) (Qp))) zad))) (zcD zdk (pv 3) (zdp (zas zce (pv 6) zae)) zdr)))
 (zaj (zar (zbE (zaa (pv 3) (zaa (pv 4) (Qa9))))))) zaR))
 (zaf (zbs (zbP (zbb zhd (pv 7) zae (za4 _)) (zaj (zar (zbE (zaa (pv 3) (zaa (zah G__law_lowest (Qa) rfl T.m__law_lowest T.F__law_lowest.kp T.b__law_lowest .nil zax (zaa (zas zce (Qcg) (Qr)) (zaa (zas zce (Qcg) (Qr)) zad))) (Qa9)))))) zaR))
 (zaj (zar (zbE (zaa (pv 3) (zaa (pv 4) (zaa (zas zeo (zas zeo (zcD zdk (pv 5) zdr (zdp (pv 6))) (zcp (zaa (zao (zf5 rfl) rfl T.z_max ψr1 (zaa zae (zaa (zas zce (zaw zbv (pv 5) (pv 6) (Qp)) (zaw zbv (zcp (Qbw)) (zas zc4 (pv 7) zae) (Qp))) zad))) zad))) (zcD zdk (pv 5) (zdp (zas zce (pv 6) zae)) zdr)) zad)))))))))))),
  zhS D c1 A n1 n6 q⟩
def inT(ns:List Int):Tr:=.lst (ns.map Tr.int)
def shT(x:List Int×Int):Tr:=.tup [inT x.1,.int x.2]
def zzi(xs:List Pw):Tr:=.lst (xs.map shT)
def papT(Ws:List Int)(P:Rat)(ns:List Int):Tr:=.tup [inT Ws,.tup [.int P.num,.int (P.den:Int)],inT ns]
def boxT(bs:List Box):Tr:=.lst (bs.map λb=>.tup [.int b.1,.int b.2.1,.int b.2.2])
theorem zov{H:Hp}{n:Nat}{p:Addr}{ns:List Int}(h:H p=some (QS))(l:ns.length≤1000):ShT H (n+1) (inT ns) (.ref p):=by
 refine .lst h (by rw[ψb,ψb]) (by rw[ψb];exact l) λi x t e1 e2=>?_
 obtain⟨a,ha,rfl⟩:=zat e1
 obtain⟨b,hb,rfl⟩:=zat e2
 rw[ha] at hb
 cases hb
 exact .int _
theorem zzZ{α:Type}{a b x:α}{i:Nat}(e:[a,b][i]?=some x):(i=0∧x=a)∨(i=1∧x=b):=by
 match i,e with
 | 0,e=>cases e;exact .inl ⟨rfl,rfl⟩
 | 1,e=>cases e;exact .inr ⟨rfl,rfl⟩
theorem zoN{α:Type}{a b c x:α}{i:Nat}(e:[a,b,c][i]?=some x):(i=0∧x=a)∨(i=1∧x=b)∨(i=2∧x=c):=by
 match i,e with
 | 0,e=>cases e;exact .inl ⟨rfl,rfl⟩
 | 1,e=>cases e;exact .inr (.inl ⟨rfl,rfl⟩)
 | 2,e=>cases e;exact .inr (.inr ⟨rfl,rfl⟩)
theorem zvT{H:Hp}{n:Nat}{p:Addr}{x y:V}{s t:Tr}(h:H p=some (.tup [x,y]))(hx:ShT H n s x)(hy:ShT H n t y):ShT H (n+1) (.tup [s,t]) (.ref p):=by
 refine .tup h rfl (Qby) λi v u e1 e2=>?_
 rcases zzZ e1 with ⟨rfl,rfl⟩ | ⟨rfl,rfl⟩ <;> cases e2
 ·exact hx
 ·exact hy
theorem zpp{H:Hp}{n:Nat}{p:Addr}{x y z:V}{s t u:Tr}(h:H p=some (.tup [x,y,z]))(hx:ShT H n s x)(hy:ShT H n t y)(hz:ShT H n u z):ShT H (n+1) (.tup [s,t,u]) (.ref p):=by
 refine .tup h rfl (Qby) λi v w e1 e2=>?_
 rcases zoN e1 with ⟨rfl,rfl⟩ | ⟨rfl,rfl⟩ | ⟨rfl,rfl⟩ <;> cases e2
 ·exact hx
 ·exact hy
 ·exact hz
theorem zmY{H:Hp}{n:Nat}{p:Addr}{x y z:V}{s t u:Tr}(h:H p=some (.lst [x,y,z]))(hx:ShT H n s x)(hy:ShT H n t y)(hz:ShT H n u z):ShT H (n+1) (.lst [s,t,u]) (.ref p):=by
 refine .lst h rfl (Qby) λi v w e1 e2=>?_
 rcases zoN e1 with ⟨rfl,rfl⟩ | ⟨rfl,rfl⟩ | ⟨rfl,rfl⟩ <;> cases e2
 ·exact hx
 ·exact hy
 ·exact hz
theorem zvA{H:Hp}{ml:Addr}{us:List Addr}{xs:List Mp}{n:Nat}(M:MxH H ml us xs)(g:zjW n xs)(n6:n≤6):ShT H 3 (zzi (QM)) (.ref ml):=by
 have lu:=M.tp.1
 refine .lst M.hm (by simp[lu]) (by have:=g.2.1;rw[ψb];omega) λi x t e1 e2=>?_
 obtain⟨u,eu,rfl⟩:=zat e1
 obtain⟨y,ey,rfl⟩:=zat e2
 obtain⟨z,ez,rfl⟩:=zat ey
 have hx:=zap ez
 exact zvT (M.tp.2 i u z eu ez) (zov (M.pl z hx) (by have:=(g.2.2 z hx).1;omega)) (.int _)
theorem zvU{H:Hp}{pr:Addr}{n m:Nat}{Ws ns:List Int}{P:Rat}(A:PpH H pr n Ws P ns)(n6:n≤6):ShT H (m+3) (papT Ws P ns) (.ref pr):=by
 obtain⟨wl,pp,cl,a1,a2,a3,a4⟩:=A.ex
 exact zpp a1 (zov a2 (by have:=A.lw;omega)) (zvT a3 (.int _) (.int _)) (zov a4 (by have:=A.ln;omega))
theorem zvZ{H:Hp}{l:Addr}{ts:List Addr}{bs:List Box}{m:Nat}(B:Bx6 H l ts bs):ShT H (m+2) (boxT bs) (.ref l):=by
 have lt:=B.hb.1
 refine .lst B.hl (by simp[lt]) (by have:=B.l6;rw[ψb];omega) λi x t e1 e2=>?_
 obtain⟨u,eu,rfl⟩:=zat e1
 obtain⟨b,eb,rfl⟩:=zat e2
 exact zpp (B.hb.2 i u b eu eb) (.int _) (.int _) (.int _)
theorem zpG{H:Hp}{n:Nat}{i:Int}{v:V}(h:ShT H n (.int i) v):v=.int i:=by
 cases h
 rfl
theorem zns{H:Hp}{n:Nat}{ns:List Int}{v:V}(h:ShT H n (inT ns) v):∃p,v=.ref p∧H p=some (.lst (Qcx)):=by
 unfold inT at h
 cases h with
 | @lst n p xs ts h l b e =>
  refine⟨p,rfl,?_⟩
  have:xs=ns.map V.int:=by
   refine List.ext_getElem? λi=>?_
   rw[ψb] at l
   by_cases c:i<ns.length
   ·have e1:xs[i]?=some (xs[i]'(by omega)):=ψc (Qe)
    have e2:ns[i]?=some (ns[i]'c):=ψc c
    have z:=zpG (e i _ (.int (ns[i]'c)) e1 (by rw[ψt,e2];rfl))
    rw[e1,z,ψt,e2]
    rfl
   ·rw[ψS1 (Qe),ψS1 (by rw[ψb];omega)]
  rw[h,this]
theorem zvP{H:Hp}{n:Nat}{s t:Tr}{v:V}(h:ShT H (n+1) (.tup [s,t]) v):∃p x y,v=.ref p∧H p=some (.tup [x,y])∧ShT H n s x∧ShT H n t y:=by
 cases h with
 | @tup n p xs ts h l b e =>
  match xs,l with
  | [x,y],_=>exact⟨p,x,y,rfl,h,e 0 x s rfl rfl,e 1 y t rfl rfl⟩
theorem zuV{H:Hp}{n:Nat}{s t u:Tr}{v:V}(h:ShT H (n+1) (.tup [s,t,u]) v):∃p x y z,v=.ref p∧H p=some (.tup [x,y,z])∧ShT H n s x∧ShT H n t y∧ShT H n u z:=by
 cases h with
 | @tup n p xs ts h l b e =>
  match xs,l with
  | [x,y,z],_=>exact⟨p,x,y,z,rfl,h,e 0 x s rfl rfl,e 1 y t rfl rfl,e 2 z u rfl rfl⟩
theorem zre{H:Hp}:∀(xs:List Pw) (vs:List V),vs.length=xs.length→(∀(i:Nat) v t,vs[i]?=some v→(xs.map shT)[i]?=some t→ShT H 2 t v)→∃(us:List Addr) (ys:List Mp),vs=us.map V.ref∧ys.map (λx=>x.2)=xs∧Tps (λx=>[mt1 x,mt2 x]) H us ys∧∀y∈ys,H y.1=some (.lst (y.2.1.map V.int))
 | [],[],_,_=>⟨[],[],rfl,rfl,Tps.nil,by simp⟩
 | x::xs,v::vs,l,e=>by
  obtain⟨us,ys,e1,e2,e3,e4⟩:=zre xs vs (by simpa using l) λi w t z1 z2=>e (i+1) w t (by simpa using z1) (by simpa using z2)
  obtain⟨p,a,b,rfl,h,ha,hb⟩:=zvP (e 0 v (shT x) rfl rfl)
  obtain⟨q,rfl,hq⟩:=zns ha
  have eb:=zpG hb
  subst eb
  have T0:Tps (λx:Mp=>[mt1 x,mt2 x]) H [p] [(q,x.1,x.2)]:=Tps.single h
  refine⟨p::us,(q,x.1,x.2)::ys,by rw[e1];rfl,by rw[ψu,e2],T0.app e3,λy hy=>?_⟩
  rcases List.mem_cons.mp hy with rfl | hy
  ·exact hq
  ·exact e4 y hy
theorem zyQ{H:Hp}{xs:List Pw}{v:V}(h:ShT H 3 (zzi xs) v):∃(ml:Addr) (us:List Addr) (ys:List Mp),v=.ref ml∧MxH H ml us ys∧ys.map (λx=>x.2)=xs:=by
 unfold zzi at h
 cases h with
 | @lst n p vs ts h l b e =>
  obtain⟨us,ys,rfl,e2,e3,e4⟩:=zre xs vs (by rw[l,ψb]) e
  exact⟨p,us,ys,rfl,⟨h,e3,e4⟩,e2⟩
theorem zzE{H:Hp}{n:Nat}{Ws ns:List Int}{P:Rat}{v:V}(h:ShT H 3 (papT Ws P ns) v)(lw:Ws.length=n)(ln:ns.length=n)(w0:∀w∈Ws,0≤w)(wb:∀w∈Ws,Bd 2800 w)(n0:∀m∈ns,0≤m∧m≤100)(p0:0≤P)(pb:Bq 2800 P):∃pr,v=.ref pr∧PpH H pr n Ws P ns:=by
 obtain⟨p,x,y,z,rfl,h,hx,hy,hz⟩:=zuV h
 obtain⟨wl,rfl,hw⟩:=zns hx
 obtain⟨pp,a,b,rfl,hp,ha,hb⟩:=zvP hy
 obtain⟨cl,rfl,hc⟩:=zns hz
 have e1:=zpG ha
 have e2:=zpG hb
 subst e1
 subst e2
 exact⟨p,rfl,⟨wl,pp,cl,h,hw,hp,hc⟩,lw,ln,w0,wb,n0,p0,pb⟩
theorem zvq(xs:List Mp):okM xs=(xs.map λx=>x.2).all λy=>okP y.1:=by
 unfold okM
 rw[List.all_map]
 rfl
theorem zwE{n:Nat}{xs ys:List Mp}(e:ys.map (λx=>x.2)=xs.map λx=>x.2)(g:zjW n xs):zjW n ys:=by
 have l:ys.length=xs.length:=by
  have:=congrArg List.length e
  simpa using this
 refine⟨by rw[l];exact g.1,by rw[l];exact g.2.1,λy hy=>?_⟩
 have:y.2∈xs.map λx=>x.2:=by
  rw[← e]
  exact List.mem_map.mpr ⟨y,hy,rfl⟩
 obtain⟨x,hx,ex⟩:=List.mem_map.mp this
 rw[← ex]
 exact g.2.2 x hx
theorem zlK:∀l:List Int,(∀w∈l,1≤w)→(l.length:Int)≤l.sum
 | [],_=>by simp
 | w::l,h=>by
  have ih:=zlK l λx hx=>h x (Qbr)
  have:=h w ψf
  rw[ψk,ψM]
  omega
theorem zvQ{xs:List Pw}(l:1≤xs.length)(h:∀x∈xs,1≤x.2):0<wsm xs:=by
 have:=zlK (QM) λw hw=>by
  obtain⟨x,hx,rfl⟩:=List.mem_map.mp hw
  exact h x hx
 rw[ψb] at this
 show 0<(xs.map λx=>x.2).sum
 omega
theorem zoR.only{bs:List Box}{bud:Int}{W V P P':Rat}{xs:List Pw}{ys:List Mp}{Ws ns Ws' ns':List Int}(T:zoR bs bud W xs Ws P ns)(gb:∀b∈bs,GB b)(l1:1≤bs.length)(g:zjW bs.length ys)(S:zqs bs bud V (ys.map λx=>x.2))(lw:Ws'.length=bs.length)(ln:ns'.length=bs.length)(w0:∀w∈Ws',0≤w)(n0:∀m∈ns',0≤m∧m≤100)(p0:0≤P')(ok:okH Ws' ns'=true)(Hd:zqn bs bud V Ws' P' ns'):V=W:=by
 unfold okH at ok
 rw[ψL] at ok
 refine Rat.le_antisymm ?_ ?_
 ·refine zmL gb S T.hide (λx hx=>?_) (zvQ (by rw[ψb];exact g.1) λx hx=>?_) (λw hw=>by have:=(T.ww w hw).1;omega) ?_ T.lw T.ln (λn hn=>(T.nn n hn).1) T.p0
  ·obtain⟨y,hy,rfl⟩:=List.mem_map.mp hx
   obtain⟨a1,a2,a3,_⟩:=g.2.2 y hy
   exact⟨a1,λm hm=>(a2 m hm).1,by omega⟩
  ·obtain⟨y,hy,rfl⟩:=List.mem_map.mp hx
   exact(g.2.2 y hy).2.2.1
  ·have:=zlK Ws λw hw=>(T.ww w hw).1
   have:=T.lw
   omega
 ·exact zmL gb T.seek Hd (λx hx=>⟨(T.pl x hx).1,λm hm=>((T.pl x hx).2 m hm).1,by have:=(T.xw x hx).1;omega⟩) (zvQ T.x1 λx hx=>(T.xw x hx).1) w0 (of_decide_eq_true ok.1) lw ln (λn hn=>(n0 n hn).1) p0
def zvo(K:ψa):Sp:=λvs H Q _=>∃(p:Addr) (ns:List Int),vs=[.ref p]∧SqL K H p (Qcx)∧ns.length≤63∧(∀x∈ns,x.natAbs<2 ^ 2 ^ 20)∧∀H',Q (Qb0) H'
def zq9(K:ψa):TS :=
 (zdQ (tOr (zb5 (tOp (zwM K) (zaz zoW [] E0 (zab (tOp (zfp K) (zac 12) (Ql)) (zab (zac 4) (zab (zac 8) (zab (tOp (zfp K) (zac 12) (Qh)) (zab (tOp (zfp K) (zac 12) (QV)) zau)))))) (zac 11))) (zzV (zb5 (tOp (λx y H Q=>y=.non∧Q (.bl (decide (x=.non))) H) (zac 11) (tC .non))) (zb5 (tOp (rNeT K) (zac 8) (Q4))))) (QC) zb1)
def zbr(K:ψa):=eqT (zq9.eq_1 K)
def zie(K:ψa):TS :=
 (zbd (zbO (zhw (zab (tCB (Qt) (QO)) (zab (zaz (zjr 3) [] E0 (zab (zac 9) zau)) (zab (zaz (zjr 3) [] E0 (zab (zac 10) zau)) zau)))) (zam 12))
 (zbd (zdG (zq9 K))
 (zdQ (zb5 (tOp (rNeD K) (zac 12) (zhw (zab (zac 3) (zab (zac 9) (zab (zac 10) zau)))))) (QC) zb1)))
def zbp(K:ψa):=eqT (zie.eq_1 K)
def zjt:TS :=
 (zdQ (zfe (tB (zaz zlH [] E0 (zab (zac 3) (zab (zac 4) (zab (zac 8) (zab (zac 9) zau))))))) (zbO (zeG (zab (tC (.str "seeker")) zau)) (zam 11)) zb1)
def zbm:=eqT (zjt.eq_1)
def zjc:TS :=
 (zdQ (zfe (tB (zaz zox [] E0 (zab (zac 3) (zab (zac 4) (zab (zac 8) (zab (zac 10) zau))))))) (zbO (zeG (zab (tC (.str "hider")) zau)) (zam 11)) zb1)
def zbo:=eqT (zjc.eq_1)
def zqE(K:ψa):TS :=
 (zll (zcz K (tOp zlq (zac 7) (zhw (zab (zeG (zab (Q4) (zab (Qah) (zab (tOp (zbC K) (zac 6) (QV)) zau)))) (zab (zeG (zab (tOp (zbC K) (zac 6) (Ql)) (zab (tOp (zbC K) (zac 6) (Qh)) (QaX)))) zau))))) (zdv K 3 (zaH (zam 8) (QbC)))
 (zbd (zbO (tC .non) (zam 11))
 (zbd (zdG (zjc))
 (zbd (zdG (zjt))
 (zie K)))))
def zgF(K:ψa):=eqT (zqE.eq_1 K)
def zqH(K:ψa):TS :=
 (zbd (zbO (tOp zlq (zac 7) (zhw (zab (zeG (zab (zaz zjG [] E0 (zab (Q4) (Qan))) (zab (Qah) (QaX)))) (zab (zeG (zab (Q4) (zab (tOp (zbC K) (zac 6) (Qh)) (QaX)))) zau)))) (zam 7))
 (zqE K))
def zgG(K:ψa):=eqT (zqH.eq_1 K)
def zqx(K:ψa):TS :=
 (zbd (zkj (tBM K "list" zcA (zac 7) (zab (zeG (zab (Q4) (zab (Qah) (zab (zaz zjC [] E0 (zab (tOp (zbC K) (zac 5) (QV)) (zab (zac 2) (zab (tCB (Qb) (QO)) zau)))) zau)))) zau)))
 (zqH K))
def zgE(K:ψa):=eqT (zqx.eq_1 K)
def zrG(K:ψa):TS :=
 (zbd (zbO (zhw (zab (zac 5) (zab (zeG (zab (Q4) (zab (zaz zmV [] E0 (zab (Qah) (zab (zac 2) (zab (tCB (Qb) (QO)) zau)))) (QaX)))) zau))) (zam 7))
 (zqx K))
def zgI(K:ψa):=eqT (zrG.eq_1 K)
def zk4(K:ψa):TS :=
 (zbd (zbO (zaz zfJ [] E0 (zab (tCB (Qt) (QO)) (zab (tCB (QX) (zab (Ql) (zab (tOp (QJ) (zac 4) (zaz zbW [] E0 (zab (zac 2) (zab (QV) zau)))) zau))) zau))) (zam 6))
 (zrG K))
def zbq(K:ψa):=eqT (zk4.eq_1 K)
def zkO(K:ψa):TS :=
 (zdQ (zzV (zb5 (tOp rEq (tCB (zt2 K) (zab (zb3 (zcz K (zac 3)) (zam 0) za5 (QK) [none]) zau)) (Qh))) (zb5 (tOp (QZ) (tCB (zt2 K) (zab (zb3 (zcz K (Qah)) (Qk) za5 (tCB (zmO K) (QE)) [none,none]) zau)) (zac 4)))) (QC) zb1)
def zbn(K:ψa):=eqT (zkO.eq_1 K)
def ziT(K:ψa):TS :=
 (zdQ (tOr (zb5 (tOp (QZ) (tCB (Qb) (zab (Qah) zau)) (tOp (Qv) (tCB (Qb) (QO)) (Qh)))) (zfe (tB (zaz zn0 [] E0 (zab (Q4) zau))))) (QC) zb1)
def zbc(K:ψa):=eqT (ziT.eq_1 K)
def ziV(K:ψa):TS :=
 (zdQ (tOr (zfe (tB (zaz zlH [] E0 (zab (zac 3) (zab (zac 4) (zab (Q4) (zab (Qah) zau))))))) (zfe (tB (zaz zox [] E0 (zab (zac 3) (zab (zac 4) (zab (Q4) (QaX)))))))) (QC) zb1)
def zbf(K:ψa):=eqT (ziV.eq_1 K)
def zlJ(K:ψa):TS :=
 (zbd (zbO (zaz (zvz K) [] E0 (zab (zhw (QD)) (zab (Ql) zau))) (zam 2))
 (zbd (zbO (zaz zmm [] E0 (zab (zac 2) (zab (tC (.int 6)) zau))) (zam 3))
 (zbd (zbO (zaz zbW [] E0 (zab (zac 2) (zab (tOp (zfp K) (zhw (zab (tC (.int 6)) (zab (tC (.int 61)) zau))) (zaz zbW [] E0 (zab (zac 2) (zab (QV) zau)))) zau))) (zam 4))
 (zbd (zbO (zaz zfJ [] E0 (zab (tCB (Qt) (QO)) (QaQ))) (zam 5))
 (zbd (zdG (ziV K))
 (zbd (zdG (ziT K))
 (zbd (zdG (zkO K))
 (zk4 K))))))))
def zbe(K:ψa):=eqT (zlJ.eq_1 K)
def zw0(K:ψa):TS :=
 (zbd (zll (zcz K (tOp zlq (zhw (zab (Ql) zau)) (tSl (zl2 K) (zac 0) zcy (zfS (tC (.int 20)))))) (zam 1)
 (zlJ K))
 (zbU (tC (Qb0))))
structure Trp (H:Hp) (n:Nat) (v ml pr:Addr) (W P:Rat) (us:List Addr) (xs:List Mp) (Ws ns:List Int):Prop where
 hv:H v=some (Qag)
 bW:Bq 2000 W
 M:MxH H ml us xs
 g:zjW n xs
 A:PpH H pr n Ws P ns
theorem Trp.same{H H':Hp}{n:Nat}{v ml pr:Addr}{W P:Rat}{us:List Addr}{xs:List Mp}{Ws ns:List Int}(h:Trp H n v ml pr W P us xs Ws ns)(s:zaI H H'):Trp H' n v ml pr W P us xs Ws ns:=⟨s _ _ h.hv,h.bW,h.M.same s,h.g,h.A.same s⟩
def DueH(h:Prop)(H:Hp)(v:V):Prop:=(h∧v=.non)∨(¬ h∧∃r,v=.ref r∧H r=some (.tup [.str "hider"]))
abbrev s26(p0 p l r:Addr)(cell bud:Int)(x6 x7 x8 x9 xa xb xc:Option V):St:=[some (.ref p0),some (.int cell),some (Qb9),some (Qa5),some (Qbt),some (Q0),x6,x7,x8,x9,xa,xb,xc]
theorem zlB{H:Hp}{K:ψa}{r:Addr}{x:Str}(h:H r=some (.tup [.str x])):zeF K H 1 (.tup [.str x]) (.ref r):=by
 refine .tup (SqT.of h) rfl λi v t e1 e2=>?_
 match i,e1,e2 with
 | 0,e1,e2 =>
  cases e1
  cases e2
  exact .str x
theorem Jdg.same{s h:Prop}{H H':Hp}{v:V}(S:zaI H H')(j:Jdg s h H v):Jdg s h H' v:=by
 rcases j with z | ⟨a,r,e,hr⟩ | ⟨a,b,r,e,hr⟩
 ·exact .inl z
 ·exact .inr (.inl ⟨a,r,e,S _ _ hr⟩)
 ·exact .inr (.inr ⟨a,b,r,e,S _ _ hr⟩)
theorem Jdg.alike{s h R:Prop}{v w:V}(j:Jdg s h H v)(k:Jdg s h H w)(q:Q (.bl false) H)(q2:R):rNe v w H Q∨∃n,n≤60∧∃ts,(zeF K H (n+1) (.lst ts) v∧zeF K H (n+1) (.lst ts) w∨zeF K H (n+1) (.tup ts) v∧zeF K H (n+1) (.tup ts) w)∧R:=by
 rcases j with ⟨a,b,rfl⟩ | ⟨a,r,rfl,hr⟩ | ⟨a,b,r,rfl,hr⟩ <;> rcases k with ⟨a',b',rfl⟩ | ⟨a',r',rfl,hr'⟩ | ⟨a',b',r',rfl,hr'⟩
 ·exact .inl ⟨rfl,q⟩
 ·exact absurd a a'
 ·exact absurd b b'
 ·exact absurd a' a
 ·exact .inr ⟨0,by decide,_,.inr ⟨zlB hr,zlB hr'⟩,q2⟩
 ·exact absurd a' a
 ·exact absurd b' b
 ·exact absurd a a'
 ·exact .inr ⟨0,by decide,_,.inr ⟨zlB hr,zlB hr'⟩,q2⟩
theorem Jdg.alike2{s h R F:Prop}{v w:V}(j:Jdg s h H v)(k:Jdg s h H w)(q:R):(scal v w=true∧if ¬v=w then F else R)∨∃n,n≤60∧∃ts,(zeF K H (n+1) (.lst ts) v∧zeF K H (n+1) (.lst ts) w∨zeF K H (n+1) (.tup ts) v∧zeF K H (n+1) (.tup ts) w)∧R:=by
 rcases Jdg.alike (K:=K) (R:=R) (Q:=λb _=>b=.bl false) j k rfl q with ⟨a,b⟩ | z
 ·have e:v=w:=by simpa using b
  exact .inl ⟨a,by rw[if_neg (λz=>z e)];exact q⟩
 ·exact .inr z
theorem law_1{p0 p l r wr mr pr v ml pr':Addr}{cell bud:Int}{ts:List Addr}{bs:List Box}{W V' P P':Rat}{xs:List Pw}{us:List Addr}{ys:List Mp}{Ws ns Ws' ns':List Int}{D:zk9}{x6 x7 y12:Option V}{due:V}(B:Bx6 H l ts bs)(hr:H r=some (Qaj))(hw:H wr=some (Qag))(T:zoR bs bud W xs Ws P ns)(d0:0≤bud)(d1:bud≤60)(X:Trp H bs.length v ml pr' V' P' us ys Ws' ns')
  (J:Jdg (okM ys=true∧zqs bs bud V' (ys.map λx=>x.2)) (okH Ws' ns'=true∧zqn bs bud V' Ws' P' ns') H due)
  (q:∀(y:Option V) (H':Hp),zaI H H'→D.nx (s26 p0 p l r cell bud x6 x7 (QbY) (some (QbB)) (Qbx) (some due) y) H'):zie K D (s26 p0 p l r cell bud x6 x7 (QbY) (some (QbB)) (Qbx) (some due) y12) H:=by
 have l6:=B.l6
 simp_all only [zbr,zbp,zbm,zbo,zbq,zbn,zbc,zbf,zbe,zac]
 refine⟨_,.inl (SqL.of B.hl),λl2 f2=>?_⟩
 have s1:=zan f2 (QR)
 have h1:(L2.upd H l2 (QR)) l2=some (.lst (ts.map V.ref)):=zai
 generalize L2.upd H l2 (.lst (ts.map V.ref))=H1 at s1 h1 ⊢
 have X1:=X.same s1
 refine⟨.ref ml,_,rfl,zvA X1.M X.g l6,λy1 H2 s2 t2=>?_⟩
 have X2:=X1.same s2
 refine⟨.ref pr',_,rfl,zvU (m:=0) X2.A l6,λy2 H3 s3 t3=>?_⟩
 have t2':=(t2.same zq8).same s3
 have t3':=t3.same zq8
 obtain⟨ml2,us2,ys2,rfl,M2,e2⟩:=zyQ t2'
 obtain⟨pr2,rfl,A2⟩:=zzE t3' X.A.lw X.A.ln X.A.w0 X.A.wb X.A.n0 X.A.p0 X.A.pb
 refine⟨by decide,λhd fh=>?_⟩
 have s4:=zan fh (.lst [V.ref l2,V.ref ml2,V.ref pr2])
 have h4:(L2.upd H3 hd (.lst [V.ref l2,V.ref ml2,V.ref pr2])) hd=some (.lst [V.ref l2,V.ref ml2,V.ref pr2]):=zai
 generalize L2.upd H3 hd (.lst [V.ref l2,V.ref ml2,V.ref pr2])=H4 at s4 h4 ⊢
 have S4:=s2.trans (s3.trans s4)
 have S:=s1.trans S4
 have g2:=zwE e2 X.g
 have B4:=B.same S
 have B42:Bx6 H4 l2 ts bs:=⟨S4 _ _ h1,B4.hb,B.gb,B.l1,B.l6⟩
 have X4:=X.same S
 refine⟨λσ H'=>zaI H4 H'∧σ=s26 p0 p l r cell bud x6 x7 (QbY) (some (QbB)) (Qbx) (some due) (some (.ref hd)),?_,?_⟩
 ·simp_all only [zbr,zbp,zbm,zbo,zbq,zbn,zbc,zbf,zbe,zac]
  refine⟨_,SqL.of h4,_,rfl,_,SqL.of h4,_,rfl,_,SqL.of h4,_,rfl,?_⟩
  refine⟨l2,v,ml2,pr2,bud,ts,bs,us2,ys2,V',P',Ws',ns',rfl,B42,X4.hv,X.bW,M2.same s4,g2,A2.same s4,d0,d1,λvj H5 s5 J5=>?_⟩
  rw[zvq,e2,← zvq] at J5
  have key:due=.non→V'=W:=λz=>by
   rcases J with ⟨⟨_,a2⟩,⟨b1,b2⟩,_⟩ | ⟨_,r',e,_⟩ | ⟨_,_,r',e,_⟩
   ·exact T.only B.gb B.l1 X.g a2 X.A.lw X.A.ln X.A.w0 X.A.n0 X.A.p0 b1 b2
   ·rw[z] at e
    cases e
   ·rw[z] at e
    cases e
  refine Jdg.alike2 J5 (J.same (S.trans s5)) ?_
  refine zcg (λz=>?_) (λ_=>s5)
  exact⟨_,SqT.of ((S.trans s5) _ _ hr),_,rfl,wr,rfl,[V'.num,(V'.den:Int)],SqT.of (s5 _ _ X4.hv),[W.num,(W.den:Int)],SqT.of ((S.trans s5) _ _ hw),by rw[key z];exact zcg (QN) (λ_=>s5)⟩
 rintro σ H5 ⟨s5,rfl⟩
 simp_all only [zbr,zbp,zbm,zbo,zbq,zbn,zbc,zbf,zbe,zac]
 refine⟨by decide,λe fe=>?_⟩
 have s6:=zan fe (.lst [V.ref l,V.ref ml,V.ref pr'])
 have h6:(L2.upd H5 e (.lst [V.ref l,V.ref ml,V.ref pr'])) e=some (.lst [V.ref l,V.ref ml,V.ref pr']):=zai
 generalize L2.upd H5 e (.lst [V.ref l,V.ref ml,V.ref pr'])=H6 at s6 h6 ⊢
 have S6:=s5.trans s6
 have t26:ShT H6 3 (zzi (ys.map λx=>x.2)) (.ref ml2):=(t2'.same s4).same S6
 have t36:ShT H6 3 (papT Ws' P' ns') (.ref pr2):=(t3'.same s4).same S6
 have X6:=X4.same S6
 refine⟨3,by decide,[boxT bs,zzi (ys.map λx=>x.2),papT Ws' P' ns'],.inl ⟨(zmY (S6 _ _ h4) (zvZ (m:=1) (B42.same S6)) t26 t36).shows,(zmY h6 (zvZ (m:=1) (B4.same S6)) (zvA X6.M X.g l6) (zvU (m:=0) X6.A l6)).shows⟩,?_⟩
 exact q _ H6 (S.trans S6)
theorem zu2{p0 p l r wr mr pr v ml pr':Addr}{cell bud:Int}{ts:List Addr}{bs:List Box}{W V' P P':Rat}{xs:List Pw}{us:List Addr}{ys:List Mp}{Ws ns Ws' ns':List Int}{D:zk9}{x6 x7 y11 y12:Option V}(B:Bx6 H l ts bs)(hr:H r=some (Qaj))(hw:H wr=some (Qag))(T:zoR bs bud W xs Ws P ns)(d0:0≤bud)(d1:bud≤60)(X:Trp H bs.length v ml pr' V' P' us ys Ws' ns')
  (q:∀(y z:Option V) (H':Hp),zaI H H'→D.nx (s26 p0 p l r cell bud x6 x7 (QbY) (some (QbB)) (Qbx) y z) H'):(zbd (zbO (tC .non) (zam 11)) (QbN)) D (s26 p0 p l r cell bud x6 x7 (QbY) (some (QbB)) (Qbx) y11 y12) H:=by
 simp_all only [zbr,zbp,zbm,zbo,zbq,zbn,zbc,zbf,zbe,zac]
 show(QbN) D (s26 p0 p l r cell bud x6 x7 (QbY) (some (QbB)) (Qbx) (some .non) y12) H
 refine⟨λσ H'=>zaI H H'∧∃u,DueH (okH Ws' ns'=true∧zqn bs bud V' Ws' P' ns') H' u∧σ=s26 p0 p l r cell bud x6 x7 (QbY) (some (QbB)) (Qbx) (some u) y12,?_,?_⟩
 ·simp_all only [zbr,zbp,zbm,zbo,zbq,zbn,zbc,zbf,zbe,zac]
  refine⟨l,v,pr',bud,ts,bs,V',P',Ws',ns',rfl,B,X.hv,X.bW,X.A,d0,d1,λb H1 s1 hb=>⟨b,rfl,?_⟩⟩
  cases b with
  | true=>exact zcg (Qy) (λ_=>⟨s1,_,.inl ⟨hb.mp rfl,rfl⟩,rfl⟩)
  | false =>
   refine zcg (λ_=>⟨by decide,λe fe=>?_⟩) (QN)
   exact⟨s1.add fe,_,.inr ⟨λz=>absurd (hb.mpr z) (Qn),e,rfl,zai⟩,rfl⟩
 rintro σ H1 ⟨s1,u,J1,rfl⟩
 refine⟨λσ H'=>zaI H H'∧∃u,Jdg (okM ys=true∧zqs bs bud V' (ys.map λx=>x.2)) (okH Ws' ns'=true∧zqn bs bud V' Ws' P' ns') H' u∧σ=s26 p0 p l r cell bud x6 x7 (QbY) (some (QbB)) (Qbx) (some u) y12,?_,?_⟩
 ·simp_all only [zbr,zbp,zbm,zbo,zbq,zbn,zbc,zbf,zbe,zac]
  have X1:=X.same s1
  refine⟨l,v,ml,bud,ts,bs,us,ys,V',rfl,B.same s1,X1.hv,X.bW,X1.M,X.g,d0,d1,λb H2 s2 hb=>⟨b,rfl,?_⟩⟩
  cases b with
  | true =>
   refine zcg (Qy) (λ_=>⟨s1.trans s2,u,?_,rfl⟩)
   rcases J1 with ⟨a,e⟩ | ⟨a,r',e,h'⟩
   ·exact .inl ⟨hb.mp rfl,a,e⟩
   ·exact .inr (.inr ⟨hb.mp rfl,a,r',e,s2 _ _ h'⟩)
  | false =>
   refine zcg (λ_=>⟨by decide,λe fe=>?_⟩) (QN)
   exact⟨(QaD).add fe,_,.inr (.inl ⟨λz=>absurd (hb.mpr z) (Qn),e,rfl,zai⟩),rfl⟩
 rintro σ H2 ⟨s2,u,J2,rfl⟩
 exact law_1 (B.same s2) (s2 _ _ hr) (s2 _ _ hw) T d0 d1 (X.same s2) J2 λy H' s'=>q _ y H' (s2.trans s')
structure Tl (H:Hp) (bs:List Box) (bud:Int) (r wr mr pr:Addr) (W P:Rat) (us:List Addr) (xs:List Mp) (Ws ns:List Int):Prop where
 hr:H r=some (Qaj)
 hw:H wr=some (Qag)
 M:MxH H mr us xs
 A:PpT H pr bs.length Ws P ns
 T:zoR bs bud W (QM) Ws P ns
theorem Tl.same{H H':Hp}{bs:List Box}{bud:Int}{r wr mr pr:Addr}{W P:Rat}{us:List Addr}{xs:List Mp}{Ws ns:List Int}(h:Tl H bs bud r wr mr pr W P us xs Ws ns)(s:zaI H H'):Tl H' bs bud r wr mr pr W P us xs Ws ns:=⟨s _ _ h.hr,s _ _ h.hw,h.M.same s,h.A.same s,h.T⟩
section
variable {bs:List Box} {bud:Int} {r wr mr pr:Addr} {W P:Rat} {us:List Addr} {xs:List Mp} {Ws ns:List Int}
theorem Tl.len(h:Tl H bs bud r wr mr pr W P us xs Ws ns):1≤xs.length∧xs.length≤bs.length+1:=by
 have a:=h.T.x1
 have b:=h.T.xn
 rw[ψb] at a b
 exact⟨a,b⟩
theorem Tl.gt(h:Tl H bs bud r wr mr pr W P us xs Ws ns):∀x∈xs,GT bs.length x:=λx hx=>by
 have hm:x.2∈xs.map λx=>x.2:=List.mem_map.mpr ⟨x,hx,rfl⟩
 obtain⟨a1,a2⟩:=h.T.pl _ hm
 obtain⟨b1,b2⟩:=h.T.xw _ hm
 exact⟨a1,a2,b1,b2⟩
theorem Tl.mixg(h:Tl H bs bud r wr mr pr W P us xs Ws ns)(l6:bs.length≤6):zjW bs.length xs:=⟨h.len.1,by have:=h.len.2;omega,λx hx=>(h.gt x hx).gx⟩
theorem Tl.okm(h:Tl H bs bud r wr mr pr W P us xs Ws ns):okM xs=true:=by
 unfold okM
 rw[ψz1]
 exact λx hx=>zhe.mpr λm hm=>((h.gt x hx).2.1 m hm).2
theorem Tl.okh(h:Tl H bs bud r wr mr pr W P us xs Ws ns)(l1:1≤bs.length):okH Ws ns=true:=by
 unfold okH
 rw[ψL]
 refine⟨decide_eq_true ?_,zhe.mpr λm hm=>(h.T.nn m hm).2⟩
 have:=zlK Ws λw hw=>(h.T.ww w hw).1
 have:=h.T.lw
 omega
theorem Tl.bW(h:Tl H bs bud r wr mr pr W P us xs Ws ns):Bq 2000 W:=h.T.bW.mono (Qn)
theorem Tl.off{H0:Hp}{p wl pp cl:Addr}{c:Int}(D0:Drw H0 p c)(s:zaI H0 H)(hr:H r=some (Qaj))(hw:H wr=some (Qag))(M:MxH H mr us xs)(a1:H pr=some (Q3))(a2:H wl=some (QaI))(a3:H pp=some (Qbq))(a4:H cl=some (QS))(T:zoR bs bud W (QM) Ws P ns)(f1:H0 wl=none)(f2:H0 cl=none)(f3:∀x∈xs,H0 x.1=none):Tl (Qa3) bs bud r wr mr pr W P us xs Ws ns:=by
 have D:=D0.same s
 obtain⟨zs,hz⟩:=D0.lst
 have n1:wl≠p:=(zaO hz f1).symm
 have n2:cl≠p:=(zaO hz f2).symm
 have lu:=M.tp.1
 have x1:=T.x1
 rw[ψb] at x1
 have nm:mr≠p:=λe=>by
  subst e
  obtain⟨n,f,hp,_⟩:=D.hp
  have z:=M.hm
  rw[hp] at z
  cases us with
  | nil=>simp at lu;omega
  | cons u us=>cases z
 refine⟨zgi D hr,zgi D hw,MxP.off D ⟨M.tp,λx hx=>⟨M.pl x hx,(zaO hz (f3 x hx)).symm⟩⟩ M.hm nm,?_,T⟩
 exact⟨⟨wl,pp,cl,zgi D a1,by rw[zha n1 n1];exact a2,zgi D a3,by rw[zha n2 n2];exact a4⟩,T.lw,T.ln,λw hw=>(T.ww w hw).1,λw hw=>(T.ww w hw).2,T.nn,T.p0,T.pb⟩
variable {p0 p l:Addr} {cell:Int} {ts:List Addr} {D:zk9} {x6 x7 x8 x9 xa xb xc:Option V}
theorem law_7(B:Bx6 H l ts bs)(Y:Tl H bs bud r wr mr pr W P us xs Ws ns)(d0:0≤bud)(d1:bud≤60)(q:∀H',zaI H H'→D.nx (QY) H'):ziV K D (QY) H:=by
 simp_all only [zbr,zbp,zbm,zbo,zbq,zbn,zbc,zbf,zbe,zac]
 refine⟨_,SqT.of Y.hr,_,rfl,_,SqT.of Y.hr,_,rfl,?_⟩
 refine⟨l,wr,mr,bud,ts,bs,us,xs,W,rfl,B,Y.hw,Y.bW,Y.M,Y.mixg B.l6,d0,d1,λb H1 s1 hb=>⟨b,rfl,?_⟩⟩
 have eb:=hb.mpr ⟨Y.okm,Y.T.seek⟩
 subst eb
 refine zcg (Qy) (QaM)
 have Y1:=Y.same s1
 refine⟨_,SqT.of Y1.hr,_,rfl,_,SqT.of Y1.hr,_,rfl,?_⟩
 refine⟨l,wr,pr,bud,ts,bs,W,P,Ws,ns,rfl,B.same s1,Y1.hw,Y.bW,Y1.A.pph,d0,d1,λb H2 s2 hb=>⟨b,rfl,?_⟩⟩
 have eb:=hb.mpr ⟨Y.okh B.l1,Y.T.hide⟩
 subst eb
 exact zcg (Qy) (λ_=>q H2 (QaD))
theorem law_6(B:Bx6 H l ts bs)(Y:Tl H bs bud r wr mr pr W P us xs Ws ns)(q:∀H',zaI H H'→D.nx (QY) H'):ziT K D (QY) H:=by
 simp_all only [zbr,zbp,zbm,zbo,zbq,zbn,zbc,zbf,zbe,zac]
 refine⟨_,SqT.of Y.hr,_,rfl,_,rfl,_,.inl (SqL.of Y.M.hm),_,.inl (SqL.of B.hl),?_⟩
 rw[ψb,ψb,B.hb.1,Y.M.tp.1]
 have:=Y.len.2
 refine zcg (Qbu) (QaM)
 refine⟨_,SqT.of Y.hr,_,rfl,_,_,rfl,Y.hw,λH1 s1=>(Qat)⟩
 exact zcg (Qy) (λ_=>q H1 s1)
theorem law_5(B:Bx6 H l ts bs)(Y:Tl H bs bud r wr mr pr W P us xs Ws ns)(q:∀H',zaI H H'→D.nx (QY) H'):zkO K D (QY) H:=by
 have l6:=B.l6
 have l1:=B.l1
 have lt:=B.hb.1
 simp_all only [zbr,zbp,zbm,zbo,zbq,zbn,zbc,zbf,zbe,zac]
 refine⟨⟨_,SqL.of B.hl⟩,λD1 hD1=>?_⟩
 refine zcx (vs:=(Qbo).map V.int) B.hl (by simp[lt]) (by simp;omega) hD1 (Qal) λH1 s1 h1=>?_
 ·obtain⟨u,eu,rfl⟩:=zat hx
  obtain⟨w,ew,rfl⟩:=zat hv
  obtain⟨b,eb,rfl⟩:=zat ew
  simp_all only [zbr,zbp,zbm,zbo,zbq,zbn,zbc,zbf,zbe,zac]
  exact⟨_,SqT.of (s _ _ (B.hb.2 i u b eu eb)),_,rfl,k _ (QbA)⟩
 refine⟨D1,rfl,_,SqL.of h1,by rw[ψb];omega,λmx hmx hall=>?_⟩
 have Y1:=Y.same s1
 refine zcg (λz=>?_) (λ_=>q H1 s1)
 refine⟨_,SqT.of Y1.hr,_,rfl,_,rfl,⟨_,SqL.of Y1.M.hm⟩,λD2 hD2=>?_⟩
 refine zdz (vs:=(xs.map λx=>x.2.1.sum).map V.int) Y1.M.hm Y1.M.tp (Qby) (by have:=Y.len.2;simp;omega) hD2 (Qal) λH2 s2 h2=>?_
 ·obtain⟨w,ew,rfl⟩:=zat hv
  obtain⟨y,ey,rfl⟩:=zat ew
  rw[hx] at ey
  cases ey
  simp_all only [zbr,zbp,zbm,zbo,zbq,zbn,zbc,zbf,zbe,zac]
  exact⟨_,SqL.of (s _ _ (Y1.M.pl x (zap hx))),k _ (QbA)⟩
 refine⟨D2,rfl,_,SqL.of h2,by rw[ψb];exact Y.len.1,λmy hmy _=>?_⟩
 obtain⟨x,hx,rfl⟩:=List.mem_map.mp hmy
 have o:=Y.T.one (λb hb=>by
  have a:=hall b.1 (List.mem_map.mpr ⟨b,hb,rfl⟩)
  have g:=(B.gb b hb).1
  omega) x.2 (List.mem_map.mpr ⟨x,hx,rfl⟩)
 exact zcg (Qbu) (λ_=>q H2 (QaD))
def Rdy(H:Hp)(n:Nat)(t:Addr):Prop:=∃(v ml pr:Addr) (W P:Rat) (us:List Addr) (xs:List Mp) (Ws ns:List Int),H t=some (.tup [.ref v,.ref ml,.ref pr])∧Trp H n v ml pr W P us xs Ws ns
theorem Rdy.same{H H':Hp}{n:Nat}{t:Addr}(h:Rdy H n t)(s:zaI H H'):Rdy H' n t:=by
 obtain⟨v,ml,pr,W,P,us,xs,Ws,ns,a,b⟩:=h
 exact⟨v,ml,pr,W,P,us,xs,Ws,ns,s _ _ a,b.same s⟩
theorem zuh{L:Addr}{rs:List Addr}{H0:Hp}(hL:H0 L=some (.lst (rs.map V.ref)))(R:∀t∈rs,Rdy H0 bs.length t)(B:Bx6 H0 l ts bs)(Y:Tl H0 bs bud r wr mr pr W P us xs Ws ns)(d0:0≤bud)(d1:bud≤60)
  (q:∀(y8 y9 ya yb yc:Option V) (H':Hp),zaI H0 H'→D.nx (s26 p0 p l r cell bud x6 x7 y8 y9 ya yb yc) H') :
  zpT (Itl K L) (zdv K 3 (zaH (zam 8) (QbC))) (zbd (zbO (tC .non) (zam 11)) (QbN)) D (QY) H0:=by
 refine zc3 (K:=K) (xs:=rs.map V.ref) (λi σ H'=>zaI H0 H'∧∃y8 y9 ya yb yc,σ=s26 p0 p l r cell bud x6 x7 y8 y9 ya yb yc) ⟨.refl _,_,_,_,_,_,rfl⟩ ?_ ?_ ?_
 ·rintro i σ H' _ ⟨s,_⟩
  exact SqL.of (s _ _ hL)
 ·rintro i x σ H1 hi ⟨s1,y8,y9,ya,yb,yc,rfl⟩
  obtain⟨t,et,rfl⟩:=zat hi
  obtain⟨v,ml,pr',V',P',us',ys,Ws',ns',ht,X⟩:=(R t (zap et)).same s1
  refine⟨t,_,rfl,SqT.of ht,rfl,_,_,rfl,_,_,rfl,_,_,rfl,rfl,?_⟩
  exact zu2 (B.same s1) (s1 _ _ Y.hr) (s1 _ _ Y.hw) Y.T d0 d1 X λy z H' s'=>⟨s1.trans s',_,_,_,_,_,rfl⟩
 ·rintro σ H1 ⟨s1,y8,y9,ya,yb,yc,rfl⟩
  exact q _ _ _ _ _ H1 s1
theorem PpH.keep{G G':Hp}{p1 L a:Addr}{n:Nat}{Ws' ns':List Int}{P':Rat}{vs:List V}(A:PpH G p1 n Ws' P' ns')(n1:1≤n)(hL:G L=some (.lst (V.ref a::vs)))(k:∀x,x≠L→G' x=G x):PpH G' p1 n Ws' P' ns':=by
 obtain⟨wl,pp,cl,a1,a2,a3,a4⟩:=A.ex
 have t:∀(x:Addr) (us:List V),G x=some (.tup us)→x≠L:=λx us h e=>by
  subst e
  rw[hL] at h
  cases h
 have i:∀(x:Addr) (ms:List Int),ms.length=n→G x=some (Qca)→x≠L:=λx ms l h e=>by
  subst e
  rw[hL] at h
  cases ms with
  | nil=>simp at l;omega
  | cons m ms=>cases h
 exact⟨⟨wl,pp,cl,by rw[k _ (t _ _ a1)];exact a1,by rw[k _ (i _ _ A.lw a2)];exact a2,by rw[k _ (t _ _ a3)];exact a3,by rw[k _ (i _ _ A.ln a4)];exact a4⟩,A.lw,A.ln,A.w0,A.wb,A.n0,A.p0,A.pb⟩
theorem law_4{c:Int}(Dr:Drw H p c)(c1:c<500)(B:Bx6 (Qa3) l ts bs)(Y:Tl (Qa3) bs bud r wr mr pr W P us xs Ws ns)(d0:0≤bud)(d1:bud≤60)
  (q:∀(y6 y7 y8 y9 ya yb yc:Option V) (H':Hp),zaI (Qa3) (QaN)→D.nx (s26 p0 p l r cell bud y6 y7 y8 y9 ya yb yc) H'):zk4 K D (QY) H:=by
 have c0:=Dr.c0
 have l6:=B.l6
 have l1:=B.l1
 have lt:=B.hb.1
 simp_all only [zbr,zbp,zbm,zbo,zbq,zbn,zbc,zbf,zbe,zac]
 refine⟨_,.inl (SqL.of (zbx _ _ _ _ _ B.hl)),λl2 f2=>?_⟩
 obtain⟨H1,e1,D1,s1,h1,_⟩:=Dr.mk2 f2 (QR)
 rw[← e1]
 refine⟨p,c,2,rfl,D1,by omega,by decide,by decide,λd H2 z0 z1 o2 D2=>?_⟩
 rw[← o2] at h1 s1
 have B2:=(B.same s1).same (zbx p p H2)
 have g0:0≤(if bud - d > 0 then bud - d else 0)∧(if bud - d > 0 then bud - d else 0)≤60:=by
  split <;> omega
 refine⟨_,rfl,l2,ts,bs,_,rfl,zbx _ _ _ _ _ h1,B2.hb,B.gb,l1,l6,g0.1,g0.2,λr2 wr2 mr2 pr2 wl2 pp2 cl2 W2 P2 us2 xs2 Ws2 ns2 H3 s3 b1 b2 b3 b4 b5 b6 b7 T2 f3 f4 f5=>?_⟩
 have Z3:=Tl.off D2 s3 b1 b2 b3 b4 b5 b6 b7 T2 f3 f4 f5
 have D3:=D2.same s3
 have S3:=s1.trans (zd7 p p s3)
 have Y3:=Y.same S3
 have B3:=B.same S3
 have hr3:=zbx _ _ _ _ _ Y3.hr
 (try simp only);first | rw[zgF] | rw[zgG] | rw[zgE] | rw[zgI]
 simp_all only [zbr,zbp,zbm,zbo,zbq,zbn,zbc,zbf,zbe,zac]
 refine⟨_,SqT.of hr3,_,rfl,_,SqT.of hr3,_,rfl,_,.inl (SqL.of (zbx _ _ _ _ _ B3.hl)),?_⟩
 rw[ψb,lt]
 refine⟨mr,p,bs.length,c+1,us,xs,rfl,D3,by omega,Y3.M,l1,l6,Y.len.1,by have:=Y.len.2;omega,Y.gt,λm1 us4 xs4 c4 H4 s4 D4 hc4 M4 g4=>?_⟩
 have c40:=D4.c0
 have Y4:=Y3.same s4
 refine⟨_,SqT.of (zbx _ _ _ _ _ Y4.hr),_,rfl,by decide,λt1 ft1=>?_⟩
 obtain⟨H5,e5,D5,s5,h5,_⟩:=D4.mk2 ft1 (.tup [.ref wr,.ref m1,.ref pr])
 rw[← e5]
 have Y5:=Y4.same s5
 have R1:Rdy (Off p p H5) bs.length t1:=⟨wr,m1,pr,W,P,us4,xs4,Ws,ns,h5,Y5.hw,Y.bW,M4.same s5,g4,Y5.A.pph⟩
 refine⟨by decide,λL fL=>?_⟩
 obtain⟨H6,e6,D6,s6,h6,_⟩:=D5.mk2 fL (.lst [.ref r,.ref t1])
 rw[← e6]
 have nL:=D5.new fL
 have fL':Off p p H5 L=none:=znT fL
 have Y6:=Y5.same s6
 have B6:=((B3.same s4).same s5).same s6
 have hr6:=SqT.of (K:=K) (zbx _ _ _ _ _ Y6.hr)
 (try simp only);first | rw[zgF] | rw[zgG] | rw[zgE] | rw[zgI]
 simp_all only [zbr,zbp,zbm,zbo,zbq,zbn,zbc,zbf,zbe,zac]
 refine⟨.inl ⟨rfl,_,SqL.of (zbx _ _ _ _ _ h6)⟩,_,hr6,_,rfl,_,hr6,_,rfl,_,hr6,_,rfl,_,.inl (SqL.of (zbx _ _ _ _ _ B6.hl)),?_⟩
 rw[ψb,lt]
 refine⟨pr,p,bs.length,c4,Ws,ns,P,rfl,D6,by omega,Y6.A,l1,l6,λp1 Ws7 ns7 P7 c7 H7 s7 D7 hc7 A7=>?_⟩
 have c70:=D7.c0
 refine⟨by decide,λt2 ft2=>?_⟩
 obtain⟨H8,e8,D8,s8,h8,_⟩:=D7.mk2 ft2 (.tup [.ref wr,.ref mr,.ref p1])
 rw[← e8]
 have hL8:=s8 _ _ (s7 _ _ h6)
 refine⟨_,zbx _ _ _ _ _ hL8,zbF (by show 2≤1000;decide),?_⟩
 obtain⟨H9,e9,D9,s9,h9,k9⟩:=D8.put nL (s6.trans (s7.trans s8)) fL' (.lst ([.ref r,.ref t1]++[.ref t2]))
 rw[← e9]
 have Y9:=Y5.same s9
 have A9:PpH (Off p p H9) p1 bs.length Ws7 P7 ns7:=(A7.same s8).keep l1 hL8 k9
 have t2L:t2≠L:=λe=>by
  subst e
  rw[h8] at hL8
  cases hL8
 have R2:Rdy (Off p p H9) bs.length t2:=⟨wr,mr,p1,W,P7,us,xs,Ws7,ns7,by rw[k9 _ t2L];exact h8,Y9.hw,Y.bW,Y9.M,Y.mixg l6,A9⟩
 have S9:=S3.trans (s4.trans (s5.trans s9))
 (try simp only);first | rw[zgF] | rw[zgG] | rw[zgE] | rw[zgI]
 simp_all only [zbr,zbp,zbm,zbo,zbq,zbn,zbc,zbf,zbe,zac]
 refine⟨_,SqT.of (zbx _ _ _ _ _ Y9.hr),_,rfl,?_⟩
 refine⟨wr,p,c7,W,rfl,D9,by omega,Y9.hw,Y.T.bW,λw3 V3 Ha sa Da hw3 bW3=>?_⟩
 have Sa:=S9.trans sa
 have o:=zbx p p Ha
 have Yf:=(Y.same Sa).same o
 have Bf:=(B.same Sa).same o
 have Zf:=(Z3.same (s4.trans (s5.trans (s9.trans sa)))).same o
 have R1f:=(R1.same (s9.trans sa)).same o
 have R2f:=(R2.same sa).same o
 have hLf:=o _ _ (sa _ _ h9)
 have hwf:=o _ _ hw3
 clear R1 R2 Y9 Y6 Y5 Y4 Y3 Z3 A9 A7 B6 B3 hr6 hr3
 refine⟨_,SqT.of Yf.hr,_,rfl,_,SqT.of Yf.hr,_,rfl,by decide,λt3 ft3=>?_⟩
 have sb:=zan ft3 (.tup [V.ref w3,V.ref mr,V.ref pr])
 have hb:(L2.upd Ha t3 (.tup [V.ref w3,V.ref mr,V.ref pr])) t3=some (.tup [V.ref w3,V.ref mr,V.ref pr]):=zai
 generalize L2.upd Ha t3 (.tup [V.ref w3,V.ref mr,V.ref pr])=Hb at sb hb ⊢
 have Yb:=Yf.same sb
 have R3:Rdy Hb bs.length t3:=⟨w3,mr,pr,V3,P,us,xs,Ws,ns,hb,sb _ _ hwf,bW3,Yb.M,Y.mixg l6,Yb.A.pph⟩
 refine⟨_,SqT.of Yb.hr,_,rfl,_,SqT.of (sb _ _ Zf.hr),_,rfl,_,SqT.of Yb.hr,_,rfl,by decide,λt4 ft4=>?_⟩
 have sc:=zan ft4 (.tup [V.ref wr,V.ref mr2,V.ref pr])
 have hc:(L2.upd Hb t4 (.tup [V.ref wr,V.ref mr2,V.ref pr])) t4=some (.tup [V.ref wr,V.ref mr2,V.ref pr]):=zai
 generalize L2.upd Hb t4 (.tup [V.ref wr,V.ref mr2,V.ref pr])=Hc at sc hc ⊢
 have Yc:=Yb.same sc
 have Zc:=(Zf.same sb).same sc
 have R4:Rdy Hc bs.length t4:=⟨wr,mr2,pr,W,P,us2,xs2,Ws,ns,hc,Yc.hw,Y.bW,Zc.M,Zc.mixg l6,Yc.A.pph⟩
 refine⟨by decide,λq1 fq1=>?_⟩
 have sd:=zan fq1 (.lst [V.ref t3,V.ref t4])
 have hd:(L2.upd Hc q1 (.lst [V.ref t3,V.ref t4])) q1=some (.lst [V.ref t3,V.ref t4]):=zai
 generalize L2.upd Hc q1 (.lst [V.ref t3,V.ref t4])=Hd at sd hd ⊢
 refine⟨_,sd _ _ (sc _ _ (sb _ _ hLf)),_,hd,?_,λLz fLz=>?_⟩
 ·exact zjz (by show 3+2≤100;decide)
 have se:=zan fLz (.lst ([V.ref r,V.ref t1]++[V.ref t2]++[V.ref t3,V.ref t4]))
 have he:(L2.upd Hd Lz (.lst ([V.ref r,V.ref t1]++[V.ref t2]++[V.ref t3,V.ref t4]))) Lz=some (.lst ([V.ref r,V.ref t1]++[V.ref t2]++[V.ref t3,V.ref t4])):=zai
 generalize L2.upd Hd Lz (.lst ([V.ref r,V.ref t1]++[V.ref t2]++[V.ref t3,V.ref t4]))=He at se he ⊢
 have Sce:=sd.trans se
 have Ye:=Yc.same Sce
 have Ze:=Zc.same Sce
 (try simp only);first | rw[zgF] | rw[zgG] | rw[zgE] | rw[zgI]
 simp_all only [zbr,zbp,zbm,zbo,zbq,zbn,zbc,zbf,zbe,zac]
 refine⟨_,SqT.of Ye.hr,_,rfl,_,SqT.of Ye.hr,_,rfl,_,SqT.of Ze.hr,_,rfl,by decide,λt5 ft5=>?_⟩
 have sf:=zan ft5 (.tup [V.ref wr,V.ref mr,V.ref pr2])
 have hf:(L2.upd He t5 (.tup [V.ref wr,V.ref mr,V.ref pr2])) t5=some (.tup [V.ref wr,V.ref mr,V.ref pr2]):=zai
 generalize L2.upd He t5 (.tup [V.ref wr,V.ref mr,V.ref pr2])=Hf at sf hf ⊢
 have Yg:=Ye.same sf
 have Zg:=Ze.same sf
 have R5:Rdy Hf bs.length t5:=⟨wr,mr,pr2,W,P2,us,xs,Ws2,ns2,hf,Yg.hw,Y.bW,Yg.M,Y.mixg l6,Zg.A.pph⟩
 refine⟨_,SqT.of Zg.hr,_,rfl,_,SqT.of Zg.hr,_,rfl,_,SqT.of Yg.hr,_,rfl,by decide,λt6 ft6=>?_⟩
 have sg:=zan ft6 (.tup [V.ref wr2,V.ref mr2,V.ref pr])
 have hg:(L2.upd Hf t6 (.tup [V.ref wr2,V.ref mr2,V.ref pr])) t6=some (.tup [V.ref wr2,V.ref mr2,V.ref pr]):=zai
 generalize L2.upd Hf t6 (.tup [V.ref wr2,V.ref mr2,V.ref pr])=Hg at sg hg ⊢
 have Yh:=Yg.same sg
 have Zh:=Zg.same sg
 have R6:Rdy Hg bs.length t6:=⟨wr2,mr2,pr,W2,P,us2,xs2,Ws,ns,hg,Zh.hw,Zh.bW,Zh.M,Zh.mixg l6,Yh.A.pph⟩
 refine⟨by decide,λq2 fq2=>?_⟩
 have sh:=zan fq2 (.lst [V.ref t5,V.ref t6])
 have hh:(L2.upd Hg q2 (.lst [V.ref t5,V.ref t6])) q2=some (.lst [V.ref t5,V.ref t6]):=zai
 generalize L2.upd Hg q2 (.lst [V.ref t5,V.ref t6])=Hh at sh hh ⊢
 refine⟨_,sh _ _ (sg _ _ (sf _ _ he)),_,hh,?_,λLw fLw=>?_⟩
 ·exact zjz (by show 5+2≤100;decide)
 have si:=zan fLw (.lst ([V.ref r,V.ref t1]++[V.ref t2]++[V.ref t3,V.ref t4]++[V.ref t5,V.ref t6]))
 have hi:(L2.upd Hh Lw (.lst ([V.ref r,V.ref t1]++[V.ref t2]++[V.ref t3,V.ref t4]++[V.ref t5,V.ref t6]))) Lw=some (.lst ([V.ref r,V.ref t1]++[V.ref t2]++[V.ref t3,V.ref t4]++[V.ref t5,V.ref t6])):=zai
 generalize L2.upd Hh Lw (.lst ([V.ref r,V.ref t1]++[V.ref t2]++[V.ref t3,V.ref t4]++[V.ref t5,V.ref t6]))=Hi at si hi ⊢
 have Shi:=sh.trans si
 have Sgi:=sg.trans Shi
 have Sfi:=sf.trans Sgi
 have Sdi:=Sce.trans Sfi
 have Sci:=sc.trans Sdi
 have Sbi:=sb.trans Sci
 have hi':Hi Lw=some (.lst ([r,t1,t2,t3,t4,t5,t6].map V.ref)):=hi
 refine⟨⟨_,SqL.of hi'⟩,?_⟩
 refine zuh hi' (λt ht=>?_) (Bf.same Sbi) (Yf.same Sbi) d0 d1 λy8 y9 ya yb yc H' s'=>q _ _ y8 y9 ya yb yc H' (Sa.trans (zd7 p p (Sbi.trans s')))
 rcases List.mem_cons.mp ht with rfl | ht
 ·have Yi:=Yf.same Sbi
  exact⟨wr,mr,pr,W,P,us,xs,Ws,ns,Yi.hr,Yi.hw,Y.bW,Yi.M,Y.mixg l6,Yi.A.pph⟩
 rcases List.mem_cons.mp ht with rfl | ht
 ·exact R1f.same Sbi
 rcases List.mem_cons.mp ht with rfl | ht
 ·exact R2f.same Sbi
 rcases List.mem_cons.mp ht with rfl | ht
 ·exact R3.same Sci
 rcases List.mem_cons.mp ht with rfl | ht
 ·exact R4.same Sdi
 rcases List.mem_cons.mp ht with rfl | ht
 ·exact R5.same Sgi
 rw[List.mem_singleton.mp ht]
 exact R6.same Shi
end
open HT in
theorem zzt(ns:List Int):znn (Qcx) none (some 20)=(ns.take 20).map V.int:=by
 rw[show(some (20:Int))=some ((20:Nat):Int) from rfl,zoT,List.map_take]
theorem zx2{p0:Addr}{ns:List Int}(hS:SqL K H p0 (Qcx))(hl:ns.length≤63)(hb:∀x∈ns,x.natAbs<2 ^ 2 ^ 20)(q:∀H',Q (Qb0) H') :
  zw0 K { nx:=λ_ H'=>Q .non H',rt:=Q } (L2.start ["_law_script","_law_cell","_law_left_here","_law_boxes_here","_law_budget","_law_told","_law_other","_law_listed","_law_worth","_law_mix_here","_law_paper","_law_due","_law_handed"] [.ref p0]) H:=by
 unfold zw0
 simp_all only [zbr,zbp,zbm,zbo,zbq,zbn,zbc,zbf,zbe,zac]
 refine⟨by decide,λe1 g1=>⟨_,(zan g1 _).seq hS,λe2 g2=>⟨_,zan g2 _ _ _ zai,_,zai,?_,λe3 g3=>?_⟩⟩⟩
 ·rw[zzt,ψb,ψG,List.length_singleton]
  simp only[sizeLine]
  omega
 rw[zzt] at g3 ⊢
 have e:[V.int 0]++(ns.take 20).map V.int=(0::ns.take 20).map V.int:=rfl
 rw[e]
 have hc:∀x∈0::ns.take 20,x.natAbs<2 ^ 2 ^ 20:=λx hx=>by
  rcases List.mem_cons.mp hx with rfl | hx
  ·exact Nat.two_pow_pos _
  ·exact hb x (ψb1 hx)
 generalize (0::ns.take 20)=cs at hc ⊢
 have h3:(L2.upd (L2.upd (L2.upd H e1 (.lst [V.int 0])) e2 (.lst ((ns.take 20).map V.int))) e3 (.lst (cs.map V.int))) e3=some (.lst (cs.map V.int)):=zai
 generalize L2.upd (L2.upd (L2.upd H e1 (.lst [V.int 0])) e2 (.lst ((ns.take 20).map V.int))) e3 (.lst (cs.map V.int))=H3 at h3 ⊢
 refine⟨⟨_,SqL.of h3⟩,?_⟩
 refine zc3 (K:=K) (xs:=cs.map V.int) (λi σ H'=>zaI H3 H'∧∃u1 u2 u3 u4 u5 u6 u7 u8 u9 ua ub uc,σ=[some (.ref p0),u1,u2,u3,u4,u5,u6,u7,u8,u9,ua,ub,uc]) ⟨.refl _,_,_,_,_,_,_,_,_,_,_,_,_,rfl⟩ ?_ ?_ ?_
 ·rintro i σ H' _ ⟨s,_⟩
  exact SqL.of (s _ _ h3)
 ·rintro i x σ H4 hi ⟨s4,u1,u2,u3,u4,u5,u6,u7,u8,u9,ua,ub,uc,rfl⟩
  obtain⟨cell,ec,rfl⟩:=zat hi
  show zlJ K _ [some (.ref p0),some (.int cell),u2,u3,u4,u5,u6,u7,u8,u9,ua,ub,uc] H4
  simp_all only [zbr,zbp,zbm,zbo,zbq,zbn,zbc,zbf,zbe,zac]
  refine⟨by decide,λd gd=>?_⟩
  refine⟨d,cell,rfl,zai,hc cell (zap ec),λp H5 s5 fp P5=>?_⟩
  have s45:=(s4.add gd).trans s5
  have fp3:H3 p=none:=(s4.add gd).free fp
  refine⟨p,0,rfl,P5,by decide,λl ts bs c H6 s6 P6 hc6 hl6 T6 gb l1 l6=>?_⟩
  simp_all only [zbr,zbp,zbm,zbo,zbq,zbn,zbc,zbf,zbe,zac]
  refine⟨by decide,λd2 gd2=>?_⟩
  obtain⟨H7,e7,P7,s7,h7,_⟩:=P6.mk2 gd2 (.lst [.int 6,.int 61])
  rw[← e7]
  have c0:=P6.c0
  refine⟨p,c,2,rfl,P7,by omega,by decide,by decide,λr H8 r0 r1 o8 P8=>?_⟩
  obtain⟨m,em,hm⟩:=at2 (x:=6) (y:=61) r0 r1
  rw[← o8] at h7 s7
  simp_all only [zbr,zbp,zbm,zbo,zbq,zbn,zbc,zbf,zbe,zac]
  refine⟨_,SqL.of (zbx _ _ _ _ _ h7),_,em,?_⟩
  refine⟨p,c+1,m,rfl,P8,by omega,by omega,by omega,λbud H9 b0 b1 o9 P9=>?_⟩
  rw[← o9] at s7
  have B9:Bx6 (Off p p H9) l ts bs:=⟨s7 _ _ hl6,T6.same s7,gb,l1,l6⟩
  have Bh:=B9.same (zbx p p H9)
  refine⟨_,.inl (SqL.of Bh.hl),λl2 f2=>?_⟩
  obtain⟨Ha,ea,Pa,sa,ha,Sa⟩:=P9.mk2 f2 (QR)
  rw[← ea]
  have Ba:=Bh.same Sa
  refine⟨l2,ts,bs,bud,rfl,zbx _ _ _ _ _ ha,Ba.hb,gb,l1,l6,b0,by omega,λrr wr mr pr wl pp cl W P us xs Ws ns Hb sb b1 b2 b3 b4 b5 b6 b7 T f3 f4 f5=>?_⟩
  have Y:=Tl.off Pa sb b1 b2 b3 b4 b5 b6 b7 T f3 f4 f5
  have Pb:=Pa.same sb
  have Sb:zaI (Off p p H6) (Off p p Hb):=s7.trans (sa.trans (zd7 p p sb))
  have B6:Bx6 (Off p p H6) l ts bs:=⟨hl6,T6,gb,l1,l6⟩
  have Bb:=B6.same Sb
  show(zbd (zdG (ziV K)) (zbd (zdG (ziT K)) (zbd (zdG (zkO K)) (zk4 K)))) _ (s26 p0 p l rr cell bud u6 u7 u8 u9 ua ub uc) Hb
  refine⟨λσ H'=>zaI Hb H'∧σ=s26 p0 p l rr cell bud u6 u7 u8 u9 ua ub uc,law_7 (Bb.same (zbx p p Hb)) (Y.same (zbx p p Hb)) b0 (Qe) λH' s'=>⟨s',rfl⟩,?_⟩
  rintro σ Hc ⟨sc,rfl⟩
  have oc:=zd7 p p sc
  refine⟨λσ H'=>zaI Hc H'∧σ=s26 p0 p l rr cell bud u6 u7 u8 u9 ua ub uc,law_6 ((Bb.same oc).same (zbx p p Hc)) ((Y.same oc).same (zbx p p Hc)) λH' s'=>⟨s',rfl⟩,?_⟩
  rintro σ Hd ⟨sd,rfl⟩
  have od:=oc.trans (zd7 p p sd)
  refine⟨λσ H'=>zaI Hd H'∧σ=s26 p0 p l rr cell bud u6 u7 u8 u9 ua ub uc,law_5 ((Bb.same od).same (zbx p p Hd)) ((Y.same od).same (zbx p p Hd)) λH' s'=>⟨s',rfl⟩,?_⟩
  rintro σ He ⟨se,rfl⟩
  have oe:=od.trans (zd7 p p se)
  refine law_4 (Pb.same (sc.trans (sd.trans se))) (Qe) (Bb.same oe) (Y.same oe) b0 (Qe) λy6 y7 y8 y9 ya yb yc H' s=>⟨zwo fp3 s45 (s6.trans (Sb.trans (oe.trans s))),_,_,_,_,_,_,_,_,_,_,_,_,rfl⟩
 ·rintro σ H4 ⟨s4,u1,u2,u3,u4,u5,u6,u7,u8,u9,ua,ub,uc,rfl⟩
  simp_all only [zbr,zbp,zbm,zbo,zbq,zbn,zbc,zbf,zbe,zac]
  exact q H4
theorem zd5:zaB ["_law_script","_law_cell","_law_left_here","_law_boxes_here","_law_budget","_law_told","_law_other","_law_listed","_law_worth","_law_mix_here","_law_paper","_law_due","_law_handed"] ["_law_script"] (zag zqG):=⟨rfl,rfl,rfl,by decide +kernel,rfl,by decide +kernel,by decide +kernel⟩
theorem zyl(T:Txt K mg a):zcn P w K mg base CX0 9 a.f_law a.d_law ["_law_script"] (zvo K):=by
 have G__law_boxes:=zl0 (P:=P) (w:=w) (base:=base) T
 have G__law_deep:=znd (P:=P) (w:=w) (base:=base) T
 have G__law_draw:=zdN (P:=P) (w:=w) (base:=base) T
 have G__law_finds:=zlA (P:=P) (w:=w) (base:=base) T
 have G__law_fraction:=zfO (P:=P) (w:=w) (base:=base) T
 have G__law_hides:=zk5 (P:=P) (w:=w) (base:=base) T
 have G__law_left:=zmp (P:=P) (w:=w) (base:=base) T
 have G__law_mix_else:=ziP (P:=P) (w:=w) (base:=base) T
 have G__law_paper_else:=zhA (P:=P) (w:=w) (base:=base) T
 have G__law_worth_else:=zhU (P:=P) (w:=w) (base:=base) T
 have G_budget_judged:=ziE (P:=P) (w:=w) (base:=base) T
 have G_budget_worth:=zje (P:=P) (w:=w) (base:=base) T
 refine T.F_law.ok zd5 (Qj) (Qd)
 ·obtain⟨p,ns,rfl,hS,hl,hb,q⟩:=h
  rfl
 obtain⟨p,ns,rfl,hS,hl,hb,q⟩:=h
 exact⟨zw0 K,(zaf (zdJ PassesOwn.never rfl (zbl (zas zeo (zcp (QaB)) (zcD zdk (pv 0) zdr (zdp zae)))) (zak (i:=1) zd5.nd rfl (Qf))
 (zaf (zaN (i:=2) zd5.nd rfl (Qf) (zah G__law_left (Qa) rfl T.m__law_left T.F__law_left.kp T.b__law_left .nil zax (zaa (zcp (QG)) (QaB))))
 (zaf (zaN (i:=3) zd5.nd rfl (Qf) (zah G__law_boxes (Qa) rfl T.m__law_boxes T.F__law_boxes.kp T.b__law_boxes .nil zax (zaa (pv 2) (QaB))))
 (zaf (zaN (i:=4) zd5.nd rfl (Qf) (zah G__law_draw (Qa) rfl T.m__law_draw T.F__law_draw.kp T.b__law_draw .nil zax (zaa (pv 2) (zaa (zaw zbv (zcp (QbD)) (zah G__law_draw (Qa) rfl T.m__law_draw T.F__law_draw.kp T.b__law_draw .nil zax (zaa (pv 2) (QaB))) (Qp)) zad))))
 (zaf (zaN (i:=5) zd5.nd rfl (Qf) (zah G_budget_worth (Qa) rfl T.m_budget_worth T.F_budget_worth.kp T.b_budget_worth .nil zax (zaa (Qcz) (QbL))))
 (zaf (zbs (zbP (PW.pt (zdl (zbL (zbt (zah G__law_finds (Qa) rfl T.m__law_finds T.F__law_finds.kp T.b__law_finds .nil zax (zaa (pv 3) (zaa (pv 4) (zaa (Qz) (QbV))))))) (zc5 (zbL (zbt (zah G__law_hides (Qa) rfl T.m__law_hides T.F__law_hides.kp T.b__law_hides .nil zax (zaa (pv 3) (zaa (pv 4) (zaa (Qz) (QbV)))))))))) (QP) zaR))
 (zaf (zbs (zbP (PW.pt (zdl (zbb zjD (zao zaA rfl T.z_len ψr (QbV)) (zas zce (Qbj) zae) (za4 _)) (zc5 (zbL (zbt (zah G__law_fraction (Qa) rfl T.m__law_fraction T.F__law_fraction.kp T.b__law_fraction .nil zax (QbV))))))) (QP) zaR))
 (zaf (zbs (zbP (PW.pt (zsv (zbb zhd (zao (zmi rfl) rfl T.z_max ψr1 (zaa (zbi (sc:=zag zqG) (N:=["_law_script","_law_cell","_law_left_here","_law_boxes_here","_law_budget","_law_told","_law_other","_law_listed","_law_worth","_law_mix_here","_law_paper","_law_due","_law_handed"]) (Nc:=["_law_box"]) (cap:=[none]) rfl rfl rfl (Qi) (zbl (pv 3)) (λ_ _ _ _=>(zak (i:=0) (show ψh (["_law_box"]:List Str) from by decide) rfl (Qf))) (QF) (λ_ _ _ _=>(Qg))) zad)) zae (za4 _)) (zoD (zbb zjD (zao (zmi rfl) rfl T.z_max ψr1 (zaa (zbi (sc:=zag zqG) (N:=["_law_script","_law_cell","_law_left_here","_law_boxes_here","_law_budget","_law_told","_law_other","_law_listed","_law_worth","_law_mix_here","_law_paper","_law_due","_law_handed"]) (Nc:=["_law_plan_here","_law_weight"]) (cap:=[none,none]) rfl rfl rfl (Qi) (zbl (Qz)) (QH) (QF) (λ_ _ _ _=>(zao (zcr rfl) rfl T.z_sum ψI (Qap)))) zad)) (pv 4) (za4 _))))) (QP) zaR))
 (zaf (zaN (i:=6) zd5.nd rfl (Qf) (zah G_budget_worth (Qa) rfl T.m_budget_worth T.F_budget_worth.kp T.b_budget_worth .nil zax (zaa (Qcz) (zaa (zao (zf5 rfl) rfl T.z_max ψr1 (zaa zae (zaa (zas zc4 (pv 4) (zah G__law_draw (Qa) rfl T.m__law_draw T.F__law_draw.kp T.b__law_draw .nil zax (zaa (pv 2) (QaB)))) zad))) zad))))
 (zaf (zaN (i:=7) zd5.nd rfl (Qf) (zcp (zaa (pv 5) (zaa (zbE (zaa (Qz) (zaa (zah G__law_mix_else (Qa) rfl T.m__law_mix_else T.F__law_mix_else.kp T.b__law_mix_else .nil zax (zaa (Qz) (zaa (pv 2) (zaa (Qbj) zad)))) (QbV)))) zad))))
 (zaf (zf8 (zuq PySem.F.plainAttrs_list PySem.F.slot_list_append PySem.F.type_list_append ze7 (pv 7) (zaa (zbE (zaa (Qz) (zaa (Qz) (zaa (zah G__law_paper_else (Qa) rfl T.m__law_paper_else T.F__law_paper_else.kp T.b__law_paper_else .nil zax (zaa (Qz) (zaa (pv 2) (zaa (Qbj) zad)))) zad)))) zad)))
 (zaf (zaN (i:=7) zd5.nd rfl (Qf) (zas zeo (pv 7) (zcp (zaa (zbE (zaa (zah G__law_worth_else (Qa) rfl T.m__law_worth_else T.F__law_worth_else.kp T.b__law_worth_else .nil zax (zaa (Qz) (Qaw))) (zaa (Qz) (QbV)))) (zaa (zbE (zaa (Qz) (zaa (Qcf) (QbV)))) zad)))))
 (zaj (zdJ PassesOwn.never rfl (zbl (zas zeo (pv 7) (zcp (zaa (zbE (zaa (Qz) (zaa (Qz) (zaa (Qcf) zad)))) (zaa (zbE (zaa (Qcf) (zaa (Qcf) (QbV)))) zad))))) (zbu rfl (zal (zak (i:=8) zd5.nd rfl (Qf)) (zal (zak (i:=9) zd5.nd rfl (Qf)) (zal (zak (i:=10) zd5.nd rfl (Qf)) za3))))
 (zaf (zaN (i:=11) zd5.nd rfl (Qf) zrm)
 (zaf (zbs (zbP (zbL (zbt (zah G__law_hides (Qa) rfl T.m__law_hides T.F__law_hides.kp T.b__law_hides .nil zax (zaa (pv 3) (zaa (pv 4) (zaa (pv 8) (zaa (pv 10) zad))))))) (zaj (zaN (i:=11) zd5.nd rfl (Qf) (zbE (zaa zph zad)))) zaR))
 (zaf (zbs (zbP (zbL (zbt (zah G__law_finds (Qa) rfl T.m__law_finds T.F__law_finds.kp T.b__law_finds .nil zax (zaa (pv 3) (zaa (pv 4) (zaa (pv 8) (zaa (pv 9) zad))))))) (zaj (zaN (i:=11) zd5.nd rfl (Qf) (zbE (zaa zph zad)))) zaR))
 (zaf (zaN (i:=12) zd5.nd rfl (Qf) (zcp (zaa (Qcz) (zaa (zah G__law_deep (Qa) rfl T.m__law_deep T.F__law_deep.kp T.b__law_deep .nil zax (zaa (pv 9) zad)) (zaa (zah G__law_deep (Qa) rfl T.m__law_deep T.F__law_deep.kp T.b__law_deep .nil zax (zaa (pv 10) zad)) zad)))))
 (zaf (zbs (zbP (PW.pt (zdl (zbb (zxy hr.units) (zah G_budget_judged (Qa) rfl T.m_budget_judged T.F_budget_judged.kp T.b_budget_judged .nil zax (zaa (zaw zbv (pv 12) zae (Qp)) (zaa (pv 4) (zaa (pv 8) (zaa (zaw zbv (pv 12) zae (Qp)) (zaa (zaw zbv (pv 12) zae (Qp)) zad)))))) (pv 11) (za4 _)) (zc5 (PW.pt (zsv (zbb zyC (pv 11) zrm (za4 _)) (zoD (zbb (zyo hr.units0) (pv 8) (Qz) (za4 _)))))))) (QP) zaR))
 (zaj (zbP (zbb (zvB hr.units) (pv 12) (zcp (zaa (pv 3) (zaa (pv 9) (zaa (pv 10) zad)))) (za4 _)) (QP) zaR)))))))))))))))))))))
 (QP)),
  zx2 hS hl hb q⟩
end
theorem zn9{us:List Value}{n:Nat}(h:us.length=n+1):∃a t,us=a::t∧t.length=n:=by
 cases us with
 | nil=>cases h
 | cons a t=>exact⟨a,t,rfl,Nat.succ.inj h⟩
theorem zoE{us:List Value}(h:us.length=1):∃a0,us=[a0]:=by
 obtain⟨a0,u0,rfl,h0⟩:=zn9 h
 cases ψa1 h0
 exact⟨a0,rfl⟩
theorem zgA{us:List Value}(h:us.length=2):∃a0,∃a1,us=[a0,a1]:=by
 obtain⟨a0,u0,rfl,h0⟩:=zn9 h
 obtain⟨a1,u1,rfl,h1⟩:=zn9 h0
 cases ψa1 h1
 exact⟨a0,a1,rfl⟩
theorem zvL{us:List Value}(h:us.length=3):∃a0,∃a1,∃a2,us=[a0,a1,a2]:=by
 obtain⟨a0,u0,rfl,h0⟩:=zn9 h
 obtain⟨a1,u1,rfl,h1⟩:=zn9 h0
 obtain⟨a2,u2,rfl,h2⟩:=zn9 h1
 cases ψa1 h2
 exact⟨a0,a1,a2,rfl⟩
theorem ztF{us:List Value}(h:us.length=4):∃a0,∃a1,∃a2,∃a3,us=[a0,a1,a2,a3]:=by
 obtain⟨a0,u0,rfl,h0⟩:=zn9 h
 obtain⟨a1,u1,rfl,h1⟩:=zn9 h0
 obtain⟨a2,u2,rfl,h2⟩:=zn9 h1
 obtain⟨a3,u3,rfl,h3⟩:=zn9 h2
 cases ψa1 h3
 exact⟨a0,a1,a2,a3,rfl⟩
theorem lst5{us:List Value}(h:us.length=5):∃a0,∃a1,∃a2,∃a3,∃a4,us=[a0,a1,a2,a3,a4]:=by
 obtain⟨a0,u0,rfl,h0⟩:=zn9 h
 obtain⟨a1,u1,rfl,h1⟩:=zn9 h0
 obtain⟨a2,u2,rfl,h2⟩:=zn9 h1
 obtain⟨a3,u3,rfl,h3⟩:=zn9 h2
 obtain⟨a4,u4,rfl,h4⟩:=zn9 h3
 cases ψa1 h4
 exact⟨a0,a1,a2,a3,a4,rfl⟩
theorem zzQ{K:ψa}{h:Heap}{mg:Str→Option Value}(X:K.In h)(G:h.Ns mainGlobals mg)
  {f0 f1 f2 f3 f4 f5 f6 f7 f8 f9 f10 f11 f12 f13 f14 f15 f16 f17 f18 f19 f20 f21 f22 f23 f24 f25 f26 f27 f28 f29 f30 f31 f32 f33 f34 f35 f36 f37 f38 f39 f40 f41 f42 f43 f44 f45 f46 f47 f48 f49 f50 f51 f52 f53 f54 f55 f56 f57 f58 f59 f60 f61 f62 f63 f64 f65 f66 f67:Addr} {d0 d1 d2 d3 d4 d5 d6 d7 d8 d9 d10 d11 d12 d13 d14 d15 d16 d17 d18 d19 d20 d21 d22 d23 d24 d25 d26 d27 d28 d29 d30 d31 d32 d33 d34 d35 d36 d37 d38 d39 d40 d41 d42 d43 d44 d45 d46 d47 d48 d49 d50 d51 d52 d53 d54 d55 d56 d57 d58 d59 d60 d61 d62 d63 d64 d65 d66 d67:FuncData}
  (F0:Fun K "divisor" "divisor" zju f0 d0) (m0:mg "divisor"=some (.ref f0))
  (F1:Fun K "ratio" "ratio" zoH f1 d1) (m1:mg "ratio"=some (.ref f1))
  (F2:Fun K "plus" "plus" zqU f2 d2) (m2:mg "plus"=some (.ref f2))
  (F3:Fun K "minus" "minus" znY f3 d3) (m3:mg "minus"=some (.ref f3))
  (F4:Fun K "times" "times" zol f4 d4) (m4:mg "times"=some (.ref f4))
  (F5:Fun K "over" "over" ztu f5 d5) (m5:mg "over"=some (.ref f5))
  (F6:Fun K "below" "below" znJ f6 d6) (m6:mg "below"=some (.ref f6))
  (F7:Fun K "common" "common" zi1 f7 d7) (m7:mg "common"=some (.ref f7))
  (F8:Fun K "shared_divisor" "shared_divisor" zd0 f8 d8) (m8:mg "shared_divisor"=some (.ref f8))
  (F9:Fun K "lowest" "lowest" ziY f9 d9) (m9:mg "lowest"=some (.ref f9))
  (F10:Fun K "is_whole" "is_whole" zhW f10 d10) (m10:mg "is_whole"=some (.ref f10))
  (F11:Fun K "is_within" "is_within" zhu f11 d11) (m11:mg "is_within"=some (.ref f11))
  (F12:Fun K "is_fraction" "is_fraction" zfz f12 d12) (m12:mg "is_fraction"=some (.ref f12))
  (F13:Fun K "are_weights" "are_weights" zef f13 d13) (m13:mg "are_weights"=some (.ref f13))
  (F14:Fun K "is_box" "is_box" zkL f14 d14) (m14:mg "is_box"=some (.ref f14))
  (F15:Fun K "look_boxes" "look_boxes" zeN f15 d15) (m15:mg "look_boxes"=some (.ref f15))
  (F16:Fun K "look_budget" "look_budget" zfD f16 d16) (m16:mg "look_budget"=some (.ref f16))
  (F17:Fun K "is_plan" "is_plan" zhL f17 d17) (m17:mg "is_plan"=some (.ref f17))
  (F18:Fun K "power" "power" znS f18 d18) (m18:mg "power"=some (.ref f18))
  (F19:Fun K "missed" "missed" zlw f19 d19) (m19:mg "missed"=some (.ref f19))
  (F20:Fun K "chance" "chance" zlN f20 d20) (m20:mg "chance"=some (.ref f20))
  (F21:Fun K "gain" "gain" zrl f21 d21) (m21:mg "gain"=some (.ref f21))
  (F22:Fun K "cost_sum" "cost_sum" zgy f22 d22) (m22:mg "cost_sum"=some (.ref f22))
  (F23:Fun K "is_share" "is_share" zia f23 d23) (m23:mg "is_share"=some (.ref f23))
  (F24:Fun K "is_mix" "is_mix" zi9 f24 d24) (m24:mg "is_mix"=some (.ref f24))
  (F25:Fun K "finds_enough" "finds_enough" zeW f25 d25) (m25:mg "finds_enough"=some (.ref f25))
  (F26:Fun K "is_seeker_right" "is_seeker_right" zbH f26 d26) (m26:mg "is_seeker_right"=some (.ref f26))
  (F27:Fun K "is_hider_paper" "is_hider_paper" zdY f27 d27) (m27:mg "is_hider_paper"=some (.ref f27))
  (F28:Fun K "is_last_look_worth" "is_last_look_worth" zc1 f28 d28) (m28:mg "is_last_look_worth"=some (.ref f28))
  (F29:Fun K "is_next_look_dear" "is_next_look_dear" zdd f29 d29) (m29:mg "is_next_look_dear"=some (.ref f29))
  (F30:Fun K "is_count_best" "is_count_best" zex f30 d30) (m30:mg "is_count_best"=some (.ref f30))
  (F31:Fun K "is_sum_low" "is_sum_low" zdK f31 d31) (m31:mg "is_sum_low"=some (.ref f31))
  (F32:Fun K "is_hider_right" "is_hider_right" zdW f32 d32) (m32:mg "is_hider_right"=some (.ref f32))
  (F33:Fun K "budget_judged" "budget_judged" zey f33 d33) (m33:mg "budget_judged"=some (.ref f33))
  (F34:Fun K "added" "added" znV f34 d34) (m34:mg "added"=some (.ref f34))
  (F35:Fun K "least_chance" "least_chance" zeT f35 d35) (m35:mg "least_chance"=some (.ref f35))
  (F36:Fun K "fair_weights" "fair_weights" zdE f36 d36) (m36:mg "fair_weights"=some (.ref f36))
  (F37:Fun K "chance_for" "chance_for" zdS f37 d37) (m37:mg "chance_for"=some (.ref f37))
  (F38:Fun K "counts_and_worth" "counts_and_worth" zb2 f38 d38) (m38:mg "counts_and_worth"=some (.ref f38))
  (F39:Fun K "look_shares" "look_shares" zea f39 d39) (m39:mg "look_shares"=some (.ref f39))
  (F40:Fun K "mix_of" "mix_of" zgD f40 d40) (m40:mg "mix_of"=some (.ref f40))
  (F41:Fun K "paper_of" "paper_of" zgx f41 d41) (m41:mg "paper_of"=some (.ref f41))
  (F42:Fun K "sure_answer" "sure_answer" zd9 f42 d42) (m42:mg "sure_answer"=some (.ref f42))
  (F43:Fun K "is_sure" "is_sure" zf2 f43 d43) (m43:mg "is_sure"=some (.ref f43))
  (F44:Fun K "budget_worth" "budget_worth" zeS f44 d44) (m44:mg "budget_worth"=some (.ref f44))
  (F45:Fun K "_law_mix" "_law_mix" zh0 f45 d45) (m45:mg "_law_mix"=some (.ref f45))
  (F46:Fun K "_law_cell_at" "_law_cell_at" ze1 f46 d46) (m46:mg "_law_cell_at"=some (.ref f46))
  (F47:Fun K "_law_left" "_law_left" zhp f47 d47) (m47:mg "_law_left"=some (.ref f47))
  (F48:Fun K "_law_draw" "_law_draw" zhi f48 d48) (m48:mg "_law_draw"=some (.ref f48))
  (F49:Fun K "_law_boxes" "_law_boxes" zgr f49 d49) (m49:mg "_law_boxes"=some (.ref f49))
  (F50:Fun K "_law_whole" "_law_whole" zgg f50 d50) (m50:mg "_law_whole"=some (.ref f50))
  (F51:Fun K "_law_fraction" "_law_fraction" zer f51 d51) (m51:mg "_law_fraction"=some (.ref f51))
  (F52:Fun K "_law_lowest" "_law_lowest" zfr f52 d52) (m52:mg "_law_lowest"=some (.ref f52))
  (F53:Fun K "_law_miss" "_law_miss" zhf f53 d53) (m53:mg "_law_miss"=some (.ref f53))
  (F54:Fun K "_law_plus" "_law_plus" zht f54 d54) (m54:mg "_law_plus"=some (.ref f54))
  (F55:Fun K "_law_less" "_law_less" zhk f55 d55) (m55:mg "_law_less"=some (.ref f55))
  (F56:Fun K "_law_plan" "_law_plan" zfw f56 d56) (m56:mg "_law_plan"=some (.ref f56))
  (F57:Fun K "_law_price" "_law_price" zeP f57 d57) (m57:mg "_law_price"=some (.ref f57))
  (F58:Fun K "_law_chance" "_law_chance" zeg f58 d58) (m58:mg "_law_chance"=some (.ref f58))
  (F59:Fun K "_law_keeps" "_law_keeps" zdP f59 d59) (m59:mg "_law_keeps"=some (.ref f59))
  (F60:Fun K "_law_finds" "_law_finds" zeQ f60 d60) (m60:mg "_law_finds"=some (.ref f60))
  (F61:Fun K "_law_marks" "_law_marks" zf3 f61 d61) (m61:mg "_law_marks"=some (.ref f61))
  (F62:Fun K "_law_hides" "_law_hides" zdM f62 d62) (m62:mg "_law_hides"=some (.ref f62))
  (F63:Fun K "_law_deep" "_law_deep" zb9 f63 d63) (m63:mg "_law_deep"=some (.ref f63))
  (F64:Fun K "_law_mix_else" "_law_mix_else" zcL f64 d64) (m64:mg "_law_mix_else"=some (.ref f64))
  (F65:Fun K "_law_paper_else" "_law_paper_else" zcW f65 d65) (m65:mg "_law_paper_else"=some (.ref f65))
  (F66:Fun K "_law_worth_else" "_law_worth_else" zdB f66 d66) (m66:mg "_law_worth_else"=some (.ref f66))
  (F67:Fun K "law" "law" zqG f67 d67) (m67:mg "law"=some (.ref f67))
  (z_set:mg "set"=none)
  (z_isinstance:mg "isinstance"=none)
  (z_range:mg "range"=none)
  (z_all:mg "all"=none)
  (z_sorted:mg "sorted"=none)
  (z_abs:mg "abs"=none)
  (z_sum:mg "sum"=none)
  (z_len:mg "len"=none)
  (z_list:mg "list"=none)
  (z_zip:mg "zip"=none)
  (z_int:mg "int"=none)
  (z_bool:mg "bool"=none)
  (z_tuple:mg "tuple"=none)
  (z_max:mg "max"=none)
  (z_min:mg "min"=none)
  {c_NoNumber c_NoBoxes c_NoBudget:Addr}
  (ac_NoNumber:mg "NoNumber"=some (.ref c_NoNumber))
  (ac_NoBoxes:mg "NoBoxes"=some (.ref c_NoBoxes))
  (ac_NoBudget:mg "NoBudget"=some (.ref c_NoBudget))
  {k_MOST_BOXES:Tok} (ak_MOST_BOXES:mg "MOST_BOXES"=some (.int 6 k_MOST_BOXES))
  {k_MOST_COST:Tok} (ak_MOST_COST:mg "MOST_COST"=some (.int 60 k_MOST_COST))
  {k_MOST_OF:Tok} (ak_MOST_OF:mg "MOST_OF"=some (.int 50 k_MOST_OF))
  {k_MOST_BUDGET:Tok} (ak_MOST_BUDGET:mg "MOST_BUDGET"=some (.int 60 k_MOST_BUDGET))
  {k_MOST_LOOKS:Tok} (ak_MOST_LOOKS:mg "MOST_LOOKS"=some (.int 60 k_MOST_LOOKS))
  (xc_NoNumber:PySem.W.excIn K c_NoNumber zpO "ValueError.__new__"=true)
  (xc_NoBoxes:PySem.W.excIn K c_NoBoxes zpO "ValueError.__new__"=true)
  (xc_NoBudget:PySem.W.excIn K c_NoBudget zpO "ValueError.__new__"=true)
  : Txt K mg ⟨f0,d0,f1,d1,f2,d2,f3,d3,f4,d4,f5,d5,f6,d6,f7,d7,f8,d8,f9,d9,f10,d10,f11,d11,f12,d12,f13,d13,f14,d14,f15,d15,f16,d16,f17,d17,f18,d18,f19,d19,f20,d20,f21,d21,f22,d22,f23,d23,f24,d24,f25,d25,f26,d26,f27,d27,f28,d28,f29,d29,f30,d30,f31,d31,f32,d32,f33,d33,f34,d34,f35,d35,f36,d36,f37,d37,f38,d38,f39,d39,f40,d40,f41,d41,f42,d42,f43,d43,f44,d44,f45,d45,f46,d46,f47,d47,f48,d48,f49,d49,f50,d50,f51,d51,f52,d52,f53,d53,f54,d54,f55,d55,f56,d56,f57,d57,f58,d58,f59,d59,f60,d60,f61,d61,f62,d62,f63,d63,f64,d64,f65,d65,f66,d66,f67,d67,c_NoNumber,c_NoBoxes,c_NoBudget,k_MOST_BOXES,k_MOST_COST,k_MOST_OF,k_MOST_BUDGET,k_MOST_LOOKS⟩:=by
 exact⟨F0,F0.binds λ_ _ _ _ _ _ us hl=>by obtain⟨_,_,rfl⟩:=zgA hl;rfl,m0,F1,F1.binds λ_ _ _ _ _ _ us hl=>by obtain⟨_,_,rfl⟩:=zgA hl;rfl,m1,F2,F2.binds λ_ _ _ _ _ _ us hl=>by obtain⟨_,_,rfl⟩:=zgA hl;rfl,m2,F3,F3.binds λ_ _ _ _ _ _ us hl=>by obtain⟨_,_,rfl⟩:=zgA hl;rfl,m3,F4,F4.binds λ_ _ _ _ _ _ us hl=>by obtain⟨_,_,rfl⟩:=zgA hl;rfl,m4,F5,F5.binds λ_ _ _ _ _ _ us hl=>by obtain⟨_,_,rfl⟩:=zgA hl;rfl,m5,F6,F6.binds λ_ _ _ _ _ _ us hl=>by obtain⟨_,_,rfl⟩:=zgA hl;rfl,m6,F7,F7.binds λ_ _ _ _ _ _ us hl=>by obtain⟨_,rfl⟩:=zoE hl;rfl,m7,F8,F8.binds λ_ _ _ _ _ _ us hl=>by obtain⟨_,rfl⟩:=zoE hl;rfl,m8,F9,F9.binds λ_ _ _ _ _ _ us hl=>by obtain⟨_,rfl⟩:=zoE hl;rfl,m9,F10,F10.binds λ_ _ _ _ _ _ us hl=>by obtain⟨_,rfl⟩:=zoE hl;rfl,m10,F11,F11.binds λ_ _ _ _ _ _ us hl=>by obtain⟨_,_,_,rfl⟩:=zvL hl;rfl,m11,F12,F12.binds λ_ _ _ _ _ _ us hl=>by obtain⟨_,rfl⟩:=zoE hl;rfl,m12,F13,F13.binds λ_ _ _ _ _ _ us hl=>by obtain⟨_,_,rfl⟩:=zgA hl;rfl,m13,F14,F14.binds λ_ _ _ _ _ _ us hl=>by obtain⟨_,rfl⟩:=zoE hl;rfl,m14,F15,F15.binds λ_ _ _ _ _ _ us hl=>by obtain⟨_,rfl⟩:=zoE hl;rfl,m15,F16,F16.binds λ_ _ _ _ _ _ us hl=>by obtain⟨_,rfl⟩:=zoE hl;rfl,m16,F17,F17.binds λ_ _ _ _ _ _ us hl=>by obtain⟨_,_,rfl⟩:=zgA hl;rfl,m17,F18,F18.binds λ_ _ _ _ _ _ us hl=>by obtain⟨_,_,rfl⟩:=zgA hl;rfl,m18,F19,F19.binds λ_ _ _ _ _ _ us hl=>by obtain⟨_,_,rfl⟩:=zgA hl;rfl,m19,F20,F20.binds λ_ _ _ _ _ _ us hl=>by obtain⟨_,_,rfl⟩:=zgA hl;rfl,m20,F21,F21.binds λ_ _ _ _ _ _ us hl=>by obtain⟨_,_,rfl⟩:=zgA hl;rfl,m21,F22,F22.binds λ_ _ _ _ _ _ us hl=>by obtain⟨_,_,rfl⟩:=zgA hl;rfl,m22,F23,F23.binds λ_ _ _ _ _ _ us hl=>by obtain⟨_,_,rfl⟩:=zgA hl;rfl,m23,F24,F24.binds λ_ _ _ _ _ _ us hl=>by obtain⟨_,_,rfl⟩:=zgA hl;rfl,m24,F25,F25.binds λ_ _ _ _ _ _ us hl=>by obtain⟨_,_,_,_,rfl⟩:=ztF hl;rfl,m25,F26,F26.binds λ_ _ _ _ _ _ us hl=>by obtain⟨_,_,_,_,rfl⟩:=ztF hl;rfl,m26,F27,F27.binds λ_ _ _ _ _ _ us hl=>by obtain⟨_,_,rfl⟩:=zgA hl;rfl,m27,F28,F28.binds λ_ _ _ _ _ _ us hl=>by obtain⟨_,_,_,_,rfl⟩:=ztF hl;rfl,m28,F29,F29.binds λ_ _ _ _ _ _ us hl=>by obtain⟨_,_,_,_,rfl⟩:=ztF hl;rfl,m29,F30,F30.binds λ_ _ _ _ _ _ us hl=>by obtain⟨_,_,_,_,rfl⟩:=ztF hl;rfl,m30,F31,F31.binds λ_ _ _ _ _ _ us hl=>by obtain⟨_,_,_,_,rfl⟩:=ztF hl;rfl,m31,F32,F32.binds λ_ _ _ _ _ _ us hl=>by obtain⟨_,_,_,_,rfl⟩:=ztF hl;rfl,m32,F33,F33.binds λ_ _ _ _ _ _ us hl=>by obtain⟨_,_,_,_,_,rfl⟩:=lst5 hl;rfl,m33,F34,F34.binds λ_ _ _ _ _ _ us hl=>by obtain⟨_,rfl⟩:=zoE hl;rfl,m34,F35,F35.binds λ_ _ _ _ _ _ us hl=>by obtain⟨_,rfl⟩:=zoE hl;rfl,m35,F36,F36.binds λ_ _ _ _ _ _ us hl=>by obtain⟨_,_,rfl⟩:=zgA hl;rfl,m36,F37,F37.binds λ_ _ _ _ _ _ us hl=>by obtain⟨_,_,_,rfl⟩:=zvL hl;rfl,m37,F38,F38.binds λ_ _ _ _ _ _ us hl=>by obtain⟨_,_,rfl⟩:=zgA hl;rfl,m38,F39,F39.binds λ_ _ _ _ _ _ us hl=>by obtain⟨_,_,_,rfl⟩:=zvL hl;rfl,m39,F40,F40.binds λ_ _ _ _ _ _ us hl=>by obtain⟨_,_,_,rfl⟩:=zvL hl;rfl,m40,F41,F41.binds λ_ _ _ _ _ _ us hl=>by obtain⟨_,_,rfl⟩:=zgA hl;rfl,m41,F42,F42.binds λ_ _ _ _ _ _ us hl=>by obtain⟨_,rfl⟩:=zoE hl;rfl,m42,F43,F43.binds λ_ _ _ _ _ _ us hl=>by obtain⟨_,_,rfl⟩:=zgA hl;rfl,m43,F44,F44.binds λ_ _ _ _ _ _ us hl=>by obtain⟨_,_,rfl⟩:=zgA hl;rfl,m44,F45,F45.binds λ_ _ _ _ _ _ us hl=>by obtain⟨_,_,rfl⟩:=zgA hl;rfl,m45,F46,F46.binds λ_ _ _ _ _ _ us hl=>by obtain⟨_,_,rfl⟩:=zgA hl;rfl,m46,F47,F47.binds λ_ _ _ _ _ _ us hl=>by obtain⟨_,_,rfl⟩:=zgA hl;rfl,m47,F48,F48.binds λ_ _ _ _ _ _ us hl=>by obtain⟨_,_,rfl⟩:=zgA hl;rfl,m48,F49,F49.binds λ_ _ _ _ _ _ us hl=>by obtain⟨_,_,rfl⟩:=zgA hl;rfl,m49,F50,F50.binds λ_ _ _ _ _ _ us hl=>by obtain⟨_,rfl⟩:=zoE hl;rfl,m50,F51,F51.binds λ_ _ _ _ _ _ us hl=>by obtain⟨_,rfl⟩:=zoE hl;rfl,m51,F52,F52.binds λ_ _ _ _ _ _ us hl=>by obtain⟨_,_,rfl⟩:=zgA hl;rfl,m52,F53,F53.binds λ_ _ _ _ _ _ us hl=>by obtain⟨_,_,rfl⟩:=zgA hl;rfl,m53,F54,F54.binds λ_ _ _ _ _ _ us hl=>by obtain⟨_,_,rfl⟩:=zgA hl;rfl,m54,F55,F55.binds λ_ _ _ _ _ _ us hl=>by obtain⟨_,_,rfl⟩:=zgA hl;rfl,m55,F56,F56.binds λ_ _ _ _ _ _ us hl=>by obtain⟨_,_,rfl⟩:=zgA hl;rfl,m56,F57,F57.binds λ_ _ _ _ _ _ us hl=>by obtain⟨_,_,rfl⟩:=zgA hl;rfl,m57,F58,F58.binds λ_ _ _ _ _ _ us hl=>by obtain⟨_,_,_,rfl⟩:=zvL hl;rfl,m58,F59,F59.binds λ_ _ _ _ _ _ us hl=>by obtain⟨_,_,_,rfl⟩:=zvL hl;rfl,m59,F60,F60.binds λ_ _ _ _ _ _ us hl=>by obtain⟨_,_,_,_,rfl⟩:=ztF hl;rfl,m60,F61,F61.binds λ_ _ _ _ _ _ us hl=>by obtain⟨_,_,_,_,rfl⟩:=ztF hl;rfl,m61,F62,F62.binds λ_ _ _ _ _ _ us hl=>by obtain⟨_,_,_,_,rfl⟩:=ztF hl;rfl,m62,F63,F63.binds λ_ _ _ _ _ _ us hl=>by obtain⟨_,rfl⟩:=zoE hl;rfl,m63,F64,F64.binds λ_ _ _ _ _ _ us hl=>by obtain⟨_,_,_,rfl⟩:=zvL hl;rfl,m64,F65,F65.binds λ_ _ _ _ _ _ us hl=>by obtain⟨_,_,_,rfl⟩:=zvL hl;rfl,m65,F66,F66.binds λ_ _ _ _ _ _ us hl=>by obtain⟨_,_,rfl⟩:=zgA hl;rfl,m66,F67,F67.binds λ_ _ _ _ _ _ us hl=>by obtain⟨_,rfl⟩:=zoE hl;rfl,m67,z_set,z_isinstance,z_range,z_all,z_sorted,z_abs,z_sum,z_len,z_list,z_zip,z_int,z_bool,z_tuple,z_max,z_min,ac_NoNumber,ac_NoBoxes,ac_NoBudget,ak_MOST_BOXES,ak_MOST_COST,ak_MOST_OF,ak_MOST_BUDGET,ak_MOST_LOOKS,xc_NoNumber,xc_NoBoxes,xc_NoBudget⟩
theorem zzL{K:ψa}{w:World}{mg:Str→Option Value}{h:Heap}{fa:Addr}{P:Program}(X:K.In h)(G:h.Ns mainGlobals mg)(hfa:mg "law"=some (.ref fa)){a:Ad}(T:Txt K mg a) :
  ∃fd:FuncData,(∀(s:Shared) (u:Value),BindsTo s fd ⟨[u],[]⟩ [("_law_script",u)])∧∀base:Heap,K.In base→base.Ns mainGlobals mg→zcn P w K mg base CX0 9 fa fd ["_law_script"] (zvo K):=by
 have e:=hfa.symm.trans T.m_law
 cases e
 refine⟨a.d_law,λs v=>?_,λbase _ _=>zyl T⟩
 obtain⟨oc,od,kV,doc,pm,an,cdv,ct,osl,e,lk,hcd⟩:=T.F_law.ex
 rw[e]
 exact .of_eq rfl
theorem walk{l:PySem.W.OpenLaw}{q:Program}{loose:List Str}{XP:(Str→Option Value)→Heap→Prop}{YP:World→Heap→Prop}{d:DefRec}{K:Params→ψa}(hn:l.most=some 63)(hdf:d.params.defaults=[])
  (hY:∀(w:World) (h:Heap),YP w h→(Qcu).In h)
  (F:∀(w:World) (mg:Str→Option Value) (fa:Addr) (h:Heap),(Qcu).In h→h.Ns mainGlobals mg→mg d.name=some (.ref fa) →
   ∃fd:FuncData,(∀(s:Shared) (u:Value),BindsTo s fd ⟨[u],[]⟩ [("_law_script",u)])∧∀base:Heap,(Qcu).In base→base.Ns mainGlobals mg→zcn l.prog w (Qcu) mg base CX0 9 fa fd ["_law_script"] (zvo (Qcu))) :
  PySem.W.WalkO q loose XP YP l.row.toRowW d [] (λf vs=>PySem.call f vs) :=
 L2.zvb (n:=63) (k:=9) (x:="_law_script") (CX:=λ_=>CX0) (sp:=λw=>zvo (Qcu)) hn (Qn) hdf ⟨rfl,by decide,by decide⟩ hY F (λ_ _ a ns hb hl _ hS=>⟨a,ns,rfl,hS,hl,hb,λ_=>rfl⟩) λ_ _ _ _ _ z=>z
end My
open PySem PySem.W in
theorem My.walk_at{K:Params→Frag}{w:World}{h:Heap}{l:OpenLaw}{q:Program}{loose:List Str}{XP:(Str→Option Value)→Heap→Prop}{d:DefRec}{C:Prop}(_:(Qcu).In h)
  (use:WalkO q loose XP (λw h=>(Qcu).In h) l.row.toRowW d [] (λf vs=>PySem.call f vs)→C) (W:WalkO q loose XP (λw h=>(Qcu).In h) l.row.toRowW d [] (λf vs=>PySem.call f vs)):C:=use W
noncomputable section
namespace Hd
open PySem PySem.W.Fast
structure Q (α:Type) where
  a:α
  b:α
  c:α
  d:α
  e:α
  f:α
  g:α
  h:α
class X where
  s:Q (Q (Q Str))
  t:Q (Q (Q String))
  r:Q (Q (Q Obj))
  p:Program
  P:Params
noncomputable def sp (p:Program) (n:Nat):Stmt:=(p.main.body.drop n).headD (.Pass ⟨0,0,0,0⟩)
noncomputable def st [x:X] (n:Nat):Stmt:=sp x.p n
noncomputable def cb:Stmt→List Stmt
  | .ClassDef _ _ _ b ..=>b
  | _=>[]
noncomputable def sm [x:X] (n k:Nat):Stmt:=((cb (st n)).drop k).headD (.Pass ⟨0,0,0,0⟩)
noncomputable def fn (s:Stmt) (q:Str) (g:Addr) (c:List (Str×Addr)) (d k o m:Value) (a:Option Addr) (z t:Value) (b:Addr):FuncData:=match s with
  | .FunctionDef n p y _ _ _ u ..=>⟨n,q,p,.stmts y,u,g,c,d,k,o,m,a,z,t,b⟩
  | _=>default
abbrev z:=W.BT.nil
noncomputable def N (o:Obj) (l r:W.BT):W.BT:=.node o l r
noncomputable def L (o:Obj):W.BT:=.node o .nil .nil
noncomputable def e [x:X] (s:Str) (n:Nat) (v:Value):DictEntry:=⟨PyData.keyHash x.P s,.str s n,v⟩
noncomputable def vR (n:Nat):Option Value:=some (.ref n)
noncomputable def vr (n:Nat):Value:=.ref n
noncomputable def vO:Value:=.int 0 0
noncomputable def vI (n:Int):Value:=.int n 0
noncomputable def vS (s:Str) (n:Tok):Value:=.str s n
noncomputable def vY (s:String):Value:=.type s
noncomputable def vB (s:String):Value:=.builtin s
section
variable [x:X]
abbrev s0:=x.s.a.e.c
abbrev s1:=x.s.b.f.c
abbrev r2:=x.r.a.a.a
abbrev r3:=x.r.a.a.b
abbrev r4:=x.r.a.a.c
abbrev r5:=x.r.a.a.e
abbrev r6:=x.r.a.a.f
abbrev r7:=x.r.a.a.g
abbrev r8:=x.r.a.a.h
abbrev r9:=x.r.a.b.a
abbrev r10:=x.r.a.b.b
abbrev r11:=x.r.a.b.c
abbrev s12:=x.s.a.c.f
abbrev s13:=x.s.a.a.e
abbrev s14:=x.s.b.b.d
abbrev s15:=x.s.b.b.g
abbrev s16:=x.s.a.b.f
abbrev s17:=x.s.a.d.e
abbrev s18:=x.s.a.d.f
abbrev s19:=x.s.a.d.h
abbrev s20:=x.s.a.e.a
abbrev s21:=x.s.a.g.f
abbrev s22:=x.s.a.a.f
abbrev s23:=x.s.b.b.h
abbrev s24:=x.s.b.c.f
abbrev s25:=x.s.b.c.g
def i0:=e x.s.a.a.d 165 (vS s13 187)
def i1:=e s22 166 .none
def i2:=e x.s.a.a.g 167 .none
def i3:=e x.s.a.a.h 168 (vB x.t.a.a.e)
def i4:=e x.s.a.b.a 169 .none
def i5:=e x.s.a.b.b 170 (vr 6)
def i6:=e x.s.a.b.c 171 (vr 4)
def i7:=e x.s.a.b.d 173 (vS x.s.a.a.b 172)
def i8:=e x.s.a.b.e 174 .none
def i9:=e s16 206 (vr 24)
def i10:=e x.s.a.b.g 196 (vS s13 187)
def i11:=e x.s.a.b.h 198 (vS s16 197)
def i12:=e x.s.a.c.a 200 (.int 2 199)
def i13:=e x.s.a.c.b 201 (vr 22)
def i14:=e x.s.a.c.c 203 (vr 25)
def i15:=e s22 204 .none
def i16:=e x.s.a.c.d 222 (vr 37)
def i17:=e x.s.a.b.g 214 (vS s13 187)
def i18:=e x.s.a.b.h 216 (vS x.s.a.c.d 215)
def i19:=e x.s.a.c.a 218 (.int 4 217)
def i20:=e x.s.a.c.b 219 (vr 35)
def i21:=e s22 220 .none
def i22:=e x.s.a.c.e 238 (vr 49)
def i23:=e x.s.a.b.g 230 (vS s13 187)
def i24:=e x.s.a.b.h 232 (vS x.s.a.c.e 231)
def i25:=e x.s.a.c.a 234 (.int 6 233)
def i26:=e x.s.a.c.b 235 (vr 47)
def i27:=e s22 236 .none
def i28:=e x.s.a.a.d 165 (vS s12 255)
def i29:=e x.s.a.c.g 254 (vr 61)
def i30:=e x.s.a.c.h 265 (vr 70)
def i31:=e x.s.a.d.a 274 (vr 77)
def i32:=e x.s.a.d.b 282 (vr 84)
def i33:=e x.s.a.d.c 290 (vr 91)
def i34:=e x.s.a.d.d 298 (vr 98)
def i35:=e x.s.a.b.g 246 (vS s13 187)
def i36:=e x.s.a.b.h 248 (vS x.s.a.c.g 247)
def i37:=e x.s.a.c.a 250 (.int 8 249)
def i38:=e x.s.a.c.b 251 (vr 59)
def i39:=e s22 252 .none
def i40:=e x.s.a.a.d 165 (vS s0 367)
def i41:=e x.s.a.e.d 306 (vr 105)
def i42:=e x.s.a.e.e 314 (vr 112)
def i43:=e x.s.a.e.f 320 (vr 117)
def i44:=e x.s.a.e.g 329 (vr 124)
def i45:=e x.s.a.e.h 335 (vr 129)
def i46:=e x.s.a.f.a 344 (vr 136)
def i47:=e x.s.a.f.b 353 (vr 143)
def i48:=e x.s.a.f.c 359 (vr 148)
def i49:=e x.s.a.f.d 366 (vr 155)
def i50:=e x.s.a.f.e 370 (.int 6 369)
def i51:=e x.s.a.f.f 372 (.int 60 371)
def i52:=e x.s.a.f.g 374 (.int 50 373)
def i53:=e x.s.a.f.h 376 (.int 60 375)
def i54:=e x.s.a.g.a 378 (.int 60 377)
def i55:=e x.s.a.g.b 388 (vr 162)
def i56:=e x.s.a.g.c 394 (vr 167)
def i57:=e x.s.a.h.e 401 (vr 174)
def i58:=e x.s.a.h.f 407 (vr 179)
def i59:=e x.s.a.h.g 417 (vr 186)
def i60:=e x.s.a.h.h 425 (vr 193)
def i61:=e x.s.b.a.a 435 (vr 200)
def i62:=e x.s.b.a.b 445 (vr 207)
def i63:=e x.s.b.a.c 451 (vr 212)
def i64:=e x.s.b.a.d 459 (vr 219)
def i65:=e x.s.b.a.e 465 (vr 224)
def i66:=e x.s.b.a.f 481 (vr 231)
def i67:=e x.s.b.a.g 487 (vr 236)
def i68:=e x.s.b.a.h 498 (vr 243)
def i69:=e x.s.b.b.a 510 (vr 250)
def i70:=e x.s.b.c.h 522 (vr 257)
def i71:=e x.s.b.d.a 532 (vr 264)
def i72:=e x.s.b.d.b 538 (vr 269)
def i73:=e x.s.b.d.c 554 (vr 276)
def i74:=e x.s.b.d.d 565 (vr 283)
def i75:=e x.s.b.d.e 574 (vr 290)
def i76:=e x.s.b.d.f 583 (vr 297)
def i77:=e x.s.b.d.g 589 (vr 302)
def i78:=e x.s.b.d.h 595 (vr 307)
def i79:=e x.s.b.e.a 601 (vr 312)
def i80:=e x.s.b.e.b 607 (vr 317)
def i81:=e x.s.b.e.c 613 (vr 322)
def i82:=e x.s.b.e.d 619 (vr 327)
def i83:=e x.s.a.a.d 165 (vS s1 642)
def i84:=e x.s.b.f.d 625 (vr 332)
def i85:=e x.s.b.f.e 631 (vr 337)
def i86:=e x.s.b.f.f 641 (vr 344)
def i87:=e x.s.b.f.g 652 (vr 351)
def i88:=e x.s.b.f.h 660 (vr 358)
def i89:=e x.s.b.g.a 669 (vr 365)
def i90:=e x.s.b.g.b 679 (vr 372)
def i91:=e x.s.b.g.c 691 (vr 379)
def i92:=e x.s.b.g.d 698 (vr 386)
def i93:=e x.s.b.g.e 707 (vr 393)
def i94:=e x.s.b.g.f 717 (vr 400)
def i95:=e x.s.b.g.g 728 (vr 407)
def i96:=e x.s.c.b.d 736 (vr 414)
def i97:=e x.s.c.b.e 744 (vr 421)
def i98:=e x.s.c.b.f 750 (vr 426)
def i99:=e x.s.c.b.g 756 (vr 431)
def i100:=e x.s.c.b.h 762 (vr 436)
def i101:=e x.s.c.c.a 768 (vr 441)
def i102:=e x.s.c.c.b 774 (vr 446)
def i103:=e x.s.c.c.c 788 (vr 453)
def i104:=e x.s.c.c.d 794 (vr 458)
def i105:=e x.s.c.c.e 800 (vr 463)
def i106:=e x.s.c.c.f 806 (vr 468)
def i107:=e x.s.c.c.g 812 (vr 473)
def i108:=e x.s.c.c.h 821 (vr 480)
def i109:=e x.s.c.d.a 827 (vr 485)
def h0(p0:Array Value):Obj:=⟨(vY x.t.a.a.a),none,(.seq p0 0),#[]⟩
def h1(p0:Array Value):Obj:=⟨.none,none,(.fields p0),#[]⟩
def h2(p0:Str)(p1 p2 p3:Tok)(p4:Int)(p5 p6:Value)(p7:Nat)(p8:Value)(p9:Nat)(p10 p11 p12:Value)(p13:Int)(p14:Tok):Obj:=⟨(vY x.t.a.a.b),none,(.fields #[(vS p0 p1),(vS p0 p2),(vS x.s.a.a.b p3),(vI p4),p5,vO,vO,p6,(vr p7),p8,(vI 181),(vr p9),.none,p10,p11,p12,(vI p13),(vI p4),(vS x.s.a.a.b p14)]),#[]⟩
def h3(p0 p1:Nat)(p2:Str)(p3:Tok):Obj:=⟨(vY x.t.a.a.c),none,.plain,#[(vR p0),(vR 3),(vR p1),none,(some (vS p2 p3)),none,(vR 0)]⟩
def h4(p0:Array DictEntry)(p1:Nat):Obj:=⟨(vY x.t.a.a.d),none,(.dict p0 p1),#[]⟩
def h5(p0:String)(p1:Value):Obj:=⟨(vY x.t.a.a.g),none,(.fields #[(vB p0),p1]),#[]⟩
def h6(p0:List Value):Obj:=⟨(vY x.t.a.b.a),none,(.cls ⟨s16,[(vY x.t.a.a.f)],[(vr 24),(vY x.t.a.a.f),(vY x.t.a.b.b),(vY x.t.a.b.c),(vY x.t.a.b.d)],23,s16,true,[],p0,false,none,false⟩),#[(vR 15),none,(some (vS s16 189)),(some (vS s16 197)),(some (vB x.t.a.b.e)),(some (Qw))]⟩
def h7(p0:Nat):Obj:=⟨(vY x.t.a.b.h),none,(.fields #[(vr p0),(vr p0),(vr p0)]),#[]⟩
def h8(p0:Str)(p1 p2 p3:Nat)(p4 p5:Tok):Obj:=⟨(vY x.t.a.b.a),none,(.cls ⟨p0,[(vr 24)],[(vr p1),(vr 24),(vY x.t.a.a.f),(vY x.t.a.b.b),(vY x.t.a.b.c),(vY x.t.a.b.d)],p2,p0,true,[],[],false,none,false⟩),#[(vR p3),none,(some (vS p0 p4)),(some (vS p0 p5)),(some (vB x.t.a.b.e)),(some (Qw))]⟩
def h9(p0:Nat)(p1:Str):Obj:=⟨.none,none,(.func (fn (st p0) p1 0 [] .none .none .none .none none .none .none 0)),#[]⟩
def h10(p0:Nat)(p1 p2:Str)(p3:Tok)(p4:Nat):Obj:=⟨(vY x.t.a.c.b),none,(.func (fn (st p0) p1 3 [] .none .none .none (vS p2 p3) none (vr p4) .none 0)),#[]⟩
def zay:=h0 #[]
def zbh:=h1 #[]
def zqw:=h2 x.s.a.a.a 182 183 184 1 vO vO 11 (.bool false) 12 .none .none .none 185 186
def zqv:=h3 13 3 x.s.a.a.c 164
def b988:=h4 #[i0,i1,i2,i3,i4,i5,i6,i7,i8,i9] 10
def b989:=h1 #[(vI 2),vO,(vr 20)]
def ztD:=h0 #[(vY x.t.a.a.f)]
def zgJ:=h5 x.t.a.a.h (vY x.t.a.b.a)
def ztC:=h4 #[i10,i11,i12,i13] 4
def ztz:=h2 s16 191 192 193 2 vO vO 18 (.bool false) 19 .none .none .none 194 195
def ztA:=h3 20 17 s13 187
def ztB:=h4 #[i10,i12,i13,i14,i15] 3
def b999:=h6 []
def zkf:Obj:=⟨(vY x.t.a.b.f),none,(.fields #[(vS x.s.a.c.c 202),(vr 24),(vB x.t.a.b.g),.none]),#[]⟩
def zj0:=h7 24
def zj9:=h5 x.t.a.c.a (vr 24)
def b1003:=h4 #[i0,i1,i2,i3,i4,i5,i6,i7,i8,i9,i16] 11
def b1004:=h1 #[(vI 2),vO,(vr 20),(vI 4),vO,(vr 33)]
def b1005:=h6 [(vr 37)]
def zd8:=h0 #[(vr 24)]
def zkP:=h4 #[i17,i18,i19,i20] 4
def zkQ:=h2 x.s.a.c.d 209 210 211 4 vO vO 31 (.bool false) 32 .none .none .none 212 213
def zlf:=h3 33 30 s13 187
def zk6:=h4 #[i17,i19,i20,i21] 2
def zlW:=h8 x.s.a.c.d 37 36 28 207 215
def zlR:=h7 37
def zlb:=h5 x.t.a.c.a (vr 37)
def b1018:=h4 #[i0,i1,i2,i3,i4,i5,i6,i7,i8,i9,i16,i22] 12
def b1019:=h1 #[(vI 2),vO,(vr 20),(vI 4),vO,(vr 33),(vI 6),vO,(vr 45)]
def b1020:=h6 [(vr 37),(vr 49)]
def zmB:=h4 #[i23,i24,i25,i26] 4
def zmv:=h2 x.s.a.c.e 225 226 227 6 vO vO 43 (.bool false) 44 .none .none .none 228 229
def zl4:=h3 45 42 s13 187
def zmR:=h4 #[i23,i25,i26,i27] 2
def zm4:=h8 x.s.a.c.e 49 48 40 223 231
def zmJ:=h7 49
def zmr:=h5 x.t.a.c.a (vr 49)
def b1033:=h4 #[i28,i1,i2,i3,i4,i5,i6,i7,i8,i9,i16,i22,i29,i30,i31,i32,i33,i34] 18
def b1034:=h1 #[(vI 2),vO,(vr 20),(vI 4),vO,(vr 33),(vI 6),vO,(vr 45),(vI 8),vO,(vr 57),(vI 11),vO,(vr 69),(vI 19),vO,(vr 76),(vI 26),vO,(vr 83),(vI 28),vO,(vr 90),(vI 30),vO,(vr 97)]
def zoa:=h6 [(vr 37),(vr 49),(vr 61)]
def znL:=h4 #[i35,i36,i37,i38] 4
def znW:=h2 x.s.a.c.g 241 242 243 8 vO vO 55 (.bool false) 56 .none .none .none 244 245
def zod:=h3 57 54 s13 187
def zoz:=h4 #[i35,i37,i38,i39] 2
def zoA:=h8 x.s.a.c.g 61 60 52 239 247
def znP:=h7 61
def zoc:=h5 x.t.a.c.a (vr 61)
def zn8:=h0 #[(vS s17 260),(vS s18 261),(vS x.s.a.d.g 262)]
def znO:=h9 6 x.s.a.c.h
def zof:=h2 x.s.a.c.h 257 258 259 11 (vI 2) (vI 3) 64 (Qw) 65 (vr 66) (vr 67) (vr 68) 263 264
def zob:=h10 6 x.s.a.c.h s12 255 69
def zn5:=h0 #[(vS s19 269),(vS s20 270),(vS x.s.a.e.b 271)]
def zoJ:=h9 7 x.s.a.d.a
def znF:=h2 x.s.a.d.a 266 267 268 19 (vI 2) (vI 3) 71 (Qw) 72 (vr 73) (vr 74) (vr 75) 272 273
def zoj:=h10 7 x.s.a.d.a s12 255 76
def znA:=h0 #[(vS s17 278),(vS s18 279)]
def zoB:=h9 8 x.s.a.d.b
def zon:=h2 x.s.a.d.b 275 276 277 26 (vI 2) (vI 3) 78 (Qw) 79 (vr 80) (vr 81) (vr 82) 280 281
def znq:=h10 8 x.s.a.d.b s12 255 83
def zos:=h0 #[(vS s17 286),(vS s18 287)]
def znC:=h9 9 x.s.a.d.c
def zom:=h2 x.s.a.d.c 283 284 285 28 (vI 2) (vI 3) 85 (Qw) 86 (vr 87) (vr 88) (vr 89) 288 289
def zn6:=h10 9 x.s.a.d.c s12 255 90
def zoo:=h0 #[(vS s17 294),(vS s18 295)]
def zoq:=h9 10 x.s.a.d.d
def zny:=h2 x.s.a.d.d 291 292 293 30 (vI 2) (vI 3) 92 (Qw) 93 (vr 94) (vr 95) (vr 96) 296 297
def zn7:=h10 10 x.s.a.d.d s12 255 97
def b1083:=h4 #[i40,i1,i2,i3,i4,i5,i6,i7,i8,i9,i16,i22,i29,i30,i31,i32,i33,i34,i41,i42,i43,i44,i45,i46,i47,i48,i49,i50,i51,i52,i53,i54,i55,i56] 34
def b1084:=h1 #[(vI 2),vO,(vr 20),(vI 4),vO,(vr 33),(vI 6),vO,(vr 45),(vI 8),vO,(vr 57),(vI 11),vO,(vr 69),(vI 19),vO,(vr 76),(vI 26),vO,(vr 83),(vI 28),vO,(vr 90),(vI 30),vO,(vr 97),(vI 32),vO,(vr 104),(vI 34),vO,(vr 111),(vI 36),vO,(vr 116),(vI 41),vO,(vr 123),(vI 46),vO,(vr 128),(vI 50),vO,(vr 135),(vI 52),vO,(vr 142),(vI 54),vO,(vr 147),(vI 58),vO,(vr 154),(vI 70),vO,(vr 161),(vI 75),vO,(vr 166)]
def zqp:=h0 #[(vS s17 302),(vS s18 303)]
def zp9:=h9 11 x.s.a.e.d
def zqb:=h2 x.s.a.e.d 299 300 301 32 (vI 2) (vI 3) 99 (Qw) 100 (vr 101) (vr 102) (vr 103) 304 305
def zpQ:=h10 11 x.s.a.e.d s12 255 104
def zqg:=h0 #[(vS s17 310),(vS s18 311)]
def zpP:=h9 12 x.s.a.e.e
def zpV:=h2 x.s.a.e.e 307 308 309 34 (vI 2) (vI 3) 106 (Qw) 107 (vr 108) (vr 109) (vr 110) 312 313
def zql:=h10 12 x.s.a.e.e s12 255 111
def zpR:=h9 13 x.s.a.e.f
def zqk:=h2 x.s.a.e.f 315 316 317 36 (vI 1) (vI 3) 113 (Qw) 114 .none .none (vr 115) 318 319
def zp7:=h10 13 x.s.a.e.f s12 255 116
def zpW:=h0 #[(vS x.s.a.g.d 324),(vS x.s.a.e.b 325),(vS x.s.a.g.e 326)]
def zpZ:=h9 14 x.s.a.e.g
def zp1:=h2 x.s.a.e.g 321 322 323 41 (vI 1) (vI 3) 118 (Qw) 119 (vr 120) (vr 121) (vr 122) 327 328
def zpL:=h10 14 x.s.a.e.g s12 255 123
def zsM:=h9 15 x.s.a.e.h
def zs4:=h2 x.s.a.e.h 330 331 332 46 (vI 1) (vI 3) 125 (Qw) 126 .none .none (vr 127) 333 334
def zqR:=h10 15 x.s.a.e.h s12 255 128
def zs6:=h0 #[(vS s21 341)]
def zq0:=h9 17 x.s.a.f.a
def zq1:=h2 x.s.a.f.a 338 339 340 50 (vI 1) (vI 3) 130 (Qw) 131 (vr 132) (vr 133) (vr 134) 342 343
def zq5:=h10 17 x.s.a.f.a x.s.a.g.g 336 135
def zsE:=h0 #[(vS s21 348),(vS x.s.a.g.h 349),(vS x.s.a.h.a 350)]
def zr2:=h9 18 x.s.a.f.b
def zrT:=h2 x.s.a.f.b 345 346 347 52 (vI 3) (vI 3) 137 (Qw) 138 (vr 139) (vr 140) (vr 141) 351 352
def zrv:=h10 18 x.s.a.f.b x.s.a.g.g 336 142
def zrA:=h9 19 x.s.a.f.c
def zrO:=h2 x.s.a.f.c 354 355 356 54 (vI 2) (vI 3) 144 (Qw) 145 .none .none (vr 146) 357 358
def zru:=h10 19 x.s.a.f.c x.s.a.g.g 336 147
def ztl:=h0 #[(vS s21 363)]
def zrs:=h9 20 x.s.a.f.d
def zs1:=h2 x.s.a.f.d 360 361 362 58 (vI 1) (vI 3) 149 (Qw) 150 (vr 151) (vr 152) (vr 153) 364 365
def zrx:=h10 20 x.s.a.f.d x.s.a.g.g 336 154
def zqO:=h0 #[(vS s21 382),(vS x.s.a.h.b 383),(vS x.s.a.h.c 384),(vS x.s.a.h.d 385)]
def ztt:=h9 27 x.s.a.g.b
def zqC:=h2 x.s.a.g.b 379 380 381 70 (vI 1) (vI 3) 156 (Qw) 157 (vr 158) (vr 159) (vr 160) 386 387
def zsD:=h10 27 x.s.a.g.b s0 367 161
def zsI:=h9 28 x.s.a.g.c
def zpK:=h2 x.s.a.g.c 389 390 391 75 (vI 1) (vI 3) 163 (Qw) 164 .none .none (vr 165) 392 393
def zs0:=h10 28 x.s.a.g.c s0 367 166
def b1154:=h4 #[i40,i1,i2,i3,i4,i5,i6,i7,i8,i9,i16,i22,i29,i30,i31,i32,i33,i34,i41,i42,i43,i44,i45,i46,i47,i48,i49,i50,i51,i52,i53,i54,i55,i56,i57,i58,i59,i60,i61,i62,i63,i64,i65,i66,i67,i68,i69] 47
def b1155:=h1 #[(vI 2),vO,(vr 20),(vI 4),vO,(vr 33),(vI 6),vO,(vr 45),(vI 8),vO,(vr 57),(vI 11),vO,(vr 69),(vI 19),vO,(vr 76),(vI 26),vO,(vr 83),(vI 28),vO,(vr 90),(vI 30),vO,(vr 97),(vI 32),vO,(vr 104),(vI 34),vO,(vr 111),(vI 36),vO,(vr 116),(vI 41),vO,(vr 123),(vI 46),vO,(vr 128),(vI 50),vO,(vr 135),(vI 52),vO,(vr 142),(vI 54),vO,(vr 147),(vI 58),vO,(vr 154),(vI 70),vO,(vr 161),(vI 75),vO,(vr 166),(vI 78),vO,(vr 173),(vI 81),vO,(vr 178),(vI 85),vO,(vr 185),(vI 90),vO,(vr 192),(vI 92),vO,(vr 199),(vI 95),vO,(vr 206),(vI 98),vO,(vr 211),(vI 100),vO,(vr 218),(vI 104),vO,(vr 223),(vI 106),vO,(vr 230),(vI 113),vO,(vr 235),(vI 121),vO,(vr 242),(vI 126),vO,(vr 249)]
def zr0:=h0 #[(vS x.s.b.b.b 398)]
def zum:=h9 29 x.s.a.h.e
def zvd:=h2 x.s.a.h.e 395 396 397 78 (vI 1) (vI 3) 168 (Qw) 169 (vr 170) (vr 171) (vr 172) 399 400
def zua:=h10 29 x.s.a.h.e s0 367 173
def zuZ:=h9 30 x.s.a.h.f
def zuM:=h2 x.s.a.h.f 402 403 404 81 (vI 2) (vI 3) 175 (Qw) 176 .none .none (vr 177) 405 406
def zve:=h10 30 x.s.a.h.f s0 367 178
def zuv:=h0 #[(vS x.s.b.b.c 411),(vS s14 412),(vS x.s.b.b.e 413),(vS x.s.b.b.f 414)]
def zt9:=h9 31 x.s.a.h.g
def zts:=h2 x.s.a.h.g 408 409 410 85 (vI 2) (vI 3) 180 (Qw) 181 (vr 182) (vr 183) (vr 184) 415 416
def zrB:=h10 31 x.s.a.h.g s0 367 185
def zun:=h0 #[(vS s15 421),(vS s14 422)]
def zro:=h9 32 x.s.a.h.h
def zuS:=h2 x.s.a.h.h 418 419 420 90 (vI 2) (vI 3) 187 (Qw) 188 (vr 189) (vr 190) (vr 191) 423 424
def ztG:=h10 32 x.s.a.h.h s0 367 192
def zsL:=h0 #[(vS s15 429),(vS s14 430),(vS s19 431),(vS s20 432)]
def zuT:=h9 33 x.s.b.a.a
def ztM:=h2 x.s.b.a.a 426 427 428 92 (vI 2) (vI 3) 194 (Qw) 195 (vr 196) (vr 197) (vr 198) 433 434
def zqP:=h10 33 x.s.b.a.a s0 367 199
def zrg:=h0 #[(vS s15 439),(vS s14 440),(vS s19 441),(vS s20 442)]
def zsW:=h9 34 x.s.b.a.b
def zrt:=h2 x.s.b.a.b 436 437 438 95 (vI 2) (vI 3) 201 (Qw) 202 (vr 203) (vr 204) (vr 205) 443 444
def zr1:=h10 34 x.s.b.a.b s0 367 206
def ztf:=h9 35 x.s.b.a.c
def zrR:=h2 x.s.b.a.c 446 447 448 98 (vI 2) (vI 3) 208 (Qw) 209 .none .none (vr 210) 449 450
def zsG:=h10 35 x.s.b.a.c s0 367 211
def zsi:=h0 #[(vS s21 455),(vS s23 456)]
def zrr:=h9 36 x.s.b.a.d
def zqA:=h2 x.s.b.a.d 452 453 454 100 (vI 2) (vI 3) 213 (Qw) 214 (vr 215) (vr 216) (vr 217) 457 458
def zsH:=h10 36 x.s.b.a.d s0 367 218
def zrJ:=h9 37 x.s.b.a.e
def zrk:=h2 x.s.b.a.e 460 461 462 104 (vI 2) (vI 3) 220 (Qw) 221 .none .none (vr 222) 463 464
def zqT:=h10 37 x.s.b.a.e s0 367 223
def zrW:Obj:=⟨(vY x.t.a.a.a),none,(.seq #[(vS s15 469),(vS x.s.b.c.a 470),(vS x.s.b.c.b 471),(vS x.s.b.c.c 472),(vS x.s.b.c.d 473),(vS x.s.b.c.e 474),(vS s14 475),(vS s24 476),(vS s19 477),(vS s20 478)] 0),#[]⟩
def ztx:=h9 38 x.s.b.a.f
def zvp:=h2 x.s.b.a.f 466 467 468 106 (vI 4) (vI 3) 225 (Qw) 226 (vr 227) (vr 228) (vr 229) 479 480
def zrY:=h10 38 x.s.b.a.f s0 367 230
def zqF:=h9 39 x.s.b.a.g
def zuX:=h2 x.s.b.a.g 482 483 484 113 (vI 4) (vI 3) 232 (Qw) 233 .none .none (vr 234) 485 486
def ztU:=h10 39 x.s.b.a.g s0 367 235
def zrF:=h0 #[(vS s21 491),(vS s23 492),(vS x.s.b.c.b 493),(vS s25 494),(vS x.s.b.c.a 495)]
def ztj:=h9 40 x.s.b.a.h
def zuu:=h2 x.s.b.a.h 488 489 490 121 (vI 2) (vI 3) 237 (Qw) 238 (vr 239) (vr 240) (vr 241) 496 497
def ztI:=h10 40 x.s.b.a.h s0 367 242
def zsX:=h0 #[(vS s15 502),(vS s24 503),(vS s25 504),(vS s14 505),(vS s19 506),(vS s20 507)]
def zsV:=h9 41 x.s.b.b.a
def zt1:=h2 x.s.b.b.a 499 500 501 126 (vI 4) (vI 3) 244 (Qw) 245 (vr 246) (vr 247) (vr 248) 508 509
def ztL:=h10 41 x.s.b.b.a s0 367 249
def b1239:=h4 #[i40,i1,i2,i3,i4,i5,i6,i7,i8,i9,i16,i22,i29,i30,i31,i32,i33,i34,i41,i42,i43,i44,i45,i46,i47,i48,i49,i50,i51,i52,i53,i54,i55,i56,i57,i58,i59,i60,i61,i62,i63,i64,i65,i66,i67,i68,i69,i70,i71,i72,i73,i74,i75,i76,i77,i78,i79,i80,i81,i82] 60
def b1240:=h1 #[(vI 2),vO,(vr 20),(vI 4),vO,(vr 33),(vI 6),vO,(vr 45),(vI 8),vO,(vr 57),(vI 11),vO,(vr 69),(vI 19),vO,(vr 76),(vI 26),vO,(vr 83),(vI 28),vO,(vr 90),(vI 30),vO,(vr 97),(vI 32),vO,(vr 104),(vI 34),vO,(vr 111),(vI 36),vO,(vr 116),(vI 41),vO,(vr 123),(vI 46),vO,(vr 128),(vI 50),vO,(vr 135),(vI 52),vO,(vr 142),(vI 54),vO,(vr 147),(vI 58),vO,(vr 154),(vI 70),vO,(vr 161),(vI 75),vO,(vr 166),(vI 78),vO,(vr 173),(vI 81),vO,(vr 178),(vI 85),vO,(vr 185),(vI 90),vO,(vr 192),(vI 92),vO,(vr 199),(vI 95),vO,(vr 206),(vI 98),vO,(vr 211),(vI 100),vO,(vr 218),(vI 104),vO,(vr 223),(vI 106),vO,(vr 230),(vI 113),vO,(vr 235),(vI 121),vO,(vr 242),(vI 126),vO,(vr 249),(vI 129),vO,(vr 256),(vI 132),vO,(vr 263),(vI 136),vO,(vr 268),(vI 145),vO,(vr 275),(vI 153),vO,(vr 282),(vI 161),vO,(vr 289),(vI 166),vO,(vr 296),(vI 172),vO,(vr 301),(vI 174),vO,(vr 306),(vI 180),vO,(vr 311),(vI 189),vO,(vr 316),(vI 191),vO,(vr 321),(vI 204),vO,(vr 326)]
def zt8:=h0 #[(vS s15 514),(vS s24 515),(vS s25 516),(vS s14 517),(vS s19 518),(vS s20 519)]
def zwN:=h9 42 x.s.b.c.h
def zwl:=h2 x.s.b.c.h 511 512 513 129 (vI 4) (vI 3) 251 (Qw) 252 (vr 253) (vr 254) (vr 255) 520 521
def zwj:=h10 42 x.s.b.c.h s0 367 256
def zwq:=h0 #[(vS s15 526),(vS s24 527),(vS s25 528),(vS s14 529)]
def zwz:=h9 43 x.s.b.d.a
def zv9:=h2 x.s.b.d.a 523 524 525 132 (vI 4) (vI 3) 258 (Qw) 259 (vr 260) (vr 261) (vr 262) 530 531
def zxq:=h10 43 x.s.b.d.a s0 367 263
def zwP:=h9 44 x.s.b.d.b
def zwh:=h2 x.s.b.d.b 533 534 535 136 (vI 4) (vI 3) 265 (Qw) 266 .none .none (vr 267) 536 537
def zwr:=h10 44 x.s.b.d.b s0 367 268
def zwg:Obj:=⟨(vY x.t.a.a.a),none,(.seq #[(vS s23 542),(vS x.s.b.b.b 543),(vS x.s.b.c.c 544),(vS x.s.b.e.e 545),(vS x.s.b.c.b 546),(vS s25 547),(vS x.s.b.c.a 548),(vS s15 549),(vS s24 550),(vS s14 551)] 0),#[]⟩
def zv7:=h9 45 x.s.b.d.c
def zwt:=h2 x.s.b.d.c 539 540 541 145 (vI 4) (vI 3) 270 (Qw) 271 (vr 272) (vr 273) (vr 274) 552 553
def zxd:=h10 45 x.s.b.d.c s0 367 275
def zwp:=h0 #[(vS s23 558),(vS x.s.b.b.b 559),(vS x.s.b.c.c 560),(vS x.s.b.e.f 561),(vS x.s.b.e.e 562)]
def zwm:=h9 46 x.s.b.d.d
def zxw:=h2 x.s.b.d.d 555 556 557 153 (vI 5) (vI 3) 277 (Qw) 278 (vr 279) (vr 280) (vr 281) 563 564
def zxA:=h10 46 x.s.b.d.d s0 367 282
def zxj:=h0 #[(vS x.s.b.e.g 569),(vS x.s.b.e.h 570),(vS x.s.b.f.a 571)]
def zxk:=h9 47 x.s.b.d.e
def zw9:=h2 x.s.b.d.e 566 567 568 161 (vI 1) (vI 3) 284 (Qw) 285 (vr 286) (vr 287) (vr 288) 572 573
def zxH:=h10 47 x.s.b.d.e s0 367 289
def zwC:=h0 #[(vS x.s.b.f.b 578),(vS x.s.a.g.h 579),(vS s17 580)]
def zwV:=h9 48 x.s.b.d.f
def zuJ:=h2 x.s.b.d.f 575 576 577 166 (vI 1) (vI 3) 291 (Qw) 292 (vr 293) (vr 294) (vr 295) 581 582
def zuk:=h10 48 x.s.b.d.f s0 367 296
def zxs:=h9 49 x.s.b.d.g
def zxe:=h2 x.s.b.d.g 584 585 586 172 (vI 2) (vI 3) 298 (Qw) 299 .none .none (vr 300) 587 588
def zxb:=h10 49 x.s.b.d.g s0 367 301
def zxO:=h9 50 x.s.b.d.h
def zxM:=h2 x.s.b.d.h 590 591 592 174 (vI 3) (vI 3) 303 (Qw) 304 .none .none (vr 305) 593 594
def zwe:=h10 50 x.s.b.d.h s0 367 306
def zxP:=h9 51 x.s.b.e.a
def zui:=h2 x.s.b.e.a 596 597 598 180 (vI 2) (vI 3) 308 (Qw) 309 .none .none (vr 310) 599 600
def zwJ:=h10 51 x.s.b.e.a s0 367 311
def ztQ:=h9 52 x.s.b.e.b
def zvj:=h2 x.s.b.e.b 602 603 604 189 (vI 3) (vI 3) 313 (Qw) 314 .none .none (vr 315) 605 606
def zxl:=h10 52 x.s.b.e.b s0 367 316
def zw7:=h9 53 x.s.b.e.c
def zw2:=h2 x.s.b.e.c 608 609 610 191 (vI 3) (vI 3) 318 (Qw) 319 .none .none (vr 320) 611 612
def zu3:=h10 53 x.s.b.e.c s0 367 321
def ztH:=h9 54 x.s.b.e.d
def zv8:=h2 x.s.b.e.d 614 615 616 204 (vI 2) (vI 3) 323 (Qw) 324 .none .none (vr 325) 617 618
def zxK:=h10 54 x.s.b.e.d s0 367 326
def b1318:=h4 #[i83,i1,i2,i3,i4,i5,i6,i7,i8,i9,i16,i22,i29,i30,i31,i32,i33,i34,i41,i42,i43,i44,i45,i46,i47,i48,i49,i50,i51,i52,i53,i54,i55,i56,i57,i58,i59,i60,i61,i62,i63,i64,i65,i66,i67,i68,i69,i70,i71,i72,i73,i74,i75,i76,i77,i78,i79,i80,i81,i82,i84,i85,i86,i87,i88,i89,i90,i91,i92,i93,i94,i95] 72
def b1319:=h1 #[(vI 2),vO,(vr 20),(vI 4),vO,(vr 33),(vI 6),vO,(vr 45),(vI 8),vO,(vr 57),(vI 11),vO,(vr 69),(vI 19),vO,(vr 76),(vI 26),vO,(vr 83),(vI 28),vO,(vr 90),(vI 30),vO,(vr 97),(vI 32),vO,(vr 104),(vI 34),vO,(vr 111),(vI 36),vO,(vr 116),(vI 41),vO,(vr 123),(vI 46),vO,(vr 128),(vI 50),vO,(vr 135),(vI 52),vO,(vr 142),(vI 54),vO,(vr 147),(vI 58),vO,(vr 154),(vI 70),vO,(vr 161),(vI 75),vO,(vr 166),(vI 78),vO,(vr 173),(vI 81),vO,(vr 178),(vI 85),vO,(vr 185),(vI 90),vO,(vr 192),(vI 92),vO,(vr 199),(vI 95),vO,(vr 206),(vI 98),vO,(vr 211),(vI 100),vO,(vr 218),(vI 104),vO,(vr 223),(vI 106),vO,(vr 230),(vI 113),vO,(vr 235),(vI 121),vO,(vr 242),(vI 126),vO,(vr 249),(vI 129),vO,(vr 256),(vI 132),vO,(vr 263),(vI 136),vO,(vr 268),(vI 145),vO,(vr 275),(vI 153),vO,(vr 282),(vI 161),vO,(vr 289),(vI 166),vO,(vr 296),(vI 172),vO,(vr 301),(vI 174),vO,(vr 306),(vI 180),vO,(vr 311),(vI 189),vO,(vr 316),(vI 191),vO,(vr 321),(vI 204),vO,(vr 326),(vI 208),vO,(vr 331),(vI 211),vO,(vr 336),(vI 213),vO,(vr 343),(vI 221),vO,(vr 350),(vI 224),vO,(vr 357),(vI 228),vO,(vr 364),(vI 233),vO,(vr 371),(vI 241),vO,(vr 378),(vI 248),vO,(vr 385),(vI 250),vO,(vr 392),(vI 257),vO,(vr 399),(vI 263),vO,(vr 406)]
def zwG:=h9 55 x.s.b.f.d
def zwH:=h2 x.s.b.f.d 620 621 622 208 (vI 1) (vI 3) 328 (Qw) 329 .none .none (vr 330) 623 624
def zwA:=h10 55 x.s.b.f.d s0 367 331
def zwI:=h9 56 x.s.b.f.e
def zv2:=h2 x.s.b.f.e 626 627 628 211 (vI 2) (vI 3) 333 (Qw) 334 .none .none (vr 335) 629 630
def zxN:=h10 56 x.s.b.f.e s0 367 336
def zw4:=h0 #[(vS s23 635),(vS x.s.b.b.b 636),(vS x.s.b.c.a 637),(vS x.s.b.c.c 638)]
def zxB:=h9 57 x.s.b.f.f
def zxv:=h2 x.s.b.f.f 632 633 634 213 (vI 2) (vI 3) 338 (Qw) 339 (vr 340) (vr 341) (vr 342) 639 640
def zv5:=h10 57 x.s.b.f.f s0 367 343
def zwd:=h0 #[(vS x.s.b.g.h 647),(vS x.s.b.h.a 648),(vS x.s.b.h.b 649)]
def zxm:=h9 59 x.s.b.f.g
def zxx:=h2 x.s.b.f.g 644 645 646 221 (vI 2) (vI 3) 345 (Qw) 346 (vr 347) (vr 348) (vr 349) 650 651
def zwb:=h10 59 x.s.b.f.g s1 642 350
def zw3:=h0 #[(vS x.s.b.h.c 656),(vS x.s.b.h.a 657)]
def zxh:=h9 60 x.s.b.f.h
def zwQ:=h2 x.s.b.f.h 653 654 655 224 (vI 2) (vI 3) 352 (Qw) 353 (vr 354) (vr 355) (vr 356) 658 659
def zx3:=h10 60 x.s.b.f.h s1 642 357
def zxr:=h0 #[(vS x.s.b.h.c 664),(vS x.s.b.h.a 665),(vS x.s.b.h.d 666)]
def zzn:=h9 61 x.s.b.g.a
def zyT:=h2 x.s.b.g.a 661 662 663 228 (vI 2) (vI 3) 359 (Qw) 360 (vr 361) (vr 362) (vr 363) 667 668
def zxG:=h10 61 x.s.b.g.a s1 642 364
def zwx:=h0 #[(vS x.s.b.h.e 673),(vS x.s.b.h.f 674),(vS x.s.b.h.b 675),(vS x.s.b.h.g 676)]
def zyc:=h9 62 x.s.b.g.b
def zys:=h2 x.s.b.g.b 670 671 672 233 (vI 2) (vI 3) 366 (Qw) 367 (vr 368) (vr 369) (vr 370) 677 678
def zxa:=h10 62 x.s.b.g.b s1 642 371
def zwn:=h0 #[(vS x.s.b.h.e 683),(vS x.s.b.h.h 684),(vS x.s.c.a.a 685),(vS x.s.b.h.a 686),(vS x.s.c.a.b 687),(vS x.s.c.a.c 688)]
def zyI:=h9 63 x.s.b.g.c
def zyv:=h2 x.s.b.g.c 680 681 682 241 (vI 2) (vI 3) 373 (Qw) 374 (vr 375) (vr 376) (vr 377) 689 690
def zwU:=h10 63 x.s.b.g.c s1 642 378
def zwK:=h0 #[(vS x.s.c.a.d 695)]
def zy8:=h9 64 x.s.b.g.d
def zzf:=h2 x.s.b.g.d 692 693 694 248 (vI 1) (vI 3) 380 (Qw) 381 (vr 382) (vr 383) (vr 384) 696 697
def zyw:=h10 64 x.s.b.g.d s1 642 385
def zzm:=h0 #[(vS x.s.c.a.d 702),(vS x.s.c.a.e 703),(vS x.s.c.a.f 704)]
def zzP:=h9 65 x.s.b.g.e
def zzB:=h2 x.s.b.g.e 699 700 701 250 (vI 1) (vI 3) 387 (Qw) 388 (vr 389) (vr 390) (vr 391) 705 706
def zzS:=h10 65 x.s.b.g.e s1 642 392
def zyY:=h0 #[(vS x.s.c.a.g 711),(vS x.s.c.a.h 712),(vS x.s.c.a.e 713),(vS x.s.c.a.f 714)]
def zzX:=h9 66 x.s.b.g.f
def zym:=h2 x.s.b.g.f 708 709 710 257 (vI 2) (vI 3) 394 (Qw) 395 (vr 396) (vr 397) (vr 398) 715 716
def zy2:=h10 66 x.s.b.g.f s1 642 399
def zze:=h0 #[(vS x.s.c.b.a 721),(vS x.s.c.b.b 722),(vS x.s.c.a.g 723),(vS x.s.c.a.h 724),(vS x.s.c.b.c 725)]
def zzh:=h9 67 x.s.b.g.g
def zzl:=h2 x.s.b.g.g 718 719 720 263 (vI 2) (vI 3) 401 (Qw) 402 (vr 403) (vr 404) (vr 405) 726 727
def zyL:=h10 67 x.s.b.g.g s1 642 406
def zyn:=h4 #[i83,i1,i2,i3,i4,i5,i6,i7,i8,i9,i16,i22,i29,i30,i31,i32,i33,i34,i41,i42,i43,i44,i45,i46,i47,i48,i49,i50,i51,i52,i53,i54,i55,i56,i57,i58,i59,i60,i61,i62,i63,i64,i65,i66,i67,i68,i69,i70,i71,i72,i73,i74,i75,i76,i77,i78,i79,i80,i81,i82,i84,i85,i86,i87,i88,i89,i90,i91,i92,i93,i94,i95,i96,i97,i98,i99,i100,i101,i102,i103,i104,i105,i106,i107,i108,i109] 86
def zyE:=h1 #[(vI 2),vO,(vr 20),(vI 4),vO,(vr 33),(vI 6),vO,(vr 45),(vI 8),vO,(vr 57),(vI 11),vO,(vr 69),(vI 19),vO,(vr 76),(vI 26),vO,(vr 83),(vI 28),vO,(vr 90),(vI 30),vO,(vr 97),(vI 32),vO,(vr 104),(vI 34),vO,(vr 111),(vI 36),vO,(vr 116),(vI 41),vO,(vr 123),(vI 46),vO,(vr 128),(vI 50),vO,(vr 135),(vI 52),vO,(vr 142),(vI 54),vO,(vr 147),(vI 58),vO,(vr 154),(vI 70),vO,(vr 161),(vI 75),vO,(vr 166),(vI 78),vO,(vr 173),(vI 81),vO,(vr 178),(vI 85),vO,(vr 185),(vI 90),vO,(vr 192),(vI 92),vO,(vr 199),(vI 95),vO,(vr 206),(vI 98),vO,(vr 211),(vI 100),vO,(vr 218),(vI 104),vO,(vr 223),(vI 106),vO,(vr 230),(vI 113),vO,(vr 235),(vI 121),vO,(vr 242),(vI 126),vO,(vr 249),(vI 129),vO,(vr 256),(vI 132),vO,(vr 263),(vI 136),vO,(vr 268),(vI 145),vO,(vr 275),(vI 153),vO,(vr 282),(vI 161),vO,(vr 289),(vI 166),vO,(vr 296),(vI 172),vO,(vr 301),(vI 174),vO,(vr 306),(vI 180),vO,(vr 311),(vI 189),vO,(vr 316),(vI 191),vO,(vr 321),(vI 204),vO,(vr 326),(vI 208),vO,(vr 331),(vI 211),vO,(vr 336),(vI 213),vO,(vr 343),(vI 221),vO,(vr 350),(vI 224),vO,(vr 357),(vI 228),vO,(vr 364),(vI 233),vO,(vr 371),(vI 241),vO,(vr 378),(vI 248),vO,(vr 385),(vI 250),vO,(vr 392),(vI 257),vO,(vr 399),(vI 263),vO,(vr 406),(vI 270),vO,(vr 413),(vI 272),vO,(vr 420),(vI 274),vO,(vr 425),(vI 278),vO,(vr 430),(vI 280),vO,(vr 435),(vI 287),vO,(vr 440),(vI 297),vO,(vr 445),(vI 301),vO,(vr 452),(vI 309),vO,(vr 457),(vI 324),vO,(vr 462),(vI 330),vO,(vr 467),(vI 344),vO,(vr 472),(vI 357),vO,(vr 479),(vI 360),vO,(vr 484)]
def zx6:=h0 #[(vS x.s.c.a.e 732),(vS x.s.c.a.f 733)]
def zx0:=h9 68 x.s.c.b.d
def zyk:=h2 x.s.c.b.d 729 730 731 270 (vI 2) (vI 3) 408 (Qw) 409 (vr 410) (vr 411) (vr 412) 734 735
def zyO:=h10 68 x.s.c.b.d s1 642 413
def zyp:=h0 #[(vS x.s.c.a.e 740),(vS x.s.c.a.f 741)]
def zyJ:=h9 69 x.s.c.b.e
def zyi:=h2 x.s.c.b.e 737 738 739 272 (vI 2) (vI 3) 415 (Qw) 416 (vr 417) (vr 418) (vr 419) 742 743
def zx5:=h10 69 x.s.c.b.e s1 642 420
def zy4:=h9 70 x.s.c.b.f
def zx1:=h2 x.s.c.b.f 745 746 747 274 (vI 2) (vI 3) 422 (Qw) 423 .none .none (vr 424) 748 749
def zzA:=h10 70 x.s.c.b.f s1 642 425
def zyN:=h9 71 x.s.c.b.g
def zy3:=h2 x.s.c.b.g 751 752 753 278 (vI 2) (vI 3) 427 (Qw) 428 .none .none (vr 429) 754 755
def zyr:=h10 71 x.s.c.b.g s1 642 430
def zzN:=h9 72 x.s.c.b.h
def zyZ:=h2 x.s.c.b.h 757 758 759 280 (vI 3) (vI 3) 432 (Qw) 433 .none .none (vr 434) 760 761
def zzK:=h10 72 x.s.c.b.h s1 642 435
def zyS:=h9 73 x.s.c.c.a
def zyU:=h2 x.s.c.c.a 763 764 765 287 (vI 3) (vI 3) 437 (Qw) 438 .none .none (vr 439) 766 767
def zyR:=h10 73 x.s.c.c.a s1 642 440
def zx9:=h9 74 x.s.c.c.b
def zzH:=h2 x.s.c.c.b 769 770 771 297 (vI 4) (vI 3) 442 (Qw) 443 .none .none (vr 444) 772 773
def zzu:=h10 74 x.s.c.c.b s1 642 445
def zyG:Obj:=⟨(vY x.t.a.a.a),none,(.seq #[(vS x.s.c.b.a 778),(vS x.s.c.d.b 779),(vS x.s.c.d.c 780),(vS x.s.c.d.d 781),(vS x.s.c.d.e 782),(vS x.s.c.d.f 783),(vS x.s.c.a.g 784),(vS x.s.c.a.h 785)] 0),#[]⟩
def zzy:=h9 75 x.s.c.c.c
def zzO:=h2 x.s.c.c.c 775 776 777 301 (vI 4) (vI 3) 447 (Qw) 448 (vr 449) (vr 450) (vr 451) 786 787
def zzc:=h10 75 x.s.c.c.c s1 642 452
def zyu:=h9 76 x.s.c.c.d
def zzs:=h2 x.s.c.c.d 789 790 791 309 (vI 4) (vI 3) 454 (Qw) 455 .none .none (vr 456) 792 793
def zyM:=h10 76 x.s.c.c.d s1 642 457
def zyb:=h9 77 x.s.c.c.e
def zzz:=h2 x.s.c.c.e 795 796 797 324 (vI 1) (vI 3) 459 (Qw) 460 .none .none (vr 461) 798 799
def zzg:=h10 77 x.s.c.c.e s1 642 462
def zyX:=h9 78 x.s.c.c.f
def zzD:=h2 x.s.c.c.f 801 802 803 330 (vI 3) (vI 3) 464 (Qw) 465 .none .none (vr 466) 804 805
def zzY:=h10 78 x.s.c.c.f s1 642 467
def zy6:=h9 79 x.s.c.c.g
def zyf:=h2 x.s.c.c.g 807 808 809 344 (vI 3) (vI 3) 469 (Qw) 470 .none .none (vr 471) 810 811
def zx7:=h10 79 x.s.c.c.g s1 642 472
def zzU:=h0 #[(vS x.s.c.d.g 816),(vS x.s.b.h.e 817),(vS x.s.c.d.h 818)]
def zy1:=h9 80 x.s.c.c.h
def zza:=h2 x.s.c.c.h 813 814 815 357 (vI 2) (vI 3) 474 (Qw) 475 (vr 476) (vr 477) (vr 478) 819 820
def zyA:=h10 80 x.s.c.c.h s1 642 479
def zzw:=h9 81 x.s.c.d.a
def zyB:=h2 x.s.c.d.a 822 823 824 360 (vI 1) (vI 3) 481 (Qw) 482 .none .none (vr 483) 825 826
def zzo:=h10 81 x.s.c.d.a s1 642 484
def m985:Heap:=⟨⟨[r2,r3,r4,x.r.a.a.d,r5,r6,r7,r8,r9,r10,r11,zay,zbh,zqw,zqv]⟩,⟨[],[],[],0,[],[],false,#[],[],0,false,false,false,0,[2000,10,10],false,0,true,[],[],0,false⟩⟩
def q0:=L zay
def q1:=L zbh
def q2:=N zbh q0 z
def q3:=N zay q1 z
def q4:=N zay q0 z
def q5:=N zbh q1 z
def q6:=N zbh q0 q0
def q7:=N zay q1 q1
def q8:=N zay q0 q0
def q9:=N zbh q1 q0
def q10:=N ztM (L zxK) z
def q11:=N zs0 (L zwV) z
def q12:=N zve (L zwe) z
def q13:=N zrx (L zxA) z
def q14:=N ztG (L zw2) z
def q15:=N zqC (L zw9) z
def q16:=N zuZ (L zxO) z
def q17:=N zrs (L zwm) z
def q18:=N zsI (L zwC) z
def q19:=N zay q4 q0
def q20:=N zvd (L zxe) z
def q21:=N zun (L zxl) z
def q22:=N zuS (L zw7) z
def q23:=N ztt (L zxk) z
def q24:=N zt9 (L zwJ) z
def q25:=N zum (L zxs) z
def q26:=N zsD (L zxH) z
def q27:=N zuM (L zxM) z
def q28:=N zs1 (L zxw) z
def q29:=N zuT (L zv8) z
def q30:=N zuv (L zxP) z
def q31:=N zua (L zxb) z
def q32:=N zqO (L zxj) z
def q33:=N zsM (L zwN) q0
def q34:=N zrv q1 (L zym)
def q35:=N zq1 (L zv9) (L zzP)
def q36:=N ztl (L zwp) (L zyL)
def q37:=N zrO (L zwt) (L zze)
def q38:=N ztI (L zys) z
def q39:=N zsE (L zwP) q1
def q40:=N zuX (L zzn) z
def q41:=N zqR (L zwj) (L zzf)
def q42:=N zay q0 (L zzS)
def q43:=N zt1 (L zyI) z
def q44:=N zay q0 (L zzm)
def q45:=N zay q0 (L zzh)
def q46:=N zr2 (L zwr) q0
def q47:=N zs4 (L zwl) (L zy8)
def q48:=N zay (L zwg) (L zy2)
def q49:=N zq5 (L zxq) (L zzB)
def q50:=N zs6 (L zwq) q1
def q51:=N zru (L zxd) q0
def q52:=N zay (L zwh) (L zyY)
def q53:=N ztU (L zyT) z
def q54:=N zay q0 (L zyw)
def q55:=N zrA (L zv7) q1
def q56:=N zuu (L zyc) z
def q57:=N ztL (L zyv) z
def q58:=N zq0 (L zwz) q0
def q59:=N zvp (L zx3) z
def q60:=N zbh q1 (L zzl)
def q61:=N zrT q0 (L zzX)
def m986:=N r2 (N r3 (N x.r.a.a.d (L r8) q0) (N r6 (L r10) (L zqw))) (N r4 (N r5 (L r9) q1) (N r7 (L r11) (L zqv)))
def m1002:=N r2 (N r3 (N b988 (N r8 (L ztD) (L ztB)) (N zay q1 (L zj9))) (N r6 (N r10 (L ztC) (L zkf)) (N zqw (L ztA) z))) (N r4 (N r5 (N r9 (L zgJ) (L b999)) (N b989 (L ztz) z)) (N r7 (N r11 q0 (L zj0)) (N zqv q0 z)))
def m1017:=N r2 (N r3 (N b1003 (N r8 (N ztD q0 z) (N ztB (L zlb) z)) (N zay q2 (L zj9))) (N r6 (N r10 (N ztC (L zkQ) z) (L zkf)) (N zqw (N ztA (L zlW) z) (L zgJ)))) (N r4 (N r5 (N r9 (N zgJ q1 z) (L b1005)) (N b1004 (N ztz (L zk6) z) (L zd8))) (N r7 (N r11 (N zay (L zlf) z) (L zj0)) (N zqv (N zay (L zlR) z) (L zkP))))
def m1032:=N r2 (N r3 (N b1018 (N r8 (N ztD q0 q0) (N ztB (L zlb) z)) (N zay (N zbh q0 (L zmr)) (N zj9 q0 z))) (N r6 (N r10 (N ztC (L zkQ) (L zm4)) (N zkf (L zgJ) z)) (N zqw (N ztA (L zlW) z) (N zgJ (L zmv) z)))) (N r4 (N r5 (N r9 (N zgJ q1 (L zmR)) (N b1020 (L zd8) z)) (N b1019 (N ztz (L zk6) z) (N zd8 q1 z))) (N r7 (N r11 (N zay (L zlf) (L zmJ)) (N zj0 (L zmB) z)) (N zqv (N zay (L zlR) z) (N zkP (L zl4) z))))
def m1082:=N r2 (N r3 (N b1033 (N r8 (N ztD (N zay (L zoc) q0) q3) (N ztB (N zlb q0 z) (N zay (L zos) z))) (N zay (N zbh q4 (N zmr (L zon) z)) (N zj9 (N zay (L zoJ) z) (N zay (L zn6) z)))) (N r6 (N r10 (N ztC (N zkQ q1 (L zny)) (N zm4 q0 z)) (N zkf (N zgJ (L zn5) z) (N znW (L znC) z))) (N zqw (N ztA (N zlW (L zof) z) (N zgJ q0 z)) (N zgJ (N zmv (L zoj) z) (N zoA q1 z))))) (N r4 (N r5 (N r9 (N zgJ (N zbh q0 (L zoq)) (N zmR (L znA) z)) (N zoa (N zd8 q1 z) q2)) (N b1034 (N ztz (N zk6 (L znO) z) (N zd8 (L znq) z)) (N zd8 (N zbh (L znF) z) (N zoz q0 z)))) (N r7 (N r11 (N zay (N zlf (L zn8) (L zn7)) (N zmJ (L zoB) z)) (N zj0 (N zmB q0 z) (N zod (L zom) z))) (N zqv (N zay (N zlR (L zob) z) (N znL q1 z)) (N zkP (N zl4 q0 z) (N znP (L zoo) z)))))
def m1153:=N r2 (N r3 (N b1083 (N r8 (N ztD (N zay (N zoc (L zsM) z) q4) (N zay (N zbh (L zrv) z) (L zpV))) (N ztB (N zlb (N zay (L zq1) z) (N zp9 (L zs0) z)) (N zay (N zos (L ztl) z) q1))) (N zay (N zbh (N zay q3 q4) (N zmr (N zon (L zrO) z) (L zpR))) (N zj9 (N zay (N zoJ (L zsE) z) q1) (N zay (N zn6 (L zrx) z) (L zp1))))) (N r6 (N r10 (N ztC (N zkQ (N zbh (L zqR) z) (N zny (L zqC) z)) (N zm4 q3 q0)) (N zkf (N zgJ (N zn5 q0 z) (L zpQ)) (N znW (N znC (L zrs) z) q0))) (N zqw (N ztA (N zlW (N zof q0 z) (N zqp (L zsI) z)) (N zgJ q4 (L zp7))) (N zgJ (N zmv (N zoj (L zr2) z) q0) (N zoA q5 q0))))) (N r4 (N r5 (N r9 (N zgJ (N zbh (N zay (L zs4) z) (N zoq (L ztt) z)) (N zmR (N znA q0 z) (L zql))) (N zoa (N zd8 (N zbh (L zq5) z) (L zqb)) (N zbh q4 (L zpW)))) (N b1084 (N ztz (N zk6 (N znO (L zs6) z) q5) (N zd8 (N znq (L zru) z) (L zqk))) (N zd8 (N zbh (N znF q0 z) (L zqg)) (N zoz q4 (L zpL))))) (N r7 (N r11 (N zay (N zlf (N zn8 q0 z) (N zn7 (L zsD) z)) (N zmJ (N zoB (L zrA) z) q1)) (N zj0 (N zmB q3 q0) (N zod (N zom (L zs1) z) (L zpZ)))) (N zqv (N zay (N zlR (N zob (L zq0) z) (N zay (L zpK) z)) (N znL q5 q0)) (N zkP (N zl4 (N zay (L zrT) z) (L zpP)) (N znP (N zoo (L zqO) z) q1)))))
def m1238:=N r2 (N r3 (N b1154 (N r8 (N ztD (N zay (N zoc (L zsM) (L zro)) (N zay q0 (L zrk))) (N zay (N zbh (L zrv) (L zr1)) (N zpV q0 (L zrF)))) (N ztB (N zlb (N zay (L zq1) (L ztM)) (N zp9 (L zs0) (L zrY))) (N zay (N zos (L ztl) (L zsi)) q6))) (N zay (N zbh (N zay q7 (N zay q0 (L zrW))) (N zmr (N zon (L zrO) (L zrR)) (N zpR (L zve) (L ztI)))) (N zj9 (N zay (N zoJ (L zsE) (L zrg)) (N zbh q0 (L zuX))) (N zay (N zn6 (L zrx) (L zsH)) (N zp1 q0 z))))) (N r6 (N r10 (N ztC (N zkQ (N zbh (L zqR) (L ztG)) (N zny (L zqC) q0)) (N zm4 q7 (N zay (L zuZ) (L ztj)))) (N zkf (N zgJ (N zn5 q0 q0) (N zpQ q1 q1)) (N znW (N znC (L zrs) (L zrr)) (N zay (L zts) (L zt1))))) (N zqw (N ztA (N zlW (N zof q0 q0) (N zqp (L zsI) (L ztx))) (N zgJ q8 (N zp7 q1 q1))) (N zgJ (N zmv (N zoj (L zr2) (L zsW)) (N zay (L zvd) q0)) (N zoA (N zbh q1 q1) (N zay (L zun) z)))))) (N r4 (N r5 (N r9 (N zgJ (N zbh (N zay (L zs4) (L zuS)) (N zoq (L ztt) (L zqT))) (N zmR (N znA q0 q0) (N zql q1 q0))) (N zoa (N zd8 (N zbh (L zq5) (L zqP)) (N zqb q0 q0)) (N zbh q8 (N zpW (L zt9) (L zsV))))) (N b1155 (N ztz (N zk6 (N znO (L zs6) (L zsL)) q9) (N zd8 (N znq (L zru) (L zsG)) (N zqk q0 q0))) (N zd8 (N zbh (N znF q0 q0) (N zqg (L zum) (L ztU))) (N zoz q8 (N zpL q1 z))))) (N r7 (N r11 (N zay (N zlf (N zn8 q0 q0) (N zn7 (L zsD) q1)) (N zmJ (N zoB (L zrA) (L ztf)) (N zbh (L zuM) (L zuu)))) (N zj0 (N zmB q7 (N zay (L zr0) (L zqF))) (N zod (N zom (L zs1) (L zqA)) (N zpZ (L zrB) (L ztL))))) (N zqv (N zay (N zlR (N zob (L zq0) (L zuT)) (N zay (L zpK) (L zvp))) (N znL (N zbh q1 q1) (N zay (L zuv) (L zsX)))) (N zkP (N zl4 (N zay (L zrT) (L zrt)) (N zpP (L zua) q1)) (N znP (N zoo (L zqO) (L zrJ)) q2)))))
def m1317:=N r2 (N r3 (N b1239 (N r8 (N ztD (N zay (N zoc (N zsM (L zwN) z) (N zro q1 z)) (N zay q4 (L zrk))) (N zay (N zbh (N zrv q1 z) (L zr1)) (N zpV q4 (L zrF)))) (N ztB (N zlb (N zay (N zq1 (L zv9) z) q10) (N zp9 q11 (L zrY))) (N zay (N zos (N ztl (L zwp) z) (L zsi)) (N zbh (N zay (L zui) z) q0)))) (N zay (N zbh (N zay (N zay q5 q2) (N zay q4 (L zrW))) (N zmr (N zon (N zrO (L zwt) z) (L zrR)) (N zpR q12 (L ztI)))) (N zj9 (N zay (N zoJ (N zsE (L zwP) z) (L zrg)) (N zbh q3 (L zuX))) (N zay (N zn6 q13 (L zsH)) (N zp1 (N zay (L ztQ) z) q0))))) (N r6 (N r10 (N ztC (N zkQ (N zbh (N zqR (L zwj) z) q14) (N zny q15 q0)) (N zm4 (N zay q2 q1) (N zay q16 (L ztj)))) (N zkf (N zgJ (N zn5 q4 q0) (N zpQ (N zbh (L zuk) z) q1)) (N znW (N znC q17 (L zrr)) (N zay (N zts q0 z) (L zt1))))) (N zqw (N ztA (N zlW (N zof q4 (N zay (L ztH) z)) (N zqp q18 (L ztx))) (N zgJ q19 (N zp7 q5 q1))) (N zgJ (N zmv (N zoj (N zr2 (L zwr) z) (L zsW)) (N zay q20 q0)) (N zoA (N zbh q5 q1) (N zay q21 (L zt8))))))) (N r4 (N r5 (N r9 (N zgJ (N zbh (N zay (N zs4 (L zwl) z) q22) (N zoq q23 (L zqT))) (N zmR (N znA (N zay (L zwg) z) q0) (N zql q5 q0))) (N zoa (N zd8 (N zbh (N zq5 (L zxq) z) (L zqP)) (N zqb (N zay (L zuJ) z) q0)) (N zbh q19 (N zpW q24 (L zsV))))) (N b1240 (N ztz (N zk6 (N znO (N zs6 (L zwq) z) (N zsL q1 z)) (N zbh q5 q0)) (N zd8 (N znq (N zru (L zxd) z) (L zsG)) (N zqk q4 q0))) (N zd8 (N zbh (N znF (N zay (L zwh) z) q0) (N zqg q25 (L ztU))) (N zoz q19 (N zpL (N zbh (L zvj) z) q1))))) (N r7 (N r11 (N zay (N zlf (N zn8 q4 (N zay (L zu3) z)) (N zn7 q26 q1)) (N zmJ (N zoB (N zrA (L zv7) z) (L ztf)) (N zbh q27 (L zuu)))) (N zj0 (N zmB (N zay q5 q1) (N zay (N zr0 q0 z) (L zqF))) (N zod (N zom q28 (L zqA)) (N zpZ (N zrB q1 z) (L ztL))))) (N zqv (N zay (N zlR (N zob (N zq0 (L zwz) z) q29) (N zay (N zpK q0 z) (L zvp))) (N znL (N zbh q5 q1) (N zay q30 (L zsX)))) (N zkP (N zl4 (N zay (N zrT q0 z) (L zrt)) (N zpP q31 q1)) (N znP (N zoo q32 (L zrJ)) (N zbh q4 q0))))))
def m1399:=N r2 (N r3 (N b1318 (N r8 (N ztD (N zay (N zoc q33 (N zro q1 z)) (N zay q4 (N zrk (L zwb) z))) (N zay (N zbh q34 (N zr1 (L zwI) z)) (N zpV q4 (N zrF q1 z)))) (N ztB (N zlb (N zay q35 q10) (N zp9 q11 (N zrY q0 z))) (N zay (N zos q36 (N zsi (L zxv) z)) (N zbh (N zay (L zui) z) (N zay (L zwn) z))))) (N zay (N zbh (N zay (N zay q9 q2) (N zay q4 (N zrW q0 z))) (N zmr (N zon q37 (N zrR q1 z)) (N zpR q12 q38))) (N zj9 (N zay (N zoJ q39 (N zrg (L zwH) z)) (N zbh q3 q40)) (N zay (N zn6 q13 (N zsH (L zwd) z)) (N zp1 (N zay (L ztQ) z) (N zay (L zwU) z)))))) (N r6 (N r10 (N ztC (N zkQ (N zbh q41 q14) (N zny q15 q3)) (N zm4 (N zay q6 (N zbh (L zxN) z)) (N zay q16 (N ztj q0 z)))) (N zkf (N zgJ (N zn5 q42 q3) (N zpQ (N zbh (L zuk) z) (N zbh (L zxr) z))) (N znW (N znC q17 (N zrr q0 z)) (N zay (N zts q0 z) q43)))) (N zqw (N ztA (N zlW (N zof q44 (N zay (L ztH) z)) (N zqp q18 (N ztx (L zwQ) z))) (N zgJ (N zay q45 q4) (N zp7 q5 q2))) (N zgJ (N zmv (N zoj q46 (N zsW q0 z)) (N zay q20 (N zay (L zxG) z))) (N zoA (N zbh q5 (N zbh (L zxm) z)) (N zay q21 (N zt8 q1 z))))))) (N r4 (N r5 (N r9 (N zgJ (N zbh (N zay q47 q22) (N zoq q23 (N zqT q0 z))) (N zmR (N znA q48 (N zay (L zv2) z)) (N zql q5 (N zay (L zwx) z)))) (N zoa (N zd8 (N zbh q49 (N zqP q0 z)) (N zqb (N zay (L zuJ) z) q3)) (N zbh (N zay q4 (N zay (L zv5) z)) (N zpW q24 (N zsV q0 z))))) (N b1319 (N ztz (N zk6 (N znO q50 (N zsL q1 z)) (N zbh q5 (N zay (L zxh) z))) (N zd8 (N znq q51 (N zsG (L zw4) z)) (N zqk q4 (N zay (L zxa) z)))) (N zd8 (N zbh (N znF q52 (N zay (L zwA) z)) (N zqg q25 q53)) (N zoz (N zay q4 q4) (N zpL (N zbh (L zvj) z) q2))))) (N r7 (N r11 (N zay (N zlf (N zn8 q54 (N zay (L zu3) z)) (N zn7 q26 (N zbh (L zw3) z))) (N zmJ (N zoB q55 (N ztf q0 z)) (N zbh q27 q56))) (N zj0 (N zmB (N zay q9 (N zbh (L zwG) z)) (N zay (N zr0 q0 z) (N zqF q0 z))) (N zod (N zom q28 (N zqA q1 z)) (N zpZ (N zrB q1 z) q57)))) (N zqv (N zay (N zlR (N zob q58 q29) (N zay (N zpK q0 z) q59)) (N znL (N zbh q60 (N zbh (L zxB) z)) (N zay q30 (N zsX q1 z)))) (N zkP (N zl4 (N zay q61 (N zrt q1 z)) (N zpP q31 q2)) (N znP (N zoo q32 (N zrJ (L zxx) z)) (N zbh q4 (N zay (L zwK) z)))))))
def m1479:=N r2 (N r3 (N zyn (N r8 (N ztD (N zay (N zoc q33 (N zro q1 q0)) (N zay q8 (N zrk (L zwb) (L zza)))) (N zay (N zbh q34 (N zr1 (L zwI) (L zzg))) (N zpV (N zay q0 (L zyr)) (N zrF q1 z)))) (N ztB (N zlb (N zay q35 (N ztM (L zxK) q1)) (N zp9 (N zs0 (L zwV) q1) (N zrY q0 z))) (N zay (N zos q36 (N zsi (L zxv) (L zy6))) (N zbh (N zay (L zui) (L zyS)) (N zay (L zwn) z))))) (N zay (N zbh (N zay (N zay q9 (N zbh q0 (L zzy))) (N zay (N zay q0 (L zyJ)) (N zrW q0 (L zzw)))) (N zmr (N zon q37 (N zrR q1 (L zzD))) (N zpR (N zve (L zwe) (L zyZ)) q38))) (N zj9 (N zay (N zoJ q39 (N zrg (L zwH) q0)) (N zbh (N zay q1 q0) q40)) (N zay (N zn6 (N zrx (L zxA) q0) (N zsH (L zwd) q1)) (N zp1 (N zay (L ztQ) q1) (N zay (L zwU) z)))))) (N r6 (N r10 (N ztC (N zkQ (N zbh q41 (N ztG (L zw2) (L zyG))) (N zny (N zqC (L zw9) (L zyp)) (N zay q1 q0))) (N zm4 (N zay q6 (N zbh (L zxN) q1)) (N zay (N zuZ (L zxO) q1) (N ztj q0 z)))) (N zkf (N zgJ (N zn5 q42 (N zay q1 (L zzs))) (N zpQ (N zbh (L zuk) (L zx1)) (N zbh (L zxr) z))) (N znW (N znC (N zrs (L zwm) q1) (N zrr q0 (L zx7))) (N zay (N zts q0 (L zyR)) q43)))) (N zqw (N ztA (N zlW (N zof q44 (N zay (L ztH) (L zzc))) (N zqp (N zsI (L zwC) (L zx5)) (N ztx (L zwQ) (L zzo)))) (N zgJ (N zay q45 q8) (N zp7 q9 q2))) (N zgJ (N zmv (N zoj q46 (N zsW q0 (L zyb))) (N zay (N zvd (L zxe) (L zyN)) (N zay (L zxG) z))) (N zoA (N zbh (N zbh q1 (L zyk)) (N zbh (L zxm) q0)) (N zay (N zun (L zxl) (L zzH)) (N zt8 q1 z))))))) (N r4 (N r5 (N r9 (N zgJ (N zbh (N zay q47 (N zuS (L zw7) q1)) (N zoq (N ztt (L zxk) q1) (N zqT q0 (L zyA)))) (N zmR (N znA q48 (N zay (L zv2) q0)) (N zql q9 (N zay (L zwx) z)))) (N zoa (N zd8 (N zbh q49 (N zqP q0 (L zyu))) (N zqb (N zay (L zuJ) (L zy4)) q3)) (N zbh (N zay q8 (N zay (L zv5) (L zyf))) (N zpW (N zt9 (L zwJ) (L zyU)) (N zsV q0 z))))) (N zyE (N ztz (N zk6 (N znO q50 (N zsL q1 (L zzO))) (N zbh (N zbh q1 (L zyi)) (N zay (L zxh) (L zyB)))) (N zd8 (N znq q51 (N zsG (L zw4) (L zzY))) (N zqk (N zay q0 (L zzK)) (N zay (L zxa) z)))) (N zd8 (N zbh (N znF q52 (N zay (L zwA) q1)) (N zqg (N zum (L zxs) q1) q53)) (N zoz (N zay (N zay q0 (L zx0)) (N zay q0 (L zzU))) (N zpL (N zbh (L zvj) (L zx9)) q2))))) (N r7 (N r11 (N zay (N zlf (N zn8 q54 (N zay (L zu3) q0)) (N zn7 (N zsD (L zxH) q0) (N zbh (L zw3) q1))) (N zmJ (N zoB q55 (N ztf q0 (L zyX))) (N zbh (N zuM (L zxM) (L zzN)) q56))) (N zj0 (N zmB (N zay q9 (N zbh (L zwG) (L zyM))) (N zay (N zr0 q0 (L zzA)) (N zqF q0 z))) (N zod (N zom (N zs1 (L zxw) (L zx6)) (N zqA q1 q0)) (N zpZ (N zrB q1 q0) q57)))) (N zqv (N zay (N zlR (N zob q58 (N zuT (L zv8) q0)) (N zay (N zpK q0 q0) q59)) (N znL (N zbh q60 (N zbh (L zxB) q1)) (N zay (N zuv (L zxP) q1) (N zsX q1 z)))) (N zkP (N zl4 (N zay q61 (N zrt q1 (L zzz))) (N zpP (N zua (L zxb) (L zy3)) q2)) (N znP (N zoo (N zqO (L zxj) (L zyO)) (N zrJ (L zxx) (L zy1))) (N zbh (N zay q0 (L zzu)) (N zay (L zwK) z)))))))
def m1480:Heap:=⟨⟨[r2,r3,r4,zyn,r5,r6,r7,r8,r9,r10,r11,zay,zyE,zqw,zqv,ztD,zgJ,ztC,zay,zbh,ztz,ztA,zay,ztB,zoa,zkf,zj0,zj9,zd8,zgJ,zkP,zay,zbh,zkQ,zlf,zay,zk6,zlW,zlR,zlb,zd8,zgJ,zmB,zay,zbh,zmv,zl4,zay,zmR,zm4,zmJ,zmr,zd8,zgJ,znL,zay,zbh,znW,zod,zay,zoz,zoA,znP,zoc,zay,zbh,zn8,zay,znO,zof,zob,zay,zbh,zn5,zay,zoJ,znF,zoj,zay,zbh,znA,zay,zoB,zon,znq,zay,zbh,zos,zay,znC,zom,zn6,zay,zbh,zoo,zay,zoq,zny,zn7,zay,zbh,zqp,zay,zp9,zqb,zpQ,zay,zbh,zqg,zay,zpP,zpV,zql,zay,zbh,zpR,zqk,zp7,zay,zbh,zpW,zay,zpZ,zp1,zpL,zay,zbh,zsM,zs4,zqR,zay,zbh,zs6,zay,zq0,zq1,zq5,zay,zbh,zsE,zay,zr2,zrT,zrv,zay,zbh,zrA,zrO,zru,zay,zbh,ztl,zay,zrs,zs1,zrx,zay,zbh,zqO,zay,ztt,zqC,zsD,zay,zbh,zsI,zpK,zs0,zay,zbh,zr0,zay,zum,zvd,zua,zay,zbh,zuZ,zuM,zve,zay,zbh,zuv,zay,zt9,zts,zrB,zay,zbh,zun,zay,zro,zuS,ztG,zay,zbh,zsL,zay,zuT,ztM,zqP,zay,zbh,zrg,zay,zsW,zrt,zr1,zay,zbh,ztf,zrR,zsG,zay,zbh,zsi,zay,zrr,zqA,zsH,zay,zbh,zrJ,zrk,zqT,zay,zbh,zrW,zay,ztx,zvp,zrY,zay,zbh,zqF,zuX,ztU,zay,zbh,zrF,zay,ztj,zuu,ztI,zay,zbh,zsX,zay,zsV,zt1,ztL,zay,zbh,zt8,zay,zwN,zwl,zwj,zay,zbh,zwq,zay,zwz,zv9,zxq,zay,zbh,zwP,zwh,zwr,zay,zbh,zwg,zay,zv7,zwt,zxd,zay,zbh,zwp,zay,zwm,zxw,zxA,zay,zbh,zxj,zay,zxk,zw9,zxH,zay,zbh,zwC,zay,zwV,zuJ,zuk,zay,zbh,zxs,zxe,zxb,zay,zbh,zxO,zxM,zwe,zay,zbh,zxP,zui,zwJ,zay,zbh,ztQ,zvj,zxl,zay,zbh,zw7,zw2,zu3,zay,zbh,ztH,zv8,zxK,zay,zbh,zwG,zwH,zwA,zay,zbh,zwI,zv2,zxN,zay,zbh,zw4,zay,zxB,zxv,zv5,zay,zbh,zwd,zay,zxm,zxx,zwb,zay,zbh,zw3,zay,zxh,zwQ,zx3,zay,zbh,zxr,zay,zzn,zyT,zxG,zay,zbh,zwx,zay,zyc,zys,zxa,zay,zbh,zwn,zay,zyI,zyv,zwU,zay,zbh,zwK,zay,zy8,zzf,zyw,zay,zbh,zzm,zay,zzP,zzB,zzS,zay,zbh,zyY,zay,zzX,zym,zy2,zay,zbh,zze,zay,zzh,zzl,zyL,zay,zbh,zx6,zay,zx0,zyk,zyO,zay,zbh,zyp,zay,zyJ,zyi,zx5,zay,zbh,zy4,zx1,zzA,zay,zbh,zyN,zy3,zyr,zay,zbh,zzN,zyZ,zzK,zay,zbh,zyS,zyU,zyR,zay,zbh,zx9,zzH,zzu,zay,zbh,zyG,zay,zzy,zzO,zzc,zay,zbh,zyu,zzs,zyM,zay,zbh,zyb,zzz,zzg,zay,zbh,zyX,zzD,zzY,zay,zbh,zy6,zyf,zx7,zay,zbh,zzU,zay,zy1,zza,zyA,zay,zbh,zzw,zyB,zzo]⟩,⟨[],[],[],0,[],[],false,#[],[],0,false,false,false,0,[2000,10,10],false,0,true,[],[],0,false⟩⟩
end
def m978v(p:Program):Program:={ p with main:={ p.main with body:=[sp p 1,sp p 2,sp p 3,sp p 4,sp p 6,sp p 7,sp p 8,sp p 9,sp p 10,sp p 11,sp p 12,sp p 13,sp p 14,sp p 15,sp p 17,sp p 18,sp p 19,sp p 20,sp p 22,sp p 23,sp p 24,sp p 25,sp p 26,sp p 27,sp p 28,sp p 29,sp p 30,sp p 31,sp p 32,sp p 33,sp p 34,sp p 35,sp p 36,sp p 37,sp p 38,sp p 39,sp p 40,sp p 41,sp p 42,sp p 43,sp p 44,sp p 45,sp p 46,sp p 47,sp p 48,sp p 49,sp p 50,sp p 51,sp p 52,sp p 53,sp p 54,sp p 55,sp p 56,sp p 57,sp p 59,sp p 60,sp p 61,sp p 62,sp p 63,sp p 64,sp p 65,sp p 66,sp p 67,sp p 68,sp p 69,sp p 70,sp p 71,sp p 72,sp p 73,sp p 74,sp p 75,sp p 76,sp p 77,sp p 78,sp p 79,sp p 80,sp p 81] } }
def m988s(p:Program):List Stmt:=[sp p 0,sp p 1]
def m1003s(p:Program):List Stmt:=[sp p 2]
def m1018s(p:Program):List Stmt:=[sp p 3]
def m1033s(p:Program):List Stmt:=[sp p 4,sp p 5,sp p 6,sp p 7,sp p 8,sp p 9,sp p 10]
def m1083s(p:Program):List Stmt:=[sp p 11,sp p 12,sp p 13,sp p 14,sp p 15,sp p 16,sp p 17,sp p 18,sp p 19,sp p 20,sp p 21,sp p 22,sp p 23,sp p 24,sp p 25,sp p 26,sp p 27,sp p 28]
def m1154s(p:Program):List Stmt:=[sp p 29,sp p 30,sp p 31,sp p 32,sp p 33,sp p 34,sp p 35,sp p 36,sp p 37,sp p 38,sp p 39,sp p 40,sp p 41]
def m1239s(p:Program):List Stmt:=[sp p 42,sp p 43,sp p 44,sp p 45,sp p 46,sp p 47,sp p 48,sp p 49,sp p 50,sp p 51,sp p 52,sp p 53,sp p 54]
def m1318s(p:Program):List Stmt:=[sp p 55,sp p 56,sp p 57,sp p 58,sp p 59,sp p 60,sp p 61,sp p 62,sp p 63,sp p 64,sp p 65,sp p 66,sp p 67]
def m1400s(p:Program):List Stmt:=[sp p 68,sp p 69,sp p 70,sp p 71,sp p 72,sp p 73,sp p 74,sp p 75,sp p 76,sp p 77,sp p 78,sp p 79,sp p 80,sp p 81]
noncomputable def u0:Q Str:=⟨Str.ofString "<module>",Str.ofString "/claim/cut.py",Str.ofString "__main__",Str.ofString "__name__",Str.ofString "hideworth.errors",Str.ofString "__doc__",Str.ofString "__package__",Str.ofString "__loader__"⟩
noncomputable def u1:Q Str:=⟨Str.ofString "__spec__",Str.ofString "__annotations__",Str.ofString "__builtins__",Str.ofString "__file__",Str.ofString "__cached__",Str.ofString "HideError",Str.ofString "__module__",Str.ofString "__qualname__"⟩
noncomputable def u2:Q Str:=⟨Str.ofString "__firstlineno__",Str.ofString "__static_attributes__",Str.ofString "__weakref__",Str.ofString "NoNumber",Str.ofString "NoBoxes",Str.ofString "hideworth.ratios",Str.ofString "NoBudget",Str.ofString "divisor"⟩
noncomputable def u3:Q Str:=⟨Str.ofString "ratio",Str.ofString "plus",Str.ofString "minus",Str.ofString "times",Str.ofString "one",Str.ofString "other",Str.ofString "rest",Str.ofString "top"⟩
noncomputable def u4:Q Str:=⟨Str.ofString "bottom",Str.ofString "shared",Str.ofString "hideworth.boxes",Str.ofString "over",Str.ofString "below",Str.ofString "common",Str.ofString "shared_divisor",Str.ofString "lowest"⟩
noncomputable def u5:Q Str:=⟨Str.ofString "is_whole",Str.ofString "is_within",Str.ofString "are_weights",Str.ofString "is_fraction",Str.ofString "MOST_BOXES",Str.ofString "MOST_COST",Str.ofString "MOST_OF",Str.ofString "MOST_LOOKS"⟩
noncomputable def u6:Q Str:=⟨Str.ofString "MOST_BUDGET",Str.ofString "is_box",Str.ofString "look_boxes",Str.ofString "numbers",Str.ofString "number",Str.ofString "thing",Str.ofString "hideworth.checks",Str.ofString "least"⟩
noncomputable def u7:Q Str:=⟨Str.ofString "most",Str.ofString "cost",Str.ofString "hits",Str.ofString "of",Str.ofString "look_budget",Str.ofString "is_plan",Str.ofString "power",Str.ofString "missed"⟩
noncomputable def u8:Q Str:=⟨Str.ofString "chance",Str.ofString "gain",Str.ofString "cost_sum",Str.ofString "is_share",Str.ofString "is_mix",Str.ofString "finds_enough",Str.ofString "is_seeker_right",Str.ofString "is_hider_paper"⟩
noncomputable def u9:Q Str:=⟨Str.ofString "is_last_look_worth",Str.ofString "budget",Str.ofString "base",Str.ofString "count",Str.ofString "product",Str.ofString "k",Str.ofString "box",Str.ofString "boxes"⟩
noncomputable def u10:Q Str:=⟨Str.ofString "counts",Str.ofString "weights",Str.ofString "worth",Str.ofString "whole",Str.ofString "parts",Str.ofString "weight",Str.ofString "price",Str.ofString "is_next_look_dear"⟩
noncomputable def u11:Q Str:=⟨Str.ofString "is_count_best",Str.ofString "is_sum_low",Str.ofString "is_hider_right",Str.ofString "budget_judged",Str.ofString "added",Str.ofString "least_chance",Str.ofString "fair_weights",Str.ofString "chance_for"⟩
noncomputable def u12:Q Str:=⟨Str.ofString "counts_and_worth",Str.ofString "look_shares",Str.ofString "mix_of",Str.ofString "paper_of",Str.ofString "paper",Str.ofString "mix",Str.ofString "fractions",Str.ofString "total"⟩
noncomputable def u13:Q Str:=⟨Str.ofString "fraction",Str.ofString "chances",Str.ofString "law_hideworth_k26_whole_budgets_papers_let_b",Str.ofString "sure_answer",Str.ofString "is_sure",Str.ofString "budget_worth",Str.ofString "_law_mix",Str.ofString "_law_cell_at"⟩
noncomputable def u14:Q Str:=⟨Str.ofString "_law_left",Str.ofString "_law_draw",Str.ofString "_law_boxes",Str.ofString "_law_whole",Str.ofString "_law_fraction",Str.ofString "_law_lowest",Str.ofString "_law_miss",Str.ofString "_law_number"⟩
noncomputable def u15:Q Str:=⟨Str.ofString "_law_k",Str.ofString "_law_mixed",Str.ofString "_law_script",Str.ofString "_law_cell",Str.ofString "_law_left_here",Str.ofString "_law_base",Str.ofString "_law_digit",Str.ofString "_law_most"⟩
noncomputable def u16:Q Str:=⟨Str.ofString "_law_found",Str.ofString "_law_cost",Str.ofString "_law_of",Str.ofString "_law_thing",Str.ofString "_law_one",Str.ofString "_law_other",Str.ofString "_law_top",Str.ofString "_law_bottom"⟩
noncomputable def u17:Q Str:=⟨Str.ofString "_law_box",Str.ofString "_law_many",Str.ofString "_law_turn",Str.ofString "_law_plus",Str.ofString "_law_less",Str.ofString "_law_plan",Str.ofString "_law_price",Str.ofString "_law_chance"⟩
noncomputable def u18:Q Str:=⟨Str.ofString "_law_keeps",Str.ofString "_law_finds",Str.ofString "_law_marks",Str.ofString "_law_hides",Str.ofString "_law_deep",Str.ofString "_law_mix_else",Str.ofString "_law_paper_else",Str.ofString "_law_worth_else"⟩
noncomputable def u19:Q Str:=⟨Str.ofString "law",Str.ofString "_law_weight",Str.ofString "_law_price_here",Str.ofString "_law_count",Str.ofString "_law_gain",Str.ofString "_law_due",Str.ofString "_law_worth",Str.ofString "_law_far"⟩
noncomputable def v0:Q String:=⟨"tuple","code","frame","dict","__main__.__loader__#opaque","ValueError","builtin_function_or_method","type.__prepare__"⟩
noncomputable def v1:Q String:=⟨"type","Exception","BaseException","object","ValueError.__new__","getset_descriptor","ExceptionGroup.__weakref__","super"⟩
noncomputable def v2:Q String:=⟨"object.__init_subclass__","function","function","function","function","function","function","function"⟩
noncomputable def w0 (P:Params):Q Obj:=⟨W.boot_o_0 P,W.boot_o_1 P,W.boot_o_2 P,W.boot_o_3 P,W.boot_o_4 P,W.boot_o_5 P,W.boot_o_6 P,W.boot_o_7 P⟩
noncomputable def w1 (P:Params):Q Obj:=⟨W.boot_o_8 P,W.boot_o_9 P,W.boot_o_10 P,W.boot_o_10 P,W.boot_o_10 P,W.boot_o_10 P,W.boot_o_10 P,W.boot_o_10 P⟩
noncomputable def yb:{t:(Params→Str→Int)→Params→Obj // W.boot_o_0=t PyData.keyHash}:=⟨_,by unfold W.boot_o_0;generalize PyData.keyHash=k;conv=>lhs;reduce⟩
def _root_.PySem.W.Fast.tw14598715356260435866:Params→Obj:=yb.1 PyData.keyHash
theorem _root_.PySem.W.Fast.te14598715356260435866:W.boot_o_0=tw14598715356260435866:=yb.2
noncomputable def yp:{t:Program // PySem.Challenge.pw_hideworth_k26_whole_budgets_papers_let_b=t}:=⟨_,by conv=>lhs;reduce⟩
def _root_.PySem.W.Fast.tw4359468773565021337:Program:=yp.1
theorem _root_.PySem.W.Fast.te4359468773565021337:PySem.Challenge.pw_hideworth_k26_whole_budgets_papers_let_b=tw4359468773565021337:=yp.2
lay_quick u0 u1 u2 u3 u4 u5 u6 u7 u8 u9 u10 u11 u12 u13 u14 u15 u16 u17 u18 u19 v0 v1 v2 w0 w1 PySem.Challenge.pw_hideworth_k26_whole_budgets_papers_let_b
def K(a' b' c' d' e' f' g' h' i' j' k' l' m' n' o' p' q' r' s' t':Q Str)(u' v' w':Q String)(x' y':Params→Q Obj)(z':Program)(P:Params):X:=⟨⟨⟨a',b',c',d',e',f',g',h'⟩,⟨i',j',k',l',m',n',o',p'⟩,⟨q',r',s',t',t',t',t',t'⟩,⟨q',r',s',t',t',t',t',t'⟩,⟨q',r',s',t',t',t',t',t'⟩,⟨q',r',s',t',t',t',t',t'⟩,⟨q',r',s',t',t',t',t',t'⟩,⟨q',r',s',t',t',t',t',t'⟩⟩,⟨⟨u',v',w',w',w',w',w',w'⟩,⟨u',v',w',w',w',w',w',w'⟩,⟨u',v',w',w',w',w',w',w'⟩,⟨u',v',w',w',w',w',w',w'⟩,⟨u',v',w',w',w',w',w',w'⟩,⟨u',v',w',w',w',w',w',w'⟩,⟨u',v',w',w',w',w',w',w'⟩,⟨u',v',w',w',w',w',w',w'⟩⟩,⟨⟨x' P,y' P,y' P,y' P,y' P,y' P,y' P,y' P⟩,⟨x' P,y' P,y' P,y' P,y' P,y' P,y' P,y' P⟩,⟨x' P,y' P,y' P,y' P,y' P,y' P,y' P,y' P⟩,⟨x' P,y' P,y' P,y' P,y' P,y' P,y' P,y' P⟩,⟨x' P,y' P,y' P,y' P,y' P,y' P,y' P,y' P⟩,⟨x' P,y' P,y' P,y' P,y' P,y' P,y' P,y' P⟩,⟨x' P,y' P,y' P,y' P,y' P,y' P,y' P,y' P⟩,⟨x' P,y' P,y' P,y' P,y' P,y' P,y' P,y' P⟩⟩,z',P⟩
noncomputable def k0:=K u0 u1 u2 u3 u4 u5 u6 u7 u8 u9 u10 u11 u12 u13 u14 u15 u16 u17 u18 u19 v0 v1 v2 w0 w1 PySem.Challenge.pw_hideworth_k26_whole_budgets_papers_let_b
noncomputable def k1:=K tw13894225608423057668 tw17531079430653816501 tw13809737476558091540 tw2367299412457286945 tw1912701158020654693 tw2188347355606102534 tw16368670287772101220 tw14842115654739255404 tw4717311838995323452 tw594758545415977400 tw10895325593200808953 tw10037743213843438893 tw10009084784789568687 tw5084553986333570498 tw16641277437810104112 tw11875653558476324687 tw1672153094372761355 tw4580522010931877059 tw15163288008780518816 tw2560371371167247513 tw15633551313878501473 tw10735261366311057212 tw13734974896645664886 tw1278260381020688717 tw13492767390215788210 tw4359468773565021337
theorem ke:k0=k1:=by
  unfold k0 k1
  rw[te13894225608423057668,te17531079430653816501,te13809737476558091540,te2367299412457286945,te1912701158020654693,te2188347355606102534,te16368670287772101220,te14842115654739255404,te4717311838995323452,te594758545415977400,te10895325593200808953,te10037743213843438893,te10009084784789568687,te5084553986333570498,te16641277437810104112,te11875653558476324687,te1672153094372761355,te4580522010931877059,te15163288008780518816,te2560371371167247513,te15633551313878501473,te10735261366311057212,te13734974896645664886,te1278260381020688717,te13492767390215788210,te4359468773565021337]
theorem kE{β:Type _}(f:X→β):(λP=>f (k0 P))=λP=>f (k1 P):=congrArg (λy P=>f (y P)) ke
end Hd
namespace PySem.W.Fast
def tw12190422377264871162:Program:=Hd.m978v tw4359468773565021337
theorem te12190422377264871162:Hd.m978v PySem.Challenge.pw_hideworth_k26_whole_budgets_papers_let_b=tw12190422377264871162:=congrArg Hd.m978v te4359468773565021337
def tw11912068966655448473(P:Params):Heap:=@Hd.m985 (Hd.k1 P)
theorem te11912068966655448473:(λP=>@Hd.m985 (Hd.k0 P))=tw11912068966655448473:=Hd.kE @Hd.m985
def tw15197850798611428699(P:Params):BT:=@Hd.m986 (Hd.k1 P)
theorem te15197850798611428699:(λP=>@Hd.m986 (Hd.k0 P))=tw15197850798611428699:=Hd.kE @Hd.m986
def tw13978037200259600718:List Stmt:=Hd.m988s tw4359468773565021337
theorem te13978037200259600718:Hd.m988s PySem.Challenge.pw_hideworth_k26_whole_budgets_papers_let_b=tw13978037200259600718:=congrArg Hd.m988s te4359468773565021337
def tw6948876964608825513(P:Params):BT:=@Hd.m1002 (Hd.k1 P)
theorem te6948876964608825513:(λP=>@Hd.m1002 (Hd.k0 P))=tw6948876964608825513:=Hd.kE @Hd.m1002
def tw12722677629204782925:List Stmt:=Hd.m1003s tw4359468773565021337
theorem te12722677629204782925:Hd.m1003s PySem.Challenge.pw_hideworth_k26_whole_budgets_papers_let_b=tw12722677629204782925:=congrArg Hd.m1003s te4359468773565021337
def tw14994136352783907112(P:Params):BT:=@Hd.m1017 (Hd.k1 P)
theorem te14994136352783907112:(λP=>@Hd.m1017 (Hd.k0 P))=tw14994136352783907112:=Hd.kE @Hd.m1017
def tw18293978422391676711:List Stmt:=Hd.m1018s tw4359468773565021337
theorem te18293978422391676711:Hd.m1018s PySem.Challenge.pw_hideworth_k26_whole_budgets_papers_let_b=tw18293978422391676711:=congrArg Hd.m1018s te4359468773565021337
def tw15584912675782035047(P:Params):BT:=@Hd.m1032 (Hd.k1 P)
theorem te15584912675782035047:(λP=>@Hd.m1032 (Hd.k0 P))=tw15584912675782035047:=Hd.kE @Hd.m1032
def tw17341937505979527045:List Stmt:=Hd.m1033s tw4359468773565021337
theorem te17341937505979527045:Hd.m1033s PySem.Challenge.pw_hideworth_k26_whole_budgets_papers_let_b=tw17341937505979527045:=congrArg Hd.m1033s te4359468773565021337
def tw5310169101404539926(P:Params):BT:=@Hd.m1082 (Hd.k1 P)
theorem te5310169101404539926:(λP=>@Hd.m1082 (Hd.k0 P))=tw5310169101404539926:=Hd.kE @Hd.m1082
def tw16951253765843382763:List Stmt:=Hd.m1083s tw4359468773565021337
theorem te16951253765843382763:Hd.m1083s PySem.Challenge.pw_hideworth_k26_whole_budgets_papers_let_b=tw16951253765843382763:=congrArg Hd.m1083s te4359468773565021337
def tw2902110501147678138(P:Params):BT:=@Hd.m1153 (Hd.k1 P)
theorem te2902110501147678138:(λP=>@Hd.m1153 (Hd.k0 P))=tw2902110501147678138:=Hd.kE @Hd.m1153
def tw16298869723303985445:List Stmt:=Hd.m1154s tw4359468773565021337
theorem te16298869723303985445:Hd.m1154s PySem.Challenge.pw_hideworth_k26_whole_budgets_papers_let_b=tw16298869723303985445:=congrArg Hd.m1154s te4359468773565021337
def tw7410287339867570529(P:Params):BT:=@Hd.m1238 (Hd.k1 P)
theorem te7410287339867570529:(λP=>@Hd.m1238 (Hd.k0 P))=tw7410287339867570529:=Hd.kE @Hd.m1238
def tw233612418075206032:List Stmt:=Hd.m1239s tw4359468773565021337
theorem te233612418075206032:Hd.m1239s PySem.Challenge.pw_hideworth_k26_whole_budgets_papers_let_b=tw233612418075206032:=congrArg Hd.m1239s te4359468773565021337
def tw12893623746729795725(P:Params):BT:=@Hd.m1317 (Hd.k1 P)
theorem te12893623746729795725:(λP=>@Hd.m1317 (Hd.k0 P))=tw12893623746729795725:=Hd.kE @Hd.m1317
def tw1337473732656988180:List Stmt:=Hd.m1318s tw4359468773565021337
theorem te1337473732656988180:Hd.m1318s PySem.Challenge.pw_hideworth_k26_whole_budgets_papers_let_b=tw1337473732656988180:=congrArg Hd.m1318s te4359468773565021337
def tw5357177882421843928(P:Params):BT:=@Hd.m1399 (Hd.k1 P)
theorem te5357177882421843928:(λP=>@Hd.m1399 (Hd.k0 P))=tw5357177882421843928:=Hd.kE @Hd.m1399
def tw2112144210747752881:List Stmt:=Hd.m1400s tw4359468773565021337
theorem te2112144210747752881:Hd.m1400s PySem.Challenge.pw_hideworth_k26_whole_budgets_papers_let_b=tw2112144210747752881:=congrArg Hd.m1400s te4359468773565021337
def tw1448085336045358894(P:Params):BT:=@Hd.m1479 (Hd.k1 P)
theorem te1448085336045358894:(λP=>@Hd.m1479 (Hd.k0 P))=tw1448085336045358894:=Hd.kE @Hd.m1479
def tw11211490231818236950(P:Params):Heap:=@Hd.m1480 (Hd.k1 P)
theorem te11211490231818236950:(λP=>@Hd.m1480 (Hd.k0 P))=tw11211490231818236950:=Hd.kE @Hd.m1480
end PySem.W.Fast
end
open PySem PySem.W PyProof.Rows PySem.W.X PySem.W.ZRun
set_option maxRecDepth 100000 in
set_option maxHeartbeats 0 in
theorem PySem.Challenge.cw_hideworth_k26_whole_budgets_papers_let_b_holds : PySem.Challenge.rw_hideworth_k26_whole_budgets_papers_let_b.Holds := by
 w_on;o_law;z_head;(case hw=>w_witness2)
 k_fill
 intro w s0 s1 m0 m1 G Y fa o pm cd doc dV kV ho hd hc hD hm hg xs vs as L h1 h2 h3 h4 h5
 z_open Y L KX ZH ZN ZT
 refine My.walk_at (l:=PySem.Challenge.rw_hideworth_k26_whole_budgets_papers_let_b) KX (λW=>W w s0 s1 m0 m1 G KX fa o pm cd doc dV kV ho hd hc hD hm hg xs vs as h1 h2 h3 h4 h5) (My.walk (l:=PySem.Challenge.rw_hideworth_k26_whole_budgets_papers_let_b) rfl rfl (λ_ _ h=>h) ?F)
 case F =>
  intro w mg fa h KX G hmg
  refine' My.zzL KX G hmg (My.zzQ KX G (L2.za2 ?l0 ?c0 ?k0) (mg_of KX G ?a0) (L2.za2 ?l1 ?c1 ?k1) (mg_of KX G ?a1) (L2.za2 ?l2 ?c2 ?k2) (mg_of KX G ?a2) (L2.za2 ?l3 ?c3 ?k3) (mg_of KX G ?a3) (L2.za2 ?l4 ?c4 ?k4) (mg_of KX G ?a4) (L2.za2 ?l5 ?c5 ?k5) (mg_of KX G ?a5) (L2.za2 ?l6 ?c6 ?k6) (mg_of KX G ?a6) (L2.za2 ?l7 ?c7 ?k7) (mg_of KX G ?a7) (L2.za2 ?l8 ?c8 ?k8) (mg_of KX G ?a8) (L2.za2 ?l9 ?c9 ?k9) (mg_of KX G ?a9) (L2.za2 ?l10 ?c10 ?k10) (mg_of KX G ?a10) (L2.za2 ?l11 ?c11 ?k11) (mg_of KX G ?a11) (L2.za2 ?l12 ?c12 ?k12) (mg_of KX G ?a12) (L2.za2 ?l13 ?c13 ?k13) (mg_of KX G ?a13) (L2.za2 ?l14 ?c14 ?k14) (mg_of KX G ?a14) (L2.za2 ?l15 ?c15 ?k15) (mg_of KX G ?a15) (L2.za2 ?l16 ?c16 ?k16) (mg_of KX G ?a16) (L2.za2 ?l17 ?c17 ?k17) (mg_of KX G ?a17) (L2.za2 ?l18 ?c18 ?k18) (mg_of KX G ?a18) (L2.za2 ?l19 ?c19 ?k19) (mg_of KX G ?a19) (L2.za2 ?l20 ?c20 ?k20) (mg_of KX G ?a20) (L2.za2 ?l21 ?c21 ?k21) (mg_of KX G ?a21) (L2.za2 ?l22 ?c22 ?k22) (mg_of KX G ?a22) (L2.za2 ?l23 ?c23 ?k23) (mg_of KX G ?a23) (L2.za2 ?l24 ?c24 ?k24) (mg_of KX G ?a24) (L2.za2 ?l25 ?c25 ?k25) (mg_of KX G ?a25) (L2.za2 ?l26 ?c26 ?k26) (mg_of KX G ?a26) (L2.za2 ?l27 ?c27 ?k27) (mg_of KX G ?a27) (L2.za2 ?l28 ?c28 ?k28) (mg_of KX G ?a28) (L2.za2 ?l29 ?c29 ?k29) (mg_of KX G ?a29) (L2.za2 ?l30 ?c30 ?k30) (mg_of KX G ?a30) (L2.za2 ?l31 ?c31 ?k31) (mg_of KX G ?a31) (L2.za2 ?l32 ?c32 ?k32) (mg_of KX G ?a32) (L2.za2 ?l33 ?c33 ?k33) (mg_of KX G ?a33) (L2.za2 ?l34 ?c34 ?k34) (mg_of KX G ?a34) (L2.za2 ?l35 ?c35 ?k35) (mg_of KX G ?a35) (L2.za2 ?l36 ?c36 ?k36) (mg_of KX G ?a36) (L2.za2 ?l37 ?c37 ?k37) (mg_of KX G ?a37) (L2.za2 ?l38 ?c38 ?k38) (mg_of KX G ?a38) (L2.za2 ?l39 ?c39 ?k39) (mg_of KX G ?a39) (L2.za2 ?l40 ?c40 ?k40) (mg_of KX G ?a40) (L2.za2 ?l41 ?c41 ?k41) (mg_of KX G ?a41) (L2.za2 ?l42 ?c42 ?k42) (mg_of KX G ?a42) (L2.za2 ?l43 ?c43 ?k43) (mg_of KX G ?a43) (L2.za2 ?l44 ?c44 ?k44) (mg_of KX G ?a44) (L2.za2 ?l45 ?c45 ?k45) (mg_of KX G ?a45) (L2.za2 ?l46 ?c46 ?k46) (mg_of KX G ?a46) (L2.za2 ?l47 ?c47 ?k47) (mg_of KX G ?a47) (L2.za2 ?l48 ?c48 ?k48) (mg_of KX G ?a48) (L2.za2 ?l49 ?c49 ?k49) (mg_of KX G ?a49) (L2.za2 ?l50 ?c50 ?k50) (mg_of KX G ?a50) (L2.za2 ?l51 ?c51 ?k51) (mg_of KX G ?a51) (L2.za2 ?l52 ?c52 ?k52) (mg_of KX G ?a52) (L2.za2 ?l53 ?c53 ?k53) (mg_of KX G ?a53) (L2.za2 ?l54 ?c54 ?k54) (mg_of KX G ?a54) (L2.za2 ?l55 ?c55 ?k55) (mg_of KX G ?a55) (L2.za2 ?l56 ?c56 ?k56) (mg_of KX G ?a56) (L2.za2 ?l57 ?c57 ?k57) (mg_of KX G ?a57) (L2.za2 ?l58 ?c58 ?k58) (mg_of KX G ?a58) (L2.za2 ?l59 ?c59 ?k59) (mg_of KX G ?a59) (L2.za2 ?l60 ?c60 ?k60) (mg_of KX G ?a60) (L2.za2 ?l61 ?c61 ?k61) (mg_of KX G ?a61) (L2.za2 ?l62 ?c62 ?k62) (mg_of KX G ?a62) (L2.za2 ?l63 ?c63 ?k63) (mg_of KX G ?a63) (L2.za2 ?l64 ?c64 ?k64) (mg_of KX G ?a64) (L2.za2 ?l65 ?c65 ?k65) (mg_of KX G ?a65) (L2.za2 ?l66 ?c66 ?k66) (mg_of KX G ?a66) (L2.za2 ?l67 ?c67 ?k67) (mg_of KX G ?a67) (mg_none_of KX G ?z_set) (mg_none_of KX G ?z_isinstance) (mg_none_of KX G ?z_range) (mg_none_of KX G ?z_all) (mg_none_of KX G ?z_sorted) (mg_none_of KX G ?z_abs) (mg_none_of KX G ?z_sum) (mg_none_of KX G ?z_len) (mg_none_of KX G ?z_list) (mg_none_of KX G ?z_zip) (mg_none_of KX G ?z_int) (mg_none_of KX G ?z_bool) (mg_none_of KX G ?z_tuple) (mg_none_of KX G ?z_max) (mg_none_of KX G ?z_min) (mg_of KX G ?ac_NoNumber) (mg_of KX G ?ac_NoBoxes) (mg_of KX G ?ac_NoBudget) (mg_of KX G ?ak_MOST_BOXES) (mg_of KX G ?ak_MOST_COST) (mg_of KX G ?ak_MOST_OF) (mg_of KX G ?ak_MOST_BUDGET) (mg_of KX G ?ak_MOST_LOOKS) ?xc_NoNumber ?xc_NoBoxes ?xc_NoBudget)
  (case a0=>k_is);(case l0=>k_is);(case c0=>k_is);(case k0=>k_is)
  (case a1=>k_is);(case l1=>k_is);(case c1=>k_is);(case k1=>k_is)
  (case a2=>k_is);(case l2=>k_is);(case c2=>k_is);(case k2=>k_is)
  (case a3=>k_is);(case l3=>k_is);(case c3=>k_is);(case k3=>k_is)
  (case a4=>k_is);(case l4=>k_is);(case c4=>k_is);(case k4=>k_is)
  (case a5=>k_is);(case l5=>k_is);(case c5=>k_is);(case k5=>k_is)
  (case a6=>k_is);(case l6=>k_is);(case c6=>k_is);(case k6=>k_is)
  (case a7=>k_is);(case l7=>k_is);(case c7=>k_is);(case k7=>k_is)
  (case a8=>k_is);(case l8=>k_is);(case c8=>k_is);(case k8=>k_is)
  (case a9=>k_is);(case l9=>k_is);(case c9=>k_is);(case k9=>k_is)
  (case a10=>k_is);(case l10=>k_is);(case c10=>k_is);(case k10=>k_is)
  (case a11=>k_is);(case l11=>k_is);(case c11=>k_is);(case k11=>k_is)
  (case a12=>k_is);(case l12=>k_is);(case c12=>k_is);(case k12=>k_is)
  (case a13=>k_is);(case l13=>k_is);(case c13=>k_is);(case k13=>k_is)
  (case a14=>k_is);(case l14=>k_is);(case c14=>k_is);(case k14=>k_is)
  (case a15=>k_is);(case l15=>k_is);(case c15=>k_is);(case k15=>k_is)
  (case a16=>k_is);(case l16=>k_is);(case c16=>k_is);(case k16=>k_is)
  (case a17=>k_is);(case l17=>k_is);(case c17=>k_is);(case k17=>k_is)
  (case a18=>k_is);(case l18=>k_is);(case c18=>k_is);(case k18=>k_is)
  (case a19=>k_is);(case l19=>k_is);(case c19=>k_is);(case k19=>k_is)
  (case a20=>k_is);(case l20=>k_is);(case c20=>k_is);(case k20=>k_is)
  (case a21=>k_is);(case l21=>k_is);(case c21=>k_is);(case k21=>k_is)
  (case a22=>k_is);(case l22=>k_is);(case c22=>k_is);(case k22=>k_is)
  (case a23=>k_is);(case l23=>k_is);(case c23=>k_is);(case k23=>k_is)
  (case a24=>k_is);(case l24=>k_is);(case c24=>k_is);(case k24=>k_is)
  (case a25=>k_is);(case l25=>k_is);(case c25=>k_is);(case k25=>k_is)
  (case a26=>k_is);(case l26=>k_is);(case c26=>k_is);(case k26=>k_is)
  (case a27=>k_is);(case l27=>k_is);(case c27=>k_is);(case k27=>k_is)
  (case a28=>k_is);(case l28=>k_is);(case c28=>k_is);(case k28=>k_is)
  (case a29=>k_is);(case l29=>k_is);(case c29=>k_is);(case k29=>k_is)
  (case a30=>k_is);(case l30=>k_is);(case c30=>k_is);(case k30=>k_is)
  (case a31=>k_is);(case l31=>k_is);(case c31=>k_is);(case k31=>k_is)
  (case a32=>k_is);(case l32=>k_is);(case c32=>k_is);(case k32=>k_is)
  (case a33=>k_is);(case l33=>k_is);(case c33=>k_is);(case k33=>k_is)
  (case a34=>k_is);(case l34=>k_is);(case c34=>k_is);(case k34=>k_is)
  (case a35=>k_is);(case l35=>k_is);(case c35=>k_is);(case k35=>k_is)
  (case a36=>k_is);(case l36=>k_is);(case c36=>k_is);(case k36=>k_is)
  (case a37=>k_is);(case l37=>k_is);(case c37=>k_is);(case k37=>k_is)
  (case a38=>k_is);(case l38=>k_is);(case c38=>k_is);(case k38=>k_is)
  (case a39=>k_is);(case l39=>k_is);(case c39=>k_is);(case k39=>k_is)
  (case a40=>k_is);(case l40=>k_is);(case c40=>k_is);(case k40=>k_is)
  (case a41=>k_is);(case l41=>k_is);(case c41=>k_is);(case k41=>k_is)
  (case a42=>k_is);(case l42=>k_is);(case c42=>k_is);(case k42=>k_is)
  (case a43=>k_is);(case l43=>k_is);(case c43=>k_is);(case k43=>k_is)
  (case a44=>k_is);(case l44=>k_is);(case c44=>k_is);(case k44=>k_is)
  (case a45=>k_is);(case l45=>k_is);(case c45=>k_is);(case k45=>k_is)
  (case a46=>k_is);(case l46=>k_is);(case c46=>k_is);(case k46=>k_is)
  (case a47=>k_is);(case l47=>k_is);(case c47=>k_is);(case k47=>k_is)
  (case a48=>k_is);(case l48=>k_is);(case c48=>k_is);(case k48=>k_is)
  (case a49=>k_is);(case l49=>k_is);(case c49=>k_is);(case k49=>k_is)
  (case a50=>k_is);(case l50=>k_is);(case c50=>k_is);(case k50=>k_is)
  (case a51=>k_is);(case l51=>k_is);(case c51=>k_is);(case k51=>k_is)
  (case a52=>k_is);(case l52=>k_is);(case c52=>k_is);(case k52=>k_is)
  (case a53=>k_is);(case l53=>k_is);(case c53=>k_is);(case k53=>k_is)
  (case a54=>k_is);(case l54=>k_is);(case c54=>k_is);(case k54=>k_is)
  (case a55=>k_is);(case l55=>k_is);(case c55=>k_is);(case k55=>k_is)
  (case a56=>k_is);(case l56=>k_is);(case c56=>k_is);(case k56=>k_is)
  (case a57=>k_is);(case l57=>k_is);(case c57=>k_is);(case k57=>k_is)
  (case a58=>k_is);(case l58=>k_is);(case c58=>k_is);(case k58=>k_is)
  (case a59=>k_is);(case l59=>k_is);(case c59=>k_is);(case k59=>k_is)
  (case a60=>k_is);(case l60=>k_is);(case c60=>k_is);(case k60=>k_is)
  (case a61=>k_is);(case l61=>k_is);(case c61=>k_is);(case k61=>k_is)
  (case a62=>k_is);(case l62=>k_is);(case c62=>k_is);(case k62=>k_is)
  (case a63=>k_is);(case l63=>k_is);(case c63=>k_is);(case k63=>k_is)
  (case a64=>k_is);(case l64=>k_is);(case c64=>k_is);(case k64=>k_is)
  (case a65=>k_is);(case l65=>k_is);(case c65=>k_is);(case k65=>k_is)
  (case a66=>k_is);(case l66=>k_is);(case c66=>k_is);(case k66=>k_is)
  (case a67=>k_is);(case l67=>k_is);(case c67=>k_is);(case k67=>k_is)
  (case z_set=>k_is)
  (case z_isinstance=>k_is)
  (case z_range=>k_is)
  (case z_all=>k_is)
  (case z_sorted=>k_is)
  (case z_abs=>k_is)
  (case z_sum=>k_is)
  (case z_len=>k_is)
  (case z_list=>k_is)
  (case z_zip=>k_is)
  (case z_int=>k_is)
  (case z_bool=>k_is)
  (case z_tuple=>k_is)
  (case z_max=>k_is)
  (case z_min=>k_is)
  (case ac_NoNumber=>k_is)
  (case ac_NoBoxes=>k_is)
  (case ac_NoBudget=>k_is)
  (case ak_MOST_BOXES=>k_is)
  (case ak_MOST_COST=>k_is)
  (case ak_MOST_OF=>k_is)
  (case ak_MOST_BUDGET=>k_is)
  (case ak_MOST_LOOKS=>k_is)
  (case xc_NoNumber=>k_exc)
  (case xc_NoBoxes=>k_exc)
  (case xc_NoBudget=>k_exc)
