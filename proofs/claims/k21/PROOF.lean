import PyProof.Rows.All
import Wide.All
import OpenK.AllK
import Wide.FinOn
import Lean
import PyProof.EqAt
import PyProof.EqKinds
import PyProof.TupleCall
import KE.IntBitsLaws
import PyProof.NeKinds
import KE.KIsAll
import PyProof.ExcAttrAll.ValueError
import KE.RegKIsAll
import OpenK.KOwn
import PyProof.ConsumeWalk
import PyProof.SumWalkG
import PyProof.Rows.SeqCalls
import PyProof.Rows.SeqGen
import PyProof.ZipIter
import PyProof.Rows.ZipGen
import PyProof.Rows.FactsT2
import PyProof.WalkInts
import PyProof.SeqI3
import PyProof.AutoSeq1
import KE.KRevSl
import PyProof.WalksEnum
import PyProof.EnumMake
import PyProof.ListRange
import KE.KDictSum
import PyProof.Rows.SortWalk
import PyProof.Rows.SetFrom
import PyProof.TupleKey
import PyProof.SetRoads
import PyProof.FactsAll.set_1
import OpenK.ZGo
import PySem.Challenge.RW_hideworth_k21_budget_papers_looked_at
open PySem.W renaming Frag→ψa,kitOne→ψQ,kia_one→ψf1
open List renaming length_map→ψb,getElem?_eq_getElem→ψc,zipWith→ψd,mem_cons_of_mem→ψe,size_toArray→ψf,mem_cons_self→ψg,Nodup→ψk,zip→ψn,length_zipWith→ψo,not_mem_nil→ψp,sum_cons→ψq,getElem?_of_mem→ψr,map_cons→ψu,mem_cons→ψv,take_add_one→ψw,getD_eq_getElem?_getD→ψy,mem_append_right→ψA,zipWith_cons_cons→ψF,getElem?_map→ψI,take_length→ψJ,take_of_length_le→ψK,getElem?_zip_eq_some→ψL,length_take→ψM,length_cons→ψN,eq_nil_of_length_eq_zero→ψR,mem_of_getElem?→ψS,map_append→ψV,getElem?_zipWith→ψY,sum_nil→ψa1,length_append→ψb1,getElem?_append_right→ψe1,getElem?_append_left→ψi1,lookup_cons→ψk1,zipWith_nil_left→ψo1,range→ψr1,map_nil→ψu1,getElem_mem→ψA1,zip_cons_cons→ψK1,sum_append→ψL1,mem_of_mem_drop→ψN1,mem_of_mem_take→ψO1,length_drop→ψR1
open Nat renaming le_refl→ψh,lt_of_lt_of_le→ψj,ne_of_lt→ψl,le_trans→ψE,lt_trans→ψg1,zero_le→ψh1,not_lt_zero→ψn1,le_of_lt→ψt1,lt_irrefl→ψx1,ne_of_gt→ψD1,lt_succ_of_lt→ψF1,lt_succ_self→ψS1,le_add_right→ψT1,zero_add→ψU1,lt_of_le_of_lt→ψZ1
open PyProof.Rows renaming boot_isinstance→ψi,boot_sum→ψW,callWith_type1→ψj1,boot_all→ψq1
open Rat renaming intCast_mul→ψm,divInt_eq_div→ψs,le_of_lt→ψB,divInt→ψD,num_divInt_den→ψG,mul_le_mul_of_nonneg_right→ψP,intCast_add→ψT,pow_succ→ψl1,mul_nonneg→ψs1,pow_zero→ψv1,mul_pos→ψC1,intCast_sub→ψE1,le_refl→ψG1,le_of_mul_le_mul_right→ψM1
open Bool renaming and_eq_true→ψt,false_ne_true→ψO,false_and→ψc1,eq_iff_iff→ψm1,true_and→ψz1
open Int renaming le_of_lt→ψx,gcd→ψz,mul_ne_zero→ψX,fdiv_eq_ediv_of_nonneg→ψZ,eq_ofNat_of_zero_le→ψd1,mul_fdiv_add_fmod→ψp1,fmod_nonneg_of_pos→ψw1,fmod_eq_emod_of_nonneg→ψy1,mul_pos→ψB1,emod_lt_of_pos→ψH1,fmod_lt_of_pos→ψJ1,mul_sub→ψP1,mul_neg→ψQ1,ediv_le_self→ψV1
open PySem renaming mem_of_lookup→ψC,boot_len→ψH
open Classical renaming byContradiction→ψU
open PyProof.Rows.F renaming plain_set_update_loop→ψI1
open PySem.F renaming slot_list_append→ψW1,type_list_append→ψX1,plainAttrs_list→ψY1
set_option Elab.async false
set_option linter.all false
set_option maxRecDepth 100000
namespace L2
open PySem PySem.Spec PyProof.Rows
abbrev Key:=Sum Int Str
def zy9:Key→Value→Bool
 | .inl k,v=>Value.isInt k v
 | .inr x,v=>Value.isStrOf x v
def keyH(w:World):Key→Int
 | .inl k=>hashInt k
 | .inr x=>hashStr w x
theorem zct:∀{k:Key} {v:Value},zy9 k v=true→(∃i t,k=Sum.inl i∧v=Value.int i t)∨(∃x t,k=Sum.inr x∧v=Value.str x t)
 | .inl i,v,h=>by
  obtain⟨t,e⟩:=Value.isInt_shape (k:=i) (v:=v) h
  exact .inl ⟨i,t,rfl,e⟩
 | .inr x,v,h=>by
  obtain⟨t,e⟩:=Value.isStrOf_shape (x:=x) (v:=v) h
  exact .inr ⟨x,t,rfl,e⟩
theorem zyD(a b:Int):decide ((Sum.inl a:Key)=Sum.inl b)=(a == b):=by
 by_cases e:a=b
 ·subst e;simp
 ·have h:¬ (Sum.inl a:Key)=Sum.inl b:=λq=>e (Sum.inl.inj q)
  rw[decide_eq_false h]
  exact(beq_eq_false_iff_ne.mpr e).symm
theorem zz3(a b:Str):decide ((Sum.inr a:Key)=Sum.inr b)=decide (a=b):=by
 by_cases e:a=b
 ·subst e;simp
 ·have h:¬ (Sum.inr a:Key)=Sum.inr b:=λq=>e (Sum.inr.inj q)
  rw[decide_eq_false h,decide_eq_false e]
theorem zza(a:Int)(b:Str):decide ((Sum.inl a:Key)=Sum.inr b)=false:=decide_eq_false (λq=>nomatch q)
theorem zy1(a:Str)(b:Int):decide ((Sum.inr a:Key)=Sum.inl b)=false:=decide_eq_false (λq=>nomatch q)
def znN(prog:Program)(w:World):PySem.KeyKind prog w Key where
 is:=zy9
 hash:=keyH w
 inj:=λv a b ha hb=>by
  rcases zct ha with ⟨i,t,rfl,rfl⟩ | ⟨x,t,rfl,rfl⟩
  ·rcases zct hb with ⟨j,u,rfl,e⟩ | ⟨y,u,rfl,e⟩
   ·injection e with e1 _;rw[e1]
   ·exact nomatch e
  ·rcases zct hb with ⟨j,u,rfl,e⟩ | ⟨y,u,rfl,e⟩
   ·exact nomatch e
   ·injection e with e1 _;rw[e1]
 byValue:=λk v h=>by
  rcases zct h with ⟨i,t,rfl,rfl⟩ | ⟨x,t,rfl,rfl⟩ <;> rfl
 pyHash:=λhv h=>by
  rcases zct hv with ⟨i,t,rfl,rfl⟩ | ⟨x,t,rfl,rfl⟩
  ·exact wpAny_pyHash_int h
  ·exact wpAny_pyHash_str h
 eqBool:=λhu hv h=>by
  rcases zct hu with ⟨i,t,rfl,rfl⟩ | ⟨x,t,rfl,rfl⟩
  ·rcases zct hv with ⟨j,u,rfl,rfl⟩ | ⟨y,u,rfl,rfl⟩
   ·rw[zyD] at h;exact wpAny_eqBool_int h
   ·rw[zza] at h;exact SeqAt.EqAt.int_str i t y u _ _ _ _ h
  ·rcases zct hv with ⟨j,u,rfl,rfl⟩ | ⟨y,u,rfl,rfl⟩
   ·rw[zy1] at h;exact SeqAt.EqAt.str_int x t j u _ _ _ _ h
   ·rw[zz3] at h;exact wpAny_eqBool_str h
 «strs»:=λk x t v h=>by
  rcases zct h with ⟨i,u,rfl,e⟩ | ⟨y,u,rfl,e⟩
  ·exact nomatch e
  ·injection e with e1 _
   subst e1
   cases v <;> rfl
end L2
namespace L2
open PySem PySem.Spec PyProof.Rows
inductive V where
 | non | bl (b:Bool) | int (i:Int) | str (x:Str) | byt (b:Array UInt8) | flt (b:UInt64) | ref (a:Addr) | ty (n:String)
 deriving DecidableEq
def zee:V→Value→Prop
 | .non,u=>u=Value.none
 | .bl b,u=>u=Value.bool b
 | .int i,u=>∃t,u=Value.int i t
 | .str x,u=>∃t,u=Value.str x t
 | .byt b,u=>∃t,u=Value.bytes b t
 | .flt b,u=>∃t,u=Value.float b t
 | .ref a,u=>u=Value.ref a
 | .ty n,u=>u=Value.type n
abbrev zcH:List V→List Value→Prop:=Paired zee
theorem zcH.length{xs:List V}{us:List Value}(r:zcH xs us):xs.length=us.length:=Paired.length r
theorem zcH.get:∀{xs:List V} {us:List Value} {i:Nat} {x:V},zcH xs us→xs[i]?=some x→∃u,us[i]?=some u∧zee x u
 | _,_,_,_,.nil,e=>by simp at e
 | _,_,0,_,.cons r _,e=>by simp at e;subst e;exact⟨_,rfl,r⟩
 | _,_,i+1,x,.cons _ t,e=>by
  obtain⟨u,h1,h2⟩:=zcH.get (i:=i) (x:=x) t (by simpa using e)
  exact⟨u,by simpa using h1,h2⟩
theorem zcH.set{x:V}{u:Value}(r:zee x u):∀{xs:List V} {us:List Value} (i:Nat),zcH xs us→zcH (xs.set i x) (us.set i u)
 | _,_,_,.nil=>.nil
 | _,_,0,.cons _ t=>.cons r t
 | _,_,i+1,.cons q t=>.cons q (zcH.set r i t)
theorem zcH.append:∀{xs ys:List V} {us ws:List Value},zcH xs us→zcH ys ws→zcH (xs++ys) (us++ws)
 | _,_,_,_,.nil,s=>s
 | _,_,_,_,.cons r t,s=>.cons r (zcH.append t s)
theorem zcH.take:∀{xs:List V} {us:List Value} (n:Nat),zcH xs us→zcH (xs.take n) (us.take n)
 | _,_,0,_=>.nil
 | _,_,_+1,.nil=>.nil
 | _,_,n+1,.cons r t=>.cons r (zcH.take n t)
theorem zcH.drop:∀{xs:List V} {us:List Value} (n:Nat),zcH xs us→zcH (xs.drop n) (us.drop n)
 | _,_,0,r=>r
 | _,_,_+1,.nil=>.nil
 | _,_,n+1,.cons _ t=>zcH.drop n t
def RelO:Option V→Option Value→Prop
 | some v,some u=>zee v u
 | none,none=>True
 | _,_=>False
def KV{κ:Type}:List (κ×V)→List (κ×Value)→Prop:=Paired λ(p:κ×V) (q:κ×Value)=>p.1=q.1∧zee p.2 q.2
def kV:Key→V
 | .inl i=>.int i
 | .inr x=>.str x
inductive HO where
  | lst (xs:List V)
  | tup (xs:List V)
  | dK (kvs:List (Key×V)) | dT (kvs:List (List Key×V))
  | set (S:Int→Bool) (n:Nat)
  | ins (C dx:Addr) (fs:List (Str×V))
  | own (x:Addr)
  | xd (fs:List (Str×V))
  | met (f x:Addr)
  | rng (lo hi:Int)
  | frz (o:Obj) (u:HO)
  | tbl (ps:Array Value)
  | ext (φ:Heap→Prop)
abbrev Hp:=Addr→Option HO
def upd(H:Hp)(a:Addr)(o:HO):Hp:=λb=>if b=a then some o else H b
theorem zam{H:Hp}{a:Addr}{o:HO}:upd H a o a=some o:=by unfold upd;rw[if_pos rfl]
theorem zaS{H:Hp}{a b:Addr}{o:HO}(h:b≠a):upd H a o b=H b:=by unfold upd;rw[if_neg h]
theorem zqu{H:Hp}{a b:Addr}{o u:HO}(h:H a=some o)(h':H b=some u)(d:o≠u):a≠b:=by
 intro e;subst e;rw[h] at h';exact d (Option.some.inj h')
theorem zaT{H:Hp}{a b:Addr}{o:HO}(h:H a=some o)(h':H b=none):a≠b:=by
 intro e;subst e;rw[h] at h';cases h'
section
variable (P:Program) (w:World)
def zeN(H:Hp)(h:Heap)(a:Addr):HO→Prop
 | .lst xs=>xs.length≤sizeLine∧∃(its:List Value) (n:Nat),zcH xs its∧h.get? a=some { cls:=.type "list",data:=.seq its.toArray n }
 | .tup xs=>xs.length≤sizeLine∧∃its:List Value,zcH xs its∧IsTup h a its.toArray
 | .dK kvs=>kvs.length≤sizeLine∧(a == sysModules)=false∧∃vs,KV kvs vs∧h.DictOf (znN P w) a vs
 | .dT kvs=>kvs.length≤sizeLine∧(a == sysModules)=false∧∃xs:List (List Key×Addr×Value),
   Paired (λ(p:List Key×V) (q:List Key×Addr×Value)=>p.1=q.1∧H q.2.1=some (.tup (p.1.map kV))∧zee p.2 q.2.2) kvs xs ∧
   ∃o es ep,h.get? a=some o∧o.ExactDict∧o.data=.dict es ep∧es.toList=xs.map (entryOfKey (tupleKind (znN P w)))∧(xs.map (·.1)).Nodup
 | .set S n=>h.SetOf (intKind P w) a S n
 | .ins C dx fs=>H dx=some (.own a)∧fs.length≤1000∧dx≠a∧h.get? a=some (PySem.W.instObj C dx) ∧
   ∃mA,h.Ns1 dx mA∧(∀f,RelO (fs.lookup f) (mA f))∧PySem.Within mA (fs.map (·.1))
 | .own _=>∃o,h.get? a=some o
 | .xd fs=>∃mA,h.Ns1 a mA∧∀f,RelO (fs.lookup f) (mA f)
 | .rng lo hi=>∃t u v,h.get? a=some { cls:=.type "range",data:=.fields #[.int lo t,.int hi u,.int 1 v] }
 | .frz o u=>h.get? a=some o∧zeN H h a u
 | .tbl ps=>h.get? a=some { cls:=.none,data:=.fields ps }
 | .met f x=>h.get? a=some (PySem.W.methodObj (.ref f) (.ref x))
 | .ext φ=>φ h∧(∃o,h.get? a=some o)∧∀h1 h2:Heap,φ h1→(∀o,h1.get? a=some o→h2.get? a=some o)→φ h2
def HOk(H:Hp)(h:Heap):Prop:=∀a o,H a=some o→zeN P w H h a o
end
section
variable {P:Program} {w:World} {H H':Hp} {h h':Heap} {a:Addr} {o:HO}
theorem zeN.lt(x:zeN P w H h a o):a<h.objs.size:=by
 cases o with
 | lst xs=>obtain⟨_,_,_,_,e⟩:=x;exact Heap.lt_size e
 | tup xs=>obtain⟨_,_,_,p⟩:=x;exact p.lt
 | dK kvs=>obtain⟨_,_,_,_,o,_,_,e,_⟩:=x;exact Heap.lt_size e
 | dT kvs=>obtain⟨_,_,_,_,o,_,_,e,_⟩:=x;exact Heap.lt_size e
 | set S n=>obtain⟨o,_,_,_,e,_⟩:=x;exact Heap.lt_size e
 | ins C dx fs=>obtain⟨_,_,_,e,_⟩:=x;exact Heap.lt_size e
 | own y=>obtain⟨_,e⟩:=x;exact Heap.lt_size e
 | xd fs=>obtain⟨_,⟨_,_,_,e,_⟩,_⟩:=x;exact Heap.lt_size e
 | rng lo hi=>obtain⟨_,_,_,e⟩:=x;exact Heap.lt_size e
 | frz ob u=>obtain⟨e,_⟩:=x;exact Heap.lt_size e
 | tbl ps=>exact Heap.lt_size (show h.get? a=some _ from x)
 | met f y=>exact Heap.lt_size (show h.get? a=some _ from x)
 | ext φ=>obtain⟨_,⟨_,e⟩,_⟩:=x;exact Heap.lt_size e
theorem Paired.mapP{α β:Type}{F G:α→β→Prop}:∀{l₁:List α} {l₂:List β},Paired F l₁ l₂→(∀a b,F a b→G a b)→Paired G l₁ l₂
 | _,_,.nil,_=>.nil
 | _,_,.cons r t,f=>.cons (f _ _ r) (Paired.mapP t f)
theorem zeN.stay(x:zeN P w H h a o)(k:∀b u,(b=a∨H b=some (.own a))→h.get? b=some u→h'.get? b=some u)
  (ho:∀b,H b=some (.own a)→H' b=some (.own a)) (ht:∀b xs,H b=some (.tup xs)→H' b=some (.tup xs)):zeN P w H' h' a o:=by
 induction o with
 | lst xs=>obtain⟨z,its,n,r,e⟩:=x;exact⟨z,its,n,r,k _ _ (.inl rfl) e⟩
 | tup xs=>obtain⟨z,its,r,ob,e,c⟩:=x;exact⟨z,its,r,ob,k _ _ (.inl rfl) e,c⟩
 | dK kvs=>obtain⟨z,y,vs,r,ob,es,ep,e,c⟩:=x;exact⟨z,y,vs,r,ob,es,ep,k _ _ (.inl rfl) e,c⟩
 | dT kvs =>
  obtain⟨z,y,xs,r,ob,es,ep,e,c⟩:=x
  exact⟨z,y,xs,Paired.mapP r λp q z=>⟨z.1,ht _ _ z.2.1,z.2.2⟩,ob,es,ep,k _ _ (.inl rfl) e,c⟩
 | set S n=>obtain⟨ob,es,ep,t,e,c⟩:=x;exact⟨ob,es,ep,t,k _ _ (.inl rfl) e,c⟩
 | ins C dx fs =>
  obtain⟨d,z,ne,e,mA,⟨od,es,ep,e2,c⟩,r⟩:=x
  exact⟨ho _ d,z,ne,k _ _ (.inl rfl) e,mA,⟨od,es,ep,k _ _ (.inr d) e2,c⟩,r⟩
 | own y=>obtain⟨ob,e⟩:=x;exact⟨ob,k _ _ (.inl rfl) e⟩
 | xd fs=>obtain⟨mA,⟨od,es,ep,e,c⟩,r⟩:=x;exact⟨mA,⟨od,es,ep,k _ _ (.inl rfl) e,c⟩,r⟩
 | rng lo hi=>obtain⟨t,u,v,e⟩:=x;exact⟨t,u,v,k _ _ (.inl rfl) e⟩
 | frz ob u ih=>obtain⟨e,q⟩:=x;exact⟨k _ _ (.inl rfl) e,ih q⟩
 | tbl ps =>
  have e:h.get? a=some { cls:=.none,data:=.fields ps }:=x
  show h'.get? a=some { cls:=.none,data:=.fields ps }
  exact k a _ (.inl rfl) e
 | met f y =>
  have e:h.get? a=some (PySem.W.methodObj (.ref f) (.ref y)):=x
  show h'.get? a=some (PySem.W.methodObj (.ref f) (.ref y))
  exact k a _ (.inl rfl) e
 | ext φ=>obtain⟨p,⟨o,e⟩,st⟩:=x;exact⟨st _ _ p λo q=>k _ _ (.inl rfl) q,⟨o,k _ _ (.inl rfl) e⟩,st⟩
theorem HOk.lt(x:HOk P w H h)(e:H a=some o):a<h.objs.size:=(x a o e).lt
theorem HOk.fresh(x:HOk P w H h)(e:h.objs.size≤a):H a=none:=by
 cases q:H a with
 | none=>rfl
 | some u=>exact absurd (ψj (x.lt q) e) (ψx1 _)
theorem HOk.kept(x:HOk P w H h)(k:∀b u,h.get? b=some u→h'.get? b=some u):HOk P w H h':=λa o e =>
 (x a o e).stay (λb u _ q=>k b u q) (λ_ q=>q) λ_ _ q=>q
theorem HOk.laid(x:HOk P w H h)(k:∀b u,h.get? b=some u→h'.get? b=some u)(hp:h.objs.size≤a)(new:zeN P w (upd H a o) h' a o):HOk P w (upd H a o) h':=λb u e=>by
 have hn:=x.fresh hp
 by_cases hb:b=a
 ·subst hb;rw[zam] at e;cases e;exact new
 ·rw[zaS hb] at e
  exact(x b u e).stay (λc v _ q=>k c v q) (λc q=>by rw[zaS (zaT q hn)];exact q) λc xs q=>by rw[zaS (zaT q hn)];exact q
end
def Rd(H:Hp)(a:Addr)(u:HO):Prop:=H a=some u∨∃o,H a=some (.frz o u)
theorem Rd.ok{P:Program}{w:World}{H:Hp}{h:Heap}{a:Addr}{u:HO}(r:Rd H a u)(x:HOk P w H h):zeN P w H h a u:=by
 rcases r with r | ⟨o,r⟩
 ·exact x a u r
 ·obtain⟨_,q⟩:=x a _ r
  exact q
def Mut:Option HO→Prop
 | some (.lst _)=>True
 | some (.dK _)=>True
 | some (.dT _)=>True
 | some (.set _ _)=>True
 | some (.ins _ _ _)=>True
 | some (.ext _)=>True
 | _=>False
section
variable {P:Program} {w:World} {H:Hp} {h h':Heap} {x e:Addr} {o':HO}
theorem HOk.write(ok:HOk P w H h)(mu:Mut (H x))(he:e=x∨H e=some (.own x))(k:∀b u,b≠e→h.get? b=some u→h'.get? b=some u)(heo:∃u,h'.get? e=some u)
  (new:zeN P w (upd H x o') h' x o'):HOk P w (upd H x o') h':=λb u q=>by
 have nown:∀c y,H c=some (.own y)→c≠x:=λc y r z=>by subst z;rw[r] at mu;exact mu
 have ntup:∀c xs,H c=some (.tup xs)→c≠x:=λc xs r z=>by subst z;rw[r] at mu;exact mu
 by_cases hb:b=x
 ·subst hb;rw[zam] at q;cases q;exact new
 ·rw[zaS hb] at q
  by_cases hbe:b=e
  ·have q':H b=some (.own x):=by
    rcases he with z | z
    ·exact absurd (hbe.trans z) hb
    ·rw[hbe];exact z
   rw[q] at q';cases q'
   obtain⟨v,hv⟩:=heo
   exact⟨v,by rw[hbe];exact hv⟩
  ·refine(ok b u q).stay (λc v hc r=>k c v ?_ r) (λc r=>by rw[zaS (nown c b r)];exact r) λc xs r=>by rw[zaS (ntup c xs r)];exact r
   rcases hc with rfl | hc
   ·exact hbe
   ·rintro rfl
    rcases he with z | z
    ·exact nown c b hc z
    ·rw[hc] at z;cases z;exact hb rfl
end
structure Un (fs ex:List Addr) (H H':Hp) (h h':Heap):Prop where
 keep:∀b o,h.get? b=some o→H b=none→b∉fs→b∉ex→h'.get? b=some o
 slot:∀b o,h.get? b=some o→H b=none→b∈fs→b∉ex→∃sl,h'.get? b=some { o with slots:=sl }
 free:∀b o,h.get? b=some o→H b=none→b∉ex→H' b=none
 there:∀b o,h.get? b=some o→b∉ex→∃o',h'.get? b=some o'
 tups:∀b xs,H b=some (.tup xs)→H' b=some (.tup xs)
 frzs:∀b o u,H b=some (.frz o u)→H' b=some (.frz o u)
 tbls:∀b ps,H b=some (.tbl ps)→∃more,H' b=some (.tbl (ps++more))
section
variable {fs fs' ex ex':List Addr} {H H1 H2:Hp} {h h1 h2 h':Heap} {a x e:Addr} {o:HO}
theorem Un.any(u:Un fs ex H H1 h h1){b:Addr}{ob:Obj}(q:h.get? b=some ob)(n:H b=none)(hx:b∉ex):∃sl,h1.get? b=some { ob with slots:=sl }:=by
 by_cases hb:b∈fs
 ·exact u.slot b ob q n hb hx
 ·exact⟨ob.slots,u.keep b ob q n hb hx⟩
theorem Un.kept(k:∀b u,h.get? b=some u→h'.get? b=some u):Un fs ex H H h h' :=
 ⟨λb ob q _ _ _=>k b ob q,λb ob q _ _ _=>⟨ob.slots,k b ob q⟩,λ_ _ _ n _=>n,λb ob q _=>⟨ob,k b ob q⟩,λ_ _ q=>q,λ_ _ _ q=>q,λ_ ps q=>⟨#[],by rw[q];simp⟩⟩
theorem Un.refl:Un fs ex H H h h:=Un.kept λ_ _ q=>q
theorem Un.laid(k:∀b u,h.get? b=some u→h'.get? b=some u)(hp:h.objs.size≤a)(hn:H a=none):Un fs ex H (upd H a o) h h' where
 keep:=λb u q _ _ _=>k b u q
 slot:=λb u q _ _ _=>⟨u.slots,k b u q⟩
 free:=λb u q n _=>by rw[zaS (ψl (ψj (Heap.lt_size q) hp))];exact n
 there:=λb u q _=>⟨u,k b u q⟩
 tups:=λb xs q=>by rw[zaS (zaT q hn)];exact q
 frzs:=λb u xs q=>by rw[zaS (zaT q hn)];exact q
 tbls:=λb ps q=>⟨#[],by rw[zaS (zaT q hn),q];simp⟩
theorem Un.write(mu:Mut (H x))(he:e=x∨H e=some (.own x))(k:∀b u,b≠e→h.get? b=some u→h'.get? b=some u)(heo:∃u,h'.get? e=some u):Un fs ex H (upd H x o) h h':=by
 have hx:∀b,H b=none→b≠x:=λb n z=>by subst z;rw[n] at mu;exact mu
 have hb:∀b,H b=none→b≠e:=λb n z=>by
  subst z
  rcases he with r | r
  ·exact hx b n r
  ·rw[n] at r;cases r
 have hm:∀b u,H b=some u→¬ Mut (some u)→b≠x:=λb u q nm z=>by subst z;rw[q] at mu;exact nm mu
 refine⟨λb u q n _ _=>k b u (hb b n) q,λb u q n _ _=>⟨u.slots,k b u (hb b n) q⟩,λb u q n _=>by rw[zaS (hx b n)];exact n,λb u q _=>?_,
  λb xs q=>by rw[zaS (hm b _ q λz=>z)];exact q,λb u xs q=>by rw[zaS (hm b _ q λz=>z)];exact q,λb ps q=>⟨#[],by rw[zaS (hm b _ q λz=>z),q];simp⟩⟩
 by_cases hbe:b=e
 ·subst hbe;exact heo
 ·exact⟨u,k b u hbe q⟩
end
def trk(h:Heap)(H:Hp):List Addr:=(ψr1 h.objs.size).filter λa=>(H a).isSome
def zuG(h:Heap)(H:Hp):Heap:=PySem.W.hideAll h (trk h H)
theorem zsF(h:Heap)(H:Hp):(zuG h H).objs.size=h.objs.size:=PySem.W.hideAll_size _ _
theorem zvN{h:Heap}{H:Hp}{b:Addr}{o:Obj}(e:h.get? b=some o)(n:H b=none):(zuG h H).get? b=some o :=
 PySem.W.hideAll_get _ e λhm=>by
  have q:(H b).isSome=true:=(List.mem_filter.mp hm).2
  rw[n] at q;simp at q
theorem zyi{h:Heap}{H:Hp}{b:Addr}{o:Obj}(e:(zuG h H).get? b=some o):h.get? b=some o∧H b=none:=by
 have e':h.get? b=some o:=PySem.W.of_hideAll (trk h H) e
 refine⟨e',?_⟩
 cases q:H b with
 | none=>rfl
 | some x =>
  have hm:b∈trk h H:=List.mem_filter.mpr ⟨List.mem_range.mpr (Heap.lt_size e'),by simp[q]⟩
  have z:(zuG h H).get? b=none:=PySem.W.hideAll_none (trk h H) hm
  rw[z] at e;cases e
def zxI(g h:Heap)(L:Addr):List (Addr×Obj):=(ψr1 h.objs.size).filterMap λa=>if a=L∨(g.get? a).isSome=true then none else (h.get? a).map λo=>(a,o)
def rest(g h:Heap)(L d:Addr):List (Addr×Obj):=(zxI g h L).filter λp=>decide (p.1≠d)
end L2
namespace L2
open PySem PySem.Spec PyProof.Rows
structure Mod (K:ψa) (mg:Str→Option Value) (base:Heap):Prop where
 kin:K.In base
 glob:base.Ns mainGlobals mg
 blt:∃mb,base.Ns builtinsNs mb∧∀x:Str,x≠"__name__"→mb x=bootBuiltins x
 nolimit:base.NoLimit
structure Cx where
 prog:Program
 w:World
 K:ψa
 mg:Str→Option Value
 base:Heap
 A:Around
 N:List Str
 s₀:Shared
 H₀:Hp
 env:Env
 outer:List Env
 stack:List Env
 ex:List Addr
 fn:Str→Bool
 calm:Bool
 pn:List (Addr×Obj)
 xe:Value→Shared→Prop
def frs(l:List Env):List Addr:=l.filterMap (·.frame)
abbrev Cx.fs(X:Cx):List Addr:=frs X.outer
def Vis(sc:Scope)(x:Str):Prop:=sc.names.lookup x=some .local∨sc.names.lookup x=some .cell∨sc.names.lookup x=some .free
def Loc(sc:Scope)(x:Str):Prop:=sc.names.lookup x=some .local∨sc.names.lookup x=some .cell
def Look(env:Env)(h:Heap)(m:Str→Option Value)(x:Str)(u:Value):Prop :=
 (env.kindOf x=some .local∧m x=some u)∨((env.kindOf x=some .cell∨env.kindOf x=some .free)∧∃c,env.cells.lookup x=some c∧h.IsCell c (some u))
structure Cx.Ok (X:Cx):Prop where
 mod:Mod X.K X.mg X.base
 kind:X.env.scope.kind=.function
 glob:X.env.globals=mainGlobals
 blt:X.env.builtins=builtinsNs
 above:X.s₀.heap.objs.size≤X.env.locals
 inj:∀x y c,X.env.cells.lookup x=some c→X.env.cells.lookup y=some c→x=y
 has:∀x,(X.env.kindOf x=some .cell∨X.env.kindOf x=some .free)→∃c,X.env.cells.lookup x=some c
 cab:∀x c,X.fn x=true→X.env.cells.lookup x=some c→X.s₀.heap.objs.size≤c
 hd:X.calm=true→X.A.handled=none
 frames:X.A.frames=some X.stack
 stk:X.stack=X.outer∨(X.stack=X.env::X.outer∧X.env.frame=some X.env.locals)
 exf:∀b∈X.ex,b≠X.env.locals∧∀x c,X.env.cells.lookup x=some c→c≠b
 bs:∀b o,X.base.get? b=some o→X.s₀.heap.get? b=some o∧X.H₀ b=none
 bsz:X.base.objs.size≤X.s₀.heap.objs.size
 noex:∀b o,X.base.get? b=some o→b∉X.ex
 exfs:∀b∈X.ex,b∉X.fs
 funs:X.s₀.heap.FunFrames X.base X.outer
 frf:∀b∈X.fs,X.H₀ b=none
structure Inv (X:Cx) (pins:List (Addr×Obj)) (σ:List (Option V)) (H:Hp) (s:Shared):Prop where
 ok:X.Ok
 os:s.os=X.s₀.os
 bare:AllBare s.gens
 base:Un X.fs X.ex X.H₀ H X.s₀.heap s.heap
 loc:∃m,s.heap.Ns X.env.locals m∧∀(i:Nat) (x:Str) (v:V),X.N[i]?=some x→σ[i]?=some (some v)→Vis X.env.scope x→∃u,zee v u∧Look X.env s.heap m x u
 cell:∀x c,X.env.cells.lookup x=some c→∃v,s.heap.IsCell c v
 free:H X.env.locals=none
 freeC:∀x c,X.env.cells.lookup x=some c→H c=none
 pin:∀p∈X.pn++pins,s.heap.get? p.1=some p.2∧H p.1=none∧p.1≠X.env.locals∧p.1∉X.fs∧∀v,p.2.data≠.cell v
 hok:HOk X.prog X.w H s.heap
 len:σ.length=X.N.length
section
variable {X:Cx} {pins:List (Addr×Obj)} {σ:List (Option V)} {H H':Hp} {s:Shared} {h':Heap}
theorem Cx.Ok.nofr(ok:X.Ok){b:Addr}{o:Obj}(e:X.base.get? b=some o):b∉X.fs:=λhb=>by
 have:=(ok.funs.mem hb).1
 rw[e] at this;cases this
theorem Inv.bs(I:Inv X pins σ H s):∀b o,X.base.get? b=some o→s.heap.get? b=some o∧H b=none:=λb o e =>
 ⟨I.base.keep b o (I.ok.bs b o e).1 (I.ok.bs b o e).2 (I.ok.nofr e) (I.ok.noex b o e),I.base.free b o (I.ok.bs b o e).1 (I.ok.bs b o e).2 (I.ok.noex b o e)⟩
theorem Inv.bk(I:Inv X pins σ H s):∀b o,X.base.get? b=some o→s.heap.get? b=some o:=λb o e=>(I.bs b o e).1
theorem Inv.mod(I:Inv X pins σ H s):Mod X.K X.mg X.base:=I.ok.mod
theorem Inv.kIn(I:Inv X pins σ H s):X.K.In s.heap:=I.ok.mod.kin.keeps I.bk
theorem Inv.lt(I:Inv X pins σ H s):X.env.locals<s.heap.objs.size:=let ⟨_,hn,_⟩:=I.loc;hn.lt
theorem Inv.sz(I:Inv X pins σ H s):X.s₀.heap.objs.size≤s.heap.objs.size:=ψE I.ok.above (ψt1 I.lt)
theorem Inv.nofs(I:Inv X pins σ H s){a:Addr}(h:s.heap.objs.size≤a):a∉X.fs:=λhb=>by
 obtain⟨_,o,ho,_⟩:=I.ok.funs.mem hb
 exact absurd (ψj (Heap.lt_size ho) (ψE I.sz h)) (ψx1 _)
theorem Inv.cne(I:Inv X pins σ H s):∀x c,X.env.cells.lookup x=some c→c≠X.env.locals:=λx c e z=>by
 obtain⟨v,o,ho,hd⟩:=I.cell x c e
 obtain⟨m,⟨o',es,ep,ho',hd',_⟩,_⟩:=I.loc
 rw[z,ho'] at ho;cases ho;rw[hd'] at hd;cases hd
theorem Inv.funs(I:Inv X pins σ H s):s.heap.FunFrames X.base X.outer:=by
 have all:∀(l:List Env),(∀b∈frs l,b∈X.fs)→X.s₀.heap.FunFrames X.base l→s.heap.FunFrames X.base l:=by
  intro l
  induction l with
  | nil=>intro _ _;trivial
  | cons env r ih =>
   intro hs hl
   obtain⟨hk,⟨L,o,hf,hn,ho,hd⟩,hr⟩:=hl
   have hL:L∈X.fs:=hs L (by unfold frs;rw[List.filterMap_cons,hf];exact ψg)
   obtain⟨sl,e⟩:=I.base.slot L o ho (I.ok.frf L hL) hL λz=>I.ok.exfs L z hL
   exact⟨hk,⟨L,_,hf,hn,e,hd⟩,ih (λb hb=>hs b (by unfold frs;rw[List.filterMap_cons,hf];exact ψe _ hb)) hr⟩
 exact all X.outer (λ_ hb=>hb) I.ok.funs
theorem Inv.stack(I:Inv X pins σ H s):s.heap.FunFrames X.base X.stack:=by
 rcases I.ok.stk with e | ⟨e,hf⟩
 ·rw[e];exact I.funs
 ·rw[e]
  obtain⟨m,hn,_⟩:=I.loc
  refine .cons (by rw[I.ok.kind];decide) hf hn ?_ I.funs
  exact Heap.get?_none_of_le (ψE I.ok.bsz I.ok.above)
theorem Inv.stkSub(I:Inv X pins σ H s):∀b∈frs X.stack,b∈X.env.locals::X.fs:=λb hb=>by
 rcases I.ok.stk with e | ⟨e,hf⟩
 ·rw[e] at hb;exact ψe _ hb
 ·rw[e] at hb
  unfold frs at hb
  rw[List.filterMap_cons,hf] at hb
  exact hb
theorem Inv.stkFree(I:Inv X pins σ H s):∀b∈frs X.stack,H b=none:=λb hb=>by
 rcases List.mem_cons.mp (I.stkSub b hb) with e | hb
 ·rw[e];exact I.free
 ·obtain⟨_,o,ho,_⟩:=I.ok.funs.mem hb
  exact I.base.free b o ho (I.ok.frf b hb) λz=>I.ok.exfs b z hb
theorem Inv.step{g':Array GenState}{t':Nat}{d':Drawn}{ch:List Addr}(I:Inv X pins σ H s)
  (hch:∀b∈ch,(b∈X.ex∨X.s₀.heap.objs.size≤b)∧b≠X.env.locals∧(∀x c,X.env.cells.lookup x=some c→c≠b)∧∀p∈X.pn++pins,p.1≠b)
  (keep:∀b o,b≠X.env.locals→b∉X.fs→b∉ch→s.heap.get? b=some o→H b=none→h'.get? b=some o)
  (slot:∀b o,b≠X.env.locals→b∈X.fs→b∉ch→s.heap.get? b=some o→H b=none→∃sl,h'.get? b=some { o with slots:=sl }) (free:∀b o,b∉ch→s.heap.get? b=some o→H b=none→H' b=none)
  (there:∀b o,b∉ch→s.heap.get? b=some o→∃o',h'.get? b=some o')
  (tups:∀b xs,H b=some (.tup xs)→H' b=some (.tup xs)) (frzs:∀b o u,H b=some (.frz o u)→H' b=some (.frz o u)) (tbls:∀b ps,H b=some (.tbl ps)→∃more,H' b=some (.tbl (ps++more)))
  (ns:∀m,s.heap.Ns X.env.locals m→h'.Ns X.env.locals m) (hok:HOk X.prog X.w H' h') (hg:AllBare g') :
  Inv X pins σ H' { s with heap:=h',gens:=g',drawn:=d',toks:=t' }:=by
 have neL:∀b o,X.s₀.heap.get? b=some o→b≠X.env.locals:=λb o e=>ψl (ψj (Heap.lt_size e) I.ok.above)
 have neC:∀b o,X.s₀.heap.get? b=some o→b∉X.ex→b∉ch:=λb o e hx hb=>by
  rcases(hch b hb).1 with z | z
  ·exact hx z
  ·exact absurd (ψj (Heap.lt_size e) z) (ψx1 _)
 have cellK:∀x c,X.env.cells.lookup x=some c→∀v,s.heap.IsCell c v→h'.IsCell c v:=λx c e v ⟨o,ho,hd⟩=>by
  have nch:c∉ch:=λz=>(hch c z).2.2.1 x c e rfl
  by_cases hc:c∈X.fs
  ·obtain⟨sl,q⟩:=slot c o (I.cne x c e) hc nch ho (I.freeC x c e)
   exact⟨_,q,hd⟩
  ·exact⟨o,keep c o (I.cne x c e) hc nch ho (I.freeC x c e),hd⟩
 refine⟨I.ok,I.os,hg,⟨λb o e n hb hx=>?_,λb o e n hb hx=>?_,λb o e n hx=>?_,λb o e hx=>?_,λb xs e=>tups b xs (I.base.tups b xs e),λb o xs e=>frzs b o xs (I.base.frzs b o xs e),λb ps e=>?_⟩,?_,λx c e=>?_,?_,λx c e=>?_,λp hp=>?_,hok,I.len⟩
 ·exact keep b o (neL b o e) hb (neC b o e hx) (I.base.keep b o e n hb hx) (I.base.free b o e n hx)
 ·obtain⟨sl,e1⟩:=I.base.slot b o e n hb hx
  obtain⟨sl',e2⟩:=slot b _ (neL b o e) hb (neC b o e hx) e1 (I.base.free b o e n hx)
  exact⟨sl',e2⟩
 ·obtain⟨o',e1⟩:=I.base.there b o e hx
  exact free b o' (neC b o e hx) e1 (I.base.free b o e n hx)
 ·obtain⟨o',e1⟩:=I.base.there b o e hx
  exact there b o' (neC b o e hx) e1
 ·obtain⟨m1,e1⟩:=I.base.tbls b ps e
  obtain⟨m2,e2⟩:=tbls b _ e1
  exact⟨m1++m2,by rw[e2,Array.append_assoc]⟩
 ·obtain⟨m,hn,hl⟩:=I.loc
  refine⟨m,ns m hn,λi x v e1 e2 e3=>?_⟩
  obtain⟨u,r,l⟩:=hl i x v e1 e2 e3
  refine⟨u,r,?_⟩
  rcases l with l | ⟨k,c,e,z⟩
  ·exact .inl l
  ·exact .inr ⟨k,c,e,cellK x c e _ z⟩
 ·obtain⟨v,z⟩:=I.cell x c e
  exact⟨v,cellK x c e v z⟩
 ·obtain⟨m,⟨o,_,_,ho,_⟩,_⟩:=I.loc
  exact free _ o (λz=>(hch _ z).2.1 rfl) ho I.free
 ·obtain⟨v,o,ho,hd⟩:=I.cell x c e
  exact free c o (λz=>(hch c z).2.2.1 x c e rfl) ho (I.freeC x c e)
 ·obtain⟨e,n,ne,nf,d⟩:=I.pin p hp
  have nch:p.1∉ch:=λz=>(hch p.1 z).2.2.2 p hp rfl
  exact⟨keep p.1 p.2 ne nf nch e n,free p.1 p.2 nch e n,ne,nf,d⟩
theorem Inv.un{t':Nat}(I:Inv X pins σ H s)(u:Un X.fs [] H H' s.heap h')(hok:HOk X.prog X.w H' h'):Inv X pins σ H' { s with heap:=h',toks:=t' }:=by
 obtain⟨m,⟨o,es,ep,ho,r⟩,_⟩:=id I.loc
 obtain⟨sl,hL⟩:=u.any ho I.free (by simp)
 exact I.step (g':=s.gens) (d':=s.drawn) (ch:=[]) (λ_ z=>nomatch z) (λb o _ hb _ e n=>u.keep b o e n hb (by simp)) (λb o _ hb _ e n=>u.slot b o e n hb (by simp)) (λb o _ e n=>u.free b o e n (by simp)) (λb o _ e=>u.there b o e (by simp)) u.tups u.frzs u.tbls (λm' hm=>by
  obtain⟨o',es',ep',ho',r'⟩:=hm
  rw[ho] at ho';cases ho'
  exact⟨_,es',ep',hL,r'⟩) hok I.bare
theorem Inv.call{g':Array GenState}{t':Nat}{d':Drawn}{ch:List Addr}(I:Inv X pins σ H s)(u:Un (frs X.stack) ch H H' s.heap h')(hok:HOk X.prog X.w H' h')(hg:AllBare g')
  (hch:∀b∈ch,(b∈X.ex∨X.s₀.heap.objs.size≤b)∧b≠X.env.locals∧(∀x c,X.env.cells.lookup x=some c→c≠b)∧∀p∈X.pn++pins,p.1≠b) :
  Inv X pins σ H' { s with heap:=h',gens:=g',drawn:=d',toks:=t' }:=by
 obtain⟨m,⟨o,es,ep,ho,r⟩,_⟩:=id I.loc
 obtain⟨sl,hL⟩:=u.any ho I.free λz=>(hch _ z).2.1 rfl
 exact I.step (ch:=ch) hch (λb o hL hb hc e n=>u.keep b o e n (λz=>(List.mem_cons.mp (I.stkSub b z)).elim hL hb) hc) (λb o _ _ hc e n=>u.any e n hc) (λb o hc e n=>u.free b o e n hc) (λb o hc e=>u.there b o e hc) u.tups u.frzs u.tbls (λm' hm=>by
  obtain⟨o',es',ep',ho',r'⟩:=hm
  rw[ho] at ho';cases ho'
  exact⟨_,es',ep',hL,r'⟩) hok hg
theorem Inv.turned{t':Nat}{it:Addr}(I:Inv X pins σ H s)(k:∀b o,b≠it→s.heap.get? b=some o→h'.get? b=some o)(hn:H it=none)(hL:it≠X.env.locals)
  (h1:it∈X.ex∨X.s₀.heap.objs.size≤it) (h2:∀x c,X.env.cells.lookup x=some c→c≠it) (h3:∀p∈X.pn++pins,p.1≠it):Inv X pins σ H { s with heap:=h',toks:=t' }:=by
 have nit:∀b u,H b=some u→b≠it:=λb u e z=>by rw[z,hn] at e;cases e
 refine I.step (g':=s.gens) (d':=s.drawn) (ch:=[it]) (λb hb=>?_) (λb o _ _ hc e _=>k b o (λz=>hc (by simp[z])) e) (λb o _ _ hc e _=>⟨o.slots,k b o (λz=>hc (by simp[z])) e⟩) (λ_ _ _ _ n=>n)
  (λb o hc e=>⟨o,k b o (λz=>hc (by simp[z])) e⟩) (λ_ _ e=>e) (λ_ _ _ e=>e) (λb ps e=>⟨#[],by rw[e];simp⟩) (λm hm=>?_) (λb u e=>?_) I.bare
 ·have e:b=it:=by simpa using hb
  subst e
  exact⟨h1,hL,h2,h3⟩
 ·obtain⟨o,es,ep,ho,r⟩:=hm
  exact⟨o,es,ep,k _ o (Ne.symm hL) ho,r⟩
 ·refine(I.hok b u e).stay (λc v hc q=>k c v ?_ q) (λ_ q=>q) λ_ _ q=>q
  rcases hc with z | z
  ·rw[z];exact nit b u e
  ·exact nit c _ z
theorem Inv.tok(I:Inv X pins σ H s)(t:Nat):Inv X pins σ H { s with toks:=t }:=I.un (h':=s.heap) (t':=t) Un.refl I.hok
theorem Inv.kept{t':Nat}(I:Inv X pins σ H s)(k:∀b u,s.heap.get? b=some u→h'.get? b=some u):Inv X pins σ H { s with heap:=h',toks:=t' }:=I.un (Un.kept k) (I.hok.kept k)
theorem Inv.laid{a:Addr}{o:HO}{t':Nat}(I:Inv X pins σ H s)(k:∀b u,s.heap.get? b=some u→h'.get? b=some u)(hp:s.heap.objs.size≤a)(new:zeN X.prog X.w (upd H a o) h' a o) :
  Inv X pins σ (upd H a o) { s with heap:=h',toks:=t' }:=I.un (Un.laid k hp (I.hok.fresh hp)) (I.hok.laid k hp new)
theorem Inv.write{x e:Addr}{o:HO}{t':Nat}(I:Inv X pins σ H s)(mu:Mut (H x))(he:e=x∨H e=some (.own x))(k:∀b u,b≠e→s.heap.get? b=some u→h'.get? b=some u)(heo:∃u,h'.get? e=some u)
  (new:zeN X.prog X.w (upd H x o) h' x o):Inv X pins σ (upd H x o) { s with heap:=h',toks:=t' }:=I.un (Un.write mu he k heo) (I.hok.write mu he k heo new)
theorem Inv.pins_of{pins':List (Addr×Obj)}(I:Inv X pins σ H s)(h:∀p∈pins',s.heap.get? p.1=some p.2∧H p.1=none∧p.1≠X.env.locals∧p.1∉X.fs∧∀v,p.2.data≠.cell v):Inv X pins' σ H s :=
 ⟨I.ok,I.os,I.bare,I.base,I.loc,I.cell,I.free,I.freeC,λp hp=>(List.mem_append.mp hp).elim (λz=>I.pin p (List.mem_append_left _ z)) (h p),I.hok,I.len⟩
theorem zpe{N:List Str}(hN:N.Nodup){i j:Nat}{x:Str}(a:N[i]?=some x)(b:N[j]?=some x):i=j:=by
 obtain⟨h1,e1⟩:=List.getElem?_eq_some_iff.mp a
 obtain⟨h2,e2⟩:=List.getElem?_eq_some_iff.mp b
 exact(List.getElem_inj hN).mp (e1.trans e2.symm)
theorem zjs{M:Model}{A:Around}{E:Value→Shared→Prop}{i:Nat}{x:Str}{v:V}{u:Value}{Q:Unit→Shared→Prop}(I:Inv X pins σ H s)(hN:X.N.Nodup)(hi:X.N[i]?=some x)(hx:Loc X.env.scope x)(r:zee v u)
  (h:∀s',Inv X pins (σ.set i (some v)) H s'→(∃a,Heap.SameBut a s.heap s'.heap∧(a=X.env.locals∨X.env.cells.lookup x=some a))→Q () s') (hf:X.fn x=true∨X.env.scope.names.lookup x=some .local:=by first | exact .inl rfl | exact .inr rfl | assumption):wpAny M A (storeName X.env x u) Q E s:=by
 obtain⟨m,hn,hl⟩:=id I.loc
 have hcls:(X.env.scope.kind == .class || (X.env.scope.kind == .module&&X.env.locals != X.env.globals))=false:=by rw[I.ok.kind];rfl
 have hiσ:i<σ.length:=by rw[I.len];exact(List.getElem?_eq_some_iff.mp hi).1
 have cne:=I.cne
 have tracked:∀{a:Addr} {h':Heap},(∃o,s.heap.get? a=some o∧H a=none)→Heap.SameBut a s.heap h'→HOk X.prog X.w H h':=fun {a h'} ha hs b ob e=>by
  obtain⟨_,_,hfree⟩:=ha
  refine(I.hok b ob e).stay (λc w' hc q=>(hs.2 c ?_).trans q) (λ_ q=>q) λ_ _ q=>q
  rintro rfl
  rcases hc with rfl | hc
  ·rw[hfree] at e;cases e
  ·rw[hfree] at hc;cases hc
 rcases hx with hk | hk
 ·refine wpAny_storeName_local hk hn (λh' hn' hs=>?_) hcls
  obtain⟨oL,_,_,hoL,_⟩:=id hn
  refine h _ ⟨I.ok,I.os,I.bare,⟨λb o e n hb hx=>?_,λb o e n hb hx=>?_,I.base.free,λb o e hx=>?_,I.base.tups,I.base.frzs,I.base.tbls⟩,⟨_,hn',λj y v' e1 e2 e3=>?_⟩,λy c e=>?_,I.free,I.freeC,λp hp=>?_,tracked ⟨oL,hoL,I.free⟩ hs,by simpa using I.len⟩ ⟨_,hs,.inl rfl⟩
  ·exact(hs.2 b (ψl (ψj (Heap.lt_size e) I.ok.above))).trans (I.base.keep b o e n hb hx)
  ·obtain⟨sl,e1⟩:=I.base.slot b o e n hb hx
   exact⟨sl,(hs.2 b (ψl (ψj (Heap.lt_size e) I.ok.above))).trans e1⟩
  ·obtain⟨o',e1⟩:=I.base.there b o e hx
   exact⟨o',(hs.2 b (ψl (ψj (Heap.lt_size e) I.ok.above))).trans e1⟩
  ·by_cases hj:j=i
   ·subst hj
    rw[hi] at e1;cases e1
    rw[List.getElem?_set_self hiσ] at e2
    cases e2
    exact⟨u,r,.inl ⟨hk,by simp⟩⟩
   ·rw[List.getElem?_set_ne (Ne.symm hj)] at e2
    obtain⟨u',r',q⟩:=hl j y v' e1 e2 e3
    refine⟨u',r',?_⟩
    rcases q with ⟨k,e⟩ | ⟨k,c,e,z⟩
    ·refine .inl ⟨k,?_⟩
     have:y≠x:=λe=>hj (zpe hN e1 (e ▸ hi))
     simp[this,e]
    ·exact .inr ⟨k,c,e,z.sameBut hs (cne y c e)⟩
  ·obtain⟨w',z⟩:=I.cell y c e
   exact⟨w',z.sameBut hs (cne y c e)⟩
  ·obtain⟨e,n,ne,nf,d⟩:=I.pin p hp
   exact⟨(hs.2 p.1 ne).trans e,n,ne,nf,d⟩
 ·have hfn:X.fn x=true:=by
   rcases hf with z | z
   ·exact z
   ·rw[z] at hk;cases hk
  obtain⟨c,hc⟩:=I.ok.has x (.inl hk)
  obtain⟨w',z⟩:=I.cell x c hc
  refine wpAny_storeName_cell I.ok.kind hk hc z (λh' hc' hs=>?_)
  obtain⟨oc,hoc,hocd⟩:=id z
  refine h { s with heap:=h' } ⟨I.ok,I.os,I.bare,⟨λb o e n hb hx=>?_,λb o e n hb hx=>?_,I.base.free,λb o e hx=>?_,I.base.tups,I.base.frzs,I.base.tbls⟩,⟨m,hn.sameBut hs (Ne.symm (cne x c hc)),λj y v' e1 e2 e3=>?_⟩,λy c' e=>?_,I.free,I.freeC,λp hp=>?_,tracked ⟨oc,hoc,I.freeC x c hc⟩ hs,by simpa using I.len⟩ ⟨c,hs,.inr hc⟩
  ·exact(hs.2 b (ψl (ψj (Heap.lt_size e) (I.ok.cab x c hfn hc)))).trans (I.base.keep b o e n hb hx)
  ·obtain⟨sl,e1⟩:=I.base.slot b o e n hb hx
   exact⟨sl,(hs.2 b (ψl (ψj (Heap.lt_size e) (I.ok.cab x c hfn hc)))).trans e1⟩
  ·obtain⟨o',e1⟩:=I.base.there b o e hx
   exact⟨o',(hs.2 b (ψl (ψj (Heap.lt_size e) (I.ok.cab x c hfn hc)))).trans e1⟩
  ·by_cases hj:j=i
   ·subst hj
    rw[hi] at e1;cases e1
    rw[List.getElem?_set_self hiσ] at e2
    cases e2
    exact⟨u,r,.inr ⟨.inl hk,c,hc,hc'⟩⟩
   ·rw[List.getElem?_set_ne (Ne.symm hj)] at e2
    obtain⟨u',r',q⟩:=hl j y v' e1 e2 e3
    refine⟨u',r',?_⟩
    rcases q with q | ⟨k,c',e,z'⟩
    ·exact .inl q
    ·refine .inr ⟨k,c',e,z'.sameBut hs ?_⟩
     rintro rfl
     exact hj (zpe hN e1 (I.ok.inj _ _ _ e hc ▸ hi))
  ·by_cases hcc:c'=c
   ·subst hcc;exact⟨_,hc'⟩
   ·obtain⟨w2,z2⟩:=I.cell y c' e
    exact⟨w2,z2.sameBut hs hcc⟩
  ·obtain⟨e,n,ne,nf,d⟩:=I.pin p hp
   refine⟨(hs.2 p.1 ?_).trans e,n,ne,nf,d⟩
   intro q
   rw[q,hoc] at e
   have q':oc=p.2:=Option.some.inj e
   exact d w' (by rw[← q'];exact hocd)
theorem zoR{M:Model}{A:Around}{E:Value→Shared→Prop}{i:Nat}{x:Str}{v:V}{u:Value}{Q:Unit→Shared→Prop}(I:Inv X pins σ H s)(hN:X.N.Nodup)(hi:X.N[i]?=some x)(hx:Loc X.env.scope x)(r:zee v u)
  (h:∀s',Inv X pins (σ.set i (some v)) H s'→Q () s') (hf:X.fn x=true∨X.env.scope.names.lookup x=some .local:=by first | exact .inl rfl | exact .inr rfl | assumption):wpAny M A (storeName X.env x u) Q E s :=
 zjs I hN hi hx r (λs' I' _=>h s' I') hf
theorem Inv.call'{s':Shared}{ch:List Addr}(I:Inv X pins σ H s)(ho:s'.os=s.os)(u:Un (frs X.stack) ch H H' s.heap s'.heap)(hok:HOk X.prog X.w H' s'.heap)(hg:AllBare s'.gens)
  (hch:∀b∈ch,(b∈X.ex∨X.s₀.heap.objs.size≤b)∧b≠X.env.locals∧(∀x c,X.env.cells.lookup x=some c→c≠b)∧∀p∈X.pn++pins,p.1≠b):Inv X pins σ H' s':=by
 obtain⟨h',g',d',t',o'⟩:=s'
 have e:o'=s.os:=ho
 subst e
 exact I.call (g':=g') (t':=t') (d':=d') u hok hg hch
end
abbrev XK:=Value→Option Addr→Hp→Prop
abbrev St:=List (Option V)
abbrev VK:=V→Hp→Prop
abbrev TE:=St→Hp→VK→Prop
abbrev TT:=St→Hp→(Bool→Hp→Prop)→Prop
abbrev TA:=St→Hp→(List V→Hp→Prop)→Prop
structure zjo where
 nx:St→Hp→Prop
 rt:VK
 bk:St→Hp→Prop:=λ_ _=>False
 ct:St→Hp→Prop:=λ_ _=>False
abbrev TS:=zjo→St→Hp→Prop
def EP(X:Cx)(pins:List (Addr×Obj))(σ:St)(Q:VK)(u:Value)(s':Shared):Prop:=∃v H',Inv X pins σ H' s'∧zee v u∧Q v H'
def TP(X:Cx)(pins:List (Addr×Obj))(σ:St)(Q:Bool→Hp→Prop)(b:Bool)(s':Shared):Prop:=∃H',Inv X pins σ H' s'∧Q b H'
def AP(X:Cx)(pins:List (Addr×Obj))(σ:St)(Q:List V→Hp→Prop)(us:List Value)(s':Shared):Prop:=∃vs H',Inv X pins σ H' s'∧zcH vs us∧Q vs H'
def SP(X:Cx)(pins:List (Addr×Obj))(D:zjo)(f:Flow)(s':Shared):Prop :=
 match f with
 | .next=>∃σ' H',Inv X pins σ' H' s'∧D.nx σ' H'
 | .brk=>∃σ' H',Inv X pins σ' H' s'∧D.bk σ' H'
 | .cont=>∃σ' H',Inv X pins σ' H' s'∧D.ct σ' H'
 | .ret u=>∃v σ' H',Inv X pins σ' H' s'∧zee v u∧D.rt v H'
def PE(X:Cx)(e:Expr)(t:TE):Prop :=
 ∀(pins:List (Addr×Obj)) (s:Shared) (σ:St) (H:Hp) (Q:VK),Inv X pins σ H s→t σ H Q→wpAny (model X.prog X.w) X.A (eval e X.env) (EP X pins σ Q) X.xe s
def PT(X:Cx)(e:Expr)(t:TT):Prop :=
 ∀(pins:List (Addr×Obj)) (s:Shared) (σ:St) (H:Hp) (Q:Bool→Hp→Prop),Inv X pins σ H s→t σ H Q→wpAny (model X.prog X.w) X.A (isTrue e X.env (eval e X.env)) (TP X pins σ Q) X.xe s
def PW(X:Cx)(e:Expr)(t:TT):Prop :=
 ∀(whole:Sem Value) (pins:List (Addr×Obj)) (s:Shared) (σ:St) (H:Hp) (Q:Bool→Hp→Prop),Inv X pins σ H s→t σ H Q→wpAny (model X.prog X.w) X.A (isTrue e X.env whole) (TP X pins σ Q) X.xe s
theorem PW.pt{X:Cx}{e:Expr}{t:TT}(h:PW X e t):PT X e t:=h _
def PA(X:Cx)(es:List Expr)(t:TA):Prop :=
 ∀(pos:Pos) (pins:List (Addr×Obj)) (s:Shared) (σ:St) (H:Hp) (Q:List V→Hp→Prop),Inv X pins σ H s→t σ H Q→wpAny (model X.prog X.w) X.A (spliced (backTo pos (starEach es X.env))) (AP X pins σ Q) X.xe s
def PS(X:Cx)(st:Stmt)(t:TS):Prop :=
 ∀(pins:List (Addr×Obj)) (s:Shared) (σ:St) (H:Hp) (D:zjo),Inv X pins σ H s→t D σ H→wpAny (model X.prog X.w) X.A (exec st X.env) (SP X pins D) X.xe s
def PSs(X:Cx)(st:List Stmt)(t:TS):Prop :=
 ∀(pins:List (Addr×Obj)) (s:Shared) (σ:St) (H:Hp) (D:zjo),Inv X pins σ H s→t D σ H→wpAny (model X.prog X.w) X.A (execs st X.env) (SP X pins D) X.xe s
theorem thn{α:Type}{t:Sem α}{Q Q':α→Shared→Prop}{M:Model}{A:Around}{E:Value→Shared→Prop}{s:Shared}(h:wpAny M A t Q E s)(hQ:∀a s,Q a s→Q' a s):wpAny M A t Q' E s:=wpAny_mono h hQ λ_ _ x=>x
end L2
namespace L2
open PySem PySem.Spec PyProof.Rows
section
variable {X:Cx}
def zac(i:Nat):TE:=λσ H Q=>∃v,σ[i]?=some (some v)∧Q v H
def tC(v:V):TE:=λ_ H Q=>Q v H
theorem zAz{i:Nat}{x:Str}{pos:Pos}(hN:X.N[i]?=some x)(hv:Vis X.env.scope x)(hd:(x == ("__debug__":Str))=false:=by decide)(hcd:(x == ("__classdict__":Str))=false:=by decide):PE X (.Name x pos) (zac i):=by
 intro pins s σ H Q I h
 obtain⟨v,e,h⟩:=h
 obtain⟨m,hn,hl⟩:=I.loc
 obtain⟨u,r,l⟩:=hl i x v hN e hv
 have fin:EP X pins σ Q u s:=⟨v,H,I,r,h⟩
 rcases l with ⟨hk,hm⟩ | ⟨hk,c,hc,hcell⟩
 ·exact wpAny_Name (wpAny_loadName_local I.ok.kind hk hn hm fin) hd
 ·rcases hk with hk | hk
  ·exact wpAny_Name (wpAny_loadName_cell I.ok.kind hk hc hcell fin) hd
  ·exact wpAny_Name (wpAny_loadName_free I.ok.kind hk hc hcell fin hcd) hd
theorem zae{i j pos}:PE X (.Constant (.int i) j pos) (tC (.int i)):=λ_ _ _ H _ I h=>wpAny_Constant_int ⟨.int i,H,I.tok _,⟨_,rfl⟩,h⟩
theorem zdx{b j pos}:PE X (.Constant (.bool b) j pos) (tC (.bl b)):=λ_ _ _ H _ I h=>Constant_bool ⟨.bl b,H,I,rfl,h⟩
theorem zkq{j pos}:PE X (.Constant .none j pos) (tC .non):=λ_ _ _ H _ I h=>Constant_none ⟨.non,H,I,rfl,h⟩
theorem zl6{x j pos}:PE X (.Constant (.str x) j pos) (tC (.str x)):=λ_ _ _ H _ I h=>Calls.Constant_str ⟨.str x,H,I.tok _,⟨_,rfl⟩,h⟩
def Gl(X:Cx)(x:Str):Prop:=X.env.kindOf x=some .globalImplicit
theorem zsS{E:Value→Shared→Prop}{pins:List (Addr×Obj)}{s:Shared}{σ:St}{H:Hp}{x:Str}{u:Value}{pos:Pos}{Q:Value→Shared→Prop}(I:Inv X pins σ H s)(hg:Gl X x)(hm:X.mg x=some u)(h:Q u s)
  (hd:(x == ("__debug__":Str))=false:=by decide):wpAny (model X.prog X.w) X.A (eval (.Name x pos) X.env) Q E s :=
 Calls.Name_function_global I.ok.kind hg (Calls.loadGlobal_global (by rw[I.ok.glob];exact I.mod.glob.keeps I.bk) hm h) hd
theorem zid{E:Value→Shared→Prop}{pins:List (Addr×Obj)}{s:Shared}{σ:St}{H:Hp}{x:Str}{u:Value}{pos:Pos}{Q:Value→Shared→Prop}(I:Inv X pins σ H s)(hg:Gl X x)(hm:X.mg x=none)(hv:bootBuiltins x=some u)(h:Q u s)
  (hn:x≠"__name__":=by decide) (hd:(x == ("__debug__":Str))=false:=by decide):wpAny (model X.prog X.w) X.A (eval (.Name x pos) X.env) Q E s:=by
 obtain⟨mb,h1,h2⟩:=I.mod.blt
 exact Calls.Name_function_global I.ok.kind hg (Calls.loadGlobal_builtin (by rw[I.ok.glob];exact I.mod.glob.keeps I.bk) hm (by rw[I.ok.blt];exact h1.keeps I.bk) ((h2 x hn).trans hv) h) hd
theorem zio{x:Str}{v:V}{u:Value}{pos:Pos}(hg:Gl X x)(hm:X.mg x=some u)(r:zee v u)(hd:(x == ("__debug__":Str))=false:=by decide):PE X (.Name x pos) (tC v) :=
 λ_ _ _ H _ I h=>zsS I hg hm ⟨v,H,I,r,h⟩ hd
theorem zcf{x:Str}{v:V}{u:Value}{pos:Pos}(hg:Gl X x)(hm:X.mg x=none)(hv:bootBuiltins x=some u)(r:zee v u)(hn:x≠"__name__":=by decide)(hd:(x == ("__debug__":Str))=false:=by decide):PE X (.Name x pos) (tC v) :=
 λ_ _ _ H _ I h=>zid I hg hm hv ⟨v,H,I,r,h⟩ hn hd
variable {a b:Expr} {ta tb:TE} {pos:Pos}
def tB(t:TE):TT:=λσ H Q=>t σ H λx H1=>∃c,x=.bl c∧Q c H1
theorem zbu{e:Expr}{t:TE}(h:PE X e t)(he:∀whole,isTrue e X.env whole=(do let v ← whole;standAt e.pos;holding [v] (truthy v)):=by intro _;rfl):PT X e (tB t):=by
 intro pins s σ H Q I hw
 refine isTrue_plain (thn (h pins s σ H _ I hw) λv s1 hQ'=>?_) (he _)
 obtain⟨x,H1,I1,r1,q1⟩:=hQ'
 obtain⟨d,rfl,q⟩:=q1
 cases r1
 exact wpAny_truthy_bool ⟨H1,I1,q⟩
variable {tA tB':TT} {rest:List Expr}
def zyX(t u:TT):TT:=λσ H Q=>t σ H λc H1=>if c=true then u σ H1 Q else Q false H1
def tOr(t u:TT):TT:=λσ H Q=>t σ H λc H1=>if c=true then Q true H1 else u σ H1 Q
def zf7(t:TT):TT:=λσ H Q=>t σ H λc H1=>Q (!c) H1
theorem znn(ha:PT X a tA):PW X (.BoolOp .And [a] pos) tA:=by
 intro wh pins s σ H Q I h
 refine isTrue_and (thn (ha pins s σ H Q I h) λc s1 e=>?_)
 cases c with
 | true=>exact isTrue_and_nil e
 | false=>exact e
theorem zd6(ha:PT X a tA):PW X (.BoolOp .Or [a] pos) tA:=by
 intro wh pins s σ H Q I h
 refine isTrue_or (thn (ha pins s σ H Q I h) λc s1 e=>?_)
 cases c with
 | false=>exact isTrue_or_nil e
 | true=>exact e
theorem zr8(ha:PT X a tA)(hb:PW X (.BoolOp .And (b::rest) pos) tB'):PW X (.BoolOp .And (a::b::rest) pos) (zyX tA tB'):=by
 intro wh pins s σ H Q I h
 refine isTrue_and (thn (ha pins s σ H _ I h) λc s1 hQ'=>?_)
 obtain⟨H1,I1,q1⟩:=hQ'
 cases c with
 | true=>exact hb wh pins s1 σ H1 Q I1 q1
 | false=>exact⟨H1,I1,q1⟩
theorem zeY(ha:PT X a tA)(hb:PW X (.BoolOp .Or (b::rest) pos) tB'):PW X (.BoolOp .Or (a::b::rest) pos) (tOr tA tB'):=by
 intro wh pins s σ H Q I h
 refine isTrue_or (thn (ha pins s σ H _ I h) λc s1 hQ'=>?_)
 obtain⟨H1,I1,q1⟩:=hQ'
 cases c with
 | true=>exact⟨H1,I1,q1⟩
 | false=>exact hb wh pins s1 σ H1 Q I1 q1
theorem zbW(ha:PT X a tA):PT X (.UnaryOp .Not a pos) (zf7 tA):=by
 intro pins s σ H Q I h
 exact isTrue_not (ha pins s σ H (λc H1=>Q (!c) H1) I h)
def zeX(ta tb:TE):TE:=λσ H Q=>ta σ H λx H1=>∃c,x=.bl c∧if c=true then tb σ H1 Q else Q (.bl false) H1
def tOrV(ta tb:TE):TE:=λσ H Q=>ta σ H λx H1=>∃c,x=.bl c∧if c=true then Q (.bl true) H1 else tb σ H1 Q
def zvv(ta:TE):TE:=λσ H Q=>ta σ H λx H1=>∃c,x=.bl c∧Q (.bl (!c)) H1
theorem ze0{op}{t:TE}(h:PE X a t):PE X (.BoolOp op [a] pos) t:=λpins s σ H Q I hw=>BoolOp_one (h pins s σ H Q I hw)
theorem zdi(ha:PE X a ta)(hb:PE X (.BoolOp .And (b::rest) pos) tb):PE X (.BoolOp .And (a::b::rest) pos) (zeX ta tb):=by
 intro pins s σ H Q I h
 refine BoolOp_and (thn (ha pins s σ H _ I h) λv s1 hQ'=>?_)
 obtain⟨x,H1,I1,r1,q1⟩:=hQ'
 obtain⟨c,rfl,q1⟩:=q1
 cases r1
 refine wpAny_truthy_bool ?_
 cases c with
 | true=>exact hb pins s1 σ H1 Q I1 q1
 | false=>exact⟨.bl false,H1,I1,rfl,q1⟩
theorem pe_or(ha:PE X a ta)(hb:PE X (.BoolOp .Or (b::rest) pos) tb):PE X (.BoolOp .Or (a::b::rest) pos) (tOrV ta tb):=by
 intro pins s σ H Q I h
 refine BoolOp_or (thn (ha pins s σ H _ I h) λv s1 hQ'=>?_)
 obtain⟨x,H1,I1,r1,q1⟩:=hQ'
 obtain⟨c,rfl,q1⟩:=q1
 cases r1
 refine wpAny_truthy_bool ?_
 cases c with
 | false=>exact hb pins s1 σ H1 Q I1 q1
 | true=>exact⟨.bl true,H1,I1,rfl,q1⟩
theorem zwp(ha:PE X a ta):PE X (.UnaryOp .Not a pos) (zvv ta):=by
 intro pins s σ H Q I h
 refine UnaryOp_ (thn (ha pins s σ H _ I h) λv s1 hQ'=>?_)
 obtain⟨x,H1,I1,r1,q1⟩:=hQ'
 obtain⟨c,rfl,q1⟩:=q1
 cases r1
 exact not_of (wpAny_truthy_bool ⟨.bl (!c),H1,I1,rfl,q1⟩)
def tIf(t:TT)(ta tb:TE):TE:=λσ H Q=>t σ H λc H1=>if c=true then ta σ H1 Q else tb σ H1 Q
theorem zoT{c:Expr}(hc:PT X c tA)(ha:PE X a ta)(hb:PE X b tb):PE X (.IfExp c a b pos) (tIf tA ta tb):=by
 intro pins s σ H Q I h
 refine wpAny_IfExp (thn (hc pins s σ H _ I h) λd s1 hQ'=>?_)
 obtain⟨H1,I1,q1⟩:=hQ'
 cases d with
 | true=>exact ha pins s1 σ H1 Q I1 q1
 | false=>exact hb pins s1 σ H1 Q I1 q1
end
end L2
namespace L2
open PySem PySem.Spec PyProof.Rows
def SqL(K:ψa)(H:Hp)(a:Addr)(xs:List V):Prop :=
 Rd H a (.lst xs) ∨
  ∃(o:Obj) (its:Array Value) (n:Nat),K.lookup a=some o∧o.cls=.type "list"∧o.dict=none∧o.data=.seq its n∧its.size≤sizeLine∧zcH xs its.toList
def SqT(K:ψa)(H:Hp)(a:Addr)(xs:List V):Prop :=
 Rd H a (.tup xs) ∨
  ∃(o:Obj) (its:Array Value) (n:Nat),K.lookup a=some o∧o.cls=.type "tuple"∧o.data=.seq its n∧its.size≤sizeLine∧zcH xs its.toList
def absV:Value→Option V
 | .none=>some .non
 | .bool b=>some (.bl b)
 | .int i _=>some (.int i)
 | .str x _=>some (.str x)
 | .bytes b _=>some (.byt b)
 | .float b _=>some (.flt b)
 | .ref a=>some (.ref a)
 | .type n=>some (.ty n)
 | _=>none
theorem zee.abs{x:V}{u:Value}(r:zee x u):absV u=some x:=by
 cases x with
 | non=>cases r;rfl
 | bl _=>cases r;rfl
 | int _=>obtain⟨t,rfl⟩:=r;rfl
 | str _=>obtain⟨t,rfl⟩:=r;rfl
 | byt _=>obtain⟨t,rfl⟩:=r;rfl
 | flt _=>obtain⟨t,rfl⟩:=r;rfl
 | ref _=>cases r;rfl
 | ty _=>cases r;rfl
theorem zee.inj{x y:V}{u:Value}(r:zee x u)(q:zee y u):x=y:=Option.some.inj (r.abs.symm.trans q.abs)
theorem zcH.inj:∀{xs ys:List V} {us:List Value},zcH xs us→zcH ys us→xs=ys
 | _,_,_,.nil,.nil=>rfl
 | _,_,_,.cons r t,.cons r' t'=>by rw[r.inj r',zcH.inj t t']
section
variable {X:Cx} {pins:List (Addr×Obj)} {σ:St} {H:Hp} {s:Shared} {a:Addr} {xs ys:List V}
theorem SqL.of{K:ψa}(h:H a=some (.lst xs)):SqL K H a xs:=.inl (.inl h)
theorem SqT.of{K:ψa}(h:H a=some (.tup xs)):SqT K H a xs:=.inl (.inl h)
theorem Inv.list(I:Inv X pins σ H s)(h:SqL X.K H a xs):∃its:List Value,zcH xs its∧PlainL s.heap a its.toArray∧xs.length≤sizeLine:=by
 rcases h with h | ⟨o,its,n,hk,hc,hd,hs,hz,r⟩
 ·obtain⟨z,its,n,r,e⟩:=h.ok I.hok
  exact⟨its,r,⟨_,n,e,rfl,rfl,rfl⟩,z⟩
 ·refine⟨its.toList,r,⟨o,n,I.kIn a o hk,hc,hd,by simpa using hs⟩,?_⟩
  have e:=r.length
  simp only[Array.length_toList] at e
  (first|lia|omega)
theorem Inv.tuple(I:Inv X pins σ H s)(h:SqT X.K H a xs):∃its:List Value,zcH xs its∧IsTup s.heap a its.toArray∧xs.length≤sizeLine:=by
 rcases h with h | ⟨o,its,n,hk,hc,hs,hz,r⟩
 ·obtain⟨z,its,r,p⟩:=h.ok I.hok
  exact⟨its,r,p,z⟩
 ·refine⟨its.toList,r,⟨o,I.kIn a o hk,hc,n,by simpa using hs⟩,?_⟩
  have e:=r.length
  simp only[Array.length_toList] at e
  (first|lia|omega)
theorem Inv.list_inj(I:Inv X pins σ H s)(h:SqL X.K H a xs)(h':SqL X.K H a ys):xs=ys:=by
 obtain⟨its,r,⟨o,n,e,_,_,d⟩,_⟩:=I.list h
 obtain⟨its',r',⟨o',n',e',_,_,d'⟩,_⟩:=I.list h'
 rw[e] at e';cases e'
 rw[d] at d'
 injection d' with d1 _
 have:its=its':=by simpa using congrArg Array.toList d1
 subst this
 exact r.inj r'
theorem Inv.tuple_inj(I:Inv X pins σ H s)(h:SqT X.K H a xs)(h':SqT X.K H a ys):xs=ys:=by
 obtain⟨its,r,⟨o,e,_,n,d⟩,_⟩:=I.tuple h
 obtain⟨its',r',⟨o',e',_,n',d'⟩,_⟩:=I.tuple h'
 rw[e] at e';cases e'
 rw[d] at d'
 injection d' with d1 _
 have:its=its':=by simpa using congrArg Array.toList d1
 subst this
 exact r.inj r'
end
abbrev Cx.wish(X:Cx)(E:Value→Shared→Prop):Cx:={ X with xe:=E }
abbrev Cx.nox(X:Cx):Cx:=X.wish λ_ _=>False
theorem Cx.Ok.wish{X:Cx}(ok:X.Ok)(E:Value→Shared→Prop):(X.wish E).Ok :=
 ⟨ok.mod,ok.kind,ok.glob,ok.blt,ok.above,ok.inj,ok.has,ok.cab,ok.hd,ok.frames,ok.stk,ok.exf,ok.bs,ok.bsz,ok.noex,ok.exfs,ok.funs,ok.frf⟩
theorem Cx.Ok.unwish{X:Cx}{E:Value→Shared→Prop}(ok:(X.wish E).Ok):X.Ok :=
 ⟨ok.mod,ok.kind,ok.glob,ok.blt,ok.above,ok.inj,ok.has,ok.cab,ok.hd,ok.frames,ok.stk,ok.exf,ok.bs,ok.bsz,ok.noex,ok.exfs,ok.funs,ok.frf⟩
section
variable {X:Cx} {pins:List (Addr×Obj)} {σ:St} {H:Hp} {s:Shared} {E:Value→Shared→Prop}
theorem Inv.wish(I:Inv X pins σ H s)(E:Value→Shared→Prop):Inv (X.wish E) pins σ H s:=⟨I.ok.wish E,I.os,I.bare,I.base,I.loc,I.cell,I.free,I.freeC,I.pin,I.hok,I.len⟩
theorem Inv.unwish(I:Inv (X.wish E) pins σ H s):Inv X pins σ H s:=⟨I.ok.unwish,I.os,I.bare,I.base,I.loc,I.cell,I.free,I.freeC,I.pin,I.hok,I.len⟩
theorem SP.unwish{D:zjo}{f:Flow}{s':Shared}(h:SP (X.wish E) pins D f s'):SP X pins D f s':=by
 cases f with
 | next=>obtain⟨σ',H',I,q⟩:=h;exact⟨σ',H',I.unwish,q⟩
 | brk=>obtain⟨σ',H',I,q⟩:=h;exact⟨σ',H',I.unwish,q⟩
 | cont=>obtain⟨σ',H',I,q⟩:=h;exact⟨σ',H',I.unwish,q⟩
 | ret u=>obtain⟨v,σ',H',I,r,q⟩:=h;exact⟨v,σ',H',I.unwish,r,q⟩
theorem PSs.nox{st:List Stmt}{t:TS}(h:PSs X.nox st t):PSs X st t:=λpins s σ H D I hw =>
 wpAny_mono (h pins s σ H D (I.wish _) hw) (λ_ _ q=>q.unwish) λ_ _ z=>False.elim z
end
section
variable {X:Cx} {st:Stmt} {rest:List Stmt} {t u:TS} {e:Expr} {te:TE} {pos:Pos}
def zb7:TS:=λD σ H=>D.nx σ H
def zbf(t u:TS):TS:=λD σ H=>t { D with nx:=u D } σ H
theorem zaY:PSs X [] zb7:=λ_ _ σ H _ I h=>wpAny_execs_nil ⟨σ,H,I,h⟩
theorem zaf(h1:PS X st t)(h2:PSs X rest u):PSs X (st::rest) (zbf t u):=by
 intro pins s σ H D I h
 refine wpAny_execs_cons (thn (h1 pins s σ H { D with nx:=u D } I h) λf s1 q=>?_)
 cases f with
 | next =>
  obtain⟨σ',H',I',q⟩:=q
  exact h2 pins s1 σ' H' D I' q
 | ret v=>exact q
 | brk=>exact q
 | cont=>exact q
theorem zah(h1:PS X st t):PSs X [st] t:=by
 intro pins s σ H D I h
 refine wpAny_execs_cons (thn (h1 pins s σ H D I h) λf s1 q=>?_)
 cases f with
 | next=>exact wpAny_execs_nil q
 | ret v=>exact q
 | brk=>exact q
 | cont=>exact q
theorem Inv.quiet{pins:List (Addr×Obj)}{σ:St}{H:Hp}{s:Shared}(I:Inv X pins σ H s):interactive X.env=false:=by simp[interactive,I.ok.kind]
def zkh(te:TE):TS:=λD σ H=>te σ H λ_ H1=>D.nx σ H1
theorem zgD(he:PE X e te)(hs:swapsWith e none pos.line X.env=pure false:=by rfl):PS X (.Expr e pos) (zkh te):=by
 intro pins s σ H D I h
 exact wpAny_Expr_any (thn (he pins s σ H _ I h) λv s1 ⟨x,H1,I1,r1,q1⟩=>⟨σ,H1,I1,q1⟩) I.quiet hs
def zb2(te:TE):TS:=λD σ H=>te σ H D.rt
theorem zaE(he:PE X e te):PS X (.Return (some e) pos) (zb2 te):=by
 intro pins s σ H D I h
 exact wpAny_Return_some (thn (he pins s σ H _ I h) λv s1 ⟨x,H1,I1,r1,q1⟩=>⟨x,σ,H1,I1,r1,q1⟩)
def zd2(c:TT)(t u:TS):TS:=λD σ H=>c σ H λb H1=>if b=true then t D σ H1 else u D σ H1
theorem zb1{c:Expr}{a b:List Stmt}{tc:TT}(hc:PT X c tc)(ha:PSs X a t)(hb:PSs X b u):PS X (.If c a b pos) (zd2 tc t u):=by
 intro pins s σ H D I h
 refine wpAny_If (thn (hc pins s σ H _ I h) λd s1 hQ'=>?_)
 obtain⟨H1,I1,q1⟩:=hQ'
 cases d with
 | true=>exact ha pins s1 σ H1 D I1 q1
 | false=>exact hb pins s1 σ H1 D I1 q1
def zoF:TS:=λ_ _ _=>False
theorem zk8:PS X st zoF:=λ_ _ _ _ _ _ h=>h.elim
end
abbrev TG:=V→St→Hp→(St→Hp→Prop)→Prop
abbrev TGs:=List V→St→Hp→(St→Hp→Prop)→Prop
def PG(X:Cx)(target:Expr)(t:TG):Prop :=
 ∀(pins:List (Addr×Obj)) (s:Shared) (σ:St) (H:Hp) (v:V) (u:Value) (Q:St→Hp→Prop),Inv X pins σ H s→zee v u→t v σ H Q →
  wpAny (model X.prog X.w) X.A (assign target X.env u) (λ_ s'=>∃σ' H',Inv X pins σ' H' s'∧Q σ' H') X.xe s
def PGs(X:Cx)(ts:List Expr)(t:TGs):Prop :=
 ∀(pins:List (Addr×Obj)) (s:Shared) (σ:St) (H:Hp) (vs:List V) (us:List Value) (Q:St→Hp→Prop),Inv X pins σ H s→zcH vs us→t vs σ H Q →
  wpAny (model X.prog X.w) X.A (assignInOrder ((assignEach ts X.env).map (·.2)) us) (λ_ s'=>∃σ' H',Inv X pins σ' H' s'∧Q σ' H') X.xe s
abbrev TSet:=V→V→V→Hp→(Hp→Prop)→Prop
def PSet(X:Cx)(t:TSet):Prop :=
 ∀(pins:List (Addr×Obj)) (s:Shared) (σ:St) (H:Hp) (o i v:V) (ov iv u:Value) (Q:Hp→Prop),Inv X pins σ H s→zee o ov→zee i iv→zee v u→t o i v H Q →
  wpAny (model X.prog X.w) X.A (setItem ov iv u) (λ_ s'=>∃H',Inv X pins σ H' s'∧Q H') X.xe s
section
variable {X:Cx} {pos:Pos}
def zaj(i:Nat):TG:=λv σ H Q=>Q (σ.set i (some v)) H
theorem zak{i:Nat}{x:Str}(hN:X.N.Nodup)(hi:X.N[i]?=some x)(hx:Loc X.env.scope x)(hf:X.fn x=true∨X.env.scope.names.lookup x=some .local:=by first | exact .inl rfl | exact .inr rfl | assumption):PG X (.Name x pos) (zaj i):=by
 intro pins s σ H v u Q I r h
 exact wpAny_assign_Name (zoR I hN hi hx r (λs' I'=>⟨_,H,I',h⟩) hf)
def zd9:TGs:=λvs σ H Q=>vs=[]∧Q σ H
def zaQ(t:TG)(u:TGs):TGs:=λvs σ H Q=>∃v r,vs=v::r∧t v σ H λσ' H'=>u r σ' H' Q
theorem zaZ:PGs X [] zd9:=by
 intro pins s σ H vs us Q I r h
 obtain⟨e,h⟩:=h
 subst e
 cases r
 exact assignInOrder_nil ⟨σ,H,I,h⟩
theorem zal{e:Expr}{es:List Expr}{t:TG}{u:TGs}(h1:PG X e t)(h2:PGs X es u)
  (hs:(assignEach (e::es) X.env).map (·.2)=assign e X.env::(assignEach es X.env).map (·.2):=by rfl):PGs X (e::es) (zaQ t u):=by
 intro pins s σ H vs us Q I r h
 obtain⟨v,vr,e1,h⟩:=h
 subst e1
 cases r with
 | cons r rr =>
  rw[hs]
  refine assignInOrder_cons (thn (h1 pins s σ H _ _ _ I r h) λ_ s1 hQ'=>?_)
  obtain⟨σ1,H1,I1,q1⟩:=hQ'
  exact h2 pins s1 σ1 H1 _ _ Q I1 rr q1
def zed(K:ψa)(n:Nat)(t:TGs):TG:=λv σ H Q=>∃a xs,v=.ref a∧SqT K H a xs∧xs.length=n∧t xs σ H Q
theorem zbp{es:List Expr}{k:Nat}{t:TGs}{n:Nat}(hc:X.calm=true)(h:PGs X es t)
  (hn:(assignEach es X.env).length=n:=by rfl) (hst:(assignEach es X.env).findIdx? (·.1)=none:=by rfl):PG X (.Tuple es k pos) (zed X.K n t):=by
 intro pins s σ H v u Q I r hw
 obtain⟨a,xs,e1,hq,hl,hw⟩:=hw
 subst e1
 cases r
 obtain⟨its,rv,ht,hz⟩:=I.tuple hq
 refine assign_Tuple_tuple (I.ok.hd hc) ht (by simp[hn,← hl,rv.length]) hst λh' hx=>?_
 have I1:Inv X pins σ H { s with heap:=h' }:=I.kept (t':=s.toks) λb o e=>hx b o (ψl (Heap.lt_size e)) e
 exact h pins _ σ H xs _ Q I1 (by simpa using rv) hw
def zwh(to ti:TE)(t:TSet):TG:=λv σ H Q=>to σ H λo H1=>ti σ H1 λi H2=>t o i v H2 λH3=>Q σ H3
theorem zkt{o i:Expr}{to ti:TE}{t:TSet}(ho:PE X o to)(hi:PE X i ti)(hs:PSet X t)
  (ha:∀v,assign (.Subscript o i pos) X.env v=(do
   let ov ← holding [v] (eval o X.env)
   let iv ← holding [v,ov] (eval i X.env)
   standAt pos
   holding [v,ov,iv] (setItem ov iv v)
   release [v,ov,iv] []):=by intro _;rfl):PG X (.Subscript o i pos) (zwh to ti t):=by
 intro pins s σ H v u Q I r h
 rw[ha]
 refine wpAny_bind (wpAny_holding (thn (ho pins s σ H _ I h) λov s1 hQ'=>?_))
 obtain⟨x,H1,I1,r1,q1⟩:=hQ'
 refine wpAny_bind (wpAny_holding (thn (hi pins s1 σ H1 _ I1 q1) λiv s2 hQ'=>?_))
 obtain⟨y,H2,I2,r2,q2⟩:=hQ'
 refine wpAny_bind (wpAny_standAt (wpAny_bind (wpAny_holding (thn (hs pins s2 σ H2 x y v ov iv u _ I2 r1 r2 r q2) λ_ s3 hQ'=>?_))))
 obtain⟨H3,I3,q3⟩:=hQ'
 exact wpAny_release ⟨σ,H3,I3,q3⟩
def zbq(te:TE)(g:TG):TS:=λD σ H=>te σ H λx H1=>g x σ H1 D.nx
theorem zcG{tg e:Expr}{te:TE}{g:TG}(he:PE X e te)(hg:PG X tg g)(hs:swapsWithSole [tg] e pos.line X.env=pure false:=by rfl)(hw:swappedStores [tg] e X.env=pure none:=by rfl)
  (h1:(assignEach [tg] X.env).map (·.2)=[assign tg X.env]:=by rfl):PS X (.Assign [tg] e pos) (zbq te g):=by
 intro pins s σ H D I h
 refine wpAny_Assign_stores (thn (he pins s σ H _ I h) λv s1 hQ'=>?_) hs hw
 obtain⟨x,H1,I1,r1,q1⟩:=hQ'
 rw[h1]
 exact thn (hg pins s1 σ H1 x v _ I1 r1 q1) λ_ s2 q=>q
theorem zaN{i:Nat}{x:Str}{e:Expr}{te:TE}{pos':Pos}(hN:X.N.Nodup)(hi:X.N[i]?=some x)(hx:Loc X.env.scope x)(he:PE X e te)(hs:swapsWith e (some (.Name x pos')) pos.line X.env=pure false:=by rfl)(hf:X.fn x=true∨X.env.scope.names.lookup x=some .local:=by first | exact .inl rfl | exact .inr rfl | assumption) :
  PS X (.Assign [.Name x pos'] e pos) (zbq te (zaj i)):=by
 intro pins s σ H D I h
 refine wpAny_Assign_Name (thn (he pins s σ H _ I h) λv s1 hQ'=>?_) hs
 obtain⟨y,H1,I1,r1,q1⟩:=hQ'
 exact zoR I1 hN hi hx r1 (λs2 I2=>⟨_,H1,I2,q1⟩) hf
end
section
variable {X:Cx} {pos:Pos}
def zmT(c:TT)(tb:TS):TS:=λD σ H=>∃W:Nat→St→Hp→Prop,(∃m,W m σ H)∧∀m σ H,W m σ H →
 c σ H λb H1=>if b=true then ∃N:St→Hp→Prop,(∀σ' H',N σ' H'→∃m',m'<m∧W m' σ' H')∧tb { D with nx:=N,ct:=N,bk:=D.nx } σ H1 else D.nx σ H1
theorem zlf{c:Expr}{body:List Stmt}{tc:TT}{tb:TS}(hp:PassesOwn (model X.prog X.w) X.A X.env X.xe)(hc:PT X c tc)(hb:PSs X body tb):PS X (.While c body [] pos) (zmT tc tb):=by
 intro pins s σ H D I h
 obtain⟨W,⟨m0,w0⟩,zpB⟩:=h
 refine wpAny_While (codeAny_whileLoop (λn s'=>∃σ' H',Inv X pins σ' H' s'∧W n σ' H') ?_ m0 ⟨σ,H,I,w0⟩)
 rintro n s1 ⟨σ1,H1,I1,w1⟩
 refine wpAny_passesOwn hp (thn (hc pins s1 σ1 H1 _ I1 (zpB n σ1 H1 w1)) λb s2 hQ'=>?_)
 obtain⟨H2,I2,q2⟩:=hQ'
 cases b with
 | true =>
  obtain⟨N,hN,q2⟩:=q2
  rw[if_pos rfl]
  refine wpAny_passesOwn hp (thn (hb pins s2 σ1 H2 _ I2 q2) λf s3 q3=>?_)
  cases f with
  | next =>
   obtain⟨σ3,H3,I3,n3⟩:=q3
   obtain⟨m',hm,w3⟩:=hN σ3 H3 n3
   exact⟨m',hm,σ3,H3,I3,w3⟩
  | cont =>
   obtain⟨σ3,H3,I3,n3⟩:=q3
   obtain⟨m',hm,w3⟩:=hN σ3 H3 n3
   exact⟨m',hm,σ3,H3,I3,w3⟩
  | brk=>exact q3
  | ret v=>exact q3
 | false =>
  rw[if_neg ψO]
  exact wpAny_execs_nil ⟨σ1,H2,I2,q2⟩
end
structure It where
 go:Nat→Hp→Prop
 yld:Nat→Hp→V→Hp→Prop
 stop:Nat→Hp→Prop
def zl2(X:Cx)(pins:List (Addr×Obj))(H:Hp)(b:Addr):Prop :=
 H b=none∧b≠X.env.locals∧b∉X.fs∧(b∈X.ex∨X.s₀.heap.objs.size≤b)∧(∀x c,X.env.cells.lookup x=some c→c≠b)∧∀p∈X.pn++pins,p.1≠b
theorem Inv.fpOk{X:Cx}{pins:List (Addr×Obj)}{σ:St}{H H':Hp}{s:Shared}{b:Addr}(I:Inv X pins σ H s)(hb:s.heap.objs.size≤b)(hn:H' b=none):zl2 X pins H' b:=by
 refine⟨hn,ψD1 (ψj I.lt hb),I.nofs hb,.inr (ψE I.sz hb),λx c e z=>?_,λp hp z=>?_⟩
 ·obtain⟨v,q⟩:=I.cell x c e
  exact absurd (ψj q.lt (by rw[z];exact hb)) (ψx1 _)
 ·exact absurd (ψj (Heap.lt_size (I.pin p hp).1) (by rw[z];exact hb)) (ψx1 _)
structure zxS (P:Program) (w:World) (K:ψa) (tg:Expr) (J:It) (fp:List Addr) (it:Addr) (tn:Nat→Heap→Prop):Prop where
 mem:it∈fp
 obj:∀i h,tn i h→∀b∈fp,∃o,h.get? b=some o∧∀v,o.data≠.cell v
 keep:∀i h h',tn i h→(∀b∈fp,∀o,h.get? b=some o→h'.get? b=some o)→tn i h'
 item:∀(X:Cx),X.prog=P→X.w=w→X.K=K→X.calm=true→∀(i:Nat) (pins:List (Addr×Obj)) (s:Shared) (σ:St) (H:Hp) (E:Value→Shared→Prop),Inv X pins σ H s→(∀b∈fp,zl2 X pins H b)→tn i s.heap→J.go i H →
  wpAny (model P w) X.A (pyNext (.ref it)) (λr s1=>∃u,r=some u ∧
   wpAny (model P w) X.A (letOwnedTupleGo tg (.ref it) u) (λ_ s2=>∃x H',Inv X pins σ H' s2∧zee x u∧J.yld i H x H'∧tn (i+1) s2.heap∧∀b∈fp,H' b=none) E s1) E s
 done:∀(X:Cx),X.prog=P→X.w=w→X.K=K→X.calm=true→∀(i:Nat) (pins:List (Addr×Obj)) (s:Shared) (σ:St) (H:Hp) (E:Value→Shared→Prop),Inv X pins σ H s→(∀b∈fp,zl2 X pins H b)→tn i s.heap→J.stop i H →
  wpAny (model P w) X.A (pyNext (.ref it)) (λr s1=>r=none∧Inv X pins σ H s1) E s
 self:∀(A:Around) (i:Nat) (s:Shared) (Q:Value→Shared→Prop) (E:Value→Shared→Prop),tn i s.heap→Q (.ref it) s→wpAny (model P w) A (pyIter (.ref it)) Q E s
abbrev TI:=St→Hp→(It→Hp→Prop)→Prop
def PIE(X:Cx)(pins:List (Addr×Obj))(σ:St)(tg:Expr)(R:It→Hp→Prop)(itv:Value)(s2:Shared):Prop :=
 ∃(it:Addr) (fp:List Addr) (tn:Nat→Heap→Prop) (J:It) (H':Hp),itv=.ref it∧Inv X pins σ H' s2∧zxS X.prog X.w X.K tg J fp it tn∧tn 0 s2.heap∧(∀b∈fp,zl2 X pins H' b)∧R J H'
def PI(X:Cx)(tg iter:Expr)(wi:TI):Prop :=
 ∀(pins:List (Addr×Obj)) (s:Shared) (σ:St) (H:Hp) (R:It→Hp→Prop),Inv X pins σ H s→wi σ H R →
  wpAny (model X.prog X.w) X.A (eval iter X.env) (λv s1=>wpAny (model X.prog X.w) X.A (pyIter v) (PIE X pins σ tg R) X.xe s1) X.xe s
theorem zyr{M:Model}{A:Around}{E:Value→Shared→Prop}{s:Shared}{tg:Expr}{it:Addr}{u:Value}{o:Obj}{n:String}{vs:Array Value}{Q:Unit→Shared→Prop}(ho:s.heap.get? it=some o)(hc:o.cls=.type n)(hd:o.data=.fields vs)
  (hn:["enumerate","zip","dict_itemiterator","dict_reverseitemiterator","odict_iterator","itertools.zip_longest","itertools.pairwise"].contains n=false) (hQ:Q () s):wpAny M A (letOwnedTupleGo tg (.ref it) u) Q E s:=by
 unfold letOwnedTupleGo
 cases tg <;> first
  | exact wpAny_pure hQ
  | (cases u <;> first
    | exact wpAny_pure hQ
    | (refine wpAny_bind (wpAny_load ho ?_)
       rw[hc,hd]
       show wpAny M A (if (["enumerate","zip","dict_itemiterator","dict_reverseitemiterator","odict_iterator","itertools.zip_longest","itertools.pairwise"].contains n&&vs[0]? == some (rawInt _))=true then _ else _) Q E s
       rw[if_neg (by intro h;rw[hn,ψc1] at h;cases h)]
       exact wpAny_pure hQ))
def Itl(K:ψa)(a:Addr):It :=
 ⟨λi H=>∃xs x,SqL K H a xs∧xs[i]?=some x,λi H x H'=>H'=H∧∀xs,SqL K H a xs→xs[i]?=some x,λi H=>∃xs,SqL K H a xs∧xs.length≤i⟩
def Itt(K:ψa)(a:Addr):It :=
 ⟨λi H=>∃xs x,SqT K H a xs∧xs[i]?=some x,λi H x H'=>H'=H∧∀xs,SqT K H a xs→xs[i]?=some x,λi H=>∃xs,SqT K H a xs∧xs.length≤i⟩
def Itr(lo:Int)(n:Nat):It:=⟨λi _=>i<n,λi H x H'=>H'=H∧x=.int (lo+i),λi _=>n≤i⟩
theorem ztb{P:Program}{w:World}{K:ψa}{tg:Expr}(a it:Addr):zxS P w K tg (Itl K a) [it] it (λi h=>h.IsListIter it a i) where
 mem:=by simp
 obj:=λi h st b hb=>by
  have e:b=it:=by simpa using hb
  subst e
  obtain⟨o,e,c,d⟩:=st
  exact⟨o,e,λv z=>by rw[d] at z;cases z⟩
 keep:=λi h h' st k=>st.at λo e=>k it (by simp) o e
 item:=by
  intro X hP hw hK hc i pins s σ H E I hf st hg
  subst hP hw hK
  obtain⟨xs,x,hq,hx⟩:=hg
  obtain⟨its,rv,p,hz⟩:=I.list hq
  obtain⟨u,hu,ru⟩:=rv.get hx
  obtain⟨f0,f1,f2,f3,f4,f5⟩:=hf it (by simp)
  refine wpAny_pyNext_list_item st p.isList (x:=u) (by simpa using hu) λh' st' sb=>?_
  have I1:Inv X pins σ H { s with heap:=h' }:=I.turned (t':=s.toks) (λb o hb e=>(sb.2 b hb).trans e) f0 f1 f3 f4 f5
  obtain⟨o,e,c,d⟩:=id st'
  exact⟨u,rfl,zyr (s:={ s with heap:=h' }) e c d (by decide) ⟨x,H,I1,ru,⟨rfl,λys hy=>by rw[I.list_inj hy hq];exact hx⟩,st',λb hb=>(hf b hb).1⟩⟩
 done:=by
  intro X hP hw hK hc i pins s σ H E I hf st hg
  subst hP hw hK
  obtain⟨xs,hq,hx⟩:=hg
  obtain⟨its,rv,p,hz⟩:=I.list hq
  obtain⟨f0,f1,f2,f3,f4,f5⟩:=hf it (by simp)
  have hl:=rv.length
  exact wpAny_pyNext_list_end (I.ok.hd hc) st p.isList (by simp;(first|lia|omega)) λh' eb=>⟨rfl,I.turned (t':=s.toks) (λb o hb e=>eb b o hb e) f0 f1 f3 f4 f5⟩
 self:=λ_ _ _ _ _ st h=>wpAny_pyIter_listiter st h
theorem zpS{P:Program}{w:World}{K:ψa}{tg:Expr}(a it:Addr):zxS P w K tg (Itt K a) [it] it (λi h=>h.IsTupleIter it a i) where
 mem:=by simp
 obj:=λi h st b hb=>by
  have e:b=it:=by simpa using hb
  subst e
  obtain⟨o,e,c,d⟩:=st
  exact⟨o,e,λv z=>by rw[d] at z;cases z⟩
 keep:=λi h h' st k=>st.at λo e=>k it (by simp) o e
 item:=by
  intro X hP hw hK hc i pins s σ H E I hf st hg
  subst hP hw hK
  obtain⟨xs,x,hq,hx⟩:=hg
  obtain⟨its,rv,p,hz⟩:=I.tuple hq
  obtain⟨u,hu,ru⟩:=rv.get hx
  obtain⟨f0,f1,f2,f3,f4,f5⟩:=hf it (by simp)
  refine wpAny_pyNext_tuple_item st (show s.heap.IsTuple a its.toArray from p) (x:=u) (by simpa using hu) λh' st' sb=>?_
  have I1:Inv X pins σ H { s with heap:=h' }:=I.turned (t':=s.toks) (λb o hb e=>(sb.2 b hb).trans e) f0 f1 f3 f4 f5
  obtain⟨o,e,c,d⟩:=id st'
  exact⟨u,rfl,zyr (s:={ s with heap:=h' }) e c d (by decide) ⟨x,H,I1,ru,⟨rfl,λys hy=>by rw[I.tuple_inj hy hq];exact hx⟩,st',λb hb=>(hf b hb).1⟩⟩
 done:=by
  intro X hP hw hK hc i pins s σ H E I hf st hg
  subst hP hw hK
  obtain⟨xs,hq,hx⟩:=hg
  obtain⟨its,rv,p,hz⟩:=I.tuple hq
  obtain⟨f0,f1,f2,f3,f4,f5⟩:=hf it (by simp)
  have hl:=rv.length
  exact wpAny_pyNext_tuple_end (I.ok.hd hc) st (show s.heap.IsTuple a its.toArray from p) (by simp;(first|lia|omega)) λh' eb=>⟨rfl,I.turned (t':=s.toks) (λb o hb e=>eb b o hb e) f0 f1 f3 f4 f5⟩
 self:=λ_ _ _ _ _ st h=>wpAny_pyIter_tupleiter st h
theorem zpG{P:Program}{w:World}{K:ψa}{tg:Expr}(it:Addr)(lo:Int)(n:Nat):zxS P w K tg (Itr lo n) [it] it (λi h=>IsRangeIter h it (lo+(i:Nat)*1) ((n:Int) - (i:Nat)) 1) where
 mem:=by simp
 obj:=λi h st b hb=>by
  have e:b=it:=by simpa using hb
  subst e
  exact⟨_,st,λv z=>by
   have z':Data.fields _=Data.cell v:=z
   cases z'⟩
 keep:=λi h h' st k=>k it (by simp) _ st
 item:=by
  intro X hP hw hK hc i pins s σ H E I hf st hg
  subst hP hw hK
  obtain⟨f0,f1,f2,f3,f4,f5⟩:=hf it (by simp)
  have W:=Walks.range (prog:=X.prog) (w:=X.w) (I.ok.hd hc) it lo 1 n
  refine W.item i s _ _ hg st λv h' tk hv st' kk=>?_
  obtain⟨t,rfl⟩:=hv
  have I1:Inv X pins σ H { s with heap:=h',toks:=tk }:=I.turned (λb o hb e=>kk b o (by simpa using hb) e) f0 f1 f3 f4 f5
  refine⟨_,rfl,zyr (s:={ s with heap:=h',toks:=tk }) (n:="range_iterator") st' rfl rfl (by decide) ⟨.int (lo+i),H,I1,⟨t,?_⟩,⟨rfl,rfl⟩,st',λb hb=>(hf b hb).1⟩⟩
  rw[Int.mul_one]
 done:=by
  intro X hP hw hK hc i pins s σ H E I hf st hg
  subst hP hw hK
  obtain⟨f0,f1,f2,f3,f4,f5⟩:=hf it (by simp)
  exact wpAny_pyNext_range_end (I.ok.hd hc) st (by have:n≤i:=hg;(first|lia|omega)) λh' eb=>⟨rfl,I.turned (t':=s.toks) (λb o hb e=>eb b o hb e) f0 f1 f3 f4 f5⟩
 self:=λ_ _ _ _ _ st h=>wpAny_pyIter_rangeiter st h
end L2
namespace L2
open PySem PySem.Spec PyProof.Rows
section
variable {X:Cx} {tg:Expr}
def zdO(K:ψa)(tl:TE):TI:=λσ H R=>tl σ H λx H1=>∃a,x=.ref a∧(∃xs,SqL K H1 a xs)∧R (Itl K a) H1
def iTup(K:ψa)(tl:TE):TI:=λσ H R=>tl σ H λx H1=>∃a,x=.ref a∧(∃xs,SqT K H1 a xs)∧R (Itt K a) H1
theorem zb0{l:Expr}{tl:TE}(hl:PE X l tl):PI X tg l (zdO X.K tl):=by
 intro pins s σ H R I h
 refine thn (hl pins s σ H _ I h) λv s1 hQ'=>?_
 obtain⟨x,H1,I1,r1,q1⟩:=hQ'
 obtain⟨a,e,⟨xs,hq⟩,q⟩:=q1
 subst e
 cases r1
 obtain⟨its,rv,p,hz⟩:=I1.list hq
 refine wpAny_pyIter_list p.isList ?_
 refine⟨s1.heap.objs.size,[s1.heap.objs.size],_,_,H1,rfl,I1.kept (t':=s1.toks) λb o e=>Heap.get?_push_of_some _ e,ztb a _,⟨_,Heap.get?_push_size _ rfl,rfl,rfl⟩,λb hb=>?_,q⟩
 have e:b=s1.heap.objs.size:=by simpa using hb
 subst e
 exact I1.fpOk (ψh _) (I1.hok.fresh (ψh _))
theorem zAm{l:Expr}{tl:TE}(hl:PE X l tl):PI X tg l (iTup X.K tl):=by
 intro pins s σ H R I h
 refine thn (hl pins s σ H _ I h) λv s1 hQ'=>?_
 obtain⟨x,H1,I1,r1,q1⟩:=hQ'
 obtain⟨a,e,⟨xs,hq⟩,q⟩:=q1
 subst e
 cases r1
 obtain⟨its,rv,p,hz⟩:=I1.tuple hq
 refine wpAny_pyIter_tuple (show s1.heap.IsTuple a its.toArray from p) ?_
 refine⟨s1.heap.objs.size,[s1.heap.objs.size],_,_,H1,rfl,I1.kept (t':=s1.toks) λb o e=>Heap.get?_push_of_some _ e,zpS a _,⟨_,Heap.get?_push_size _ rfl,rfl,rfl⟩,λb hb=>?_,q⟩
 have e:b=s1.heap.objs.size:=by simpa using hb
 subst e
 exact I1.fpOk (ψh _) (I1.hok.fresh (ψh _))
theorem zt3{pins:List (Addr×Obj)}{σ:St}{H:Hp}{s:Shared}{R:It→Hp→Prop}{E:Value→Shared→Prop}{lo hi:Int}{t u v:Tok}{tk:Nat}(I:Inv X pins σ H s)(h1:-(2 ^ 62)≤lo)(h2:lo<2 ^ 62)(h3:-(2 ^ 62)≤hi)(h4:hi<2 ^ 62)
  (q:R (Itr lo (hi - lo).toNat) H):wpAny (model X.prog X.w) X.A (pyIter (.ref s.heap.objs.size)) (PIE X pins σ tg R) E { s with heap:=s.heap.push { cls:=.type "range",data:=.fields #[.int lo t,.int hi u,.int 1 v] },toks:=tk }:=by
 refine wpAny_pyIter_range (IsRange.new ..) (small_one h1 h2 h3 h4) ?_
 have I1:Inv X pins σ H { s with heap:=s.heap.push { cls:=.type "range",data:=.fields #[.int lo t,.int hi u,.int 1 v] },toks:=tk }:=I.kept λb o e=>Heap.get?_push_of_some _ e
 refine⟨(s.heap.push { cls:=.type "range",data:=.fields #[.int lo t,.int hi u,.int 1 v] }).objs.size,[(s.heap.push { cls:=.type "range",data:=.fields #[.int lo t,.int hi u,.int 1 v] }).objs.size],_,_,H,rfl,
  I1.kept (t':=tk) λb o e=>Heap.get?_push_of_some _ e,zpG _ lo (hi - lo).toNat,?_,λb hb=>?_,q⟩
 ·have e1:lo+((0:Nat):Int)*1=lo:=by simp
  have e2:(((hi - lo).toNat:Nat):Int) - ((0:Nat):Int)=Builtin.Range.rangeSize lo hi 1:=by rw[rangeSize_one];split <;> (first|lia|omega)
  show IsRangeIter _ _ (lo+((0:Nat):Int)*1) ((((hi - lo).toNat:Nat):Int) - ((0:Nat):Int)) 1
  rw[e1,e2]
  exact Heap.get?_push_size _ rfl
 ·have e:b=(s.heap.push { cls:=.type "range",data:=.fields #[.int lo t,.int hi u,.int 1 v] }).objs.size:=by simpa using hb
  subst e
  exact I1.fpOk (ψh _) (I1.hok.fresh (ψh _))
def zmW(ta:TA):TI:=λσ H R=>ta σ H λvs H1=>∃j:Int,vs=[.int j]∧-(2 ^ 62)≤j∧j<2 ^ 62∧R (Itr 0 j.toNat) H1
theorem zfr{a:Expr}{ta:TA}{p pos:Pos}(hg:Gl X "range")(hm:X.mg "range"=none)(ha:PA X [a] ta)(hs:starEach [a] X.env=[(false,eval a X.env)]:=by rfl):PI X tg (.Call (.Name "range" p) [a] [] pos) (zmW ta):=by
 intro pins s σ H R I h
 refine Call_ (zid I hg hm boot_range (ψj1 (thn (ha pos pins s σ H _ I h) λus s1 hQ'=>?_) hs rfl))
 obtain⟨vs,H1,I1,r1,q1⟩:=hQ'
 obtain⟨j,e,q1,q2,q⟩:=q1
 subst e
 cases r1 with
 | cons r rr =>
  cases rr
  obtain⟨t,rfl⟩:=r
  exact call_range_1 (zt3 I1 (by (first|lia|omega)) (by (first|lia|omega)) q1 q2 (by simpa using q))
def zka(wi:TI)(g:TG)(tb:TS):TS:=λD σ H=>wi σ H λJ H1=>∃W:Nat→Nat→St→Hp→Prop,(∃m,W 0 m σ H1)∧∀i m σ H,W i m σ H →
 (J.stop i H∧D.nx σ H)∨(J.go i H∧∃N:St→Hp→Prop,(∀σ' H',N σ' H'→∃m',m'<m∧W (i+1) m' σ' H')∧∀x H',J.yld i H x H'→g x σ H' λσ2 H2=>tb { D with nx:=N,ct:=N,bk:=D.nx } σ2 H2)
def zks(fp:List Addr)(h:Heap):List (Addr×Obj):=fp.filterMap λb=>(h.get? b).map λo=>(b,o)
theorem zeE{fp:List Addr}{h:Heap}{b:Addr}{o:Obj}(hb:b∈fp)(e:h.get? b=some o):(b,o)∈zks fp h:=List.mem_filterMap.mpr ⟨b,hb,by rw[e];rfl⟩
theorem zsZ{fp:List Addr}{h:Heap}{p:Addr×Obj}(hp:p∈zks fp h):p.1∈fp∧h.get? p.1=some p.2:=by
 obtain⟨b,hb,e⟩:=List.mem_filterMap.mp hp
 cases q:h.get? b with
 | none=>rw[q] at e;cases e
 | some o =>
  rw[q] at e
  have e':(b,o)=p:=Option.some.inj e
  subst e'
  exact⟨hb,q⟩
theorem Inv.pinned{pins:List (Addr×Obj)}{σ:St}{H:Hp}{s:Shared}{fp:List Addr}(I:Inv X pins σ H s)(hf:∀b∈fp,zl2 X pins H b)(ho:∀b∈fp,∃o,s.heap.get? b=some o∧∀v,o.data≠.cell v):Inv X (pins++zks fp s.heap) σ H s :=
 I.pins_of λp hp=>(List.mem_append.mp hp).elim (λz=>I.pin p (ψA _ z)) λz=>by
  obtain⟨hb,e⟩:=zsZ z
  obtain⟨f0,f1,f2,_⟩:=hf p.1 hb
  obtain⟨o,e',d⟩:=ho p.1 hb
  rw[e] at e';cases e'
  exact⟨e,f0,f1,f2,d⟩
theorem Inv.unpinned{pins pl:List (Addr×Obj)}{σ:St}{H:Hp}{s:Shared}(I:Inv X (pins++pl) σ H s):Inv X pins σ H s:=I.pins_of λp hp=>I.pin p (ψA _ (List.mem_append_left _ hp))
theorem zdA{iter:Expr}{body:List Stmt}{wi:TI}{g:TG}{tb:TS}{pos:Pos}(hp:PassesOwn (model X.prog X.w) X.A X.env X.xe)(hc:X.calm=true)(hi:PI X tg iter wi)(hg:PG X tg g)(hb:PSs X body tb)
  (hs:∀x,foldedSetIterable iter X.env x=pure x:=by intro _;rfl):PS X (.For tg iter body [] pos) (zka wi g tb):=by
 intro pins s σ H D I h
 refine wpAny_For (thn (hi pins s σ H _ I h) λv s1 h1=>thn h1 λitv s2 h2=>?_) hs
 obtain⟨it,fp,tn,J,H2,e,I2,T,st2,f2,W,⟨m0,w0⟩,zpB⟩:=h2
 subst e
 have stat:∀{H':Hp},(∀b∈fp,H' b=none)→∀b∈fp,zl2 X pins H' b:=λhn b hb=>⟨hn b hb,(f2 b hb).2⟩
 refine codeAny_forLoop_any (λn s'=>∃i σ' H',Inv X pins σ' H' s'∧tn i s'.heap∧(∀b∈fp,H' b=none)∧W i n σ' H') ?_ m0 ⟨0,σ,H2,I2,st2,λb hb=>(f2 b hb).1,w0⟩
 rintro n s3 ⟨i,σ3,H3,I3,st3,fr3,w3⟩
 rcases zpB i n σ3 H3 w3 with ⟨stop,qn⟩ | ⟨go,N,hN,step⟩
 ·refine wpAny_passesOwn hp (thn (T.done X rfl rfl rfl hc i pins s3 σ3 H3 X.xe I3 (stat fr3) st3 stop) λr s4 hQ'=>?_)
  obtain⟨hr,I4⟩:=hQ'
  subst hr
  exact wpAny_execs_nil ⟨σ3,H3,I4,qn⟩
 ·refine wpAny_passesOwn hp (thn (T.item X rfl rfl rfl hc i pins s3 σ3 H3 X.xe I3 (stat fr3) st3 go) λr s4 hQ'=>?_)
  obtain⟨u,hr,h4⟩:=hQ'
  subst hr
  refine wpAny_passesOwn hp (thn h4 λ_ s5 hQ'=>?_)
  obtain⟨x,H5,I5,r5,y5,st5,fr5⟩:=hQ'
  have I5':=I5.pinned (stat fr5) (T.obj _ _ st5)
  refine wpAny_passesOwn hp (thn (hg _ s5 σ3 H5 x u _ I5' r5 (step x H5 y5)) λ_ s6 hQ'=>?_)
  obtain⟨σ6,H6,I6,q6⟩:=hQ'
  refine wpAny_passesOwn hp (thn (hb _ s6 σ6 H6 _ I6 q6) λf s7 q7=>?_)
  have again:∀{σ7:St} {H7:Hp},Inv X (pins++zks fp s5.heap) σ7 H7 s7→N σ7 H7→∃m,m<n∧∃i σ' H',Inv X pins σ' H' s7∧tn i s7.heap∧(∀b∈fp,H' b=none)∧W i m σ' H':=fun {σ7 H7} I7 n7=>by
   obtain⟨m',hm,w7⟩:=hN σ7 H7 n7
   refine⟨m',hm,i+1,σ7,H7,I7.unpinned,T.keep _ _ _ st5 λb hb o e=>(I7.pin (b,o) (ψA _ (ψA _ (zeE hb e)))).1,λb hb=>?_,w7⟩
   obtain⟨o,e,d⟩:=T.obj _ _ st5 b hb
   exact(I7.pin (b,o) (ψA _ (ψA _ (zeE hb e)))).2.1
  cases f with
  | next=>obtain⟨σ7,H7,I7,n7⟩:=q7;exact again I7 n7
  | cont=>obtain⟨σ7,H7,I7,n7⟩:=q7;exact again I7 n7
  | brk=>obtain⟨σ7,H7,I7,q7⟩:=q7;exact⟨σ7,H7,I7.unpinned,q7⟩
  | ret v=>obtain⟨x7,σ7,H7,I7,r7,q7⟩:=q7;exact⟨x7,σ7,H7,I7.unpinned,r7,q7⟩
end
theorem zuA{K:ψa}{a:Addr}{xs:List V}{g:TG}{tb:TS}{D:zjo}{σ:St}{H:Hp}(Pv:Nat→St→Hp→Prop)(h0:Pv 0 σ H)(hl:∀i σ H,i≤xs.length→Pv i σ H→SqL K H a xs)
  (hs:∀i x σ H,xs[i]?=some x→Pv i σ H→g x σ H λσ2 H2=>tb { D with nx:=Pv (i+1),ct:=Pv (i+1),bk:=D.nx } σ2 H2) (hd:∀σ H,Pv xs.length σ H→D.nx σ H) :
  ∃W:Nat→Nat→St→Hp→Prop,(∃m,W 0 m σ H)∧∀i m σ H,W i m σ H →
   ((Itl K a).stop i H∧D.nx σ H)∨((Itl K a).go i H∧∃N:St→Hp→Prop,(∀σ' H',N σ' H'→∃m',m'<m∧W (i+1) m' σ' H')∧∀x H',(Itl K a).yld i H x H'→g x σ H' λσ2 H2=>tb { D with nx:=N,ct:=N,bk:=D.nx } σ2 H2):=by
 refine⟨λi m σ H=>m=xs.length - i∧i≤xs.length∧Pv i σ H,⟨xs.length,by simp,ψh1 _,h0⟩,?_⟩
 rintro i m σ H ⟨rfl,hi,p⟩
 have q:=hl i σ H hi p
 by_cases hlt:i<xs.length
 ·refine .inr ⟨⟨xs,xs[i],q,by simp[hlt]⟩,Pv (i+1),λσ' H' p'=>⟨xs.length - (i+1),by (first|lia|omega),rfl,hlt,p'⟩,λx H' y=>?_⟩
  obtain⟨e,y⟩:=y
  subst e
  exact hs i x σ _ (y xs q) p
 ·have e:i=xs.length:=by (first|lia|omega)
  subst e
  exact .inl ⟨⟨xs,q,ψh _⟩,hd σ H p⟩
theorem zra{lo:Int}{n:Nat}{g:TG}{tb:TS}{D:zjo}{σ:St}{H:Hp}(Pv:Nat→St→Hp→Prop)(h0:Pv 0 σ H)
  (hs:∀i σ H,i<n→Pv i σ H→g (.int (lo+i)) σ H λσ2 H2=>tb { D with nx:=Pv (i+1),ct:=Pv (i+1),bk:=D.nx } σ2 H2) (hd:∀σ H,Pv n σ H→D.nx σ H) :
  ∃W:Nat→Nat→St→Hp→Prop,(∃m,W 0 m σ H)∧∀i m σ H,W i m σ H →
   ((Itr lo n).stop i H∧D.nx σ H)∨((Itr lo n).go i H∧∃N:St→Hp→Prop,(∀σ' H',N σ' H'→∃m',m'<m∧W (i+1) m' σ' H')∧∀x H',(Itr lo n).yld i H x H'→g x σ H' λσ2 H2=>tb { D with nx:=N,ct:=N,bk:=D.nx } σ2 H2):=by
 refine⟨λi m σ H=>m=n - i∧i≤n∧Pv i σ H,⟨n,by simp,ψh1 _,h0⟩,?_⟩
 rintro i m σ H ⟨rfl,hi,p⟩
 by_cases hlt:i<n
 ·refine .inr ⟨hlt,Pv (i+1),λσ' H' p'=>⟨n - (i+1),by (first|lia|omega),rfl,hlt,p'⟩,λx H' y=>?_⟩
  obtain⟨e,y⟩:=y
  subst e y
  exact hs i σ _ hlt p
 ·have e:i=n:=by (first|lia|omega)
  subst e
  exact .inl ⟨ψh _,hd σ H p⟩
theorem zkW{c:TT}{tb:TS}{D:zjo}{σ:St}{H:Hp}(Pv:St→Hp→Prop)(μ:St→Hp→Nat)(h0:Pv σ H)
  (hs:∀σ H,Pv σ H→c σ H λb H1=>if b=true then tb { D with nx:=λσ' H'=>Pv σ' H'∧μ σ' H'<μ σ H,ct:=λσ' H'=>Pv σ' H'∧μ σ' H'<μ σ H,bk:=D.nx } σ H1 else D.nx σ H1)
  (mono:∀σ H Q Q',(∀b H1,Q b H1→Q' b H1)→c σ H Q→c σ H Q'):zmT c tb D σ H:=by
 refine⟨λm σ H=>m=μ σ H∧Pv σ H,⟨_,rfl,h0⟩,?_⟩
 rintro m σ H ⟨rfl,p⟩
 refine mono σ H _ _ (λb H1 q=>?_) (hs σ H p)
 cases b with
 | true=>exact⟨_,λσ' H' ⟨p',l⟩=>⟨_,l,rfl,p'⟩,q⟩
 | false=>exact q
end L2
namespace L2
open PySem PySem.Spec PyProof.Rows
abbrev R2:=V→V→Hp→VK→Prop
def OpR(X:Cx)(f:Value→Value→Sem Value)(r:R2):Prop :=
 ∀(pins:List (Addr×Obj)) (s:Shared) (σ:St) (H:Hp) (x y:V) (v u:Value) (Q:VK),Inv X pins σ H s→zee x v→zee y u→r x y H Q →
  wpAny (model X.prog X.w) X.A (f v u) (EP X pins σ Q) X.xe s
def UnR(X:Cx)(f:Value→Sem Value)(r:V→Hp→VK→Prop):Prop :=
 ∀(pins:List (Addr×Obj)) (s:Shared) (σ:St) (H:Hp) (x:V) (v:Value) (Q:VK),Inv X pins σ H s→zee x v→r x H Q →
  wpAny (model X.prog X.w) X.A (f v) (EP X pins σ Q) X.xe s
def zjM(X:Cx)(f:Value)(r:List V→Hp→VK→Prop):Prop :=
 ∀(pins:List (Addr×Obj)) (s:Shared) (σ:St) (H:Hp) (xs:List V) (us:List Value) (Q:VK),Inv X pins σ H s→zcH xs us→r xs H Q →
  wpAny (model X.prog X.w) X.A (call f us) (EP X pins σ Q) X.xe s
def TruR(X:Cx)(r:V→Hp→(Bool→Hp→Prop)→Prop):Prop :=
 ∀(pins:List (Addr×Obj)) (s:Shared) (σ:St) (H:Hp) (x:V) (v:Value) (Q:Bool→Hp→Prop),Inv X pins σ H s→zee x v→r x H Q →
  wpAny (model X.prog X.w) X.A (truthy v) (TP X pins σ Q) X.xe s
def tOp(r:R2)(ta tb:TE):TE:=λσ H Q=>ta σ H λx H1=>tb σ H1 λy H2=>r x y H2 Q
def tUn(r:V→Hp→VK→Prop)(ta:TE):TE:=λσ H Q=>ta σ H λx H1=>r x H1 Q
def rI(C:Int→Int→Prop)(g:Int→Int→V):R2:=λx y H Q=>∃i j,x=.int i∧y=.int j∧C i j∧Q (g i j) H
def rI0(g:Int→Int→V):R2:=λx y H Q=>∃i j,x=.int i∧y=.int j∧Q (g i j) H
def rU(g:Int→V):V→Hp→VK→Prop:=λx H Q=>∃i,x=.int i∧Q (g i) H
section
variable {X:Cx} {a b c:Expr} {ta tb tc:TE} {pos:Pos}
theorem binT(ha:PE X a ta)(hb:PE X b tb){pins:List (Addr×Obj)}{s:Shared}{σ:St}{H:Hp}{R:V→V→Hp→Prop}(I:Inv X pins σ H s)
  (h:ta σ H λx H1=>tb σ H1 λy H2=>R x y H2) {Q:Value→Shared→Prop} {f:Value→Value→Sem Value}
  (hf:∀v u s2 x y H2,Inv X pins σ H2 s2→zee x v→zee y u→R x y H2→wpAny (model X.prog X.w) X.A (f v u) Q X.xe s2) :
  wpAny (model X.prog X.w) X.A (eval a X.env) (λv s₁=>wpAny (model X.prog X.w) X.A (eval b X.env) (λu s₂=>wpAny (model X.prog X.w) X.A (f v u) Q X.xe s₂) X.xe s₁) X.xe s:=by
 refine thn (ha pins s σ H _ I h) λv s1 hQ'=>?_
 obtain⟨x,H1,I1,r1,q1⟩:=hQ'
 refine thn (hb pins s1 σ H1 _ I1 q1) λu s2 hQ'=>?_
 obtain⟨y,H2,I2,r2,q2⟩:=hQ'
 exact hf v u s2 x y H2 I2 r1 r2 q2
theorem zao{op:Operator}{r:R2}(ho:OpR X (binaryOp op) r)(ha:PE X a ta)(hb:PE X b tb):PE X (.BinOp a op b pos) (tOp r ta tb):=by
 intro pins s σ H Q I h
 exact wpAny_BinOp (binT ha hb I h λv u s2 x y H2 I2 rx ry q=>ho pins s2 σ H2 x y v u Q I2 rx ry q)
theorem ztP{op:UnaryOp}{r:V→Hp→VK→Prop}(ho:UnR X (unaryOp op) r)(ha:PE X a ta):PE X (.UnaryOp op a pos) (tUn r ta):=by
 intro pins s σ H Q I h
 exact UnaryOp_ (thn (ha pins s σ H _ I h) λv s1 ⟨x,H1,I1,r1,q1⟩=>ho pins s1 σ H1 x v Q I1 r1 q1)
theorem opI{f:Value→Value→Sem Value}{C:Int→Int→Prop}{g:Int→Int→Int}
  (rule:∀(i j:Int) (t u:Tok) (s:Shared) (Q:Value→Shared→Prop) (E:Value→Shared→Prop),C i j→Q (.int (g i j) s.toks) { s with toks:=s.toks+1 }→wpAny (model X.prog X.w) X.A (f (.int i t) (.int j u)) Q E s) :
  OpR X f (rI C λi j=>.int (g i j)):=by
 intro pins s σ H x y v u Q I rx ry h
 obtain⟨i,j,rfl,rfl,hc,q⟩:=h
 obtain⟨t,rfl⟩:=rx
 obtain⟨t',rfl⟩:=ry
 exact rule i j t t' s _ _ hc ⟨.int (g i j),H,I.tok _,⟨_,rfl⟩,q⟩
theorem opI0{f:Value→Value→Sem Value}{g:Int→Int→Int}
  (rule:∀(i j:Int) (t u:Tok) (s:Shared) (Q:Value→Shared→Prop) (E:Value→Shared→Prop),Q (.int (g i j) s.toks) { s with toks:=s.toks+1 }→wpAny (model X.prog X.w) X.A (f (.int i t) (.int j u)) Q E s) :
  OpR X f (rI0 λi j=>.int (g i j)):=by
 intro pins s σ H x y v u Q I rx ry h
 obtain⟨i,j,rfl,rfl,q⟩:=h
 obtain⟨t,rfl⟩:=rx
 obtain⟨t',rfl⟩:=ry
 exact rule i j t t' s _ _ ⟨.int (g i j),H,I.tok _,⟨_,rfl⟩,q⟩
theorem opB0{f:Value→Value→Sem Value}{g:Int→Int→Bool}
  (rule:∀(i j:Int) (t u:Tok) (s:Shared) (Q:Value→Shared→Prop) (E:Value→Shared→Prop),Q (.bool (g i j)) s→wpAny (model X.prog X.w) X.A (f (.int i t) (.int j u)) Q E s) :
  OpR X f (rI0 λi j=>.bl (g i j)):=by
 intro pins s σ H x y v u Q I rx ry h
 obtain⟨i,j,rfl,rfl,q⟩:=h
 obtain⟨t,rfl⟩:=rx
 obtain⟨t',rfl⟩:=ry
 exact rule i j t t' s _ _ ⟨.bl (g i j),H,I,rfl,q⟩
def zvM(i j:Int):Prop:=0≤j∧j≤1000000∧i.natAbs<2 ^ 64
theorem zco:OpR X (binaryOp .Add) (rI0 λi j=>.int (i+j)):=opI0 λ_ _ _ _ _ _ _ q=>add_int q
theorem zcF:OpR X (binaryOp .Sub) (rI0 λi j=>.int (i - j)):=opI0 λ_ _ _ _ _ _ _ q=>sub_int q
theorem zrL:OpR X (binaryOp .Mod) (rI (λ_ j=>0<j) λi j=>.int (i % j)):=opI λi j _ _ _ _ _ hc q=>by
 have h1:(0:Int)<j:=hc
 exact mod_int' (by (first|lia|omega)) (by rw[ψy1 i (by (first|lia|omega))];exact q)
theorem zxL:OpR X (binaryOp .Mod) (rI (λ_ j=>j≠0) λi j=>.int (i.fmod j)):=opI λ_ _ _ _ _ _ _ hc q=>mod_int' hc q
theorem zky:OpR X (binaryOp .Pow) (rI zvM λi j=>.int (i ^ j.toNat)):=opI λ_ _ _ _ _ _ _ hc q=>pow_int_small hc.1 hc.2.1 hc.2.2 q
theorem unI{f:Value→Sem Value}{g:Int→Int}
  (rule:∀(i:Int) (t:Tok) (s:Shared) (Q:Value→Shared→Prop) (E:Value→Shared→Prop),Q (.int (g i) s.toks) { s with toks:=s.toks+1 }→wpAny (model X.prog X.w) X.A (f (.int i t)) Q E s) :
  UnR X f (rU λi=>.int (g i)):=by
 intro pins s σ H x v Q I rx h
 obtain⟨i,rfl,q⟩:=h
 obtain⟨t,rfl⟩:=rx
 exact rule i t s _ _ ⟨.int (g i),H,I.tok _,⟨_,rfl⟩,q⟩
theorem zpa:UnR X (unaryOp .USub) (rU λi=>.int (-i)):=unI λ_ _ _ _ _ q=>neg_int q
end
def zzC:V→V→Bool
 | .non,.non=>true | .non,.int _=>true | .int _,.non=>true | .non,.bl _=>true | .bl _,.non=>true | .non,.str _=>true | .str _,.non=>true
 | .int _,.int _=>true | .bl _,.bl _=>true | .str _,.str _=>true | .byt _,.byt _=>true
 | .int _,.str _=>true | .str _,.int _=>true | .bl _,.str _=>true | .str _,.bl _=>true
 | _,_=>false
def rEq:R2:=λx y H Q=>zzC x y=true∧Q (.bl (decide (x=y))) H
def rNe:R2:=λx y H Q=>zzC x y=true∧Q (.bl (!decide (x=y))) H
theorem zsl{i j:Int}:decide (V.int i=V.int j)=(i == j):=by
 rw[ψm1]
 simp
theorem zv1{i j:Bool}:decide (V.bl i=V.bl j)=(i == j):=by
 rw[ψm1]
 simp
theorem ztu{i j:Str}:decide (V.str i=V.str j)=(i == j):=by
 rw[ψm1]
 simp
theorem zqw{i j:Array UInt8}:decide (V.byt i=V.byt j)=(i.toList == j.toList):=by
 rw[ψm1]
 cases i
 cases j
 simp
section
variable {X:Cx} {a b c:Expr} {ta tb tc:TE} {pos:Pos}
theorem zce{pins:List (Addr×Obj)}{σ:St}{H:Hp}{s:Shared}{Q:VK}{k k':Bool}(I:Inv X pins σ H s)(q:Q (.bl k) H)(e:k=k'):EP X pins σ Q (.bool k') s:=by
 subst e
 exact⟨.bl k,H,I,rfl,q⟩
theorem zp1:OpR X (compareOp .Eq) rEq:=by
 intro pins s σ H x y v u Q I rx ry h
 obtain⟨hs,q⟩:=h
 cases x with
 | non =>
  cases rx
  cases y with
  | non=>cases ry;exact PySem.EqNone.eq_none_none (zce I q (by simp))
  | bl j=>cases ry;exact PySem.EqNone.eq_none_bool (zce I q (by simp))
  | int j=>obtain⟨t',rfl⟩:=ry;exact PySem.EqNone.eq_none_int (zce I q (by simp))
  | str j=>obtain⟨t',rfl⟩:=ry;exact PySem.EqNone.eq_none_str (zce I q (by simp))
  | _=>exact absurd (show false=true from hs) ψO
 | bl i =>
  cases rx
  cases y with
  | non=>cases ry;exact PySem.EqNone.eq_bool_none (zce I q (by simp))
  | bl j=>cases ry;exact eq_bool (zce I q zv1)
  | str j=>obtain⟨t',rfl⟩:=ry;exact PySem.EqMixed.eq_bool_str (zce I q (by simp))
  | _=>exact absurd (show false=true from hs) ψO
 | int i =>
  obtain⟨t,rfl⟩:=rx
  cases y with
  | non=>cases ry;exact PySem.EqNone.eq_int_none (zce I q (by simp))
  | int j=>obtain⟨t',rfl⟩:=ry;exact eq_int (zce I q zsl)
  | str j=>obtain⟨t',rfl⟩:=ry;exact PySem.EqMixed.eq_int_str (zce I q (by simp))
  | _=>exact absurd (show false=true from hs) ψO
 | str i =>
  obtain⟨t,rfl⟩:=rx
  cases y with
  | non=>cases ry;exact PySem.EqNone.eq_str_none (zce I q (by simp))
  | bl j=>cases ry;exact PySem.EqMixed.eq_str_bool (zce I q (by simp))
  | int j=>obtain⟨t',rfl⟩:=ry;exact PySem.EqMixed.eq_str_int (zce I q (by simp))
  | str j=>obtain⟨t',rfl⟩:=ry;exact eq_str (zce I q ztu)
  | _=>exact absurd (show false=true from hs) ψO
 | byt i =>
  obtain⟨t,rfl⟩:=rx
  cases y with
  | byt j=>obtain⟨t',rfl⟩:=ry;exact PySem.W.eq_bytes (zce I q zqw)
  | _=>exact absurd (show false=true from hs) ψO
 | _=>cases y <;> exact absurd (show false=true from hs) ψO
theorem zi1:OpR X (compareOp .NotEq) rNe:=by
 intro pins s σ H x y v u Q I rx ry h
 obtain⟨hs,q⟩:=h
 cases x with
 | non =>
  cases rx
  cases y with
  | non=>cases ry;exact PySem.EqNone.ne_none_none (zce I q (by simp))
  | bl j=>cases ry;exact PySem.EqNone.ne_none_bool (zce I q (by simp))
  | int j=>obtain⟨t',rfl⟩:=ry;exact PySem.EqNone.ne_none_int (zce I q (by simp))
  | str j=>obtain⟨t',rfl⟩:=ry;exact PySem.EqNone.ne_none_str (zce I q (by simp))
  | _=>exact absurd (show false=true from hs) ψO
 | bl i =>
  cases rx
  cases y with
  | non=>cases ry;exact PySem.EqNone.ne_bool_none (zce I q (by simp))
  | bl j=>cases ry;exact ne_bool (zce I q (congrArg not zv1))
  | str j=>obtain⟨t',rfl⟩:=ry;exact PySem.EqMixed.ne_bool_str (zce I q (by simp))
  | _=>exact absurd (show false=true from hs) ψO
 | int i =>
  obtain⟨t,rfl⟩:=rx
  cases y with
  | non=>cases ry;exact PySem.EqNone.ne_int_none (zce I q (by simp))
  | int j=>obtain⟨t',rfl⟩:=ry;exact ne_int (zce I q (congrArg not zsl))
  | str j=>obtain⟨t',rfl⟩:=ry;exact PySem.EqMixed.ne_int_str (zce I q (by simp))
  | _=>exact absurd (show false=true from hs) ψO
 | str i =>
  obtain⟨t,rfl⟩:=rx
  cases y with
  | non=>cases ry;exact PySem.EqNone.ne_str_none (zce I q (by simp))
  | bl j=>cases ry;exact PySem.EqMixed.ne_str_bool (zce I q (by simp))
  | int j=>obtain⟨t',rfl⟩:=ry;exact PySem.EqMixed.ne_str_int (zce I q (by simp))
  | str j=>obtain⟨t',rfl⟩:=ry;exact ne_str (zce I q (congrArg not ztu))
  | _=>exact absurd (show false=true from hs) ψO
 | byt i =>
  obtain⟨t,rfl⟩:=rx
  cases y with
  | byt j=>obtain⟨t',rfl⟩:=ry;exact PySem.W.ne_bytes (zce I q (congrArg not zqw))
  | _=>exact absurd (show false=true from hs) ψO
 | _=>cases y <;> exact absurd (show false=true from hs) ψO
theorem zj6:OpR X (compareOp .Lt) (rI0 λi j=>.bl (decide (i<j))):=opB0 λ_ _ _ _ _ _ _ q=>lt_int q
theorem zlI:OpR X (compareOp .LtE) (rI0 λi j=>.bl (decide (i≤j))):=opB0 λ_ _ _ _ _ _ _ q=>le_int q
theorem znD:OpR X (compareOp .Gt) (rI0 λi j=>.bl (decide (j<i))):=opB0 λ_ _ _ _ _ _ _ q=>gt_int q
theorem zjz:OpR X (compareOp .GtE) (rI0 λi j=>.bl (decide (j≤i))):=opB0 λ_ _ _ _ _ _ _ q=>ge_int q
theorem zz5:OpR X (compareOp .Is) (λx y H Q=>y=.non∧Q (.bl (decide (x=.non))) H):=by
 intro pins s σ H x y v u Q I rx ry h
 obtain⟨rfl,q⟩:=h
 cases ry
 refine is_none_gen (zce I q ?_)
 cases x <;> first
  | (cases rx;rfl)
  | (obtain⟨t,rfl⟩:=rx;rfl)
theorem zbd(b:Expr){op:CmpOp}(h:op≠.In:=by decide)(h2:op≠.NotIn:=by decide):behindInMarks op b=false:=by
 have e1:(op == CmpOp.In)=false:=by cases op <;> first | rfl | exact absurd rfl h
 have e2:(op == CmpOp.NotIn)=false:=by cases op <;> first | rfl | exact absurd rfl h2
 cases b <;> simp[behindInMarks,e1,e2]
theorem zcg{op:CmpOp}{r:R2}(ho:OpR X (compareOp op) r)(ha:PE X a ta)(hb:PE X b tb)(hm:behindInMarks op b=false):PE X (.Compare a [op] [b] pos) (tOp r ta tb):=by
 intro pins s σ H Q I h
 exact wpAny_Compare1 (binT ha hb I h λv u s2 x y H2 I2 rx ry q=>ho pins s2 σ H2 x y v u Q I2 rx ry q) hm
def zcp(t:TE):TT:=λσ H Q=>t σ H λx H'=>∃k,x=.bl k∧Q k H'
theorem zbi{op:CmpOp}{r:R2}(ho:OpR X (compareOp op) r)(ha:PE X a ta)(hb:PE X b tb)(hm:behindInMarks op b=false):PT X (.Compare a [op] [b] pos) (zcp (tOp r ta tb)):=by
 intro pins s σ H Q I h
 refine wpAny_isTrue_Compare1 (thn (ha pins s σ H _ I h) λv s1 ⟨x,H1,I1,r1,q1⟩=>thn (hb pins s1 σ H1 _ I1 q1) λu s2 ⟨y,H2,I2,r2,q2⟩ =>
  thn (ho pins s2 σ H2 x y v u _ I2 r1 r2 q2) λc s3 ⟨z,H3,I3,r3,k,e,q3⟩=>?_) hm
 subst e
 cases r3
 exact wpAny_truthy_bool ⟨H3,I3,q3⟩
def zmb(r r':R2)(ta tb tc:TE):TE:=λσ H Q=>ta σ H λx H1=>tb σ H1 λy H2=>r x y H2 λz H3=>∃k,z=.bl k ∧
 (if k=true then tc σ H3 λw' H4=>r' y w' H4 Q else Q (.bl false) H3)
theorem ztK{op op':CmpOp}{r r':R2}(ho:OpR X (compareOp op) r)(ho':OpR X (compareOp op') r')(ha:PE X a ta)(hb:PE X b tb)(hc:PE X c tc)
  (hm:lastMarks [op,op'] [b,c]=false:=by with_unfolding_all rfl):PE X (.Compare a [op,op'] [b,c] pos) (zmb r r' ta tb tc):=by
 intro pins s σ H Q I h
 refine Compare_chain (thn (ha pins s σ H _ I h) λv s1 ⟨x,H1,I1,r1,q1⟩=>chain_link (thn (hb pins s1 σ H1 _ I1 q1) λu s2 ⟨y,H2,I2,r2,q2⟩ =>
  thn (ho pins s2 σ H2 x y v u _ I2 r1 r2 q2) λd s3 ⟨z,H3,I3,r3,k,e,q3⟩=>?_)) hm
 subst e
 cases r3
 refine wpAny_truthy_bool ?_
 cases k with
 | false=>exact ite_ff ⟨.bl false,H3,I3,rfl,q3⟩
 | true=>exact ite_tt (chain_last (thn (hc pins s3 σ H3 _ I3 q3) λw' s4 ⟨z',H4,I4,r4,q4⟩=>ho' pins s4 σ H4 y z' u w' Q I4 r2 r4 q4))
theorem ztQ{op op':CmpOp}{r r':R2}(ho:OpR X (compareOp op) r)(ho':OpR X (compareOp op') r')(ha:PE X a ta)(hb:PE X b tb)(hc:PE X c tc)
  (hm:lastMarks [op,op'] [b,c]=false:=by with_unfolding_all rfl):PT X (.Compare a [op,op'] [b,c] pos) (zcp (zmb r r' ta tb tc)):=by
 intro pins s σ H Q I h
 refine isTrue_chain (thn (ha pins s σ H _ I h) λv s1 ⟨x,H1,I1,r1,q1⟩=>test_link (thn (hb pins s1 σ H1 _ I1 q1) λu s2 ⟨y,H2,I2,r2,q2⟩ =>
  thn (ho pins s2 σ H2 x y v u _ I2 r1 r2 q2) λd s3 ⟨z,H3,I3,r3,k,e,q3⟩=>?_)) hm
 subst e
 cases r3
 refine wpAny_truthy_bool ?_
 cases k with
 | false =>
  obtain⟨k',e',q'⟩:=q3
  cases e'
  exact ite_ff ⟨H3,I3,q'⟩
 | true =>
  refine ite_tt (test_last (thn (hc pins s3 σ H3 _ I3 q3) λw' s4 ⟨z',H4,I4,r4,q4⟩=>thn (ho' pins s4 σ H4 y z' u w' _ I4 r2 r4 q4) λd' s5 hQ'=>?_))
  obtain⟨z2,H5,I5,r5,k2,e2,q5⟩:=hQ'
  subst e2
  cases r5
  exact wpAny_truthy_bool ⟨H5,I5,q5⟩
def zzN(K:ψa)(x:V)(H:Hp)(k:Bool):Prop :=
 match x with
 | .non=>k=false
 | .bl b=>k=b
 | .int i=>k=(i != 0)
 | .str y=>y.length≤sizeLine∧k=((y.length:Int) != 0)
 | .byt y=>y.size≤sizeLine∧k=((y.size:Int) != 0)
 | .ref p=>(∃xs,SqL K H p xs∧k=!xs.isEmpty)∨(∃xs,SqT K H p xs∧k=!xs.isEmpty)∨∃kvs,H p=some (.dK kvs)∧k=!kvs.isEmpty
 | _=>False
theorem zqj{κ:Type}{kvs:List (κ×V)}{vs:List (κ×Value)}(r:KV kvs vs):(!vs.isEmpty)=!kvs.isEmpty:=by
 cases r <;> rfl
theorem zkQ{xs:List V}{its:List Value}(r:zcH xs its):(!its.toArray.isEmpty)=!xs.isEmpty:=by
 cases r <;> simp
theorem zlY:(sizeLine:Nat)<2 ^ 63:=by rw[sizeLine_eq];decide
theorem zAc:TruR X (λx H Q=>∃k,zzN X.K x H k∧Q k H):=by
 intro pins s σ H x v Q I rx h
 obtain⟨k,e,q⟩:=h
 have hl:=zlY
 have hs:sizeLine=16777216:=sizeLine_eq
 cases x with
 | non =>
  cases rx
  have e':k=false:=e
  subst e'
  exact truthy_none ⟨H,I,q⟩
 | bl b =>
  cases rx
  have e':k=b:=e
  subst e'
  exact wpAny_truthy_bool ⟨H,I,q⟩
 | int i =>
  obtain⟨t,rfl⟩:=rx
  have e':k=(i != 0):=e
  subst e'
  exact PySem.P.truthy_int ⟨H,I,q⟩
 | str y =>
  obtain⟨t,rfl⟩:=rx
  obtain⟨hy,e'⟩:y.length≤sizeLine∧k=((y.length:Int) != 0):=e
  subst e'
  exact PySem.P.truthy_str (by (first|lia|omega)) ⟨H,I.tok _,q⟩
 | byt y =>
  obtain⟨t,rfl⟩:=rx
  obtain⟨hy,e'⟩:y.size≤sizeLine∧k=((y.size:Int) != 0):=e
  subst e'
  exact PySem.W.truthy_bytes (by (first|lia|omega)) ⟨H,I.tok _,q⟩
 | ref p =>
  cases rx
  have e':(∃xs,SqL X.K H p xs∧k=!xs.isEmpty)∨(∃xs,SqT X.K H p xs∧k=!xs.isEmpty)∨∃kvs,H p=some (.dK kvs)∧k=!kvs.isEmpty:=e
  rcases e' with ⟨xs,hx,e'⟩ | ⟨xs,hx,e'⟩ | ⟨kvs,hx,e'⟩
  ·subst e'
   obtain⟨its,r,pl,hz⟩:=I.list hx
   have hlen:=r.length
   exact wpAny_truthy_list pl.isList (by simp only[ψf];(first|lia|omega)) ⟨H,I.tok _,by rw[zkQ r];exact q⟩
  ·subst e'
   obtain⟨its,r,pl,hz⟩:=I.tuple hx
   have hlen:=r.length
   exact truthy_tuple pl (by simp only[ψf];(first|lia|omega)) ⟨H,I.tok _,by rw[zkQ r];exact q⟩
  ·subst e'
   obtain⟨hz,hS,vs,r,m⟩:kvs.length≤sizeLine∧(p == sysModules)=false∧∃vs,KV kvs vs∧s.heap.DictOf (znN X.prog X.w) p vs:=I.hok p _ hx
   have hlen:kvs.length=vs.length:=Paired.length r
   exact wpAny_truthy_dict hS m (by (first|lia|omega)) ⟨H,I.tok _,by rw[zqj r];exact q⟩
 | _=>exact(show False from e).elim
theorem zo5(ha:PE X a ta)(he:∀whole,isTrue a X.env whole=(do let v ← whole;standAt a.pos;holding [v] (truthy v))) :
  PT X a (λσ H Q=>ta σ H λx H'=>∃k,zzN X.K x H' k∧Q k H'):=by
 intro pins s σ H Q I h
 exact isTrue_plain (thn (ha pins s σ H _ I h) λv s1 ⟨x,H1,I1,r1,q1⟩=>zAc pins s1 σ H1 x v Q I1 r1 q1) (he _)
theorem zr2{x:V}{us:List Value}(r:zcH [x] us):∃u,us=[u]∧zee x u:=by
 cases r with
 | cons r1 r2=>cases r2;exact⟨_,rfl,r1⟩
theorem zyt{x y:V}{us:List Value}(r:zcH [x,y] us):∃u w',us=[u,w']∧zee x u∧zee y w':=by
 cases r with
 | cons r1 r2 =>
  cases r2 with
  | cons r3 r4=>cases r4;exact⟨_,_,rfl,r1,r3⟩
theorem zk6:zjM X (.builtin "abs") (λxs H Q=>∃i,xs=[.int i]∧Q (.int (if i<0 then -i else i)) H):=by
 intro pins s σ H xs us Q I r h
 obtain⟨i,rfl,q⟩:=h
 obtain⟨u,rfl,t,rfl⟩:=zr2 r
 exact call_abs_int λu tk=>⟨.int (if i<0 then -i else i),H,I.tok _,⟨_,rfl⟩,q⟩
theorem zsb(hc:X.calm=true):zjM X (.builtin "max") (λxs H Q=>∃i j,xs=[.int i,.int j]∧Q (.int (if j > i then j else i)) H):=by
 intro pins s σ H xs us Q I r h
 obtain⟨i,j,rfl,q⟩:=h
 obtain⟨u,w',rfl,⟨t,rfl⟩,⟨t',rfl⟩⟩:=zyt r
 refine max_two_ints (I.ok.hd hc) λh' tk k=>⟨_,H,I.kept k,?_,q⟩
 by_cases hj:j > i
 ·rw[if_pos hj,if_pos hj];exact⟨_,rfl⟩
 ·rw[if_neg hj,if_neg hj];exact⟨_,rfl⟩
end
end L2
namespace L2
open PySem PySem.Spec PyProof.Rows
structure ObjM (h:Heap) (x dx C:Addr) (mA:Str→Option Value):Prop where
 obj:h.get? x=some (PySem.W.instObj C dx)
 ns:h.Ns1 dx mA
 ne:dx≠x
theorem zsf{h:Heap}{dx:Addr}{mA:Str→Option Value}(n:h.Ns1 dx mA):∃od,h.get? dx=some od∧∀name,PySem.W.lookIn name od=some (mA name):=by
 obtain⟨o,es,ep,ho,hd,hk,_,hm⟩:=n
 refine⟨o,ho,λname=>?_⟩
 have e:=hm name
 unfold nsFind findBy at e
 rw[← Array.find?_toList] at e
 unfold PySem.W.lookIn
 rw[hd]
 dsimp only
 split
 ·rename_i y q
  rw[q] at e
  exact congrArg some e
 ·rename_i q
  rw[q] at e
  have a:es.toList.any (·.refKey)=false:=by
   rw[List.any_eq_false]
   intro y hy
   obtain⟨z,t,hkey⟩:=hk y (Array.mem_toList_iff.mp hy)
   simp[DictEntry.refKey,hkey]
  have a':¬ es.toList.any (·.refKey)=true:=by rw[a];exact ψO
  rw[if_neg a']
  exact congrArg some e
theorem ObjM.look{h:Heap}{x dx C:Addr}{mA:Str→Option Value}(I:ObjM h x dx C mA):∃od,PySem.W.InstAt h x (PySem.W.instObj C dx) C (some od)∧∀name,PySem.W.lookIn name od=some (mA name) :=
 let ⟨od,ho,hl⟩:=zsf I.ns
 ⟨od,⟨I.obj,rfl,rfl,ho⟩,hl⟩
section
variable {prog:Program} {w:World} {A:Around} {E:Value→Shared→Prop} {s:Shared} {K:ψa} {x dx C f:Addr} {mA:Str→Option Value} {name:Str} {v:Value}
end
section
variable {P:Program} {w:World} {H H':Hp} {h h':Heap} {a C dx:Addr} {fs fs':List (Str×V)}
theorem zwJ(hok:HOk P w H h)(e:H a=some (.ins C dx fs)):∃mA,ObjM h a dx C mA∧(∀f,RelO (fs.lookup f) (mA f))∧PySem.Within mA (fs.map (·.1))∧fs.length≤1000∧H dx=some (.own a):=by
 obtain⟨d,z,ne,ob,mA,n,r,q⟩:=(show zeN P w H h a (.ins C dx fs) from hok a _ e)
 exact⟨mA,⟨ob,n,ne⟩,r,q,z,d⟩
end
structure Cls (K:ψa) (C:Addr):Prop where
 pg:PySem.W.plainGet K C Str.empty=true
 hd:PySem.W.hasDictIn K C=true
 po:PySem.W.plainOver K C=true
 sa:PySem.W.findIn K (.ref C) "__setattr__"=some (some (.builtin "object.__setattr__"))
theorem Cls.get{K:ψa}{C:Addr}(c:Cls K C)(f:Str):PySem.W.plainGet K C f=true:=c.pg
section
variable {X:Cx} {pins:List (Addr×Obj)} {σ:St} {H:Hp} {s:Shared} {a C dx:Addr} {fs:List (Str×V)} {f:Str} {v:V} {A:Around} {E:Value→Shared→Prop}
end
section
variable {X:Cx} {o e value:Expr} {f:Str} {pos pos' tpos:Pos} {ta tv:TE}
end
section
variable {X:Cx} {pins:List (Addr×Obj)} {σ:St} {H:Hp} {s:Shared} {A:Around} {E:Value→Shared→Prop} {Q:Value→Shared→Prop} {c:Value} {b:Bool}
inductive zoB (K:ψa) (H:Hp):V→Value→Prop where
 | non:zoB K H .non (.type "NoneType")
 | bl (x:Bool):zoB K H (.bl x) (.type "bool")
 | int (i:Int):zoB K H (.int i) (.type "int")
 | str (x:Str):zoB K H (.str x) (.type "str")
 | flt (x:UInt64):zoB K H (.flt x) (.type "float")
 | lst {a:Addr} {xs:List V} (e:H a=some (.lst xs)):zoB K H (.ref a) (.type "list")
 | frz {a:Addr} {o:Obj} {xs:List V} (e:H a=some (.frz o (.lst xs))):zoB K H (.ref a) (.type "list")
 | tup {a:Addr} {xs:List V} (e:H a=some (.tup xs)):zoB K H (.ref a) (.type "tuple")
 | dK {a:Addr} {kvs:List (Key×V)} (e:H a=some (.dK kvs)):zoB K H (.ref a) (.type "dict")
 | dT {a:Addr} {kvs:List (List Key×V)} (e:H a=some (.dT kvs)):zoB K H (.ref a) (.type "dict")
 | ins {a C dx:Addr} {fs:List (Str×V)} (e:H a=some (.ins C dx fs)) (cl:Cls K C) (ha:PySem.W.findIn K (.ref C) "__class__"=some (some (.builtin "object.__class__")))
   (hn:PySem.W.specialIn K (.builtin "object.__class__") "__get__"=some (some (.builtin "getset_descriptor.__get__"))) (htk:PySem.W.takesIn K (.builtin "object.__class__")=some true)
   (hm:PySem.W.mroIn K C (.type "object")=some true):zoB K H (.ref a) (.ref C)
theorem zrw{x:V}{u t:Value}(I:Inv X pins σ H s)(rx:zee x u)(ty:zoB X.K H x t)(e:ψQ X.K t c=some b)(h:∀tk,Q (.bool b) { s with toks:=tk }) :
  wpAny (model X.prog X.w) A (call (.builtin "isinstance") [u,c]) Q E s:=by
 cases ty with
 | non=>cases (show u=Value.none from rx);exact ψf1 PySem.W.kitx_none I.kIn True.intro e (λz=>nomatch z) h
 | bl y=>cases (show u=Value.bool y from rx);exact ψf1 PySem.W.kitx_bool I.kIn True.intro e (λz=>nomatch z) h
 | int i=>obtain⟨t,q⟩:=(show ∃t,u=Value.int i t from rx);cases q;exact ψf1 PySem.W.kitx_int I.kIn True.intro e (λz=>nomatch z) h
 | str y=>obtain⟨t,q⟩:=(show ∃t,u=Value.str y t from rx);cases q;exact ψf1 PySem.W.kitx_str I.kIn True.intro e (λz=>nomatch z) h
 | flt y=>obtain⟨t,q⟩:=(show ∃t,u=Value.float y t from rx);cases q;exact ψf1 PySem.W.kitx_float I.kIn True.intro e (λz=>nomatch z) h
 | @lst a xs ea =>
  cases (show u=Value.ref a from rx)
  obtain⟨_,_,n,_,h1⟩:=(show zeN X.prog X.w H s.heap a (.lst xs) from I.hok a _ ea)
  exact ψf1 PySem.W.kitx_list I.kIn ⟨_,h1,rfl⟩ e (λz=>nomatch z) h
 | @frz a ob xs ea =>
  cases (show u=Value.ref a from rx)
  obtain⟨_,_,_,n,_,h1⟩:=(show zeN X.prog X.w H s.heap a (.frz ob (.lst xs)) from I.hok a _ ea)
  exact ψf1 PySem.W.kitx_list I.kIn ⟨_,h1,rfl⟩ e (λz=>nomatch z) h
 | @tup a xs ea =>
  cases (show u=Value.ref a from rx)
  obtain⟨_,_,_,p⟩:=(show zeN X.prog X.w H s.heap a (.tup xs) from I.hok a _ ea)
  obtain⟨o,h1,h2,_⟩:=p
  exact ψf1 PySem.W.kitx_tuple I.kIn ⟨o,h1,h2⟩ e (λz=>nomatch z) h
 | @dK a kvs ea =>
  cases (show u=Value.ref a from rx)
  obtain⟨_,_,vs,_,p⟩:=(show zeN X.prog X.w H s.heap a (.dK kvs) from I.hok a _ ea)
  obtain⟨o,es,ep,h1,h2,_⟩:=p
  exact ψf1 PySem.W.kitx_dict I.kIn ⟨o,h1,h2.1⟩ e (λz=>nomatch z) h
 | @dT a kvs ea =>
  cases (show u=Value.ref a from rx)
  obtain⟨_,_,xs,_,o,es,ep,h1,h2,_⟩:=(show zeN X.prog X.w H s.heap a (.dT kvs) from I.hok a _ ea)
  exact ψf1 PySem.W.kitx_dict I.kIn ⟨o,h1,h2.1⟩ e (λz=>nomatch z) h
 | @ins a C dx fs ea cl ha hn htk hm =>
  cases (show u=Value.ref a from rx)
  obtain⟨mA,O,_⟩:=zwJ I.hok ea
  obtain⟨od,J,_⟩:=O.look
  exact ψf1 (PySem.W.kitx_own (cl.get _) cl.hd ha hn htk hm) I.kIn J e (λz=>nomatch z) h
end
end L2
namespace L2
open PySem PySem.Spec PyProof.Rows
structure zlR (k:Nat) (A:Around):Prop where
 hd:A.handled=none
 dp:A.depth+3*k+5<recursionLimit
 un:A.units+16*k+200<cLine
theorem zlR.mono{j k:Nat}{A:Around}(r:zlR k A)(h:j≤k):zlR j A:=⟨r.hd,by have:=r.dp;(first|lia|omega),by have:=r.un;(first|lia|omega)⟩
theorem zlR.deeper{k:Nat}{A:Around}(r:zlR (k+1) A)(env:Env):zlR k (A.deeper env) :=
 ⟨r.hd,by have:=r.dp;show A.depth+1+3*k+5<_;(first|lia|omega),by have:=r.un;show A.units+3+16*k+200<_;(first|lia|omega)⟩
theorem zlR.depth{k:Nat}{A:Around}(r:zlR k A):A.depth<recursionLimit:=by have:=r.dp;(first|lia|omega)
theorem zlR.units{k:Nat}{A:Around}(r:zlR k A):A.units+64<cLine:=by have:=r.un;(first|lia|omega)
theorem zlR.units0{k:Nat}{A:Around}(r:zlR k A):A.units<cLine:=by have:=r.un;(first|lia|omega)
def zas:TA:=λ_ H Q=>Q [] H
def zab(ta:TE)(tr:TA):TA:=λσ H Q=>ta σ H λx H1=>tr σ H1 λxs H2=>Q (x::xs) H2
section
variable {X:Cx} {e:Expr} {es:List Expr} {te:TE} {t:TA} {pos:Pos}
theorem zad:PA X [] zas:=λ_ _ _ _ H Q I h=>Calls.spliced_nil ⟨[],H,I,.nil,h⟩
theorem zaa(ha:PE X e te)(hr:PA X es t)(hs:starEach (e::es) X.env=(false,eval e X.env)::starEach es X.env:=by rfl):PA X (e::es) (zab te t):=by
 intro pos pins s σ H Q I h
 rw[hs]
 show wpAny _ _ (spliced ((false,eval e X.env)::backTo pos (starEach es X.env))) _ _ s
 refine Calls.spliced_cons (thn (ha pins s σ H _ I h) λu s1 hQ'=>?_)
 obtain⟨x,H1,I1,r1,q1⟩:=hQ'
 exact thn (hr pos pins s1 σ H1 _ I1 q1) λus s2 ⟨xs,H2,I2,r2,q2⟩=>⟨x::xs,H2,I2,.cons r1 r2,q2⟩
def zf6(t:TA):TE:=λσ H Q=>t σ H λxs H1=>xs.length≤sizeLine∧∀p,H1 p=none→Q (.ref p) (upd H1 p (.tup xs))
def zhK(t:TA):TE:=λσ H Q=>t σ H λxs H1=>xs.length≤sizeLine∧∀p,H1 p=none→Q (.ref p) (upd H1 p (.lst xs))
theorem zbI{x1}(h:PA X es t):PE X (.Tuple es x1 pos) (zf6 t):=by
 intro pins s σ H Q I hq
 refine wpAny_Tuple_spliced (thn (h pos pins s σ H _ I hq) λus s1 ⟨xs,H1,I1,r,z,q⟩=>⟨by rw[← r.length];exact z,?_⟩)
 have hf:H1 s1.heap.objs.size=none:=I1.hok.fresh (ψh _)
 refine⟨.ref s1.heap.objs.size,upd H1 s1.heap.objs.size (.tup xs),I1.laid (t':=s1.toks) (λb u e=>Heap.get?_push_of_some _ e) (ψh _) ?_,rfl,q _ hf⟩
 exact⟨z,us,r,⟨_,Heap.get?_push_size _ rfl,rfl,_,rfl⟩⟩
theorem zcl(h:PA X es t):PE X (.List es pos) (zhK t):=by
 intro pins s σ H Q I hq
 refine wpAny_List_spliced (thn (h pos pins s σ H _ I hq) λus s1 ⟨xs,H1,I1,r,z,q⟩=>⟨by rw[← r.length];exact z,?_⟩)
 have hf:H1 s1.heap.objs.size=none:=I1.hok.fresh (ψh _)
 refine⟨.ref s1.heap.objs.size,upd H1 s1.heap.objs.size (.lst xs),I1.laid (t':=s1.toks) (λb u e=>Heap.get?_push_of_some _ e) (ψh _) ?_,rfl,q _ hf⟩
 exact⟨z,us,0,r,Heap.get?_push_size _ rfl⟩
end
abbrev Sp:=List V→Hp→VK→XK→Prop
abbrev CXT:=List Env→Hp→Shared→XK→Value→Shared→Prop
structure Env0 (P:Program) (w:World) (K:ψa) (mg:Str→Option Value) (base:Heap) (A:Around) (outer:List Env) (s:Shared) (H:Hp):Prop where
 frames:A.frames=some outer
 mod:Mod K mg base
 bs:∀b o,base.get? b=some o→s.heap.get? b=some o∧H b=none
 bsz:base.objs.size≤s.heap.objs.size
 funs:s.heap.FunFrames base outer
 frf:∀b∈frs outer,H b=none
 hok:HOk P w H s.heap
 bare:AllBare s.gens
def CE(outer:List Env)(P:Program)(w:World)(H:Hp)(s:Shared)(Q:VK)(u:Value)(s':Shared):Prop :=
 ∃v H',s'.os=s.os∧AllBare s'.gens∧Un (frs outer) [] H H' s.heap s'.heap∧HOk P w H' s'.heap∧zee v u∧Q v H'
def CR(CX:CXT)(outer:List Env)(P:Program)(w:World)(H:Hp)(s:Shared)(Q:VK)(E:XK)(r:Result)(s':Shared):Prop :=
 match r with
 | .ok (.ret u)=>CE outer P w H s Q u s'
 | .ok _=>False
 | .error e=>CX outer H s E e s'
structure zcr (P:Program) (w:World) (K:ψa) (mg:Str→Option Value) (base:Heap) (CX:CXT) (k:Nat) (f:Addr) (fd:FuncData) (ps:List Str) (sp:Sp):Prop where
 len:∀vs H Q E,sp vs H Q E→vs.length=ps.length
 run:∀(A:Around) (outer:List Env) (s:Shared) (H:Hp) (args:Args) (us:List Value) (vs:List V) (Q:VK) (E:XK),zlR k A→Env0 P w K mg base A outer s H→BindsTo s fd args (ps.zip us)→zcH vs us→sp vs H Q E →
  codeAny (model P w) A (.call (.ref f) args) (CR CX outer P w H s Q E) s
section
variable {X:Cx} {pins:List (Addr×Obj)} {σ:St} {H:Hp} {s s':Shared}
theorem Inv.env0(I:Inv X pins σ H s):Env0 X.prog X.w X.K X.mg X.base X.A X.stack s H :=
 ⟨I.ok.frames,I.ok.mod,I.bs,ψE I.ok.bsz I.sz,I.stack,I.stkFree,I.hok,I.bare⟩
theorem Inv.after{Q:VK}{u:Value}(I:Inv X pins σ H s)(h:CE X.stack X.prog X.w H s Q u s'):EP X pins σ Q u s':=by
 obtain⟨v,H',os,bare,un,hok,r,q⟩:=h
 obtain⟨hh,g,d,t,os'⟩:=s'
 obtain rfl:os'=s.os:=os
 exact⟨v,H',I.call (h':=hh) (g':=g) (d':=d) (t':=t) (ch:=[]) un hok bare (λb z=>absurd z (by simp)),r,q⟩
end
def zaG(sp:Sp)(dvs:List V)(E:XK)(t:TA):TE:=λσ H Q=>t σ H λvs H1=>sp (vs++dvs) H1 Q E
def zbk(K:ψa)(fd:FuncData)(ps:List Str)(ds:List Value):Prop :=
 ∀(s:Shared) (us:List Value),K.In s.heap→(us++ds).length=ps.length→BindsTo s fd ⟨us,[]⟩ (ps.zip (us++ds))
theorem zbk.all{K:ψa}{fd:FuncData}{ps:List Str}(h:∀us:List Value,us.length=ps.length→bindArgs fd ⟨us,[]⟩=pure (ps.zip us)):zbk K fd ps []:=λs us _ hl=>by
 rw[List.append_nil] at hl ⊢
 exact .of_eq (h us hl)
def zsd(CX:CXT)(X:Cx)(E:XK):Prop:=∀(pins:List (Addr×Obj)) (σ:St) (H:Hp) (s:Shared) (e:Value) (s':Shared),Inv X pins σ H s→CX X.stack H s E e s'→X.xe e s'
section
variable {X:Cx} {CX:CXT} {k:Nat} {f C:Addr} {fd:FuncData} {ps:List Str} {sp:Sp} {dvs:List V} {ds:List Value} {E:XK} {x m:Str} {p pos apos:Pos} {e o:Expr} {es:List Expr} {ta:TE} {t:TA}
theorem zzE{pins:List (Addr×Obj)}{σ:St}{H:Hp}{s:Shared}{Q:VK}{us:List Value}{vs:List V}(F:zcr X.prog X.w X.K X.mg X.base CX k f fd ps sp)(hr:zlR k X.A)(hb:zbk X.K fd ps ds)(hd:zcH dvs ds)(hx:zsd CX X E)
  (I:Inv X pins σ H s) (r:zcH vs us) (h:sp (vs++dvs) H Q E):wpAny (model X.prog X.w) X.A (call (.ref f) us) (EP X pins σ Q) X.xe s:=by
 have r2:zcH (vs++dvs) (us++ds):=r.append hd
 have hl:(us++ds).length=ps.length:=by rw[← r2.length];exact F.len _ _ _ _ h
 refine wpAny_call (codeAny_mono (F.run X.A X.stack s H ⟨us,[]⟩ (us++ds) (vs++dvs) Q E hr I.env0 (hb s us I.kIn hl) r2 h) λr s' hq=>?_)
 cases r with
 | error e=>exact hx pins σ H s e s' I hq
 | ok fl =>
  cases fl with
  | ret u=>exact I.after hq
  | next=>exact False.elim hq
  | brk=>exact False.elim hq
  | cont=>exact False.elim hq
theorem zag(F:zcr X.prog X.w X.K X.mg X.base CX k f fd ps sp)(hr:zlR k X.A)(hg:Gl X x)(hm:X.mg x=some (.ref f))(hk:PySem.W.keepIn X.K (.ref f)=true)(hb:zbk X.K fd ps ds)(hd:zcH dvs ds)(hx:zsd CX X E)
  (ha:PA X (e::es) t) (hdb:(x == ("__debug__":Str))=false:=by decide) (he:starEach (e::es) X.env=(false,eval e X.env)::starEach es X.env:=by rfl) (hpl:(backTo pos (starEach es X.env)).any (·.1)=false:=by rfl) :
  PE X (.Call (.Name x p) (e::es) [] pos) (zaG sp dvs E t):=by
 intro pins s σ H Q I h
 refine wpAny_Call_Name_kw (zsS I hg hm ?_ hdb)
 refine PySem.W.callWith_K (h₀:=X.base) I.ok.mod.kin hk (thn (ha pos pins s σ H _ I h) λus s1 ⟨vs,H1,I1,r,q⟩=>⟨I1.kIn,?_⟩) he hpl
 exact zzE F hr hb hd hx I1 r q
end
section
variable {X:Cx} {CX:CXT} {k:Nat} {f C:Addr} {fd:FuncData} {ps ks:List Str} {sp:Sp} {E:XK} {x m:Str} {p pos apos kpos:Pos} {e o:Expr} {es:List Expr} {kws:List Keyword} {te ta:TE} {t tk:TA} {nm:Option Str}
variable {g:List Value→List Value→List Value} {gV:List V→List V→List V}
end
structure zaJ (N P:List Str) (sc:Scope):Prop where
 kind:sc.kind=.function
 co:sc.isCoroutine=false
 gen:sc.isGenerator=false
 nd:N.Nodup
 pre:N.take P.length=P
 par:∀x∈P,sc.names.lookup x=some .local∨sc.names.lookup x=some .cell
 nofree:∀y∈sc.names,y.2≠.free
theorem zmj{kindOf:Str→Option NameKind}{x:Str}:∀{binds:List (Str×Value)} {m:Str→Option Value},(∀v,(x,v)∉binds)→bindL kindOf binds m x=m x
 | [],_,_=>rfl
 | (n,v)::r,m,h=>by
  unfold bindL
  rw[zmj λw hw=>h w (ψe _ hw)]
  split
  ·have:x≠n:=by rintro rfl;exact h v ψg
   simp[this]
  ·rfl
theorem zmN{kindOf:Str→Option NameKind}{x:Str}:∀{binds:List (Str×Value)} {m:Str→Option Value},(∀v,(x,v)∉binds)→bindC kindOf binds m x=m x
 | [],_,_=>rfl
 | (n,v)::r,m,h=>by
  unfold bindC
  rw[zmN λw hw=>h w (ψe _ hw)]
  split
  ·rfl
  ·have:x≠n:=by rintro rfl;exact h v ψg
   simp[this]
theorem zl3{kindOf:Str→Option NameKind}{x:Str}{v:Value}:∀{P:List Str} {vs:List Value} {i:Nat} {m:Str→Option Value},P.Nodup→P[i]?=some x→vs[i]?=some v→kindOf x=some .local →
  bindL kindOf (P.zip vs) m x=some v
 | [],_,_,_,_,h,_,_=>by simp at h
 | _::_,[],_,_,_,_,h,_=>by simp at h
 | p::P,w::vs,0,m,nd,h1,h2,hk=>by
  simp at h1 h2;subst h1;subst h2
  show bindL kindOf ((p,w)::P.zip vs) m p=_
  unfold bindL
  rw[zmj λv hv=>(List.nodup_cons.mp nd).1 (List.of_mem_zip hv).1,if_pos hk]
  simp
 | p::P,w::vs,i+1,m,nd,h1,h2,hk=>by
  show bindL kindOf ((p,w)::P.zip vs) m x=_
  unfold bindL
  exact zl3 (i:=i) (List.nodup_cons.mp nd).2 (by simpa using h1) (by simpa using h2) hk
theorem zmz{kindOf:Str→Option NameKind}{x:Str}{v:Value}:∀{P:List Str} {vs:List Value} {i:Nat} {m:Str→Option Value},P.Nodup→P[i]?=some x→vs[i]?=some v→kindOf x≠some .local →
  bindC kindOf (P.zip vs) m x=some v
 | [],_,_,_,_,h,_,_=>by simp at h
 | _::_,[],_,_,_,_,h,_=>by simp at h
 | p::P,w::vs,0,m,nd,h1,h2,hk=>by
  simp at h1 h2;subst h1;subst h2
  show bindC kindOf ((p,w)::P.zip vs) m p=_
  unfold bindC
  rw[zmN λv hv=>(List.nodup_cons.mp nd).1 (List.of_mem_zip hv).1,if_neg hk]
  simp
 | p::P,w::vs,i+1,m,nd,h1,h2,hk=>by
  show bindC kindOf ((p,w)::P.zip vs) m x=_
  unfold bindC
  exact zmz (i:=i) (List.nodup_cons.mp nd).2 (by simpa using h1) (by simpa using h2) hk
def start(N:List Str)(vs:List V):St:=vs.map some++List.replicate (N.length - vs.length) none
def zyz(CX:CXT)(P:Program)(w:World)(K:ψa)(mg:Str→Option Value)(base:Heap)(N:List Str)(qual:Str)(scope:Scope)(f:Addr)(cd:Value)(A:Around)(outer:List Env)(s:Shared)(H:Hp)(E:XK):Cx where
 prog:=P
 w:=w
 K:=K
 mg:=mg
 base:=base
 A:=A.deeper (envOfC qual scope s.heap.objs.size f cd)
 N:=N
 s₀:=s
 H₀:=H
 env:=envOfC qual scope s.heap.objs.size f cd
 outer:=outer
 stack:=envOfC qual scope s.heap.objs.size f cd::outer
 ex:=[]
 calm:=true
 fn:=λ_=>true
 pn:=[]
 xe:=λe s'=>wpAny (model P w) (A.deeper (envOfC qual scope s.heap.objs.size f cd)) (leaving (envOfC qual scope s.heap.objs.size f cd) e) (λ_ s''=>CX outer H s E e s'') (λe' s''=>CX outer H s E e' s'') s'
theorem zjp{sc:Scope}{n:Nat}{x:Str}(h:sc.names.lookup x=some .cell):∃c,(cellsFrom n sc.names []).lookup x=some c:=by
 have q:=PySem.W.cellsFrom_some sc.names n [] (.inl h)
 exact Option.isSome_iff_exists.mp q
theorem zrj{CX:CXT}{P:Program}{w:World}{K:ψa}{mg:Str→Option Value}{base:Heap}{N ps:List Str}{qual:Str}{scope:Scope}{f:Addr}{cd:Value}{A:Around}{outer:List Env}{s s1:Shared}{H:Hp}{E:XK}{us:List Value}{vs:List V}
  (S:zaJ N ps scope) (hd:A.handled=none) (e0:Env0 P w K mg base A outer s H) (hl:vs.length=ps.length) (r:zcH vs us)
  (x:InCallC s s.heap.objs.size (bindL (envOfC qual scope s.heap.objs.size f cd).kindOf (ps.zip us) λ_=>none) (cellsFrom (s.heap.objs.size+1) scope.names []) (bindC (envOfC qual scope s.heap.objs.size f cd).kindOf (ps.zip us) λ_=>none) s1) :
  Inv (zyz CX P w K mg base N qual scope f cd A outer s H E) [] (start N vs) H s1:=by
 have hpl:ps.length≤N.length:=by have:=congrArg List.length S.pre;rw[ψM] at this;(first|lia|omega)
 obtain⟨h1,tk,rfl,hk⟩:=x.done
 have noA:∀b:Addr,b∉(zyz CX P w K mg base N qual scope f cd A outer s H E).ex:=λb z=>absurd (show b∈([]:List Addr) from z) (by simp)
 refine⟨⟨e0.mod,S.kind,rfl,rfl,ψh _,λy z c h1 h2=>?_,λy hy=>?_,λy c _ h=>?_,λ_=>hd,Around.frames_deeper e0.frames,.inr ⟨rfl,rfl⟩,λb z=>absurd z (noA b),e0.bs,e0.bsz,λb _ _=>noA b,λb z=>absurd z (noA b),e0.funs,e0.frf⟩,
  rfl,e0.bare,Un.kept hk,⟨_,x.toInCall.ns,λi y v h1 h2 h3=>?_⟩,λy c h=>⟨_,x.cell y c h⟩,e0.hok.fresh (ψh _),λy c h=>?_,λp hp=>absurd (show p∈([]:List (Addr×Obj)) from hp) (by simp),e0.hok.kept hk,?_⟩
 ·exact name_of_addr x.apart (ψC h1) (ψC h2)
 ·have hy:scope.names.lookup y=some .cell∨scope.names.lookup y=some .free:=hy
  rcases hy with hy | hy
  ·exact zjp hy
  ·exact absurd rfl (S.nofree _ (ψC hy))
 ·exact ψt1 (x.above y c (ψC h))
 ·have hi:i<vs.length:=by
   unfold start at h2
   by_cases hi:i<vs.length
   ·exact hi
   ·rw[ψe1 (by simpa using hi)] at h2
    rw[List.getElem?_replicate] at h2
    split at h2 <;> cases h2
  have ha:vs[i]?=some v:=by
   unfold start at h2
   rw[ψi1 (by simpa using hi),ψI] at h2
   cases e:vs[i]? with
   | none=>rw[e] at h2;cases h2
   | some a=>rw[e] at h2;cases h2;rfl
  obtain⟨u,hu,rv⟩:=r.get ha
  have hp:ps[i]?=some y:=by
   rw[← S.pre,List.getElem?_take_of_lt (by (first|lia|omega))];exact h1
  have ndP:ps.Nodup:=by rw[← S.pre];exact S.nd.sublist (List.take_sublist _ _)
  refine⟨u,rv,?_⟩
  rcases S.par y (ψS hp) with k | k
  ·exact .inl ⟨k,zl3 ndP hp hu k⟩
  ·obtain⟨c,e⟩:=zjp (n:=s.heap.objs.size+1) k
   refine .inr ⟨.inl k,c,e,?_⟩
   have q:=x.cell y c e
   rw[zmz ndP hp hu (by show scope.names.lookup y≠_;rw[k];decide)] at q
   exact q
 ·exact e0.hok.fresh (ψt1 (x.above y c (ψC h)))
 ·unfold start
  show _=N.length
  rw[ψb1,ψb,List.length_replicate]
  (first|lia|omega)
theorem fn_of{CX:CXT}{P:Program}{w:World}{K:ψa}{mg:Str→Option Value}{base:Heap}{k:Nat}{f:Addr}{name qual:Str}{params:Arguments}{body:List Stmt}{scope:Scope}{dV kV doc pm cdv ct oc:Value}{an od:Option Addr}
  {osl:Array (Option Value)} {N ps:List Str} {sp:Sp} (lk:K.lookup f=some ⟨oc,od,.func (PySem.W.fnOf name qual params body scope dV kV doc pm an cdv ct),osl⟩) (hcd:PySem.W.codeIn K cdv qual=true) (S:zaJ N ps scope)
  (len:∀vs H Q E,sp vs H Q E→vs.length=ps.length)
  (hbody:∀(A:Around) (outer:List Env) (s:Shared) (H:Hp) (vs:List V) (Q:VK) (E:XK),zlR k (A.deeper (envOfC qual scope s.heap.objs.size f cdv))→sp vs H Q E →
   ∃t,PSs (zyz CX P w K mg base N qual scope f cdv A outer s H E) body t∧t { nx:=λ_ H'=>Q .non H',rt:=Q } (start N vs) H) :
  zcr P w K mg base CX (k+1) f (PySem.W.fnOf name qual params body scope dV kV doc pm an cdv ct) ps sp:=by
 refine⟨len,λA outer s H args us vs Q E hr e0 hb r hsp=>?_⟩
 have hl:=len _ _ _ _ hsp
 have KX:K.In s.heap:=e0.mod.kin.keeps λb o e=>(e0.bs b o e).1
 have lim:s.heap.NoLimit:=e0.mod.nolimit.keeps λb o e=>(e0.bs b o e).1
 have hkind:∀y∈ps.zip us,scope.names.lookup y.1=some .local∨(scope.names.lookup y.1=some .cell∧((cellsFrom (s.heap.objs.size+1) scope.names []).lookup y.1).isSome=true):=λ⟨n,v⟩ hy=>by
  rcases S.par n (List.of_mem_zip hy).1 with q | q
  ·exact .inl q
  ·exact .inr ⟨q,PySem.W.cellsFrom_some _ _ _ (.inl q)⟩
 refine codeAny_call_function hr.depth (KX _ _ lk) rfl S.co S.gen rfl (PySem.W.codeRec_of KX hcd) (hb _ _ _ _ ?_)
 refine wpAny_newFunctionEnv_cells S.kind hkind λenv he s1 x=>?_
 subst he
 refine⟨lim.keeps x.toInCall.keep,codeAny_func ?_⟩
 obtain⟨t,ht,hq⟩:=hbody A outer s H vs Q E (hr.deeper _) hsp
 have I:Inv (zyz CX P w K mg base N qual scope f cdv A outer s H E) [] (start N vs) H s1:=zrj S hr.hd e0 hl r x
 refine wpAny_mono (ht [] s1 (start N vs) H _ I hq) (λfl s' hs=>?_) λe s' hs=>hs
 have fin:∀{σ':St} {H':Hp} {v:V} {u:Value},Inv (zyz CX P w K mg base N qual scope f cdv A outer s H E) [] σ' H' s'→zee v u→Q v H'→CE outer P w H s Q u s' :=
  fun {σ' H' v u} J rv q=>⟨v,H',J.os,J.bare,J.base,J.hok,rv,q⟩
 cases fl with
 | ret u =>
  obtain⟨v,σ',H',J,rv,q⟩:=hs
  exact fin J rv q
 | next =>
  obtain⟨σ',H',J,q⟩:=hs
  exact fin (v:=V.non) (u:=Value.none) J rfl q
 | brk =>
  obtain⟨_,_,_,q⟩:=hs
  exact False.elim q
 | cont =>
  obtain⟨_,_,_,q⟩:=hs
  exact False.elim q
end L2
namespace L2
open PySem PySem.Spec PyProof.Rows
section
variable {X:Cx} {x:Str} {p pos:Pos} {e:Expr} {es:List Expr} {t:TA} {id T:String} {r:List V→Hp→VK→Prop}
def tCB(r:List V→Hp→VK→Prop)(t:TA):TE:=λσ H Q=>t σ H λvs H1=>r vs H1 Q
theorem zaq(hc:zjM X (.builtin id) r)(hg:Gl X x)(hm:X.mg x=none)(hv:bootBuiltins x=some (.builtin id))(ha:PA X (e::es) t)(hn:x≠"__name__":=by decide)(hdb:(x == ("__debug__":Str))=false:=by decide)
  (he:starEach (e::es) X.env=(false,eval e X.env)::starEach es X.env:=by rfl) (hpl:(backTo pos (starEach es X.env)).any (·.1)=false:=by rfl):PE X (.Call (.Name x p) (e::es) [] pos) (tCB r t):=by
 intro pins s σ H Q I h
 refine wpAny_Call_Name_kw (zid I hg hm hv ?_ hn hdb)
 exact PyProof.Rows.callWith_builtin1 (thn (ha pos pins s σ H _ I h) λus s1 ⟨vs,H1,I1,r1,q1⟩=>hc pins s1 σ H1 vs us Q I1 r1 q1) he hpl
theorem zd1(hc:zjM X (.type T) r)(hg:Gl X x)(hm:X.mg x=none)(hv:bootBuiltins x=some (.type T))(ha:PA X (e::es) t)(hn:x≠"__name__":=by decide)(hdb:(x == ("__debug__":Str))=false:=by decide)
  (he:starEach (e::es) X.env=(false,eval e X.env)::starEach es X.env:=by rfl) (hpl:(backTo pos (starEach es X.env)).any (·.1)=false:=by rfl):PE X (.Call (.Name x p) (e::es) [] pos) (tCB r t):=by
 intro pins s σ H Q I h
 refine wpAny_Call_Name_kw (zid I hg hm hv ?_ hn hdb)
 exact ψj1 (thn (ha pos pins s σ H _ I h) λus s1 ⟨vs,H1,I1,r1,q1⟩=>hc pins s1 σ H1 vs us Q I1 r1 q1) he hpl
end
end L2
namespace HT
open PySem PyProof.Rows
section
open PySem.SeqAt
open PySem.AutoSeq1 (wpAny_loadPart')
open PySem.MeetsSeq PySem.MeetsSeq2 PySem.MeetsSeq3
end
section
variable {prog:Program} {w:World} {A:Around} {E:Value→Shared→Prop} {s:Shared}
theorem cat_tup{t b:Addr}{vs ws:List Value}{Q:Value→Shared→Prop}(ht:IsTup s.heap t vs.toArray)(hb:IsTup s.heap b ws.toArray)(hv:vs≠[])
  (h1:ws=[]→Q (.ref t) s) (h2:ws≠[]→Q (.ref s.heap.objs.size) { s with heap:=s.heap.push { cls:=.type "tuple",data:=.seq (vs++ws).toArray } })
  (hsz:vs.length+ws.length≤sizeLine):wpAny (model prog w) A (binaryOp .Add (.ref t) (.ref b)) Q E s:=by
 obtain⟨⟨cls,dd,data,sl⟩,ho,hc,n,hd⟩:=id ht
 obtain⟨⟨cls2,dd2,data2,sl2⟩,ho2,hc2,n2,hd2⟩:=id hb
 simp only at hc hd hc2 hd2
 subst hc hd hc2 hd2
 have e:vs.toArray++ws.toArray=(vs++ws).toArray:=by simp
 by_cases hw:ws=[]
 ·exact concat_meets ⟨_,ho,rfl⟩ ⟨_,ho2,rfl⟩ noFill_tuple_add seq_tuple_add PySem.F.slot_tuple_add PySem.F.entry_tuple_add (PySem.F.args_tuple_add_2 _ _)
   (tuple_addW1 t b vs.toArray ws.toArray n n2 dd dd2 sl sl2 (by simpa using hv) (by simp[hw])) ⟨ho,ho2,h1 hw⟩
 ·refine concat_meets ⟨_,ho,rfl⟩ ⟨_,ho2,rfl⟩ noFill_tuple_add seq_tuple_add PySem.F.slot_tuple_add PySem.F.entry_tuple_add (PySem.F.args_tuple_add_2 _ _)
   (tuple_addW2 t b vs.toArray ws.toArray n n2 dd dd2 sl sl2 (by simpa using hv) (by simpa using hw) (by rw[ψf,ψf];exact hsz)) ⟨ho,ho2,?_⟩
  rw[e]
  exact h2 hw
def sIx(n d:Nat):Option Int→Nat
 | none=>d
 | some v=>if v<0 then (v+(n:Int)).toNat else min v.toNat n
theorem zjg(n d:Nat):sIx n d none=d:=rfl
theorem sIx_nat(n d k:Nat):sIx n d (some (k:Int))=min k n:=by
 show(if (k:Int)<0 then ((k:Int)+(n:Int)).toNat else min (k:Int).toNat n)=min k n
 rw[if_neg (by (first|lia|omega)),Int.toNat_natCast]
theorem zzh(n d:Nat)(hd:d≤n)(o:Option Int):sIx n d o≤n:=by
 cases o with
 | none=>exact hd
 | some v =>
  show(if v<0 then (v+(n:Int)).toNat else min v.toNat n)≤n
  by_cases hv:v<0
  ·rw[if_pos hv];(first|lia|omega)
  ·rw[if_neg hv];exact Nat.min_le_right _ _
theorem zqz(v:Int)(n d:Nat):(if v<0 then max (v+(n:Int)) 0 else min v (n:Int))=((sIx n d (some v):Nat):Int):=by
 show(if v<0 then max (v+(n:Int)) 0 else min v (n:Int))=(((if v<0 then (v+(n:Int)).toNat else min v.toNat n):Nat):Int)
 by_cases hv:v<0
 ·simp only[if_pos hv];(first|lia|omega)
 ·simp only[if_neg hv];(first|lia|omega)
theorem zpM(lo hi:Option Int)(n:Nat):Builtin.Slice.sliceAdjust lo hi 1 (n:Int)=(((sIx n 0 lo:Nat):Int),((sIx n n hi:Nat):Int)):=by
 have h1:¬ ((1:Int)<0):=by (first|lia|omega)
 unfold Builtin.Slice.sliceAdjust
 simp only[h1,if_false]
 refine Prod.ext ?_ ?_
 ·cases lo with
  | none=>rfl
  | some v=>exact zqz v n 0
 ·cases hi with
  | none=>rfl
  | some v=>exact zqz v n n
theorem zp5(i j:Nat):Builtin.Slice.slicePlaces (i:Int) (j:Int) 1=j - i:=by
 unfold Builtin.Slice.slicePlaces
 have h1:(1:Int) > 0:=by (first|lia|omega)
 simp only[h1,if_true,Int.ediv_one]
 split <;> (first|lia|omega)
theorem zkp{v:Value}{o:Option Int}{Q:Option Int→Shared→Prop}(p:IsPart v o)(h:Q o s):wpAny (model prog w) A (Builtin.Slice.slicePartIndex v) Q E s:=by
 cases p with
 | none=>exact slicePart_none h
 | int i t=>exact slicePart_int h
theorem zi3{sl:Addr}{vl vu:Value}{lo hi:Option Int}{n:Nat}{Q:Int×Int×Nat→Shared→Prop}(hs:s.heap.IsSliceOf sl vl vu .none)(pl:IsPart vl lo)(pu:IsPart vu hi)
  (h:Q (((sIx n 0 lo:Nat):Int),1,sIx n n hi - sIx n 0 lo) s):wpAny (model prog w) A (Builtin.Slice.sliceApplied (.ref sl) (pure (n:Int))) Q E s:=by
 obtain⟨os,hos,hcs,hds⟩:=id hs
 unfold Builtin.Slice.sliceApplied Builtin.Slice.sliceFields
 refine wpAny_bind (wpAny_bind (wpAny_field hos hds (x:=vl) rfl (wpAny_bind (wpAny_field hos hds (x:=vu) rfl (wpAny_bind (wpAny_field hos hds (x:=.none) rfl (wpAny_pure ?_)))))))
 refine wpAny_bind (slicePart_none ?_)
 show wpAny _ _ (if ((1:Int) == 0)=true then _ else _) _ _ s
 rw[if_neg (by decide)]
 refine wpAny_bind (zkp pl (wpAny_bind (zkp pu (wpAny_bind (wpAny_pure ?_)))))
 show wpAny _ _ (match Builtin.Slice.sliceAdjust lo hi 1 (n:Int) with | (lo,hi)=>pure (lo,(1:Int),Builtin.Slice.slicePlaces lo hi 1)) _ _ s
 rw[zpM lo hi n]
 show wpAny _ _ (pure (((sIx n 0 lo:Nat):Int),(1:Int),Builtin.Slice.slicePlaces ((sIx n 0 lo:Nat):Int) ((sIx n n hi:Nat):Int) 1)) _ _ s
 rw[zp5]
 exact wpAny_pure h
theorem zve(xs:Array Value)(i k:Nat):((ψr1 k).filterMap λ(m:Nat)=>xs[((i:Int)+(m:Int)*1).toNat]?).toArray=((xs.toList.drop i).take k).toArray:=by
 have e:(λ(m:Nat)=>xs[((i:Int)+(m:Int)*1).toNat]?)=λm=>xs[i+m]?:=by
  funext m
  have:((i:Int)+(m:Int)*1).toNat=i+m:=by (first|lia|omega)
  rw[this]
 rw[e]
 have:=pick_run xs i k
 rw[List.filterMap_map] at this
 have e2:((λx=>xs[x]?) ∘ λx=>i+x)=λm=>xs[i+m]?:=rfl
 rw[e2] at this
 rw[this]
theorem getItem_tuple_cut{t sl:Addr}{items:Array Value}{vl vu:Value}{lo hi:Option Int}{Q:Value→Shared→Prop}(ht:IsTup s.heap t items)(hs:s.heap.IsSliceOf sl vl vu .none)(pl:IsPart vl lo)(pu:IsPart vu hi)
  (hw:¬ (sIx items.size 0 lo=0∧sIx items.size items.size hi=items.size))
  (h:Q (.ref s.heap.objs.size) { s with heap:=s.heap.push { cls:=.type "tuple",data:=.seq ((items.toList.drop (sIx items.size 0 lo)).take (sIx items.size items.size hi - sIx items.size 0 lo)).toArray } })
  (hsz:items.size≤sizeLine):wpAny (model prog w) A (getItem (.ref t) (.ref sl)) Q E s:=by
 have htake:sizeOk (.seq ((items.toList.drop (sIx items.size 0 lo)).take (sIx items.size items.size hi - sIx items.size 0 lo)).toArray):=by
  show((items.toList.drop (sIx items.size 0 lo)).take (sIx items.size items.size hi - sIx items.size 0 lo)).toArray.size≤sizeLine
  rw[ψf,ψM,ψR1,Array.length_toList]
  (first|lia|omega)
 have hj:sIx items.size items.size hi≤items.size:=zzh _ _ (ψh _) hi
 obtain⟨os,hos,hcs,hds⟩:=id hs
 have hTs:s.TypeIs (.ref sl) "slice":=⟨os,hos,hcs⟩
 unfold getItem
 try with_reducible refine wpAny_holding ?_
 first | refine wpAny_bind (wpAny_pure ?_) | skip
 refine wpAny_bind (wpAny_sequenceKey ht.typeIs (by decide) ?_)
 refine wpAny_bind (wpAny_callSpecial?_slot (name:=Str.ofString "__getitem__") ht.typeIs PyProof.Rows.slot_tuple_getitem
  (wpAny_call_entry PyProof.Rows.slot_tuple_getitem ht.typeIs entry_tuple_getitem ?_ (args_tuple_getitem _ _)))
 show wpAny _ _ (Builtin.Tuple.tupleItemsOf (.ref t) >>= _) _ _ s
 refine wpAny_bind (tupleItemsOf_ ht ?_)
 refine wpAny_bind (wpAny_typeOf hTs ?_)
 rw[if_pos (by decide)]
 refine wpAny_bind (zi3 hs pl pu ?_)
 have hno:¬ ((((sIx items.size 0 lo:Nat):Int) == 0&&(1:Int) == 1&&(sIx items.size items.size hi - sIx items.size 0 lo) == items.size)=true):=by
  intro q
  rw[ψt,ψt] at q
  have q1:((sIx items.size 0 lo:Nat):Int)=0:=eq_of_beq q.1.1
  have q2:sIx items.size items.size hi - sIx items.size 0 lo=items.size:=eq_of_beq q.2
  exact hw ⟨by (first|lia|omega),by (first|lia|omega)⟩
 show wpAny _ _ (if (((sIx items.size 0 lo:Nat):Int) == 0&&(1:Int) == 1&&(sIx items.size items.size hi - sIx items.size 0 lo) == items.size)=true then _ else _) _ _ s
 rw[if_neg hno,zve]
 first
  | exact wpAny_bind (m:=Builtin.Tuple.tupleExact _) (wpAny_newObj_type (wpAny_pure ⟨_,rfl,wpAny_pure h⟩) htake)
  | exact wpAny_bind (m:=Builtin.Tuple.tupleExact _) (wpAny_newObj_type (wpAny_bind (wpAny_pure (wpAny_pure ⟨_,rfl,wpAny_pure h⟩))) htake)
  | exact wpAny_bind (wpAny_bind (m:=Builtin.Tuple.tupleExact _) (wpAny_newObj_type (wpAny_pure (wpAny_pure ⟨_,rfl,wpAny_pure h⟩)) htake))
  | exact wpAny_bind (wpAny_bind (m:=Builtin.Tuple.tupleExact _) (wpAny_newObj_type (wpAny_pure ⟨_,rfl,wpAny_pure h⟩) htake))
end
end HT
namespace L2
open PySem PySem.Spec PyProof.Rows
abbrev TO:=St→Hp→(Option Int→Hp→Prop)→Prop
def PO(X:Cx)(e:Option Expr)(t:TO):Prop :=
 ∀(pins:List (Addr×Obj)) (s:Shared) (σ:St) (H:Hp) (Q:Option Int→Hp→Prop),Inv X pins σ H s→t σ H Q →
  wpAny (model X.prog X.w) X.A (evalPart e X.env) (λu s'=>∃o H',Inv X pins σ H' s'∧IsPart u o∧Q o H') X.xe s
def zef:TO:=λ_ H Q=>Q none H
def ziv(t:TE):TO:=λσ H Q=>t σ H λx H1=>∃i,x=.int i∧Q (some i) H1
section
variable {X:Cx} {e:Expr} {te:TE} {lo hi:Option Expr} {tl th:TO} {pos p2:Pos}
theorem zfg:PO X none zef:=by
 intro pins s σ H Q I h
 rw[evalPart_none]
 exact wpAny_pure ⟨none,H,I,.none,h⟩
theorem zeG(h:PE X e te):PO X (some e) (ziv te):=by
 intro pins s σ H Q I hw
 rw[evalPart_some]
 refine thn (h pins s σ H _ I hw) λu s1 hQ'=>?_
 obtain⟨x,H1,I1,r1,q1⟩:=hQ'
 obtain⟨i,rfl,q⟩:=q1
 obtain⟨t,rfl⟩:=r1
 exact⟨some i,H1,I1,.int i t,q⟩
def SlR(X:Cx)(r:V→Option Int→Option Int→Hp→VK→Prop):Prop :=
 ∀(pins:List (Addr×Obj)) (s:Shared) (σ:St) (H:Hp) (x:V) (v vl vu:Value) (lo hi:Option Int) (sl:Addr) (Q:VK),Inv X pins σ H s→zee x v→s.heap.IsSliceOf sl vl vu .none→IsPart vl lo→IsPart vu hi→r x lo hi H Q →
  ∃T id,typeLookup (.type T) "__getitem__"=pure (some (.builtin id))∧s.TypeIs v T∧wpAny (model X.prog X.w) X.A (getItem v (.ref sl)) (EP X pins σ Q) X.xe s
def tSl(r:V→Option Int→Option Int→Hp→VK→Prop)(te:TE)(tl th:TO):TE:=λσ H Q=>te σ H λx H1=>tl σ H1 λl H2=>th σ H2 λu H3=>r x l u H3 Q
theorem zdZ{r:V→Option Int→Option Int→Hp→VK→Prop}(hr:SlR X r)(he:PE X e te)(hl:PO X lo tl)(hu:PO X hi th):PE X (.Subscript e (.Slice lo hi none p2) pos) (tSl r te tl th):=by
 intro pins s σ H Q I h
 refine Subscript_ (thn (he pins s σ H _ I h) λv s1 hQ'=>?_)
 obtain⟨x,H1,I1,r1,q1⟩:=hQ'
 refine wpAny_Slice (thn (hl pins s1 σ H1 _ I1 q1) λvl s2 ⟨l,H2,I2,pl,q2⟩=>thn (hu pins s2 σ H2 _ I2 q2) λvu s3 hQ'=>?_)
 obtain⟨u,H3,I3,pu,q3⟩:=hQ'
 rw[evalPart_none]
 refine wpAny_pure ?_
 have I4:Inv X pins σ H3 { s3 with heap:=s3.heap.push { cls:=.type "slice",data:=.fields #[vl,vu,.none] } }:=I3.kept (t':=s3.toks) λb ob q=>Heap.get?_push_of_some _ q
 obtain⟨T,id,hT,ht,hg⟩:=hr pins { s3 with heap:=s3.heap.push { cls:=.type "slice",data:=.fields #[vl,vu,.none] } } σ H3 x v vl vu l u s3.heap.objs.size Q I4 r1 (Heap.IsSliceOf.new ..) pl pu q3
 show wpAny (model X.prog X.w) X.A (subscriptTail e (.Slice lo hi none p2) v (.ref s3.heap.objs.size)) (EP X pins σ Q) X.xe { s3 with heap:=s3.heap.push { cls:=.type "slice",data:=.fields #[vl,vu,.none] } }
 exact tail_any (ops:=[.ref s3.heap.objs.size,v]) ht hT hg (by with_unfolding_all rfl)
def ziW(xs:List V)(lo hi:Option Int):List V:=(xs.drop (HT.sIx xs.length 0 lo)).take (HT.sIx xs.length xs.length hi - HT.sIx xs.length 0 lo)
theorem zjE(xs:List V)(lo hi:Option Int):(ziW xs lo hi).length≤xs.length:=by
 unfold ziW
 rw[ψM,ψR1]
 (first|lia|omega)
def zzx(K:ψa):V→Option Int→Option Int→Hp→VK→Prop:=λx lo hi H Q=>∃a xs,x=.ref a∧SqT K H a xs ∧
 ¬ (HT.sIx xs.length 0 lo=0∧HT.sIx xs.length xs.length hi=xs.length)∧∀p,H p=none→Q (.ref p) (upd H p (.tup (ziW xs lo hi)))
theorem zqZ:SlR X (zzx X.K):=by
 intro pins s σ H x v vl vu lo hi sl Q I rx hs pl pu h
 obtain⟨a,xs,rfl,hx,hw,q⟩:=h
 cases rx
 obtain⟨its,r,ht,hz⟩:=I.tuple hx
 have hlen:its.toArray.size=xs.length:=by rw[ψf];exact r.length.symm
 refine⟨"tuple",_,PyProof.Rows.slot_tuple_getitem.lookup,ht.typeIs,?_⟩
 refine HT.getItem_tuple_cut ht hs pl pu (by rw[hlen];exact hw) ?_ (by rw[hlen];exact hz)
 rw[hlen]
 refine⟨.ref s.heap.objs.size,_,I.laid (t':=s.toks) (o:=.tup (ziW xs lo hi)) (λb ob q=>Heap.get?_push_of_some _ q) (ψh _) ?_,rfl,q _ (I.hok.fresh (ψh _))⟩
 exact⟨ψE (zjE xs lo hi) hz,_,(r.drop (HT.sIx xs.length 0 lo)).take (HT.sIx xs.length xs.length hi - HT.sIx xs.length 0 lo),IsTup.new _ _⟩
def rCatT(K:ψa):R2:=λx y H Q=>∃a b xs ys,x=.ref a∧y=.ref b∧SqT K H a xs∧SqT K H b ys∧xs≠[]∧xs.length+ys.length≤sizeLine ∧
 (ys=[]→Q (.ref a) H)∧(ys≠[]→∀p,H p=none→Q (.ref p) (upd H p (.tup (xs++ys))))
theorem zcH.nil_iff{xs:List V}{us:List Value}(r:zcH xs us):us=[]↔xs=[]:=by
 cases r with
 | nil=>simp
 | cons _ _=>simp
theorem zxM:OpR X (binaryOp .Add) (rCatT X.K):=by
 intro pins s σ H x y v u Q I rx ry h
 obtain⟨a,b,xs,ys,rfl,rfl,ha,hb,hx,hz,q1,q2⟩:=h
 cases rx
 cases ry
 obtain⟨its,r1,p1,_⟩:=I.tuple ha
 obtain⟨its2,r2,p2,_⟩:=I.tuple hb
 refine HT.cat_tup p1 p2 (λz=>hx (r1.nil_iff.mp z)) (λz=>⟨.ref a,H,I,rfl,q1 (r2.nil_iff.mp z)⟩) (λz=>?_) (by rw[← r1.length,← r2.length];exact hz)
 refine⟨.ref s.heap.objs.size,_,I.laid (t':=s.toks) (o:=.tup (xs++ys)) (λb ob q=>Heap.get?_push_of_some _ q) (ψh _) ?_,rfl,q2 (λw=>z (r2.nil_iff.mpr w)) _ (I.hok.fresh (ψh _))⟩
 exact⟨by rw[ψb1];exact hz,_,r1.append r2,IsTup.new _ _⟩
end
end L2
namespace L2
open PySem PySem.Spec PyProof.Rows
def ixN(n:Nat)(i:Int):Option Nat:=if 0≤i then (if i<n then some i.toNat else none) else if -(n:Int)≤i then some (i+n).toNat else none
def atI{α:Type}(xs:List α)(i:Int):Option α:=(ixN xs.length i).bind λj=>xs[j]?
theorem zs6{n:Nat}{i:Int}{j:Nat}(h:ixN n i=some j):seqIndex? i n=some j∧j<n∧-(n:Int)≤i∧i<n:=by
 unfold ixN at h
 by_cases h0:0≤i
 ·rw[if_pos h0] at h
  by_cases h1:i<n
  ·rw[if_pos h1] at h
   have e:i.toNat=j:=Option.some.inj h
   exact⟨by rw[seqIndex_of h0 h1,e],by (first|lia|omega),by (first|lia|omega),h1⟩
  ·rw[if_neg h1] at h;cases h
 ·rw[if_neg h0] at h
  by_cases h1:-(n:Int)≤i
  ·rw[if_pos h1] at h
   have e:(i+n).toNat=j:=Option.some.inj h
   exact⟨by rw[seqIndex_neg (by (first|lia|omega)) h1,e],by (first|lia|omega),h1,by (first|lia|omega)⟩
  ·rw[if_neg h1] at h;cases h
theorem zqR{α:Type}{xs:List α}{i:Int}{v:α}(h:atI xs i=some v):∃j,seqIndex? i xs.length=some j∧xs[j]?=some v∧j<xs.length∧-(xs.length:Int)≤i∧i<xs.length:=by
 unfold atI at h
 cases e:ixN xs.length i with
 | none=>rw[e] at h;cases h
 | some j =>
  rw[e] at h
  obtain⟨h1,h2,h3,h4⟩:=zs6 e
  exact⟨j,h1,h,h2,h3,h4⟩
theorem zfH{α:Type}{xs:List α}{j:Nat}{v:α}(h:xs[j]?=some v):atI xs (j:Int)=some v:=by
 have hj:j<xs.length:=(List.getElem?_eq_some_iff.mp h).1
 have e:ixN xs.length (j:Int)=some j:=by
  unfold ixN
  rw[if_pos (by (first|lia|omega)),if_pos (by (first|lia|omega))];simp
 unfold atI;rw[e];exact h
theorem ztJ{α:Type}(xs:List α)(v:α):atI (xs++[v]) (-1)=some v:=by
 have hl:(xs++[v]).length=xs.length+1:=by simp
 have e:ixN (xs++[v]).length (-1)=some xs.length:=by
  unfold ixN
  rw[hl,if_neg (by decide),if_pos (by (first|lia|omega))]
  congr 1
  (first|lia|omega)
 unfold atI
 rw[e]
 show(xs++[v])[xs.length]?=some v
 simp
def zxE(b:Expr):Prop:=∀o i,subscripted b false o i=operate [o,i] (getItem o i)
def IxR(X:Cx)(r:R2):Prop :=
 ∀(value slice:Expr) (pins:List (Addr×Obj)) (s:Shared) (σ:St) (H:Hp) (x y:V) (v u:Value) (Q:VK),Inv X pins σ H s→zee x v→zee y u→r x y H Q →
  subscripted slice false v u=operate [v,u] (getItem v u)→wpAny (model X.prog X.w) X.A (subscriptTail value slice v u) (EP X pins σ Q) X.xe s
def MtR(X:Cx)(id:String)(r:V→List V→Hp→VK→Prop):Prop :=
 ∀(pins:List (Addr×Obj)) (s:Shared) (σ:St) (H:Hp) (x:V) (xs:List V) (v:Value) (us:List Value) (Q:VK),Inv X pins σ H s→zee x v→zcH xs us→r x xs H Q →
  wpAny (model X.prog X.w) X.A (call (.builtin id) (v::us)) (EP X pins σ Q) X.xe s
section
variable {X:Cx} {a b:Expr} {ta tb:TE} {pos:Pos}
theorem zaI{r:R2}(hr:IxR X r)(ha:PE X a ta)(hb:PE X b tb)(hs:zxE b):PE X (.Subscript a b pos) (tOp r ta tb):=by
 intro pins s σ H Q I h
 exact Subscript_ (binT ha hb I h λv u s2 x y H2 I2 rx ry q=>hr a b pins s2 σ H2 x y v u Q I2 rx ry q (hs _ _))
def zf2(K:ψa):R2:=λx y H Q=>∃p xs i v,x=.ref p∧y=.int i∧SqL K H p xs∧atI xs i=some v∧Q v H
def zbH(K:ψa):R2:=λx y H Q=>∃p xs i v,x=.ref p∧y=.int i∧SqT K H p xs∧atI xs i=some v∧Q v H
theorem zbm:IxR X (zf2 X.K):=by
 intro value slice pins s σ H x y v u Q I rx ry h hs
 obtain⟨p,xs,i,z,rfl,rfl,hq,he,q⟩:=h
 cases rx
 obtain⟨t,rfl⟩:=ry
 obtain⟨its,r,pl,hz⟩:=I.list hq
 obtain⟨j,h1,h2,h3,h4,h5⟩:=zqR he
 obtain⟨w,ew,rw'⟩:=r.get h2
 have hl:=r.length
 have hn:=zlY
 have fin:EP X pins σ Q w s:=⟨z,H,I,rw',q⟩
 by_cases h0:0≤i
 ·have hj:i.toNat=j:=by
   rw[seqIndex_of h0 h5] at h1
   exact Option.some.inj h1
  exact item_listR pl.isList h0 (by (first|lia|omega)) (by rw[hj];simpa using ew) fin hs
 ·have hj:(i+(its.toArray.size:Int)).toNat=j:=by
   rw[seqIndex_neg (by (first|lia|omega)) h4] at h1
   rw[ψf,← hl]
   exact Option.some.inj h1
  exact subscriptTail_builtinR (x:=w) pl.isList.typeIs slot_list_getitem.lookup
   (wpAny_getItem_list_neg (Q:=λr s'=>r=w∧EP X pins σ Q r s') pl.isList (by (first|lia|omega)) (by rw[ψf] <;> (first|lia|omega)) (by (first|lia|omega)) (by rw[hj];simpa using ew) ⟨rfl,fin⟩) hs
theorem zar:IxR X (zbH X.K):=by
 intro value slice pins s σ H x y v u Q I rx ry h hs
 obtain⟨p,xs,i,z,rfl,rfl,hq,he,q⟩:=h
 cases rx
 obtain⟨t,rfl⟩:=ry
 obtain⟨its,r,pl,hz⟩:=I.tuple hq
 obtain⟨j,h1,h2,h3,h4,h5⟩:=zqR he
 obtain⟨w,ew,rw'⟩:=r.get h2
 have hl:=r.length
 have hn:=zlY
 have fin:EP X pins σ Q w s:=⟨z,H,I,rw',q⟩
 exact subscriptTail_builtinR (x:=w) pl.typeIs slot_tuple_getitem.lookup
  (getItem_tuple (j:=j) (Q:=λr s'=>r=w∧EP X pins σ Q r s') pl (by (first|lia|omega)) (by (first|lia|omega)) (by rw[ψf,← hl];exact h1) (by simpa using ew) ⟨rfl,fin⟩) hs
theorem zpZ(its:List Value)(n j:Nat)(u:Value):Obj.mapSeq (·.setIfInBounds j u) { cls:=.type "list",data:=.seq its.toArray n }={ cls:=.type "list",data:=.seq (its.set j u).toArray n }:=by
 simp[Obj.mapSeq]
theorem Inv.lst{pins:List (Addr×Obj)}{σ:St}{H:Hp}{s:Shared}{p:Addr}{xs:List V}(I:Inv X pins σ H s)(h:H p=some (.lst xs)) :
  ∃(its:List Value) (n:Nat),zcH xs its∧s.heap.get? p=some { cls:=.type "list",data:=.seq its.toArray n }∧xs.length≤sizeLine:=by
 obtain⟨z,its,n,r,e⟩:=I.hok p _ h
 exact⟨its,n,r,e,z⟩
theorem Inv.lstUpd{pins:List (Addr×Obj)}{σ:St}{H:Hp}{s:Shared}{p:Addr}{xs ys:List V}{its its':List Value}{n n':Nat}{f:Obj→Obj}(I:Inv X pins σ H s)(h:H p=some (.lst xs))
  (ho:s.heap.get? p=some { cls:=.type "list",data:=.seq its.toArray n }) (hf:f { cls:=.type "list",data:=.seq its.toArray n }={ cls:=.type "list",data:=.seq its'.toArray n' }) (r:zcH ys its') (hz:ys.length≤sizeLine) (t:Nat) :
  Inv X pins σ (upd H p (.lst ys)) { s with heap:=s.heap.update p f,toks:=t }:=by
 have e:(s.heap.update p f).get? p=some { cls:=.type "list",data:=.seq its'.toArray n' }:=by
  rw[Heap.get?_update_self f ho (by rw[hf] <;> rfl),hf]
 refine I.write (x:=p) (e:=p) (by rw[h];trivial) (.inl rfl) (λb u hb q=>(Heap.get?_update_other _ _ (Ne.symm hb)).trans q) ⟨_,e⟩ ?_
 exact⟨hz,its',n',r,e⟩
def zml:V→V→V→Hp→(Hp→Prop)→Prop:=λo i v H Q=>∃p xs k j,o=.ref p∧i=.int k∧H p=some (.lst xs)∧ixN xs.length k=some j∧Q (upd H p (.lst (xs.set j v)))
theorem zgP:PSet X zml:=by
 intro pins s σ H o i v ov iv u Q I ro ri rv h
 obtain⟨p,xs,k,j,rfl,rfl,hp,hj,q⟩:=h
 cases ro
 obtain⟨t,rfl⟩:=ri
 obtain⟨its,n,r,ho,hz⟩:=I.lst hp
 obtain⟨h1,h2,h3,h4⟩:=zs6 hj
 have hl:=r.length
 have hn:=zlY
 have I':Inv X pins σ (upd H p (.lst (xs.set j v))) { s with heap:=s.heap.update p (Obj.mapSeq (·.setIfInBounds j u)) } :=
  I.lstUpd hp ho (zpZ its n j u) (r.set rv j) (by rw[List.length_set];exact hz) s.toks
 by_cases h0:0≤k
 ·have hk:k.toNat=j:=by
   rw[seqIndex_of h0 h4] at h1
   exact Option.some.inj h1
  exact PySem.W.ki_setAt ho h0 (by (first|lia|omega)) (by rw[ψf,← hl];exact h4) (by rw[hk];exact⟨_,I',q⟩)
 ·have hk:(k+(its.toArray.size:Int)).toNat=j:=by
   rw[seqIndex_neg (by (first|lia|omega)) h3] at h1
   rw[ψf,← hl]
   exact Option.some.inj h1
  exact PySem.W.ki_setBack ho (by (first|lia|omega)) (by rw[ψf,← hl];exact h3) (by (first|lia|omega)) (by rw[hk];exact⟨_,I',q⟩)
theorem zm4(lo hi:Option Int)(n:Nat):(sliceBounds lo hi none n).1=((HT.sIx n 0 lo:Nat):Int)∧(sliceBounds lo hi none n).2.1=((HT.sIx n n hi:Nat):Int)∧(sliceBounds lo hi none n).2.2=1:=by
 refine⟨?_,?_,rfl⟩
 ·cases lo with
  | none=>simp[sliceBounds,HT.sIx]
  | some i =>
   simp only[sliceBounds,HT.sIx,Option.getD_none,show(1:Int) > 0 by decide,if_true]
   by_cases h:i<0
   ·simp only[h,if_true] <;> (first|lia|omega)
   ·simp only[h,if_false] <;> (first|lia|omega)
 ·cases hi with
  | none=>simp[sliceBounds,HT.sIx]
  | some i =>
   simp only[sliceBounds,HT.sIx,Option.getD_none,show(1:Int) > 0 by decide,if_true]
   by_cases h:i<0
   ·simp only[h,if_true] <;> (first|lia|omega)
   ·simp only[h,if_false] <;> (first|lia|omega)
theorem zlm(its:List Value)(lo hi:Option Int):slicePick its.toArray lo hi none=((its.drop (HT.sIx its.length 0 lo)).take (HT.sIx its.length its.length hi - HT.sIx its.length 0 lo)).toArray:=by
 obtain⟨h1,h2,h3⟩:=zm4 lo hi its.toArray.size
 unfold slicePick
 rw[h1,h2,h3]
 simp only[sliceRange_one,pick_run,ψf] <;> rfl
def zuH(K:ψa):V→Option Int→Option Int→Hp→VK→Prop:=λx lo hi H Q=>∃a xs,x=.ref a∧SqL K H a xs∧∀p,H p=none→Q (.ref p) (upd H p (.lst (ziW xs lo hi)))
theorem zhx:SlR X (zuH X.K):=by
 intro pins s σ H x v vl vu lo hi sl Q I rx hs pl pu h
 obtain⟨a,xs,rfl,hx,q⟩:=h
 cases rx
 obtain⟨its,r,ht,hz⟩:=I.list hx
 have hlen:=r.length
 refine⟨"list",_,slot_list_getitem.lookup,ht.isList.typeIs,?_⟩
 refine wpAny_getItem_list_slice ht.isList hs pl pu .none (by simp) ?_ (by rw[ψf] <;> (first|lia|omega))
 rw[zlm,← hlen]
 refine⟨.ref s.heap.objs.size,_,I.laid (t':=s.toks) (o:=.lst (ziW xs lo hi)) (λb ob q=>Heap.get?_push_of_some _ q) (ψh _) ?_,rfl,q _ (I.hok.fresh (ψh _))⟩
 exact⟨ψE (zjE xs lo hi) hz,_,0,(r.drop (HT.sIx xs.length 0 lo)).take (HT.sIx xs.length xs.length hi - HT.sIx xs.length 0 lo),Heap.get?_push_size _ rfl⟩
def eqV:V→V→Bool
 | .non,.non=>true
 | .bl a,.bl b=>a == b
 | .bl a,.int b=>(if a then 1 else 0) == b
 | .int a,.bl b=>a == (if b then 1 else 0)
 | .int a,.int b=>a == b
 | .str a,.str b=>a == b
 | _,_=>false
theorem zaV:zjM X (.builtin "len") (λxs H Q=>∃p ys,xs=[.ref p]∧(SqL X.K H p ys∨SqT X.K H p ys)∧Q (.int ys.length) H):=by
 intro pins s σ H xs us Q I r h
 obtain⟨p,ys,rfl,hq,q⟩:=h
 obtain⟨u,rfl,rx⟩:=zr2 r
 cases rx
 have hn:=zlY
 rcases hq with hq | hq
 ·obtain⟨its,r',pl,hz⟩:=I.list hq
  have hlen:=r'.length
  exact Calls.call_len_list pl.isList (by simp only[ψf] <;> (first|lia|omega)) ⟨.int ys.length,H,I.tok _,⟨s.toks+1,by rw[ψf,hlen]⟩,q⟩
 ·obtain⟨its,r',pl,hz⟩:=I.tuple hq
  have hlen:=r'.length
  exact len_tuple pl (by simp only[ψf] <;> (first|lia|omega)) ⟨.int ys.length,H,I.tok _,⟨s.toks+1,by rw[ψf,hlen]⟩,q⟩
theorem zdh:zjM X (.type "list") (λxs H Q=>∃p ys,xs=[.ref p]∧(SqL X.K H p ys∨SqT X.K H p ys)∧∀l,H l=none→Q (.ref l) (upd H l (.lst ys))):=by
 intro pins s σ H xs us Q I r h
 obtain⟨p,ys,rfl,hq,q⟩:=h
 obtain⟨u,rfl,rx⟩:=zr2 r
 cases rx
 have fin:∀(its:List Value),zcH ys its→ys.length≤sizeLine→∀(h':Heap) (c':Nat),(∀b o',s.heap.get? b=some o'→h'.get? b=some o') →
   h'.get? s.heap.objs.size=some { cls:=.type "list",dict:=none,data:=.seq its.toArray c',slots:=#[] }→EP X pins σ Q (.ref s.heap.objs.size) { s with heap:=h' }:=λits r' hz h' c' kp e =>
  ⟨.ref s.heap.objs.size,_,I.laid (t':=s.toks) kp (ψh _) (show zeN X.prog X.w _ h' _ (.lst ys) from⟨hz,its,c',r',e⟩),rfl,q _ (I.hok.fresh (ψh _))⟩
 rcases hq with hq | hq
 ·obtain⟨its,r',pl,hz⟩:=I.list hq
  have hlen:=r'.length
  obtain⟨o,ho,hc,n,hd⟩:=pl.isList
  exact call_list_seq p (.inl rfl) ho hc hd (λh' c' kp e=>fin its r' hz h' c' kp e) (by simp only[ψf] <;> (first|lia|omega))
 ·obtain⟨its,r',pl,hz⟩:=I.tuple hq
  have hlen:=r'.length
  obtain⟨o,ho,hc,n,hd⟩:=pl
  exact call_list_seq p (.inr rfl) ho hc hd (λh' c' kp e=>fin its r' hz h' c' kp e) (by simp only[ψf] <;> (first|lia|omega))
theorem zhJ:zjM X (.type "tuple") (λxs H Q=>∃p ys,xs=[.ref p]∧((SqL X.K H p ys∧∀l,H l=none→Q (.ref l) (upd H l (.tup ys)))∨(SqT X.K H p ys∧Q (.ref p) H))):=by
 intro pins s σ H xs us Q I r h
 obtain⟨p,ys,rfl,h⟩:=h
 obtain⟨u,rfl,rx⟩:=zr2 r
 cases rx
 rcases h with ⟨hq,q⟩ | ⟨hq,q⟩
 ·obtain⟨its,r',pl,hz⟩:=I.list hq
  have hlen:=r'.length
  refine call_tuple_list pl.isList (λh' kp=>?_) (by simp only[ψf] <;> (first|lia|omega))
  have I1:Inv X pins σ H { s with heap:=h' }:=I.kept (t':=s.toks) kp
  have I2:Inv X pins σ (upd H h'.objs.size (.tup ys)) { s with heap:=h'.push { cls:=.type "tuple",data:=.seq its.toArray } } :=
   I1.laid (t':=s.toks) (λb o e=>Heap.get?_push_of_some _ e) (ψh _) (show zeN X.prog X.w _ _ _ (.tup ys) from⟨hz,its,r',IsTup.new _ _⟩)
  exact⟨.ref h'.objs.size,_,I2,rfl,q _ (I1.hok.fresh (ψh _))⟩
 ·obtain⟨its,r',pl,hz⟩:=I.tuple hq
  exact call_tuple_same pl ⟨.ref p,H,I,rfl,q⟩
def tyV(K:ψa)(T:String)(x:V)(H:Hp):Prop:=match x with
 | .str _=>T="str"
 | .int _=>T="int"
 | .ref p=>(T="list"∧∃xs,SqL K H p xs)∨(T="tuple"∧∃o,K.lookup p=some o∧o.cls=.type "tuple"∧o.dict=none) ∨
   (T="dict"∧((∃kvs,H p=some (.dK kvs))∨∃kvs,H p=some (.dT kvs)))∨(T="set"∧∃S n,H p=some (.set S n))
 | _=>False
theorem zzi{pins:List (Addr×Obj)}{σ:St}{H:Hp}{s:Shared}{T:String}{x:V}{v:Value}(I:Inv X pins σ H s)(r:zee x v)(ty:tyV X.K T x H) :
  s.TypeIs v T∧∀a,v=.ref a→∃ob,s.heap.get? a=some ob∧ob.dict=none:=by
 cases x with
 | str z =>
  obtain⟨t,rfl⟩:=r
  cases (show T="str" from ty)
  exact⟨typeIs_str s z t,λ_ e=>nomatch e⟩
 | int i =>
  obtain⟨t,rfl⟩:=r
  cases (show T="int" from ty)
  exact⟨typeIs_int s i t,λ_ e=>nomatch e⟩
 | ref p =>
  cases r
  rcases ty with ⟨rfl,xs,hq⟩ | ⟨rfl,o,hk,hc,hd⟩ | ⟨rfl,hk⟩ | ⟨rfl,S,n,hk⟩
  ·obtain⟨its,_,pl,_⟩:=I.list hq
   refine⟨pl.isList.typeIs,λa e=>?_⟩
   cases e
   obtain⟨o,n,e,c,hd,_⟩:=pl
   exact⟨o,e,hd⟩
  ·refine⟨⟨o,I.kIn p o hk,hc⟩,λa e=>?_⟩
   cases e
   exact⟨o,I.kIn _ o hk,hd⟩
  ·have z:∃o,s.heap.get? p=some o∧o.ExactDict:=by
    rcases hk with ⟨kvs,hk⟩ | ⟨kvs,hk⟩
    ·obtain⟨_,_,_,_,o,_,_,e,ex,_⟩:=I.hok p _ hk
     exact⟨o,e,ex⟩
    ·obtain⟨_,_,_,_,o,_,_,e,ex,_⟩:=I.hok p _ hk
     exact⟨o,e,ex⟩
   obtain⟨o,e,ex⟩:=z
   refine⟨⟨o,e,ex.1⟩,λa e2=>?_⟩
   cases e2
   exact⟨o,e,ex.2.1⟩
  ·obtain⟨o,_,_,_,e,ex,_⟩:=I.hok p _ hk
   refine⟨⟨o,e,ex.1⟩,λa e2=>?_⟩
   cases e2
   exact⟨o,e,ex.2.1⟩
 | _=>exact False.elim ty
def tBM(K:ψa)(T:String)(r:V→List V→Hp→VK→Prop)(to:TE)(t:TA):TE:=λσ H Q=>to σ H λx H1=>tyV K T x H1∧t σ H1 λxs H2=>r x xs H2 Q
variable {o e:Expr} {es:List Expr} {to:TE} {t:TA} {name:Str} {apos cpos:Pos} {T id:String} {r:V→List V→Hp→VK→Prop}
theorem zuh(pa:PlainAttrs T)(slot:Slot T name id)(hty:typeOf (.builtin id)=pure (.type "method_descriptor"))(hm:MtR X id r)(ho:PE X o to)(ha:PA X (e::es) t)
  (hbase:attributeBase o name X.env (eval o X.env)=eval o X.env:=by rfl)
  (hfew:((backTo cpos (starEach (e::es) X.env)).all (λx=>!x.1)&&(backToKw cpos (keywordEach [] X.env)).all (λx=>x.1.isSome)
   && decide ((e::es).length+([]:List Keyword).length+(if ([]:List Keyword).isEmpty then 0 else 1)<30))=true:=by rfl)
  (hline:(apos.endLine == cpos.line)=true:=by rfl) (hs:starEach (e::es) X.env=(false,eval e X.env)::starEach es X.env:=by rfl) (hplain:(backTo cpos (starEach es X.env)).any (·.1)=false:=by rfl) :
  PE X (.Call (.Attribute o name apos) (e::es) [] cpos) (tBM X.K T r to t):=by
 intro pins s σ H Q I h
 refine wpAny_Call_method_late hbase hfew hline rfl (thn (ho pins s σ H _ I h) λv s1 hQ'=>?_)
 obtain⟨x,H1,I1,r1,ty,q1⟩:=hQ'
 obtain⟨h1,h2⟩:=zzi I1 r1 ty
 refine⟨T,id,pa,slot,hty,h1,h2,?_⟩
 have hA:=ha cpos pins s1 σ H1 _ I1 q1
 rw[hs] at hA ⊢
 refine Calls.callWith_builtin (by show(false || (backTo cpos (starEach es X.env)).any (·.1))=false;rw[hplain] <;> rfl) (Calls.evalArgs_plain ?_)
 exact thn hA λus s2 ⟨vs,H2,I2,r2,q2⟩=>hm pins s2 σ H2 x vs v us Q I2 r1 r2 q2
end
end L2
namespace L2
open PySem PySem.Spec PyProof.Rows
def MtM(X:Cx)(id:String)(r:V→List V→Hp→VK→Prop):Prop :=
 ∀(pins:List (Addr×Obj)) (s:Shared) (σ:St) (H:Hp) (x:V) (xs:List V) (v:Value) (us:List Value) (Q:VK),Inv X pins σ H s→zee x v→zcH xs us→r x xs H Q →
  wpAny (model X.prog X.w) X.A (call (.builtin id) (v::us)) (EP X pins σ Q) X.xe s
theorem zcH.one:∀{x:V} {us:List Value},zcH [x] us→∃u,us=[u]∧zee x u
 | _,_,.cons r .nil=>⟨_,rfl,r⟩
theorem zcH.reverse{xs:List V}{us:List Value}(h:zcH xs us):zcH xs.reverse us.reverse:=by
 induction h with
 | nil=>exact .nil
 | cons r t ih=>rw[List.reverse_cons,List.reverse_cons];exact zcH.append ih (.cons r .nil)
section
variable {X:Cx} {pins:List (Addr×Obj)} {σ:St} {H:Hp} {s:Shared} {l b:Addr} {xs ys zs:List V}
theorem Inv.lset{its its':List Value}{n:Nat}{f:Array Value→Array Value}{t':Nat}(I:Inv X pins σ H s)(hH:H l=some (.lst xs))
  (e:s.heap.get? l=some { cls:=.type "list",data:=.seq its.toArray n }) (hf:f its.toArray=its'.toArray) (hv:zcH ys its') (hz:ys.length≤sizeLine) :
  Inv X pins σ (upd H l (.lst ys)) { s with heap:=s.heap.update l (Obj.mapSeq f),toks:=t' }:=by
 have q:=PySem.IsL.update e f
 rw[hf] at q
 refine I.write (x:=l) (e:=l) (by rw[hH];exact trivial) (.inl rfl) (λb' u hb hu=>(Heap.get?_update_other s.heap (Obj.mapSeq f) (Ne.symm hb)).trans hu) ⟨_,q⟩ ?_
 exact⟨hz,its',_,hv,q⟩
theorem Inv.lnew{its:List Value}{t':Nat}(I:Inv X pins σ H s)(hv:zcH ys its)(hz:ys.length≤sizeLine) :
  Inv X pins σ (upd H s.heap.objs.size (.lst ys)) { s with heap:=s.heap.push { cls:=.type "list",data:=.seq its.toArray },toks:=t' } :=
 I.laid (λ_ _ q=>Heap.get?_push_of_some _ q) (ψh _) ⟨hz,its,0,hv,Heap.get?_push_size _ rfl⟩
theorem Inv.fresh(I:Inv X pins σ H s):H s.heap.objs.size=none:=I.hok.fresh (ψh _)
theorem Inv.lstM(I:Inv X pins σ H s)(hH:H l=some (.lst xs)):xs.length≤sizeLine∧∃(its:List Value) (n:Nat),zcH xs its∧xs.length=its.length∧s.heap.get? l=some { cls:=.type "list",data:=.seq its.toArray n }:=by
 obtain⟨z,its,n,r,e⟩:=I.hok l _ hH
 exact⟨z,its,n,r,r.length,e⟩
end
section
variable {X:Cx}
def zcD:V→List V→Hp→VK→Prop:=λx vs H Q=>∃l xs y,x=.ref l∧vs=[y]∧H l=some (.lst xs)∧xs.length<sizeLine∧Q .non (upd H l (.lst (xs++[y])))
theorem zfw:MtM X "list.append" zcD:=by
 intro pins s σ H x vs v us Q I rx rv h
 obtain⟨l,xs,y,rfl,rfl,hH,hz,q⟩:=h
 cases rx
 obtain⟨u,rfl,ru⟩:=rv.one
 obtain⟨z,its,n,r,hl,e⟩:=I.lstM hH
 refine call_meets F.slot_list_append ⟨_,e,rfl⟩ F.entry_list_append (F.args_list_append_2 _ _) (PySem.list_append l its.toArray n u (by rw[ψf];(first|lia|omega))) ⟨e,?_⟩
 refine⟨.non,_,I.lset (its':=its++[u]) hH e (by simp) (r.append (.cons ru .nil)) ?_,rfl,q⟩
 rw[ψb1,List.length_singleton]
 (first|lia|omega)
def zwq:R2:=λx y H Q=>∃l b xs zs,x=.ref l∧y=.ref b∧H l=some (.lst xs)∧H b=some (.lst zs)∧xs.length+zs.length≤sizeLine∧∀p,H p=none→Q (.ref p) (upd H p (.lst (xs++zs)))
theorem zkO:OpR X (binaryOp .Add) zwq:=by
 intro pins s σ H x y v u Q I rx ry h
 obtain⟨l,b,xs,zs,rfl,rfl,hH,hB,hz,q⟩:=h
 cases rx
 cases ry
 obtain⟨z,its,n,r,hl,e⟩:=I.lstM hH
 obtain⟨z2,its2,n2,r2,hl2,e2⟩:=I.lstM hB
 refine PySem.P.add_list e e2 ?_ (by rw[ψf,ψf];(first|lia|omega))
 have ea:its.toArray++its2.toArray=(its++its2).toArray:=by simp
 rw[ea]
 exact⟨.ref _,_,I.lnew (t':=s.toks) (r.append r2) (by rw[ψb1];(first|lia|omega)),rfl,q _ I.fresh⟩
end
section
variable {prog:Program} {w:World} {A:Around} {E:Value→Shared→Prop} {s:Shared}
end
section
variable {X:Cx}
end
end L2
namespace Att
open PySem PySem.W PySem.Calls PyProof.Rows
theorem zjw{P:Params}{h:Heap}:∀(ns:List Int) (vs:List Value),WellAll P h vs (ns.map WData.int)→IntsAre vs ns:=by
 intro ns
 induction ns with
 | nil =>
  intro vs w
  rw[ψu1] at w
  cases w
  exact .nil
 | cons n ns ih =>
  intro vs w
  rw[ψu] at w
  cases w with
  | cons a b =>
   cases a
   exact .cons _ _ (ih _ b)
theorem zrO{l:OpenLaw}{n:Nat}(hn:l.most=some n){P:Params}{h:Heap}{args:List WData}{vals:List Value}
  (hpre:l.row.toRowW.claim.pre args=true) (hwl:WellAll P h vals args) :
  ∃a vs ns,vals=[Value.ref a]∧args=[WData.list (ns.map WData.int)]∧h.get? a=some { cls:=.type "list",data:=.seq vs.toArray }∧IntsAre vs ns∧ns.length≤n:=by
 have hsh:WShape.hasAll [] args [.list .int]=true:=(pre_splitW hpre).1
 have hc:l.pre.holds [] { args:=args }=true:=(pre_splitW hpre).2
 obtain⟨d,r,rfl,h1,h2⟩:=hasAllW_cons hsh
 obtain rfl:=hasAllW_nil h2
 obtain⟨xs,rfl,h3⟩:=hasW_list h1
 obtain⟨ns,rfl⟩:=items_int h3
 have hlen:ns.length≤n:=by
  unfold OpenLaw.pre at hc
  have h4:(WTm.not (.lt (.lit (.int (n:Int))) (.len (.arg 0)))).holds [] { args:=[.list (ns.map .int)] }=true:=by
   have h4:=(holds_andW hc).1
   rw[hn] at h4
   exact h4
  have h5:=condW_of h4 (w_not (w_lt w_lit (w_len_list (w_arg rfl))))
  rw[ψb] at h5
  refine Nat.le_of_not_lt λq=>?_
  have q':(n:Int)<((ns.length:Nat):Int):=by (first|lia|omega)
  first
   | (rw[decide_eq_true q'] at h5;exact absurd h5 (by decide))
   | (simp at h5;(first|lia|omega))
 cases hwl with
 | cons w1 w2 =>
  cases w2
  cases w1 with
  | list ho hall=>exact⟨_,_,ns,rfl,rfl,ho,zjw ns _ hall,hlen⟩
theorem zqp(l:OpenLaw)(args:List WData):l.row.toRowW.claim.post args (.bool true) args=true :=
 postW_of (r:=l.row.toRowW) (X:=(true == true))
  (show WShape.has [] (.bool true) .bool=true by first | rfl | decide | simp[WShape.has,WShape.arms,WShape.armsAll])
  (show(WTm.eq .res (.lit (.bool true))).value [] { args:=args,res:=some (.bool true),after:=args }=some (.bool (true == true)) from w_eq_bool (w_res rfl) w_lit) rfl
section
variable {prog:Program} {w:World} {A:Around} {E:Value→Shared→Prop} {s:Shared} {K:Frag}
end
end Att
namespace L2
open PySem PySem.Spec PyProof.Rows
theorem zmR:∀{vs:List Value} {ns:List Int},IntsAre vs ns→zcH (ns.map V.int) vs
 | _,_,.nil=>.nil
 | _,_,.cons n t h=>.cons ⟨t,rfl⟩ (zmR h)
def Only(H:Hp):Prop:=∀b,H b=none∨∃o xs,H b=some (.frz o (.lst xs))
theorem zvJ{P:Program}{w:World}{K:ψa}{mg mb:Str→Option Value}{CX:CXT}{k:Nat}{fa a:Addr}{fd:FuncData}{x:Str}{sp:Sp}{s₁:Shared}{vs:List Value}{ns:List Int}
  (KX:K.In s₁.heap) (hns:s₁.heap.Ns mainGlobals mg) (hb:s₁.heap.Ns builtinsNs mb) (hbb:∀x:Str,x≠"__name__"→mb x=bootBuiltins x) (hlim:s₁.heap.NoLimit) (hg:s₁.gens=#[])
  (ha:s₁.heap.get? a=some { cls:=.type "list",data:=.seq vs.toArray }) (hi:IntsAre vs ns) (hl:ns.length≤sizeLine) (hr:zlR k callerA)
  (F:∀base:Heap,K.In base→base.Ns mainGlobals mg→zcr P w K mg base CX k fa fd [x] sp) (hbind:∀(s:Shared) (u:Value),BindsTo s fd ⟨[u],[]⟩ [(x,u)])
  (hsp:∀H:Hp,Only H→SqL K H a (ns.map V.int)→sp [.ref a] H (λv _=>v=.bl true) λ_ _ _=>False)
  (hCX:∀H e s',CX [] H s₁ (λ_ _ _=>False) e s'→False) :
  codeAny (model P w) callerA (.call (.ref fa) ⟨[.ref a],[]⟩) (λr s'=>r=.ok (.ret (.bool true))∧OldK s₁.heap s'.heap∧s'.os=s₁.os∧AllBare s'.gens) s₁:=by
 have rv:=zmR hi
 have lenV:=hi.length
 have core:∀H:Hp,Only H→SqL K H a (ns.map V.int)→HOk P w H s₁.heap→(∀b,H b≠none→b=a)→(H a≠none→K.lookup a=none) →
   codeAny (model P w) callerA (.call (.ref fa) ⟨[.ref a],[]⟩) (λr s'=>r=.ok (.ret (.bool true))∧OldK s₁.heap s'.heap∧s'.os=s₁.os∧AllBare s'.gens) s₁:=by
  intro H hO hS hok hA hK
  have base_of:∀{b:Addr} {o:Obj},s₁.heap.get? b=some o→H b=none→(zuG s₁.heap H).get? b=some o:=λe n=>zvN e n
  have noA:∀{b:Addr} {o:Obj} {es:Array DictEntry} {ep:Nat},s₁.heap.get? b=some o→o.data=.dict es ep→H b=none:=fun {b o es ep} e d=>by
   cases q:H b with
   | none=>rfl
   | some u =>
    have e':b=a:=hA b (by rw[q];simp)
    subst e'
    rw[ha] at e;cases e
    have d':Data.seq vs.toArray _=Data.dict es ep:=d
    cases d'
  have nsK:∀{b:Addr} {m:Str→Option Value},s₁.heap.Ns b m→(zuG s₁.heap H).Ns b m:=fun {b m} ⟨o,es,ep,e,d,r⟩=>⟨o,es,ep,base_of e (noA e d),d,r⟩
  have hKb:K.In (zuG s₁.heap H):=λb o e=>base_of (KX b o e) (by
   cases q:H b with
   | none=>rfl
   | some u =>
    have e':b=a:=hA b (by rw[q];simp)
    subst e'
    rw[hK (by rw[q];simp)] at e;cases e)
  have hM:Mod K mg (zuG s₁.heap H):=⟨hKb,nsK hns,⟨mb,nsK hb,hbb⟩,let ⟨mc,h1,h2⟩:=hlim;⟨mc,nsK h1,h2⟩⟩
  have e0:Env0 P w K mg (zuG s₁.heap H) callerA [] s₁ H:=⟨rfl,hM,λb o e=>zyi e,Nat.le_of_eq (zsF _ _),trivial,λb hb=>absurd (show b∈([]:List Addr) from hb) (by simp),hok,.of_eq hg⟩
  refine codeAny_mono ((F _ hKb (nsK hns)).run callerA [] s₁ H ⟨[.ref a],[]⟩ [.ref a] [.ref a] _ _ hr e0 (hbind s₁ (.ref a)) (.cons rfl .nil) (hsp H hO hS)) λr s' h=>?_
  cases r with
  | error e=>exact(hCX H e s' h).elim
  | ok fl =>
   cases fl with
   | next=>exact False.elim h
   | brk=>exact False.elim h
   | cont=>exact False.elim h
   | ret u =>
    obtain⟨v,H',os,bare,un,hok',r',q⟩:=h
    have q':v=.bl true:=q
    subst q'
    obtain rfl:u=Value.bool true:=r'
    refine⟨rfl,OldK.of_keep λb o e=>?_,os,bare⟩
    cases q:H b with
    | none=>exact un.keep b o e q (by intro z;exact absurd (show b∈([]:List Addr) from z) (by simp)) (by simp)
    | some u =>
     rcases hO b with z | ⟨ob,xs,z⟩
     ·rw[q] at z;cases z
     ·have z2:=un.frzs b ob _ z
      obtain⟨e1,_⟩:=hok b _ z
      obtain⟨e2,_⟩:=hok' b _ z2
      rw[e] at e1;cases e1
      exact e2
 cases hk:K.lookup a with
 | some o =>
  have e:=KX a o hk
  rw[ha] at e
  cases e
  refine core (λ_=>none) (λ_=>.inl rfl) (.inr ⟨_,vs.toArray,_,hk,rfl,rfl,rfl,by rw[ψf,lenV];exact hl,by simpa using rv⟩) (λb u z=>by have z':(none:Option HO)=some u:=z;cases z') (λb z=>absurd rfl z) λz=>absurd rfl z
 | none =>
  refine core (λb=>if b=a then some (.frz { cls:=.type "list",data:=.seq vs.toArray } (.lst (ns.map V.int))) else none) (λb=>?_) (.inl (.inr ⟨{ cls:=.type "list",data:=.seq vs.toArray },if_pos rfl⟩)) (λb u z=>?_) (λb z=>?_) λ_=>hk
  ·by_cases hb:b=a
   ·exact .inr ⟨_,_,if_pos hb⟩
   ·exact .inl (if_neg hb)
  ·by_cases hb:b=a
   ·have z':=(if_pos hb).symm.trans z
    cases z'
    subst hb
    exact⟨ha,by rw[ψb];exact hl,vs,_,rv,ha⟩
   ·have z':=(if_neg hb).symm.trans z
    cases z'
  ·by_cases hb:b=a
   ·exact hb
   ·exact absurd (if_neg hb) z
end L2
namespace L2
open PySem PySem.Spec PyProof.Rows
end L2
namespace L2
open PySem PySem.Spec PyProof.Rows
def zkV(s:Stmt):Arguments:=match s with
 | .FunctionDef _ a _ _ _ _ _ _ _ _=>a
 | _=>{ posonlyargs:=[],args:=[],vararg:=none,kwonlyargs:=[],kw_defaults:=[],kwarg:=none,defaults:=[] }
def zjt(s:Stmt):List Stmt:=match s with
 | .FunctionDef _ _ b _ _ _ _ _ _ _=>b
 | _=>[]
def zai(s:Stmt):Scope:=match s with
 | .FunctionDef _ _ _ _ _ _ sc _ _ _=>sc
 | _=>{ kind:=.function,names:=[],isGenerator:=false,isCoroutine:=false }
abbrev CX0:CXT:=λ_ _ _ _ _ _=>False
abbrev E0:XK:=λ_ _ _=>False
theorem zaH{X:Cx}:zsd CX0 X E0:=λ_ _ _ _ _ _ _ h=>h.elim
structure Fun (K:ψa) (x qual:Str) (st:Stmt) (f:Addr) (fd:FuncData):Prop where
 ex:∃(oc:Value) (od:Option Addr) (kV doc pm:Value) (an:Option Addr) (cdv ct:Value) (osl:Array (Option Value)),
  fd=PySem.W.fnOf x qual (zkV st) (zjt st) (zai st) .none kV doc pm an cdv ct∧K.lookup f=some ⟨oc,od,.func fd,osl⟩∧PySem.W.codeIn K cdv qual=true
 kp:PySem.W.keepIn K (.ref f)=true
section
variable {P:Program} {w:World} {K:ψa} {mg:Str→Option Value} {base:Heap}
theorem Fun.ok{x qual:Str}{st:Stmt}{f:Addr}{fd:FuncData}{N ps:List Str}{k:Nat}{sp:Sp}(F:Fun K x qual st f fd)(S:zaJ N ps (zai st))(len:∀vs H Q E,sp vs H Q E→vs.length=ps.length)
  (hbody:∀(cdv:Value) (A:Around) (outer:List Env) (s:Shared) (H:Hp) (vs:List V) (Q:VK) (E:XK),zlR k (A.deeper (envOfC qual (zai st) s.heap.objs.size f cdv))→sp vs H Q E →
   ∃t,PSs (zyz CX0 P w K mg base N qual (zai st) f cdv A outer s H E).nox (zjt st) t∧t { nx:=λ_ H'=>Q .non H',rt:=Q } (start N vs) H):zcr P w K mg base CX0 (k+1) f fd ps sp:=by
 obtain⟨oc,od,kV,doc,pm,an,cdv,ct,osl,rfl,lk,hcd⟩:=F.ex
 refine fn_of lk hcd S len λA outer s H vs Q E hr hsp=>?_
 obtain⟨t,h,q⟩:=hbody cdv A outer s H vs Q E hr hsp
 exact⟨t,h.nox,q⟩
theorem Fun.binds{x qual:Str}{st:Stmt}{f:Addr}{fd:FuncData}{ps:List Str}(F:Fun K x qual st f fd)
  (h:∀(kV doc pm:Value) (an:Option Addr) (cdv ct:Value) (us:List Value),us.length=ps.length→bindArgs (PySem.W.fnOf x qual (zkV st) (zjt st) (zai st) .none kV doc pm an cdv ct) ⟨us,[]⟩=pure (ps.zip us)):zbk K fd ps []:=by
 obtain⟨oc,od,kV,doc,pm,an,cdv,ct,osl,rfl,lk,hcd⟩:=F.ex
 exact .all (h kV doc pm an cdv ct)
theorem zaX{x qual:Str}{st:Stmt}{f:Addr}{oc:Value}{od an:Option Addr}{osl:Array (Option Value)}{kV doc pm cdv ct:Value}(l:K.lookup f=some ⟨oc,od,.func (PySem.W.fnOf x qual (zkV st) (zjt st) (zai st) .none kV doc pm an cdv ct),osl⟩)
  (c:PySem.W.codeIn K cdv qual=true) (k:PySem.W.keepIn K (.ref f)=true):Fun K x qual st f (PySem.W.fnOf x qual (zkV st) (zjt st) (zai st) .none kV doc pm an cdv ct):=⟨⟨oc,od,kV,doc,pm,an,cdv,ct,osl,rfl,l,c⟩,k⟩
end
theorem zbR{n:Nat}(h:n≤1000):n<sizeLine:=ψZ1 h (by decide)
section
variable {X:Cx}
theorem pv(i:Nat){x:Str}{pos:Pos}(hN:X.N[i]?=some x:=by rfl)(hv:Vis X.env.scope x:=by first | exact Or.inl rfl | exact Or.inr (Or.inl rfl) | exact Or.inr (Or.inr rfl))(hd:(x == ("__debug__":Str))=false:=by decide)
  (hcd:(x == ("__classdict__":Str))=false:=by decide):PE X (.Name x pos) (zac i):=zAz hN hv hd hcd
end
theorem zlV{A B:Prop}(h:B):if false=true then A else B:=by
 rw[if_neg ψO]
 exact h
theorem zpc{A B:Prop}(h:A):if true=true then A else B:=by
 rw[if_pos rfl]
 exact h
theorem zbj{c A B:Prop}[Decidable c](h1:c→A)(h2:¬ c→B):if c then A else B:=by
 by_cases h:c
 ·rw[if_pos h]
  exact h1 h
 ·rw[if_neg h]
  exact h2 h
def zaP(H H':Hp):Prop:=∀b o,H b=some o→H' b=some o
theorem zaP.refl(H:Hp):zaP H H:=λ_ _ h=>h
theorem zaP.trans{H H1 H2:Hp}(a:zaP H H1)(b:zaP H1 H2):zaP H H2:=λc o h=>b c o (a c o h)
theorem zaP.free{H H':Hp}(e:zaP H H'){l:Addr}(h:H' l=Option.none):H l=Option.none:=by
 cases q:H l with
 | none=>rfl
 | some o =>
  rw[e l o q] at h
  cases h
theorem zaP.seq{K:ψa}{H H':Hp}{a:Addr}{xs:List V}(e:zaP H H')(h:SqL K H a xs):SqL K H' a xs:=by
 rcases h with (h | ⟨o,h⟩) | h
 ·exact .inl (.inl (e _ _ h))
 ·exact .inl (.inr ⟨o,e _ _ h⟩)
 ·exact .inr h
end L2
namespace L2
open PySem PySem.Spec PyProof.Rows
section
variable {X:Cx}
theorem zvm:OpR X (binaryOp .FloorDiv) (rI (λ_ j=>0<j∧j.natAbs.log2<9000) λi j=>.int (i / j)):=opI λi j _ _ _ _ _ hc q=>by
 have h1:(0:Int)<j:=hc.1
 exact floordiv_int (by (first|lia|omega)) (by rw[ψZ i (by (first|lia|omega))];exact q) (.inl (PyProof.noPylong_of_log2 hc.2))
theorem zc9:OpR X (binaryOp .FloorDiv) (rI (λ_ j=>j≠0∧j.natAbs.log2<9000) λi j=>.int (i.fdiv j)):=opI λ_ _ _ _ _ _ _ hc q=>floordiv_int hc.1 q (.inl (PyProof.noPylong_of_log2 hc.2))
theorem zhD:OpR X (binaryOp .Mod) (rI (λ_ j=>j≠0) λi j=>.int (i.fmod j)):=zxL
theorem zap:OpR X (binaryOp .Mult) (rI IntMulOk λi j=>.int (i*j)):=opI λ_ _ _ _ _ _ _ hc q=>mul_int q hc
theorem zql{i j:Int}(h1:-(2 ^ 64)<j)(h2:j<2 ^ 64):IntMulOk i j:=.of_right (intBits_le_64 h1 h2)
theorem mulL{i j:Int}(h1:-(2 ^ 64)<i)(h2:i<2 ^ 64):IntMulOk i j:=.of_left (intBits_le_64 h1 h2)
theorem zdb{i j:Int}(m n:Nat)(h1:i.natAbs<2 ^ m)(h2:j.natAbs<2 ^ n)(h:m+n≤134217728:=by decide):IntMulOk i j:=.of_le (intBits_le_iff.mpr h1) (intBits_le_iff.mpr h2) h
theorem zhL{j:Int}(m:Nat)(h0:j≠0)(h:j.natAbs<2 ^ m)(hm:m≤9000:=by decide):j.natAbs.log2<9000 :=
 ψj ((Nat.log2_lt (by (first|lia|omega))).mpr h) hm
theorem zoM:bootBuiltins "int"=some (.type "int"):=by decide +kernel
theorem zmC:bootBuiltins "bool"=some (.type "bool"):=by decide +kernel
theorem zcd:bootBuiltins "list"=some (.type "list"):=by decide +kernel
theorem zcn:bootBuiltins "tuple"=some (.type "tuple"):=by decide +kernel
theorem zmi(K:ψa):ψQ K (.type "int") (.type "bool")=some false:=by first | rfl | kernel_rfl
def zzP(a:Addr)(c:Value)(h:Heap):Prop:=∃oe vs,h.get? a=some oe∧oe.cls=c∧oe.data=.fields vs
def excO(a:Addr)(c:Value):HO:=.ext (zzP a c)
structure zzR (K:ψa) (c:Value):Prop where
 kit:∀a:Addr,PySem.W.KitX K (.ref a) c (zzP a c)
inductive TyX (K:ψa) (H:Hp):V→Value→Prop where
 | of {x:V} {t:Value} (h:zoB K H x t):TyX K H x t
 | exc {a:Addr} {c:Value} (h:H a=some (excO a c)) (k:zzR K c):TyX K H (.ref a) c
def clsV:V→Option Value
 | .ty n=>some (.type n)
 | .ref c=>some (.ref c)
 | _=>none
def zg2(K:ψa):List V→Hp→VK→Prop:=λxs H Q=>∃x c t cv b,xs=[x,c]∧clsV c=some cv∧TyX K H x t∧ψQ K t cv=some b∧Q (.bl b) H
theorem zjG{K:ψa}{H:Hp}{Q:VK}{i:Int}(q:Q (.bl true) H):zg2 K [.int i,.ty "int"] H Q:=⟨_,_,_,_,true,rfl,rfl,.of (.int i),rfl,q⟩
theorem ziM{K:ψa}{H:Hp}{Q:VK}{i:Int}(q:Q (.bl false) H):zg2 K [.int i,.ty "bool"] H Q:=⟨_,_,_,_,false,rfl,rfl,.of (.int i),zmi K,q⟩
theorem zhB{K:ψa}{H:Hp}{Q:VK}{r:Addr}{xs:List V}(h:H r=some (.tup xs))(q:Q (.bl true) H):zg2 K [.ref r,.ty "tuple"] H Q:=⟨_,_,_,_,true,rfl,rfl,.of (.tup h),rfl,q⟩
theorem zvb{c:V}{u cv:Value}(r:zee c u)(h:clsV c=some cv):u=cv:=by
 cases c with
 | ty n=>cases r;exact Option.some.inj h
 | ref a=>cases r;exact Option.some.inj h
 | _=>cases h
theorem za0:zjM X (.builtin "isinstance") (zg2 X.K):=by
 intro pins s σ H xs us Q I r h
 obtain⟨x,c,t,cv,b,rfl,hc,ty,e,q⟩:=h
 obtain⟨u,w',rfl,rx,rw'⟩:=zyt r
 obtain rfl:=zvb rw' hc
 cases ty with
 | of ty=>exact zrw I rx ty e λtk=>⟨.bl b,H,I.tok tk,rfl,q⟩
 | @exc a c h k =>
  cases (show u=Value.ref a from rx)
  obtain⟨p,_,_⟩:=(show zeN X.prog X.w H s.heap a (excO a t) from I.hok a _ h)
  exact ψf1 (k.kit a) I.kIn p e (λz=>nomatch z) λtk=>⟨.bl b,H,I.tok tk,rfl,q⟩
def rEqT(K:ψa):R2:=λx y H Q=>∃(a b:Addr) (ns ms:List Int),x=.ref a∧y=.ref b∧SqT K H a (ns.map V.int)∧SqT K H b (ms.map V.int)∧Q (.bl (decide (ns=ms))) H
theorem zns:∀{ns:List Int} {us:List Value},zcH (ns.map V.int) us→∀{j:Nat} (h:j<us.length),∃(h':j<ns.length) (t:Tok),us[j]=.int ns[j] t
 | [],_,.nil,j,h=>absurd h (ψn1 _)
 | n::ns,_,.cons r t,0,h=>by
  obtain⟨t',rfl⟩:=r
  exact⟨Nat.succ_pos _,t',rfl⟩
 | n::ns,_,.cons r t,j+1,h=>by
  obtain⟨h',t',e⟩:=zns t (j:=j) (Nat.lt_of_succ_lt_succ h)
  exact⟨Nat.succ_lt_succ h',t',e⟩
theorem ziq{l:List Int}{j:Nat}(h:j<l.length):l.getD j 0=l[j]:=by
 rw[ψy,ψc h]
 rfl
theorem zu3{ns ms:List Int}:((ψr1 (min ns.length ms.length)).all (λj=>ns.getD j 0 == ms.getD j 0)&&ns.length == ms.length)=decide (ns=ms):=by
 by_cases h:ns=ms
 ·subst h
  rw[decide_eq_true rfl,ψt]
  refine⟨List.all_eq_true.mpr λj _=>beq_self_eq_true _,beq_self_eq_true _⟩
 ·rw[decide_eq_false h]
  refine Bool.eq_false_iff.mpr λz=>h ?_
  obtain⟨z1,z2⟩:=(ψt _ _).mp z
  have hl:ns.length=ms.length:=beq_iff_eq.mp z2
  refine List.ext_getElem hl λj h1 h2=>?_
  have q:=List.all_eq_true.mp z1 j (List.mem_range.mpr (by (first|lia|omega)))
  have q':ns.getD j 0=ms.getD j 0:=beq_iff_eq.mp q
  rw[ziq h1,ziq h2] at q'
  exact q'
theorem zsr{A:Around}{s:Shared}{ns ms:List Int}{us ws:List Value}(r1:zcH (ns.map V.int) us)(r2:zcH (ms.map V.int) ws) :
  ∀j (h1:j<us.toArray.size) (h2:j<ws.toArray.size),SeqAt.EqAt A s us.toArray[j] ws.toArray[j] (ns.getD j 0 == ms.getD j 0):=by
 intro j h1 h2
 rw[ψf] at h1 h2
 obtain⟨k1,t1,e1⟩:=zns r1 h1
 obtain⟨k2,t2,e2⟩:=zns r2 h2
 rw[List.getElem_toArray,List.getElem_toArray,e1,e2,ziq k1,ziq k2]
 exact SeqAt.EqAt.int_int _ _ _ _
theorem zvY(hu:X.A.units<cLine):OpR X (compareOp .Eq) (rEqT X.K):=by
 intro pins s σ H x y v u Q I rx ry h
 obtain⟨a,b,ns,ms,rfl,rfl,ha,hb,q⟩:=h
 cases rx
 cases ry
 obtain⟨us,r1,p1,_⟩:=I.tuple ha
 obtain⟨ws,r2,p2,_⟩:=I.tuple hb
 have l1:=r1.length
 have l2:=r2.length
 rw[ψb] at l1 l2
 refine SeqAt.RcAt.tuples p1 p2 hu (e:=λj=>ns.getD j 0 == ms.getD j 0) (zsr r1 r2) X.prog X.w X.xe _ ⟨.bl _,H,I,rfl,?_⟩
 rw[ψf,ψf,← l1,← l2,zu3]
 exact q
def tTru(K:ψa)(ta:TE):TT:=λσ H Q=>ta σ H λx H'=>∃k,zzN K x H' k∧Q k H'
def ze2(t:TS):TS:=λD σ H=>∃R:St→Hp→Prop,t { D with nx:=R } σ H∧∀σ' H',R σ' H'→D.nx σ' H'
theorem zbz{st:Stmt}{t:TS}(h:PS X st t):PS X st (ze2 t):=by
 intro pins s σ H D I hw
 obtain⟨R,hw,hR⟩:=hw
 refine thn (h pins s σ H _ I hw) λf s' q=>?_
 cases f with
 | next=>obtain⟨σ',H',I',q⟩:=q;exact⟨σ',H',I',hR _ _ q⟩
 | brk=>exact q
 | cont=>exact q
 | ret u=>exact q
end
theorem zat{H:Hp}{p:Addr}(h:H p=none)(o:HO):zaP H (upd H p o):=λb u q=>by rw[zaS (zaT q h)];exact q
theorem zaP.add{H0 H:Hp}{p:Addr}{o:HO}(s:zaP H0 H)(h:H p=none):zaP H0 (upd H p o):=s.trans (zat h o)
theorem zaP.put{H0 H:Hp}{p:Addr}{o:HO}(s:zaP H0 H)(h:H0 p=none):zaP H0 (upd H p o):=λb u q=>by rw[zaS (zaT q h)];exact s _ _ q
theorem zuD{K:ψa}{i:Int}{H:Hp}{k:Bool}:zzN K (.int i) H k=(k=(i != 0)):=rfl
theorem zxA{K:ψa}{i:Bool}{H:Hp}{k:Bool}:zzN K (.bl i) H k=(k=i):=rfl
theorem zuV(a b:Int):zzC (.int a) (.int b)=true:=rfl
theorem zxy(a b:Bool):zzC (.bl a) (.bl b)=true:=rfl
theorem zzu{ns:List Int}{k:Int}(h0:0≤k)(h:k<(ns.length:Int)):∃v:Int,atI (ns.map V.int) k=some (.int v)∧ns[k.toNat]?=some v:=by
 have hk:k.toNat<ns.length:=by (first|lia|omega)
 have ek:k=((k.toNat:Nat):Int):=by (first|lia|omega)
 have q:atI (ns.map V.int) ((k.toNat:Nat):Int)=some (.int ns[k.toNat]):=zfH (by rw[ψI,ψc hk] <;> rfl)
 rw[← ek] at q
 exact⟨ns[k.toNat],q,ψc hk⟩
def znO(J:It)(g:TG)(tb:TS):TS:=λD σ H=>∃W:Nat→Nat→St→Hp→Prop,(∃m,W 0 m σ H)∧∀i m σ H,W i m σ H →
 (J.stop i H∧D.nx σ H)∨(J.go i H∧∃N:St→Hp→Prop,(∀σ' H',N σ' H'→∃m',m'<m∧W (i+1) m' σ' H')∧∀x H',J.yld i H x H'→g x σ H' λσ2 H2=>tb { D with nx:=N,ct:=N,bk:=D.nx } σ2 H2)
theorem zwv{wi:TI}{g:TG}{tb:TS}{D:zjo}{σ:St}{H:Hp}:zka wi g tb D σ H=wi σ H λJ H1=>znO J g tb D σ H1:=rfl
theorem zfx{lo:Int}{n:Nat}{g:TG}{tb:TS}{D:zjo}{σ:St}{H:Hp}(Pv:Nat→St→Hp→Prop)(h0:Pv 0 σ H)
  (hs:∀i σ H,i<n→Pv i σ H→g (.int (lo+i)) σ H λσ2 H2=>tb { D with nx:=Pv (i+1),ct:=Pv (i+1),bk:=D.nx } σ2 H2) (hd:∀σ H,Pv n σ H→D.nx σ H):znO (Itr lo n) g tb D σ H:=zra Pv h0 hs hd
theorem zds{K:ψa}{a:Addr}{xs:List V}{g:TG}{tb:TS}{D:zjo}{σ:St}{H:Hp}(Pv:Nat→St→Hp→Prop)(h0:Pv 0 σ H)(hl:∀i σ H,i≤xs.length→Pv i σ H→SqL K H a xs)
  (hs:∀i x σ H,xs[i]?=some x→Pv i σ H→g x σ H λσ2 H2=>tb { D with nx:=Pv (i+1),ct:=Pv (i+1),bk:=D.nx } σ2 H2) (hd:∀σ H,Pv xs.length σ H→D.nx σ H):znO (Itl K a) g tb D σ H:=zuA Pv h0 hl hs hd
end L2
namespace L2
open PySem PySem.Spec PyProof.Rows
section
variable {P:Program} {w:World}
end
section
variable {P:Program} {w:World} {K:ψa} {mg:Str→Option Value} {base:Heap} {N:List Str} {qual:Str} {scope:Scope} {f:Addr} {cd:Value} {A:Around} {outer:List Env} {s₀:Shared} {H₀:Hp} {E:XK}
end
section
variable {P:Program} {w:World} {K:ψa} {mg:Str→Option Value} {base:Heap} {N:List Str} {qual:Str} {scope:Scope} {f:Addr} {cd:Value} {A:Around} {outer:List Env} {s₀:Shared} {H₀:Hp} {E:XK}
end
abbrev zp7:List Value:=[.type "ValueError",.type "Exception",.type "BaseException",.type "object"]
section
variable {X:Cx} {CX:CXT} {k:Nat} {f:Addr} {fd:FuncData} {ps:List Str} {sp:Sp} {dvs:List V} {ds:List Value} {E:St→XK} {x:Str} {p pos:Pos} {e:Expr} {es:List Expr} {t:TA}
end
theorem Inv.track{X:Cx}{pins:List (Addr×Obj)}{σ:St}{H:Hp}{s:Shared}{a:Addr}{o:HO}(I:Inv X pins σ H s)(hn:H a=none)(h0:X.s₀.heap.get? a=none)(hL:a≠X.env.locals)(hc:∀x c,X.env.cells.lookup x=some c→c≠a)
  (hp:∀p∈X.pn++pins,p.1≠a) (new:zeN X.prog X.w (upd H a o) s.heap a o):Inv X pins σ (upd H a o) s:=by
 refine⟨I.ok,I.os,I.bare,⟨I.base.keep,I.base.slot,λb u q n hx=>?_,I.base.there,λb xs q=>?_,λb u xs q=>?_,λb ps q=>?_⟩,I.loc,I.cell,?_,λx c e=>?_,λp q=>?_,λb u e=>?_,I.len⟩
 ·have nb:b≠a:=λz=>by rw[z,h0] at q;cases q
  rw[zaS nb]
  exact I.base.free b u q n hx
 ·have q2:=I.base.tups b xs q
  rw[zaS (zaT q2 hn)]
  exact q2
 ·have q2:=I.base.frzs b u xs q
  rw[zaS (zaT q2 hn)]
  exact q2
 ·obtain⟨m,q2⟩:=I.base.tbls b ps q
  exact⟨m,by rw[zaS (zaT q2 hn)];exact q2⟩
 ·rw[zaS hL.symm]
  exact I.free
 ·rw[zaS (hc x c e)]
  exact I.freeC x c e
 ·obtain⟨e,n,r⟩:=I.pin p q
  exact⟨e,by rw[zaS (hp p q)];exact n,r⟩
 ·by_cases hb:b=a
  ·subst hb
   rw[zam] at e
   cases e
   exact new
  ·rw[zaS hb] at e
   exact(I.hok b u e).stay (λc v _ q=>q) (λc q=>by rw[zaS (zaT q hn)];exact q) λc xs q=>by rw[zaS (zaT q hn)];exact q
section
open Builtin Builtin.ObjectAttr Builtin.Getset_descriptor PySem.W
variable {K:ψa} {prog:Program} {w:World} {A:Around} {E:Value→Shared→Prop} {h:Heap} {g:Array GenState} {d:Drawn} {t:Nat} {os:OsState} {a C:Addr} {o:Obj}
end
end L2
namespace L2
open PySem PySem.Spec PyProof.Rows
theorem zrH{env:Env}{x:Str}{c:Addr}(h:env.cells.lookup x=some c):cellOf env x=pure c:=by
 unfold cellOf
 rw[h]
theorem ziH{env:Env}:∀(l:List (Str×NameKind)) (cs:List (Str×Addr)),(∀y∈l,y.2=.free→∃c,env.cells.lookup y.1=some c)→(∀x c,cs.lookup x=some c→env.cells.lookup x=some c) →
  ∃cl,(forIn l cs λ(y:Str×NameKind) r=>(if (y.2 == .free)=true then do let c ← cellOf env y.1;pure (ForInStep.yield ((y.1,c)::r)) else pure (ForInStep.yield r):Sem (ForInStep (List (Str×Addr)))))=pure cl ∧
   (∀x c,cl.lookup x=some c→env.cells.lookup x=some c)∧(∀y∈l,y.2=.free→∃c,cl.lookup y.1=some c)∧∀x,(∃c,cs.lookup x=some c)→∃c,cl.lookup x=some c
 | [],cs,_,hc=>⟨cs,by simp,hc,by simp,λ_ h=>h⟩
 | y::l,cs,hf,hc=>by
  have hf':∀z∈l,z.2=.free→∃c,env.cells.lookup z.1=some c:=λz hz=>hf z (ψe _ hz)
  by_cases hy:y.2=.free
  ·obtain⟨c,e⟩:=hf y ψg hy
   have hc':∀x d,List.lookup x ((y.1,c)::cs)=some d→env.cells.lookup x=some d:=λx d q=>by
    rw[ψk1] at q
    split at q
    ·rename_i b
     cases q
     rw[beq_iff_eq.mp b,e]
    ·exact hc x d q
   obtain⟨cl,e1,e2,e3,e4⟩:=ziH l ((y.1,c)::cs) hf' hc'
   refine⟨cl,?_,e2,λz hz q=>?_,λx ⟨d,q⟩=>e4 x ?_⟩
   ·rw[List.forIn_cons,if_pos (by rw[hy];rfl),zrH e]
    simpa using e1
   ·rcases List.mem_cons.mp hz with r | r
    ·exact e4 z.1 ⟨c,by rw[r,ψk1];simp⟩
    ·exact e3 z r q
   ·rw[ψk1]
    split
    ·exact⟨_,rfl⟩
    ·exact⟨d,q⟩
  ·obtain⟨cl,e1,e2,e3,e4⟩:=ziH l cs hf' hc
   refine⟨cl,?_,e2,λz hz q=>?_,e4⟩
   ·rw[List.forIn_cons,if_neg (by simpa using hy)]
    simpa using e1
   ·rcases List.mem_cons.mp hz with r | r
    ·rw[r] at q;exact absurd q hy
    ·exact e3 z r q
theorem zkA{scope:Scope}{env:Env}(h:∀y∈scope.names,y.2=.free→∃c,env.cells.lookup y.1=some c) :
  ∃cl,closureFor scope env=pure cl∧(∀x c,cl.lookup x=some c→env.cells.lookup x=some c)∧∀y∈scope.names,y.2=.free→∃c,cl.lookup y.1=some c:=by
 obtain⟨cl,e1,e2,e3,_⟩:=ziH scope.names [] h (by simp)
 refine⟨cl,?_,e2,e3⟩
 unfold closureFor
 simp only[bind_pure]
 exact e1
theorem ziQ{P:Program}{w:World}{A:Around}{R:Result→Shared→Prop}{s:Shared}{elt target iter:Expr}{ifs:List Expr}{scope:Scope}{pos:Pos}{it acc:Value}{env:Env}{Z:Value→Shared→Prop}(J:Nat→Shared→Prop)
  (hZ:Z=notedBy (model P w) A env λe s'=>R (.error e) s')
  (zpB:∀n s,J n s→wpAny (model P w) A (pyNext it) (λr s1=>match r with
   | none=>R (.ok .next) s1
   | some v=>wpAny (model P w) A (letOwnedTupleGo target it v) (λ_ s2=>wpAny (model P w) A (assign target env v) (λ_ s3 =>
     wpAny (model P w) A (forIn ifs true λc r=>if r=true then do let ok ← isTrue c env (eval c env);pure (ForInStep.yield ok) else pure (ForInStep.yield r)) (λok s4 =>
      if ok=true then wpAny (model P w) A (eval elt env) (λx s5=>wpAny (model P w) A (call (.builtin "list.append") [acc,x]) (λ_ s6=>∃m,m<n∧J m s6) Z s5) Z s4
      else ∃m,m<n∧J m s4) Z s3) Z s2) Z s1) Z s)
  (n:Nat) (h:J n s):codeAny (model P w) A (.compLoop (.ListComp elt [⟨target,iter,ifs,0⟩] scope pos) 0 it acc env) R s:=by
 subst hZ
 refine codeAny_loop rfl J (λn s hJ=>?_) n h
 show wpAny _ _ (Sem.onRaise (compTurn (.ListComp elt [⟨target,iter,ifs,0⟩] scope pos) 0 it acc env) λx=>do noteFrame x env;theTreesLotGoes x) _ _ s
 refine wpAny_noted ?_
 rw[compTurn_list]
 refine wpAny_bind (wpAny_standAt (wpAny_bind (thn (zpB n s hJ) λr s1 h1=>?_)))
 cases r with
 | none=>exact wpAny_pure h1
 | some v =>
  refine wpAny_bind (thn h1 λ_ s2 h2=>wpAny_bind (thn h2 λ_ s3 h3=>wpAny_bind (thn h3 λok s4 h4=>?_)))
  cases ok with
  | false=>exact wpAny_pure ⟨rfl,h4⟩
  | true=>exact wpAny_bind (wpAny_bind (thn h4 λx s5 h5=>wpAny_bind (thn h5 λ_ s6 h6=>wpAny_pure (wpAny_pure ⟨rfl,h6⟩))))
def PTs(X:Cx)(ifs:List Expr)(t:TT):Prop:=∀(pins:List (Addr×Obj)) (s:Shared) (σ:St) (H:Hp) (Q:Bool→Hp→Prop),Inv X pins σ H s→t σ H Q →
 wpAny (model X.prog X.w) X.A (forIn ifs true λc r=>if r=true then do let ok ← isTrue c X.env (eval c X.env);pure (ForInStep.yield ok) else pure (ForInStep.yield r)) (TP X pins σ Q) X.xe s
def zbe:TT:=λ_ H Q=>Q true H
theorem zbo{X:Cx}:PTs X [] zbe:=λ_ _ _ H _ I h=>wpAny_tests_nil ⟨H,I,h⟩
def zut(cap:List (Option Nat))(σ:St):St:=cap.map λo=>o.bind λj=>(σ[j]?).join
def zcu(wi:TI)(g:TG)(tt:TT)(te:TE)(cap:List (Option Nat)):TE:=λσ H Q=>wi σ H λJ H1=>∀D,H1 D=none→∃W:Nat→Nat→St→Hp→Prop,(∃m,W 0 m (zut cap σ) (upd H1 D (.lst [])))∧∀i m σc Hc,W i m σc Hc →
 (J.stop i Hc∧Q (.ref D) Hc)∨(J.go i Hc∧∃N:St→Hp→Prop,(∀σ' H',N σ' H'→∃m',m'<m∧W (i+1) m' σ' H')∧∀x H',J.yld i Hc x H'→g x σc H' λσ2 H2=>tt σ2 H2 λb H3=>if b=true then te σ2 H3 λy H4=>zcD (.ref D) [y] H4 λ_ H5=>N σ2 H5 else N σ2 H3)
def Cx.blk(X:Cx)(Nc:List Str)(scope:Scope)(cl:List (Str×Addr))(s:Shared)(H:Hp)(fp:List Addr):Cx:={ X with
 N:=Nc,s₀:=s,H₀:=H,env:=compEnvC scope cl s.heap.objs.size X.env,outer:=X.stack,stack:=X.stack,ex:=fp,fn:=λ_=>false,pn:=[],xe:=λ_ _=>False }
structure zp9 (sc:Scope) (N Nc:List Str) (cap:List (Option Nat)) (scope:Scope):Prop where
 kind:scope.kind=.function
 nocell:∀y∈scope.names,y.2≠.cell
 free:∀y∈scope.names,y.2=.free→sc.names.lookup y.1=some .cell∨sc.names.lookup y.1=some .free
 once:∀y∈scope.names,scope.names.lookup y.1=some y.2
 nd:Nc.Nodup
 len:cap.length=Nc.length
 cap:∀(i:Nat) (y:Str) (j:Nat),Nc[i]?=some y→cap[i]?=some (some j)→N[j]?=some y∧scope.names.lookup y=some .free
def zv7(sc:Scope)(N Nc:List Str)(cap:List (Option Nat))(scope:Scope):Bool :=
 scope.kind == .function&&scope.names.all (λy=>y.2 != .cell&&scope.names.lookup y.1 == some y.2&&(y.2 != .free || sc.names.lookup y.1 == some .cell || sc.names.lookup y.1 == some .free))&&decide Nc.Nodup&&cap.length == Nc.length
  && (Nc.zip cap).all λp=>p.2.all λj=>N[j]? == some p.1&&scope.names.lookup p.1 == some .free
theorem zp9.of{sc:Scope}{N Nc:List Str}{cap:List (Option Nat)}{scope:Scope}(h:zv7 sc N Nc cap scope=true):zp9 sc N Nc cap scope:=by
 unfold zv7 at h
 simp only[ψt,beq_iff_eq,List.all_eq_true,bne_iff_ne,ne_eq,Bool.or_eq_true,decide_eq_true_eq] at h
 obtain⟨⟨⟨⟨h1,h2⟩,h3⟩,h4⟩,h5⟩:=h
 refine⟨h1,λy hy=>(h2 y hy).1.1,λy hy hf=>?_,λy hy=>(h2 y hy).1.2,h3,h4,λi y j e1 e2=>?_⟩
 ·rcases(h2 y hy).2 with (q | q) | q
  ·exact absurd hf q
  ·exact .inl q
  ·exact .inr q
 ·have m:(y,some j)∈Nc.zip cap:=by
   refine ψS (i:=i) ?_
   rw[ψL]
   exact⟨e1,e2⟩
  have z:=h5 _ m
  simpa using z
theorem zc3{env:Env}{x:Str}:∀{names:List (Str×NameKind)} {k:NameKind},((names.map λ(n,k)=>if (k == NameKind.free&&env.scope.kind == .function&&env.kindOf n == some .cell) then (n,NameKind.cell) else (n,k)).lookup x=some k)→k≠.cell∧names.lookup x=some k∨(k=.cell∧(names.lookup x=some .cell∨names.lookup x=some .free))
 | [],_,h=>by simp at h
 | (n,q)::r,k,h=>by
  have ih:=@zc3 env x r k
  rw[ψu] at h
  dsimp only at h
  by_cases hx:(x == n)=true
  ·by_cases hc:(q == NameKind.free&&env.scope.kind == .function&&env.kindOf n == some .cell)=true
   ·rw[if_pos hc,ψk1,hx] at h
    cases h
    rw[ψt,ψt] at hc
    refine .inr ⟨rfl,.inr ?_⟩
    rw[ψk1,hx]
    exact congrArg some (beq_iff_eq.mp hc.1.1)
   ·rw[if_neg hc,ψk1,hx] at h
    cases h
    rw[ψk1,hx]
    by_cases z:q=.cell
    ·exact .inr ⟨z,.inl (congrArg some z)⟩
    ·exact .inl ⟨z,rfl⟩
  ·have hx':(x == n)=false:=by simpa using hx
   rw[ψk1,hx']
   refine ih ?_
   by_cases hc:(q == NameKind.free&&env.scope.kind == .function&&env.kindOf n == some .cell)=true
   ·rw[if_pos hc,ψk1,hx'] at h
    exact h
   ·rw[if_neg hc,ψk1,hx'] at h
    exact h
section
variable {X:Cx} {pins:List (Addr×Obj)} {σ:St} {H:Hp} {s:Shared}
theorem zw3{Nc:List Str}{cap:List (Option Nat)}{scope:Scope}{cl:List (Str×Addr)}{fp:List Addr}{h1:Heap}{tk:Nat}{m1:Str→Option Value}(I:Inv X pins σ H s)(B:zp9 X.env.scope X.N Nc cap scope)
  (hsub:∀x c,cl.lookup x=some c→X.env.cells.lookup x=some c) (hfr:∀y∈scope.names,y.2=.free→∃c,cl.lookup y.1=some c) (hf:∀b∈fp,zl2 X pins H b) (hin:∀b∈fp,b<s.heap.objs.size)
  (hk:∀b o,s.heap.get? b=some o→h1.get? b=some o) (hn:h1.Ns s.heap.objs.size m1):Inv (X.blk Nc scope cl s H fp) [] (zut cap σ) H { s with heap:=h1,toks:=tk }:=by
 have ok:=I.ok
 have bsz:X.base.objs.size≤s.heap.objs.size:=ψE ok.bsz I.sz
 refine⟨⟨ok.mod,B.kind,ok.glob,ok.blt,ψh _,λx y c h1 h2=>ok.inj x y c (hsub x c h1) (hsub y c h2),λx hx=>?_,(by intro x c z;cases z),ok.hd,ok.frames,.inl rfl,λb hb=>⟨ψl (hin b hb),λx c e=>(hf b hb).2.2.2.2.1 x c (hsub x c e)⟩,
  I.bs,bsz,λb o e hb=>?_,λb hb z=>?_,I.stack,I.stkFree⟩,rfl,I.bare,Un.kept hk,⟨m1,hn,λi y v e1 e2 e3=>?_⟩,λx c e=>?_,I.hok.fresh (ψh _),λx c e=>I.freeC x c (hsub x c e),(by intro p hp;cases hp),I.hok.kept hk,?_⟩
 ·have look:∀k,(relabel scope X.env).names.lookup x=some k→k=.cell∨k=.free→∃c,cl.lookup x=some c:=λk q hk=>by
   rcases zc3 q with ⟨n1,n2⟩ | ⟨_,n2 | n2⟩
   ·rcases hk with r | r
    ·exact absurd r n1
    ·exact hfr (x,k) (ψC n2) r
   ·exact absurd rfl (B.nocell _ (ψC n2))
   ·exact hfr (x,.free) (ψC n2) rfl
  rcases hx with q | q
  ·exact look _ q (.inl rfl)
  ·exact look _ q (.inr rfl)
 ·rcases(hf b hb).2.2.2.1 with q | q
  ·exact ok.noex b o e q
  ·exact absurd (ψj (Heap.lt_size e) (ψE ok.bsz q)) (ψx1 _)
 ·rcases List.mem_cons.mp (I.stkSub b z) with q | q
  ·exact(hf b hb).2.1 q
  ·exact(hf b hb).2.2.1 q
 ·have e2':(cap[i]?).map (λo=>o.bind λj=>(σ[j]?).join)=some (some v):=by rw[← ψI];exact e2
  obtain⟨o,ho,eo⟩:=Option.map_eq_some_iff.mp e2'
  obtain⟨j,rfl,ej⟩:=Option.bind_eq_some_iff.mp eo
  have ej':σ[j]?=some (some v):=by
   cases q:σ[j]? with
   | none=>rw[q] at ej;cases ej
   | some z=>rw[q] at ej;cases ej;rfl
  obtain⟨c1,c2⟩:=B.cap i y j e1 ho
  have vis:=B.free (y,.free) (ψC c2) rfl
  obtain⟨m,_,hl⟩:=I.loc
  obtain⟨u,r,lk⟩:=hl j y v c1 ej' (.inr vis)
  obtain⟨c',ec⟩:=hfr (y,.free) (ψC c2) rfl
  have ec2:=hsub _ _ ec
  rcases lk with ⟨kl,_⟩ | ⟨_,c,e,z⟩
  ·have kl':X.env.scope.names.lookup y=some .local:=kl
   rcases vis with q | q
   ·have q':X.env.scope.names.lookup y=some .cell:=q
    rw[kl'] at q';cases q'
   ·have q':X.env.scope.names.lookup y=some .free:=q
    rw[kl'] at q';cases q'
  ·have ecc:X.env.cells.lookup y=some c':=ec2
   rw[e] at ecc
   cases ecc
   refine⟨u,r,.inr ⟨?_,_,ec,?_⟩⟩
   ·rcases e3 with q | q | q
    ·rcases zc3 q with ⟨_,n2⟩ | ⟨n1,_⟩
     ·rw[c2] at n2;cases n2
     ·cases n1
    ·exact .inl q
    ·exact .inr q
   ·obtain⟨o,ho,hd⟩:=z
    exact⟨o,hk _ _ ho,hd⟩
 ·obtain⟨v,o,ho,hd⟩:=I.cell x c (hsub x c e)
  exact⟨v,o,hk _ _ ho,hd⟩
 ·show(zut cap σ).length=Nc.length
  rw[zut,ψb,B.len]
theorem zrT{Nc:List Str}{scope:Scope}{cl:List (Str×Addr)}{fp:List Addr}{σc:St}{Hc:Hp}{s':Shared}{h':Heap}(I:Inv X pins σ H s)(hf:∀b∈fp,zl2 X pins H b)(J:Inv (X.blk Nc scope cl s H fp) [] σc Hc s')
  (hs:Heap.SameBut s.heap.objs.size s'.heap h'):Inv X pins σ Hc { s' with heap:=h' }:=by
 have ne:∀b o,s.heap.get? b=some o→b≠s.heap.objs.size:=λb o e=>ψl (Heap.lt_size e)
 have u:=J.base
 refine I.call' (ch:=fp) J.os ⟨λb o e n hb hx=>(hs.2 b (ne b o e)).trans (u.keep b o e n hb hx),λb o e n hb hx=>?_,u.free,λb o e hx=>?_,u.tups,u.frzs,u.tbls⟩ (λb ob e=>?_) J.bare λb hb=>⟨(hf b hb).2.2.2.1,(hf b hb).2.1,(hf b hb).2.2.2.2.1,(hf b hb).2.2.2.2.2⟩
 ·obtain⟨sl,q⟩:=u.slot b o e n hb hx
  exact⟨sl,(hs.2 b (ne b o e)).trans q⟩
 ·obtain⟨o',q⟩:=u.there b o e hx
  exact⟨o',(hs.2 b (ne b o e)).trans q⟩
 ·have hC:Hc s.heap.objs.size=none:=J.free
  refine(J.hok b ob e).stay (λc w' hc q=>(hs.2 c ?_).trans q) (λ_ q=>q) λ_ _ q=>q
  rintro rfl
  rcases hc with z | hc
  ·rw[← z,hC] at e;cases e
  ·rw[hC] at hc;cases hc
end
theorem Inv.turns{X:Cx}{pins:List (Addr×Obj)}{σ:St}{H:Hp}{s:Shared}{h':Heap}{t':Nat}{ch:List Addr}(I:Inv X pins σ H s)(k:∀b o,b∉ch→s.heap.get? b=some o→h'.get? b=some o)(hf:∀b∈ch,zl2 X pins H b):Inv X pins σ H { s with heap:=h',toks:=t' }:=by
 refine I.call (g':=s.gens) (d':=s.drawn) (ch:=ch) ⟨λb o e _ _ hx=>k b o hx e,λb o e _ _ hx=>⟨o.slots,k b o hx e⟩,λ_ _ _ n _=>n,λb o e hx=>⟨o,k b o hx e⟩,λ_ _ q=>q,λ_ _ _ q=>q,λ_ ps q=>⟨#[],by rw[q];simp⟩⟩ (λb u e=>?_) I.bare
  λb hb=>⟨(hf b hb).2.2.2.1,(hf b hb).2.1,(hf b hb).2.2.2.2.1,(hf b hb).2.2.2.2.2⟩
 refine(I.hok b u e).stay (λc v hc q=>k c v (λz=>?_) q) (λ_ q=>q) λ_ _ q=>q
 have n:=(hf c z).1
 rcases hc with r | r
 ·rw[r,e] at n;cases n
 ·rw[r] at n;cases n
theorem zmY{X:Cx}{pins:List (Addr×Obj)}{s:Shared}{σ:St}{H:Hp}{Q:VK}{sc:Scope}{N Nc:List Str}{cap:List (Option Nat)}{elt tg iter:Expr}{ifs:List Expr}{scope:Scope}{pos pos':Pos}{wi:TI}{g:TG}{tt:TT}{te:TE}{use:Option (Value→Sem Unit)}{QQ:Value→Shared→Prop}
  (hc:X.calm=true) (hsc:X.env.scope=sc) (hN:X.N=N) (B:zp9 sc N Nc cap scope) (hi:PI X tg iter wi)
  (hg:∀cl s H fp,PG (X.blk Nc scope cl s H fp) tg g) (ht:∀cl s H fp,PTs (X.blk Nc scope cl s H fp) ifs tt) (he:∀cl s H fp,PE (X.blk Nc scope cl s H fp) elt te)
  (hs:∀x,foldedSetIterable iter X.env x=pure x) (I:Inv X pins σ H s) (h:zcu wi g tt te cap σ H Q)
  (fin:∀(s3:Shared) (H3:Hp) (cl:List (Str×Addr)) (fp:List Addr) (D:Addr) (σc:St) (Hc:Hp) (s6:Shared),Inv X pins σ H3 s3→(∀b∈fp,zl2 X pins H3 b)→Inv (X.blk Nc scope cl s3 H3 fp) [] σc Hc s6→Q (.ref D) Hc→compPost (model X.prog X.w) X.A X.xe use QQ (.ref D) s3.heap.objs.size (.ok .next) s6) :
  wpAny (model X.prog X.w) X.A (comprehension (.ListComp elt [⟨tg,iter,ifs,0⟩] scope pos) scope X.env pos' (newList []) false (eval iter X.env) use) QQ X.xe s:=by
 subst hsc hN
 obtain⟨cl,hclos,hsub,hfr⟩:=zkA (scope:=scope) (env:=X.env) λy hy hf=>I.ok.has y.1 (B.free y hy hf)
 refine wpAny_comprehension_free (use:=use) rfl hs hclos B.kind (λy hy hl=>by rw[B.once y hy,hl]) (thn (hi pins s σ H _ I h) λv s1 h1=>thn h1 λitv s2 h2=>?_)
 obtain⟨it,fp,tn,J,H2,rfl,I2,T,st2,f2,hw⟩:=h2
 refine wpAny_newObj_type ?_
 have hfree:H2 s2.heap.objs.size=none:=I2.hok.fresh (ψh _)
 have I3:=I2.laid (t':=s2.toks) (o:=.lst []) (λb u e=>Heap.get?_push_of_some { cls:=.type "list",dict:=none,data:=.seq ([]:List Value).toArray } e) (ψh _) ⟨by decide,[],0,.nil,Heap.get?_push_size _ rfl⟩
 obtain⟨W,⟨m0,w0⟩,zpB⟩:=hw _ hfree
 have keep23:∀b o,s2.heap.get? b=some o→(s2.heap.push { cls:=.type "list",dict:=none,data:=.seq ([]:List Value).toArray }).get? b=some o:=λb o e=>Heap.get?_push_of_some _ e
 have hin:∀b∈fp,b<s2.heap.objs.size:=λb hb=>let ⟨o,e,_⟩:=T.obj 0 _ st2 b hb;Heap.lt_size e
 have f3:∀b∈fp,zl2 X pins (upd H2 s2.heap.objs.size (.lst [])) b:=λb hb=>⟨by rw[zaS (ψl (hin b hb))];exact(f2 b hb).1,(f2 b hb).2⟩
 have st3:=T.keep 0 _ _ st2 λb _ o e=>keep23 b o e
 have hin3:∀b∈fp,b<(s2.heap.push { cls:=.type "list",dict:=none,data:=.seq ([]:List Value).toArray }).objs.size:=λb hb=>let ⟨o,e,_⟩:=T.obj 0 _ st3 b hb;Heap.lt_size e
 clear keep23 hin
 generalize s2.heap.push { cls:=.type "list",dict:=none,data:=.seq ([]:List Value).toArray }=h3 at I3 st3 hin3 ⊢
 generalize upd H2 s2.heap.objs.size (.lst [])=H3 at I3 f3 w0
 generalize s2.heap.objs.size=D at hfree w0 zpB ⊢
 refine wpAny_newFunctionEnv B.nocell (by intro y hy;cases hy) (λh1 hns hsb=>?_) B.kind
 have keep:∀b o,h3.get? b=some o→h1.get? b=some o:=λb o e=>(hsb.2 b (ψl (Heap.lt_size e))).trans (Heap.get?_push_of_some _ e)
 have I4:=zw3 (tk:=s2.toks+([]:List (Str×Value)).length) I3 B hsub hfr f3 hin3 keep hns
 have st4:=T.keep 0 _ _ st3 λb _ o e=>keep b o e
 have stat:∀{H':Hp},(∀b∈fp,H' b=none)→∀b∈fp,zl2 (X.blk Nc scope cl { s2 with heap:=h3,toks:=s2.toks } H3 fp) [] H' b:=λhn b hb =>
  ⟨hn b hb,ψl (hin3 b hb),λz=>by
   rcases List.mem_cons.mp (I3.stkSub b z) with q | q
   ·exact(f3 b hb).2.1 q
   ·exact(f3 b hb).2.2.1 q,.inl hb,λx c e=>(f3 b hb).2.2.2.2.1 x c (hsub x c e),by intro p hp;cases hp⟩
 have hcb:(X.blk Nc scope cl { s2 with heap:=h3,toks:=s2.toks } H3 fp).calm=true:=hc
 have loop:codeAny (model X.prog X.w) X.A (.compLoop (.ListComp elt [⟨tg,iter,ifs,0⟩] scope pos) 0 (.ref it) (.ref D) (compEnvC scope cl h3.objs.size X.env)) (compPost (model X.prog X.w) X.A X.xe use QQ (.ref D) h3.objs.size) { s2 with heap:=h1,toks:=s2.toks+([]:List (Str×Value)).length }:=by
  refine ziQ (λn s'=>∃i σ' H',Inv (X.blk Nc scope cl { s2 with heap:=h3,toks:=s2.toks } H3 fp) [] σ' H' s'∧tn i s'.heap∧(∀b∈fp,H' b=none)∧W i n σ' H') rfl ?_ m0 ⟨0,_,H3,I4,st4,λb hb=>(f3 b hb).1,w0⟩
  rintro n s5 ⟨i,σ5,H5,I5,st5,fr5,w5⟩
  rcases zpB i n σ5 H5 w5 with ⟨stop,qn⟩ | ⟨go,N',hN',step⟩
  ·refine thn (T.done (X.blk Nc scope cl { s2 with heap:=h3,toks:=s2.toks } H3 fp) rfl rfl rfl hcb i [] s5 σ5 H5 _ I5 (stat fr5) st5 stop) λr s6 hQ'=>?_
   obtain⟨hr,I6⟩:=hQ'
   subst hr
   exact fin { s2 with heap:=h3,toks:=s2.toks } H3 cl fp D σ5 H5 s6 I3 f3 I6 qn
  ·refine thn (T.item (X.blk Nc scope cl { s2 with heap:=h3,toks:=s2.toks } H3 fp) rfl rfl rfl hcb i [] s5 σ5 H5 _ I5 (stat fr5) st5 go) λr s6 hQ'=>?_
   obtain⟨u,hr,h6⟩:=hQ'
   subst hr
   refine thn h6 λ_ s7 hQ'=>?_
   obtain⟨x,H7,I7,r7,y7,st7,fr7⟩:=hQ'
   have I7':=I7.pinned (stat fr7) (T.obj _ _ st7)
   refine wpAny_mono (hg cl _ H3 fp _ s7 σ5 H7 x u _ I7' r7 (step x H7 y7)) (λ_ s8 hQ'=>?_) λ_ _ z=>z.elim
   obtain⟨σ8,H8,I8,q8⟩:=hQ'
   have again:∀{H9:Hp} {s9:Shared} {m:Nat},Inv (X.blk Nc scope cl { s2 with heap:=h3,toks:=s2.toks } H3 fp) ([]++zks fp s7.heap) σ8 H9 s9→m<n→W (i+1) m σ8 H9→∃m,m<n∧∃i σ' H',Inv (X.blk Nc scope cl { s2 with heap:=h3,toks:=s2.toks } H3 fp) [] σ' H' s9∧tn i s9.heap∧(∀b∈fp,H' b=none)∧W i m σ' H':=fun {H9 s9 m} I9 hm w9=>by
    refine⟨m,hm,i+1,σ8,H9,I9.unpinned,T.keep _ _ _ st7 λb hb o e=>(I9.pin (b,o) (ψA _ (ψA _ (zeE hb e)))).1,λb hb=>?_,w9⟩
    obtain⟨o,e,d⟩:=T.obj _ _ st7 b hb
    exact(I9.pin (b,o) (ψA _ (ψA _ (zeE hb e)))).2.1
   refine wpAny_mono (ht cl _ H3 fp _ s8 σ8 H8 _ I8 q8) (λb s9 hQ'=>?_) λ_ _ z=>z.elim
   obtain⟨H9,I9,q9⟩:=hQ'
   cases b with
   | false =>
    rw[if_neg (by decide)] at q9
    obtain⟨m',hm,w9⟩:=hN' _ _ q9
    exact again I9 hm w9
   | true =>
    rw[if_pos rfl] at q9
    refine wpAny_mono (he cl _ H3 fp _ s9 σ8 H9 _ I9 q9) (λu s10 hQ'=>?_) λ_ _ z=>z.elim
    obtain⟨y,H10,I10,r10,q10⟩:=hQ'
    refine wpAny_mono (zfw (X:=X.blk Nc scope cl { s2 with heap:=h3,toks:=s2.toks } H3 fp) _ s10 σ8 H10 (.ref D) [y] (.ref D) [u] _ I10 rfl (.cons r10 .nil) q10) (λ_ s11 hQ'=>?_) λ_ _ z=>z.elim
    obtain⟨_,H11,I11,_,q11⟩:=hQ'
    obtain⟨m',hm,w11⟩:=hN' _ _ q11
    exact again I11 hm w11
 exact codeAny_compStart_list loop (T.self _ 0 _ _ _ st4 loop)
theorem zcc{X:Cx}{sc:Scope}{N Nc:List Str}{cap:List (Option Nat)}{elt tg iter:Expr}{ifs:List Expr}{scope:Scope}{pos:Pos}{wi:TI}{g:TG}{tt:TT}{te:TE}(hc:X.calm=true)(hsc:X.env.scope=sc)(hN:X.N=N)(B:zp9 sc N Nc cap scope)(hi:PI X tg iter wi)
  (hg:∀cl s H fp,PG (X.blk Nc scope cl s H fp) tg g) (ht:∀cl s H fp,PTs (X.blk Nc scope cl s H fp) ifs tt) (he:∀cl s H fp,PE (X.blk Nc scope cl s H fp) elt te)
  (hs:∀x,foldedSetIterable iter X.env x=pure x:=by intro _;rfl):PE X (.ListComp elt [⟨tg,iter,ifs,0⟩] scope pos) (zcu wi g tt te cap):=by
 intro pins s σ H Q I h
 rw[eval_ListComp]
 refine zmY hc hsc hN B hi hg ht he hs I h λs3 H3 cl fp D σc Hc s6 I3 f3 I6 q=>?_
 obtain⟨m,hn,_⟩:=id I6.loc
 exact⟨m,hn,λh' hs'=>⟨.ref D,Hc,zrT I3 f3 I6 hs',rfl,q⟩⟩
theorem zcS{X:Cx}{i:Nat}{y:Str}{py spos:Pos}{sc:Scope}{N Nc:List Str}{cap:List (Option Nat)}{elt tg iter:Expr}{ifs:List Expr}{scope:Scope}{pos:Pos}{wi:TI}{g:TG}{tt:TT}{te:TE}(hnd:X.N.Nodup)(hix:X.N[i]?=some y)(hl:X.env.scope.names.lookup y=some .local)
  (hc:X.calm=true) (hsc:X.env.scope=sc) (hN:X.N=N) (B:zp9 sc N Nc cap scope) (hi:PI X tg iter wi)
  (hg:∀cl s H fp,PG (X.blk Nc scope cl s H fp) tg g) (ht:∀cl s H fp,PTs (X.blk Nc scope cl s H fp) ifs tt) (he:∀cl s H fp,PE (X.blk Nc scope cl s H fp) elt te)
  (hsw:swapsWith (.ListComp elt [⟨tg,iter,ifs,0⟩] scope pos) (some (.Name y py)) spos.line X.env=pure true:=by rfl)
  (hs:∀x,foldedSetIterable iter X.env x=pure x:=by intro _;rfl):PS X (.Assign [.Name y py] (.ListComp elt [⟨tg,iter,ifs,0⟩] scope pos) spos) (zbq (zcu wi g tt te cap) (zaj i)):=by
 intro pins s σ H D0 I h
 rw[exec_Assign_Name_used _ _ _ _ hsw]
 refine wpAny_bind (wpAny_standAt (wpAny_bind (wpAny_bind (thn (zmY (use:=some (assign (.Name y py) X.env)) (QQ:=λ_ s'=>SP X pins D0 .next s') hc hsc hN B hi hg ht he hs I h λs3 H3 cl fp D σc Hc s6 I3 f3 I6 q=>?_) λ_ s' hq=>wpAny_pure (wpAny_pure hq)))))
 have I6x:Inv X pins σ Hc s6:=zrT I3 f3 I6 (Heap.SameBut.refl ..)
 obtain⟨m,hn,_⟩:=id I6.loc
 have hC:Hc s3.heap.objs.size=none:=I6.free
 have fpC:=I3.fpOk (b:=s3.heap.objs.size) (ψh _) hC
 refine wpAny_assign_Name (zjs I6x hnd hix (.inl hl) (v:=.ref D) rfl (λs7 I7 ch=>?_) (.inr hl))
 obtain⟨a,same,ha⟩:=ch
 have nC:s3.heap.objs.size≠a:=by
  rcases ha with r | r
  ·rw[r];exact fpC.2.1
  ·exact(fpC.2.2.2.2.1 _ _ r).symm
 refine⟨m,hn.sameBut same nC,λh' hs'=>⟨_,_,I7.turns (t':=s7.toks) (ch:=[s3.heap.objs.size]) (λb o hb e=>(hs'.2 b (by simpa using hb)).trans e) λb hb=>?_,q⟩⟩
 have e:b=s3.heap.objs.size:=by simpa using hb
 rw[e]
 exact fpC
theorem ztg{K:ψa}{a:Addr}{xs:List V}{g:TG}{tt:TT}{te:TE}{σ:St}{H:Hp}{D:Addr}{Q:VK}(Pv:Nat→List V→St→Hp→Prop)(h0:Pv 0 [] σ (upd H D (.lst [])))(hl:∀i ys σ H,i≤xs.length→Pv i ys σ H→SqL K H a xs)
  (hs:∀i x ys σ H,xs[i]?=some x→H D=some (.lst ys)→Pv i ys σ H→g x σ H λσ2 H2=>tt σ2 H2 λb H3=>if b=true then te σ2 H3 λy H4=>zcD (.ref D) [y] H4 λ_ H5=>∃ys,H5 D=some (.lst ys)∧Pv (i+1) ys σ2 H5 else ∃ys,H3 D=some (.lst ys)∧Pv (i+1) ys σ2 H3)
  (hd:∀ys σ H,H D=some (.lst ys)→Pv xs.length ys σ H→Q (.ref D) H) :
  ∃W:Nat→Nat→St→Hp→Prop,(∃m,W 0 m σ (upd H D (.lst [])))∧∀i m σc Hc,W i m σc Hc →
   ((Itl K a).stop i Hc∧Q (.ref D) Hc)∨((Itl K a).go i Hc∧∃N:St→Hp→Prop,(∀σ' H',N σ' H'→∃m',m'<m∧W (i+1) m' σ' H')∧∀x H',(Itl K a).yld i Hc x H'→g x σc H' λσ2 H2=>tt σ2 H2 λb H3=>if b=true then te σ2 H3 λy H4=>zcD (.ref D) [y] H4 λ_ H5=>N σ2 H5 else N σ2 H3):=by
 refine⟨λi m σ H=>m=xs.length - i∧i≤xs.length∧∃ys,H D=some (.lst ys)∧Pv i ys σ H,⟨_,rfl,ψh1 _,[],zam,h0⟩,?_⟩
 rintro i m σ H ⟨rfl,hi,ys,hD,pv⟩
 have q:=hl i ys σ H hi pv
 by_cases hlt:i<xs.length
 ·refine .inr ⟨⟨xs,xs[i],q,by simp[hlt]⟩,λσ H=>∃ys,H D=some (.lst ys)∧Pv (i+1) ys σ H,λσ' H' p'=>⟨_,by (first|lia|omega),rfl,hlt,p'⟩,λx H' yl=>?_⟩
  obtain⟨e,yl⟩:=yl
  subst e
  exact hs i x ys σ _ (yl xs q) hD pv
 ·have e:i=xs.length:=by (first|lia|omega)
  subst e
  exact .inl ⟨⟨xs,q,ψh _⟩,hd ys σ H hD pv⟩
theorem zpY{lo:Int}{n:Nat}{g:TG}{tt:TT}{te:TE}{σ:St}{H:Hp}{D:Addr}{Q:VK}(Pv:Nat→List V→St→Hp→Prop)(h0:Pv 0 [] σ (upd H D (.lst [])))
  (hs:∀i ys σ H,i<n→H D=some (.lst ys)→Pv i ys σ H→g (.int (lo+i)) σ H λσ2 H2=>tt σ2 H2 λb H3=>if b=true then te σ2 H3 λy H4=>zcD (.ref D) [y] H4 λ_ H5=>∃ys,H5 D=some (.lst ys)∧Pv (i+1) ys σ2 H5 else ∃ys,H3 D=some (.lst ys)∧Pv (i+1) ys σ2 H3)
  (hd:∀ys σ H,H D=some (.lst ys)→Pv n ys σ H→Q (.ref D) H) :
  ∃W:Nat→Nat→St→Hp→Prop,(∃m,W 0 m σ (upd H D (.lst [])))∧∀i m σc Hc,W i m σc Hc →
   ((Itr lo n).stop i Hc∧Q (.ref D) Hc)∨((Itr lo n).go i Hc∧∃N:St→Hp→Prop,(∀σ' H',N σ' H'→∃m',m'<m∧W (i+1) m' σ' H')∧∀x H',(Itr lo n).yld i Hc x H'→g x σc H' λσ2 H2=>tt σ2 H2 λb H3=>if b=true then te σ2 H3 λy H4=>zcD (.ref D) [y] H4 λ_ H5=>N σ2 H5 else N σ2 H3):=by
 refine⟨λi m σ H=>m=n - i∧i≤n∧∃ys,H D=some (.lst ys)∧Pv i ys σ H,⟨_,rfl,ψh1 _,[],zam,h0⟩,?_⟩
 rintro i m σ H ⟨rfl,hi,ys,hD,pv⟩
 by_cases hlt:i<n
 ·refine .inr ⟨hlt,λσ H=>∃ys,H D=some (.lst ys)∧Pv (i+1) ys σ H,λσ' H' p'=>⟨_,by (first|lia|omega),rfl,hlt,p'⟩,λx H' yl=>?_⟩
  obtain⟨e,yl⟩:=yl
  subst e yl
  exact hs i ys σ _ hlt hD pv
 ·have e:i=n:=by (first|lia|omega)
  subst e
  exact .inl ⟨ψh _,hd ys σ H hD pv⟩
end L2
namespace L2
open PySem PySem.Spec PyProof.Rows
theorem zsO(bs:List Bool):(ψr1 bs.length).all (λi=>bs.getD i false)=bs.all id:=by
 rw[ψm1,List.all_eq_true,List.all_eq_true]
 constructor
 ·intro h x hx
  obtain⟨i,hi,e⟩:=List.getElem_of_mem hx
  have:=h i (List.mem_range.mpr hi)
  rw[ψy,ψc hi] at this
  rw[← e]
  exact this
 ·intro h i hi
  have hi:=List.mem_range.mp hi
  rw[ψy,ψc hi]
  exact h _ (ψA1 hi)
def zt4(K:ψa):List V→Hp→VK→Prop:=λxs H Q=>∃(p:Addr) (bs:List Bool),xs=[.ref p]∧SqL K H p (bs.map V.bl)∧Q (.bl (bs.all id)) H
def zpH(K:ψa):List V→Hp→VK→Prop:=λxs H Q=>∃(p:Addr) (ns:List Int),xs=[.ref p]∧SqL K H p (ns.map V.int)∧Q (.int ns.sum) H
theorem zzf{bs:List Bool}{its:List Value}{i:Nat}{v:Value}(r:zcH (bs.map V.bl) its)(e:its.toArray[i]?=some v):v=.bool (bs.getD i false):=by
 have l:=r.length
 rw[ψb] at l
 have e':its[i]?=some v:=by simpa using e
 have hi:i<bs.length:=by rw[l];exact(List.getElem?_eq_some_iff.mp e').1
 obtain⟨u,hu,ru⟩:=r.get (i:=i) (x:=.bl bs[i]) (by rw[ψI,ψc hi];rfl)
 rw[e'] at hu
 cases hu
 cases ru
 rw[ψy,ψc hi]
 rfl
theorem zu2{P:Program}{w:World}{A:Around}{bs:List Bool}{its:List Value}(r:zcH (bs.map V.bl) its):TruthOf P w A (λi v=>its.toArray[i]?=some v) λi=>bs.getD i false:=λi v s Q E hP hQ=>by
 rw[zzf r hP]
 exact wpAny_pure hQ
section
variable {X:Cx}
theorem zfR(hc:X.calm=true):zjM X (.builtin "all") (zt4 X.K):=by
 intro pins s σ H xs us Q I r h
 obtain⟨p,bs,rfl,hl,q⟩:=h
 obtain⟨u,rfl,ru⟩:=r.one
 cases ru
 obtain⟨its,rv,pl,_⟩:=I.list hl
 have l:=rv.length
 rw[ψb] at l
 obtain⟨o,n,e,_⟩:=id pl
 have hne:p≠s.heap.objs.size:=ψl (Heap.lt_size e)
 refine call_all_walk (wpAny_pyIter_list pl.isList ?_)
 refine⟨s.heap.objs.size,_,_,_,_,_,λi=>bs.getD i false,rfl,Walks.list (A:=X.A.in1) (I.ok.hd hc) _ p hne its.toArray,⟨⟨_,Heap.get?_push_size _ rfl,rfl,rfl⟩,?_⟩,zu2 rv,λh' tk hk=>⟨.bl _,H,I.kept λb u eb=>?_,rfl,?_⟩⟩
 ·exact pl.isList.at λo e=>Heap.get?_push_of_some _ e
 ·exact hk b u (λz=>ψl (Heap.lt_size eb) (by simpa using z)) (Heap.get?_push_of_some _ eb)
 ·rw[ψf,← l,zsO]
  exact q
theorem znG{ns:List Int}{its:List Value}{i:Nat}{v:Value}(r:zcH (ns.map V.int) its)(e:its.toArray[i]?=some v):∃t,v=.int (ns.getD i 0) t:=by
 have l:=r.length
 rw[ψb] at l
 have e':its[i]?=some v:=by simpa using e
 have hi:i<ns.length:=by rw[l];exact(List.getElem?_eq_some_iff.mp e').1
 obtain⟨u,hu,ru⟩:=r.get (i:=i) (x:=.int ns[i]) (by rw[ψI,ψc hi];rfl)
 rw[e'] at hu
 cases hu
 obtain⟨t,rfl⟩:=ru
 refine⟨t,?_⟩
 rw[ψy,ψc hi]
 rfl
theorem zkN(ns:List Int):∀k,k≤ns.length→preSum (λi=>ns.getD i 0) k=(ns.take k).sum
 | 0,_=>by simp[preSum]
 | k+1,h=>by
  rw[preSum,zkN ns k (by (first|lia|omega)),ψw,ψc (by (first|lia|omega)),ψL1,ψy,ψc (by (first|lia|omega))]
  simp
theorem zdo(hc:X.calm=true):zjM X (.builtin "sum") (zpH X.K):=by
 intro pins s σ H xs us Q I r h
 obtain⟨p,ns,rfl,hl,q⟩:=h
 obtain⟨u,rfl,ru⟩:=r.one
 cases ru
 obtain⟨its,rv,pl,_⟩:=I.list hl
 have l:=rv.length
 rw[ψb] at l
 obtain⟨o,n,e,_⟩:=id pl
 have hlt:=Heap.lt_size e
 have hne:p≠s.heap.objs.size:=ψl hlt
 refine call_sum_walkG (wpAny_pyIter_list pl.isList ?_)
 refine⟨s.heap.objs.size,_,_,_,_,_,λi=>ns.getD i 0,rfl,Walks.list (A:=X.A.in1) (I.ok.hd hc) _ p hne its.toArray,⟨⟨_,Heap.get?_push_size _ rfl,rfl,rfl⟩,?_⟩,λb hb=>?_,λi v hv=>znG rv hv,λh' tk t' hk=>⟨.int _,H,I.kept λb u eb=>?_,⟨t',rfl⟩,?_⟩⟩
 ·exact pl.isList.at λo e=>Heap.get?_push_of_some _ e
 ·rw[Heap.size_push]
  rcases List.mem_cons.mp hb with z | z
  ·rw[z];exact ψS1 _
  ·have z':b=p:=by simpa using z
   rw[z'];exact ψF1 hlt
 ·exact hk b u (λz=>ψl (Heap.lt_size eb) (by simpa using z)) (Heap.get?_push_of_some _ eb)
 ·rw[ψf,← l,zkN _ _ (ψh _),ψJ]
  exact q
end
end L2
namespace L2
open PySem PySem.Spec PyProof.Rows
def Itz(K:ψa)(p q:Addr):It where
 go:=λi H=>∃xs ys a b,SqL K H p xs∧SqL K H q ys∧xs[i]?=some a∧ys[i]?=some b
 yld:=λi H x H'=>∃t a b,x=.ref t∧H t=none∧H'=upd H t (.tup [a,b])∧(∀xs,SqL K H p xs→xs[i]?=some a)∧∀ys,SqL K H q ys→ys[i]?=some b
 stop:=λi H=>∃xs ys,SqL K H p xs∧SqL K H q ys∧i=min xs.length ys.length
def tnZ(z TI TO i1 i2 p q:Addr)(i:Nat)(h:Heap):Prop:=IsZip h z TI TO .none∧IsPair h TI (.ref i1) (.ref i2)∧(∃a b,IsPair h TO a b)∧h.IsListIter i1 p i∧h.IsListIter i2 q i
theorem zuT{z TI TO i1 i2 p q:Addr}{i:Nat}{h h':Heap}(st:tnZ z TI TO i1 i2 p q i h)(k:∀b∈[z,TI,TO,i1,i2],∀o,h.get? b=some o→h'.get? b=some o):tnZ z TI TO i1 i2 p q i h':=by
 obtain⟨a1,a2,⟨x,y,a3⟩,a4,a5⟩:=st
 exact⟨k z (by simp) _ a1,k TI (by simp) _ a2,⟨x,y,k TO (by simp) _ a3⟩,a4.at λo e=>k i1 (by simp) o e,a5.at λo e=>k i2 (by simp) o e⟩
theorem zb6{o:Obj}{vs:Array Value}(h:o.data=.fields vs):∀v,o.data≠.cell v:=λv z=>by rw[h] at z;cases z
theorem zuv{P:Program}{w:World}{K:ψa}{elts:List Expr}{k:Nat}{pos:Pos}{z TI TO i1 i2 p q:Addr}(D:ZipApart z TI TO i1 i2 p q):zxS P w K (.Tuple elts k pos) (Itz K p q) [z,TI,TO,i1,i2] z (tnZ z TI TO i1 i2 p q) where
 mem:=by simp
 obj:=λi h st b hb=>by
  obtain⟨a1,a2,⟨x,y,a3⟩,⟨o4,a4,_,d4⟩,⟨o5,a5,_,d5⟩⟩:=st
  simp only[ψv,ψp,or_false] at hb
  rcases hb with rfl | rfl | rfl | rfl | rfl
  ·exact⟨_,a1,zb6 rfl⟩
  ·exact⟨_,a2,λv z=>nomatch (show Data.seq _ _=Data.cell v from z)⟩
  ·exact⟨_,a3,λv z=>nomatch (show Data.seq _ _=Data.cell v from z)⟩
  ·exact⟨_,a4,zb6 d4⟩
  ·exact⟨_,a5,zb6 d5⟩
 keep:=λi h h' st kk=>zuT st kk
 item:=by
  intro X hP hw hK hc i pins s σ H E I hf st hg
  subst hP hw hK
  obtain⟨xs,ys,a,b,hx,hy,ea,eb⟩:=hg
  obtain⟨its1,r1,pl1,z1⟩:=I.list hx
  obtain⟨its2,r2,pl2,z2⟩:=I.list hy
  obtain⟨ua,eua,rua⟩:=r1.get ea
  obtain⟨ub,eub,rub⟩:=r2.get eb
  obtain⟨s1,s2,s3,s4,s5⟩:=st
  have W:=WalksT.zip2 (prog:=X.prog) (w:=X.w) (A:=X.A) (I.ok.hd hc) z TI TO i1 i2 p q D its1.toArray its2.toArray
  have hi:i<min its1.toArray.size its2.toArray.size:=by
   have h1:=(List.getElem?_eq_some_iff.mp eua).1
   have h2:=(List.getElem?_eq_some_iff.mp eub).1
   simp only[ψf]
   (first|lia|omega)
  refine W.item i s _ _ hi ⟨s1,s2,s3,s4,s5,pl1.isList,pl2.isList⟩ λT vals h' tk hp hT hTup mid kk=>⟨_,rfl,?_⟩
  obtain⟨u,v,e1,e2,rfl⟩:=hp
  have e1':u=ua:=by
   have:its1[i]?=some u:=by simpa using e1
   rw[eua] at this;cases this;rfl
  have e2':v=ub:=by
   have:its2[i]?=some v:=by simpa using e2
   rw[eub] at this;cases this;rfl
  subst e1' e2'
  refine W.go elts k pos i T { s with heap:=h',toks:=tk } _ _ mid λh2 st2 kk2=>?_
  obtain⟨t1,t2,t3,t4,t5,_,_⟩:=st2
  have sub:∀b∈[z,TO,i1,i2],b∈[z,TI,TO,i1,i2]:=λb hb=>by
   simp only[ψv,ψp,or_false] at hb ⊢
   rcases hb with h | h | h | h <;> simp[h]
  have I1:Inv X pins σ H { s with heap:=h2,toks:=tk }:=I.turns (ch:=[z,TO,i1,i2]) (λb o hb e=>kk2 b o hb (kk b o hb e)) λb hb=>hf b (sub b hb)
  have nT:H T=none:=I.hok.fresh hT
  have I2:=I1.track (a:=T) (o:=.tup [a,b]) nT (Heap.get?_none_of_le (ψE I.sz hT)) (ψD1 (ψj I.lt hT)) (λx c e=>by
   obtain⟨v,q⟩:=I.cell x c e
   exact ψl (ψj q.lt hT)) (λp hp=>ψl (ψj (Heap.lt_size (I.pin p hp).1) hT)) (by
   refine⟨by show 2≤sizeLine;decide,[u,v],.cons rua (.cons rub .nil),?_⟩
   obtain⟨o,ho,hcl,hd⟩:=hTup
   exact⟨o,kk2 T o (W.apart i T h' mid) ho,hcl,hd⟩)
  refine⟨.ref T,_,I2,rfl,⟨T,a,b,rfl,nT,rfl,λxs' h'=>?_,λys' h'=>?_⟩,⟨t1,t2,t3,t4,t5⟩,λb hb=>?_⟩
  ·rw[I.list_inj h' hx];exact ea
  ·rw[I.list_inj h' hy];exact eb
  ·have hb2:∃o,s.heap.get? b=some o:=by
    obtain⟨x3,y3,s3⟩:=s3
    obtain⟨o4,s4,_⟩:=s4
    obtain⟨o5,s5,_⟩:=s5
    simp only[ψv,ψp,or_false] at hb
    rcases hb with h | h | h | h | h <;> rw[h] <;> first | exact⟨_,s1⟩ | exact⟨_,s2⟩ | exact⟨_,s3⟩ | exact⟨_,s4⟩ | exact⟨_,s5⟩
   obtain⟨o,e⟩:=hb2
   rw[zaS (ψl (ψj (Heap.lt_size e) hT))]
   exact(hf b hb).1
 done:=by
  intro X hP hw hK hc i pins s σ H E I hf st hg
  subst hP hw hK
  obtain⟨xs,ys,hx,hy,rfl⟩:=hg
  obtain⟨its1,r1,pl1,z1⟩:=I.list hx
  obtain⟨its2,r2,pl2,z2⟩:=I.list hy
  obtain⟨s1,s2,s3,s4,s5⟩:=st
  have W:=WalksT.zip2 (prog:=X.prog) (w:=X.w) (A:=X.A) (I.ok.hd hc) z TI TO i1 i2 p q D its1.toArray its2.toArray
  have sub:∀b∈[z,TO,i1,i2],b∈[z,TI,TO,i1,i2]:=λb hb=>by
   simp only[ψv,ψp,or_false] at hb ⊢
   rcases hb with h | h | h | h <;> simp[h]
  refine W.done s _ _ ?_ λh' tk kk=>⟨rfl,I.turns (ch:=[z,TO,i1,i2]) (λb o hb e=>kk b o hb e) λb hb=>hf b (sub b hb)⟩
  rw[ψf,ψf,← r1.length,← r2.length]
  exact⟨s1,s2,s3,s4,s5,pl1.isList,pl2.isList⟩
 self:=λA i s Q E st h=>wpAny_pyIter_zip st.1 h
def zlg(K:ψa)(ta:TA):TI:=λσ H R=>ta σ H λvs H1=>∃p q,vs=[.ref p,.ref q]∧(∃xs,SqL K H1 p xs)∧(∃ys,SqL K H1 q ys)∧R (Itz K p q) H1
theorem zd4{X:Cx}{a b:Expr}{elts:List Expr}{k:Nat}{tp p pos:Pos}{ta:TA}(hg:Gl X "zip")(hm:X.mg "zip"=none)(ha:PA X [a,b] ta)(hs:starEach [a,b] X.env=[(false,eval a X.env),(false,eval b X.env)]:=by rfl)(hs2:starEach [b] X.env=[(false,eval b X.env)]:=by rfl) :
  PI X (.Tuple elts k tp) (.Call (.Name "zip" p) [a,b] [] pos) (zlg X.K ta):=by
 intro pins s σ H R I h
 refine Call_ (zid I hg hm boot_zip (ψj1 (thn (ha pos pins s σ H _ I h) λus s1 hQ'=>?_) (by rw[hs,hs2]) (by rw[hs2];rfl)))
 obtain⟨vs,H1,I1,r1,q1⟩:=hQ'
 obtain⟨p1,p2,rfl,⟨xs,hx⟩,⟨ys,hy⟩,q⟩:=q1
 obtain⟨u,v,rfl,ru,rv⟩:=zyt r1
 cases ru
 cases rv
 obtain⟨its1,_,pl1,_⟩:=I1.list hx
 obtain⟨its2,_,pl2,_⟩:=I1.list hy
 have a1:p1<s1.heap.objs.size:=by obtain⟨_,e,_⟩:=pl1.isList;exact Heap.lt_size e
 have a2:p2<s1.heap.objs.size:=by obtain⟨_,e,_⟩:=pl2.isList;exact Heap.lt_size e
 refine call_zip_2 pl1.isList pl2.isList λh' hz hTI hTO hi1 hi2 hsz hk=>?_
 refine wpAny_pyIter_zip hz ?_
 refine⟨_,_,_,_,H1,rfl,I1.kept (t':=s1.toks) hk,zuv (zipApart_new a1 a2),⟨hz,hTI,⟨_,_,hTO⟩,hi1,hi2⟩,λb hb=>?_,q⟩
 have hb':s1.heap.objs.size≤b:=by
  simp only[ψv,ψp,or_false] at hb
  rcases hb with h | h | h | h | h <;> rw[h] <;> first | exact ψh _ | exact ψT1 _ _
 exact I1.fpOk hb' (I1.hok.fresh hb')
theorem zwx{K:ψa}{p q:Addr}{xs ys:List V}{g:TG}{tb:TS}{D:zjo}{σ:St}{H:Hp}(Pv:Nat→St→Hp→Prop)(h0:Pv 0 σ H)(hl:∀i σ H,i≤min xs.length ys.length→Pv i σ H→SqL K H p xs∧SqL K H q ys)
  (hs:∀i x y t σ H,xs[i]?=some x→ys[i]?=some y→Pv i σ H→H t=none→g (.ref t) σ (upd H t (.tup [x,y])) λσ2 H2=>tb { D with nx:=Pv (i+1),ct:=Pv (i+1),bk:=D.nx } σ2 H2) (hd:∀σ H,Pv (min xs.length ys.length) σ H→D.nx σ H) :
  ∃W:Nat→Nat→St→Hp→Prop,(∃m,W 0 m σ H)∧∀i m σ H,W i m σ H →
   ((Itz K p q).stop i H∧D.nx σ H)∨((Itz K p q).go i H∧∃N:St→Hp→Prop,(∀σ' H',N σ' H'→∃m',m'<m∧W (i+1) m' σ' H')∧∀x H',(Itz K p q).yld i H x H'→g x σ H' λσ2 H2=>tb { D with nx:=N,ct:=N,bk:=D.nx } σ2 H2):=by
 refine⟨λi m σ H=>m=min xs.length ys.length - i∧i≤min xs.length ys.length∧Pv i σ H,⟨_,rfl,ψh1 _,h0⟩,?_⟩
 rintro i m σ H ⟨rfl,hi,pv⟩
 obtain⟨hx,hy⟩:=hl i σ H hi pv
 by_cases hlt:i<min xs.length ys.length
 ·have l1:i<xs.length:=by (first|lia|omega)
  have l2:i<ys.length:=by (first|lia|omega)
  refine .inr ⟨⟨xs,ys,xs[i],ys[i],hx,hy,by simp[l1],by simp[l2]⟩,Pv (i+1),λσ' H' p'=>⟨_,by (first|lia|omega),rfl,hlt,p'⟩,λx H' yl=>?_⟩
  obtain⟨t,a,b,rfl,ht,rfl,e1,e2⟩:=yl
  exact hs i a b t σ H (e1 xs hx) (e2 ys hy) pv ht
 ·have e:i=min xs.length ys.length:=by (first|lia|omega)
  subst e
  exact .inl ⟨⟨xs,ys,hx,hy,rfl⟩,hd σ H pv⟩
theorem zvd{K:ψa}{p q:Addr}{xs zs:List V}{g:TG}{tt:TT}{te:TE}{σ:St}{H:Hp}{D:Addr}{Q:VK}(Pv:Nat→List V→St→Hp→Prop)(h0:Pv 0 [] σ (upd H D (.lst [])))
  (hl:∀i ys σ H,i≤min xs.length zs.length→Pv i ys σ H→SqL K H p xs∧SqL K H q zs)
  (hs:∀i x z t ys σ H,xs[i]?=some x→zs[i]?=some z→H D=some (.lst ys)→Pv i ys σ H→H t=none→g (.ref t) σ (upd H t (.tup [x,z])) λσ2 H2=>tt σ2 H2 λb H3=>if b=true then te σ2 H3 λy H4=>zcD (.ref D) [y] H4 λ_ H5=>∃ys,H5 D=some (.lst ys)∧Pv (i+1) ys σ2 H5 else ∃ys,H3 D=some (.lst ys)∧Pv (i+1) ys σ2 H3)
  (hd:∀ys σ H,H D=some (.lst ys)→Pv (min xs.length zs.length) ys σ H→Q (.ref D) H) :
  ∃W:Nat→Nat→St→Hp→Prop,(∃m,W 0 m σ (upd H D (.lst [])))∧∀i m σc Hc,W i m σc Hc →
   ((Itz K p q).stop i Hc∧Q (.ref D) Hc)∨((Itz K p q).go i Hc∧∃N:St→Hp→Prop,(∀σ' H',N σ' H'→∃m',m'<m∧W (i+1) m' σ' H')∧∀x H',(Itz K p q).yld i Hc x H'→g x σc H' λσ2 H2=>tt σ2 H2 λb H3=>if b=true then te σ2 H3 λy H4=>zcD (.ref D) [y] H4 λ_ H5=>N σ2 H5 else N σ2 H3):=by
 refine⟨λi m σ H=>m=min xs.length zs.length - i∧i≤min xs.length zs.length∧∃ys,H D=some (.lst ys)∧Pv i ys σ H,⟨_,rfl,ψh1 _,[],zam,h0⟩,?_⟩
 rintro i m σ H ⟨rfl,hi,ys,hD,pv⟩
 obtain⟨hx,hz⟩:=hl i ys σ H hi pv
 by_cases hlt:i<min xs.length zs.length
 ·have l1:i<xs.length:=by (first|lia|omega)
  have l2:i<zs.length:=by (first|lia|omega)
  refine .inr ⟨⟨xs,zs,xs[i],zs[i],hx,hz,by simp[l1],by simp[l2]⟩,λσ H=>∃ys,H D=some (.lst ys)∧Pv (i+1) ys σ H,λσ' H' p'=>⟨_,by (first|lia|omega),rfl,hlt,p'⟩,λx H' yl=>?_⟩
  obtain⟨t,a,b,rfl,ht,rfl,e1,e2⟩:=yl
  exact hs i a b t ys σ H (e1 xs hx) (e2 zs hz) hD pv ht
 ·have e:i=min xs.length zs.length:=by (first|lia|omega)
  subst e
  exact .inl ⟨⟨xs,zs,hx,hz,rfl⟩,hd ys σ H hD pv⟩
end L2
namespace L2
open PySem PySem.Spec PyProof.Rows
inductive Tr where
 | int (i:Int)
 | bl (b:Bool)
 | str (x:Str)
 | non
 | lst (l:List Tr)
 | tup (l:List Tr)
inductive zdn (K:ψa) (H:Hp):Nat→Tr→V→Prop where
 | int {n:Nat} (i:Int):zdn K H n (.int i) (.int i)
 | bl {n:Nat} (b:Bool):zdn K H n (.bl b) (.bl b)
 | str {n:Nat} (x:Str):zdn K H n (.str x) (.str x)
 | non {n:Nat}:zdn K H n .non .non
 | lst {n:Nat} {p:Addr} {xs:List V} {ts:List Tr} (h:SqL K H p xs) (l:xs.length=ts.length) (e:∀(i:Nat) x t,xs[i]?=some x→ts[i]?=some t→zdn K H n t x):zdn K H (n+1) (.lst ts) (.ref p)
 | tup {n:Nat} {p:Addr} {xs:List V} {ts:List Tr} (h:SqT K H p xs) (l:xs.length=ts.length) (e:∀(i:Nat) x t,xs[i]?=some x→ts[i]?=some t→zdn K H n t x):zdn K H (n+1) (.tup ts) (.ref p)
section
variable {X:Cx} {pins:List (Addr×Obj)} {σ:St} {H:Hp} {s:Shared}
theorem zjf{A:Around}{n:Nat}{xs ys:List V}{ts:List Tr}{us vs:List Value}(lx:xs.length=ts.length)(ly:ys.length=ts.length)(r1:zcH xs us)(r2:zcH ys vs)
  (ih:∀(i:Nat) x t,xs[i]?=some x→ts[i]?=some t→∀y,zdn X.K H n t y→∀(u v:Value) (A:Around),zee x u→zee y v→A.units+n<cLine→SeqAt.EqAt A s u v true)
  (ey:∀(i:Nat) y t,ys[i]?=some y→ts[i]?=some t→zdn X.K H n t y) (hu:A.units+(n+1)<cLine) :
  ∀j (h1:j<us.toArray.size) (h2:j<vs.toArray.size),SeqAt.EqAt A.in1 s us.toArray[j] vs.toArray[j] true:=by
 intro j h1 h2
 have k1:j<xs.length:=by rw[r1.length];simpa using h1
 have k2:j<ys.length:=by rw[r2.length];simpa using h2
 have k3:j<ts.length:=by (first|lia|omega)
 obtain⟨u,e1,ru⟩:=r1.get (ψc k1)
 obtain⟨v,e2,rv⟩:=r2.get (ψc k2)
 have q1:us.toArray[j]=u:=by
  have:=(List.getElem?_eq_some_iff.mp e1).2
  simpa using this
 have q2:vs.toArray[j]=v:=by
  have:=(List.getElem?_eq_some_iff.mp e2).2
  simpa using this
 rw[q1,q2]
 exact ih j _ _ (ψc k1) (ψc k3) _ (ey j _ _ (ψc k2) (ψc k3)) u v A.in1 ru rv (by show A.units+1+n<cLine;(first|lia|omega))
theorem zja(n:Nat):(ψr1 n).all (λ_=>true)=true:=by simp
theorem zrW(I:Inv X pins σ H s){n:Nat}{t:Tr}{x:V}(hx:zdn X.K H n t x):∀y,zdn X.K H n t y→∀(u v:Value) (A:Around),zee x u→zee y v→A.units+n<cLine→SeqAt.EqAt A s u v true:=by
 induction hx with
 | int i =>
  intro y hy u v A ru rv hu
  cases hy
  obtain⟨a,rfl⟩:=ru
  obtain⟨b,rfl⟩:=rv
  have:=SeqAt.EqAt.int_int (A:=A) (s:=s) i a i b
  rw[beq_self_eq_true] at this
  exact this
 | bl b =>
  intro y hy u v A ru rv hu
  cases hy
  cases ru
  cases rv
  exact SeqAt.EqAt.same _
 | str x =>
  intro y hy u v A ru rv hu
  cases hy
  obtain⟨a,rfl⟩:=ru
  obtain⟨b,rfl⟩:=rv
  have:=SeqAt.EqAt.str_str (A:=A) (s:=s) x a x b
  rw[beq_self_eq_true] at this
  exact this
 | non =>
  intro y hy u v A ru rv hu
  cases hy
  cases ru
  cases rv
  exact SeqAt.EqAt.same _
 | @lst n p xs ts h l e ih =>
  intro y hy u v A ru rv hu
  cases hy with
  | @lst _ q ys _ h2 l2 e2 =>
   cases ru
   cases rv
   by_cases hpq:p=q
   ·subst hpq
    exact SeqAt.EqAt.same _
   ·obtain⟨us,r1,p1,_⟩:=I.list h
    obtain⟨vs,r2,p2,_⟩:=I.list h2
    have z:=SeqAt.RcAt.lists (A:=A) p1.isList p2.isList (by rw[ψf,ψf,← r1.length,← r2.length,l,l2]) (by (first|lia|omega)) (e:=λ_=>true) (zjf l l2 r1 r2 ih e2 hu)
    rw[zja] at z
    exact SeqAt.EqAt.of_refs hpq z
 | @tup n p xs ts h l e ih =>
  intro y hy u v A ru rv hu
  cases hy with
  | @tup _ q ys _ h2 l2 e2 =>
   cases ru
   cases rv
   by_cases hpq:p=q
   ·subst hpq
    exact SeqAt.EqAt.same _
   ·obtain⟨us,r1,p1,_⟩:=I.tuple h
    obtain⟨vs,r2,p2,_⟩:=I.tuple h2
    have z:=SeqAt.RcAt.tuples (A:=A) p1 p2 (by (first|lia|omega)) (e:=λ_=>true) (zjf l l2 r1 r2 ih e2 hu)
    rw[zja,ψf,ψf,← r1.length,← r2.length,l,l2,beq_self_eq_true,Bool.and_self] at z
    exact SeqAt.EqAt.of_refs hpq z
def rNeD(K:ψa):R2:=λx y H Q=>∃n ts,n≤60∧(zdn K H (n+1) (.lst ts) x∧zdn K H (n+1) (.lst ts) y∨zdn K H (n+1) (.tup ts) x∧zdn K H (n+1) (.tup ts) y)∧Q (.bl false) H
theorem zwo(hu:X.A.units+64<cLine):OpR X (compareOp .NotEq) (rNeD X.K):=by
 intro pins s σ H x y v u Q I rx ry h
 obtain⟨n,ts,hn,h,q⟩:=h
 have hu':X.A.units+(n+1)<cLine:=by (first|lia|omega)
 rcases h with ⟨h1,h2⟩ | ⟨h1,h2⟩
 ·cases h1 with
  | @lst _ p xs _ a1 a2 a3 =>
   cases h2 with
   | @lst _ p' ys _ b1 b2 b3 =>
    cases rx
    cases ry
    obtain⟨us,r1,p1,_⟩:=I.list a1
    obtain⟨vs,r2,p2,_⟩:=I.list b1
    have z:=SeqAt.RcNeAt.lists (A:=X.A) p1.isList p2.isList (by rw[ψf,ψf,← r1.length,← r2.length,a2,b2]) (by (first|lia|omega)) (e:=λ_=>true) (zjf a2 b2 r1 r2 (λi x t e1 e2=>zrW I (a3 i x t e1 e2)) b3 hu')
    rw[zja] at z
    exact z X.prog X.w X.xe _ ⟨.bl false,H,I,rfl,q⟩
 ·cases h1 with
  | @tup _ p xs _ a1 a2 a3 =>
   cases h2 with
   | @tup _ p' ys _ b1 b2 b3 =>
    cases rx
    cases ry
    obtain⟨us,r1,p1,_⟩:=I.tuple a1
    obtain⟨vs,r2,p2,_⟩:=I.tuple b1
    have z:=SeqAt.RcNeAt.tuples (A:=X.A) p1 p2 (by (first|lia|omega)) (e:=λ_=>true) (zjf a2 b2 r1 r2 (λi x t e1 e2=>zrW I (a3 i x t e1 e2)) b3 hu')
    rw[zja,ψf,ψf,← r1.length,← r2.length,a2,b2,beq_self_eq_true,Bool.and_self] at z
    exact z X.prog X.w X.xe _ ⟨.bl false,H,I,rfl,q⟩
end
end L2
namespace L2
open PySem PySem.Spec PyProof.Rows
theorem zoX{P:Program}{w:World}{A:Around}{E:Value→Shared→Prop}{I ax:Addr}{items:Array Value}(hh:A.handled=none)(hne:ax≠I):∀(k i:Nat) (s:Shared) (Q:List Value→Shared→Prop),s.heap.IsListIter I ax i→s.heap.IsList ax items→i+k≤items.size →
  (∀h' tk,h'.IsListIter I ax (i+k)→h'.IsList ax items→(∀b o,b≠I→s.heap.get? b=some o→h'.get? b=some o)→Q ((items.toList.drop i).take k) { s with heap:=h',toks:=tk })→wpAny (model P w) A (draw (.ref I) k) Q E s
 | 0,i,s,Q,hit,hl,_,hQ=>by
  refine wpAny_pure (a:=[]) ?_
  have:=hQ s.heap s.toks hit hl λ_ _ _ e=>e
  simpa using this
 | k+1,i,s,Q,hit,hl,hle,hQ=>by
  have hi:i<items.size:=by (first|lia|omega)
  refine wpAny_bind (m:=pyNext (.ref I)) ((Walks.list (A:=A) hh I ax hne items).item i s _ _ hi ⟨hit,hl⟩ λv h1 tk1 hv st kk=>?_)
  refine wpAny_bind (wpAny_holding (zoX hh hne k (i+1) _ _ st.1 st.2 (by (first|lia|omega)) λh2 tk2 hit2 hl2 kk2=>wpAny_pure ?_))
  have hv':items[i]=v:=by
   have:=(Array.getElem?_eq_some_iff.mp hv).2
   exact this
  have hd:items.toList.drop i=v::items.toList.drop (i+1):=by
   rw[← hv',List.drop_eq_getElem_cons (by simpa using hi)]
   simp
  have:=hQ h2 tk2 (by rw[show i+(k+1)=i+1+k by (first|lia|omega)];exact hit2) hl2 λb o hb e=>kk2 b o hb (kk b o (by simpa using hb) e)
  rw[hd,List.take_succ_cons] at this
  exact this
theorem zqa{P:Program}{w:World}{A:Around}{E:Value→Shared→Prop}{s:Shared}{t:Addr}{items:Array Value}{Q:List Value→Shared→Prop}(hh:A.handled=none)(ht:s.heap.IsList t items)
  (hQ:∀h' tk,(∀b o,s.heap.get? b=some o→h'.get? b=some o)→Q items.toList { s with heap:=h',toks:=tk }):wpAny (model P w) A (unpackItems (.ref t) items.size none) Q E s:=by
 obtain⟨o,ho,hcl,hdt⟩:=id ht
 have hne:t≠s.heap.objs.size:=ψl (Heap.lt_size ho)
 have ty:s.TypeIs (.ref t) "list":=⟨o,ho,hcl⟩
 unfold unpackItems notIterableAtAll
 refine wpAny_bind (wpAny_bind (wpAny_specialOf ty F.slot_list_iter.lookup (wpAny_pure ?_)))
 simp only[Bool.false_eq_true,if_false]
 refine wpAny_bind (wpAny_holding (wpAny_pyIter_list ht ?_))
 have ht1:(s.heap.push { cls:=.type "list_iterator",data:=.fields #[.ref t,.int 0 0] }).IsList t items:=ht.at λo e=>Heap.get?_push_of_some _ e
 refine wpAny_bind (wpAny_holding (zoX hh hne items.size 0 _ _ ⟨_,Heap.get?_push_size _ rfl,rfl,rfl⟩ ht1 (by (first|lia|omega)) λh1 tk1 hit1 hl1 kk1=>?_))
 have hall:List.take items.size (List.drop 0 items.toList)=items.toList:=by
  rw[List.drop_zero]
  exact ψK (by simp)
 rw[hall,if_neg (by simp)]
 rw[ψU1] at hit1
 refine wpAny_bind (wpAny_holding ((Walks.list (A:=A) hh _ t hne items).done _ _ _ ⟨hit1,hl1⟩ λh2 tk2 kk2=>?_))
 simp only[Option.isSome_none,Bool.false_eq_true,if_false]
 refine wpAny_pure (hQ h2 tk2 λb o e=>kk2 b o (λz=>ψl (Heap.lt_size e) (by simpa using z)) (kk1 b o (ψl (Heap.lt_size e)) (Heap.get?_push_of_some _ e)))
def gLst(K:ψa)(n:Nat)(t:TGs):TG:=λv σ H Q=>∃a xs,v=.ref a∧SqL K H a xs∧xs.length=n∧t xs σ H Q
theorem zyS{X:Cx}{pos:Pos}{es:List Expr}{k:Nat}{t:TGs}{n:Nat}(hc:X.calm=true)(h:PGs X es t)
  (hn:(assignEach es X.env).length=n:=by rfl) (hst:(assignEach es X.env).findIdx? (·.1)=none:=by rfl):PG X (.Tuple es k pos) (gLst X.K n t):=by
 intro pins s σ H v u Q I r hw
 obtain⟨a,xs,e1,hq,hl,hw⟩:=hw
 subst e1
 cases r
 obtain⟨its,rv,pl,hz⟩:=I.list hq
 rw[assign_Tuple]
 refine wpAny_bind (wpAny_standAt ?_)
 unfold unpack
 have e:(assignEach es X.env).length=its.toArray.size:=by rw[hn,ψf,← rv.length,hl]
 rw[e,hst]
 refine wpAny_bind (wpAny_holding (zqa (I.ok.hd hc) pl.isList λh' tk hk=>?_))
 exact h pins _ σ H xs _ Q (I.kept hk) (by simpa using rv) hw
end L2
namespace L2
open PySem PySem.Spec PyProof.Rows
def rEqE(K:ψa):R2:=λx y H Q=>∃a b xs,x=.ref a∧y=.ref b∧SqL K H a xs∧SqL K H b []∧Q (.bl xs.isEmpty) H
section
variable {X:Cx}
theorem zvX(hu:X.A.units+64<cLine):OpR X (compareOp .Eq) (rEqE X.K):=by
 intro pins s σ H x y v u Q I rx ry h
 obtain⟨a,b,xs,rfl,rfl,ha,hb,q⟩:=h
 cases rx
 cases ry
 obtain⟨us,r1,p1,_⟩:=I.list ha
 obtain⟨vs,r2,p2,_⟩:=I.list hb
 cases r2
 cases xs with
 | nil =>
  cases r1
  have z:=SeqAt.RcAt.lists (A:=X.A) p1.isList p2.isList rfl (by (first|lia|omega)) (e:=λ_=>true) (λj h1 h2=>absurd h1 (ψn1 _))
  exact z X.prog X.w X.xe _ ⟨.bl true,H,I,rfl,q⟩
 | cons y ys =>
  have z:=SeqAt.RcAt.lists_lengths (A:=X.A) p1.isList p2.isList (by rw[ψf,ψf,← r1.length];rfl) (by (first|lia|omega))
  exact z X.prog X.w X.xe _ ⟨.bl false,H,I,rfl,q⟩
end
def zfz(J:It)(g:TG)(tt:TT)(te:TE)(D:Addr)(Q:VK)(σ:St)(H:Hp):Prop:=∃W:Nat→Nat→St→Hp→Prop,(∃m,W 0 m σ H)∧∀i m σc Hc,W i m σc Hc →
 (J.stop i Hc∧Q (.ref D) Hc)∨(J.go i Hc∧∃N:St→Hp→Prop,(∀σ' H',N σ' H'→∃m',m'<m∧W (i+1) m' σ' H')∧∀x H',J.yld i Hc x H'→g x σc H' λσ2 H2=>tt σ2 H2 λb H3=>if b=true then te σ2 H3 λy H4=>zcD (.ref D) [y] H4 λ_ H5=>N σ2 H5 else N σ2 H3)
theorem zuq{wi:TI}{g:TG}{tt:TT}{te:TE}{cap:List (Option Nat)}{σ:St}{H:Hp}{Q:VK}:zcu wi g tt te cap σ H Q=wi σ H λJ H1=>∀D,H1 D=none→zfz J g tt te D Q (zut cap σ) (upd H1 D (.lst [])):=rfl
theorem zdR{K:ψa}{a:Addr}{xs:List V}{g:TG}{tt:TT}{te:TE}{σ:St}{H:Hp}{D:Addr}{Q:VK}(Pv:Nat→List V→St→Hp→Prop)(h0:Pv 0 [] σ (upd H D (.lst [])))(hl:∀i ys σ H,i≤xs.length→Pv i ys σ H→SqL K H a xs)
  (hs:∀i x ys σ H,xs[i]?=some x→H D=some (.lst ys)→Pv i ys σ H→g x σ H λσ2 H2=>tt σ2 H2 λb H3=>if b=true then te σ2 H3 λy H4=>zcD (.ref D) [y] H4 λ_ H5=>∃ys,H5 D=some (.lst ys)∧Pv (i+1) ys σ2 H5 else ∃ys,H3 D=some (.lst ys)∧Pv (i+1) ys σ2 H3)
  (hd:∀ys σ H,H D=some (.lst ys)→Pv xs.length ys σ H→Q (.ref D) H):zfz (Itl K a) g tt te D Q σ (upd H D (.lst [])):=ztg Pv h0 hl hs hd
theorem zor{lo:Int}{n:Nat}{g:TG}{tt:TT}{te:TE}{σ:St}{H:Hp}{D:Addr}{Q:VK}(Pv:Nat→List V→St→Hp→Prop)(h0:Pv 0 [] σ (upd H D (.lst [])))
  (hs:∀i ys σ H,i<n→H D=some (.lst ys)→Pv i ys σ H→g (.int (lo+i)) σ H λσ2 H2=>tt σ2 H2 λb H3=>if b=true then te σ2 H3 λy H4=>zcD (.ref D) [y] H4 λ_ H5=>∃ys,H5 D=some (.lst ys)∧Pv (i+1) ys σ2 H5 else ∃ys,H3 D=some (.lst ys)∧Pv (i+1) ys σ2 H3)
  (hd:∀ys σ H,H D=some (.lst ys)→Pv n ys σ H→Q (.ref D) H):zfz (Itr lo n) g tt te D Q σ (upd H D (.lst [])):=zpY Pv h0 hs hd
theorem zib{K:ψa}{p q:Addr}{xs zs:List V}{g:TG}{tt:TT}{te:TE}{σ:St}{H:Hp}{D:Addr}{Q:VK}(Pv:Nat→List V→St→Hp→Prop)(h0:Pv 0 [] σ (upd H D (.lst [])))
  (hl:∀i ys σ H,i≤min xs.length zs.length→Pv i ys σ H→SqL K H p xs∧SqL K H q zs)
  (hs:∀i x z t ys σ H,xs[i]?=some x→zs[i]?=some z→H D=some (.lst ys)→Pv i ys σ H→H t=none→g (.ref t) σ (upd H t (.tup [x,z])) λσ2 H2=>tt σ2 H2 λb H3=>if b=true then te σ2 H3 λy H4=>zcD (.ref D) [y] H4 λ_ H5=>∃ys,H5 D=some (.lst ys)∧Pv (i+1) ys σ2 H5 else ∃ys,H3 D=some (.lst ys)∧Pv (i+1) ys σ2 H3)
  (hd:∀ys σ H,H D=some (.lst ys)→Pv (min xs.length zs.length) ys σ H→Q (.ref D) H):zfz (Itz K p q) g tt te D Q σ (upd H D (.lst [])):=zvd Pv h0 hl hs hd
theorem zpj{K:ψa}{p q:Addr}{xs ys:List V}{g:TG}{tb:TS}{D:zjo}{σ:St}{H:Hp}(Pv:Nat→St→Hp→Prop)(h0:Pv 0 σ H)(hl:∀i σ H,i≤min xs.length ys.length→Pv i σ H→SqL K H p xs∧SqL K H q ys)
  (hs:∀i x y t σ H,xs[i]?=some x→ys[i]?=some y→Pv i σ H→H t=none→g (.ref t) σ (upd H t (.tup [x,y])) λσ2 H2=>tb { D with nx:=Pv (i+1),ct:=Pv (i+1),bk:=D.nx } σ2 H2) (hd:∀σ H,Pv (min xs.length ys.length) σ H→D.nx σ H):znO (Itz K p q) g tb D σ H:=zwx Pv h0 hl hs hd
end L2
namespace My3
open PySem
abbrev zcW(h:Heap)(T:Addr)(a b c:Value):Prop:=h.get? T=some { cls:=.type "tuple",data:=.seq #[a,b,c] }
structure zjY (z TI TO i1 i2 i3 l1 l2 l3:Addr):Prop where
 a1:TI≠z
 a2:TO≠z
 a3:i1≠z
 a4:i2≠z
 a5:i3≠z
 b0:TI≠TO
 b1:TI≠i1
 b2:TI≠i2
 b3:TI≠i3
 c1:TO≠i1
 c2:TO≠i2
 c3:TO≠i3
 d12:i1≠i2
 d13:i1≠i3
 d23:i2≠i3
 e1:∀b∈[z,TO,i1,i2,i3],l1≠b
 e2:∀b∈[z,TO,i1,i2,i3],l2≠b
 e3:∀b∈[z,TO,i1,i2,i3],l3≠b
section
variable {P:Program} {w:World} {A:Around} {E:Value→Shared→Prop} {s:Shared}
theorem zlF{T:Addr}{a b c x:Value}{k:Nat}{R:Unit→Shared→Prop}(g:zcW s.heap T a b c)
  (h:∀h',h'.get? T=some { cls:=.type "tuple",data:=.seq ((#[a,b,c]:Array Value).setIfInBounds k x) }→Heap.SameBut T s.heap h'→R () { s with heap:=h' }):wpAny (model P w) A (updateSeq T (·.setIfInBounds k x)) R E s:=by
 refine wpAny_updateSeq g rfl (h _ ?_ (Heap.SameBut.update ..))
 rw[Heap.get?_update_self _ g rfl];simp[Obj.mapSeq]
theorem zuC{z TI TO i1 i2 i3 l1 l2 l3:Addr}{k:Nat}{xs ys vs:Array Value}{x y v a b c:Value}{R:Value→Shared→Prop}(D:zjY z TI TO i1 i2 i3 l1 l2 l3)
  (gz:IsZip s.heap z TI TO .none) (gI:zcW s.heap TI (.ref i1) (.ref i2) (.ref i3)) (gO:zcW s.heap TO a b c)
  (n1:s.heap.IsListIter i1 l1 k) (n2:s.heap.IsListIter i2 l2 k) (n3:s.heap.IsListIter i3 l3 k) (m1:s.heap.IsList l1 xs) (m2:s.heap.IsList l2 ys) (m3:s.heap.IsList l3 vs) (ex:xs[k]?=some x) (ey:ys[k]?=some y) (ev:vs[k]?=some v)
  (q:∀h',IsZip h' z TI TO (rawInt s.heap.objs.size)→zcW h' TO x y v→h'.IsListIter i1 l1 (k+1)→h'.IsListIter i2 l2 (k+1)→h'.IsListIter i3 l3 (k+1)→zcW h' s.heap.objs.size x y v→h'.objs.size=s.heap.objs.size+1 →
   (∀t o,t∉[z,TO,i1,i2,i3]→s.heap.get? t=some o→h'.get? t=some o)→R (.ref s.heap.objs.size) { s with heap:=h' }) :
  wpAny (model P w) A (Builtin.«zip.__next__» ⟨[.ref z],[]⟩) (λfin s'=>∃v,fin=.done (.ret v)∧R v s') E s:=by
 have lz1:=D.e1 z (by simp);have lO1:=D.e1 TO (by simp);have li11:=D.e1 i1 (by simp)
 have lz2:=D.e2 z (by simp);have lO2:=D.e2 TO (by simp);have li21:=D.e2 i1 (by simp);have li22:=D.e2 i2 (by simp)
 have lz3:=D.e3 z (by simp);have lO3:=D.e3 TO (by simp);have li31:=D.e3 i1 (by simp);have li32:=D.e3 i2 (by simp);have li33:=D.e3 i3 (by simp)
 show wpAny _ _ (field (.ref z) 2 >>= _) _ _ _;refine wpAny_bind (wpAny_field gz rfl (x:=.bool false) rfl ?_);show wpAny _ _ (field (.ref z) 3 >>= _) _ _ _
 refine wpAny_bind (wpAny_field gz rfl (x:=.ref TI) rfl ?_)
 refine wpAny_bind (wpAny_seqItems gI rfl ?_);show wpAny _ _ (Builtin.SmallTypes.ownedTupleIsFree (.ref z) >>= _) _ _ _
 refine wpAny_bind ?_;unfold Builtin.SmallTypes.ownedTupleIsFree
 refine wpAny_bind (wpAny_field gz rfl (x:=.none) rfl (wpAny_pure ?_));simp only[if_true]
 refine wpAny_bind (wpAny_rule ?_);refine wpAny_bind (wpAny_field gz rfl (x:=.ref TO) rfl ?_)
 refine wpAny_bind (wpAny_setField_rec gz (by simp) λh₁ gz₁ q₁=>?_)
 replace gz₁:IsZip h₁ z TI TO .ellipsis:=gz₁
 refine wpAny_bind ?_;simp only[List.zipIdx_cons,List.zipIdx_nil,List.forIn_cons,List.forIn_nil]
 refine wpAny_bind (wpAny_bind (wpAny_onRaise ?_));show wpAny _ _ (Builtin.SmallTypes.nextOf (.ref i1) >>= _) _ _ _
 refine wpAny_bind (wpAny_nextOf_list_item (n1.extBut q₁.extBut D.a3) (m1.extBut q₁.extBut lz1) ex λh₂ n1₂ q₂=>wpAny_pure ?_)
 have gO₂:zcW h₂ TO a b c:=q₂.extBut _ _ D.c1 (q₁.extBut _ _ D.a2 gO)
 refine wpAny_bind (wpAny_seqItems gO₂ rfl ?_)
 refine wpAny_bind (zlF gO₂ λh₃ gO₃ q₃=>?_)
 replace gO₃:zcW h₃ TO x b c:=gO₃
 refine wpAny_bind (wpAny_letGo (wpAny_pure ?_))
 refine wpAny_bind (wpAny_bind (wpAny_onRaise ?_));show wpAny _ _ (Builtin.SmallTypes.nextOf (.ref i2) >>= _) _ _ _
 refine wpAny_bind (wpAny_nextOf_list_item (((n2.extBut q₁.extBut D.a4).extBut q₂.extBut D.d12.symm).extBut q₃.extBut D.c2.symm)
  (((m2.extBut q₁.extBut lz2).extBut q₂.extBut li21).extBut q₃.extBut lO2) ey λh₄ n2₄ q₄=>wpAny_pure ?_)
 have gO₄:zcW h₄ TO x b c:=q₄.extBut _ _ D.c2 gO₃
 refine wpAny_bind (wpAny_seqItems gO₄ rfl ?_)
 refine wpAny_bind (zlF gO₄ λh₅ gO₅ q₅=>?_)
 replace gO₅:zcW h₅ TO x y c:=gO₅
 refine wpAny_bind (wpAny_letGo (wpAny_pure ?_))
 refine wpAny_bind (wpAny_bind (wpAny_onRaise ?_));show wpAny _ _ (Builtin.SmallTypes.nextOf (.ref i3) >>= _) _ _ _
 refine wpAny_bind (wpAny_nextOf_list_item (((((n3.extBut q₁.extBut D.a5).extBut q₂.extBut D.d13.symm).extBut q₃.extBut D.c3.symm).extBut q₄.extBut D.d23.symm).extBut q₅.extBut D.c3.symm)
  (((((m3.extBut q₁.extBut lz3).extBut q₂.extBut li31).extBut q₃.extBut lO3).extBut q₄.extBut li32).extBut q₅.extBut lO3) ev λh₆ n3₆ q₆=>wpAny_pure ?_)
 have gO₆:zcW h₆ TO x y c:=q₆.extBut _ _ D.c3 gO₅
 refine wpAny_bind (wpAny_seqItems gO₆ rfl ?_)
 refine wpAny_bind (zlF gO₆ λh₇ gO₇ q₇=>?_)
 replace gO₇:zcW h₇ TO x y v:=gO₇
 refine wpAny_bind (wpAny_letGo (wpAny_pure (wpAny_pure ?_)))
 refine wpAny_bind (wpAny_seqItems gO₇ rfl ?_)
 refine wpAny_bind (wpAny_newTuple ?_)
 have sz:h₇.objs.size=s.heap.objs.size:=by rw[q₇.1,q₆.1,q₅.1,q₄.1,q₃.1,q₂.1,q₁.1]
 have gz₇:IsZip h₇ z TI TO .ellipsis:=q₇.extBut _ _ D.a2.symm (q₆.extBut _ _ D.a5.symm (q₅.extBut _ _ D.a2.symm (q₄.extBut _ _ D.a4.symm (q₃.extBut _ _ D.a2.symm (q₂.extBut _ _ D.a3.symm gz₁)))))
 have kp:∀t o,t∉[z,TO,i1,i2,i3]→s.heap.get? t=some o→h₇.get? t=some o:=λt o ht e=>by
  simp only[ψv,ψp,or_false,not_or] at ht
  obtain⟨t1,t2,t3,t4,t5⟩:=ht
  exact q₇.extBut _ _ t2 (q₆.extBut _ _ t5 (q₅.extBut _ _ t2 (q₄.extBut _ _ t4 (q₃.extBut _ _ t2 (q₂.extBut _ _ t3 (q₁.extBut _ _ t1 e))))))
 have n1₇:h₇.IsListIter i1 l1 (k+1):=((((n1₂.extBut q₃.extBut D.c1.symm).extBut q₄.extBut D.d12).extBut q₅.extBut D.c1.symm).extBut q₆.extBut D.d13).extBut q₇.extBut D.c1.symm
 have n2₇:h₇.IsListIter i2 l2 (k+1):=((n2₄.extBut q₅.extBut D.c2.symm).extBut q₆.extBut D.d23).extBut q₇.extBut D.c2.symm
 have n3₇:h₇.IsListIter i3 l3 (k+1):=n3₆.extBut q₇.extBut D.c3.symm
 have zlt:z<h₇.objs.size:=Heap.lt_size gz₇
 show wpAny _ _ (Builtin.SmallTypes.ownedTupleHandOut (.ref z) (.ref h₇.objs.size) >>= _) _ _ _;refine wpAny_bind ?_;unfold Builtin.SmallTypes.ownedTupleHandOut
 have gz₈:IsZip (h₇.push { cls:=.type "tuple",data:=.seq #[x,y,v] }) z TI TO .ellipsis:=Heap.get?_push_of_some _ gz₇
 refine wpAny_bind (wpAny_setField_rec gz₈ (by simp) λh₉ gz₉ q₉=>?_)
 replace gz₉:IsZip h₉ z TI TO (rawInt h₇.objs.size):=gz₉
 refine wpAny_setField_rec gz₉ (by simp) λhA gzA qA=>?_
 replace gzA:IsZip hA z TI TO (rawInt h₇.objs.size):=gzA
 have up:∀t o,t≠z→h₇.get? t=some o→hA.get? t=some o:=λt o t1 e=>qA.extBut _ _ t1 (q₉.extBut _ _ t1 (Heap.get?_push_of_some _ e))
 have gT:zcW hA h₇.objs.size x y v:=qA.extBut _ _ (ψD1 zlt) (q₉.extBut _ _ (ψD1 zlt) (Heap.get?_push_size _ rfl))
 have szA:hA.objs.size=h₇.objs.size+1:=by rw[qA.1,q₉.1,Heap.size_push]
 rw[sz] at gzA gT szA
 refine wpAny_pure ⟨_,rfl,?_⟩;show R (.ref h₇.objs.size) _;rw[sz]
 exact q hA gzA (up _ _ D.a2 gO₇) (n1₇.at λo e=>up _ o D.a3 e) (n2₇.at λo e=>up _ o D.a4 e) (n3₇.at λo e=>up _ o D.a5 e) gT szA λt o ht e=>up t o (λh=>ht (by simp[h])) (kp t o ht e)
theorem zyh{z TI TO i1 i2 i3 l1 l2 l3:Addr}{k:Nat}{xs:Array Value}{R:Fin→Shared→Prop}(hh:A.handled=none)(D:zjY z TI TO i1 i2 i3 l1 l2 l3)
  (gz:IsZip s.heap z TI TO .none) (gI:zcW s.heap TI (.ref i1) (.ref i2) (.ref i3)) (n1:s.heap.IsListIter i1 l1 k) (m1:s.heap.IsList l1 xs) (ex:xs[k]?=none)
  (q:∀h' e,(∀t o,t∉[z,TO,i1,i2,i3]→s.heap.get? t=some o→h'.get? t=some o)→(∃o,h'.get? e=some o∧o.cls=.type "StopIteration")→E (.ref e) { s with heap:=h' }) :
  wpAny (model P w) A (Builtin.«zip.__next__» ⟨[.ref z],[]⟩) R E s:=by
 have lz1:=D.e1 z (by simp)
 show wpAny _ _ (field (.ref z) 2 >>= _) _ _ _;refine wpAny_bind (wpAny_field gz rfl (x:=.bool false) rfl ?_);show wpAny _ _ (field (.ref z) 3 >>= _) _ _ _
 refine wpAny_bind (wpAny_field gz rfl (x:=.ref TI) rfl ?_)
 refine wpAny_bind (wpAny_seqItems gI rfl ?_);show wpAny _ _ (Builtin.SmallTypes.ownedTupleIsFree (.ref z) >>= _) _ _ _
 refine wpAny_bind ?_;unfold Builtin.SmallTypes.ownedTupleIsFree
 refine wpAny_bind (wpAny_field gz rfl (x:=.none) rfl (wpAny_pure ?_));simp only[if_true]
 refine wpAny_bind (wpAny_rule ?_);refine wpAny_bind (wpAny_field gz rfl (x:=.ref TO) rfl ?_)
 refine wpAny_bind (wpAny_setField_rec gz (by simp) λh₁ gz₁ q₁=>?_)
 replace gz₁:IsZip h₁ z TI TO .ellipsis:=gz₁
 refine wpAny_bind ?_;simp only[List.zipIdx_cons,List.zipIdx_nil,List.forIn_cons,List.forIn_nil]
 refine wpAny_bind (wpAny_bind (wpAny_onRaise ?_));show wpAny _ _ (Builtin.SmallTypes.nextOf (.ref i1) >>= _) _ _ _
 refine wpAny_bind (wpAny_nextOf_list_end hh (n1.extBut q₁.extBut D.a3) (m1.extBut q₁.extBut lz1) ex λh₂ e q₂ he=>?_)
 obtain⟨oe,g1,g2⟩:=he
 have gz₂:IsZip h₂ z TI TO .ellipsis:=q₂ _ _ D.a3.symm gz₁
 have nz:e≠z:=λx=>by subst x;rw[gz₂] at g1;cases g1;simp at g2
 refine wpAny_setField_rec gz₂ (by simp) λh₃ _ q₃=>q h₃ e (λt o ht x=>?_) ⟨oe,q₃.extBut _ _ nz g1,g2⟩
 have t1:t≠z:=λh=>ht (by simp[h])
 have t3:t≠i1:=λh=>ht (by simp[h])
 exact q₃.extBut _ _ t1 (q₂ _ _ t3 (q₁.extBut _ _ t1 x))
theorem zpN{z TI TO i1 i2 i3 l1 l2 l3:Addr}{k:Nat}{xs ys vs:Array Value}{x y v a b c:Value}{R:Option Value→Shared→Prop}(D:zjY z TI TO i1 i2 i3 l1 l2 l3)
  (gz:IsZip s.heap z TI TO .none) (gI:zcW s.heap TI (.ref i1) (.ref i2) (.ref i3)) (gO:zcW s.heap TO a b c)
  (n1:s.heap.IsListIter i1 l1 k) (n2:s.heap.IsListIter i2 l2 k) (n3:s.heap.IsListIter i3 l3 k) (m1:s.heap.IsList l1 xs) (m2:s.heap.IsList l2 ys) (m3:s.heap.IsList l3 vs) (ex:xs[k]?=some x) (ey:ys[k]?=some y) (ev:vs[k]?=some v)
  (q:∀h',IsZip h' z TI TO (rawInt s.heap.objs.size)→zcW h' TO x y v→h'.IsListIter i1 l1 (k+1)→h'.IsListIter i2 l2 (k+1)→h'.IsListIter i3 l3 (k+1)→zcW h' s.heap.objs.size x y v→h'.objs.size=s.heap.objs.size+1 →
   (∀t o,t∉[z,TO,i1,i2,i3]→s.heap.get? t=some o→h'.get? t=some o)→R (some (.ref s.heap.objs.size)) { s with heap:=h' }) :
  wpAny (model P w) A (pyNext (.ref z)) R E s:=by
 have ty:s.TypeIs (.ref z) "zip":=⟨_,gz,rfl⟩
 unfold pyNext
 exact wpAny_bind (wpAny_attempt (wpAny_callSpecial?_slot (name:=Str.ofString "__next__") ty F.slot_zip_next (wpAny_call_entry F.slot_zip_next ty F.entry_zip_next
  (zuC D gz gI gO n1 n2 n3 m1 m2 m3 ex ey ev λh' a1 a2 a3 a4 a5 a6 a7 a8=>wpAny_pure (q h' a1 a2 a3 a4 a5 a6 a7 a8)) (F.args_zip_next_1 _))))
theorem zsp{z TI TO i1 i2 i3 l1 l2 l3:Addr}{k:Nat}{xs:Array Value}{R:Option Value→Shared→Prop}(hh:A.handled=none)(D:zjY z TI TO i1 i2 i3 l1 l2 l3)
  (gz:IsZip s.heap z TI TO .none) (gI:zcW s.heap TI (.ref i1) (.ref i2) (.ref i3)) (n1:s.heap.IsListIter i1 l1 k) (m1:s.heap.IsList l1 xs) (ex:xs[k]?=none)
  (q:∀h',(∀t o,t∉[z,TO,i1,i2,i3]→s.heap.get? t=some o→h'.get? t=some o)→R none { s with heap:=h' }):wpAny (model P w) A (pyNext (.ref z)) R E s:=by
 have ty:s.TypeIs (.ref z) "zip":=⟨_,gz,rfl⟩
 unfold pyNext
 refine wpAny_bind (wpAny_attempt (wpAny_callSpecial?_slot (name:=Str.ofString "__next__") ty F.slot_zip_next (wpAny_call_entry F.slot_zip_next ty F.entry_zip_next (zyh hh D gz gI n1 m1 ex λh' e hk he=>?_) (F.args_zip_next_1 _))))
 obtain⟨o,h1,h2⟩:=he
 exact wpAny_bind (wpAny_isInstance (T:="StopIteration") (b:=true) ⟨o,h1,h2⟩ isSubtype_stop (wpAny_pure (q _ hk)))
theorem zqO(a b c:Value):checkTypeCall "zip" ⟨[a,b,c],[]⟩=pure ():=by kernel_rfl
theorem ztM(a b c:Value):checkBuiltinCall "zip.__new__" ⟨[.type "zip",a,b,c],[]⟩=pure ():=by kernel_rfl
theorem ztj(a b c d:Value):argsOk "object.__init__" ⟨[a,b,c,d],[]⟩:=by
 unfold argsOk;rw[signature?_of (id:="object.__init__") (n:="__tini__".toList) (o:="tcejbo".toList) (by kernel_rfl) F.owner_object];kernel_rfl
abbrev it0(l:Addr):Obj:={ cls:=.type "list_iterator",data:=.fields #[.ref l,.int 0 0] }
abbrev zh1(h:Heap)(l1:Addr):Heap:=h.push (it0 l1)
abbrev zh2(h:Heap)(l1 l2:Addr):Heap:=(zh1 h l1).push (it0 l2)
abbrev zh3(h:Heap)(l1 l2 l3:Addr):Heap:=(zh2 h l1 l2).push (it0 l3)
abbrev zh4(h:Heap)(l1 l2 l3:Addr):Heap:=(zh3 h l1 l2 l3).push { cls:=.type "tuple",data:=.seq #[.ref h.objs.size,.ref (zh1 h l1).objs.size,.ref (zh2 h l1 l2).objs.size] }
abbrev zh5(h:Heap)(l1 l2 l3:Addr):Heap:=(zh4 h l1 l2 l3).push { cls:=.type "tuple",data:=.seq #[.none,.none,.none] }
abbrev zh6(h:Heap)(l1 l2 l3:Addr):Heap:=(zh5 h l1 l2 l3).push { cls:=.type "zip",data:=.fields #[.none,.bool false,.bool false,.ref (zh3 h l1 l2 l3).objs.size,.ref (zh4 h l1 l2 l3).objs.size] }
theorem new3(l1 l2 l3:Addr)(xs ys vs:Array Value) :
  Meets (Builtin.«zip.__new__» ⟨[.type "zip",.ref l1,.ref l2,.ref l3],[]⟩) (λ_ R s=>s.heap.IsList l1 xs∧s.heap.IsList l2 ys∧s.heap.IsList l3 vs ∧
   R (.ok (.ret (.ref (zh5 s.heap l1 l2 l3).objs.size))) { s with heap:=zh6 s.heap l1 l2 l3 }) :=
 .of_wp λprog w A R s h=>by
  obtain⟨hp,g,d,tk,os⟩:=s;obtain⟨m1,m2,m3,h⟩:=h
  have hsub:=sub_zip
  have k1:Heap.IsList (Shared.heap ⟨hp,g,d,tk,os⟩) l1 xs:=m1
  have k2:Heap.IsList (Shared.heap ⟨hp.push { cls:=.type "list_iterator",data:=.fields #[.ref l1,.int 0 0] },g,d,tk,os⟩) l2 ys:=Heap.IsList.push m2 _
  have k3:Heap.IsList (Shared.heap ⟨(hp.push { cls:=.type "list_iterator",data:=.fields #[.ref l1,.int 0 0] }).push { cls:=.type "list_iterator",data:=.fields #[.ref l2,.int 0 0] },g,d,tk,os⟩) l3 vs:=Heap.IsList.push (Heap.IsList.push m3 _) _
  wp_walk using wpAny_pyIter_list k1,wpAny_pyIter_list k2,wpAny_pyIter_list k3
  exact⟨_,rfl,h⟩
theorem call3{l1 l2 l3:Addr}{xs ys vs:Array Value}{R:Value→Shared→Prop}(m1:s.heap.IsList l1 xs)(m2:s.heap.IsList l2 ys)(m3:s.heap.IsList l3 vs)
  (h:∀(h':Heap) (n:Nat),n=s.heap.objs.size→IsZip h' (n+5) (n+3) (n+4) .none→zcW h' (n+3) (.ref n) (.ref (n+1)) (.ref (n+2))→zcW h' (n+4) .none .none .none→h'.IsListIter n l1 0→h'.IsListIter (n+1) l2 0→h'.IsListIter (n+2) l3 0 →
   (∀c o,s.heap.get? c=some o→h'.get? c=some o)→R (.ref (n+5)) { s with heap:=h' }) :
  wpAny (model P w) A (call (.type "zip") [.ref l1,.ref l2,.ref l3]) R E s:=by
 refine callType_new F.called_zip (by decide) (zqO _ _ _) (ztM _ _ _) (λobj=>ztj obj _ _ _) F.entry_zip_new (new3 l1 l2 l3 xs ys vs) ⟨m1,m2,m3,?_⟩
 have z1:(zh1 s.heap l1).objs.size=s.heap.objs.size+1:=Heap.size_push ..
 have z2:(zh2 s.heap l1 l2).objs.size=s.heap.objs.size+2:=by rw[Heap.size_push,z1]
 have z3:(zh3 s.heap l1 l2 l3).objs.size=s.heap.objs.size+3:=by rw[Heap.size_push,z2]
 have z4:(zh4 s.heap l1 l2 l3).objs.size=s.heap.objs.size+4:=by rw[Heap.size_push,z3]
 have z5:(zh5 s.heap l1 l2 l3).objs.size=s.heap.objs.size+5:=by rw[Heap.size_push,z4]
 have on:∀{hh:Heap} {a:Addr} {o o':Obj},hh.get? a=some o→(hh.push o').get? a=some o:=λe=>Heap.get?_push_of_some _ e
 have y6:(zh6 s.heap l1 l2 l3).get? (zh5 s.heap l1 l2 l3).objs.size=some _:=Heap.get?_push_size _ rfl
 have y5:(zh6 s.heap l1 l2 l3).get? (zh4 s.heap l1 l2 l3).objs.size=some _:=on (Heap.get?_push_size _ rfl)
 have y4:(zh6 s.heap l1 l2 l3).get? (zh3 s.heap l1 l2 l3).objs.size=some _:=on (on (Heap.get?_push_size _ rfl))
 have y3:(zh6 s.heap l1 l2 l3).get? (zh2 s.heap l1 l2).objs.size=some _:=on (on (on (Heap.get?_push_size _ rfl)))
 have y2:(zh6 s.heap l1 l2 l3).get? (zh1 s.heap l1).objs.size=some _:=on (on (on (on (Heap.get?_push_size _ rfl))))
 have y1:(zh6 s.heap l1 l2 l3).get? s.heap.objs.size=some _:=on (on (on (on (on (Heap.get?_push_size _ rfl)))))
 show _∧_
 rw[z3,z4,z5] at y6
 rw[z4] at y5
 rw[z1,z2,z3] at y4
 rw[z2] at y3
 rw[z1] at y2
 rw[z5]
 exact⟨⟨_,y6,rfl⟩,h _ _ rfl y6 y4 y5 ⟨_,y1,rfl,rfl⟩ ⟨_,y2,rfl,rfl⟩ ⟨_,y3,rfl,rfl⟩ λc o x=>on (on (on (on (on (on x)))))⟩
end
end My3
namespace L2
open PySem PySem.Spec PyProof.Rows My3
def Itz3(K:ψa)(p q r:Addr):It where
 go:=λi H=>∃xs ys zs a b c,SqL K H p xs∧SqL K H q ys∧SqL K H r zs∧xs[i]?=some a∧ys[i]?=some b∧zs[i]?=some c
 yld:=λi H x H'=>∃t a b c,x=.ref t∧H t=none∧H'=upd H t (.tup [a,b,c])∧(∀xs,SqL K H p xs→xs[i]?=some a)∧(∀ys,SqL K H q ys→ys[i]?=some b)∧∀zs,SqL K H r zs→zs[i]?=some c
 stop:=λi H=>∃xs,SqL K H p xs∧i=xs.length
def tn3(z TI TO i1 i2 i3 p q r:Addr)(i:Nat)(h:Heap):Prop:=IsZip h z TI TO .none∧zcW h TI (.ref i1) (.ref i2) (.ref i3)∧(∃a b c,zcW h TO a b c)∧h.IsListIter i1 p i∧h.IsListIter i2 q i∧h.IsListIter i3 r i
theorem ztH{z TI TO i1 i2 i3 p q r:Addr}{i:Nat}{h h':Heap}(st:tn3 z TI TO i1 i2 i3 p q r i h)(k:∀b∈[z,TI,TO,i1,i2,i3],∀o,h.get? b=some o→h'.get? b=some o):tn3 z TI TO i1 i2 i3 p q r i h':=by
 obtain⟨a1,a2,⟨x,y,v,a3⟩,a4,a5,a6⟩:=st
 exact⟨k z (by simp) _ a1,k TI (by simp) _ a2,⟨x,y,v,k TO (by simp) _ a3⟩,a4.at λo e=>k i1 (by simp) o e,a5.at λo e=>k i2 (by simp) o e,a6.at λo e=>k i3 (by simp) o e⟩
theorem zmX{z TI TO i1 i2 i3 p q r:Addr}{i:Nat}{h:Heap}(st:tn3 z TI TO i1 i2 i3 p q r i h):∀b∈[z,TI,TO,i1,i2,i3],∃o,h.get? b=some o∧∀v,o.data≠.cell v:=λb hb=>by
 obtain⟨a1,a2,⟨x,y,v,a3⟩,⟨o4,a4,_,d4⟩,⟨o5,a5,_,d5⟩,⟨o6,a6,_,d6⟩⟩:=st
 simp only[ψv,ψp,or_false] at hb
 rcases hb with rfl | rfl | rfl | rfl | rfl | rfl
 ·exact⟨_,a1,zb6 rfl⟩
 ·exact⟨_,a2,λv z=>nomatch (show Data.seq _ _=Data.cell v from z)⟩
 ·exact⟨_,a3,λv z=>nomatch (show Data.seq _ _=Data.cell v from z)⟩
 ·exact⟨_,a4,zb6 d4⟩
 ·exact⟨_,a5,zb6 d5⟩
 ·exact⟨_,a6,zb6 d6⟩
theorem zs7{P:Program}{w:World}{K:ψa}{elts:List Expr}{k:Nat}{pos:Pos}{z TI TO i1 i2 i3 p q r:Addr}(D:zjY z TI TO i1 i2 i3 p q r):zxS P w K (.Tuple elts k pos) (Itz3 K p q r) [z,TI,TO,i1,i2,i3] z (tn3 z TI TO i1 i2 i3 p q r) where
 mem:=by simp
 obj:=λi h st=>zmX st
 keep:=λi h h' st kk=>ztH st kk
 item:=by
  intro X hP hw hK hc i pins s σ H E I hf st hg
  subst hP hw hK
  obtain⟨xs,ys,zs,a,b,c,hx,hy,hz,ea,eb,ec⟩:=hg
  obtain⟨its1,r1,pl1,z1⟩:=I.list hx
  obtain⟨its2,r2,pl2,z2⟩:=I.list hy
  obtain⟨its3,r3,pl3,z3⟩:=I.list hz
  obtain⟨ua,eua,rua⟩:=r1.get ea
  obtain⟨ub,eub,rub⟩:=r2.get eb
  obtain⟨uc,euc,ruc⟩:=r3.get ec
  have there:=zmX st
  obtain⟨s1,s2,⟨x0,y0,v0,s3⟩,s4,s5,s6⟩:=st
  refine zpN D s1 s2 s3 s4 s5 s6 pl1.isList pl2.isList pl3.isList (by simpa using eua) (by simpa using eub) (by simpa using euc) λh' a1 a2 a3 a4 a5 aT asz kk=>⟨_,rfl,?_⟩
  refine wpAny_letOwnedTupleGo_zip a1 λh2 gz2 q2=>?_
  have sub:∀b∈[z,TO,i1,i2,i3],b∈[z,TI,TO,i1,i2,i3]:=λb hb=>by
   simp only[ψv,ψp,or_false] at hb ⊢
   rcases hb with h | h | h | h | h <;> simp[h]
  have I1:Inv X pins σ H { s with heap:=h2 }:=I.turns (t':=s.toks) (ch:=[z,TO,i1,i2,i3]) (λb o hb e=>q2.extBut _ _ (λx=>hb (by simp[x])) (kk b o hb e)) λb hb=>hf b (sub b hb)
  have hT:s.heap.objs.size≤s.heap.objs.size:=ψh _
  have nT:H s.heap.objs.size=none:=I.hok.fresh hT
  have zT:s.heap.objs.size≠z:=ψD1 (Heap.lt_size s1)
  have I2:=I1.track (a:=s.heap.objs.size) (o:=.tup [a,b,c]) nT (Heap.get?_none_of_le (ψE I.sz hT)) (ψD1 (ψj I.lt hT)) (λx c e=>by
   obtain⟨v,q⟩:=I.cell x c e
   exact ψl (ψj q.lt hT)) (λp hp=>ψl (ψj (Heap.lt_size (I.pin p hp).1) hT)) (by
   refine⟨by show 3≤sizeLine;decide,[ua,ub,uc],.cons rua (.cons rub (.cons ruc .nil)),?_⟩
   exact⟨_,q2.extBut _ _ zT aT,rfl,_,rfl⟩)
  refine⟨.ref s.heap.objs.size,_,I2,rfl,⟨s.heap.objs.size,a,b,c,rfl,nT,rfl,λxs' h'=>?_,λys' h'=>?_,λzs' h'=>?_⟩,?_,λb hb=>?_⟩
  ·rw[I.list_inj h' hx];exact ea
  ·rw[I.list_inj h' hy];exact eb
  ·rw[I.list_inj h' hz];exact ec
  ·have nTI:TI∉[z,TO,i1,i2,i3]:=by
    simp only[ψv,ψp,or_false,not_or]
    exact⟨D.a1,D.b0,D.b1,D.b2,D.b3⟩
   exact⟨gz2,q2.extBut _ _ D.a1 (kk _ _ nTI s2),⟨_,_,_,q2.extBut _ _ D.a2 a2⟩,a3.extBut q2.extBut D.a3,a4.extBut q2.extBut D.a4,a5.extBut q2.extBut D.a5⟩
  ·obtain⟨o,e,_⟩:=there b hb
   rw[zaS (ψl (ψj (Heap.lt_size e) hT))]
   exact(hf b hb).1
 done:=by
  intro X hP hw hK hc i pins s σ H E I hf st hg
  subst hP hw hK
  obtain⟨xs,hx,rfl⟩:=hg
  obtain⟨its1,r1,pl1,z1⟩:=I.list hx
  obtain⟨s1,s2,s3,s4,s5,s6⟩:=st
  have sub:∀b∈[z,TO,i1,i2,i3],b∈[z,TI,TO,i1,i2,i3]:=λb hb=>by
   simp only[ψv,ψp,or_false] at hb ⊢
   rcases hb with h | h | h | h | h <;> simp[h]
  refine zsp (I.ok.hd hc) D s1 s2 s4 pl1.isList (by rw[r1.length];simp) λh' kk=>⟨rfl,I.turns (t':=s.toks) (ch:=[z,TO,i1,i2,i3]) (λb o hb e=>kk b o hb e) λb hb=>hf b (sub b hb)⟩
 self:=λA i s Q E st h=>wpAny_pyIter_zip st.1 h
def zvt(K:ψa)(ta:TA):TI:=λσ H R=>ta σ H λvs H1=>∃p q r,vs=[.ref p,.ref q,.ref r]∧(∃xs,SqL K H1 p xs)∧(∃ys,SqL K H1 q ys)∧(∃zs,SqL K H1 r zs)∧R (Itz3 K p q r) H1
theorem vals3{a b c:V}{us:List Value}(r:zcH [a,b,c] us):∃u v w,us=[u,v,w]∧zee a u∧zee b v∧zee c w:=by
 cases r with
 | cons r1 r=>cases r with
  | cons r2 r=>cases r with
   | cons r3 r=>cases r;exact⟨_,_,_,rfl,r1,r2,r3⟩
theorem zha(n:Nat){a b:Nat}(h:a≠b):n+a≠n+b:=by (first|lia|omega)
theorem zjN(n:Nat){b:Nat}(h:0<b):n≠n+b:=by (first|lia|omega)
theorem zsh{n l:Nat}(h:l<n):∀b∈[n+5,n+4,n,n+1,n+2],l≠b:=λb hb=>by
 simp only[ψv,ψp,or_false] at hb
 (first|lia|omega)
theorem zpU{n l1 l2 l3:Nat}(h1:l1<n)(h2:l2<n)(h3:l3<n):zjY (n+5) (n+3) (n+4) n (n+1) (n+2) l1 l2 l3 :=
 ⟨zha n (by decide),zha n (by decide),zjN n (by decide),zha n (by decide),zha n (by decide),zha n (by decide),(zjN n (by decide)).symm,zha n (by decide),zha n (by decide),(zjN n (by decide)).symm,zha n (by decide),zha n (by decide),zjN n (by decide),zjN n (by decide),zha n (by decide),zsh h1,zsh h2,zsh h3⟩
theorem zta{X:Cx}{a b c:Expr}{elts:List Expr}{k:Nat}{tp p pos:Pos}{ta:TA}(hg:Gl X "zip")(hm:X.mg "zip"=none)(ha:PA X [a,b,c] ta)(hs:starEach [a,b,c] X.env=[(false,eval a X.env),(false,eval b X.env),(false,eval c X.env)]:=by rfl)(hs2:starEach [b,c] X.env=[(false,eval b X.env),(false,eval c X.env)]:=by rfl) :
  PI X (.Tuple elts k tp) (.Call (.Name "zip" p) [a,b,c] [] pos) (zvt X.K ta):=by
 intro pins s σ H R I h
 refine Call_ (zid I hg hm boot_zip (ψj1 (thn (ha pos pins s σ H _ I h) λus s1 hQ'=>?_) (by rw[hs,hs2]) (by rw[hs2];rfl)))
 obtain⟨vs,H1,I1,r1,q1⟩:=hQ'
 obtain⟨p1,p2,p3,rfl,⟨xs,hx⟩,⟨ys,hy⟩,⟨zs,hz⟩,q⟩:=q1
 obtain⟨u,v,w,rfl,ru,rv,rw'⟩:=vals3 r1
 cases ru
 cases rv
 cases rw'
 obtain⟨its1,_,pl1,_⟩:=I1.list hx
 obtain⟨its2,_,pl2,_⟩:=I1.list hy
 obtain⟨its3,_,pl3,_⟩:=I1.list hz
 have a1:p1<s1.heap.objs.size:=by obtain⟨_,e,_⟩:=pl1.isList;exact Heap.lt_size e
 have a2:p2<s1.heap.objs.size:=by obtain⟨_,e,_⟩:=pl2.isList;exact Heap.lt_size e
 have a3:p3<s1.heap.objs.size:=by obtain⟨_,e,_⟩:=pl3.isList;exact Heap.lt_size e
 refine call3 pl1.isList pl2.isList pl3.isList λh' n hn gz gI gO n1 n2 n3 hk=>?_
 refine wpAny_pyIter_zip gz ?_
 have D:zjY (n+5) (n+3) (n+4) n (n+1) (n+2) p1 p2 p3:=zpU (by rw[hn];exact a1) (by rw[hn];exact a2) (by rw[hn];exact a3)
 refine⟨_,_,_,_,H1,rfl,I1.kept (t':=s1.toks) hk,zs7 D,⟨gz,gI,⟨_,_,_,gO⟩,n1,n2,n3⟩,λb hb=>?_,q⟩
 have hb':s1.heap.objs.size≤b:=by
  rw[← hn]
  simp only[ψv,ψp,or_false] at hb
  rcases hb with h | h | h | h | h | h <;> rw[h] <;> first | exact ψh _ | exact ψT1 _ _
 exact I1.fpOk hb' (I1.hok.fresh hb')
end L2
namespace L2
open PySem PySem.Spec PyProof.Rows
section
variable {X:Cx}
def zxO(K:ψa):List V→Hp→VK→Prop:=λxs H Q=>∃(p:Addr) (ns:List Int),xs=[.ref p]∧SqL K H p (ns.map V.int)∧0<ns.length∧∀m,m∈ns→(∀a∈ns,a≤m)→Q (.int m) H
theorem zys{ns:List Int}{i:Nat}(h:i<ns.length):ns.getD i 0∈ns:=by
 rw[ziq h]
 exact ψA1 h
theorem zx4{ns:List Int}{a:Int}(h:a∈ns):∃i,i<ns.length∧a=ns.getD i 0:=by
 obtain⟨i,hi,e⟩:=List.getElem_of_mem h
 exact⟨i,hi,by rw[ziq hi,e]⟩
theorem zsy(hc:X.calm=true):zjM X (.builtin "max") (zxO X.K):=by
 intro pins s σ H xs us Q I r h
 obtain⟨p,ns,rfl,hl,hn,q⟩:=h
 obtain⟨u,rfl,ru⟩:=r.one
 cases ru
 obtain⟨its,rv,pl,_⟩:=I.list hl
 have l:=rv.length
 rw[ψb] at l
 obtain⟨o,n,e,_⟩:=id pl
 have hlt:=Heap.lt_size e
 have hne:p≠s.heap.objs.size:=ψl hlt
 refine call_max_walk (wpAny_pyIter_list pl.isList ?_)
 refine⟨s.heap.objs.size,_,_,_,_,_,_,rfl,Walks.list (A:=X.A.in1) (I.ok.hd hc) _ p hne its.toArray,⟨⟨_,Heap.get?_push_size _ rfl,rfl,rfl⟩,?_⟩,λb hb=>?_,by rw[ψf];(first|lia|omega),CmpOf.ints_gt (λi=>ns.getD i 0) (λi v hv=>znG rv hv),λv h' tk hv hk=>?_⟩
 ·exact pl.isList.at λo e=>Heap.get?_push_of_some _ e
 ·rw[Heap.size_push]
  rcases List.mem_cons.mp hb with z | z
  ·rw[z];exact ψS1 _
  ·have z':b=p:=by simpa using z
   rw[z'];exact ψF1 hlt
 ·obtain⟨t,rfl⟩:=znG rv hv
  obtain⟨b1,b2⟩:=argBest_gt (λi=>ns.getD i 0) (its.toArray.size - 1)
  rw[ψf] at b1 b2
  refine⟨.int _,H,I.kept λb u eb=>hk b u (λz=>ψl (Heap.lt_size eb) (by simpa using z)) (Heap.get?_push_of_some _ eb),⟨t,rfl⟩,q _ (zys (by rw[ψf];(first|lia|omega))) λa ha=>?_⟩
  obtain⟨j,hj,rfl⟩:=zx4 ha
  exact b2 j (by (first|lia|omega))
end
end L2
namespace L2
open PySem PySem.Spec PyProof.Rows
def tRev(K:ψa)(te:TE)(tk:TO):TE:=λσ H Q=>te σ H λx H1=>tk σ H1 λk H2=>k=some (-1)∧∃a xs,x=.ref a∧SqL K H2 a xs∧∀p,H2 p=none→Q (.ref p) (upd H2 p (.lst xs.reverse))
section
variable {X:Cx} {e:Expr} {te:TE} {st:Expr} {tk:TO} {p2 pos:Pos}
theorem zyP(he:PE X e te)(hk:PO X (some st) tk):PE X (.Subscript e (.Slice none none (some st) p2) pos) (tRev X.K te tk):=by
 intro pins s σ H Q I h
 refine Subscript_ (thn (he pins s σ H _ I h) λv s1 hQ'=>?_)
 obtain⟨x,H1,I1,r1,q1⟩:=hQ'
 refine wpAny_Slice ?_
 rw[evalPart_none]
 refine wpAny_pure (wpAny_pure (thn (hk pins s1 σ H1 _ I1 q1) λvk s3 hQ'=>?_))
 obtain⟨k,H3,I3,pk,q3⟩:=hQ'
 obtain⟨rfl,a,xs,rfl,hx,q⟩:=q3
 cases r1
 have I4:Inv X pins σ H3 { s3 with heap:=s3.heap.push { cls:=.type "slice",data:=.fields #[.none,.none,vk] } }:=I3.kept (t':=s3.toks) λb ob q=>Heap.get?_push_of_some _ q
 obtain⟨its,r,ht,hz⟩:=I4.list hx
 have hlen:=r.length
 refine tail_any (ops:=[.ref a,.ref s3.heap.objs.size]) ht.isList.typeIs slot_list_getitem.lookup ?_ (by with_unfolding_all rfl)
 refine wpAny_getItem_list_slice ht.isList (Heap.IsSliceOf.new ..) .none .none pk (by decide) ?_ (by rw[ψf] <;> (first|lia|omega))
 rw[PySem.W.krv_pick]
 refine⟨.ref _,_,I4.laid (t':=s3.toks) (o:=.lst xs.reverse) (λb ob q=>Heap.get?_push_of_some _ q) (ψh _) ?_,rfl,q _ (I4.hok.fresh (ψh _))⟩
 exact⟨by rw[List.length_reverse];exact hz,_,0,r.reverse,Heap.get?_push_size _ rfl⟩
end
end L2
namespace L2
open PySem PySem.Spec PyProof.Rows
theorem zur:bootBuiltins "enumerate"=some (.type "enumerate"):=by decide +kernel
def Ite(K:ψa)(p:Addr):It where
 go:=λi H=>∃xs a,SqL K H p xs∧xs[i]?=some a
 yld:=λi H x H'=>∃t a,x=.ref t∧H t=none∧H'=upd H t (.tup [.int (i:Int),a])∧∀xs,SqL K H p xs→xs[i]?=some a
 stop:=λi H=>∃xs,SqL K H p xs∧i=xs.length
def tnE(e it p:Addr)(i:Nat)(h:Heap):Prop:=(∃old,IsEnum h e it i old)∧h.IsListIter it p i
theorem zmJ{e it p:Addr}{i:Nat}{h:Heap}(st:tnE e it p i h):∀b∈[e,it],∃o,h.get? b=some o∧∀v,o.data≠.cell v:=λb hb=>by
 obtain⟨⟨old,a1⟩,⟨o2,a2,_,d2⟩⟩:=st
 simp only[ψv,ψp,or_false] at hb
 rcases hb with rfl | rfl
 ·exact⟨_,a1,zb6 rfl⟩
 ·exact⟨_,a2,zb6 d2⟩
theorem zqJ{P:Program}{w:World}{K:ψa}{elts:List Expr}{k:Nat}{pos:Pos}{e it p:Addr}(d1:e≠it)(d2:p≠e)(d3:p≠it):zxS P w K (.Tuple elts k pos) (Ite K p) [e,it] e (tnE e it p) where
 mem:=by simp
 obj:=λi h st=>zmJ st
 keep:=λi h h' st kk=>by
  obtain⟨⟨old,a1⟩,a2⟩:=st
  exact⟨⟨old,kk e (by simp) _ a1⟩,a2.at λo x=>kk it (by simp) o x⟩
 item:=by
  intro X hP hw hK hc i pins s σ H E I hf st hg
  subst hP hw hK
  obtain⟨xs,a,hx,ea⟩:=hg
  obtain⟨its,r1,pl1,z1⟩:=I.list hx
  obtain⟨ua,eua,rua⟩:=r1.get ea
  have there:=zmJ st
  obtain⟨s1,s2⟩:=st
  have W:=WalksT.enumerate (prog:=X.prog) (w:=X.w) (A:=X.A) (I.ok.hd hc) e it p d1 d2 d3 its.toArray
  have hi:i<its.toArray.size:=by
   have h1:=(List.getElem?_eq_some_iff.mp eua).1
   rw[ψf]
   exact h1
  refine W.item i s _ _ hi ⟨s1,s2,pl1.isList⟩ λT vals h' tk hp hT hTup mid kk=>⟨_,rfl,?_⟩
  obtain⟨t,u,e1,rfl⟩:=hp
  have e1':u=ua:=by
   have:its[i]?=some u:=by simpa using e1
   rw[eua] at this;cases this;rfl
  subst e1'
  refine W.go elts k pos i T { s with heap:=h',toks:=tk } _ _ mid λh2 st2 kk2=>?_
  obtain⟨t1,t2,_⟩:=st2
  have I1:Inv X pins σ H { s with heap:=h2,toks:=tk }:=I.turns (ch:=[e,it]) (λb o hb q=>kk2 b o hb (kk b o hb q)) λb hb=>hf b hb
  have nT:H T=none:=I.hok.fresh hT
  have I2:=I1.track (a:=T) (o:=.tup [.int (i:Int),a]) nT (Heap.get?_none_of_le (ψE I.sz hT)) (ψD1 (ψj I.lt hT)) (λx c q=>by
   obtain⟨v,z⟩:=I.cell x c q
   exact ψl (ψj z.lt hT)) (λy hy=>ψl (ψj (Heap.lt_size (I.pin y hy).1) hT)) (by
   refine⟨by show 2≤sizeLine;decide,[.int i t,u],.cons ⟨t,rfl⟩ (.cons rua .nil),?_⟩
   obtain⟨o,ho,hcl,hd⟩:=hTup
   exact⟨o,kk2 T o (W.apart i T h' mid) ho,hcl,hd⟩)
  refine⟨.ref T,_,I2,rfl,⟨T,a,rfl,nT,rfl,λxs' h'=>?_⟩,⟨t1,t2⟩,λb hb=>?_⟩
  ·rw[I.list_inj h' hx];exact ea
  ·obtain⟨o,q,_⟩:=there b hb
   rw[zaS (ψl (ψj (Heap.lt_size q) hT))]
   exact(hf b hb).1
 done:=by
  intro X hP hw hK hc i pins s σ H E I hf st hg
  subst hP hw hK
  obtain⟨xs,hx,rfl⟩:=hg
  obtain⟨its,r1,pl1,z1⟩:=I.list hx
  obtain⟨s1,s2⟩:=st
  have W:=WalksT.enumerate (prog:=X.prog) (w:=X.w) (A:=X.A) (I.ok.hd hc) e it p d1 d2 d3 its.toArray
  refine W.done s _ _ ?_ λh' tk kk=>⟨rfl,I.turns (ch:=[e,it]) (λb o hb q=>kk b o hb q) λb hb=>hf b hb⟩
  rw[ψf,← r1.length]
  exact⟨s1,s2,pl1.isList⟩
 self:=λA i s Q E st h=>by
  obtain⟨⟨old,a1⟩,_⟩:=st
  exact wpAny_pyIter_enum a1 h
def zx1(K:ψa)(ta:TA):TI:=λσ H R=>ta σ H λvs H1=>∃p,vs=[.ref p]∧(∃xs,SqL K H1 p xs)∧R (Ite K p) H1
theorem zxd{X:Cx}{a:Expr}{elts:List Expr}{k:Nat}{tp p pos:Pos}{ta:TA}(hg:Gl X "enumerate")(hm:X.mg "enumerate"=none)(ha:PA X [a] ta)(hs:starEach [a] X.env=[(false,eval a X.env)]:=by rfl) :
  PI X (.Tuple elts k tp) (.Call (.Name "enumerate" p) [a] [] pos) (zx1 X.K ta):=by
 intro pins s σ H R I h
 refine Call_ (zid I hg hm zur (ψj1 (thn (ha pos pins s σ H _ I h) λus s1 hQ'=>?_) (by rw[hs];rfl) rfl))
 obtain⟨vs,H1,I1,r1,q1⟩:=hQ'
 obtain⟨p1,rfl,⟨xs,hx⟩,q⟩:=q1
 obtain⟨u,rfl,ru⟩:=r1.one
 cases ru
 obtain⟨its,_,pl1,_⟩:=I1.list hx
 have a1:p1<s1.heap.objs.size:=by obtain⟨_,e,_⟩:=pl1.isList;exact Heap.lt_size e
 refine call_enumerate_list pl1.isList λh' he hi hsz hk=>?_
 refine wpAny_pyIter_enum he ?_
 refine⟨_,_,_,_,H1,rfl,I1.kept (t':=s1.toks) hk,zqJ (Nat.succ_ne_self _) (ψl (ψF1 a1)) (ψl a1),⟨⟨_,he⟩,hi⟩,λb hb=>?_,q⟩
 have hb':s1.heap.objs.size≤b:=by
  simp only[ψv,ψp,or_false] at hb
  rcases hb with h | h <;> rw[h] <;> first | exact ψh _ | exact ψT1 _ _
 exact I1.fpOk hb' (I1.hok.fresh hb')
theorem zq0{K:ψa}{p:Addr}{xs:List V}{g:TG}{tb:TS}{D:zjo}{σ:St}{H:Hp}(Pv:Nat→St→Hp→Prop)(h0:Pv 0 σ H)(hl:∀i σ H,i≤xs.length→Pv i σ H→SqL K H p xs)
  (hs:∀i x t σ H,xs[i]?=some x→Pv i σ H→H t=none→g (.ref t) σ (upd H t (.tup [.int (i:Int),x])) λσ2 H2=>tb { D with nx:=Pv (i+1),ct:=Pv (i+1),bk:=D.nx } σ2 H2) (hd:∀σ H,Pv xs.length σ H→D.nx σ H):znO (Ite K p) g tb D σ H:=by
 refine⟨λi m σ H=>m=xs.length - i∧i≤xs.length∧Pv i σ H,⟨_,rfl,ψh1 _,h0⟩,?_⟩
 rintro i m σ H ⟨rfl,hi,pv⟩
 have hx:=hl i σ H hi pv
 by_cases hlt:i<xs.length
 ·refine .inr ⟨⟨xs,xs[i],hx,by simp[hlt]⟩,Pv (i+1),λσ' H' p'=>⟨_,by (first|lia|omega),rfl,hlt,p'⟩,λx H' yl=>?_⟩
  obtain⟨t,a,rfl,ht,rfl,e1⟩:=yl
  exact hs i a t σ H (e1 xs hx) pv ht
 ·have e:i=xs.length:=by (first|lia|omega)
  subst e
  exact .inl ⟨⟨xs,hx,rfl⟩,hd σ H pv⟩
end L2
namespace L2
open PySem PySem.Spec PyProof.Rows
section
variable {X:Cx}
theorem zsA:∀{xs:List V} {us:List Value},xs.length=us.length→(∀(j:Nat) x u,xs[j]?=some x→us[j]?=some u→zee x u)→zcH xs us
 | [],[],_,_=>.nil
 | [],_::_,h,_=>by simp at h
 | _::_,[],h,_=>by simp at h
 | x::xs,u::us,h,r=>.cons (r 0 x u rfl rfl) (zsA (by simpa using h) λj y v e1 e2=>r (j+1) y v e1 e2)
end
end L2
namespace L2
open PySem PySem.Spec PyProof.Rows
section
variable {X:Cx}
theorem zpo:∀{ns:List Int} {us:List Value},zcH (ns.map V.int) us→IntsAre us ns
 | [],_,r=>by rw[ψu1] at r;cases r;exact .nil
 | n::ns,_,r=>by
  rw[ψu] at r
  cases r with
  | cons h t =>
   obtain⟨t',rfl⟩:=h
   exact .cons _ _ (zpo t)
theorem zmx:∀{ns:List Int} {us:List Value},IntsAre us ns→zcH (ns.map V.int) us
 | _,_,.nil=>.nil
 | _,_,.cons n t r=>.cons ⟨t,rfl⟩ (zmx r)
theorem zpw{pins:List (Addr×Obj)}{σ:St}{H:Hp}{s:Shared}{l:Addr}{h':Heap}{tk:Nat}{out:Array Value}{e:Nat}{ns':List Int}{Q:VK}(I:Inv X pins σ H s)(kp:∀b o,s.heap.get? b=some o→h'.get? b=some o)(hlt:s.heap.objs.size≤l)
  (ho:h'.get? l=some (seqObj "list" out e)) (hI:IntsAre out.toList ns') (hl:ns'.length<64) (q:H l=none→Q (.ref l) (upd H l (.lst (ns'.map V.int)))):EP X pins σ Q (.ref l) { s with heap:=h',toks:=tk }:=by
 refine⟨.ref l,_,I.laid (t':=tk) kp hlt (show zeN X.prog X.w _ h' _ (.lst (ns'.map V.int)) from⟨?_,out.toList,e,zmx hI,ho⟩),rfl,q (I.hok.fresh hlt)⟩
 rw[ψb,sizeLine_eq]
 (first|lia|omega)
end
end L2
namespace L2
open PySem PySem.Spec PyProof.Rows
theorem zhd(K:ψa):ψQ K (.type "list") (.type "tuple")=some false:=by first | rfl | kernel_rfl
theorem ziT(K:ψa):ψQ K (.type "list") (.type "int")=some false:=by first | rfl | kernel_rfl
theorem zfh(K:ψa):ψQ K (.type "tuple") (.type "list")=some false:=by first | rfl | kernel_rfl
theorem zih(K:ψa):ψQ K (.type "tuple") (.type "int")=some false:=by first | rfl | kernel_rfl
theorem zhS(K:ψa):ψQ K (.type "int") (.type "tuple")=some false:=by first | rfl | kernel_rfl
theorem ziL(K:ψa):ψQ K (.type "int") (.type "list")=some false:=by first | rfl | kernel_rfl
theorem zg5(K:ψa):ψQ K (.type "bool") (.type "tuple")=some false:=by first | rfl | kernel_rfl
theorem zh9(K:ψa):ψQ K (.type "bool") (.type "list")=some false:=by first | rfl | kernel_rfl
theorem ziO(K:ψa):ψQ K (.type "bool") (.type "int")=some true:=by first | rfl | kernel_rfl
theorem zhU(K:ψa):ψQ K (.type "str") (.type "tuple")=some false:=by first | rfl | kernel_rfl
theorem ziS(K:ψa):ψQ K (.type "str") (.type "list")=some false:=by first | rfl | kernel_rfl
theorem zjD(K:ψa):ψQ K (.type "str") (.type "int")=some false:=by first | rfl | kernel_rfl
theorem ze1(K:ψa):ψQ K (.type "NoneType") (.type "tuple")=some false:=by first | rfl | kernel_rfl
theorem zfB(K:ψa):ψQ K (.type "NoneType") (.type "list")=some false:=by first | rfl | kernel_rfl
theorem zf1(K:ψa):ψQ K (.type "NoneType") (.type "int")=some false:=by first | rfl | kernel_rfl
theorem zbU{K:ψa}{H:Hp}{Q:VK}{x:V}{t c:String}{b:Bool}(h:zoB K H x (.type t))(e:ψQ K (.type t) (.type c)=some b)(q:Q (.bl b) H):zg2 K [x,.ty c] H Q:=⟨_,_,_,_,b,rfl,rfl,.of h,e,q⟩
end L2
namespace L2
open PySem PySem.Spec PyProof.Rows
def rNeE(K:ψa):R2:=λx y H Q=>∃a b xs,x=.ref a∧y=.ref b∧SqL K H a xs∧SqL K H b []∧Q (.bl (!xs.isEmpty)) H
section
variable {X:Cx}
theorem zyV(hu:X.A.units+64<cLine):OpR X (compareOp .NotEq) (rNeE X.K):=by
 intro pins s σ H x y v u Q I rx ry h
 obtain⟨a,b,xs,rfl,rfl,ha,hb,q⟩:=h
 cases rx
 cases ry
 obtain⟨us,r1,p1,_⟩:=I.list ha
 obtain⟨vs,r2,p2,_⟩:=I.list hb
 cases r2
 cases xs with
 | nil =>
  cases r1
  have z:=SeqAt.RcNeAt.lists (A:=X.A) p1.isList p2.isList rfl (by (first|lia|omega)) (e:=λ_=>true) (λj h1 h2=>absurd h1 (ψn1 _))
  exact z X.prog X.w X.xe _ ⟨.bl false,H,I,rfl,q⟩
 | cons y ys =>
  have z:=SeqAt.RcNeAt.lists_lengths (A:=X.A) p1.isList p2.isList (by rw[ψf,ψf,← r1.length];rfl) (by (first|lia|omega))
  exact z X.prog X.w X.xe _ ⟨.bl true,H,I,rfl,q⟩
end
end L2
namespace L2
open PySem PySem.Spec PyProof.Rows
def zoZ(scope sc:Scope):Scope :=
 { scope with names:=scope.names.map λ(n,k)=>if (k == .free&&sc.kind == .function&&sc.names.lookup n == some .cell) then (n,.cell) else (n,k) }
theorem zjv:∀(names:List (Str×NameKind)) (n:Addr) (a cl:List (Str×Addr)),cellsFrom n names (a++cl)=cellsFrom n names a++cl
 | [],n,a,cl=>by unfold cellsFrom;rfl
 | (x,k)::r,n,a,cl=>by
  unfold cellsFrom
  split
  ·exact zjv r (n+1) ((x,n)::a) cl
  ·exact zjv r n a cl
theorem zjF:∀(names:List (Str×NameKind)) (n:Addr) (a:List (Str×Addr)) (x:Str) (c:Addr),(x,c)∈cellsFrom n names a→(x,c)∈a∨(x,NameKind.cell)∈names
 | [],n,a,x,c,h=>by unfold cellsFrom at h;exact .inl h
 | (y,k)::r,n,a,x,c,h=>by
  unfold cellsFrom at h
  split at h
  ·rename_i hk
   rcases zjF r (n+1) ((y,n)::a) x c h with q | q
   ·rcases List.mem_cons.mp q with e | q
    ·cases e
     refine .inr ?_
     have:k=NameKind.cell:=by simpa using hk
     rw[this]
     exact ψg
    ·exact .inl q
   ·exact .inr (ψe _ q)
  ·rcases zjF r n a x c h with q | q
   ·exact .inl q
   ·exact .inr (ψe _ q)
theorem zl9{M:Model}{A:Around}{E:Value→Shared→Prop}{s:Shared}{scope:Scope}{globals:Addr}{cl:List (Str×Addr)}{qual:Str}{outer:Env}{Q:Env→Shared→Prop}
  (hQ:Q (newEnv scope s.heap.objs.size globals (cellsFrom (s.heap.objs.size+1) scope.names []++cl) qual none .none (some outer) builtinsNs) { s with heap:=pushCells (s.heap.push { cls:=.type "dict",data:=.dict #[] }) scope.names }) :
  wpAny M A (newFunctionEnv scope globals cl [] qual none .none (some outer)) Q E s:=by
 simp only[newFunctionEnv,Option.isSome_some,if_true]
 refine wpAny_bind (wpAny_alloc ?_)
 refine wpAny_bind (wpAny_layCells _ (λname kind cells=>by cases hkc:kind == NameKind.cell <;> simp[hkc]) _ _ _ _ ?_)
 rw[show({ s with heap:=s.heap.push { cls:=.type "dict",data:=.dict #[] } }:Shared).heap.objs.size=s.heap.objs.size+1 from Heap.size_push ..]
 have e:=zjv scope.names (s.heap.objs.size+1) [] cl
 rw[List.nil_append] at e
 rw[e]
 refine wpAny_bind ?_
 rw[List.forIn_nil]
 exact wpAny_pure (wpAny_pure hQ)
def Cx.blkC(X:Cx)(Nc:List Str)(scope:Scope)(cl:List (Str×Addr))(s:Shared)(H:Hp)(fp:List Addr):Cx:={ X with
 N:=Nc,s₀:=s,H₀:=H,env:=compEnvC scope (cellsFrom (s.heap.objs.size+1) scope.names []++cl) s.heap.objs.size X.env,outer:=X.stack,stack:=X.stack,ex:=fp,fn:=λx=>scope.names.lookup x == some .cell,pn:=[],xe:=λ_ _=>False }
theorem zxs{X:Cx}{Nc:List Str}{scope:Scope}{cl:List (Str×Addr)}{s:Shared}{H:Hp}{fp:List Addr}:(X.blkC Nc scope cl s H fp).env.scope=zoZ scope X.env.scope:=rfl
structure zm1 (sc:Scope) (N Nc:List Str) (cap:List (Option Nat)) (scope:Scope):Prop where
 kind:scope.kind=.function
 free:∀y∈scope.names,y.2=.free→sc.names.lookup y.1=some .cell∨sc.names.lookup y.1=some .free
 once:∀y∈scope.names,scope.names.lookup y.1=some y.2
 nd:Nc.Nodup
 len:cap.length=Nc.length
 cap:∀(i:Nat) (y:Str) (j:Nat),Nc[i]?=some y→cap[i]?=some (some j)→N[j]?=some y∧scope.names.lookup y=some .free
def zst(sc:Scope)(N Nc:List Str)(cap:List (Option Nat))(scope:Scope):Bool :=
 scope.kind == .function&&scope.names.all (λy=>scope.names.lookup y.1 == some y.2&&(y.2 != .free || sc.names.lookup y.1 == some .cell || sc.names.lookup y.1 == some .free))&&decide Nc.Nodup&&cap.length == Nc.length
  && (Nc.zip cap).all λp=>p.2.all λj=>N[j]? == some p.1&&scope.names.lookup p.1 == some .free
theorem zm1.of{sc:Scope}{N Nc:List Str}{cap:List (Option Nat)}{scope:Scope}(h:zst sc N Nc cap scope=true):zm1 sc N Nc cap scope:=by
 unfold zst at h
 simp only[ψt,beq_iff_eq,List.all_eq_true,bne_iff_ne,ne_eq,Bool.or_eq_true,decide_eq_true_eq] at h
 obtain⟨⟨⟨⟨h1,h2⟩,h3⟩,h4⟩,h5⟩:=h
 refine⟨h1,λy hy hf=>?_,λy hy=>(h2 y hy).1,h3,h4,λi y j e1 e2=>?_⟩
 ·rcases(h2 y hy).2 with (q | q) | q
  ·exact absurd hf q
  ·exact .inl q
  ·exact .inr q
 ·have m:(y,some j)∈Nc.zip cap:=by
   refine ψS (i:=i) ?_
   rw[ψL]
   exact⟨e1,e2⟩
  have z:=h5 _ m
  simpa using z
section
variable {X:Cx} {pins:List (Addr×Obj)} {σ:St} {H:Hp} {s:Shared}
structure zv3 (scope:Scope) (cl:List (Str×Addr)) (L:Addr) (h1:Heap):Prop where
 look:∀x c,(cellsFrom (L+1) scope.names []++cl).lookup x=some c→(L<c∧h1.IsCell c none∧scope.names.lookup x=some .cell∧(cellsFrom (L+1) scope.names []).lookup x=some c)∨(cl.lookup x=some c∧(cellsFrom (L+1) scope.names []).lookup x=none)
 new:∀x,scope.names.lookup x=some .cell→∃c,(cellsFrom (L+1) scope.names []++cl).lookup x=some c
 old:∀x c,scope.names.lookup x=some .free→cl.lookup x=some c→(cellsFrom (L+1) scope.names []++cl).lookup x=some c
 inj:∀x y c,(cellsFrom (L+1) scope.names []).lookup x=some c→(cellsFrom (L+1) scope.names []).lookup y=some c→x=y
theorem zt5{scope:Scope}{cl:List (Str×Addr)}{h:Heap}(once:∀y∈scope.names,scope.names.lookup y.1=some y.2):zv3 scope cl h.objs.size (pushCells (h.push { cls:=.type "dict",data:=.dict #[] }) scope.names):=by
 have ok:=cellsFrom_ok scope.names (h.push { cls:=.type "dict",data:=.dict #[] }) (h.objs.size+1) [] ⟨λ_ _ hm=>(nomatch hm),List.Pairwise.nil⟩ (by rw[Heap.size_push];exact ψh _)
 rw[Heap.size_push] at ok
 have kinds:∀x c,(cellsFrom (h.objs.size+1) scope.names []).lookup x=some c→scope.names.lookup x=some .cell:=λx c e=>by
  rcases zjF _ _ _ _ _ (ψC e) with q | q
  ·cases q
  ·exact once _ q
 refine⟨λx c e=>?_,λx e=>?_,λx c e1 e2=>?_,λx y c e1 e2=>name_of_addr ok.apart (ψC e1) (ψC e2)⟩
 ·rw[List.lookup_append] at e
  cases q:(cellsFrom (h.objs.size+1) scope.names []).lookup x with
  | none=>rw[q] at e;exact .inr ⟨e,rfl⟩
  | some d =>
   rw[q] at e
   cases e
   obtain⟨o1,o2⟩:=ok.empty x c (ψC q)
   exact .inl ⟨o2,o1,kinds x c q,rfl⟩
 ·obtain⟨c,q⟩:=zjp (n:=h.objs.size+1) e
  exact⟨c,by rw[List.lookup_append,q];rfl⟩
 ·rw[List.lookup_append]
  cases q:(cellsFrom (h.objs.size+1) scope.names []).lookup x with
  | none=>exact e2
  | some d =>
   have:=kinds x d q
   rw[e1] at this
   cases this
theorem zvB{Nc:List Str}{cap:List (Option Nat)}{scope:Scope}{cl:List (Str×Addr)}{fp:List Addr}{h1:Heap}{tk:Nat}{m1:Str→Option Value}(I:Inv X pins σ H s)(B:zm1 X.env.scope X.N Nc cap scope)
  (hsub:∀x c,cl.lookup x=some c→X.env.cells.lookup x=some c) (hfr:∀y∈scope.names,y.2=.free→∃c,cl.lookup y.1=some c) (hf:∀b∈fp,zl2 X pins H b) (hin:∀b∈fp,b<s.heap.objs.size)
  (hk:∀b o,s.heap.get? b=some o→h1.get? b=some o) (hn:h1.Ns s.heap.objs.size m1) (C:zv3 scope cl s.heap.objs.size h1):Inv (X.blkC Nc scope cl s H fp) [] (zut cap σ) H { s with heap:=h1,toks:=tk }:=by
 have ok:=I.ok
 have bsz:X.base.objs.size≤s.heap.objs.size:=ψE ok.bsz I.sz
 have oldlt:∀x c,cl.lookup x=some c→c<s.heap.objs.size:=λx c e=>by
  obtain⟨v,q⟩:=I.cell x c (hsub x c e)
  exact q.lt
 refine⟨⟨ok.mod,B.kind,ok.glob,ok.blt,ψh _,λx y c h1 h2=>?_,λx hx=>?_,λx c z e=>?_,ok.hd,ok.frames,.inl rfl,λb hb=>⟨ψl (hin b hb),λx c e=>?_⟩,
  I.bs,bsz,λb o e hb=>?_,λb hb z=>?_,I.stack,I.stkFree⟩,rfl,I.bare,Un.kept hk,⟨m1,hn,λi y v e1 e2 e3=>?_⟩,λx c e=>?_,I.hok.fresh (ψh _),λx c e=>?_,(by intro p hp;cases hp),I.hok.kept hk,?_⟩
 ·rcases C.look x c h1 with ⟨a1,_,_,a4⟩ | ⟨a,_⟩ <;> rcases C.look y c h2 with ⟨b1,_,_,b4⟩ | ⟨b,_⟩
  ·exact C.inj x y c a4 b4
  ·exact absurd (ψg1 a1 (oldlt y c b)) (ψx1 _)
  ·exact absurd (ψg1 b1 (oldlt x c a)) (ψx1 _)
  ·exact ok.inj x y c (hsub x c a) (hsub y c b)
 ·have fr:∀x,scope.names.lookup x=some .free→∃c,(cellsFrom (s.heap.objs.size+1) scope.names []++cl).lookup x=some c:=λx q=>by
   obtain⟨c,e⟩:=hfr (x,.free) (ψC q) rfl
   exact⟨c,C.old x c q e⟩
  have look:∀k,(relabel scope X.env).names.lookup x=some k→k=.cell∨k=.free→∃c,(cellsFrom (s.heap.objs.size+1) scope.names []++cl).lookup x=some c:=λk q hk=>by
   rcases zc3 q with ⟨n1,n2⟩ | ⟨_,n2 | n2⟩
   ·rcases hk with r | r
    ·exact absurd r n1
    ·rw[r] at n2
     exact fr x n2
   ·exact C.new x n2
   ·exact fr x n2
  rcases hx with q | q
  ·exact look _ q (.inl rfl)
  ·exact look _ q (.inr rfl)
 ·obtain⟨c3,q3⟩:=zjp (n:=s.heap.objs.size+1) (show scope.names.lookup x=some .cell from beq_iff_eq.mp z)
  rcases C.look x c e with ⟨a1,_⟩ | ⟨_,b⟩
  ·exact ψt1 a1
  ·rw[q3] at b
   cases b
 ·rcases C.look x c e with ⟨a1,_⟩ | ⟨a,_⟩
  ·exact ψD1 (ψg1 (hin b hb) a1)
  ·exact(hf b hb).2.2.2.2.1 x c (hsub x c a)
 ·rcases(hf b hb).2.2.2.1 with q | q
  ·exact ok.noex b o e q
  ·exact absurd (ψj (Heap.lt_size e) (ψE ok.bsz q)) (ψx1 _)
 ·rcases List.mem_cons.mp (I.stkSub b z) with q | q
  ·exact(hf b hb).2.1 q
  ·exact(hf b hb).2.2.1 q
 ·have e2':(cap[i]?).map (λo=>o.bind λj=>(σ[j]?).join)=some (some v):=by rw[← ψI];exact e2
  obtain⟨o,ho,eo⟩:=Option.map_eq_some_iff.mp e2'
  obtain⟨j,rfl,ej⟩:=Option.bind_eq_some_iff.mp eo
  have ej':σ[j]?=some (some v):=by
   cases q:σ[j]? with
   | none=>rw[q] at ej;cases ej
   | some z=>rw[q] at ej;cases ej;rfl
  obtain⟨c1,c2⟩:=B.cap i y j e1 ho
  have vis:=B.free (y,.free) (ψC c2) rfl
  obtain⟨m,_,hl⟩:=I.loc
  obtain⟨u,r,lk⟩:=hl j y v c1 ej' (.inr vis)
  obtain⟨c',ec⟩:=hfr (y,.free) (ψC c2) rfl
  have ec2:=hsub _ _ ec
  rcases lk with ⟨kl,_⟩ | ⟨_,c,e,z⟩
  ·have kl':X.env.scope.names.lookup y=some .local:=kl
   rcases vis with q | q
   ·have q':X.env.scope.names.lookup y=some .cell:=q
    rw[kl'] at q';cases q'
   ·have q':X.env.scope.names.lookup y=some .free:=q
    rw[kl'] at q';cases q'
  ·have ecc:X.env.cells.lookup y=some c':=ec2
   rw[e] at ecc
   cases ecc
   refine⟨u,r,.inr ⟨?_,_,C.old y _ c2 ec,?_⟩⟩
   ·rcases e3 with q | q | q
    ·rcases zc3 q with ⟨_,n2⟩ | ⟨n1,_⟩
     ·rw[c2] at n2;cases n2
     ·cases n1
    ·exact .inl q
    ·exact .inr q
   ·obtain⟨o,ho,hd⟩:=z
    exact⟨o,hk _ _ ho,hd⟩
 ·rcases C.look x c e with ⟨_,a2,_⟩ | ⟨a,_⟩
  ·exact⟨none,a2⟩
  ·obtain⟨v,o,ho,hd⟩:=I.cell x c (hsub x c a)
   exact⟨v,o,hk _ _ ho,hd⟩
 ·rcases C.look x c e with ⟨a1,_⟩ | ⟨a,_⟩
  ·exact I.hok.fresh (ψt1 a1)
  ·exact I.freeC x c (hsub x c a)
 ·show(zut cap σ).length=Nc.length
  rw[zut,ψb,B.len]
theorem ztT{Nc:List Str}{scope:Scope}{cl:List (Str×Addr)}{fp:List Addr}{σc:St}{Hc:Hp}{s':Shared}{h':Heap}(I:Inv X pins σ H s)(hf:∀b∈fp,zl2 X pins H b)(J:Inv (X.blkC Nc scope cl s H fp) [] σc Hc s')
  (hs:Heap.SameBut s.heap.objs.size s'.heap h'):Inv X pins σ Hc { s' with heap:=h' }:=by
 have ne:∀b o,s.heap.get? b=some o→b≠s.heap.objs.size:=λb o e=>ψl (Heap.lt_size e)
 have u:=J.base
 refine I.call' (ch:=fp) J.os ⟨λb o e n hb hx=>(hs.2 b (ne b o e)).trans (u.keep b o e n hb hx),λb o e n hb hx=>?_,u.free,λb o e hx=>?_,u.tups,u.frzs,u.tbls⟩ (λb ob e=>?_) J.bare λb hb=>⟨(hf b hb).2.2.2.1,(hf b hb).2.1,(hf b hb).2.2.2.2.1,(hf b hb).2.2.2.2.2⟩
 ·obtain⟨sl,q⟩:=u.slot b o e n hb hx
  exact⟨sl,(hs.2 b (ne b o e)).trans q⟩
 ·obtain⟨o',q⟩:=u.there b o e hx
  exact⟨o',(hs.2 b (ne b o e)).trans q⟩
 ·have hC:Hc s.heap.objs.size=none:=J.free
  refine(J.hok b ob e).stay (λc w' hc q=>(hs.2 c ?_).trans q) (λ_ q=>q) λ_ _ q=>q
  rintro rfl
  rcases hc with z | hc
  ·rw[← z,hC] at e;cases e
  ·rw[hC] at hc;cases hc
end
theorem zpz{X:Cx}{pins:List (Addr×Obj)}{s:Shared}{σ:St}{H:Hp}{Q:VK}{sc:Scope}{N Nc:List Str}{cap:List (Option Nat)}{elt tg iter:Expr}{ifs:List Expr}{scope:Scope}{pos pos':Pos}{wi:TI}{g:TG}{tt:TT}{te:TE}{use:Option (Value→Sem Unit)}{QQ:Value→Shared→Prop}
  (hc:X.calm=true) (hsc:X.env.scope=sc) (hN:X.N=N) (B:zm1 sc N Nc cap scope) (hi:PI X tg iter wi)
  (hg:∀cl s H fp,PG (X.blkC Nc scope cl s H fp) tg g) (ht:∀cl s H fp,PTs (X.blkC Nc scope cl s H fp) ifs tt) (he:∀cl s H fp,PE (X.blkC Nc scope cl s H fp) elt te)
  (hs:∀x,foldedSetIterable iter X.env x=pure x) (I:Inv X pins σ H s) (h:zcu wi g tt te cap σ H Q)
  (fin:∀(s3:Shared) (H3:Hp) (cl:List (Str×Addr)) (fp:List Addr) (D:Addr) (σc:St) (Hc:Hp) (s6:Shared),Inv X pins σ H3 s3→(∀b∈fp,zl2 X pins H3 b)→Inv (X.blkC Nc scope cl s3 H3 fp) [] σc Hc s6→Q (.ref D) Hc→compPost (model X.prog X.w) X.A X.xe use QQ (.ref D) s3.heap.objs.size (.ok .next) s6) :
  wpAny (model X.prog X.w) X.A (comprehension (.ListComp elt [⟨tg,iter,ifs,0⟩] scope pos) scope X.env pos' (newList []) false (eval iter X.env) use) QQ X.xe s:=by
 subst hsc hN
 obtain⟨cl,hclos,hsub,hfr⟩:=zkA (scope:=scope) (env:=X.env) λy hy hf=>I.ok.has y.1 (B.free y hy hf)
 refine wpAny_comprehension_free (use:=use) rfl hs hclos B.kind (λy hy hl=>by rw[B.once y hy,hl]) (thn (hi pins s σ H _ I h) λv s1 h1=>thn h1 λitv s2 h2=>?_)
 obtain⟨it,fp,tn,J,H2,rfl,I2,T,st2,f2,hw⟩:=h2
 refine wpAny_newObj_type ?_
 have hfree:H2 s2.heap.objs.size=none:=I2.hok.fresh (ψh _)
 have I3:=I2.laid (t':=s2.toks) (o:=.lst []) (λb u e=>Heap.get?_push_of_some { cls:=.type "list",dict:=none,data:=.seq ([]:List Value).toArray } e) (ψh _) ⟨by decide,[],0,.nil,Heap.get?_push_size _ rfl⟩
 obtain⟨W,⟨m0,w0⟩,zpB⟩:=hw _ hfree
 have keep23:∀b o,s2.heap.get? b=some o→(s2.heap.push { cls:=.type "list",dict:=none,data:=.seq ([]:List Value).toArray }).get? b=some o:=λb o e=>Heap.get?_push_of_some _ e
 have hin:∀b∈fp,b<s2.heap.objs.size:=λb hb=>let ⟨o,e,_⟩:=T.obj 0 _ st2 b hb;Heap.lt_size e
 have f3:∀b∈fp,zl2 X pins (upd H2 s2.heap.objs.size (.lst [])) b:=λb hb=>⟨by rw[zaS (ψl (hin b hb))];exact(f2 b hb).1,(f2 b hb).2⟩
 have st3:=T.keep 0 _ _ st2 λb _ o e=>keep23 b o e
 have hin3:∀b∈fp,b<(s2.heap.push { cls:=.type "list",dict:=none,data:=.seq ([]:List Value).toArray }).objs.size:=λb hb=>let ⟨o,e,_⟩:=T.obj 0 _ st3 b hb;Heap.lt_size e
 clear keep23 hin
 generalize s2.heap.push { cls:=.type "list",dict:=none,data:=.seq ([]:List Value).toArray }=h3 at I3 st3 hin3 ⊢
 generalize upd H2 s2.heap.objs.size (.lst [])=H3 at I3 f3 w0
 generalize s2.heap.objs.size=D at hfree w0 zpB ⊢
 refine zl9 ?_
 have Cc:=zt5 (scope:=scope) (cl:=cl) (h:=h3) B.once
 have keep:∀b o,h3.get? b=some o→(pushCells (h3.push { cls:=.type "dict",data:=.dict #[] }) scope.names).get? b=some o:=λb o e=>pushCells_keeps _ _ b o (Heap.get?_push_of_some _ e)
 have hns:(pushCells (h3.push { cls:=.type "dict",data:=.dict #[] }) scope.names).Ns h3.objs.size λ_=>none:=(Heap.Ns.new h3 (.type "dict")).keeps (pushCells_keeps _ _)
 dsimp only
 generalize pushCells (h3.push { cls:=.type "dict",data:=.dict #[] }) scope.names=h1 at Cc keep hns ⊢
 have I4:=zvB (tk:=s2.toks) I3 B hsub hfr f3 hin3 keep hns Cc
 have st4:=T.keep 0 _ _ st3 λb _ o e=>keep b o e
 have stat:∀{H':Hp},(∀b∈fp,H' b=none)→∀b∈fp,zl2 (X.blkC Nc scope cl { s2 with heap:=h3,toks:=s2.toks } H3 fp) [] H' b:=λhn b hb =>
  ⟨hn b hb,ψl (hin3 b hb),λz=>by
   rcases List.mem_cons.mp (I3.stkSub b z) with q | q
   ·exact(f3 b hb).2.1 q
   ·exact(f3 b hb).2.2.1 q,.inl hb,λx c e=>by
   rcases Cc.look x c e with ⟨a1,_⟩ | ⟨a,_⟩
   ·exact ψD1 (ψg1 (hin3 b hb) a1)
   ·exact(f3 b hb).2.2.2.2.1 x c (hsub x c a),by intro p hp;cases hp⟩
 have hcb:(X.blkC Nc scope cl { s2 with heap:=h3,toks:=s2.toks } H3 fp).calm=true:=hc
 have loop:codeAny (model X.prog X.w) X.A (.compLoop (.ListComp elt [⟨tg,iter,ifs,0⟩] scope pos) 0 (.ref it) (.ref D) (compEnvC scope (cellsFrom (h3.objs.size+1) scope.names []++cl) h3.objs.size X.env)) (compPost (model X.prog X.w) X.A X.xe use QQ (.ref D) h3.objs.size) { s2 with heap:=h1,toks:=s2.toks }:=by
  refine ziQ (λn s'=>∃i σ' H',Inv (X.blkC Nc scope cl { s2 with heap:=h3,toks:=s2.toks } H3 fp) [] σ' H' s'∧tn i s'.heap∧(∀b∈fp,H' b=none)∧W i n σ' H') rfl ?_ m0 ⟨0,_,H3,I4,st4,λb hb=>(f3 b hb).1,w0⟩
  rintro n s5 ⟨i,σ5,H5,I5,st5,fr5,w5⟩
  rcases zpB i n σ5 H5 w5 with ⟨stop,qn⟩ | ⟨go,N',hN',step⟩
  ·refine thn (T.done (X.blkC Nc scope cl { s2 with heap:=h3,toks:=s2.toks } H3 fp) rfl rfl rfl hcb i [] s5 σ5 H5 _ I5 (stat fr5) st5 stop) λr s6 hQ'=>?_
   obtain⟨hr,I6⟩:=hQ'
   subst hr
   exact fin { s2 with heap:=h3,toks:=s2.toks } H3 cl fp D σ5 H5 s6 I3 f3 I6 qn
  ·refine thn (T.item (X.blkC Nc scope cl { s2 with heap:=h3,toks:=s2.toks } H3 fp) rfl rfl rfl hcb i [] s5 σ5 H5 _ I5 (stat fr5) st5 go) λr s6 hQ'=>?_
   obtain⟨u,hr,h6⟩:=hQ'
   subst hr
   refine thn h6 λ_ s7 hQ'=>?_
   obtain⟨x,H7,I7,r7,y7,st7,fr7⟩:=hQ'
   have I7':=I7.pinned (stat fr7) (T.obj _ _ st7)
   refine wpAny_mono (hg cl _ H3 fp _ s7 σ5 H7 x u _ I7' r7 (step x H7 y7)) (λ_ s8 hQ'=>?_) λ_ _ z=>z.elim
   obtain⟨σ8,H8,I8,q8⟩:=hQ'
   have again:∀{H9:Hp} {s9:Shared} {m:Nat},Inv (X.blkC Nc scope cl { s2 with heap:=h3,toks:=s2.toks } H3 fp) ([]++zks fp s7.heap) σ8 H9 s9→m<n→W (i+1) m σ8 H9→∃m,m<n∧∃i σ' H',Inv (X.blkC Nc scope cl { s2 with heap:=h3,toks:=s2.toks } H3 fp) [] σ' H' s9∧tn i s9.heap∧(∀b∈fp,H' b=none)∧W i m σ' H':=fun {H9 s9 m} I9 hm w9=>by
    refine⟨m,hm,i+1,σ8,H9,I9.unpinned,T.keep _ _ _ st7 λb hb o e=>(I9.pin (b,o) (ψA _ (ψA _ (zeE hb e)))).1,λb hb=>?_,w9⟩
    obtain⟨o,e,d⟩:=T.obj _ _ st7 b hb
    exact(I9.pin (b,o) (ψA _ (ψA _ (zeE hb e)))).2.1
   refine wpAny_mono (ht cl _ H3 fp _ s8 σ8 H8 _ I8 q8) (λb s9 hQ'=>?_) λ_ _ z=>z.elim
   obtain⟨H9,I9,q9⟩:=hQ'
   cases b with
   | false =>
    rw[if_neg (by decide)] at q9
    obtain⟨m',hm,w9⟩:=hN' _ _ q9
    exact again I9 hm w9
   | true =>
    rw[if_pos rfl] at q9
    refine wpAny_mono (he cl _ H3 fp _ s9 σ8 H9 _ I9 q9) (λu s10 hQ'=>?_) λ_ _ z=>z.elim
    obtain⟨y,H10,I10,r10,q10⟩:=hQ'
    refine wpAny_mono (zfw (X:=X.blkC Nc scope cl { s2 with heap:=h3,toks:=s2.toks } H3 fp) _ s10 σ8 H10 (.ref D) [y] (.ref D) [u] _ I10 rfl (.cons r10 .nil) q10) (λ_ s11 hQ'=>?_) λ_ _ z=>z.elim
    obtain⟨_,H11,I11,_,q11⟩:=hQ'
    obtain⟨m',hm,w11⟩:=hN' _ _ q11
    exact again I11 hm w11
 exact codeAny_compStart_list loop (T.self _ 0 _ _ _ st4 loop)
theorem znQ{X:Cx}{i:Nat}{y:Str}{py spos:Pos}{sc:Scope}{N Nc:List Str}{cap:List (Option Nat)}{elt tg iter:Expr}{ifs:List Expr}{scope:Scope}{pos:Pos}{wi:TI}{g:TG}{tt:TT}{te:TE}(hnd:X.N.Nodup)(hix:X.N[i]?=some y)(hl:X.env.scope.names.lookup y=some .local)
  (hc:X.calm=true) (hsc:X.env.scope=sc) (hN:X.N=N) (B:zm1 sc N Nc cap scope) (hi:PI X tg iter wi)
  (hg:∀cl s H fp,PG (X.blkC Nc scope cl s H fp) tg g) (ht:∀cl s H fp,PTs (X.blkC Nc scope cl s H fp) ifs tt) (he:∀cl s H fp,PE (X.blkC Nc scope cl s H fp) elt te)
  (hsw:swapsWith (.ListComp elt [⟨tg,iter,ifs,0⟩] scope pos) (some (.Name y py)) spos.line X.env=pure true:=by rfl)
  (hs:∀x,foldedSetIterable iter X.env x=pure x:=by intro _;rfl):PS X (.Assign [.Name y py] (.ListComp elt [⟨tg,iter,ifs,0⟩] scope pos) spos) (zbq (zcu wi g tt te cap) (zaj i)):=by
 intro pins s σ H D0 I h
 rw[exec_Assign_Name_used _ _ _ _ hsw]
 refine wpAny_bind (wpAny_standAt (wpAny_bind (wpAny_bind (thn (zpz (use:=some (assign (.Name y py) X.env)) (QQ:=λ_ s'=>SP X pins D0 .next s') hc hsc hN B hi hg ht he hs I h λs3 H3 cl fp D σc Hc s6 I3 f3 I6 q=>?_) λ_ s' hq=>wpAny_pure (wpAny_pure hq)))))
 have I6x:Inv X pins σ Hc s6:=ztT I3 f3 I6 (Heap.SameBut.refl ..)
 obtain⟨m,hn,_⟩:=id I6.loc
 have hC:Hc s3.heap.objs.size=none:=I6.free
 have fpC:=I3.fpOk (b:=s3.heap.objs.size) (ψh _) hC
 refine wpAny_assign_Name (zjs I6x hnd hix (.inl hl) (v:=.ref D) rfl (λs7 I7 ch=>?_) (.inr hl))
 obtain⟨a,same,ha⟩:=ch
 have nC:s3.heap.objs.size≠a:=by
  rcases ha with r | r
  ·rw[r];exact fpC.2.1
  ·exact(fpC.2.2.2.2.1 _ _ r).symm
 refine⟨m,hn.sameBut same nC,λh' hs'=>⟨_,_,I7.turns (t':=s7.toks) (ch:=[s3.heap.objs.size]) (λb o hb e=>(hs'.2 b (by simpa using hb)).trans e) λb hb=>?_,q⟩⟩
 have e:b=s3.heap.objs.size:=by simpa using hb
 rw[e]
 exact fpC
end L2
namespace L2
open PySem
theorem zxW{v:V}{σ:List (Option V)}{H:Hp}{Q:VK}:zac 0 (some v::σ) H Q=Q v H:=by simp[zac]
theorem zyb{x0:Option V}{v:V}{σ:List (Option V)}{H:Hp}{Q:VK}:zac 1 (x0::some v::σ) H Q=Q v H:=by simp[zac]
theorem zyk{x0 x1:Option V}{v:V}{σ:List (Option V)}{H:Hp}{Q:VK}:zac 2 (x0::x1::some v::σ) H Q=Q v H:=by simp[zac]
theorem zxJ{x0 x1 x2:Option V}{v:V}{σ:List (Option V)}{H:Hp}{Q:VK}:zac 3 (x0::x1::x2::some v::σ) H Q=Q v H:=by simp[zac]
theorem zwT{x0 x1 x2 x3:Option V}{v:V}{σ:List (Option V)}{H:Hp}{Q:VK}:zac 4 (x0::x1::x2::x3::some v::σ) H Q=Q v H:=by simp[zac]
theorem zxV{x0 x1 x2 x3 x4:Option V}{v:V}{σ:List (Option V)}{H:Hp}{Q:VK}:zac 5 (x0::x1::x2::x3::x4::some v::σ) H Q=Q v H:=by simp[zac]
theorem zxh{x0 x1 x2 x3 x4 x5:Option V}{v:V}{σ:List (Option V)}{H:Hp}{Q:VK}:zac 6 (x0::x1::x2::x3::x4::x5::some v::σ) H Q=Q v H:=by simp[zac]
theorem zxz{x0 x1 x2 x3 x4 x5 x6:Option V}{v:V}{σ:List (Option V)}{H:Hp}{Q:VK}:zac 7 (x0::x1::x2::x3::x4::x5::x6::some v::σ) H Q=Q v H:=by simp[zac]
theorem zwI{x0 x1 x2 x3 x4 x5 x6 x7:Option V}{v:V}{σ:List (Option V)}{H:Hp}{Q:VK}:zac 8 (x0::x1::x2::x3::x4::x5::x6::x7::some v::σ) H Q=Q v H:=by simp[zac]
theorem zxt{x0 x1 x2 x3 x4 x5 x6 x7 x8:Option V}{v:V}{σ:List (Option V)}{H:Hp}{Q:VK}:zac 9 (x0::x1::x2::x3::x4::x5::x6::x7::x8::some v::σ) H Q=Q v H:=by simp[zac]
theorem zuX{x0 x1 x2 x3 x4 x5 x6 x7 x8 x9:Option V}{v:V}{σ:List (Option V)}{H:Hp}{Q:VK}:zac 10 (x0::x1::x2::x3::x4::x5::x6::x7::x8::x9::some v::σ) H Q=Q v H:=by simp[zac]
theorem zvj{x0 x1 x2 x3 x4 x5 x6 x7 x8 x9 x10:Option V}{v:V}{σ:List (Option V)}{H:Hp}{Q:VK}:zac 11 (x0::x1::x2::x3::x4::x5::x6::x7::x8::x9::x10::some v::σ) H Q=Q v H:=by simp[zac]
theorem zva{x0 x1 x2 x3 x4 x5 x6 x7 x8 x9 x10 x11:Option V}{v:V}{σ:List (Option V)}{H:Hp}{Q:VK}:zac 12 (x0::x1::x2::x3::x4::x5::x6::x7::x8::x9::x10::x11::some v::σ) H Q=Q v H:=by simp[zac]
theorem zup{x0 x1 x2 x3 x4 x5 x6 x7 x8 x9 x10 x11 x12:Option V}{v:V}{σ:List (Option V)}{H:Hp}{Q:VK}:zac 13 (x0::x1::x2::x3::x4::x5::x6::x7::x8::x9::x10::x11::x12::some v::σ) H Q=Q v H:=by simp[zac]
theorem zus{x0 x1 x2 x3 x4 x5 x6 x7 x8 x9 x10 x11 x12 x13:Option V}{v:V}{σ:List (Option V)}{H:Hp}{Q:VK}:zac 14 (x0::x1::x2::x3::x4::x5::x6::x7::x8::x9::x10::x11::x12::x13::some v::σ) H Q=Q v H:=by simp[zac]
theorem ztU{x0 x1 x2 x3 x4 x5 x6 x7 x8 x9 x10 x11 x12 x13 x14:Option V}{v:V}{σ:List (Option V)}{H:Hp}{Q:VK}:zac 15 (x0::x1::x2::x3::x4::x5::x6::x7::x8::x9::x10::x11::x12::x13::x14::some v::σ) H Q=Q v H:=by simp[zac]
theorem zvH{x0 x1 x2 x3 x4 x5 x6 x7 x8 x9 x10 x11 x12 x13 x14 x15:Option V}{v:V}{σ:List (Option V)}{H:Hp}{Q:VK}:zac 16 (x0::x1::x2::x3::x4::x5::x6::x7::x8::x9::x10::x11::x12::x13::x14::x15::some v::σ) H Q=Q v H:=by simp[zac]
theorem zu5{x0:Option V}{v:V}{σ:List (Option V)}{H:Hp}{Q:St→Hp→Prop}:zaj 0 v (x0::σ) H Q=Q (some v::σ) H:=rfl
theorem zue{x0 x1:Option V}{v:V}{σ:List (Option V)}{H:Hp}{Q:St→Hp→Prop}:zaj 1 v (x0::x1::σ) H Q=Q (x0::some v::σ) H:=rfl
theorem zuZ{x0 x1 x2:Option V}{v:V}{σ:List (Option V)}{H:Hp}{Q:St→Hp→Prop}:zaj 2 v (x0::x1::x2::σ) H Q=Q (x0::x1::some v::σ) H:=rfl
theorem zvo{x0 x1 x2 x3:Option V}{v:V}{σ:List (Option V)}{H:Hp}{Q:St→Hp→Prop}:zaj 3 v (x0::x1::x2::x3::σ) H Q=Q (x0::x1::x2::some v::σ) H:=rfl
theorem zuz{x0 x1 x2 x3 x4:Option V}{v:V}{σ:List (Option V)}{H:Hp}{Q:St→Hp→Prop}:zaj 4 v (x0::x1::x2::x3::x4::σ) H Q=Q (x0::x1::x2::x3::some v::σ) H:=rfl
theorem zvc{x0 x1 x2 x3 x4 x5:Option V}{v:V}{σ:List (Option V)}{H:Hp}{Q:St→Hp→Prop}:zaj 5 v (x0::x1::x2::x3::x4::x5::σ) H Q=Q (x0::x1::x2::x3::x4::some v::σ) H:=rfl
theorem zuI{x0 x1 x2 x3 x4 x5 x6:Option V}{v:V}{σ:List (Option V)}{H:Hp}{Q:St→Hp→Prop}:zaj 6 v (x0::x1::x2::x3::x4::x5::x6::σ) H Q=Q (x0::x1::x2::x3::x4::x5::some v::σ) H:=rfl
theorem zu7{x0 x1 x2 x3 x4 x5 x6 x7:Option V}{v:V}{σ:List (Option V)}{H:Hp}{Q:St→Hp→Prop}:zaj 7 v (x0::x1::x2::x3::x4::x5::x6::x7::σ) H Q=Q (x0::x1::x2::x3::x4::x5::x6::some v::σ) H:=rfl
theorem ztS{x0 x1 x2 x3 x4 x5 x6 x7 x8:Option V}{v:V}{σ:List (Option V)}{H:Hp}{Q:St→Hp→Prop}:zaj 8 v (x0::x1::x2::x3::x4::x5::x6::x7::x8::σ) H Q=Q (x0::x1::x2::x3::x4::x5::x6::x7::some v::σ) H:=rfl
theorem zum{x0 x1 x2 x3 x4 x5 x6 x7 x8 x9:Option V}{v:V}{σ:List (Option V)}{H:Hp}{Q:St→Hp→Prop}:zaj 9 v (x0::x1::x2::x3::x4::x5::x6::x7::x8::x9::σ) H Q=Q (x0::x1::x2::x3::x4::x5::x6::x7::x8::some v::σ) H:=rfl
theorem zsL{x0 x1 x2 x3 x4 x5 x6 x7 x8 x9 x10:Option V}{v:V}{σ:List (Option V)}{H:Hp}{Q:St→Hp→Prop}:zaj 10 v (x0::x1::x2::x3::x4::x5::x6::x7::x8::x9::x10::σ) H Q=Q (x0::x1::x2::x3::x4::x5::x6::x7::x8::x9::some v::σ) H:=rfl
theorem zqN{x0 x1 x2 x3 x4 x5 x6 x7 x8 x9 x10 x11:Option V}{v:V}{σ:List (Option V)}{H:Hp}{Q:St→Hp→Prop}:zaj 11 v (x0::x1::x2::x3::x4::x5::x6::x7::x8::x9::x10::x11::σ) H Q=Q (x0::x1::x2::x3::x4::x5::x6::x7::x8::x9::x10::some v::σ) H:=rfl
theorem zr1{x0 x1 x2 x3 x4 x5 x6 x7 x8 x9 x10 x11 x12:Option V}{v:V}{σ:List (Option V)}{H:Hp}{Q:St→Hp→Prop}:zaj 12 v (x0::x1::x2::x3::x4::x5::x6::x7::x8::x9::x10::x11::x12::σ) H Q=Q (x0::x1::x2::x3::x4::x5::x6::x7::x8::x9::x10::x11::some v::σ) H:=rfl
theorem zsK{x0 x1 x2 x3 x4 x5 x6 x7 x8 x9 x10 x11 x12 x13:Option V}{v:V}{σ:List (Option V)}{H:Hp}{Q:St→Hp→Prop}:zaj 13 v (x0::x1::x2::x3::x4::x5::x6::x7::x8::x9::x10::x11::x12::x13::σ) H Q=Q (x0::x1::x2::x3::x4::x5::x6::x7::x8::x9::x10::x11::x12::some v::σ) H:=rfl
theorem zsN{x0 x1 x2 x3 x4 x5 x6 x7 x8 x9 x10 x11 x12 x13 x14:Option V}{v:V}{σ:List (Option V)}{H:Hp}{Q:St→Hp→Prop}:zaj 14 v (x0::x1::x2::x3::x4::x5::x6::x7::x8::x9::x10::x11::x12::x13::x14::σ) H Q=Q (x0::x1::x2::x3::x4::x5::x6::x7::x8::x9::x10::x11::x12::x13::some v::σ) H:=rfl
theorem zrp{x0 x1 x2 x3 x4 x5 x6 x7 x8 x9 x10 x11 x12 x13 x14 x15:Option V}{v:V}{σ:List (Option V)}{H:Hp}{Q:St→Hp→Prop}:zaj 15 v (x0::x1::x2::x3::x4::x5::x6::x7::x8::x9::x10::x11::x12::x13::x14::x15::σ) H Q=Q (x0::x1::x2::x3::x4::x5::x6::x7::x8::x9::x10::x11::x12::x13::x14::some v::σ) H:=rfl
theorem zrn{x0 x1 x2 x3 x4 x5 x6 x7 x8 x9 x10 x11 x12 x13 x14 x15 x16:Option V}{v:V}{σ:List (Option V)}{H:Hp}{Q:St→Hp→Prop}:zaj 16 v (x0::x1::x2::x3::x4::x5::x6::x7::x8::x9::x10::x11::x12::x13::x14::x15::x16::σ) H Q=Q (x0::x1::x2::x3::x4::x5::x6::x7::x8::x9::x10::x11::x12::x13::x14::x15::some v::σ) H:=rfl
theorem rI_c{C:Int→Int→Prop}{g:Int→Int→V}{a b:Int}{H:Hp}{Q:VK}:rI C g (.int a) (.int b) H Q=(C a b∧Q (g a b) H):=by simp[rI]
theorem rI0_c{g:Int→Int→V}{a b:Int}{H:Hp}{Q:VK}:rI0 g (.int a) (.int b) H Q=Q (g a b) H:=by simp[rI0]
theorem zzn{K:ψa}{p:Addr}{i:Int}{H:Hp}{Q:VK}:zf2 K (.ref p) (.int i) H Q=∃xs,SqL K H p xs∧∃v,atI xs i=some v∧Q v H:=by simp[zf2]
theorem zzw{K:ψa}{p:Addr}{i:Int}{H:Hp}{Q:VK}:zbH K (.ref p) (.int i) H Q=∃xs,SqT K H p xs∧∃v,atI xs i=some v∧Q v H:=by simp[zbH]
theorem ex_bl{c:Bool}{Q:Bool→Prop}:(∃k,V.bl c=V.bl k∧Q k)=Q c:=by simp
theorem zyQ{c:Int}{Q:Int→Prop}:(∃k,V.int c=V.int k∧Q k)=Q c:=by simp
theorem zAx{c:Addr}{Q:Addr→Prop}:(∃k,V.ref c=V.ref k∧Q k)=Q c:=by simp
theorem zzG{c:Int}{Q:Int→Prop}:(∃k,[V.int c]=[V.int k]∧Q k)=Q c:=by simp
theorem zAs{c:Addr}{Q:Addr→Prop}:(∃k,[V.ref c]=[V.ref k]∧Q k)=Q c:=by simp
end L2
namespace Att
open PySem PySem.W PySem.Calls PyProof.Rows
theorem zjH{x:Int}:∀{ns:List Int},x∈ns→WData.weight (.int x)≤WData.weightAll (ns.map WData.int)
 | [],h=>absurd h (ψp)
 | y::ns,h=>by
  rw[ψu,WData.weightAll]
  rcases List.mem_cons.mp h with e | e
  ·rw[← e]
   (first|lia|omega)
  ·have:=zjH e
   (first|lia|omega)
theorem zxB{ns:List Int}(h:WData.layableAll [WData.list (ns.map WData.int)]=true):∀x∈ns,x.natAbs<2 ^ 2 ^ 20:=by
 intro x hx
 have h1:(WData.list (ns.map WData.int)).layable=true:=(layW_cons h).1
 have h2:WData.weight (.list (ns.map WData.int))≤2 ^ 20:=by
  unfold WData.layable at h1
  rw[ψt] at h1
  exact of_decide_eq_true h1.2
 rw[WData.weight] at h2
 have h3:=ψE (zjH hx) h2
 rw[WData.weight] at h3
 by_cases h0:x=0
 ·subst h0
  exact Nat.two_pow_pos _
 ·rw[if_neg (by simpa using h0)] at h3
  have hn:x.natAbs≠0:=λe=>h0 (Int.natAbs_eq_zero.mp e)
  exact(Nat.log2_lt hn).mp h3
theorem attach_callL{l:OpenLaw}{n:Nat}{q:Program}{loose:List Str}{XP:(Str→Option Value)→Heap→Prop}{YP:World→Heap→Prop}{d:DefRec}
  (hn:l.most=some n) (hdf:d.params.defaults=[])
  (call:∀(w:World) (s₀ s₁:Shared) (mg mb:Str→Option Value) (fa:Addr) (o:Obj) (pm cd doc:Value) (a:Addr) (vs:List Value) (ns:List Int),(∀x∈ns,x.natAbs<2 ^ 2 ^ 20) →
   Ground q loose [] XP w s₀ mg mb s₁.heap→YP w s₁.heap →
   s₁.heap.get? fa=some o→o.data=.func (docDef d.name d.params d.body d.scope pm cd doc)→s₁.heap.CodeRec cd d.name→mg d.name=some (.ref fa) →
   s₁.heap.get? a=some { cls:=.type "list",data:=.seq vs.toArray }→IntsAre vs ns→ns.length≤n→s₁.gens=#[] →
   codeAny (model l.prog w) callerA (.call (.ref fa) ⟨[.ref a],[]⟩) (λr s'=>r=.ok (.ret (.bool true))∧OldK s₁.heap s'.heap∧s'.os=s₁.os∧AllBare s'.gens) s₁) :
  WalkO q loose XP YP l.row.toRowW d [] (λf vs=>PySem.call f vs):=by
 intro w s₀ s₁ mg mb G Y fa o pm cd doc dV kV ho hd hcd hD hmg hg args vals as hpre hlay hrd hwl hlo
 obtain rfl:dV=.none:=Dflts.none hD hdf
 obtain rfl:kV=.none:=Dflts.noKw hD
 obtain⟨a,vs,ns,rfl,rfl,hobj,hints,hlen⟩:=zrO hn hpre hwl
 refine enter_call (codeAny_mono (call w s₀ s₁ mg mb fa o pm cd doc a vs ns (zxB hlay) G Y ho (fd_plain hd) hcd hmg hobj hints hlen hg) λr s' hq=>?_)
 obtain⟨rfl,h2,h3,h4⟩:=hq
 exact⟨.inl ⟨.bool true,.bool true,[],rfl,λ_=>rfl,.bool true,zqp l _,λ_=>⟨List.Pairwise.nil,λ_ hm=>(nomatch hm)⟩⟩,h2,h3,h4⟩
end Att
namespace L2
open PySem PySem.Spec PyProof.Rows
theorem zux{l:PySem.W.OpenLaw}{n k:Nat}{q:Program}{loose:List Str}{XP:(Str→Option Value)→Heap→Prop}{YP:World→Heap→Prop}{d:DefRec}{K:Params→ψa}{CX:World→CXT}{sp:World→Sp}{x:Str}
  (hn:l.most=some n) (hn2:n≤sizeLine) (hdf:d.params.defaults=[]) (hr:zlR k callerA)
  (hY:∀(w:World) (h:Heap),YP w h→(K w.params).In h)
  (F:∀(w:World) (mg:Str→Option Value) (fa:Addr) (h:Heap),(K w.params).In h→h.Ns mainGlobals mg→mg d.name=some (.ref fa) →
   ∃fd:FuncData,(∀(s:Shared) (u:Value),BindsTo s fd ⟨[u],[]⟩ [(x,u)]) ∧
    ∀base:Heap,(K w.params).In base→base.Ns mainGlobals mg→zcr l.prog w (K w.params) mg base (CX w) k fa fd [x] (sp w))
  (hsp:∀(w:World) (H:Hp) (a:Addr) (ns:List Int),(∀x∈ns,x.natAbs<2 ^ 2 ^ 20)→ns.length≤n→Only H→SqL (K w.params) H a (ns.map V.int)→sp w [.ref a] H (λv _=>v=.bl true) λ_ _ _=>False)
  (hCX:∀(w:World) (H:Hp) (s:Shared) (e:Value) (s':Shared),CX w [] H s (λ_ _ _=>False) e s'→False) :
  PySem.W.WalkO q loose XP YP l.row.toRowW d [] (λf vs=>PySem.call f vs):=by
 refine Att.attach_callL hn hdf λw s₀ s₁ mg mb fa o pm cd doc a vs ns hb0 G Y ho hd hcd hmg hobj hints hlen hg=>?_
 have KX:=hY w _ Y
 obtain⟨fd,hb,hF⟩:=F w mg fa _ KX G.T.g hmg
 exact zvJ KX G.T.g G.T.b G.T.builtins G.T.nolimit hg hobj hints (ψE hlen hn2) hr hF hb (λH hO hS=>hsp w H a ns hb0 hlen hO hS) λH e s'=>hCX w H s₁ e s'
end L2
namespace L2
open PySem PySem.Spec PyProof.Rows
def zyd(K:ψa):R2:=λx y H Q=>rNe x y H Q∨rNeD K x y H Q
section
variable {X:Cx}
theorem zxm(hu:X.A.units+64<cLine):OpR X (compareOp .NotEq) (zyd X.K):=by
 intro pins s σ H x y v u Q I rx ry h
 rcases h with h | h
 ·exact zi1 pins s σ H x y v u Q I rx ry h
 ·exact zwo hu pins s σ H x y v u Q I rx ry h
end
end L2
namespace L2.St
open PySem
def it(m:Nat):Nat→Nat→Nat
 | 0,x=>x
 | n+1,x=>it m n ((x*5+1) % m)
def orb(m:Nat):Nat→Nat→List Nat
 | 0,_=>[]
 | n+1,x=>x::orb m n ((x*5+1) % m)
theorem zoS(m:Nat):∀a b x,it m (a+b) x=it m b (it m a x)
 | 0,b,x=>by rw[ψU1];rfl
 | a+1,b,x=>by rw[Nat.succ_add];exact zoS m a b _
theorem znd{m j:Nat}:∀{n x},j∈orb m n x→∃k,k<n∧it m k x=j
 | 0,x,h=>by simp[orb] at h
 | n+1,x,h=>by
  rcases List.mem_cons.mp h with rfl | h
  ·exact⟨0,Nat.succ_pos _,rfl⟩
  ·obtain⟨k,h1,h2⟩:=znd h
   exact⟨k+1,by (first|lia|omega),h2⟩
def Msk(M:Nat):Prop:=M=7∨M=31∨M=127∨M=511
theorem zxj{M:Nat}(h:Msk M):(∀j,j<M+1→j∈orb (M+1) (M+1) 0)∧it (M+1) (M+1) 0=0:=by
 have key:∀m,((ψr1 m).all λj=>(orb m m 0).contains j)=true→∀j,j<m→j∈orb m m 0:=λm e j hj=>by
  have:=List.all_eq_true.mp e j (List.mem_range.mpr hj)
  simpa using this
 rcases h with rfl | rfl | rfl | rfl
 ·exact⟨key 8 (by decide +kernel),by decide +kernel⟩
 ·exact⟨key 32 (by decide +kernel),by decide +kernel⟩
 ·exact⟨key 128 (by decide +kernel),by decide +kernel⟩
 ·exact⟨key 512 (by decide +kernel),by decide +kernel⟩
theorem zyT{M:Nat}(h:Msk M){x j:Nat}(hx:x<M+1)(hj:j<M+1):∃n,n<M+1∧it (M+1) n x=j:=by
 obtain⟨h1,h2⟩:=zxj h
 obtain⟨a,a1,rfl⟩:=znd (h1 x hx)
 obtain⟨b,b1,rfl⟩:=znd (h1 j hj)
 by_cases c:a≤b
 ·exact⟨b - a,by (first|lia|omega),by rw[← zoS,Nat.add_sub_cancel' c]⟩
 ·refine⟨M+1 - a+b,by (first|lia|omega),?_⟩
  rw[← zoS,show a+(M+1 - a+b)=(M+1)+b by (first|lia|omega),zoS,h2]
def lp(M:Nat):Nat→Nat×Nat→Nat×Nat
 | 0,s=>s
 | n+1,s=>lp M n (SetTable.leap M s.1 s.2)
theorem zwa(M:Nat):∀a b s,lp M (a+b) s=lp M b (lp M a s)
 | 0,b,s=>by rw[ψU1];rfl
 | a+1,b,s=>by rw[Nat.succ_add];exact zwa M a b _
theorem zv9(M:Nat):∀n s,(lp M n s).2=s.2 / 32 ^ n
 | 0,s=>by simp[lp]
 | n+1,s=>by
  show(lp M n _).2=_
  rw[zv9 M n,SetTable.leap,Nat.div_div_eq_div_mul,Nat.pow_succ,Nat.mul_comm]
theorem zAE(M:Nat):∀n s,s.1<M+1→(lp M n s).1<M+1
 | 0,s,h=>h
 | n+1,s,h=>zAE M n _ (Nat.mod_lt _ (Nat.succ_pos _))
theorem zqS(M:Nat):∀n x,(lp M n (x,0)).1=it (M+1) n x
 | 0,x=>rfl
 | n+1,x=>by
  show(lp M n ((x*5+1+0 / 32) % (M+1),0 / 32)).1=it (M+1) n ((x*5+1) % (M+1))
  rw[Nat.zero_div,Nat.add_zero,zqS M n]
theorem zws{M:Nat}(h:Msk M){x p j:Nat}(hx:x<M+1)(hp:p<2 ^ 64)(hj:j<M+1):∃n,n≤M+13∧(lp M n (x,p)).1=j:=by
 have e:lp M 13 (x,p)=((lp M 13 (x,p)).1,0):=by
  refine Prod.ext rfl ?_
  rw[zv9]
  exact Nat.div_eq_of_lt (ψg1 hp (by decide))
 obtain⟨n,n1,n2⟩:=zyT h (zAE M 13 (x,p) hx) hj
 refine⟨13+n,by (first|lia|omega),?_⟩
 rw[zwa,e,zqS]
 exact n2
theorem zrP(h:Int):SetTable.bits h<2 ^ 64:=by
 unfold SetTable.bits
 have:=ψH1 h (show(0:Int)<2 ^ 64 by decide)
 have:=Int.emod_nonneg h (show(2 ^ 64:Int)≠0 by decide)
 (first|lia|omega)
def zkZ(t:SetTable)(s:Nat×Nat):SetTable.Probe:={ j:=s.1,more:=SetTable.runEnd t.mask s.1 - s.1,i:=s.1,perturb:=s.2,dummy:=none }
def adv(t:SetTable):Nat→SetTable.Probe→SetTable.Probe
 | 0,p=>p
 | n+1,p=>adv t n (t.advance p)
theorem zrv(t:SetTable):∀a b p,adv t (a+b) p=adv t b (adv t a p)
 | 0,b,p=>by rw[ψU1];rfl
 | a+1,b,p=>by rw[Nat.succ_add];exact zrv t a b _
theorem zqQ(t:SetTable):∀k j i q,adv t (k+1) { j:=j,more:=k,i:=i,perturb:=q,dummy:=none }=zkZ t (SetTable.leap t.mask i q)
 | 0,j,i,q=>by simp[adv,SetTable.advance,zkZ]
 | k+1,j,i,q=>by
  show adv t (k+1) (t.advance _)=_
  rw[show t.advance { j:=j,more:=k+1,i:=i,perturb:=q,dummy:=none }={ j:=j+1,more:=k,i:=i,perturb:=q,dummy:=none } by simp[SetTable.advance]]
  exact zqQ t k (j+1) i q
def Reach(t:SetTable)(n:Nat)(p:SetTable.Probe):Prop:=∃r,r≤n∧t.slot (adv t r p).j=.empty
theorem zpd{t:SetTable}:∀{n s},t.slot (lp t.mask n s).1=.empty→Reach t (10*n) (zkZ t s)
 | 0,s,h=>⟨0,ψh _,h⟩
 | n+1,s,h=>by
  obtain⟨r,r1,r2⟩:=zpd (n:=n) (s:=SetTable.leap t.mask s.1 s.2) h
  have hm:SetTable.runEnd t.mask s.1 - s.1≤9:=by unfold SetTable.runEnd;split <;> (first|lia|omega)
  refine⟨SetTable.runEnd t.mask s.1 - s.1+1+r,by (first|lia|omega),?_⟩
  rw[zrv,zkZ,zqQ]
  exact r2
theorem zvZ:∀(m:Nat) (l:List Nat),(∀j,j<m→j∈l)→m≤l.length
 | 0,l,h=>ψh1 _
 | m+1,l,h=>by
  have hm:=h m (ψS1 m)
  have:=zvZ m (l.erase m) λj hj=>(List.mem_erase_of_ne (by (first|lia|omega))).mpr (h j (by (first|lia|omega)))
  rw[List.length_erase_of_mem hm] at this
  have:0<l.length:=List.length_pos_of_mem hm
  (first|lia|omega)
theorem slot_cases{t:SetTable}(hd:t.dummies=#[])(j:Nat):t.slot j=.empty∨∃i,t.slot j=.live i∧t.place[i]?=some j:=by
 unfold SetTable.slot
 rw[hd]
 by_cases c:(t.place[SetTable.below t.place j]? == some j)=true
 ·exact .inr ⟨_,by rw[if_pos c],by simpa using c⟩
 ·left
  rw[if_neg c]
  simp[SetTable.has]
theorem zp3{t:SetTable}(hd:t.dummies=#[])(hl:t.place.size<t.mask+1):∃j,j<t.mask+1∧t.slot j=.empty:=by
 refine ψU λhn=>?_
 have:=zvZ (t.mask+1) t.place.toList λj hj=>by
  rcases slot_cases hd j with h | ⟨i,_,h⟩
  ·exact absurd ⟨j,hj,h⟩ hn
  ·rw[← Array.getElem?_toList] at h
   exact ψS h
 rw[Array.length_toList] at this
 (first|lia|omega)
theorem reach_start{t:SetTable}(hM:Msk t.mask)(hd:t.dummies=#[])(hl:t.place.size<t.mask+1)(h:Int):Reach t (10*(t.mask+13)) (t.probeStart h):=by
 obtain⟨j,j1,j2⟩:=zp3 hd hl
 obtain⟨n,n1,n2⟩:=zws hM (x:=SetTable.bits h % (t.mask+1)) (Nat.mod_lt _ (Nat.succ_pos _)) (zrP h) j1
 obtain⟨r,r1,r2⟩:=zpd (t:=t) (n:=n) (s:=(SetTable.bits h % (t.mask+1),SetTable.bits h)) (by rw[n2];exact j2)
 exact⟨r,by (first|lia|omega),r2⟩
theorem adv_dummy(t:SetTable)(p:SetTable.Probe):(t.advance p).dummy=p.dummy:=by
 unfold SetTable.advance
 split
 ·rfl
 ·rfl
theorem zme{M:Nat}{ow:Array (Option Nat)}:∀(fuel i p n:Nat),n<fuel→ow.getD (lp M n (i,p)).1 (some 0)=none→∃j,SetTable.layClean.free M ow fuel i p=some j∧ow.getD j (some 0)=none
 | 0,i,p,n,h,_=>by (first|lia|omega)
 | fuel+1,i,p,n,h,e=>by
  rw[SetTable.layClean.free]
  cases c:(ψr1 (SetTable.runEnd M i+1 - i)).find? λk=>(ow.getD (i+k) (some 0)).isNone with
  | some k =>
   have:=List.find?_some c
   exact⟨i+k,rfl,by simpa using this⟩
  | none =>
   match n,h,e with
   | 0,_,e =>
    have:=List.find?_eq_none.mp c 0 (List.mem_range.mpr (by unfold SetTable.runEnd;split <;> (first|lia|omega)))
    rw[Nat.add_zero,show ow.getD i (some 0)=none from e] at this
    simp at this
   | n+1,h,e=>exact zme fuel _ _ n (by (first|lia|omega)) e
def Own(M:Nat)(ow:Array (Option Nat))(k:Nat):Prop:=ow.size=M+1∧ow.toList.countP Option.isSome=k∧∀v,some v∈ow.toList→v<k
theorem getD_lt{ow:Array (Option Nat)}{j:Nat}(h:ow.getD j (some 0)=none):∃hj:j<ow.size,ow[j]=none:=by
 by_cases c:j<ow.size
 ·exact⟨c,by simpa [Array.getD,c] using h⟩
 ·simp[Array.getD,c] at h
theorem zt7{M:Nat}(hM:Msk M){ow:Array (Option Nat)}{k:Nat}(o:Own M ow k)(hk:k<M+1)(h:Int):∃j,SetTable.layClean.free M ow (SetTable.turns M) (SetTable.bits h % (M+1)) (SetTable.bits h)=some j∧Own M (ow.setIfInBounds j (some k)) (k+1):=by
 obtain⟨o1,o2,o3⟩:=o
 have ex:∃j,j<M+1∧ow.getD j (some 0)=none:=by
  refine ψU λhn=>?_
  have:ow.toList.countP Option.isSome=ow.toList.length:=by
   rw[List.countP_eq_length]
   intro v hv
   cases v with
   | some v=>rfl
   | none =>
    obtain⟨j,hj,e⟩:=List.mem_iff_getElem.mp hv
    rw[Array.length_toList] at hj
    exact absurd ⟨j,by (first|lia|omega),by simpa [Array.getD,hj] using e⟩ hn
  rw[Array.length_toList] at this
  (first|lia|omega)
 obtain⟨j,j1,j2⟩:=ex
 obtain⟨n,n1,n2⟩:=zws hM (x:=SetTable.bits h % (M+1)) (Nat.mod_lt _ (Nat.succ_pos _)) (zrP h) j1
 obtain⟨j',f1,f2⟩:=zme (M:=M) (ow:=ow) (SetTable.turns M) _ _ n (by unfold SetTable.turns;(first|lia|omega)) (by rw[n2];exact j2)
 obtain⟨hj,ej⟩:=getD_lt f2
 refine⟨j',f1,by simpa using o1,?_,?_⟩
 ·rw[Array.toList_setIfInBounds,List.countP_set (by simpa using hj)]
  rw[show ow.toList[j']=none from by simpa using ej,o2]
  simp
 ·intro v hv
  rw[Array.toList_setIfInBounds] at hv
  rcases List.mem_or_eq_of_mem_set hv with hv | hv
  ·exact ψF1 (o3 v hv)
  ·cases hv;exact ψS1 _
theorem fold_ok{M:Nat}(hM:Msk M):∀(hs:List Int) (ow:Array (Option Nat)) (k:Nat),Own M ow k→k+hs.length<M+1 →
  ∃ow',(hs.foldl (λ(acc:Option (Array (Option Nat)×Nat)) h=>do
   let (owner,k) ← acc
   let j ← SetTable.layClean.free M owner (SetTable.turns M) (SetTable.bits h % (M+1)) (SetTable.bits h)
   pure (owner.setIfInBounds j (some k),k+1)) (some (ow,k)))=some (ow',k+hs.length)∧Own M ow' (k+hs.length)
 | [],ow,k,o,_=>⟨ow,rfl,o⟩
 | h::hs,ow,k,o,hl=>by
  rw[ψN] at hl
  obtain⟨j,e1,e2⟩:=zt7 hM o (by (first|lia|omega)) h
  obtain⟨ow',a,b⟩:=fold_ok hM hs _ _ e2 (by (first|lia|omega))
  refine⟨ow',?_,by rw[ψN,show k+(hs.length+1)=k+1+hs.length by (first|lia|omega)];exact b⟩
  rw[List.foldl_cons,ψN,show k+(hs.length+1)=k+1+hs.length by (first|lia|omega),← a]
  simp[e1]
theorem relaid_ok{t:SetTable}{hs:Array Int}{wanted:Nat}(hM:Msk (SetTable.sizeAbove wanted - 1))(hl:hs.size<SetTable.sizeAbove wanted - 1+1) :
  ∃t' ord,t.relaid hs wanted=some (t',ord)∧t'.mask=SetTable.sizeAbove wanted - 1∧t'.dummies=#[]∧t'.place.size=hs.size∧t'.led=t.led∧ord.size=hs.size∧∀v∈ord.toList,v<hs.size:=by
 obtain⟨ow,a,o1,o2,o3⟩:=fold_ok hM hs.toList (Array.replicate (SetTable.sizeAbove wanted - 1+1) none) 0 ⟨by simp,by simp[List.countP_replicate],by simp⟩ (by simpa using hl)
 rw[ψU1,Array.length_toList] at o2 o3
 unfold SetTable.relaid SetTable.laid SetTable.layClean
 rw[← Array.foldl_toList,a]
 have len:((ψr1 (SetTable.sizeAbove wanted - 1+1)).filterMap λj=>(ow.getD j none).map (j,·)).length=hs.size:=by
  rw[List.length_filterMap_eq_countP,← o2,← o1]
  have:ow.toList=(ψr1 ow.size).map λj=>ow.getD j none:=by
   apply List.ext_getElem
   ·simp
   ·intro i h1 h2
    simp at h1
    simp[Array.getD,h1]
  rw[this,List.countP_map]
  congr 1
  funext j
  simp
 refine⟨_,_,rfl,rfl,rfl,by simpa using len,rfl,by simpa using len,λv hv=>?_⟩
 rw[List.toList_toArray,List.mem_map] at hv
 obtain⟨⟨j,v'⟩,hm,rfl⟩:=hv
 obtain⟨j',_,e⟩:=List.mem_filterMap.mp hm
 refine o3 v' ?_
 cases c:ow.getD j' none with
 | none=>rw[c] at e;simp at e
 | some u =>
  rw[c] at e
  simp at e
  have:j'<ow.size:=by
   refine ψU λhn=>?_
   simp[Array.getD,hn] at c
  rw[← e.2,← c]
  simp[Array.getD,this]
end L2.St
namespace L2.St
open PySem
section
variable {P:Program} {w:World} {A:Around} {E:Value→Shared→Prop} {s:Shared}
end
end L2.St
namespace L2.St
open PySem
theorem ins_size{α:Type}(xs:Array α)(p:Nat)(x:α):(SetTable.insertAt xs p x).size=xs.size+1:=by
 unfold SetTable.insertAt
 simp only[Array.size_append,Array.size_push,Array.size_extract]
 (first|lia|omega)
theorem put_ok{t:SetTable}{j:Nat}(hd:t.dummies=#[]):(t.put j).1.dummies=#[]∧(t.put j).1.place.size=t.place.size+1∧(t.put j).1.mask=t.mask:=by
 unfold SetTable.put
 refine⟨?_,ins_size _ _ _,rfl⟩
 dsimp only
 rw[hd]
 simp[SetTable.has]
section
variable {P:Program} {w:World} {A:Around} {E:Value→Shared→Prop} {s:Shared}
theorem grow{M n:Nat}(hM:Msk M)(h1:n*5<M*3)(h2:(n+1)*5≥M*3)(hz:n<300):Msk (SetTable.sizeAbove (SetTable.grown (n+1)) - 1)∧(n+1)*5<(SetTable.sizeAbove (SetTable.grown (n+1)) - 1)*3∧¬ SetTable.sizeAbove (SetTable.grown (n+1)) > sizeLine:=by
 rcases hM with rfl | rfl | rfl | rfl
 ·obtain rfl:n=4:=by (first|lia|omega)
  exact⟨.inr (.inl rfl),by decide,by decide⟩
 ·obtain rfl:n=18:=by (first|lia|omega)
  exact⟨.inr (.inr (.inl rfl)),by decide,by decide⟩
 ·obtain rfl:n=76:=by (first|lia|omega)
  exact⟨.inr (.inr (.inr rfl)),by decide,by decide⟩
 ·(first|lia|omega)
theorem lay_self{h:Heap}{S:Addr}{es es':Array (Int×Value)}{ep:Nat}{t t':SetTable}(T:h.get? S=some { cls:=.type "set",dict:=none,data:=.set es ep t,slots:=#[] }) :
  (h.update S (Obj.putSet es' t')).get? S=some { cls:=.type "set",dict:=none,data:=.set es' (ep+1) t',slots:=#[] }:=by
 have:=Heap.get?_update_self (Obj.putSet es' t') T (by rw[putSet_of es' t' rfl];rfl)
 rw[putSet_of es' t' rfl] at this;exact this
end
end L2.St
namespace L2.St
open PySem PySem.Spec
def kk(key:Nat→List Int)(ad:Nat→Addr):Nat→List (List Int×Addr)
 | 0=>[]
 | i+1=>(key i,ad i)::kk key ad i
section
variable {P:Program} {w:World} {A:Around} {E:Value→Shared→Prop} {s:Shared}
end
end L2.St
namespace L2
open PySem PySem.Spec PyProof.Rows
section
variable {X:Cx} {pins:List (Addr×Obj)} {s:Shared} {σ:St} {H:Hp}
variable {e:Expr} {t:TA} {p1 p2 pos1 pos2:Pos}
end
end L2
namespace L2.Sw
open PySem PySem.Spec PyProof.Rows
theorem ziF:Slot "set_iterator" "__next__" "set_iterator.__next__":=by
 refine .of (owner:="set_iterator") (n:="__next__") (by rw[typeLookup_type,builtinLookup_eq_fast];kernel_rfl) ?_ ?_ ?_ ?_ (by rw[isSubtype_type];kernel_rfl)
 ·decide +kernel
 ·decide +kernel
 ·decide +kernel
 ·first | exact .inl (by decide +kernel) | exact .inr (by decide +kernel)
theorem zro:Slot "set_iterator" "__iter__" "set_iterator.__iter__":=by
 refine .of (owner:="set_iterator") (n:="__iter__") (by rw[typeLookup_type,builtinLookup_eq_fast];kernel_rfl) ?_ ?_ ?_ ?_ (by rw[isSubtype_type];kernel_rfl)
 ·decide +kernel
 ·decide +kernel
 ·decide +kernel
 ·first | exact .inl (by decide +kernel) | exact .inr (by decide +kernel)
theorem zq5:entryFor table "set_iterator.__next__"=some Builtin.«set_iterator.__next__»:=entryFor_of_tree (by kernel_rfl)
theorem zz0:Manifest.owners.lookup (String.ofList "rotareti_tes".toList.reverse)=some Manifest.sig_set_iterator:=by kernel_rfl
theorem zs9(v:Value):argsOk "set_iterator.__next__" ⟨[v],[]⟩:=by
 unfold argsOk
 rw[signature?_of (id:="set_iterator.__next__") (n:="__txen__".toList) (o:="rotareti_tes".toList) (by kernel_rfl) zz0]
 kernel_rfl
theorem zxR:entryFor table "set.__iter__"=some Builtin.«frozenset.__iter__»:=entryFor_alias (id':="frozenset.__iter__") (by kernel_rfl) rfl (by decide +kernel) (by kernel_rfl)
theorem ztL:entryFor table "set_iterator.__iter__"=some Builtin.«dict_keyiterator.__iter__»:=entryFor_alias (id':="dict_keyiterator.__iter__") (by kernel_rfl) rfl (by decide +kernel) (by kernel_rfl)
theorem zvf(v:Value):argsOk "set_iterator.__iter__" ⟨[v],[]⟩:=by
 unfold argsOk
 rw[signature?_of (id:="set_iterator.__iter__") (n:="__reti__".toList) (o:="rotareti_tes".toList) (by kernel_rfl) zz0]
 kernel_rfl
def SI(h:Heap)(it S:Addr)(slot i n ep:Nat):Prop:=∃o,h.get? it=some o∧o.cls=.type "set_iterator"∧o.data=.fields #[rawInt slot,rawInt i,.ref S,rawInt n,rawInt ep]
def SO(h:Heap)(S:Addr)(es:Array (Int×Value))(ep:Nat)(t:SetTable):Prop:=h.get? S=some { cls:=.type "set",dict:=none,data:=.set es ep t,slots:=#[] }
section
variable {P:Program} {w:World} {A:Around} {E:Value→Shared→Prop} {s:Shared} {it S:Addr} {es:Array (Int×Value)} {ep:Nat} {t:SetTable} {slot i:Nat}
theorem SI.ty(x:SI s.heap it S slot i es.size ep):s.TypeIs (.ref it) "set_iterator":=let ⟨o,ho,hc,_⟩:=x;⟨o,ho,hc⟩
theorem SO.ty(x:SO s.heap S es ep t):s.TypeIs (.ref S) "set":=⟨_,x,rfl⟩
theorem zgQ{Q:(Array (Int×Value)×Nat×SetTable)→Shared→Prop}(x:SO s.heap S es ep t)(f:t.fits es.size=true)(q:Q (es,ep,t) s):wpAny (model P w) A (setState S) Q E s :=
 wpAny_setState_of x rfl f q
theorem zsD{v:Value}{B:Nat→Prop}{Q:Option Value→Shared→Prop}(hi:SI s.heap it S slot i es.size ep)(x:SO s.heap S es ep t)(f:t.fits es.size=true)
  (nx:∀(A':Around) (E':Value→Shared→Prop) (Q':Option (Value×Nat)→Shared→Prop),(∀slot',B slot'→Q' (some (v,slot')) s)→wpAny (model P w) A' (setNext S slot i ep) Q' E' s)
  (q:∀slot' h',B slot'→SI h' it S slot' (i+1) es.size ep→Heap.SameBut it s.heap h'→Q (some v) { s with heap:=h' }) :
  wpAny (model P w) A (pyNext (.ref it)) Q E s:=by
 obtain⟨o,ho,hc,hd⟩:=id hi
 unfold pyNext
 refine wpAny_bind (wpAny_attempt (wpAny_callSpecial?_slot (name:=Str.ofString "__next__") hi.ty ziF (wpAny_call_entry ziF hi.ty zq5 ?_ (zs9 _))))
 unfold Builtin.«set_iterator.__next__»;refine wpAny_bind (wpAny_of_eq (a:=(Value.ref it,[])) rfl ?_);refine wpAny_bind (wpAny_fieldsOf ho hd ?_)
 show wpAny _ _ (setEntries S >>= _) _ _ s
 refine wpAny_bind (wpAny_setEntries_of x rfl f ?_)
 dsimp only
 rw[if_neg (by simp)]
 refine wpAny_bind (nx _ _ _ λslot' hB=>?_)
 show wpAny _ _ (setField (.ref it) 0 (rawInt slot') >>= _) _ _ s;refine wpAny_bind (wpAny_setField ho hd (by simp) ?_)
 have g1:=Heap.get?_update_self (Obj.mapFields (·.setIfInBounds 0 (rawInt slot'))) ho (Obj.isFreed_of_fields (Obj.data_mapFields hd _))
 have d1:=Obj.data_mapFields hd (·.setIfInBounds 0 (rawInt slot'))
 refine wpAny_bind (wpAny_setField g1 d1 (by simp) ?_)
 refine wpAny_pure ⟨v,rfl,wpAny_pure (q slot' _ hB ⟨_,Heap.get?_update_self _ g1 (Obj.isFreed_of_fields (Obj.data_mapFields d1 _)),?_,?_⟩ ?_)⟩
 ·rw[Obj.cls_mapFields,Obj.cls_mapFields]
  exact hc
 ·rw[Obj.data_mapFields d1]
  simp[rawInt]
 ·exact(Heap.SameBut.update ..).trans (Heap.SameBut.update ..)
theorem zud{Q:Option Value→Shared→Prop}(hh:A.handled=none)(hi:SI s.heap it S slot i es.size ep)(x:SO s.heap S es ep t)(f:t.fits es.size=true)
  (nx:∀(A':Around) (E':Value→Shared→Prop) (Q':Option (Value×Nat)→Shared→Prop),Q' none s→wpAny (model P w) A' (setNext S slot i ep) Q' E' s)
  (q:∀h',Heap.ExtBut it s.heap h'→Q none { s with heap:=h' }) :
  wpAny (model P w) A (pyNext (.ref it)) Q E s:=by
 obtain⟨o,ho,hc,hd⟩:=id hi
 unfold pyNext
 refine wpAny_bind (wpAny_attempt (wpAny_callSpecial?_slot (name:=Str.ofString "__next__") hi.ty ziF (wpAny_call_entry ziF hi.ty zq5 ?_ (zs9 _))))
 unfold Builtin.«set_iterator.__next__»;refine wpAny_bind (wpAny_of_eq (a:=(Value.ref it,[])) rfl ?_);refine wpAny_bind (wpAny_fieldsOf ho hd ?_)
 show wpAny _ _ (setEntries S >>= _) _ _ s
 refine wpAny_bind (wpAny_setEntries_of x rfl f ?_)
 dsimp only
 rw[if_neg (by simp)]
 refine wpAny_bind (nx _ _ _ ?_);show wpAny _ _ (setField (.ref it) 2 .none >>= _) _ _ s;refine wpAny_bind (wpAny_setField ho hd (by simp) ?_)
 refine wpAny_bind ?_
 simp only[newExc,newTuple]
 refine wpAny_bind (wpAny_newObj_type ?_ (by size_fits));refine wpAny_bind (m:=firstArgMember _ _) (wpAny_of_eq (a:=Value.none) (by first | rfl | (simp only[firstArgMember];rfl)) ?_);refine wpAny_newObj_type ?_ (by size_fits)
 simp only[raiseNew];refine wpAny_bind (wpAny_handled ?_);first | rw[show A.in1.handled=none from hh] | rw[hh]
 refine wpAny_bind (wpAny_pure (wpAny_throw ?_));refine wpAny_bind (wpAny_isInstance (T:="StopIteration") (b:=true) ⟨_,Heap.get?_push_size _ rfl,rfl⟩ isSubtype_stop ?_)
 exact wpAny_pure (q _ (((Heap.SameBut.update ..).extBut.push _).push _))
theorem ztn{Q:Value→Shared→Prop}(hi:SI s.heap it S slot i es.size ep)(q:Q (.ref it) s):wpAny (model P w) A (pyIter (.ref it)) Q E s:=by
 refine wpAny_pyIter_slot hi.ty zro (wpAny_call_entry zro hi.ty ztL ?_ (zvf _))
 show wpAny _ _ (ret (.ref it)) _ _ s;exact wpAny_pure ⟨_,rfl,"set_iterator",_,hi.ty,ziF.lookup,q⟩
theorem zuS{Q:Value→Shared→Prop}(x:SO s.heap S es ep t)(f:t.fits es.size=true)(dr:∀(A':Around) (E':Value→Shared→Prop) (Q':Bool→Shared→Prop),Q' false s→wpAny (model P w) A' (setDrawn S) Q' E' s)
  (q:Q (.ref s.heap.objs.size) { s with heap:=s.heap.push { cls:=.type "set_iterator",data:=.fields #[rawInt 0,rawInt 0,.ref S,rawInt es.size,rawInt ep] } }) :
  wpAny (model P w) A (pyIter (.ref S)) Q E s:=by
 refine wpAny_pyIter_slot x.ty PySem.F.slot_set_iter (wpAny_call_entry PySem.F.slot_set_iter x.ty zxR ?_ (PySem.F.args_set_iter_1 _))
 unfold Builtin.«frozenset.__iter__»
 refine wpAny_bind (wpAny_of_eq (a:=S) rfl ?_)
 refine wpAny_bind (m:=Builtin.Frozenset.sizeOf S) ?_
 unfold Builtin.Frozenset.sizeOf
 refine wpAny_bind (wpAny_setEntries_of x rfl f (wpAny_pure ?_))
 refine wpAny_bind (dr _ _ _ ?_);simp only[Bool.false_eq_true,if_false];refine wpAny_bind (wpAny_pure ?_)
 refine wpAny_bind (wpAny_setEpoch_of x rfl f ?_)
 refine wpAny_bind (wpAny_newObj_type (wpAny_pure ⟨_,rfl,"set_iterator",_,⟨_,Heap.get?_push_size _ rfl,rfl⟩,ziF.lookup,q⟩))
theorem hint{Q:Bool→Shared→Prop}(x:SO s.heap S es ep t)(q:Q false s):wpAny (model P w) A (Builtin.List.listLengthHint (.ref S)) Q E s:=by
 unfold Builtin.List.listLengthHint;refine wpAny_bind (wpAny_specialOf x.ty PySem.F.slot_set_len.lookup ?_)
 generalize e:("set.__len__":String)=nm
 wp_delta
 rw[show splitId nm=some ("set","__len__") from by subst e;decide +kernel];subst e
 refine wpAny_bind (wpAny_isInstance (T:="set") (b:=true) x.ty (by rw[isSubtype_type];kernel_rfl) ?_)
 refine wpAny_ite_split (λz=>absurd z (by decide)) λ_=>wpAny_ite_split (λ_=>wpAny_bind (wpAny_typeOf x.ty (wpAny_pure q))) λz=>absurd (by decide +kernel) z
theorem zgo{Q:Bool→Shared→Prop}(q:Q (w.params.followText "set-order") s):wpAny (model P w) A setsByText Q E s:=by
 unfold setsByText
 exact wpAny_bind (wpAny_askSetting (wpAny_pure q))
theorem znT{xs:Array Nat}{j:Nat}(h:xs.toList.Pairwise (·<·)):∀(fuel lo hi:Nat),hi - lo≤fuel→lo≤hi→hi≤xs.size→(∀(k v:Nat),xs[k]?=some v→k<lo→v<j)→(∀(k v:Nat),xs[k]?=some v→hi≤k→j≤v) →
  SetTable.below.go xs j fuel lo hi≤xs.size∧(∀(k v:Nat),xs[k]?=some v→k<SetTable.below.go xs j fuel lo hi→v<j)∧∀(k v:Nat),xs[k]?=some v→SetTable.below.go xs j fuel lo hi≤k→j≤v
 | 0,lo,hi,h1,h2,h3,h4,h5=>by
  have:lo=hi:=by (first|lia|omega)
  subst this
  exact⟨h3,h4,h5⟩
 | fuel+1,lo,hi,h1,h2,h3,h4,h5=>by
  have mono:∀{k m v u:Nat},xs[k]?=some v→xs[m]?=some u→k<m→v<u:=fun {k m v u} e1 e2 l=>by
   rw[← Array.getElem?_toList] at e1 e2
   obtain⟨l1,rfl⟩:=List.getElem?_eq_some_iff.mp e1
   obtain⟨l2,rfl⟩:=List.getElem?_eq_some_iff.mp e2
   exact List.pairwise_iff_getElem.mp h _ _ l1 l2 l
  unfold SetTable.below.go
  by_cases c:lo<hi
  ·rw[if_pos c]
   dsimp only
   have hm:(lo+hi) / 2<hi:=by (first|lia|omega)
   have hl:lo≤(lo+hi) / 2:=by (first|lia|omega)
   generalize (lo+hi) / 2=mid at hm hl ⊢
   have em:xs[mid]?=some xs[mid]:=Array.getElem?_eq_getElem (by (first|lia|omega))
   have eg:xs.getD mid j=xs[mid]:=by
    rw[Array.getD_eq_getD_getElem?,em]
    rfl
   rw[eg]
   by_cases d:xs[mid]<j
   ·rw[if_pos d]
    refine znT h fuel (mid+1) hi (by (first|lia|omega)) (by (first|lia|omega)) h3 (λk v e l=>?_) h5
    rcases Nat.lt_or_ge k mid with l' | l'
    ·exact ψg1 (mono e em l') d
    ·obtain rfl:k=mid:=by (first|lia|omega)
     rw[em] at e
     cases e
     exact d
   ·rw[if_neg d]
    refine znT h fuel lo mid (by (first|lia|omega)) hl (by (first|lia|omega)) h4 λk v e l=>?_
    rcases Nat.lt_or_ge mid k with l' | l'
    ·exact ψt1 (ψZ1 (Nat.le_of_not_lt d) (mono em e l'))
    ·obtain rfl:k=mid:=by (first|lia|omega)
     rw[em] at e
     cases e
     exact Nat.le_of_not_lt d
  ·rw[if_neg c]
   have:lo=hi:=by (first|lia|omega)
   subst this
   exact⟨h3,h4,h5⟩
theorem zgL{xs:Array Nat}(j:Nat)(h:xs.toList.Pairwise (·<·)):SetTable.below xs j≤xs.size∧(∀(k v:Nat),xs[k]?=some v→k<SetTable.below xs j→v<j)∧∀(k v:Nat),xs[k]?=some v→SetTable.below xs j≤k→j≤v :=
 znT h xs.size 0 xs.size (ψh _) (ψh1 _) (ψh _) (λ_ _ _ z=>absurd z (ψn1 _)) λk v e z=>absurd (Array.getElem?_eq_some_iff.mp e).1 (by (first|lia|omega))
theorem zqc{xs:Array Nat}{i j:Nat}(h:xs.toList.Pairwise (·<·))(e:xs[i]?=some j):SetTable.below xs (j+1)=i+1:=by
 obtain⟨h1,h2,h3⟩:=zgL (j+1) h
 have a1:¬ SetTable.below xs (j+1)≤i:=λz=>absurd (h3 i j e z) (by (first|lia|omega))
 have a2:¬ i+1<SetTable.below xs (j+1):=λz=>by
  have l:i+1<xs.size:=by (first|lia|omega)
  have e2:xs[i+1]?=some xs[i+1]:=Array.getElem?_eq_getElem l
  have u1:=h2 _ _ e2 z
  rw[← Array.getElem?_toList] at e e2
  obtain⟨l1,z1⟩:=List.getElem?_eq_some_iff.mp e
  obtain⟨l2,z2⟩:=List.getElem?_eq_some_iff.mp e2
  have u2:=List.pairwise_iff_getElem.mp h _ _ l1 l2 (ψS1 i)
  (first|lia|omega)
 (first|lia|omega)
theorem zp4{xs:Array Nat}(h:xs.toList.Pairwise (·<·)):SetTable.below xs 0=0:=by
 obtain⟨h1,h2,_⟩:=zgL 0 h
 rcases Nat.eq_zero_or_pos (SetTable.below xs 0) with z | z
 ·exact z
 ·exact absurd (h2 0 _ (Array.getElem?_eq_getElem (by (first|lia|omega))) z) (ψn1 _)
theorem zul{xs:Array Nat}{j:Nat}(h:xs.toList.Pairwise (·<·))(n:j∉xs.toList):(SetTable.insertAt xs (SetTable.below xs j) j).toList.Pairwise (·<·):=by
 obtain⟨h1,h2,h3⟩:=zgL j h
 generalize SetTable.below xs j=p at h1 h2 h3 ⊢
 have e:(SetTable.insertAt xs p j).toList=xs.toList.take p++([j]++xs.toList.drop p):=by
  unfold SetTable.insertAt
  simp only[Array.toList_append,Array.toList_push,Array.toList_extract,List.extract_eq_drop_take,List.drop_zero,Nat.sub_zero,List.append_assoc]
  rw[ψK (l:=xs.toList.drop p) (by rw[ψR1,Array.length_toList];(first|lia|omega))]
 rw[e]
 have m1:∀v∈xs.toList.take p,v<j:=λv hv=>by
  obtain⟨k,ek⟩:=ψr hv
  rw[List.getElem?_take] at ek
  split at ek
  ·exact h2 k v (by rw[← Array.getElem?_toList];exact ek) (by assumption)
  ·cases ek
 have m2:∀v∈xs.toList.drop p,j<v:=λv hv=>by
  obtain⟨k,ek⟩:=ψr hv
  rw[List.getElem?_drop] at ek
  have:=h3 (p+k) v (by rw[← Array.getElem?_toList];exact ek) (by (first|lia|omega))
  have ne:v≠j:=λz=>n (z ▸ ψN1 hv)
  (first|lia|omega)
 refine List.pairwise_append.mpr ⟨h.sublist (List.take_sublist _ _),List.pairwise_append.mpr ⟨List.pairwise_singleton _ _,h.sublist (List.drop_sublist _ _),λa ha b hb=>?_⟩,λa ha b hb=>?_⟩
 ·rw[List.mem_singleton.mp ha]
  exact m2 b hb
 ·rcases List.mem_append.mp hb with hb | hb
  ·rw[List.mem_singleton.mp hb]
   exact m1 a ha
  ·exact ψg1 (m1 a ha) (m2 b hb)
def Led(w:World)(t:SetTable):Prop:=w.params.followText "set-order"=true∨(t.led=true∧t.plain=true∧t.place.toList.Pairwise (·<·))
theorem zt1{Q:Bool→Shared→Prop}(x:SO s.heap S es ep t)(f:t.fits es.size=true)(l:Led w t)(q:Q false s):wpAny (model P w) A (setDrawn S) Q E s:=by
 unfold setDrawn
 refine wpAny_bind (zgQ x f ?_)
 refine wpAny_bind (zgo (wpAny_pure ?_))
 have e:(!w.params.followText "set-order"&&(!t.plain&&decide (es.size > 1)))=false:=by
  rcases l with l | ⟨_,l,_⟩ <;> rw[l]
  ·rfl
  ·rw[Bool.not_true,ψc1,Bool.and_false]
 exact(congrArg (λb=>Q b s) e).mpr q
def ord(w:World)(S:Addr)(es:Array (Int×Value))(ep:Nat):Array (Int×Value):=if w.params.followText "set-order"=true then pickOrder (w.params.setOrder S ep) es else es
theorem zxg{Q:Option (Value×Nat)→Shared→Prop}{v:Value}(x:SO s.heap S es ep t)(f:t.fits es.size=true)(l:Led w t)(hs:w.params.followText "set-order"=true∨SetTable.below t.place slot=i)(hv:((ord w S es ep)[i]?).map (·.2)=some v)
  (q:∀slot',(w.params.followText "set-order"=true∨SetTable.below t.place slot'=i+1)→Q (some (v,slot')) s):wpAny (model P w) A (setNext S slot i ep) Q E s:=by
 unfold setNext
 refine wpAny_bind (zgQ x f ?_)
 refine wpAny_bind (zgo ?_)
 by_cases tx:w.params.followText "set-order"=true
 ·rw[if_pos tx]
  dsimp only
  rw[if_neg (by simp)]
  refine wpAny_bind (m:=setWalk S) ?_
  unfold setWalk
  refine wpAny_bind (zgQ x f (wpAny_bind (zgo ?_)))
  rw[if_pos tx]
  refine wpAny_bind (wpAny_askSetting (wpAny_pure (wpAny_pure ?_)))
  unfold ord at hv
  rw[if_pos tx] at hv
  obtain⟨e,e1,e2⟩:=Option.map_eq_some_iff.mp hv
  show Q (Option.map (λe=>(e.snd,slot)) (pickOrder (w.params.setOrder S ep) es)[i]?) s
  rw[e1]
  subst e2
  exact q slot (.inl tx)
 ·obtain⟨l1,l2,l3⟩:=l.resolve_left tx
  have hb:=hs.resolve_left tx
  rw[if_neg tx]
  dsimp only
  unfold ord at hv
  rw[if_neg tx] at hv
  obtain⟨e,e1,e2⟩:=Option.map_eq_some_iff.mp hv
  have hp:t.place.size=es.size:=by
   unfold SetTable.fits at f
   rw[ψt,beq_iff_eq] at f
   exact f.1
  have hi:=(Array.getElem?_eq_some_iff.mp e1).1
  have e3:t.place[i]?=some t.place[i]:=Array.getElem?_eq_getElem (by (first|lia|omega))
  show wpAny _ _ (if (!t.plain&&decide (es.size > 1))=true then _ else _) _ _ s
  rw[if_neg (by rw[l2];simp)]
  show wpAny _ _ ((if (!t.led&&!es.isEmpty)=true then unsupported "set:maker-not-led" else pure ()) >>= _) _ _ s
  rw[if_neg (by rw[l1];simp)];refine wpAny_bind (wpAny_pure (wpAny_pure ?_))
  show Q (match es[SetTable.below t.place slot]?,t.place[SetTable.below t.place slot]? with
      | some (_,y),some k=>some (y,k+1)
      | _,_=>none) s
  rw[hb,e1,e3]
  subst e2
  exact q _ (.inr (zqc l3 e3))
theorem zq9{Q:Option (Value×Nat)→Shared→Prop}(x:SO s.heap S es ep t)(f:t.fits es.size=true)(l:Led w t)(hs:w.params.followText "set-order"=true∨SetTable.below t.place slot=i)(hv:(ord w S es ep)[i]?=none)
  (q:Q none s):wpAny (model P w) A (setNext S slot i ep) Q E s:=by
 unfold setNext
 refine wpAny_bind (zgQ x f ?_)
 refine wpAny_bind (zgo ?_)
 by_cases tx:w.params.followText "set-order"=true
 ·rw[if_pos tx]
  dsimp only
  rw[if_neg (by simp)]
  refine wpAny_bind (m:=setWalk S) ?_
  unfold setWalk
  refine wpAny_bind (zgQ x f (wpAny_bind (zgo ?_)))
  rw[if_pos tx]
  refine wpAny_bind (wpAny_askSetting (wpAny_pure (wpAny_pure ?_)))
  unfold ord at hv
  rw[if_pos tx] at hv
  show Q (Option.map (λe=>(e.snd,slot)) (pickOrder (w.params.setOrder S ep) es)[i]?) s
  rw[hv]
  exact q
 ·obtain⟨l1,l2,l3⟩:=l.resolve_left tx
  have hb:=hs.resolve_left tx
  rw[if_neg tx]
  dsimp only
  unfold ord at hv
  rw[if_neg tx] at hv
  show wpAny _ _ (if (!t.plain&&decide (es.size > 1))=true then _ else _) _ _ s
  rw[if_neg (by rw[l2];simp)]
  show wpAny _ _ ((if (!t.led&&!es.isEmpty)=true then unsupported "set:maker-not-led" else pure ()) >>= _) _ _ s
  rw[if_neg (by rw[l1];simp)];refine wpAny_bind (wpAny_pure (wpAny_pure ?_))
  show Q (match es[SetTable.below t.place slot]?,t.place[SetTable.below t.place slot]? with
      | some (_,y),some k=>some (y,k+1)
      | _,_=>none) s
  rw[hb,hv]
  exact q
theorem zm3{α:Type}{next:Nat→Nat}:∀(fuel k:Nat) (left:List α) (out:Array α),left.length=fuel→(pickOrder.go next fuel k left out).toList.Perm (out.toList++left)
 | 0,k,left,out,e=>by
  rw[ψR e,List.append_nil]
  exact .refl _
 | fuel+1,k,left,out,e=>by
  have l:next k % left.length<left.length:=Nat.mod_lt _ (by (first|lia|omega))
  unfold pickOrder.go
  generalize next k % left.length=i at l ⊢
  rw[ψc l]
  refine(zm3 fuel (k+1) (left.eraseIdx i) (out.push left[i]) (by rw[List.length_eraseIdx_of_lt l];(first|lia|omega))).trans ?_
  rw[Array.toList_push,List.append_assoc];refine List.Perm.append_left _ ?_
  rw[List.eraseIdx_eq_take_drop_succ]
  have e2:left=left.take i++left[i]::left.drop (i+1):=by rw[List.getElem_cons_drop,List.take_append_drop]
  exact(List.perm_middle (a:=left[i]) (l₁:=left.take i) (l₂:=left.drop (i+1))).symm.trans (.of_eq e2.symm)
theorem ord_perm:(ord w S es ep).toList.Perm es.toList:=by
 unfold ord
 split
 ·exact zm3 _ _ _ _ (Array.length_toList ..)
 ·exact .refl _
theorem src(f:t.fits es.size=true)(l:Led w t):PySem.W.KdlSrc P w "set" S S es.size (λi v=>((ord w S es ep)[i]?).map (·.2)=some v) (λh=>SO h S es ep t) where
 type:=λs x=>x.ty
 there:=λh x=>⟨Heap.lt_size x,Heap.lt_size x⟩
 keep:=λh h' x k=>k S (.inl rfl) _ x
 notList:=by decide
 notTuple:=by decide
 hint:=λA E s Q x q=>hint x q
 iter:=λA s hh x=>by
  have hne:S≠s.heap.objs.size:=ψl (Heap.lt_size x)
  have osz:(ord w S es ep).size=es.size:=by rw[← Array.length_toList,ord_perm.length_eq,Array.length_toList]
  refine⟨_,λi h=>(∃slot,SI h s.heap.objs.size S slot i es.size ep∧(w.params.followText "set-order"=true∨SetTable.below t.place slot=i))∧SO h S es ep t,λE Q q=>zuS x f (λA' E' Q' q'=>zt1 x f l q') q,?_,⟨0,⟨_,Heap.get?_push_size _ rfl,rfl,rfl⟩,?_⟩,Heap.get?_push_of_some _ x⟩
  ·exact {
    sub:=λb' hb'=>by rw[List.mem_singleton] at hb';rw[hb'];exact ψg
    frame:=λi h h' st hk=>⟨let ⟨slot,⟨o,ho,r⟩,b⟩:=st.1;⟨slot,⟨o,hk _ (by simp) o ho,r⟩,b⟩,hk S (by simp) _ st.2⟩
    item:=λi s' Q E hi st hQ=>by
     obtain⟨⟨slot,si,b⟩,so⟩:=st
     have e1:(ord w S es ep)[i]?=some (ord w S es ep)[i]:=Array.getElem?_eq_getElem (by (first|lia|omega))
     refine zsD si so f (λA' E' Q' q'=>zxg (v:=(ord w S es ep)[i].2) so f l b (by rw[e1];rfl) q') λslot' h' hB si' sm=>?_
     refine hQ _ h' s'.toks (by rw[e1];rfl) ⟨⟨slot',si',hB⟩,?_⟩ λb' o hb e=>sm.extBut b' o (λz=>hb (by simp[z])) e
     exact sm.extBut S _ hne so
    done:=λs' Q E st hQ=>by
     obtain⟨⟨slot,si,b⟩,so⟩:=st
     exact zud hh si so f (λA' E' Q' q'=>zq9 so f l b (Array.getElem?_eq_none (by (first|lia|omega))) q') λh' ex=>hQ h' s'.toks λb' o hb e=>ex b' o (λz=>hb (by simp[z])) e
    self:=λi s' Q E st hQ=>by
     obtain⟨⟨slot,si,b⟩,so⟩:=st
     exact ztn si hQ }
  ·rcases l with l | ⟨_,_,l⟩
   ·exact .inl l
   ·exact .inr (zp4 l)
def vI:Value→Int
 | .int k _=>k
 | _=>0
structure SJ (P:Program) (w:World) (h:Heap) (S:Addr) (es:Array (Int×Value)) (ep:Nat) (t:SetTable) (ds:List Int):Prop where
 ob:SO h S es ep t
 pl:t.place.size=es.size
 dm:t.dummies=#[]
 ms:St.Msk t.mask
 lo:es.size*5<t.mask*3
 pn:t.plain=true
 ld:w.params.followText "set-order"=true∨t.led=true
 rs:t.place.toList.Pairwise (·<·)
 el:∀e∈es.toList,∃k tk,e=((intKind P w).hash k,Value.int k tk)
 ks:(es.toList.map λe=>vI e.2).Perm ds
theorem SJ.fits{h:Heap}{ds:List Int}(T:SJ P w h S es ep t ds):t.fits es.size=true:=by
 have:=T.lo
 simp only[SetTable.fits,SetTable.fill,T.pl,T.dm,ψt,beq_self_eq_true,decide_eq_true_eq,true_and]
 show es.size+0≤t.mask
 (first|lia|omega)
theorem SJ.led{h:Heap}{ds:List Int}(T:SJ P w h S es ep t ds):Led w t:=T.ld.elim .inl λl=>.inr ⟨l,T.pn,T.rs⟩
theorem SJ.elems{h:Heap}{ds:List Int}(T:SJ P w h S es ep t ds):ElemsOf (intKind P w) es.toList:=λe he=>by
 obtain⟨k,tk,rfl⟩:=T.el e he
 exact⟨⟨k,intKind_is _ _ _ _,rfl⟩,rfl⟩
theorem zqx{j:Nat}(hd:t.dummies=#[])(h:t.slot j=.empty)(l:t.place.toList.Pairwise (·<·)):j∉t.place.toList:=by
 intro hm
 obtain⟨i,ei⟩:=ψr hm
 rw[Array.getElem?_toList] at ei
 obtain⟨h1,h2,h3⟩:=zgL j l
 have a1:¬ i<SetTable.below t.place j:=λz=>absurd (h2 i j ei z) (ψx1 _)
 have a2:¬ SetTable.below t.place j<i:=λz=>by
  have hi:=(Array.getElem?_eq_some_iff.mp ei).1
  have e2:t.place[SetTable.below t.place j]?=some t.place[SetTable.below t.place j]:=Array.getElem?_eq_getElem (by (first|lia|omega))
  have u:=h3 _ _ e2 (ψh _)
  rw[← Array.getElem?_toList] at ei e2
  obtain⟨l1,z1⟩:=List.getElem?_eq_some_iff.mp ei
  obtain⟨l2,z2⟩:=List.getElem?_eq_some_iff.mp e2
  have u2:=List.pairwise_iff_getElem.mp l _ _ l2 l1 z
  (first|lia|omega)
 have:SetTable.below t.place j=i:=by (first|lia|omega)
 unfold SetTable.slot at h
 rw[this] at h
 dsimp only at h
 rw[ei,if_pos (by simp)] at h
 cases h
theorem zqK{x:Int}(hd:t.dummies=#[]):∀(n fuel:Nat) (p:SetTable.Probe),St.Reach t n p→n<fuel→p.dummy=none→∃j,SetTable.probe.go t (λ_=>x+1) x fuel p=some (.empty j none)∧t.slot j=.empty
 | n,0,p,_,hn,_=>by (first|lia|omega)
 | n,fuel+1,p,hr,hn,hp=>by
  rw[SetTable.probe.go]
  rcases St.slot_cases hd p.j with e | ⟨i,e,_⟩
  ·exact⟨p.j,by rw[e];simp[hp],e⟩
  ·obtain⟨r,r1,r2⟩:=hr
   match r,r1,r2 with
   | 0,r1,r2=>exact absurd (show t.slot p.j=.empty from r2) (by rw[e];simp)
   | r+1,r1,r2 =>
    obtain⟨j,a,b⟩:=zqK (x:=x) hd (n - 1) fuel (t.advance p) ⟨r,by (first|lia|omega),r2⟩ (by (first|lia|omega)) (by rw[St.adv_dummy,hp])
    have c:((x+1:Int) == x)=false:=by
     rw[Bool.eq_false_iff]
     intro z
     have:=eq_of_beq z
     (first|lia|omega)
    exact⟨j,by rw[e];simpa [c] using a,b⟩
theorem zwD{h:Heap}{ds:List Int}(T:SJ P w h S es ep t ds)(x:Int)(v:Value):∃(p:Nat) (t2:SetTable),layNew t es x v=(SetTable.insertAt es p (x,v),t2,false,false)∧t2.mask=t.mask∧t2.dummies=#[]∧t2.place.size=es.size+1∧t2.plain=true∧t2.led=t.led∧t2.place.toList.Pairwise (·<·):=by
 have lo:=T.lo
 have hl:t.place.size<t.mask+1:=by rw[T.pl];(first|lia|omega)
 have hr:=St.reach_start T.ms T.dm hl x
 have hf:∃j,t.freeSlot x=some (j,false)∧t.slot j=.empty:=by
  unfold SetTable.freeSlot SetTable.probe
  obtain⟨j,a,b⟩:=zqK (x:=x) T.dm _ (10*SetTable.turns t.mask) _ hr (by unfold SetTable.turns;(first|lia|omega)) rfl
  exact⟨j,by rw[a];rfl,b⟩
 obtain⟨j,e1,e2⟩:=hf
 obtain⟨a1,a2,a3⟩:=St.put_ok (t:=t) (j:=j) T.dm
 refine⟨SetTable.below t.place j,(t.put j).1,?_,a3,a1,by rw[a2,T.pl],T.pn,rfl,zul T.rs (zqx T.dm e2 T.rs)⟩
 unfold layNew
 rw[e1]
 have fit:(t.put j).1.fits (SetTable.insertAt es (SetTable.below t.place j) (x,v)).size=true:=by
  simp only[SetTable.fits,SetTable.fill,a1,a2,a3,St.ins_size,T.pl,ψt,beq_self_eq_true,decide_eq_true_eq,true_and]
  show es.size+1+0≤t.mask
  (first|lia|omega)
 show((SetTable.insertAt es (SetTable.below t.place j) (x,v)),((t.put j).1.orStandIn (SetTable.insertAt es (SetTable.below t.place j) (x,v)).size),false,!((t.put j).1.fits (SetTable.insertAt es (SetTable.below t.place j) (x,v)).size))=_
 unfold SetTable.orStandIn
 rw[if_pos fit,fit]
 rfl
theorem zuw{α:Type}(xs:Array α)(p:Nat)(x:α):(SetTable.insertAt xs p x).toList.Perm (x::xs.toList):=by
 refine(SetTable.insertAt_perm xs p x).trans ?_
 rw[Array.toList_push]
 exact List.perm_append_comm
theorem zqs:∀(r l:List Nat),r.Nodup→(∀v∈r,v∈l)→l.length=r.length→l.Perm r
 | [],l,_,_,e=>by rw[ψR e]
 | a::r,l,n,h,e=>by
  have ha:=h a ψg
  rw[List.nodup_cons] at n
  refine(List.perm_cons_erase ha).trans (List.Perm.cons _ (zqs r (l.erase a) n.2 (λv hv=>?_) ?_))
  ·exact(List.mem_erase_of_ne (λ(z:v=a)=>n.1 (z ▸ hv))).mpr (h v (ψe _ hv))
  ·rw[List.length_erase_of_mem ha,e]
   rfl
theorem zmV{M:Nat}{ow:Array (Option Nat)}:∀(fuel i p j:Nat),SetTable.layClean.free M ow fuel i p=some j→ow.getD j (some 0)=none
 | 0,i,p,j,e=>by
  unfold SetTable.layClean.free at e
  cases e
 | fuel+1,i,p,j,e=>by
  unfold SetTable.layClean.free at e
  split at e
  ·rename_i k hk
   cases e
   have:=List.find?_some hk
   simpa using this
  ·exact zmV fuel _ _ j e
theorem zoY{M:Nat}:∀(hs:List Int) (ow ow':Array (Option Nat)) (k k':Nat),(∀v,v<k→some v∈ow.toList) →
  (hs.foldl (λ(acc:Option (Array (Option Nat)×Nat)) h=>do
   let (owner,k) ← acc
   let j ← SetTable.layClean.free M owner (SetTable.turns M) (SetTable.bits h % (M+1)) (SetTable.bits h)
   pure (owner.setIfInBounds j (some k),k+1)) (some (ow,k)))=some (ow',k')→∀v,v<k'→some v∈ow'.toList
 | [],ow,ow',k,k',h,e=>by
  cases e
  exact h
 | x::hs,ow,ow',k,k',h,e=>by
  rw[List.foldl_cons] at e
  cases c:SetTable.layClean.free M ow (SetTable.turns M) (SetTable.bits x % (M+1)) (SetTable.bits x) with
  | none =>
   simp only[c,Option.bind_eq_bind,Option.bind_some,Option.bind_none] at e
   exfalso
   have:∀l:List Int,(l.foldl (λ(acc:Option (Array (Option Nat)×Nat)) h=>acc.bind λq=>(SetTable.layClean.free M q.1 (SetTable.turns M) (SetTable.bits h % (M+1)) (SetTable.bits h)).bind λj=>pure (q.1.setIfInBounds j (some q.2),q.2+1)) none)=none:=λl=>by
    induction l with
    | nil=>rfl
    | cons y l ih=>rw[List.foldl_cons];exact ih
   have z:=(this hs).symm.trans e
   cases z
  | some j =>
   simp only[c,Option.bind_eq_bind,Option.bind_some] at e
   refine zoY hs _ ow' _ k' (λv hv=>?_) e
   have nj:=zmV _ _ _ _ c
   obtain⟨lj,gj⟩:=St.getD_lt nj
   rw[Array.toList_setIfInBounds]
   rcases Nat.lt_or_ge v k with l | l
   ·obtain⟨i,ei⟩:=ψr (h v l)
    have ne:j≠i:=λz=>by
     subst z
     rw[Array.getElem?_toList,Array.getElem?_eq_getElem lj,gj] at ei
     cases ei
    exact ψS (by rw[List.getElem?_set_ne ne];exact ei)
   ·obtain rfl:v=k:=by (first|lia|omega)
    exact ψS (List.getElem?_set_self (by rw[Array.length_toList];exact lj))
theorem zvI{n:Nat}{t2:SetTable}{es2:Array (Int×Value)}(hM:St.Msk t2.mask)(hn:es2.size=n+1)(c1:n*5<t2.mask*3)(c2:(n+1)*5≥t2.mask*3)(hz:n<300)(pn:t2.plain=true) :
  ∃(es3:Array (Int×Value)) (t3:SetTable),relayAll t2 es2 (SetTable.grown es2.size)=(es3,t3,false)∧es3.toList.Perm es2.toList∧St.Msk t3.mask∧(n+1)*5<t3.mask*3∧t3.dummies=#[]∧t3.place.size=n+1∧t3.plain=true∧t3.led=t2.led∧t3.place.toList.Pairwise (·<·):=by
 obtain⟨g1,g2,g3⟩:=St.grow hM c1 c2 hz
 rw[← hn] at g1 g2
 obtain⟨t3,od,r1,r2,r3,r4,r5,r6,r7⟩:=St.relaid_ok (t:=t2) (hs:=es2.map (·.1)) g1 (by rw[Array.size_map];(first|lia|omega))
 rw[Array.size_map] at r4 r6 r7
 have key:t3.plain=true∧t3.place.toList.Pairwise (·<·)∧∀v,v<es2.size→v∈od.toList:=by
  have r:=r1
  obtain⟨ow,a,o1,o2,o3⟩:=St.fold_ok g1 (es2.map (·.1)).toList (Array.replicate (SetTable.sizeAbove (SetTable.grown es2.size) - 1+1) none) 0 ⟨by simp,by simp[List.countP_replicate],by simp⟩ (by simp;(first|lia|omega))
  have al:=zoY _ _ _ _ _ (λv hv=>absurd hv (ψn1 v)) a
  rw[ψU1,Array.length_toList,Array.size_map] at al
  unfold SetTable.relaid SetTable.laid SetTable.layClean at r
  rw[← Array.foldl_toList,a] at r
  simp only[Option.map_some,Option.bind_eq_bind,Option.bind_some] at r
  have r':=Option.some.inj r
  cases r'
  refine⟨pn,?_,λv hv=>?_⟩
  ·show(List.toArray _).toList.Pairwise (·<·)
   rw[List.toList_toArray,List.pairwise_map]
   refine List.Pairwise.filterMap _ (λa a' l b hb b' hb'=>?_) List.pairwise_lt_range
   obtain⟨u,_,rfl⟩:=Option.map_eq_some_iff.mp hb
   obtain⟨u',_,rfl⟩:=Option.map_eq_some_iff.mp hb'
   exact l
  ·rw[List.toList_toArray,List.mem_map]
   obtain⟨j,ej⟩:=ψr (al v hv)
   rw[Array.getElem?_toList] at ej
   have lj:=(Array.getElem?_eq_some_iff.mp ej).1
   refine⟨(j,v),List.mem_filterMap.mpr ⟨j,List.mem_range.mpr (by (first|lia|omega)),?_⟩,rfl⟩
   rw[Array.getD_eq_getD_getElem?,ej]
   rfl
 obtain⟨k1,k2,k3⟩:=key
 have pm:od.toList.Perm (ψr1 es2.size):=zqs _ _ List.nodup_range (λv hv=>k3 v (List.mem_range.mp hv)) (by rw[Array.length_toList,r6,List.length_range])
 have cv:coversAll od es2.size=true:=by
  unfold coversAll
  exact List.isPerm_iff.mpr pm
 have pe:(od.filterMap (es2[·]?)).toList.Perm es2.toList:=by
  rw[Array.toList_filterMap]
  refine(pm.filterMap _).trans (.of_eq (filterMap_getElem?_range es2))
 have sz:(od.filterMap (es2[·]?)).size=es2.size:=by rw[← Array.length_toList,pe.length_eq,Array.length_toList]
 have ft:t3.fits (od.filterMap (es2[·]?)).size=true:=by
  simp only[SetTable.fits,SetTable.fill,r3,r4,sz,ψt,beq_self_eq_true,decide_eq_true_eq,true_and]
  show es2.size+0≤t3.mask
  rw[r2]
  (first|lia|omega)
 refine⟨_,t3,?_,pe,by rw[r2];exact g1,by rw[r2,← hn];exact g2,r3,by rw[r4,hn],k1,r5,k2⟩
 unfold relayAll
 rw[r1]
 dsimp only
 rw[if_pos (by rw[cv,ft];rfl)]
theorem addJ{k:Int}{tk:Tok}{ds:List Int}{Q:Bool→Shared→Prop}(T:SJ P w s.heap S es ep t ds)(hz:es.size<300)
  (q:∀h' b es' ep' t',SJ P w h' S es' ep' t' (if k∈ds then ds else k::ds)→Heap.SameBut S s.heap h'→Q b { s with heap:=h' }) :
  wpAny (model P w) A (setAddHashed S (.int k tk) ((intKind P w).hash k)) Q E s:=by
 have bd:es.size<scanBound:=ψg1 hz (by decide);unfold setAddHashed setAddHashedIn
 refine wpAny_holding (wpAny_bind (zgQ T.ob T.fits ?_))
 dsimp only
 rw[byScan_of (knd:=intKind P w) rfl bd T.elems,if_pos rfl]
 unfold setAddByScan
 refine wpAny_bind (wpAny_bind (wpAny_rule (wpAny_bind (wpAny_setScan_of (knd:=intKind P w) (intKind_is _ _ _ _) T.ob rfl T.fits T.elems ?_))))
 have mem:∀e∈es.toList,(intKind P w).is k e.2=true↔vI e.2=k:=λe he=>by
  obtain⟨k',tk',rfl⟩:=T.el e he
  simp only[intKind,Value.isInt,vI]
  exact beq_iff_eq
 have inD:k∈ds↔∃e∈es.toList,(intKind P w).is k e.2=true:=by
  rw[← T.ks.mem_iff,List.mem_map]
  exact⟨λ⟨e,h1,h2⟩=>⟨e,h1,(mem e h1).mpr h2⟩,λ⟨e,h1,h2⟩=>⟨e,h1,(mem e h1).mp h2⟩⟩
 cases hr:List.findIdx? (λe=>(intKind P w).is k e.2) es.toList with
 | some j =>
  obtain⟨hj,hp,_⟩:=List.findIdx?_eq_some_iff_getElem.mp hr
  have hk:k∈ds:=inD.mpr ⟨_,ψA1 hj,hp⟩
  rw[if_pos hk] at q
  exact wpAny_pure (wpAny_pure (q s.heap false es ep t T (Heap.SameBut.refl S s.heap)))
 | none =>
  have hk:k∉ds:=λz=>by
   obtain⟨e,h1,h2⟩:=inD.mp z
   rw[List.findIdx?_eq_none_iff.mp hr e h1] at h2
   cases h2
  rw[if_neg hk] at q
  obtain⟨p,t2,e1,m2,d2,p2,pn2,l2,r2⟩:=zwD T ((intKind P w).hash k) (.int k tk)
  dsimp only
  rw[e1]
  dsimp only
  have sz:(SetTable.insertAt es p ((intKind P w).hash k,Value.int k tk)).size=es.size+1:=St.ins_size _ _ _
  have pm:=zuw es p ((intKind P w).hash k,Value.int k tk)
  generalize SetTable.insertAt es p ((intKind P w).hash k,Value.int k tk)=es2 at sz pm ⊢
  have zl:es.size+1≤sizeLine:=by rw[sizeLine_eq];(first|lia|omega)
  have fl:t2.fill=es.size+1:=by simp[SetTable.fill,d2,p2]
  have el2:∀e∈es2.toList,∃k tk,e=((intKind P w).hash k,Value.int k tk):=λe he=>by
   rcases List.mem_cons.mp (pm.mem_iff.mp he) with rfl | he
   ·exact⟨_,_,rfl⟩
   ·exact T.el e he
  have ks2:(es2.toList.map λe=>vI e.2).Perm (k::ds):=(pm.map _).trans (List.Perm.cons _ T.ks)
  have ld2:w.params.followText "set-order"=true∨t2.led=true:=by rw[l2];exact T.ld
  show wpAny _ _ (pure () >>= _) _ _ s;refine wpAny_bind (wpAny_pure ?_)
  rw[if_pos pn2,hashByValue_scannable 8 (x:=.int k tk) rfl];refine wpAny_bind (wpAny_pure ?_)
  dsimp only [plainKind]
  rw[if_pos rfl]
  refine wpAny_bind (wpAny_storeSet_of T.ob rfl ?_ (by rw[sz];exact zl))
  have sb:=Heap.SameBut.update s.heap S (Obj.putSet es2 t2)
  have o1:=St.lay_self (es':=es2) (t':=t2) T.ob
  by_cases c:(!false&&t2.tooFull)=true
  ·rw[if_pos c]
   have c':(es.size+1)*5≥t.mask*3:=by
    simp only[Bool.not_false,ψz1,SetTable.tooFull,decide_eq_true_eq,fl,m2] at c
    exact c
   obtain⟨es3,t3,f1,f2,f3,f4,f5,f6,f7,f8,f9⟩:=zvI (n:=es.size) (t2:=t2) (es2:=es2) (by rw[m2];exact T.ms) sz (by rw[m2];exact T.lo) (by rw[m2];exact c') hz pn2
   rw[f1]
   dsimp only
   have sz3:es3.size=es.size+1:=by rw[← Array.length_toList,f2.length_eq,Array.length_toList,sz]
   show wpAny _ _ (pure () >>= _) _ _ _;refine wpAny_bind (wpAny_pure ?_)
   refine wpAny_bind (wpAny_storeSet_of (s:={ s with heap:=_ }) o1 rfl ?_ (by rw[sz3];exact zl))
   refine wpAny_pure (wpAny_pure (q _ true es3 _ t3 ⟨St.lay_self o1,by rw[f6,sz3],f5,f3,by rw[sz3];exact f4,f7,by rw[f8];exact ld2,f9,λe he=>el2 e (f2.mem_iff.mp he),(f2.map _).trans ks2⟩ (sb.trans (Heap.SameBut.update _ S _))))
  ·rw[if_neg c]
   refine wpAny_pure (wpAny_pure (q _ true es2 _ t2 ⟨o1,by rw[p2,sz],d2,by rw[m2];exact T.ms,?_,pn2,ld2,r2,el2,ks2⟩ sb))
   simp only[Bool.not_false,ψz1,SetTable.tooFull,decide_eq_true_eq,fl,m2] at c
   rw[sz,m2]
   (first|lia|omega)
def dd(val:Nat→Int):Nat→List Int
 | 0=>[]
 | i+1=>if val i∈dd val i then dd val i else val i::dd val i
theorem dd_len(val:Nat→Int):∀i,(dd val i).length≤i
 | 0=>ψh _
 | i+1=>by
  have:=dd_len val i
  unfold dd
  split
  ·(first|lia|omega)
  ·rw[ψN]
   (first|lia|omega)
theorem dd_nodup(val:Nat→Int):∀i,(dd val i).Nodup
 | 0=>List.nodup_nil
 | i+1=>by
  unfold dd
  split
  ·exact dd_nodup val i
  ·exact List.nodup_cons.mpr ⟨by assumption,dd_nodup val i⟩
theorem dd_mem(val:Nat→Int){x:Int}:∀{i},x∈dd val i↔∃j,j<i∧val j=x
 | 0=>⟨λh=>(nomatch h),λ⟨j,h,_⟩=>absurd h (ψn1 j)⟩
 | i+1=>by
  have ih:=dd_mem val (x:=x) (i:=i)
  have e:x∈dd val (i+1)↔x∈dd val i∨val i=x:=by
   show x∈(if val i∈dd val i then dd val i else val i::dd val i)↔_
   split
   ·rename_i h
    exact⟨.inl,λz=>z.elim id λe=>e ▸ h⟩
   ·rw[ψv]
    exact⟨λz=>z.elim (λe=>.inr e.symm) .inl,λz=>z.elim .inr λe=>.inl e.symm⟩
  rw[e,ih]
  constructor
  ·rintro(⟨j,h1,h2⟩ | h)
   ·exact⟨j,by (first|lia|omega),h2⟩
   ·exact⟨i,by (first|lia|omega),h⟩
  ·rintro⟨j,h1,h2⟩
   rcases Nat.lt_or_ge j i with l | l
   ·exact .inl ⟨j,l,h2⟩
   ·obtain rfl:j=i:=by (first|lia|omega)
    exact .inr h2
theorem SJ.keep{h h':Heap}{ds:List Int}(T:SJ P w h S es ep t ds)(e:∀o,h.get? S=some o→h'.get? S=some o):SJ P w h' S es ep t ds :=
 ⟨e _ T.ob,T.pl,T.dm,T.ms,T.lo,T.pn,T.ld,T.rs,T.el,T.ks⟩
theorem SJ.size{h:Heap}{ds:List Int}(T:SJ P w h S es ep t ds):es.size=ds.length:=by
 rw[← T.ks.length_eq,ψb,Array.length_toList]
theorem loopJ{R:Result→Shared→Prop}{I:Addr}{fp wr:List Addr}{G:Array GenState→Array GenState→Prop}{n:Nat}{V:Nat→Value→Prop}{Z:Nat→Shared→Prop}
  (W:WalksS P w A.in1 I fp wr G n V Z) (S:Addr) (nS:S∉fp) (val:Nat→Int) (hv:∀i v,V i v→∃tk,v=.int (val i) tk) (hz:n<300) :
  ∀(k i:Nat) (s:Shared) (es:Array (Int×Value)) (ep:Nat) (t:SetTable),n - i=k→i≤n→Z i s→SJ P w s.heap S es ep t (dd val i) →
   (∀s' es' ep' t',Moved (S::wr) G s s'→SJ P w s'.heap S es' ep' t' (dd val n)→R (.ok (.ret .none)) s') →
   codeAny (model P w) A (.builtin "set.update.loop" ⟨[.ref S,.ref I],[]⟩) R s:=by
 have nW:S∉wr:=λh=>nS (W.sub _ h)
 have sb:∀b∈wr,b∈S::wr:=λb hb=>ψe _ hb
 intro k
 induction k with
 | zero =>
  intro i s es ep t ek hi st T q
  obtain rfl:i=n:=by (first|lia|omega)
  refine codeAny_builtin PyProof.Rows.F.entry_set_update_loop ?_;rw[Around.under_plainId ψI1 _]
  show wpAny _ A.in1 (pyNext (.ref I) >>= _) _ _ s;refine wpAny_bind (W.done s _ _ st λs' hm=>?_)
  show wpAny _ A.in1 (ret Value.none) _ _ s';exact wpAny_pure (q s' es ep t (hm.mono sb) (T.keep λo e=>hm.heap S o nW e))
 | succ k ih =>
  intro i s es ep t ek hi st T q
  have lt:i<n:=by (first|lia|omega)
  refine codeAny_builtin PyProof.Rows.F.entry_set_update_loop ?_;rw[Around.under_plainId ψI1 _]
  show wpAny _ A.in1 (pyNext (.ref I) >>= _) _ _ s;refine wpAny_bind (W.item i s _ _ lt st λv s' hP st' hm=>?_)
  obtain⟨tk,rfl⟩:=hv i v hP
  have T':SJ P w s'.heap S es ep t (dd val i):=T.keep λo e=>hm.heap S o nW e
  have zl:=dd_len val i
  have sz:=T'.size
  show wpAny _ A.in1 (holding [Value.int (val i) tk] (setAdd S (.int (val i) tk)) >>= _) _ _ s';refine wpAny_bind (wpAny_holding ?_)
  unfold setAdd
  refine wpAny_holding (wpAny_bind ((intKind P w).pyHash (k:=val i) (intKind_is _ _ _ _) ?_))
  refine addJ (s:={ s' with toks:=s'.toks+1 }) T' (by (first|lia|omega)) λh' b es' ep' t' T2 sm=>?_
  refine wpAny_pure ⟨plainId_quiet ψI1 _,ih (i+1) _ es' ep' t' (by (first|lia|omega)) lt (W.frame _ s' _ _ st' (Nat.le_succ _) λb hb o e=>?_) T2 λs'' es'' ep'' t'' hm'' T3=>?_⟩
  ·rw[sm.2 b (λh:b=S=>nS (by rw[← h];exact hb))];exact e
  ·refine q s'' es'' ep'' t'' (Moved.trans W.gtrans ((hm.mono sb).then_heap (Nat.le_succ _) λb o hb e=>?_) hm'') T3
   rw[sm.2 b (λh:b=S=>hb (by rw[h];exact ψg))];exact e
theorem zxP(v:Value){Q₁:Value→Shared→Prop}(h:Q₁ (.ref s.heap.objs.size) { s with heap:=s.heap.push { cls:=.type "set",dict:=none,data:=.set #[] 0 (.fresh 0 0 (!w.params.followText "set-order")) } }) :
  codeAny (model P w) A (.call (.builtin "set.__new__") ⟨[.type "set",v],[]⟩) (wants Q₁ E) s:=by
 refine codeAny_of_tree ?_;show wpAny _ A.in1 (do checkBuiltinCall "set.__new__" ⟨[.type "set",v],[]⟩;again (.builtin "set.__new__" ⟨[.type "set",v],[]⟩)) _ _ s
 refine wpAny_bind (wpAny_of_eq (PySem.F.newCall_set_1 v) (wpAny_pure ⟨plainId_quiet PySem.F.plain_set_new _,codeAny_builtin PySem.F.entry_set_new ?_⟩));rw[Around.under_plainId PySem.F.plain_set_new _]
 unfold Builtin.«set.__new__» Builtin.Frozenset.newClass;have hsub:=PySem.sub_set_self;obtain⟨hp,g,d,tk,os⟩:=s
 dsimp only;wp_walk
 refine wpAny_askSetting (wpAny_pure ?_);dsimp only;simp only[newObj]
 refine wpAny_bind (wpAny_alloc (wpAny_pure ?_));exact wpAny_pure h
set_option maxHeartbeats 3200000 in
theorem call_setJ{l:Addr}{its:Array Value}{val:Nat→Int}{Q:Value→Shared→Prop}
  (hh:A.handled=none) (hl:s.heap.IsList l its) (hv:∀(i:Nat) v,its[i]?=some v→∃tk,v=.int (val i) tk) (hz:its.size<300)
  (q:∀(h':Heap) (u:Nat) es ep t,SJ P w h' s.heap.objs.size es ep t (dd val its.size)→(∀b o,s.heap.get? b=some o→h'.get? b=some o)→Q (.ref s.heap.objs.size) { s with heap:=h',toks:=u }) :
  wpAny (model P w) A (call (.type "set") [.ref l]) Q E s:=by
 obtain⟨c0,tl0,mr⟩:=PySem.F.called_set.mro
 have mad:=PySem.F.called_set.made;have sub0:=PySem.F.called_set.sub;refine wpAny_call (codeAny_of_tree ?_)
 show wpAny _ _ (callAny (.type "set") _) _ _ _;refine wpAny_pure ⟨Code.quiet_builtin _ (by decide +kernel),codeAny_builtin PySem.F.entry_type_call ?_⟩;rw[Around.under_plain (weight_type_call_type "set" [.ref l] []) rfl]
 have h1:=PySem.F.called_set.notType;have h2:=PySem.F.called_set.canCreate;have tc:=PySem.F.typeCall_set_1 (.ref l);repeat (any_goals (first | assumption | wp_step))
 refine codeAny_mono (zxP (.ref l) (E:=E) (Q₁:=λob s₁=>∃led:Bool,led=!w.params.followText "set-order"∧ob=.ref s.heap.objs.size∧s₁={ s with heap:=s.heap.push { cls:=.type "set",dict:=none,data:=.set #[] 0 (.fresh 0 0 led) } }) ⟨_,rfl,rfl,rfl⟩) λr s₁ hr=>?_
 cases r with
 | error e=>exact hr
 | ok fl =>
  cases fl with
  | ret ob =>
   obtain⟨led,hled,rfl,rfl⟩:=hr
   have gS:(s.heap.push { cls:=.type "set",dict:=none,data:=.set #[] 0 (.fresh 0 0 led) }).get? s.heap.objs.size=some { cls:=.type "set",dict:=none,data:=.set #[] 0 (.fresh 0 0 led) }:=Heap.get?_push_size _ rfl
   have tyS:Shared.TypeIs { s with heap:=s.heap.push { cls:=.type "set",dict:=none,data:=.set #[] 0 (.fresh 0 0 led) } } (.ref s.heap.objs.size) "set":=⟨_,gS,rfl⟩
   have li:=PySem.F.called_set.init.lookup;have bi:=PySem.F.called_set.init.bind (.ref s.heap.objs.size);repeat (any_goals (first | assumption | wp_step))
   refine codeAny_mono (codeAny_call_builtin (R:=wants (λr s₂=>r=.none∧∃h' u es ep t,s₂={ s with heap:=h',toks:=u }∧SJ P w h' s.heap.objs.size es ep t (dd val its.size)∧(∀b o,s.heap.get? b=some o→h'.get? b=some o)) E) PySem.F.called_set.init.plain PySem.F.entry_set_init (check_set_init_1 tyS ?_)) λr₂ s₂ hr₂=>?_
   ·obtain⟨⟨oc,od,odt,os⟩,go,gc,nl,gd⟩:=hl
    simp only at gc gd
    subst gc;subst gd
    have go':(s.heap.push { cls:=.type "set",dict:=none,data:=.set #[] 0 (.fresh 0 0 led) }).get? l=some { cls:=.type "list",dict:=od,data:=.seq its nl,slots:=os }:=Heap.get?_push_of_some _ go
    have b1:=PySem.F.sub_list_set;have b2:=PySem.F.sub_list_frozenset
    have b3:(Value.type "list" == Value.type "dict")=false:=by decide
    have hl1:(s.heap.push { cls:=.type "set",dict:=none,data:=.set #[] 0 (.fresh 0 0 led) }).IsList l its:=⟨_,go',rfl,nl,rfl⟩;unfold Builtin.«set.__init__» noKeywords Builtin.Frozenset.updateFrom
    generalize ePI:pyIter=PI
    wp_walk
    subst ePI
    refine wpAny_pyIter_list hl1 ?_;refine wpAny_bind (wpAny_runValue ?_)
    have lS:l<s.heap.objs.size:=Heap.lt_size go;have hh3:A.in1.in1.in1.handled=none:=by simp[hh]
    have sz1:(s.heap.push { cls:=.type "set",dict:=none,data:=.set #[] 0 (.fresh 0 0 led) }).objs.size=s.heap.objs.size+1:=Heap.size_push ..
    have nI:l≠(s.heap.push { cls:=.type "set",dict:=none,data:=.set #[] 0 (.fresh 0 0 led) }).objs.size:=by rw[sz1];exact ψl (ψF1 lS)
    have nSf:s.heap.objs.size∉[(s.heap.push { cls:=.type "set",dict:=none,data:=.set #[] 0 (.fresh 0 0 led) }).objs.size,l]:=by
     rw[sz1];simp only[ψv,ψp,or_false,not_or]
     exact⟨ψl (ψS1 _),ψD1 lS⟩
    refine loopJ ((Walks.list hh3 _ l nI its).toS) s.heap.objs.size nSf val hv hz (its.size - 0) 0 _ #[] 0 (.fresh 0 0 led) (by (first|lia|omega)) (ψh1 _) ⟨⟨_,Heap.get?_push_size _ rfl,rfl,rfl⟩,(hl1.push _)⟩ ⟨Heap.get?_push_of_some _ gS,rfl,rfl,.inl rfl,(by show 0*5<7*3;decide),rfl,?_,List.Pairwise.nil,λe he=>by simp at he,List.Perm.refl _⟩ ?_
    ·show w.params.followText "set-order"=true∨led=true
     rw[hled]
     cases w.params.followText "set-order" <;> simp
    ·intro s' es ep t hm T
     obtain⟨h',g',d',tk',os'⟩:=s';have eg:g'=s.gens:=hm.gens;have ed:d'=s.drawn:=hm.drawn
     have eo:os'=s.os:=hm.os
     subst eg;subst ed;subst eo
     show wpAny _ _ _ _ _ _;refine wpAny_pure ?_;show wpAny _ _ (ret Value.none) _ _ _
     refine wpAny_pure ⟨rfl,h',tk',es,ep,t,rfl,T,λb o e=>?_⟩
     have:=Heap.lt_size e
     refine hm.heap b o ?_ (Heap.get?_push_of_some _ (Heap.get?_push_of_some _ e))
     simp only[ψv,ψp,or_false,not_or]
     rw[sz1]
     exact⟨ψl this,ψl (ψF1 this)⟩
   ·cases r₂ with
    | error e=>exact hr₂
    | ok fl₂ =>
     cases fl₂ with
     | ret r =>
      obtain⟨rfl,h',u,es,ep,t,rfl,g1,g4⟩:=hr₂;repeat (any_goals (first | assumption | wp_step))
      exact q _ _ _ _ _ g1 g4
     | _=>exact hr₂.elim
  | _=>exact hr.elim
end
end L2.Sw
namespace L2
open PySem PySem.Spec PyProof.Rows
def zk5(K:ψa):List V→Hp→VK→Prop:=λxs H Q=>∃(p:Addr) (ns:List Int),xs=[.ref p]∧SqL K H p (ns.map V.int)∧ns.length<64∧∀(l:Addr) (ms:List Int),H l=none→(∀x,x∈ms↔x∈ns)→ms.Pairwise (·<·)→ms.length≤ns.length→Q (.ref l) (upd H l (.lst (ms.map V.int)))
section
variable {X:Cx} {e:Expr} {t:TA} {p1 p2 pos1 pos2:Pos}
theorem ztq:∀{ms:List Int},ms.Pairwise (·≤·)→ms.Nodup→ms.Pairwise (·<·)
 | [],_,_=>.nil
 | a::ms,h,n=>by
  rw[List.pairwise_cons] at h ⊢
  rw[List.nodup_cons] at n
  refine⟨λb hb=>?_,ztq h.2 n.2⟩
  have h1:=h.1 b hb
  have h2:a≠b:=λz=>n.1 (z ▸ hb)
  (first|lia|omega)
theorem zp0(hgl:Gl X "sorted")(hml:X.mg "sorted"=none)(hgs:Gl X "set")(hms:X.mg "set"=none)(ha:PA X [e] t)(hc:X.calm=true:=by rfl)
  (he:starEach [e] X.env=(false,eval e X.env)::starEach [] X.env:=by rfl) (hpl:∀pos,(backTo pos (starEach [] X.env)).any (·.1)=false:=by intro _;rfl)
  (he2:starEach [.Call (.Name "set" p2) [e] [] pos2] X.env=(false,eval (.Call (.Name "set" p2) [e] [] pos2) X.env)::starEach [] X.env:=by rfl) :
  PE X (.Call (.Name "sorted" p1) [.Call (.Name "set" p2) [e] [] pos2] [] pos1) (tCB (zk5 X.K) t):=by
 intro pins s σ H Q I h
 refine wpAny_Call_Name_kw (zid I hgl hml boot_sorted ?_ (by decide) (by decide))
 refine PyProof.Rows.callWith_builtin1 ?_ he2 (hpl _);rw[he2]
 show wpAny _ _ (spliced ((false,eval (.Call (.Name "set" p2) [e] [] pos2) X.env)::backTo pos1 (starEach [] X.env))) _ _ s;refine Calls.spliced_cons ?_
 refine wpAny_Call_Name_kw (zid I hgs hms PyProof.Rows.boot_set ?_ (by decide) (by decide))
 refine ψj1 (thn (ha pos2 pins s σ H _ I h) λus s1 hQ'=>?_) he (hpl _)
 obtain⟨vs,H1,I1,r1,q1⟩:=hQ'
 obtain⟨p,ns,rfl,hp,l64,q⟩:=q1
 obtain⟨u,rfl,rx⟩:=zr2 r1
 cases rx
 obtain⟨its,rv,pl,hz⟩:=I1.list hp
 have hlen:its.length=ns.length:=by rw[← rv.length,ψb]
 refine Sw.call_setJ (its:=its.toArray) (val:=λi=>ns.getD i 0) (I1.ok.hd hc) pl.isList (λi v e=>?_) (by rw[ψf,hlen];(first|lia|omega)) λh' tk es ep tb T g4=>?_
 ·have hi:i<ns.length:=by
   have:=(Array.getElem?_eq_some_iff.mp e).1
   rw[ψf,hlen] at this
   exact this
  obtain⟨u,eu,ru⟩:=rv.get (show(ns.map V.int)[i]?=some (V.int ns[i]) by simp[hi])
  have e':its[i]?=some v:=by simpa using e
  rw[e'] at eu
  cases eu
  rw[ψy,ψc hi]
  exact ru
 ·refine Calls.spliced_nil ?_
  have szi:its.toArray.size=ns.length:=by rw[ψf];exact hlen
  rw[szi] at T
  have I2:Inv X pins σ H1 { s1 with heap:=h',toks:=tk }:=I1.kept (t':=tk) g4
  generalize s1.heap.objs.size=S at T ⊢
  have hes:=T.size
  have hdd:=Sw.dd_len (λi=>ns.getD i 0) ns.length
  refine Calls.call_function_entry kind_sorted plain_sorted entry_sorted (args_sorted1 _) ?_;unfold Builtin.«sorted»;refine wpAny_bind (m:=checkCount "sorted" 1 1 _) (wpAny_pure ?_)
  refine wpAny_bind (PySem.W.kdu_collect (A:=X.A.in1) (s:={ s1 with heap:=h',toks:=tk }) (Sw.src (P:=X.prog) (w:=X.w) T.fits T.led) (I1.ok.hd hc) T.ob (by rw[sizeLine_eq];(first|lia|omega)) λh2 tk2 acc hkp hacc=>?_)
  have pm:=(Sw.ord_perm (w:=X.w) (S:=S) (es:=es) (ep:=ep))
  have osz:(Sw.ord X.w S es ep).size=es.size:=by rw[← Array.length_toList,pm.length_eq,Array.length_toList]
  have hla:acc.toList.length=es.size:=by rw[Array.length_toList,hacc.1]
  have hI:IntsAre acc.toList ((Sw.ord X.w S es ep).toList.map λe=>Sw.vI e.2):=by
   refine zpo (zsA (by rw[ψb,ψb,hla,Array.length_toList,osz]) λj x w e1 e2=>?_)
   rw[ψI,Option.map_eq_some_iff] at e1
   obtain⟨k,hk,rfl⟩:=e1
   rw[ψI,Option.map_eq_some_iff] at hk
   obtain⟨y,hy,rfl⟩:=hk
   have e3:((Sw.ord X.w S es ep)[j]?).map (·.2)=some w:=hacc.2 j w (by rw[← Array.getElem?_toList];exact e2)
   rw[← Array.getElem?_toList,hy] at e3
   cases e3
   obtain⟨k',tk',rfl⟩:=T.el y (pm.mem_iff.mp (ψS hy))
   exact⟨tk',rfl⟩
  have hpk:((Sw.ord X.w S es ep).toList.map λe=>Sw.vI e.2).Perm (Sw.dd (λi=>ns.getD i 0) ns.length):=(pm.map _).trans T.ks
  refine wpAny_bind (wpAny_newList ?_ (by rw[hla,sizeLine_eq];(first|lia|omega)))
  have hoL:(h2.push (seqObj "list" acc.toList.toArray 0)).get? h2.objs.size=some (seqObj "list" acc.toList.toArray 0):=Heap.get?_push_size _ rfl
  refine wpAny_bind (wpAny_holding (wpAny_call_entry slot_list_sort ⟨_,hoL,rfl⟩ entry_list_sort (list_sort_tree hoL hI (by rw[hla];(first|lia|omega)) λout ns' a1 a2 a3=>⟨_,rfl,?_⟩) (args_list_sort _)))
  obtain⟨e,he⟩:=sortedHeap_at (out:=out) hoL;refine wpAny_pure ⟨_,rfl,?_⟩
  have I':Inv X pins σ H1 { s1 with heap:=h2,toks:=tk2 }:=I2.kept (t':=tk2) hkp
  have a4:=a2.trans hpk
  refine zpw (s:={ s1 with heap:=h2,toks:=tk2 }) (h':=sortedHeap (h2.push (seqObj "list" acc.toList.toArray 0)) h2.objs.size acc.toList out) (tk:=tk2) I' (λb o hb'=>?_) (ψh _) he a1 (by rw[a4.length_eq];(first|lia|omega)) λhn=>q _ ns' hn (λx=>?_) (ztq a3 (a4.nodup_iff.mpr (Sw.dd_nodup _ _))) (by rw[a4.length_eq];exact hdd)
  ·have hlt:=Heap.lt_size hb'
   rw[sortedHeap_old (ψl hlt) (by rw[size_push'];exact ψF1 hlt)]
   exact Heap.get?_push_of_some _ hb'
  ·rw[a4.mem_iff,Sw.dd_mem]
   constructor
   ·rintro⟨j,hj,rfl⟩
    rw[ψy,ψc hj]
    exact ψA1 hj
   ·intro hx
    obtain⟨j,ej⟩:=ψr hx
    exact⟨j,(List.getElem?_eq_some_iff.mp ej).1,by rw[ψy,ej];rfl⟩
end
end L2
set_option maxHeartbeats 4000000
local macro_rules
 | `(tactic| simp_all only [$xs,*])=>do
  let ds ← ("zxW zyb zyk zxJ zwT zxV zxh zxz zwI zxt zuX zvj zva zup zus ztU zvH rI_c rI0_c zzn zzw ex_bl zyQ zAx zzG zAs zu5 zue zuz zvc zuI zu7 ztS zum zsL zqN zr1 zsK zsN zrp zrn zx1 zuq zlg zvt zxO zpH rEqE zbe zcD zwv zdO zbf zb7 zbq zed zaQ zd9 tCB zab zas tC tOp zcp tB tOr zf7 zd2 zb2 zhK zf6 zaG rEq rNe zuZ zvo tUn rU zk5 tSl zef ziv zuH zwq tBM tTru zeX zvv tIf zkh rEqT zyX zyd rNeD zwh zml zmW zt4 iTup gLst tOrV tRev rNeU rNeE zmb".splitOn " ").toArray.mapM λs=>`(Lean.Parser.Tactic.simpLemma| ↓ $(Lean.mkIdent s.toName):ident)
  let ps ← ("zut Option.bind_some Option.bind_none Option.join_some Option.map_some List.getElem?_cons_zero List.getElem?_cons_succ V.str.injEq V.ty.injEq zac rI rI0 zf2 zbH L2.start zuD zxA zuV zxy List.map_cons List.map_nil List.length_cons List.length_nil List.replicate List.cons_append List.nil_append List.append_nil Option.some.injEq exists_eq_left' exists_eq_left exists_and_left List.cons.injEq V.int.injEq V.ref.injEq V.bl.injEq and_true true_and List.set_cons_zero List.set_cons_succ Nat.reduceAdd Nat.reduceSub Int.reduceToNat Int.reducePow Int.reduceNeg Int.reduceMul Int.reduceAdd Int.reduceSub decide_eq_true_eq Bool.not_eq_true' decide_eq_false_iff_not exists_const and_assoc exists_eq exists_eq' if_true if_false Bool.false_eq_true Bool.true_eq_false reduceCtorEq not_true_eq_false not_false_eq_true".splitOn " ").toArray.mapM λs=>`(Lean.Parser.Tactic.simpLemma| $(Lean.mkIdent s.toName):ident)
  `(tactic| simp only[$xs,*,$ds,*,$ps,*])
set_option hygiene false
local macro_rules|`((Qa))=>`(⟨rfl,rfl,rfl,by decide +kernel,rfl,by decide +kernel,by decide +kernel⟩)
local macro_rules|`((Qb))=>`(rI IntMulOk λi j=>.int (i*j))
local macro_rules|`((Qc))=>`(hr.mono (Qm))
local macro_rules|`((Qd))=>`(by omega)
local macro_rules|`((Qe))=>`(λcdv A outer s H vs Q E hr h=>?_)
local macro_rules|`((Qf))=>`(λxs H Q=>∃p ys,xs=[.ref p]∧(SqL K H p ys∨SqT K H p ys)∧Q (.int ys.length) H)
local macro_rules|`((Qg))=>`(Or.inl rfl)
local macro_rules|`((Qh))=>`(zaI zar (pv 0) zae (Qp))
local macro_rules|`((Qi))=>`(tC (.int 1))
local macro_rules|`((Qj))=>`(λz=>absurd z (Qm))
local macro_rules|`((Qk))=>`(λvs H Q E h=>?_)
local macro_rules|`((Ql))=>`(zed K 2 (zaQ (zaj 0) (zaQ (zaj 1) zd9)))
local macro_rules|`((Qm))=>`(by decide)
local macro_rules|`((Qn))=>`(zag Gh (Qc) rfl T.mh T.Fh.kp T.bh .nil zaH (zaa (pv 0) (Qam)))
local macro_rules|`((Qo))=>`(λ_ _ _ _=>(zbp rfl (zal (zak (i:=0) (show ψk ((Qbt):List Str) from by decide) rfl (Qg)) (zal (zak (i:=1) (show ψk ((Qbt):List Str) from by decide) rfl (Qg)) zaZ))))
local macro_rules|`((Qp))=>`(λ_ _=>rfl)
local macro_rules|`((Qq))=>`(tC (.int 0))
local macro_rules|`((Qr))=>`(.of (QaI))
local macro_rules|`((Qs))=>`(tCB (λxs H Q=>∃p ys,xs=[.ref p]∧(SqL K H p ys∨SqT K H p ys)∧∀l,H l=none→Q (Qa1) (upd H l (.lst ys))) (QV))
local macro_rules|`((Qt))=>`(rI (λ_ j=>j≠0∧j.natAbs.log2<9000) λi j=>.int (i.fdiv j))
local macro_rules|`((Qu))=>`(zbz (zb1 (PW.pt (zeY (zbW (zbu (zaq za0 rfl T.z_isinstance ψi (zaa (pv 0) (QaW))))) (zd6 (zbi zi1 (QI) zae (zbd _))))) (QZ) zaY))
local macro_rules|`((Qv))=>`(λz=>absurd rfl z)
local macro_rules|`((Qw))=>`(zaa (pv 1) zad)
local macro_rules|`((Qx))=>`(.bool true)
local macro_rules|`((Qy))=>`(zab (zac 0) (QV))
local macro_rules|`((Qz))=>`(rI0 λi j=>.int (i+j))
local macro_rules|`((QA))=>`(rI0 λi j=>.int (i - j))
local macro_rules|`((QB))=>`(⟨λ_ _=>False,?_,λ_ _ z=>z.elim⟩)
local macro_rules|`((QC))=>`(tOp (zbH K) (zac 0) (Qi))
local macro_rules|`((QD))=>`(zb2 (tC (QbM)))
local macro_rules|`((QE))=>`(tOp (zbH K) (zac 0) (Qq))
local macro_rules|`((QF))=>`(zab (zac 0) zas)
local macro_rules|`((QG))=>`(zaq za0 rfl T.z_isinstance ψi (zaa (pv 0) (Qcl)))
local macro_rules|`((QH))=>`(λ_ _ _ _=>zbo)
local macro_rules|`((QI))=>`(zaq zaV rfl T.z_len ψH (Qaj))
local macro_rules|`((QJ))=>`(ns.map V.int)
local macro_rules|`((QK))=>`(xs.map λx=>x.2)
local macro_rules|`((QL))=>`(["one","other"])
local macro_rules|`((QM))=>`(zaI zar (pv 1) zae (Qp))
local macro_rules|`((QN))=>`(rI0 λi j=>.bl (decide (j≤i)))
local macro_rules|`((QO))=>`(tB (tCB (zg2 K) (zab (zac 0) (zab (tC (.ty "tuple")) zas))))
local macro_rules|`((QP))=>`(["box","weight","price","count"])
local macro_rules|`((QR))=>`(["_law_purse_here","_law_thing"])
local macro_rules|`((QS))=>`(tCB (zg2 K) (zab (zac 0) (zab (tC (.ty "list")) zas)))
local macro_rules|`((QT))=>`(.ref r)
local macro_rules|`((QU))=>`(⟨_,rfl,?_⟩)
local macro_rules|`((QV))=>`(zab (zac 1) zas)
local macro_rules|`((QW))=>`(zaa (pv 0) (Qw))
local macro_rules|`((QX))=>`(tC (.int 2))
local macro_rules|`((QY))=>`(rI0 λi j=>.bl (decide (i<j)))
local macro_rules|`((QZ))=>`(zah (zaE zdx))
local macro_rules|`((Q0))=>`((zbv ts).map V.int)
local macro_rules|`((Q3))=>`(.lst (us.map V.ref))
local macro_rules|`((Q4))=>`(.lst (ts.map V.ref))
local macro_rules|`((Q5))=>`(rI0 λi j=>.bl (decide (i≤j)))
local macro_rules|`((Q6))=>`(zaI zar (pv 2) zae (Qp))
local macro_rules|`((Q7))=>`(rI (λ_ j=>j≠0) λi j=>.int (i.fmod j))
local macro_rules|`((Q8))=>`(λ_ _ _ _=>(zak (i:=0) (show ψk (["box"]:List Str) from by decide) rfl (Qg)))
local macro_rules|`((Q9))=>`(.tup (fr W))
local macro_rules|`((Qaa))=>`(⟨true,rfl,?_⟩)
local macro_rules|`((Qab))=>`(zab (zac 0) (zab (zac 1) (zab (zac 2) (Qa5))))
local macro_rules|`((Qac))=>`(λ(w:Int) (x:Box×Int)=>w*(x.1.2.2 ^ x.2.toNat - (x.1.2.2 - x.1.2.1) ^ x.2.toNat)*T.fdiv (x.1.2.2 ^ x.2.toNat))
local macro_rules|`((Qad))=>`(["thing","boxes"])
local macro_rules|`((Qae))=>`(zaa (pv 0) (zaa (pv 1) (zaa (pv 2) (Qbi))))
local macro_rules|`((Qaf))=>`(["_law_purse_here","_law_things"])
local macro_rules|`((Qag))=>`(Off p c H')
local macro_rules|`((Qah))=>`(.tup [.ref wl,.ref pp,.ref cl])
local macro_rules|`((Qai))=>`(zaa (zaI zbm (pv 7) zae (Qp)) (zaa (zaI zbm (pv 7) zae (Qp)) (zaa (zaI zbm (pv 7) zae (Qp)) zad)))
local macro_rules|`((Qaj))=>`(zaa (pv 0) zad)
local macro_rules|`((Qak))=>`(ziA R ns ss ls ms ((QaT).map λw=>w.fdiv g))
local macro_rules|`((Qal))=>`(zcE fx p c H)
local macro_rules|`((Qam))=>`(zaa zae zad)
local macro_rules|`((Qan))=>`(zfF bs ns bud)
local macro_rules|`((Qao))=>`(λ_=>?_)
local macro_rules|`((Qap))=>`(tOp (zbH K) (zac 1) (Qi))
local macro_rules|`((Qaq))=>`(show ψk ((QbU):List Str) from by decide)
local macro_rules|`((Qar))=>`(ψn bs ns)
local macro_rules|`((Qas))=>`(wqs bs ns)
local macro_rules|`((Qat))=>`(rI0 λi j=>.bl (decide (j<i)))
local macro_rules|`((Qau))=>`(.refl _)
local macro_rules|`((Qav))=>`(["_law_thing"])
local macro_rules|`((Qaw))=>`(zdO K (zac 0))
local macro_rules|`((Qax))=>`(zcE fx p c H')
local macro_rules|`((Qay))=>`(["boxes","counts","worth"])
local macro_rules|`((Qaz))=>`(["_law_purse_here","_law_things","_law_at","_law_way"])
local macro_rules|`((QaA))=>`(tOp (zbH K) (zac 0) (QX))
local macro_rules|`((QaB))=>`(⟨⟨_,SqL.of hl⟩,λD hD=>?_⟩)
local macro_rules|`((QaC))=>`(["boxes","budget","worth","paper"])
local macro_rules|`((QaD))=>`(rI zvM λi j=>.int (i ^ j.toNat))
local macro_rules|`((QaE))=>`(zab (zac 2) zas)
local macro_rules|`((QaF))=>`(∀b∈bs,GB b)
local macro_rules|`((QaG))=>`(pln R ns ss ls e)
local macro_rules|`((QaH))=>`(["boxes","budget","worth","mix","paper"])
local macro_rules|`((QaI))=>`(by decide +kernel)
local macro_rules|`((QaJ))=>`(Off p c H)
local macro_rules|`((QaK))=>`(zag Gh (QbN) rfl T.mh T.Fh.kp T.bh .nil zaH (zaa (pv 0) (Qam)))
local macro_rules|`((QaL))=>`(ms.map V.int)
local macro_rules|`((QaM))=>`(zab (tC (.int 60)) zas)
local macro_rules|`((QaN))=>`(["_law_thing","_law_many","_law_most"])
local macro_rules|`((QaO))=>`(zab (zac 4) zas)
local macro_rules|`((QaP))=>`(zaa (pv 2) zad)
local macro_rules|`((QaQ))=>`(["boxes","budget"])
local macro_rules|`((QaR))=>`(zd1 zdh rfl T.z_list zcd (Qw))
local macro_rules|`((QaS))=>`(zaQ (zaj 2) (zaQ (zaj 3) zd9))
local macro_rules|`((QaT))=>`(wds R ms)
local macro_rules|`((QaU))=>`(tCB (Qf) (QF))
local macro_rules|`((QaV))=>`(zbq (zac 3) (zed K 3 (zaQ (zaj 4) (zaQ (zaj 5) (zaQ (zaj 6) zd9)))))
local macro_rules|`((QaW))=>`(zaa (zcf rfl T.z_tuple zcn rfl) zad)
local macro_rules|`((QaX))=>`(["box","weight","price","count","top","bottom"])
local macro_rules|`((QaY))=>`(∀b∈bs,b.2.1=b.2.2)
local macro_rules|`((QaZ))=>`(tOp (zbH K) (zac 2) (Qi))
local macro_rules|`((Qa0))=>`(by simp)
local macro_rules|`((Qa1))=>`(.ref l)
local macro_rules|`((Qa2))=>`(λe w=>w.fdiv g*(λe=>if cov R s L e=true then (1:Int) else 0) e)
local macro_rules|`((Qa3))=>`(zaa (pv 4) zad)
local macro_rules|`((Qa4))=>`(λxs H Q=>∃i,xs=[.int i]∧Q (.int (if i<0 then -i else i)) H)
local macro_rules|`((Qa5))=>`(zab (zac 3) zas)
local macro_rules|`((Qa6))=>`(zaI zar (pv 5) zae (Qp))
local macro_rules|`((Qa7))=>`(nxt E bs ns)
local macro_rules|`((Qa8))=>`(.lst [.ref t3,.ref t4,.ref t5,.ref t7,.ref t8,.ref t9,.ref t10])
local macro_rules|`((Qa9))=>`(.tup [.int a,.int b])
local macro_rules|`((Qba))=>`(zaG zcy [] E0 (zab (zac 0) (zab (QX) zas)))
local macro_rules|`((Qbb))=>`(ψe _ hx)
local macro_rules|`((Qbc))=>`(.int bud)
local macro_rules|`((Qbd))=>`(.lst (QJ))
local macro_rules|`((Qbe))=>`(zao zap (Qh) (QM))
local macro_rules|`((Qbf))=>`(List.getElem?_eq_some_iff.mp hx)
local macro_rules|`((Qbg))=>`(List.getElem?_eq_some_iff.mp ei)
local macro_rules|`((Qbh))=>`(List.getElem?_eq_some_iff.mp e1)
local macro_rules|`((Qbi))=>`(zaa (pv 3) zad)
local macro_rules|`((Qbj))=>`(["_law_boxes_here","_law_budget","_law_worth","_law_paper"])
local macro_rules|`((Qbk))=>`(zag GI (Qc) rfl T.mI T.FI.kp T.bI .nil zaH (zaa (Qh) zad))
local macro_rules|`((Qbl))=>`(zb0 (pv 0))
local macro_rules|`((Qbm))=>`(tOp (zbH K) (zac 1) (Qq))
local macro_rules|`((Qbn))=>`(.ref p)
local macro_rules|`((Qbo))=>`(⟨_,.inr hP,?_⟩)
local macro_rules|`((Qbp))=>`(["_law_boxes_here","_law_budget","_law_worth","_law_mix"])
local macro_rules|`((Qbq))=>`(show ψk (["cost","hits","of"]:List Str) from by decide)
local macro_rules|`((Qbr))=>`(L2.start (QL) [.ref x,.ref y])
local macro_rules|`((Qbs))=>`(⟨⟨_,SqL.of B.hl⟩,⟨_,SqL.of B.hp⟩,λD hD=>?_⟩)
local macro_rules|`((Qbt))=>`(["box","count"])
local macro_rules|`((Qbu))=>`(zaI zar (pv 4) zae (Qp))
local macro_rules|`((Qbv))=>`(.lst [.int bud,.ref w,vm,vp])
local macro_rules|`((Qbw))=>`(zaG zcy [] E0 (zab (zac 0) (zab (tC (.int 12)) zas)))
local macro_rules|`((Qbx))=>`(∀m∈x.2.1,0≤m∧m≤60)
local macro_rules|`((Qby))=>`(bs.map λ_=>(0:Int))
local macro_rules|`((Qbz))=>`(.tup (bx b))
local macro_rules|`((QbA))=>`(.lst (Ws.map V.int))
local macro_rules|`((QbB))=>`(["boxes","counts"])
local macro_rules|`((QbC))=>`(⟨by decide,by decide,by decide⟩)
local macro_rules|`((QbD))=>`(λz=>absurd (Qd) z)
local macro_rules|`((QbE))=>`(zaR bs ns)
local macro_rules|`((QbF))=>`(ns.map Tr.int)
local macro_rules|`((QbG))=>`(zag Gz (Qc) rfl T.mz T.Fz.kp T.bz .nil zaH (QW))
local macro_rules|`((QbH))=>`(tC (.int 9))
local macro_rules|`((QbI))=>`(s1.trans s2)
local macro_rules|`((QbJ))=>`(⟨by decide,λb nb=>?_⟩)
local macro_rules|`((QbK))=>`(tOp (zbH K) (zac 2) (Qq))
local macro_rules|`((QbL))=>`(bs.map λb=>b.1)
local macro_rules|`((QbM))=>`(.bl false)
local macro_rules|`((QbN))=>`(hr.mono (Qd))
local macro_rules|`((QbO))=>`(.tup [.ref wr,.ref mr,.ref pr])
local macro_rules|`((QbP))=>`(zaI zar (pv 7) zae (Qp))
local macro_rules|`((QbQ))=>`(tC (.int 3))
local macro_rules|`((QbR))=>`(⟨_,rfl,by decide,by decide⟩)
local macro_rules|`((QbS))=>`(zab (zac 0) (zab (zac 6) zas))
local macro_rules|`((QbT))=>`(["thing","least","most"])
local macro_rules|`((QbU))=>`(["_law_box","_law_many"])
local macro_rules|`((QbV))=>`(λb n=>(b,n,shq W b n))
local macro_rules|`((QbW))=>`(.lst xs)
local macro_rules|`((QbX))=>`(["box","count","top","bottom"])
local macro_rules|`((QbY))=>`(λx hx=>gb x (Qbb))
local macro_rules|`((QbZ))=>`(zaq zaV rfl T.z_len ψH (Qw))
local macro_rules|`((Qb0))=>`(λe w=>if cov R s L e=true then w else 0)
local macro_rules|`((Qb1))=>`(λe w=>if e<b then w else 0)
local macro_rules|`((Qb2))=>`(zed K 2 (zaQ (zaj 7) (zaQ (zaj 8) zd9)))
local macro_rules|`((Qb3))=>`(zab (Qi) zas)
local macro_rules|`((Qb4))=>`(zaa (pv 0) (zaa (pv 6) zad))
local macro_rules|`((Qb5))=>`(s2.trans s3)
local macro_rules|`((Qb6))=>`(.tup (fr v))
local macro_rules|`((Qb7))=>`(.tup (fr u))
local macro_rules|`((Qb8))=>`(["_law_script"])
local macro_rules|`((Qb9))=>`(zaa zae (Qam))
local macro_rules|`((Qca))=>`(Or.inr rfl)
local macro_rules|`((Qcb))=>`(.lst [])
local macro_rules|`((Qcc))=>`(L2.upd H3 d1 (.lst [.int 3,.int 60]))
local macro_rules|`((Qcd))=>`(L2.upd H15 l (.lst (xs++[.ref t15])))
local macro_rules|`((Qce))=>`(by simpa using c)
local macro_rules|`((Qcf))=>`(zaq (zdo rfl) rfl T.z_sum ψW (Qa3))
local macro_rules|`((Qcg))=>`(rI (λ_ j=>0<j) λi j=>.int (i % j))
local macro_rules|`((Qch))=>`(.tup (fr P))
local macro_rules|`((Qci))=>`(⟨by decide,λp np=>?_⟩)
local macro_rules|`((Qcj))=>`(zcg zjz (Qh) zae (zbd _))
local macro_rules|`((Qck))=>`(tOp (zbH K) (zac 5) (Qi))
local macro_rules|`((Qcl))=>`(zaa (zcf rfl T.z_list zcd rfl) zad)
local macro_rules|`((Qcm))=>`(ziW (QaL) (some 1) none)
local macro_rules|`((Qcn))=>`(zab (zac 5) zas)
local macro_rules|`((Qco))=>`(zaa (zaI zbm (pv 2) zae (Qp)) zad)
local macro_rules|`((Qcp))=>`(zaI zar (pv 3) zae (Qp))
local macro_rules|`((Qcq))=>`(some (.ref t))
local macro_rules|`((Qcr))=>`(.tup (fr (Qan)))
local macro_rules|`((Qcs))=>`(["box","counts","weights","worth"])
local macro_rules|`((Qct))=>`(λi x z w H3 R hx hz hw s3 k=>?_)
local macro_rules|`((Qcu))=>`(λi x z w H3 R hx hz hv s3 k=>?_)
local macro_rules|`((Qcv))=>`(λ_ _ _ _=>(zao zap (Qh) (pv 1)))
local macro_rules|`((Qcw))=>`(.ref v)
local macro_rules|`((Qcx))=>`(["_law_purse_here","_law_out_of"])
local macro_rules|`((Qcy))=>`(ψd (shq W) bs ns)
local macro_rules|`((Qcz))=>`(λz=>?_)
local macro_rules|`((QcA))=>`(zab (zac 1) (QaE))
local macro_rules|`((QcB))=>`(zab (zac 0) (QaE))
local macro_rules|`((QcC))=>`(by cases z)
local macro_rules|`((QcD))=>`(List.getElem?_eq_some_iff.mp hk)
local macro_rules|`((QcE))=>`(List.getElem?_eq_some_iff.mp eb)
local macro_rules|`((QcF))=>`(K w.params)
local macro_rules|`((QcG))=>`(zaa (pv 5) zad)
local macro_rules|`((QcH))=>`(["boxes","budget","worth","mix"])
local macro_rules|`((QcI))=>`(["_law_purse_here","_law_worth"])
local macro_rules|`((QcJ))=>`(zaQ (zaj 9) (zaQ (zaj 10) zd9))
local macro_rules|`((QcK))=>`(b1.mono (Qm))
local macro_rules|`((QcL))=>`(L2.upd H b o)
local macro_rules|`((QcM))=>`(.lst (Q0))
local macro_rules|`((QcN))=>`(["_law_purse_here","_law_most"])
local macro_rules|`((QcO))=>`(["_law_purse_here","_law_good"])
local macro_rules|`((QcP))=>`(zab (tOp (Qb) (QC) (Qap)) zas)
local macro_rules|`((QcQ))=>`(zaa (pv 1) (QaP))
local macro_rules|`((QcR))=>`(zaa (pv 0) (QaP))
local macro_rules|`((QcS))=>`(zaQ (zaj 3) (zaQ (zaj 4) zd9))
local macro_rules|`((QcT))=>`(.tup xs)
set_option hygiene true
namespace My
local macro_rules | `(tactic| omega)=>`(tactic| lia)
open PySem L2
def top(i:Nat):Stmt:=PySem.Challenge.pw_hideworth_k21_budget_papers_looked_at.main.body.getD i (.Pass ⟨0,0,0,0⟩)
abbrev zjI:Stmt:=top 6
abbrev znb:Stmt:=top 7
abbrev zrh:Stmt:=top 8
abbrev znu:Stmt:=top 9
abbrev zny:Stmt:=top 10
abbrev zrm:Stmt:=top 11
abbrev znJ:Stmt:=top 12
abbrev zjn:Stmt:=top 13
abbrev zeb:Stmt:=top 14
abbrev zji:Stmt:=top 15
abbrev ziw:Stmt:=top 17
abbrev zhF:Stmt:=top 18
abbrev zfW:Stmt:=top 20
abbrev zey:Stmt:=top 19
abbrev zlj:Stmt:=top 27
abbrev ze3:Stmt:=top 28
abbrev zfQ:Stmt:=top 29
abbrev zh8:Stmt:=top 30
abbrev zov:Stmt:=top 31
abbrev zlT:Stmt:=top 32
abbrev zlv:Stmt:=top 33
abbrev zqF:Stmt:=top 34
abbrev zgU:Stmt:=top 35
abbrev ziu:Stmt:=top 36
abbrev zjk:Stmt:=top 37
abbrev zfd:Stmt:=top 38
abbrev zbw:Stmt:=top 39
abbrev zej:Stmt:=top 40
abbrev zc1:Stmt:=top 41
abbrev zdf:Stmt:=top 42
abbrev zeQ:Stmt:=top 43
abbrev zd7:Stmt:=top 44
abbrev zeh:Stmt:=top 45
abbrev zeU:Stmt:=top 46
abbrev znF:Stmt:=top 47
abbrev zfm:Stmt:=top 48
abbrev zdV:Stmt:=top 49
abbrev zd0:Stmt:=top 50
abbrev zbZ:Stmt:=top 51
abbrev zeA:Stmt:=top 52
abbrev zgS:Stmt:=top 53
abbrev zgR:Stmt:=top 54
abbrev zet:Stmt:=top 55
abbrev zgz:Stmt:=top 56
abbrev zfl:Stmt:=top 57
abbrev zgv:Stmt:=top 59
abbrev zge:Stmt:=top 60
abbrev zhC:Stmt:=top 61
abbrev zix:Stmt:=top 62
abbrev zgJ:Stmt:=top 63
abbrev zgq:Stmt:=top 64
abbrev zdT:Stmt:=top 65
abbrev zhE:Stmt:=top 66
abbrev zex:Stmt:=top 67
abbrev zgk:Stmt:=top 68
abbrev ze9:Stmt:=top 69
abbrev zdr:Stmt:=top 70
abbrev zec:Stmt:=top 71
abbrev zdL:Stmt:=top 72
abbrev zhI:Stmt:=top 73
abbrev zdH:Stmt:=top 74
abbrev zeP:Stmt:=top 75
abbrev zgl:Stmt:=top 76
abbrev zwu:Stmt:=top 77
set_option genInjectivity false in
set_option genSizeOf false in
structure Ad where
 fN:Addr
 dN:FuncData
 fj:Addr
 dj:FuncData
 fab:Addr
 dab:FuncData
 far:Addr
 dar:FuncData
 fas:Addr
 das:FuncData
 fQ:Addr
 dQ:FuncData
 fac:Addr
 dac:FuncData
 fae:Addr
 dae:FuncData
 faf:Addr
 daf:FuncData
 fat:Addr
 dat:FuncData
 fI:Addr
 dI:FuncData
 fM:Addr
 dM:FuncData
 fau:Addr
 dau:FuncData
 fav:Addr
 dav:FuncData
 faw:Addr
 daw:FuncData
 fag:Addr
 dag:FuncData
 fah:Addr
 dah:FuncData
 fai:Addr
 dai:FuncData
 fY:Addr
 dY:FuncData
 fz:Addr
 dz:FuncData
 fU:Addr
 dU:FuncData
 faj:Addr
 daj:FuncData
 fX:Addr
 dX:FuncData
 fay:Addr
 day:FuncData
 faz:Addr
 daz:FuncData
 faA:Addr
 daA:FuncData
 faB:Addr
 daB:FuncData
 faC:Addr
 daC:FuncData
 faD:Addr
 daD:FuncData
 faE:Addr
 daE:FuncData
 faF:Addr
 daF:FuncData
 faG:Addr
 daG:FuncData
 faH:Addr
 daH:FuncData
 faI:Addr
 daI:FuncData
 fam:Addr
 dam:FuncData
 faJ:Addr
 daJ:FuncData
 fak:Addr
 dak:FuncData
 faK:Addr
 daK:FuncData
 faL:Addr
 daL:FuncData
 faM:Addr
 daM:FuncData
 faN:Addr
 daN:FuncData
 faO:Addr
 daO:FuncData
 faP:Addr
 daP:FuncData
 faQ:Addr
 daQ:FuncData
 faR:Addr
 daR:FuncData
 fan:Addr
 dan:FuncData
 faS:Addr
 daS:FuncData
 fh:Addr
 dh:FuncData
 fal:Addr
 dal:FuncData
 faT:Addr
 daT:FuncData
 fJ:Addr
 dJ:FuncData
 fZ:Addr
 dZ:FuncData
 faa:Addr
 daa:FuncData
 faU:Addr
 daU:FuncData
 faV:Addr
 daV:FuncData
 faW:Addr
 daW:FuncData
 faX:Addr
 daX:FuncData
 fao:Addr
 dao:FuncData
 faq:Addr
 daq:FuncData
 fH:Addr
 dH:FuncData
 faY:Addr
 daY:FuncData
 fO:Addr
 dO:FuncData
 faZ:Addr
 daZ:FuncData
 fa0:Addr
 da0:FuncData
 c_NoNumber:Addr
 c_NoBoxes:Addr
 c_NoBudget:Addr
 k_MOST_BOXES:Tok
 k_MOST_COST:Tok
 k_MOST_OF:Tok
 k_MOST_BUDGET:Tok
 k_MOST_LOOKS:Tok
structure Txt (K:ψa) (mg:Str→Option Value) (a:Ad):Prop where
 FN:Fun K "divisor" "divisor" zjI a.fN a.dN
 bN:zbk K a.dN (QL) []
 mN:mg "divisor"=some (.ref a.fN)
 Fj:Fun K "ratio" "ratio" znb a.fj a.dj
 bj:zbk K a.dj ["top","bottom"] []
 mj:mg "ratio"=some (.ref a.fj)
 Fab:Fun K "plus" "plus" zrh a.fab a.dab
 bab:zbk K a.dab (QL) []
 mab:mg "plus"=some (.ref a.fab)
 Far:Fun K "minus" "minus" znu a.far a.dar
 bar:zbk K a.dar (QL) []
 mar:mg "minus"=some (.ref a.far)
 Fas:Fun K "times" "times" zny a.fas a.das
 bas:zbk K a.das (QL) []
 mas:mg "times"=some (.ref a.fas)
 FQ:Fun K "over" "over" zrm a.fQ a.dQ
 bQ:zbk K a.dQ (QL) []
 mQ:mg "over"=some (.ref a.fQ)
 Fac:Fun K "below" "below" znJ a.fac a.dac
 bac:zbk K a.dac (QL) []
 mac:mg "below"=some (.ref a.fac)
 Fae:Fun K "common" "common" zjn a.fae a.dae
 bae:zbk K a.dae ["fractions"] []
 mae:mg "common"=some (.ref a.fae)
 Faf:Fun K "shared_divisor" "shared_divisor" zeb a.faf a.daf
 baf:zbk K a.daf ["numbers"] []
 maf:mg "shared_divisor"=some (.ref a.faf)
 Fat:Fun K "lowest" "lowest" zji a.fat a.dat
 bat:zbk K a.dat ["weights"] []
 mat:mg "lowest"=some (.ref a.fat)
 FI:Fun K "is_whole" "is_whole" ziw a.fI a.dI
 bI:zbk K a.dI ["thing"] []
 mI:mg "is_whole"=some (.ref a.fI)
 FM:Fun K "is_within" "is_within" zhF a.fM a.dM
 bM:zbk K a.dM (QbT) []
 mM:mg "is_within"=some (.ref a.fM)
 Fau:Fun K "is_fraction" "is_fraction" zfW a.fau a.dau
 bau:zbk K a.dau ["thing"] []
 mau:mg "is_fraction"=some (.ref a.fau)
 Fav:Fun K "are_weights" "are_weights" zey a.fav a.dav
 bav:zbk K a.dav ["thing","many"] []
 mav:mg "are_weights"=some (.ref a.fav)
 Faw:Fun K "is_box" "is_box" zlj a.faw a.daw
 baw:zbk K a.daw ["thing"] []
 maw:mg "is_box"=some (.ref a.faw)
 Fag:Fun K "look_boxes" "look_boxes" ze3 a.fag a.dag
 bag:zbk K a.dag ["boxes"] []
 mag:mg "look_boxes"=some (.ref a.fag)
 Fah:Fun K "look_budget" "look_budget" zfQ a.fah a.dah
 bah:zbk K a.dah ["budget"] []
 mah:mg "look_budget"=some (.ref a.fah)
 Fai:Fun K "is_plan" "is_plan" zh8 a.fai a.dai
 bai:zbk K a.dai (Qad) []
 mai:mg "is_plan"=some (.ref a.fai)
 FY:Fun K "power" "power" zov a.fY a.dY
 bY:zbk K a.dY ["base","count"] []
 mY:mg "power"=some (.ref a.fY)
 Fz:Fun K "missed" "missed" zlT a.fz a.dz
 bz:zbk K a.dz (Qbt) []
 mz:mg "missed"=some (.ref a.fz)
 FU:Fun K "chance" "chance" zlv a.fU a.dU
 bU:zbk K a.dU (Qbt) []
 mU:mg "chance"=some (.ref a.fU)
 Faj:Fun K "gain" "gain" zqF a.faj a.daj
 baj:zbk K a.daj (Qbt) []
 maj:mg "gain"=some (.ref a.faj)
 FX:Fun K "cost_sum" "cost_sum" zgU a.fX a.dX
 bX:zbk K a.dX ["boxes","plan"] []
 mX:mg "cost_sum"=some (.ref a.fX)
 Fay:Fun K "is_share" "is_share" ziu a.fay a.day
 bay:zbk K a.day (Qad) []
 may:mg "is_share"=some (.ref a.fay)
 Faz:Fun K "is_mix" "is_mix" zjk a.faz a.daz
 baz:zbk K a.daz (Qad) []
 maz:mg "is_mix"=some (.ref a.faz)
 FaA:Fun K "finds_enough" "finds_enough" zfd a.faA a.daA
 baA:zbk K a.daA (Qcs) []
 maA:mg "finds_enough"=some (.ref a.faA)
 FaB:Fun K "is_seeker_right" "is_seeker_right" zbw a.faB a.daB
 baB:zbk K a.daB (QcH) []
 maB:mg "is_seeker_right"=some (.ref a.faB)
 FaC:Fun K "is_hider_paper" "is_hider_paper" zej a.faC a.daC
 baC:zbk K a.daC (Qad) []
 maC:mg "is_hider_paper"=some (.ref a.faC)
 FaD:Fun K "is_last_look_worth" "is_last_look_worth" zc1 a.faD a.daD
 baD:zbk K a.daD (QP) []
 maD:mg "is_last_look_worth"=some (.ref a.faD)
 FaE:Fun K "is_next_look_dear" "is_next_look_dear" zdf a.faE a.daE
 baE:zbk K a.daE (QP) []
 maE:mg "is_next_look_dear"=some (.ref a.faE)
 FaF:Fun K "is_count_best" "is_count_best" zeQ a.faF a.daF
 baF:zbk K a.daF (QP) []
 maF:mg "is_count_best"=some (.ref a.faF)
 FaG:Fun K "is_sum_low" "is_sum_low" zd7 a.faG a.daG
 baG:zbk K a.daG (QaC) []
 maG:mg "is_sum_low"=some (.ref a.faG)
 FaH:Fun K "is_hider_right" "is_hider_right" zeh a.faH a.daH
 baH:zbk K a.daH (QaC) []
 maH:mg "is_hider_right"=some (.ref a.faH)
 FaI:Fun K "budget_judged" "budget_judged" zeU a.faI a.daI
 baI:zbk K a.daI (QaH) []
 maI:mg "budget_judged"=some (.ref a.faI)
 Fam:Fun K "added" "added" znF a.fam a.dam
 bam:zbk K a.dam ["fractions"] []
 mam:mg "added"=some (.ref a.fam)
 FaJ:Fun K "least_chance" "least_chance" zfm a.faJ a.daJ
 baJ:zbk K a.daJ ["chances"] []
 maJ:mg "least_chance"=some (.ref a.faJ)
 Fak:Fun K "fair_weights" "fair_weights" zdV a.fak a.dak
 bak:zbk K a.dak (QbB) []
 mak:mg "fair_weights"=some (.ref a.fak)
 FaK:Fun K "chance_for" "chance_for" zd0 a.faK a.daK
 baK:zbk K a.daK ["boxes","budget","counts"] []
 maK:mg "chance_for"=some (.ref a.faK)
 FaL:Fun K "counts_and_worth" "counts_and_worth" zbZ a.faL a.daL
 baL:zbk K a.daL (QaQ) []
 maL:mg "counts_and_worth"=some (.ref a.faL)
 FaM:Fun K "look_shares" "look_shares" zeA a.faM a.daM
 baM:zbk K a.daM (Qay) []
 maM:mg "look_shares"=some (.ref a.faM)
 FaN:Fun K "mix_of" "mix_of" zgS a.faN a.daN
 baN:zbk K a.daN (Qay) []
 maN:mg "mix_of"=some (.ref a.faN)
 FaO:Fun K "paper_of" "paper_of" zgR a.faO a.daO
 baO:zbk K a.daO (QbB) []
 maO:mg "paper_of"=some (.ref a.faO)
 FaP:Fun K "sure_answer" "sure_answer" zet a.faP a.daP
 baP:zbk K a.daP ["boxes"] []
 maP:mg "sure_answer"=some (.ref a.faP)
 FaQ:Fun K "is_sure" "is_sure" zgz a.faQ a.daQ
 baQ:zbk K a.daQ (QaQ) []
 maQ:mg "is_sure"=some (.ref a.faQ)
 FaR:Fun K "budget_worth" "budget_worth" zfl a.faR a.daR
 baR:zbk K a.daR (QaQ) []
 maR:mg "budget_worth"=some (.ref a.faR)
 Fan:Fun K "_law_power" "_law_power" zgv a.fan a.dan
 ban:zbk K a.dan ["_law_base","_law_many"] []
 man:mg "_law_power"=some (.ref a.fan)
 FaS:Fun K "_law_purse" "_law_purse" zge a.faS a.daS
 baS:zbk K a.daS (Qb8) []
 maS:mg "_law_purse"=some (.ref a.faS)
 Fh:Fun K "_law_draw" "_law_draw" zhC a.fh a.dh
 bh:zbk K a.dh (Qcx) []
 mh:mg "_law_draw"=some (.ref a.fh)
 Fal:Fun K "_law_low" "_law_low" zix a.fal a.dal
 bal:zbk K a.dal ["_law_top","_law_bottom"] []
 mal:mg "_law_low"=some (.ref a.fal)
 FaT:Fun K "_law_boxes" "_law_boxes" zgJ a.faT a.daT
 baT:zbk K a.daT (QcN) []
 maT:mg "_law_boxes"=some (.ref a.faT)
 FJ:Fun K "_law_whole" "_law_whole" zgq a.fJ a.dJ
 bJ:zbk K a.dJ (Qav) []
 mJ:mg "_law_whole"=some (.ref a.fJ)
 FZ:Fun K "_law_numbers" "_law_numbers" zdT a.fZ a.dZ
 bZ:zbk K a.dZ (QaN) []
 mZ:mg "_law_numbers"=some (.ref a.fZ)
 Faa:Fun K "_law_miss" "_law_miss" zhE a.faa a.daa
 baa:zbk K a.daa (QbU) []
 maa:mg "_law_miss"=some (.ref a.faa)
 FaU:Fun K "_law_seeker" "_law_seeker" zex a.faU a.daU
 baU:zbk K a.daU (Qbp) []
 maU:mg "_law_seeker"=some (.ref a.faU)
 FaV:Fun K "_law_price" "_law_price" zgk a.faV a.daV
 baV:zbk K a.daV (Qav) []
 maV:mg "_law_price"=some (.ref a.faV)
 FaW:Fun K "_law_hider" "_law_hider" ze9 a.faW a.daW
 baW:zbk K a.daW (Qbj) []
 maW:mg "_law_hider"=some (.ref a.faW)
 FaX:Fun K "_law_bent_number" "_law_bent_number" zdr a.faX a.daX
 baX:zbk K a.daX (QR) []
 maX:mg "_law_bent_number"=some (.ref a.faX)
 Fao:Fun K "_law_bent_list" "_law_bent_list" zec a.fao a.dao
 bao:zbk K a.dao (Qaf) []
 mao:mg "_law_bent_list"=some (.ref a.fao)
 Faq:Fun K "_law_bent_tuple" "_law_bent_tuple" zdL a.faq a.daq
 baq:zbk K a.daq (Qaf) []
 maq:mg "_law_bent_tuple"=some (.ref a.faq)
 FH:Fun K "_law_bent" "_law_bent" zhI a.fH a.dH
 bH:zbk K a.dH (QR) []
 mH:mg "_law_bent"=some (.ref a.fH)
 FaY:Fun K "_law_other_worth" "_law_other_worth" zdH a.faY a.daY
 baY:zbk K a.daY (QcI) []
 maY:mg "_law_other_worth"=some (.ref a.faY)
 FO:Fun K "_law_copy" "_law_copy" zeP a.fO a.dO
 bO:zbk K a.dO (Qav) []
 mO:mg "_law_copy"=some (.ref a.fO)
 FaZ:Fun K "_law_drawn" "_law_drawn" zgl a.faZ a.daZ
 baZ:zbk K a.daZ (QcO) []
 maZ:mg "_law_drawn"=some (.ref a.faZ)
 Fa0:Fun K "law" "law" zwu a.fa0 a.da0
 ba0:zbk K a.da0 (Qb8) []
 ma0:mg "law"=some (.ref a.fa0)
 z_enumerate:mg "enumerate"=none
 z_set:mg "set"=none
 z_isinstance:mg "isinstance"=none
 z_range:mg "range"=none
 z_all:mg "all"=none
 z_sorted:mg "sorted"=none
 z_abs:mg "abs"=none
 z_sum:mg "sum"=none
 z_len:mg "len"=none
 z_list:mg "list"=none
 z_zip:mg "zip"=none
 z_int:mg "int"=none
 z_bool:mg "bool"=none
 z_tuple:mg "tuple"=none
 z_max:mg "max"=none
 z_min:mg "min"=none
 m_NoNumber:mg "NoNumber"=some (.ref a.c_NoNumber)
 m_NoBoxes:mg "NoBoxes"=some (.ref a.c_NoBoxes)
 m_NoBudget:mg "NoBudget"=some (.ref a.c_NoBudget)
 m_MOST_BOXES:mg "MOST_BOXES"=some (.int 6 a.k_MOST_BOXES)
 m_MOST_COST:mg "MOST_COST"=some (.int 60 a.k_MOST_COST)
 m_MOST_OF:mg "MOST_OF"=some (.int 50 a.k_MOST_OF)
 m_MOST_BUDGET:mg "MOST_BUDGET"=some (.int 60 a.k_MOST_BUDGET)
 m_MOST_LOOKS:mg "MOST_LOOKS"=some (.int 60 a.k_MOST_LOOKS)
 x_NoNumber:PySem.W.excIn K a.c_NoNumber zp7 "ValueError.__new__"=true
 x_NoBoxes:PySem.W.excIn K a.c_NoBoxes zp7 "ValueError.__new__"=true
 x_NoBudget:PySem.W.excIn K a.c_NoBudget zp7 "ValueError.__new__"=true
def Bd(m:Nat)(x:Int):Prop:=x.natAbs<2 ^ m
theorem Bd.mono{m n:Nat}{x:Int}(h:Bd m x)(l:m≤n):Bd n x:=ψj h (Nat.pow_le_pow_right (Qm) l)
theorem Bd.mul{m n:Nat}{x y:Int}(hx:Bd m x)(hy:Bd n y):Bd (m+n) (x*y):=by
 unfold Bd at *
 rw[Int.natAbs_mul,Nat.pow_add]
 exact Nat.mul_lt_mul'' hx hy
theorem Bd.add{m:Nat}{x y:Int}(hx:Bd m x)(hy:Bd m y):Bd (m+1) (x+y):=by
 unfold Bd at *
 rw[Nat.pow_succ,Nat.mul_two]
 exact ψZ1 (Int.natAbs_add_le x y) (Nat.add_lt_add hx hy)
theorem Bd.sub{m:Nat}{x y:Int}(hx:Bd m x)(hy:Bd m y):Bd (m+1) (x - y):=by
 unfold Bd at *
 rw[Nat.pow_succ,Nat.mul_two]
 exact ψZ1 (Int.natAbs_sub_le x y) (Nat.add_lt_add hx hy)
theorem Bd.le{m:Nat}{x y:Int}(hy:Bd m y)(h:x.natAbs≤y.natAbs):Bd m x:=ψZ1 h hy
def sg(t b:Int):Int:=if b<0 then -(ψz t b:Int) else (ψz t b:Int)
def zty(t b:Int):Int:=t.fdiv (sg t b)
def zm7(t b:Int):Int:=b.fdiv (sg t b)
theorem zrr{t b:Int}(h:b≠0):ψz t b≠0:=λe=>h (Int.gcd_eq_zero_iff.mp e).2
theorem znl{t b:Int}(h:b≠0):sg t b≠0:=by
 have:=zrr (t:=t) h
 unfold sg
 split <;> omega
theorem zwn(t b:Int):(sg t b).natAbs=ψz t b:=by
 unfold sg
 split <;> omega
theorem zwy(t b:Int):sg t b∣t:=by
 unfold sg
 split
 ·exact Int.neg_dvd.mpr (Int.gcd_dvd_left ..)
 ·exact Int.gcd_dvd_left ..
theorem zwL(t b:Int):sg t b∣b:=by
 unfold sg
 split
 ·exact Int.neg_dvd.mpr (Int.gcd_dvd_right ..)
 ·exact Int.gcd_dvd_right ..
theorem zdj{x g:Int}(h:g∣x):x.fdiv g*g=x:=by
 rw[Int.fdiv_eq_ediv_of_dvd h]
 exact Int.ediv_mul_cancel h
theorem zlr(t b:Int):zty t b*sg t b=t:=zdj (zwy t b)
theorem zh7(t b:Int):zm7 t b*sg t b=b:=zdj (zwL t b)
theorem sg_le{t b:Int}(h:b≠0):(sg t b).natAbs≤b.natAbs:=by
 rw[zwn]
 exact Nat.le_of_dvd (Qd) (Int.natAbs_dvd_natAbs.mpr (Int.gcd_dvd_right t b))
theorem zgW{q g x:Int}(h:q*g=x)(hg:g≠0):q.natAbs≤x.natAbs:=by
 rw[← h,Int.natAbs_mul]
 exact Nat.le_mul_of_pos_right _ (Qd)
theorem zrt{t b:Int}(h:b≠0):(zty t b).natAbs≤t.natAbs:=zgW (zlr t b) (znl h)
theorem zrC{t b:Int}(h:b≠0):(zm7 t b).natAbs≤b.natAbs:=zgW (zh7 t b) (znl h)
theorem zpL{q g x:Int}(h:q*g=x)(s:(0<x∧0<g)∨(x<0∧g<0)):0<q:=by
 rcases s with ⟨a,c⟩ | ⟨a,c⟩
 ·exact Int.pos_of_mul_pos_left (by rw[h];exact a) c
 ·by_cases z:0<q
  ·exact z
  ·have h1:0≤(-q)*(-g):=Int.mul_nonneg (Qd) (Qd)
   rw[Int.neg_mul_neg,h] at h1
   omega
theorem zvw{t b:Int}(h:b≠0):0<zm7 t b:=by
 refine zpL (zh7 t b) ?_
 have g:=zrr (t:=t) h
 unfold sg
 split <;> omega
theorem zyq{t b:Int}(h:b≠0):ψz (zty t b) (zm7 t b)=1:=by
 have e:ψz (zty t b*sg t b) (zm7 t b*sg t b)=ψz (zty t b) (zm7 t b)*(sg t b).natAbs:=Int.gcd_mul_right ..
 rw[zlr,zh7,zwn] at e
 exact Nat.eq_of_mul_eq_mul_right (Nat.pos_of_ne_zero (zrr h)) (by rw[Nat.one_mul];exact e.symm)
theorem zhW{t b:Int}(h:b≠0):(ψD t b).num=zty t b∧((ψD t b).den:Int)=zm7 t b:=by
 have p:=zvw (t:=t) h
 have g:=zyq (t:=t) h
 have e2:((zm7 t b).toNat:Int)=zm7 t b:=by omega
 have nz:(zm7 t b).toNat≠0:=by omega
 have red:(zty t b).natAbs.Coprime (zm7 t b).toNat:=by
  have e:(zm7 t b).toNat=(zm7 t b).natAbs:=by omega
  rw[e]
  exact g
 have e:ψD t b=⟨zty t b,(zm7 t b).toNat,nz,red⟩:=by
  rw[Rat.mk_eq_divInt,e2,Rat.divInt_eq_divInt_iff h (Qd)]
  have h1:=zlr t b
  have h2:=zh7 t b
  generalize zty t b=x at h1 ⊢
  generalize zm7 t b=y at h2 ⊢
  rw[← h1,← h2]
  grind
 rw[e]
 exact⟨rfl,e2⟩
abbrev fr(q:Rat):List L2.V:=[.int q.num,.int (q.den:Int)]
abbrev nf(q:Rat):List Int:=[q.num,(q.den:Int)]
theorem zcO(q:Rat):(q.den:Int)≠0:=by
 have:=q.den_nz
 omega
theorem zcY(q:Rat):0<(q.den:Int):=by
 have:=q.den_nz
 omega
theorem zs5(p q:Rat):ψD (p.num*q.den+q.num*p.den) (p.den*q.den)=p+q:=by
 rw[← Rat.divInt_add_divInt _ _ (zcO p) (zcO q),ψG,ψG]
theorem zth(p q:Rat):ψD (p.num*q.den - q.num*p.den) (p.den*q.den)=p - q:=by
 rw[← Rat.divInt_sub_divInt _ _ (zcO p) (zcO q),ψG,ψG]
theorem zqI(p q:Rat):ψD (p.num*q.num) (p.den*q.den)=p*q:=by
 rw[← Rat.divInt_mul_divInt,ψG,ψG]
theorem zlQ(p q:Rat):ψD (p.num*q.den) (p.den*q.num)=p / q:=by
 rw[← Rat.divInt_mul_divInt,ψG,← Rat.inv_divInt,ψG,Rat.div_def]
structure Bq (n:Nat) (q:Rat):Prop where
 top:Bd n q.num
 bot:Bd n (q.den:Int)
theorem Bq.mono{m n:Nat}{q:Rat}(h:Bq m q)(l:m≤n):Bq n q:=⟨h.top.mono l,h.bot.mono l⟩
theorem zcJ{n:Nat}{t b:Int}(h:b≠0)(ht:Bd n t)(hb:Bd n b):Bq n (ψD t b):=by
 obtain⟨e1,e2⟩:=zhW (t:=t) h
 exact⟨by rw[e1];exact ht.le (zrt h),by rw[e2];exact hb.le (zrC h)⟩
theorem zpi{q:Rat}(h:q≠0):q.num≠0:=λe=>h (Rat.num_eq_zero.mp e)
theorem ztO{x y:Int}(hx:0≤x)(hy:0<y):ψz y (x % y)=ψz x y:=by
 obtain⟨m,rfl⟩:=ψd1 hx
 obtain⟨n,rfl⟩:=ψd1 (ψx hy)
 rw[← Int.natCast_emod]
 show Nat.gcd n (m % n)=Nat.gcd m n
 rw[Nat.gcd_comm n,← Nat.gcd_rec,Nat.gcd_comm]
theorem zl5{x y:Int}(hx:0≤x)(hy:0<y):ψz y (x.fmod y)=ψz x y:=by
 rw[ψy1 x (ψx hy)]
 exact ztO hx hy
theorem zqD(i:Int):(if i<0 then -i else i)=(i.natAbs:Int):=by
 split <;> omega
theorem zkK(u:Int)(h:0≤u):((ψz u 0:Nat):Int)=u:=by
 show((Nat.gcd u.natAbs 0:Nat):Int)=u
 rw[Nat.gcd_zero_right]
 omega
theorem pow18:zvM 10 18:=(QbC)
def zrz:Sp:=λvs H Q _=>∃a b:Int,vs=[.int a,.int b]∧Q (.int (ψz a b:Nat)) H
abbrev Box:=Int×Int×Int
abbrev bx(b:Box):List V:=[.int b.1,.int b.2.1,.int b.2.2]
def GB(b:Box):Prop:=1≤b.1∧b.1≤60∧1≤b.2.1∧b.2.1≤b.2.2∧b.2.2≤50
theorem zaO{α β:Type}{f:α→β}{l:List α}{i:Nat}{y:β}(h:(l.map f)[i]?=some y):∃x,l[i]?=some x∧y=f x:=by
 rw[ψI] at h
 obtain⟨x,h1,h2⟩:=Option.map_eq_some_iff.mp h
 exact⟨x,h1,h2.symm⟩
def Tps{α:Type}(f:α→List V)(H:Hp)(ts:List Addr)(bs:List α):Prop:=ts.length=bs.length∧∀(i:Nat) t b,ts[i]?=some t→bs[i]?=some b→H t=some (.tup (f b))
theorem Tps.same{α:Type}{f:α→List V}{H H':Hp}{ts:List Addr}{bs:List α}(h:Tps f H ts bs)(s:zaP H H'):Tps f H' ts bs:=⟨h.1,λi t b e1 e2=>s _ _ (h.2 i t b e1 e2)⟩
theorem Tps.nil{α:Type}{f:α→List V}{H:Hp}:Tps f H [] ([]:List α):=⟨rfl,λi t b e=>by simp at e⟩
theorem Tps.put{α:Type}{f:α→List V}{H H':Hp}{ts:List Addr}{bs:List α}{t:Addr}{b:α}(h:Tps f H ts bs)(s:∀(x:Addr) (u:List V),H x=some (.tup u)→H' x=some (.tup u))(e:H' t=some (.tup (f b))):Tps f H' (ts++[t]) (bs++[b]):=by
 refine⟨by rw[ψb1,ψb1,h.1];rfl,λi x y e1 e2=>?_⟩
 by_cases c:i<ts.length
 ·rw[ψi1 c] at e1
  rw[ψi1 (by rw[← h.1];exact c)] at e2
  exact s _ _ (h.2 i x y e1 e2)
 ·have c1:ts.length≤i:=by omega
  rw[ψe1 c1] at e1
  rw[ψe1 (by rw[← h.1];exact c1),← h.1] at e2
  have z:i - ts.length=0:=by
   have:=(Qbh).1
   simp only[ψN,List.length_nil] at this
   omega
  rw[z] at e1 e2
  simp only[List.getElem?_cons_zero,Option.some.injEq] at e1 e2
  rw[← e1,← e2]
  exact e
theorem Tps.at{α:Type}{f:α→List V}{H:Hp}{ts:List Addr}{bs:List α}(h:Tps f H ts bs){i:Nat}{t:Addr}(e:ts[i]?=some t):∃b,bs[i]?=some b∧H t=some (.tup (f b)):=by
 have hi:=(List.getElem?_eq_some_iff.mp e).1
 rw[h.1] at hi
 exact⟨bs[i],ψc hi,h.2 i t _ e (ψc hi)⟩
theorem zan{α:Type}{l:List α}{i:Nat}{x:α}(e:l[i]?=some x):x∈l:=ψS e
structure BP (H:Hp) (l pl:Addr) (ts:List Addr) (bs:List Box) (ns:List Int):Prop where
 hl:H l=some (Q4)
 hb:Tps bx H ts bs
 hp:H pl=some (Qbd)
 len:ns.length=bs.length
 gb:∀b∈bs,GB b
 gn:∀n∈ns,0≤n∧n≤60
 l1:1≤bs.length
 l6:bs.length≤6
theorem BP.same{H H':Hp}{l pl:Addr}{ts:List Addr}{bs:List Box}{ns:List Int}(h:BP H l pl ts bs ns)(s:zaP H H'):BP H' l pl ts bs ns :=
 ⟨s _ _ h.hl,h.hb.same s,s _ _ h.hp,h.len,h.gb,h.gn,h.l1,h.l6⟩
def chq(b:Box)(n:Int):Rat:=ψD (b.2.2 ^ n.toNat - (b.2.2 - b.2.1) ^ n.toNat) (b.2.2 ^ n.toNat)
def zaR(bs:List Box)(ns:List Int):List Int:=ψd (λb n=>b.1*n) bs ns
def zm5(bs:List Box)(ns:List Int):List Rat:=ψd chq bs ns
def Off(p c:Addr)(H:Hp):Hp:=λb=>if b=p∨b=c then none else H b
theorem zbB(p c:Addr)(H:Hp):zaP (QaJ) H:=λb o h=>by
 unfold Off at h
 split at h
 ·cases h
 ·exact h
theorem zhl{p c b:Addr}{H:Hp}(h1:b≠p)(h2:b≠c):Off p c H b=H b:=if_neg (λz=>z.elim h1 h2)
theorem zzr{p c b:Addr}{H:Hp}{o:HO}(h:Off p c H b=some o):b≠p∧b≠c:=by
 unfold Off at h
 split at h
 ·cases h
 ·rename_i z
  exact⟨λe=>z (.inl e),λe=>z (.inr e)⟩
theorem zx0{p c:Addr}{H:Hp}{o:HO}:Off p c (upd H p o)=Off p c H:=by
 funext b
 unfold Off upd
 split
 ·rfl
 ·rename_i z
  rw[if_neg λe=>z (.inl e)]
theorem off_c{p c:Addr}{H:Hp}{o:HO}:Off p c (upd H c o)=Off p c H:=by
 funext b
 unfold Off upd
 split
 ·rfl
 ·rename_i z
  rw[if_neg λe=>z (.inr e)]
theorem zcQ{p c b:Addr}{H:Hp}{o:HO}(h1:b≠p)(h2:b≠c):Off p c (upd H b o)=upd (QaJ) b o:=by
 funext x
 unfold Off upd
 by_cases e:x=b
 ·subst e
  rw[if_neg λz=>z.elim h1 h2,if_pos rfl,if_pos rfl]
 ·rw[if_neg e,if_neg e]
structure Pur (H:Hp) (p c:Addr) (t:Int):Prop where
 ne:p≠c
 hp:H p=some (.lst [.ref c,.int t])
 hc:∃ns:List Int,H c=some (Qbd)∧0<ns.length∧ns.length≤63
 t0:0≤t
theorem Pur.new{H:Hp}{p c:Addr}{t:Int}(h:Pur H p c t){b:Addr}(hb:H b=none):b≠p∧b≠c:=by
 obtain⟨ns,hc,_⟩:=h.hc
 exact⟨(zaT h.hp hb).symm,(zaT hc hb).symm⟩
theorem Pur.upd{H:Hp}{p c:Addr}{t:Int}(h:Pur H p c t){b:Addr}{o:HO}(h1:b≠p)(h2:b≠c):Pur (QcL) p c t:=by
 obtain⟨ns,hc,e⟩:=h.hc
 exact⟨h.ne,by rw[zaS h1.symm];exact h.hp,⟨ns,by rw[zaS h2.symm];exact hc,e⟩,h.t0⟩
theorem zfM{H:Hp}{p c b:Addr}(hb:H b=none):Off p c H b=none:=by
 unfold Off
 split
 ·rfl
 ·exact hb
theorem Pur.same{H H':Hp}{p c:Addr}{t:Int}(h:Pur H p c t)(s:zaP H H'):Pur H' p c t:=by
 obtain⟨ns,hc,e⟩:=h.hc
 exact⟨h.ne,s _ _ h.hp,⟨ns,s _ _ hc,e⟩,h.t0⟩
theorem zgX{H H':Hp}(p c:Addr)(s:zaP H H'):zaP (QaJ) (Off p c H'):=λb o h=>by
 have n:=zzr h
 rw[zhl n.1 n.2] at h ⊢
 exact s _ _ h
def zs0:Sp:=λvs H Q _=>∃(l:Addr) (ts:List Addr) (bs:List Box),vs=[.ref l]∧H l=some (Q4)∧Tps bx H ts bs∧(QaF)∧1≤bs.length∧bs.length≤6∧∀H',zaP H H'→Q .non H'
def znZ:Sp:=λvs H Q _=>∃b n:Int,vs=[.int b,.int n]∧0≤n∧n≤60∧0≤b∧b≤50∧Q (.int (b ^ n.toNat)) H
def zfK:Sp:=λvs H Q _=>∃(p:Addr) (b:Box) (n:Int),vs=[.ref p,.int n]∧H p=some (Qbz)∧GB b∧0≤n∧n≤60∧∀(r:Addr) (H':Hp),zaP H H'→H' r=some (.tup [.int ((b.2.2 - b.2.1) ^ n.toNat),.int (b.2.2 ^ n.toNat)])→Q (QT) H'
def zje:Sp:=λvs H Q _=>∃(p:Addr) (b:Box) (n:Int),vs=[.ref p,.int n]∧H p=some (Qbz)∧GB b∧0≤n∧n≤60∧∀(r:Addr) (H':Hp),zaP H H'→H' r=some (.tup (fr (chq b n)))→Q (QT) H'
def zoU:Sp:=λvs H Q _=>∃(l pl:Addr) (ts:List Addr) (bs:List Box) (ns:List Int),vs=[.ref l,.ref pl]∧BP H l pl ts bs ns∧∀H',zaP H H'→Q (.int (QbE).sum) H'
def zr5:Sp:=λvs H Q _=>∃t b:Int,vs=[.int t,.int b]∧0<b∧Bd 6000 b∧∀(r:Addr) (H':Hp),zaP H H'→H' r=some (.tup (fr (ψD t b)))→Q (QT) H'
def zqB(K:ψa):Sp:=λvs H Q _=>∃(s:Addr) (ns:List Int),vs=[.ref s]∧SqL K H s (QJ)∧∀(p c:Addr) (H':Hp),zaP H H'→Pur H' p c 0→Q (Qbn) H'
def zcy:Sp:=λvs H Q _=>∃(p c:Addr) (t m:Int),vs=[.ref p,.int m]∧Pur H p c t∧t<100000∧0<m∧m≤1000000000000000000000000000000∧∀(r:Int) (H':Hp),0≤r→r<m→Off p c H'=Off p c H→Pur H' p c (t+1)→Q (.int r) H'
def zmD:Sp:=λvs H Q _=>∃t b:Int,vs=[.int t,.int b]∧b≠0∧Bd 6000 b∧∀(r:Addr) (H':Hp),zaP H H'→H' r=some (.tup (fr (ψD t b)))→Q (QT) H'
theorem zo0{t b:Int}(h:b≠0)(hb:Bd 6000 b):(sg t b).natAbs.log2<9000:=zhL 6000 (znl h) (hb.le (sg_le h))
theorem zcA{p:Rat}(p0:0≤p)(p1:p≤1):∀n:Nat,1 - (1 - p) ^ n≤(n:Rat)*p∧0≤(1 - p) ^ n∧(1 - p) ^ n≤1
 | 0=>by
  rw[ψv1]
  refine⟨?_,?_,ψG1⟩ <;> grind
 | n+1=>by
  obtain⟨h1,h2,h3⟩:=zcA p0 p1 n
  have q0:0≤1 - p:=by grind
  have m1:0≤(1 - p) ^ n*(1 - p):=ψs1 h2 q0
  have m2:0≤(1 - p) ^ n*p:=ψs1 h2 p0
  have m3:(1 - p) ^ n*p≤1*p:=ψP h3 p0
  rw[ψl1]
  have c:((n+1:Nat):Rat)=(n:Rat)+1:=by exact_mod_cast rfl
  rw[c]
  refine⟨?_,m1,?_⟩ <;> grind
inductive Tg (H:Hp):V→Prop where
 | non:Tg H .non
 | bl (b:Bool):Tg H (.bl b)
 | int (i:Int):Tg H (.int i)
 | str (x:Str):Tg H (.str x)
 | lst {a:Addr} {xs:List V} (h:H a=some (QbW)):Tg H (.ref a)
 | tup {a:Addr} {xs:List V} (h:H a=some (QcT)):Tg H (.ref a)
theorem Tg.same{H H':Hp}{v:V}(h:Tg H v)(s:zaP H H'):Tg H' v:=by
 cases h with
 | non=>exact .non
 | bl b=>exact .bl b
 | int i=>exact .int i
 | str x=>exact .str x
 | lst h=>exact .lst (s _ _ h)
 | tup h=>exact .tup (s _ _ h)
inductive NL (H:Hp):V→Prop where
 | non:NL H .non
 | bl (b:Bool):NL H (.bl b)
 | int (i:Int):NL H (.int i)
 | str (x:Str):NL H (.str x)
 | tup {a:Addr} {xs:List V} (h:H a=some (QcT)):NL H (.ref a)
def isI:V→Bool
 | .int _=>true
 | _=>false
def wi(l m:Int):V→Bool
 | .int i=>decide (l≤i∧i≤m)
 | _=>false
def nn:V→Bool
 | .int i=>decide (0≤i)
 | _=>false
def iv:V→Int
 | .int i=>i
 | _=>0
def gW(n:Int)(xs:List V):Bool:=decide ((xs.length:Int)=n)&&xs.all nn&&decide (0<(xs.map iv).sum)
def gB:List V→Bool
 | [c,h,o]=>wi 1 60 c&&wi 1 50 o&&wi 1 (iv o) h
 | _=>false
def BxR(H:Hp)(x:V)(c:Bool):Prop:=((∀(a:Addr) (ys:List V),x=.ref a→H a≠some (.tup ys))∧Tg H x∧c=false)∨∃(t:Addr) (ys:List V),x=.ref t∧H t=some (.tup ys)∧(∀y∈ys,Tg H y)∧c=gB ys
def gP(n:Nat)(xs:List V):Bool:=decide (xs.length=n)&&xs.all (wi 0 60)
def gO(ns:List Int)(xs:List V):Bool:=xs.all (wi 0 ((ns.length:Int) - 1))&&decide (((ψr1 ns.length).map λk:Nat=>((xs.countP λz=>eqV z (V.int (k:Int)):Nat):Int))=ns)
theorem zj1:∀{xs:List V},xs.all nn=true→∃is:List Int,xs=is.map V.int
 | [],_=>⟨[],rfl⟩
 | x::xs,h=>by
  rw[List.all_cons,ψt] at h
  obtain⟨is,rfl⟩:=zj1 h.2
  cases x with
  | int i=>exact⟨i::is,rfl⟩
  | _=>exact absurd h.1 (by simp[nn])
def zda:Sp:=λvs H Q _=>∃v:V,vs=[v]∧Tg H v∧Q (.bl (isI v)) H
def zfC:Sp:=λvs H Q _=>∃(v:V) (l m:Int),vs=[v,.int l,.int m]∧Tg H v∧Q (.bl (wi l m v)) H
def zod:Sp:=λvs H Q _=>∃(v:V) (n:Int),vs=[v,.int n]∧((NL H v∧Q (QbM) H)∨∃(a:Addr) (xs:List V),v=.ref a∧H a=some (QbW)∧xs.length≤900∧(∀x∈xs,Tg H x)∧∀H',zaP H H'→Q (.bl (gW n xs)) H')
def zoK:Sp:=λvs H Q _=>∃(v:V) (c:Bool),vs=[v]∧BxR H v c∧Q (.bl c) H
def zhV:Sp:=λvs H Q _=>∃(v:V) (l:Addr) (bs:List V),vs=[v,.ref l]∧H l=some (.lst bs)∧((NL H v∧Q (QbM) H)∨∃(a:Addr) (xs:List V),v=.ref a∧H a=some (QbW)∧xs.length≤900∧(∀x∈xs,Tg H x)∧∀H',zaP H H'→Q (.bl (gP bs.length xs)) H')
section
variable {P:Program} {w:World} {mg:Str→Option Value} {base:Heap}
variable {K:ψa} {H:Hp} {Q:VK} {a:Ad}
theorem eqT{f g:TS}(h:f=g)(D:zjo)(σ:St)(H:Hp):f D σ H=g D σ H:=by rw[h]
def rNeU(K:ψa):R2:=λx y H Q=>∃a b xs,x=.ref a∧y=.ref b∧SqT K H a xs∧SqT K H b []∧Q (.bl (!xs.isEmpty)) H
open PySem PySem.Spec PyProof.Rows in
theorem zAj{X:Cx}(hu:X.A.units<cLine):OpR X (compareOp .NotEq) (rNeU X.K):=by
 intro pins s σ H x y v u Q I rx ry h
 obtain⟨a,b,xs,rfl,rfl,ha,hb,q⟩:=h
 cases rx
 cases ry
 obtain⟨us,r1,p1,_⟩:=I.tuple ha
 obtain⟨ws,r2,p2,_⟩:=I.tuple hb
 cases r2
 refine SeqAt.RcNeAt.tuples p1 p2 hu (e:=λ_=>true) (λj h1 h2=>absurd h2 (ψn1 _)) X.prog X.w X.xe _ ⟨.bl _,H,I,rfl,?_⟩
 cases xs with
 | nil =>
  cases r1
  exact q
 | cons z zs =>
  cases r1
  exact q
def zq2(K:ψa):R2:=λx y H Q=>∃a b xs ys,x=.ref a∧y=.ref b∧SqT K H a xs∧SqT K H b ys∧xs.length+ys.length≤sizeLine ∧
 (xs=[]→Q (.ref b) H)∧(xs≠[]→ys=[]→Q (.ref a) H)∧(xs≠[]→ys≠[]→∀p,H p=none→Q (Qbn) (upd H p (.tup (xs++ys))))
open PySem PySem.Spec PyProof.Rows in
theorem zoa{X:Cx}:OpR X (binaryOp .Add) (zq2 X.K):=by
 intro pins s σ H x y v u Q I rx ry h
 obtain⟨a,b,xs,ys,rfl,rfl,ha,hb,hz,q0,q1,q2⟩:=h
 by_cases hx:xs=[]
 ·cases rx
  cases ry
  obtain⟨its,r1,p1,_⟩:=I.tuple ha
  obtain⟨its2,r2,p2,_⟩:=I.tuple hb
  obtain⟨⟨cls,dd,data,sl⟩,ho,hc,n,hd⟩:=id p1
  obtain⟨⟨cls2,dd2,data2,sl2⟩,ho2,hc2,n2,hd2⟩:=id p2
  simp only at hc hd hc2 hd2
  subst hc hd hc2 hd2
  exact concat_meets ⟨_,ho,rfl⟩ ⟨_,ho2,rfl⟩ noFill_tuple_add seq_tuple_add PySem.F.slot_tuple_add PySem.F.entry_tuple_add (PySem.F.args_tuple_add_2 _ _) (tuple_addW0 _ _ its.toArray its2.toArray n n2 dd dd2 sl sl2 (by simp[r1.nil_iff.mpr hx])) ⟨ho,ho2,.ref b,H,I,rfl,q0 hx⟩
 ·exact zxM pins s σ H _ _ v u Q I rx ry ⟨a,b,xs,ys,rfl,rfl,ha,hb,hx,hz,q1 hx,q2 hx⟩
def zjR:TS :=
 (zbf (zbq (tOp (Q7) (zac 0) (zac 1)) (zaj 2))
 (zbf (zbq (zac 1) (zaj 0))
 (zbq (zac 2) (zaj 1))))
def zhb:=eqT (zjR.eq_1)
def zjK(K:ψa):TS :=
 (zbf (zbq (tCB (Qa4) (QF)) (zaj 0))
 (zbf (zbq (tCB (Qa4) (QV)) (zaj 1))
 (zbf (zmT (tTru K (zac 1)) (zjR))
 (zb2 (zac 0)))))
theorem zp6{x y:Int}(q:Q (.int (ψz x y:Nat)) H):zjK K { nx:=λ_ H'=>Q .non H',rt:=Q } (L2.start ["one","other","rest"] [.int x,.int y]) H:=by
 unfold zjK
 simp_all only [zhb,zac]
 refine zkW (λσ H'=>H'=H∧∃u v r,σ=[some (.int u),some (.int v),r]∧0≤u∧0≤v∧ψz u v=ψz x y) (λσ _=>match σ with | [_,some (.int y),_]=>y.toNat | _=>0) ?_ ?_ ?_
 ·rw[zqD,zqD]
  exact⟨rfl,_,_,_,rfl,by omega,by omega,rfl⟩
 ·rintro σ H' ⟨rfl,u,v,r,rfl,hu,hv,hg⟩
  simp_all only [zhb,zac]
  refine zbj (λc=>?_) (λc=>?_)
  ·have c':v≠0:=by simpa using c
   have hv':0<v:=by omega
   refine⟨c',hv,ψw1 u hv',?_,?_⟩
   ·rw[zl5 hu hv',hg]
   ·have:=ψJ1 u hv'
    omega
  ·have c':v=0:=by simpa using c
   subst c'
   rw[← hg,zkK u hu] at q
   exact q
 ·rintro σ H1 Q1 Q2 hQ ⟨v,hv,k,hk,h⟩
  exact⟨v,hv,k,hk,hQ _ _ h⟩
theorem zeF:zaJ ["one","other","rest"] (QL) (zai zjI):=(Qa)
theorem zgK(T:Txt K mg a):zcr P w K mg base CX0 1 a.fN a.dN (QL) zrz:=by
 refine T.FN.ok zeF (Qk) (Qe)
 all_goals obtain⟨x,y,rfl,q⟩:=h
 ·rfl
 exact⟨zjK K,(zaf (zaN (i:=0) zeF.nd rfl (Qg) (zaq zk6 rfl T.z_abs PyProof.Rows.boot_abs (Qaj)))
 (zaf (zaN (i:=1) zeF.nd rfl (Qg) (zaq zk6 rfl T.z_abs PyProof.Rows.boot_abs (Qw)))
 (zaf (zlf PassesOwn.never (zo5 (pv 1) (λ_=>rfl)) (zaf (zaN (i:=2) zeF.nd rfl (Qg) (zao zhD (pv 0) (pv 1)))
 (zaf (zaN (i:=0) zeF.nd rfl (Qg) (pv 1))
 (zah (zaN (i:=1) zeF.nd rfl (Qg) (pv 2))))))
 (zah (zaE (pv 0)))))),
  zp6 q⟩
def zmc:TS :=
 (zb2 (zf6 (zab (tOp (Qt) (zac 0) (zac 2)) (zab (tOp (Qt) (zac 1) (zac 2)) zas))))
def zd3:=eqT (zmc.eq_1)
def zlX:TS :=
 (zbf (zbq (zaG zrz [] E0 (Qy)) (zaj 2))
 (zbf (ze2 (zd2 (zcp (tOp (QY) (zac 1) (Qq))) (zbq (tUn (rU λi=>.int (-i)) (zac 2)) (zaj 2)) zb7))
 (zmc)))
def zd5:=eqT (zlX.eq_1)
def zne:TS :=
 (zbf (ze2 (zd2 (zcp (tOp rEq (zac 1) (Qq))) zoF zb7))
 (zlX))
theorem zuK{t b:Int}(h:b≠0)(hb:Bd 6000 b)(q:∀(r:Addr) (H':Hp),zaP H H'→H' r=some (.tup (fr (ψD t b)))→Q (QT) H') :
  zne { nx:=λ_ H'=>Q .non H',rt:=Q } (L2.start ["top","bottom","shared"] [.int t,.int b]) H:=by
 unfold zne
 simp_all only [zd3,zd5,zac]
 refine⟨λσ H'=>H'=H∧σ=[some (.int t),some (.int b),none],?_,?_⟩
 ·simp_all only [zd3,zd5,zac]
  exact zbj (λc=>absurd c h) (λ_=>trivial)
 ·rintro σ H' ⟨e,rfl⟩
  rw[e]
  simp_all only [zd3,zd5,zac]
  refine⟨t,b,rfl,?_⟩
  refine⟨λσ H'=>H'=H∧σ=[some (.int t),some (.int b),some (.int (sg t b))],?_,?_⟩
  ·simp_all only [zd3,zd5,zac]
   unfold sg
   exact zbj (λc=>by rw[if_pos c]) (λc=>by rw[if_neg c])
  ·rintro σ H' ⟨e,rfl⟩
   rw[e]
   simp_all only [zd3,zd5,zac]
   refine⟨znl h,zo0 h hb,znl h,zo0 h hb,by decide,λp hp=>q p _ (zat hp _) ?_⟩
   rw[fr,(zhW h).1,(zhW h).2]
   exact zam
theorem zk0:zaJ ["top","bottom","shared"] ["top","bottom"] (zai znb):=(Qa)
theorem zfG(T:Txt K mg a):zcr P w K mg base CX0 2 a.fj a.dj ["top","bottom"] zmD:=by
 have GN:=zgK (P:=P) (w:=w) (base:=base) T
 refine T.Fj.ok zk0 (Qk) (Qe)
 all_goals obtain⟨t,b,rfl,h,hb,q⟩:=h
 ·rfl
 exact⟨zne,(zaf (zbz (zb1 (zbi zp1 (pv 1) zae (zbd _)) (zah zk8) zaY))
 (zaf (zaN (i:=2) zk0.nd rfl (Qg) (zag GN (Qc) rfl T.mN T.FN.kp T.bN .nil zaH (QW)))
 (zaf (zbz (zb1 (zbi zj6 (pv 1) zae (zbd _)) (zah (zaN (i:=2) zk0.nd rfl (Qg) (ztP zpa (pv 2)))) zaY))
 (zah (zaE (zbI (zaa (zao zc9 (pv 0) (pv 2)) (zaa (zao zc9 (pv 1) (pv 2)) zad)))))))),
  zuK h hb q⟩
theorem zoO{b:Int}(h0:0≤b)(h1:b≤50):∀n:Nat,0≤b ^ n∧b ^ n≤50 ^ n
 | 0=>by simp
 | n+1=>by
  obtain⟨z1,z2⟩:=zoO h0 h1 n
  rw[Int.pow_succ,Int.pow_succ]
  exact⟨Int.mul_nonneg z1 h0,Int.mul_le_mul z2 h1 h0 (Int.le_trans z1 z2)⟩
theorem zfa{b:Int}(h0:0≤b)(h1:b≤50){n:Nat}(hn:n≤60):Bd 400 (b ^ n):=by
 obtain⟨z1,z2⟩:=zoO h0 h1 n
 have z3:(50:Int) ^ n≤50 ^ 60:=by
  exact_mod_cast Nat.pow_le_pow_right (n:=50) (Qm) hn
 have z4:(50:Int) ^ 60<2 ^ 400:=by decide +kernel
 unfold Bd
 have:(b ^ n).natAbs<(2:Int) ^ 400:=by omega
 omega
theorem zgN{b:Int}(h0:1≤b):∀n:Nat,0<b ^ n
 | 0=>by simp
 | n+1=>by
  rw[Int.pow_succ]
  exact ψB1 (zgN h0 n) (Qd)
def zn9:TS :=
 (zbf (zbq (Qi) (zaj 2))
 (zbf (zka (zmW (QV)) (zaj 3)
 (zbq (tOp (Qb) (zac 2) (zac 0)) (zaj 2)))
 (zb2 (zac 2))))
theorem zuR{b n:Int}(n0:0≤n)(n1:n≤60)(b0:0≤b)(b1:b≤50)(q:Q (.int (b ^ n.toNat)) H) :
  zn9 { nx:=λ_ H'=>Q .non H',rt:=Q } (L2.start ["base","count","product","k"] [.int b,.int n]) H:=by
 unfold zn9
 simp_all only [zac]
 refine⟨by omega,by omega,?_⟩
 refine zfx (λi σ H'=>H'=H∧∃k,σ=[some (.int b),some (.int n),some (.int (b ^ i)),k]) ⟨rfl,none,by rw[Int.pow_zero]⟩ ?_ ?_
 ·rintro i σ H' hi ⟨rfl,k,rfl⟩
  simp_all only [zac]
  exact⟨zql (Qd) (Qd),by rw[Int.pow_succ]⟩
 ·rintro σ H' ⟨rfl,k,rfl⟩
  simp_all only [zac]
  exact q
theorem zi8:zaJ ["base","count","product","k"] ["base","count"] (zai zov):=(Qa)
theorem zpk(T:Txt K mg a):zcr P w K mg base CX0 1 a.fY a.dY ["base","count"] znZ:=by
 refine T.FY.ok zi8 (Qk) (Qe)
 all_goals obtain⟨b,n,rfl,n0,n1,b0,b1,q⟩:=h
 ·rfl
 exact⟨zn9,(zaf (zaN (i:=2) zi8.nd rfl (Qg) zae)
 (zaf (zdA PassesOwn.never rfl (zfr rfl T.z_range (Qw)) (zak (i:=3) zi8.nd rfl (Qg))
 (zah (zaN (i:=2) zi8.nd rfl (Qg) (zao zap (pv 2) (pv 0)))))
 (zah (zaE (pv 2))))),
  zuR n0 n1 b0 b1 q⟩
def zmr:Sp:=λvs H Q _=>∃(x y:Addr) (u v:Rat),vs=[.ref x,.ref y]∧H x=some (Qb7)∧H y=some (Qb6)∧Bq 2000 u∧Bq 2000 v∧∀(r:Addr) (H':Hp),zaP H H'→H' r=some (.tup (fr (u*v)))→Q (QT) H'
def zm8(K:ψa):TS :=
 (zb2 (zaG zmD [] E0 (zab (tOp (Qb) (QE) (Qbm)) (QcP))))
theorem zvG{x y:Addr}{u v:Rat}(hx:H x=some (Qb7))(hy:H y=some (Qb6))(bu:Bq 2000 u)(bv:Bq 2000 v)
  (q:∀(r:Addr) (H':Hp),zaP H H'→H' r=some (.tup (fr (u*v)))→Q (QT) H') :
  zm8 K { nx:=λ_ H'=>Q .non H',rt:=Q } (Qbr) H:=by
 unfold zm8
 simp_all only [zac]
 rw[← zqI] at q
 have hx:=SqT.of (K:=K) hx
 have hy:=SqT.of (K:=K) hy
 exact⟨_,hx,_,rfl,_,hy,_,rfl,_,rfl,_,rfl,zdb 2000 2000 bu.top bv.top,_,hx,_,rfl,_,hy,_,rfl,_,rfl,_,rfl,zdb 2000 2000 bu.bot bv.bot,_,_,rfl,ψX (zcO u) (zcO v),(bu.bot.mul bv.bot).mono (Qm),q⟩
theorem zuB:zaJ (QL) (QL) (zai zny):=(Qa)
theorem zt9(T:Txt K mg a):zcr P w K mg base CX0 3 a.fas a.das (QL) zmr:=by
 have Gj:=zfG (P:=P) (w:=w) (base:=base) T
 refine T.Fas.ok zuB (Qk) (Qe)
 all_goals obtain⟨x,y,u,v,rfl,hx,hy,bu,bv,q⟩:=h
 ·rfl
 exact⟨zm8 K,(zah (zaE (zag Gj (Qc) rfl T.mj T.Fj.kp T.bj .nil zaH (zaa (Qbe) (zaa (Qbe) zad))))),
  zvG hx hy bu bv q⟩
theorem zvq{b d:Int}(hb:0<b)(hd:0<d):0<b.fdiv (ψz b d:Nat)*d∧b∣b.fdiv (ψz b d:Nat)*d∧d∣b.fdiv (ψz b d:Nat)*d∧(∀M,b∣M→d∣M→b.fdiv (ψz b d:Nat)*d∣M)∧b.fdiv (ψz b d:Nat)*d≤b*d:=by
 obtain⟨B,rfl⟩:=ψd1 (ψx hb)
 obtain⟨D,rfl⟩:=ψd1 (ψx hd)
 have e:((B:Int).fdiv (ψz (B:Int) (D:Int):Nat))*(D:Int)=((Nat.lcm B D:Nat):Int):=by
  rw[ψZ _ (Qd)]
  show(((B / Nat.gcd B D:Nat):Int))*(D:Int)=_
  rw[← Int.natCast_mul]
  congr 1
  unfold Nat.lcm
  exact Nat.div_mul_right_comm (Nat.gcd_dvd_left B D) D
 rw[e]
 have B0:0<B:=by omega
 have D0:0<D:=by omega
 refine⟨?_,Int.natCast_dvd_natCast.mpr (Nat.dvd_lcm_left B D),Int.natCast_dvd_natCast.mpr (Nat.dvd_lcm_right B D),λM h1 h2=>?_,?_⟩
 ·have:=Nat.lcm_pos B0 D0
  omega
 ·rw[Int.ofNat_dvd_left] at h1 h2 ⊢
  exact Nat.lcm_dvd h1 h2
 ·rw[← Int.natCast_mul]
  have:Nat.lcm B D≤B*D:=Nat.div_le_self _ _
  omega
structure Com (qs:List Rat) (D:Int):Prop where
 pos:0<D
 all:∀q∈qs,(q.den:Int)∣D
 least:∀M:Int,(∀q∈qs,(q.den:Int)∣M)→D∣M
def zlz:Sp:=λvs H Q _=>∃(l:Addr) (us:List Addr) (qs:List Rat),vs=[.ref l]∧H l=some (Q3)∧Tps fr H us qs∧qs.length≤60∧(∀q∈qs,Bq 2200 q)∧∀(r tl:Addr) (D:Int) (H':Hp),zaP H H'→Com qs D→H' r=some (.tup [.ref tl,.int D])→H tl=none→H' tl=some (.lst ((qs.map λq=>q.num*(D / q.den)).map V.int))→Q (QT) H'
def zkz(K:ψa):TS :=
 (zbq (tOp (Qb) (tOp (Qt) (zac 1) (zaG zrz [] E0 (zab (zac 1) (zab (QaZ) zas)))) (QaZ)) (zaj 1))
def zev(K:ψa):=eqT (zkz.eq_1 K)
def zko(K:ψa):TS :=
 (zb2 (zf6 (zab (zcu (Qaw) (zaj 0) zbe (tOp (Qb) (QE) (tOp (Qt) (zac 1) (QC))) [none,some 1]) (QV))))
def zeu(K:ψa):=eqT (zko.eq_1 K)
def zlh(K:ψa):TS :=
 (zbf (zbq (Qi) (zaj 1))
 (zbf (zka (Qaw) (zaj 2)
 (zkz K))
 (zko K)))
theorem zq3{l:Addr}{us:List Addr}{qs:List Rat}(hl:H l=some (Q3))(ht:Tps fr H us qs)(h60:qs.length≤60)(hB:∀q∈qs,Bq 2200 q)(q:∀(r tl:Addr) (D:Int) (H':Hp),zaP H H'→Com qs D→H' r=some (.tup [.ref tl,.int D])→H tl=none→H' tl=some (.lst ((qs.map λq=>q.num*(D / q.den)).map V.int))→Q (QT) H') :
  zlh K { nx:=λ_ H'=>Q .non H',rt:=Q } (L2.start ["fractions","bottom","fraction"] [.ref l]) H:=by
 unfold zlh
 have ul:=ht.1
 simp_all only [zev,zeu,zac]
 refine⟨⟨_,SqL.of hl⟩,?_⟩
 refine zds (K:=K) (xs:=us.map V.ref) (λi σ H'=>H'=H∧∃(b:Int) (x1:Option V),Com (qs.take i) b∧Bd (2200*i+1) b∧σ=[some (Qa1),some (.int b),x1]) ⟨rfl,1,_,⟨by decide,by simp,λM _=>Int.one_dvd M⟩,by show(1:Nat)<2 ^ 1;decide,rfl⟩ ?_ ?_ ?_
 ·rintro i σ H' _ ⟨rfl,_⟩
  exact SqL.of hl
 ·rintro i v σ H1 hx ⟨rfl,b,x1,C,hb,rfl⟩
  obtain⟨t,et,rfl⟩:=zaO hx
  obtain⟨f,ef,hf⟩:=ht.at et
  have li:=(List.getElem?_eq_some_iff.mp ef).1
  have bf:=hB f (zan ef)
  obtain⟨p1,p2,p3,p4,p5⟩:=zvq C.pos (zcY f)
  have g0:(ψz b f.den:Int)≠0:=by
   have:=Int.gcd_pos_of_ne_zero_right b (zcO f)
   omega
  have gle:(ψz b f.den:Int).natAbs≤(f.den:Int).natAbs:=by
   have:=Int.gcd_le_natAbs_right b (zcO f)
   omega
  have fdl:(b.fdiv (ψz b f.den:Nat)).natAbs≤b.natAbs:=by
   rw[ψZ _ (Qd)]
   have h1:=ψV1 (ψz b f.den:Nat) (ψx C.pos)
   have h2:=Int.ediv_nonneg (b:=((ψz b f.den:Nat):Int)) (ψx C.pos) (Qd)
   have:=C.pos
   omega
  simp_all only [zev,zeu,zac]
  refine⟨_,SqT.of hf,_,rfl,b,_,rfl,_,rfl,g0,zhL 2200 g0 (bf.bot.le gle),_,SqT.of hf,_,rfl,_,rfl,zdb (2200*i+1) 2200 (hb.le fdl) bf.bot (Qd),rfl,_,⟨p1,λr hr=>?_,λM hM=>p4 M (C.least M λr hr=>hM r ?_) (hM f ?_)⟩,?_,rfl⟩
  ·rw[ψw,ef] at hr
   rcases List.mem_append.mp hr with h | h
   ·exact Int.dvd_trans (C.all r h) p2
   ·have:r=f:=by simpa using h
    rw[this]
    exact p3
  ·rw[ψw,ef]
   exact List.mem_append_left _ hr
  ·rw[ψw,ef]
   exact ψA _ (Qa0)
  ·have hm:=hb.mul bf.bot
   have h0:=C.pos
   have h1:=zcY f
   have h2:=ψB1 h0 h1
   exact(hm.le (Qd)).mono (Qd)
 ·rintro σ H1 ⟨rfl,b,x1,C,hb,rfl⟩
  rw[ψb,ul] at C hb
  rw[ψK (ψh _)] at C
  have hb2:Bd 132001 b:=hb.mono (Qd)
  simp_all only [zev,zeu,zac]
  refine(QaB)
  refine zdR (K:=K) (xs:=us.map V.ref) (λj ys σ H'=>zaP H1 H'∧ys=((qs.take j).map λq=>q.num*(b / q.den)).map V.int∧∃k,σ=[k,some (.int b)]) ⟨zat hD _,rfl,_,rfl⟩ ?_ ?_ ?_
  ·rintro j ys σ H' _ ⟨s,_⟩
   exact SqL.of (s _ _ hl)
  ·rintro j v ys σ H3 hx hD3 ⟨s3,rfl,k,rfl⟩
   obtain⟨t,et,rfl⟩:=zaO hx
   obtain⟨f,ef,hf⟩:=ht.at et
   have bf:=hB f (zan ef)
   have lj:=(List.getElem?_eq_some_iff.mp ef).1
   have hf3:=s3 _ _ hf
   have fde:b.fdiv f.den=b / f.den:=ψZ _ (ψx (zcY f))
   have fdl:(b.fdiv f.den).natAbs≤b.natAbs:=by
    rw[fde]
    have h1:=ψV1 (f.den:Int) (ψx C.pos)
    have h2:=Int.ediv_nonneg (b:=(f.den:Int)) (ψx C.pos) (ψx (zcY f))
    have:=C.pos
    omega
   simp_all only [zev,zeu,zac]
   refine⟨_,SqT.of hf3,_,rfl,_,SqT.of hf3,_,rfl,_,rfl,zcO f,zhL 2200 (zcO f) bf.bot,_,rfl,zdb 2200 132001 bf.top (hb2.le fdl),_,hD3,zbR (by rw[ψb,ψb,ψM];omega),_,zam,s3.put hD,?_⟩
   rw[ψw,ef,fde]
   simp
  ·rintro ys σ H3 hD3 ⟨s3,rfl,k,rfl⟩
   rw[ψb,ul,ψK (ψh _)] at hD3
   exact⟨by decide,λp hp=>q p D b _ (s3.add hp) C zam hD (by rw[zaS (zaT hD3 hp)];exact hD3)⟩
theorem zic:zaJ ["fractions","bottom","fraction"] ["fractions"] (zai zjn):=(Qa)
theorem zmA(T:Txt K mg a):zcr P w K mg base CX0 2 a.fae a.dae ["fractions"] zlz:=by
 have GN:=zgK (P:=P) (w:=w) (base:=base) T
 refine T.Fae.ok zic (Qk) (Qe)
 all_goals obtain⟨l,us,qs,rfl,hl,ht,h60,hB,q⟩:=h
 ·rfl
 exact⟨zlh K,(zaf (zaN (i:=1) zic.nd rfl (Qca) zae)
 (zaf (zdA PassesOwn.never rfl (Qbl) (zak (i:=2) zic.nd rfl (Qg))
 (zah (zaN (i:=1) zic.nd rfl (Qca) (zao zap (zao zc9 (pv 1) (zag GN (Qc) rfl T.mN T.FN.kp T.bN .nil zaH (zaa (pv 1) (zaa (Q6) zad)))) (Q6)))))
 (zah (zaE (zbI (zaa (zcc (sc:=zai zjn) (N:=["fractions","bottom","fraction"]) (Nc:=["fraction","bottom"]) (cap:=[none,some 1]) rfl rfl rfl (Qr) (Qbl) (λ_ _ _ _=>(zak (i:=0) (show ψk (["fraction","bottom"]:List Str) from by decide) rfl (Qg))) (QH) (λ_ _ _ _=>(zao zap (Qh) (zao zc9 (pv 1) (Qh))))) (Qw))))))),
  zq3 hl ht h60 hB q⟩
def zn0:Sp:=λvs H Q _=>∃(x y:Addr) (u v:Rat),vs=[.ref x,.ref y]∧H x=some (Qb7)∧H y=some (Qb6)∧Bq 2900 u∧Bq 2900 v∧∀(r:Addr) (H':Hp),zaP H H'→H' r=some (.tup (fr (u+v)))→Q (QT) H'
def zoH:Sp:=λvs H Q _=>∃(x y:Addr) (u v:Rat),vs=[.ref x,.ref y]∧H x=some (Qb7)∧H y=some (Qb6)∧Bq 2900 u∧Bq 2900 v∧∀(r:Addr) (H':Hp),zaP H H'→H' r=some (.tup (fr (u - v)))→Q (QT) H'
def zll:Sp:=λvs H Q _=>∃(x y:Addr) (u v:Rat),vs=[.ref x,.ref y]∧H x=some (Qb7)∧H y=some (Qb6)∧v≠0∧Bq 2900 u∧Bq 2900 v∧∀(r:Addr) (H':Hp),zaP H H'→H' r=some (.tup (fr (u / v)))→Q (QT) H'
def zlH:Sp:=λvs H Q _=>∃(x y:Addr) (u v:Rat),vs=[.ref x,.ref y]∧H x=some (Qb7)∧H y=some (Qb6)∧Bq 6000 u∧Bq 6000 v∧Q (.bl (decide (u<v))) H
def zsq(K:ψa):TS :=
 (zb2 (zaG zmD [] E0 (zab (tOp (Qz) (tOp (Qb) (QE) (Qap)) (tOp (Qb) (Qbm) (QC))) (QcP))))
theorem zxG{x y:Addr}{u v:Rat}(hx:H x=some (Qb7))(hy:H y=some (Qb6))(bu:Bq 2900 u)(bv:Bq 2900 v)(q:∀(r:Addr) (H':Hp),zaP H H'→H' r=some (.tup (fr (u+v)))→Q (QT) H') :
  zsq K { nx:=λ_ H'=>Q .non H',rt:=Q } (Qbr) H:=by
 unfold zsq
 simp_all only [zac]
 rw[← zs5] at q
 have hx:=SqT.of (K:=K) hx
 have hy:=SqT.of (K:=K) hy
 exact⟨_,hx,_,rfl,_,hy,_,rfl,_,rfl,_,rfl,zdb 2900 2900 bu.top bv.bot,_,hy,_,rfl,_,hx,_,rfl,_,rfl,_,rfl,zdb 2900 2900 bv.top bu.bot,_,hx,_,rfl,_,hy,_,rfl,_,rfl,_,rfl,zdb 2900 2900 bu.bot bv.bot,_,_,rfl,ψX (zcO u) (zcO v),(bu.bot.mul bv.bot).mono (Qm),q⟩
theorem zxu:zaJ (QL) (QL) (zai zrh):=(Qa)
theorem zqG(T:Txt K mg a):zcr P w K mg base CX0 3 a.fab a.dab (QL) zn0:=by
 have Gj:=zfG (P:=P) (w:=w) (base:=base) T
 refine T.Fab.ok zxu (Qk) (Qe)
 all_goals obtain⟨x,y,u,v,rfl,hx,hy,bu,bv,q⟩:=h
 ·rfl
 exact⟨zsq K,(zah (zaE (zag Gj (Qc) rfl T.mj T.Fj.kp T.bj .nil zaH (zaa (zao zco (Qbe) (zao zap (QM) (Qh))) (zaa (Qbe) zad))))),
  zxG hx hy bu bv q⟩
def znU(K:ψa):TS :=
 (zb2 (zaG zmD [] E0 (zab (tOp (QA) (tOp (Qb) (QE) (Qap)) (tOp (Qb) (Qbm) (QC))) (QcP))))
theorem zuo{x y:Addr}{u v:Rat}(hx:H x=some (Qb7))(hy:H y=some (Qb6))(bu:Bq 2900 u)(bv:Bq 2900 v)(q:∀(r:Addr) (H':Hp),zaP H H'→H' r=some (.tup (fr (u - v)))→Q (QT) H') :
  znU K { nx:=λ_ H'=>Q .non H',rt:=Q } (Qbr) H:=by
 unfold znU
 simp_all only [zac]
 rw[← zth] at q
 have hx:=SqT.of (K:=K) hx
 have hy:=SqT.of (K:=K) hy
 exact⟨_,hx,_,rfl,_,hy,_,rfl,_,rfl,_,rfl,zdb 2900 2900 bu.top bv.bot,_,hy,_,rfl,_,hx,_,rfl,_,rfl,_,rfl,zdb 2900 2900 bv.top bu.bot,_,hx,_,rfl,_,hy,_,rfl,_,rfl,_,rfl,zdb 2900 2900 bu.bot bv.bot,_,_,rfl,ψX (zcO u) (zcO v),(bu.bot.mul bv.bot).mono (Qm),q⟩
theorem zuj:zaJ (QL) (QL) (zai znu):=(Qa)
theorem zuU(T:Txt K mg a):zcr P w K mg base CX0 3 a.far a.dar (QL) zoH:=by
 have Gj:=zfG (P:=P) (w:=w) (base:=base) T
 refine T.Far.ok zuj (Qk) (Qe)
 all_goals obtain⟨x,y,u,v,rfl,hx,hy,bu,bv,q⟩:=h
 ·rfl
 exact⟨znU K,(zah (zaE (zag Gj (Qc) rfl T.mj T.Fj.kp T.bj .nil zaH (zaa (zao zcF (Qbe) (zao zap (QM) (Qh))) (zaa (Qbe) zad))))),
  zuo hx hy bu bv q⟩
def zr3(K:ψa):TS :=
 (zb2 (zaG zmD [] E0 (zab (tOp (Qb) (QE) (Qap)) (zab (tOp (Qb) (QC) (Qbm)) zas))))
theorem zwC{x y:Addr}{u v:Rat}(hx:H x=some (Qb7))(hy:H y=some (Qb6))(v0:v≠0)(bu:Bq 2900 u)(bv:Bq 2900 v)(q:∀(r:Addr) (H':Hp),zaP H H'→H' r=some (.tup (fr (u / v)))→Q (QT) H') :
  zr3 K { nx:=λ_ H'=>Q .non H',rt:=Q } (Qbr) H:=by
 unfold zr3
 simp_all only [zac]
 rw[← zlQ] at q
 have hx:=SqT.of (K:=K) hx
 have hy:=SqT.of (K:=K) hy
 exact⟨_,hx,_,rfl,_,hy,_,rfl,_,rfl,_,rfl,zdb 2900 2900 bu.top bv.bot,_,hx,_,rfl,_,hy,_,rfl,_,rfl,_,rfl,zdb 2900 2900 bu.bot bv.top,_,_,rfl,ψX (zcO u) (λz=>v0 (Rat.num_eq_zero.mp z)),(bu.bot.mul bv.top).mono (Qm),q⟩
theorem zwU:zaJ (QL) (QL) (zai zrm):=(Qa)
theorem znt(T:Txt K mg a):zcr P w K mg base CX0 3 a.fQ a.dQ (QL) zll:=by
 have Gj:=zfG (P:=P) (w:=w) (base:=base) T
 refine T.FQ.ok zwU (Qk) (Qe)
 all_goals obtain⟨x,y,u,v,rfl,hx,hy,v0,bu,bv,q⟩:=h
 ·rfl
 exact⟨zr3 K,(zah (zaE (zag Gj (Qc) rfl T.mj T.Fj.kp T.bj .nil zaH (zaa (Qbe) (zaa (Qbe) zad))))),
  zwC hx hy v0 bu bv q⟩
def znA(K:ψa):TS :=
 (zb2 (tOp (QY) (tOp (Qb) (QE) (Qap)) (tOp (Qb) (Qbm) (QC))))
theorem ztF{x y:Addr}{u v:Rat}(hx:H x=some (Qb7))(hy:H y=some (Qb6))(bu:Bq 6000 u)(bv:Bq 6000 v)(q:Q (.bl (decide (u<v))) H) :
  znA K { nx:=λ_ H'=>Q .non H',rt:=Q } (Qbr) H:=by
 unfold znA
 simp_all only [zac]
 have hx:=SqT.of (K:=K) hx
 have hy:=SqT.of (K:=K) hy
 rw[decide_eq_decide.mpr (Rat.lt_iff u v)] at q
 exact⟨_,hx,_,rfl,_,hy,_,rfl,_,rfl,_,rfl,zdb 6000 6000 bu.top bv.bot,_,hy,_,rfl,_,hx,_,rfl,_,rfl,_,rfl,zdb 6000 6000 bv.top bu.bot,q⟩
theorem zt6:zaJ (QL) (QL) (zai znJ):=(Qa)
theorem zpl(T:Txt K mg a):zcr P w K mg base CX0 1 a.fac a.dac (QL) zlH:=by
 refine T.Fac.ok zt6 (Qk) (Qe)
 all_goals obtain⟨x,y,u,v,rfl,hx,hy,bu,bv,q⟩:=h
 ·rfl
 exact⟨znA K,(zah (zaE (zcg zj6 (Qbe) (zao zap (QM) (Qh)) (zbd _)))),
  ztF hx hy bu bv q⟩
def zlb(K:ψa):TS :=
 (zb2 (zf6 (zab (zaG znZ [] E0 (zab (tOp (QA) (QaA) (QC)) (QV))) (zab (zaG znZ [] E0 (zab (QaA) (QV))) zas))))
theorem zrI{p:Addr}{b:Box}{n:Int}(hp:H p=some (Qbz))(g:GB b)(n0:0≤n)(n1:n≤60)(q:∀(r:Addr) (H':Hp),zaP H H'→H' r=some (.tup [.int ((b.2.2 - b.2.1) ^ n.toNat),.int (b.2.2 ^ n.toNat)])→Q (QT) H') :
  zlb K { nx:=λ_ H'=>Q .non H',rt:=Q } (L2.start (Qbt) [.ref p,.int n]) H:=by
 unfold zlb
 obtain⟨g1,g2,g3,g4,g5⟩:=g
 simp_all only [zac]
 refine⟨_,SqT.of hp,_,rfl,_,SqT.of hp,_,rfl,_,rfl,_,rfl,_,_,rfl,n0,n1,by omega,by omega,_,SqT.of hp,_,rfl,_,_,rfl,n0,n1,by omega,by omega,by decide,λr hr=>q r _ (zat hr _) zam⟩
theorem zr7:zaJ (Qbt) (Qbt) (zai zlT):=(Qa)
theorem zfs(T:Txt K mg a):zcr P w K mg base CX0 2 a.fz a.dz (Qbt) zfK:=by
 have GY:=zpk (P:=P) (w:=w) (base:=base) T
 refine T.Fz.ok zr7 (Qk) (Qe)
 all_goals obtain⟨p,b,n,rfl,hp,g,n0,n1,q⟩:=h
 ·rfl
 exact⟨zlb K,(zah (zaE (zbI (zaa (zag GY (Qc) rfl T.mY T.FY.kp T.bY .nil zaH (zaa (zao zcF (Qh) (Qh)) (Qw))) (zaa (zag GY (Qc) rfl T.mY T.FY.kp T.bY .nil zaH (zaa (Qh) (Qw))) zad))))),
  zrI hp g n0 n1 q⟩
theorem zd8{b:Box}(g:GB b)(n:Int):0<b.2.2 ^ n.toNat:=zgN (by obtain⟨g1,g2,g3,g4,g5⟩:=g;omega) _
theorem zhG{b:Box}(g:GB b){n:Int}(n1:n≤60):Bd 400 (b.2.2 ^ n.toNat):=zfa (by obtain⟨g1,g2,g3,g4,g5⟩:=g;omega) g.2.2.2.2 (Qd)
def zly(K:ψa):TS :=
 (zbf (zbq (zaG zfK [] E0 (Qy)) (zed K 2 (QaS)))
 (zb2 (zaG zmD [] E0 (zab (tOp (QA) (zac 3) (zac 2)) (Qa5)))))
theorem zto{p:Addr}{b:Box}{n:Int}(hp:H p=some (Qbz))(g:GB b)(n0:0≤n)(n1:n≤60)(q:∀(r:Addr) (H':Hp),zaP H H'→H' r=some (.tup (fr (chq b n)))→Q (QT) H') :
  zly K { nx:=λ_ H'=>Q .non H',rt:=Q } (L2.start (QbX) [.ref p,.int n]) H:=by
 unfold zly
 simp_all only [zac]
 refine⟨p,b,n,rfl,hp,g,n0,n1,λr H1 s1 hr=>?_⟩
 simp_all only [zac]
 refine⟨_,SqT.of hr,rfl,_,_,rfl,_,_,rfl,rfl,_,rfl,_,rfl,?_⟩
 have z:=zd8 g n
 exact⟨_,_,rfl,by omega,(zhG g n1).mono (Qm),λr H2 s2 hr2=>q r H2 (QbI) hr2⟩
theorem zjZ:zaJ (QbX) (Qbt) (zai zlv):=(Qa)
theorem zjV(T:Txt K mg a):zcr P w K mg base CX0 3 a.fU a.dU (Qbt) zje:=by
 have Gz:=zfs (P:=P) (w:=w) (base:=base) T
 have Gj:=zfG (P:=P) (w:=w) (base:=base) T
 refine T.FU.ok zjZ (Qk) (Qe)
 all_goals obtain⟨p,b,n,rfl,hp,g,n0,n1,q⟩:=h
 ·rfl
 exact⟨zly K,(zaf (zcG (QbG) (zbp rfl (zal (zak (i:=2) zjZ.nd rfl (Qg)) (zal (zak (i:=3) zjZ.nd rfl (Qg)) zaZ))))
 (zah (zaE (zag Gj (Qc) rfl T.mj T.Fj.kp T.bj .nil zaH (zaa (zao zcF (pv 3) (pv 2)) (Qbi)))))),
  zto hp g n0 n1 q⟩
theorem zjm{α β γ:Type}(f:α→β→γ)(as:List α)(bs:List β){i:Nat}{x:α}{y:β}(h1:as[i]?=some x)(h2:bs[i]?=some y) :
  (ψd f as bs).take (i+1)=(ψd f as bs).take i++[f x y]:=by
 rw[ψw,ψY,h1,h2]
 rfl
theorem zsz{α β γ:Type}(f:α→β→γ)(as:List α)(bs:List β):(ψd f as bs).take (min as.length bs.length)=ψd f as bs :=
 ψK (by rw[ψo];exact ψh _)
def ziE(K:ψa):TS :=
 (zb2 (tCB (zpH K) (zab (zcu (zlg K (Qy)) (Ql) zbe (tOp (Qb) (QE) (zac 1)) [none,none]) zas)))
theorem zoy{l pl:Addr}{ts:List Addr}{bs:List Box}{ns:List Int}(B:BP H l pl ts bs ns)(q:∀H',zaP H H'→Q (.int (QbE).sum) H') :
  ziE K { nx:=λ_ H'=>Q .non H',rt:=Q } (L2.start ["boxes","plan"] [.ref l,.ref pl]) H:=by
 unfold ziE
 simp_all only [zac]
 refine(Qbs)
 refine zib (K:=K) (xs:=ts.map V.ref) (zs:=ns.map V.int) (λi ys σ H'=>zaP H H'∧ys=((QbE).take i).map V.int∧∃x y,σ=[x,y]) ⟨zat hD _,rfl,_,_,rfl⟩ ?_ ?_ ?_
 ·rintro i ys σ H' _ ⟨s,_⟩
  exact⟨SqL.of (s _ _ B.hl),SqL.of (s _ _ B.hp)⟩
 ·rintro i x z t ys σ H' hx hz hD' ⟨s,rfl,u,v,rfl⟩ ht
  obtain⟨a,ha,rfl⟩:=zaO hx
  obtain⟨n,hn,rfl⟩:=zaO hz
  obtain⟨b,hb1,hb2⟩:=B.hb.at ha
  obtain⟨n0,n1⟩:=B.gn n (zan hn)
  have li:=(List.getElem?_eq_some_iff.mp hb1).1
  have l6:=B.l6
  have hb3:=s _ _ hb2
  simp_all only [zac]
  refine⟨_,SqT.of zam,rfl,_,_,rfl,_,_,rfl,rfl,?_⟩
  simp_all only [zac]
  refine⟨_,SqT.of (by rw[zaS (zaT hb3 ht)];exact hb3),_,rfl,_,rfl,zql (Qd) (Qd),_,by rw[zaS (zaT hD' ht)];exact hD',zbR (by rw[ψb,ψM];omega),_,zam,((s.add ht).put hD),?_⟩
  rw[zaR,zjm _ _ _ hb1 hn,ψV]
  rfl
 ·rintro ys σ H' hD' ⟨s,rfl,u,v,rfl⟩
  simp_all only [zac]
  refine⟨_,SqL.of hD',?_⟩
  rw[ψb,ψb,B.hb.1,zaR,zsz]
  exact q _ s
theorem znM:zaJ ["boxes","plan"] ["boxes","plan"] (zai zgU):=(Qa)
theorem zhw(T:Txt K mg a):zcr P w K mg base CX0 1 a.fX a.dX ["boxes","plan"] zoU:=by
 refine T.FX.ok znM (Qk) (Qe)
 all_goals obtain⟨l,pl,ts,bs,ns,rfl,B,q⟩:=h
 ·rfl
 exact⟨ziE K,(zah (zaE (zaq (zdo rfl) rfl T.z_sum ψW (zaa (zcc (sc:=zai zgU) (N:=["boxes","plan"]) (Nc:=["box","count"]) (cap:=[none,none]) rfl rfl rfl (Qr) (zd4 rfl T.z_zip (QW)) (Qo) (QH) (Qcv)) zad)))),
  zoy B q⟩
def gnq(b:Box)(n:Int):Rat:=ψD ((b.2.2 - b.2.1) ^ n.toNat*b.2.1) (b.2.2 ^ n.toNat*b.2.2)
def zng:Sp:=λvs H Q _=>∃(p:Addr) (b:Box) (n:Int),vs=[.ref p,.int n]∧H p=some (Qbz)∧GB b∧0≤n∧n≤60∧∀(r:Addr) (H':Hp),zaP H H'→H' r=some (.tup (fr (gnq b n)))→Q (QT) H'
def zr9(K:ψa):TS :=
 (zbf (zbq (zaG zfK [] E0 (Qy)) (zed K 2 (QaS)))
 (zb2 (zaG zmD [] E0 (zab (tOp (Qb) (zac 2) (QC)) (zab (tOp (Qb) (zac 3) (QaA)) zas)))))
theorem zyn{p:Addr}{b:Box}{n:Int}(hp:H p=some (Qbz))(g:GB b)(n0:0≤n)(n1:n≤60)(q:∀(r:Addr) (H':Hp),zaP H H'→H' r=some (.tup (fr (gnq b n)))→Q (QT) H') :
  zr9 K { nx:=λ_ H'=>Q .non H',rt:=Q } (L2.start (QbX) [.ref p,.int n]) H:=by
 unfold zr9
 simp_all only [zac]
 refine⟨p,b,n,rfl,hp,g,n0,n1,λr H1 s1 hr=>?_⟩
 simp_all only [zac]
 have hp1:=SqT.of (K:=K) (s1 _ _ hp)
 have z:=zd8 g n
 have bo:=zhG g n1
 obtain⟨g1,g2,g3,g4,g5⟩:=g
 have b50:Bd 6 b.2.2:=by show b.2.2.natAbs<2 ^ 6;omega
 refine⟨_,SqT.of hr,rfl,_,_,rfl,_,_,rfl,rfl,_,hp1,_,rfl,_,rfl,_,rfl,zql (Qd) (Qd),_,hp1,_,rfl,_,rfl,_,rfl,zql (Qd) (Qd),?_⟩
 exact⟨_,_,rfl,ψX (Qd) (Qd),(bo.mul b50).mono (Qm),λr H2 s2 hr2=>q r H2 (QbI) hr2⟩
theorem zn5:zaJ (QbX) (Qbt) (zai zqF):=(Qa)
theorem zsJ(T:Txt K mg a):zcr P w K mg base CX0 3 a.faj a.daj (Qbt) zng:=by
 have Gz:=zfs (P:=P) (w:=w) (base:=base) T
 have Gj:=zfG (P:=P) (w:=w) (base:=base) T
 refine T.Faj.ok zn5 (Qk) (Qe)
 all_goals obtain⟨p,b,n,rfl,hp,g,n0,n1,q⟩:=h
 ·rfl
 exact⟨zr9 K,(zaf (zcG (QbG) (zbp rfl (zal (zak (i:=2) zn5.nd rfl (Qg)) (zal (zak (i:=3) zn5.nd rfl (Qg)) zaZ))))
 (zah (zaE (zag Gj (Qc) rfl T.mj T.Fj.kp T.bj .nil zaH (zaa (zao zap (pv 2) (Qh)) (zaa (zao zap (pv 3) (Qh)) zad)))))),
  zyn hp g n0 n1 q⟩
theorem Bq.add2{m n:Nat}{p q:Rat}(hp:Bq m p)(hq:Bq n q):Bq (m+n+1) (p+q):=by
 rw[← zs5]
 have h:Bd (m+n) (q.num*(p.den:Int)):=by rw[Nat.add_comm m n];exact hq.top.mul hp.bot
 exact zcJ (ψX (zcO p) (zcO q)) ((hp.top.mul hq.bot).add h) ((hp.bot.mul hq.bot).mono (Nat.le_succ _))
def znp:Sp:=λvs H Q _=>∃(l:Addr) (us:List Addr) (qs:List Rat),vs=[.ref l]∧H l=some (Q3)∧Tps fr H us qs∧(∀i:Nat,Bq 2900 (qs.take i).sum)∧(∀q∈qs,Bq 2900 q)∧∀(r:Addr) (H':Hp),zaP H H'→H' r=some (.tup (fr qs.sum))→Q (QT) H'
def zot(K:ψa):TS :=
 (zbf (zbq (zf6 (zab (Qq) (Qb3))) (zaj 1))
 (zbf (zka (Qaw) (zaj 2)
 (zbq (zaG zn0 [] E0 (QcA)) (zaj 1)))
 (zb2 (zac 1))))
theorem zuW{l:Addr}{us:List Addr}{qs:List Rat}(hl:H l=some (Q3))(T:Tps fr H us qs)(bs:∀i:Nat,Bq 2900 (qs.take i).sum)(bq:∀q∈qs,Bq 2900 q)(q:∀(r:Addr) (H':Hp),zaP H H'→H' r=some (.tup (fr qs.sum))→Q (QT) H') :
  zot K { nx:=λ_ H'=>Q .non H',rt:=Q } (L2.start ["fractions","total","fraction"] [.ref l]) H:=by
 unfold zot
 simp_all only [zac]
 refine⟨by decide,λr0 n0=>?_⟩
 have s0:=zat n0 (.tup [.int 0,.int 1])
 have h0:(L2.upd H r0 (.tup [.int 0,.int 1])) r0=some (.tup [.int 0,.int 1]):=zam
 generalize L2.upd H r0 (.tup [.int 0,.int 1])=H0 at s0 h0 ⊢
 refine⟨⟨_,SqL.of (s0 _ _ hl)⟩,?_⟩
 refine zds (K:=K) (xs:=us.map V.ref) (λi σ H'=>zaP H0 H'∧∃(r:Addr) (x:Option V),H' r=some (.tup (fr ((qs.take i).sum)))∧σ=[some (Qa1),some (QT),x]) ⟨.refl _,r0,_,h0,rfl⟩ ?_ ?_ ?_
 ·rintro i σ H' _ ⟨s,_⟩
  exact SqL.of (s _ _ (s0 _ _ hl))
 ·rintro i v σ H1 hx ⟨s1,r,x,hr,rfl⟩
  obtain⟨t,et,rfl⟩:=zaO hx
  obtain⟨f,ef,hf⟩:=T.at et
  simp_all only [zac]
  refine⟨r,t,_,f,rfl,hr,s1 _ _ (s0 _ _ hf),bs i,bq f (zan ef),λr2 H2 s2 h2=>?_⟩
  have e:(qs.take (i+1)).sum=(qs.take i).sum+f:=by
   rw[ψw,ef,ψL1]
   show _+(f+0)=_
   rw[Rat.add_zero]
  exact⟨s1.trans s2,r2,by rw[e];exact h2,rfl⟩
 ·rintro σ H1 ⟨s1,r,x,hr,rfl⟩
  simp_all only [zac]
  rw[ψb,T.1,ψJ] at hr
  exact q r H1 (s0.trans s1) hr
theorem zjj:zaJ ["fractions","total","fraction"] ["fractions"] (zai znF):=(Qa)
theorem zuE(T:Txt K mg a):zcr P w K mg base CX0 4 a.fam a.dam ["fractions"] znp:=by
 have Gab:=zqG (P:=P) (w:=w) (base:=base) T
 refine T.Fam.ok zjj (Qk) (Qe)
 all_goals obtain⟨l,us,qs,rfl,hl,T',bs,bq,q⟩:=h
 ·rfl
 exact⟨zot K,(zaf (zaN (i:=1) zjj.nd rfl (Qg) (zbI (Qb9)))
 (zaf (zdA PassesOwn.never rfl (Qbl) (zak (i:=2) zjj.nd rfl (Qg))
 (zah (zaN (i:=1) zjj.nd rfl (Qg) (zag Gab (Qc) rfl T.mab T.Fab.kp T.bab .nil zaH (QcQ)))))
 (zah (zaE (pv 1))))),
  zuW hl T' bs bq q⟩
def zo1:Sp:=λvs H Q _=>∃(l:Addr) (us:List Addr) (qs:List Rat),vs=[.ref l]∧H l=some (Q3)∧Tps fr H us qs∧1≤qs.length∧(∀q∈qs,Bq 6000 q)∧∀(r:Addr) (m:Rat),H r=some (.tup (fr m))→m∈qs→(∀q∈qs,m≤q)→Q (QT) H
def zfi(K:ψa):TS :=
 (zbf (zbq (tOp (zf2 K) (zac 0) (Qq)) (zaj 1))
 (zbf (zka (Qaw) (zaj 2)
 (zd2 (tB (zaG zlH [] E0 (zab (zac 2) (QV)))) (zbq (zac 2) (zaj 1)) zb7))
 (zb2 (zac 1))))
theorem zjS{l:Addr}{us:List Addr}{qs:List Rat}(hl:H l=some (Q3))(T:Tps fr H us qs)(l1:1≤qs.length)(bq:∀q∈qs,Bq 6000 q)(q:∀(r:Addr) (m:Rat),H r=some (.tup (fr m))→m∈qs→(∀q∈qs,m≤q)→Q (QT) H) :
  zfi K { nx:=λ_ H'=>Q .non H',rt:=Q } (L2.start ["chances","least","one"] [.ref l]) H:=by
 unfold zfi
 simp_all only [zac]
 have hL:=SqL.of (K:=K) hl
 have lu:=T.1
 have e0:us[0]?=some us[0]:=ψc (Qd)
 obtain⟨f0,ef0,hf0⟩:=T.at e0
 refine⟨_,hL,_,zfH (j:=0) (show(us.map V.ref)[0]?=some (V.ref us[0]) by rw[ψI,e0];rfl),⟨_,hL⟩,?_⟩
 refine zds (K:=K) (xs:=us.map V.ref) (λi σ H'=>H'=H∧∃(r:Addr) (m:Rat) (x:Option V),H r=some (.tup (fr m))∧m∈qs∧(∀q∈qs.take i,m≤q)∧σ=[some (Qa1),some (QT),x]) ⟨rfl,us[0],f0,_,hf0,zan ef0,by simp,rfl⟩ ?_ ?_ ?_
 ·rintro i σ H' _ ⟨rfl,_⟩
  exact hL
 ·rintro i v σ H1 hx ⟨rfl,r,m,x,hr,hm,hall,rfl⟩
  obtain⟨t,et,rfl⟩:=zaO hx
  obtain⟨f,ef,hf⟩:=T.at et
  simp_all only [zac]
  refine⟨t,r,f,m,rfl,hf,hr,bq f (zan ef),bq m hm,?_⟩
  have tk:∀y,y∈qs.take (i+1)→y∈qs.take i∨y=f:=λy hy=>by
   rw[ψw,ef] at hy
   exact(List.mem_append.mp hy).imp id λz=>List.mem_singleton.mp z
  refine(QU)
  by_cases c:f<m
  ·rw[if_pos (decide_eq_true c)]
   refine⟨rfl,t,f,hf,zan ef,λy hy=>?_,rfl⟩
   rcases tk y hy with z | rfl
   ·exact Rat.le_trans (ψB c) (hall y z)
   ·exact ψG1
  ·rw[if_neg (Qce)]
   refine⟨rfl,r,m,hr,hm,λy hy=>?_,rfl⟩
   rcases tk y hy with z | rfl
   ·exact hall y z
   ·exact Rat.not_lt.mp c
 ·rintro σ H1 ⟨rfl,r,m,x,hr,hm,hall,rfl⟩
  simp_all only [zac]
  rw[ψb,T.1,ψJ] at hall
  exact q r m hr hm hall
theorem zdF:zaJ ["chances","least","one"] ["chances"] (zai zfm):=(Qa)
theorem zjU(T:Txt K mg a):zcr P w K mg base CX0 2 a.faJ a.daJ ["chances"] zo1:=by
 have Gac:=zpl (P:=P) (w:=w) (base:=base) T
 refine T.FaJ.ok zdF (Qk) (Qe)
 all_goals obtain⟨l,us,qs,rfl,hl,T',l1,bq,q⟩:=h
 ·rfl
 exact⟨zfi K,(zaf (zaN (i:=1) zdF.nd rfl (Qg) (zaI zbm (pv 0) zae (Qp)))
 (zaf (zdA PassesOwn.never rfl (Qbl) (zak (i:=2) zdF.nd rfl (Qg))
 (zah (zb1 (zbu (zag Gac (Qc) rfl T.mac T.Fac.kp T.bac .nil zaH (zaa (pv 2) (Qw)))) (zah (zaN (i:=1) zdF.nd rfl (Qg) (pv 2))) zaY)))
 (zah (zaE (pv 1))))),
  zjS hl T' l1 bq q⟩
def pr(b:Box):Rat:=ψD b.2.1 b.2.2
theorem powI(a:Int):∀n:Nat,((a ^ n:Int):Rat)=(a:Rat) ^ n
 | 0=>by rw[Int.pow_zero,ψv1];rfl
 | n+1=>by rw[Int.pow_succ,ψl1,ψm,powI a n]
theorem powD(a b:Rat)(hb:b≠0):∀n:Nat,(a / b) ^ n=a ^ n / b ^ n
 | 0=>by rw[ψv1,ψv1,ψv1];grind
 | n+1=>by
  rw[ψl1,ψl1,ψl1,powD a b hb n]
  grind
theorem zok{b:Rat}(hb:b≠0):∀n:Nat,b ^ n≠0
 | 0=>by rw[ψv1];decide
 | n+1=>by
  rw[ψl1]
  have:=zok hb n
  grind
theorem zlE{b:Box}(g:GB b):0<pr b∧pr b≤1∧∀n:Nat,(((b.2.2 - b.2.1) ^ n:Int):Rat) / ((b.2.2 ^ n:Int):Rat)=(1 - pr b) ^ n:=by
 obtain⟨g1,g2,g3,g4,g5⟩:=g
 have o0:(0:Rat)<(b.2.2:Rat):=by exact_mod_cast (show(0:Int)<b.2.2 by omega)
 have h0:(0:Rat)<(b.2.1:Rat):=by exact_mod_cast (show(0:Int)<b.2.1 by omega)
 have ho:(b.2.1:Rat)≤(b.2.2:Rat):=by exact_mod_cast g4
 have on:(b.2.2:Rat)≠0:=by grind
 have e:pr b=(b.2.1:Rat) / (b.2.2:Rat):=ψs ..
 refine⟨?_,?_,λn=>?_⟩
 ·rw[e]
  rw[Rat.div_def]
  exact ψC1 h0 (Rat.inv_pos.mpr o0)
 ·rw[e]
  have i0:=Rat.inv_pos.mpr o0
  have m:=ψP ho (ψB i0)
  rw[Rat.mul_inv_cancel _ on] at m
  rw[Rat.div_def]
  exact m
 ·rw[powI,powI,← powD _ _ on,e,ψE1]
  congr 1
  grind
theorem zgp{b:Box}(g:GB b)(n:Int):chq b n=1 - (1 - pr b) ^ n.toNat:=by
 have h:=(zlE g).2.2 n.toNat
 have on:((b.2.2 ^ n.toNat:Int):Rat)≠0:=by
  have:=zd8 g n
  intro z
  have:(b.2.2 ^ n.toNat:Int)=0:=by exact_mod_cast z
  omega
 unfold chq
 rw[ψs,ψE1,← h]
 grind
theorem zgw{b:Box}(g:GB b)(n:Int):gnq b n=(1 - pr b) ^ n.toNat*pr b:=by
 have h:=(zlE g).2.2 n.toNat
 unfold gnq pr
 rw[ψs,ψs,ψm,ψm]
 unfold pr at h
 rw[ψs] at h
 rw[← h]
 grind
theorem zf9{α:Type}{f:α→List V}{p q D:Addr}{xs zs:List V}{te:TE}{rest:St}{x0 y0:Option V}{qs:List α}(hp:H p=some (QbW))(hq:H q=some (.lst zs))(lq:qs.length=min xs.length zs.length)(l6:qs.length≤1000)(hD:H D=none)
  (st:∀(i:Nat) (x z:V) (w:α) (H':Hp) (R:VK),xs[i]?=some x→zs[i]?=some z→qs[i]?=some w→zaP H H'→(∀(r:Addr) (H2:Hp),zaP H' H2→H2 r=some (.tup (f w))→R (QT) H2)→te (some x::some z::rest) H' R)
  (hd:∀(us:List Addr) (H':Hp),zaP H H'→H' D=some (Q3)→Tps f H' us qs→Q (.ref D) H') :
  zfz (Itz K p q) (Ql) zbe te D Q (x0::y0::rest) (upd H D (Qcb)):=by
 refine zib (K:=K) (xs:=xs) (zs:=zs) (λi ys σ H'=>zaP H H'∧(∃us:List Addr,ys=us.map V.ref∧Tps f H' us (qs.take i))∧∃x y,σ=x::y::rest) ⟨zat hD _,⟨[],rfl,Tps.nil⟩,_,_,rfl⟩ ?_ ?_ ?_
 ·rintro i ys σ H' _ ⟨s,_⟩
  exact⟨SqL.of (s _ _ hp),SqL.of (s _ _ hq)⟩
 ·rintro i x z t ys σ H' hx hz hD' ⟨s,⟨us,rfl,T⟩,u,v,rfl⟩ ht
  have i1:=(Qbf).1
  have i2:=(List.getElem?_eq_some_iff.mp hz).1
  have hw:qs[i]?=some (qs[i]'(by omega)):=ψc (Qd)
  have s1:=zat ht (.tup [x,z])
  refine⟨t,_,rfl,SqT.of zam,rfl,_,_,rfl,_,_,rfl,rfl,?_⟩
  refine st i x z _ _ _ hx hz hw (s.trans s1) λr H2 s2 h2=>?_
  have s3:=s1.trans s2
  have hD2:=s3 _ _ hD'
  have rD:r≠D:=λe=>by
   subst e
   rw[h2] at hD2
   cases hD2
  have lu:us.length≤1000:=by
   have e:=T.1
   rw[ψM] at e
   omega
  refine⟨D,_,_,rfl,rfl,hD2,zbR (by rw[ψb];exact lu),_,zam,(s.trans s3).put hD,⟨us++[r],by rw[ψV];rfl,?_⟩,_,_,rfl⟩
  rw[ψw,hw]
  refine T.put (λy w e=>?_) (by rw[zaS rD];exact h2)
  have nx:y≠D:=λz=>by
   subst z
   rw[e] at hD'
   cases hD'
  rw[zaS nx]
  exact s3 _ _ e
 ·rintro ys σ H' hD' ⟨s,⟨us,rfl,T⟩,u,v,rfl⟩
  rw[← lq,ψJ] at T
  exact hd us H' s hD' T
theorem zeL{p q D:Addr}{xs zs:List V}{te:TE}{rest:St}{x0 y0:Option V}{vs:List V}(hp:H p=some (QbW))(hq:H q=some (.lst zs))(lq:vs.length=min xs.length zs.length)(l6:vs.length≤1000)(hD:H D=none)
  (st:∀(i:Nat) (x z v:V) (H':Hp) (R:VK),xs[i]?=some x→zs[i]?=some z→vs[i]?=some v→zaP H H'→(∀H2:Hp,zaP H' H2→R v H2)→te (some x::some z::rest) H' R)
  (hd:∀H':Hp,zaP H H'→H' D=some (.lst vs)→Q (.ref D) H') :
  zfz (Itz K p q) (Ql) zbe te D Q (x0::y0::rest) (upd H D (Qcb)):=by
 refine zib (K:=K) (xs:=xs) (zs:=zs) (λi ys σ H'=>zaP H H'∧ys=vs.take i∧∃x y,σ=x::y::rest) ⟨zat hD _,rfl,_,_,rfl⟩ ?_ ?_ ?_
 ·rintro i ys σ H' _ ⟨s,_⟩
  exact⟨SqL.of (s _ _ hp),SqL.of (s _ _ hq)⟩
 ·rintro i x z t ys σ H' hx hz hD' ⟨s,rfl,u,v,rfl⟩ ht
  have i1:=(Qbf).1
  have i2:=(List.getElem?_eq_some_iff.mp hz).1
  have hw:vs[i]?=some (vs[i]'(by omega)):=ψc (Qd)
  have s1:=zat ht (.tup [x,z])
  refine⟨t,_,rfl,SqT.of zam,rfl,_,_,rfl,_,_,rfl,rfl,?_⟩
  refine st i x z _ _ _ hx hz hw (s.trans s1) λH2 s2=>?_
  refine⟨D,_,_,rfl,rfl,s2 _ _ (s1 _ _ hD'),zbR (by rw[ψM];omega),_,zam,(s.trans (QbI)).put hD,?_,_,_,rfl⟩
  rw[ψw,hw]
  rfl
 ·rintro ys σ H' hD' ⟨s,rfl,u,v,rfl⟩
  rw[← lq,ψJ] at hD'
  exact hd H' s hD'
theorem zfD{p D:Addr}{xs:List V}{te:TE}{rest:St}{x0:Option V}{vs:List V}(hp:H p=some (QbW))(lq:vs.length=xs.length)(l6:vs.length≤1000)(hD:H D=none)
  (st:∀(i:Nat) (x v:V) (H':Hp) (R:VK),xs[i]?=some x→vs[i]?=some v→zaP H H'→(∀H2:Hp,zaP H' H2→R v H2)→te (some x::rest) H' R)
  (hd:∀H':Hp,zaP H H'→H' D=some (.lst vs)→Q (.ref D) H') :
  zfz (Itl K p) (zaj 0) zbe te D Q (x0::rest) (upd H D (Qcb)):=by
 refine zdR (K:=K) (xs:=xs) (λi ys σ H'=>zaP H H'∧ys=vs.take i∧∃x,σ=x::rest) ⟨zat hD _,rfl,_,rfl⟩ ?_ ?_ ?_
 ·rintro i ys σ H' _ ⟨s,_⟩
  exact SqL.of (s _ _ hp)
 ·rintro i x ys σ H' hx hD' ⟨s,rfl,u,rfl⟩
  have i1:=(Qbf).1
  have hw:vs[i]?=some (vs[i]'(by omega)):=ψc (Qd)
  refine st i x _ _ _ hx hw s λH2 s2=>?_
  refine⟨D,_,_,rfl,rfl,s2 _ _ hD',zbR (by rw[ψM];omega),_,zam,(s.trans s2).put hD,?_,_,rfl⟩
  rw[ψw,hw]
  rfl
 ·rintro ys σ H' hD' ⟨s,rfl,u,rfl⟩
  rw[← lq,ψJ] at hD'
  exact hd H' s hD'
def wq(b:Box)(n:Int):Rat:=(b.1:Rat) / gnq b n
def wqs(bs:List Box)(ns:List Int):List Rat:=ψd wq bs ns
def Gn(bs:List Box)(ns:List Int):Prop:=∀(i:Nat) b n,bs[i]?=some b→ns[i]?=some n→gnq b n≠0
theorem zrd{b:Box}(g:GB b){n:Int}(n1:n≤60):Bq 410 (gnq b n):=by
 have bo:=zhG g n1
 have bt:Bd 400 ((b.2.2 - b.2.1) ^ n.toNat):=zfa (by obtain⟨g1,g2,g3,g4,g5⟩:=g;omega) (by obtain⟨g1,g2,g3,g4,g5⟩:=g;omega) (Qd)
 have o0:=zd8 g n
 obtain⟨g1,g2,g3,g4,g5⟩:=g
 have h1:Bd 10 b.2.1:=by show b.2.1.natAbs<2 ^ 10;omega
 have h2:Bd 10 b.2.2:=by show b.2.2.natAbs<2 ^ 10;omega
 exact zcJ (ψX (Qd) (Qd)) (bt.mul h1) (bo.mul h2)
def zti:Sp:=λvs H Q _=>∃(l pl:Addr) (ts:List Addr) (bs:List Box) (ns:List Int),vs=[.ref l,.ref pl]∧BP H l pl ts bs ns∧Gn bs ns∧∀(r:Addr) (us:List Addr) (H':Hp),zaP H H'→H' r=some (Q3)→Tps fr H' us (Qas)→Q (QT) H'
def zfc(K:ψa):TS :=
 (zb2 (zcu (zlg K (Qy)) (Ql) zbe (zaG zll [] E0 (zab (zf6 (zab (QE) (Qb3))) (zab (zaG zng [] E0 (Qy)) zas))) [none,none]))
theorem zjA{l pl:Addr}{ts:List Addr}{bs:List Box}{ns:List Int}(B:BP H l pl ts bs ns)(G:Gn bs ns)(q:∀(r:Addr) (us:List Addr) (H':Hp),zaP H H'→H' r=some (Q3)→Tps fr H' us (Qas)→Q (QT) H') :
  zfc K { nx:=λ_ H'=>Q .non H',rt:=Q } (L2.start (QbB) [.ref l,.ref pl]) H:=by
 unfold zfc
 simp_all only [zac]
 refine(Qbs)
 refine zib (K:=K) (xs:=ts.map V.ref) (zs:=ns.map V.int) (λi ys σ H'=>zaP H H'∧(∃us:List Addr,ys=us.map V.ref∧Tps fr H' us ((Qas).take i)∧∀u∈us,u≠D)∧∃x y,σ=[x,y]) ⟨zat hD _,⟨[],rfl,Tps.nil,by simp⟩,_,_,rfl⟩ ?_ ?_ ?_
 ·rintro i ys σ H' _ ⟨s,_⟩
  exact⟨SqL.of (s _ _ B.hl),SqL.of (s _ _ B.hp)⟩
 ·rintro i x z t ys σ H' hx hz hD' ⟨s,⟨us,rfl,T,nu⟩,u,v,rfl⟩ ht
  obtain⟨a,ha,rfl⟩:=zaO hx
  obtain⟨n,hn,rfl⟩:=zaO hz
  obtain⟨b,hb1,hb2⟩:=B.hb.at ha
  obtain⟨n0,n1⟩:=B.gn n (zan hn)
  have g:=B.gb b (zan hb1)
  have hb3:=s _ _ hb2
  simp_all only [zac]
  refine⟨_,SqT.of zam,rfl,_,_,rfl,_,_,rfl,rfl,?_⟩
  simp_all only [zac]
  have s1:=zat ht (.tup [V.ref a,V.int n])
  have h1:(L2.upd H' t (.tup [V.ref a,V.int n])) t=some (.tup [V.ref a,V.int n]):=zam
  generalize L2.upd H' t (.tup [V.ref a,V.int n])=H1 at s1 h1 ⊢
  refine⟨_,SqT.of (s1 _ _ hb3),_,rfl,by decide,λp np=>?_⟩
  have s2:=zat np (.tup [V.int b.1,V.int 1])
  have h2:(L2.upd H1 p (.tup [V.int b.1,V.int 1])) p=some (.tup [V.int b.1,V.int 1]):=zam
  generalize L2.upd H1 p (.tup [V.int b.1,V.int 1])=H2 at s2 h2 ⊢
  have hb4:=s2 _ _ (s1 _ _ hb3)
  refine⟨a,b,n,rfl,hb4,g,n0,n1,λr H3 s3 h3=>?_⟩
  have b1:Bq 2900 (b.1:Rat):=⟨by show b.1.natAbs<2 ^ 2900;exact ψj (by have:=g.1;have:=g.2.1;omega:b.1.natAbs<2 ^ 6) (Nat.pow_le_pow_right (Qm) (Qm)),by show(1:Nat)<2 ^ 2900;exact Nat.one_lt_two_pow (Qm)⟩
  refine⟨p,r,(b.1:Rat),gnq b n,rfl,s3 _ _ h2,h3,G i b n hb1 hn,b1,(zrd g n1).mono (Qm),λy H4 s4 h4=>?_⟩
  have s14:=s1.trans (s2.trans (s3.trans s4))
  have hD4:=s14 _ _ hD'
  have yD:y≠D:=λz=>by
   subst z
   rw[h4] at hD4
   cases hD4
  have lu:us.length≤6:=by
   have:=B.l6
   have e:=T.1
   rw[ψM,wqs,ψo] at e
   omega
  refine⟨_,hD4,zbR (by rw[ψb];omega),_,zam,(s.trans s14).put hD,us++[y],by rw[ψV];rfl,?_,λu hu=>?_⟩
  ·rw[wqs,zjm _ _ _ hb1 hn]
   refine T.put (λx w e=>?_) (by rw[zaS yD];exact h4)
   have nx:x≠D:=λz=>by
    subst z
    rw[e] at hD'
    cases hD'
   rw[zaS nx]
   exact s14 _ _ e
  ·rcases List.mem_append.mp hu with hu | hu
   ·exact nu u hu
   ·rw[List.mem_singleton.mp hu]
    exact yD
 ·rintro ys σ H' hD' ⟨s,⟨us,rfl,T,nu⟩,u,v,rfl⟩
  rw[ψb,ψb,B.hb.1,wqs,zsz] at T
  exact q D us H' s hD' T
theorem zj0:zaJ (QbB) (QbB) (zai zdV):=(Qa)
theorem zgj(T:Txt K mg a):zcr P w K mg base CX0 4 a.fak a.dak (QbB) zti:=by
 have Gaj:=zsJ (P:=P) (w:=w) (base:=base) T
 have GQ:=znt (P:=P) (w:=w) (base:=base) T
 refine T.Fak.ok zj0 (Qk) (Qe)
 all_goals obtain⟨l,pl,ts,bs,ns,rfl,B,G,q⟩:=h
 ·rfl
 exact⟨zfc K,(zah (zaE (zcc (sc:=zai zdV) (N:=["boxes","counts"]) (Nc:=["box","count"]) (cap:=[none,none]) rfl rfl rfl (Qr) (zd4 rfl T.z_zip (QW)) (Qo) (QH) (λ_ _ _ _=>(zag GQ (Qc) rfl T.mQ T.FQ.kp T.bQ .nil zaH (zaa (zbI (zaa (Qh) (Qam))) (zaa (zag Gaj (Qc) rfl T.maj T.Faj.kp T.baj .nil zaH (QW)) zad))))))),
  zjA B G q⟩
theorem Bq.mul2{m n:Nat}{p q:Rat}(hp:Bq m p)(hq:Bq n q):Bq (m+n) (p*q):=by
 rw[← zqI]
 exact zcJ (ψX (zcO p) (zcO q)) (hp.top.mul hq.top) (hp.bot.mul hq.bot)
theorem zin{b:Int}(h0:0≤b)(h1:b≤50)(n:Nat):Bd (6*n+1) (b ^ n):=by
 obtain⟨z1,z2⟩:=zoO h0 h1 n
 have z3:(50:Nat) ^ n≤64 ^ n:=Nat.pow_le_pow_left (Qm) n
 have z4:(64:Nat) ^ n=2 ^ (6*n):=by rw[Nat.pow_mul]
 have z5:((50 ^ n:Nat):Int)=(50:Int) ^ n:=by exact_mod_cast rfl
 have z6:(2:Nat) ^ (6*n+1)=2 ^ (6*n)*2:=Nat.pow_succ ..
 have z7:0<(2:Nat) ^ (6*n):=Nat.pow_pos (Qm)
 show(b ^ n).natAbs<2 ^ (6*n+1)
 omega
theorem zo7{b:Box}(g:GB b)(n:Int):Bq (6*n.toNat+2) (chq b n):=by
 have o0:=zd8 g n
 obtain⟨g1,g2,g3,g4,g5⟩:=g
 exact zcJ (Qd) ((zin (Qd) g5 _).sub (zin (Qd) (Qd) _)) ((zin (Qd) g5 _).mono (Qd))
theorem zri{b:Box}(g:GB b)(n:Int):Bq (6*n.toNat+7) (gnq b n):=by
 have o0:=zd8 g n
 obtain⟨g1,g2,g3,g4,g5⟩:=g
 have h1:Bd 6 b.2.1:=by show b.2.1.natAbs<2 ^ 6;omega
 have h2:Bd 6 b.2.2:=by show b.2.2.natAbs<2 ^ 6;omega
 exact zcJ (ψX (Qd) (Qd)) (((zin (Qd) (Qd) _).mul h1).mono (Qd)) (((zin (Qd) g5 _).mul h2).mono (Qd))
theorem zmP{b:Box}(g:GB b){n:Int}(gn:gnq b n≠0):Bq (6*n.toNat+14) (wq b n):=by
 have hb:=zri g n
 unfold wq
 rw[← zlQ]
 have c:Bd 7 b.1:=by have:=g.1;have:=g.2.1;show b.1.natAbs<2 ^ 7;omega
 exact zcJ (ψX (by show(1:Int)≠0;decide) (zpi gn)) ((c.mul hb.bot).mono (Qd)) (((show Bd 1 (1:Int) from by show(1:Nat)<2 ^ 1;decide).mul hb.top).mono (Qd))
theorem zkY{j k:Nat}{f:Box×Int→Rat}:∀xs:List (Box×Int),(∀x∈xs,Bq (j*x.2.toNat+k) (f x))→Bq (j*(xs.map λx=>x.2.toNat).sum+(k+1)*xs.length+1) (xs.map f).sum
 | [],_=>⟨by show(0:Nat)<2 ^ _;exact Nat.pow_pos (Qm),by show(1:Nat)<2 ^ _;exact Nat.one_lt_two_pow (Qd)⟩
 | x::xs,h=>by
  have ih:=zkY xs λy hy=>h y (ψe _ hy)
  rw[ψu,ψq,ψu,ψq,ψN,Nat.mul_add,Nat.mul_add]
  exact((h x ψg).add2 ih).mono (Qd)
theorem zif:∀(bs:List Box) (ns:List Int),(QaF)→(∀n∈ns,0≤n)→((((Qar).map λx=>x.2.toNat).sum:Nat):Int)≤(zaR bs ns).sum
 | [],_,_,_=>by simp[zaR]
 | _::_,[],_,_=>by simp[zaR]
 | b::bs,n::ns,gb,n0=>by
  have ih:=zif bs ns (QbY) (λx hx=>n0 x (Qbb))
  obtain⟨g1,_⟩:=gb b ψg
  have hn:=n0 n ψg
  have m1:1*n≤b.1*n:=Int.mul_le_mul_of_nonneg_right g1 hn
  rw[Int.one_mul] at m1
  rw[ψK1,ψu,ψq]
  show((n.toNat+_:Nat):Int)≤b.1*n+(zaR bs ns).sum
  omega
theorem Bq.div2{m n:Nat}{p q:Rat}(hp:Bq m p)(hq:Bq n q)(q0:q≠0):Bq (m+n) (p / q):=by
 rw[← zlQ]
 exact zcJ (ψX (zcO p) (zpi q0)) (hp.top.mul hq.bot) (hp.bot.mul hq.top)
theorem Bq.sub2{m n:Nat}{p q:Rat}(hp:Bq m p)(hq:Bq n q):Bq (m+n+1) (p - q):=by
 rw[← zth]
 have h:Bd (m+n) (q.num*(p.den:Int)):=by rw[Nat.add_comm m n];exact hq.top.mul hp.bot
 exact zcJ (ψX (zcO p) (zcO q)) ((hp.top.mul hq.bot).sub h) ((hp.bot.mul hq.bot).mono (Nat.le_succ _))
theorem zhk{α β γ:Type}{f:α→β→γ}{as:List α}{bs:List β}(P:γ→Prop)(h:∀(i:Nat) a b,as[i]?=some a→bs[i]?=some b→P (f a b)):∀x∈ψd f as bs,P x:=λx hx=>by
 obtain⟨i,ei⟩:=ψr hx
 rw[ψY] at ei
 cases e1:as[i]? with
 | none=>rw[e1] at ei;cases ei
 | some a =>
  cases e2:bs[i]? with
  | none=>rw[e1,e2] at ei;cases ei
  | some b =>
   rw[e1,e2] at ei
   cases ei
   exact h i a b e1 e2
theorem zi5{α β γ:Type}{f:α→β→γ}{as:List α}{bs:List β}{i:Nat}{a:α}{b:β}{c:γ}(e1:as[i]?=some a)(e2:bs[i]?=some b)(e3:(ψd f as bs)[i]?=some c):c=f a b:=by
 rw[ψY,e1,e2] at e3
 exact(Option.some.inj e3).symm
theorem ztr:∀(l:List Nat) (i:Nat),(l.take i).sum≤l.sum
 | [],i=>by simp
 | x::l,0=>by simp
 | x::l,i+1=>by
  have:=ztr l i
  rw[List.take_succ_cons,ψq,ψq]
  omega
theorem zmK{j k:Nat}{f:Box×Int→Rat}(xs:List (Box×Int))(h:∀x∈xs,Bq (j*x.2.toNat+k) (f x))(i:Nat):Bq (j*(xs.map λx=>x.2.toNat).sum+(k+1)*xs.length+1) ((xs.map f).take i).sum:=by
 have b:=zkY (j:=j) (k:=k) (f:=f) (xs.take i) λx hx=>h x (ψO1 hx)
 rw[← List.map_take]
 have t:=ztr (xs.map λx=>x.2.toNat) i
 rw[← List.map_take] at t
 have l:=List.length_take_le i xs
 exact b.mono (Nat.add_le_add_right (Nat.add_le_add (Nat.mul_le_mul_left j t) (Nat.mul_le_mul_left (k+1) (by rw[ψM];omega))) 1)
theorem zyL{b:Box}(g:GB b){n:Int}(n1:n≤60)(gn:gnq b n≠0):Bq 420 (wq b n):=by
 have hb:=zrd g n1
 unfold wq
 rw[← zlQ]
 have c:Bd 7 b.1:=by have:=g.1;have:=g.2.1;show b.1.natAbs<2 ^ 7;omega
 exact zcJ (ψX (by show(1:Int)≠0;decide) (zpi gn)) ((c.mul hb.bot).mono (Qm)) (((show Bd 1 (1:Int) from by show(1:Nat)<2 ^ 1;decide).mul hb.top).mono (Qm))
theorem zwr{b:Box}(g:GB b){n:Int}(n1:n≤60):Bq 401 (chq b n):=by
 have bo:=zhG g n1
 have bt:Bd 400 ((b.2.2 - b.2.1) ^ n.toNat):=zfa (by obtain⟨g1,g2,g3,g4,g5⟩:=g;omega) (by obtain⟨g1,g2,g3,g4,g5⟩:=g;omega) (Qd)
 have o0:=zd8 g n
 exact zcJ (Qd) (bo.sub bt) (bo.mono (Qm))
theorem zgV:∀(bs:List Box) (ns:List Int),(QaF)→(∀n∈ns,0≤n∧n≤60)→0≤(zaR bs ns).sum∧(QbE).sum≤3600*bs.length
 | [],ns,_,_=>by simp[zaR]
 | b::bs,[],_,_=>by simp[zaR];omega
 | b::bs,n::ns,h1,h2=>by
  obtain⟨z1,z2⟩:=zgV bs ns (λx hx=>h1 x (Qbb)) (λx hx=>h2 x (Qbb))
  obtain⟨g1,g2,_⟩:=h1 b ψg
  obtain⟨n0,n1⟩:=h2 n ψg
  have m1:0≤b.1*n:=Int.mul_nonneg (Qd) n0
  have m2:b.1*n≤60*60:=Int.mul_le_mul g2 n1 n0 (Qm)
  show 0≤b.1*n+(zaR bs ns).sum∧b.1*n+(zaR bs ns).sum≤3600*((bs.length+1:Nat):Int)
  omega
def zi4(bs:List Box)(ns:List Int):List Rat:=ψd (λx y:Rat=>x*y) (Qas) (zm5 bs ns)
theorem zhi{α β γ:Type}(f:α→β→γ):∀(as:List α) (bs:List β),ψd f as bs=(ψn as bs).map λx=>f x.1 x.2
 | [],_=>by simp
 | _::_,[]=>by simp
 | a::as,b::bs=>by
  rw[ψF,ψK1,ψu,zhi f as bs]
theorem zjy(bs:List Box)(ns:List Int):zi4 bs ns=(ψn bs ns).map λx=>wq x.1 x.2*chq x.1 x.2:=by
 unfold zi4 wqs zm5
 rw[zhi wq,zhi chq,List.zipWith_map_left,List.zipWith_map_right]
 generalize ψn bs ns=l
 induction l with
 | nil=>rfl
 | cons x l ih=>rw[ψF,ψu,ih]
def zfF(bs:List Box)(ns:List Int)(bud:Int):Rat:=((zi4 bs ns).sum+((bud - (zaR bs ns).sum:Int):Rat)) / (wqs bs ns).sum
def zjx:Sp:=λvs H Q _=>∃(l pl:Addr) (ts:List Addr) (bs:List Box) (ns:List Int) (bud:Int),vs=[.ref l,.int bud,.ref pl]∧BP H l pl ts bs ns∧(QbE).sum≤60∧Gn bs ns∧0≤bud∧bud≤60∧(Qas).sum≠0∧∀(r:Addr) (H':Hp),zaP H H'→H' r=some (Qcr)→Q (QT) H'
def zgF(K:ψa):TS :=
 (zbf (zbq (zaG zti [] E0 (QcB)) (zaj 3))
 (zbf (zbq (zcu (zlg K (QcB)) (Ql) zbe (zaG zje [] E0 (Qy)) [none,none]) (zaj 4))
 (zbf (zbq (zaG znp [] E0 (zab (zcu (zlg K (zab (zac 3) (QaO))) (Ql) zbe (zaG zmr [] E0 (Qy)) [none,none]) zas)) (zaj 5))
 (zbf (zbq (tOp (QA) (zac 1) (zaG zoU [] E0 (QcB))) (zaj 6))
 (zb2 (zaG zll [] E0 (zab (zaG zn0 [] E0 (zab (zac 5) (zab (zf6 (zab (zac 6) (Qb3))) zas))) (zab (zaG znp [] E0 (Qa5)) zas))))))))
theorem zlo{l pl:Addr}{ts:List Addr}{bs:List Box}{ns:List Int}{bud:Int}(B:BP H l pl ts bs ns)(cs:(QbE).sum≤60)(G:Gn bs ns)(d0:0≤bud)(d1:bud≤60)(ws:(Qas).sum≠0)(q:∀(r:Addr) (H':Hp),zaP H H'→H' r=some (Qcr)→Q (QT) H') :
  zgF K { nx:=λ_ H'=>Q .non H',rt:=Q } (L2.start ["boxes","budget","counts","weights","chances","found","spare"] [.ref l,.int bud,.ref pl]) H:=by
 unfold zgF
 simp_all only [zac]
 refine⟨l,pl,ts,bs,ns,rfl,B,G,λwl us H1 s1 hw TW=>?_⟩
 have B1:=B.same s1
 simp_all only [zac]
 refine⟨⟨_,SqL.of B1.hl⟩,⟨_,SqL.of B1.hp⟩,λD hD=>?_⟩
 have l6:=B.l6
 have len:=B.len
 have lC:(zm5 bs ns).length=bs.length:=by rw[zm5,ψo,len];omega
 have lW:(Qas).length=bs.length:=by rw[wqs,ψo,len];omega
 have lP:(zi4 bs ns).length=bs.length:=by rw[zi4,ψo,lW,lC];omega
 refine zf9 (f:=fr) (qs:=zm5 bs ns) B1.hl B1.hp (by rw[lC,ψb,ψb,B.hb.1,len];omega) (Qd) hD (Qcu) λvs H' s hD' T=>?_
 ·obtain⟨a,ha,rfl⟩:=zaO hx
  obtain⟨n,hn,rfl⟩:=zaO hz
  obtain⟨b,hb1,hb2⟩:=B1.hb.at ha
  obtain⟨n0,n1⟩:=B1.gn n (zan hn)
  have e:=zi5 hb1 hn hv
  subst e
  simp_all only [zac]
  exact⟨a,b,n,rfl,s3 _ _ hb2,B1.gb b (zan hb1),n0,n1,k⟩
 simp_all only [zac]
 have hw1:=s _ _ hw
 have TW1:=TW.same s
 have n0:∀n∈ns,0≤n:=λn hn=>(B.gn n hn).1
 have mb:∀x∈ψn bs ns,GB x.1∧gnq x.1 x.2≠0:=λx hx=>by
  obtain⟨i,ei⟩:=ψr hx
  rw[ψL] at ei
  exact⟨B.gb _ (zan ei.1),G i _ _ ei.1 ei.2⟩
 have st:=zif bs ns B.gb n0
 have zl:(Qar).length≤6:=by rw[List.length_zip];omega
 have pW:∀i:Nat,Bq 500 ((Qas).take i).sum:=λi=>by
  have h:=zmK (j:=6) (k:=14) (f:=λx=>wq x.1 x.2) (Qar) (λx hx=>zmP (mb x hx).1 (mb x hx).2) i
  rw[wqs,zhi]
  exact h.mono (Qd)
 have pP:∀i:Nat,Bq 900 ((zi4 bs ns).take i).sum:=λi=>by
  have h:=zmK (j:=12) (k:=16) (f:=λx=>wq x.1 x.2*chq x.1 x.2) (Qar) (λx hx=>((zmP (mb x hx).1 (mb x hx).2).mul2 (zo7 (mb x hx).1 x.2)).mono (Qd)) i
  rw[zjy]
  exact h.mono (Qd)
 have bW:∀x∈wqs bs ns,Bq 420 x:=zhk _ λi b n e1 e2=>zyL (B.gb b (zan e1)) (B.gn n (zan e2)).2 (G i b n e1 e2)
 have bC:∀x∈zm5 bs ns,Bq 401 x:=zhk _ λi b n e1 e2=>zwr (B.gb b (zan e1)) (B.gn n (zan e2)).2
 have bP:∀x∈zi4 bs ns,Bq 900 x:=zhk _ λi x y e1 e2=>((bW x (zan e1)).mul2 (bC y (zan e2))).mono (Qm)
 refine⟨⟨_,SqL.of hw1⟩,⟨_,SqL.of hD'⟩,λD2 hD2=>?_⟩
 refine zf9 (f:=fr) (qs:=zi4 bs ns) hw1 hD' (by rw[lP,ψb,ψb,TW1.1,T.1,lW,lC];omega) (Qd) hD2 (Qcu) λrs H2 s2 hD2' TR=>?_
 ·obtain⟨a,ha,rfl⟩:=zaO hx
  obtain⟨c,hc,rfl⟩:=zaO hz
  obtain⟨f,ef,hf⟩:=TW1.at ha
  obtain⟨g,eg,hg⟩:=T.at hc
  have e:=zi5 ef eg hv
  subst e
  simp_all only [zac]
  exact⟨a,c,f,g,rfl,s3 _ _ hf,s3 _ _ hg,(bW f (zan ef)).mono (Qm),(bC g (zan eg)).mono (Qm),k⟩
 have hP:Bq 900 (zi4 bs ns).sum:=by
  have:=pP (zi4 bs ns).length
  rwa[ψJ] at this
 have hW:Bq 500 (Qas).sum:=by
  have:=pW (Qas).length
  rwa[ψJ] at this
 refine⟨D2,rs,_,rfl,hD2',TR,λi=>(pP i).mono (Qm),λx hx=>(bP x hx).mono (Qm),λfd H3 s3 h3=>?_⟩
 have S3:=s.trans (Qb5)
 refine⟨l,pl,ts,bs,ns,rfl,B1.same S3,λH4 s4=>?_⟩
 simp_all only [zac]
 refine(Qci)
 have s5:=zat np (.tup [V.int (bud - (zaR bs ns).sum),V.int 1])
 have h5:(L2.upd H4 p (.tup [V.int (bud - (zaR bs ns).sum),V.int 1])) p=some (.tup [V.int (bud - (zaR bs ns).sum),V.int 1]):=zam
 generalize L2.upd H4 p (.tup [V.int (bud - (zaR bs ns).sum),V.int 1])=H5 at s5 h5 ⊢
 obtain⟨z1,z2⟩:=zgV bs ns B.gb B.gn
 have bS:Bq 20 ((bud - (zaR bs ns).sum:Int):Rat):=⟨by show(bud - (zaR bs ns).sum).natAbs<2 ^ 20;omega,by show(1:Nat)<2 ^ 20;decide⟩
 refine⟨fd,p,_,((bud - (zaR bs ns).sum:Int):Rat),rfl,s5 _ _ (s4 _ _ h3),h5,hP.mono (Qd),bS.mono (Qm),λr1 H6 s6 h6=>?_⟩
 have S6:=S3.trans (s4.trans (s5.trans s6))
 refine⟨wl,us,_,rfl,S6 _ _ hw,TW.same S6,λi=>(pW i).mono (Qm),λx hx=>(bW x hx).mono (Qm),λr2 H7 s7 h7=>?_⟩
 exact⟨r1,r2,_,_,rfl,s7 _ _ h6,h7,ws,(hP.add2 bS).mono (Qd),hW.mono (Qd),λr3 H8 s8 h8=>q r3 H8 (s1.trans (S6.trans (s7.trans s8))) h8⟩
theorem zdC:zaJ ["boxes","budget","counts","weights","chances","found","spare"] ["boxes","budget","counts"] (zai zd0):=(Qa)
theorem zlu(T:Txt K mg a):zcr P w K mg base CX0 5 a.faK a.daK ["boxes","budget","counts"] zjx:=by
 have Gam:=zuE (P:=P) (w:=w) (base:=base) T
 have GU:=zjV (P:=P) (w:=w) (base:=base) T
 have GX:=zhw (P:=P) (w:=w) (base:=base) T
 have Gak:=zgj (P:=P) (w:=w) (base:=base) T
 have GQ:=znt (P:=P) (w:=w) (base:=base) T
 have Gab:=zqG (P:=P) (w:=w) (base:=base) T
 have Gas:=zt9 (P:=P) (w:=w) (base:=base) T
 refine T.FaK.ok zdC (Qk) (Qe)
 all_goals obtain⟨l,pl,ts,bs,ns,bud,rfl,B,cs,G,d0,d1,ws,q⟩:=h
 ·rfl
 exact⟨zgF K,(zaf (zaN (i:=3) zdC.nd rfl (Qg) (zag Gak (Qc) rfl T.mak T.Fak.kp T.bak .nil zaH (QcR)))
 (zaf (zcS (i:=4) zdC.nd rfl rfl (sc:=zai zd0) (N:=["boxes","budget","counts","weights","chances","found","spare"]) (Nc:=["box","count"]) (cap:=[none,none]) rfl rfl rfl (Qr) (zd4 rfl T.z_zip (QcR)) (Qo) (QH) (λ_ _ _ _=>(zag GU (Qc) rfl T.mU T.FU.kp T.bU .nil zaH (QW))))
 (zaf (zaN (i:=5) zdC.nd rfl (Qg) (zag Gam (Qc) rfl T.mam T.Fam.kp T.bam .nil zaH (zaa (zcc (sc:=zai zd0) (N:=["boxes","budget","counts","weights","chances","found","spare"]) (Nc:=["weight","one"]) (cap:=[none,none]) rfl rfl rfl (Qr) (zd4 rfl T.z_zip (zaa (pv 3) (Qa3))) (λ_ _ _ _=>(zbp rfl (zal (zak (i:=0) (show ψk (["weight","one"]:List Str) from by decide) rfl (Qg)) (zal (zak (i:=1) (show ψk (["weight","one"]:List Str) from by decide) rfl (Qg)) zaZ)))) (QH) (λ_ _ _ _=>(zag Gas (Qc) rfl T.mas T.Fas.kp T.bas .nil zaH (QW)))) zad)))
 (zaf (zaN (i:=6) zdC.nd rfl (Qg) (zao zcF (pv 1) (zag GX (Qc) rfl T.mX T.FX.kp T.bX .nil zaH (QcR))))
 (zah (zaE (zag GQ (Qc) rfl T.mQ T.FQ.kp T.bQ .nil zaH (zaa (zag Gab (Qc) rfl T.mab T.Fab.kp T.bab .nil zaH (zaa (pv 5) (zaa (zbI (zaa (pv 6) (Qam))) zad))) (zaa (zag Gam (Qc) rfl T.mam T.Fam.kp T.bam .nil zaH (Qbi)) zad))))))))),
  zlo B cs G d0 d1 ws q⟩
theorem zsn{α:Type}(w ch c:α→Rat)(J:α→Bool)(V E:Rat):∀xs:List α,(∀x∈xs,J x=true→c x=w x*(E - ch x)) →
  (xs.map λx=>w x*(V - ch x)).sum - (xs.map λx=>if J x=true then c x else 0).sum=(xs.map λx=>if J x=true then 0 else w x*(E - ch x)).sum+(V - E)*(xs.map w).sum
 | [],_=>by
  simp only[ψu1,ψa1]
  grind
 | x::xs,h=>by
  have ih:=zsn w ch c J V E xs λy hy=>h y (ψe _ hy)
  simp only[ψu,ψq]
  by_cases j:J x=true
  ·have hx:=h x ψg j
   simp only[j,if_true]
   rw[hx]
   grind
  ·simp only[j]
   grind
theorem ziC{α:Type}(f:α→Rat):∀xs:List α,(∀x∈xs,0≤f x)→0≤(xs.map f).sum
 | [],_=>ψG1
 | x::xs,h=>by
  have ih:=ziC f xs λy hy=>h y (ψe _ hy)
  have hx:=h x ψg
  simp only[ψu,ψq]
  grind
theorem ztp{α:Type}(f:α→Rat):∀xs:List α,xs≠[]→(∀x∈xs,0<f x)→0<(xs.map f).sum
 | [],n,_=>absurd rfl n
 | x::xs,_,h=>by
  have ih:=ziC f xs λy hy=>ψB (h y (ψe _ hy))
  have hx:=h x ψg
  simp only[ψu,ψq]
  grind
theorem zrb{α:Type}{w ch c:α→Rat}{J:α→Bool}{V E S:Rat}{xs:List α}(ne:xs≠[])(w0:∀x∈xs,0<w x)(hc:∀x∈xs,J x=true→c x=w x*(E - ch x))(lo:∀x∈xs,ch x≤E)(ve:E<V)(hS:(xs.map λx=>w x*(V - ch x)).sum=S) :
  (xs.map λx=>if J x=true then 0 else w x*(E - ch x)).sum<S - (xs.map λx=>if J x=true then c x else 0).sum∧0<S - (xs.map λx=>if J x=true then c x else 0).sum:=by
 have id:=zsn w ch c J V E xs hc
 rw[hS] at id
 have wp:=ztp w xs ne w0
 have vp:0<V - E:=by grind
 have m:=ψC1 vp wp
 have nn:=ziC (λx=>if J x=true then 0 else w x*(E - ch x)) xs λx hx=>by
  have h1:0≤E - ch x:=by have:=lo x hx;grind
  have h2:=ψs1 (ψB (w0 x hx)) h1
  show 0≤(if J x=true then 0 else w x*(E - ch x))
  split
  ·exact ψG1
  ·exact h2
 constructor <;> grind
theorem zlA{α:Type}(w ch:α→Rat)(V:Rat):∀xs:List α,(xs.map λx=>w x*(V - ch x)).sum=V*(xs.map w).sum - (xs.map λx=>w x*ch x).sum
 | []=>by
  simp only[ψu1,ψa1]
  grind
 | x::xs=>by
  have ih:=zlA w ch V xs
  simp only[ψu,ψq]
  grind
theorem zjq{bs:List Box}{ns:List Int}{bud:Int}(ws:(Qas).sum≠0):((Qar).map λx=>wq x.1 x.2*(zfF bs ns bud - chq x.1 x.2)).sum=((bud - (zaR bs ns).sum:Int):Rat):=by
 rw[zlA (λx:Box×Int=>wq x.1 x.2) (λx=>chq x.1 x.2)]
 have e1:((Qar).map λx=>wq x.1 x.2).sum=(wqs bs ns).sum:=by rw[wqs,zhi]
 rw[e1,← zjy]
 unfold zfF
 generalize (Qas).sum=W at ws ⊢
 grind
theorem zz6{b:Box}(g:GB b){n:Int}(n0:0≤n)(gn:gnq b n≠0):wq b n*(chq b (n+1) - chq b n)=(b.1:Rat):=by
 have e:chq b (n+1) - chq b n=gnq b n:=by
  rw[zgp g,zgp g,zgw g,show(n+1).toNat=n.toNat+1 by omega,ψl1]
  grind
 rw[e]
 unfold wq
 grind
def nxt(E:Rat)(bs:List Box)(ns:List Int):List Int:=ψd (λb n=>if chq b (n+1)=E then n+1 else n) bs ns
theorem zol(E:Rat):∀(bs:List Box) (ns:List Int),ψn bs (nxt E bs ns)=(ψn bs ns).map λx=>(x.1,if chq x.1 (x.2+1)=E then x.2+1 else x.2)
 | [],_=>by simp[nxt]
 | _::_,[]=>by simp[nxt]
 | b::bs,n::ns=>by
  show ψn (b::bs) ((if chq b (n+1)=E then n+1 else n)::nxt E bs ns)=_
  rw[ψK1,ψK1,ψu,zol E bs ns]
theorem zoN(E:Rat):∀(bs:List Box) (ns:List Int),(((zaR bs (Qa7)).sum:Int):Rat)=(((QbE).sum:Int):Rat)+((Qar).map λx=>if decide (chq x.1 (x.2+1)=E)=true then (x.1.1:Rat) else 0).sum
 | [],_=>by
  simp only[zaR,nxt,ψo1,List.zip_nil_left,ψu1,ψa1]
  grind
 | b::bs,[]=>by
  simp only[zaR,nxt,List.zipWith_nil_right,List.zip_nil_right,ψu1,ψa1]
  grind
 | b::bs,n::ns=>by
  have ih:=zoN E bs ns
  show(((b.1*(if chq b (n+1)=E then n+1 else n)+(zaR bs (Qa7)).sum:Int)):Rat)=((b.1*n+(zaR bs ns).sum:Int):Rat)+((if decide (chq b (n+1)=E)=true then (b.1:Rat) else 0)+((Qar).map λx=>if decide (chq x.1 (x.2+1)=E)=true then (x.1.1:Rat) else 0).sum)
  rw[ψT,ψT,ih,ψm,ψm]
  by_cases c:chq b (n+1)=E
  ·rw[if_pos c,if_pos (decide_eq_true c),ψT]
   grind
  ·rw[if_neg c,if_neg (Qce)]
   grind
theorem zmy{b:Box}(g:GB b){n:Int}(gn:gnq b n≠0):0<wq b n:=by
 obtain⟨p0,p1,_⟩:=zlE g
 have c0:(0:Rat)<(b.1:Rat):=by exact_mod_cast (show(0:Int)<b.1 by have:=g.1;omega)
 have g0:0≤gnq b n:=by
  rw[zgw g]
  exact ψs1 (zcA (ψB p0) p1 _).2.1 (ψB p0)
 have gp:0<gnq b n:=by grind
 unfold wq
 rw[Rat.div_def]
 exact ψC1 c0 (Rat.inv_pos.mpr gp)
theorem zpB{bs:List Box}{ns:List Int}{bud:Int}{E:Rat}(gb:∀b∈bs,GB b)(n0:∀n∈ns,0≤n)(G:Gn bs ns)(ne:ψn bs ns≠[])(lo:∀x∈ψn bs ns,chq x.1 x.2≤E)(ws:(Qas).sum≠0)(ve:E<zfF bs ns bud) :
  ((ψn bs (Qa7)).map λx=>wq x.1 x.2*(E - chq x.1 x.2)).sum<((bud - (zaR bs (Qa7)).sum:Int):Rat)∧(zaR bs (Qa7)).sum<bud:=by
 have mb:∀x∈ψn bs ns,GB x.1∧0≤x.2∧gnq x.1 x.2≠0:=λx hx=>by
  obtain⟨i,ei⟩:=ψr hx
  rw[ψL] at ei
  exact⟨gb _ (zan ei.1),n0 _ (zan ei.2),G i _ _ ei.1 ei.2⟩
 have h:=zrb (w:=λx:Box×Int=>wq x.1 x.2) (ch:=λx=>chq x.1 x.2) (c:=λx=>(x.1.1:Rat)) (J:=λx=>decide (chq x.1 (x.2+1)=E)) ne (λx hx=>zmy (mb x hx).1 (mb x hx).2.2) (λx hx j=>?_) lo ve (zjq ws)
 ·have e1:((bud - (zaR bs (Qa7)).sum:Int):Rat)=((bud - (zaR bs ns).sum:Int):Rat) - ((Qar).map λx=>if decide (chq x.1 (x.2+1)=E)=true then (x.1.1:Rat) else 0).sum:=by
   rw[ψE1,ψE1,zoN]
   grind
  rw[← e1] at h
  refine⟨?_,?_⟩
  ·refine(congrArg (λz=>z<((bud - (zaR bs (Qa7)).sum:Int):Rat)) ?_).mpr h.1
   rw[zol,List.map_map]
   congr 1
   refine List.map_congr_left λx _=>?_
   show wq x.1 (if chq x.1 (x.2+1)=E then x.2+1 else x.2)*(E - chq x.1 (if chq x.1 (x.2+1)=E then x.2+1 else x.2))=if decide (chq x.1 (x.2+1)=E)=true then 0 else wq x.1 x.2*(E - chq x.1 x.2)
   by_cases c:chq x.1 (x.2+1)=E
   ·rw[if_pos c,if_pos (decide_eq_true c),c]
    grind
   ·rw[if_neg c,if_neg (Qce)]
  ·have h2:=h.2
   have:(0:Int)<bud - (zaR bs (Qa7)).sum:=by exact_mod_cast h2
   omega
 ·have e:=of_decide_eq_true j
  obtain⟨g1,g2,g3⟩:=mb x hx
  show(x.1.1:Rat)=wq x.1 x.2*(E - chq x.1 x.2)
  rw[← zz6 g1 g2 g3,e]
theorem zAB{b:Box}(g:GB b)(h:pr b=1):b.2.1=b.2.2:=by
 have on:(b.2.2:Rat)≠0:=λz=>by
  have:b.2.2=0:=by exact_mod_cast z
  obtain⟨g1,g2,g3,g4,g5⟩:=g
  omega
 have e:pr b=(b.2.1:Rat) / (b.2.2:Rat):=ψs ..
 rw[e] at h
 have:(b.2.1:Rat)=(b.2.2:Rat):=by grind
 exact_mod_cast this
theorem zlZ{b:Box}(g:GB b)(h:pr b=1){n:Int}(n0:0≤n)(gn:gnq b n≠0):n=0:=by
 rw[zgw g,h] at gn
 rcases Nat.eq_zero_or_pos n.toNat with z | z
 ·omega
 ·exfalso
  apply gn
  obtain⟨k,hk⟩:∃k,n.toNat=k+1:=⟨n.toNat - 1,by omega⟩
  rw[hk,ψl1]
  grind
theorem zpm(V:Rat):∀(bs:List Box) (ns:List Int),ns.length=bs.length→((Qar).map λx=>(x.1.1:Rat)*V).sum=V*(((QbL).sum:Int):Rat)
 | [],_,_=>by
  simp only[List.zip_nil_left,ψu1,ψa1]
  grind
 | _::_,[],h=>by cases h
 | b::bs,n::ns,h=>by
  have ih:=zpm V bs ns (Nat.succ.inj h)
  rw[ψK1,ψu,ψq,ψu,ψq,ψT,ih]
  grind
theorem ziD:∀(bs:List Box) (ns:List Int),(∀n∈ns,n=0)→(QbE).sum=0
 | [],_,_=>by simp[zaR]
 | _::_,[],_=>by simp[zaR]
 | b::bs,n::ns,h=>by
  have ih:=ziD bs ns λx hx=>h x (Qbb)
  show b.1*n+(zaR bs ns).sum=0
  rw[ih,h n ψg,Int.mul_zero]
  rfl
theorem zps:∀(bs:List Box),(QaF)→bs≠[]→0<(bs.map λb=>b.1).sum
 | [],_,n=>absurd rfl n
 | [b],h,_=>by
  have:=(h b ψg).1
  simp only[ψu,ψu1,ψq,ψa1]
  omega
 | b::c::bs,h,_=>by
  have ih:=zps (c::bs) (λx hx=>h x (Qbb)) (Qa0)
  have:=(h b ψg).1
  rw[ψu,ψq]
  omega
theorem zAw{bs:List Box}{ns:List Int}{bud:Int}{E:Rat}(len:ns.length=bs.length)(gb:∀b∈bs,GB b)(n0:∀n∈ns,0≤n)(G:Gn bs ns)(ws:(Qas).sum≠0)(ve:E<zfF bs ns bud)(mn:∀x∈ψn bs ns,E≤chq x.1 (x.2+1))
  (hs:(QaY)→bud<(bs.map λb=>b.1).sum):Gn bs (nxt E bs ns):=by
 intro i b m hb hm
 rw[nxt,ψY,hb] at hm
 cases hn:ns[i]? with
 | none=>rw[hn] at hm;cases hm
 | some n =>
  rw[hn] at hm
  replace hm:(if chq b (n+1)=E then n+1 else n)=m:=Option.some.inj hm
  have g:=gb b (zan hb)
  have gn:=G i b n hb hn
  have hn0:=n0 n (zan hn)
  by_cases c:chq b (n+1)=E
  ·rw[if_pos c] at hm
   subst hm
   obtain⟨p0,p1,_⟩:=zlE g
   by_cases s:pr b=1
   ·exfalso
    have z:=zlZ g s hn0 gn
    subst z
    have eE:E=1:=by
     rw[← c,zgp g,s]
     show(1:Rat) - (1 - 1) ^ 1=1
     rw[ψl1,ψv1]
     grind
    have all:∀x∈ψn bs ns,pr x.1=1∧x.2=0∧GB x.1:=λx hx=>by
     have hm:=mn x hx
     obtain⟨k,ek⟩:=ψr hx
     rw[ψL] at ek
     have gx:=gb x.1 (zan ek.1)
     obtain⟨q0,q1,_⟩:=zlE gx
     have hx0:=n0 x.2 (zan ek.2)
     rw[eE,zgp gx] at hm
     have px:pr x.1=1:=by
      refine ψU λne=>?_
      have h1:(1 - pr x.1)≠0:=by grind
      have h2:=zok h1 (x.2+1).toNat
      have h3:=(zcA (ψB q0) q1 (x.2+1).toNat).2.1
      grind
     exact⟨px,zlZ gx px hx0 (G k _ _ ek.1 ek.2),gx⟩
    have sure:∀b∈bs,b.2.1=b.2.2:=λb' hb'=>by
     obtain⟨k,ek⟩:=ψr hb'
     have lk:=(List.getElem?_eq_some_iff.mp ek).1
     have en:ns[k]?=some ns[k]:=ψc (Qd)
     have hz:(b',ns[k])∈ψn bs ns:=ψS (List.getElem?_zip_eq_some.mpr ⟨ek,en⟩)
     exact zAB (gb b' hb') (all _ hz).1
    have hlt:=hs sure
    have W:=zjq (bud:=bud) ws
    have zs:∀n∈ns,n=0:=λn' hn'=>by
     obtain⟨k,ek⟩:=ψr hn'
     have lk:=(List.getElem?_eq_some_iff.mp ek).1
     have eb:bs[k]?=some bs[k]:=ψc (Qd)
     have hz:(bs[k],n')∈ψn bs ns:=ψS (List.getElem?_zip_eq_some.mpr ⟨eb,ek⟩)
     exact(all _ hz).2.1
    rw[ziD bs ns zs] at W
    have e1:((Qar).map λx=>wq x.1 x.2*(zfF bs ns bud - chq x.1 x.2))=(ψn bs ns).map λx=>(x.1.1:Rat)*zfF bs ns bud:=by
     refine List.map_congr_left λx hx=>?_
     obtain⟨a1,a2,a3⟩:=all x hx
     rw[a2]
     unfold wq
     rw[zgw a3,zgp a3,a1]
     show(x.1.1:Rat) / ((1 - 1) ^ 0*1)*(zfF bs ns bud - (1 - (1 - 1) ^ 0))=_
     rw[ψv1]
     grind
    rw[e1,zpm _ _ _ len] at W
    have C0:=zps bs gb (λz=>by rw[z] at hb;cases hb)
    have C1:(0:Rat)<(((QbL).sum:Int):Rat):=by exact_mod_cast C0
    have C2:((bud - 0:Int):Rat)<(((QbL).sum:Int):Rat):=by
     rw[Int.sub_zero]
     exact_mod_cast hlt
    rw[eE] at ve
    have m:=Rat.mul_lt_mul_of_pos_right ve C1
    grind
   ·rw[zgw g]
    have h1:(1 - pr b)≠0:=by grind
    have h2:=zok h1 (n+1).toNat
    grind
  ·rw[if_neg c] at hm
   subst hm
   exact gn
theorem zpt{b:Box}(g:GB b){n:Int}(n0:0≤n):chq b n≤chq b (n+1):=by
 obtain⟨p0,p1,_⟩:=zlE g
 have h:=(zcA (ψB p0) p1 n.toNat).2.1
 have m:=ψs1 h (ψB p0)
 rw[zgp g,zgp g,show(n+1).toNat=n.toNat+1 by omega,ψl1]
 grind
theorem zli{b:Box}(g:GB b):chq b 0=0:=by
 rw[zgp g]
 show(1:Rat) - (1 - pr b) ^ 0=0
 rw[ψv1]
 grind
def Mid(bs:List Box)(ns:List Int)(t:Rat):Prop:=∀x∈ψn bs ns,chq x.1 x.2≤t∧t≤chq x.1 (x.2+1)
theorem zju:∀(bs:List Box) (ns:List Int),(QaF)→(∀n∈ns,0≤n)→ns.length=bs.length→0≤(zaR bs ns).sum∧∀n∈ns,n≤(zaR bs ns).sum
 | [],[],_,_,_=>by simp[zaR]
 | [],_::_,_,_,h=>by cases h
 | _::_,[],_,_,h=>by cases h
 | b::bs,n::ns,gb,n0,h=>by
  obtain⟨z1,z2⟩:=zju bs ns (QbY) (λx hx=>n0 x (Qbb)) (Nat.succ.inj h)
  obtain⟨g1,_⟩:=gb b ψg
  have hn:=n0 n ψg
  have m1:1*n≤b.1*n:=Int.mul_le_mul_of_nonneg_right g1 hn
  rw[Int.one_mul] at m1
  refine⟨?_,λm hm=>?_⟩
  ·show 0≤b.1*n+(zaR bs ns).sum
   omega
  ·show m≤b.1*n+(zaR bs ns).sum
   rcases List.mem_cons.mp hm with rfl | hm
   ·omega
   ·have:=z2 m hm
    omega
theorem zo6(E:Rat):∀(bs:List Box) (ns:List Int),(QaF)→(QbE).sum≤(zaR bs (Qa7)).sum∧((∃x∈ψn bs ns,chq x.1 (x.2+1)=E)→(QbE).sum<(zaR bs (Qa7)).sum)
 | [],_,_=>by simp[zaR]
 | b::bs,[],_=>by simp[zaR,nxt]
 | b::bs,n::ns,gb=>by
  obtain⟨z1,z2⟩:=zo6 E bs ns (QbY)
  obtain⟨g1,_⟩:=gb b ψg
  have e:(zaR (b::bs) (nxt E (b::bs) (n::ns))).sum=b.1*(if chq b (n+1)=E then n+1 else n)+(zaR bs (Qa7)).sum:=rfl
  have e2:(zaR (b::bs) (n::ns)).sum=b.1*n+(zaR bs ns).sum:=rfl
  rw[e,e2]
  by_cases c:chq b (n+1)=E
  ·rw[if_pos c,Int.mul_add,Int.mul_one]
   exact⟨by omega,λ_=>by omega⟩
  ·rw[if_neg c]
   refine⟨by omega,λhQ'=>?_⟩
   obtain⟨x,hx,ex⟩:=hQ'
   rw[ψK1] at hx
   rcases List.mem_cons.mp hx with rfl | hx
   ·exact absurd ex c
   ·have:=z2 ⟨x,hx,ex⟩
    omega
theorem zoe(E:Rat)(bs:List Box)(ns:List Int)(h:ns.length=bs.length):(Qa7).length=bs.length:=by rw[nxt,ψo];omega
theorem zyf(E:Rat)(bs:List Box)(ns:List Int)(h:∀n∈ns,0≤n):∀n∈nxt E bs ns,0≤n:=λm hm=>by
 obtain⟨i,ei⟩:=ψr hm
 rw[nxt,ψY] at ei
 cases e1:bs[i]? with
 | none=>rw[e1] at ei;cases ei
 | some b =>
  cases e2:ns[i]? with
  | none=>rw[e1,e2] at ei;cases ei
  | some n =>
   rw[e1,e2] at ei
   have:=h n (zan e2)
   replace ei:(if chq b (n+1)=E then n+1 else n)=m:=Option.some.inj ei
   rw[← ei]
   split <;> omega
theorem zwR{bs:List Box}{ns:List Int}{t E:Rat}(gb:∀b∈bs,GB b)(n0:∀n∈ns,0≤n)(M:Mid bs ns t)(te:t≤E)(mn:∀x∈ψn bs ns,E≤chq x.1 (x.2+1)):Mid bs (Qa7) E:=by
 intro y hy
 rw[zol] at hy
 obtain⟨x,hx,rfl⟩:=List.mem_map.mp hy
 obtain⟨i,ei⟩:=ψr hx
 rw[ψL] at ei
 have g:=gb x.1 (zan ei.1)
 have h0:=n0 x.2 (zan ei.2)
 obtain⟨m1,m2⟩:=M x hx
 have m3:=mn x hx
 show chq x.1 (if chq x.1 (x.2+1)=E then x.2+1 else x.2)≤E∧E≤chq x.1 ((if chq x.1 (x.2+1)=E then x.2+1 else x.2)+1)
 by_cases c:chq x.1 (x.2+1)=E
 ·rw[if_pos c]
  refine⟨by rw[c];exact ψG1,?_⟩
  have:=zpt g (n:=x.2+1) (Qd)
  rw[c] at this
  exact this
 ·rw[if_neg c]
  exact⟨Rat.le_trans m1 te,m3⟩
theorem zhA{bs:List Box}{ns:List Int}(gb:∀b∈bs,GB b)(G:Gn bs ns)(ne:ψn bs ns≠[]):0<(wqs bs ns).sum:=by
 rw[wqs,zhi]
 refine ztp (λx:Box×Int=>wq x.1 x.2) _ ne λx hx=>?_
 obtain⟨i,ei⟩:=ψr hx
 rw[ψL] at ei
 exact zmy (gb _ (zan ei.1)) (G i _ _ ei.1 ei.2)
theorem zpp{bs:List Box}{ns:List Int}{bud:Int}{t:Rat}(W:0<(wqs bs ns).sum)(h:((Qar).map λx=>wq x.1 x.2*(t - chq x.1 x.2)).sum≤((bud - (zaR bs ns).sum:Int):Rat)):t≤zfF bs ns bud:=by
 have w:=zjq (bud:=bud) (bs:=bs) (ns:=ns) (by grind)
 rw[← w,zlA (λx:Box×Int=>wq x.1 x.2) (λx=>chq x.1 x.2),zlA (λx:Box×Int=>wq x.1 x.2) (λx=>chq x.1 x.2)] at h
 have e1:((Qar).map λx=>wq x.1 x.2).sum=(wqs bs ns).sum:=by rw[wqs,zhi]
 rw[e1] at h
 refine ψU λc=>?_
 have c':zfF bs ns bud<t:=Rat.not_le.mp c
 have m:=Rat.mul_lt_mul_of_pos_right c' W
 grind
structure Lev (bs:List Box) (ns:List Int) (bud:Int) (t:Rat):Prop where
 len:ns.length=bs.length
 n0:∀n∈ns,0≤n
 n59:∀n∈ns,n≤59
 gn:Gn bs ns
 mid:Mid bs ns t
 tw:t≤zfF bs ns bud
 cb:(QbE).sum≤bud
theorem zjT{bs:List Box}{ns:List Int}(l1:1≤bs.length)(h:ns.length=bs.length):ψn bs ns≠[]:=λz=>by
 have:=congrArg List.length z
 rw[List.length_zip,List.length_nil] at this
 omega
theorem Lev.zero{bs:List Box}{bud:Int}(gb:∀b∈bs,GB b)(l1:1≤bs.length)(d0:0≤bud):Lev bs (bs.map λ_=>0) bud 0:=by
 have len:(Qby).length=bs.length:=ψb ..
 have z:∀n∈(Qby),n=0:=λn hn=>by
  obtain⟨_,_,e⟩:=List.mem_map.mp hn
  exact e.symm
 have gn:Gn bs (bs.map λ_=>(0:Int)):=λi b n e1 e2=>by
  have:=z n (zan e2)
  subst this
  have g:=gb b (zan e1)
  rw[zgw g]
  have:=(zlE g).1
  show(1 - pr b) ^ 0*pr b≠0
  rw[ψv1]
  grind
 have cz:=ziD bs _ z
 have zz:∀x∈ψn bs (Qby),GB x.1∧x.2=0:=λx hx=>by
  obtain⟨i,ei⟩:=ψr hx
  rw[ψL] at ei
  exact⟨gb _ (zan ei.1),z _ (zan ei.2)⟩
 refine⟨len,λn hn=>by rw[z n hn];decide,λn hn=>by rw[z n hn];decide,gn,λx hx=>?_,zpp (zhA gb gn (zjT l1 len)) ?_,by omega⟩
 ·obtain⟨g,e⟩:=zz x hx
  rw[e,zli g]
  refine⟨ψG1,?_⟩
  have:=zpt g (n:=0) (Qm)
  rw[zli g] at this
  exact this
 ·have e:((ψn bs (Qby)).map λx=>wq x.1 x.2*(0 - chq x.1 x.2)).sum=0:=by
   rw[show((ψn bs (Qby)).map λx=>wq x.1 x.2*(0 - chq x.1 x.2))=(ψn bs (Qby)).map λ_=>(0:Rat) from List.map_congr_left λx hx=>by
    obtain⟨g,e⟩:=zz x hx
    rw[e,zli g]
    grind]
   generalize ψn bs (bs.map λ_=>(0:Int))=l
   induction l with
   | nil=>rfl
   | cons x l ih =>
    rw[ψu,ψq,ih]
    grind
  rw[e,cz]
  exact_mod_cast (show(0:Int)≤bud - 0 by omega)
theorem Lev.step{bs:List Box}{ns:List Int}{bud:Int}{t E:Rat}(L:Lev bs ns bud t)(gb:∀b∈bs,GB b)(l1:1≤bs.length)(d1:bud≤60)(hs:(QaY)→bud<(bs.map λb=>b.1).sum)
  (mn:∀x∈ψn bs ns,E≤chq x.1 (x.2+1)) (me:∃x∈ψn bs ns,chq x.1 (x.2+1)=E) (ve:E<zfF bs ns bud) :
  Lev bs (Qa7) bud E∧(bud - (zaR bs (Qa7)).sum).toNat<(bud - (zaR bs ns).sum).toNat:=by
 have ne:=zjT l1 L.len
 have W:=zhA gb L.gn ne
 have te:t≤E:=by
  obtain⟨x,hx,ex⟩:=me
  rw[← ex]
  exact(L.mid x hx).2
 obtain⟨t1,t2⟩:=zpB (bud:=bud) gb L.n0 L.gn ne (λx hx=>Rat.le_trans (L.mid x hx).1 te) (by grind) ve
 have gn:=zAw L.len gb L.n0 L.gn (by grind) ve mn hs
 have len:=zoe E bs ns L.len
 have n0:=zyf E bs ns L.n0
 have ce:=zju bs _ gb n0 len
 have mo:=(zo6 E bs ns gb).2 me
 refine⟨⟨len,n0,λn hn=>?_,gn,zwR gb L.n0 L.mid te mn,zpp (zhA gb gn (zjT l1 len)) (ψB t1),by omega⟩,by omega⟩
 have:=ce.2 n hn
 omega
def zrN(vs:List V):List Int:=vs.map λv=>match v with | .int n=>n | _=>0
theorem zpx(ns:List Int):zrN (ns.map V.int)=ns:=by
 unfold zrN
 rw[List.map_map]
 exact List.map_id ns
def zrA(bs:List Box)(bud:Int):St→Hp→Nat:=λσ H=>match σ with
 | _::_::some (.ref p)::_=>(match H p with | some (.lst vs)=>(bud - (zaR bs (zrN vs)).sum).toNat | _=>0)
 | _=>0
theorem zl8{bs:List Box}{bud:Int}{x y:Option V}{p:Addr}{r:St}{H:Hp}{ns:List Int}(h:H p=some (Qbd)):zrA bs bud (x::y::some (.ref p)::r) H=(bud - (zaR bs ns).sum).toNat:=by
 unfold zrA
 simp only[h,zpx]
theorem zvR(u v:Rat):[u.num,(u.den:Int)]=[v.num,(v.den:Int)]↔u=v:=by
 refine⟨λh=>?_,λh=>by rw[h]⟩
 simp only[List.cons.injEq,and_true] at h
 exact Rat.ext h.1 (Int.ofNat.inj h.2)
theorem zq6{bs:List Box}{ns:List Int}{bud:Int}{t:Rat}(L:Lev bs ns bud t)(gb:∀b∈bs,GB b)(l1:1≤bs.length)(l6:bs.length≤6)(d1:bud≤60):Bq 1300 (zfF bs ns bud):=by
 have W:=zhA gb L.gn (zjT l1 L.len)
 have st:=zif bs ns gb L.n0
 have cb:=L.cb
 have ce:=(zju bs ns gb L.n0 L.len).1
 have zl:(Qar).length≤6:=by rw[List.length_zip];omega
 have mb:∀x∈ψn bs ns,GB x.1∧gnq x.1 x.2≠0:=λx hx=>by
  obtain⟨i,ei⟩:=ψr hx
  rw[ψL] at ei
  exact⟨gb _ (zan ei.1),L.gn i _ _ ei.1 ei.2⟩
 have h1:=zkY (j:=12) (k:=16) (f:=λx=>wq x.1 x.2*chq x.1 x.2) (Qar) λx hx=>((zmP (mb x hx).1 (mb x hx).2).mul2 (zo7 (mb x hx).1 x.2)).mono (Qd)
 have h2:=zkY (j:=6) (k:=14) (f:=λx=>wq x.1 x.2) (Qar) λx hx=>zmP (mb x hx).1 (mb x hx).2
 have e1:((Qar).map λx=>wq x.1 x.2).sum=(wqs bs ns).sum:=by rw[wqs,zhi]
 rw[← zjy] at h1
 rw[e1] at h2
 have bS:Bq 20 ((bud - (zaR bs ns).sum:Int):Rat):=⟨by show(bud - (zaR bs ns).sum).natAbs<2 ^ 20;omega,by show(1:Nat)<2 ^ 20;decide⟩
 have h3:=(h1.add2 bS).div2 h2 (by grind)
 exact h3.mono (Qd)
def nend(b:Box)(n:Int):Rat:=chq b (n+1)
def zoW:Sp:=λvs H Q _=>∃(l:Addr) (ts:List Addr) (bs:List Box) (bud:Int),vs=[.ref l,.int bud]∧H l=some (Q4)∧Tps bx H ts bs∧(QaF)∧1≤bs.length∧bs.length≤6∧0≤bud∧bud≤60∧((QaY)→bud<(bs.map λb=>b.1).sum) ∧
 ∀(r pl wr:Addr) (ns:List Int) (H':Hp),zaP H H'→H' r=some (.tup [.ref pl,.ref wr])→BP H' l pl ts bs ns→Lev bs ns bud (Qan)→H' wr=some (Qcr)→Q (QT) H'
def zeo(K:ψa):TS :=
 (zbq (zcu (zlg K (zab (zac 2) (QaO))) (Ql) zbe (tIf (zcp (tOp (rEqT K) (zac 1) (zac 2))) (tOp (Qz) (zac 0) (Qi)) (zac 0)) [none,none,some 5]) (zaj 2))
def zbn(K:ψa):=eqT (zeo.eq_1 K)
def zep(K:ψa):TS :=
 (zbf (zbq (zaG zjx [] E0 (zab (zac 0) (QcA))) (zaj 3))
 (zbf (zbq (zcu (zlg K (QcB)) (Ql) zbe (zaG zje [] E0 (zab (zac 0) (zab (tOp (Qz) (zac 1) (Qi)) zas))) [none,none]) (zaj 4))
 (zbf (zbq (zaG zo1 [] E0 (QaO)) (zaj 5))
 (zbf (ze2 (zd2 (zf7 (tB (zaG zlH [] E0 (zab (zac 5) (Qa5))))) (zb2 (zf6 (zab (zac 2) (Qa5)))) zb7))
 (zeo K)))))
def zbl(K:ψa):=eqT (zep.eq_1 K)
def zdv(K:ψa):TS :=
 (zbf (zbq (zcu (Qaw) (zaj 0) zbe (Qq) [none]) (zaj 2))
 (zmT (tB (tC (.bl true))) (zep K)))
theorem zhv{l:Addr}{ts:List Addr}{bs:List Box}{bud:Int}(hl:H l=some (Q4))(T:Tps bx H ts bs)(gb:∀b∈bs,GB b)(l1:1≤bs.length)(l6:bs.length≤6)(d0:0≤bud)(d1:bud≤60)(hs:(QaY)→bud<(bs.map λb=>b.1).sum)
  (q:∀(r pl wr:Addr) (ns:List Int) (H':Hp),zaP H H'→H' r=some (.tup [.ref pl,.ref wr])→BP H' l pl ts bs ns→Lev bs ns bud (Qan)→H' wr=some (Qcr)→Q (QT) H') :
  zdv K { nx:=λ_ H'=>Q .non H',rt:=Q } (L2.start ["boxes","budget","counts","worth","ends","end"] [.ref l,.int bud]) H:=by
 unfold zdv
 simp_all only [zbn,zbl,zac]
 refine(QaB)
 refine zfD (vs:=(Qby).map V.int) hl (by simp[T.1]) (by simp;omega) hD (λi x v H' R _ hv s k=>?_) λH1 s1 h1=>?_
 ·obtain⟨n,en,rfl⟩:=zaO hv
  obtain⟨_,_,rfl⟩:=zaO en
  exact k _ (Qau)
 refine zkW (λσ H'=>zaP H H'∧∃(pl:Addr) (ns:List Int) (t:Rat) (x y z:Option V),H' pl=some (Qbd)∧Lev bs ns bud t∧σ=[some (Qa1),some (Qbc),some (.ref pl),x,y,z]) (zrA bs bud) ⟨s1,D,_,0,_,_,_,h1,Lev.zero gb l1 d0,rfl⟩ ?_ ?_
 ·rintro σ H' ⟨s,pl,ns,t,x,y,z,hp,L,rfl⟩
  rw[zl8 hp]
  have B:BP H' l pl ts bs ns:=⟨s _ _ hl,T.same s,hp,L.len,gb,λn hn=>⟨L.n0 n hn,by have:=L.n59 n hn;omega⟩,l1,by omega⟩
  have W:=zhA gb L.gn (zjT l1 L.len)
  simp_all only [zbn,zbl,zac]
  refine⟨l,pl,ts,bs,ns,bud,rfl,B,(by have:=L.cb;omega),L.gn,d0,d1,by grind,λwr H2 s2 hw=>?_⟩
  have B2:=B.same s2
  refine⟨⟨_,SqL.of B2.hl⟩,⟨_,SqL.of B2.hp⟩,λD2 hD2=>?_⟩
  have lE:(ψd nend bs ns).length=bs.length:=by rw[ψo,L.len];omega
  refine zf9 (f:=fr) (qs:=ψd nend bs ns) B2.hl B2.hp (by rw[lE,ψb,ψb,T.1,L.len];omega) (Qd) hD2 (Qct) λus H3 s3 h3 TE=>?_
  ·obtain⟨a,ha,rfl⟩:=zaO hx
   obtain⟨n,hn,rfl⟩:=zaO hz
   obtain⟨b,hb1,hb2⟩:=B2.hb.at ha
   have e:=zi5 hb1 hn hw
   subst e
   simp_all only [zbn,zbl,zac]
   have:=L.n0 n (zan hn)
   have:=L.n59 n (zan hn)
   exact⟨a,b,n+1,rfl,s3 _ _ hb2,gb b (zan hb1),by omega,by omega,k⟩
  ·have bE:∀x∈ψd nend bs ns,Bq 401 x:=zhk _ λi b n h1 h2=>zwr (gb b (zan h1)) (by have:=L.n59 n (zan h2);omega)
   refine⟨D2,us,_,rfl,h3,TE,by omega,λx hx=>(bE x hx).mono (Qm),λer E hE mE lE=>?_⟩
   have hw3:=s3 _ _ hw
   have mn:∀x∈ψn bs ns,E≤chq x.1 (x.2+1):=λx hx=>by
    refine lE _ ?_
    rw[zhi]
    exact List.mem_map.mpr ⟨x,hx,rfl⟩
   have me:∃x∈ψn bs ns,chq x.1 (x.2+1)=E:=by
    rw[zhi] at mE
    obtain⟨x,hx,e⟩:=List.mem_map.mp mE
    exact⟨x,hx,e⟩
   have S3:=s2.trans s3
   refine⟨λσ H'=>H'=H3∧E<zfF bs ns bud∧σ=[some (Qa1),some (Qbc),some (.ref pl),some (.ref wr),some (.ref D2),some (.ref er)],?_,?_⟩
   ·simp_all only [zbn,zbl,zac]
    refine⟨er,wr,E,_,rfl,hE,hw3,(bE E mE).mono (Qm),(zq6 L gb l1 l6 d1).mono (Qm),?_⟩
    refine(QU)
    by_cases c:E<zfF bs ns bud
    ·rw[if_neg (by simp[c])]
     exact⟨rfl,c⟩
    ·rw[if_pos (by simp[c])]
     have c':=Rat.not_lt.mp c
     refine(Qci)
     refine q p pl wr ns _ ((s.trans S3).add np) zam ((B.same S3).same (zat np _)) ⟨L.len,L.n0,L.n59,L.gn,λx hx=>⟨Rat.le_trans (L.mid x hx).1 L.tw,Rat.le_trans c' (mn x hx)⟩,ψG1,L.cb⟩ (by rw[zaS (zaT hw3 np)];exact hw3)
   ·rintro σ H4 ⟨rfl,ve,rfl⟩
    simp_all only [zbn,zbl,zac]
    obtain⟨Lv,dn⟩:=L.step gb l1 d1 hs mn me ve
    have hp3:=S3 _ _ hp
    refine⟨⟨_,SqL.of hp3⟩,⟨_,SqL.of h3⟩,λD3 hD3=>?_⟩
    refine zeL (vs:=(Qa7).map V.int) hp3 h3 ?_ ?_ hD3 (λi x z v H5 R hx hz hv s5 k=>?_) λH5 s5 h5=>?_
    ·rw[ψb,ψb,ψb,zoe E bs ns L.len,TE.1,ψo,L.len]
     omega
    ·rw[ψb,zoe E bs ns L.len]
     omega
    ·obtain⟨n,hn,rfl⟩:=zaO hx
     obtain⟨a,ha,rfl⟩:=zaO hz
     obtain⟨m,hm,rfl⟩:=zaO hv
     obtain⟨f,hf1,hf2⟩:=TE.at ha
     have hi:=(List.getElem?_eq_some_iff.mp hn).1
     have hb:bs[i]?=some (bs[i]'(by rw[← L.len];exact hi)):=ψc (by rw[← L.len];exact hi)
     have e:=zi5 hb hn hm
     have e2:=zi5 hb hn hf1
     simp_all only [zbn,zbl,zac]
     refine⟨[f.num,(f.den:Int)],SqT.of (s5 _ _ hf2),[E.num,(E.den:Int)],SqT.of (s5 _ _ hE),?_⟩
     rw[e2,nend]
     by_cases c:chq (bs[i]'(by rw[← L.len];exact hi)) (n+1)=E
     ·rw[if_pos ((zvR _ _).mpr c)]
      rw[e,if_pos c] at k
      exact k _ (Qau)
     ·rw[if_neg (λz=>c ((zvR _ _).mp z))]
      rw[e,if_neg c] at k
      exact k _ (Qau)
    ·exact⟨s.trans (S3.trans s5),⟨D3,_,h5,E,Lv,rfl⟩,by rw[zl8 h5];exact dn⟩
 ·rintro σ H1 Q1 Q2 hQ ⟨c,e,h⟩
  exact⟨c,e,hQ _ _ h⟩
theorem zbG:zaJ ["boxes","budget","counts","worth","ends","end"] (QaQ) (zai zbZ):=(Qa)
theorem zhu(T:Txt K mg a):zcr P w K mg base CX0 6 a.faL a.daL (QaQ) zoW:=by
 have Gac:=zpl (P:=P) (w:=w) (base:=base) T
 have GU:=zjV (P:=P) (w:=w) (base:=base) T
 have GaK:=zlu (P:=P) (w:=w) (base:=base) T
 have GaJ:=zjU (P:=P) (w:=w) (base:=base) T
 refine T.FaL.ok zbG (Qk) (Qe)
 all_goals obtain⟨l,ts,bs,bud,rfl,hl,T',gb,l1,l6,d0,d1,hs,q⟩:=h
 ·rfl
 exact⟨zdv K,(zaf (zcS (i:=2) zbG.nd rfl rfl (sc:=zai zbZ) (N:=["boxes","budget","counts","worth","ends","end"]) (Nc:=["box"]) (cap:=[none]) rfl rfl rfl (Qr) (Qbl) (Q8) (QH) (λ_ _ _ _=>zae))
 (zah (zlf PassesOwn.never (zbu zdx) (zaf (zaN (i:=3) zbG.nd rfl (Qg) (zag GaK (Qc) rfl T.maK T.FaK.kp T.baK .nil zaH (zaa (pv 0) (QcQ))))
 (zaf (zcS (i:=4) zbG.nd rfl rfl (sc:=zai zbZ) (N:=["boxes","budget","counts","worth","ends","end"]) (Nc:=["box","count"]) (cap:=[none,none]) rfl rfl rfl (Qr) (zd4 rfl T.z_zip (QcR)) (Qo) (QH) (λ_ _ _ _=>(zag GU (Qc) rfl T.mU T.FU.kp T.bU .nil zaH (zaa (pv 0) (zaa (zao zco (pv 1) zae) zad)))))
 (zaf (zaN (i:=5) zbG.nd rfl (Qca) (zag GaJ (Qc) rfl T.maJ T.FaJ.kp T.baJ .nil zaH (Qa3)))
 (zaf (zbz (zb1 (zbW (zbu (zag Gac (Qc) rfl T.mac T.Fac.kp T.bac .nil zaH (zaa (pv 5) (Qbi))))) (zah (zaE (zbI (zaa (pv 2) (Qbi))))) zaY))
 (zah (zcS (i:=2) zbG.nd rfl rfl (sc:=zai zbZ) (N:=["boxes","budget","counts","worth","ends","end"]) (Nc:=["count","one","end"]) (cap:=[none,none,some 5]) rfl rfl rfl (Qr) (zd4 rfl T.z_zip (zaa (pv 2) (Qa3))) (λ_ _ _ _=>(zbp rfl (zal (zak (i:=0) (show ψk (["count","one","end"]:List Str) from by decide) rfl (Qg)) (zal (zak (i:=1) (show ψk (["count","one","end"]:List Str) from by decide) rfl (Qg)) zaZ)))) (QH) (λ_ _ _ _=>(zoT (zbi (zvY hr.units0) (pv 1) (pv 2) (zbd _)) (zao zco (pv 0) zae) (pv 0)))))))))))),
  zhv hl T' gb l1 l6 d0 d1 hs q⟩
structure zpF (ns:List Int) (g:Int):Prop where
 g0:0≤g
 all:∀n∈ns,g∣n
 most:∀d:Int,(∀n∈ns,d∣n)→d∣g
theorem zpF.ne{ns:List Int}{g n:Int}(h:zpF ns g)(hn:n∈ns)(n0:n≠0):0<g:=by
 have h1:=h.all n hn
 have h2:=h.g0
 refine ψU λc=>n0 ?_
 have:g=0:=by omega
 subst this
 exact Int.zero_dvd.mp h1
theorem zpF.le{ns:List Int}{g n:Int}(h:zpF ns g)(hn:n∈ns)(n0:n≠0):g.natAbs≤n.natAbs:=Nat.le_of_dvd (Qd) (Int.natAbs_dvd_natAbs.mpr (h.all n hn))
theorem zpF.log{ns:List Int}{g n:Int}(h:zpF ns g)(hn:n∈ns)(n0:n≠0)(b:Bd 9000 n):g.natAbs.log2<9000:=zhL 9000 (by have:=h.ne hn n0;omega) (b.le (h.le hn n0))
def zlS:Sp:=λvs H Q _=>∃(l:Addr) (ns:List Int),vs=[.ref l]∧H l=some (Qbd)∧∀g:Int,zpF ns g→Q (.int g) H
def zeg(K:ψa):TS :=
 (zbf (zbq (Qq) (zaj 1))
 (zbf (zka (Qaw) (zaj 2)
 (zbq (zaG zrz [] E0 (QcA)) (zaj 1)))
 (zb2 (zac 1))))
theorem ziI{l:Addr}{ns:List Int}(hl:H l=some (Qbd))(q:∀g:Int,zpF ns g→Q (.int g) H) :
  zeg K { nx:=λ_ H'=>Q .non H',rt:=Q } (L2.start ["numbers","shared","number"] [.ref l]) H:=by
 unfold zeg
 simp_all only [zac]
 refine⟨⟨_,SqL.of hl⟩,?_⟩
 refine zds (K:=K) (xs:=ns.map V.int) (λi σ H'=>H'=H∧∃(g:Int) (x:Option V),zpF (ns.take i) g∧σ=[some (Qa1),some (.int g),x]) ⟨rfl,0,_,⟨by decide,by simp,λd _=>Int.dvd_zero d⟩,rfl⟩ ?_ ?_ ?_
 ·rintro i σ H' _ ⟨rfl,_⟩
  exact SqL.of hl
 ·rintro i v σ H1 hx ⟨rfl,g,x,G,rfl⟩
  obtain⟨n,en,rfl⟩:=zaO hx
  simp_all only [zac]
  refine⟨g,n,rfl,rfl,_,⟨by omega,λm hm=>?_,λd hd=>?_⟩,rfl⟩
  ·rw[ψw,en] at hm
   rcases List.mem_append.mp hm with h | h
   ·exact Int.dvd_trans (Int.gcd_dvd_left ..) (G.all m h)
   ·have:m=n:=by simpa using h
    rw[this]
    exact Int.gcd_dvd_right ..
  ·rw[ψw,en] at hd
   exact Int.dvd_coe_gcd (G.most d λm hm=>hd m (List.mem_append_left _ hm)) (hd n (ψA _ (Qa0)))
 ·rintro σ H1 ⟨rfl,g,x,G,rfl⟩
  rw[ψb,ψJ] at G
  simp_all only [zac]
  exact q g G
theorem zcR:zaJ ["numbers","shared","number"] ["numbers"] (zai zeb):=(Qa)
theorem zfu(T:Txt K mg a):zcr P w K mg base CX0 2 a.faf a.daf ["numbers"] zlS:=by
 have GN:=zgK (P:=P) (w:=w) (base:=base) T
 refine T.Faf.ok zcR (Qk) (Qe)
 all_goals obtain⟨l,ns,rfl,hl,q⟩:=h
 ·rfl
 exact⟨zeg K,(zaf (zaN (i:=1) zcR.nd rfl (Qg) zae)
 (zaf (zdA PassesOwn.never rfl (Qbl) (zak (i:=2) zcR.nd rfl (Qg))
 (zah (zaN (i:=1) zcR.nd rfl (Qg) (zag GN (Qc) rfl T.mN T.FN.kp T.bN .nil zaH (QcQ)))))
 (zah (zaE (pv 1))))),
  ziI hl q⟩
def zo4:Sp:=λvs H Q _=>∃(l:Addr) (ns:List Int) (m:Int),vs=[.ref l]∧H l=some (Qbd)∧ns.length≤1000∧m∈ns∧m≠0∧Bd 9000 m∧∀(r:Addr) (g:Int) (H':Hp),zaP H H'→zpF ns g→H' r=some (.lst ((ns.map λn=>n.fdiv g).map V.int))→Q (QT) H'
def zlU(K:ψa):TS :=
 (zbf (zbq (zaG zlS [] E0 (QF)) (zaj 1))
 (zb2 (zcu (Qaw) (zaj 0) zbe (tOp (Qt) (zac 0) (zac 1)) [none,some 1])))
theorem zsc{l:Addr}{ns:List Int}{m:Int}(hl:H l=some (Qbd))(l1:ns.length≤1000)(hm:m∈ns)(m0:m≠0)(mb:Bd 9000 m)(q:∀(r:Addr) (g:Int) (H':Hp),zaP H H'→zpF ns g→H' r=some (.lst ((ns.map λn=>n.fdiv g).map V.int))→Q (QT) H') :
  zlU K { nx:=λ_ H'=>Q .non H',rt:=Q } (L2.start ["weights","shared"] [.ref l]) H:=by
 unfold zlU
 simp_all only [zac]
 refine⟨l,ns,rfl,hl,λg G=>?_⟩
 refine(QaB)
 refine zfD (vs:=(ns.map λn=>n.fdiv g).map V.int) hl (Qa0) (by simpa using l1) hD (λi x v H' R hx hv s k=>?_) λH1 s1 h1=>q D g H1 s1 G h1
 obtain⟨n,en,rfl⟩:=zaO hx
 obtain⟨y,ey,rfl⟩:=zaO hv
 obtain⟨n',en',rfl⟩:=zaO ey
 rw[en] at en'
 cases en'
 simp_all only [zac]
 exact⟨by have:=G.ne hm m0;omega,G.log hm m0 mb,k _ (Qau)⟩
theorem zmv:zaJ ["weights","shared"] ["weights"] (zai zji):=(Qa)
theorem ztk(T:Txt K mg a):zcr P w K mg base CX0 3 a.fat a.dat ["weights"] zo4:=by
 have Gaf:=zfu (P:=P) (w:=w) (base:=base) T
 refine T.Fat.ok zmv (Qk) (Qe)
 all_goals obtain⟨l,ns,m,rfl,hl,l1,hm,m0,mb,q⟩:=h
 ·rfl
 exact⟨zlU K,(zaf (zaN (i:=1) zmv.nd rfl (Qca) (zag Gaf (Qc) rfl T.maf T.Faf.kp T.baf .nil zaH (Qaj)))
 (zah (zaE (zcc (sc:=zai zji) (N:=["weights","shared"]) (Nc:=["weight","shared"]) (cap:=[none,some 1]) rfl rfl rfl (Qr) (Qbl) (λ_ _ _ _=>(zak (i:=0) (show ψk (["weight","shared"]:List Str) from by decide) rfl (Qg))) (QH) (λ_ _ _ _=>(zao zc9 (pv 0) (pv 1))))))),
  zsc hl l1 hm m0 mb q⟩
def shq(V:Rat)(b:Box)(n:Int):Rat:=(V - chq b n) / gnq b n
def zoD:Sp:=λvs H Q _=>∃(l pl wr:Addr) (ts:List Addr) (bs:List Box) (ns:List Int) (W:Rat),vs=[.ref l,.ref pl,.ref wr]∧BP H l pl ts bs ns∧Gn bs ns∧H wr=some (Q9)∧Bq 1300 W∧∀(r:Addr) (us:List Addr) (H':Hp),zaP H H'→H' r=some (Q3)→Tps fr H' us (Qcy)→Q (QT) H'
def zfU(K:ψa):TS :=
 (zb2 (zcu (zlg K (Qy)) (Ql) zbe (zaG zll [] E0 (zab (zaG zoH [] E0 (zab (zac 2) (zab (zaG zje [] E0 (Qy)) zas))) (zab (zaG zng [] E0 (Qy)) zas))) [none,none,some 2]))
theorem zj8{l pl wr:Addr}{ts:List Addr}{bs:List Box}{ns:List Int}{W:Rat}(B:BP H l pl ts bs ns)(G:Gn bs ns)(hw:H wr=some (Q9))(bW:Bq 1300 W)(q:∀(r:Addr) (us:List Addr) (H':Hp),zaP H H'→H' r=some (Q3)→Tps fr H' us (Qcy)→Q (QT) H') :
  zfU K { nx:=λ_ H'=>Q .non H',rt:=Q } (L2.start (Qay) [.ref l,.ref pl,.ref wr]) H:=by
 unfold zfU
 simp_all only [zac]
 have l6:=B.l6
 refine(Qbs)
 refine zf9 (f:=fr) (qs:=ψd (shq W) bs ns) B.hl B.hp (by rw[ψo,ψb,ψb,B.hb.1]) (by rw[ψo];omega) hD (Qcu) λus H3 s3 h3 TE=>q D us H3 s3 h3 TE
 obtain⟨a,ha,rfl⟩:=zaO hx
 obtain⟨n,hn,rfl⟩:=zaO hz
 obtain⟨b,hb1,hb2⟩:=B.hb.at ha
 have e:=zi5 hb1 hn hv
 subst e
 have g:=B.gb b (zan hb1)
 obtain⟨n0,n1⟩:=B.gn n (zan hn)
 have bC:=zo7 g n
 have bG:=zri g n
 simp_all only [zac]
 refine⟨a,b,n,rfl,s3 _ _ hb2,g,n0,n1,λc H4 s4 h4=>?_⟩
 refine⟨wr,c,W,_,rfl,s4 _ _ (s3 _ _ hw),h4,bW.mono (Qm),bC.mono (Qd),λd H5 s5 h5=>?_⟩
 refine⟨a,b,n,rfl,s5 _ _ (s4 _ _ (s3 _ _ hb2)),g,n0,n1,λe H6 s6 h6=>?_⟩
 exact⟨d,e,_,_,rfl,s6 _ _ h5,h6,G i b n hb1 hn,(bW.sub2 bC).mono (Qd),bG.mono (Qd),λr H7 s7 h7=>k r H7 (s4.trans (s5.trans (s6.trans s7))) h7⟩
theorem zkc:zaJ (Qay) (Qay) (zai zeA):=(Qa)
theorem zkk(T:Txt K mg a):zcr P w K mg base CX0 4 a.faM a.daM (Qay) zoD:=by
 have GU:=zjV (P:=P) (w:=w) (base:=base) T
 have Gaj:=zsJ (P:=P) (w:=w) (base:=base) T
 have Gar:=zuU (P:=P) (w:=w) (base:=base) T
 have GQ:=znt (P:=P) (w:=w) (base:=base) T
 refine T.FaM.ok zkc (Qk) (Qe)
 all_goals obtain⟨l,pl,wr,ts,bs,ns,W,rfl,B,G,hw,bW,q⟩:=h
 ·rfl
 exact⟨zfU K,(zah (zaE (zcc (sc:=zai zeA) (N:=["boxes","counts","worth"]) (Nc:=["box","count","worth"]) (cap:=[none,none,some 2]) rfl rfl rfl (Qr) (zd4 rfl T.z_zip (QW)) (λ_ _ _ _=>(zbp rfl (zal (zak (i:=0) (show ψk (["box","count","worth"]:List Str) from by decide) rfl (Qg)) (zal (zak (i:=1) (show ψk (["box","count","worth"]:List Str) from by decide) rfl (Qg)) zaZ)))) (QH) (λ_ _ _ _=>(zag GQ (Qc) rfl T.mQ T.FQ.kp T.bQ .nil zaH (zaa (zag Gar (Qc) rfl T.mar T.Far.kp T.bar .nil zaH (zaa (pv 2) (zaa (zag GU (Qc) rfl T.mU T.FU.kp T.bU .nil zaH (QW)) zad))) (zaa (zag Gaj (Qc) rfl T.maj T.Faj.kp T.baj .nil zaH (QW)) zad))))))),
  zj8 B G hw bW q⟩
theorem zyE{b:Box}(g:GB b){n:Int}(n0:0≤n)(n1:n≤60)(gn:gnq b n≠0){W:Rat}(bW:Bq 1300 W):Bq 2200 (shq W b n):=((bW.sub2 (zo7 g n)).div2 (zri g n) gn).mono (Qd)
theorem Com.bd{m:Nat}:∀{qs:List Rat} {D:Int},Com qs D→(∀q∈qs,Bq m q)→Bd (m*qs.length+1) D:=by
 intro qs D C h
 have key:∀rs:List Rat,(∀q∈rs,Bq m q)→∃M:Int,0<M∧Bd (m*rs.length+1) M∧∀q∈rs,(q.den:Int)∣M:=by
  intro rs
  induction rs with
  | nil=>exact λ_=>⟨1,by decide,by show(1:Nat)<2 ^ _;exact Nat.one_lt_two_pow (Qd),by simp⟩
  | cons r rs ih =>
   intro h
   obtain⟨M,M0,hM,hd⟩:=ih λq hq=>h q (ψe _ hq)
   refine⟨(r.den:Int)*M,ψB1 (zcY r) M0,(((h r ψg).bot.mul hM).mono (by rw[ψN,Nat.mul_add];omega)),λq hq=>?_⟩
   rcases List.mem_cons.mp hq with rfl | hq
   ·exact Int.dvd_mul_right ..
   ·exact Int.dvd_trans (hd q hq) (Int.dvd_mul_left ..)
 obtain⟨M,M0,hM,hd⟩:=key qs h
 exact hM.le (Nat.le_of_dvd (Qd) (Int.natAbs_dvd_natAbs.mpr (C.least M hd)))
theorem zwP(t b:Int)(h:b≠0):((ψD t b).den:Int)∣b:=by
 rw[(zhW h).2]
 exact⟨_,(zh7 t b).symm⟩
theorem zAy{N D A M O X:Rat}(a1:D≠0)(a2:A≠0)(a3:M≠0)(a4:X≠0)(a5:O≠0):((N / D - (A - M) / A) / (M*X / (A*O)))=((N - D)*(A*O)+D*(M*O)) / (D*(M*X)):=by
 have h1:M*X / (A*O)≠0:=by
  rw[Rat.div_def]
  intro z
  rcases Rat.mul_eq_zero.mp z with h | h
  ·rcases Rat.mul_eq_zero.mp h with h | h
   ·exact a3 h
   ·exact a4 h
  ·have h9:A*O≠0:=λz=>(Rat.mul_eq_zero.mp z).elim a2 a5
   have:=Rat.mul_inv_cancel _ h9
   rw[h] at this
   grind
 have h2:D*(M*X)≠0:=by
  intro z
  rcases Rat.mul_eq_zero.mp z with h | h
  ·exact a1 h
  ·rcases Rat.mul_eq_zero.mp h with h | h
   ·exact a3 h
   ·exact a4 h
 have h3:A*O≠0:=by
  intro z
  rcases Rat.mul_eq_zero.mp z with h | h
  ·exact a2 h
  ·exact a5 h
 have e1:((N - D)*(A*O)+D*(M*O)) / (D*(M*X))*(M*X / (A*O))=N / D - (A - M) / A:=by
  have e2:((N - D)*(A*O)+D*(M*O)) / (D*(M*X))*(M*X / (A*O))=((N - D)*(A*O)+D*(M*O)) / D / (A*O):=by grind
  rw[e2]
  have e3:N / D - (A - M) / A=(N - D) / D+M / A:=by grind
  rw[e3]
  have e4:((N - D)*(A*O)+D*(M*O)) / D / (A*O)=(N - D) / D+(D*(M*O)) / D / (A*O):=by grind
  rw[e4]
  grind
 rw[← e1]
 grind
theorem zzo{b:Box}(g:GB b){n:Int}(n0:0≤n)(gn:gnq b n≠0)(W:Rat):((shq W b n).den:Int)∣(W.den:Int)*((b.2.2 - b.2.1) ^ n.toNat*b.2.1):=by
 have m0:(b.2.2 - b.2.1) ^ n.toNat*b.2.1≠0:=λz=>by
  refine gn ?_
  unfold gnq
  rw[z,Rat.zero_divInt]
 have d0:=zcO W
 have o:=zd8 g n
 have h:shq W b n=ψD ((W.num - W.den)*(b.2.2 ^ n.toNat*b.2.2)+W.den*((b.2.2 - b.2.1) ^ n.toNat*b.2.2)) ((W.den:Int)*((b.2.2 - b.2.1) ^ n.toNat*b.2.1)):=by
  unfold shq chq gnq
  have hW:=ψG W
  rw[ψs] at hW ⊢
  rw[ψs,ψs]
  simp only[ψm,ψT,ψE1] at *
  have a1:((W.den:Int):Rat)≠0:=λz=>d0 (by exact_mod_cast z)
  have a2:((b.2.2 ^ n.toNat:Int):Rat)≠0:=λz=>by
   have:(b.2.2 ^ n.toNat:Int)=0:=by exact_mod_cast z
   omega
  have a3:(((b.2.2 - b.2.1) ^ n.toNat:Int):Rat)≠0:=λz=>by
   have:((b.2.2 - b.2.1) ^ n.toNat:Int)=0:=by exact_mod_cast z
   exact m0 (by rw[this,Int.zero_mul])
  have a4:(b.2.1:Rat)≠0:=λz=>by
   have:b.2.1=0:=by exact_mod_cast z
   exact m0 (by rw[this,Int.mul_zero])
  have a5:(b.2.2:Rat)≠0:=λz=>by
   have:b.2.2=0:=by exact_mod_cast z
   have:=g.2.2.1
   have:=g.2.2.2.1
   omega
  generalize ((b.2.2 ^ n.toNat:Int):Rat)=A at *
  generalize (((b.2.2 - b.2.1) ^ n.toNat:Int):Rat)=M at *
  generalize (b.2.2:Rat)=O at *
  generalize (b.2.1:Rat)=X at *
  generalize (W.num:Rat)=N at *
  generalize ((W.den:Int):Rat)=D at *
  rw[← hW]
  exact zAy a1 a2 a3 a4 a5
 rw[h]
 exact zwP _ _ (ψX d0 m0)
theorem zx3{bs:List Box}{ns:List Int}{W:Rat}{D:Int}(gb:∀b∈bs,GB b)(n0:∀n∈ns,0≤n)(G:Gn bs ns)(l6:bs.length≤6)(cs:(QbE).sum≤60)(bW:Bq 1300 W)(C:Com (Qcy) D):Bd 1800 D:=by
 have st:=zif bs ns gb n0
 have key:∀xs:List (Box×Int),(∀x∈xs,GB x.1∧0≤x.2∧gnq x.1 x.2≠0)→∃M:Int,0<M∧Bd (6*(xs.map λx=>x.2.toNat).sum+8*xs.length+1) M∧∀x∈xs,(x.1.2.2 - x.1.2.1) ^ x.2.toNat*x.1.2.1∣M:=by
  intro xs
  induction xs with
  | nil=>exact λ_=>⟨1,by decide,by show(1:Nat)<2 ^ _;exact Nat.one_lt_two_pow (Qd),by simp⟩
  | cons x xs ih =>
   intro h
   obtain⟨M,M0,hM,hd⟩:=ih λy hy=>h y (ψe _ hy)
   obtain⟨g,x0,gx⟩:=h x ψg
   have z:(x.1.2.2 - x.1.2.1) ^ x.2.toNat*x.1.2.1≠0:=λz=>by
    refine gx ?_
    unfold gnq
    rw[z,Rat.zero_divInt]
   obtain⟨g1,g2,g3,g4,g5⟩:=g
   have p:=(zoO (b:=x.1.2.2 - x.1.2.1) (Qd) (Qd) x.2.toNat).1
   have p2:=Int.mul_nonneg p (show 0≤x.1.2.1 by omega)
   have hb:Bd 6 x.1.2.1:=by show x.1.2.1.natAbs<2 ^ 6;omega
   have b1:=((zin (b:=x.1.2.2 - x.1.2.1) (Qd) (Qd) x.2.toNat).mul hb).mul hM
   refine⟨_,ψB1 (Qd) M0,b1.mono (by rw[ψu,ψq,ψN];omega),λy hy=>?_⟩
   rcases List.mem_cons.mp hy with rfl | hy
   ·exact Int.dvd_mul_right ..
   ·exact Int.dvd_trans (hd y hy) (Int.dvd_mul_left ..)
 obtain⟨M,M0,hM,hd⟩:=key (Qar) λx hx=>by
  obtain⟨i,ei⟩:=ψr hx
  rw[ψL] at ei
  exact⟨gb _ (zan ei.1),n0 _ (zan ei.2),G i _ _ ei.1 ei.2⟩
 have zl:(Qar).length≤6:=by rw[List.length_zip];omega
 have dv:D∣(W.den:Int)*M:=C.least _ (zhk _ λi b n e1 e2=>Int.dvd_trans (zzo (gb b (zan e1)) (n0 n (zan e2)) (G i b n e1 e2) W) (Int.mul_dvd_mul_left _ (hd (b,n) (ψS (List.getElem?_zip_eq_some.mpr ⟨e1,e2⟩)))))
 have pos:=ψB1 (zcY W) M0
 exact((bW.bot.mul hM).le (Nat.le_of_dvd (Qd) (Int.natAbs_dvd_natAbs.mpr dv))).mono (Qd)
structure PapW (bs:List Box) (ns Ws:List Int) (P:Rat):Prop where
 len:Ws.length=bs.length
 eq:∀(i:Nat) b n w,bs[i]?=some b→ns[i]?=some n→Ws[i]?=some w→(w:Rat)=wq b n*P
 p0:0<P
 wb:∀w∈Ws,Bd 2700 w
 pb:Bq 2700 P
theorem zwc{q:Rat}{D:Int}(h:(q.den:Int)∣D):((q.num*(D / q.den):Int):Rat)=q*(D:Rat):=by
 obtain⟨k,rfl⟩:=h
 have d0:=zcY q
 rw[Int.mul_ediv_cancel_left _ (Qd),ψm,ψm]
 have e:((q.den:Int):Rat)*q=(q.num:Rat):=by
  have h:=ψG q
  rw[ψs] at h
  have z:((q.den:Int):Rat)≠0:=λz=>by
   have:(q.den:Int)=0:=by exact_mod_cast z
   omega
  have h2:(q.num:Rat)=q*((q.den:Int):Rat):=by
   generalize (q.num:Rat)=a at h ⊢
   generalize ((q.den:Int):Rat)=b at h z ⊢
   grind
  rw[h2,Rat.mul_comm]
 grind
theorem papW{bs:List Box}{ns:List Int}{D g:Int}(gb:∀b∈bs,GB b)(n0:∀n∈ns,0≤n∧n≤60)(G:Gn bs ns)(len:ns.length=bs.length)(l1:1≤bs.length)(l6:bs.length≤6)(C:Com (Qas) D)(Gg:zpF ((Qas).map λq=>q.num*(D / q.den)) g) :
  PapW bs ns (((Qas).map λq=>q.num*(D / q.den)).map λn=>n.fdiv g) (ψD D g)∧0<g∧Bd 2661 g:=by
 have lw:(Qas).length=bs.length:=by rw[wqs,ψo];omega
 have bw:∀q∈wqs bs ns,Bq 380 q∧0<q:=zhk _ λi b n e1 e2=>⟨(zmP (gb b (zan e1)) (G i b n e1 e2)).mono (by have:=n0 n (zan e2);omega),zmy (gb b (zan e1)) (G i b n e1 e2)⟩
 have D0:=C.pos
 have bD:Bd 2281 D:=(C.bd λq hq=>(bw q hq).1).mono (Qd)
 have tp:∀q∈wqs bs ns,0<q.num*(D / q.den)∧Bd 2661 (q.num*(D / q.den)):=λq hq=>by
  obtain⟨b1,q0⟩:=bw q hq
  have hd:=C.all q hq
  have dp:=zcY q
  have h1:0<D / (q.den:Int):=Int.ediv_pos_of_pos_of_dvd D0 (ψx dp) hd
  have h2:0<q.num:=by
   have a:=Rat.num_nonneg.mpr (ψB q0)
   have b:q.num≠0:=zpi (by grind)
   omega
  have h3:=ψV1 (q.den:Int) (ψx D0)
  exact⟨ψB1 h2 h1,(b1.top.mul (bD.le (x:=D / (q.den:Int)) (Qd))).mono (Qm)⟩
 obtain⟨q0,hq0⟩:∃q,q∈wqs bs ns:=⟨(Qas)[0]'(by omega),ψA1 _⟩
 have hm0:q0.num*(D / q0.den)∈(Qas).map λq=>q.num*(D / q.den):=List.mem_map.mpr ⟨q0,hq0,rfl⟩
 obtain⟨t1,t2⟩:=tp q0 hq0
 have g0:=Gg.ne hm0 (Qd)
 have bg:Bd 2661 g:=t2.le (Gg.le hm0 (Qd))
 refine⟨⟨by rw[ψb,ψb,lw],λi b n w e1 e2 e3=>?_,?_,λw hw=>?_,zcJ (Qd) (bD.mono (Qm)) (bg.mono (Qm))⟩,g0,bg⟩
 ·obtain⟨x,ex,rfl⟩:=zaO e3
  obtain⟨q,eq,rfl⟩:=zaO ex
  have e:=zi5 e1 e2 eq
  have hd:=Gg.all _ (List.mem_map.mpr ⟨q,zan eq,rfl⟩)
  have f:=zdj hd
  have h:=zwc (C.all q (zan eq))
  rw[← f,ψm] at h
  have gr:(g:Rat)≠0:=λz=>by
   have:g=0:=by exact_mod_cast z
   omega
  rw[ψs,← e]
  generalize (((q.num*(D / (q.den:Int))).fdiv g:Int):Rat)=w at h ⊢
  grind
 ·rw[ψs,Rat.div_def]
  exact ψC1 (by exact_mod_cast D0) (Rat.inv_pos.mpr (by exact_mod_cast g0))
 ·obtain⟨x,hx,rfl⟩:=List.mem_map.mp hw
  obtain⟨q,hq,rfl⟩:=List.mem_map.mp hx
  have f:=zdj (Gg.all _ hx)
  exact((tp q hq).2.le (zgW f (Qd))).mono (Qm)
def zmQ:Sp:=λvs H Q _=>∃(l pl:Addr) (ts:List Addr) (bs:List Box) (ns:List Int),vs=[.ref l,.ref pl]∧BP H l pl ts bs ns∧Gn bs ns∧bs.length≤6∧∀(r wl pp cl:Addr) (Ws:List Int) (P:Rat) (H':Hp),zaP H H'→H' r=some (Qah)→H' wl=some (QbA)→H' pp=some (Qch)→H' cl=some (Qbd)→PapW bs ns Ws P→H wl=none→H cl=none→Q (QT) H'
def ziz(K:ψa):TS :=
 (zbf (zbq (zaG zlz [] E0 (zab (zaG zti [] E0 (Qy)) zas)) (zed K 2 (QaS)))
 (zbf (zbq (zaG zlS [] E0 (QaE)) (zaj 4))
 (zb2 (zf6 (zab (zcu (zdO K (zac 2)) (zaj 0) zbe (tOp (Qt) (zac 0) (zac 1)) [none,some 4]) (zab (zaG zmD [] E0 (zab (zac 3) (QaO))) (zab (Qs) zas)))))))
theorem zn6{l pl:Addr}{ts:List Addr}{bs:List Box}{ns:List Int}(B:BP H l pl ts bs ns)(G:Gn bs ns)(l6:bs.length≤6)(q:∀(r wl pp cl:Addr) (Ws:List Int) (P:Rat) (H':Hp),zaP H H'→H' r=some (Qah)→H' wl=some (QbA)→H' pp=some (Qch)→H' cl=some (Qbd)→PapW bs ns Ws P→H wl=none→H cl=none→Q (QT) H') :
  ziz K { nx:=λ_ H'=>Q .non H',rt:=Q } (L2.start ["boxes","counts","weights","bottom","shared"] [.ref l,.ref pl]) H:=by
 unfold ziz
 simp_all only [zac]
 refine⟨l,pl,ts,bs,ns,rfl,B,G,λfl us H1 s1 h1 T1=>?_⟩
 have lw:(Qas).length=bs.length:=by rw[wqs,ψo,B.len];omega
 refine⟨fl,us,_,rfl,h1,T1,by omega,zhk _ λi b n e1 e2=>(zyL (B.gb b (zan e1)) (B.gn n (zan e2)).2 (G i b n e1 e2)).mono (Qm),λcr tl D H2 s2 C h2 ntl htl=>?_⟩
 simp_all only [zac]
 refine⟨_,SqT.of h2,rfl,_,_,rfl,_,_,rfl,rfl,?_⟩
 refine⟨tl,_,rfl,htl,λg Gg=>?_⟩
 obtain⟨PW,g0,bg⟩:=papW B.gb B.gn G B.len B.l1 l6 C Gg
 simp_all only [zac]
 refine⟨⟨_,SqL.of htl⟩,λD1 hD1=>?_⟩
 refine zfD (vs:=(((Qas).map λq=>q.num*(D / q.den)).map λn=>n.fdiv g).map V.int) htl (Qa0) (by simp;omega) hD1 (λi x v H' R hx hv s k=>?_) λH3 s3 h3=>?_
 ·obtain⟨n,en,rfl⟩:=zaO hx
  obtain⟨y,ey,rfl⟩:=zaO hv
  obtain⟨n',en',rfl⟩:=zaO ey
  rw[en] at en'
  cases en'
  simp_all only [zac]
  exact⟨by omega,zhL 2661 (Qd) bg,k _ (Qau)⟩
 refine⟨_,_,rfl,by omega,bg.mono (Qm),λpp H4 s4 h4=>?_⟩
 have hp4:=s4 _ _ (s3 _ _ (s2 _ _ (s1 _ _ B.hp)))
 refine⟨_,.inl (SqL.of hp4),λcl ncl=>?_⟩
 have s5:=zat ncl (Qbd)
 have h5:(L2.upd H4 cl (Qbd)) cl=some (.lst (QJ)):=zam
 generalize L2.upd H4 cl (.lst (QJ))=H5 at s5 h5 ⊢
 refine⟨by decide,λr nr=>?_⟩
 have s6:=zat nr (.tup [V.ref D1,V.ref pp,V.ref cl])
 have h6:(L2.upd H5 r (.tup [V.ref D1,V.ref pp,V.ref cl])) r=some (.tup [V.ref D1,V.ref pp,V.ref cl]):=zam
 generalize L2.upd H5 r (.tup [V.ref D1,V.ref pp,V.ref cl])=H6 at s6 h6 ⊢
 exact q r D1 pp cl _ _ H6 (s1.trans (s2.trans (s3.trans (s4.trans (s5.trans s6))))) h6 (s6 _ _ (s5 _ _ (s4 _ _ h3))) (s6 _ _ (s5 _ _ h4)) (s6 _ _ h5) PW ((QbI).free hD1) ((s1.trans (s2.trans (s3.trans s4))).free ncl)
theorem zfN:zaJ ["boxes","counts","weights","bottom","shared"] (QbB) (zai zgR):=(Qa)
theorem znB(T:Txt K mg a):zcr P w K mg base CX0 5 a.faO a.daO (QbB) zmQ:=by
 have Gae:=zmA (P:=P) (w:=w) (base:=base) T
 have Gak:=zgj (P:=P) (w:=w) (base:=base) T
 have Gj:=zfG (P:=P) (w:=w) (base:=base) T
 have Gaf:=zfu (P:=P) (w:=w) (base:=base) T
 refine T.FaO.ok zfN (Qk) (Qe)
 all_goals obtain⟨l,pl,ts,bs,ns,rfl,B,G,l6,q⟩:=h
 ·rfl
 exact⟨ziz K,(zaf (zcG (zag Gae (Qc) rfl T.mae T.Fae.kp T.bae .nil zaH (zaa (zag Gak (Qc) rfl T.mak T.Fak.kp T.bak .nil zaH (QW)) zad)) (zbp rfl (zal (zak (i:=2) zfN.nd rfl (Qg)) (zal (zak (i:=3) zfN.nd rfl (Qg)) zaZ))))
 (zaf (zaN (i:=4) zfN.nd rfl (Qca) (zag Gaf (Qc) rfl T.maf T.Faf.kp T.baf .nil zaH (QaP)))
 (zah (zaE (zbI (zaa (zcc (sc:=zai zgR) (N:=["boxes","counts","weights","bottom","shared"]) (Nc:=["weight","shared"]) (cap:=[none,some 4]) rfl rfl rfl (Qr) (zb0 (pv 2)) (λ_ _ _ _=>(zak (i:=0) (show ψk (["weight","shared"]:List Str) from by decide) rfl (Qg))) (QH) (λ_ _ _ _=>(zao zc9 (pv 0) (pv 1)))) (zaa (zag Gj (Qc) rfl T.mj T.Fj.kp T.bj .nil zaH (zaa (pv 3) (Qa3))) (zaa (QaR) zad)))))))),
  zn6 B G l6 q⟩
abbrev Yb:=Box×Int×Rat
def yv(z:Yb):Rat:=(z.2.1:Rat)+z.2.2
def cy(z:Yb):Rat:=(z.1.1:Rat)*yv z
def cys(zs:List Yb):Rat:=(zs.map cy).sum
theorem zpg{b:Box}(g:GB b){n:Int}(n0:0≤n):chq b (n+1)=chq b n+gnq b n:=by
 rw[zgp g,zgp g,zgw g,show(n+1).toNat=n.toNat+1 by omega,ψl1]
 grind
theorem zkP{b:Box}(g:GB b)(n:Int):0≤gnq b n:=by
 obtain⟨p0,p1,_⟩:=zlE g
 rw[zgw g]
 exact ψs1 (zcA (ψB p0) p1 _).2.1 (ψB p0)
theorem zwf(W:Rat):∀(bs:List Box) (ns:List Int),(QaF)→Gn bs ns→ns.length=bs.length→cys (ψd (QbV) bs ns)=((QbE).sum:Rat)+((Qar).map λx=>wq x.1 x.2*(W - chq x.1 x.2)).sum
 | [],ns,_,_,_=>by
  simp only[cys,zaR,ψu1,List.zip_nil_left,ψo1,ψa1]
  rw[show((0:Int):Rat)=0 from rfl]
  grind
 | _::_,[],_,_,h=>by cases h
 | b::bs,n::ns,gb,G,len=>by
  have ih:=zwf W bs ns (QbY) (λi b' n' e1 e2=>G (i+1) b' n' e1 e2) (Nat.succ.inj len)
  have gn:=G 0 b n rfl rfl
  show cy (b,n,shq W b n)+cys (ψd (QbV) bs ns)=((b.1*n+(zaR bs ns).sum:Int):Rat)+(wq b n*(W - chq b n)+((Qar).map λx=>wq x.1 x.2*(W - chq x.1 x.2)).sum)
  rw[ih,ψT,ψm]
  have e:cy (b,n,shq W b n)=(b.1:Rat)*(n:Rat)+wq b n*(W - chq b n):=by
   show(b.1:Rat)*((n:Rat)+shq W b n)=_
   unfold shq wq
   grind
  rw[e]
  grind
def wds(R:Int):List Int→List Int
 | []=>[]
 | [x]=>[R - x]
 | x::y::ms=>(y - x)::wds R (y::ms)
theorem zte(R:Int):∀ms:List Int,ms≠[]→ψd (λa b=>b - a) ms (ms.drop 1++[R])=wds R ms
 | [],h=>absurd rfl h
 | [x],_=>rfl
 | x::y::ms,_=>by
  have ih:=zte R (y::ms) (Qa0)
  show(y - x)::ψd (λa b=>b - a) (y::ms) (ms++[R])=(y - x)::wds R (y::ms)
  rw[← ih]
  rfl
theorem zfy(R:Int):∀ms:List Int,(QaT).length=ms.length
 | []=>rfl
 | [x]=>rfl
 | x::y::ms=>by
  show(wds R (y::ms)).length+1=_
  rw[zfy R (y::ms)]
  rfl
theorem zow{R:Int}:∀ms:List Int,ms.Pairwise (·<·)→(∀x∈ms,x<R)→∀w∈wds R ms,0<w
 | [],_,_,w,h=>by cases h
 | [x],_,hR,w,h=>by
  rw[List.mem_singleton.mp h]
  have:=hR x ψg
  omega
 | x::y::ms,hp,hR,w,h=>by
  obtain⟨h1,h2⟩:=List.pairwise_cons.mp hp
  rcases List.mem_cons.mp h with rfl | h
  ·have:=h1 y ψg
   omega
  ·exact zow (y::ms) h2 (λz hz=>hR z (ψe _ hz)) w h
theorem zmG{R:Int}:∀(h:Int) (ms:List Int),(h::ms).Pairwise (·<·)→(∀x∈h::ms,x<R)→∀b,(b∈h::ms∨b=R)→(ψd (Qb1) (h::ms) (wds R (h::ms))).sum=b - h
 | h,[],_,hR,b,hb=>by
  have l:=hR h ψg
  show(if h<b then R - h else 0)+0=b - h
  rcases hb with hb | rfl
  ·rw[List.mem_singleton.mp hb,if_neg (Qd)]
   omega
  ·rw[if_pos l]
   omega
 | h,y::ms,hp,hR,b,hb=>by
  obtain⟨h1,h2⟩:=List.pairwise_cons.mp hp
  have ih:=zmG y ms h2 (λz hz=>hR z (ψe _ hz)) 
  show(if h<b then y - h else 0)+(ψd (Qb1) (y::ms) (wds R (y::ms))).sum=b - h
  have hl:=hR h ψg
  have ge:∀z∈y::ms,h<z:=h1
  by_cases c:b=h
  ·subst c
   have z:∀(es ws:List Int),(∀e∈es,b<e)→(ψd (Qb1) es ws).sum=0:=by
    intro es
    induction es with
    | nil=>intro ws _;rfl
    | cons e es ihe =>
     intro ws he
     cases ws with
     | nil=>rfl
     | cons w ws =>
      rw[ψF,ψq,ihe ws λz hz=>he z (ψe _ hz),if_neg (by have:=he e ψg;omega)]
      rfl
   rw[if_neg (Qd),z _ _ ge]
   omega
  ·have hb2:b∈y::ms∨b=R:=by
    rcases hb with hb | hb
    ·rcases List.mem_cons.mp hb with hb | hb
     ·exact absurd hb c
     ·exact .inl hb
    ·exact .inr hb
   have lt:h<b:=by
    rcases hb2 with hb | hb
    ·exact ge b hb
    ·omega
   rw[if_pos lt,ih b hb2]
   omega
theorem zjb(f g:Int→Int→Int):∀(es ws:List Int),(ψd (λe w=>f e w+g e w) es ws).sum=(ψd f es ws).sum+(ψd g es ws).sum
 | [],_=>by simp
 | _::_,[]=>by simp
 | e::es,w::ws=>by
  simp only[ψF,ψq]
  rw[zjb f g es ws]
  omega
theorem zkT(f g:Int→Int→Int):∀(es ws:List Int),(ψd (λe w=>f e w - g e w) es ws).sum=(ψd f es ws).sum - (ψd g es ws).sum
 | [],_=>by simp
 | _::_,[]=>by simp
 | e::es,w::ws=>by
  simp only[ψF,ψq]
  rw[zkT f g es ws]
  omega
theorem zcV{f g:Int→Int→Int}:∀(es ws:List Int),(∀e∈es,∀w,f e w=g e w)→(ψd f es ws).sum=(ψd g es ws).sum
 | [],_,_=>by simp
 | _::_,[],_=>by simp
 | e::es,w::ws,h=>by
  simp only[ψF,ψq]
  rw[h e ψg w,zcV es ws λx hx=>h x (Qbb)]
theorem zi7:∀(es ws:List Int),ws.length=es.length→(ψd (λ_ w=>w) es ws).sum=ws.sum
 | [],[],_=>rfl
 | [],_::_,h=>by cases h
 | _::_,[],h=>by cases h
 | e::es,w::ws,h=>by
  rw[ψF,ψq,ψq,zi7 es ws (Nat.succ.inj h)]
structure Edg (R:Int) (ms:List Int):Prop where
 ne:ms≠[]
 srt:ms.Pairwise (·<·)
 lo:∀x∈ms,0≤x
 hi:∀x∈ms,x<R
 zero:(0:Int)∈ms
theorem Edg.ahead{R:Int}{ms:List Int}(h:Edg R ms){b:Int}(hb:b∈ms∨b=R):(ψd (Qb1) ms (QaT)).sum=b:=by
 cases ms with
 | nil=>exact absurd rfl h.ne
 | cons x ms =>
  have x0:x=0:=by
   have l:=h.lo x ψg
   rcases List.mem_cons.mp h.zero with z | z
   ·exact z.symm
   ·have:=(List.pairwise_cons.mp h.srt).1 0 z
    omega
  have:=zmG x ms h.srt h.hi b hb
  rw[this,x0]
  omega
theorem Edg.whole{R:Int}{ms:List Int}(h:Edg R ms):(QaT).sum=R:=by
 have a:=h.ahead (b:=R) (.inr rfl)
 rw[← zi7 ms (QaT) (zfy R ms),← zcV (f:=λe w=>if e<R then w else 0) ms (QaT) λe he w=>if_pos (h.hi e he)]
 exact a
theorem zfj{x R k:Int}(h0:0≤x - R*k)(h1:x - R*k<R):x.fmod R=x - R*k:=by
 have R0:0<R:=by omega
 have e:=ψp1 x R
 have f0:=ψw1 x R0
 have f1:=ψJ1 x R0
 have:R*(x.fdiv R - k)=(x - R*k) - x.fmod R:=by
  rw[ψP1]
  omega
 have d:x.fdiv R - k=0:=by
  refine ψU λz=>?_
  rcases Int.lt_or_gt_of_ne z with c | c
  ·have:=Int.mul_le_mul_of_nonneg_left (show x.fdiv R - k≤-1 by omega) (ψx R0)
   omega
  ·have:=Int.mul_le_mul_of_nonneg_left (show 1≤x.fdiv R - k by omega) (ψx R0)
   omega
 rw[d,Int.mul_zero] at this
 omega
def cov(R s L e:Int):Bool:=decide ((e - s).fmod R<L)
theorem Edg.arc{R:Int}{ms:List Int}(h:Edg R ms){s L:Int}(hs:s∈ms)(L0:0≤L)(L1:L≤R)(he:(s+L).fmod R∈ms):(ψd (Qb0) ms (QaT)).sum=L:=by
 have s0:=h.lo s hs
 have s1:=h.hi s hs
 have as:=h.ahead (.inl hs)
 by_cases c:s+L≤R
 ·have hb:s+L∈ms∨s+L=R:=by
   by_cases c2:s+L=R
   ·exact .inr c2
   ·rw[zfj (k:=0) (Qd) (Qd)] at he
    rw[Int.mul_zero,Int.sub_zero] at he
    exact .inl he
  have ab:=h.ahead hb
  rw[zcV (g:=λe w=>(if e<s+L then w else 0) - (if e<s then w else 0)) ms (QaT) λe hm w=>?_,zkT,ab,as]
  ·omega
  have e0:=h.lo e hm
  have e1:=h.hi e hm
  unfold cov
  by_cases c3:e<s
  ·rw[zfj (k:=-1) (by rw[ψQ1];omega) (by rw[ψQ1];omega),if_neg (by rw[ψQ1];simp;omega),if_pos (Qd),if_pos c3]
   omega
  ·rw[zfj (k:=0) (Qd) (Qd),if_neg c3]
   by_cases c4:e<s+L
   ·rw[if_pos (by simp;omega),if_pos c4]
    omega
   ·rw[if_neg (by simp;omega),if_neg c4]
    rfl
 ·rw[zfj (k:=1) (Qd) (Qd),Int.mul_one] at he
  have ab:=h.ahead (.inl he)
  have w:=h.whole
  rw[zcV (g:=λe w=>(w - (if e<s then w else 0))+(if e<s+L - R then w else 0)) ms (QaT) λe hm w=>?_,zjb,zkT,ab,as,zi7 ms (QaT) (zfy R ms),w]
  ·omega
  have e0:=h.lo e hm
  have e1:=h.hi e hm
  unfold cov
  by_cases c3:e<s
  ·rw[zfj (k:=-1) (by rw[ψQ1];omega) (by rw[ψQ1];omega),if_pos c3]
   by_cases c4:e<s+L - R
   ·rw[if_pos (by rw[ψQ1];simp;omega),if_pos c4]
    omega
   ·rw[if_neg (by rw[ψQ1];simp;omega),if_neg c4]
    omega
  ·have c4:¬ e<s+L - R:=by omega
   rw[zfj (k:=0) (Qd) (Qd),if_neg c3,if_neg c4,if_pos (by simp;omega)]
   omega
def zkx:Int→List Int→List Int
 | A,[]=>[A]
 | A,L::ls=>A::zkx (A+L) ls
theorem zzO{R A L e:Int}(R0:0<R)(L0:0≤L)(L1:L≤R):(if cov R (A.fmod R) L e=true then (1:Int) else 0)=(e - A).fdiv R - (e - (A+L)).fdiv R:=by
 have ea:=ψp1 (e - A) R
 have f0:=ψw1 (e - A) R0
 have f1:=ψJ1 (e - A) R0
 have eA:=ψp1 A R
 have es:(e - A.fmod R).fmod R=(e - A).fmod R:=by
  rw[zfj (x:=e - A.fmod R) (k:=(e - A).fdiv R+A.fdiv R) (by rw[Int.mul_add];omega) (by rw[Int.mul_add];omega),Int.mul_add]
  omega
 have key:∀k:Int,0≤(e - (A+L)) - R*k→(e - (A+L)) - R*k<R→(e - (A+L)).fdiv R=k:=λk h0 h1=>by
  have m:=zfj h0 h1
  have ex:=ψp1 (e - (A+L)) R
  have:R*((e - (A+L)).fdiv R - k)=0:=by
   rw[ψP1]
   omega
  rcases Int.mul_eq_zero.mp this with z | z <;> omega
 unfold cov
 rw[es]
 by_cases c:(e - A).fmod R<L
 ·rw[if_pos (decide_eq_true c),key ((e - A).fdiv R - 1) (by rw[ψP1];omega) (by rw[ψP1];omega)]
  omega
 ·rw[if_neg (Qce),key ((e - A).fdiv R) (Qd) (Qd)]
  omega
theorem zms{R e:Int}(R0:0<R):∀(ls:List Int) (A:Int),(∀L∈ls,0≤L∧L≤R)→(ψd (λa L=>if cov R (a.fmod R) L e=true then (1:Int) else 0) (zkx A ls) ls).sum=(e - A).fdiv R - (e - (A+ls.sum)).fdiv R
 | [],A,_=>by
  show(0:Int)=_
  rw[ψa1,Int.add_zero]
  omega
 | L::ls,A,h=>by
  have ih:=zms (e:=e) R0 ls (A+L) λx hx=>h x (Qbb)
  obtain⟨h0,h1⟩:=h L ψg
  show(if cov R (A.fmod R) L e=true then (1:Int) else 0)+(ψd (λa L=>if cov R (a.fmod R) L e=true then (1:Int) else 0) (zkx (A+L) ls) ls).sum=_
  rw[ih,zzO R0 h0 h1,ψq,Int.add_assoc]
  omega
def pln(R:Int)(ns ss ls:List Int)(e:Int):List Int:=ψd (λn (c:Bool)=>if c=true then n+1 else n) ns (ψd (λs L=>cov R s L e) ss ls)
theorem zoL(R n s L e:Int)(ns ss ls:List Int):pln R (n::ns) (s::ss) (L::ls) e=(if cov R s L e=true then n+1 else n)::pln R ns ss ls e:=rfl
theorem zrD{R e:Int}{ns ss ls:List Int}(h1:ls.length=ns.length)(h2:ls.length≤ss.length):(QaG).length=ns.length:=by
 unfold pln
 rw[ψo,ψo]
 omega
theorem zvQ{R e:Int}{ns ss ls:List Int}{k:Nat}{n s L:Int}(h1:ns[k]?=some n)(h2:ss[k]?=some s)(h3:ls[k]?=some L):(QaG)[k]?=some (if cov R s L e=true then n+1 else n):=by
 unfold pln
 rw[ψY,ψY,h1,h2,h3]
structure zvK (bs:List Box) (bud:Int) (W:Rat) (xs:List (List Int×Int)):Prop where
 l1:1≤xs.length
 ln:xs.length≤bs.length+1
 pl:∀x∈xs,x.1.length=bs.length∧∀m∈x.1,0≤m∧m≤60
 w0:∀x∈xs,1≤x.2
 wb:∀x∈xs,Bd 1800 x.2
 ch:∀(k:Nat) b,bs[k]?=some b→(xs.map λx=>(x.2:Rat)*chq b (x.1.getD k 0)).sum=W*(((QK).sum:Int):Rat)
 co:(xs.map λx=>x.2*(zaR bs x.1).sum).sum=bud*(xs.map λx=>x.2).sum
 one:(∀b∈bs,b.1=1)→∀x∈xs,x.1.sum≤bud
theorem zjd(f:Int→Int):∀(es ws:List Int) (g:Int),(∀w∈ws,g∣w)→(ψd (λe w=>w.fdiv g*f e) es ws).sum*g=(ψd (λe w=>w*f e) es ws).sum
 | [],_,_,_=>by simp
 | _::_,[],_,_=>by simp
 | e::es,w::ws,g,h=>by
  have ih:=zjd f es ws g λx hx=>h x (Qbb)
  have d:=zdj (h w ψg)
  simp only[ψF,ψq]
  rw[Int.add_mul,ih,Int.mul_right_comm,d]
def ziA(R:Int)(ns ss ls ms ws:List Int):List (List Int×Int):=ψd (λe w=>(pln R ns ss ls e,w)) ms ws
theorem zk9{α:Type}(f:List Int×Int→α)(R:Int)(ns ss ls ms ws:List Int):(ziA R ns ss ls ms ws).map f=ψd (λe w=>f (pln R ns ss ls e,w)) ms ws:=by
 unfold ziA
 rw[List.map_zipWith]
theorem zlO(h:Int→Int→Int)(g:Int):∀(es ws:List Int),ψd h es (ws.map λw=>w.fdiv g)=ψd (λe w=>h e (w.fdiv g)) es ws
 | [],_=>by simp
 | _::_,[]=>by simp
 | e::es,w::ws=>by
  rw[ψu,ψF,ψF,zlO h g es ws]
def cnl(R:Int):List Box→List Int→List Int→Int
 | b::bs,n::ns,L::ls=>b.1*(n*R+L)+cnl R bs ns ls
 | _,_,_=>0
theorem zmI{R:Int}{ms ws:List Int}(wR:(ψd (λ_ w=>w) ms ws).sum=R):∀(bs:List Box) (ns ss ls:List Int),ns.length=bs.length→ls.length=bs.length→bs.length≤ss.length→(∀(i:Nat) s L,ss[i]?=some s→ls[i]?=some L→(ψd (Qb0) ms ws).sum=L) →
  (ψd (λe w=>w*(zaR bs (QaG)).sum) ms ws).sum=cnl R bs ns ls
 | [],ns,ss,ls,_,_,_,_=>by
  rw[zcV (g:=λ_ _=>0) ms ws λe _ w=>by simp[zaR]]
  show _=(0:Int)
  have:∀es us:List Int,(ψd (λ_ _=>(0:Int)) es us).sum=0:=by
   intro es
   induction es with
   | nil=>intro us;rfl
   | cons e es ih =>
    intro us
    cases us with
    | nil=>rfl
    | cons u us =>
     rw[ψF,ψq,ih us]
     rfl
  exact this ms ws
 | _::_,[],_,_,h,_,_,_=>by cases h
 | _::_,_::_,_,[],_,h,_,_=>by cases h
 | _::_,_::_,[],_::_,_,_,h,_=>by cases h
 | b::bs,n::ns,s::ss,L::ls,h1,h2,h3,h=>by
  have ih:=zmI wR bs ns ss ls (Nat.succ.inj h1) (Nat.succ.inj h2) (Nat.le_of_succ_le_succ h3) λi s' L' e1 e2=>h (i+1) s' L' e1 e2
  have a:=h 0 s L rfl rfl
  have sc:∀(c:Int) (f:Int→Int→Int) (es us:List Int),(ψd (λe w=>c*f e w) es us).sum=c*(ψd f es us).sum:=by
   intro c f es
   induction es with
   | nil=>intro us;simp
   | cons e es ihe =>
    intro us
    cases us with
    | nil=>simp
    | cons u us =>
     simp only[ψF,ψq]
     rw[ihe us,Int.mul_add]
  rw[zcV (g:=λe w=>(b.1*(n*w+(if cov R s L e=true then w else 0)))+w*(zaR bs (QaG)).sum) ms ws λe _ w=>?_,zjb,ih,sc b.1 (λe w=>n*w+(if cov R s L e=true then w else 0)),zjb,a,sc n (λ_ w=>w),wR]
  ·rfl
  rw[zoL]
  show w*(b.1*(if cov R s L e=true then n+1 else n)+(zaR bs (QaG)).sum)=_
  by_cases c:cov R s L e=true
  ·rw[if_pos c,if_pos c]
   grind
  ·rw[if_neg c,if_neg c]
   grind
theorem zry{R e:Int}:∀(ns ss ls:List Int),ls.length=ns.length→ns.length≤ss.length→(QaG).sum=ns.sum+(ψd (λs L=>if cov R s L e=true then (1:Int) else 0) ss ls).sum
 | [],ss,ls,h,_=>by
  have:ls=[]:=List.length_eq_zero_iff.mp h
  subst this
  simp[pln]
 | _::_,_,[],h,_=>by cases h
 | _::_,[],_::_,_,h=>by cases h
 | n::ns,s::ss,L::ls,h1,h2=>by
  rw[zoL,ψq,zry ns ss ls (Nat.succ.inj h1) (Nat.le_of_succ_le_succ h2),ψF,ψq,ψq]
  split <;> omega
theorem zqH{R:Int}:∀(bs:List Box) (ns ls:List Int),(∀b∈bs,b.1=1)→ns.length=bs.length→ls.length=bs.length→cnl R bs ns ls=ns.sum*R+ls.sum
 | [],[],[],_,_,_=>by simp[cnl]
 | [],_::_,_,_,h,_=>by cases h
 | [],[],_::_,_,_,h=>by cases h
 | _::_,[],_,_,h,_=>by cases h
 | _::_,_::_,[],_,_,h=>by cases h
 | b::bs,n::ns,L::ls,hb,h1,h2=>by
  show b.1*(n*R+L)+cnl R bs ns ls=_
  rw[zqH bs ns ls (λx hx=>hb x (Qbb)) (Nat.succ.inj h1) (Nat.succ.inj h2),hb b ψg,ψq,ψq,Int.one_mul,Int.add_mul]
  omega
theorem zqr{R:Int}{W:Rat}:∀(bs:List Box) (ns:List Int) (ls:List Int),ns.length=bs.length→ls.length=bs.length→(∀(i:Nat) b n L,bs[i]?=some b→ns[i]?=some n→ls[i]?=some L→(L:Rat)=shq W b n*(R:Rat))→(cnl R bs ns ls:Rat)=cys (ψd (QbV) bs ns)*(R:Rat)
 | [],_,_,_,_,_=>by
  show((0:Int):Rat)=0*(R:Rat)
  rw[show((0:Int):Rat)=0 from rfl]
  grind
 | _::_,[],_,h,_,_=>by cases h
 | _::_,_::_,[],_,h,_=>by cases h
 | b::bs,n::ns,L::ls,h1,h2,h=>by
  have ih:=zqr (R:=R) (W:=W) bs ns ls (Nat.succ.inj h1) (Nat.succ.inj h2) λi b' n' L' e1 e2 e3=>h (i+1) b' n' L' e1 e2 e3
  have h0:=h 0 b n L rfl rfl rfl
  show((b.1*(n*R+L)+cnl R bs ns ls:Int):Rat)=((b.1:Rat)*((n:Rat)+shq W b n)+cys (ψd (QbV) bs ns))*(R:Rat)
  rw[ψT,ψm,ψT,ψm,ih,h0]
  grind
theorem zyO(A B:Rat)(f:Int→Int→Int)(g:Int→Int→Int):∀(es ws:List Int),(ψd (λe w=>A*(f e w:Rat)+B*(g e w:Rat)) es ws).sum=A*(((ψd f es ws).sum:Int):Rat)+B*(((ψd g es ws).sum:Int):Rat)
 | [],_=>by
  simp only[ψo1,ψa1]
  rw[show((0:Int):Rat)=0 from rfl]
  grind
 | _::_,[]=>by
  simp only[List.zipWith_nil_right,ψa1]
  rw[show((0:Int):Rat)=0 from rfl]
  grind
 | e::es,w::ws=>by
  simp only[ψF,ψq]
  rw[zyO A B f g es ws,ψT,ψT]
  grind
theorem zmU:∀(ls:List Int) (A:Int) (i:Nat) (a L:Int),(zkx A ls)[i]?=some a→ls[i]?=some L→(zkx A ls)[i+1]?=some (a+L)
 | [],_,_,_,_,_,h=>by cases h
 | L::ls,A,0,a,L',h1,h2=>by
  cases h2
  replace h1:some A=some a:=h1
  cases h1
  cases ls <;> rfl
 | L::ls,A,i+1,a,L',h1,h2=>zmU ls (A+L) i a L' h1 h2
theorem zi9:∀(ls:List Int) (A:Int),(zkx A ls).length=ls.length+1
 | [],_=>rfl
 | L::ls,A=>by
  show(zkx (A+L) ls).length+1=_
  rw[zi9 ls (A+L)]
  rfl
theorem zqW{x R k:Int}(h0:0≤x - R*k)(h1:x - R*k<R):x.fdiv R=k:=by
 have m:=zfj h0 h1
 have ex:=ψp1 x R
 have:R*(x.fdiv R - k)=0:=by
  rw[ψP1]
  omega
 rcases Int.mul_eq_zero.mp this with z | z <;> omega
theorem zlW{x L R:Int}(R0:0<R):(x.fmod R+L).fmod R=(x+L).fmod R:=by
 have e:=ψp1 x R
 have e2:=ψp1 (x+L) R
 have f0:=ψw1 (x+L) R0
 have f1:=ψJ1 (x+L) R0
 rw[zfj (x:=x.fmod R+L) (k:=(x+L).fdiv R - x.fdiv R) (by rw[ψP1];omega) (by rw[ψP1];omega),ψP1]
 omega
theorem zqt{w:Int}:∀l:List Int,(∀z∈l,0<z)→(0≤l.sum∧(w∈l→w≤l.sum))
 | [],_=>⟨Int.le_refl 0,λh=>by cases h⟩
 | z::l,hp=>by
  obtain⟨h1,h2⟩:=zqt (w:=w) l λy hy=>hp y (ψe _ hy)
  have:=hp z ψg
  rw[ψq]
  refine⟨by omega,λhm=>?_⟩
  rcases List.mem_cons.mp hm with rfl | hm
  ·omega
  ·have:=h2 hm
   omega
theorem zzd{bs:List Box}{ns ls ms:List Int}{bud R g:Int}{W:Rat}(gb:∀b∈bs,GB b)(n0:∀n∈ns,0≤n)(n59:∀n∈ns,n≤59)(G:Gn bs ns)(len:ns.length=bs.length)(lls:ls.length=bs.length)(hL:∀(i:Nat) b n L,bs[i]?=some b→ns[i]?=some n→ls[i]?=some L→(L:Rat)=shq W b n*(R:Rat)∧0≤L∧L≤R)
  (cs:cys (ψd (QbV) bs ns)=(bud:Rat)) (R0:0<R) (bR:Bd 1800 R) (E:Edg R ms) (lm:ms.length≤bs.length+1) (st:∀a∈zkx 0 ls,a.fmod R∈ms) (Gg:zpF (QaT) g) :
  zvK bs bud W (ziA R ns ((zkx 0 ls).map λa=>a.fmod R) ls ms ((QaT).map λw=>w.fdiv g)):=by
 have wl:=zfy R ms
 have wp:=zow ms E.srt E.hi
 have wR:(ψd (λ_ w=>w) ms (QaT)).sum=R:=by rw[zi7 ms _ wl];exact E.whole
 have mp:0<ms.length:=List.length_pos_iff.mpr E.ne
 obtain⟨w1,hw1⟩:∃w,w∈wds R ms:=⟨(QaT)[0]'(by omega),ψA1 _⟩
 have w1p:=wp w1 hw1
 have g0:=Gg.ne hw1 (Qd)
 have al:=zi9 ls 0
 have sl:((zkx 0 ls).map λa=>a.fmod R).length=bs.length+1:=by rw[ψb,al,lls]
 have arc:∀(i:Nat) s L,((zkx 0 ls).map λa=>a.fmod R)[i]?=some s→ls[i]?=some L→(ψd (Qb0) ms (QaT)).sum=L:=λi s L e1 e2=>by
  obtain⟨a,ea,rfl⟩:=zaO e1
  have li:=(List.getElem?_eq_some_iff.mp e2).1
  have eb:bs[i]?=some (bs[i]'(by omega)):=ψc _
  have en:ns[i]?=some (ns[i]'(by omega)):=ψc _
  obtain⟨_,L0,L1⟩:=hL i _ _ L eb en e2
  refine E.arc (st a (zan ea)) L0 L1 ?_
  rw[zlW R0]
  exact st _ (zan (zmU ls 0 i a L ea e2))
 generalize hss:((zkx 0 ls).map λa=>a.fmod R)=ss at sl arc ⊢
 have gR:(g:Rat)≠0:=λz=>by
  have:g=0:=by exact_mod_cast z
  omega
 have dv:=Gg.all
 have T:((Qak).map λx=>x.2).sum*g=R:=by
  rw[zk9,zlO (λ_ w=>w),zcV (g:=λe w=>w.fdiv g*(λ_=>(1:Int)) e) ms (QaT) λe _ w=>(Int.mul_one _).symm,zjd (λ_=>(1:Int)) ms _ g dv,zcV (g:=λ_ w=>w) ms (QaT) λe _ w=>Int.mul_one _]
  exact wR
 generalize hT:((Qak).map λx=>x.2).sum=TT at T ⊢
 have mem:∀x∈ziA R ns ss ls ms ((QaT).map λw=>w.fdiv g),∃e∈ms,∃w∈wds R ms,x=(pln R ns ss ls e,w.fdiv g):=zhk (λx=>∃e∈ms,∃w∈wds R ms,x=(pln R ns ss ls e,w.fdiv g)) λi e w e1 e2=>by
  obtain⟨w',ew,rfl⟩:=zaO e2
  exact⟨e,zan e1,w',zan ew,rfl⟩
 have cn:cnl R bs ns ls=bud*R:=by
  have h:=zqr (R:=R) (W:=W) bs ns ls len lls λi b n L e1 e2 e3=>(hL i b n L e1 e2 e3).1
  rw[cs,← ψm] at h
  exact_mod_cast h
 have lx:(Qak).length=ms.length:=by
  unfold ziA
  rw[ψo,ψb,wl]
  omega
 refine⟨by omega,by omega,λx hx=>?_,λx hx=>?_,λx hx=>?_,λk b hk=>?_,?_,λh1 x hx=>?_⟩
 ·obtain⟨e,he,w,hw,rfl⟩:=mem x hx
  refine⟨by rw[zrD (Qd) (Qd),len],λm hm=>?_⟩
  obtain⟨i,ei⟩:=ψr hm
  have li:=(Qbg).1
  rw[zrD (Qd) (Qd)] at li
  have en:ns[i]?=some (ns[i]'li):=ψc _
  have es:ss[i]?=some (ss[i]'(by omega)):=ψc _
  have el:ls[i]?=some (ls[i]'(by omega)):=ψc _
  rw[zvQ en es el] at ei
  have:=n0 _ (zan en)
  have:=n59 _ (zan en)
  rw[← Option.some.inj ei]
  split <;> omega
 ·obtain⟨e,he,w,hw,rfl⟩:=mem x hx
  have f:=zdj (dv w hw)
  have p:=wp w hw
  show 1≤w.fdiv g
  refine ψU λc=>?_
  have:=Int.mul_le_mul_of_nonneg_right (show w.fdiv g≤0 by omega) (ψx g0)
  omega
 ·obtain⟨e,he,w,hw,rfl⟩:=mem x hx
  have f:=zdj (dv w hw)
  have le:w≤R:=by
   rw[← E.whole]
   exact(zqt _ wp).2 hw
  have p:=wp w hw
  exact(bR.le (Qd)).le (zgW f (Qd))
 ·have lk:=(QcD).1
  have en:ns[k]?=some (ns[k]'(by omega)):=ψc _
  have es:ss[k]?=some (ss[k]'(by omega)):=ψc _
  have el:ls[k]?=some (ls[k]'(by omega)):=ψc _
  have pa:∀e,(QaG)[k]?=_:=λe=>zvQ (e:=e) (R:=R) en es el
  have A:=arc k _ _ es el
  obtain⟨q,_,_⟩:=hL k b _ _ hk en el
  have nk:=n0 _ (zan en)
  have gk:=G k b _ hk en
  have gbk:=gb b (zan hk)
  generalize ns[k]'(by omega)=n at en pa q nk gk
  generalize ss[k]'(by omega)=s at es pa A
  generalize ls[k]'(by omega)=L at el pa A q
  have U:(ψd (Qa2) ms (QaT)).sum*g=L:=by
   rw[zjd (λe=>if cov R s L e=true then (1:Int) else 0) ms _ g dv,zcV (g:=λe w=>if cov R s L e=true then w else 0) ms (QaT) λe _ w=>?_]
   ·exact A
   ·by_cases c:cov R s L e=true
    ·simp only[if_pos c,Int.mul_one]
    ·simp only[if_neg c,Int.mul_zero]
  have T2:(ψd (λe w=>w.fdiv g) ms (QaT)).sum=TT:=by
   rw[← hT,zk9,zlO (λ_ w=>w)]
  rw[zk9]
  have e1:ψd (λe w=>((w:Int):Rat)*chq b ((QaG).getD k 0)) ms ((QaT).map λw=>w.fdiv g)=ψd (λe w=>chq b n*(((w.fdiv g):Int):Rat)+gnq b n*((w.fdiv g*(λe=>if cov R s L e=true then (1:Int) else 0) e:Int):Rat)) ms (wds R ms):=by
   rw[List.zipWith_map_right]
   congr 1
   funext e w
   rw[ψy,pa e]
   show(((w.fdiv g):Int):Rat)*chq b (if cov R s L e=true then n+1 else n)=_
   rw[ψm]
   by_cases c:cov R s L e=true
   ·simp only[if_pos c]
    rw[zpg gbk nk,show((1:Int):Rat)=1 from rfl]
    grind
   ·simp only[if_neg c]
    rw[show((0:Int):Rat)=0 from rfl]
    grind
  show(ψd (λe w=>((w:Int):Rat)*chq b ((QaG).getD k 0)) ms ((QaT).map λw=>w.fdiv g)).sum=_
  rw[hT,e1,zyO (chq b n) (gnq b n) (λ_ w=>w.fdiv g) (Qa2),T2]
  generalize (ψd (Qa2) ms (QaT)).sum=UU at U ⊢
  have TR:(TT:Rat)*(g:Rat)=(R:Rat):=by rw[← ψm,T]
  have UR:(UU:Rat)*(g:Rat)=(L:Rat):=by rw[← ψm,U]
  have sq:shq W b n*gnq b n=W - chq b n:=by
   unfold shq
   generalize gnq b n=x at gk ⊢
   grind
  have h:(chq b n*(TT:Rat)+gnq b n*(UU:Rat))*(g:Rat)=W*(TT:Rat)*(g:Rat):=by
   have a1:(chq b n*(TT:Rat)+gnq b n*(UU:Rat))*(g:Rat)=chq b n*((TT:Rat)*(g:Rat))+gnq b n*((UU:Rat)*(g:Rat)):=by grind
   have a2:W*(TT:Rat)*(g:Rat)=W*((TT:Rat)*(g:Rat)):=by grind
   rw[a1,a2,TR,UR,q]
   have a3:gnq b n*(shq W b n*(R:Rat))=(shq W b n*gnq b n)*(R:Rat):=by grind
   rw[a3,sq]
   grind
  have h2:(chq b n*(TT:Rat)+gnq b n*(UU:Rat) - W*(TT:Rat))*(g:Rat)=0:=by
   generalize chq b n*(TT:Rat)+gnq b n*(UU:Rat)=X at h ⊢
   generalize W*(TT:Rat)=Y at h ⊢
   grind
  rcases Rat.mul_eq_zero.mp h2 with z | z
  ·generalize chq b n*(TT:Rat)+gnq b n*(UU:Rat)=X at z ⊢
   generalize W*(TT:Rat)=Y at z ⊢
   grind
  ·exact absurd z gR
 ·have C:=zmI wR bs ns ss ls len lls (Qd) arc
  have D:((Qak).map λx=>x.2*(zaR bs x.1).sum).sum*g=bud*R:=by
   rw[zk9,zlO (λe w=>w*(zaR bs (QaG)).sum),zjd (λe=>(zaR bs (QaG)).sum) ms _ g dv,C,cn]
  have:(((Qak).map λx=>x.2*(zaR bs x.1).sum).sum - bud*TT)*g=0:=by
   rw[Int.sub_mul,D,Int.mul_assoc,T]
   omega
  rcases Int.mul_eq_zero.mp this with z | z <;> omega
 ·obtain⟨e,he,w,hw,rfl⟩:=mem x hx
  show(QaG).sum≤bud
  have e0:=E.lo e he
  have e1:=E.hi e he
  have o:=zqH (R:=R) bs ns ls h1 len lls
  rw[cn] at o
  have sL:ls.sum=R*(bud - ns.sum):=by
   rw[ψP1,Int.mul_comm R bud,Int.mul_comm R ns.sum]
   omega
  have cc:=zms (e:=e) R0 ls 0 λL hm=>by
   obtain⟨i,ei⟩:=ψr hm
   have li:=(Qbg).1
   exact(hL i _ _ L (ψc (Qd)) (ψc (Qd)) ei).2
  rw[zry ns ss ls (Qd) (Qd),← hss,List.zipWith_map_left,cc,Int.sub_zero,Int.zero_add,sL,zqW (x:=e) (k:=0) (Qd) (Qd),zqW (x:=e - R*(bud - ns.sum)) (k:=-(bud - ns.sum)) (by rw[ψQ1];omega) (by rw[ψQ1];omega)]
  omega
open HT in
theorem cut1(xs:List V):ziW xs (some 1) none=xs.drop 1:=by
 unfold ziW
 rw[zjg,show(some (1:Int))=some ((1:Nat):Int) from rfl,sIx_nat]
 cases xs with
 | nil=>rfl
 | cons x xs =>
  rw[ψN,show min 1 (xs.length+1)=1 by omega]
  exact ψK (by rw[ψR1,ψN];omega)
abbrev Mp:=Addr×List Int×Int
abbrev mt1(x:Mp):V:=.ref x.1
abbrev mt2(x:Mp):V:=.int x.2.2
theorem Tps.single{α:Type}{f:α→List V}{H:Hp}{t:Addr}{b:α}(h:H t=some (.tup (f b))):Tps f H [t] [b] :=
 ⟨rfl,λi t' b' e1 e2=>by
  match i with
  | 0 =>
   cases e1
   cases e2
   exact h
  | i+1=>cases e1⟩
structure MxH (H:Hp) (ml:Addr) (us:List Addr) (xs:List Mp):Prop where
 hm:H ml=some (Q3)
 tp:Tps (λx=>[mt1 x,mt2 x]) H us xs
 pl:∀x∈xs,H x.1=some (.lst (x.2.1.map V.int))
theorem MxH.same{H H':Hp}{ml:Addr}{us:List Addr}{xs:List Mp}(h:MxH H ml us xs)(s:zaP H H'):MxH H' ml us xs:=⟨s _ _ h.hm,h.tp.same s,λx hx=>s _ _ (h.pl x hx)⟩
theorem zmZ:∀(ls:List Int) (A L:Int),zkx A (ls++[L])=zkx A ls++[A+ls.sum+L]
 | [],A,L=>by
  show [A,A+L]=[A,A+0+L]
  rw[Int.add_zero]
 | M::ls,A,L=>by
  show A::zkx (A+M) (ls++[L])=A::(zkx (A+M) ls++[A+(M+ls.sum)+L])
  rw[zmZ ls (A+M) L,Int.add_assoc A M]
theorem zl1:∀(ls:List Int) (A:Int),∃init,zkx A ls=init++[A+ls.sum]
 | [],A=>⟨[],by rw[ψa1,Int.add_zero];rfl⟩
 | M::ls,A=>by
  obtain⟨init,e⟩:=zl1 ls (A+M)
  exact⟨A::init,by rw[ψq,← Int.add_assoc,zkx,e];rfl⟩
theorem zyw{bs:List Box}{ns:List Int}{bud:Int}(gb:∀b∈bs,GB b)(L:Lev bs ns bud (Qan)){i:Nat}{b:Box}{n:Int}(e1:bs[i]?=some b)(e2:ns[i]?=some n):0≤shq (Qan) b n∧shq (Qan) b n≤1:=by
 have g:=gb b (zan e1)
 have n0:=L.n0 n (zan e2)
 have gn:=L.gn i b n e1 e2
 have gp:0<gnq b n:=by
  have:=zkP g n
  grind
 obtain⟨m1,m2⟩:=L.mid (b,n) (ψS (List.getElem?_zip_eq_some.mpr ⟨e1,e2⟩))
 replace m1:chq b n≤zfF bs ns bud:=m1
 replace m2:zfF bs ns bud≤chq b (n+1):=m2
 rw[zpg g n0] at m2
 have ip:=Rat.inv_pos.mpr gp
 unfold shq
 constructor
 ·rw[Rat.div_def]
  exact ψs1 (by grind) (ψB ip)
 ·have:=ψP (show zfF bs ns bud - chq b n≤gnq b n by grind) (ψB ip)
  rw[Rat.mul_inv_cancel _ gn] at this
  rw[Rat.div_def]
  exact this
def ztf:Sp:=λvs H Q _=>∃(l pl wr:Addr) (ts:List Addr) (bs:List Box) (ns:List Int) (bud:Int),vs=[.ref l,.ref pl,.ref wr]∧BP H l pl ts bs ns∧Lev bs ns bud (Qan)∧H wr=some (Qcr)∧bud≤60∧∀(r:Addr) (us:List Addr) (xs:List Mp) (H':Hp),zaP H H'→MxH H' r us xs→zvK bs bud (Qan) (QK)→(∀x∈xs,H x.1=none)→Q (QT) H'
def zkJ(K:ψa):TS :=
 (zbf (zbq (zcu (zlg K (zab (zac 5) (Qa5))) (Ql) zbe (tOp (QY) (tOp (Q7) (tOp (QA) (zac 3) (zac 0)) (zac 2)) (zac 1)) [none,none,some 4,some 10]) (zaj 12))
 (zbf (zbq (zcu (zlg K (zab (zac 1) (zab (zac 12) zas))) (Ql) zbe (tIf (tTru K (zac 1)) (tOp (Qz) (zac 0) (Qi)) (zac 0)) [none,none]) (zaj 13))
 (zkh (tBM K "list" zcD (zac 9) (zab (zf6 (zab (zac 13) (zab (zac 11) zas))) zas)))))
def zbJ(K:ψa):=eqT (zkJ.eq_1 K)
def zkG(K:ψa):TS :=
 (zkh (tBM K "list" zcD (zac 5) (zab (tOp (Q7) (tOp (Qz) (tOp (zf2 K) (zac 5) (tUn (rU λi=>.int (-i)) (Qi))) (zac 6)) (zac 4)) zas)))
def zbL(K:ψa):=eqT (zkG.eq_1 K)
def zkv(K:ψa):TS :=
 (zbf (zbq (tCB (zk5 K) (Qcn)) (zaj 7))
 (zbf (zbq (zcu (zlg K (zab (zac 7) (zab (tOp zwq (tSl (zuH K) (zac 7) (ziv (Qi)) zef) (zhK (QaO))) zas))) (Ql) zbe (tOp (QA) (zac 1) (zac 0)) [none,none]) (zaj 8))
 (zbf (zbq (zhK zas) (zaj 9))
 (zbf (zka (zlg K (zab (zac 7) (zab (zaG zo4 [] E0 (zab (zac 8) zas)) zas))) (zed K 2 (zaQ (zaj 10) (zaQ (zaj 11) zd9)))
 (zkJ K))
 (zb2 (zac 9))))))
def zbK(K:ψa):=eqT (zkv.eq_1 K)
def zlx(K:ψa):TS :=
 (zbf (zbq (zaG zlz [] E0 (zab (zaG zoD [] E0 (zab (zac 0) (QcA))) zas)) (zed K 2 (QcS)))
 (zbf (zbq (zhK (zab (Qq) zas)) (zaj 5))
 (zbf (zka (zdO K (zac 3)) (zaj 6)
 (zkG K))
 (zkv K))))
theorem zrf{l pl wr:Addr}{ts:List Addr}{bs:List Box}{ns:List Int}{bud:Int}(B:BP H l pl ts bs ns)(L:Lev bs ns bud (Qan))(hw:H wr=some (Qcr))(d1:bud≤60)(q:∀(r:Addr) (us:List Addr) (xs:List Mp) (H':Hp),zaP H H'→MxH H' r us xs→zvK bs bud (Qan) (QK)→(∀x∈xs,H x.1=none)→Q (QT) H') :
  zlx K { nx:=λ_ H'=>Q .non H',rt:=Q } (L2.start ["boxes","counts","worth","lengths","ring","starts","length","edges","widths","mix","edge","weight","more","plan"] [.ref l,.ref pl,.ref wr]) H:=by
 unfold zlx
 have l6:=B.l6
 have G:=L.gn
 have bW:=zq6 L B.gb B.l1 l6 d1
 have cs:(QbE).sum≤60:=by have:=L.cb;omega
 generalize hW:zfF bs ns bud=W at bW hw
 simp_all only [zbJ,zbL,zbK,zac]
 refine⟨l,pl,wr,ts,bs,ns,W,rfl,B,G,hw,bW,λsr us H1 s1 h1 T1=>?_⟩
 have lq:(Qcy).length=bs.length:=by rw[ψo,B.len];omega
 have bq:∀x∈ψd (shq W) bs ns,Bq 2200 x:=zhk _ λi b n h1 h2=>zyE (B.gb b (zan h1)) (B.gn n (zan h2)).1 (B.gn n (zan h2)).2 (G i b n h1 h2) bW
 refine⟨sr,us,_,rfl,h1,T1,by omega,bq,λcr tl R H2 s2 C h2 ntl htl=>?_⟩
 have R0:=C.pos
 have bR:Bd 1800 R:=zx3 B.gb (λn hn=>(B.gn n hn).1) G l6 cs bW C
 generalize hls:((Qcy).map λq=>q.num*(R / q.den))=ls at htl
 have ll:ls.length=bs.length:=by rw[← hls,ψb,lq]
 simp_all only [zbJ,zbL,zbK,zac]
 refine⟨_,SqT.of h2,rfl,_,_,rfl,_,_,rfl,rfl,by decide,λsl nsl=>?_⟩
 have s3:=zat nsl (.lst [V.int 0])
 have h3:(L2.upd H2 sl (.lst [V.int 0])) sl=some (.lst [V.int 0]):=zam
 generalize L2.upd H2 sl (.lst [V.int 0])=H3 at s3 h3 ⊢
 have htl3:=s3 _ _ htl
 refine⟨_,rfl,⟨_,SqL.of htl3⟩,?_⟩
 refine zds (K:=K) (xs:=ls.map V.int) (λi σ H'=>zaP H2 H'∧∃x:Option V,H' sl=some (.lst (((zkx 0 (ls.take i)).map λa=>a.fmod R).map V.int))∧σ=[some (Qa1),some (.ref pl),some (.ref wr),some (.ref tl),some (.int R),some (.ref sl),x,none,none,none,none,none,none,none]) ⟨s3,_,by rw[h3];show some (HO.lst [V.int 0])=some (HO.lst [V.int ((0:Int).fmod R)]);rw[Int.zero_fmod],rfl⟩ ?_ ?_ ?_
 ·rintro i σ H' _ ⟨s,_⟩
  exact SqL.of (s _ _ htl)
 ·rintro i v σ H4 hx ⟨s4,x,h4,rfl⟩
  obtain⟨n,en,rfl⟩:=zaO hx
  have li:=(List.getElem?_eq_some_iff.mp en).1
  obtain⟨init,ei⟩:=zl1 (ls.take i) 0
  have en2:ls.take (i+1)=ls.take i++[n]:=by rw[ψw,en];rfl
  have la:=zi9 (ls.take i) 0
  rw[ψM] at la
  simp_all only [zbJ,zbL,zbK,zac]
  refine⟨.inl ⟨rfl,_,SqL.of h4⟩,_,SqL.of h4,_,by rw[ei,ψV,ψV];exact ztJ _ _,_,rfl,by omega,_,h4,zbR (by rw[ψb,ψb];omega),s4.put nsl,?_⟩
  rw[zam,en2,zmZ,ψV (l₂:=[0+(ls.take i).sum+n]),ψV (l₂:=[0+(ls.take i).sum+n].map λa=>a.fmod R),zlW R0]
  rfl
 ·rintro σ H4 ⟨s4,x,h4,rfl⟩
  rw[ψb,ψJ] at h4
  have al:=zi9 ls 0
  generalize hss:((zkx 0 ls).map λa=>a.fmod R)=ss at h4
  have lss:ss.length=bs.length+1:=by rw[← hss,ψb,al,ll]
  have bss:∀s∈ss,0≤s∧s<R:=λs hs=>by
   rw[← hss] at hs
   obtain⟨a,_,rfl⟩:=List.mem_map.mp hs
   exact⟨ψw1 a R0,ψJ1 a R0⟩
  have zss:(0:Int)∈ss:=by
   rw[← hss]
   refine List.mem_map.mpr ⟨0,?_,Int.zero_fmod R⟩
   cases ls <;> exact ψg
  simp_all only [zbJ,zbL,zbK,zac]
  refine⟨_,SqL.of h4,by omega,λel ms nel mem srt lms=>?_⟩
  have s5:=zat nel (.lst (QaL))
  have h5:(L2.upd H4 el (.lst (QaL))) el=some (.lst (QaL)):=zam
  generalize L2.upd H4 el (.lst (QaL))=H5 at s5 h5 ⊢
  have mne:ms≠[]:=λz=>by
   have:=(mem 0).mpr zss
   rw[z] at this
   cases this
  have E:Edg R ms:=⟨mne,srt,λy hy=>(bss y ((mem y).mp hy)).1,λy hy=>(bss y ((mem y).mp hy)).2,(mem 0).mpr zss⟩
  have lm:=zfy R ms
  have wp:=zow ms E.srt E.hi
  refine⟨_,SqL.of h5,λe2 ne2=>?_⟩
  have s6:=zat ne2 (.lst (Qcm))
  have h6:(L2.upd H5 e2 (.lst (Qcm))) e2=some (.lst (Qcm)):=zam
  generalize L2.upd H5 e2 (.lst (Qcm))=H6 at s6 h6 ⊢
  rw[cut1] at h6
  refine⟨by decide,λe3 ne3=>?_⟩
  have s7:=zat ne3 (.lst [V.int R])
  have h7:(L2.upd H6 e3 (.lst [V.int R])) e3=some (.lst [V.int R]):=zam
  generalize L2.upd H6 e3 (.lst [V.int R])=H7 at s7 h7 ⊢
  refine⟨_,s7 _ _ h6,_,h7,?_,λe4 ne4=>?_⟩
  ·have:((QaL).drop 1).length≤1000:=by rw[ψR1,ψb];omega
   exact ψE (Nat.succ_le_succ this) (Qm)
  have s8:=zat ne4 (.lst ((QaL).drop 1++[V.int R]))
  have h8:(L2.upd H7 e4 (.lst ((QaL).drop 1++[V.int R]))) e4=some (.lst ((QaL).drop 1++[V.int R])):=zam
  generalize L2.upd H7 e4 (.lst ((QaL).drop 1++[V.int R]))=H8 at s8 h8 ⊢
  have S8:=s5.trans (s6.trans (s7.trans s8))
  have h5':=s8 _ _ (s7 _ _ (s6 _ _ h5))
  refine⟨⟨_,SqL.of h5'⟩,⟨_,SqL.of h8⟩,λD hD=>?_⟩
  have e8:(QaL).drop 1++[V.int R]=(ms.drop 1++[R]).map V.int:=by rw[ψV,List.map_drop];rfl
  rw[e8] at h8
  refine zeL (vs:=(ψd (λa b=>b - a) ms (ms.drop 1++[R])).map V.int) h5' h8 ?_ ?_ hD (λi x z v H9 R' hx hz hv s9 k=>?_) λH9 s9 h9=>?_
  ·rw[ψb,ψb,ψb,ψo]
  ·rw[ψb,ψo]
   omega
  ·obtain⟨a,ha,rfl⟩:=zaO hx
   obtain⟨b,hb,rfl⟩:=zaO hz
   obtain⟨c,hc,rfl⟩:=zaO hv
   have e:=zi5 ha hb hc
   subst e
   simp_all only [zbJ,zbL,zbK,zac]
   exact k _ (Qau)
  ·refine⟨by decide,λml nml=>?_⟩
   have sa:=zat nml (Qcb)
   have ha:(L2.upd H9 ml (Qcb)) ml=some (.lst []):=zam
   generalize L2.upd H9 ml (.lst [])=Ha at sa ha ⊢
   rw[zte R ms mne] at h9
   have mp:=List.length_pos_iff.mpr mne
   obtain⟨w1,hw1⟩:∃w,w∈wds R ms:=⟨(QaT)[0]'(by omega),ψA1 _⟩
   have w1p:=wp w1 hw1
   have w1R:w1≤R:=by rw[← E.whole];exact(zqt _ wp).2 hw1
   have bw:Bd 9000 w1:=(bR.le (Qd)).mono (Qm)
   refine⟨D,wds R ms,w1,rfl,sa _ _ h9,by omega,hw1,by omega,bw,λlo g Hb sb Gg hb=>?_⟩
   have Sb:=S8.trans (s9.trans (sa.trans sb))
   have h5b:=sb _ _ (sa _ _ (s9 _ _ h5'))
   refine⟨_,rfl,⟨_,SqL.of h5b⟩,⟨_,SqL.of hb⟩,?_⟩
   have S9:zaP H2 H9:=s4.trans (S8.trans s9)
   have Sab:zaP H9 Hb:=sa.trans sb
   refine zpj (K:=K) (xs:=ms.map V.int) (ys:=((QaT).map λn=>n.fdiv g).map V.int) (λi σ H'=>zaP H9 H'∧H' el=some (.lst (QaL))∧H' lo=some (.lst (((QaT).map λn=>n.fdiv g).map V.int))∧∃(us:List Addr) (xs:List Mp) (y1 y2 y3 y4:Option V),H' ml=some (Q3)∧Tps (λx=>[mt1 x,mt2 x]) H' us xs∧(∀x∈xs,H' x.1=some (.lst (x.2.1.map V.int))∧x.1≠ml∧H x.1=none)∧xs.map (λx=>x.2)=(ziA R ns ss ls ms ((QaT).map λn=>n.fdiv g)).take i∧σ=[some (Qa1),some (.ref pl),some (.ref wr),some (.ref tl),some (.int R),some (.ref sl),x,some (.ref el),some (.ref D),some (.ref ml),y1,y2,y3,y4]) ⟨Sab,h5b,hb,[],[],_,_,_,_,sb _ _ ha,Tps.nil,by simp,rfl,rfl⟩ ?_ ?_ ?_
   ·rintro i σ H' _ ⟨_,h1,h2,_⟩
    exact⟨SqL.of h1,SqL.of h2⟩
   ·rintro i v1 v2 t σ Hc hv1 hv2 ⟨sc,hec,hlc,us',xs,y1,y2,y3,y4,hmc,Tc,hxc,exs,rfl⟩ ht
    obtain⟨e,ee,rfl⟩:=zaO hv1
    obtain⟨wt,ew,rfl⟩:=zaO hv2
    have li:=(List.getElem?_eq_some_iff.mp ee).1
    simp_all only [zbJ,zbL,zbK,zac]
    have sd:=zat ht (.tup [V.int e,V.int wt])
    have hd:(L2.upd Hc t (.tup [V.int e,V.int wt])) t=some (.tup [V.int e,V.int wt]):=zam
    generalize L2.upd Hc t (.tup [V.int e,V.int wt])=Hd at sd hd ⊢
    refine⟨_,SqT.of hd,rfl,_,_,rfl,_,_,rfl,rfl,?_⟩
    have S9d:zaP H9 Hd:=sc.trans sd
    have Sd:zaP H4 Hd:=S8.trans (s9.trans S9d)
    have hsd:=Sd _ _ h4
    have htd:Hd tl=some (.lst (ls.map V.int)):=S9d _ _ (S9 _ _ htl)
    have hpd:Hd pl=some (.lst (QJ)):=S9d _ _ (S9 _ _ (s2 _ _ (s1 _ _ B.hp)))
    refine⟨⟨_,SqL.of hsd⟩,⟨_,SqL.of htd⟩,λD1 hD1=>?_⟩
    refine zeL (vs:=(ψd (λs n=>decide ((e - s).fmod R<n)) ss ls).map V.bl) hsd htd (by rw[ψb,ψb,ψb,ψo]) (by rw[ψb,ψo];omega) hD1 (λi x z v H' R' hx hz hv s k=>?_) λHe se he=>?_
    ·obtain⟨a,ha,rfl⟩:=zaO hx
     obtain⟨b,hb,rfl⟩:=zaO hz
     obtain⟨c,hc,rfl⟩:=zaO hv
     have e:=zi5 ha hb hc
     subst e
     simp_all only [zbJ,zbL,zbK,zac]
     exact⟨by omega,k _ (Qau)⟩
    have hpe:=se _ _ hpd
    simp_all only [zbJ,zbL,zbK,zac]
    refine⟨⟨_,SqL.of hpe⟩,⟨_,SqL.of he⟩,λD2 hD2=>?_⟩
    refine zeL (vs:=(ψd (λn (b:Bool)=>if b=true then n+1 else n) ns (ψd (λs n=>decide ((e - s).fmod R<n)) ss ls)).map V.int) hpe he (by rw[ψb,ψb,ψb,ψo]) (by rw[ψb,ψo,B.len];omega) hD2 (λi x z v H' R' hx hz hv s k=>?_) λHf sf hf=>?_
    ·obtain⟨a,ha,rfl⟩:=zaO hx
     obtain⟨b,hb,rfl⟩:=zaO hz
     obtain⟨c,hc,rfl⟩:=zaO hv
     have e:=zi5 ha hb hc
     subst e
     simp_all only [zbJ,zbL,zbK,zac]
     by_cases c:b=true
     ·rw[if_pos c] at k ⊢
      exact k _ (Qau)
     ·rw[if_neg c] at k ⊢
      exact k _ (Qau)
    have Sf:zaP Hc Hf:=sd.trans (se.trans sf)
    refine⟨.inl ⟨rfl,_,SqL.of (Sf _ _ hmc)⟩,by decide,λp np=>?_⟩
    have sg:=zat np (.tup [V.ref D2,V.int wt])
    have hg:(L2.upd Hf p (.tup [V.ref D2,V.int wt])) p=some (.tup [V.ref D2,V.int wt]):=zam
    generalize L2.upd Hf p (.tup [V.ref D2,V.int wt])=Hg at sg hg ⊢
    have Sg:=Sf.trans sg
    have eml:el≠ml:=zaT (s9 _ _ h5') nml
    have lml:lo≠ml:=λz=>by
     subst z
     have z1:=sb _ _ ha
     rw[hb] at z1
     have z2:=congrArg List.length (HO.lst.inj (Option.some.inj z1))
     rw[ψb,ψb,lm] at z2
     exact mne (List.length_eq_zero_iff.mp z2)
    have lxs:xs.length≤i:=by
     have:=congrArg List.length exs
     rw[ψb,ψM] at this
     omega
    have hm':=Sg _ _ hmc
    have pml:p≠ml:=λz=>by
     subst z
     rw[hg] at hm'
     cases hm'
    have Dml:D2≠ml:=(zaT (se _ _ (sd _ _ hmc)) hD2).symm
    have T2:=Tc.1
    refine⟨_,hm',zbR (by rw[ψb];omega),(sc.trans Sg).put nml,by rw[zaS eml];exact Sg _ _ hec,by rw[zaS lml];exact Sg _ _ hlc,us'++[p],by rw[zam,ψV];rfl,xs++[(D2,pln R ns ss ls e,wt)],?_,λy hy=>?_,?_⟩
    ·refine Tc.put (λy w e=>?_) (by rw[zaS pml];exact hg)
     have nx:y≠ml:=λz=>by
      subst z
      rw[e] at hmc
      cases hmc
     rw[zaS nx]
     exact Sg _ _ e
    ·rcases List.mem_append.mp hy with z | z
     ·obtain⟨z1,z2,z3⟩:=hxc y z
      exact⟨by rw[zaS z2];exact Sg _ _ z1,z2,z3⟩
     ·rw[List.mem_singleton.mp z]
      exact⟨by rw[zaS Dml];exact sg _ _ hf,Dml,(s1.trans (s2.trans (S9.trans (S9d.trans se)))).free hD2⟩
    ·rw[ψV,exs,ziA,zjm _ _ _ ee ew]
     rfl
   ·rintro σ Hc ⟨sc,hec,hlc,us',xs,y1,y2,y3,y4,hmc,Tc,hxc,exs,rfl⟩
    simp_all only [zbJ,zbL,zbK,zac]
    refine q ml us' xs Hc (s1.trans (s2.trans (S9.trans sc))) ⟨hmc,Tc,λy hy=>(hxc y hy).1⟩ ?_ λy hy=>(hxc y hy).2.2
    rw[exs,ψK (by simp only[ziA,ψo,ψb];omega),← hss]
    have hWb:zfF bs ns bud=W:=hW
    rw[hWb]
    refine zzd B.gb (λn hn=>(B.gn n hn).1) L.n59 G B.len ll (λi b n M e1 e2 e3=>?_) ?_ R0 bR E (Qd) (λa ha=>(mem _).mpr (by rw[← hss];exact List.mem_map.mpr ⟨a,ha,rfl⟩)) Gg
    ·rw[← hls] at e3
     obtain⟨q',eq',rfl⟩:=zaO e3
     have eqq:=zi5 e1 e2 eq'
     have tq:=zwc (C.all q' (zan eq'))
     have su:=zyw B.gb L e1 e2
     rw[hWb,← eqq] at su
     rw[← eqq]
     have RR:(0:Rat)<(R:Rat):=by exact_mod_cast R0
     have a1:=ψs1 su.1 (ψB RR)
     have a2:=ψP su.2 (ψB RR)
     rw[← tq] at a1 a2
     rw[Rat.one_mul] at a2
     exact⟨tq,by exact_mod_cast a1,by exact_mod_cast a2⟩
    ·rw[zwf W bs ns B.gb G B.len,← hWb]
     have wi:=zjq (bud:=bud) (bs:=bs) (ns:=ns) (by have:=zhA B.gb G (zjT B.l1 B.len);grind)
     rw[wi,ψE1]
     grind
theorem zcx:zaJ ["boxes","counts","worth","lengths","ring","starts","length","edges","widths","mix","edge","weight","more","plan"] (Qay) (zai zgS):=(Qa)
theorem zqV(T:Txt K mg a):zcr P w K mg base CX0 5 a.faN a.daN (Qay) ztf:=by
 have Gae:=zmA (P:=P) (w:=w) (base:=base) T
 have GaM:=zkk (P:=P) (w:=w) (base:=base) T
 have Gat:=ztk (P:=P) (w:=w) (base:=base) T
 refine T.FaN.ok zcx (Qk) (Qe)
 all_goals obtain⟨l,pl,wr,ts,bs,ns,bud,rfl,B,L,hw,d1,q⟩:=h
 ·rfl
 exact⟨zlx K,(zaf (zcG (zag Gae (Qc) rfl T.mae T.Fae.kp T.bae .nil zaH (zaa (zag GaM (Qc) rfl T.maM T.FaM.kp T.baM .nil zaH (zaa (pv 0) (QcQ))) zad)) (zbp rfl (zal (zak (i:=3) zcx.nd rfl (Qg)) (zal (zak (i:=4) zcx.nd rfl (Qca)) zaZ))))
 (zaf (zaN (i:=5) zcx.nd rfl (Qg) (zcl (Qam)))
 (zaf (zdA PassesOwn.never rfl (zb0 (pv 3)) (zak (i:=6) zcx.nd rfl (Qg))
 (zah (zgD (zuh ψY1 ψW1 ψX1 zfw (pv 5) (zaa (zao zhD (zao zco (zaI zbm (pv 5) (ztP zpa zae) (Qp)) (pv 6)) (pv 4)) zad)))))
 (zaf (zaN (i:=7) zcx.nd rfl (Qg) (zp0 rfl T.z_sorted rfl T.z_set (QcG)))
 (zaf (zcS (i:=8) zcx.nd rfl rfl (sc:=zai zgS) (N:=["boxes","counts","worth","lengths","ring","starts","length","edges","widths","mix","edge","weight","more","plan"]) (Nc:=["ahead","behind"]) (cap:=[none,none]) rfl rfl rfl (Qr) (zd4 rfl T.z_zip (zaa (pv 7) (zaa (zao zkO (zdZ zhx (pv 7) (zeG zae) zfg) (zcl (Qa3))) zad))) (λ_ _ _ _=>(zbp rfl (zal (zak (i:=0) (show ψk (["ahead","behind"]:List Str) from by decide) rfl (Qg)) (zal (zak (i:=1) (show ψk (["ahead","behind"]:List Str) from by decide) rfl (Qg)) zaZ)))) (QH) (λ_ _ _ _=>(zao zcF (pv 1) (pv 0))))
 (zaf (zaN (i:=9) zcx.nd rfl (Qg) (zcl zad))
 (zaf (zdA PassesOwn.never rfl (zd4 rfl T.z_zip (zaa (pv 7) (zaa (zag Gat (Qc) rfl T.mat T.Fat.kp T.bat .nil zaH (zaa (pv 8) zad)) zad))) (zbp rfl (zal (zak (i:=10) zcx.nd rfl (Qca)) (zal (zak (i:=11) zcx.nd rfl (Qg)) zaZ)))
 (zaf (zcS (i:=12) zcx.nd rfl rfl (sc:=zai zgS) (N:=["boxes","counts","worth","lengths","ring","starts","length","edges","widths","mix","edge","weight","more","plan"]) (Nc:=["start","length","ring","edge"]) (cap:=[none,none,some 4,some 10]) rfl rfl rfl (Qr) (zd4 rfl T.z_zip (zaa (pv 5) (Qbi))) (λ_ _ _ _=>(zbp rfl (zal (zak (i:=0) (show ψk (["start","length","ring","edge"]:List Str) from by decide) rfl (Qg)) (zal (zak (i:=1) (show ψk (["start","length","ring","edge"]:List Str) from by decide) rfl (Qg)) zaZ)))) (QH) (λ_ _ _ _=>(zcg zj6 (zao zhD (zao zcF (pv 3) (pv 0)) (pv 2)) (pv 1) (zbd _))))
 (zaf (zcS (i:=13) zcx.nd rfl rfl (sc:=zai zgS) (N:=["boxes","counts","worth","lengths","ring","starts","length","edges","widths","mix","edge","weight","more","plan"]) (Nc:=["count","one"]) (cap:=[none,none]) rfl rfl rfl (Qr) (zd4 rfl T.z_zip (zaa (pv 1) (zaa (pv 12) zad))) (λ_ _ _ _=>(zbp rfl (zal (zak (i:=0) (show ψk (["count","one"]:List Str) from by decide) rfl (Qg)) (zal (zak (i:=1) (show ψk (["count","one"]:List Str) from by decide) rfl (Qg)) zaZ)))) (QH) (λ_ _ _ _=>(zoT (zo5 (pv 1) (λ_=>rfl)) (zao zco (pv 0) zae) (pv 0))))
 (zah (zgD (zuh ψY1 ψW1 ψX1 zfw (pv 9) (zaa (zbI (zaa (pv 13) (zaa (pv 11) zad))) zad)))))))
 (zah (zaE (pv 9)))))))))),
  zrf B L hw d1 q⟩
def ziB(K:ψa):TS :=
 (zb2 (zeX (tCB (zg2 K) (zab (zac 0) (zab (tC (.ty "int")) zas))) (zvv (tCB (zg2 K) (zab (zac 0) (zab (tC (.ty "bool")) zas))))))
theorem znH{v:V}(t:Tg H v)(q:Q (.bl (isI v)) H):ziB K { nx:=λ_ H'=>Q .non H',rt:=Q } (L2.start ["thing"] [v]) H:=by
 unfold ziB
 simp_all only [zac]
 cases t with
 | non=>exact zbU .non (zf1 K) ⟨_,rfl,zlV q⟩
 | bl b =>
  refine zbU (.bl b) (ziO K) ⟨_,rfl,zpc ?_⟩
  exact zbU (.bl b) rfl ⟨_,rfl,q⟩
 | int i =>
  refine zjG ⟨_,rfl,zpc ?_⟩
  exact ziM ⟨_,rfl,q⟩
 | str x=>exact zbU (.str x) (zjD K) ⟨_,rfl,zlV q⟩
 | lst h=>exact zbU (.lst h) (ziT K) ⟨_,rfl,zlV q⟩
 | tup h=>exact zbU (.tup h) (zih K) ⟨_,rfl,zlV q⟩
theorem znI:zaJ ["thing"] ["thing"] (zai ziw):=(Qa)
theorem zfV(T:Txt K mg a):zcr P w K mg base CX0 1 a.fI a.dI ["thing"] zda:=by
 refine T.FI.ok znI (Qk) (Qe)
 all_goals obtain⟨v,rfl,t,q⟩:=h
 ·rfl
 exact⟨ziB K,(zah (zaE (zdi (zaq za0 rfl T.z_isinstance ψi (zaa (pv 0) (zaa (zcf rfl T.z_int zoM rfl) zad))) (ze0 (zwp (zaq za0 rfl T.z_isinstance ψi (zaa (pv 0) (zaa (zcf rfl T.z_bool zmC rfl) zad)))))))),
  znH t q⟩
def zho:TS :=
 (zb2 (zeX (zaG zda [] E0 (QF)) (zmb (Q5) (Q5) (zac 1) (zac 0) (zac 2))))
theorem zl0{v:V}{l m:Int}(t:Tg H v)(q:Q (.bl (wi l m v)) H):zho { nx:=λ_ H'=>Q .non H',rt:=Q } (L2.start (QbT) [v,.int l,.int m]) H:=by
 unfold zho
 simp_all only [zac]
 refine⟨v,rfl,t,isI v,rfl,?_⟩
 cases v with
 | int i =>
  refine zpc ⟨_,rfl,zbj (λc=>?_) (λc=>?_)⟩
  ·rw[show wi l m (.int i)=decide (i≤m) from by simp[wi,c]] at q
   exact⟨_,rfl,q⟩
  ·rw[show wi l m (.int i)=false from by simp[wi,c]] at q
   exact q
 | _=>exact zlV q
theorem zmS:zaJ (QbT) (QbT) (zai zhF):=(Qa)
theorem zgm(T:Txt K mg a):zcr P w K mg base CX0 2 a.fM a.dM (QbT) zfC:=by
 have GI:=zfV (P:=P) (w:=w) (base:=base) T
 refine T.FM.ok zmS (Qk) (Qe)
 all_goals obtain⟨v,l,m,rfl,t,q⟩:=h
 ·rfl
 exact⟨zho,(zah (zaE (zdi (zag GI (Qc) rfl T.mI T.FI.kp T.bI .nil zaH (Qaj)) (ze0 (ztK zlI zlI (pv 1) (pv 0) (pv 2)))))),
  zl0 t q⟩
theorem zwe{v:V}(h:NL H v)(q:Q (QbM) H):zg2 K [v,.ty "list"] H Q:=by
 cases h with
 | non=>exact zbU .non (zfB K) q
 | bl b=>exact zbU (.bl b) (zh9 K) q
 | int i=>exact zbU (.int i) (ziL K) q
 | str x=>exact zbU (.str x) (ziS K) q
 | tup h=>exact zbU (.tup h) (zfh K) q
theorem zAp{v:V}(t:Tg H v)(h:∀(a:Addr) (ys:List V),v=.ref a→H a≠some (.tup ys))(q:Q (QbM) H):zg2 K [v,.ty "tuple"] H Q:=by
 cases t with
 | non=>exact zbU .non (ze1 K) q
 | bl b=>exact zbU (.bl b) (zg5 K) q
 | int i=>exact zbU (.int i) (zhS K) q
 | str x=>exact zbU (.str x) (zhU K) q
 | lst h'=>exact zbU (.lst h') (zhd K) q
 | tup h'=>exact absurd h' (h _ _ rfl)
theorem zcv{r:Addr}{xs:List V}(h:H r=some (QbW))(q:Q (.bl true) H):zg2 K [.ref r,.ty "list"] H Q:=zbU (.lst h) rfl q
theorem znE{bs:List Bool}(h:∀b∈bs,b=true):bs.all id=true:=List.all_eq_true.mpr h
theorem zjr{K:ψa}{a:Addr}{xs:List V}{cs:List Bool}{te:TE}{σ:St}{H:Hp}{D:Addr}{Q:VK}(lc:xs.length=cs.length)(hl:SqL K H a xs)(hD:H D=none)(hx:xs.length≤900)
  (hs:∀(i:Nat) x c H' (R:VK),xs[i]?=some x→cs[i]?=some c→zaP H H'→(∀H'',zaP H' H''→R (.bl c) H'')→te (σ.set 0 (some x)) H' R)
  (hd:∀H',zaP H H'→H' D=some (.lst (cs.map V.bl))→Q (.ref D) H'):zfz (Itl K a) (zaj 0) zbe te D Q σ (L2.upd H D (Qcb)):=by
 refine zdR (xs:=xs) (λi ys σ' H'=>zaP H H'∧(∀x,σ'.set 0 x=σ.set 0 x)∧ys=(cs.take i).map V.bl) ⟨zat hD _,λ_=>rfl,rfl⟩ ?_ ?_ ?_
 ·rintro i ys σ' H' _ ⟨s,_⟩
  exact s.seq hl
 ·rintro i x ys σ' H' e hD' ⟨s,es,rfl⟩
  have li:=(List.getElem?_eq_some_iff.mp e).1
  have ec:cs[i]?=some cs[i]:=ψc (Qd)
  show te (σ'.set 0 (some x)) H' _
  rw[es]
  refine hs i x _ H' _ e ec s λH'' s2=>?_
  refine⟨D,_,_,rfl,rfl,s2 _ _ hD',zbR (by rw[ψb,ψM];omega),_,zam,(s.trans s2).put hD,λy=>by rw[List.set_set],?_⟩
  rw[ψw,ec,ψV]
  rfl
 ·rintro ys σ' H' hD' ⟨s,es,rfl⟩
  rw[ψK (Qd)] at hD'
  exact hd H' s hD'
theorem ziK{K:ψa}{a:Addr}{xs:List V}{te:TE}{σ:St}{H:Hp}{D:Addr}{Q:VK}(f:V→Bool)(hl:SqL K H a xs)(hD:H D=none)(hx:xs.length≤900)
  (hs:∀(i:Nat) x H' (R:VK),xs[i]?=some x→zaP H H'→(∀H'',zaP H' H''→R (.bl (f x)) H'')→te (σ.set 0 (some x)) H' R)
  (hd:∀H',zaP H H'→H' D=some (.lst ((xs.map f).map V.bl))→Q (.ref D) H'):zfz (Itl K a) (zaj 0) zbe te D Q σ (L2.upd H D (Qcb)):=by
 refine zjr (cs:=xs.map f) (by rw[ψb]) hl hD hx (λi x c H' R ex ec s hR=>hs i x H' R ex s ?_) hd
 rw[ψI,ex] at ec
 cases ec
 exact hR
def zgn(K:ψa):TS :=
 (zb2 (zeX (tCB (zt4 K) (zab (zcu (Qaw) (zaj 0) zbe (zeX (zaG zda [] E0 (QF)) (tOp (QN) (zac 0) (Qq))) [none]) zas)) (tOp (Qat) (tCB (zpH K) (QF)) (Qq))))
def zbV(K:ψa):=eqT (zgn.eq_1 K)
def zgA(K:ψa):TS :=
 (zd2 (tOr (zf7 (tB (QS))) (zcp (tOp rNe (QaU) (zac 1)))) (QD) zb7)
def zbT(K:ψa):=eqT (zgA.eq_1 K)
def zfP(K:ψa):TS :=
 (zbf (ze2 (zgA K))
 (zgn K))
theorem zkf{v:V}{n:Int}(h:(NL H v∧Q (QbM) H)∨∃(a:Addr) (xs:List V),v=.ref a∧H a=some (QbW)∧xs.length≤900∧(∀x∈xs,Tg H x)∧∀H',zaP H H'→Q (.bl (gW n xs)) H') :
  zfP K { nx:=λ_ H'=>Q .non H',rt:=Q } (L2.start ["thing","many"] [v,.int n]) H:=by
 unfold zfP
 simp_all only [zbV,zbT,zac]
 rcases h with ⟨hn,q⟩ | ⟨a,xs,rfl,ha,xl,ht,q⟩
 ·refine(QB)
  simp_all only [zbV,zbT,zac]
  exact zwe hn ⟨false,rfl,zbj (λ_=>q) (Qv)⟩
 refine⟨λσ H'=>(xs.length:Int)=n∧H'=H∧σ=[some (.ref a),some (.int n)],?_,?_⟩
 ·simp_all only [zbV,zbT,zac]
  refine zcv ha (Qaa)
  refine zbj (Qj) (Qao)
  refine⟨_,.inl (SqL.of ha),zbj (Qcz) (λz=>⟨Classical.not_not.mp z,rfl⟩)⟩
  have:=q H (Qau)
  rw[show gW n xs=false from by unfold gW;rw[decide_eq_false z];rfl] at this
  exact this
 ·rintro σ H' ⟨ln,e,rfl⟩
  rw[e]
  simp_all only [zbV,zbT,zac]
  refine⟨⟨_,SqL.of ha⟩,λD hD=>?_⟩
  refine ziK nn (SqL.of ha) hD xl (λi x H1 R ex s hR=>?_) λH1 s hD1=>?_
  ·simp_all only [zbV,zbT,zac]
   refine⟨x,rfl,(ht x (zan ex)).same s,isI x,rfl,?_⟩
   cases x with
   | int i=>exact zpc ⟨_,rfl,hR _ (Qau)⟩
   | _=>exact zlV (hR _ (Qau))
  ·simp_all only [zbV,zbT,zac]
   refine⟨_,SqL.of hD1,?_⟩
   have hall:(xs.map nn).all id=xs.all nn:=by rw[List.all_map];rfl
   rw[hall]
   refine zbj (λc=>?_) (λc=>?_)
   ·obtain⟨is,rfl⟩:=zj1 c
    refine⟨is,SqL.of (s _ _ ha),?_⟩
    have:=q H1 s
    rw[show gW n (is.map V.int)=decide (0<is.sum) from by
     unfold gW
     rw[decide_eq_true ln,c,List.map_map,show iv ∘ V.int=id from rfl,List.map_id]
     rfl] at this
    exact this
   ·have:=q H1 s
    rw[show gW n xs=false from by unfold gW;rw[show xs.all nn=false from by simpa using c];simp] at this
    exact this
theorem zj7:zaJ ["thing","many"] ["thing","many"] (zai zey):=(Qa)
theorem zj5(T:Txt K mg a):zcr P w K mg base CX0 2 a.fav a.dav ["thing","many"] zod:=by
 have GI:=zfV (P:=P) (w:=w) (base:=base) T
 refine T.Fav.ok zj7 (Qk) (Qe)
 all_goals obtain⟨v,n,rfl,h⟩:=h
 ·rfl
 exact⟨zfP K,(zaf (zbz (zb1 (PW.pt (zeY (zbW (zbu (QG))) (zd6 (zbi zi1 (QI) (pv 1) (zbd _))))) (QZ) zaY))
 (zah (zaE (zdi (zaq (zfR rfl) rfl T.z_all ψq1 (zaa (zcc (sc:=zai zey) (N:=["thing","many"]) (Nc:=["weight"]) (cap:=[none]) rfl rfl rfl (Qr) (Qbl) (λ_ _ _ _=>(zak (i:=0) (show ψk (["weight"]:List Str) from by decide) rfl (Qg))) (QH) (λ_ _ _ _=>(zdi (zag GI (Qc) rfl T.mI T.FI.kp T.bI .nil zaH (Qaj)) (ze0 (zcg zjz (pv 0) zae (zbd _)))))) zad)) (ze0 (zcg znD (zaq (zdo rfl) rfl T.z_sum ψW (Qaj)) zae (zbd _))))))),
  zkf h⟩
def zkC(K:ψa):TS :=
 (zbf (zbq (zac 0) (zed K 3 (zaQ (zaj 1) (QaS))))
 (zb2 (zeX (zaG zfC [] E0 (zab (zac 1) (zab (Qi) (QaM)))) (zeX (zaG zfC [] E0 (zab (zac 3) (zab (Qi) (zab (tC (.int 50)) zas)))) (zaG zfC [] E0 (zab (zac 2) (zab (Qi) (Qa5))))))))
def zeD(K:ψa):=eqT (zkC.eq_1 K)
def zkB(K:ψa):TS :=
 (zd2 (tOr (zf7 (QO)) (zcp (tOp rNe (QaU) (QbQ)))) (QD) zb7)
def zez(K:ψa):=eqT (zkB.eq_1 K)
def zk1(K:ψa):TS :=
 (zbf (ze2 (zkB K))
 (zkC K))
theorem zrY{v:V}{c:Bool}(h:BxR H v c)(q:Q (.bl c) H):zk1 K { nx:=λ_ H'=>Q .non H',rt:=Q } (L2.start ["thing","cost","hits","of"] [v]) H:=by
 unfold zk1
 simp_all only [zeD,zez,zac]
 rcases h with ⟨hn,t,rfl⟩ | ⟨t,ys,rfl,hy,ht,rfl⟩
 ·refine(QB)
  simp_all only [zeD,zez,zac]
  exact zAp t hn ⟨false,rfl,zbj (λ_=>q) (Qv)⟩
 refine⟨λσ H'=>ys.length=3∧H'=H∧σ=[some (.ref t),none,none,none],?_,?_⟩
 ·simp_all only [zeD,zez,zac]
  refine zhB hy (Qaa)
  refine zbj (Qj) (Qao)
  refine⟨_,.inr (SqT.of hy),zbj (Qcz) (λz=>⟨by omega,rfl⟩)⟩
  rw[show gB ys=false from ?_] at q
  ·exact q
  ·match ys,z with
   | [],_=>rfl
   | [_],_=>rfl
   | [_,_],_=>rfl
   | [_,_,_],z=>exact absurd rfl z
   | _::_::_::_::_,_=>rfl
 ·rintro σ H' ⟨l3,e,rfl⟩
  rw[e]
  match ys,l3 with
  | [c,hh,o],_ =>
  simp_all only [zeD,zez,zac]
  refine⟨_,SqT.of hy,rfl,_,_,rfl,_,_,rfl,_,_,rfl,rfl,?_⟩
  refine⟨c,_,_,rfl,ht _ (Qa0),_,rfl,zbj (λc1=>?_) (λc1=>?_)⟩
  ·refine⟨o,_,_,rfl,ht _ (Qa0),_,rfl,zbj (λc2=>?_) (λc2=>?_)⟩
   ·cases o with
    | int o =>
     refine⟨hh,_,_,rfl,ht _ (Qa0),?_⟩
     rw[show gB [c,hh,V.int o]=wi 1 o hh from by show(wi 1 60 c&&wi 1 50 (V.int o)&&wi 1 o hh)=_;rw[c1,c2];rfl] at q
     exact q
    | _=>exact absurd c2 (by simp[wi])
   ·rw[show gB [c,hh,o]=false from by show(wi 1 60 c&&wi 1 50 o&&wi 1 (iv o) hh)=_;rw[show wi 1 50 o=false from by simpa using c2];simp] at q
    exact q
  ·rw[show gB [c,hh,o]=false from by show(wi 1 60 c&&wi 1 50 o&&wi 1 (iv o) hh)=_;rw[show wi 1 60 c=false from by simpa using c1];rfl] at q
   exact q
theorem zhR:zaJ ["thing","cost","hits","of"] ["thing"] (zai zlj):=(Qa)
theorem zrR(T:Txt K mg a):zcr P w K mg base CX0 3 a.faw a.daw ["thing"] zoK:=by
 have GM:=zgm (P:=P) (w:=w) (base:=base) T
 refine T.Faw.ok zhR (Qk) (Qe)
 all_goals obtain⟨v,c,rfl,h,q⟩:=h
 ·rfl
 exact⟨zk1 K,(zaf (Qu)
 (zaf (zcG (pv 0) (zbp rfl (zal (zak (i:=1) zhR.nd rfl (Qg)) (zal (zak (i:=2) zhR.nd rfl (Qg)) (zal (zak (i:=3) zhR.nd rfl (Qg)) zaZ)))))
 (zah (zaE (zdi (zag GM (Qc) rfl T.mM T.FM.kp T.bM .nil zaH (zaa (pv 1) (zaa zae (zaa (zio rfl T.m_MOST_COST ⟨_,rfl⟩) zad)))) (zdi (zag GM (Qc) rfl T.mM T.FM.kp T.bM .nil zaH (zaa (pv 3) (zaa zae (zaa (zio rfl T.m_MOST_OF ⟨_,rfl⟩) zad)))) (ze0 (zag GM (Qc) rfl T.mM T.FM.kp T.bM .nil zaH (zaa (pv 2) (zaa zae (Qbi))))))))))),
  zrY h q⟩
theorem gB_bx{b:Box}(g:GB b):gB (bx b)=true:=by
 obtain⟨g1,g2,g3,g4,g5⟩:=g
 show(wi 1 60 (V.int b.1)&&wi 1 50 (V.int b.2.2)&&wi 1 b.2.2 (V.int b.2.1))=true
 have h1:wi 1 60 (V.int b.1)=true:=decide_eq_true ⟨g1,g2⟩
 have h2:wi 1 50 (V.int b.2.2)=true:=decide_eq_true ⟨by omega,g5⟩
 have h3:wi 1 b.2.2 (V.int b.2.1)=true:=decide_eq_true ⟨g3,g4⟩
 rw[h1,h2,h3]
 rfl
def zgG(K:ψa):TS :=
 (zd2 (tOr (zf7 (tB (QS))) (tOr (zf7 (zcp (zmb (Q5) (Q5) (Qi) (QaU) (tC (.int 6))))) (zf7 (tB (tCB (zt4 K) (zab (zcu (Qaw) (zaj 0) zbe (zaG zoK [] E0 (QF)) [none]) zas)))))) zoF zb7)
theorem zlN{l:Addr}{ts:List Addr}{bs:List Box}(hl:H l=some (Q4))(hb:Tps bx H ts bs)(gb:∀b∈bs,GB b)(l1:1≤bs.length)(l6:bs.length≤6)(q:∀H',zaP H H'→Q .non H') :
  zgG K { nx:=λ_ H'=>Q .non H',rt:=Q } (L2.start ["boxes"] [.ref l]) H:=by
 unfold zgG
 simp_all only [zac]
 refine zcv hl (Qaa)
 refine zbj (Qj) (Qao)
 refine⟨_,.inl (SqL.of hl),?_⟩
 rw[ψb,hb.1]
 refine zbj (Qao) (λz=>absurd (show(1:Int)≤(bs.length:Int) by omega) z)
 refine zbj (λz=>absurd (show(bs.length:Int)≤6 by omega) z) (Qao)
 refine(QaB)
 refine zdR (K:=K) (xs:=ts.map V.ref) (λi ys σ H'=>zaP H H'∧∃cs:List Bool,ys=cs.map V.bl∧(∀b∈cs,b=true)∧cs.length≤i∧∃z,σ=[z]) ⟨zat hD _,[],rfl,by simp,by simp,_,rfl⟩ ?_ ?_ ?_
 ·rintro i ys σ H' _ ⟨s,_⟩
  exact SqL.of (s _ _ hl)
 ·rintro i x ys σ H' hx hD' ⟨s,cs,rfl,hc,lc,z,rfl⟩
  obtain⟨t,ht,rfl⟩:=zaO hx
  obtain⟨b,hb1,hb2⟩:=hb.at ht
  have hi:=(List.getElem?_eq_some_iff.mp ht).1
  simp_all only [zac]
  refine⟨.ref t,true,rfl,.inr ⟨t,bx b,rfl,s _ _ hb2,λy hy=>by simp[bx] at hy;rcases hy with rfl | rfl | rfl <;> exact .int _,(gB_bx (gb b (zan hb1))).symm⟩,_,hD',zbR (by rw[ψb];have:=hb.1;omega),_,zam,s.put hD,cs++[true],by simp,?_,by rw[ψb1];exact Nat.succ_le_succ lc⟩
  intro b hb
  rcases List.mem_append.mp hb with h | h
  ·exact hc b h
  ·simpa using h
 ·rintro ys σ H' hD' ⟨s,cs,rfl,hc,_,z,rfl⟩
  simp_all only [zac]
  refine⟨_,SqL.of hD',?_⟩
  rw[znE hc]
  exact zbj (Qj) (λ_=>q _ s)
theorem zlp:zaJ ["boxes"] ["boxes"] (zai ze3):=(Qa)
theorem zhT(T:Txt K mg a):zcr P w K mg base CX0 4 a.fag a.dag ["boxes"] zs0:=by
 have Gaw:=zrR (P:=P) (w:=w) (base:=base) T
 refine T.Fag.ok zlp (Qk) (Qe)
 all_goals obtain⟨l,ts,bs,rfl,hl,hb,gb,l1,l6,q⟩:=h
 ·rfl
 exact⟨zgG K,(zah (zb1 (PW.pt (zeY (zbW (zbu (QG))) (zeY (zbW (ztQ zlI zlI zae (QI) (zio rfl T.m_MOST_BOXES ⟨_,rfl⟩))) (zd6 (zbW (zbu (zaq (zfR rfl) rfl T.z_all ψq1 (zaa (zcc (sc:=zai ze3) (N:=["boxes"]) (Nc:=["box"]) (cap:=[none]) rfl rfl rfl (Qr) (Qbl) (Q8) (QH) (λ_ _ _ _=>(zag Gaw (Qc) rfl T.maw T.Faw.kp T.baw .nil zaH (Qaj)))) zad)))))))) (zah zk8) zaY)),
  zlN hl hb gb l1 l6 q⟩
def zjQ(K:ψa):TS :=
 (zb2 (tCB (zt4 K) (zab (zcu (Qaw) (zaj 0) zbe (zaG zfC [] E0 (zab (zac 0) (zab (Qq) (QaM)))) [none]) zas)))
def zcB(K:ψa):=eqT (zjQ.eq_1 K)
def zj4(K:ψa):TS :=
 (zd2 (tOr (zf7 (tB (QS))) (zcp (tOp rNe (QaU) (tCB (Qf) (QV))))) (QD) zb7)
def zcC(K:ψa):=eqT (zj4.eq_1 K)
def zjC(K:ψa):TS :=
 (zbf (ze2 (zj4 K))
 (zjQ K))
theorem zpA{v:V}{l:Addr}{bs:List V}(hl:H l=some (.lst bs))(h:(NL H v∧Q (QbM) H)∨∃(a:Addr) (xs:List V),v=.ref a∧H a=some (QbW)∧xs.length≤900∧(∀x∈xs,Tg H x)∧∀H',zaP H H'→Q (.bl (gP bs.length xs)) H') :
  zjC K { nx:=λ_ H'=>Q .non H',rt:=Q } (L2.start (Qad) [v,.ref l]) H:=by
 unfold zjC
 simp_all only [zcB,zcC,zac]
 rcases h with ⟨hn,q⟩ | ⟨a,xs,rfl,ha,xl,ht,q⟩
 ·refine(QB)
  simp_all only [zcB,zcC,zac]
  exact zwe hn ⟨false,rfl,zbj (λ_=>q) (Qv)⟩
 refine⟨λσ H'=>xs.length=bs.length∧H'=H∧σ=[some (.ref a),some (Qa1)],?_,?_⟩
 ·simp_all only [zcB,zcC,zac]
  refine zcv ha (Qaa)
  refine zbj (Qj) (Qao)
  refine⟨_,.inl (SqL.of ha),_,.inl (SqL.of hl),zbj (Qcz) (λz=>⟨by omega,rfl⟩)⟩
  have:=q H (Qau)
  rw[show gP bs.length xs=false from by unfold gP;rw[decide_eq_false (Qd)];rfl] at this
  exact this
 ·rintro σ H' ⟨ln,e,rfl⟩
  rw[e]
  simp_all only [zcB,zcC,zac]
  refine⟨⟨_,SqL.of ha⟩,λD hD=>?_⟩
  refine ziK (wi 0 60) (SqL.of ha) hD xl (λi x H1 R ex s hR=>?_) λH1 s hD1=>?_
  ·simp_all only [zcB,zcC,zac]
   exact⟨x,0,60,rfl,(ht x (zan ex)).same s,hR _ (Qau)⟩
  ·simp_all only [zcB,zcC,zac]
   refine⟨_,SqL.of hD1,?_⟩
   have:=q H1 s
   rw[show gP bs.length xs=(xs.map (wi 0 60)).all id from by unfold gP;rw[decide_eq_true ln,List.all_map];rfl] at this
   exact this
theorem zpO:zaJ (Qad) (Qad) (zai zh8):=(Qa)
theorem zku(T:Txt K mg a):zcr P w K mg base CX0 3 a.fai a.dai (Qad) zhV:=by
 have GM:=zgm (P:=P) (w:=w) (base:=base) T
 refine T.Fai.ok zpO (Qk) (Qe)
 all_goals obtain⟨v,l,bs,rfl,hl,h⟩:=h
 ·rfl
 exact⟨zjC K,(zaf (zbz (zb1 (PW.pt (zeY (zbW (zbu (QG))) (zd6 (zbi zi1 (QI) (QbZ) (zbd _))))) (QZ) zaY))
 (zah (zaE (zaq (zfR rfl) rfl T.z_all ψq1 (zaa (zcc (sc:=zai zh8) (N:=["thing","boxes"]) (Nc:=["count"]) (cap:=[none]) rfl rfl rfl (Qr) (Qbl) (λ_ _ _ _=>(zak (i:=0) (show ψk (["count"]:List Str) from by decide) rfl (Qg))) (QH) (λ_ _ _ _=>(zag GM (Qc) rfl T.mM T.FM.kp T.bM .nil zaH (zaa (pv 0) (zaa zae (zaa (zio rfl T.m_MOST_LOOKS ⟨_,rfl⟩) zad)))))) zad))))),
  zpA hl h⟩
def zf8:Sp:=λvs H Q _=>∃n:Int,vs=[.int n]∧0≤n∧n≤60∧Q .non H
def zfI:TS :=
 (zd2 (zf7 (tB (zaG zfC [] E0 (zab (zac 0) (zab (Qq) (QaM)))))) zoF zb7)
theorem zke{n:Int}(n0:0≤n)(n1:n≤60)(q:Q .non H):zfI { nx:=λ_ H'=>Q .non H',rt:=Q } (L2.start ["budget"] [.int n]) H:=by
 unfold zfI
 simp_all only [zac]
 exact⟨.int n,0,60,rfl,.int n,true,by rw[show wi 0 60 (V.int n)=true from decide_eq_true ⟨n0,n1⟩],zbj (Qj) (λ_=>q)⟩
theorem zkj:zaJ ["budget"] ["budget"] (zai zfQ):=(Qa)
theorem zg7(T:Txt K mg a):zcr P w K mg base CX0 3 a.fah a.dah ["budget"] zf8:=by
 have GM:=zgm (P:=P) (w:=w) (base:=base) T
 refine T.Fah.ok zkj (Qk) (Qe)
 all_goals obtain⟨n,rfl,n0,n1,q⟩:=h
 ·rfl
 exact⟨zfI,(zah (zb1 (zbW (zbu (zag GM (Qc) rfl T.mM T.FM.kp T.bM .nil zaH (zaa (pv 0) (zaa zae (zaa (zio rfl T.m_MOST_BUDGET ⟨_,rfl⟩) zad)))))) (zah zk8) zaY)),
  zke n0 n1 q⟩
def zo9:Sp:=λvs H Q _=>∃(l:Addr) (ts:List Addr) (bs:List Box) (bud:Int),vs=[.ref l,.int bud]∧H l=some (Q4)∧Tps bx H ts bs∧bs.length≤6∧∀(c:Bool) (H':Hp),zaP H H'→(c=true↔(QaY)∧(QbL).sum≤bud)→Q (.bl c) H'
def zjX(K:ψa):TS :=
 (zb2 (zeX (tCB (zt4 K) (zab (zcu (Qaw) (zed K 3 (zaQ (zaj 0) (zaQ (zaj 1) (zaQ (zaj 2) zd9)))) zbe (tOp rEq (zac 1) (zac 2)) [none,none,none]) zas)) (tOp (Q5) (tCB (zpH K) (zab (zcu (Qaw) (zaj 0) zbe (QE) [none]) zas)) (zac 1))))
theorem zpK{l:Addr}{ts:List Addr}{bs:List Box}{bud:Int}(hl:H l=some (Q4))(T:Tps bx H ts bs)(l6:bs.length≤6)(q:∀(c:Bool) (H':Hp),zaP H H'→(c=true↔(QaY)∧(QbL).sum≤bud)→Q (.bl c) H') :
  zjX K { nx:=λ_ H'=>Q .non H',rt:=Q } (L2.start (QaQ) [.ref l,.int bud]) H:=by
 unfold zjX
 simp_all only [zac]
 refine(QaB)
 refine zdR (K:=K) (xs:=ts.map V.ref) (λi ys σ H'=>zaP H H'∧ys=((bs.take i).map λb=>decide (b.2.1=b.2.2)).map V.bl∧∃x y z,σ=[x,y,z]) ⟨zat hD _,rfl,_,_,_,rfl⟩ ?_ ?_ ?_
 ·rintro i ys σ H' _ ⟨s,_⟩
  exact SqL.of (s _ _ hl)
 ·rintro i x ys σ H' hx hD' ⟨s,rfl,x,y,z,rfl⟩
  obtain⟨t,ht,rfl⟩:=zaO hx
  obtain⟨b,hb1,hb2⟩:=T.at ht
  simp_all only [zac]
  refine⟨_,SqT.of (s _ _ hb2),rfl,_,_,rfl,_,_,rfl,_,_,rfl,rfl,?_⟩
  simp_all only [zac]
  refine⟨_,hD',zbR (by rw[ψb,ψb,ψM];omega),_,zam,s.put hD,?_⟩
  rw[ψw,hb1]
  simp
 ·rintro ys σ H1 h1 ⟨s1,rfl,x,y,z,rfl⟩
  rw[ψb,T.1,ψJ] at h1
  simp_all only [zac]
  refine⟨_,SqL.of h1,?_⟩
  by_cases c:∀b∈bs,b.2.1=b.2.2
  ·have e:((bs.map λb=>decide (b.2.1=b.2.2)).all id)=true:=List.all_eq_true.mpr λx hx=>by
    obtain⟨b,hb,rfl⟩:=List.mem_map.mp hx
    exact decide_eq_true (c b hb)
   rw[e]
   refine zpc ?_
   have hl1:=s1 _ _ hl
   refine⟨⟨_,SqL.of hl1⟩,λD2 hD2=>?_⟩
   refine zfD (vs:=(QbL).map V.int) hl1 (by simp[T.1]) (by simp;omega) hD2 (λi x v H' R hx hv s k=>?_) λH2 s2 h2=>?_
   ·obtain⟨t,ht,rfl⟩:=zaO hx
    obtain⟨w,hw,rfl⟩:=zaO hv
    obtain⟨b,hb,rfl⟩:=zaO hw
    obtain⟨b',hb1,hb2⟩:=T.at ht
    rw[hb] at hb1
    cases hb1
    simp_all only [zac]
    exact⟨_,SqT.of (s _ _ (s1 _ _ hb2)),_,rfl,k _ (Qau)⟩
   ·simp_all only [zac]
    refine⟨_,SqL.of h2,?_⟩
    exact q _ H2 (QbI) ⟨λh=>⟨c,of_decide_eq_true h⟩,λh=>decide_eq_true h.2⟩
  ·have e:((bs.map λb=>decide (b.2.1=b.2.2)).all id)=false:=by
    rw[Bool.eq_false_iff]
    intro z
    refine c λb hb=>?_
    have:=List.all_eq_true.mp z _ (List.mem_map.mpr ⟨b,hb,rfl⟩)
    exact of_decide_eq_true this
   rw[e]
   refine zlV ?_
   exact q _ H1 s1 ⟨λh=>absurd h (Qm),λh=>absurd h.1 c⟩
theorem zqb:zaJ (QaQ) (QaQ) (zai zgz):=(Qa)
theorem zqe(T:Txt K mg a):zcr P w K mg base CX0 1 a.faQ a.daQ (QaQ) zo9:=by
 refine T.FaQ.ok zqb (Qk) (Qe)
 all_goals obtain⟨l,ts,bs,bud,rfl,hl,T',l6,q⟩:=h
 ·rfl
 exact⟨zjX K,(zah (zaE (zdi (zaq (zfR rfl) rfl T.z_all ψq1 (zaa (zcc (sc:=zai zgz) (N:=["boxes","budget"]) (Nc:=["cost","hits","of"]) (cap:=[none,none,none]) rfl rfl rfl (Qr) (Qbl) (λ_ _ _ _=>(zbp rfl (zal (zak (i:=0) (Qbq) rfl (Qg)) (zal (zak (i:=1) (Qbq) rfl (Qg)) (zal (zak (i:=2) (Qbq) rfl (Qg)) zaZ))))) (QH) (λ_ _ _ _=>(zcg zp1 (pv 1) (pv 2) (zbd _)))) zad)) (ze0 (zcg zlI (zaq (zdo rfl) rfl T.z_sum ψW (zaa (zcc (sc:=zai zgz) (N:=["boxes","budget"]) (Nc:=["box"]) (cap:=[none]) rfl rfl rfl (Qr) (Qbl) (Q8) (QH) (λ_ _ _ _=>(Qh))) zad)) (pv 1) (zbd _)))))),
  zpK hl T' l6 q⟩
def zbv(ts:List Addr):List Int:=ts.map λ_=>(1:Int)
def zvW:Sp:=λvs H Q _=>∃(l:Addr) (ts:List Addr),vs=[.ref l]∧H l=some (Q4)∧ts.length≤6∧∀(r wr mr pr wl pp cl t u:Addr) (H':Hp),zaP H H'→H' r=some (QbO)→H' wr=some (.tup (fr 1))→H' pr=some (Qah)→H' wl=some (QcM)→H' pp=some (.tup (fr 0))→H' cl=some (QcM)→MxH H' mr [t] [(u,zbv ts,1)]→H wl=none→H cl=none→H u=none→Q (QT) H'
def zfS(K:ψa):TS :=
 (zbf (zbq (zcu (Qaw) (zaj 0) zbe (Qi) [none]) (zaj 1))
 (zb2 (zf6 (zab (zf6 (zab (Qi) (Qb3))) (zab (zhK (zab (zf6 (zab (Qs) (Qb3))) zas)) (zab (zf6 (zab (Qs) (zab (zf6 (zab (Qq) (Qb3))) (zab (Qs) zas)))) zas))))))
theorem zkd{l:Addr}{ts:List Addr}(hl:H l=some (Q4))(l6:ts.length≤6)(q:∀(r wr mr pr wl pp cl t u:Addr) (H':Hp),zaP H H'→H' r=some (QbO)→H' wr=some (.tup (fr 1))→H' pr=some (Qah)→H' wl=some (QcM)→H' pp=some (.tup (fr 0))→H' cl=some (QcM)→MxH H' mr [t] [(u,zbv ts,1)]→H wl=none→H cl=none→H u=none→Q (QT) H') :
  zfS K { nx:=λ_ H'=>Q .non H',rt:=Q } (L2.start ["boxes","ones"] [.ref l]) H:=by
 unfold zfS
 simp_all only [zac]
 refine(QaB)
 refine zfD (vs:=(zbv ts).map V.int) hl (by simp[zbv]) (by simp[zbv];omega) hD (λi x v H' R _ hv s k=>?_) λH1 s1 h1=>?_
 ·obtain⟨n,en,rfl⟩:=zaO hv
  obtain⟨_,_,rfl⟩:=zaO en
  exact k _ (Qau)
 refine⟨by decide,λp1 n1=>?_⟩
 have s2:=zat n1 (.tup [V.int 1,V.int 1])
 have h2:(L2.upd H1 p1 (.tup [V.int 1,V.int 1])) p1=some (.tup [V.int 1,V.int 1]):=zam
 generalize L2.upd H1 p1 (.tup [V.int 1,V.int 1])=H2 at s2 h2 ⊢
 refine⟨_,rfl,_,.inl (SqL.of (s2 _ _ h1)),λp2 n2=>?_⟩
 have s3:=zat n2 (QcM)
 have h3:(L2.upd H2 p2 (QcM)) p2=some (.lst (Q0)):=zam
 generalize L2.upd H2 p2 (.lst (Q0))=H3 at s3 h3 ⊢
 refine⟨by decide,λp3 n3=>?_⟩
 have s4:=zat n3 (.tup [V.ref p2,V.int 1])
 have h4:(L2.upd H3 p3 (.tup [V.ref p2,V.int 1])) p3=some (.tup [V.ref p2,V.int 1]):=zam
 generalize L2.upd H3 p3 (.tup [V.ref p2,V.int 1])=H4 at s4 h4 ⊢
 refine⟨by decide,λp4 n4=>?_⟩
 have s5:=zat n4 (.lst [V.ref p3])
 have h5:(L2.upd H4 p4 (.lst [V.ref p3])) p4=some (.lst [V.ref p3]):=zam
 generalize L2.upd H4 p4 (.lst [V.ref p3])=H5 at s5 h5 ⊢
 have S5:=s2.trans (s3.trans (s4.trans s5))
 refine⟨_,rfl,_,.inl (SqL.of (S5 _ _ h1)),λp5 n5=>?_⟩
 have s6:=zat n5 (QcM)
 have h6:(L2.upd H5 p5 (QcM)) p5=some (.lst (Q0)):=zam
 generalize L2.upd H5 p5 (.lst (Q0))=H6 at s6 h6 ⊢
 refine⟨by decide,λp6 n6=>?_⟩
 have s7:=zat n6 (.tup [V.int 0,V.int 1])
 have h7:(L2.upd H6 p6 (.tup [V.int 0,V.int 1])) p6=some (.tup [V.int 0,V.int 1]):=zam
 generalize L2.upd H6 p6 (.tup [V.int 0,V.int 1])=H7 at s7 h7 ⊢
 refine⟨_,rfl,_,.inl (SqL.of (s7 _ _ (s6 _ _ (S5 _ _ h1)))),λp7 n7=>?_⟩
 have s8:=zat n7 (QcM)
 have h8:(L2.upd H7 p7 (QcM)) p7=some (.lst (Q0)):=zam
 generalize L2.upd H7 p7 (.lst (Q0))=H8 at s8 h8 ⊢
 refine⟨by decide,λp8 n8=>?_⟩
 have s9:=zat n8 (.tup [V.ref p5,V.ref p6,V.ref p7])
 have h9:(L2.upd H8 p8 (.tup [V.ref p5,V.ref p6,V.ref p7])) p8=some (.tup [V.ref p5,V.ref p6,V.ref p7]):=zam
 generalize L2.upd H8 p8 (.tup [V.ref p5,V.ref p6,V.ref p7])=H9 at s9 h9 ⊢
 refine⟨by decide,λr nr=>?_⟩
 have sa:=zat nr (.tup [V.ref p1,V.ref p4,V.ref p8])
 have ha:(L2.upd H9 r (.tup [V.ref p1,V.ref p4,V.ref p8])) r=some (.tup [V.ref p1,V.ref p4,V.ref p8]):=zam
 generalize L2.upd H9 r (.tup [V.ref p1,V.ref p4,V.ref p8])=Ha at sa ha ⊢
 have S9:=s8.trans (s9.trans sa)
 have S5a:=s6.trans (s7.trans S9)
 refine q r p1 p4 p8 p5 p6 p7 p3 p2 Ha (s1.trans (S5.trans S5a)) ha (S5a _ _ (s5 _ _ (s4 _ _ (s3 _ _ h2)))) (sa _ _ h9) (S9 _ _ (s7 _ _ h6)) (S9 _ _ h7) (sa _ _ (s9 _ _ h8)) ⟨S5a _ _ h5,Tps.single (S5a _ _ (s5 _ _ h4)),λx hx=>?_⟩ ((s1.trans S5).free n5) ((s1.trans (S5.trans (s6.trans s7))).free n7) ((QbI).free n2)
 rw[List.mem_singleton.mp hx]
 exact S5a _ _ (s5 _ _ (s4 _ _ h3))
theorem zhm:zaJ ["boxes","ones"] ["boxes"] (zai zet):=(Qa)
theorem zkb(T:Txt K mg a):zcr P w K mg base CX0 1 a.faP a.daP ["boxes"] zvW:=by
 refine T.FaP.ok zhm (Qk) (Qe)
 all_goals obtain⟨l,ts,rfl,hl,l6,q⟩:=h
 ·rfl
 exact⟨zfS K,(zaf (zcS (i:=1) zhm.nd rfl rfl (sc:=zai zet) (N:=["boxes","ones"]) (Nc:=["box"]) (cap:=[none]) rfl rfl rfl (Qr) (Qbl) (Q8) (QH) (λ_ _ _ _=>zae))
 (zah (zaE (zbI (zaa (zbI (Qb9)) (zaa (zcl (zaa (zbI (zaa (QaR) (Qam))) zad)) (zaa (zbI (zaa (QaR) (zaa (zbI (Qb9)) (zaa (QaR) zad)))) zad))))))),
  zkd hl l6 q⟩
abbrev Pw:=List Int×Int
def wsm(xs:List Pw):Int:=(QK).sum
def psm(bs:List Box)(xs:List Pw):Int:=(xs.map λx=>x.2*(zaR bs x.1).sum).sum
def csm(b:Box)(k:Nat)(xs:List Pw):Rat:=(xs.map λx=>(x.2:Rat)*chq b (x.1.getD k 0)).sum
def zn2(bs:List Box)(Ws ms:List Int):Rat:=(ψd (λ(w:Int) (c:Rat)=>(w:Rat)*c) Ws (zm5 bs ms)).sum
structure zui (bs:List Box) (bud:Int) (V:Rat) (xs:List Pw):Prop where
 co:psm bs xs≤bud*wsm xs
 ch:∀(k:Nat) b,bs[k]?=some b→V*(wsm xs:Rat)≤csm b k xs
def Mrk(b:Box)(w:Int)(P:Rat)(n:Int):Prop:=(w:Rat)*gnq b n≤P*(b.1:Rat)∧(0<n→P*(b.1:Rat)≤(w:Rat)*gnq b (n - 1))
structure zvD (bs:List Box) (bud:Int) (V:Rat) (Ws:List Int) (P:Rat) (ns:List Int):Prop where
 mr:∀(i:Nat) b w n,bs[i]?=some b→Ws[i]?=some w→ns[i]?=some n→Mrk b w P n
 sm:zn2 bs Ws ns+P*((bud - (zaR bs ns).sum:Int):Rat)≤V*(Ws.sum:Rat)
structure zvS (bs:List Box) (bud:Int) (W:Rat) (xs:List Pw) (Ws:List Int) (P:Rat) (ns:List Int):Prop where
 bW:Bq 1300 W
 x1:1≤xs.length
 xn:xs.length≤bs.length+1
 pl:∀x∈xs,x.1.length=bs.length∧∀m∈x.1,0≤m∧m≤60
 xw:∀x∈xs,1≤x.2∧Bd 1800 x.2
 seek:zui bs bud W xs
 one:(∀b∈bs,b.1=1)→∀x∈xs,x.1.sum≤bud
 lw:Ws.length=bs.length
 ww:∀w∈Ws,1≤w∧Bd 2700 w
 p0:0≤P
 pb:Bq 2700 P
 ln:ns.length=bs.length
 nn:∀n∈ns,0≤n∧n≤60
 hide:zvD bs bud W Ws P ns
theorem zsC{P:Rat}:∀{bs:List Box} {ns Ws ms:List Int},(∀(i:Nat) b n w,bs[i]?=some b→ns[i]?=some n→Ws[i]?=some w→(w:Rat)=wq b n*P)→ns.length=bs.length→Ws.length=bs.length→ms.length=bs.length →
  (Ws.sum:Rat)=(wqs bs ns).sum*P∧zn2 bs Ws ms=(ψd (λx y:Rat=>x*y) (Qas) (zm5 bs ms)).sum*P
 | [],[],[],[],_,_,_,_=>by
  refine⟨?_,?_⟩
  ·show((0:Int):Rat)=0*P
   rw[show((0:Int):Rat)=0 from rfl]
   grind
  ·simp only[zn2,wqs,zm5,ψo1,ψa1]
   grind
 | [],_::_,_,_,_,h,_,_=>by cases h
 | [],_,_::_,_,_,_,h,_=>by cases h
 | [],_,_,_::_,_,_,_,h=>by cases h
 | _::_,[],_,_,_,h,_,_=>by cases h
 | _::_,_::_,[],_,_,_,h,_=>by cases h
 | _::_,_::_,_::_,[],_,_,_,h=>by cases h
 | b::bs,n::ns,w::Ws,m::ms,h,l1,l2,l3=>by
  obtain⟨z1,z2⟩:=zsC (P:=P) (bs:=bs) (ns:=ns) (Ws:=Ws) (ms:=ms) (λi b' n' w' e1 e2 e3=>h (i+1) b' n' w' e1 e2 e3) (Nat.succ.inj l1) (Nat.succ.inj l2) (Nat.succ.inj l3)
  have h0:=h 0 b n w rfl rfl rfl
  refine⟨?_,?_⟩
  ·show(((w+Ws.sum:Int)):Rat)=(wq b n+(wqs bs ns).sum)*P
   rw[ψT,z1,h0]
   grind
  ·show(w:Rat)*chq b m+zn2 bs Ws ms=(wq b n*chq b m+(ψd (λx y:Rat=>x*y) (Qas) (zm5 bs ms)).sum)*P
   rw[z2,h0]
   grind
theorem zvS.of{bs:List Box}{ns Ws:List Int}{bud:Int}{P:Rat}{xs:List Pw}(gb:∀b∈bs,GB b)(l1:1≤bs.length)(l6:bs.length≤6)(d1:bud≤60)(L:Lev bs ns bud (Qan))(PW:PapW bs ns Ws P)(M:zvK bs bud (Qan) xs):zvS bs bud (Qan) xs Ws P ns:=by
 have W:=zhA gb L.gn (zjT l1 L.len)
 obtain⟨e1,e2⟩:=zsC PW.eq L.len PW.len L.len
 refine⟨zq6 L gb l1 l6 d1,M.l1,M.ln,M.pl,λx hx=>⟨M.w0 x hx,M.wb x hx⟩,⟨?_,λk b hk=>?_⟩,M.one,PW.len,λw hw=>⟨?_,PW.wb w hw⟩,ψB PW.p0,PW.pb,L.len,λn hn=>⟨L.n0 n hn,by have:=L.n59 n hn;omega⟩,⟨λi b w n h1 h2 h3=>?_,?_⟩⟩
 ·exact Int.le_of_eq M.co
 ·unfold csm wsm
  rw[M.ch k b hk]
  exact ψG1
 ·obtain⟨i,ei⟩:=ψr hw
  have li:=(Qbg).1
  have hb:bs[i]?=some (bs[i]'(by rw[← PW.len];exact li)):=ψc _
  have hn:ns[i]?=some (ns[i]'(by rw[L.len,← PW.len];exact li)):=ψc _
  have e:=PW.eq i _ _ w hb hn ei
  have p:=ψC1 (zmy (gb _ (zan hb)) (L.gn i _ _ hb hn)) PW.p0
  rw[← e] at p
  have:(0:Int)<w:=by exact_mod_cast p
  omega
 ·have g:=gb b (zan h1)
  have gn:=L.gn i b n h1 h3
  have e:=PW.eq i b n w h1 h3 h2
  have n0:=L.n0 n (zan h3)
  have k:(w:Rat)*gnq b n=P*(b.1:Rat):=by
   rw[e]
   unfold wq
   grind
  refine⟨by rw[k];exact ψG1,λnp=>?_⟩
  rw[← k]
  have wR:(0:Rat)≤(w:Rat):=by
   rw[e]
   exact ψB (ψC1 (zmy g gn) PW.p0)
  refine Rat.mul_le_mul_of_nonneg_left ?_ wR
  obtain⟨p0,p1,_⟩:=zlE g
  rw[zgw g,zgw g,show n.toNat=(n - 1).toNat+1 by omega,ψl1]
  have h:=(zcA (ψB p0) p1 (n - 1).toNat).2.1
  have a:=ψs1 h (ψB p0)
  have c:=ψs1 a (ψB p0)
  grind
 ·rw[e2,e1]
  have e3:(ψd (λx y:Rat=>x*y) (Qas) (zm5 bs ns)).sum=(zi4 bs ns).sum:=rfl
  rw[e3]
  have v:zfF bs ns bud*(wqs bs ns).sum=(zi4 bs ns).sum+((bud - (zaR bs ns).sum:Int):Rat):=by
   unfold zfF
   generalize (Qas).sum=S at W ⊢
   have:S≠0:=by grind
   grind
  have e4:zfF bs ns bud*((Qas).sum*P)=zfF bs ns bud*(wqs bs ns).sum*P:=by grind
  rw[e4,v]
  grind
theorem ziG(ts:List Addr):∀n∈zbv ts,n=1:=λn hn=>by
 obtain⟨_,_,e⟩:=List.mem_map.mp hn
 exact e.symm
theorem zvP(ts:List Addr):(zbv ts).length=ts.length:=ψb ..
theorem zpf(ts:List Addr):(zbv ts).sum=(ts.length:Int):=by
 induction ts with
 | nil=>rfl
 | cons t ts ih =>
  show 1+(zbv ts).sum=_
  rw[ih,ψN]
  omega
theorem zm2:∀(bs:List Box) (ts:List Addr),ts.length=bs.length→(zaR bs (zbv ts)).sum=(bs.map λb=>b.1).sum
 | [],_,_=>by simp[zaR]
 | _::_,[],h=>by cases h
 | b::bs,t::ts,h=>by
  show b.1*1+(zaR bs (zbv ts)).sum=b.1+(bs.map λb=>b.1).sum
  rw[zm2 bs ts (Nat.succ.inj h),Int.mul_one]
theorem zkS{b:Box}(g:GB b)(h:b.2.1=b.2.2):chq b 1=1∧gnq b 1=0:=by
 have o0:(b.2.2:Rat)≠0:=λz=>by
  have:b.2.2=0:=by exact_mod_cast z
  have:=g.2.2.1
  have:=g.2.2.2.1
  omega
 have p:pr b=1:=by
  unfold pr
  rw[h,ψs]
  grind
 rw[zgp g,zgw g,p,show(1:Int).toNat=0+1 from rfl,ψl1,ψv1]
 constructor <;> grind
theorem zoJ:∀(bs:List Box) (ts:List Addr),(QaF)→(QaY)→ts.length=bs.length→zn2 bs (zbv ts) (zbv ts)=((ts.length:Int):Rat)
 | [],[],_,_,_=>by
  simp only[zn2,zm5,zbv,ψu1,ψo1,ψa1]
  rfl
 | [],_::_,_,_,h=>by cases h
 | _::_,[],_,_,h=>by cases h
 | b::bs,t::ts,gb,hs,h=>by
  have ih:=zoJ bs ts (QbY) (λx hx=>hs x (Qbb)) (Nat.succ.inj h)
  show((1:Int):Rat)*chq b 1+zn2 bs (zbv ts) (zbv ts)=(((ts.length+1:Nat):Int):Rat)
  rw[ih,(zkS (gb b ψg) (hs b ψg)).1,show((ts.length+1:Nat):Int)=(ts.length:Int)+1 by omega,ψT,show((1:Int):Rat)=1 from rfl]
  grind
theorem zvS.sure{bs:List Box}{ts:List Addr}{bud:Int}(gb:∀b∈bs,GB b)(lt:ts.length=bs.length)(l1:1≤bs.length)(hs:∀b∈bs,b.2.1=b.2.2)(hc:(QbL).sum≤bud):zvS bs bud 1 [(zbv ts,1)] (zbv ts) 0 (zbv ts):=by
 have ol:=zvP ts
 have oc:=zm2 bs ts lt
 have one1:∀m:Nat,1≤m→(1:Nat)<2 ^ m:=λm h=>Nat.one_lt_two_pow (Qd)
 refine⟨⟨one1 _ (Qm),one1 _ (Qm)⟩,ψh _,by show 1≤_;omega,λx hx=>?_,λx hx=>?_,⟨?_,λk b hk=>?_⟩,λh1 x hx=>?_,by omega,λw hw=>?_,ψG1,⟨Nat.pow_pos (Qm),one1 _ (Qm)⟩,by omega,λn hn=>?_,⟨λi b w n e1 e2 e3=>?_,?_⟩⟩
 ·rw[List.mem_singleton.mp hx]
  exact⟨by show(zbv ts).length=_;omega,λm hm=>by rw[ziG ts m hm];decide⟩
 ·rw[List.mem_singleton.mp hx]
  exact⟨Int.le_refl 1,one1 _ (Qm)⟩
 ·show 1*(zaR bs (zbv ts)).sum+0≤bud*(1+0)
  rw[oc]
  omega
 ·have lk:=(QcD).1
  have e:(zbv ts).getD k 0=1:=by
   rw[ψy,ψc (Qd)]
   exact ziG ts _ (ψA1 _)
  show(1:Rat)*((1+0:Int):Rat)≤((1:Int):Rat)*chq b ((zbv ts).getD k 0)+0
  rw[e,(zkS (gb b (zan hk)) (hs b (zan hk))).1,show((1+0:Int):Rat)=1 from rfl,show((1:Int):Rat)=1 from rfl]
  grind
 ·rw[List.mem_singleton.mp hx]
  show(zbv ts).sum≤bud
  rw[zpf]
  have:(QbL).sum=(bs.length:Int):=by
   clear hc oc hs gb l1 lt
   induction bs with
   | nil=>rfl
   | cons b bs ih =>
    rw[ψu,ψq,ih λx hx=>h1 x (Qbb),h1 b ψg,ψN]
    omega
  omega
 ·rw[ziG ts w hw]
  exact⟨Int.le_refl 1,one1 _ (Qm)⟩
 ·rw[ziG ts n hn]
  decide
 ·rw[ziG ts w (zan e2),ziG ts n (zan e3)]
  have g:=gb b (zan e1)
  refine⟨?_,λ_=>?_⟩
  ·rw[(zkS g (hs b (zan e1))).2]
   grind
  ·have:=zkP g (1 - 1)
   rw[show((1:Int):Rat)=1 from rfl]
   grind
 ·rw[zoJ bs ts gb hs lt,zpf]
  generalize ((bud - (zaR bs (zbv ts)).sum:Int):Rat)=C
  grind
def zhX:Sp:=λvs H Q _=>∃(l:Addr) (ts:List Addr) (bs:List Box) (bud:Int),vs=[.ref l,.int bud]∧H l=some (Q4)∧Tps bx H ts bs∧(QaF)∧1≤bs.length∧bs.length≤6∧0≤bud∧bud≤60 ∧
 ∀(r wr mr pr wl pp cl:Addr) (W P:Rat) (us:List Addr) (xs:List Mp) (Ws ns:List Int) (H':Hp),zaP H H'→H' r=some (QbO)→H' wr=some (Q9)→MxH H' mr us xs→H' pr=some (Qah)→H' wl=some (QbA)→H' pp=some (Qch)→H' cl=some (Qbd)→zvS bs bud W (QK) Ws P ns→H wl=none→H cl=none→(∀x∈xs,H x.1=none)→Q (QT) H'
def zf3(K:ψa):TS :=
 (zbf (zbq (zaG zoW [] E0 (Qy)) (zed K 2 (QaS)))
 (zb2 (zf6 (zab (zac 3) (zab (zaG ztf [] E0 (zab (zac 0) (zab (zac 2) (Qa5)))) (zab (zaG zmQ [] E0 (QcB)) zas))))))
def zcs(K:ψa):=eqT (zf3.eq_1 K)
def zff(K:ψa):TS :=
 (zbf (zkh (zaG zs0 [] E0 (QF)))
 (zbf (zkh (zaG zf8 [] E0 (QV)))
 (zbf (ze2 (zd2 (tB (zaG zo9 [] E0 (Qy))) (zb2 (zaG zvW [] E0 (QF))) zb7))
 (zf3 K))))
theorem zjP{l:Addr}{ts:List Addr}{bs:List Box}{bud:Int}(hl:H l=some (Q4))(T:Tps bx H ts bs)(gb:∀b∈bs,GB b)(l1:1≤bs.length)(l6:bs.length≤6)(d0:0≤bud)(d1:bud≤60)
  (q:∀(r wr mr pr wl pp cl:Addr) (W P:Rat) (us:List Addr) (xs:List Mp) (Ws ns:List Int) (H':Hp),zaP H H'→H' r=some (QbO)→H' wr=some (Q9)→MxH H' mr us xs→H' pr=some (Qah)→H' wl=some (QbA)→H' pp=some (Qch)→H' cl=some (Qbd)→zvS bs bud W (QK) Ws P ns→H wl=none→H cl=none→(∀x∈xs,H x.1=none)→Q (QT) H') :
  zff K { nx:=λ_ H'=>Q .non H',rt:=Q } (L2.start ["boxes","budget","counts","worth"] [.ref l,.int bud]) H:=by
 unfold zff
 simp_all only [zcs,zac]
 refine⟨l,ts,bs,rfl,hl,T,gb,l1,by omega,λH1 s1=>?_⟩
 refine⟨bud,rfl,d0,d1,?_⟩
 have hl1:=s1 _ _ hl
 have T1:=T.same s1
 refine⟨λσ H'=>zaP H1 H'∧((QaY)→bud<(bs.map λb=>b.1).sum)∧σ=[some (Qa1),some (Qbc),none,none],?_,?_⟩
 ·simp_all only [zcs,zac]
  refine⟨l,ts,bs,bud,rfl,hl1,T1,by omega,λc H2 s2 hc=>⟨c,rfl,?_⟩⟩
  cases c with
  | true =>
   obtain⟨c1,c2⟩:=hc.mp rfl
   refine zpc ⟨l,ts,rfl,s2 _ _ hl1,by have:=T.1;omega,λr wr mr pr wl pp cl t u H3 s3 a1 a2 a3 a4 a5 a6 a7 a8 a9 aa=>?_⟩
   exact q r wr mr pr wl pp cl _ _ _ _ _ _ H3 (s1.trans (Qb5)) a1 a2 a7 a3 a4 a5 a6 (zvS.sure gb T.1 l1 c1 c2) ((QbI).free a8) ((QbI).free a9) λx hx=>by rw[List.mem_singleton.mp hx];exact(QbI).free aa
  | false =>
   refine zlV ⟨s2,λh=>?_⟩
   refine ψU λz=>?_
   exact absurd (hc.mpr ⟨h,by omega⟩) (Qm)
 ·rintro σ H2 ⟨s2,hs,rfl⟩
  simp_all only [zcs,zac]
  refine⟨l,ts,bs,bud,rfl,s2 _ _ hl1,T1.same s2,gb,l1,l6,d0,d1,hs,λr pl wr ns H3 s3 h3 B L hw=>?_⟩
  simp_all only [zcs,zac]
  refine⟨_,SqT.of h3,rfl,_,_,rfl,_,_,rfl,rfl,?_⟩
  refine⟨l,pl,wr,ts,bs,ns,bud,rfl,B,L,hw,d1,λmr us xs H4 s4 Mx MO fx=>?_⟩
  refine⟨l,pl,ts,bs,ns,rfl,B.same s4,L.gn,l6,λpr wl pp cl Ws P H5 s5 a1 a2 a3 a4 PW a6 a7=>?_⟩
  have S3:=s1.trans (Qb5)
  refine⟨by decide,λr6 n6=>?_⟩
  have s6:=zat n6 (.tup [V.ref wr,V.ref mr,V.ref pr])
  have h6:(L2.upd H5 r6 (.tup [V.ref wr,V.ref mr,V.ref pr])) r6=some (.tup [V.ref wr,V.ref mr,V.ref pr]):=zam
  generalize L2.upd H5 r6 (.tup [V.ref wr,V.ref mr,V.ref pr])=H6 at s6 h6 ⊢
  exact q r6 wr mr pr wl pp cl _ _ _ _ _ _ H6 (s1.trans (s2.trans (s3.trans (s4.trans (s5.trans s6))))) h6 (s6 _ _ (s5 _ _ (s4 _ _ hw))) (Mx.same (s5.trans s6)) (s6 _ _ a1) (s6 _ _ a2) (s6 _ _ a3) (s6 _ _ a4) (zvS.of gb l1 l6 d1 L PW MO) ((S3.trans s4).free a6) ((S3.trans s4).free a7) λx hx=>S3.free (fx x hx)
theorem zeV:zaJ ["boxes","budget","counts","worth"] (QaQ) (zai zfl):=(Qa)
theorem zjW(T:Txt K mg a):zcr P w K mg base CX0 7 a.faR a.daR (QaQ) zhX:=by
 have GaL:=zhu (P:=P) (w:=w) (base:=base) T
 have GaQ:=zqe (P:=P) (w:=w) (base:=base) T
 have Gag:=zhT (P:=P) (w:=w) (base:=base) T
 have Gah:=zg7 (P:=P) (w:=w) (base:=base) T
 have GaN:=zqV (P:=P) (w:=w) (base:=base) T
 have GaO:=znB (P:=P) (w:=w) (base:=base) T
 have GaP:=zkb (P:=P) (w:=w) (base:=base) T
 refine T.FaR.ok zeV (Qk) (Qe)
 all_goals obtain⟨l,ts,bs,bud,rfl,hl,T',gb,l1,l6,d0,d1,q⟩:=h
 ·rfl
 exact⟨zff K,(zaf (zgD (zag Gag (Qc) rfl T.mag T.Fag.kp T.bag .nil zaH (Qaj)))
 (zaf (zgD (zag Gah (Qc) rfl T.mah T.Fah.kp T.bah .nil zaH (Qw)))
 (zaf (zbz (zb1 (zbu (zag GaQ (Qc) rfl T.maQ T.FaQ.kp T.baQ .nil zaH (QW))) (zah (zaE (zag GaP (Qc) rfl T.maP T.FaP.kp T.baP .nil zaH (Qaj)))) zaY))
 (zaf (zcG (zag GaL (Qc) rfl T.maL T.FaL.kp T.baL .nil zaH (QW)) (zbp rfl (zal (zak (i:=2) zeV.nd rfl (Qg)) (zal (zak (i:=3) zeV.nd rfl (Qg)) zaZ))))
 (zah (zaE (zbI (zaa (pv 3) (zaa (zag GaN (Qc) rfl T.maN T.FaN.kp T.baN .nil zaH (zaa (pv 0) (zaa (pv 2) (Qbi)))) (zaa (zag GaO (Qc) rfl T.maO T.FaO.kp T.baO .nil zaH (QcR)) zad)))))))))),
  zjP hl T' gb l1 l6 d0 d1 q⟩
inductive Sh (H:Hp):Tr→V→Prop where
 | int (i:Int):Sh H (.int i) (.int i)
 | bl (b:Bool):Sh H (.bl b) (.bl b)
 | str (x:Str):Sh H (.str x) (.str x)
 | non:Sh H .non .non
 | lst {p:Addr} {xs:List V} {ts:List Tr} (h:H p=some (QbW)) (l:xs.length=ts.length) (e:∀(i:Nat) x t,xs[i]?=some x→ts[i]?=some t→Sh H t x):Sh H (.lst ts) (Qbn)
 | tup {p:Addr} {xs:List V} {ts:List Tr} (h:H p=some (QcT)) (l:xs.length=ts.length) (e:∀(i:Nat) x t,xs[i]?=some x→ts[i]?=some t→Sh H t x):Sh H (.tup ts) (Qbn)
theorem Sh.same{H H':Hp}{t:Tr}{v:V}(h:Sh H t v)(s:zaP H H'):Sh H' t v:=by
 induction h with
 | int i=>exact .int i
 | bl b=>exact .bl b
 | str x=>exact .str x
 | non=>exact .non
 | lst h l _ ih=>exact .lst (s _ _ h) l ih
 | tup h l _ ih=>exact .tup (s _ _ h) l ih
structure ShL (H:Hp) (ts:List Tr) (xs:List V):Prop where
 len:xs.length=ts.length
 el:∀(i:Nat) x t,xs[i]?=some x→ts[i]?=some t→Sh H t x
theorem ShL.nil:ShL H [] []:=⟨rfl,λi x t e _=>by cases e⟩
theorem ShL.one{t:Tr}{x:V}(h:Sh H t x):ShL H [t] [x]:=⟨rfl,λi y u e1 e2=>by
 match i,e1,e2 with
 | 0,e1,e2=>cases e1;cases e2;exact h⟩
theorem ShL.append{ts us:List Tr}{xs ys:List V}(h:ShL H ts xs)(g:ShL H us ys):ShL H (ts++us) (xs++ys):=by
 refine⟨by rw[ψb1,ψb1,h.len,g.len],λi x t e1 e2=>?_⟩
 by_cases c:i<xs.length
 ·rw[ψi1 c] at e1
  rw[ψi1 (by rw[← h.len];exact c)] at e2
  exact h.el i x t e1 e2
 ·rw[ψe1 (Qd)] at e1
  rw[ψe1 (by rw[← h.len];omega),← h.len] at e2
  exact g.el _ x t e1 e2
theorem ShL.cons{t:Tr}{ts:List Tr}{x:V}{xs:List V}(h:Sh H t x)(g:ShL H ts xs):ShL H (t::ts) (x::xs):=(ShL.one h).append g
def inT(l m:Int):Tr→Bool
 | .int i=>decide (l≤i∧i≤m)
 | _=>false
def nnT:Tr→Bool
 | .int i=>decide (0≤i)
 | _=>false
def ivT:Tr→Int
 | .int i=>i
 | _=>0
def zgY(n:Nat):Tr→Bool
 | .lst ts=>decide (ts.length=n)&&ts.all (inT 0 60)
 | _=>false
def zpE(n:Nat):Tr→Bool
 | .lst ts=>decide (ts.length=n)&&ts.all nnT&&decide (0<(ts.map ivT).sum)
 | _=>false
def zxD:Tr→Bool
 | .int i=>decide (1≤i)
 | _=>false
def zc4(n:Nat):Tr→Bool
 | .tup [p,w]=>zgY n p&&zxD w
 | _=>false
def zmf(n:Nat):Tr→Bool
 | .lst ts=>decide (1≤ts.length)&&ts.all (zc4 n)
 | _=>false
def frT:Tr→Bool
 | .tup [.int a,.int b]=>decide (1≤b)&&decide (ψz a b=1)
 | _=>false
def ze8:Tr→Bool
 | .tup [.int a,.int b]=>decide (1≤b)&&decide (ψz a b=1)&&decide (0≤a)
 | _=>false
def zdq(n:Nat):Tr→Bool
 | .tup [w,p,c]=>zpE n w&&ze8 p&&zgY n c
 | _=>false
theorem Sh.tg{t:Tr}{v:V}(h:Sh H t v):Tg H v:=by
 cases h with
 | int i=>exact .int i
 | bl b=>exact .bl b
 | str x=>exact .str x
 | non=>exact .non
 | lst h _ _=>exact .lst h
 | tup h _ _=>exact .tup h
theorem ShL.tg{ts:List Tr}{xs:List V}(h:ShL H ts xs):∀x∈xs,Tg H x:=λx hx=>by
 obtain⟨i,ei⟩:=List.mem_iff_getElem?.mp hx
 have li:=(Qbg).1
 have:=h.len
 exact(h.el i x _ ei (ψc (Qd))).tg
theorem zkE{ts:List Tr}{v:V}(h:Sh H (.lst ts) v):∃p xs,v=.ref p∧H p=some (QbW)∧ShL H ts xs:=by
 cases h with
 | lst h l e=>exact⟨_,_,rfl,h,l,e⟩
theorem zpn{ts:List Tr}{v:V}(h:Sh H (.tup ts) v):∃p xs,v=.ref p∧H p=some (QcT)∧ShL H ts xs:=by
 cases h with
 | tup h l e=>exact⟨_,_,rfl,h,l,e⟩
theorem ShL.uncons{t:Tr}{ts:List Tr}{xs:List V}(h:ShL H (t::ts) xs):∃y ys,xs=y::ys∧Sh H t y∧ShL H ts ys:=by
 obtain⟨l,e⟩:=h
 match xs,l with
 | y::ys,l=>exact⟨y,ys,rfl,e 0 y t rfl rfl,Nat.succ.inj l,λi x u e1 e2=>e (i+1) x u e1 e2⟩
theorem ShL.unnil{xs:List V}(h:ShL H [] xs):xs=[]:=ψR h.len
theorem zla{f:Tr→Bool}{g:V→Bool}(hf:∀t v,Sh H t v→f t=g v):∀{ts:List Tr} {xs:List V},ShL H ts xs→ts.all f=xs.all g
 | [],xs,h=>by rw[h.unnil];rfl
 | t::ts,xs,h=>by
  obtain⟨y,ys,rfl,h1,h2⟩:=h.uncons
  rw[List.all_cons,List.all_cons,hf t y h1,zla hf h2]
theorem zsP{α:Type}{f:Tr→α}{g:V→α}(hf:∀t v,Sh H t v→f t=g v):∀{ts:List Tr} {xs:List V},ShL H ts xs→ts.map f=xs.map g
 | [],xs,h=>by rw[h.unnil];rfl
 | t::ts,xs,h=>by
  obtain⟨y,ys,rfl,h1,h2⟩:=h.uncons
  rw[ψu,ψu,hf t y h1,zsP hf h2]
theorem zwk{l m:Int}(t:Tr)(v:V)(h:Sh H t v):inT l m t=wi l m v:=by cases h <;> rfl
theorem zv0(t:Tr)(v:V)(h:Sh H t v):nnT t=nn v:=by cases h <;> rfl
theorem zyB(t:Tr)(v:V)(h:Sh H t v):ivT t=iv v:=by cases h <;> rfl
theorem zuc{n:Nat}{ts:List Tr}{xs:List V}(h:ShL H ts xs):zgY n (.lst ts)=gP n xs:=by
 show(decide (ts.length=n)&&ts.all (inT 0 60))=(decide (xs.length=n)&&xs.all (wi 0 60))
 rw[h.len,zla zwk h]
theorem zxN{n:Nat}{ts:List Tr}{xs:List V}(h:ShL H ts xs):zpE n (.lst ts)=gW (n:Int) xs:=by
 show(decide (ts.length=n)&&ts.all nnT&&decide (0<(ts.map ivT).sum))=(decide ((xs.length:Int)=n)&&xs.all nn&&decide (0<(xs.map iv).sum))
 rw[h.len,zla zv0 h,zsP zyB h]
 congr 2
 rw[ψm1,decide_eq_true_eq,decide_eq_true_eq]
 omega
theorem Sh.nl{t:Tr}{v:V}(h:Sh H t v):NL H v∨∃ts,t=.lst ts:=by
 cases h with
 | int i=>exact .inl (.int i)
 | bl b=>exact .inl (.bl b)
 | str x=>exact .inl (.str x)
 | non=>exact .inl .non
 | lst _ _ _=>exact .inr ⟨_,rfl⟩
 | tup h _ _=>exact .inl (.tup h)
def zwO:Tr→Bool
 | .lst _=>true
 | _=>false
def zyy:Tr→Bool
 | .tup _=>true
 | _=>false
def zoP:Tr→Bool
 | .int _=>true
 | _=>false
theorem zgT{t:Tr}{v:V}(h:Sh H t v):zoP t=isI v:=by cases h <;> rfl
theorem zkR{t:Tr}{v:V}(h:Sh H t v)(q:Q (.bl (zwO t)) H):zg2 K [v,.ty "list"] H Q:=by
 cases h with
 | int i=>exact zbU (.int i) (ziL K) q
 | bl b=>exact zbU (.bl b) (zh9 K) q
 | str x=>exact zbU (.str x) (ziS K) q
 | non=>exact zbU .non (zfB K) q
 | lst h _ _=>exact zcv h q
 | tup h _ _=>exact zbU (.tup h) (zfh K) q
theorem zdg{t:Tr}{v:V}(h:Sh H t v)(q:Q (.bl (zyy t)) H):zg2 K [v,.ty "tuple"] H Q:=by
 cases h with
 | int i=>exact zbU (.int i) (zhS K) q
 | bl b=>exact zbU (.bl b) (zg5 K) q
 | str x=>exact zbU (.str x) (zhU K) q
 | non=>exact zbU .non (ze1 K) q
 | lst h _ _=>exact zbU (.lst h) (zhd K) q
 | tup h _ _=>exact zhB h q
inductive Szd (k:Nat):Tr→Prop where
 | int {i:Int} (h:i.natAbs≤2 ^ 2750+k):Szd k (.int i)
 | bl (b:Bool):Szd k (.bl b)
 | str (x:Str):Szd k (.str x)
 | non:Szd k .non
 | lst {ts:List Tr} (l:ts.length≤7+k) (h:∀t∈ts,Szd k t):Szd k (.lst ts)
 | tup {ts:List Tr} (l:ts.length≤7+k) (h:∀t∈ts,Szd k t):Szd k (.tup ts)
abbrev Gt:=Szd 2
theorem Szd.l{k:Nat}{ts:List Tr}(h:Szd k (.lst ts)):ts.length≤7+k:=by cases h;assumption
theorem Szd.m{k:Nat}{ts:List Tr}(h:Szd k (.lst ts)):∀t∈ts,Szd k t:=by cases h;assumption
theorem Szd.tl{k:Nat}{ts:List Tr}(h:Szd k (.tup ts)):ts.length≤7+k:=by cases h;assumption
theorem Szd.tm{k:Nat}{ts:List Tr}(h:Szd k (.tup ts)):∀t∈ts,Szd k t:=by cases h;assumption
theorem Szd.i{k:Nat}{i:Int}(h:Szd k (.int i)):i.natAbs≤2 ^ 2750+k:=by cases h;assumption
theorem Szd.mono{j k:Nat}(l:j≤k){t:Tr}(h:Szd j t):Szd k t:=by
 induction h with
 | int h=>exact .int (Qd)
 | bl b=>exact .bl b
 | str x=>exact .str x
 | non=>exact .non
 | lst l' _ ih=>exact .lst (Qd) ih
 | tup l' _ ih=>exact .tup (Qd) ih
def zwj:Tr→Pw
 | .tup [.lst us,.int w]=>(us.map ivT,w)
 | _=>([],0)
def zmh:Tr→List Pw
 | .lst ts=>ts.map zwj
 | _=>[]
theorem zrV{l m:Int}:∀{ts:List Tr},ts.all (inT l m)=true→ts=(ts.map ivT).map Tr.int∧∀i∈ts.map ivT,l≤i∧i≤m
 | [],_=>⟨rfl,λi h=>by cases h⟩
 | t::ts,h=>by
  rw[List.all_cons,ψt] at h
  obtain⟨e,hs⟩:=zrV h.2
  cases t with
  | int i =>
   refine⟨by rw[ψu,ψu,← e];rfl,λj hj=>?_⟩
   rcases List.mem_cons.mp hj with rfl | hj
   ·exact of_decide_eq_true h.1
   ·exact hs j hj
  | _=>cases h.1
theorem zhZ:∀{ns:List Int} {xs:List V},ShL H (QbF) xs→xs=ns.map V.int
 | [],xs,h=>h.unnil
 | n::ns,xs,h=>by
  obtain⟨y,ys,rfl,h1,h2⟩:=h.uncons
  cases h1
  rw[zhZ h2,ψu]
theorem zoG{n:Nat}{t:Tr}(h:zgY n t=true):∃ns:List Int,t=.lst (QbF)∧ns.length=n∧∀i∈ns,0≤i∧i≤60:=by
 unfold zgY at h
 split at h
 ·rename_i ts
  rw[ψt,decide_eq_true_eq] at h
  obtain⟨e,hs⟩:=zrV h.2
  exact⟨_,by rw[← e],by rw[ψb];exact h.1,hs⟩
 ·cases h
theorem zsv{n:Nat}{t:Tr}(h:zc4 n t=true):∃(ns:List Int) (w:Int),t=.tup [.lst (QbF),.int w]∧ns.length=n∧(∀i∈ns,0≤i∧i≤60)∧1≤w:=by
 unfold zc4 at h
 split at h
 ·rename_i p w
  rw[ψt] at h
  obtain⟨ns,rfl,l,hs⟩:=zoG h.1
  cases w with
  | int w=>exact⟨ns,w,rfl,l,hs,of_decide_eq_true h.2⟩
  | _=>cases h.2
 ·cases h
theorem zjc:∀ns:List Int,(QbF).map ivT=ns
 | []=>rfl
 | n::ns=>by rw[ψu,ψu,zjc ns];rfl
theorem zvT{k:Nat}{i:Int}(h:i.natAbs≤2 ^ 2750+k)(l:k≤9):i.natAbs<2 ^ 2751:=by
 have:(2:Nat) ^ 2750+9<2 ^ 2751:=by decide +kernel
 omega
theorem zmk{n:Nat}:∀{ts:List Tr} {vs:List V},ts.all (zc4 n)=true→ShL H ts vs→(∀t∈ts,Gt t)→∃(us:List Addr) (xs:List Mp),vs=us.map V.ref∧Tps (λx=>[mt1 x,mt2 x]) H us xs∧(∀x∈xs,H x.1=some (.lst (x.2.1.map V.int)))∧(xs.map λx=>x.2)=ts.map zwj∧∀x∈xs,x.2.1.length=n∧(Qbx)∧1≤x.2.2∧x.2.2.natAbs<2 ^ 2751
 | [],vs,_,h,_=>⟨[],[],h.unnil,.nil,λx h=>(by cases h),rfl,λx h=>(by cases h)⟩
 | t::ts,vs,a,h,g=>by
  rw[List.all_cons,ψt] at a
  obtain⟨y,ys,rfl,h1,h2⟩:=h.uncons
  obtain⟨us,xs,rfl,i1,i2,i3,i4⟩:=zmk a.2 h2 λt ht=>g t (ψe _ ht)
  obtain⟨ns,w,rfl,ln,hn,w1⟩:=zsv a.1
  obtain⟨u,zs,rfl,hu,hz⟩:=zpn h1
  obtain⟨z0,r0,rfl,s0,hz1⟩:=hz.uncons
  obtain⟨z1,r1,rfl,s1,hz2⟩:=hz1.uncons
  obtain rfl:=hz2.unnil
  obtain⟨p,ws,rfl,hp,hw⟩:=zkE s0
  obtain rfl:=zhZ hw
  cases s1
  have gw:=(g _ (ψg ..)).tm (.int w) (Qa0)
  refine⟨u::us,(p,ns,w)::xs,rfl,?_,?_,?_,?_⟩
  ·refine⟨by rw[ψN,ψN,i1.1],λi t b e1 e2=>?_⟩
   cases i with
   | zero=>cases e1;cases e2;exact hu
   | succ i=>exact i1.2 i t b e1 e2
  ·intro x hx
   rcases List.mem_cons.mp hx with rfl | hx
   ·exact hp
   ·exact i2 x hx
  ·rw[ψu,ψu,i3]
   show _=((QbF).map ivT,w)::_
   rw[zjc]
  ·intro x hx
   rcases List.mem_cons.mp hx with rfl | hx
   ·exact⟨ln,hn,w1,zvT gw.i (Qm)⟩
   ·exact i4 x hx
theorem zjJ{t:Tr}{v:V}(h:Sh H t v):(∃ts p xs,t=.tup ts∧v=.ref p∧H p=some (QcT)∧ShL H ts xs)∨zyy t=false:=by
 cases h with
 | tup h l e=>exact .inl ⟨_,_,_,rfl,rfl,h,l,e⟩
 | _=>exact .inr rfl
theorem zmd{t:Tr}{v:V}(h:Sh H t v):(∃ts p xs,t=.lst ts∧v=.ref p∧H p=some (QbW)∧ShL H ts xs)∨zwO t=false:=by
 cases h with
 | lst h l e=>exact .inl ⟨_,_,_,rfl,rfl,h,l,e⟩
 | _=>exact .inr rfl
theorem len2{α:Type}{ts:List α}(h:ts.length=2):∃a b,ts=[a,b]:=by
 match ts,h with
 | [a,b],_=>exact⟨a,b,rfl⟩
theorem len3{α:Type}{ts:List α}(h:ts.length=3):∃a b c,ts=[a,b,c]:=by
 match ts,h with
 | [a,b,c],_=>exact⟨a,b,c,rfl⟩
theorem zwl{t:Tr}(h:zyy t=false):frT t=false:=by cases t <;> first | rfl | cases h
theorem zrG{ts:List Tr}(h:ts.length≠2):frT (.tup ts)=false:=by
 match ts,h with
 | [],_=>rfl
 | [a],_=>cases a <;> rfl
 | [_,_],h=>exact absurd rfl h
 | a::b::_::_,_=>cases a <;> first | rfl | (cases b <;> rfl)
theorem zvV{a b:Tr}(h:zoP a=false):frT (.tup [a,b])=false:=by cases a <;> first | rfl | cases h
theorem zv4{a b:Tr}(h:zoP b=false):frT (.tup [a,b])=false:=by cases a <;> first | rfl | (cases b <;> first | rfl | cases h)
theorem zkD{t:Tr}{v:V}(h:Sh H t v)(w:zoP t=true):∃i,t=.int i∧v=.int i:=by
 cases h with
 | int i=>exact⟨i,rfl,rfl⟩
 | _=>cases w
def zq1:Sp:=λvs H Q _=>∃(t:Tr) (v:V),vs=[v]∧Sh H t v∧Q (.bl (frT t)) H
def zgb(K:ψa):TS :=
 (zb2 (zeX (tOp (QN) (QC) (Qi)) (tOp rEq (zaG zrz [] E0 (zab (QE) (zab (QC) zas))) (Qi))))
def zbY(K:ψa):=eqT (zgb.eq_1 K)
def zgd(K:ψa):TS :=
 (zd2 (tOr (zf7 (tB (zaG zda [] E0 (zab (QE) zas)))) (zf7 (tB (zaG zda [] E0 (zab (QC) zas))))) (QD) zb7)
def zbX(K:ψa):=eqT (zgd.eq_1 K)
def zgr(K:ψa):TS :=
 (zd2 (tOr (zf7 (QO)) (zcp (tOp rNe (QaU) (QX)))) (QD) zb7)
def zbS(K:ψa):=eqT (zgr.eq_1 K)
def zfL(K:ψa):TS :=
 (zbf (ze2 (zgr K))
 (zbf (ze2 (zgd K))
 (zgb K)))
theorem zkg{t:Tr}{v:V}(h:Sh H t v)(q:Q (.bl (frT t)) H):zfL K { nx:=λ_ H'=>Q .non H',rt:=Q } (L2.start ["thing"] [v]) H:=by
 unfold zfL
 simp_all only [zbY,zbX,zbS,zac]
 have no:∀{b:Prop},frT t=false→Q (QbM) H:=λe=>by rw[e] at q;exact q
 rcases zjJ h with ⟨ts,p,xs,rfl,rfl,hp,hl⟩ | hn
 ·by_cases l2:ts.length=2
  ·obtain⟨t0,t1,rfl⟩:=len2 l2
   obtain⟨x0,r0,rfl,s0,h1⟩:=hl.uncons
   obtain⟨x1,r1,rfl,s1,h2⟩:=h1.uncons
   obtain rfl:=h2.unnil
   have hP:=SqT.of (K:=K) hp
   refine⟨λσ H'=>H'=H∧σ=[some (Qbn)],?_,?_⟩
   ·simp_all only [zbY,zbX,zbS,zac]
    refine zdg h (Qaa)
    refine zbj (Qj) (Qao)
    refine(Qbo)
    exact zbj (Qv) (λ_=>rfl)
   ·rintro σ H' ⟨e,rfl⟩
    rw[e]
    refine⟨λσ H'=>H'=H∧σ=[some (Qbn)]∧zoP t0=true∧zoP t1=true,?_,?_⟩
    ·simp_all only [zbY,zbX,zbS,zac]
     refine⟨_,hP,_,rfl,x0,rfl,s0.tg,_,rfl,?_⟩
     rw[← zgT s0]
     cases w0:zoP t0 with
     | false=>exact zbj (λ_=>no (b:=True) (zvV w0)) (Qv)
     | true =>
      refine zbj (Qj) (Qao)
      refine⟨_,hP,_,rfl,x1,rfl,s1.tg,_,rfl,?_⟩
      rw[← zgT s1]
      cases w1:zoP t1 with
      | false=>exact zbj (λ_=>no (b:=True) (zv4 w1)) (Qv)
      | true=>exact zbj (Qj) (λ_=>⟨rfl,rfl,rfl⟩)
    ·rintro σ H' ⟨e,rfl,w0,w1⟩
     rw[e]
     obtain⟨a,rfl,rfl⟩:=zkD s0 w0
     obtain⟨b,rfl,rfl⟩:=zkD s1 w1
     simp_all only [zbY,zbX,zbS,zac]
     refine⟨_,hP,_,rfl,_,rfl,?_⟩
     have qf:frT (.tup [.int a,.int b])=(decide (1≤b)&&decide (ψz a b=1)):=rfl
     rw[qf] at q
     by_cases b1:1≤b
     ·rw[decide_eq_true b1,ψz1] at q
      refine zbj (Qao) (λz=>absurd b1 z)
      refine⟨_,hP,_,rfl,_,hP,_,rfl,a,b,rfl,?_⟩
      refine⟨rfl,?_⟩
      have:decide (V.int ((ψz a b:Nat):Int)=V.int 1)=decide (ψz a b=1):=by
       rw[ψm1,decide_eq_true_eq,decide_eq_true_eq]
       exact⟨λz=>by have:=V.int.inj z;omega,λz=>by rw[z];rfl⟩
      rw[this]
      exact q
     ·rw[decide_eq_false b1,ψc1] at q
      exact zbj (λz=>absurd z b1) (λ_=>q)
  ·refine(QB)
   simp_all only [zbY,zbX,zbS,zac]
   refine zdg h (Qaa)
   refine zbj (Qj) (Qao)
   refine⟨_,.inr (SqT.of hp),?_⟩
   have:=hl.len
   exact zbj (λ_=>no (b:=True) (zrG l2)) (QbD)
 ·refine(QB)
  simp_all only [zbY,zbX,zbS,zac]
  refine zdg h (QU)
  rw[hn]
  exact zbj (λ_=>no (b:=True) (zwl hn)) (Qv)
theorem zki:zaJ ["thing"] ["thing"] (zai zfW):=(Qa)
theorem zkl(T:Txt K mg a):zcr P w K mg base CX0 2 a.fau a.dau ["thing"] zq1:=by
 have GN:=zgK (P:=P) (w:=w) (base:=base) T
 have GI:=zfV (P:=P) (w:=w) (base:=base) T
 refine T.Fau.ok zki (Qk) (Qe)
 all_goals obtain⟨t,v,rfl,h,q⟩:=h
 ·rfl
 exact⟨zfL K,(zaf (Qu)
 (zaf (zbz (zb1 (PW.pt (zeY (zbW (zbu (Qbk))) (zd6 (zbW (zbu (Qbk)))))) (QZ) zaY))
 (zah (zaE (zdi (Qcj) (ze0 (zcg zp1 (zag GN (Qc) rfl T.mN T.FN.kp T.bN .nil zaH (zaa (Qh) (zaa (Qh) zad))) zae (zbd _)))))))),
  zkg h q⟩
theorem zl4{n:Nat}{t:Tr}(h:zyy t=false):zc4 n t=false:=by cases t <;> first | rfl | cases h
theorem zkI{n:Nat}{ts:List Tr}(h:ts.length≠2):zc4 n (.tup ts)=false:=by
 match ts,h with
 | [],_=>rfl
 | [_],_=>rfl
 | [_,_],h=>exact absurd rfl h
 | _::_::_::_,_=>rfl
theorem zqX{t:Tr}{v:V}{l:Addr}{bs:List V}(hl:H l=some (.lst bs))(h:Sh H t v)(sz:∀ts,t=.lst ts→ts.length≤900)(q:∀H',zaP H H'→Q (.bl (zgY bs.length t)) H'):zhV [v,.ref l] H Q E0:=by
 refine⟨v,l,bs,rfl,hl,?_⟩
 rcases h.nl with hn | ⟨ts,rfl⟩
 ·have:zgY bs.length t=false:=by cases hn <;> cases h <;> first | rfl | (exact absurd ‹H _=some (HO.lst _)› (by rw[‹H _=some (HO.tup _)›];exact nofun))
  rw[this] at q
  exact .inl ⟨hn,q H (Qau)⟩
 ·obtain⟨p,xs,rfl,hp,hx⟩:=zkE h
  rw[zuc hx] at q
  exact .inr ⟨p,xs,rfl,hp,by rw[hx.len];exact sz ts rfl,hx.tg,q⟩
def zpr:Sp:=λvs H Q _=>∃(t:Tr) (v:V) (l:Addr) (bs:List V),vs=[v,.ref l]∧H l=some (.lst bs)∧Sh H t v∧(∀ts,t=.tup ts→∀us,.lst us∈ts→us.length≤900)∧∀H',zaP H H'→Q (.bl (zc4 bs.length t)) H'
def ziN(K:ψa):TS :=
 (zb2 (zeX (zaG zhV [] E0 (zab (QE) (QV))) (zeX (zaG zda [] E0 (zab (QC) zas)) (tOp (QN) (QC) (Qi)))))
def zcI(K:ψa):=eqT (ziN.eq_1 K)
def ziV(K:ψa):TS :=
 (zd2 (tOr (zf7 (QO)) (zcp (tOp rNe (QaU) (QX)))) (QD) zb7)
def zcL(K:ψa):=eqT (ziV.eq_1 K)
def zim(K:ψa):TS :=
 (zbf (ze2 (ziV K))
 (ziN K))
theorem znz{t:Tr}{v:V}{l:Addr}{bs:List V}(hl:H l=some (.lst bs))(h:Sh H t v)(sz:∀ts,t=.tup ts→∀us,.lst us∈ts→us.length≤900)(q:∀H',zaP H H'→Q (.bl (zc4 bs.length t)) H'):zim K { nx:=λ_ H'=>Q .non H',rt:=Q } (L2.start (Qad) [v,.ref l]) H:=by
 unfold zim
 simp_all only [zcI,zcL,zac]
 have no:zc4 bs.length t=false→Q (QbM) H:=λe=>by rw[e] at q;exact q H (Qau)
 rcases zjJ h with ⟨ts,p,xs,rfl,rfl,hp,hx⟩ | hn
 ·by_cases l2:ts.length=2
  ·obtain⟨t0,t1,rfl⟩:=len2 l2
   obtain⟨x0,r0,rfl,s0,h1⟩:=hx.uncons
   obtain⟨x1,r1,rfl,s1,h2⟩:=h1.uncons
   obtain rfl:=h2.unnil
   have hP:=SqT.of (K:=K) hp
   refine⟨λσ H'=>H'=H∧σ=[some (Qbn),some (Qa1)],?_,?_⟩
   ·simp_all only [zcI,zcL,zac]
    refine zdg h (Qaa)
    refine zbj (Qj) (Qao)
    refine(Qbo)
    exact zbj (Qv) (λ_=>rfl)
   ·rintro σ H' ⟨e,rfl⟩
    rw[e]
    simp_all only [zcI,zcL,zac]
    refine⟨_,hP,_,rfl,zqX hl s0 (λus e=>sz _ rfl us (by rw[e];exact ψg ..)) λH1 e1=>(QU)⟩
    have qe:zc4 bs.length (.tup [t0,t1])=(zgY bs.length t0&&zxD t1):=rfl
    rw[qe] at q
    cases c0:zgY bs.length t0 with
    | false =>
     rw[c0,ψc1] at q
     exact zlV (q H1 e1)
    | true =>
     rw[c0,ψz1] at q
     have hP1:=SqT.of (K:=K) (e1 _ _ hp)
     refine zpc ⟨_,hP1,_,rfl,x1,rfl,(s1.same e1).tg,_,rfl,?_⟩
     rw[← zgT s1]
     cases w1:zoP t1 with
     | false =>
      have:zxD t1=false:=by cases t1 <;> first | rfl | cases w1
      rw[this] at q
      exact zlV (q H1 e1)
     | true =>
      obtain⟨i,rfl,rfl⟩:=zkD s1 w1
      exact zpc ⟨_,hP1,_,rfl,_,rfl,q H1 e1⟩
  ·refine(QB)
   simp_all only [zcI,zcL,zac]
   refine zdg h (Qaa)
   refine zbj (Qj) (Qao)
   refine⟨_,.inr (SqT.of hp),?_⟩
   have:=hx.len
   exact zbj (λ_=>no (zkI l2)) (QbD)
 ·refine(QB)
  simp_all only [zcI,zcL,zac]
  refine zdg h (QU)
  rw[hn]
  exact zbj (λ_=>no (zl4 hn)) (Qv)
theorem zoi:zaJ (Qad) (Qad) (zai ziu):=(Qa)
theorem zop(T:Txt K mg a):zcr P w K mg base CX0 4 a.fay a.day (Qad) zpr:=by
 have Gai:=zku (P:=P) (w:=w) (base:=base) T
 have GI:=zfV (P:=P) (w:=w) (base:=base) T
 refine T.Fay.ok zoi (Qk) (Qe)
 all_goals obtain⟨t,v,l,bs,rfl,hl,h,sz,q⟩:=h
 ·rfl
 exact⟨zim K,(zaf (Qu)
 (zah (zaE (zdi (zag Gai (Qc) rfl T.mai T.Fai.kp T.bai .nil zaH (zaa (Qh) (Qw))) (zdi (Qbk) (ze0 (Qcj))))))),
  znz hl h sz q⟩
theorem Szd.sh{t:Tr}(h:Gt t):∀ts,t=.tup ts→∀us,.lst us∈ts→us.length≤900:=λts e us hu=>by
 rw[e] at h
 have:=(h.tm _ hu).l
 omega
def zwi:Sp:=λvs H Q _=>∃(t:Tr) (v:V) (l:Addr) (bs:List V),vs=[v,.ref l]∧H l=some (.lst bs)∧Sh H t v∧Gt t∧∀H',zaP H H'→Q (.bl (zmf bs.length t)) H'
def zlq(K:ψa):TS :=
 (zb2 (zeX (QS) (zeX (tOp (QN) (QaU) (Qi)) (tCB (zt4 K) (zab (zcu (Qaw) (zaj 0) zbe (zaG zpr [] E0 (Qy)) [none,some 1]) zas)))))
theorem zsB{t:Tr}{v:V}{l:Addr}{bs:List V}(hl:H l=some (.lst bs))(h:Sh H t v)(sz:Gt t)(q:∀H',zaP H H'→Q (.bl (zmf bs.length t)) H'):zlq K { nx:=λ_ H'=>Q .non H',rt:=Q } (L2.start (Qad) [v,.ref l]) H:=by
 unfold zlq
 simp_all only [zac]
 refine zkR h (QU)
 rcases zmd h with ⟨ts,p,xs,rfl,rfl,hp,hx⟩ | hn
 ·refine zpc ⟨p,rfl,xs,.inl (SqL.of hp),?_⟩
  have qe:zmf bs.length (.lst ts)=(decide (1≤ts.length)&&ts.all (zc4 bs.length)):=rfl
  have le:=hx.len
  rw[qe] at q
  by_cases c:1≤ts.length
  ·rw[decide_eq_true c,ψz1] at q
   refine zbj (Qao) (λz=>absurd (show(1:Int)≤(xs.length:Int) by omega) z)
   refine⟨p,rfl,⟨_,SqL.of hp⟩,λD hD=>?_⟩
   have l20:=sz.l
   refine zjr (cs:=ts.map (zc4 bs.length)) (by rw[ψb];exact le) (SqL.of hp) hD (Qd) (λi x c H1 R ex ec s hR=>?_) λH1 s hD1=>?_
   ·obtain⟨u,eu,rfl⟩:=zaO ec
    simp_all only [zac]
    exact⟨u,x,l,bs,rfl,s _ _ hl,(hx.el i x u ex eu).same s,(sz.m u (zan eu)).sh,hR⟩
   ·simp_all only [zac]
    refine⟨_,SqL.of hD1,?_⟩
    have:=q H1 s
    rw[show ts.all (zc4 bs.length)=(ts.map (zc4 bs.length)).all id from by rw[List.all_map];rfl] at this
    exact this
  ·rw[decide_eq_false c,ψc1] at q
   exact zbj (λz=>absurd z (show ¬ (1:Int)≤(xs.length:Int) by omega)) (λ_=>q H (Qau))
 ·have:zmf bs.length t=false:=by cases t <;> first | rfl | cases hn
  rw[this] at q
  rw[hn]
  exact zlV (q H (Qau))
theorem zqU:zaJ (Qad) (Qad) (zai zjk):=(Qa)
theorem zq8(T:Txt K mg a):zcr P w K mg base CX0 5 a.faz a.daz (Qad) zwi:=by
 have Gay:=zop (P:=P) (w:=w) (base:=base) T
 refine T.Faz.ok zqU (Qk) (Qe)
 all_goals obtain⟨t,v,l,bs,rfl,hl,h,sz,q⟩:=h
 ·rfl
 exact⟨zlq K,(zah (zaE (zdi (QG) (zdi (zcg zjz (QI) zae (zbd _)) (ze0 (zaq (zfR rfl) rfl T.z_all ψq1 (zaa (zcc (sc:=zai zjk) (N:=["thing","boxes"]) (Nc:=["share","boxes"]) (cap:=[none,some 1]) rfl rfl rfl (Qr) (Qbl) (λ_ _ _ _=>(zak (i:=0) (show ψk (["share","boxes"]:List Str) from by decide) rfl (Qg))) (QH) (λ_ _ _ _=>(zag Gay (Qc) rfl T.may T.Fay.kp T.bay .nil zaH (QW)))) zad))))))),
  zsB hl h sz q⟩
theorem zAA{t:Tr}{v:V}{n:Nat}(h:Sh H t v)(sz:Gt t)(q:∀H',zaP H H'→Q (.bl (zpE n t)) H'):zod [v,.int (n:Int)] H Q E0:=by
 refine⟨v,n,rfl,?_⟩
 rcases h.nl with hn | ⟨ts,rfl⟩
 ·have:zpE n t=false:=by cases hn <;> cases h <;> first | rfl | (exact absurd ‹H _=some (HO.lst _)› (by rw[‹H _=some (HO.tup _)›];exact nofun))
  rw[this] at q
  exact .inl ⟨hn,q H (Qau)⟩
 ·obtain⟨p,xs,rfl,hp,hx⟩:=zkE h
  rw[zxN hx] at q
  have:=sz.l
  exact .inr ⟨p,xs,rfl,hp,by rw[hx.len];omega,hx.tg,q⟩
theorem zmg{n:Nat}{t:Tr}(h:zyy t=false):zdq n t=false:=by cases t <;> first | rfl | cases h
theorem zkw{n:Nat}{ts:List Tr}(h:ts.length≠3):zdq n (.tup ts)=false:=by
 match ts,h with
 | [],_=>rfl
 | [_],_=>rfl
 | [_,_],_=>rfl
 | [_,_,_],h=>exact absurd rfl h
 | _::_::_::_::_,_=>rfl
theorem zAi{t:Tr}(h:frT t=true):∃a b,t=.tup [.int a,.int b]∧1≤b∧ψz a b=1:=by
 unfold frT at h
 split at h
 ·rw[ψt,decide_eq_true_eq,decide_eq_true_eq] at h
  exact⟨_,_,rfl,h⟩
 ·cases h
theorem zgi{t:Tr}(h:frT t=false):ze8 t=false:=by
 unfold frT at h
 split at h
 ·show(_&&_&&_)=false
  rw[h]
  rfl
 ·rename_i hn
  unfold ze8
  split
  ·exact absurd rfl (hn _ _)
  ·rfl
theorem zrE{a b:Int}(b1:1≤b)(g:ψz a b=1):ze8 (.tup [.int a,.int b])=decide (0≤a):=by
 show(decide (1≤b)&&decide (ψz a b=1)&&decide (0≤a))=_
 rw[decide_eq_true b1,decide_eq_true g]
 rfl
def zmB:Sp:=λvs H Q _=>∃(t:Tr) (v:V) (l:Addr) (bs:List V),vs=[v,.ref l]∧H l=some (.lst bs)∧Sh H t v∧Gt t∧∀H',zaP H H'→Q (.bl (zdq bs.length t)) H'
def ze7(K:ψa):TS :=
 (zbf (zbq (zac 0) (zed K 3 (zaQ (zaj 2) (QcS))))
 (zb2 (zeX (zaG zod [] E0 (zab (zac 2) (zab (tCB (Qf) (QV)) zas))) (zeX (zaG zq1 [] E0 (Qa5)) (zeX (tOp (QN) (tOp (zbH K) (zac 3) (Qq)) (Qq)) (zaG zhV [] E0 (zab (zac 4) (QV))))))))
def zbN(K:ψa):=eqT (ze7.eq_1 K)
def ze5(K:ψa):TS :=
 (zd2 (tOr (zf7 (QO)) (zcp (tOp rNe (QaU) (QbQ)))) (QD) zb7)
def zbP(K:ψa):=eqT (ze5.eq_1 K)
def zei(K:ψa):TS :=
 (zbf (ze2 (ze5 K))
 (ze7 K))
theorem ziy{t:Tr}{v:V}{l:Addr}{bs:List V}(hl:H l=some (.lst bs))(h:Sh H t v)(sz:Gt t)(q:∀H',zaP H H'→Q (.bl (zdq bs.length t)) H'):zei K { nx:=λ_ H'=>Q .non H',rt:=Q } (L2.start ["thing","boxes","weights","price","counts"] [v,.ref l]) H:=by
 unfold zei
 simp_all only [zbN,zbP,zac]
 have no:zdq bs.length t=false→Q (QbM) H:=λe=>by rw[e] at q;exact q H (Qau)
 rcases zjJ h with ⟨ts,p,xs,rfl,rfl,hp,hx⟩ | hn
 ·by_cases l3:ts.length=3
  ·obtain⟨t0,t1,t2,rfl⟩:=len3 l3
   obtain⟨x0,r0,rfl,s0,h1⟩:=hx.uncons
   obtain⟨x1,r1,rfl,s1,h2⟩:=h1.uncons
   obtain⟨x2,r2,rfl,s2,h3⟩:=h2.uncons
   obtain rfl:=h3.unnil
   have hP:=SqT.of (K:=K) hp
   refine⟨λσ H'=>H'=H∧σ=[some (Qbn),some (Qa1),none,none,none],?_,?_⟩
   ·simp_all only [zbN,zbP,zac]
    refine zdg h (Qaa)
    refine zbj (Qj) (Qao)
    refine(Qbo)
    exact zbj (Qv) (λ_=>rfl)
   ·rintro σ H' ⟨e,rfl⟩
    rw[e]
    simp_all only [zbN,zbP,zac]
    have z0:=sz.tm t0 (Qa0)
    have z2:=sz.tm t2 (Qa0)
    have qe:zdq bs.length (.tup [t0,t1,t2])=(zpE bs.length t0&&ze8 t1&&zgY bs.length t2):=rfl
    rw[qe] at q
    refine⟨_,hP,rfl,_,_,rfl,_,_,rfl,_,_,rfl,rfl,_,.inl (SqL.of hl),zAA s0 z0 λH1 e1=>(QU)⟩
    cases c0:zpE bs.length t0 with
    | false =>
     rw[c0,ψc1,ψc1] at q
     exact zlV (q H1 e1)
    | true =>
     rw[c0,ψz1] at q
     refine zpc ⟨t1,x1,rfl,s1.same e1,_,rfl,?_⟩
     cases c1:frT t1 with
     | false =>
      rw[zgi c1,ψc1] at q
      exact zlV (q H1 e1)
     | true =>
      obtain⟨a,b,rfl,b1,g⟩:=zAi c1
      obtain⟨p1,ys,rfl,hp1,hy⟩:=zpn s1
      obtain⟨y0,r0,rfl,u0,hy1⟩:=hy.uncons
      cases u0
      refine zpc ⟨p1,rfl,_,SqT.of (e1 _ _ hp1),_,zfH (j:=0) rfl,a,rfl,?_⟩
      rw[zrE b1 g] at q
      by_cases a0:0≤a
      ·rw[decide_eq_true a0,ψz1] at q
       refine zbj (Qao) (λz=>absurd a0 z)
       exact zqX (e1 _ _ hl) (s2.same e1) (λus e=>by rw[e] at z2;have:=z2.l;omega) λH2 e2=>q H2 (e1.trans e2)
      ·rw[decide_eq_false a0,ψc1] at q
       exact zbj (λz=>absurd z a0) (λ_=>q H1 e1)
  ·refine(QB)
   simp_all only [zbN,zbP,zac]
   refine zdg h (Qaa)
   refine zbj (Qj) (Qao)
   refine⟨_,.inr (SqT.of hp),?_⟩
   have:=hx.len
   exact zbj (λ_=>no (zkw l3)) (QbD)
 ·refine(QB)
  simp_all only [zbN,zbP,zac]
  refine zdg h (QU)
  rw[hn]
  exact zbj (λ_=>no (zmg hn)) (Qv)
theorem zcT:zaJ ["thing","boxes","weights","price","counts"] (Qad) (zai zej):=(Qa)
theorem zil(T:Txt K mg a):zcr P w K mg base CX0 4 a.faC a.daC (Qad) zmB:=by
 have Gav:=zj5 (P:=P) (w:=w) (base:=base) T
 have Gau:=zkl (P:=P) (w:=w) (base:=base) T
 have Gai:=zku (P:=P) (w:=w) (base:=base) T
 refine T.FaC.ok zcT (Qk) (Qe)
 all_goals obtain⟨t,v,l,bs,rfl,hl,h,sz,q⟩:=h
 ·rfl
 exact⟨zei K,(zaf (Qu)
 (zaf (zcG (pv 0) (zbp rfl (zal (zak (i:=2) zcT.nd rfl (Qg)) (zal (zak (i:=3) zcT.nd rfl (Qg)) (zal (zak (i:=4) zcT.nd rfl (Qg)) zaZ)))))
 (zah (zaE (zdi (zag Gav (Qc) rfl T.mav T.Fav.kp T.bav .nil zaH (zaa (pv 2) (zaa (QbZ) zad))) (zdi (zag Gau (Qc) rfl T.mau T.Fau.kp T.bau .nil zaH (Qbi)) (zdi (zcg zjz (Qcp) zae (zbd _)) (ze0 (zag Gai (Qc) rfl T.mai T.Fai.kp T.bai .nil zaH (zaa (pv 4) (Qw))))))))))),
  ziy hl h sz q⟩
theorem zts{o:Int}(o1:1≤o){n:Nat}(hn:n≤60):(o ^ 60).fdiv (o ^ n)=o ^ (60 - n):=by
 have p:=zgN o1 n
 have e:o ^ 60=o ^ (60 - n)*o ^ n:=by
  rw[← Int.pow_add]
  congr 1
  omega
 rw[e,ψZ _ (ψx p)]
 exact Int.mul_ediv_cancel _ (Qd)
theorem zwd{b:Box}(g:GB b){n:Int}(n0:0≤n)(n1:n≤60)(w:Int):((w*(b.2.2 ^ n.toNat - (b.2.2 - b.2.1) ^ n.toNat)*(b.2.2 ^ 60).fdiv (b.2.2 ^ n.toNat):Int):Rat)=(w:Rat)*chq b n*((b.2.2 ^ 60:Int):Rat):=by
 have o:=zd8 g n
 have o1:1≤b.2.2:=by have:=g.2.2.1;have:=g.2.2.2.1;omega
 have hn:n.toNat≤60:=by omega
 rw[zts o1 hn]
 have e:b.2.2 ^ 60=b.2.2 ^ (60 - n.toNat)*b.2.2 ^ n.toNat:=by
  rw[← Int.pow_add]
  congr 1
  omega
 rw[e]
 unfold chq
 rw[ψs,ψm,ψm,ψm]
 have on:((b.2.2 ^ n.toNat:Int):Rat)≠0:=λz=>by
  have:(b.2.2 ^ n.toNat:Int)=0:=by exact_mod_cast z
  omega
 generalize ((b.2.2 ^ n.toNat:Int):Rat)=A at on ⊢
 generalize ((b.2.2 ^ n.toNat - (b.2.2 - b.2.1) ^ n.toNat:Int):Rat)=C
 grind
theorem zmw{a d S p w:Int}{C:Rat}(d0:0<d)(w0:0<w)(h:(p:Rat)=C*(w:Rat)):a*S*w≤p*d↔ψD a d*(S:Rat)≤C:=by
 have dR:(0:Rat)<(d:Rat):=by exact_mod_cast d0
 have wR:(0:Rat)<(w:Rat):=by exact_mod_cast w0
 have dn:(d:Rat)≠0:=by grind
 have e:a*S*w≤p*d↔((a*S*w:Int):Rat)≤((p*d:Int):Rat):=by rw[Rat.intCast_le_intCast]
 rw[e,ψm,ψm,ψm,h,ψs]
 constructor
 ·intro z
  have z2:(a:Rat) / (d:Rat)*(S:Rat)*((d:Rat)*(w:Rat))≤C*((d:Rat)*(w:Rat)):=by
   have e1:(a:Rat) / (d:Rat)*(S:Rat)*((d:Rat)*(w:Rat))=(a:Rat)*(S:Rat)*(w:Rat):=by
    generalize (d:Rat)=D at dn ⊢
    grind
   rw[e1]
   grind
  exact ψM1 z2 (ψC1 dR wR)
 ·intro z
  have z2:=ψP z (ψB (ψC1 dR wR))
  have e1:(a:Rat) / (d:Rat)*(S:Rat)*((d:Rat)*(w:Rat))=(a:Rat)*(S:Rat)*(w:Rat):=by
   generalize (d:Rat)=D at dn ⊢
   grind
  rw[e1] at z2
  grind
theorem zkn{m:Nat}:∀l:List Int,(∀w∈l,Bd m w)→Bd (m+l.length) l.sum
 | [],_=>by show(0:Nat)<2 ^ _;exact Nat.pow_pos (Qm)
 | w::l,h=>by
  have ih:=zkn l λx hx=>h x (Qbb)
  have h1:=h w ψg
  rw[ψq,ψN]
  exact((h1.mono (ψT1 m l.length)).add ih)
def wch(b:Box)(cs ws:List Int):List Rat:=ψd (λ(c w:Int)=>(w:Rat)*chq b c) cs ws
def zrl:Sp:=λvs H Q _=>∃(t c w v:Addr) (b:Box) (cs ws:List Int) (W:Rat),vs=[.ref t,.ref c,.ref w,.ref v]∧H t=some (Qbz)∧GB b∧H c=some (.lst (cs.map V.int))∧H w=some (.lst (ws.map V.int))∧H v=some (Q9)∧ws.length=cs.length∧cs.length≤9∧(∀n∈cs,0≤n∧n≤60)∧(∀w∈ws,Bd 2800 w)∧Bq 2000 W∧∀(r:Bool) (H':Hp),zaP H H'→(r=true↔W*(ws.sum:Rat)≤(wch b cs ws).sum)→Q (.bl r) H'
def zf0(K:ψa):TS :=
 (zbf (zbq (zaG zfK [] E0 (QbS)) (zed K 2 (zaQ (zaj 8) (zaQ (zaj 9) zd9))))
 (zbq (tOp (Qz) (zac 5) (tOp (Qb) (tOp (Qb) (zac 7) (tOp (QA) (zac 9) (zac 8))) (tOp (Qt) (zac 4) (zac 9)))) (zaj 5)))
def zcb(K:ψa):=eqT (zf0.eq_1 K)
def zf4(K:ψa):TS :=
 (zb2 (tOp (QN) (tOp (Qb) (zac 5) (tOp (zbH K) (zac 3) (Qi))) (tOp (Qb) (tOp (Qb) (tOp (zbH K) (zac 3) (Qq)) (tCB (zpH K) (QaE))) (zac 4))))
def zca(K:ψa):=eqT (zf4.eq_1 K)
def zfe(K:ψa):TS :=
 (zbf (zbq (zaG znZ [] E0 (zab (QaA) (QaM))) (zaj 4))
 (zbf (zbq (Qq) (zaj 5))
 (zbf (zka (zlg K (QcA)) (zed K 2 (zaQ (zaj 6) (zaQ (zaj 7) zd9)))
 (zf0 K))
 (zf4 K))))
theorem zj2{t c w v:Addr}{b:Box}{cs ws:List Int}{W:Rat}(ht:H t=some (Qbz))(g:GB b)(hc:H c=some (.lst (cs.map V.int)))(hw:H w=some (.lst (ws.map V.int)))(hv:H v=some (Q9))(len:ws.length=cs.length)(l9:cs.length≤9)(c0:∀n∈cs,0≤n∧n≤60)(bw:∀w∈ws,Bd 2800 w)(bV:Bq 2000 W)(q:∀(r:Bool) (H':Hp),zaP H H'→(r=true↔W*(ws.sum:Rat)≤(wch b cs ws).sum)→Q (.bl r) H') :
  zfe K { nx:=λ_ H'=>Q .non H',rt:=Q } (L2.start ["box","counts","weights","worth","whole","parts","count","weight","top","bottom"] [.ref t,.ref c,.ref w,.ref v]) H:=by
 unfold zfe
 simp_all only [zcb,zca,zac]
 have g':=g
 obtain⟨g1,g2,g3,g4,g5⟩:=g
 refine⟨_,SqT.of ht,_,rfl,b.2.2,60,rfl,by decide,by decide,by omega,g5,?_⟩
 simp_all only [zcb,zca,zac]
 have o60:0<b.2.2 ^ 60:=zgN (Qd) 60
 have b60:Bd 400 (b.2.2 ^ 60):=zfa (Qd) g5 (Qm)
 have lw:(wch b cs ws).length=cs.length:=by rw[wch,ψo,len];omega
 refine⟨⟨_,SqL.of hc⟩,⟨_,SqL.of hw⟩,?_⟩
 refine zpj (K:=K) (xs:=cs.map V.int) (ys:=ws.map V.int) (λi σ H'=>zaP H H'∧∃(p:Int) (y6 y7 y8 y9:Option V),(p:Rat)=((wch b cs ws).take i).sum*((b.2.2 ^ 60:Int):Rat)∧Bd (3602+i) p∧σ=[some (.ref t),some (.ref c),some (.ref w),some (Qcw),some (.int (b.2.2 ^ 60)),some (.int p),y6,y7,y8,y9]) ⟨.refl _,0,_,_,_,_,?_,?_,rfl⟩ ?_ ?_ ?_
 ·show(0:Rat)=0*_
  grind
 ·show(0:Nat)<2 ^ _
  exact Nat.pow_pos (Qm)
 ·rintro i σ H' _ ⟨s,_⟩
  exact⟨SqL.of (s _ _ hc),SqL.of (s _ _ hw)⟩
 ·rintro i x z u σ H1 hx hz ⟨s1,p,y6,y7,y8,y9,ep,bp,rfl⟩ hu
  obtain⟨n,en,rfl⟩:=zaO hx
  obtain⟨m,em,rfl⟩:=zaO hz
  obtain⟨n0,n1⟩:=c0 n (zan en)
  have bm:=bw m (zan em)
  have li:=(List.getElem?_eq_some_iff.mp en).1
  simp_all only [zcb,zca,zac]
  have s2:=zat hu (.tup [V.int n,V.int m])
  have h2:(L2.upd H1 u (.tup [V.int n,V.int m])) u=some (.tup [V.int n,V.int m]):=zam
  generalize L2.upd H1 u (.tup [V.int n,V.int m])=H2 at s2 h2 ⊢
  refine⟨_,SqT.of h2,rfl,_,_,rfl,_,_,rfl,rfl,?_⟩
  refine⟨t,b,n,rfl,s2 _ _ (s1 _ _ ht),g',n0,n1,λr H3 s3 h3=>?_⟩
  simp_all only [zcb,zca,zac]
  have o:=zd8 g' n
  have bo:=zhG g' n1
  have bt:Bd 400 ((b.2.2 - b.2.1) ^ n.toNat):=zfa (Qd) (Qd) (Qd)
  have qd:((b.2.2 ^ 60).fdiv (b.2.2 ^ n.toNat)).natAbs≤(b.2.2 ^ 60).natAbs:=by
   rw[ψZ _ (ψx o)]
   have h1:=ψV1 (b.2.2 ^ n.toNat) (ψx o60)
   have h2:=Int.ediv_nonneg (b:=b.2.2 ^ n.toNat) (ψx o60) (ψx o)
   omega
  have bt2:=(bm.mul (bo.sub bt)).mul (b60.le qd)
  refine⟨_,SqT.of h3,rfl,_,_,rfl,_,_,rfl,rfl,_,rfl,_,rfl,zdb 2800 401 bm (bo.sub bt),_,rfl,by omega,zhL 400 (Qd) bo,zdb 3201 400 (bm.mul (bo.sub bt)) (b60.le qd),s1.trans (Qb5),_,?_,?_,rfl⟩
  ·rw[ψT,ep,zwd g' n0 n1 m,wch,zjm _ _ _ en em,ψL1]
   show _=(_+((m:Rat)*chq b n+0))*_
   grind
  ·exact(bp.add (bt2.mono (Qd))).mono (Qd)
 ·rintro σ H1 ⟨s1,p,y6,y7,y8,y9,ep,bp,rfl⟩
  rw[ψb,ψb,len,Nat.min_self,← lw,ψJ] at ep
  rw[ψb,ψb,len,Nat.min_self] at bp
  have bS:=zkn ws bw
  have hv1:=SqT.of (K:=K) (s1 _ _ hv)
  simp_all only [zcb,zca,zac]
  refine⟨_,hv1,_,rfl,_,rfl,zdb 3611 2000 (bp.mono (Qd)) bV.bot,_,hv1,_,rfl,ws,SqL.of (s1 _ _ hw),_,rfl,zdb 2000 2809 bV.top (bS.mono (Qd)),zdb 4809 400 ((bV.top.mul bS).mono (Qd)) b60,?_⟩
  refine q _ H1 s1 ?_
  rw[decide_eq_true_iff,zmw (zcY W) o60 ep,ψG]
theorem zbQ:zaJ ["box","counts","weights","worth","whole","parts","count","weight","top","bottom"] (Qcs) (zai zfd):=(Qa)
theorem zjL(T:Txt K mg a):zcr P w K mg base CX0 3 a.faA a.daA (Qcs) zrl:=by
 have Gz:=zfs (P:=P) (w:=w) (base:=base) T
 have GY:=zpk (P:=P) (w:=w) (base:=base) T
 refine T.FaA.ok zbQ (Qk) (Qe)
 all_goals obtain⟨t,c,w,v,b,cs,ws,W,rfl,ht,g,hc,hw,hv,len,l9,c0,bw,bV,q⟩:=h
 ·rfl
 exact⟨zfe K,(zaf (zaN (i:=4) zbQ.nd rfl (Qg) (zag GY (Qc) rfl T.mY T.FY.kp T.bY .nil zaH (zaa (Qh) (zaa (zio rfl T.m_MOST_LOOKS ⟨_,rfl⟩) zad))))
 (zaf (zaN (i:=5) zbQ.nd rfl (Qg) zae)
 (zaf (zdA PassesOwn.never rfl (zd4 rfl T.z_zip (QcQ)) (zbp rfl (zal (zak (i:=6) zbQ.nd rfl (Qg)) (zal (zak (i:=7) zbQ.nd rfl (Qg)) zaZ)))
 (zaf (zcG (zag Gz (Qc) rfl T.mz T.Fz.kp T.bz .nil zaH (Qb4)) (zbp rfl (zal (zak (i:=8) zbQ.nd rfl (Qg)) (zal (zak (i:=9) zbQ.nd rfl (Qg)) zaZ))))
 (zah (zaN (i:=5) zbQ.nd rfl (Qg) (zao zco (pv 5) (zao zap (zao zap (pv 7) (zao zcF (pv 9) (pv 8))) (zao zc9 (pv 4) (pv 9))))))))
 (zah (zaE (zcg zjz (zao zap (pv 5) (Qcp)) (zao zap (zao zap (Qcp) (zaq (zdo rfl) rfl T.z_sum ψW (QaP))) (pv 4)) (zbd _))))))),
  zj2 ht g hc hw hv len l9 c0 bw bV q⟩
structure Bx6 (H:Hp) (l:Addr) (ts:List Addr) (bs:List Box):Prop where
 hl:H l=some (Q4)
 hb:Tps bx H ts bs
 gb:∀b∈bs,GB b
 l1:1≤bs.length
 l6:bs.length≤6
theorem Bx6.same{H H':Hp}{l:Addr}{ts:List Addr}{bs:List Box}(h:Bx6 H l ts bs)(s:zaP H H'):Bx6 H' l ts bs:=⟨s _ _ h.hl,h.hb.same s,h.gb,h.l1,h.l6⟩
theorem Bx6.bp{H:Hp}{l pl:Addr}{ts:List Addr}{bs:List Box}{ns:List Int}(h:Bx6 H l ts bs)(hp:H pl=some (Qbd))(len:ns.length=bs.length)(gn:∀n∈ns,0≤n∧n≤60):BP H l pl ts bs ns:=⟨h.hl,h.hb,hp,len,h.gb,gn,h.l1,h.l6⟩
theorem zpJ{α:Type}(f:α→Bool)(l:List α):(l.map f).all id=l.all f:=by
 rw[List.all_map]
 rfl
def col(xs:List Mp)(k:Nat):List Int:=xs.map λx=>x.2.1.getD k 0
theorem zs2(b:Box)(k:Nat):∀xs:List Mp,(wch b (col xs k) (xs.map λx=>x.2.2)).sum=csm b k (QK)
 | []=>rfl
 | x::xs=>by
  show(x.2.2:Rat)*chq b (x.2.1.getD k 0)+(wch b (col xs k) (xs.map λx=>x.2.2)).sum=(x.2.2:Rat)*chq b (x.2.1.getD k 0)+csm b k (QK)
  rw[zs2 b k xs]
theorem zsH(xs:List Mp):wsm (xs.map λx=>x.2)=(xs.map λx=>x.2.2).sum:=by
 unfold wsm
 rw[List.map_map]
 rfl
theorem zzH(bs:List Box)(xs:List Mp):psm bs (xs.map λx=>x.2)=(xs.map λx=>x.2.2*(zaR bs x.2.1).sum).sum:=by
 unfold psm
 rw[List.map_map]
 rfl
theorem zir{α:Type}{g1 g2:α→V}{p D:Addr}{us:List Addr}{as:List α}{te:TE}{rest:St}{x0 y0:Option V}{vs:List V}(hp:H p=some (Q3))(T:Tps (λa=>[g1 a,g2 a]) H us as)(lq:vs.length=as.length)(l6:vs.length≤1000)(hD:H D=none)
  (st:∀(i:Nat) (a:α) (v:V) (H':Hp) (R:VK),as[i]?=some a→vs[i]?=some v→zaP H H'→(∀H2:Hp,zaP H' H2→R v H2)→te (some (g1 a)::some (g2 a)::rest) H' R)
  (hd:∀H':Hp,zaP H H'→H' D=some (.lst vs)→Q (.ref D) H') :
  zfz (Itl K p) (Ql) zbe te D Q (x0::y0::rest) (upd H D (Qcb)):=by
 refine zdR (K:=K) (xs:=us.map V.ref) (λi ys σ H'=>zaP H H'∧ys=vs.take i∧∃x y,σ=x::y::rest) ⟨zat hD _,rfl,_,_,rfl⟩ ?_ ?_ ?_
 ·rintro i ys σ H' _ ⟨s,_⟩
  exact SqL.of (s _ _ hp)
 ·rintro i x ys σ H' hx hD' ⟨s,rfl,u,v,rfl⟩
  obtain⟨t,ht,rfl⟩:=zaO hx
  obtain⟨a,ha1,ha2⟩:=T.at ht
  have i1:=(List.getElem?_eq_some_iff.mp ha1).1
  have hw:vs[i]?=some (vs[i]'(by omega)):=ψc (Qd)
  refine⟨t,_,rfl,SqT.of (s _ _ ha2),rfl,_,_,rfl,_,_,rfl,rfl,?_⟩
  refine st i a _ _ _ ha1 hw s λH2 s2=>?_
  refine⟨D,_,_,rfl,rfl,s2 _ _ hD',zbR (by rw[ψM];omega),_,zam,(s.trans s2).put hD,?_,_,_,rfl⟩
  rw[ψw,hw]
  rfl
 ·rintro ys σ H' hD' ⟨s,rfl,u,v,rfl⟩
  rw[ψb,T.1,← lq,ψJ] at hD'
  exact hd H' s hD'
def Lps(H:Hp)(us:List Addr)(cs:List (List Int)):Prop:=us.length=cs.length∧∀(i:Nat) u c,us[i]?=some u→cs[i]?=some c→H u=some (.lst (c.map V.int))
theorem znr{n:Nat}{D:Addr}{te:TE}{rest:St}{x0:Option V}{cs:List (List Int)}(lc:cs.length=n)(l6:n≤1000)(hD:H D=none)
  (st:∀(i:Nat) (c:List Int) (H':Hp) (R:VK),i<n→cs[i]?=some c→zaP H H'→(∀(r:Addr) (H2:Hp),zaP H' H2→H' r=none→H2 r=some (.lst (c.map V.int))→R (QT) H2)→te (some (.int (0+(i:Int)))::rest) H' R)
  (hd:∀(us:List Addr) (H':Hp),zaP H H'→H' D=some (Q3)→Lps H' us cs→Q (.ref D) H') :
  zfz (Itr 0 n) (zaj 0) zbe te D Q (x0::rest) (upd H D (Qcb)):=by
 refine zor (λi ys σ H'=>zaP H H'∧(∃us:List Addr,ys=us.map V.ref∧us.length=i∧(∀(j:Nat) u c,us[j]?=some u→cs[j]?=some c→H' u=some (.lst (c.map V.int))∧u≠D))∧∃x,σ=x::rest) ⟨zat hD _,⟨[],rfl,rfl,λj u c e=>by cases e⟩,_,rfl⟩ ?_ ?_
 ·rintro i ys σ H' hi hD' ⟨s,⟨us,rfl,lu,hu⟩,x,rfl⟩
  have hc:cs[i]?=some (cs[i]'(by omega)):=ψc _
  refine st i _ H' _ hi hc s λr H2 s2 nr h2=>?_
  have rD:r≠D:=(zaT hD' nr).symm
  refine⟨D,_,_,rfl,rfl,s2 _ _ hD',zbR (by rw[ψb];omega),_,zam,(s.trans s2).put hD,⟨us++[r],by rw[ψV];rfl,by rw[ψb1,lu];rfl,λj u c e1 e2=>?_⟩,_,rfl⟩
  by_cases cj:j<us.length
  ·rw[ψi1 cj] at e1
   obtain⟨a1,a2⟩:=hu j u c e1 e2
   exact⟨by rw[zaS a2];exact s2 _ _ a1,a2⟩
  ·rw[ψe1 (Qd)] at e1
   have z:j - us.length=0:=by
    have:=(Qbh).1
    simp only[ψN,List.length_nil] at this
    omega
   rw[z] at e1
   cases e1
   have ej:j=i:=by omega
   subst ej
   rw[hc] at e2
   cases e2
   exact⟨by rw[zaS rD];exact h2,rD⟩
 ·rintro ys σ H' hD' ⟨s,⟨us,rfl,lu,hu⟩,x,rfl⟩
  exact hd us H' s hD' ⟨by omega,λi u c e1 e2=>(hu i u c e1 e2).1⟩
theorem zvx{W:Rat}{bs:List Box}{xs:List Pw}:(∀y∈bs.zipIdx,decide (W*(wsm xs:Rat)≤csm y.1 y.2 xs)=true)↔∀(k:Nat) b,bs[k]?=some b→W*(wsm xs:Rat)≤csm b k xs:=by
 simp only[decide_eq_true_eq]
 constructor
 ·intro z k b hk
  have m:(b,k)∈bs.zipIdx:=ψS (i:=k) (by rw[List.getElem?_zipIdx,hk];simp)
  exact z (b,k) m
 ·intro z y hy
  obtain⟨i,ei⟩:=ψr hy
  rw[List.getElem?_zipIdx] at ei
  obtain⟨b,eb,e⟩:=Option.map_eq_some_iff.mp ei
  rw[← e,ψU1]
  exact z i b eb
def znm:Sp:=λvs H Q _=>∃(l v:Addr) (vm:V) (bud:Int) (ts:List Addr) (bs:List Box) (t:Tr) (W:Rat),vs=[.ref l,.int bud,.ref v,vm]∧Bx6 H l ts bs∧H v=some (Q9)∧Bq 2000 W∧Sh H t vm∧Gt t∧0≤bud∧bud≤60∧∀(r:Bool) (H':Hp),zaP H H'→(r=true↔zmf bs.length t=true∧zui bs bud W (zmh t))→Q (.bl r) H'
theorem zoA{n:Nat}{t:Tr}{vm:V}(h:Sh H t vm)(g:Gt t)(c:zmf n t=true):∃(ml:Addr) (us:List Addr) (xs:List Mp),vm=.ref ml∧MxH H ml us xs∧(xs.map λx=>x.2)=zmh t∧1≤xs.length∧xs.length≤9∧∀x∈xs,x.2.1.length=n∧(Qbx)∧1≤x.2.2∧Bd 2800 x.2.2:=by
 rcases zmd h with ⟨ts,p,ys,rfl,rfl,hp,hx⟩ | hn
 ·have c:(decide (1≤ts.length)&&ts.all (zc4 n))=true:=c
  rw[ψt,decide_eq_true_eq] at c
  obtain⟨us,xs,rfl,i1,i2,i3,i4⟩:=zmk c.2 hx g.m
  have l1:=hx.len
  have l2:=g.l
  have l3:=i1.1
  rw[ψb] at l1
  refine⟨p,us,xs,rfl,⟨hp,i1,i2⟩,i3,by omega,by omega,λx hx=>?_⟩
  obtain⟨a1,a2,a3,a4⟩:=i4 x hx
  exact⟨a1,a2,a3,ψg1 a4 (QaI)⟩
 ·cases t <;> first | cases c | cases hn
def zeS(K:ψa):TS :=
 (zbf (zbq (zcu (zmW (zab (QaU) zas)) (zaj 0) zbe (zcu (zdO K (zac 1)) (Ql) zbe (tOp (zf2 K) (zac 0) (zac 2)) [none,none,some 0]) [none,some 3]) (zaj 5))
 (zb2 (tCB (zt4 K) (zab (zcu (zlg K (zab (zac 0) (Qcn))) (Ql) zbe (zaG zrl [] E0 (Qab)) [none,none,some 4,some 2]) zas))))
def zaL(K:ψa):=eqT (zeS.eq_1 K)
def zeR(K:ψa):TS :=
 (zd2 (zcp (tOp (Qat) (tCB (zpH K) (zab (zcu (zdO K (zac 3)) (Ql) zbe (tOp (Qb) (zac 1) (zaG zoU [] E0 (zab (zac 2) (QF)))) [none,none,some 0]) zas)) (tOp (Qb) (zac 1) (tCB (zpH K) (QaO))))) (QD) zb7)
def zaK(K:ψa):=eqT (zeR.eq_1 K)
def zeJ(K:ψa):TS :=
 (zbf (zbq (zcu (zdO K (zac 3)) (Ql) zbe (zac 1) [none,none]) (zaj 4))
 (zbf (ze2 (zeR K))
 (zeS K)))
def zaM(K:ψa):=eqT (zeJ.eq_1 K)
def zdJ(K:ψa):TS :=
 (zbf (ze2 (zd2 (zf7 (tB (zaG zwi [] E0 (zab (zac 3) (QF))))) (QD) zb7))
 (zeJ K))
theorem zia{l v:Addr}{vm:V}{bud:Int}{ts:List Addr}{bs:List Box}{t:Tr}{W:Rat}(B:Bx6 H l ts bs)(hv:H v=some (Q9))(bW:Bq 2000 W)(h:Sh H t vm)(g:Gt t)(d0:0≤bud)(d1:bud≤60)(q:∀(r:Bool) (H':Hp),zaP H H'→(r=true↔zmf bs.length t=true∧zui bs bud W (zmh t))→Q (.bl r) H') :
  zdJ K { nx:=λ_ H'=>Q .non H',rt:=Q } (L2.start ["boxes","budget","worth","mix","weights","columns"] [.ref l,.int bud,.ref v,vm]) H:=by
 unfold zdJ
 have l6:=B.l6
 have lt:=B.hb.1
 simp_all only [zaL,zaK,zaM,zac]
 refine⟨λσ H'=>zaP H H'∧zmf bs.length t=true∧σ=[some (Qa1),some (Qbc),some (Qcw),some vm,none,none],?_,?_⟩
 ·simp_all only [zaL,zaK,zaM,zac]
  refine⟨t,vm,l,_,rfl,B.hl,h,g,λH1 s1=>(QU)⟩
  rw[ψb,lt]
  by_cases c:zmf bs.length t=true
  ·rw[if_neg (by simp[c])]
   exact⟨s1,c⟩
  ·rw[if_pos (Qce)]
   exact q false H1 s1 ⟨λz=>(QcC),λz=>absurd z.1 c⟩
 ·rintro σ H1 ⟨s1,ok,rfl⟩
  obtain⟨ml,us,xs,rfl,M,em,x1,x9,gx⟩:=zoA h g ok
  rw[← em] at q
  have M1:=M.same s1
  have B1:=B.same s1
  have okx:∀x∈xs,∀m∈x.2.1,0≤m∧m≤60:=λx hx m hm=>(gx x hx).2.1 m hm
  simp_all only [zaL,zaK,zaM,zac]
  refine⟨⟨_,SqL.of M1.hm⟩,λD hD=>?_⟩
  refine zir (g1:=mt1) (g2:=mt2) (vs:=(xs.map λx=>x.2.2).map V.int) M1.hm M1.tp (Qa0) (by simp;omega) hD (λi x v H' R hx hv s kk=>?_) λH2 s2 h2=>?_
  ·obtain⟨w,hw,rfl⟩:=zaO hv
   obtain⟨y,hy,rfl⟩:=zaO hw
   rw[hx] at hy
   cases hy
   simp_all only [zaL,zaK,zaM,zac]
   exact kk _ (Qau)
  have M2:=M1.same s2
  have B2:=B1.same s2
  have bws:∀w∈xs.map λx=>x.2.2,Bd 2800 w:=λw hw=>by
   obtain⟨x,hx,rfl⟩:=List.mem_map.mp hw
   exact(gx x hx).2.2.2
  refine⟨λσ H'=>zaP H2 H'∧psm bs (xs.map λx=>x.2)≤bud*wsm (QK)∧σ=[some (Qa1),some (Qbc),some (Qcw),some (.ref ml),some (.ref D),none],?_,?_⟩
  ·simp_all only [zaL,zaK,zaM,zac]
   refine⟨⟨_,SqL.of M2.hm⟩,λD2 hD2=>?_⟩
   refine zir (g1:=mt1) (g2:=mt2) (vs:=(xs.map λx=>x.2.2*(zaR bs x.2.1).sum).map V.int) M2.hm M2.tp (Qa0) (by simp;omega) hD2 (λi x v H' R hx hv s kk=>?_) λH3 s3 h3=>?_
   ·obtain⟨w,hw,rfl⟩:=zaO hv
    obtain⟨y,hy,rfl⟩:=zaO hw
    rw[hx] at hy
    cases hy
    obtain⟨a1,_,a3,a4⟩:=gx x (zan hx)
    have bp:BP H' l x.1 ts bs x.2.1:=(B2.same s).bp (s _ _ (M2.pl x (zan hx))) a1 (okx x (zan hx))
    obtain⟨z1,z2⟩:=zgV bs x.2.1 B.gb (okx x (zan hx))
    simp_all only [zaL,zaK,zaM,zac]
    refine⟨l,x.1,ts,bs,x.2.1,rfl,bp,λH4 s4=>?_⟩
    simp_all only [zaL,zaK,zaM,zac]
    exact⟨zql (Qd) (Qd),kk _ s4⟩
   simp_all only [zaL,zaK,zaM,zac]
   refine⟨_,SqL.of h3,xs.map λx=>x.2.2,SqL.of (s3 _ _ h2),mulL (Qd) (Qd),?_⟩
   rw[← zzH,← zsH]
   by_cases c:psm bs (xs.map λx=>x.2)≤bud*wsm (QK)
   ·rw[if_neg (Qd)]
    exact⟨s3,c⟩
   ·rw[if_pos (Qd)]
    exact q false H3 (s1.trans (Qb5)) ⟨λz=>(QcC),λz=>absurd z.2.co c⟩
  ·rintro σ H3 ⟨s3,co,rfl⟩
   have M3:=M2.same s3
   have B3:=B2.same s3
   simp_all only [zaL,zaK,zaM,zac]
   refine⟨_,.inl (SqL.of B3.hl),?_⟩
   rw[ψb,B.hb.1]
   refine⟨by omega,by omega,λD2 hD2=>?_⟩
   have en:(bs.length:Int).toNat=bs.length:=Int.toNat_natCast _
   rw[en]
   refine znr (cs:=(ψr1 bs.length).map (col xs)) (Qa0) (Qd) hD2 (λi c H4 R hi hc s4 kk=>?_) λvs H4 s4 h4 L4=>?_
   ·obtain⟨i',ei',rfl⟩:=zaO hc
    rw[List.getElem?_range hi] at ei'
    cases ei'
    have M4:=M3.same s4
    simp_all only [zaL,zaK,zaM,zac]
    refine⟨⟨_,SqL.of M4.hm⟩,λD3 hD3=>?_⟩
    refine zir (g1:=mt1) (g2:=mt2) (vs:=(col xs i).map V.int) M4.hm M4.tp (by simp[col]) (by simp[col];omega) hD3 (λj x w H5 R' hx hw s5 k5=>?_) λH5 s5 h5=>kk D3 H5 s5 hD3 h5
    obtain⟨z,hz,rfl⟩:=zaO hw
    obtain⟨y,hy,rfl⟩:=zaO hz
    rw[hx] at hy
    cases hy
    obtain⟨a1,_⟩:=gx x (zan hx)
    have em:x.2.1[i]?=some (x.2.1[i]'(by omega)):=ψc _
    rw[ψy,em] at k5
    simp_all only [zaL,zaK,zaM,zac]
    refine⟨_,SqL.of (s5 _ _ (M4.pl x (zan hx))),_,?_,k5 _ (Qau)⟩
    rw[Int.zero_add]
    exact zfH (by rw[ψI,em];rfl)
   ·simp_all only [zaL,zaK,zaM,zac]
    have B4:=B3.same s4
    have s24:=s3.trans s4
    have S4:=s1.trans (s2.trans s24)
    have lc:vs.length=bs.length:=by rw[L4.1,ψb,List.length_range]
    refine⟨⟨_,SqL.of B4.hl⟩,⟨_,SqL.of h4⟩,λD3 hD3=>?_⟩
    refine zeL (vs:=(bs.zipIdx.map λy=>decide (W*(wsm (xs.map λx=>x.2):Rat)≤csm y.1 y.2 (QK))).map V.bl) B4.hl h4 (by simp[B.hb.1,lc]) (by simp;omega) hD3 (λi x z w H5 R hx hz hw s5 kk=>?_) λH5 s5 h5=>?_
    ·obtain⟨t,et,rfl⟩:=zaO hx
     obtain⟨c,ec,rfl⟩:=zaO hz
     obtain⟨r,er,rfl⟩:=zaO hw
     obtain⟨y,ey,rfl⟩:=zaO er
     obtain⟨b,eb,hb⟩:=B4.hb.at et
     have li:=(QcE).1
     rw[List.getElem?_zipIdx,eb] at ey
     simp only[Option.map_some,ψU1,Option.some.injEq] at ey
     subst ey
     have ecol:((ψr1 bs.length).map (col xs))[i]?=some (col xs i):=by rw[ψI,List.getElem?_range li];rfl
     have hc:=L4.2 i c _ ec ecol
     simp_all only [zaL,zaK,zaM,zac]
     refine⟨t,c,D,v,b,col xs i,xs.map λx=>x.2.2,W,rfl,s5 _ _ hb,B.gb b (zan eb),s5 _ _ hc,s5 _ _ (s24 _ _ h2),s5 _ _ (S4 _ _ hv),by rw[col,ψb,ψb],by rw[col,ψb];exact x9,λn hn=>?_,bws,bW,λr H6 s6 hr=>?_⟩
     ·obtain⟨x,hx,rfl⟩:=List.mem_map.mp hn
      have em:x.2.1[i]?=some (x.2.1[i]'(by rw[(gx x hx).1];exact li)):=ψc _
      rw[ψy,em]
      exact okx x hx _ (zan em)
     ·rw[zs2,← zsH] at hr
      have e:r=decide (W*(wsm (xs.map λx=>x.2):Rat)≤csm b i (QK)):=by
       rw[ψm1,decide_eq_true_iff]
       exact hr
      rw[e]
      exact kk _ s6
    ·refine⟨D3,rfl,_,SqL.of h5,?_⟩
     refine q _ H5 (S4.trans s5) ?_
     rw[zpJ,List.all_eq_true,zvx]
     exact⟨λz=>⟨ok,co,z⟩,λz=>z.2.ch⟩
theorem zdB:zaJ ["boxes","budget","worth","mix","weights","columns"] (QcH) (zai zbw):=(Qa)
theorem zhO(T:Txt K mg a):zcr P w K mg base CX0 6 a.faB a.daB (QcH) znm:=by
 have GX:=zhw (P:=P) (w:=w) (base:=base) T
 have GaA:=zjL (P:=P) (w:=w) (base:=base) T
 have Gaz:=zq8 (P:=P) (w:=w) (base:=base) T
 refine T.FaB.ok zdB (Qk) (Qe)
 all_goals obtain⟨l,v,vm,bud,ts,bs,t,W,rfl,B,hv,bW,h,g,d0,d1,q⟩:=h
 ·rfl
 exact⟨zdJ K,(zaf (zbz (zb1 (zbW (zbu (zag Gaz (Qc) rfl T.maz T.Faz.kp T.baz .nil zaH (zaa (pv 3) (Qaj))))) (QZ) zaY))
 (zaf (zaN (i:=4) zdB.nd rfl (Qca) (zcc (sc:=zai zbw) (N:=["boxes","budget","worth","mix","weights","columns"]) (Nc:=["plan","weight"]) (cap:=[none,none]) rfl rfl rfl (Qr) (zb0 (pv 3)) (λ_ _ _ _=>(zbp rfl (zal (zak (i:=0) (show ψk (["plan","weight"]:List Str) from by decide) rfl (Qg)) (zal (zak (i:=1) (show ψk (["plan","weight"]:List Str) from by decide) rfl (Qg)) zaZ)))) (QH) (λ_ _ _ _=>(pv 1))))
 (zaf (zbz (zb1 (zbi znD (zaq (zdo rfl) rfl T.z_sum ψW (zaa (zcc (sc:=zai zbw) (N:=["boxes","budget","worth","mix","weights","columns"]) (Nc:=["plan","weight","boxes"]) (cap:=[none,none,some 0]) rfl rfl rfl (Qr) (zb0 (pv 3)) (λ_ _ _ _=>(zbp rfl (zal (zak (i:=0) (show ψk (["plan","weight","boxes"]:List Str) from by decide) rfl (Qg)) (zal (zak (i:=1) (show ψk (["plan","weight","boxes"]:List Str) from by decide) rfl (Qg)) zaZ)))) (QH) (λ_ _ _ _=>(zao zap (pv 1) (zag GX (Qc) rfl T.mX T.FX.kp T.bX .nil zaH (zaa (pv 2) (Qaj)))))) zad)) (zao zap (pv 1) (Qcf)) (zbd _)) (QZ) zaY))
 (zaf (znQ (i:=5) zdB.nd rfl rfl (sc:=zai zbw) (N:=["boxes","budget","worth","mix","weights","columns"]) (Nc:=["k","mix"]) (cap:=[none,some 3]) rfl rfl rfl (Qr) (zfr rfl T.z_range (zaa (QI) zad)) (λ_ _ _ _=>(zak (i:=0) (show ψk (["k","mix"]:List Str) from by decide) rfl (Qca))) (QH) (λ_ _ _ _=>(zcc (N:=["k","mix"]) (Nc:=["plan","weight","k"]) (cap:=[none,none,some 0]) rfl (zxs.trans (congrArg (zoZ _) (rfl:_=zai zbw))) rfl (Qr) (zb0 (pv 1)) (λ_ _ _ _=>(zbp rfl (zal (zak (i:=0) (show ψk (["plan","weight","k"]:List Str) from by decide) rfl (Qg)) (zal (zak (i:=1) (show ψk (["plan","weight","k"]:List Str) from by decide) rfl (Qg)) zaZ)))) (QH) (λ_ _ _ _=>(zaI zbm (pv 0) (pv 2) (Qp))))))
 (zah (zaE (zaq (zfR rfl) rfl T.z_all ψq1 (zaa (zcc (sc:=zai zbw) (N:=["boxes","budget","worth","mix","weights","columns"]) (Nc:=["box","counts","weights","worth"]) (cap:=[none,none,some 4,some 2]) rfl rfl rfl (Qr) (zd4 rfl T.z_zip (zaa (pv 0) (QcG))) (λ_ _ _ _=>(zbp rfl (zal (zak (i:=0) (show ψk (["box","counts","weights","worth"]:List Str) from by decide) rfl (Qg)) (zal (zak (i:=1) (show ψk (["box","counts","weights","worth"]:List Str) from by decide) rfl (Qg)) zaZ)))) (QH) (λ_ _ _ _=>(zag GaA (Qc) rfl T.maA T.FaA.kp T.baA .nil zaH (Qae)))) zad)))))))),
  zia B hv bW h g d0 d1 q⟩
structure PpH (H:Hp) (pr:Addr) (n:Nat) (Ws:List Int) (P:Rat) (ns:List Int):Prop where
 ex:∃wl pp cl:Addr,H pr=some (Qah)∧H wl=some (QbA)∧H pp=some (Qch)∧H cl=some (Qbd)
 lw:Ws.length=n
 ln:ns.length=n
 w0:∀w∈Ws,0≤w
 wb:∀w∈Ws,Bd 2800 w
 n0:∀m∈ns,0≤m∧m≤100
 p0:0≤P
 pb:Bq 2800 P
theorem PpH.same{H H':Hp}{pr:Addr}{n:Nat}{Ws:List Int}{P:Rat}{ns:List Int}(h:PpH H pr n Ws P ns)(s:zaP H H'):PpH H' pr n Ws P ns:=by
 obtain⟨wl,pp,cl,a1,a2,a3,a4⟩:=h.ex
 exact⟨⟨wl,pp,cl,s _ _ a1,s _ _ a2,s _ _ a3,s _ _ a4⟩,h.lw,h.ln,h.w0,h.wb,h.n0,h.p0,h.pb⟩
theorem zzl(P:Rat):ψz P.num (P.den:Int)=1:=P.reduced
theorem zjl{b:Box}(g:GB b)(w n:Int)(P:Rat):(w*b.2.1*(b.2.2 - b.2.1) ^ n.toNat*(P.den:Int)≤P.num*b.1*b.2.2*b.2.2 ^ n.toNat↔(w:Rat)*gnq b n≤P*(b.1:Rat))∧(P.num*b.1*b.2.2*b.2.2 ^ n.toNat≤w*b.2.1*(b.2.2 - b.2.1) ^ n.toNat*(P.den:Int)↔P*(b.1:Rat)≤(w:Rat)*gnq b n):=by
 have o:=zd8 g n
 have o1:0<b.2.2:=by have:=g.2.2.1;have:=g.2.2.2.1;omega
 have d:=zcY P
 have D:(0:Rat)<((b.2.2 ^ n.toNat*b.2.2*P.den:Int):Rat):=by exact_mod_cast ψB1 (ψB1 o o1) d
 have e1:(w:Rat)*gnq b n*((b.2.2 ^ n.toNat*b.2.2*P.den:Int):Rat)=((w*b.2.1*(b.2.2 - b.2.1) ^ n.toNat*(P.den:Int):Int):Rat):=by
  unfold gnq
  rw[ψs]
  simp only[ψm]
  have on:((b.2.2 ^ n.toNat:Int):Rat)≠0:=λz=>by
   have:(b.2.2 ^ n.toNat:Int)=0:=by exact_mod_cast z
   omega
  have oo:(b.2.2:Rat)≠0:=λz=>by
   have:b.2.2=0:=by exact_mod_cast z
   omega
  generalize ((b.2.2 ^ n.toNat:Int):Rat)=A at on ⊢
  generalize (b.2.2:Rat)=O at oo ⊢
  generalize (((b.2.2 - b.2.1) ^ n.toNat:Int):Rat)=M
  grind
 have e2:P*(b.1:Rat)*((b.2.2 ^ n.toNat*b.2.2*P.den:Int):Rat)=((P.num*b.1*b.2.2*b.2.2 ^ n.toNat:Int):Rat):=by
  have h:=ψG P
  rw[ψs] at h
  simp only[ψm]
  have dn:((P.den:Int):Rat)≠0:=λz=>by
   have:(P.den:Int)=0:=by exact_mod_cast z
   omega
  have h2:(P.num:Rat)=P*((P.den:Int):Rat):=by
   generalize ((P.den:Int):Rat)=x at h dn ⊢
   generalize (P.num:Rat)=y at h ⊢
   grind
  rw[h2]
  generalize ((P.den:Int):Rat)=x
  grind
 constructor
 ·rw[← Rat.intCast_le_intCast,← e1,← e2]
  exact⟨λz=>ψM1 z D,λz=>ψP z (ψB D)⟩
 ·rw[← Rat.intCast_le_intCast,← e1,← e2]
  exact⟨λz=>ψM1 z D,λz=>ψP z (ψB D)⟩
def zlC(H:Hp)(t p:Addr)(b:Box)(w n:Int)(P:Rat):Prop:=H t=some (Qbz)∧GB b∧H p=some (Qch)∧Bd 2800 w∧Bq 2800 P∧0≤n∧n≤60
def zrq:Sp:=λvs H Q _=>∃(t p:Addr) (b:Box) (w n:Int) (P:Rat),vs=[.ref t,.int w,.ref p,.int n]∧zlC H t p b w n P∧∀(r:Bool) (H':Hp),zaP H H'→(r=true↔(w:Rat)*gnq b n≤P*(b.1:Rat))→Q (.bl r) H'
def zdd(K:ψa):TS :=
 (zbf (zbq (zaG zfK [] E0 (zab (zac 0) (Qa5))) (zed K 2 (zaQ (zaj 4) (zaQ (zaj 5) zd9))))
 (zb2 (tOp (Q5) (tOp (Qb) (tOp (Qb) (tOp (Qb) (zac 1) (QC)) (zac 4)) (QaZ)) (tOp (Qb) (tOp (Qb) (tOp (Qb) (QbK) (QE)) (QaA)) (zac 5)))))
theorem zg1{t p:Addr}{b:Box}{w n:Int}{P:Rat}(A:zlC H t p b w n P)(q:∀(r:Bool) (H':Hp),zaP H H'→(r=true↔(w:Rat)*gnq b n≤P*(b.1:Rat))→Q (.bl r) H') :
  zdd K { nx:=λ_ H'=>Q .non H',rt:=Q } (L2.start (QaX) [.ref t,.int w,.ref p,.int n]) H:=by
 unfold zdd
 obtain⟨ht,g,hp,bw,bP,n0,n1⟩:=A
 have cm:=(zjl g w n P).1
 have bo:=zhG g n1
 have g':=g
 obtain⟨g1,g2,g3,g4,g5⟩:=g
 have bt:Bd 400 ((b.2.2 - b.2.1) ^ n.toNat):=zfa (Qd) (Qd) (Qd)
 have h6:Bd 6 b.2.1:=by show b.2.1.natAbs<2 ^ 6;omega
 have c6:Bd 6 b.1:=by show b.1.natAbs<2 ^ 6;omega
 have o6:Bd 6 b.2.2:=by show b.2.2.natAbs<2 ^ 6;omega
 simp_all only [zac]
 refine⟨t,b,n,rfl,ht,g',n0,n1,λr H1 s1 h1=>?_⟩
 simp_all only [zac]
 have ht1:=SqT.of (K:=K) (s1 _ _ ht)
 have hp1:=SqT.of (K:=K) (s1 _ _ hp)
 have m1:=bw.mul h6
 have m2:=m1.mul bt
 have m3:=bP.top.mul c6
 have m4:=m3.mul o6
 refine⟨_,SqT.of h1,rfl,_,_,rfl,_,_,rfl,rfl,?_⟩
 refine⟨_,ht1,_,rfl,_,rfl,zdb 2800 6 bw h6,_,rfl,zdb 2806 400 m1 bt,_,hp1,_,rfl,_,rfl,zdb 3206 2800 m2 bP.bot,_,hp1,_,rfl,_,ht1,_,rfl,_,rfl,_,rfl,zdb 2800 6 bP.top c6,_,ht1,_,rfl,_,rfl,zdb 2806 6 m3 o6,_,rfl,zdb 2812 400 m4 bo,?_⟩
 exact q _ H1 s1 (by rw[decide_eq_true_iff];exact cm)
theorem zc2:zaJ (QaX) (QP) (zai zdf):=(Qa)
theorem zgZ(T:Txt K mg a):zcr P w K mg base CX0 3 a.faE a.daE (QP) zrq:=by
 have Gz:=zfs (P:=P) (w:=w) (base:=base) T
 refine T.FaE.ok zc2 (Qk) (Qe)
 all_goals obtain⟨t,p,b,w,n,P',rfl,A,q⟩:=h
 ·rfl
 exact⟨zdd K,(zaf (zcG (zag Gz (Qc) rfl T.mz T.Fz.kp T.bz .nil zaH (zaa (pv 0) (Qbi))) (zbp rfl (zal (zak (i:=4) zc2.nd rfl (Qg)) (zal (zak (i:=5) zc2.nd rfl (Qg)) zaZ))))
 (zah (zaE (zcg zlI (zao zap (zao zap (zao zap (pv 1) (Qh)) (pv 4)) (Q6)) (zao zap (zao zap (zao zap (Q6) (Qh)) (Qh)) (pv 5)) (zbd _))))),
  zg1 A q⟩
def zrX:Sp:=λvs H Q _=>∃(t p:Addr) (b:Box) (w n:Int) (P:Rat),vs=[.ref t,.int w,.ref p,.int n]∧zlC H t p b w n P∧0<n∧∀(r:Bool) (H':Hp),zaP H H'→(r=true↔P*(b.1:Rat)≤(w:Rat)*gnq b (n - 1))→Q (.bl r) H'
def zc0(K:ψa):TS :=
 (zbf (zbq (zaG zfK [] E0 (zab (zac 0) (zab (tOp (QA) (zac 3) (Qi)) zas))) (zed K 2 (zaQ (zaj 4) (zaQ (zaj 5) zd9))))
 (zb2 (tOp (QN) (tOp (Qb) (tOp (Qb) (tOp (Qb) (zac 1) (QC)) (zac 4)) (QaZ)) (tOp (Qb) (tOp (Qb) (tOp (Qb) (QbK) (QE)) (QaA)) (zac 5)))))
theorem zgt{t p:Addr}{b:Box}{w n:Int}{P:Rat}(A:zlC H t p b w n P)(np:0<n)(q:∀(r:Bool) (H':Hp),zaP H H'→(r=true↔P*(b.1:Rat)≤(w:Rat)*gnq b (n - 1))→Q (.bl r) H') :
  zc0 K { nx:=λ_ H'=>Q .non H',rt:=Q } (L2.start (QaX) [.ref t,.int w,.ref p,.int n]) H:=by
 unfold zc0
 obtain⟨ht,g,hp,bw,bP,n0,n1⟩:=A
 have cm:=(zjl g w (n - 1) P).2
 have bo:=zhG g (show n - 1≤60 by omega)
 have g':=g
 obtain⟨g1,g2,g3,g4,g5⟩:=g
 have bt:Bd 400 ((b.2.2 - b.2.1) ^ (n - 1).toNat):=zfa (Qd) (Qd) (Qd)
 have h6:Bd 6 b.2.1:=by show b.2.1.natAbs<2 ^ 6;omega
 have c6:Bd 6 b.1:=by show b.1.natAbs<2 ^ 6;omega
 have o6:Bd 6 b.2.2:=by show b.2.2.natAbs<2 ^ 6;omega
 simp_all only [zac]
 refine⟨t,b,n - 1,rfl,ht,g',by omega,by omega,λr H1 s1 h1=>?_⟩
 simp_all only [zac]
 have ht1:=SqT.of (K:=K) (s1 _ _ ht)
 have hp1:=SqT.of (K:=K) (s1 _ _ hp)
 have m1:=bw.mul h6
 have m2:=m1.mul bt
 have m3:=bP.top.mul c6
 have m4:=m3.mul o6
 refine⟨_,SqT.of h1,rfl,_,_,rfl,_,_,rfl,rfl,?_⟩
 refine⟨_,ht1,_,rfl,_,rfl,zdb 2800 6 bw h6,_,rfl,zdb 2806 400 m1 bt,_,hp1,_,rfl,_,rfl,zdb 3206 2800 m2 bP.bot,_,hp1,_,rfl,_,ht1,_,rfl,_,rfl,_,rfl,zdb 2800 6 bP.top c6,_,ht1,_,rfl,_,rfl,zdb 2806 6 m3 o6,_,rfl,zdb 2812 400 m4 bo,?_⟩
 exact q _ H1 s1 (by rw[decide_eq_true_iff];exact cm)
theorem zcK:zaJ (QaX) (QP) (zai zc1):=(Qa)
theorem zgf(T:Txt K mg a):zcr P w K mg base CX0 3 a.faD a.daD (QP) zrX:=by
 have Gz:=zfs (P:=P) (w:=w) (base:=base) T
 refine T.FaD.ok zcK (Qk) (Qe)
 all_goals obtain⟨t,p,b,w,n,P',rfl,A,np,q⟩:=h
 ·rfl
 exact⟨zc0 K,(zaf (zcG (zag Gz (Qc) rfl T.mz T.Fz.kp T.bz .nil zaH (zaa (pv 0) (zaa (zao zcF (pv 3) zae) zad))) (zbp rfl (zal (zak (i:=4) zcK.nd rfl (Qg)) (zal (zak (i:=5) zcK.nd rfl (Qg)) zaZ))))
 (zah (zaE (zcg zjz (zao zap (zao zap (zao zap (pv 1) (Qh)) (pv 4)) (Q6)) (zao zap (zao zap (zao zap (Q6) (Qh)) (Qh)) (pv 5)) (zbd _))))),
  zgt A np q⟩
def zmn:Sp:=λvs H Q _=>∃(t p:Addr) (b:Box) (w n:Int) (P:Rat),vs=[.ref t,.int w,.ref p,.int n]∧zlC H t p b w n P∧∀(r:Bool) (H':Hp),zaP H H'→(r=true↔Mrk b w P n)→Q (.bl r) H'
theorem zlC.same{H H':Hp}{t p:Addr}{b:Box}{w n:Int}{P:Rat}(A:zlC H t p b w n P)(s:zaP H H'):zlC H' t p b w n P:=by
 obtain⟨a1,a2,a3,a4⟩:=A
 exact⟨s _ _ a1,a2,s _ _ a3,a4⟩
def zfv:TS :=
 (zd2 (zyX (zcp (tOp (Qat) (zac 3) (Qq))) (zf7 (tB (zaG zrX [] E0 (Qab))))) (QD) zb7)
def zcZ:=eqT (zfv.eq_1)
def zeI:TS :=
 (zbf (ze2 (zfv))
 (zb2 (zaG zrq [] E0 (Qab))))
theorem zi6{t p:Addr}{b:Box}{w n:Int}{P:Rat}(A:zlC H t p b w n P)(q:∀(r:Bool) (H':Hp),zaP H H'→(r=true↔Mrk b w P n)→Q (.bl r) H') :
  zeI { nx:=λ_ H'=>Q .non H',rt:=Q } (L2.start (QP) [.ref t,.int w,.ref p,.int n]) H:=by
 unfold zeI
 simp_all only [zcZ,zac]
 refine⟨λσ H'=>zaP H H'∧(0<n→P*(b.1:Rat)≤(w:Rat)*gnq b (n - 1))∧σ=[some (.ref t),some (.int w),some (Qbn),some (.int n)],?_,?_⟩
 ·simp_all only [zcZ,zac]
  by_cases c:0<n
  ·rw[if_pos c]
   refine⟨t,p,b,w,n,P,rfl,A,c,λr H1 s1 hr=>⟨r,rfl,?_⟩⟩
   cases r with
   | true=>exact zbj (Qj) (λ_=>⟨s1,λ_=>hr.mp rfl⟩)
   | false=>exact zbj (λ_=>q false H1 s1 ⟨λz=>(QcC),λz=>absurd (hr.mpr (z.2 c)) (Qm)⟩) (Qv)
  ·rw[if_neg c]
   exact⟨.refl _,λz=>absurd z c⟩
 ·rintro σ H1 ⟨s1,hl,rfl⟩
  simp_all only [zcZ,zac]
  refine⟨t,p,b,w,n,P,rfl,A.same s1,λr H2 s2 hr=>?_⟩
  exact q r H2 (QbI) ⟨λz=>⟨hr.mp z,hl⟩,λz=>hr.mpr z.1⟩
theorem zi2:zaJ (QP) (QP) (zai zeQ):=(Qa)
theorem zi0(T:Txt K mg a):zcr P w K mg base CX0 4 a.faF a.daF (QP) zmn:=by
 have GaD:=zgf (P:=P) (w:=w) (base:=base) T
 have GaE:=zgZ (P:=P) (w:=w) (base:=base) T
 refine T.FaF.ok zi2 (Qk) (Qe)
 all_goals obtain⟨t,p,b,w,n,P',rfl,A,q⟩:=h
 ·rfl
 exact⟨zeI,(zaf (zbz (zb1 (PW.pt (zr8 (zbi znD (pv 3) zae (zbd _)) (znn (zbW (zbu (zag GaD (Qc) rfl T.maD T.FaD.kp T.baD .nil zaH (Qae))))))) (QZ) zaY))
 (zah (zaE (zag GaE (Qc) rfl T.maE T.FaE.kp T.baE .nil zaH (Qae))))),
  zi6 A q⟩
def mss(b:Box)(n:Int):List V:=[.int ((b.2.2 - b.2.1) ^ n.toNat),.int (b.2.2 ^ n.toNat)]
def mssP(x:Box×Int):List V:=mss x.1 x.2
def ztx:List (Box×Int)→Int
 | []=>1
 | x::xs=>x.1.2.2 ^ x.2.toNat*ztx xs
theorem zo3:∀(xs:List (Box×Int)) (x:Box×Int),ztx (xs++[x])=ztx xs*x.1.2.2 ^ x.2.toNat
 | [],x=>by
  show x.1.2.2 ^ x.2.toNat*1=1*x.1.2.2 ^ x.2.toNat
  rw[Int.mul_one,Int.one_mul]
 | y::ys,x=>by
  show y.1.2.2 ^ y.2.toNat*ztx (ys++[x])=y.1.2.2 ^ y.2.toNat*ztx ys*x.1.2.2 ^ x.2.toNat
  rw[zo3 ys x,Int.mul_assoc]
theorem zoE:∀xs:List (Box×Int),(∀x∈xs,GB x.1)→0<ztx xs
 | [],_=>by decide
 | x::xs,h=>ψB1 (zd8 (h x ψg) x.2) (zoE xs λy hy=>h y (ψe _ hy))
theorem zn1:∀xs:List (Box×Int),(∀x∈xs,GB x.1∧x.2≤60)→Bd (400*xs.length+1) (ztx xs)
 | [],_=>by show(1:Nat)<2 ^ 1;decide
 | x::xs,h=>by
  have ih:=zn1 xs λy hy=>h y (ψe _ hy)
  obtain⟨g,n⟩:=h x ψg
  exact((zhG g n).mul ih).mono (by rw[ψN];omega)
theorem zoI:∀(xs:List (Box×Int)) (x:Box×Int),x∈xs→x.1.2.2 ^ x.2.toNat∣ztx xs
 | y::ys,x,h=>by
  rcases List.mem_cons.mp h with rfl | h
  ·exact Int.dvd_mul_right ..
  ·exact Int.dvd_trans (zoI ys x h) (Int.dvd_mul_left ..)
theorem zqq{b:Box}(g:GB b){n w T:Int}(h:b.2.2 ^ n.toNat∣T):((w*(b.2.2 ^ n.toNat - (b.2.2 - b.2.1) ^ n.toNat)*T.fdiv (b.2.2 ^ n.toNat):Int):Rat)=(w:Rat)*chq b n*(T:Rat):=by
 have o:=zd8 g n
 have f:=zdj h
 generalize T.fdiv (b.2.2 ^ n.toNat)=k at f ⊢
 rw[← f]
 unfold chq
 rw[ψs,ψm,ψm,ψm]
 have on:((b.2.2 ^ n.toNat:Int):Rat)≠0:=λz=>by
  have:(b.2.2 ^ n.toNat:Int)=0:=by exact_mod_cast z
  omega
 generalize ((b.2.2 ^ n.toNat:Int):Rat)=A at on ⊢
 generalize ((b.2.2 ^ n.toNat - (b.2.2 - b.2.1) ^ n.toNat:Int):Rat)=C
 grind
theorem zoV{T:Int}:∀(bs:List Box) (Ws ns:List Int),(QaF)→(∀x∈ψn bs ns,x.1.2.2 ^ x.2.toNat∣T)→(((ψd (Qac) Ws (Qar)).sum:Int):Rat)=zn2 bs Ws ns*(T:Rat)
 | [],Ws,ns,_,_=>by
  simp only[zn2,zm5,List.zip_nil_left,ψo1,List.zipWith_nil_right,ψa1]
  rw[show((0:Int):Rat)=0 from rfl]
  grind
 | _::_,Ws,[],_,_=>by
  simp only[zn2,zm5,List.zip_nil_right,List.zipWith_nil_right,ψa1]
  rw[show((0:Int):Rat)=0 from rfl]
  grind
 | _::_,[],_::_,_,_=>by
  simp only[zn2,ψo1,ψa1]
  rw[show((0:Int):Rat)=0 from rfl]
  grind
 | b::bs,w::Ws,n::ns,gb,h=>by
  have ih:=zoV bs Ws ns (QbY) (λx hx=>h x (Qbb))
  have t:=zqq (gb b ψg) (w:=w) (h (b,n) ψg)
  show((w*(b.2.2 ^ n.toNat - (b.2.2 - b.2.1) ^ n.toNat)*T.fdiv (b.2.2 ^ n.toNat)+(ψd (Qac) Ws (Qar)).sum:Int):Rat)=((w:Rat)*chq b n+zn2 bs Ws ns)*(T:Rat)
  rw[ψT,t,ih]
  grind
theorem zxT{F P W:Rat}{f S T s:Int}(T0:0<T)(h:(f:Rat)=F*(T:Rat)):(f*(P.den:Int)+P.num*s*T)*(W.den:Int)≤W.num*S*T*(P.den:Int)↔F+P*(s:Rat)≤W*(S:Rat):=by
 have dP:=zcY P
 have dW:=zcY W
 have TR:(0:Rat)<(T:Rat):=by exact_mod_cast T0
 have pR:(0:Rat)<((P.den:Int):Rat):=by exact_mod_cast dP
 have wR:(0:Rat)<((W.den:Int):Rat):=by exact_mod_cast dW
 have hP:(P.num:Rat)=P*((P.den:Int):Rat):=by
  have h:=ψG P
  rw[ψs] at h
  generalize ((P.den:Int):Rat)=x at h pR ⊢
  generalize (P.num:Rat)=y at h ⊢
  have:x≠0:=by grind
  grind
 have hW:(W.num:Rat)=W*((W.den:Int):Rat):=by
  have h:=ψG W
  rw[ψs] at h
  generalize ((W.den:Int):Rat)=x at h wR ⊢
  generalize (W.num:Rat)=y at h ⊢
  have:x≠0:=by grind
  grind
 rw[← Rat.intCast_le_intCast]
 simp only[ψm,ψT]
 rw[h,hP,hW]
 have D:=ψC1 (ψC1 TR pR) wR
 have e1:(F*(T:Rat)*((P.den:Int):Rat)+P*((P.den:Int):Rat)*(s:Rat)*(T:Rat))*((W.den:Int):Rat)=(F+P*(s:Rat))*((T:Rat)*((P.den:Int):Rat)*((W.den:Int):Rat)):=by
  generalize ((P.den:Int):Rat)=x
  generalize ((W.den:Int):Rat)=y
  grind
 have e2:W*((W.den:Int):Rat)*(S:Rat)*(T:Rat)*((P.den:Int):Rat)=W*(S:Rat)*((T:Rat)*((P.den:Int):Rat)*((W.den:Int):Rat)):=by
  generalize ((P.den:Int):Rat)=x
  generalize ((W.den:Int):Rat)=y
  grind
 rw[e1,e2]
 exact⟨λz=>ψM1 z D,λz=>ψP z (ψB D)⟩
def zo2:Sp:=λvs H Q _=>∃(l v pr:Addr) (bud:Int) (ts:List Addr) (bs:List Box) (W P:Rat) (Ws ns:List Int),vs=[.ref l,.int bud,.ref v,.ref pr]∧Bx6 H l ts bs∧H v=some (Q9)∧Bq 2000 W∧PpH H pr bs.length Ws P ns∧(∀n∈ns,n≤60)∧0≤bud∧bud≤60∧∀(r:Bool) (H':Hp),zaP H H'→(r=true↔zn2 bs Ws ns+P*((bud - (zaR bs ns).sum:Int):Rat)≤W*(Ws.sum:Rat))→Q (.bl r) H'
def zhc(K:ψa):TS :=
 (zbf (zbq (tCB (zpH K) (zab (zcu (zlg K (zab (zac 4) (zab (zac 7) zas))) (Ql) zbe (tOp (Qb) (tOp (Qb) (zac 0) (tOp (QA) (Qap) (Qbm))) (tOp (Qt) (zac 2) (Qap))) [none,none,some 8]) zas)) (zaj 11))
 (zbf (zbq (tOp (Qb) (tOp (Qb) (tOp (zbH K) (zac 5) (Qq)) (tOp (QA) (zac 1) (zaG zoU [] E0 (QbS)))) (zac 8)) (zaj 12))
 (zb2 (tOp (Q5) (tOp (Qb) (tOp (Qz) (tOp (Qb) (zac 11) (Qck)) (zac 12)) (QaZ)) (tOp (Qb) (tOp (Qb) (tOp (Qb) (QbK) (tCB (zpH K) (QaO))) (zac 8)) (Qck))))))
def zby(K:ψa):=eqT (zhc.eq_1 K)
def zgH(K:ψa):TS :=
 (zbf (QaV)
 (zbf (zbq (zcu (zlg K (QbS)) (Ql) zbe (zaG zfK [] E0 (Qy)) [none,none]) (zaj 7))
 (zbf (zbq (Qi) (zaj 8))
 (zbf (zka (zdO K (zac 7)) (zed K 2 (QcJ))
 (zbq (tOp (Qb) (zac 8) (zac 10)) (zaj 8)))
 (zhc K)))))
theorem zk4{l v pr:Addr}{bud:Int}{ts:List Addr}{bs:List Box}{W P:Rat}{Ws ns:List Int}(B:Bx6 H l ts bs)(hv:H v=some (Q9))(bW:Bq 2000 W)(A:PpH H pr bs.length Ws P ns)(n60:∀n∈ns,n≤60)(d0:0≤bud)(d1:bud≤60)(q:∀(r:Bool) (H':Hp),zaP H H'→(r=true↔zn2 bs Ws ns+P*((bud - (zaR bs ns).sum:Int):Rat)≤W*(Ws.sum:Rat))→Q (.bl r) H') :
  zgH K { nx:=λ_ H'=>Q .non H',rt:=Q } (L2.start ["boxes","budget","worth","paper","weights","price","counts","misses","whole","top","bottom","found","spare"] [.ref l,.int bud,.ref v,.ref pr]) H:=by
 unfold zgH
 obtain⟨wl,pp,cl,a1,a2,a3,a4⟩:=A.ex
 have l6:=B.l6
 have gn:∀n∈ns,0≤n∧n≤60:=λn hn=>⟨(A.n0 n hn).1,n60 n hn⟩
 have gz:∀x∈ψn bs ns,GB x.1∧x.2≤60:=λx hx=>by
  obtain⟨i,ei⟩:=ψr hx
  rw[ψL] at ei
  exact⟨B.gb _ (zan ei.1),n60 _ (zan ei.2)⟩
 have lz:(Qar).length=bs.length:=by rw[List.length_zip,A.ln];omega
 simp_all only [zby,zac]
 refine⟨_,SqT.of a1,rfl,_,_,rfl,_,_,rfl,_,_,rfl,rfl,?_⟩
 refine⟨_,rfl,⟨_,SqL.of B.hl⟩,⟨_,SqL.of a4⟩,λD hD=>?_⟩
 refine zf9 (f:=mssP) (qs:=ψn bs ns) B.hl a4 (by rw[lz,ψb,ψb,B.hb.1,A.ln];omega) (Qd) hD (Qct) λus H1 s1 h1 T1=>?_
 ·obtain⟨t,ht,rfl⟩:=zaO hx
  obtain⟨n,hn,rfl⟩:=zaO hz
  obtain⟨b,hb1,hb2⟩:=B.hb.at ht
  have ez:(Qar)[i]?=some (b,n):=List.getElem?_zip_eq_some.mpr ⟨hb1,hn⟩
  rw[ez] at hw
  cases hw
  simp_all only [zby,zac]
  exact⟨t,b,n,rfl,s3 _ _ hb2,B.gb b (zan hb1),(gn n (zan hn)).1,(gn n (zan hn)).2,k⟩
 simp_all only [zby,zac]
 refine⟨⟨_,SqL.of h1⟩,?_⟩
 refine zds (K:=K) (xs:=us.map V.ref) (λi σ H'=>zaP H1 H'∧∃y9 y10,σ=[some (Qa1),some (Qbc),some (Qcw),some (.ref pr),some (.ref wl),some (.ref pp),some (.ref cl),some (.ref D),some (.int (ztx ((Qar).take i))),y9,y10,none,none]) ⟨.refl _,_,_,rfl⟩ ?_ ?_ ?_
 ·rintro i σ H' _ ⟨s,_⟩
  exact SqL.of (s _ _ h1)
 ·rintro i x σ H2 hx ⟨s2,y9,y10,rfl⟩
  obtain⟨u,eu,rfl⟩:=zaO hx
  obtain⟨z,ez,hz⟩:=T1.at eu
  have gzz:=gz z (zan ez)
  have li:=(List.getElem?_eq_some_iff.mp ez).1
  have bb:=zn1 ((Qar).take i) λy hy=>gz y (ψO1 hy)
  rw[ψM] at bb
  simp_all only [zby,zac]
  refine⟨_,SqT.of (s2 _ _ hz),rfl,_,_,rfl,_,_,rfl,rfl,?_⟩
  refine⟨_,rfl,zdb 2401 400 (bb.mono (Qd)) (zhG gzz.1 gzz.2),s2,?_⟩
  rw[ψw,ez,Option.toList_some,zo3]
 ·rintro σ H2 ⟨s2,y9,y10,rfl⟩
  rw[ψb,T1.1,ψJ]
  have S2:=s1.trans s2
  generalize hT:ztx (ψn bs ns)=T
  have T0:0<T:=by rw[← hT];exact zoE _ λx hx=>(gz x hx).1
  have bT:Bd 2401 T:=by rw[← hT];exact(zn1 _ gz).mono (Qd)
  have dvT:∀x∈ψn bs ns,x.1.2.2 ^ x.2.toNat∣T:=λx hx=>by rw[← hT];exact zoI _ x hx
  simp_all only [zby,zac]
  refine⟨⟨_,SqL.of (S2 _ _ a2)⟩,⟨_,SqL.of (s2 _ _ h1)⟩,λD2 hD2=>?_⟩
  generalize hF:ψd (Qac) Ws (ψn bs ns)=Fs
  have lF:Fs.length=bs.length:=by rw[← hF,ψo,lz,A.lw];omega
  have tb:∀(i:Nat) w x,Ws[i]?=some w→(Qar)[i]?=some x→Bd 401 (x.1.2.2 ^ x.2.toNat - (x.1.2.2 - x.1.2.1) ^ x.2.toNat)∧(T.fdiv (x.1.2.2 ^ x.2.toNat)).natAbs≤T.natAbs∧0<x.1.2.2 ^ x.2.toNat:=λi w x e1 e2=>by
   obtain⟨g,n1⟩:=gz x (zan e2)
   have o:=zd8 g x.2
   have bt:Bd 400 ((x.1.2.2 - x.1.2.1) ^ x.2.toNat):=by
    obtain⟨g1,g2,g3,g4,g5⟩:=g
    exact zfa (Qd) (Qd) (Qd)
   refine⟨(zhG g n1).sub bt,?_,o⟩
   rw[ψZ _ (ψx o)]
   have h1:=ψV1 (x.1.2.2 ^ x.2.toNat) (ψx T0)
   have h2:=Int.ediv_nonneg (b:=x.1.2.2 ^ x.2.toNat) (ψx T0) (ψx o)
   omega
  refine zeL (vs:=Fs.map V.int) (S2 _ _ a2) (s2 _ _ h1) (by rw[ψb,lF,ψb,ψb,A.lw,T1.1,lz];omega) (by rw[ψb];omega) hD2 (Qct) λH3 s3 h3=>?_
  ·obtain⟨m,em,rfl⟩:=zaO hx
   obtain⟨u,eu,rfl⟩:=zaO hz
   obtain⟨f,ef,rfl⟩:=zaO hw
   obtain⟨y,ey,hy⟩:=T1.at eu
   rw[← hF] at ef
   have e:=zi5 em ey ef
   subst e
   obtain⟨b1,b2,o⟩:=tb i m y em ey
   obtain⟨g,n1⟩:=gz y (zan ey)
   have hy3:=SqT.of (K:=K) (s3 _ _ (s2 _ _ hy))
   have bm:=A.wb m (zan em)
   simp_all only [zby,zac]
   exact⟨_,hy3,_,rfl,_,hy3,_,rfl,_,rfl,_,rfl,zdb 2800 401 bm b1,_,hy3,_,rfl,_,rfl,by omega,zhL 400 (Qd) (zhG g n1),zdb 3201 2401 (bm.mul b1) (bT.le b2),k _ (Qau)⟩
  ·have S3:=S2.trans s3
   have bp:BP H3 l cl ts bs ns:=(B.same S3).bp (S3 _ _ a4) A.ln gn
   obtain⟨c0,c1⟩:=zgV bs ns B.gb gn
   have hp3:=SqT.of (K:=K) (S3 _ _ a3)
   simp_all only [zby,zac]
   refine⟨_,SqL.of h3,_,hp3,_,rfl,l,cl,ts,bs,ns,rfl,bp,λH4 s4=>?_⟩
   have S4:=S3.trans s4
   have hp4:=SqT.of (K:=K) (S4 _ _ a3)
   have hv4:=SqT.of (K:=K) (S4 _ _ hv)
   have bF:∀f∈Fs,Bd 5602 f:=by
    rw[← hF]
    exact zhk _ λi w x e1 e2=>by
     obtain⟨b1,b2,_⟩:=tb i w x e1 e2
     exact((A.wb w (zan e1)).mul b1).mul (bT.le b2)
   have bFs:=(zkn Fs bF).mono (show _≤5608 by omega)
   have bWs:=(zkn Ws A.wb).mono (show _≤2806 by have:=A.lw;omega)
   have bsp:Bd 15 (bud - (zaR bs ns).sum):=by show(bud - (zaR bs ns).sum).natAbs<2 ^ 15;omega
   have m1:=A.pb.top.mul bsp
   have m2:=m1.mul bT
   have m3:=bFs.mul A.pb.bot
   have m5:=bW.top.mul bWs
   have m6:=m5.mul bT
   simp_all only [zby,zac]
   refine⟨zdb 2800 15 A.pb.top bsp,zdb 2815 2401 m1 bT,_,hp4,_,rfl,_,rfl,zdb 5608 2800 bFs A.pb.bot,_,hv4,_,rfl,_,rfl,zdb 8409 2000 ((m3.mono (show _≤8408 by omega)).add (m2.mono (Qd))) bW.bot,_,hv4,_,rfl,Ws,SqL.of (S4 _ _ a2),_,rfl,zdb 2000 2806 bW.top bWs,zdb 4806 2401 m5 bT,_,hp4,_,rfl,_,rfl,zdb 7207 2800 m6 A.pb.bot,?_⟩
   refine q _ H4 S4 ?_
   rw[decide_eq_true_iff]
   refine zxT T0 ?_
   rw[← hF]
   exact zoV bs Ws ns B.gb dvT
theorem zbA:zaJ ["boxes","budget","worth","paper","weights","price","counts","misses","whole","top","bottom","found","spare"] (QaC) (zai zd7):=(Qa)
theorem zk3(T:Txt K mg a):zcr P w K mg base CX0 3 a.faG a.daG (QaC) zo2:=by
 have GX:=zhw (P:=P) (w:=w) (base:=base) T
 have Gz:=zfs (P:=P) (w:=w) (base:=base) T
 refine T.FaG.ok zbA (Qk) (Qe)
 all_goals obtain⟨l,v,pr,bud,ts,bs,W,P',Ws,ns,rfl,B,hv,bW,A,n60,d0,d1,q⟩:=h
 ·rfl
 exact⟨zgH K,(zaf (zcG (pv 3) (zbp rfl (zal (zak (i:=4) zbA.nd rfl (Qg)) (zal (zak (i:=5) zbA.nd rfl (Qg)) (zal (zak (i:=6) zbA.nd rfl (Qg)) zaZ)))))
 (zaf (zcS (i:=7) zbA.nd rfl rfl (sc:=zai zd7) (N:=["boxes","budget","worth","paper","weights","price","counts","misses","whole","top","bottom","found","spare"]) (Nc:=["box","count"]) (cap:=[none,none]) rfl rfl rfl (Qr) (zd4 rfl T.z_zip (Qb4)) (Qo) (QH) (λ_ _ _ _=>(QbG)))
 (zaf (zaN (i:=8) zbA.nd rfl (Qca) zae)
 (zaf (zdA PassesOwn.never rfl (zb0 (pv 7)) (zbp rfl (zal (zak (i:=9) zbA.nd rfl (Qg)) (zal (zak (i:=10) zbA.nd rfl (Qg)) zaZ)))
 (zah (zaN (i:=8) zbA.nd rfl (Qca) (zao zap (pv 8) (pv 10)))))
 (zaf (zaN (i:=11) zbA.nd rfl (Qg) (zaq (zdo rfl) rfl T.z_sum ψW (zaa (zcc (sc:=zai zd7) (N:=["boxes","budget","worth","paper","weights","price","counts","misses","whole","top","bottom","found","spare"]) (Nc:=["weight","miss","whole"]) (cap:=[none,none,some 8]) rfl rfl rfl (Qr) (zd4 rfl T.z_zip (zaa (pv 4) (zaa (pv 7) zad))) (λ_ _ _ _=>(zbp rfl (zal (zak (i:=0) (show ψk (["weight","miss","whole"]:List Str) from by decide) rfl (Qg)) (zal (zak (i:=1) (show ψk (["weight","miss","whole"]:List Str) from by decide) rfl (Qg)) zaZ)))) (QH) (λ_ _ _ _=>(zao zap (zao zap (pv 0) (zao zcF (QM) (QM))) (zao zc9 (pv 2) (QM))))) zad)))
 (zaf (zaN (i:=12) zbA.nd rfl (Qg) (zao zap (zao zap (Qa6) (zao zcF (pv 1) (zag GX (Qc) rfl T.mX T.FX.kp T.bX .nil zaH (Qb4)))) (pv 8)))
 (zah (zaE (zcg zlI (zao zap (zao zco (zao zap (pv 11) (Qa6)) (pv 12)) (Q6)) (zao zap (zao zap (zao zap (Q6) (Qcf)) (pv 8)) (Qa6)) (zbd _)))))))))),
  zk4 B hv bW A n60 d0 d1 q⟩
theorem zmp{p q r:Addr}{xs ws zs:List V}{g:TG}{tb:TS}{D:zjo}{σ:St}(Pv:Nat→St→Hp→Prop)(h0:Pv 0 σ H)(l1:xs.length=ws.length)(l2:xs.length=zs.length)
  (hl:∀i σ H,i≤xs.length→Pv i σ H→SqL K H p xs∧SqL K H q ws∧SqL K H r zs)
  (hs:∀i x w z t σ H,xs[i]?=some x→ws[i]?=some w→zs[i]?=some z→Pv i σ H→H t=none→g (.ref t) σ (upd H t (.tup [x,w,z])) λσ2 H2=>tb { D with nx:=Pv (i+1),ct:=Pv (i+1),bk:=D.nx } σ2 H2)
  (hd:∀σ H,Pv xs.length σ H→D.nx σ H):znO (Itz3 K p q r) g tb D σ H:=by
 refine⟨λi m σ H=>m=xs.length - i∧i≤xs.length∧Pv i σ H,⟨_,rfl,ψh1 _,h0⟩,?_⟩
 rintro i m σ H ⟨rfl,hi,pv⟩
 obtain⟨hx,hw,hz⟩:=hl i σ H hi pv
 by_cases hlt:i<xs.length
 ·have k1:i<ws.length:=by omega
  have k2:i<zs.length:=by omega
  refine .inr ⟨⟨xs,ws,zs,xs[i],ws[i],zs[i],hx,hw,hz,by simp[hlt],by simp[k1],by simp[k2]⟩,Pv (i+1),λσ' H' p'=>⟨_,by omega,rfl,hlt,p'⟩,λx H' yl=>?_⟩
  obtain⟨t,a,b,c,rfl,ht,rfl,e1,e2,e3⟩:=yl
  exact hs i a b c t σ H (e1 xs hx) (e2 ws hw) (e3 zs hz) pv ht
 ·have e:i=xs.length:=by omega
  subst e
  exact .inl ⟨⟨xs,hx,rfl⟩,hd σ H pv⟩
def zqP:Tr→Rat
 | .tup [.int a,.int b]=>if h:1≤b∧ψz a b=1 then ⟨a,b.toNat,by omega,by have:=h.2;unfold ψz at this;rw[show b.natAbs=b.toNat by omega] at this;exact this⟩ else 0
 | _=>0
theorem zvl{a b:Int}(b1:1≤b)(g:ψz a b=1):(zqP (Qa9)).num=a∧((zqP (Qa9)).den:Int)=b:=by
 have e:zqP (.tup [.int a,.int b])=⟨a,b.toNat,by omega,by have:=g;unfold ψz at this;rw[show b.natAbs=b.toNat by omega] at this;exact this⟩:=dif_pos ⟨b1,g⟩
 rw[e]
 exact⟨rfl,by show((b.toNat:Nat):Int)=b;omega⟩
def zyJ:Tr→List Int
 | .lst ts=>ts.map ivT
 | _=>[]
def pgW:Tr→List Int
 | .tup [w,_,_]=>zyJ w
 | _=>[]
def pgP:Tr→Rat
 | .tup [_,p,_]=>zqP p
 | _=>0
def pgN:Tr→List Int
 | .tup [_,_,c]=>zyJ c
 | _=>[]
theorem zq4:∀{ts:List Tr},ts.all nnT=true→ts=(ts.map ivT).map Tr.int∧∀i∈ts.map ivT,0≤i
 | [],_=>⟨rfl,λi h=>by cases h⟩
 | t::ts,h=>by
  rw[List.all_cons,ψt] at h
  obtain⟨e,hs⟩:=zq4 h.2
  cases t with
  | int i =>
   refine⟨by rw[ψu,ψu,← e];rfl,λj hj=>?_⟩
   rcases List.mem_cons.mp hj with rfl | hj
   ·exact of_decide_eq_true h.1
   ·exact hs j hj
  | _=>cases h.1
theorem zxq{n:Nat}{t:Tr}(h:zpE n t=true):∃ns:List Int,t=.lst (QbF)∧ns.length=n∧(∀i∈ns,0≤i)∧0<ns.sum:=by
 unfold zpE at h
 split at h
 ·rename_i ts
  rw[ψt,ψt,decide_eq_true_eq,decide_eq_true_eq] at h
  obtain⟨e,hs⟩:=zq4 h.1.2
  exact⟨_,by rw[← e],by rw[ψb];exact h.1.1,hs,h.2⟩
 ·cases h
theorem zsu{t:Tr}(h:ze8 t=true):∃a b,t=.tup [.int a,.int b]∧1≤b∧ψz a b=1∧0≤a:=by
 unfold ze8 at h
 split at h
 ·rw[ψt,ψt,decide_eq_true_eq,decide_eq_true_eq,decide_eq_true_eq] at h
  exact⟨_,_,rfl,h.1.1,h.1.2,h.2⟩
 ·cases h
theorem zs4{i:Int}(g:Gt (.int i)):Bd 2800 i:=ψg1 (zvT g.i (Qm)) (QaI)
theorem zwt{ns:List Int}(g:Gt (.lst (QbF))):∀i∈ns,Bd 2800 i:=λi hi=>zs4 (g.m _ (List.mem_map.mpr ⟨i,hi,rfl⟩))
theorem zkH{n:Nat}{t:Tr}{vp:V}(h:Sh H t vp)(g:Gt t)(c:zdq n t=true):∃pr:Addr,vp=.ref pr∧PpH H pr n (pgW t) (pgP t) (pgN t)∧(∀m∈pgN t,m≤60)∧0<(pgW t).sum:=by
 unfold zdq at c
 split at c
 ·rename_i w p k
  rw[ψt,ψt] at c
  obtain⟨Ws,rfl,lw,w0,wp⟩:=zxq c.1.1
  obtain⟨a,b,rfl,b1,gab,a0⟩:=zsu c.1.2
  obtain⟨ns,rfl,ln,hn⟩:=zoG c.2
  obtain⟨pr,xs,rfl,hp,hx⟩:=zpn h
  obtain⟨x0,r0,rfl,s0,h1⟩:=hx.uncons
  obtain⟨x1,r1,rfl,s1,h2⟩:=h1.uncons
  obtain⟨x2,r2,rfl,s2,h3⟩:=h2.uncons
  obtain rfl:=h3.unnil
  obtain⟨wl,ws,rfl,hw,hws⟩:=zkE s0
  obtain rfl:=zhZ hws
  obtain⟨cl,cs,rfl,hc,hcs⟩:=zkE s2
  obtain rfl:=zhZ hcs
  obtain⟨pp,ys,rfl,hpp,hy⟩:=zpn s1
  obtain⟨y0,r0,rfl,u0,hy1⟩:=hy.uncons
  obtain⟨y1,r1,rfl,u1,hy2⟩:=hy1.uncons
  obtain rfl:=hy2.unnil
  cases u0
  cases u1
  have eW:pgW (.tup [.lst (Ws.map Tr.int),.tup [.int a,.int b],.lst (QbF)])=Ws:=zjc Ws
  have eN:pgN (.tup [.lst (Ws.map Tr.int),.tup [.int a,.int b],.lst (QbF)])=ns:=zjc ns
  have eP:pgP (.tup [.lst (Ws.map Tr.int),.tup [.int a,.int b],.lst (QbF)])=zqP (.tup [.int a,.int b]):=rfl
  obtain⟨f1,f2⟩:=zvl b1 gab
  rw[eW,eN,eP]
  have ga:=g.tm (Qa9) (Qa0)
  refine⟨pr,rfl,⟨⟨wl,pp,cl,hp,hw,?_,hc⟩,lw,ln,w0,zwt (g.tm _ (Qa0)),λm hm=>⟨(hn m hm).1,by have:=(hn m hm).2;omega⟩,?_,?_⟩,λm hm=>(hn m hm).2,wp⟩
  ·rw[hpp]
   show _=some (HO.tup [V.int _,V.int _])
   rw[f1,f2]
  ·exact Rat.num_nonneg.mp (by rw[f1];exact a0)
  ·refine⟨?_,?_⟩
   ·rw[f1]
    exact zs4 (ga.tm _ (Qa0))
   ·first | (rw[f2];exact zs4 (ga.tm _ (Qa0))) | (have:=zs4 (ga.tm (.int b) (Qa0));unfold Bd at this;omega)
 ·cases c
def znX:Sp:=λvs H Q _=>∃(l v:Addr) (vp:V) (bud:Int) (ts:List Addr) (bs:List Box) (W:Rat) (tp:Tr),vs=[.ref l,.int bud,.ref v,vp]∧Bx6 H l ts bs∧H v=some (Q9)∧Bq 2000 W∧Sh H tp vp∧Gt tp∧0≤bud∧bud≤60∧∀(r:Bool) (H':Hp),zaP H H'→(r=true↔zdq bs.length tp=true∧zvD bs bud W (pgW tp) (pgP tp) (pgN tp))→Q (.bl r) H'
def ze6(K:ψa):TS :=
 (zbf (QaV)
 (zbf (zka (zvt K (zab (zac 0) (zab (zac 4) (zab (zac 6) zas)))) (zed K 3 (zaQ (zaj 7) (zaQ (zaj 8) (zaQ (zaj 9) zd9))))
 (zd2 (zf7 (tB (zaG zmn [] E0 (zab (zac 7) (zab (zac 8) (zab (zac 5) (zab (zac 9) zas))))))) (QD) zb7))
 (zb2 (zaG zo2 [] E0 (Qab)))))
def zbx(K:ψa):=eqT (ze6.eq_1 K)
def zea(K:ψa):TS :=
 (zbf (ze2 (zd2 (zf7 (tB (zaG zmB [] E0 (zab (zac 3) (QF))))) (QD) zb7))
 (ze6 K))
theorem zii{l v:Addr}{vp:V}{bud:Int}{ts:List Addr}{bs:List Box}{W:Rat}{tp:Tr}(B:Bx6 H l ts bs)(hv:H v=some (Q9))(bW:Bq 2000 W)(h:Sh H tp vp)(g:Gt tp)(d0:0≤bud)(d1:bud≤60)(q:∀(r:Bool) (H':Hp),zaP H H'→(r=true↔zdq bs.length tp=true∧zvD bs bud W (pgW tp) (pgP tp) (pgN tp))→Q (.bl r) H') :
  zea K { nx:=λ_ H'=>Q .non H',rt:=Q } (L2.start ["boxes","budget","worth","paper","weights","price","counts","box","weight","count"] [.ref l,.int bud,.ref v,vp]) H:=by
 unfold zea
 have l6:=B.l6
 simp_all only [zbx,zac]
 refine⟨λσ H'=>zaP H H'∧zdq bs.length tp=true∧σ=[some (Qa1),some (Qbc),some (Qcw),some vp,none,none,none,none,none,none],?_,?_⟩
 ·simp_all only [zbx,zac]
  refine⟨tp,vp,l,_,rfl,B.hl,h,g,λH1 s1=>(QU)⟩
  rw[ψb,B.hb.1]
  by_cases c:zdq bs.length tp=true
  ·rw[if_neg (by simp[c])]
   exact⟨s1,c⟩
  ·rw[if_pos (Qce)]
   exact q false H1 s1 ⟨λz=>(QcC),λz=>absurd z.1 c⟩
 ·rintro σ H1 ⟨s1,ok,rfl⟩
  obtain⟨pr,rfl,A,n60,sp⟩:=zkH h g ok
  generalize pgW tp=Ws at A sp q
  generalize pgP tp=P at A q
  generalize pgN tp=ns at A n60 q
  have A1:=A.same s1
  have B1:=B.same s1
  obtain⟨wl,pp,cl,a1,a2,a3,a4⟩:=A1.ex
  simp_all only [zbx,zac]
  refine⟨_,SqT.of a1,rfl,_,_,rfl,_,_,rfl,_,_,rfl,rfl,?_⟩
  simp_all only [zbx,zac]
  refine⟨⟨_,SqL.of B1.hl⟩,⟨_,SqL.of a2⟩,⟨_,SqL.of a4⟩,?_⟩
  refine zmp (K:=K) (xs:=ts.map V.ref) (ws:=Ws.map V.int) (zs:=ns.map V.int) (λi σ H'=>zaP H1 H'∧(∀(j:Nat) b w n,j<i→bs[j]?=some b→Ws[j]?=some w→ns[j]?=some n→Mrk b w P n)∧∃y7 y8 y9,σ=[some (Qa1),some (Qbc),some (Qcw),some (.ref pr),some (.ref wl),some (.ref pp),some (.ref cl),y7,y8,y9]) ⟨.refl _,λj b w n hj=>absurd hj (ψn1 j),_,_,_,rfl⟩ (by rw[ψb,ψb,B.hb.1,A.lw]) (by rw[ψb,ψb,B.hb.1,A.ln]) ?_ ?_ ?_
  ·rintro i σ H' _ ⟨s,_⟩
   exact⟨SqL.of (s _ _ B1.hl),SqL.of (s _ _ a2),SqL.of (s _ _ a4)⟩
  ·rintro i x w z u σ H2 hx hw hz ⟨s2,hm,y7,y8,y9,rfl⟩ hu
   obtain⟨t,et,rfl⟩:=zaO hx
   obtain⟨m,em,rfl⟩:=zaO hw
   obtain⟨n,en,rfl⟩:=zaO hz
   obtain⟨b,eb,hb⟩:=B1.hb.at et
   simp_all only [zbx,zac]
   have s3:=zat hu (.tup [V.ref t,V.int m,V.int n])
   have h3:(L2.upd H2 u (.tup [V.ref t,V.int m,V.int n])) u=some (.tup [V.ref t,V.int m,V.int n]):=zam
   generalize L2.upd H2 u (.tup [V.ref t,V.int m,V.int n])=H3 at s3 h3 ⊢
   refine⟨_,SqT.of h3,rfl,_,_,rfl,_,_,rfl,_,_,rfl,rfl,?_⟩
   have s13:=s2.trans s3
   refine⟨t,pp,b,m,n,P,rfl,⟨s13 _ _ hb,B.gb b (zan eb),s13 _ _ a3,A.wb m (zan em),A.pb,(A.n0 n (zan en)).1,n60 n (zan en)⟩,λr H4 s4 hr=>⟨r,rfl,?_⟩⟩
   cases r with
   | true =>
    refine zbj (Qj) (λ_=>⟨s13.trans s4,λj b' w' n' hj e1 e2 e3=>?_⟩)
    by_cases ej:j=i
    ·subst ej
     rw[eb] at e1
     rw[em] at e2
     rw[en] at e3
     cases e1
     cases e2
     cases e3
     exact hr.mp rfl
    ·exact hm j b' w' n' (Qd) e1 e2 e3
   | false =>
    refine zbj (λ_=>q false H4 (s1.trans (s13.trans s4)) ⟨λz=>(QcC),λz=>absurd (hr.mpr (z.2.mr i b m n eb em en)) (Qm)⟩) (Qv)
  ·rintro σ H2 ⟨s2,hm,y7,y8,y9,rfl⟩
   rw[ψb,B.hb.1] at hm
   have S2:=s1.trans s2
   simp_all only [zbx,zac]
   refine⟨l,v,pr,bud,ts,bs,W,P,Ws,ns,rfl,B.same S2,S2 _ _ hv,bW,A.same S2,n60,d0,d1,λr H3 s3 hr=>?_⟩
   exact q r H3 (S2.trans s3) ⟨λz=>⟨ok,⟨λi b w n e1 e2 e3=>hm i b w n (Qbh).1 e1 e2 e3,hr.mp z⟩⟩,λz=>hr.mpr z.2.sm⟩
theorem zbF:zaJ ["boxes","budget","worth","paper","weights","price","counts","box","weight","count"] (QaC) (zai zeh):=(Qa)
theorem zis(T:Txt K mg a):zcr P w K mg base CX0 5 a.faH a.daH (QaC) znX:=by
 have GaF:=zi0 (P:=P) (w:=w) (base:=base) T
 have GaC:=zil (P:=P) (w:=w) (base:=base) T
 have GaG:=zk3 (P:=P) (w:=w) (base:=base) T
 refine T.FaH.ok zbF (Qk) (Qe)
 all_goals obtain⟨l,v,vp,bud,ts,bs,W,tp,rfl,B,hv,bW,h,g,d0,d1,q⟩:=h
 ·rfl
 exact⟨zea K,(zaf (zbz (zb1 (zbW (zbu (zag GaC (Qc) rfl T.maC T.FaC.kp T.baC .nil zaH (zaa (pv 3) (Qaj))))) (QZ) zaY))
 (zaf (zcG (pv 3) (zbp rfl (zal (zak (i:=4) zbF.nd rfl (Qg)) (zal (zak (i:=5) zbF.nd rfl (Qg)) (zal (zak (i:=6) zbF.nd rfl (Qg)) zaZ)))))
 (zaf (zdA PassesOwn.never rfl (zta rfl T.z_zip (zaa (pv 0) (zaa (pv 4) (zaa (pv 6) zad)))) (zbp rfl (zal (zak (i:=7) zbF.nd rfl (Qg)) (zal (zak (i:=8) zbF.nd rfl (Qg)) (zal (zak (i:=9) zbF.nd rfl (Qg)) zaZ))))
 (zah (zb1 (zbW (zbu (zag GaF (Qc) rfl T.maF T.FaF.kp T.baF .nil zaH (zaa (pv 7) (zaa (pv 8) (zaa (pv 5) (zaa (pv 9) zad))))))) (QZ) zaY)))
 (zah (zaE (zag GaG (Qc) rfl T.maG T.FaG.kp T.baG .nil zaH (Qae))))))),
  zii B hv bW h g d0 d1 q⟩
def Jdg(s h:Prop)(H:Hp)(v:V):Prop:=(s∧h∧v=.non)∨(¬ s∧∃r,v=.ref r∧H r=some (.tup [.str "seeker"]))∨(s∧¬ h∧∃r,v=.ref r∧H r=some (.tup [.str "hider"]))
def zpq:Sp:=λvs H Q _=>∃(l v:Addr) (vm vp:V) (bud:Int) (ts:List Addr) (bs:List Box) (W:Rat) (t tp:Tr),vs=[.ref l,.int bud,.ref v,vm,vp]∧Bx6 H l ts bs∧H v=some (Q9)∧Bq 2000 W∧Sh H t vm∧Gt t∧Sh H tp vp∧Gt tp∧0≤bud∧bud≤60∧∀(r:V) (H':Hp),zaP H H'→Jdg (zmf bs.length t=true∧zui bs bud W (zmh t)) (zdq bs.length tp=true∧zvD bs bud W (pgW tp) (pgP tp) (pgN tp)) H' r→Q r H'
def zfp:TS :=
 (zd2 (zf7 (tB (zaG znX [] E0 (zab (zac 0) (zab (zac 1) (zab (zac 2) (QaO))))))) (zb2 (zf6 (zab (tC (.str "hider")) zas))) zb7)
def zci:=eqT (zfp.eq_1)
def zft:TS :=
 (zd2 (zf7 (tB (zaG znm [] E0 (Qab)))) (zb2 (zf6 (zab (tC (.str "seeker")) zas))) zb7)
def zch:=eqT (zft.eq_1)
def zeM:TS :=
 (zbf (zkh (zaG zs0 [] E0 (QF)))
 (zbf (zkh (zaG zf8 [] E0 (QV)))
 (zbf (ze2 (zft))
 (zbf (ze2 (zfp))
 (zb2 (tC .non))))))
theorem ziX{l v:Addr}{vm vp:V}{bud:Int}{ts:List Addr}{bs:List Box}{W:Rat}{t tp:Tr}(B:Bx6 H l ts bs)(hv:H v=some (Q9))(bW:Bq 2000 W)(h:Sh H t vm)(g:Gt t)(hp:Sh H tp vp)(gp:Gt tp)(d0:0≤bud)(d1:bud≤60)(q:∀(r:V) (H':Hp),zaP H H'→Jdg (zmf bs.length t=true∧zui bs bud W (zmh t)) (zdq bs.length tp=true∧zvD bs bud W (pgW tp) (pgP tp) (pgN tp)) H' r→Q r H') :
  zeM { nx:=λ_ H'=>Q .non H',rt:=Q } (L2.start (QaH) [.ref l,.int bud,.ref v,vm,vp]) H:=by
 unfold zeM
 simp_all only [zci,zch,zac]
 refine⟨l,ts,bs,rfl,B.hl,B.hb,B.gb,B.l1,B.l6,λH1 s1=>⟨bud,rfl,d0,d1,?_⟩⟩
 refine⟨λσ H'=>zaP H1 H'∧(zmf bs.length t=true∧zui bs bud W (zmh t))∧σ=[some (Qa1),some (Qbc),some (Qcw),some vm,some vp],?_,?_⟩
 ·simp_all only [zci,zch,zac]
  refine⟨l,v,vm,bud,ts,bs,t,W,rfl,B.same s1,s1 _ _ hv,bW,h.same s1,g,d0,d1,λr H2 s2 hr=>⟨r,rfl,?_⟩⟩
  cases r with
  | true=>exact zbj (Qj) (λ_=>⟨s2,hr.mp rfl⟩)
  | false =>
   refine zbj (λ_=>(Qci)) (Qv)
   exact q _ _ ((QbI).add np) (.inr (.inl ⟨λz=>absurd (hr.mpr z) (Qm),p,rfl,zam⟩))
 ·rintro σ H2 ⟨s2,sk,rfl⟩
  have S2:=s1.trans s2
  refine⟨λσ H'=>zaP H2 H'∧(zdq bs.length tp=true∧zvD bs bud W (pgW tp) (pgP tp) (pgN tp))∧σ=[some (Qa1),some (Qbc),some (Qcw),some vm,some vp],?_,?_⟩
  ·simp_all only [zci,zch,zac]
   refine⟨l,v,vp,bud,ts,bs,W,tp,rfl,B.same S2,S2 _ _ hv,bW,hp.same S2,gp,d0,d1,λr H3 s3 hr=>⟨r,rfl,?_⟩⟩
   cases r with
   | true=>exact zbj (Qj) (λ_=>⟨s3,hr.mp rfl⟩)
   | false =>
    refine zbj (λ_=>(Qci)) (Qv)
    exact q _ _ ((S2.trans s3).add np) (.inr (.inr ⟨sk,λz=>absurd (hr.mpr z) (Qm),p,rfl,zam⟩))
  ·rintro σ H3 ⟨s3,hd,rfl⟩
   simp_all only [zci,zch,zac]
   exact q _ H3 (S2.trans s3) (.inl ⟨sk,hd,rfl⟩)
theorem ziZ:zaJ (QaH) (QaH) (zai zeU):=(Qa)
theorem ziY(T:Txt K mg a):zcr P w K mg base CX0 7 a.faI a.daI (QaH) zpq:=by
 have GaH:=zis (P:=P) (w:=w) (base:=base) T
 have GaB:=zhO (P:=P) (w:=w) (base:=base) T
 have Gag:=zhT (P:=P) (w:=w) (base:=base) T
 have Gah:=zg7 (P:=P) (w:=w) (base:=base) T
 refine T.FaI.ok ziZ (Qk) (Qe)
 all_goals obtain⟨l,v,vm,vp,bud,ts,bs,W,t,tp,rfl,B,hv,bW,h,g,hp,gp,d0,d1,q⟩:=h
 ·rfl
 exact⟨zeM,(zaf (zgD (zag Gag (Qc) rfl T.mag T.Fag.kp T.bag .nil zaH (Qaj)))
 (zaf (zgD (zag Gah (Qc) rfl T.mah T.Fah.kp T.bah .nil zaH (Qw)))
 (zaf (zbz (zb1 (zbW (zbu (zag GaB (Qc) rfl T.maB T.FaB.kp T.baB .nil zaH (Qae)))) (zah (zaE (zbI (zaa zl6 zad)))) zaY))
 (zaf (zbz (zb1 (zbW (zbu (zag GaH (Qc) rfl T.maH T.FaH.kp T.baH .nil zaH (zaa (pv 0) (zaa (pv 1) (zaa (pv 2) (Qa3))))))) (zah (zaE (zbI (zaa zl6 zad)))) zaY))
 (zah (zaE zkq)))))),
  ziX B hv bW h g hp gp d0 d1 q⟩
open HT in
theorem cut63(ns:List Int):∃ms:List Int,ziW (QJ) none (some 63)=ms.map V.int∧ms.length≤63:=by
 refine⟨ns.take 63,?_,by rw[ψM];omega⟩
 unfold ziW
 rw[zjg,Nat.sub_zero,List.drop_zero]
 have e:sIx (QJ).length (QJ).length (some 63)=min 63 (QJ).length:=sIx_nat _ _ 63
 rw[e,List.map_take]
 by_cases c:63≤(ns.map V.int).length
 ·rw[Nat.min_eq_left c]
 ·have c':(QJ).length≤63:=by omega
  rw[Nat.min_eq_right c',ψK (ψh _),ψK c']
def zga(K:ψa):TS :=
 (zbf (zbq (tSl (zuH K) (zac 0) zef (ziv (tC (.int 63)))) (zaj 1))
 (zbf (ze2 (zd2 (zcp (tOp (rEqE K) (zac 1) (zhK zas))) (zbq (zhK (zab (Qq) zas)) (zaj 1)) zb7))
 (zb2 (zhK (zab (zac 1) (zab (Qq) zas))))))
theorem zlK{s:Addr}{ns:List Int}(hS:SqL K H s (QJ))(q:∀(p c:Addr) (H':Hp),zaP H H'→Pur H' p c 0→Q (Qbn) H') :
  zga K { nx:=λ_ H'=>Q .non H',rt:=Q } (L2.start ["_law_script","_law_cells"] [.ref s]) H:=by
 unfold zga
 simp_all only [zac]
 refine⟨_,hS,λc hc=>?_⟩
 obtain⟨ms,em,lm⟩:=cut63 ns
 rw[em]
 refine⟨λσ H'=>zaP H H'∧∃(c:Addr) (ms:List Int),σ=[some (.ref s),some (.ref c)]∧H' c=some (.lst (QaL))∧0<ms.length∧ms.length≤63,?_,?_⟩
 ·simp_all only [zac]
  refine⟨by decide,λe he=>?_⟩
  have hce:c≠e:=zaT zam he
  refine⟨_,SqL.of (by rw[zaS hce];exact zam),SqL.of zam,?_⟩
  refine zbj (Qcz) (Qcz)
  ·refine⟨by decide,λd hd=>⟨((zat hc _).add he).add hd,[0],zam,by decide,by decide⟩⟩
  ·refine⟨(zat hc _).add he,ms,by rw[zaS hce];exact zam,?_,lm⟩
   cases ms with
   | nil=>exact absurd rfl z
   | cons x xs=>exact Nat.succ_pos _
 ·rintro σ H' ⟨s1,c,ms,rfl,h1,h2,h3⟩
  simp_all only [zac]
  refine⟨by decide,λp hp=>q p c _ (s1.add hp) ⟨(zaT h1 hp).symm,zam,⟨ms,by rw[zaS (zaT h1 hp)];exact h1,h2,h3⟩,by decide⟩⟩
theorem zfY:zaJ ["_law_script","_law_cells"] (Qb8) (zai zge):=(Qa)
theorem zlG(T:Txt K mg a):zcr P w K mg base CX0 1 a.faS a.daS (Qb8) (zqB K):=by
 refine T.FaS.ok zfY (Qk) (Qe)
 all_goals obtain⟨s,ns,rfl,hS,q⟩:=h
 ·rfl
 exact⟨zga K,(zaf (zaN (i:=1) zfY.nd rfl (Qg) (zdZ zhx (pv 0) zfg (zeG zae)))
 (zaf (zbz (zb1 (zbi (zvX hr.units) (pv 1) (zcl zad) (zbd _)) (zah (zaN (i:=1) zfY.nd rfl (Qg) (zcl (Qam)))) zaY))
 (zah (zaE (zcl (zaa (pv 1) (Qam))))))),
  zlK hS q⟩
theorem logM{m:Int}(h0:0<m)(h1:m≤1000000000000000000000000000000):m.natAbs.log2<9000:=zhL 100 (Qd) (Qd)
theorem zAv{n j:Nat}(h:j<n):ixN n (j:Int)=some j:=by
 unfold ixN
 rw[if_pos (Qd),if_pos (Qd)]
 simp
def zie:TS :=
 (zbf (zbq (tOp (Qcg) (tOp (Qz) (tOp (Qz) (tOp (Qb) (zac 5) (tC (.int 48271))) (tOp (Qb) (tOp (Qb) (zac 3) (zac 3)) (tC (.int 69621)))) (tC (.int 7))) (tC (.int 2147483647))) (zaj 6))
 (zbf (zbq (tOp (Qcg) (tOp (Qb) (zac 6) (zac 6)) (tC (.int 2147483629))) (zaj 6))
 (zb2 (tOp (Q7) (tOp (Qcg) (tOp (Qb) (zac 6) (zac 6)) (tC (.int 2147483587))) (zac 1)))))
def zcz:=eqT (zie.eq_1)
def zh0:TS :=
 (zd2 (zcp (tOp (QN) (zac 5) (tOp (QaD) (tC (.int 10)) (tC (.int 18))))) (zbf (zbq (tOp (Qt) (zac 5) (zac 1)) (zwh (zac 2) (zac 4) zml))
 (zb2 (tOp (Q7) (zac 5) (zac 1)))) zb7)
def zcw:=eqT (zh0.eq_1)
def zht(K:ψa):TS :=
 (zbf (zbq (zac 0) (gLst K 2 (QaS)))
 (zbf (zbq (tOp (Q7) (zac 3) (tCB (Qf) (QaE))) (zaj 4))
 (zbf (zbq (tOp (zf2 K) (zac 2) (zac 4)) (zaj 5))
 (zbf (zbq (tOp (Qz) (zac 3) (Qi)) (zwh (zac 0) (Qi) zml))
 (zbf (ze2 (zh0))
 (zie))))))
theorem zmE{p c:Addr}{t m:Int}(hP:Pur H p c t)(t1:t<100000)(m0:0<m)(m1:m≤1000000000000000000000000000000)
  (q:∀(r:Int) (H':Hp),0≤r→r<m→Off p c H'=Off p c H→Pur H' p c (t+1)→Q (.int r) H') :
  zht K { nx:=λ_ H'=>Q .non H',rt:=Q } (L2.start ["_law_purse_here","_law_out_of","_law_cells","_law_turn","_law_at","_law_cell","_law_number"] [.ref p,.int m]) H:=by
 unfold zht
 obtain⟨ns,hc,l0,l1⟩:=hP.hc
 have t0:=hP.t0
 have el:((QJ).length:Int)=(ns.length:Int):=by rw[ψb]
 simp_all only [zcz,zcw,zac]
 refine⟨_,SqL.of hP.hp,rfl,_,_,rfl,_,_,rfl,rfl,?_⟩
 simp_all only [zcz,zcw,zac]
 refine⟨_,.inl (SqL.of hc),?_⟩
 rw[el]
 have lp:(0:Int)<(ns.length:Int):=by omega
 rw[ψy1 t (ψx lp)]
 have k0:=Int.emod_nonneg t (show(ns.length:Int)≠0 by omega)
 have k1:=ψH1 t lp
 obtain⟨v,hv,_⟩:=zzu (ns:=ns) k0 k1
 generalize t % (ns.length:Int)=k at k0 k1 hv ⊢
 refine⟨by omega,_,SqL.of hc,_,hv,?_⟩
 refine⟨_,hP.hp,1,rfl,?_⟩
 simp_all only [zcz,zcw,zac]
 have hp2:∀G:Hp,(L2.upd G p (.lst [.ref c,.int (t+1)])) p=some (.lst [.ref c,.int (t+1)]):=λG=>zam
 have hc2:(L2.upd H p (.lst [.ref c,.int (t+1)])) c=some (.lst (QJ)):=by rw[zaS hP.ne.symm];exact hc
 have o2:Off p c (L2.upd H p (.lst [.ref c,.int (t+1)]))=Off p c H:=zx0
 have hp3:=hp2 H
 generalize L2.upd H p (.lst [.ref c,.int (t+1)])=G at hp3 hc2 o2 ⊢
 refine⟨λσ H'=>H'=G∧σ=[some (Qbn),some (.int m),some (.ref c),some (.int t),some (.int k),some (.int v),none],?_,?_⟩
 ·simp_all only [zcz,zcw,zac]
  refine⟨pow18,zbj (Qcz) (λz=>trivial)⟩
  obtain⟨j,rfl⟩:=ψd1 k0
  refine⟨by omega,logM m0 m1,_,hc2,j,zAv (by rw[ψb];omega),by omega,?_⟩
  rw[ψy1 v (ψx m0)]
  refine q _ _ (Int.emod_nonneg _ (Qd)) (ψH1 _ m0) (off_c.trans o2) ⟨hP.ne,by rw[zaS hP.ne];exact hp3,⟨ns.set j (v.fdiv m),?_,by rw[List.length_set];exact l0,by rw[List.length_set];exact l1⟩,by omega⟩
  rw[zam,List.map_set]
 ·rintro σ H' ⟨e,rfl⟩
  rw[e]
  simp_all only [zcz,zcw,zac]
  have a1:IntMulOk t t:=zql (Qd) (Qd)
  have a2:IntMulOk (t*t) 69621:=zql (Qm) (Qm)
  generalize v*48271+t*t*69621+7=y
  have b3:=Int.emod_nonneg y (show(2147483647:Int)≠0 by decide)
  have b4:=ψH1 y (show(0:Int)<2147483647 by decide)
  generalize y % 2147483647=x at b3 b4 ⊢
  have b5:=Int.emod_nonneg (x*x) (show(2147483629:Int)≠0 by decide)
  have b6:=ψH1 (x*x) (show(0:Int)<2147483629 by decide)
  have a3:IntMulOk x x:=zql (Qd) (Qd)
  generalize x*x % 2147483629=w at b5 b6 ⊢
  refine⟨zql (Qm) (Qm),a1,a2,by decide,a3,by decide,zql (Qd) (Qd),by decide,by omega,?_⟩
  rw[ψy1 _ (ψx m0)]
  exact q _ _ (Int.emod_nonneg _ (Qd)) (ψH1 _ m0) o2 ⟨hP.ne,hp3,⟨ns,hc2,l0,l1⟩,by omega⟩
theorem zcN:zaJ ["_law_purse_here","_law_out_of","_law_cells","_law_turn","_law_at","_law_cell","_law_number"] (Qcx) (zai zhC):=(Qa)
theorem zcq(T:Txt K mg a):zcr P w K mg base CX0 1 a.fh a.dh (Qcx) zcy:=by
 refine T.Fh.ok zcN (Qk) (Qe)
 all_goals obtain⟨p,c,t,m,rfl,hP,t1,m0,m1,q⟩:=h
 ·rfl
 exact⟨zht K,(zaf (zcG (pv 0) (zyS rfl (zal (zak (i:=2) zcN.nd rfl (Qg)) (zal (zak (i:=3) zcN.nd rfl (Qg)) zaZ))))
 (zaf (zaN (i:=4) zcN.nd rfl (Qg) (zao zhD (pv 3) (zaq zaV rfl T.z_len ψH (QaP))))
 (zaf (zaN (i:=5) zcN.nd rfl (Qg) (zaI zbm (pv 2) (pv 4) (Qp)))
 (zaf (zcG (zao zco (pv 3) zae) (zkt (pv 0) zae zgP))
 (zaf (zbz (zb1 (zbi zjz (pv 5) (zao zky zae zae) (zbd _)) (zaf (zcG (zao zc9 (pv 5) (pv 1)) (zkt (pv 2) (pv 4) zgP))
 (zah (zaE (zao zhD (pv 5) (pv 1))))) zaY))
 (zaf (zaN (i:=6) zcN.nd rfl (Qg) (zao zrL (zao zco (zao zco (zao zap (pv 5) zae) (zao zap (zao zap (pv 3) (pv 3)) zae)) zae) zae))
 (zaf (zaN (i:=6) zcN.nd rfl (Qg) (zao zrL (zao zap (pv 6) (pv 6)) zae))
 (zah (zaE (zao zhD (zao zrL (zao zap (pv 6) (pv 6)) zae) (pv 1))))))))))),
  zmE hP t1 m0 m1 q⟩
theorem Pur.put{H:Hp}{p c:Addr}{t:Int}(P:Pur H p c t){b:Addr}(hb:H b=none)(o:HO):zaP (QaJ) (Off p c (QcL))∧Off p c (QcL) b=some o∧Pur (QcL) p c t:=by
 have n:=P.new hb
 rw[zcQ n.1 n.2]
 exact⟨zat (zfM hb) _,zam,P.upd n.1 n.2⟩
theorem zfT{p c:Addr}{H H':Hp}(o:Off p c H'=Off p c H):zaP (QaJ) (Off p c H'):=by
 rw[o]
 exact .refl _
def zoQ:Sp:=λvs H Q _=>∃(p c:Addr) (t:Int),vs=[.ref p,.int 6]∧Pur H p c t∧t<10000∧∀(l:Addr) (ts:List Addr) (bs:List Box) (t':Int) (H':Hp),zaP (QaJ) (Qag)→Pur H' p c t'→t'≤t+50→Off p c H' l=some (Q4)→Tps bx (Qag) ts bs→(QaF)→1≤bs.length→bs.length≤6→Q (Qa1) H'
theorem at2{r x y:Int}(h0:0≤r)(h1:r<2):∃v:Int,atI [V.int x,V.int y] r=some (.int v)∧(v=x∨v=y):=by
 have:r=0∨r=1:=by omega
 rcases this with rfl | rfl
 ·exact⟨x,rfl,.inl rfl⟩
 ·exact⟨y,rfl,.inr rfl⟩
def zhj(K:ψa):TS :=
 (zkh (tBM K "list" zcD (zac 2) (zab (zf6 (zab (zac 4) (zab (zac 6) (Qcn)))) zas)))
def zdM(K:ψa):=eqT (zhj.eq_1 K)
def zg4(K:ψa):TS :=
 (zbf (zbq (tOp (zf2 K) (zhK (zab (tOp (Qz) (Qi) (zaG zcy [] E0 (zab (zac 0) (Qcn)))) (Qcn))) (tOp (rI (λ_ j=>0<j∧j.natAbs.log2<9000) λi j=>.int (i / j)) (zaG zcy [] E0 (zab (zac 0) (zab (tC (.int 4)) zas))) (QbQ))) (zaj 6))
 (zhj K))
def zdI(K:ψa):=eqT (zg4.eq_1 K)
def zg3(K:ψa):TS :=
 (zbf (zbq (tOp (Qz) (Qi) (zaG zcy [] E0 (zab (zac 0) (zab (tOp (zf2 K) (zhK (zab (tC (.int 4)) (zab (tC (.int 50)) zas))) (Qba)) zas)))) (zaj 5))
 (zg4 K))
def zdK(K:ψa):=eqT (zg3.eq_1 K)
def zhn(K:ψa):TS :=
 (zbf (zbq (tOp (Qz) (Qi) (zaG zcy [] E0 (zab (zac 0) (zab (tOp (zf2 K) (zhK (zab (QbQ) (QaM))) (Qba)) zas)))) (zaj 4))
 (zg3 K))
def zaW(K:ψa):=eqT (zhn.eq_1 K)
def zgC(K:ψa):TS :=
 (zbf (zbq (zhK zas) (zaj 2))
 (zbf (zka (zmW (zab (tOp (Qz) (Qi) (zaG zcy [] E0 (Qy))) zas)) (zaj 3)
 (zhn K))
 (zb2 (zac 2))))
theorem zlP{p c:Addr}{t:Int}(hP:Pur H p c t)(t1:t<10000)
  (q:∀(l:Addr) (ts:List Addr) (bs:List Box) (t':Int) (H':Hp),zaP (QaJ) (Qag)→Pur H' p c t'→t'≤t+50→Off p c H' l=some (Q4)→Tps bx (Qag) ts bs→(QaF)→1≤bs.length→bs.length≤6→Q (Qa1) H') :
  zgC K { nx:=λ_ H'=>Q .non H',rt:=Q } (L2.start ["_law_purse_here","_law_most","_law_found","_law_k","_law_cost","_law_of","_law_hits"] [.ref p,.int 6]) H:=by
 unfold zgC
 simp_all only [zaW,zac]
 refine⟨by decide,λl hl=>?_⟩
 have nl:=hP.new hl
 have P1:=hP.upd (o:=.lst []) nl.1 nl.2
 have s1:zaP (QaJ) (Off p c (L2.upd H l (Qcb))):=by
  rw[zcQ nl.1 nl.2]
  exact zat (zfM hl) _
 have hl1:Off p c (L2.upd H l (Qcb)) l=some (.lst []):=by
  rw[zcQ nl.1 nl.2]
  exact zam
 generalize L2.upd H l (.lst [])=H1 at P1 s1 hl1 ⊢
 refine⟨p,c,t,6,rfl,P1,by omega,by decide,by decide,λr H2 r0 r1 o2 P2=>?_⟩
 simp_all only [zaW,zac]
 refine⟨by omega,by omega,?_⟩
 refine zfx (λi σ H'=>∃(ts:List Addr) (bs:List Box) (u:Int),zaP (QaJ) (Qag)∧Pur H' p c u∧u≤t+1+7*i∧Off p c H' l=some (Q4)∧Tps bx (Qag) ts bs∧(QaF)∧bs.length=i∧∃k x y z,σ=[some (Qbn),some (.int 6),some (Qa1),k,x,y,z]) ?_ ?_ ?_
 ·refine⟨[],[],t+1,by rw[o2];exact s1,P2,by omega,by rw[o2];exact hl1,.nil,by simp,rfl,_,_,_,_,rfl⟩
 ·rintro i σ H3 hi ⟨ts,bs,u,s3,P3,hu,hl3,hb3,gb,lb,k,x,y,z,rfl⟩
  have u0:=P3.t0
  simp_all only [zaW,zac]
  refine⟨by decide,λd1 hd1=>?_⟩
  have n1:=P3.new hd1
  have P4:=P3.upd (o:=.lst [.int 3,.int 60]) n1.1 n1.2
  have hd1':(Qcc) d1=some (.lst [.int 3,.int 60]):=zam
  have s4:zaP (Off p c H3) (Off p c (Qcc)):=by
   rw[zcQ n1.1 n1.2]
   exact zat (zfM hd1) _
  have e4:Off p c (Qcc) d1=some (.lst [.int 3,.int 60]):=by
   rw[zhl n1.1 n1.2]
   exact hd1'
  generalize L2.upd H3 d1 (.lst [.int 3,.int 60])=H4 at P4 s4 e4 ⊢
  refine⟨p,c,u,2,rfl,P4,by omega,by decide,by decide,λr1 H5 r10 r11 o5 P5=>?_⟩
  obtain⟨m1,em1,hm1⟩:=at2 (x:=3) (y:=60) r10 r11
  rw[← o5] at e4 s4
  have e4':=zbB _ _ _ _ _ e4
  simp_all only [zaW,zac]
  refine⟨_,SqL.of e4',_,em1,?_⟩
  refine⟨p,c,u+1,m1,rfl,P5,by omega,by omega,by omega,λcost H6 c0 c1 o6 P6=>?_⟩
  rw[← o6] at s4
  simp_all only [zaW,zac]
  ((try simp only);first | rw[zdM] | rw[zdI] | rw[zdK]);simp_all only [zaW,zac]
  refine⟨by decide,λd2 hd2=>?_⟩
  have n2:=P6.new hd2
  have P7:=P6.upd (o:=.lst [.int 4,.int 50]) n2.1 n2.2
  have s7:zaP (Off p c H6) (Off p c (L2.upd H6 d2 (.lst [.int 4,.int 50]))):=by
   rw[zcQ n2.1 n2.2]
   exact zat (zfM hd2) _
  have e7:Off p c (L2.upd H6 d2 (.lst [.int 4,.int 50])) d2=some (.lst [.int 4,.int 50]):=by
   rw[zcQ n2.1 n2.2]
   exact zam
  generalize L2.upd H6 d2 (.lst [.int 4,.int 50])=H7 at P7 s7 e7 ⊢
  refine⟨p,c,u+1+1,2,rfl,P7,by omega,by decide,by decide,λr2 H8 r20 r21 o8 P8=>?_⟩
  obtain⟨m2,em2,hm2⟩:=at2 (x:=4) (y:=50) r20 r21
  rw[← o8] at e7 s7
  have e7':=zbB _ _ _ _ _ e7
  simp_all only [zaW,zac]
  refine⟨_,SqL.of e7',_,em2,?_⟩
  refine⟨p,c,_,m2,rfl,P8,by omega,by omega,by omega,λof H9 of0 of1 o9 P9=>?_⟩
  rw[← o9] at s7
  simp_all only [zaW,zac]
  ((try simp only);first | rw[zdM] | rw[zdI] | rw[zdK]);simp_all only [zaW,zac]
  refine⟨p,c,_,1+of,rfl,P9,by omega,by omega,by omega,λh H10 h0 h1 o10 P10=>?_⟩
  simp_all only [zaW,zac]
  refine⟨by decide,λd3 hd3=>?_⟩
  have n3:=P10.new hd3
  have P11:=P10.upd (o:=.lst [.int (1+h),.int (1+of)]) n3.1 n3.2
  have s11:zaP (Off p c H10) (Off p c (L2.upd H10 d3 (.lst [.int (1+h),.int (1+of)]))):=by
   rw[zcQ n3.1 n3.2]
   exact zat (zfM hd3) _
  have e11:Off p c (L2.upd H10 d3 (.lst [.int (1+h),.int (1+of)])) d3=some (.lst [.int (1+h),.int (1+of)]):=by
   rw[zcQ n3.1 n3.2]
   exact zam
  rw[o10] at s11
  generalize L2.upd H10 d3 (.lst [.int (1+h),.int (1+of)])=H11 at P11 s11 e11 ⊢
  refine⟨p,c,_,4,rfl,P11,by omega,by decide,by decide,λr3 H12 r30 r31 o12 P12=>?_⟩
  simp_all only [zaW,zac]
  rw[← o12] at e11 s11
  have e11':=zbB _ _ _ _ _ e11
  obtain⟨m3,em3,hm3⟩:=at2 (x:=1+h) (y:=1+of) (r:=r3 / 3) (Qd) (Qd)
  refine⟨by decide,by decide +kernel,_,SqL.of e11',_,em3,?_⟩
  ((try simp only);first | rw[zdM] | rw[zdI] | rw[zdK]);simp_all only [zaW,zac]
  have sA:zaP (Off p c H3) (Off p c H12):=s4.trans (s7.trans s11)
  have hl12:=sA _ _ hl3
  have hl12':=zbB _ _ _ _ _ hl12
  refine⟨.inl ⟨rfl,_,SqL.of hl12'⟩,by decide,λb hb=>?_⟩
  have n4:=P12.new hb
  have ne:l≠b:=zaT hl12' hb
  have hlt:=(List.getElem?_eq_none_iff (l:=ts) (i:=ts.length)).mpr (ψh _)
  refine⟨_,by rw[zaS ne];exact hl12',zbR (by rw[ψb,hb3.1];omega),?_⟩
  have P13:=(P12.upd (o:=.tup (bx (1+cost,m3,1+of))) n4.1 n4.2).upd (o:=.lst (ts.map V.ref++[.ref b])) nl.1 nl.2
  refine⟨?_,ts++[b],bs++[(1+cost,m3,1+of)],_,P13,by omega,?_,?_,?_,by rw[ψb1,lb];rfl⟩
  ·rw[zcQ nl.1 nl.2,zcQ n4.1 n4.2]
   exact((s3.trans sA).add (zfM hb)).put (zfM hl)
  ·rw[zcQ nl.1 nl.2,zam,ψV]
   rfl
  ·refine hb3.put (λx v hx=>?_) ?_
   ·have hx':=sA _ _ hx
    rw[zcQ nl.1 nl.2,zcQ n4.1 n4.2,zaS (zqu hx' hl12 (Qa0)),zaS (zaT hx' (zfM hb))]
    exact hx'
   ·rw[zcQ nl.1 nl.2,zcQ n4.1 n4.2,zaS ne.symm,zam]
  ·intro x hx
   rcases List.mem_append.mp hx with hx | hx
   ·exact gb x hx
   ·have:x=(1+cost,m3,1+of):=by simpa using hx
    subst this
    refine⟨?_,?_,?_,?_,?_⟩ <;> simp only <;> omega
 ·rintro σ H' ⟨ts,bs,u,s3,P3,hu,hl3,hb3,gb,lb,k,x,y,z,rfl⟩
  simp_all only [zaW,zac]
  exact q l ts bs u H' s3 P3 (Qd) hl3 hb3 gb (Qd) (Qd)
theorem zcU:zaJ ["_law_purse_here","_law_most","_law_found","_law_k","_law_cost","_law_of","_law_hits"] (QcN) (zai zgJ):=(Qa)
theorem zlk(T:Txt K mg a):zcr P w K mg base CX0 2 a.faT a.daT (QcN) zoQ:=by
 have Gh:=zcq (P:=P) (w:=w) (base:=base) T
 refine T.FaT.ok zcU (Qk) (Qe)
 all_goals obtain⟨p,c,t,rfl,hP,t1,q⟩:=h
 ·rfl
 exact⟨zgC K,(zaf (zaN (i:=2) zcU.nd rfl (Qg) (zcl zad))
 (zaf (zdA PassesOwn.never rfl (zfr rfl T.z_range (zaa (zao zco zae (zag Gh (Qc) rfl T.mh T.Fh.kp T.bh .nil zaH (QW))) zad)) (zak (i:=3) zcU.nd rfl (Qg))
 (zaf (zaN (i:=4) zcU.nd rfl (Qg) (zao zco zae (zag Gh (Qc) rfl T.mh T.Fh.kp T.bh .nil zaH (zaa (pv 0) (zaa (zaI zbm (zcl (Qb9)) (Qn) (Qp)) zad)))))
 (zaf (zaN (i:=5) zcU.nd rfl (Qg) (zao zco zae (zag Gh (Qc) rfl T.mh T.Fh.kp T.bh .nil zaH (zaa (pv 0) (zaa (zaI zbm (zcl (Qb9)) (Qn) (Qp)) zad)))))
 (zaf (zaN (i:=6) zcU.nd rfl (Qg) (zaI zbm (zcl (zaa (zao zco zae (zag Gh (Qc) rfl T.mh T.Fh.kp T.bh .nil zaH (zaa (pv 0) (QcG)))) (QcG))) (zao zvm (Qn) zae) (Qp)))
 (zah (zgD (zuh ψY1 ψW1 ψX1 zfw (pv 2) (zaa (zbI (zaa (pv 4) (zaa (pv 6) (QcG)))) zad))))))))
 (zah (zaE (pv 2))))),
  zlP hP t1 q⟩
def zgg:TS :=
 (zbf (zbq (Qi) (zaj 2))
 (zbf (zka (zmW (QV)) (zaj 3)
 (zbq (tOp (Qb) (zac 2) (zac 0)) (zaj 2)))
 (zb2 (zac 2))))
theorem zld{b n:Int}(n0:0≤n)(n1:n≤60)(b0:0≤b)(b1:b≤50)(q:Q (.int (b ^ n.toNat)) H) :
  zgg { nx:=λ_ H'=>Q .non H',rt:=Q } (L2.start ["_law_base","_law_many","_law_found","_law_k"] [.int b,.int n]) H:=by
 unfold zgg
 simp_all only [zac]
 refine⟨by omega,by omega,?_⟩
 refine zfx (λi σ H'=>H'=H∧∃k,σ=[some (.int b),some (.int n),some (.int (b ^ i)),k]) ⟨rfl,none,by rw[Int.pow_zero]⟩ ?_ ?_
 ·rintro i σ H' hi ⟨rfl,k,rfl⟩
  simp_all only [zac]
  exact⟨zql (Qd) (Qd),by rw[Int.pow_succ]⟩
 ·rintro σ H' ⟨rfl,k,rfl⟩
  simp_all only [zac]
  exact q
theorem zeB:zaJ ["_law_base","_law_many","_law_found","_law_k"] ["_law_base","_law_many"] (zai zgv):=(Qa)
theorem zls(T:Txt K mg a):zcr P w K mg base CX0 1 a.fan a.dan ["_law_base","_law_many"] znZ:=by
 refine T.Fan.ok zeB (Qk) (Qe)
 all_goals obtain⟨b,n,rfl,n0,n1,b0,b1,q⟩:=h
 ·rfl
 exact⟨zgg,(zaf (zaN (i:=2) zeB.nd rfl (Qg) zae)
 (zaf (zdA PassesOwn.never rfl (zfr rfl T.z_range (Qw)) (zak (i:=3) zeB.nd rfl (Qg))
 (zah (zaN (i:=2) zeB.nd rfl (Qg) (zao zap (pv 2) (pv 0)))))
 (zah (zaE (pv 2))))),
  zld n0 n1 b0 b1 q⟩
def zgI(K:ψa):TS :=
 (zb2 (zeX (tCB (zg2 K) (zab (zac 0) (zab (tC (.ty "int")) zas))) (zvv (tCB (zg2 K) (zab (zac 0) (zab (tC (.ty "bool")) zas))))))
theorem zlD{v:V}(t:Tg H v)(q:Q (.bl (isI v)) H):zgI K { nx:=λ_ H'=>Q .non H',rt:=Q } (L2.start (Qav) [v]) H:=by
 unfold zgI
 simp_all only [zac]
 cases t with
 | non=>exact zbU .non (zf1 K) ⟨_,rfl,zlV q⟩
 | bl b =>
  refine zbU (.bl b) (ziO K) ⟨_,rfl,zpc ?_⟩
  exact zbU (.bl b) rfl ⟨_,rfl,q⟩
 | int i =>
  refine zjG ⟨_,rfl,zpc ?_⟩
  exact ziM ⟨_,rfl,q⟩
 | str x=>exact zbU (.str x) (zjD K) ⟨_,rfl,zlV q⟩
 | lst h=>exact zbU (.lst h) (ziT K) ⟨_,rfl,zlV q⟩
 | tup h=>exact zbU (.tup h) (zih K) ⟨_,rfl,zlV q⟩
theorem zlL:zaJ (Qav) (Qav) (zai zgq):=(Qa)
theorem zeC(T:Txt K mg a):zcr P w K mg base CX0 1 a.fJ a.dJ (Qav) zda:=by
 refine T.FJ.ok zlL (Qk) (Qe)
 all_goals obtain⟨v,rfl,t,q⟩:=h
 ·rfl
 exact⟨zgI K,(zah (zaE (zdi (zaq za0 rfl T.z_isinstance ψi (zaa (pv 0) (zaa (zcf rfl T.z_int zoM rfl) zad))) (ze0 (zwp (zaq za0 rfl T.z_isinstance ψi (zaa (pv 0) (zaa (zcf rfl T.z_bool zmC rfl) zad)))))))),
  zlD t q⟩
def ziP:TS :=
 (zbf (zbq (tOp (Q7) (zac 3) (zac 2)) (zaj 4))
 (zbf (zbq (zac 2) (zaj 3))
 (zbq (zac 4) (zaj 2))))
def zgc:=eqT (ziP.eq_1)
def ziR:TS :=
 (zb2 (zf6 (zab (tOp (Qt) (zac 0) (zac 3)) (zab (tOp (Qt) (zac 1) (zac 3)) zas))))
def zgh:=eqT (ziR.eq_1)
def ziJ:TS :=
 (zbf (zbq (tCB (Qa4) (QF)) (zaj 2))
 (zbf (zbq (zac 1) (zaj 3))
 (zbf (zmT (zcp (tOp rNe (zac 2) (Qq))) (ziP))
 (ziR))))
theorem zno{t b:Int}(h:0<b)(hb:Bd 6000 b)(q:∀(r:Addr) (H':Hp),zaP H H'→H' r=some (.tup (fr (ψD t b)))→Q (QT) H') :
  ziJ { nx:=λ_ H'=>Q .non H',rt:=Q } (L2.start ["_law_top","_law_bottom","_law_one","_law_other","_law_rest"] [.int t,.int b]) H:=by
 unfold ziJ
 simp_all only [zgc,zgh,zac]
 have h0:b≠0:=by omega
 have e0:sg t b=(ψz t b:Int):=by unfold sg;rw[if_neg (Qd)]
 refine zkW (λσ H'=>H'=H∧∃u v r,σ=[some (.int t),some (.int b),some (.int u),some (.int v),r]∧0≤u∧0≤v∧ψz u v=ψz t b) (λσ _=>match σ with | [_,_,some (.int u),_,_]=>u.toNat | _=>0) ?_ ?_ ?_
 ·rw[zqD]
  exact⟨rfl,_,_,_,rfl,by omega,by omega,rfl⟩
 ·rintro σ H' ⟨rfl,u,v,r,rfl,hu,hv,hg⟩
  simp_all only [zgc,zgh,zac]
  refine zbj (λc=>?_) (λc=>?_)
  ·have hu':0<u:=by omega
   refine⟨by omega,ψw1 v hu',hu,?_,?_⟩
   ·rw[Int.gcd_comm,zl5 hv hu',Int.gcd_comm,hg]
   ·have:=ψJ1 v hu'
    omega
  ·have c':u=0:=by omega
   subst c'
   have e:v=sg t b:=by
    rw[e0,← hg,Int.gcd_comm,zkK v hv]
   subst e
   refine⟨znl h0,zo0 h0 hb,znl h0,zo0 h0 hb,by decide,λp hp=>q p _ (zat hp _) ?_⟩
   rw[fr,(zhW h0).1,(zhW h0).2]
   exact zam
 ·rintro σ H1 Q1 Q2 hQ ⟨v,hv,k,hk,h,h2⟩
  exact⟨v,hv,k,hk,h,hQ _ _ h2⟩
theorem zdN:zaJ ["_law_top","_law_bottom","_law_one","_law_other","_law_rest"] ["_law_top","_law_bottom"] (zai zix):=(Qa)
theorem zjO(T:Txt K mg a):zcr P w K mg base CX0 1 a.fal a.dal ["_law_top","_law_bottom"] zr5:=by
 refine T.Fal.ok zdN (Qk) (Qe)
 all_goals obtain⟨t,b,rfl,h,hb,q⟩:=h
 ·rfl
 exact⟨ziJ,(zaf (zaN (i:=2) zdN.nd rfl (Qg) (zaq zk6 rfl T.z_abs PyProof.Rows.boot_abs (Qaj)))
 (zaf (zaN (i:=3) zdN.nd rfl (Qg) (pv 1))
 (zaf (zlf PassesOwn.never (zbi zi1 (pv 2) zae (zbd _)) (zaf (zaN (i:=4) zdN.nd rfl (Qg) (zao zhD (pv 3) (pv 2)))
 (zaf (zaN (i:=3) zdN.nd rfl (Qg) (pv 2))
 (zah (zaN (i:=2) zdN.nd rfl (Qg) (pv 4))))))
 (zah (zaE (zbI (zaa (zao zc9 (pv 0) (pv 3)) (zaa (zao zc9 (pv 1) (pv 3)) zad)))))))),
  zno h hb q⟩
def zqn(n:Nat):Option Int→Tr→Bool
 | none,.lst ts=>decide (ts.length=n)&&ts.all nnT
 | some m,.lst ts=>decide (ts.length=n)&&ts.all (inT 0 m)
 | _,_=>false
def zyu:Option Int→V
 | none=>.non
 | some m=>.int m
def zww:Option Int→V→Bool
 | none=>nn
 | some m=>wi 0 m
def zAb:Option Int→Tr→Bool
 | none=>nnT
 | some m=>inT 0 m
theorem zw1{o:Option Int}(t:Tr)(v:V)(h:Sh H t v):zAb o t=zww o v:=by
 cases o
 ·exact zv0 t v h
 ·exact zwk t v h
theorem zuu{n:Nat}{o:Option Int}{ts:List Tr}:zqn n o (.lst ts)=(decide (ts.length=n)&&ts.all (zAb o)):=by cases o <;> rfl
theorem zyc{n:Nat}{o:Option Int}{t:Tr}(h:zwO t=false):zqn n o t=false:=by cases o <;> cases t <;> first | rfl | cases h
def zgO:Sp:=λvs H Q _=>∃(t:Tr) (v:V) (n:Nat) (o:Option Int),vs=[v,.int (n:Int),zyu o]∧Sh H t v∧Gt t∧∀H',zaP H H'→Q (.bl (zqn n o t)) H'
def zfZ(K:ψa):TS :=
 (zb2 (tCB (zt4 K) (zab (zcu (Qaw) (zaj 0) zbe (zeX (zaG zda [] E0 (QF)) (zeX (tOp (QN) (zac 0) (Qq)) (tOrV (tOp (λx y H Q=>y=.non∧Q (.bl (decide (x=.non))) H) (zac 1) (tC .non)) (tOp (Q5) (zac 0) (zac 1))))) [none,some 2]) zas)))
def zbs(K:ψa):=eqT (zfZ.eq_1 K)
def zf5(K:ψa):TS :=
 (zd2 (tOr (zf7 (tB (QS))) (zcp (tOp rNe (QaU) (zac 1)))) (QD) zb7)
def zbr(K:ψa):=eqT (zf5.eq_1 K)
def zfo(K:ψa):TS :=
 (zbf (ze2 (zf5 K))
 (zfZ K))
theorem zjB{t:Tr}{v:V}{n:Nat}{o:Option Int}(h:Sh H t v)(g:Gt t)(q:∀H',zaP H H'→Q (.bl (zqn n o t)) H'):zfo K { nx:=λ_ H'=>Q .non H',rt:=Q } (L2.start (QaN) [v,.int (n:Int),zyu o]) H:=by
 unfold zfo
 simp_all only [zbs,zbr,zac]
 rcases zmd h with ⟨ts,p,xs,rfl,rfl,hp,hx⟩ | hn
 ·have le:=hx.len
  have l9:=g.l
  rw[zuu] at q
  by_cases c:ts.length=n
  ·refine⟨λσ H'=>H'=H∧σ=[some (Qbn),some (.int (n:Int)),some (zyu o)],?_,?_⟩
   ·simp_all only [zbs,zbr,zac]
    refine zcv hp (Qaa)
    refine zbj (Qj) (Qao)
    refine⟨_,.inl (SqL.of hp),?_⟩
    exact zbj (λz=>absurd (by rw[le,c]) z) (λ_=>rfl)
   ·rintro σ H' ⟨e,rfl⟩
    rw[e]
    rw[decide_eq_true c,ψz1,zla zw1 hx] at q
    simp_all only [zbs,zbr,zac]
    refine⟨⟨_,SqL.of hp⟩,λD hD=>?_⟩
    refine ziK (zww o) (SqL.of hp) hD (Qd) (λi x H1 R ex s hR=>?_) λH1 s hD1=>?_
    ·simp_all only [zbs,zbr,zac]
     have tx:=(hx.tg x (zan ex)).same s
     refine⟨x,rfl,tx,_,rfl,?_⟩
     have r1:=hR H1 (Qau)
     cases tx with
     | int i =>
      refine zpc ⟨i,rfl,?_⟩
      by_cases i0:0≤i
      ·refine zbj (Qao) (λz=>absurd i0 z)
       cases o with
       | none =>
        rw[show zww none (V.int i)=true from decide_eq_true i0] at r1
        exact zbj (λ_=>r1) (Qv)
       | some m =>
        rw[show zww (some m) (V.int i)=decide (i≤m) from by show decide (0≤i∧i≤m)=_;rw[ψm1,decide_eq_true_eq,decide_eq_true_eq];exact⟨λz=>z.2,λz=>⟨i0,z⟩⟩] at r1
        exact zbj (λz=>by cases z) (λ_=>⟨i,rfl,m,rfl,r1⟩)
      ·rw[show zww o (V.int i)=false from by cases o <;> exact decide_eq_false (λz=>i0 (by first | exact z | exact z.1))] at r1
       exact zbj (λz=>absurd z i0) (λ_=>r1)
     | _=>exact zlV (by cases o <;> exact r1)
    ·simp_all only [zbs,zbr,zac]
     refine⟨_,SqL.of hD1,?_⟩
     have:=q H1 s
     rw[show xs.all (zww o)=(xs.map (zww o)).all id from by rw[List.all_map];rfl] at this
     exact this
  ·refine(QB)
   simp_all only [zbs,zbr,zac]
   refine zcv hp (Qaa)
   refine zbj (Qj) (Qao)
   refine⟨_,.inl (SqL.of hp),?_⟩
   rw[decide_eq_false c,ψc1] at q
   exact zbj (λ_=>q H (Qau)) (QbD)
 ·refine(QB)
  simp_all only [zbs,zbr,zac]
  rw[zyc hn] at q
  refine zkR h (QU)
  rw[hn]
  exact zbj (λ_=>q H (Qau)) (Qv)
theorem zj3:zaJ (QaN) (QaN) (zai zdT):=(Qa)
theorem zgx(T:Txt K mg a):zcr P w K mg base CX0 2 a.fZ a.dZ (QaN) zgO:=by
 have GJ:=zeC (P:=P) (w:=w) (base:=base) T
 refine T.FZ.ok zj3 (Qk) (Qe)
 all_goals obtain⟨t,v,n,o,rfl,h,g,q⟩:=h
 ·rfl
 exact⟨zfo K,(zaf (zbz (zb1 (PW.pt (zeY (zbW (zbu (QG))) (zd6 (zbi zi1 (QI) (pv 1) (zbd _))))) (QZ) zaY))
 (zah (zaE (zaq (zfR rfl) rfl T.z_all ψq1 (zaa (zcc (sc:=zai zdT) (N:=["_law_thing","_law_many","_law_most"]) (Nc:=["_law_one","_law_most"]) (cap:=[none,some 2]) rfl rfl rfl (Qr) (Qbl) (λ_ _ _ _=>(zak (i:=0) (show ψk (["_law_one","_law_most"]:List Str) from by decide) rfl (Qg))) (QH) (λ_ _ _ _=>(zdi (zag GJ (Qc) rfl T.mJ T.FJ.kp T.bJ .nil zaH (Qaj)) (zdi (zcg zjz (pv 0) zae (zbd _)) (ze0 (pe_or (zcg zz5 (pv 1) zkq (zbd _)) (ze0 (zcg zlI (pv 0) (pv 1) (zbd _))))))))) zad))))),
  zjB h g q⟩
def zlJ:Sp:=λvs H Q _=>∃(t:Addr) (b:Box) (n:Int),vs=[.ref t,.int n]∧H t=some (Qbz)∧GB b∧0≤n∧n≤60∧∀(r:Addr) (H':Hp),zaP H H'→H' r=some (.tup (mss b n))→Q (QT) H'
def zhH(K:ψa):TS :=
 (zb2 (zf6 (zab (zaG znZ [] E0 (zab (tOp (QA) (QaA) (QC)) (QV))) (zab (zaG znZ [] E0 (zab (QaA) (QV))) zas))))
theorem zmo{t:Addr}{b:Box}{n:Int}(ht:H t=some (Qbz))(g:GB b)(n0:0≤n)(n1:n≤60)(q:∀(r:Addr) (H':Hp),zaP H H'→H' r=some (.tup (mss b n))→Q (QT) H'):zhH K { nx:=λ_ H'=>Q .non H',rt:=Q } (L2.start (QbU) [.ref t,.int n]) H:=by
 unfold zhH
 obtain⟨g1,g2,g3,g4,g5⟩:=g
 have hT:=SqT.of (K:=K) ht
 simp_all only [zac]
 refine⟨_,hT,_,zfH (j:=2) rfl,_,hT,_,zfH (j:=1) rfl,b.2.2,rfl,b.2.1,rfl,_,_,rfl,n0,n1,by omega,by omega,_,hT,_,zfH (j:=2) rfl,_,_,rfl,n0,n1,by omega,by omega,by decide,λr hr=>q r _ (zat hr _) zam⟩
theorem zl7:zaJ (QbU) (QbU) (zai zhE):=(Qa)
theorem ziU(T:Txt K mg a):zcr P w K mg base CX0 2 a.faa a.daa (QbU) zlJ:=by
 have Gan:=zls (P:=P) (w:=w) (base:=base) T
 refine T.Faa.ok zl7 (Qk) (Qe)
 all_goals obtain⟨t,b,n,rfl,ht,g,n0,n1,q⟩:=h
 ·rfl
 exact⟨zhH K,(zah (zaE (zbI (zaa (zag Gan (Qc) rfl T.man T.Fan.kp T.ban .nil zaH (zaa (zao zcF (Qh) (Qh)) (Qw))) (zaa (zag Gan (Qc) rfl T.man T.Fan.kp T.ban .nil zaH (zaa (Qh) (Qw))) zad))))),
  zmo ht g n0 n1 q⟩
theorem zwH{a b:Int}(h:0<b):ψz a b=1↔([(ψD a b).num,((ψD a b).den:Int)]:List Int)=[a,b]:=by
 have l:=zhW (t:=a) (b:=b) (Qd)
 have e0:sg a b=(ψz a b:Int):=by unfold sg;rw[if_neg (Qd)]
 constructor
 ·intro g
  rw[g] at e0
  rw[l.1,l.2]
  unfold zty zm7
  rw[e0]
  simp
 ·intro z
  have z1:=(List.cons.inj z).1
  have z2:=(List.cons.inj (List.cons.inj z).2).1
  have r:ψz (ψD a b).num ((ψD a b).den:Int)=1:=zzl _
  rw[z1,z2] at r
  exact r
def zpb:Sp:=λvs H Q _=>∃(t:Tr) (v:V),vs=[v]∧Sh H t v∧Gt t∧∀H',zaP H H'→Q (.bl (ze8 t)) H'
def zhh(K:ψa):TS :=
 (zb2 (zeX (tOp (QN) (QE) (Qq)) (zeX (tOp (QN) (QC) (Qi)) (tOp (rEqT K) (zaG zr5 [] E0 (zab (QE) (zab (QC) zas))) (zac 0)))))
def zcm(K:ψa):=eqT (zhh.eq_1 K)
def zhg(K:ψa):TS :=
 (zd2 (tOr (zf7 (QO)) (tOr (zcp (tOp rNe (QaU) (QX))) (tOr (zf7 (tB (zaG zda [] E0 (zab (QE) zas)))) (zf7 (tB (zaG zda [] E0 (zab (QC) zas))))))) (QD) zb7)
def zck(K:ψa):=eqT (zhg.eq_1 K)
def zgB(K:ψa):TS :=
 (zbf (ze2 (zhg K))
 (zhh K))
theorem zk7{t:Tr}{v:V}(h:Sh H t v)(g:Gt t)(q:∀H',zaP H H'→Q (.bl (ze8 t)) H'):zgB K { nx:=λ_ H'=>Q .non H',rt:=Q } (L2.start (Qav) [v]) H:=by
 unfold zgB
 simp_all only [zcm,zck,zac]
 have no:ze8 t=false→Q (QbM) H:=λe=>by rw[e] at q;exact q H (Qau)
 rcases zjJ h with ⟨ts,p,xs,rfl,rfl,hp,hx⟩ | hn
 ·have hP:=SqT.of (K:=K) hp
  by_cases l2:ts.length=2
  ·obtain⟨t0,t1,rfl⟩:=len2 l2
   obtain⟨x0,r0,rfl,s0,h1⟩:=hx.uncons
   obtain⟨x1,r1,rfl,s1,h2⟩:=h1.uncons
   obtain rfl:=h2.unnil
   refine⟨λσ H'=>H'=H∧σ=[some (Qbn)]∧zoP t0=true∧zoP t1=true,?_,?_⟩
   ·simp_all only [zcm,zck,zac]
    refine zdg h (Qaa)
    refine zbj (Qj) (Qao)
    refine(Qbo)
    refine zbj (Qv) (Qao)
    refine⟨_,hP,_,rfl,x0,rfl,s0.tg,_,rfl,?_⟩
    rw[← zgT s0]
    cases w0:zoP t0 with
    | false=>exact zbj (λ_=>no (zgi (zvV w0))) (Qv)
    | true =>
     refine zbj (Qj) (Qao)
     refine⟨_,hP,_,rfl,x1,rfl,s1.tg,_,rfl,?_⟩
     rw[← zgT s1]
     cases w1:zoP t1 with
     | false=>exact zbj (λ_=>no (zgi (zv4 w1))) (Qv)
     | true=>exact zbj (Qj) (λ_=>⟨rfl,rfl,rfl⟩)
   ·rintro σ H' ⟨e,rfl,w0,w1⟩
    rw[e]
    obtain⟨a,rfl,rfl⟩:=zkD s0 w0
    obtain⟨b,rfl,rfl⟩:=zkD s1 w1
    have qf:ze8 (.tup [.int a,.int b])=(decide (1≤b)&&decide (ψz a b=1)&&decide (0≤a)):=rfl
    rw[qf] at q
    simp_all only [zcm,zck,zac]
    refine⟨_,hP,_,rfl,a,rfl,?_⟩
    by_cases a0:0≤a
    ·refine zbj (λ_=>⟨_,hP,_,rfl,b,rfl,?_⟩) (λz=>absurd a0 z)
     by_cases b1:1≤b
     ·have bb:=zs4 (g.tm (.int b) (Qa0))
      refine zbj (λ_=>⟨_,hP,_,rfl,_,hP,_,rfl,a,b,rfl,by omega,bb.mono (Qm),λr H1 s1 h1=>⟨r,rfl,[_,_],SqT.of h1,[a,b],SqT.of (s1 _ _ hp),?_⟩⟩) (λz=>absurd b1 z)
      have:=q H1 s1
      rw[decide_eq_true b1,decide_eq_true a0,ψz1,Bool.and_true] at this
      have e:decide (ψz a b=1)=decide (([(ψD a b).num,((ψD a b).den:Int)]:List Int)=[a,b]):=by
       rw[ψm1,decide_eq_true_eq,decide_eq_true_eq]
       exact zwH (Qd)
      rw[e] at this
      exact this
     ·rw[decide_eq_false b1,ψc1,ψc1] at q
      exact zbj (λz=>absurd z b1) (λ_=>q H (Qau))
    ·rw[decide_eq_false a0,Bool.and_false] at q
     exact zbj (λz=>absurd z a0) (λ_=>q H (Qau))
  ·refine(QB)
   simp_all only [zcm,zck,zac]
   refine zdg h (Qaa)
   refine zbj (Qj) (Qao)
   refine(Qbo)
   have:=hx.len
   exact zbj (λ_=>no (zgi (zrG l2))) (QbD)
 ·refine(QB)
  simp_all only [zcm,zck,zac]
  refine zdg h (QU)
  rw[hn]
  exact zbj (λ_=>no (zgi (zwl hn))) (Qv)
theorem zkX:zaJ (Qav) (Qav) (zai zgk):=(Qa)
theorem zlw(T:Txt K mg a):zcr P w K mg base CX0 2 a.faV a.daV (Qav) zpb:=by
 have Gal:=zjO (P:=P) (w:=w) (base:=base) T
 have GJ:=zeC (P:=P) (w:=w) (base:=base) T
 refine T.FaV.ok zkX (Qk) (Qe)
 all_goals obtain⟨t,v,rfl,h,g,q⟩:=h
 ·rfl
 exact⟨zgB K,(zaf (zbz (zb1 (PW.pt (zeY (zbW (zbu (zaq za0 rfl T.z_isinstance ψi (zaa (pv 0) (QaW))))) (zeY (zbi zi1 (QI) zae (zbd _)) (zeY (zbW (zbu (zag GJ (Qc) rfl T.mJ T.FJ.kp T.bJ .nil zaH (zaa (Qh) zad)))) (zd6 (zbW (zbu (zag GJ (Qc) rfl T.mJ T.FJ.kp T.bJ .nil zaH (zaa (Qh) zad))))))))) (QZ) zaY))
 (zah (zaE (zdi (Qcj) (zdi (Qcj) (ze0 (zcg (zvY hr.units0) (zag Gal (Qc) rfl T.mal T.Fal.kp T.bal .nil zaH (zaa (Qh) (zaa (Qh) zad))) (pv 0) (zbd _)))))))),
  zk7 h g q⟩
theorem zik{t T:TS}{D:zjo}{σ:St}(R:St→Hp→Prop)(h1:t { D with nx:=R } σ H)(h2:∀σ' H',R σ' H'→T D σ' H'):zbf (ze2 t) T D σ H:=⟨R,h1,h2⟩
theorem zsV{b:Box}(g:GB b){n:Int}(n0:0≤n)(n1:n≤60)(w:Int):((w*(b.2.2 - b.2.1) ^ n.toNat*(b.2.2 ^ 60).fdiv (b.2.2 ^ n.toNat):Int):Rat)=((w:Rat) - (w:Rat)*chq b n)*((b.2.2 ^ 60:Int):Rat):=by
 have t:=zwd g n0 n1 w
 have o1:1≤b.2.2:=by have:=g.2.2.1;have:=g.2.2.2.1;omega
 have hn:n.toNat≤60:=by omega
 have e:b.2.2 ^ n.toNat*(b.2.2 ^ 60).fdiv (b.2.2 ^ n.toNat)=b.2.2 ^ 60:=by
  rw[zts o1 hn,← Int.pow_add]
  congr 1
  omega
 have i:w*(b.2.2 - b.2.1) ^ n.toNat*(b.2.2 ^ 60).fdiv (b.2.2 ^ n.toNat)=w*b.2.2 ^ 60 - w*(b.2.2 ^ n.toNat - (b.2.2 - b.2.1) ^ n.toNat)*(b.2.2 ^ 60).fdiv (b.2.2 ^ n.toNat):=by
  generalize (b.2.2 ^ 60).fdiv (b.2.2 ^ n.toNat)=q at e ⊢
  generalize b.2.2 ^ 60=O at e ⊢
  generalize b.2.2 ^ n.toNat=B at e ⊢
  generalize (b.2.2 - b.2.1) ^ n.toNat=T
  subst e
  grind
 rw[i,ψE1,t,ψm]
 grind
def zrc:Sp:=znm
def zdu(K:ψa):TS :=
 (zbf (zbq (zaG zlJ [] E0 (zab (zac 10) (zab (tOp (zf2 K) (zac 7) (zac 9)) zas))) (zed K 2 (zaQ (zaj 13) (zaQ (zaj 14) zd9))))
 (zbq (tOp (Qz) (zac 12) (tOp (Qb) (tOp (Qb) (zac 8) (zac 13)) (tOp (Qt) (tOp (QaD) (tOp (zbH K) (zac 10) (QX)) (tC (.int 60))) (zac 14)))) (zaj 12)))
def zaC(K:ψa):=eqT (zdu.eq_1 K)
def zgy(K:ψa):TS :=
 (zd2 (zcp (tOp (QY) (tOp (Qb) (tOp (QA) (zac 11) (zac 12)) (QaZ)) (tOp (Qb) (QbK) (zac 11)))) (QD) zb7)
def zau(K:ψa):=eqT (zgy.eq_1 K)
def zgE(K:ψa):TS :=
 (zbf (zbq (tOp (Qb) (zac 5) (tOp (QaD) (tOp (zbH K) (zac 10) (QX)) (tC (.int 60)))) (zaj 11))
 (zbf (zbq (Qq) (zaj 12))
 (zbf (zka (zdO K (zac 3)) (Qb2)
 (zdu K))
 (zgy K))))
def zaD(K:ψa):=eqT (zgE.eq_1 K)
def zeK:TS :=
 (zd2 (zcp (tOp (Qat) (zac 6) (tOp (Qb) (zac 1) (zac 5)))) (QD) zb7)
def zav:=eqT (zeK.eq_1)
def zeO(K:ψa):TS :=
 (zbf (zbq (tOp (Qz) (zac 5) (zac 8)) (zaj 5))
 (zbq (tOp (Qz) (zac 6) (tOp (Qb) (zac 8) (tCB (zpH K) (zab (zcu (zlg K (zab (zac 0) (zab (zac 7) zas))) (Ql) zbe (tOp (Qb) (QE) (zac 1)) [none,none]) zas)))) (zaj 6)))
def zaB(K:ψa):=eqT (zeO.eq_1 K)
def zdp(K:ψa):TS :=
 (zbf (ze2 (zeK))
 (zbf (zka (zx1 K (QF)) (zed K 2 (QcJ))
 (zgE K))
 (zb2 (tC (.bl true)))))
def zaA(K:ψa):=eqT (zdp.eq_1 K)
def zcP(K:ψa):TS :=
 (zd2 (tOr (zf7 (tB (zaG zda [] E0 (zab (tOp (zbH K) (zac 4) (Qi)) zas)))) (zcp (tOp (QY) (tOp (zbH K) (zac 4) (Qi)) (Qi)))) (QD) zb7)
def zaz(K:ψa):=eqT (zcP.eq_1 K)
def zcj(K:ψa):TS :=
 (zd2 (tOr (zf7 (tB (tCB (zg2 K) (zab (zac 4) (zab (tC (.ty "tuple")) zas))))) (tOr (zcp (tOp rNe (tCB (Qf) (QaO)) (QX))) (zf7 (tB (zaG zgO [] E0 (zab (tOp (zbH K) (zac 4) (Qq)) (zab (QaU) (QaM)))))))) (QD) zb7)
def zaw(K:ψa):=eqT (zcj.eq_1 K)
def zdy(K:ψa):TS :=
 (zbf (zbq (Qq) (zaj 5))
 (zbf (zbq (Qq) (zaj 6))
 (zbf (zka (zdO K (zac 3)) (Qb2)
 (zeO K))
 (zdp K))))
def zay(K:ψa):=eqT (zdy.eq_1 K)
def zcM(K:ψa):TS :=
 (zd2 (tOr (zf7 (tB (tCB (zg2 K) (zab (zac 3) (zab (tC (.ty "list")) zas))))) (zcp (tOp (rEqE K) (zac 3) (zhK zas)))) (QD) zb7)
def zax(K:ψa):=eqT (zcM.eq_1 K)
def zfO(K:ψa):TS :=
 (zbf (ze2 (zcM K))
 (zbf (zka (zdO K (zac 3)) (zaj 4)
 (zbf (ze2 (zcj K))
 (zcP K)))
 (zdy K)))
theorem ztm{n:Nat}{t0 t1:Tr}(h:zqn n (some 60) t0=false):zc4 n (.tup [t0,t1])=false:=by
 have:zgY n t0=false:=by cases t0 <;> first | rfl | exact h
 show(zgY n t0&&zxD t1)=false
 rw[this]
 rfl
theorem zyp{D:zjo}{l v:Addr}{bud:Int}{x vm:V}{t:Tr}{bs:List V}{r5 r6 r7 r8 r9 r10 r11 r12 r13 r14:Option V}(hl:H l=some (.lst bs))(h:Sh H t x)(g:Gt t)
  (y:zc4 bs.length t=true→∀H',zaP H H'→D.nx [some (Qa1),some (Qbc),some (Qcw),some vm,some x,r5,r6,r7,r8,r9,r10,r11,r12,r13,r14] H') (no:zc4 bs.length t=false→∀H',zaP H H'→D.rt (QbM) H') :
  zbf (ze2 (zcj K)) (zcP K) D [some (Qa1),some (Qbc),some (Qcw),some vm,some x,r5,r6,r7,r8,r9,r10,r11,r12,r13,r14] H:=by
 rcases zjJ h with ⟨ts,p,xs,rfl,rfl,hp,hx⟩ | hn
 ·have hP:=SqT.of (K:=K) hp
  by_cases l2:ts.length=2
  ·obtain⟨t0,t1,rfl⟩:=len2 l2
   obtain⟨x0,r0,rfl,s0,h1⟩:=hx.uncons
   obtain⟨x1,r1,rfl,s1,h2⟩:=h1.uncons
   obtain rfl:=h2.unnil
   refine⟨λσ H'=>zaP H H'∧zqn bs.length (some 60) t0=true∧σ=[some (Qa1),some (Qbc),some (Qcw),some vm,some (Qbn),r5,r6,r7,r8,r9,r10,r11,r12,r13,r14],?_,?_⟩
   ·unfold zcj
    simp_all only [zaC,zau,zaD,zav,zaB,zaA,zaz,zaw,zay,zax,zac]
    refine zdg h (Qaa)
    refine zbj (Qj) (Qao)
    refine(Qbo)
    refine zbj (Qv) (Qao)
    refine⟨_,hP,_,rfl,_,.inl (SqL.of hl),t0,x0,bs.length,some 60,rfl,s0,g.tm t0 (Qa0),λH1 e1=>(QU)⟩
    cases c0:zqn bs.length (some 60) t0 with
    | false=>exact zbj (λ_=>no (ztm c0) H1 e1) (Qv)
    | true=>exact zbj (Qj) (λ_=>⟨e1,rfl⟩)
   ·rintro σ H1 ⟨e1,c0,rfl⟩
    have hP1:=SqT.of (K:=K) (e1 _ _ hp)
    have pl:zgY bs.length t0=true:=by cases t0 <;> first | cases c0 | exact c0
    have qe:zc4 bs.length (.tup [t0,t1])=zxD t1:=by
     show(zgY bs.length t0&&zxD t1)=_
     rw[pl,ψz1]
    rw[qe] at y no
    show zcP K D _ _
    unfold zcP
    simp_all only [zaC,zau,zaD,zav,zaB,zaA,zaz,zaw,zay,zax,zac]
    refine⟨_,hP1,_,rfl,x1,rfl,(s1.same e1).tg,_,rfl,?_⟩
    rw[← zgT s1]
    cases w1:zoP t1 with
    | false =>
     have:zxD t1=false:=by cases t1 <;> first | rfl | cases w1
     exact zbj (λ_=>no this H1 e1) (Qv)
    | true =>
     obtain⟨i,rfl,rfl⟩:=zkD s1 w1
     refine zbj (Qj) (Qao)
     refine⟨_,hP1,_,rfl,i,rfl,?_⟩
     by_cases c:i<1
     ·exact zbj (λ_=>no (decide_eq_false (Qd)) H1 e1) (λz=>absurd c z)
     ·exact zbj (λz=>absurd z c) (λ_=>y (decide_eq_true (Qd)) H1 e1)
  ·refine(QB)
   unfold zcj
   simp_all only [zaC,zau,zaD,zav,zaB,zaA,zaz,zaw,zay,zax,zac]
   refine zdg h (Qaa)
   refine zbj (Qj) (Qao)
   refine(Qbo)
   have:=hx.len
   exact zbj (λ_=>no (zkI l2) H (Qau)) (QbD)
 ·refine(QB)
  unfold zcj
  simp_all only [zaC,zau,zaD,zav,zaB,zaA,zaz,zaw,zay,zax,zac]
  refine zdg h (QU)
  rw[hn]
  exact zbj (λ_=>no (zl4 hn) H (Qau)) (Qv)
theorem zoC(xs:List Pw)(x:Pw):wsm (xs++[x])=wsm xs+x.2:=by
 unfold wsm
 rw[ψV,ψL1]
 simp
theorem zuN(bs:List Box)(xs:List Pw)(x:Pw):psm bs (xs++[x])=psm bs xs+x.2*(zaR bs x.1).sum:=by
 unfold psm
 rw[ψV,ψL1]
 simp
theorem zvE(b:Box)(k:Nat)(xs:List Pw)(x:Pw):csm b k (xs++[x])=csm b k xs+(x.2:Rat)*chq b (x.1.getD k 0):=by
 unfold csm
 rw[ψV,ψL1,ψu,ψu1,ψq,ψa1,Rat.add_zero]
theorem zm0{l pl D:Addr}{ts:List Addr}{bs:List Box}{ns:List Int}{te:TE}{x0 y0:Option V}(B:Bx6 H l ts bs)(hp:H pl=some (Qbd))(ln:ns.length=bs.length)(hn:∀m∈ns,0≤m∧m≤60)(hD:H D=none)
  (et:te=tOp (Qb) (QE) (zac 1)) (hd:∀H':Hp,zaP H H'→H' D=some (.lst ((QbE).map V.int))→Q (.ref D) H') :
  zfz (Itz K l pl) (Ql) zbe te D Q [x0,y0] (upd H D (Qcb)):=by
 have l6:=B.l6
 have lt:=B.hb.1
 refine zeL (vs:=(QbE).map V.int) B.hl hp (by simp[zaR];omega) (by simp[zaR];omega) hD (λi x z w H' R hx hz hw s kk=>?_) hd
 obtain⟨t,et',rfl⟩:=zaO hx
 obtain⟨n,en,rfl⟩:=zaO hz
 obtain⟨c,ec,rfl⟩:=zaO hw
 obtain⟨b,eb,hb⟩:=B.hb.at et'
 have:c=b.1*n:=by
  unfold zaR at ec
  rw[ψY,eb,en] at ec
  cases ec
  rfl
 subst this
 have gb:=B.gb b (zan eb)
 have m:=hn n (zan en)
 have g1:=gb.1
 have g2:=gb.2.1
 rw[et]
 simp_all only [zaC,zau,zaD,zav,zaB,zaA,zaz,zaw,zay,zax,zac]
 exact⟨_,SqT.of (s _ _ hb),_,rfl,b.1,rfl,mulL (Qd) (Qd),kk _ (Qau)⟩
abbrev skS(l v p:Addr)(bud wh pd:Int)(r4 r7 r8 r9 r10 r11 r12 r13 r14:Option V):St:=[some (Qa1),some (Qbc),some (Qcw),some (Qbn),r4,some (.int wh),some (.int pd),r7,r8,r9,r10,r11,r12,r13,r14]
theorem cp60{b:Box}(g:GB b):zvM b.2.2 60:=by
 obtain⟨g1,g2,g3,g4,g5⟩:=g
 exact⟨by decide,by decide,by omega⟩
theorem zwW{D:zjo}{l v p t:Addr}{bud pd:Int}{k:Nat}{us:List Addr}{xs:List Mp}{b:Box}{E:Int}{r4 r7 r8 r13 r14:Option V}(M:MxH H p us xs)(x9:xs.length≤9)(gx:∀x∈xs,k<x.2.1.length∧(Qbx)∧Bd 2800 x.2.2)(ht:H t=some (Qbz))(g:GB b){wh:Int}
  (y:∀(L:Int) (r7 r8 r13 r14:Option V) (H':Hp),zaP H H'→(L:Rat)=((wsm (xs.map λx=>x.2):Rat) - csm b k (QK))*((b.2.2 ^ 60:Int):Rat)→Bd 3650 L→D.nx (skS l v p bud wh pd r4 r7 r8 (some (.int k)) (Qcq) (some (.int E)) (some (.int L)) r13 r14) H') :
  znO (Itl K p) (Qb2) (zdu K) D (skS l v p bud wh pd r4 r7 r8 (some (.int k)) (Qcq) (some (.int E)) (some (.int 0)) r13 r14) H:=by
 have lu:=M.tp.1
 refine zds (K:=K) (xs:=us.map V.ref) (λi σ H'=>zaP H H'∧∃(L:Int) (r7 r8 r13 r14:Option V),(L:Rat)=((wsm ((QK).take i):Rat) - csm b k ((QK).take i))*((b.2.2 ^ 60:Int):Rat)∧Bd (3610+i) L∧σ=skS l v p bud wh pd r4 r7 r8 (some (.int k)) (Qcq) (some (.int E)) (some (.int L)) r13 r14) ⟨.refl _,0,_,_,_,_,?_,?_,rfl⟩ ?_ ?_ ?_
 ·show(0:Rat)=((0:Rat) - 0)*_
  grind
 ·show(0:Nat)<2 ^ _
  exact Nat.pow_pos (Qm)
 ·rintro i σ H' _ ⟨s,_⟩
  exact SqL.of (s _ _ M.hm)
 ·rintro i u σ H1 hu ⟨s1,L,r7,r8,r13,r14,eL,bL,rfl⟩
  obtain⟨a,ea,rfl⟩:=zaO hu
  obtain⟨x,ex,hx⟩:=M.tp.at ea
  obtain⟨kx,ox,bw⟩:=gx x (zan ex)
  have em:x.2.1[k]?=some (x.2.1[k]'kx):=ψc _
  obtain⟨n0,n1⟩:=ox _ (zan em)
  have eg:x.2.1.getD k 0=x.2.1[k]'kx:=by rw[ψy,em];rfl
  generalize x.2.1[k]'kx=n at em n0 n1 eg
  have o:=zd8 g n
  have bo:=zhG g n1
  have o1:1≤b.2.2:=by have:=g.2.2.1;have:=g.2.2.2.1;omega
  have o60:0<b.2.2 ^ 60:=zgN o1 60
  have b60:Bd 400 (b.2.2 ^ 60):=zfa (Qd) g.2.2.2.2 (Qm)
  have bt:Bd 400 ((b.2.2 - b.2.1) ^ n.toNat):=by
   obtain⟨g1,g2,g3,g4,g5⟩:=g
   exact zfa (Qd) (Qd) (Qd)
  have qd:((b.2.2 ^ 60).fdiv (b.2.2 ^ n.toNat)).natAbs≤(b.2.2 ^ 60).natAbs:=by
   rw[ψZ _ (ψx o)]
   have h1:=ψV1 (b.2.2 ^ n.toNat) (ψx o60)
   have h2:=Int.ediv_nonneg (b:=b.2.2 ^ n.toNat) (ψx o60) (ψx o)
   omega
  have bt2:=(bw.mul bt).mul (b60.le qd)
  unfold zdu
  simp_all only [zaC,zau,zaD,zav,zaB,zaA,zaz,zaw,zay,zax,zac]
  refine⟨_,SqT.of (s1 _ _ hx),rfl,_,_,rfl,_,_,rfl,rfl,?_⟩
  simp_all only [zaC,zau,zaD,zav,zaB,zaA,zaz,zaw,zay,zax,zac]
  refine⟨_,SqL.of (s1 _ _ (M.pl x (zan ex))),_,zfH (by rw[ψI,em];rfl),t,b,n,rfl,s1 _ _ ht,g,n0,n1,λr H2 s2 h2=>?_⟩
  refine⟨r,rfl,_,SqT.of h2,rfl,_,_,rfl,_,_,rfl,rfl,_,rfl,zdb 2800 400 bw bt,_,SqT.of (s2 _ _ (s1 _ _ ht)),_,rfl,b.2.2,rfl,cp60 g,_,rfl,by omega,zhL 400 (Qd) bo,zdb 3200 400 (bw.mul bt) (b60.le qd),s1.trans s2,_,?_,?_,rfl⟩
  ·rw[ψT,eL,zsV g n0 n1 x.2.2,ψw,ψI,ex]
   show _=((wsm (_++[x.2]):Rat) - csm b k (_++[x.2]))*_
   rw[zoC,zvE,eg,ψT]
   grind
  ·exact(bL.add (bt2.mono (Qd))).mono (Qd)
 ·rintro σ H1 ⟨s1,L,r7,r8,r13,r14,eL,bL,rfl⟩
  rw[ψb,lu,show xs.length=(xs.map λx=>x.2).length from(ψb ..).symm,ψJ] at eL
  rw[ψb] at bL
  exact y L _ _ _ _ H1 s1 eL (bL.mono (Qd))
theorem zxk{D:zjo}{l v p:Addr}{bud:Int}{ts us:List Addr}{bs:List Box}{xs:List Mp}{W:Rat}{r4 r5 r6 r7 r8 r9 r10 r11 r12 r13 r14:Option V}(B:Bx6 H l ts bs)(hv:H v=some (Q9))(bW:Bq 2000 W)(M:MxH H p us xs)(x1:1≤xs.length)(x9:xs.length≤9)(gx:∀x∈xs,x.2.1.length=bs.length∧(Qbx)∧1≤x.2.2∧Bd 2800 x.2.2)(d0:0≤bud)(d1:bud≤60)
  (q:∀(r:Bool) (H':Hp),zaP H H'→(r=true↔zui bs bud W (QK))→D.rt (.bl r) H') :
  zdy K D [some (Qa1),some (Qbc),some (Qcw),some (Qbn),r4,r5,r6,r7,r8,r9,r10,r11,r12,r13,r14] H:=by
 have lt:=B.hb.1
 have l6:=B.l6
 have lu:=M.tp.1
 unfold zdy
 simp_all only [zaC,zau,zaD,zav,zaB,zaA,zaz,zaw,zay,zax,zac]
 refine⟨⟨_,SqL.of M.hm⟩,?_⟩
 refine zds (K:=K) (xs:=us.map V.ref) (λi σ H'=>zaP H H'∧∃r7 r8:Option V,σ=skS l v p bud (wsm ((QK).take i)) (psm bs ((QK).take i)) r4 r7 r8 r9 r10 r11 r12 r13 r14) ⟨.refl _,_,_,rfl⟩ ?_ ?_ ?_
 ·rintro i σ H' _ ⟨s,_⟩
  exact SqL.of (s _ _ M.hm)
 ·rintro i u σ H1 hu ⟨s1,r7,r8,rfl⟩
  obtain⟨a,ea,rfl⟩:=zaO hu
  obtain⟨x,ex,hx⟩:=M.tp.at ea
  obtain⟨a1,a2,a3,a4⟩:=gx x (zan ex)
  have B1:=B.same s1
  obtain⟨z1,z2⟩:=zgV bs x.2.1 B.gb a2
  unfold zeO
  simp_all only [zaC,zau,zaD,zav,zaB,zaA,zaz,zaw,zay,zax,zac]
  refine⟨_,SqT.of (s1 _ _ hx),rfl,_,_,rfl,_,_,rfl,rfl,?_⟩
  simp_all only [zaC,zau,zaD,zav,zaB,zaA,zaz,zaw,zay,zax,zac]
  have hp:=s1 _ _ (M.pl x (zan ex))
  refine⟨⟨_,SqL.of B1.hl⟩,⟨_,SqL.of hp⟩,λE hE=>zm0 B1 hp a1 a2 hE rfl λH2 s2 h2=>⟨E,rfl,_,SqL.of h2,zql (Qd) (Qd),s1.trans s2,?_,?_⟩⟩
  ·rw[ψw,ψI,ex]
   exact(zoC _ x.2).symm
  ·rw[ψw,ψI,ex]
   exact(zuN bs _ x.2).symm
 ·rintro σ H1 ⟨s1,r7,r8,rfl⟩
  rw[ψb,lu,show xs.length=(xs.map λx=>x.2).length from(ψb ..).symm,ψJ]
  show zdp K D _ _
  unfold zdp
  have M1:=M.same s1
  have B1:=B.same s1
  have bws:∀w∈xs.map λx=>x.2.2,Bd 2800 w:=λw hw=>by
   obtain⟨x,hx,rfl⟩:=List.mem_map.mp hw
   exact(gx x hx).2.2.2
  have bS:=zkn _ bws
  rw[ψb,← zsH] at bS
  refine zik (λσ H'=>zaP H1 H'∧psm bs (xs.map λx=>x.2)≤bud*wsm (QK)∧σ=skS l v p bud (wsm (QK)) (psm bs (QK)) r4 r7 r8 r9 r10 r11 r12 r13 r14) ?_ ?_
  ·unfold zeK
   simp_all only [zaC,zau,zaD,zav,zaB,zaA,zaz,zaw,zay,zax,zac]
   refine⟨mulL (Qd) (Qd),?_⟩
   by_cases c:psm bs (xs.map λx=>x.2)≤bud*wsm (QK)
   ·rw[if_neg (Qd)]
    exact⟨.refl _,c⟩
   ·rw[if_pos (Qd)]
    exact q false H1 s1 ⟨λz=>(QcC),λz=>absurd z.co c⟩
  rintro _ H2 ⟨s2,co,rfl⟩
  have M2:=M1.same s2
  have B2:=B1.same s2
  have S2:=s1.trans s2
  simp_all only [zaC,zau,zaD,zav,zaB,zaA,zaz,zaw,zay,zax,zac]
  refine⟨⟨_,SqL.of B2.hl⟩,?_⟩
  refine zq0 (K:=K) (xs:=ts.map V.ref) (λi σ H'=>zaP H2 H'∧(∀(k:Nat) b,k<i→bs[k]?=some b→W*(wsm (xs.map λx=>x.2):Rat)≤csm b k (QK))∧∃r7 r8 r9 r10 r11 r12 r13 r14:Option V,σ=skS l v p bud (wsm (QK)) (psm bs (QK)) r4 r7 r8 r9 r10 r11 r12 r13 r14) ⟨.refl _,λk b z=>absurd z (Qd),_,_,_,_,_,_,_,_,rfl⟩ ?_ ?_ ?_
  ·rintro i σ H' _ ⟨s,_⟩
   exact SqL.of (s _ _ B2.hl)
  ·rintro i x u σ H3 hx ⟨s3,ch,r7,r8,r9,r10,r11,r12,r13,r14,rfl⟩ hu
   obtain⟨t,et,rfl⟩:=zaO hx
   obtain⟨b,eb,hb⟩:=B2.hb.at et
   have li:=(QcE).1
   have g:=B.gb b (zan eb)
   have o1:1≤b.2.2:=by have:=g.2.2.1;have:=g.2.2.2.1;omega
   have o60:0<b.2.2 ^ 60:=zgN o1 60
   have b60:Bd 400 (b.2.2 ^ 60):=zfa (Qd) g.2.2.2.2 (Qm)
   simp_all only [zaC,zau,zaD,zav,zaB,zaA,zaz,zaw,zay,zax,zac]
   have s4:=zat hu (.tup [V.int (i:Int),V.ref t])
   have h4:(L2.upd H3 u (.tup [V.int (i:Int),V.ref t])) u=some (.tup [V.int (i:Int),V.ref t]):=zam
   generalize L2.upd H3 u (.tup [V.int (i:Int),V.ref t])=H4 at s4 h4 ⊢
   have S4:=s3.trans s4
   refine⟨_,SqT.of h4,rfl,_,_,rfl,_,_,rfl,rfl,?_⟩
   refine⟨t,rfl,_,SqT.of (S4 _ _ hb),_,rfl,b.2.2,rfl,cp60 g,zdb 2809 400 (bS.mono (Qd)) b60,⟨_,SqL.of (S4 _ _ M2.hm)⟩,?_⟩
   refine zwW (k:=i) (M2.same S4) x9 (λx hx=>⟨by rw[(gx x hx).1];exact li,(gx x hx).2.1,(gx x hx).2.2.2⟩) (S4 _ _ hb) g λL r7 r8 r13 r14 H5 s5 eL bL=>?_
   have hv5:=SqT.of (K:=K) (s5 _ _ (S4 _ _ (S2 _ _ hv)))
   simp_all only [zaC,zau,zaD,zav,zaB,zaA,zaz,zaw,zay,zax,zac]
   have bE:=(bS.mono (show 2800+xs.length≤2809 by omega)).mul b60
   have ep:((wsm (xs.map λx=>x.2)*b.2.2 ^ 60 - L:Int):Rat)=csm b i (xs.map λx=>x.2)*((b.2.2 ^ 60:Int):Rat):=by
    rw[ψE1,ψm,eL]
    grind
   have cw:=zmw (a:=W.num) (S:=wsm (QK)) (zcY W) o60 ep
   rw[ψG,Int.mul_assoc] at cw
   refine⟨_,hv5,_,rfl,_,rfl,zdb 3660 2000 (((bE.mono (show 2809+400≤3650 by decide)).sub bL).mono (Qm)) bW.bot,_,hv5,_,rfl,_,rfl,zdb 2000 3209 bW.top bE,?_⟩
   refine zbj (Qcz) (Qcz)
   ·exact q false H5 (S2.trans (S4.trans s5)) ⟨λz=>(QcC),λy=>absurd (cw.mpr (y.ch i b eb)) (Qd)⟩
   ·refine⟨S4.trans s5,λk b' hk hb'=>?_⟩
    by_cases c:k=i
    ·subst c
     rw[eb] at hb'
     cases hb'
     exact cw.mp (Qd)
    ·exact ch k b' (Qd) hb'
  ·rintro σ H3 ⟨s3,ch,r7,r8,r9,r10,r11,r12,r13,r14,rfl⟩
   refine q true H3 (S2.trans s3) ⟨λ_=>⟨co,λk b hk=>ch k b ?_ hk⟩,λ_=>rfl⟩
   have:=(QcD).1
   rw[ψb]
   omega
theorem zj9{l v:Addr}{vm:V}{bud:Int}{ts:List Addr}{bs:List Box}{t:Tr}{W:Rat}(B:Bx6 H l ts bs)(hv:H v=some (Q9))(bW:Bq 2000 W)(h:Sh H t vm)(g:Gt t)(d0:0≤bud)(d1:bud≤60)(q:∀(r:Bool) (H':Hp),zaP H H'→(r=true↔zmf bs.length t=true∧zui bs bud W (zmh t))→Q (.bl r) H') :
  zfO K { nx:=λ_ H'=>Q .non H',rt:=Q } (L2.start ["_law_boxes_here","_law_budget","_law_worth","_law_mix","_law_part","_law_whole_here","_law_paid","_law_plan","_law_weight","_law_k","_law_box","_law_every","_law_lost","_law_top","_law_bottom"] [.ref l,.int bud,.ref v,vm]) H:=by
 have no:zmf bs.length t=false→∀H',zaP H H'→Q (QbM) H':=λe H' s=>q false H' s ⟨λz=>(QcC),λz=>absurd z.1 (by rw[e];decide)⟩
 have lt:=B.hb.1
 have l6:=B.l6
 unfold zfO
 rcases zmd h with ⟨us,p,ys,rfl,rfl,hp,hx⟩ | hn
 ·have qe:zmf bs.length (.lst us)=(decide (1≤us.length)&&us.all (zc4 bs.length)):=rfl
  have le:=hx.len
  have l9:=g.l
  by_cases c1:1≤us.length
  ·refine zik (λσ' H'=>zaP H H'∧σ'=[some (Qa1),some (Qbc),some (Qcw),some (Qbn),none,none,none,none,none,none,none,none,none,none,none]) ?_ ?_
   ·unfold zcM
    simp_all only [zaC,zau,zaD,zav,zaB,zaA,zaz,zaw,zay,zax,zac]
    refine zcv hp (QU)
    refine zbj (Qj) (Qao)
    refine⟨ψh1 _,λe he=>⟨_,SqL.of (by rw[zaS (zaT hp he)];exact hp),SqL.of zam,?_⟩⟩
    refine zbj (Qcz) (λ_=>zat he _)
    have:=List.isEmpty_iff.mp z
    rw[this] at le
    rw[List.length_nil] at le
    omega
   rintro _ H1 ⟨s1,rfl⟩
   have B1:=B.same s1
   simp_all only [zaC,zau,zaD,zav,zaB,zaA,zaz,zaw,zay,zax,zac]
   refine⟨⟨_,SqL.of (s1 _ _ hp)⟩,?_⟩
   refine zds (K:=K) (xs:=ys) (λi σ H'=>zaP H H'∧(us.take i).all (zc4 bs.length)=true∧∃r4,σ=[some (Qa1),some (Qbc),some (Qcw),some (Qbn),r4,none,none,none,none,none,none,none,none,none,none]) ⟨s1,rfl,_,rfl⟩ ?_ ?_ ?_
   ·rintro i σ H' _ ⟨s,_⟩
    exact SqL.of (s _ _ hp)
   ·rintro i x σ H2 ex ⟨s2,a2,r4,rfl⟩
    have li:=(List.getElem?_eq_some_iff.mp ex).1
    have eu:us[i]?=some (us[i]'(by omega)):=ψc _
    have B2:=B.same s2
    have lb:(ts.map V.ref).length=bs.length:=by rw[ψb,lt]
    simp_all only [zaC,zau,zaD,zav,zaB,zaA,zaz,zaw,zay,zax,zac]
    refine zyp (bs:=ts.map V.ref) B2.hl ((hx.el i x _ ex eu).same s2) (g.m _ (zan eu)) (λc H3 s3=>⟨s2.trans s3,?_,_,rfl⟩) λc H3 s3=>?_
    ·rw[ψw,eu,List.all_append,a2]
     rw[lb] at c
     simp[c]
    ·rw[lb] at c
     refine no ?_ H3 (Qb5)
     rw[qe,Bool.and_eq_false_iff]
     right
     rw[List.all_eq_false]
     exact⟨_,zan eu,by rw[c];decide⟩
   ·rintro σ H2 ⟨s2,a2,r4,rfl⟩
    rw[le,ψJ] at a2
    have ok:zmf bs.length (.lst us)=true:=by rw[qe,a2,decide_eq_true c1];rfl
    obtain⟨ml,ws,xs,em',M,em,x1,x9,gx⟩:=zoA h g ok
    cases em'
    rw[← em] at q
    exact zxk (B.same s2) (s2 _ _ hv) bW (M.same s2) x1 x9 gx d0 d1 λr H3 s3 hr=>q r H3 (Qb5) ⟨λz=>⟨ok,hr.mp z⟩,λz=>hr.mpr z.2⟩
  ·have n0:us.length=0:=by omega
   refine zik (λ_ _=>False) ?_ λ_ _ z=>z.elim
   unfold zcM
   simp_all only [zaC,zau,zaD,zav,zaB,zaA,zaz,zaw,zay,zax,zac]
   refine zcv hp (QU)
   refine zbj (Qj) (Qao)
   refine⟨ψh1 _,λe he=>⟨_,SqL.of (by rw[zaS (zaT hp he)];exact hp),SqL.of zam,?_⟩⟩
   refine zbj (λz=>no ?_ _ (zat he _)) (λz=>absurd (List.isEmpty_iff.mpr (ψR (Qd))) z)
   rw[qe,decide_eq_false c1]
   rfl
 ·refine zik (λ_ _=>False) ?_ λ_ _ z=>z.elim
  unfold zcM
  simp_all only [zaC,zau,zaD,zav,zaB,zaA,zaz,zaw,zay,zax,zac]
  refine zkR h (QU)
  rw[hn]
  exact zbj (λ_=>no (by cases t <;> first | rfl | cases hn) H (Qau)) (Qv)
theorem zaU:zaJ ["_law_boxes_here","_law_budget","_law_worth","_law_mix","_law_part","_law_whole_here","_law_paid","_law_plan","_law_weight","_law_k","_law_box","_law_every","_law_lost","_law_top","_law_bottom"] (Qbp) (zai zex):=(Qa)
theorem zkm(T:Txt K mg a):zcr P w K mg base CX0 5 a.faU a.daU (Qbp) zrc:=by
 have Gaa:=ziU (P:=P) (w:=w) (base:=base) T
 have GZ:=zgx (P:=P) (w:=w) (base:=base) T
 have GJ:=zeC (P:=P) (w:=w) (base:=base) T
 refine T.FaU.ok zaU (Qk) (Qe)
 all_goals obtain⟨l,v,vm,bud,ts,bs,t,W,rfl,B,hv,bW,h,g,d0,d1,q⟩:=h
 ·rfl
 exact⟨zfO K,(zaf (zbz (zb1 (PW.pt (zeY (zbW (zbu (zaq za0 rfl T.z_isinstance ψi (zaa (pv 3) (Qcl))))) (zd6 (zbi (zvX hr.units) (pv 3) (zcl zad) (zbd _))))) (QZ) zaY))
 (zaf (zdA PassesOwn.never rfl (zb0 (pv 3)) (zak (i:=4) zaU.nd rfl (Qg))
 (zaf (zbz (zb1 (PW.pt (zeY (zbW (zbu (zaq za0 rfl T.z_isinstance ψi (zaa (pv 4) (QaW))))) (zeY (zbi zi1 (zaq zaV rfl T.z_len ψH (Qa3)) zae (zbd _)) (zd6 (zbW (zbu (zag GZ (Qc) rfl T.mZ T.FZ.kp T.bZ .nil zaH (zaa (Qbu) (zaa (QI) (Qam)))))))))) (QZ) zaY))
 (zah (zb1 (PW.pt (zeY (zbW (zbu (zag GJ (Qc) rfl T.mJ T.FJ.kp T.bJ .nil zaH (zaa (Qbu) zad)))) (zd6 (zbi zj6 (Qbu) zae (zbd _))))) (QZ) zaY))))
 (zaf (zaN (i:=5) zaU.nd rfl (Qg) zae)
 (zaf (zaN (i:=6) zaU.nd rfl (Qg) zae)
 (zaf (zdA PassesOwn.never rfl (zb0 (pv 3)) (zbp rfl (zal (zak (i:=7) zaU.nd rfl (Qg)) (zal (zak (i:=8) zaU.nd rfl (Qg)) zaZ)))
 (zaf (zaN (i:=5) zaU.nd rfl (Qg) (zao zco (pv 5) (pv 8)))
 (zah (zaN (i:=6) zaU.nd rfl (Qg) (zao zco (pv 6) (zao zap (pv 8) (zaq (zdo rfl) rfl T.z_sum ψW (zaa (zcc (sc:=zai zex) (N:=["_law_boxes_here","_law_budget","_law_worth","_law_mix","_law_part","_law_whole_here","_law_paid","_law_plan","_law_weight","_law_k","_law_box","_law_every","_law_lost","_law_top","_law_bottom"]) (Nc:=["_law_box","_law_many"]) (cap:=[none,none]) rfl rfl rfl (Qr) (zd4 rfl T.z_zip (zaa (pv 0) (zaa (pv 7) zad))) (λ_ _ _ _=>(zbp rfl (zal (zak (i:=0) (Qaq) rfl (Qg)) (zal (zak (i:=1) (Qaq) rfl (Qg)) zaZ)))) (QH) (Qcv)) zad))))))))
 (zaf (zbz (zb1 (zbi znD (pv 6) (zao zap (pv 1) (pv 5)) (zbd _)) (QZ) zaY))
 (zaf (zdA PassesOwn.never rfl (zxd rfl T.z_enumerate (Qaj)) (zbp rfl (zal (zak (i:=9) zaU.nd rfl (Qg)) (zal (zak (i:=10) zaU.nd rfl (Qg)) zaZ)))
 (zaf (zaN (i:=11) zaU.nd rfl (Qg) (zao zap (pv 5) (zao zky (zaI zar (pv 10) zae (Qp)) zae)))
 (zaf (zaN (i:=12) zaU.nd rfl (Qg) zae)
 (zaf (zdA PassesOwn.never rfl (zb0 (pv 3)) (zbp rfl (zal (zak (i:=7) zaU.nd rfl (Qg)) (zal (zak (i:=8) zaU.nd rfl (Qg)) zaZ)))
 (zaf (zcG (zag Gaa (Qc) rfl T.maa T.Faa.kp T.baa .nil zaH (zaa (pv 10) (zaa (zaI zbm (pv 7) (pv 9) (Qp)) zad))) (zbp rfl (zal (zak (i:=13) zaU.nd rfl (Qg)) (zal (zak (i:=14) zaU.nd rfl (Qg)) zaZ))))
 (zah (zaN (i:=12) zaU.nd rfl (Qg) (zao zco (pv 12) (zao zap (zao zap (pv 8) (pv 13)) (zao zc9 (zao zky (zaI zar (pv 10) zae (Qp)) zae) (pv 14))))))))
 (zah (zb1 (zbi zj6 (zao zap (zao zcF (pv 11) (pv 12)) (Q6)) (zao zap (Q6) (pv 11)) (zbd _)) (QZ) zaY))))))
 (QZ)))))))),
  zj9 B hv bW h g d0 d1 q⟩
theorem zAa{s t u v:Int}(t0:0<t)(v0:0<v):s*v<u*t↔ψD s t<ψD u v:=by
 have tR:(0:Rat)<(t:Rat):=by exact_mod_cast t0
 have vR:(0:Rat)<(v:Rat):=by exact_mod_cast v0
 have tn:(t:Rat)≠0:=by grind
 have vn:(v:Rat)≠0:=by grind
 rw[← Rat.intCast_lt_intCast,ψm,ψm,ψs,ψs]
 have D:=ψC1 tR vR
 have e1:(s:Rat) / (t:Rat)*((t:Rat)*(v:Rat))=(s:Rat)*(v:Rat):=by
  generalize (t:Rat)=x at tn ⊢
  grind
 have e2:(u:Rat) / (v:Rat)*((t:Rat)*(v:Rat))=(u:Rat)*(t:Rat):=by
  generalize (v:Rat)=x at vn ⊢
  grind
 rw[← e1,← e2]
 constructor
 ·intro z
  refine ψU λc=>?_
  have:=ψP (Rat.not_lt.mp c) (ψB D)
  grind
 ·exact λz=>Rat.mul_lt_mul_of_pos_right z D
def zkM(bs:List Box)(Ws ns:List Int):List Rat:=ψd (λ(w:Int) (c:Rat)=>(w:Rat)*c) Ws (zm5 bs ns)
theorem zvh{b:Box}(g:GB b)(w n:Int):ψD (w*(b.2.2 ^ n.toNat - (b.2.2 - b.2.1) ^ n.toNat)) (b.2.2 ^ n.toNat)=(w:Rat)*chq b n:=by
 unfold chq
 rw[ψs,ψs,ψm]
 have o:=zd8 g n
 have on:((b.2.2 ^ n.toNat:Int):Rat)≠0:=λz=>by
  have:(b.2.2 ^ n.toNat:Int)=0:=by exact_mod_cast z
  omega
 grind
theorem zv5:∀{l:List Int},(∀w∈l,0≤w)→0≤l.sum
 | [],_=>Int.le_refl 0
 | w::l,h=>by
  have:=zv5 λx hx=>h x (Qbb)
  have:=h w ψg
  rw[ψq]
  omega
theorem zrQ:∀{l:List Int},(∀w∈l,0≤w)→∀m∈l,m≤l.sum
 | w::l,h,m,hm=>by
  have a:=zv5 λx hx=>h x (Qbb)
  have b:=h w ψg
  rw[ψq]
  rcases List.mem_cons.mp hm with rfl | hm
  ·omega
  ·have:=zrQ (λx hx=>h x (Qbb)) m hm
   omega
theorem zy3:∀{l:List Int},(∀w∈l,w≤0)→l.sum≤0
 | [],_=>Int.le_refl 0
 | w::l,h=>by
  have:=zy3 λx hx=>h x (Qbb)
  have:=h w ψg
  rw[ψq]
  omega
def zsm:Sp:=znX
def zfk(K:ψa):TS :=
 (zbq (zf6 (zab (tOp (Qz) (tOp (Qb) (tOp (zbH K) (zac 7) (Qq)) (zac 12)) (tOp (Qb) (tOp (Qb) (zac 9) (tOp (QA) (zac 12) (zac 11))) (tOp (zbH K) (zac 7) (Qi)))) (zab (tOp (Qb) (tOp (zbH K) (zac 7) (Qi)) (zac 12)) zas))) (zaj 7))
def za4(K:ψa):=eqT (zfk.eq_1 K)
def zfn(K:ψa):TS :=
 (zd2 (zcp (tOp (Qat) (zac 10) (Qq))) (zbf (zbq (zaG zlJ [] E0 (zab (zac 8) (zab (tOp (QA) (zac 10) (Qi)) zas))) (zed K 2 (zaQ (zaj 15) (zaQ (zaj 16) zd9))))
 (zd2 (zcp (tOp (QY) (tOp (Qb) (zac 13) (zac 15)) (tOp (Qb) (zac 14) (zac 16)))) (QD) zb7)) zb7)
def za8(K:ψa):=eqT (zfn.eq_1 K)
def zfb:TS :=
 (zd2 (zcp (tOp (Qat) (tOp (Qb) (zac 13) (zac 11)) (tOp (Qb) (zac 14) (zac 12)))) (QD) zb7)
def za7:=eqT (zfb.eq_1)
def zdS(K:ψa):TS :=
 (zbf (zbq (zaG zlJ [] E0 (zab (zac 8) (zab (zac 10) zas))) (zed K 2 (zaQ (zaj 11) (zaQ (zaj 12) zd9))))
 (zbf (zbq (tOp (Qb) (tOp (Qb) (zac 9) (tOp (zbH K) (zac 8) (Qi))) (Qck)) (zaj 13))
 (zbf (zbq (tOp (Qb) (tOp (Qb) (tOp (zbH K) (zac 5) (Qq)) (tOp (zbH K) (zac 8) (Qq))) (tOp (zbH K) (zac 8) (QX))) (zaj 14))
 (zbf (ze2 (zfb))
 (zbf (ze2 (zfn K))
 (zfk K))))))
def za9(K:ψa):=eqT (zdS.eq_1 K)
def zdY(K:ψa):TS :=
 (zb2 (tOp (Q5) (tOp (Qb) (tOp (zbH K) (zac 7) (Qq)) (QaZ)) (tOp (Qb) (tOp (Qb) (QbK) (tCB (zpH K) (QaO))) (tOp (zbH K) (zac 7) (Qi)))))
def za5(K:ψa):=eqT (zdY.eq_1 K)
def zdU(K:ψa):TS :=
 (zbf (zbq (zf6 (zab (tOp (Qb) (tOp (zbH K) (zac 5) (Qq)) (tOp (QA) (zac 1) (tCB (zpH K) (zab (zcu (zlg K (QbS)) (Ql) zbe (tOp (Qb) (QE) (zac 1)) [none,none]) zas)))) (zab (Qck) zas))) (zaj 7))
 (zbf (zka (zvt K (zab (zac 0) (zab (zac 4) (zab (zac 6) zas)))) (zed K 3 (zaQ (zaj 8) (QcJ)))
 (zdS K))
 (zdY K)))
def za1(K:ψa):=eqT (zdU.eq_1 K)
def zg8(K:ψa):TS :=
 (zd2 (tOr (zf7 (tB (zaG zgO [] E0 (zab (zac 4) (zab (QaU) (zab (tC .non) zas)))))) (zcp (tOp rEq (tCB (zxO K) (QaO)) (Qq)))) (QD) zb7)
def zbb(K:ψa):=eqT (zg8.eq_1 K)
def zhe(K:ψa):TS :=
 (zd2 (tOr (zf7 (tB (tCB (zg2 K) (zab (zac 4) (zab (tC (.ty "list")) zas))))) (zf7 (tB (zaG zgO [] E0 (zab (zac 6) (zab (QaU) (QaM))))))) (QD) zb7)
def za2(K:ψa):=eqT (zhe.eq_1 K)
def zdW(K:ψa):TS :=
 (zbf (QaV)
 (zbf (ze2 (zhe K))
 (zbf (ze2 (zg8 K))
 (zdU K))))
def zba(K:ψa):=eqT (zdW.eq_1 K)
def zc5(K:ψa):TS :=
 (zd2 (tOr (zf7 (tB (tCB (zg2 K) (zab (zac 3) (zab (tC (.ty "tuple")) zas))))) (tOr (zcp (tOp rNe (tCB (Qf) (Qa5)) (QbQ))) (zf7 (tB (zaG zpb [] E0 (zab (tOp (zbH K) (zac 3) (Qi)) zas)))))) (QD) zb7)
def za3(K:ψa):=eqT (zc5.eq_1 K)
def zgs(K:ψa):TS :=
 (zbf (ze2 (zc5 K))
 (zdW K))
abbrev hdS(l v pr wl pp cl r:Addr)(bud:Int)(r8 r9 r10 r11 r12 r13 r14 r15 r16:Option V):St:=[some (Qa1),some (Qbc),some (Qcw),some (.ref pr),some (.ref wl),some (.ref pp),some (.ref cl),some (QT),r8,r9,r10,r11,r12,r13,r14,r15,r16]
theorem zxX{D:zjo}{l v pr wl pp cl r t:Addr}{bud w n s u:Int}{b:Box}{P:Rat}{m k:Nat}{r11 r12 r13 r14 r15 r16:Option V}(ht:H t=some (Qbz))(g:GB b)(hp:H pp=some (Qch))(pb:Bq 2800 P)(bw:Bd 2800 w)(n0:0≤n)(n1:n≤60)(hr:H r=some (.tup [.int s,.int u]))(bs:Bd m s)(bu:Bd k u)(hm:m≤9000)(hk:k≤9000)
  (no:¬ Mrk b w P n→∀H',zaP H H'→D.rt (QbM) H')
  (y:Mrk b w P n→∀(r':Addr) (H':Hp) (r11 r12 r13 r14 r15 r16:Option V),zaP H H'→H' r'=some (.tup [.int (s*b.2.2 ^ n.toNat+w*(b.2.2 ^ n.toNat - (b.2.2 - b.2.1) ^ n.toNat)*u),.int (u*b.2.2 ^ n.toNat)])→D.nx (hdS l v pr wl pp cl r' bud (Qcq) (some (.int w)) (some (.int n)) r11 r12 r13 r14 r15 r16) H') :
  zdS K D (hdS l v pr wl pp cl r bud (Qcq) (some (.int w)) (some (.int n)) r11 r12 r13 r14 r15 r16) H:=by
 have cm:=(zjl g w n P).1
 have bo:=zhG g n1
 have g':=g
 obtain⟨g1,g2,g3,g4,g5⟩:=g
 have bt:Bd 400 ((b.2.2 - b.2.1) ^ n.toNat):=zfa (Qd) (Qd) (Qd)
 have h6:Bd 6 b.2.1:=by show b.2.1.natAbs<2 ^ 6;omega
 have c6:Bd 6 b.1:=by show b.1.natAbs<2 ^ 6;omega
 have o6:Bd 6 b.2.2:=by show b.2.2.natAbs<2 ^ 6;omega
 have m1:=bw.mul h6
 have m2:=m1.mul pb.bot
 have m3:=pb.top.mul c6
 have m4:=m3.mul o6
 unfold zdS
 simp_all only [za4,za8,za7,za9,za5,za1,zbb,za2,zba,za3,zac]
 refine⟨t,b,n,rfl,ht,g',n0,n1,λa H1 s1 h1=>⟨a,rfl,_,SqT.of h1,rfl,_,_,rfl,_,_,rfl,rfl,?_⟩⟩
 have ht1:=SqT.of (K:=K) (s1 _ _ ht)
 have hp1:=SqT.of (K:=K) (s1 _ _ hp)
 refine⟨_,ht1,_,rfl,b.2.1,rfl,zdb 2800 6 bw h6,_,hp1,_,rfl,_,rfl,zdb 2806 2800 m1 pb.bot,_,hp1,_,rfl,_,ht1,_,rfl,_,rfl,_,rfl,zdb 2800 6 pb.top c6,_,ht1,_,rfl,_,rfl,zdb 2806 6 m3 o6,?_⟩
 have e1:∀T:Int,w*b.2.1*(P.den:Int)*T=w*b.2.1*T*(P.den:Int):=λT=>Int.mul_right_comm ..
 refine⟨λσ H'=>H'=H1∧(w:Rat)*gnq b n≤P*(b.1:Rat)∧σ=hdS l v pr wl pp cl r bud (Qcq) (some (.int w)) (some (.int n)) (some (.int ((b.2.2 - b.2.1) ^ n.toNat))) (some (.int (b.2.2 ^ n.toNat))) (some (.int (w*b.2.1*(P.den:Int)))) (some (.int (P.num*b.1*b.2.2))) r15 r16,?_,?_⟩
 ·unfold zfb
  simp_all only [za4,za8,za7,za9,za5,za1,zbb,za2,zba,za3,zac]
  refine⟨zdb 5606 400 m2 bt,zdb 2812 400 m4 bo,?_⟩
  rw[e1]
  refine zbj (λz=>no (λy=>absurd (cm.mpr y.1) (Qd)) H1 s1) (λz=>cm.mp (Qd))
 rintro _ H1' ⟨e,c1,rfl⟩
 subst e
 refine zik (λσ H'=>zaP H1' H'∧(0<n→P*(b.1:Rat)≤(w:Rat)*gnq b (n - 1))∧∃r15 r16,σ=hdS l v pr wl pp cl r bud (Qcq) (some (.int w)) (some (.int n)) (some (.int ((b.2.2 - b.2.1) ^ n.toNat))) (some (.int (b.2.2 ^ n.toNat))) (some (.int (w*b.2.1*(P.den:Int)))) (some (.int (P.num*b.1*b.2.2))) r15 r16) ?_ ?_
 ·unfold zfn
  simp_all only [za4,za8,za7,za9,za5,za1,zbb,za2,zba,za3,zac]
  by_cases c:0<n
  ·refine zbj (Qao) (λz=>absurd c z)
   have cm2:=(zjl g' w (n - 1) P).2
   have bo2:=zhG g' (show n - 1≤60 by omega)
   have bt2:Bd 400 ((b.2.2 - b.2.1) ^ (n - 1).toNat):=zfa (Qd) (Qd) (Qd)
   refine⟨t,b,n - 1,rfl,s1 _ _ ht,g',by omega,by omega,λa' H2 s2 h2=>⟨a',rfl,_,SqT.of h2,rfl,_,_,rfl,_,_,rfl,rfl,?_⟩⟩
   refine⟨_,rfl,zdb 5606 400 m2 bt2,_,rfl,zdb 2812 400 m4 bo2,?_⟩
   rw[e1]
   refine zbj (λz=>no (λy=>absurd (cm2.mpr (y.2 c)) (Qd)) H2 (QbI)) (Qcz)
   exact⟨s2,λ_=>cm2.mp (Qd)⟩
  ·exact zbj (λz=>absurd z c) (λ_=>⟨.refl _,λz=>absurd z c⟩)
 rintro _ H2 ⟨s2,c2,y15,y16,rfl⟩
 have S2:=s1.trans s2
 have hr2:=SqT.of (K:=K) (S2 _ _ hr)
 unfold zfk
 simp_all only [za4,za8,za7,za9,za5,za1,zbb,za2,zba,za3,zac]
 have bd:=bo.sub bt
 have ok:∀{i j:Int} {x y:Nat},Bd x i→Bd y j→x+y≤134217728→IntMulOk i j:=fun {i j x y} h1 h2 h3=>zdb x y h1 h2 h3
 refine⟨_,hr2,_,rfl,s,rfl,ok bs bo (Qd),zdb 2800 401 bw bd,_,hr2,_,rfl,u,rfl,ok (bw.mul bd) bu (Qd),_,hr2,_,rfl,u,rfl,ok bu bo (Qd),by decide,λp np=>?_⟩
 exact y ⟨c1,c2⟩ p _ _ _ _ _ _ _ (S2.add np) zam
theorem zw6{D:zjo}{l v pr wl pp cl:Addr}{bud:Int}{ts:List Addr}{bs:List Box}{W P:Rat}{Ws ns:List Int}{r7 r8 r9 r10 r11 r12 r13 r14 r15 r16:Option V}(B:Bx6 H l ts bs)(hv:H v=some (Q9))(bW:Bq 2000 W)(a2:H wl=some (QbA))(a3:H pp=some (Qch))(a4:H cl=some (Qbd))(lw:Ws.length=bs.length)(ln:ns.length=bs.length)(wb:∀w∈Ws,Bd 2800 w)(gn:∀n∈ns,0≤n∧n≤60)(pb:Bq 2800 P)(d0:0≤bud)(d1:bud≤60)
  (q:∀(r:Bool) (H':Hp),zaP H H'→(r=true↔zvD bs bud W Ws P ns)→D.rt (.bl r) H') :
  zdU K D [some (Qa1),some (Qbc),some (Qcw),some (.ref pr),some (.ref wl),some (.ref pp),some (.ref cl),r7,r8,r9,r10,r11,r12,r13,r14,r15,r16] H:=by
 have l6:=B.l6
 obtain⟨c0,c1⟩:=zgV bs ns B.gb gn
 have bsp:Bd 15 (bud - (zaR bs ns).sum):=by show(bud - (zaR bs ns).sum).natAbs<2 ^ 15;omega
 have dP:=zcY P
 have bWs:=(zkn Ws wb).mono (show _≤2806 by omega)
 unfold zdU
 simp_all only [za4,za8,za7,za9,za5,za1,zbb,za2,zba,za3,zac]
 refine⟨_,SqT.of a3,_,rfl,⟨_,SqL.of B.hl⟩,⟨_,SqL.of a4⟩,λE hE=>zm0 B a4 ln gn hE rfl λH1 s1 h1=>?_⟩
 refine⟨E,rfl,_,SqL.of h1,_,rfl,zdb 2800 15 pb.top bsp,_,SqT.of (s1 _ _ a3),_,rfl,by decide,λp0 f0=>?_⟩
 have s2:=zat f0 (.tup [V.int (P.num*(bud - (zaR bs ns).sum)),V.int (P.den:Int)])
 have h2:(L2.upd H1 p0 (.tup [V.int (P.num*(bud - (zaR bs ns).sum)),V.int (P.den:Int)])) p0=some (.tup [V.int (P.num*(bud - (zaR bs ns).sum)),V.int (P.den:Int)]):=zam
 generalize L2.upd H1 p0 (.tup [V.int (P.num*(bud - (zaR bs ns).sum)),V.int (P.den:Int)])=H2 at s2 h2 ⊢
 have S2:=s1.trans s2
 refine⟨⟨_,SqL.of (S2 _ _ B.hl)⟩,⟨_,SqL.of (S2 _ _ a2)⟩,⟨_,SqL.of (S2 _ _ a4)⟩,?_⟩
 have lh:(zkM bs Ws ns).length=bs.length:=by rw[zkM,ψo,zm5,ψo];omega
 have eP:ψD (P.num*(bud - (zaR bs ns).sum)) (P.den:Int)=P*((bud - (zaR bs ns).sum:Int):Rat):=by
  rw[ψs,ψm]
  have h:=ψG P
  rw[ψs] at h
  have z:((P.den:Int):Rat)≠0:=λz=>by
   have:(P.den:Int)=0:=by exact_mod_cast z
   omega
  generalize ((P.den:Int):Rat)=d at h z ⊢
  generalize (P.num:Rat)=n at h ⊢
  grind
 refine zmp (K:=K) (xs:=ts.map V.ref) (ws:=Ws.map V.int) (zs:=ns.map V.int) (λi σ H'=>zaP H2 H'∧(∀(j:Nat) b w n,j<i→bs[j]?=some b→Ws[j]?=some w→ns[j]?=some n→Mrk b w P n)∧∃(r:Addr) (s t:Int) (r8 r9 r10 r11 r12 r13 r14 r15 r16:Option V),H' r=some (.tup [.int s,.int t])∧0<t∧ψD s t=P*((bud - (zaR bs ns).sum:Int):Rat)+((zkM bs Ws ns).take i).sum∧Bd (6100+401*i) s∧Bd (2800+400*i) t∧σ=hdS l v pr wl pp cl r bud r8 r9 r10 r11 r12 r13 r14 r15 r16) ⟨.refl _,λj b w n hj=>absurd hj (ψn1 j),p0,_,_,_,_,_,_,_,_,_,_,_,h2,dP,?_,(pb.top.mul bsp).mono (Qm),pb.bot,rfl⟩ (by rw[ψb,ψb,B.hb.1,lw]) (by rw[ψb,ψb,B.hb.1,ln]) ?_ ?_ ?_
 ·rw[eP]
  show _=_+0
  rw[Rat.add_zero]
 ·rintro i σ H' _ ⟨s,_⟩
  have S:=S2.trans s
  exact⟨SqL.of (S _ _ B.hl),SqL.of (S _ _ a2),SqL.of (S _ _ a4)⟩
 ·rintro i x w z u σ H3 hx hw hz ⟨s3,hm,r,s,t,r8,r9,r10,r11,r12,r13,r14,r15,r16,hr,t0,ev,bs',bt',rfl⟩ hu
  obtain⟨t',et,rfl⟩:=zaO hx
  obtain⟨m,em,rfl⟩:=zaO hw
  obtain⟨n,en,rfl⟩:=zaO hz
  obtain⟨b,eb,hb⟩:=B.hb.at et
  have li:=(QcE).1
  have gb:=B.gb b (zan eb)
  obtain⟨n0,n1⟩:=gn n (zan en)
  have bw:=wb m (zan em)
  have o:=zd8 gb n
  have bo:=zhG gb n1
  have bm:Bd 400 ((b.2.2 - b.2.1) ^ n.toNat):=by
   obtain⟨g1,g2,g3,g4,g5⟩:=gb
   exact zfa (Qd) (Qd) (Qd)
  have bu:=bw.mul (bo.sub bm)
  have s4:=zat hu (.tup [V.ref t',V.int m,V.int n])
  have h4:(L2.upd H3 u (.tup [V.ref t',V.int m,V.int n])) u=some (.tup [V.ref t',V.int m,V.int n]):=zam
  generalize L2.upd H3 u (.tup [V.ref t',V.int m,V.int n])=H4 at s4 h4 ⊢
  have S4:=S2.trans (s3.trans s4)
  refine⟨u,_,rfl,SqT.of h4,rfl,_,_,rfl,_,_,rfl,_,_,rfl,rfl,?_⟩
  refine zxX (S4 _ _ hb) gb (S4 _ _ a3) pb bw n0 n1 (s4 _ _ hr) bs' bt' (Qd) (Qd) (λz H5 s5=>?_) λz r' H5 y11 y12 y13 y14 y15 y16 s5 h5=>?_
  ·exact q false H5 (S4.trans s5) ⟨λy=>(by cases y),λy=>absurd (y.mr i b m n eb em en) z⟩
  ·have et:(zkM bs Ws ns)[i]?=some ((m:Rat)*chq b n):=by
    rw[zkM,ψY,em,zm5,ψY,eb,en]
   refine⟨s3.trans (s4.trans s5),λj b' w' n' hj e1 e2 e3=>?_,r',_,_,_,_,_,_,_,_,_,_,_,h5,ψB1 t0 o,?_,?_,(bt'.mul bo).mono (Qd),rfl⟩
   ·by_cases ej:j=i
    ·subst ej
     rw[eb] at e1
     rw[em] at e2
     rw[en] at e3
     cases e1
     cases e2
     cases e3
     exact z
    ·exact hm j b' w' n' (Qd) e1 e2 e3
   ·rw[← Rat.divInt_add_divInt s _ (Qd) (Qd),ev,zvh gb,ψw,et,ψL1]
    show _=_+(_+((m:Rat)*chq b n+0))
    rw[Rat.add_zero,Rat.add_assoc]
   ·exact(((bs'.mul bo).mono (show _≤6500+401*i by omega)).add ((bu.mul bt').mono (Qd))).mono (Qd)
 ·rintro σ H3 ⟨s3,hm,r,s,t,r8,r9,r10,r11,r12,r13,r14,r15,r16,hr,t0,ev,bs',bt',rfl⟩
  rw[ψb,B.hb.1] at hm ev bs' bt'
  rw[← lh,ψJ] at ev
  have S3:=S2.trans s3
  have hv3:=SqT.of (K:=K) (S3 _ _ hv)
  have dW:=zcY W
  show zdY K D _ _
  unfold zdY
  simp_all only [za4,za8,za7,za9,za5,za1,zbb,za2,zba,za3,zac]
  have hr3:=SqT.of (K:=K) hr
  refine⟨_,hr3,_,rfl,_,hv3,_,rfl,_,rfl,_,rfl,zdb 8506 2000 (bs'.mono (Qd)) bW.bot,_,hv3,_,rfl,Ws,SqL.of (S3 _ _ a2),_,rfl,zdb 2000 2806 bW.top bWs,_,hr3,_,rfl,_,rfl,zdb 4806 5200 (bW.top.mul bWs) (bt'.mono (Qd)),?_⟩
  refine q _ H3 S3 ?_
  have eW:ψD (W.num*Ws.sum) (W.den:Int)=W*(Ws.sum:Rat):=by
   rw[ψs,ψm]
   have h:=ψG W
   rw[ψs] at h
   have z:((W.den:Int):Rat)≠0:=λz=>by
    have:(W.den:Int)=0:=by exact_mod_cast z
    omega
   generalize ((W.den:Int):Rat)=d at h z ⊢
   generalize (W.num:Rat)=n at h ⊢
   grind
  have ef:zn2 bs Ws ns=(zkM bs Ws ns).sum:=rfl
  have cmp:=zAa (s:=W.num*Ws.sum) (u:=s) dW t0
  rw[eW,ev,← ef] at cmp
  rw[decide_eq_true_iff]
  constructor
  ·intro z
   refine⟨λi b w n e1 e2 e3=>hm i b w n (Qbh).1 e1 e2 e3,?_⟩
   have:=Rat.not_lt.mp λy=>absurd (cmp.mpr y) (Qd)
   grind
  ·intro z
   refine Int.not_lt.mp λy=>?_
   have y2:=cmp.mp y
   have:=z.sm
   have:=Rat.not_le.mpr y2
   grind
theorem zw0{n:Nat}{t:Tr}(h:zwO t=false):zpE n t=false:=by cases t <;> first | rfl | cases h
theorem zun{n:Nat}{t:Tr}(h:zqn n none t=false):zpE n t=false:=by
 cases t with
 | lst ts =>
  have h:(decide (ts.length=n)&&ts.all nnT)=false:=h
  show(decide (ts.length=n)&&ts.all nnT&&decide (0<(ts.map ivT).sum))=false
  rw[h]
  rfl
 | _=>rfl
theorem zma{n:Nat}{t:Tr}:zgY n t=zqn n (some 60) t:=by cases t <;> rfl
theorem zk2{l v:Addr}{vp:V}{bud:Int}{ts:List Addr}{bs:List Box}{W:Rat}{tp:Tr}(B:Bx6 H l ts bs)(hv:H v=some (Q9))(bW:Bq 2000 W)(h:Sh H tp vp)(g:Gt tp)(d0:0≤bud)(d1:bud≤60)(q:∀(r:Bool) (H':Hp),zaP H H'→(r=true↔zdq bs.length tp=true∧zvD bs bud W (pgW tp) (pgP tp) (pgN tp))→Q (.bl r) H') :
  zgs K { nx:=λ_ H'=>Q .non H',rt:=Q } (L2.start ["_law_boxes_here","_law_budget","_law_worth","_law_paper","_law_weights","_law_price_here","_law_counts","_law_gain","_law_box","_law_weight","_law_many","_law_top","_law_bottom","_law_mine","_law_due","_law_one","_law_other"] [.ref l,.int bud,.ref v,vp]) H:=by
 have no:zdq bs.length tp=false→∀H',zaP H H'→Q (QbM) H':=λe H' s=>q false H' s ⟨λz=>(QcC),λz=>absurd z.1 (by rw[e];decide)⟩
 have lt:=B.hb.1
 have l6:=B.l6
 have lb:(ts.map V.ref).length=bs.length:=by rw[ψb,lt]
 unfold zgs
 rcases zjJ h with ⟨us,p,ys,rfl,rfl,hp,hx⟩ | hn
 ·have hP:=SqT.of (K:=K) hp
  by_cases l3:us.length=3
  ·obtain⟨t0,t1,t2,rfl⟩:=len3 l3
   obtain⟨x0,r0,rfl,s0,h1⟩:=hx.uncons
   obtain⟨x1,r1,rfl,s1,h2⟩:=h1.uncons
   obtain⟨x2,r2,rfl,s2,h3⟩:=h2.uncons
   obtain rfl:=h3.unnil
   have qe:zdq bs.length (.tup [t0,t1,t2])=(zpE bs.length t0&&ze8 t1&&zgY bs.length t2):=rfl
   refine zik (λσ H'=>zaP H H'∧ze8 t1=true∧σ=[some (Qa1),some (Qbc),some (Qcw),some (Qbn),none,none,none,none,none,none,none,none,none,none,none,none,none]) ?_ ?_
   ·unfold zc5
    simp_all only [za4,za8,za7,za9,za5,za1,zbb,za2,zba,za3,zac]
    refine zdg h (Qaa)
    refine zbj (Qj) (Qao)
    refine(Qbo)
    refine zbj (Qv) (Qao)
    refine⟨_,hP,_,rfl,t1,x1,rfl,s1,g.tm t1 (Qa0),λH1 e1=>(QU)⟩
    cases c1:ze8 t1 with
    | false=>exact zbj (λ_=>no (by rw[qe,c1,Bool.and_false,ψc1]) H1 e1) (Qv)
    | true=>exact zbj (Qj) (λ_=>⟨e1,rfl⟩)
   rintro _ H1 ⟨e1,c1,rfl⟩
   rw[c1,Bool.and_true] at qe
   show zdW K _ _ _
   unfold zdW
   simp_all only [za4,za8,za7,za9,za5,za1,zbb,za2,zba,za3,zac]
   refine⟨_,SqT.of (e1 _ _ hp),rfl,_,_,rfl,_,_,rfl,_,_,rfl,rfl,?_⟩
   refine⟨λσ H'=>zaP H H'∧zwO t0=true∧zqn bs.length (some 60) t2=true∧σ=[some (Qa1),some (Qbc),some (Qcw),some (Qbn),some x0,some x1,some x2,none,none,none,none,none,none,none,none,none,none],?_,?_⟩
   ·simp_all only [za4,za8,za7,za9,za5,za1,zbb,za2,zba,za3,zac]
    refine zkR (s0.same e1) (QU)
    cases k0:zwO t0 with
    | false=>exact zbj (λ_=>no (by rw[qe,zw0 k0,ψc1]) H1 e1) (Qv)
    | true =>
     refine zbj (Qj) (Qao)
     refine⟨_,.inl (SqL.of (e1 _ _ B.hl)),t2,x2,(ts.map V.ref).length,some 60,rfl,s2.same e1,g.tm t2 (Qa0),λH2 e2=>(QU)⟩
     rw[lb]
     cases k2:zqn bs.length (some 60) t2 with
     | false=>exact zbj (λ_=>no (by rw[qe,zma,k2,Bool.and_false]) H2 (e1.trans e2)) (Qv)
     | true=>exact zbj (Qj) (λ_=>⟨e1.trans e2,rfl,rfl⟩)
   rintro _ H2 ⟨e2,k0,k2,rfl⟩
   rw[zma,k2,Bool.and_true] at qe
   refine⟨λσ H'=>zaP H H'∧zpE bs.length t0=true∧σ=[some (Qa1),some (Qbc),some (Qcw),some (Qbn),some x0,some x1,some x2,none,none,none,none,none,none,none,none,none,none],?_,?_⟩
   ·simp_all only [za4,za8,za7,za9,za5,za1,zbb,za2,zba,za3,zac]
    refine⟨_,.inl (SqL.of (e2 _ _ B.hl)),t0,x0,(ts.map V.ref).length,none,rfl,s0.same e2,g.tm t0 (Qa0),λH3 e3=>(QU)⟩
    rw[lb]
    have S3:=e2.trans e3
    cases k1:zqn bs.length none t0 with
    | false=>exact zbj (λ_=>no (by rw[qe,zun k1]) H3 S3) (Qv)
    | true =>
     refine zbj (Qj) (Qao)
     obtain⟨wl,xs,rfl,hw,hws⟩:∃wl xs,x0=.ref wl∧H wl=some (QbW)∧ShL H (match t0 with | .lst ts=>ts | _=>[]) xs:=by
      cases t0 with
      | lst ts=>exact zkE s0
      | _=>cases k0
     cases t0 with
     | lst vs =>
      have k1':(decide (vs.length=bs.length)&&vs.all nnT)=true:=k1
      rw[ψt,decide_eq_true_eq] at k1'
      obtain⟨lv,av⟩:=k1'
      obtain⟨ev,nv⟩:=zq4 av
      have wq:zpE bs.length (.lst vs)=decide (0<(vs.map ivT).sum):=by
       show(decide (vs.length=bs.length)&&vs.all nnT&&decide (0<(vs.map ivT).sum))=_
       rw[decide_eq_true lv,av]
       rfl
      have le:(vs.map ivT).length=bs.length:=by rw[ψb,lv]
      generalize vs.map ivT=ms at ev nv wq le
      subst ev
      have hws:ShL H (ms.map Tr.int) xs:=hws
      obtain rfl:=zhZ hws
      refine⟨wl,rfl,ms,SqL.of (S3 _ _ hw),by have:=B.l1;omega,λm mm ma=>?_⟩
      refine zbj (λz=>no ?_ H3 S3) (λz=>⟨S3,?_⟩)
      ·rw[qe,wq]
       refine decide_eq_false ?_
       have:=zy3 λa ha=>(by have:=ma a ha;omega:a≤0)
       omega
      ·rw[wq]
       refine decide_eq_true ?_
       have:=zrQ nv m mm
       have:=nv m mm
       omega
     | _=>cases k0
   rintro _ H3 ⟨e3,k1,rfl⟩
   rw[k1] at qe
   obtain⟨pr,ep,A,n60,sp⟩:=zkH h g qe
   cases ep
   obtain⟨wl,pp,cl,a1,a2,a3,a4⟩:=A.ex
   rw[hp] at a1
   cases a1
   exact zw6 (B.same e3) (e3 _ _ hv) bW (e3 _ _ a2) (e3 _ _ a3) (e3 _ _ a4) A.lw A.ln A.wb (λn hn=>⟨(A.n0 n hn).1,n60 n hn⟩) A.pb d0 d1 λr H4 s4 hr=>q r H4 (e3.trans s4) ⟨λz=>⟨qe,hr.mp z⟩,λz=>hr.mpr z.2⟩
  ·refine zik (λ_ _=>False) ?_ λ_ _ z=>z.elim
   unfold zc5
   simp_all only [za4,za8,za7,za9,za5,za1,zbb,za2,zba,za3,zac]
   refine zdg h (Qaa)
   refine zbj (Qj) (Qao)
   refine(Qbo)
   have:=hx.len
   exact zbj (λ_=>no (zkw l3) H (Qau)) (QbD)
 ·refine zik (λ_ _=>False) ?_ λ_ _ z=>z.elim
  unfold zc5
  simp_all only [za4,za8,za7,za9,za5,za1,zbb,za2,zba,za3,zac]
  refine zdg h (QU)
  rw[hn]
  exact zbj (λ_=>no (zmg hn) H (Qau)) (Qv)
theorem zbh:zaJ ["_law_boxes_here","_law_budget","_law_worth","_law_paper","_law_weights","_law_price_here","_law_counts","_law_gain","_law_box","_law_weight","_law_many","_law_top","_law_bottom","_law_mine","_law_due","_law_one","_law_other"] (Qbj) (zai ze9):=(Qa)
theorem zkU(T:Txt K mg a):zcr P w K mg base CX0 5 a.faW a.daW (Qbj) zsm:=by
 have Gaa:=ziU (P:=P) (w:=w) (base:=base) T
 have GZ:=zgx (P:=P) (w:=w) (base:=base) T
 have GaV:=zlw (P:=P) (w:=w) (base:=base) T
 refine T.FaW.ok zbh (Qk) (Qe)
 all_goals obtain⟨l,v,vp,bud,ts,bs,W,tp,rfl,B,hv,bW,h,g,d0,d1,q⟩:=h
 ·rfl
 exact⟨zgs K,(zaf (zbz (zb1 (PW.pt (zeY (zbW (zbu (zaq za0 rfl T.z_isinstance ψi (zaa (pv 3) (QaW))))) (zeY (zbi zi1 (zaq zaV rfl T.z_len ψH (Qbi)) zae (zbd _)) (zd6 (zbW (zbu (zag GaV (Qc) rfl T.maV T.FaV.kp T.baV .nil zaH (zaa (Qcp) zad)))))))) (QZ) zaY))
 (zaf (zcG (pv 3) (zbp rfl (zal (zak (i:=4) zbh.nd rfl (Qg)) (zal (zak (i:=5) zbh.nd rfl (Qg)) (zal (zak (i:=6) zbh.nd rfl (Qg)) zaZ)))))
 (zaf (zbz (zb1 (PW.pt (zeY (zbW (zbu (zaq za0 rfl T.z_isinstance ψi (zaa (pv 4) (Qcl))))) (zd6 (zbW (zbu (zag GZ (Qc) rfl T.mZ T.FZ.kp T.bZ .nil zaH (zaa (pv 6) (zaa (QI) (Qam))))))))) (QZ) zaY))
 (zaf (zbz (zb1 (PW.pt (zeY (zbW (zbu (zag GZ (Qc) rfl T.mZ T.FZ.kp T.bZ .nil zaH (zaa (pv 4) (zaa (QI) (zaa zkq zad)))))) (zd6 (zbi zp1 (zaq (zsy rfl) rfl T.z_max PyProof.Rows.boot_max (Qa3)) zae (zbd _))))) (QZ) zaY))
 (zaf (zaN (i:=7) zbh.nd rfl (Qg) (zbI (zaa (zao zap (Qa6) (zao zcF (pv 1) (zaq (zdo rfl) rfl T.z_sum ψW (zaa (zcc (sc:=zai ze9) (N:=["_law_boxes_here","_law_budget","_law_worth","_law_paper","_law_weights","_law_price_here","_law_counts","_law_gain","_law_box","_law_weight","_law_many","_law_top","_law_bottom","_law_mine","_law_due","_law_one","_law_other"]) (Nc:=["_law_box","_law_many"]) (cap:=[none,none]) rfl rfl rfl (Qr) (zd4 rfl T.z_zip (Qb4)) (λ_ _ _ _=>(zbp rfl (zal (zak (i:=0) (Qaq) rfl (Qg)) (zal (zak (i:=1) (Qaq) rfl (Qg)) zaZ)))) (QH) (Qcv)) zad)))) (zaa (Qa6) zad))))
 (zaf (zdA PassesOwn.never rfl (zta rfl T.z_zip (zaa (pv 0) (zaa (pv 4) (zaa (pv 6) zad)))) (zbp rfl (zal (zak (i:=8) zbh.nd rfl (Qg)) (zal (zak (i:=9) zbh.nd rfl (Qg)) (zal (zak (i:=10) zbh.nd rfl (Qg)) zaZ))))
 (zaf (zcG (zag Gaa (Qc) rfl T.maa T.Faa.kp T.baa .nil zaH (zaa (pv 8) (zaa (pv 10) zad))) (zbp rfl (zal (zak (i:=11) zbh.nd rfl (Qg)) (zal (zak (i:=12) zbh.nd rfl (Qg)) zaZ))))
 (zaf (zaN (i:=13) zbh.nd rfl (Qg) (zao zap (zao zap (pv 9) (zaI zar (pv 8) zae (Qp))) (Qa6)))
 (zaf (zaN (i:=14) zbh.nd rfl (Qg) (zao zap (zao zap (Qa6) (zaI zar (pv 8) zae (Qp))) (zaI zar (pv 8) zae (Qp))))
 (zaf (zbz (zb1 (zbi znD (zao zap (pv 13) (pv 11)) (zao zap (pv 14) (pv 12)) (zbd _)) (QZ) zaY))
 (zaf (zbz (zb1 (zbi znD (pv 10) zae (zbd _)) (zaf (zcG (zag Gaa (Qc) rfl T.maa T.Faa.kp T.baa .nil zaH (zaa (pv 8) (zaa (zao zcF (pv 10) zae) zad))) (zbp rfl (zal (zak (i:=15) zbh.nd rfl (Qg)) (zal (zak (i:=16) zbh.nd rfl (Qg)) zaZ))))
 (zah (zb1 (zbi zj6 (zao zap (pv 13) (pv 15)) (zao zap (pv 14) (pv 16)) (zbd _)) (QZ) zaY))) zaY))
 (zah (zaN (i:=7) zbh.nd rfl (Qg) (zbI (zaa (zao zco (zao zap (QbP) (pv 12)) (zao zap (zao zap (pv 9) (zao zcF (pv 12) (pv 11))) (QbP))) (zaa (zao zap (QbP) (pv 12)) zad)))))))))))
 (zah (zaE (zcg zlI (zao zap (QbP) (Q6)) (zao zap (zao zap (Q6) (Qcf)) (QbP)) (zbd _)))))))))),
  zk2 B hv bW h g d0 d1 q⟩
def zcE(f:Addr×HO)(p c:Addr)(H:Hp):Hp:=Off f.1 f.1 (QaJ)
def zhY(f:Addr×HO)(H:Hp)(p c:Addr)(u:Int):Prop:=Pur H p c u∧Off p c H f.1=some f.2
theorem zbC{f:Addr×HO}(p c:Addr)(H:Hp):zaP (zcE f p c H) H:=(zbB f.1 f.1 _).trans (zbB p c H)
theorem zhz{f:Addr×HO}{p c:Addr}{H H':Hp}(o:Off p c H'=Off p c H):zcE f p c H'=zcE f p c H:=by
 unfold zcE
 rw[o]
theorem zhY.draw{f:Addr×HO}{p c:Addr}{H H':Hp}{u u':Int}(P:zhY f H p c u)(o:Off p c H'=Off p c H)(P':Pur H' p c u'):zhY f H' p c u':=⟨P',by rw[o];exact P.2⟩
theorem zhY.put{f:Addr×HO}{p c:Addr}{H:Hp}{u:Int}(P:zhY f H p c u){b:Addr}(hb:H b=none)(o:HO):zaP (zcE f p c H) (zcE f p c (QcL))∧zcE f p c (QcL) b=some o∧zhY f (QcL) p c u:=by
 obtain⟨s,h,P'⟩:=P.1.put hb o
 have ho:=P.2
 have n:b≠f.1:=λe=>by
  rw[e,zbB _ _ _ _ _ ho] at hb
  cases hb
 exact⟨zgX f.1 f.1 s,by unfold zcE;rw[zhl n n];exact h,P',s _ _ ho⟩
theorem zhN{f:Addr×HO}{p c:Addr}{H H':Hp}(o:zcE f p c H'=zcE f p c H):zaP (zcE f p c H) (zcE f p c H'):=by
 rw[o]
 exact .refl _
theorem zhY.all{f:Addr×HO}{p c:Addr}{H H':Hp}{u u':Int}(P:zhY f H p c u)(P':zhY f H' p c u')(s:zaP (zcE f p c H) (zcE f p c H')):zaP (QaJ) (Off p c H'):=λb o h=>by
 by_cases e:b=f.1
 ·rw[e] at h ⊢
  rw[P.2] at h
  cases h
  exact P'.2
 ·exact zbB _ _ _ _ _ (s b o (by unfold zcE;rw[zhl e e];exact h))
theorem znf{fx:Addr×HO}{p c a b:Addr}{u:Int}{xs ys:List V}(P:zhY fx H p c u)(ha:zcE fx p c H a=some (QcT))(hb:zcE fx p c H b=some (.tup ys))(l:xs.length+ys.length≤20)(q:∀(r:Addr) (H':Hp),zaP (Qal) (Qax)→zhY fx H' p c u→zcE fx p c H' r=some (.tup (xs++ys))→Q (QT) H'):zq2 K (.ref a) (.ref b) H Q:=by
 refine⟨a,b,xs,ys,rfl,rfl,.of (zbC _ _ _ _ _ ha),.of (zbC _ _ _ _ _ hb),ψE l (Qm),λe=>?_,λ_ e=>?_,λ_ _ r nr=>?_⟩
 ·subst e
  exact q b H (Qau) P hb
 ·subst e
  exact q a H (Qau) P (by rw[List.append_nil];exact ha)
 ·obtain⟨s,h,P'⟩:=P.put nr (.tup (xs++ys))
  exact q r _ s P' h
theorem zni{fx:Addr×HO}{p c l:Addr}{u:Int}{xs:List V}{lo hi:Option Int}(P:zhY fx H p c u)(h:zcE fx p c H l=some (QcT))(w:¬ (HT.sIx xs.length 0 lo=0∧HT.sIx xs.length xs.length hi=xs.length))(q:∀(r:Addr) (H':Hp),zaP (Qal) (Qax)→zhY fx H' p c u→zcE fx p c H' r=some (.tup (ziW xs lo hi))→Q (QT) H'):zzx K (Qa1) lo hi H Q:=by
 refine⟨l,xs,rfl,.of (zbC _ _ _ _ _ h),w,λr nr=>?_⟩
 obtain⟨s,h,P'⟩:=P.put nr (.tup (ziW xs lo hi))
 exact q r _ s P' h
inductive Dp:Nat→Tr→Prop where
 | int {n:Nat} (i:Int):Dp n (.int i)
 | bl {n:Nat} (b:Bool):Dp n (.bl b)
 | str {n:Nat} (x:Str):Dp n (.str x)
 | non {n:Nat}:Dp n .non
 | lst {n:Nat} {ts:List Tr} (h:∀t∈ts,Dp n t):Dp (n+1) (.lst ts)
 | tup {n:Nat} {ts:List Tr} (h:∀t∈ts,Dp n t):Dp (n+1) (.tup ts)
theorem Dp.mono{n:Nat}{t:Tr}(h:Dp n t):∀{m:Nat},n≤m→Dp m t:=by
 induction h with
 | int i=>exact λ_=>.int i
 | bl b=>exact λ_=>.bl b
 | str x=>exact λ_=>.str x
 | non=>exact λ_=>.non
 | lst _ ih =>
  intro m l
  obtain⟨m',rfl⟩:∃m',m=m'+1:=⟨m - 1,by omega⟩
  exact .lst λt ht=>ih t ht (Qd)
 | tup _ ih =>
  intro m l
  obtain⟨m',rfl⟩:∃m',m=m'+1:=⟨m - 1,by omega⟩
  exact .tup λt ht=>ih t ht (Qd)
def Gd(H:Hp)(k d:Nat)(v:V):Prop:=∃T,Sh H T v∧Szd k T∧Dp d T
theorem Gd.same{H H':Hp}{k d:Nat}{v:V}(h:Gd H k d v)(s:zaP H H'):Gd H' k d v:=by
 obtain⟨T,a,b,c⟩:=h
 exact⟨T,a.same s,b,c⟩
theorem Gd.mono{H:Hp}{k d k' d':Nat}{v:V}(h:Gd H k d v)(lk:k≤k')(ld:d≤d'):Gd H k' d' v:=by
 obtain⟨T,a,b,c⟩:=h
 exact⟨T,a,b.mono lk,c.mono ld⟩
theorem Gd.int{k d:Nat}{i:Int}(h:i.natAbs≤2 ^ 2750+k):Gd H k d (.int i):=⟨.int i,.int i,.int h,.int i⟩
theorem Gd.small{k d:Nat}{i:Int}(h:i.natAbs≤2 ^ 100):Gd H k d (.int i):=.int (ψE h (ψE (show 2 ^ 100≤2 ^ 2750 by decide +kernel) (ψT1 ..)))
theorem Gd.bl{k d:Nat}(b:Bool):Gd H k d (.bl b):=⟨.bl b,.bl b,.bl b,.bl b⟩
theorem Gd.str{k d:Nat}(x:Str):Gd H k d (.str x):=⟨.str x,.str x,.str x,.str x⟩
theorem Gd.non{k d:Nat}:Gd H k d .non:=⟨.non,.non,.non,.non⟩
theorem gds{k d:Nat}:∀{xs:List V},(∀x∈xs,Gd H k d x)→∃ts,ShL H ts xs∧(∀t∈ts,Szd k t)∧∀t∈ts,Dp d t
 | [],_=>⟨[],.nil,λt h=>(by cases h),λt h=>(by cases h)⟩
 | x::xs,h=>by
  obtain⟨ts,a,b,c⟩:=gds λy hy=>h y (ψe _ hy)
  obtain⟨t,e,f,g⟩:=h x ψg
  refine⟨t::ts,.cons e a,λu hu=>?_,λu hu=>?_⟩
  ·rcases List.mem_cons.mp hu with rfl | hu
   ·exact f
   ·exact b u hu
  ·rcases List.mem_cons.mp hu with rfl | hu
   ·exact g
   ·exact c u hu
theorem Gd.lst{k d:Nat}{p:Addr}{xs:List V}(h:H p=some (QbW))(l:xs.length≤7+k)(g:∀x∈xs,Gd H k d x):Gd H k (d+1) (.ref p):=by
 obtain⟨ts,a,b,c⟩:=gds g
 exact⟨.lst ts,.lst h a.len a.el,.lst (by rw[← a.len];exact l) b,.lst c⟩
theorem Gd.tup{k d:Nat}{p:Addr}{xs:List V}(h:H p=some (QcT))(l:xs.length≤7+k)(g:∀x∈xs,Gd H k d x):Gd H k (d+1) (.ref p):=by
 obtain⟨ts,a,b,c⟩:=gds g
 exact⟨.tup ts,.tup h a.len a.el,.tup (by rw[← a.len];exact l) b,.tup c⟩
theorem zwm{k d:Nat}{ts:List Tr}{xs:List V}(h:ShL H ts xs)(b:∀t∈ts,Szd k t)(c:∀t∈ts,Dp d t):∀x∈xs,Gd H k d x:=λx hx=>by
 obtain⟨i,ei⟩:=List.mem_iff_getElem?.mp hx
 have li:=(Qbg).1
 have:=h.len
 have e:ts[i]?=some (ts[i]'(by omega)):=ψc _
 exact⟨_,h.el i x _ ei e,b _ (zan e),c _ (zan e)⟩
inductive GdC (H:Hp) (k:Nat):Nat→V→Prop where
 | int {d:Nat} {i:Int} (h:i.natAbs≤2 ^ 2750+k):GdC H k d (.int i)
 | bl {d:Nat} (b:Bool):GdC H k d (.bl b)
 | str {d:Nat} (x:Str):GdC H k d (.str x)
 | non {d:Nat}:GdC H k d .non
 | lst {d:Nat} {p:Addr} {xs:List V} (h:H p=some (QbW)) (l:xs.length≤7+k) (g:∀x∈xs,Gd H k d x):GdC H k (d+1) (Qbn)
 | tup {d:Nat} {p:Addr} {xs:List V} (h:H p=some (QcT)) (l:xs.length≤7+k) (g:∀x∈xs,Gd H k d x):GdC H k (d+1) (Qbn)
theorem Gd.c{k d:Nat}{v:V}(h:Gd H k d v):GdC H k d v:=by
 obtain⟨T,a,b,c⟩:=h
 cases a with
 | int i=>exact .int b.i
 | bl b'=>exact .bl b'
 | str x=>exact .str x
 | non=>exact .non
 | lst h l e =>
  cases c with
  | lst c=>exact .lst h (by rw[l];exact b.l) (zwm ⟨l,e⟩ b.m c)
 | tup h l e =>
  cases c with
  | tup c=>exact .tup h (by rw[l];exact b.tl) (zwm ⟨l,e⟩ b.tm c)
theorem zhf{xs:List V}{r:Int}(h0:0≤r)(h1:r<xs.length):∃v,atI xs r=some v∧v∈xs:=by
 obtain⟨j,rfl⟩:=ψd1 h0
 have e:xs[j]?=some (xs[j]'(by omega)):=ψc _
 exact⟨_,zfH e,zan e⟩
def zvg(ok:Hp→V→Prop)(n:Nat):Sp:=λvs H Q _=>∃(p c:Addr) (fx:Addr×HO) (u:Int) (v:V) (k d:Nat),vs=[.ref p,v]∧zhY fx H p c u∧u+2*d<50000∧Gd (Qal) k d v∧ok (Qal) v∧k≤1∧d≤n∧∀(v':V) (u':Int) (H':Hp),zaP (Qal) (Qax)→zhY fx H' p c u'→u'≤u+2*d+2→Gd (Qax) (k+1) (d+1) v'→Q v' H'
def zs1:Sp:=zvg (λ_ v=>isI v=true) 0
def zmL(n:Nat):Sp:=zvg (λ_ _=>True) n
def zn8(n:Nat):Sp:=zvg (λH v=>∃p xs,v=.ref p∧H p=some (QbW)∧0<xs.length) n
def znW(n:Nat):Sp:=zvg (λH v=>∃p xs,v=.ref p∧H p=some (QcT)∧0<xs.length) n
def znP:Sp:=λ_ _ _ _=>False
def zln:Nat→Sp
 | 0=>znP
 | n+1=>zmL n
def zeq(K:ψa):TS :=
 (zb2 (tOp (zf2 K) (zhK (zab (tOp (Qz) (zac 1) (Qi)) (zab (tOp (QA) (zac 1) (Qi)) (zab (tOp (Qz) (zac 1) (Qi)) (zab (tOp (QA) (zac 1) (Qi)) (zab (Qq) (zab (tC (.int 61)) (zab (zac 3) (zab (tUn (rU λi=>.int (-i)) (Qi)) (zab (tC (.bl true)) (zab (tC .non) (zab (tC (.str "1")) (zab (zhK (QV)) zas))))))))))))) (zac 2)))
def zdz(K:ψa):=eqT (zeq.eq_1 K)
def zel(K:ψa):TS :=
 (zbf (zbq (zaG zcy [] E0 (zab (zac 0) (zab (tOp (QaD) (tC (.int 10)) (tC (.int 28))) zas))) (zaj 3))
 (zeq K))
def zdw(K:ψa):=eqT (zel.eq_1 K)
def zdE(K:ψa):TS :=
 (zbf (zbq (Qbw) (zaj 2))
 (zel K))
theorem zhr{p c:Addr}{fx:Addr×HO}{u:Int}{v:V}{k d:Nat}(P:zhY fx H p c u)(u1:u+2*d<50000)(g:Gd (Qal) k d v)(w:isI v=true)(k1:k≤1)(q:∀(v':V) (u':Int) (H':Hp),zaP (Qal) (Qax)→zhY fx H' p c u'→u'≤u+2*d+2→Gd (Qax) (k+1) (d+1) v'→Q v' H') :
  zdE K { nx:=λ_ H'=>Q .non H',rt:=Q } (L2.start ["_law_purse_here","_law_thing","_law_way","_law_far"] [.ref p,v]) H:=by
 have gc:=g.c
 cases gc with
 | @int d i hi =>
  unfold zdE
  simp_all only [zac]
  refine⟨p,c,u,12,rfl,P.1,by omega,by decide,by decide,λr H1 r0 r1 o1 P1=>?_⟩
  have P1:=P.draw o1 P1
  have o1:=zhz (f:=fx) o1
  simp_all only [zac]
  ((try simp only);first | rw[zdz] | rw[zdw]);simp_all only [zac]
  refine⟨(QbC),p,c,u+1,10000000000000000000000000000,rfl,P1.1,by omega,by decide,by decide,λf H2 f0 f1 o2 P2=>?_⟩
  have P2:=P1.draw o2 P2
  have o2:=zhz (f:=fx) o2
  ((try simp only);first | rw[zdz] | rw[zdw]);simp_all only [zac]
  refine⟨by decide,λa na=>?_⟩
  obtain⟨s3,h3,P3⟩:=P2.put na (.lst [V.int i])
  generalize L2.upd H2 a (.lst [V.int i])=H3 at s3 h3 P3 ⊢
  refine(QbJ)
  obtain⟨s4,h4,P4⟩:=P3.put nb (.lst [V.int (i+1),V.int (i - 1),V.int (i+1),V.int (i - 1),V.int 0,V.int 61,V.int f,V.int (-1),V.bl true,V.non,V.str (Str.ofString "1"),V.ref a])
  generalize L2.upd H3 b (.lst [V.int (i+1),V.int (i - 1),V.int (i+1),V.int (i - 1),V.int 0,V.int 61,V.int f,V.int (-1),V.bl true,V.non,V.str (Str.ofString "1"),V.ref a])=H4 at s4 h4 P4 ⊢
  obtain⟨v',ev,mv⟩:=zhf (xs:=[V.int (i+1),V.int (i - 1),V.int (i+1),V.int (i - 1),V.int 0,V.int 61,V.int f,V.int (-1),V.bl true,V.non,V.str (Str.ofString "1"),V.ref a]) r0 (by show r<12;omega)
  refine⟨_,SqL.of (zbC _ _ _ _ _ h4),v',ev,?_⟩
  refine q v' _ _ (((zhN o1).trans (zhN o2)).trans (s3.trans s4)) P4 (Qd) ?_
  have sm:∀j:Int,-1≤j→j≤10000000000000000000000000000→Gd (zcE fx p c H4) (k+1) (d+1) (.int j):=λj j0 j1=>.small (Qd)
  simp only[ψv,ψp,or_false] at mv
  rcases mv with rfl | rfl | rfl | rfl | rfl | rfl | rfl | rfl | rfl | rfl | rfl | rfl
  ·exact .int (Qd)
  ·exact .int (Qd)
  ·exact .int (Qd)
  ·exact .int (Qd)
  ·exact sm _ (Qm) (Qm)
  ·exact sm _ (Qm) (Qm)
  ·exact sm _ (Qd) (Qd)
  ·exact sm _ (Qm) (Qm)
  ·exact .bl _
  ·exact .non
  ·exact .str _
  ·refine .lst (s4 _ _ h3) (by show 1≤_;omega) λx hx=>?_
   have:x=.int i:=by simpa using hx
   subst this
   exact .int (Qd)
 | _=>cases w
theorem zde:zaJ ["_law_purse_here","_law_thing","_law_way","_law_far"] (QR) (zai zdr):=(Qa)
theorem zhs(T:Txt K mg a):zcr P w K mg base CX0 2 a.faX a.daX (QR) zs1:=by
 have Gh:=zcq (P:=P) (w:=w) (base:=base) T
 refine T.FaX.ok zde (Qk) (Qe)
 all_goals obtain⟨p,c,fx,u,v,k,d,rfl,P',u1,g,w,k1,d1,q⟩:=h
 ·rfl
 exact⟨zdE K,(zaf (zaN (i:=2) zde.nd rfl (Qg) (Qn))
 (zaf (zaN (i:=3) zde.nd rfl (Qg) (zag Gh (Qc) rfl T.mh T.Fh.kp T.bh .nil zaH (zaa (pv 0) (zaa (zao zky zae zae) zad))))
 (zah (zaE (zaI zbm (zcl (zaa (zao zco (pv 1) zae) (zaa (zao zcF (pv 1) zae) (zaa (zao zco (pv 1) zae) (zaa (zao zcF (pv 1) zae) (zaa zae (zaa zae (zaa (pv 3) (zaa (ztP zpa zae) (zaa zdx (zaa zkq (zaa zl6 (zaa (zcl (Qw)) zad))))))))))))) (pv 2) (Qp)))))),
  zhr P' u1 g w k1 q⟩
def zeZ(K:ψa):TS :=
 (zb2 (tOp (zf2 K) (zhK (zab (tSl (zuH K) (zac 1) (ziv (Qi)) zef) (zab (tOp zwq (zac 1) (tSl (zuH K) (zac 1) zef (ziv (Qi)))) (zab (tRev K (zac 1) (ziv (tUn (rU λi=>.int (-i)) (Qi)))) (zab (tCB (λxs H Q=>∃p ys,xs=[.ref p]∧((SqL K H p ys∧∀l,H l=none→Q (Qa1) (upd H l (.tup ys)))∨(SqT K H p ys∧Q (Qbn) H))) (QV)) zas))))) (tOp (QA) (zac 3) (tC (.int 8)))))
def zbO(K:ψa):=eqT (zeZ.eq_1 K)
def ze4(K:ψa)(nRec:Nat):TS :=
 (zd2 (zcp (tOp (QY) (zac 3) (tC (.int 8)))) (zb2 (tOp zwq (tOp zwq (tSl (zuH K) (zac 1) zef (ziv (zac 2))) (zhK (zab (zaG (zln nRec) [] E0 (zab (zac 0) (zab (tOp (zf2 K) (zac 1) (zac 2)) zas))) zas))) (tSl (zuH K) (zac 1) (ziv (tOp (Qz) (zac 2) (Qi))) zef))) zb7)
def zbM(K:ψa)(nRec:Nat):=eqT (ze4.eq_1 K nRec)
def zek(K:ψa)(nRec:Nat):TS :=
 (zbf (zbq (zaG zcy [] E0 (zab (zac 0) (zab (tCB (Qf) (QV)) zas))) (zaj 2))
 (zbf (zbq (Qbw) (zaj 3))
 (zbf (ze2 (ze4 K nRec))
 (zeZ K))))
theorem Gd.ofl{k d:Nat}{l:Addr}{xs:List V}(g:Gd H k d (Qa1))(h:H l=some (QbW)):∃d',d=d'+1∧xs.length≤7+k∧∀x∈xs,Gd H k d' x:=by
 have gc:=g.c
 cases gc with
 | lst h' l' g' =>
  rw[h] at h'
  cases h'
  exact⟨_,rfl,l',g'⟩
 | tup h' =>
  rw[h] at h'
  cases h'
theorem Gd.oft{k d:Nat}{l:Addr}{xs:List V}(g:Gd H k d (Qa1))(h:H l=some (QcT)):∃d',d=d'+1∧xs.length≤7+k∧∀x∈xs,Gd H k d' x:=by
 have gc:=g.c
 cases gc with
 | tup h' l' g' =>
  rw[h] at h'
  cases h'
  exact⟨_,rfl,l',g'⟩
 | lst h' =>
  rw[h] at h'
  cases h'
open HT in
theorem zo8(xs:List V)(k:Nat):ziW xs none (some (k:Int))=xs.take k:=by
 unfold ziW
 rw[sIx_nat,zjg,List.drop_zero,Nat.sub_zero]
 by_cases c:k≤xs.length
 ·rw[Nat.min_eq_left c]
 ·rw[Nat.min_eq_right (Qd),ψK (ψh _),ψK (Qd)]
open HT in
theorem zph(xs:List V)(k:Nat):ziW xs (some (k:Int)) none=xs.drop k:=by
 unfold ziW
 rw[sIx_nat,zjg]
 by_cases c:k≤xs.length
 ·rw[Nat.min_eq_left c,ψK (by rw[ψR1];omega)]
 ·rw[Nat.min_eq_right (Qd),List.drop_of_length_le (ψh _),List.drop_of_length_le (l:=xs) (Qd),List.take_nil]
theorem zhP{n:Nat}(h:n≤20):n≤sizeLine:=ψE h (Qm)
theorem zit{n:Nat}{p c:Addr}{fx:Addr×HO}{u:Int}{v:V}{k d:Nat}(P:zhY fx H p c u)(u1:u+2*d<50000)(g:Gd (Qal) k d v)(ok:∃l xs,v=.ref l∧zcE fx p c H l=some (QbW)∧0<xs.length)(k1:k≤1)(dn:d≤n)(q:∀(v':V) (u':Int) (H':Hp),zaP (Qal) (Qax)→zhY fx H' p c u'→u'≤u+2*d+2→Gd (Qax) (k+1) (d+1) v'→Q v' H') :
  zek K n { nx:=λ_ H'=>Q .non H',rt:=Q } (L2.start (Qaz) [.ref p,v]) H:=by
 obtain⟨l,xs,rfl,hl,l0⟩:=ok
 obtain⟨d',rfl,lx,gx⟩:=g.ofl hl
 obtain⟨n',rfl⟩:∃n',n=n'+1:=⟨n - 1,by omega⟩
 unfold zek
 simp_all only [zbO,zbM,zac]
 refine⟨_,.inl (SqL.of (zbC _ _ _ _ _ hl)),p,c,u,xs.length,rfl,P.1,by omega,by omega,by omega,λr H1 r0 r1 o1 P1=>?_⟩
 have P1:=P.draw o1 P1
 have o1:=zhz (f:=fx) o1
 simp_all only [zbO,zbM,zac]
 refine⟨p,c,u+1,12,rfl,P1.1,by omega,by decide,by decide,λw H2 w0 w1 o2 P2=>?_⟩
 have P2:=P1.draw o2 P2
 have o2:=zhz (f:=fx) o2
 have o:zcE fx p c H2=zcE fx p c H:=o2.trans o1
 have hl2:zcE fx p c H2 l=some (.lst xs):=by rw[o];exact hl
 have hl2':=zbC _ _ _ _ _ hl2
 simp_all only [zbO,zbM,zac]
 refine⟨λσ H'=>H'=H2∧8≤w∧σ=[some (Qbn),some (Qa1),some (.int r),some (.int w)],?_,?_⟩
 ·simp_all only [zbO,zbM,zac]
  refine zbj (Qcz) (λz=>by omega)
  obtain⟨j,rfl⟩:=ψd1 r0
  have c1:=zo8 xs j
  have c2:ziW xs (some ((j:Int)+1)) none=xs.drop (j+1):=zph xs (j+1)
  refine⟨_,SqL.of hl2',λa na=>?_⟩
  rw[c1]
  obtain⟨s3,h3,P3⟩:=P2.put na (.lst (xs.take j))
  generalize L2.upd H2 a (.lst (xs.take j))=H3 at s3 h3 P3 ⊢
  have hl3:=s3 _ _ hl2
  obtain⟨x,ex,mx⟩:=zhf (xs:=xs) r0 r1
  have S3:zaP (Qal) (zcE fx p c H3):=by rw[← o];exact s3
  refine⟨_,SqL.of (zbC _ _ _ _ _ hl3),x,ex,p,c,fx,_,x,k,d',rfl,P3,by omega,(gx x mx).same S3,trivial,k1,by omega,λv' u' H4 s4 P4 u4 g4=>?_⟩
  refine(QbJ)
  obtain⟨s5,h5,P5⟩:=P4.put nb (.lst [v'])
  generalize L2.upd H4 b (.lst [v'])=H5 at s5 h5 P5 ⊢
  refine⟨_,zbC _ _ _ _ _ (s5 _ _ (s4 _ _ h3)),_,zbC _ _ _ _ _ h5,zhP (by simp;omega),λe ne=>?_⟩
  obtain⟨s6,h6,P6⟩:=P5.put ne (.lst (xs.take j++[v']))
  generalize L2.upd H5 e (.lst (xs.take j++[v']))=H6 at s6 h6 P6 ⊢
  have hl6:=s6 _ _ (s5 _ _ (s4 _ _ hl3))
  refine⟨_,SqL.of (zbC _ _ _ _ _ hl6),λf nf=>?_⟩
  rw[c2]
  obtain⟨s7,h7,P7⟩:=P6.put nf (.lst (xs.drop (j+1)))
  generalize L2.upd H6 f (.lst (xs.drop (j+1)))=H7 at s7 h7 P7 ⊢
  refine⟨_,zbC _ _ _ _ _ (s7 _ _ h6),_,zbC _ _ _ _ _ h7,zhP (by simp;omega),λe2 ne2=>?_⟩
  obtain⟨s8,h8,P8⟩:=P7.put ne2 (.lst (xs.take j++[v']++xs.drop (j+1)))
  have S48:=s5.trans (s6.trans (s7.trans s8))
  have S8:=S3.trans (s4.trans S48)
  refine q _ _ _ S8 P8 (Qd) (.lst h8 (by simp;omega) λy hy=>?_)
  rcases List.mem_append.mp hy with hy | hy
  ·rcases List.mem_append.mp hy with hy | hy
   ·exact((gx y (ψO1 hy)).same S8).mono (Qd) (Qd)
   ·have:y=v':=by simpa using hy
    subst this
    exact g4.same S48
  ·exact((gx y (ψN1 hy)).same S8).mono (Qd) (Qd)
 ·rintro _ H2' ⟨e,w8,rfl⟩
  subst e
  have S2:zaP (Qal) (zcE fx p c H2'):=zhN o
  have c1:ziW xs (some 1) none=xs.drop 1:=zph xs 1
  have c2:ziW xs none (some 1)=xs.take 1:=zo8 xs 1
  simp_all only [zbO,zbM,zac]
  refine⟨_,SqL.of hl2',λa na=>?_⟩
  rw[c1]
  obtain⟨s3,h3,P3⟩:=P2.put na (.lst (xs.drop 1))
  generalize L2.upd H2' a (.lst (xs.drop 1))=H3 at s3 h3 P3 ⊢
  have hl3:=s3 _ _ hl2
  refine⟨_,SqL.of (zbC _ _ _ _ _ hl3),λb nb=>?_⟩
  rw[c2]
  obtain⟨s4,h4,P4⟩:=P3.put nb (.lst (xs.take 1))
  generalize L2.upd H3 b (.lst (xs.take 1))=H4 at s4 h4 P4 ⊢
  have hl4:=s4 _ _ hl3
  refine⟨_,zbC _ _ _ _ _ hl4,_,zbC _ _ _ _ _ h4,zhP (by simp;omega),λe ne=>?_⟩
  obtain⟨s5,h5,P5⟩:=P4.put ne (.lst (xs++xs.take 1))
  generalize L2.upd H4 e (.lst (xs++xs.take 1))=H5 at s5 h5 P5 ⊢
  have hl5:=s5 _ _ hl4
  refine⟨_,SqL.of (zbC _ _ _ _ _ hl5),λf nf=>?_⟩
  obtain⟨s6,h6,P6⟩:=P5.put nf (.lst xs.reverse)
  generalize L2.upd H5 f (.lst xs.reverse)=H6 at s6 h6 P6 ⊢
  have hl6:=s6 _ _ hl5
  refine⟨_,.inl ⟨SqL.of (zbC _ _ _ _ _ hl6),λt nt=>?_⟩⟩
  obtain⟨s7,h7,P7⟩:=P6.put nt (QcT)
  generalize L2.upd H6 t (.tup xs)=H7 at s7 h7 P7 ⊢
  refine⟨by decide,λm nm=>?_⟩
  obtain⟨s8,h8,P8⟩:=P7.put nm (.lst [.ref a,.ref e,.ref f,.ref t])
  obtain⟨v',ev,mv⟩:=zhf (xs:=[.ref a,.ref e,.ref f,.ref t]) (r:=w - 8) (Qd) (by show w - 8<4;omega)
  have S78:=s7.trans s8
  have S58:=s6.trans S78
  have S38:=s4.trans (s5.trans S58)
  have S8:=S2.trans (s3.trans S38)
  have gx':∀x∈xs,Gd (zcE fx p c (L2.upd H7 m (.lst [.ref a,.ref e,.ref f,.ref t]))) (k+1) (d'+1) x:=λx hx=>((gx x hx).same S8).mono (Qd) (Qd)
  refine⟨_,SqL.of (zbC _ _ _ _ _ h8),v',ev,q v' _ _ S8 P8 (Qd) ?_⟩
  simp only[ψv,ψp,or_false] at mv
  rcases mv with rfl | rfl | rfl | rfl
  ·exact .lst (S38 _ _ h3) (by simp;omega) λx hx=>gx' x (ψN1 hx)
  ·refine .lst (S58 _ _ h5) (by simp;omega) λx hx=>?_
   rcases List.mem_append.mp hx with hx | hx
   ·exact gx' x hx
   ·exact gx' x (ψO1 hx)
  ·exact .lst (S78 _ _ h6) (by simp;omega) λx hx=>gx' x (List.mem_reverse.mp hx)
  ·exact .tup (s8 _ _ h7) (Qd) gx'
def zeW(K:ψa):TS :=
 (zb2 (tOp (zf2 K) (zhK (zab (tSl (zzx K) (zac 1) (ziv (Qi)) zef) (zab (tOp (zq2 K) (zac 1) (zf6 (Qb3))) (zab (Qs) zas)))) (tOp (QA) (zac 3) (QbH))))
def zbE(K:ψa):=eqT (zeW.eq_1 K)
def zeT(K:ψa)(nRec:Nat):TS :=
 (zd2 (zcp (tOp (QY) (zac 3) (QbH))) (zb2 (tOp (zq2 K) (tOp (zq2 K) (tSl (zzx K) (zac 1) zef (ziv (zac 2))) (zf6 (zab (zaG (zln nRec) [] E0 (zab (zac 0) (zab (tOp (zbH K) (zac 1) (zac 2)) zas))) zas))) (tSl (zzx K) (zac 1) (ziv (tOp (Qz) (zac 2) (Qi))) zef))) zb7)
def zbD(K:ψa)(nRec:Nat):=eqT (zeT.eq_1 K nRec)
def zdP(K:ψa)(nRec:Nat):TS :=
 (zbf (zbq (zaG zcy [] E0 (zab (zac 0) (zab (tCB (Qf) (QV)) zas))) (zaj 2))
 (zbf (zbq (Qbw) (zaj 3))
 (zbf (ze2 (zeT K nRec))
 (zeW K))))
theorem zhQ{n:Nat}{p c:Addr}{fx:Addr×HO}{u:Int}{v:V}{k d:Nat}(P:zhY fx H p c u)(u1:u+2*d<50000)(g:Gd (Qal) k d v)(ok:∃l xs,v=.ref l∧zcE fx p c H l=some (QcT)∧0<xs.length)(k1:k≤1)(dn:d≤n)(q:∀(v':V) (u':Int) (H':Hp),zaP (Qal) (Qax)→zhY fx H' p c u'→u'≤u+2*d+2→Gd (Qax) (k+1) (d+1) v'→Q v' H') :
  zdP K n { nx:=λ_ H'=>Q .non H',rt:=Q } (L2.start (Qaz) [.ref p,v]) H:=by
 obtain⟨l,xs,rfl,hl,l0⟩:=ok
 obtain⟨d',rfl,lx,gx⟩:=g.oft hl
 obtain⟨n',rfl⟩:∃n',n=n'+1:=⟨n - 1,by omega⟩
 unfold zdP
 simp_all only [zbE,zbD,zac]
 refine⟨_,.inr (SqT.of (zbC _ _ _ _ _ hl)),p,c,u,xs.length,rfl,P.1,by omega,by omega,by omega,λr H1 r0 r1 o1 P1=>?_⟩
 have P1:=P.draw o1 P1
 have o1:=zhz (f:=fx) o1
 simp_all only [zbE,zbD,zac]
 refine⟨p,c,u+1,12,rfl,P1.1,by omega,by decide,by decide,λw H2 w0 w1 o2 P2=>?_⟩
 have P2:=P1.draw o2 P2
 have o2:=zhz (f:=fx) o2
 have o:zcE fx p c H2=zcE fx p c H:=o2.trans o1
 have hl2:zcE fx p c H2 l=some (.tup xs):=by rw[o];exact hl
 simp_all only [zbE,zbD,zac]
 refine⟨λσ H'=>H'=H2∧9≤w∧σ=[some (Qbn),some (Qa1),some (.int r),some (.int w)],?_,?_⟩
 ·simp_all only [zbE,zbD,zac]
  refine zbj (Qcz) (λz=>by omega)
  obtain⟨j,rfl⟩:=ψd1 r0
  have c1:=zo8 xs j
  have c2:ziW xs (some ((j:Int)+1)) none=xs.drop (j+1):=zph xs (j+1)
  refine zni P2 hl2 (by rw[HT.sIx_nat];omega) λa H3 s3 P3 h3=>?_
  rw[c1] at h3
  have hl3:=s3 _ _ hl2
  obtain⟨x,ex,mx⟩:=zhf (xs:=xs) r0 r1
  have S3:zaP (Qal) (zcE fx p c H3):=by rw[← o];exact s3
  refine⟨_,SqT.of (zbC _ _ _ _ _ hl3),x,ex,p,c,fx,_,x,k,d',rfl,P3,by omega,(gx x mx).same S3,trivial,k1,by omega,λv' u' H4 s4 P4 u4 g4=>?_⟩
  refine(QbJ)
  obtain⟨s5,h5,P5⟩:=P4.put nb (.tup [v'])
  generalize L2.upd H4 b (.tup [v'])=H5 at s5 h5 P5 ⊢
  refine znf P5 (s5 _ _ (s4 _ _ h3)) h5 (by simp;omega) λe H6 s6 P6 h6=>?_
  have hl6:=s6 _ _ (s5 _ _ (s4 _ _ hl3))
  refine zni P6 hl6 (by rw[show((j:Int)+1)=((j+1:Nat):Int) by omega,HT.sIx_nat];omega) λf H7 s7 P7 h7=>?_
  rw[c2] at h7
  refine znf P7 (s7 _ _ h6) h7 (by simp;omega) λe2 H8 s8 P8 h8=>?_
  have S48:=s5.trans (s6.trans (s7.trans s8))
  have S8:=S3.trans (s4.trans S48)
  refine q _ _ _ S8 P8 (Qd) (.tup h8 (by simp;omega) λy hy=>?_)
  rcases List.mem_append.mp hy with hy | hy
  ·rcases List.mem_append.mp hy with hy | hy
   ·exact((gx y (ψO1 hy)).same S8).mono (Qd) (Qd)
   ·have:y=v':=by simpa using hy
    subst this
    exact g4.same S48
  ·exact((gx y (ψN1 hy)).same S8).mono (Qd) (Qd)
 ·rintro _ H2' ⟨e,w8,rfl⟩
  subst e
  have S2:zaP (Qal) (zcE fx p c H2'):=zhN o
  have c1:ziW xs (some 1) none=xs.drop 1:=zph xs 1
  simp_all only [zbE,zbD,zac]
  refine zni P2 hl2 (by rw[show(1:Int)=((1:Nat):Int) from rfl,HT.sIx_nat];omega) λa H3 s3 P3 h3=>?_
  rw[c1] at h3
  have hl3:=s3 _ _ hl2
  refine(QbJ)
  obtain⟨s4,h4,P4⟩:=P3.put nb (.tup [V.int 1])
  generalize L2.upd H3 b (.tup [V.int 1])=H4 at s4 h4 P4 ⊢
  have hl4:=s4 _ _ hl3
  refine znf P4 hl4 h4 (by simp;omega) λe H5 s5 P5 h5=>?_
  have hl5:=s5 _ _ hl4
  refine⟨_,.inr (SqT.of (zbC _ _ _ _ _ hl5)),λf nf=>?_⟩
  obtain⟨s6,h6,P6⟩:=P5.put nf (QbW)
  generalize L2.upd H5 f (.lst xs)=H6 at s6 h6 P6 ⊢
  refine⟨by decide,λm nm=>?_⟩
  obtain⟨s7,h7,P7⟩:=P6.put nm (.lst [.ref a,.ref e,.ref f])
  obtain⟨v',ev,mv⟩:=zhf (xs:=[.ref a,.ref e,.ref f]) (r:=w - 9) (Qd) (by show w - 9<3;omega)
  have S57:=s6.trans s7
  have S37:=s4.trans (s5.trans S57)
  have S7:=S2.trans (s3.trans S37)
  have gx':∀x∈xs,Gd (zcE fx p c (L2.upd H6 m (.lst [.ref a,.ref e,.ref f]))) (k+1) (d'+1) x:=λx hx=>((gx x hx).same S7).mono (Qd) (Qd)
  refine⟨_,SqL.of (zbC _ _ _ _ _ h7),v',ev,q v' _ _ S7 P7 (Qd) ?_⟩
  simp only[ψv,ψp,or_false] at mv
  rcases mv with rfl | rfl | rfl
  ·exact .tup (S37 _ _ h3) (by simp;omega) λx hx=>gx' x (ψN1 hx)
  ·refine .tup (S57 _ _ h5) (by simp;omega) λx hx=>?_
   rcases List.mem_append.mp hx with hx | hx
   ·exact gx' x hx
   ·have:x=.int 1:=by simpa using hx
    subst this
    exact .small (Qm)
  ·exact .lst (s7 _ _ h6) (Qd) gx'
def zes(K:ψa):TS :=
 (zb2 (tOp (zf2 K) (zhK (zab (tC .non) (zab (Qq) (zab (zf6 zas) (zab (zhK zas) zas))))) (zaG zcy [] E0 (zab (zac 0) (zab (tC (.int 4)) zas)))))
def zdc(K:ψa):=eqT (zes.eq_1 K)
def zew(K:ψa):TS :=
 (zbf (ze2 (zd2 (tB (zaG zda [] E0 (QV))) (zb2 (zaG zs1 [] E0 (Qy))) zb7))
 (zes K))
def zc7(K:ψa):=eqT (zew.eq_1 K)
def zfJ(K:ψa)(nRec:Nat):TS :=
 (zd2 (zyX (tB (tCB (zg2 K) (zab (zac 1) (zab (tC (.ty "tuple")) zas)))) (zcp (tOp (rNeU K) (zac 1) (zf6 zas)))) (zb2 (zaG (znW nRec) [] E0 (Qy))) zb7)
def zc8(K:ψa)(nRec:Nat):=eqT (zfJ.eq_1 K nRec)
def zfX(K:ψa)(nRec:Nat):TS :=
 (zd2 (zyX (tB (tCB (zg2 K) (zab (zac 1) (zab (tC (.ty "list")) zas)))) (zcp (tOp (rNeE K) (zac 1) (zhK zas)))) (zb2 (zaG (zn8 nRec) [] E0 (Qy))) zb7)
def zc6(K:ψa)(nRec:Nat):=eqT (zfX.eq_1 K nRec)
def zhq(K:ψa)(nRec:Nat):TS :=
 (zbf (ze2 (zfX K nRec))
 (zbf (ze2 (zfJ K nRec))
 (zew K)))
theorem zr6{D:zjo}{p c:Addr}{fx:Addr×HO}{u:Int}{v:V}{k d:Nat}(P:zhY fx H p c u)(u1:u<50000)(q:∀(v':V) (u':Int) (H':Hp),zaP (Qal) (Qax)→zhY fx H' p c u'→u'≤u+2→Gd (Qax) (k+1) (d+1) v'→D.rt v' H'):zes K D [some (Qbn),some v] H:=by
 unfold zes
 simp_all only [zdc,zc7,zc8,zc6,zac]
 refine⟨by decide,λa na=>?_⟩
 obtain⟨s1,h1,P1⟩:=P.put na (.tup [])
 generalize L2.upd H a (.tup [])=H1 at s1 h1 P1 ⊢
 refine(QbJ)
 obtain⟨s2,h2,P2⟩:=P1.put nb (Qcb)
 generalize L2.upd H1 b (.lst [])=H2 at s2 h2 P2 ⊢
 refine⟨by decide,λe ne=>?_⟩
 obtain⟨s3,h3,P3⟩:=P2.put ne (.lst [V.non,V.int 0,V.ref a,V.ref b])
 generalize L2.upd H2 e (.lst [V.non,V.int 0,V.ref a,V.ref b])=H3 at s3 h3 P3 ⊢
 refine⟨p,c,u,4,rfl,P3.1,by omega,by decide,by decide,λr H4 r0 r1 o4 P4=>?_⟩
 have P4:=P3.draw o4 P4
 have o4:=zhz (f:=fx) o4
 have s4:zaP (zcE fx p c H3) (zcE fx p c H4):=zhN o4
 obtain⟨v',ev,mv⟩:=zhf (xs:=[V.non,V.int 0,V.ref a,V.ref b]) r0 (by show r<4;omega)
 refine⟨_,r,rfl,SqL.of (zbC _ _ _ _ _ (s4 _ _ h3)),v',ev,q v' _ _ (s1.trans (s2.trans (s3.trans s4))) P4 (Qd) ?_⟩
 simp only[ψv,ψp,or_false] at mv
 rcases mv with rfl | rfl | rfl | rfl
 ·exact .non
 ·exact .small (Qm)
 ·exact .tup (s4 _ _ (s3 _ _ (s2 _ _ h1))) (ψh1 _) λx hx=>by cases hx
 ·exact .lst (s4 _ _ (s3 _ _ h2)) (ψh1 _) λx hx=>by cases hx
theorem znw{fx:Addr×HO}{p c:Addr}{H:Hp}:zaP (Qal) H:=zbC _ _ _
theorem zmu{n:Nat}{p c:Addr}{fx:Addr×HO}{u:Int}{v:V}{k d:Nat}(P:zhY fx H p c u)(u1:u+2*d<50000)(g:Gd (Qal) k d v)(k1:k≤1)(dn:d≤n)(q:∀(v':V) (u':Int) (H':Hp),zaP (Qal) (Qax)→zhY fx H' p c u'→u'≤u+2*d+2→Gd (Qax) (k+1) (d+1) v'→Q v' H') :
  zhq K n { nx:=λ_ H'=>Q .non H',rt:=Q } (L2.start (QR) [.ref p,v]) H:=by
 unfold zhq
 obtain⟨T,a,b,e⟩:=id g
 refine zik (λσ H'=>zaP (Qal) (Qax)∧zhY fx H' p c u∧σ=[some (Qbn),some v]) ?_ ?_
 ·unfold zfX
  simp_all only [zdc,zc7,zc8,zc6,zac]
  refine zkR (a.same znw) (QU)
  rcases zmd a with ⟨ts,l,xs,rfl,rfl,hl,hx⟩ | hn
  ·refine zbj (λ_=>⟨by decide,λz nz=>?_⟩) (Qv)
   obtain⟨s1,h1,P1⟩:=P.put nz (Qcb)
   generalize L2.upd H z (.lst [])=H1 at s1 h1 P1 ⊢
   refine⟨_,rfl,_,SqL.of (zbC _ _ _ _ _ (s1 _ _ hl)),SqL.of (zbC _ _ _ _ _ h1),?_⟩
   refine zbj (Qcz) (λ_=>⟨s1,P1⟩)
   exact⟨p,c,fx,u,_,k,d,rfl,P1,u1,g.same s1,⟨l,xs,rfl,s1 _ _ hl,List.length_pos_iff.mpr λw=>by rw[w] at z;cases z⟩,k1,dn,λv' u' H' s' P' hu g'=>q v' u' H' (s1.trans s') P' hu g'⟩
  ·rw[hn]
   exact zbj (Qj) (λ_=>⟨.refl _,P⟩)
 rintro _ H1 ⟨s1,P1,rfl⟩
 have a1:=a.same s1
 have g1:=g.same s1
 refine zik (λσ H'=>zaP (Qal) (Qax)∧zhY fx H' p c u∧σ=[some (Qbn),some v]) ?_ ?_
 ·unfold zfJ
  simp_all only [zdc,zc7,zc8,zc6,zac]
  refine zdg (a1.same znw) (QU)
  rcases zjJ a1 with ⟨ts,l,xs,rfl,rfl,hl,hx⟩ | hn
  ·refine zbj (λ_=>⟨by decide,λz nz=>?_⟩) (Qv)
   obtain⟨s2,h2,P2⟩:=P1.put nz (.tup [])
   generalize L2.upd H1 z (.tup [])=H2 at s2 h2 P2 ⊢
   refine⟨_,rfl,_,SqT.of (zbC _ _ _ _ _ (s2 _ _ hl)),SqT.of (zbC _ _ _ _ _ h2),?_⟩
   refine zbj (Qcz) (λ_=>⟨s1.trans s2,P2⟩)
   exact⟨p,c,fx,u,_,k,d,rfl,P2,u1,g1.same s2,⟨l,xs,rfl,s2 _ _ hl,List.length_pos_iff.mpr λw=>by rw[w] at z;cases z⟩,k1,dn,λv' u' H' s' P' hu g'=>q v' u' H' (s1.trans (s2.trans s')) P' hu g'⟩
  ·rw[hn]
   exact zbj (Qj) (λ_=>⟨s1,P1⟩)
 rintro _ H2 ⟨s2,P2,rfl⟩
 have g2:=g.same s2
 show zew K _ _ _
 unfold zew
 refine zik (λσ H'=>H'=H2∧σ=[some (Qbn),some v]) ?_ ?_
 ·simp_all only [zdc,zc7,zc8,zc6,zac]
  refine⟨v,rfl,((a.same s2).same znw).tg,_,rfl,?_⟩
  cases w:isI v with
  | false=>exact zbj (Qj) (λ_=>rfl)
  | true =>
   refine zbj (Qao) (Qv)
   have gc:=g2.c
   cases gc with
   | @int d i hi=>exact⟨p,c,fx,u,_,k,0,rfl,P2,by omega,.int hi,rfl,k1,ψh _,λv' u' H' s' P' hu g'=>q v' u' H' (s2.trans s') P' (Qd) (g'.mono (ψh _) (Qd))⟩
   | _=>cases w
 rintro _ H2' ⟨e2,rfl⟩
 subst e2
 exact zr6 P2 (Qd) λv' u' H' s' P' hu g'=>q v' u' H' (s2.trans s') P' (Qd) g'
theorem zlM{P:Program}{w:World}{K:ψa}{mg:Str→Option Value}{base:Heap}{CX:CXT}{k:Nat}{f:Addr}{fd:FuncData}{ps:List Str}:zcr P w K mg base CX k f fd ps znP :=
 ⟨λ_ _ _ _ h=>h.elim,λ_ _ _ _ _ _ _ _ _ _ _ _ _ h=>h.elim⟩
theorem zdQ:zaJ (Qaz) (Qaf) (zai zec):=(Qa)
theorem zdG:zaJ (Qaz) (Qaf) (zai zdL):=(Qa)
theorem zmq:zaJ (QR) (QR) (zai zhI):=(Qa)
theorem zse(T:Txt K mg a){n m:Nat}(hm:2≤m)(GH:zcr P w K mg base CX0 m a.fH a.dH (QR) (zln n)):zcr P w K mg base CX0 (m+1) a.fao a.dao (Qaf) (zn8 n):=by
 have Gh:=zcq (P:=P) (w:=w) (base:=base) T
 refine T.Fao.ok zdQ (Qk) (Qe)
 all_goals obtain⟨p,c,fx,u,v,k,d,rfl,P',u1,g,ok,k1,dn,q⟩:=h
 ·rfl
 exact⟨zek K n,(zaf (zaN (i:=2) zdQ.nd rfl (Qg) (zag Gh (QbN) rfl T.mh T.Fh.kp T.bh .nil zaH (zaa (pv 0) (zaa (QbZ) zad))))
 (zaf (zaN (i:=3) zdQ.nd rfl (Qg) (QaK))
 (zaf (zbz (zb1 (zbi zj6 (pv 3) zae (zbd _)) (zah (zaE (zao zkO (zao zkO (zdZ zhx (pv 1) zfg (zeG (pv 2))) (zcl (zaa (zag GH (QbN) rfl T.mH T.FH.kp T.bH .nil zaH (zaa (pv 0) (zaa (zaI zbm (pv 1) (pv 2) (Qp)) zad))) zad))) (zdZ zhx (pv 1) (zeG (zao zco (pv 2) zae)) zfg)))) zaY))
 (zah (zaE (zaI zbm (zcl (zaa (zdZ zhx (pv 1) (zeG zae) zfg) (zaa (zao zkO (pv 1) (zdZ zhx (pv 1) zfg (zeG zae))) (zaa (zyP (pv 1) (zeG (ztP zpa zae))) (zaa (zd1 zhJ rfl T.z_tuple zcn (Qw)) zad))))) (zao zcF (pv 3) zae) (Qp))))))),zit P' u1 g ok k1 dn q⟩
theorem zqE(T:Txt K mg a){n m:Nat}(hm:2≤m)(GH:zcr P w K mg base CX0 m a.fH a.dH (QR) (zln n)):zcr P w K mg base CX0 (m+1) a.faq a.daq (Qaf) (znW n):=by
 have Gh:=zcq (P:=P) (w:=w) (base:=base) T
 refine T.Faq.ok zdG (Qk) (Qe)
 all_goals obtain⟨p,c,fx,u,v,k,d,rfl,P',u1,g,ok,k1,dn,q⟩:=h
 ·rfl
 exact⟨zdP K n,(zaf (zaN (i:=2) zdG.nd rfl (Qg) (zag Gh (QbN) rfl T.mh T.Fh.kp T.bh .nil zaH (zaa (pv 0) (zaa (QbZ) zad))))
 (zaf (zaN (i:=3) zdG.nd rfl (Qg) (QaK))
 (zaf (zbz (zb1 (zbi zj6 (pv 3) zae (zbd _)) (zah (zaE (zao zoa (zao zoa (zdZ zqZ (pv 1) zfg (zeG (pv 2))) (zbI (zaa (zag GH (QbN) rfl T.mH T.FH.kp T.bH .nil zaH (zaa (pv 0) (zaa (zaI zar (pv 1) (pv 2) (Qp)) zad))) zad))) (zdZ zqZ (pv 1) (zeG (zao zco (pv 2) zae)) zfg)))) zaY))
 (zah (zaE (zaI zbm (zcl (zaa (zdZ zqZ (pv 1) (zeG zae) zfg) (zaa (zao zoa (pv 1) (zbI (Qam))) (zaa (QaR) zad)))) (zao zcF (pv 3) zae) (Qp))))))),zhQ P' u1 g ok k1 dn q⟩
theorem zyN(T:Txt K mg a){n m:Nat}(hm:2≤m)(Gao:zcr P w K mg base CX0 m a.fao a.dao (Qaf) (zn8 n))(Gaq:zcr P w K mg base CX0 m a.faq a.daq (Qaf) (znW n)):zcr P w K mg base CX0 (m+1) a.fH a.dH (QR) (zmL n):=by
 have Gh:=zcq (P:=P) (w:=w) (base:=base) T
 have GJ:=zeC (P:=P) (w:=w) (base:=base) T
 have GaX:=zhs (P:=P) (w:=w) (base:=base) T
 refine T.FH.ok zmq (Qk) (Qe)
 all_goals obtain⟨p,c,fx,u,v,k,d,rfl,P',u1,g,ok,k1,dn,q⟩:=h
 ·rfl
 exact⟨zhq K n,(zaf (zbz (zb1 (PW.pt (zr8 (zbu (zaq za0 rfl T.z_isinstance ψi (zaa (pv 1) (Qcl)))) (znn (zbi (zyV hr.units) (pv 1) (zcl zad) (zbd _))))) (zah (zaE (zag Gao (QbN) rfl T.mao T.Fao.kp T.bao .nil zaH (QW)))) zaY))
 (zaf (zbz (zb1 (PW.pt (zr8 (zbu (zaq za0 rfl T.z_isinstance ψi (zaa (pv 1) (QaW)))) (znn (zbi (zAj hr.units0) (pv 1) (zbI zad) (zbd _))))) (zah (zaE (zag Gaq (QbN) rfl T.maq T.Faq.kp T.baq .nil zaH (QW)))) zaY))
 (zaf (zbz (zb1 (zbu (zag GJ (QbN) rfl T.mJ T.FJ.kp T.bJ .nil zaH (Qw))) (zah (zaE (zag GaX (QbN) rfl T.maX T.FaX.kp T.baX .nil zaH (QW)))) zaY))
 (zah (zaE (zaI zbm (zcl (zaa zkq (zaa zae (zaa (zbI zad) (zaa (zcl zad) zad))))) (QaK) (Qp))))))),zmu P' u1 g k1 dn q⟩
theorem zmt(T:Txt K mg a):zcr P w K mg base CX0 12 a.fH a.dH (QR) (zmL 4):=by
 have b0:=zyN T (P:=P) (w:=w) (base:=base) (Qm) (zse T (n:=0) (m:=2) (Qm) zlM) (zqE T (n:=0) (m:=2) (Qm) zlM)
 have b1:=zyN T (Qm) (zse T (n:=1) (Qm) b0) (zqE T (n:=1) (Qm) b0)
 have b2:=zyN T (Qm) (zse T (n:=2) (Qm) b1) (zqE T (n:=2) (Qm) b1)
 have b3:=zyN T (Qm) (zse T (n:=3) (Qm) b2) (zqE T (n:=3) (Qm) b2)
 exact zyN T (Qm) (zse T (n:=4) (Qm) b3) (zqE T (n:=4) (Qm) b3)
def Nw(H H':Hp):Hp:=λa=>match H a with | none=>H' a | some _=>none
theorem zpP{H H':Hp}{a:Addr}{o:HO}(h:H a=none)(h':H' a=some o):Nw H H' a=some o:=by
 unfold Nw
 rw[h]
 exact h'
theorem zrU{H H':Hp}{a:Addr}{o:HO}(h:Nw H H' a=some o):H a=none∧H' a=some o:=by
 unfold Nw at h
 cases e:H a with
 | none =>
  rw[e] at h
  exact⟨rfl,h⟩
 | some x =>
  rw[e] at h
  cases h
theorem zw9{H H':Hp}:zaP (Nw H H') H':=λ_ _ h=>(zrU h).2
def zmO(n:Nat):Sp:=λvs H Q _=>∃(x:V) (t:Tr),vs=[x]∧Sh H t x∧Dp n t∧Szd 9 t∧∀(y:V) (H':Hp),zaP H H'→Sh (Nw H H') t y→Q y H'
def zn3:Nat→Sp
 | 0=>znP
 | n+1=>zmO n
def NwD(H:Hp)(D:Addr)(H':Hp):Hp:=Nw (upd H D (Qcb)) H'
theorem zwX{H H' H2:Hp}{D:Addr}{o:HO}(s:zaP H' H2):zaP (NwD H D H') (NwD H D (upd H2 D o)):=λa x h=>by
 obtain⟨h1,h2⟩:=zrU h
 have n:a≠D:=λe=>by
  subst e
  rw[zam] at h1
  cases h1
 exact zpP h1 (by rw[zaS n];exact s _ _ h2)
theorem zx6{H H' H2:Hp}{D:Addr}{o o':HO}(s0:zaP H H')(hD:H' D=some o'):zaP (Nw H' H2) (NwD H D (upd H2 D o)):=λa x h=>by
 obtain⟨h1,h2⟩:=zrU h
 have n:a≠D:=λe=>by
  subst e
  rw[hD] at h1
  cases h1
 refine zpP ?_ (by rw[zaS n];exact h2)
 rw[zaS n]
 cases e:H a with
 | none=>rfl
 | some y=>exact absurd (s0 _ _ e) (by rw[h1];exact nofun)
theorem zqv{H H':Hp}{D:Addr}:zaP (NwD H D H') (Nw H H'):=λa x h=>by
 obtain⟨h1,h2⟩:=zrU h
 have n:a≠D:=λe=>by
  subst e
  rw[zam] at h1
  cases h1
 rw[zaS n] at h1
 exact zpP h1 h2
theorem zzs{H H':Hp}{l:Addr}{o:HO}(hl:H' l=none):zaP (Nw H H') (Nw H (upd H' l o)):=λa x h=>by
 obtain⟨h1,h2⟩:=zrU h
 have n:a≠l:=λe=>by
  subst e
  rw[hl] at h2
  cases h2
 exact zpP h1 (by rw[zaS n];exact h2)
theorem zuf{a:Addr}{xs:List V}{g:TG}{tt:TT}{te:TE}{σ:St}{D:Addr}(Pv:Nat→List V→St→Hp→Prop)(h0:Pv 0 [] σ (upd H D (Qcb)))(hl:∀i ys σ H,i≤xs.length→Pv i ys σ H→SqT K H a xs)
  (hs:∀i x ys σ H,xs[i]?=some x→H D=some (.lst ys)→Pv i ys σ H→g x σ H λσ2 H2=>tt σ2 H2 λb H3=>if b=true then te σ2 H3 λy H4=>zcD (.ref D) [y] H4 λ_ H5=>∃ys,H5 D=some (.lst ys)∧Pv (i+1) ys σ2 H5 else ∃ys,H3 D=some (.lst ys)∧Pv (i+1) ys σ2 H3)
  (hd:∀ys σ H,H D=some (.lst ys)→Pv xs.length ys σ H→Q (.ref D) H):zfz (Itt K a) g tt te D Q σ (upd H D (Qcb)):=by
 refine⟨λi m σ H=>m=xs.length - i∧i≤xs.length∧∃ys,H D=some (.lst ys)∧Pv i ys σ H,⟨_,rfl,ψh1 _,[],zam,h0⟩,?_⟩
 rintro i m σ H ⟨rfl,hi,ys,hD,pv⟩
 have q:=hl i ys σ H hi pv
 by_cases hlt:i<xs.length
 ·refine .inr ⟨⟨xs,xs[i],q,by simp[hlt]⟩,λσ H=>∃ys,H D=some (.lst ys)∧Pv (i+1) ys σ H,λσ' H' p'=>⟨_,by omega,rfl,hlt,p'⟩,λx H' yl=>?_⟩
  obtain⟨e,yl⟩:=yl
  subst e
  exact hs i x ys σ _ (yl xs q) hD pv
 ·have e:i=xs.length:=by omega
  subst e
  exact .inl ⟨⟨xs,q,ψh _⟩,hd ys σ H hD pv⟩
def CpI(H:Hp)(D:Addr)(ts:List Tr)(i:Nat)(ys:List V)(σ:St)(H':Hp):Prop:=zaP H H'∧ys.length=i∧(∀(j:Nat) y t,ys[j]?=some y→ts[j]?=some t→Sh (NwD H D H') t y)∧∃x,σ=[x]
theorem CpI.zero{D:Addr}{ts:List Tr}{x:Option V}(hD:H D=none):CpI H D ts 0 [] [x] (upd H D (Qcb)):=⟨zat hD _,rfl,λj y t e=>by simp at e,_,rfl⟩
theorem CpI.put{D:Addr}{ts:List Tr}{i:Nat}{ys:List V}{σ:St}{H' H2:Hp}{x:Option V}{y:V}{t:Tr}(hD:H D=none)(I:CpI H D ts i ys σ H')(h':H' D=some (.lst ys))(s:zaP H' H2)(ht:ts[i]?=some t)(h:Sh (Nw H' H2) t y):CpI H D ts (i+1) (ys++[y]) [x] (upd H2 D (.lst (ys++[y]))):=by
 obtain⟨s0,rfl,a,_⟩:=I
 refine⟨(s0.trans s).put hD,by simp,λj z u e1 e2=>?_,_,rfl⟩
 by_cases c:j<ys.length
 ·rw[ψi1 c] at e1
  exact(a j z u e1 e2).same (zwX s)
 ·rw[ψe1 (Qd)] at e1
  have k:j - ys.length=0:=by
   have:=(Qbh).1
   simp at this
   omega
  have k2:j=ys.length:=by omega
  subst k2
  rw[ht] at e2
  cases e2
  rw[Nat.sub_self] at e1
  cases e1
  exact h.same (zx6 s0 h')
def zhM(K:ψa)(nRec:Nat):TS :=
 (zd2 (QO) (zb2 (tCB (λxs H Q=>∃p ys,xs=[.ref p]∧((SqL K H p ys∧∀l,H l=none→Q (Qa1) (upd H l (.tup ys)))∨(SqT K H p ys∧Q (Qbn) H))) (zab (zcu (iTup K (zac 0)) (zaj 0) zbe (zaG (zn3 nRec) [] E0 (QF)) [none]) zas))) zb7)
def zbc(K:ψa)(nRec:Nat):=eqT (zhM.eq_1 K nRec)
def zig(K:ψa)(nRec:Nat):TS :=
 (zd2 (tB (QS)) (zb2 (zcu (Qaw) (zaj 0) zbe (zaG (zn3 nRec) [] E0 (QF)) [none])) zb7)
def za6(K:ψa)(nRec:Nat):=eqT (zig.eq_1 K nRec)
def zeH(K:ψa)(nRec:Nat):TS :=
 (zbf (ze2 (zig K nRec))
 (zbf (ze2 (zhM K nRec))
 (zb2 (zac 0))))
theorem zmF{n:Nat}{x:V}{t:Tr}(h1:Sh H t x)(dp:Dp n t)(sz:Szd 9 t)(q:∀(y:V) (H':Hp),zaP H H'→Sh (Nw H H') t y→Q y H') :
  zeH K n { nx:=λ_ H'=>Q .non H',rt:=Q } (L2.start (Qav) [x]) H:=by
 unfold zeH
 have flat:zwO t=false→zyy t=false→Sh (Nw H H) t x→zeH K n { nx:=λ_ H'=>Q .non H',rt:=Q } (L2.start (Qav) [x]) H:=λa b c=>by
  unfold zeH
  simp_all only [zbc,za6,zac]
  refine⟨λσ H'=>H'=H∧σ=[some x],?_,?_⟩
  ·simp_all only [zbc,za6,zac]
   refine zkR h1 (QU)
   rw[a]
   exact zbj (Qj) (λ_=>rfl)
  rintro _ H1 ⟨e,rfl⟩
  subst e
  simp_all only [zbc,za6,zac]
  refine⟨λσ H'=>H'=H1∧σ=[some x],?_,?_⟩
  ·simp_all only [zbc,za6,zac]
   refine zdg h1 (QU)
   rw[b]
   exact zbj (Qj) (λ_=>rfl)
  rintro _ H2 ⟨e,rfl⟩
  subst e
  simp_all only [zbc,za6,zac]
  exact q _ _ (Qau) c
 cases h1 with
 | int i=>exact flat rfl rfl (.int i)
 | bl b=>exact flat rfl rfl (.bl b)
 | str b=>exact flat rfl rfl (.str b)
 | non=>exact flat rfl rfl .non
 | @lst p xs ts h l e =>
  have b:=sz.l
  obtain⟨n',rfl⟩:∃n',n=n'+1:=by cases dp;exact⟨_,rfl⟩
  have dp':∀t∈ts,Dp n' t:=by cases dp;assumption
  simp_all only [zbc,za6,zac]
  refine⟨λσ H'=>False,?_,λ_ _ z=>z.elim⟩
  simp_all only [zbc,za6,zac]
  refine zcv h ⟨true,rfl,zbj (Qao) (Qv)⟩
  refine⟨⟨_,SqL.of h⟩,λD hD=>?_⟩
  refine zdR (K:=K) (xs:=xs) (CpI H D ts) (.zero hD) ?_ ?_ ?_
  ·rintro i ys σ H' _ ⟨s,_⟩
   exact SqL.of (s _ _ h)
  ·rintro i x ys σ H' hx hD' I
   obtain⟨s,ly,a,u,rfl⟩:=id I
   have i1:=(Qbf).1
   have ht:ts[i]?=some (ts[i]'(by omega)):=ψc (Qd)
   simp_all only [zbc,za6,zac]
   refine⟨x,_,rfl,(e i x _ hx ht).same s,dp' _ (zan ht),sz.m _ (zan ht),λy H2 s2 h2=>?_⟩
   exact⟨_,s2 _ _ hD',zbR (Qd),_,zam,I.put hD hD' s2 ht h2⟩
  ·rintro ys σ H' hD' ⟨s,ly,a,u,rfl⟩
   refine q _ _ s (.lst (zpP hD hD') (Qd) λj y t e1 e2=>?_)
   exact(a j y t e1 e2).same zqv
 | @tup p xs ts h l e =>
  have b:=sz.tl
  obtain⟨n',rfl⟩:∃n',n=n'+1:=by cases dp;exact⟨_,rfl⟩
  have dp':∀t∈ts,Dp n' t:=by cases dp;assumption
  simp_all only [zbc,za6,zac]
  refine⟨λσ H'=>H'=H∧σ=[some (Qbn)],?_,?_⟩
  ·simp_all only [zbc,za6,zac]
   refine zbU (.tup h) (zfh K) ⟨false,rfl,zbj (Qj) (Qao)⟩
   first | rfl | trivial
  rintro σ H1 ⟨rfl,rfl⟩
  simp_all only [zbc,za6,zac]
  refine⟨λσ H'=>False,?_,λ_ _ z=>z.elim⟩
  simp_all only [zbc,za6,zac]
  refine zhB h ⟨true,rfl,zbj (Qao) (Qv)⟩
  refine⟨⟨_,SqT.of h⟩,λD hD=>?_⟩
  refine zuf (K:=K) (xs:=xs) (CpI H1 D ts) (.zero hD) ?_ ?_ ?_
  ·rintro i ys σ H' _ ⟨s,_⟩
   exact SqT.of (s _ _ h)
  ·rintro i x ys σ H' hx hD' I
   obtain⟨s,ly,a,u,rfl⟩:=id I
   have i1:=(Qbf).1
   have ht:ts[i]?=some (ts[i]'(by omega)):=ψc (Qd)
   simp_all only [zbc,za6,zac]
   refine⟨x,_,rfl,(e i x _ hx ht).same s,dp' _ (zan ht),sz.tm _ (zan ht),λy H2 s2 h2=>?_⟩
   exact⟨_,s2 _ _ hD',zbR (Qd),_,zam,I.put hD hD' s2 ht h2⟩
  ·rintro ys σ H' hD' ⟨s,ly,a,u,rfl⟩
   refine⟨D,rfl,_,.inl ⟨SqL.of hD',λr hr=>?_⟩⟩
   have hr0:H1 r=none:=by
    cases e:H1 r with
    | none=>rfl
    | some y=>exact absurd (s _ _ e) (by rw[hr];exact nofun)
   refine q _ _ (s.trans (zat hr _)) (.tup (zpP hr0 zam) (Qd) λj y t e1 e2=>?_)
   exact((a j y t e1 e2).same zqv).same (zzs hr)
theorem zmM:zaJ (Qav) (Qav) (zai zeP):=(Qa)
theorem znc(T:Txt K mg a){n m:Nat}(GO:zcr P w K mg base CX0 m a.fO a.dO (Qav) (zn3 n)):zcr P w K mg base CX0 (m+1) a.fO a.dO (Qav) (zmO n):=by
 refine T.FO.ok zmM (Qk) (Qe)
 all_goals obtain⟨x,t,rfl,h1,dp,sz,q⟩:=h
 ·rfl
 exact⟨zeH K n,(zaf (zbz (zb1 (zbu (QG)) (zah (zaE (zcc (sc:=zai zeP) (N:=["_law_thing"]) (Nc:=["_law_one"]) (cap:=[none]) rfl rfl rfl (Qr) (Qbl) (λ_ _ _ _=>(zak (i:=0) (show ψk (["_law_one"]:List Str) from by decide) rfl (Qg))) (QH) (λ_ _ _ _=>(zag GO (QbN) rfl T.mO T.FO.kp T.bO .nil zaH (Qaj)))))) zaY))
 (zaf (zbz (zb1 (zbu (zaq za0 rfl T.z_isinstance ψi (zaa (pv 0) (QaW)))) (zah (zaE (zd1 zhJ rfl T.z_tuple zcn (zaa (zcc (sc:=zai zeP) (N:=["_law_thing"]) (Nc:=["_law_one"]) (cap:=[none]) rfl rfl rfl (Qr) (zAm (pv 0)) (λ_ _ _ _=>(zak (i:=0) (show ψk (["_law_one"]:List Str) from by decide) rfl (Qg))) (QH) (λ_ _ _ _=>(zag GO (QbN) rfl T.mO T.FO.kp T.bO .nil zaH (Qaj)))) zad)))) zaY))
 (zah (zaE (pv 0))))),zmF h1 dp sz q⟩
theorem zmm(T:Txt K mg a):zcr P w K mg base CX0 7 a.fO a.dO (Qav) (zmO 6) :=
 znc T (znc T (znc T (znc T (znc T (znc T (znc T (n:=0) (m:=0) zlM))))))
theorem zij{H:Hp}{p c b:Addr}{t:Int}{xs:List V}(P:Pur H p c t)(hb:H b=some (QcT)):Off p c H b=some (.tup xs):=by
 obtain⟨ns,hc,_⟩:=P.hc
 rw[zhl (zqu hb P.hp (Qa0)) (zqu hb hc (Qa0))]
 exact hb
def zs8:Sp:=λvs H Q _=>∃(p c v:Addr) (u:Int) (W:Rat),vs=[.ref p,.ref v]∧Pur H p c u∧u<50000∧Off p c H v=some (Q9)∧Bq 1300 W∧∀(r:Addr) (W':Rat) (u':Int) (H':Hp),zaP (QaJ) (Qag)→Pur H' p c u'→u'≤u+4→Off p c H' r=some (.tup (fr W'))→Bq 2000 W'→Q (QT) H'
def Pr2(H:Hp)(x:V):Prop:=∃(t:Addr) (a b:Int),x=.ref t∧H t=some (Qa9)∧0<b∧Bd 1700 a∧Bd 1700 b
theorem Pr2.same{H H':Hp}{x:V}(h:Pr2 H x)(s:zaP H H'):Pr2 H' x:=by
 obtain⟨t,a,b,e,h1,h2⟩:=h
 exact⟨t,a,b,e,s _ _ h1,h2⟩
theorem Pr2.new{p c t:Addr}{u a b:Int}(P:Pur H p c u)(nt:H t=none)(b0:0<b)(ha:Bd 1700 a)(hb:Bd 1700 b):zaP (QaJ) (Off p c (L2.upd H t (Qa9)))∧Pr2 (Off p c (L2.upd H t (Qa9))) (.ref t)∧Pur (L2.upd H t (Qa9)) p c u:=by
 obtain⟨s,h,P'⟩:=P.put nt (Qa9)
 exact⟨s,⟨t,a,b,rfl,h,b0,ha,hb⟩,P'⟩
def zer(K:ψa):TS :=
 (zbf (zbq (tOp (zf2 K) (zac 5) (zaG zcy [] E0 (zab (zac 0) (zab (tC (.int 8)) zas)))) (zaj 6))
 (zb2 (zaG zr5 [] E0 (zab (tOp (zbH K) (zac 6) (Qq)) (zab (tOp (zbH K) (zac 6) (Qi)) zas)))))
def zb4(K:ψa):=eqT (zer.eq_1 K)
def zcX(K:ψa):TS :=
 (zbf (zkh (tBM K "list" zcD (zac 5) (zab (zf6 (zab (zaG zcy [] E0 (zab (zac 0) (zab (QbH) zas))) (zab (tOp (Qz) (Qi) (zaG zcy [] E0 (zab (zac 0) (zab (QbH) zas)))) zas))) zas)))
 (zer K))
def zb8(K:ψa):=eqT (zcX.eq_1 K)
def zen(K:ψa):TS :=
 (zbf (zbq (tOp zwq (zac 5) (zhK (zab (zf6 (zab (Qq) (Qb3))) (zab (zf6 (zab (Qi) (Qb3))) (zab (zf6 (zab (zac 3) (zab (tOp (Qz) (zac 4) (Qi)) zas))) (zab (zf6 (zab (tOp (QA) (tOp (QA) (Qq) (Qi)) (zac 3)) (QaO))) zas)))))) (zaj 5))
 (zcX K))
def zb5(K:ψa):=eqT (zen.eq_1 K)
def zem(K:ψa):TS :=
 (zbf (zbq (zhK (zab (zf6 (zab (tOp (Qz) (tOp (Qb) (zac 3) (zac 2)) (Qi)) (zab (tOp (Qb) (zac 4) (zac 2)) zas))) (zab (zf6 (zab (tOp (QA) (tOp (Qb) (zac 3) (zac 2)) (Qi)) (zab (tOp (Qb) (zac 4) (zac 2)) zas))) (zab (zf6 (zab (tOp (QA) (tOp (Qb) (tOp (Qb) (zac 3) (zac 2)) (QX)) (Qi)) (zab (tOp (Qb) (tOp (Qb) (zac 4) (zac 2)) (QX)) zas))) zas)))) (zaj 5))
 (zen K))
def zb3(K:ψa):=eqT (zem.eq_1 K)
def zdt(K:ψa):TS :=
 (zbf (zbq (tOp (zf2 K) (zhK (zab (Qi) (zab (tOp (QaD) (tC (.int 10)) (QbH)) (zab (tOp (QaD) (tC (.int 10)) (tC (.int 60))) zas)))) (zaG zcy [] E0 (zab (zac 0) (zab (QbQ) zas)))) (zaj 2))
 (zbf (zbq (zac 1) (zed K 2 (QcS)))
 (zem K)))
theorem zhy{p c v:Addr}{u:Int}{W:Rat}(P:Pur H p c u)(u1:u<50000)(hv:Off p c H v=some (Q9))(bW:Bq 1300 W)(q:∀(r:Addr) (W':Rat) (u':Int) (H':Hp),zaP (QaJ) (Qag)→Pur H' p c u'→u'≤u+4→Off p c H' r=some (.tup (fr W'))→Bq 2000 W'→Q (QT) H') :
  zdt K { nx:=λ_ H'=>Q .non H',rt:=Q } (L2.start ["_law_purse_here","_law_worth","_law_fine","_law_top","_law_bottom","_law_some","_law_found"] [.ref p,.ref v]) H:=by
 have dW:=zcY W
 unfold zdt
 simp_all only [zac]
 refine⟨(QbC),(QbC),by decide,λa na=>?_⟩
 obtain⟨s1,h1,P1⟩:=P.put na (.lst [V.int 1,V.int 1000000000,V.int 1000000000000000000000000000000000000000000000000000000000000])
 generalize L2.upd H a (.lst [V.int 1,V.int 1000000000,V.int 1000000000000000000000000000000000000000000000000000000000000])=H1 at s1 h1 P1 ⊢
 refine⟨p,c,u,3,rfl,P1,by omega,by decide,by decide,λr H2 r0 r1 o2 P2=>?_⟩
 have s2:=s1.trans (zfT o2)
 have h2:=zfT o2 _ _ h1
 obtain⟨f',ef,mf⟩:=zhf (xs:=[V.int 1,V.int 1000000000,V.int 1000000000000000000000000000000000000000000000000000000000000]) r0 (by show r<3;omega)
 obtain⟨F,rfl,F0,F1⟩:∃F:Int,f'=.int F∧0<F∧F≤1000000000000000000000000000000000000000000000000000000000000:=by
  simp only[ψv,ψp,or_false] at mf
  rcases mf with rfl | rfl | rfl
  ·exact(QbR)
  ·exact(QbR)
  ·exact(QbR)
 have bF:Bd 200 F:=by show F.natAbs<2 ^ 200;omega
 have hv2:=s2 _ _ hv
 have m1:=bW.top.mul bF
 have m2:=bW.bot.mul bF
 have b1:Bd 1 (1:Int):=by show(1:Nat)<2 ^ 1;decide
 have b2:Bd 2 (2:Int):=by show(2:Nat)<2 ^ 2;decide
 have n2:0<(W.den:Int)*F:=ψB1 dW F0
 refine⟨_,r,rfl,SqL.of (zbB _ _ _ _ _ h2),_,ef,_,SqT.of (zbB _ _ _ _ _ hv2),rfl,_,_,rfl,_,_,rfl,rfl,?_⟩
 ((try simp only);first | rw[zb4] | rw[zb8] | rw[zb5] | rw[zb3]);simp_all only [zac]
 have k1:IntMulOk W.num F:=zdb 1300 200 bW.top bF
 have k2:IntMulOk (W.den:Int) F:=zdb 1300 200 bW.bot bF
 refine⟨k1,k2,by decide,λt3 nt3=>?_⟩
 obtain⟨s3,h3,P3⟩:=Pr2.new (a:=W.num*F+1) (b:=(W.den:Int)*F) P2 nt3 n2 ((m1.add (QcK)).mono (Qm)) (m2.mono (Qm))
 generalize L2.upd H2 t3 (.tup [.int (W.num*F+1),.int ((W.den:Int)*F)])=H3 at s3 h3 P3 ⊢
 refine⟨k1,k2,by decide,λt4 nt4=>?_⟩
 obtain⟨s4,h4,P4⟩:=Pr2.new (a:=W.num*F - 1) (b:=(W.den:Int)*F) P3 nt4 n2 ((m1.sub (QcK)).mono (Qm)) (m2.mono (Qm))
 generalize L2.upd H3 t4 (.tup [.int (W.num*F - 1),.int ((W.den:Int)*F)])=H4 at s4 h4 P4 ⊢
 refine⟨k1,zdb 1500 2 m1 b2,k2,zdb 1500 2 m2 b2,by decide,λt5 nt5=>?_⟩
 obtain⟨s5,h5,P5⟩:=Pr2.new (a:=W.num*F*2 - 1) (b:=(W.den:Int)*F*2) P4 nt5 (Qd) (((m1.mul b2).sub (QcK)).mono (Qm)) ((m2.mul b2).mono (Qm))
 generalize L2.upd H4 t5 (.tup [.int (W.num*F*2 - 1),.int ((W.den:Int)*F*2)])=H5 at s5 h5 P5 ⊢
 refine⟨by decide,λl6 nl6=>?_⟩
 obtain⟨s6,h6,P6⟩:=P5.put nl6 (.lst [.ref t3,.ref t4,.ref t5])
 generalize L2.upd H5 l6 (.lst [.ref t3,.ref t4,.ref t5])=H6 at s6 h6 P6 ⊢
 ((try simp only);first | rw[zb4] | rw[zb8] | rw[zb5] | rw[zb3]);simp_all only [zac]
 have z1:Bd 1 (0:Int):=by show(0:Nat)<2 ^ 1;decide
 refine⟨by decide,λt7 nt7=>?_⟩
 obtain⟨s7,h7,P7⟩:=Pr2.new (a:=0) (b:=1) P6 nt7 (Qm) (z1.mono (Qm)) (QcK)
 generalize L2.upd H6 t7 (.tup [.int (0),.int (1)])=H7 at s7 h7 P7 ⊢
 refine⟨by decide,λt8 nt8=>?_⟩
 obtain⟨s8,h8,P8⟩:=Pr2.new (a:=1) (b:=1) P7 nt8 (Qm) (QcK) (QcK)
 generalize L2.upd H7 t8 (.tup [.int (1),.int (1)])=H8 at s8 h8 P8 ⊢
 refine⟨by decide,λt9 nt9=>?_⟩
 obtain⟨s9,h9,P9⟩:=Pr2.new (a:=W.num) (b:=(W.den:Int)+1) P8 nt9 (Qd) (bW.top.mono (Qm)) ((bW.bot.add (QcK)).mono (Qm))
 generalize L2.upd H8 t9 (.tup [.int (W.num),.int ((W.den:Int)+1)])=H9 at s9 h9 P9 ⊢
 refine⟨by decide,λt10 nt10=>?_⟩
 obtain⟨s10,h10,P10⟩:=Pr2.new (a:=-1 - W.num) (b:=(W.den:Int)) P9 nt10 dW (((show Bd 1300 (-1:Int) from b1.mono (Qm)).sub bW.top).mono (Qm)) (bW.bot.mono (Qm))
 generalize L2.upd H9 t10 (.tup [.int (-1 - W.num),.int ((W.den:Int))])=H10 at s10 h10 P10 ⊢
 refine⟨by decide,λl11 nl11=>?_⟩
 obtain⟨s11,h11,P11⟩:=P10.put nl11 (.lst [.ref t7,.ref t8,.ref t9,.ref t10])
 generalize L2.upd H10 l11 (.lst [.ref t7,.ref t8,.ref t9,.ref t10])=H11 at s11 h11 P11 ⊢
 have S610:=s7.trans (s8.trans (s9.trans s10))
 have S611:=S610.trans s11
 refine⟨_,zbB _ _ _ _ _ (S611 _ _ h6),_,zbB _ _ _ _ _ h11,zhP (Qa0),λl nl=>?_⟩
 obtain⟨s12,h12,P12⟩:=P11.put nl (Qa8)
 have S1:zaP (QaJ) (Off p c H11):=s2.trans (s3.trans (s4.trans (s5.trans (s6.trans S611))))
 have hl0:Off p c H l=none:=by
  cases e:Off p c H l with
  | none=>rfl
  | some y=>exact absurd (zbB _ _ _ _ _ (S1 _ _ e)) (by rw[nl];exact nofun)
 have S512:=s6.trans (S611.trans s12)
 have all:∀x∈[V.ref t3,.ref t4,.ref t5,.ref t7,.ref t8,.ref t9,.ref t10],Pr2 (Off p c (L2.upd H11 l (Qa8))) x:=by
  intro x hx
  simp only[ψv,ψp,or_false] at hx
  rcases hx with rfl | rfl | rfl | rfl | rfl | rfl | rfl
  ·exact h3.same (s4.trans (s5.trans S512))
  ·exact h4.same (s5.trans S512)
  ·exact h5.same S512
  ·exact h7.same (s8.trans (s9.trans (s10.trans (s11.trans s12))))
  ·exact h8.same (s9.trans (s10.trans (s11.trans s12)))
  ·exact h9.same (s10.trans (s11.trans s12))
  ·exact h10.same (s11.trans s12)
 have S12:=S1.trans s12
 have nlp:=P11.new nl
 show zcX K _ _ (L2.upd H11 l (Qa8))
 generalize L2.upd H11 l (.lst [.ref t3,.ref t4,.ref t5,.ref t7,.ref t8,.ref t9,.ref t10])=H12 at h12 P12 all S12 ⊢
 have lx:([V.ref t3,.ref t4,.ref t5,.ref t7,.ref t8,.ref t9,.ref t10]:List V).length=7:=rfl
 generalize ([V.ref t3,.ref t4,.ref t5,.ref t7,.ref t8,.ref t9,.ref t10]:List V)=xs at h12 all lx ⊢
 ((try simp only);first | rw[zb4] | rw[zb8] | rw[zb5] | rw[zb3]);simp_all only [zac]
 refine⟨.inl ⟨rfl,_,SqL.of (zbB _ _ _ _ _ h12)⟩,p,c,_,9,rfl,P12,by omega,by decide,by decide,λa1 H13 a10 a11 o13 P13=>?_⟩
 refine⟨p,c,_,9,rfl,P13,by omega,by decide,by decide,λa2 H14 a20 a21 o14 P14=>⟨a2,rfl,by decide,λt15 nt15=>?_⟩⟩
 have s14:zaP (Off p c H12) (Off p c H14):=zfT (o14.trans o13)
 obtain⟨s15,h15,P15⟩:=Pr2.new (a:=a1) (b:=1+a2) P14 nt15 (Qd) (by show a1.natAbs<2 ^ 1700;exact ψg1 (show a1.natAbs<2 ^ 10 by omega) (QaI)) (by show(1+a2).natAbs<2 ^ 1700;exact ψg1 (show(1+a2).natAbs<2 ^ 10 by omega) (QaI))
 generalize L2.upd H14 t15 (.tup [.int a1,.int (1+a2)])=H15 at s15 h15 P15 ⊢
 have S15:=s14.trans s15
 have hl15:=S15 _ _ h12
 refine⟨_,zbB _ _ _ _ _ hl15,zbR (Qd),?_⟩
 have P16:=P15.upd (o:=.lst (xs++[.ref t15])) nlp.1 nlp.2
 have o16:Off p c (L2.upd H15 l (.lst (xs++[.ref t15])))=L2.upd (Off p c H15) l (.lst (xs++[.ref t15])):=zcQ nlp.1 nlp.2
 have S16:zaP (QaJ) (Off p c (Qcd)):=by
  rw[o16]
  exact(S12.trans S15).put hl0
 have h16:Off p c (Qcd) l=some (.lst (xs++[.ref t15])):=by
  rw[o16]
  exact zam
 have all16:∀x∈xs++[.ref t15],Pr2 (Off p c (Qcd)) x:=λx hx=>by
  have:Pr2 (Off p c H15) x:=by
   rcases List.mem_append.mp hx with hx | hx
   ·exact(all x hx).same S15
   ·have:x=.ref t15:=by simpa using hx
    subst this
    exact h15
  obtain⟨t,a,b,e,ht,hb⟩:=this
  refine⟨t,a,b,e,?_,hb⟩
  rw[o16,zaS (zqu ht hl15 (Qa0))]
  exact ht
 have l16:(xs++[.ref t15]:List V).length=8:=by simp[lx]
 generalize L2.upd H15 l (.lst (xs++[.ref t15]))=H16 at P16 S16 h16 all16 ⊢
 generalize (xs++[.ref t15]:List V)=ys at h16 all16 l16
 ((try simp only);first | rw[zb4] | rw[zb8] | rw[zb5] | rw[zb3]);simp_all only [zac]
 refine⟨p,c,_,8,rfl,P16,by omega,by decide,by decide,λb H17 b0 b1 o17 P17=>?_⟩
 have s17:zaP (Off p c H16) (Off p c H17):=zfT o17
 obtain⟨x,ex,mx⟩:=zhf (xs:=ys) b0 (Qd)
 refine⟨_,b,rfl,SqL.of (zbB _ _ _ _ _ (s17 _ _ h16)),x,ex,?_⟩
 obtain⟨t,a',b',rfl,ht,hb,ba,bb⟩:=(all16 x mx).same s17
 have hT:=SqT.of (K:=K) (zbB _ _ _ _ _ ht)
 refine⟨t,rfl,_,hT,_,rfl,t,rfl,_,hT,_,rfl,a',b',rfl,hb,bb.mono (Qm),λr' H18 s18 h18=>?_⟩
 have P18:=P17.same s18
 have n0:b'≠0:=by omega
 refine q r' (ψD a' b') _ H18 (S16.trans (s17.trans (zgX p c s18))) P18 (Qd) (zij P18 h18) ⟨?_,?_⟩
 ·rw[(zhW n0).1]
  exact(ba.le (zrt n0)).mono (Qm)
 ·rw[(zhW n0).2]
  exact(bb.le (zrC n0)).mono (Qm)
theorem zbt:zaJ ["_law_purse_here","_law_worth","_law_fine","_law_top","_law_bottom","_law_some","_law_found"] (QcI) (zai zdH):=(Qa)
theorem zhp(T:Txt K mg a):zcr P w K mg base CX0 2 a.faY a.daY (QcI) zs8:=by
 have Gh:=zcq (P:=P) (w:=w) (base:=base) T
 have Gal:=zjO (P:=P) (w:=w) (base:=base) T
 refine T.FaY.ok zbt (Qk) (Qe)
 all_goals obtain⟨p,c,v,u,W,rfl,P',u1,hv,bW,q⟩:=h
 ·rfl
 exact⟨zdt K,(zaf (zaN (i:=2) zbt.nd rfl (Qg) (zaI zbm (zcl (zaa zae (zaa (zao zky zae zae) (zaa (zao zky zae zae) zad)))) (Qn) (Qp)))
 (zaf (zcG (pv 1) (zbp rfl (zal (zak (i:=3) zbt.nd rfl (Qg)) (zal (zak (i:=4) zbt.nd rfl (Qg)) zaZ))))
 (zaf (zaN (i:=5) zbt.nd rfl (Qg) (zcl (zaa (zbI (zaa (zao zco (zao zap (pv 3) (pv 2)) zae) (zaa (zao zap (pv 4) (pv 2)) zad))) (zaa (zbI (zaa (zao zcF (zao zap (pv 3) (pv 2)) zae) (zaa (zao zap (pv 4) (pv 2)) zad))) (zaa (zbI (zaa (zao zcF (zao zap (zao zap (pv 3) (pv 2)) zae) zae) (zaa (zao zap (zao zap (pv 4) (pv 2)) zae) zad))) zad)))))
 (zaf (zaN (i:=5) zbt.nd rfl (Qg) (zao zkO (pv 5) (zcl (zaa (zbI (Qb9)) (zaa (zbI (Qb9)) (zaa (zbI (zaa (pv 3) (zaa (zao zco (pv 4) zae) zad))) (zaa (zbI (zaa (zao zcF (zao zcF zae zae) (pv 3)) (Qa3))) zad)))))))
 (zaf (zgD (zuh ψY1 ψW1 ψX1 zfw (pv 5) (zaa (zbI (zaa (Qn) (zaa (zao zco zae (Qn)) zad))) zad)))
 (zaf (zaN (i:=6) zbt.nd rfl (Qg) (zaI zbm (pv 5) (Qn) (Qp)))
 (zah (zaE (zag Gal (Qc) rfl T.mal T.Fal.kp T.bal .nil zaH (zaa (zaI zar (pv 6) zae (Qp)) (zaa (zaI zar (pv 6) zae (Qp)) zad))))))))))),
  zhy P' u1 hv bW q⟩
def zsU:Sp:=λvs H Q _=>∃(p c g w:Addr) (u bud:Int) (vm vp:V) (W:Rat),vs=[.ref p,.ref g]∧Pur H p c u∧u<20000∧Off p c H g=some (Qbv)∧Off p c H w=some (Q9)∧Bq 1300 W∧Gd (QaJ) 0 3 vm∧Gd (QaJ) 0 3 vp∧0≤bud∧bud≤59∧∀(r w':Addr) (bud':Int) (vm' vp':V) (W':Rat) (u':Int) (H':Hp),zaP (QaJ) (Qag)→Pur H' p c u'→u'≤u+100→Off p c H' r=some (.lst [.int bud',.ref w',vm',vp'])→Off p c H' w'=some (.tup (fr W'))→Bq 2000 W'→Gd (Qag) 2 5 vm'→Gd (Qag) 2 5 vp'→0≤bud'→bud'≤60→Q (QT) H'
structure DrI (H0:Hp) (f p c:Addr) (k:Nat) (u0:Int) (H':Hp):Prop where
 s:zaP (Off p c H0) (Qag)
 P:∃u,Pur H' p c u∧u≤u0+20*k
 ex:∃(b:Int) (w:Addr) (W:Rat) (x y:V),Off p c H' f=some (.lst [.int b,.ref w,x,y])∧Off p c H' w=some (Q9)∧Bq 2000 W∧Gd (Off f f (Qag)) k (3+k) x∧Gd (Off f f (Qag)) k (3+k) y∧0≤b∧b≤60
theorem DrI.set{H0 H':Hp}{f p c w:Addr}{k:Nat}{u0 u b:Int}{x y:V}{W:Rat}{xs:List V}(nf:f≠p∧f≠c)(hf0:Off p c H0 f=none)(s:zaP (Off p c H0) (Qag))(P:Pur H' p c u)(hu:u≤u0+20*k)(hf:Off p c H' f=some (QbW))(hw:Off p c H' w=some (Q9))(bW:Bq 2000 W)(gx:Gd (Off f f (Qag)) k (3+k) x)(gy:Gd (Off f f (Qag)) k (3+k) y)(b0:0≤b)(b1:b≤60):DrI H0 f p c k u0 (L2.upd H' f (.lst [.int b,.ref w,x,y])):=by
 have e:Off p c (L2.upd H' f (.lst [.int b,.ref w,x,y]))=L2.upd (Qag) f (.lst [.int b,.ref w,x,y]):=zcQ nf.1 nf.2
 refine⟨by rw[e];exact s.put hf0,⟨u,P.upd nf.1 nf.2,hu⟩,b,w,W,x,y,by rw[e];exact zam,?_,bW,?_,?_,b0,b1⟩
 ·rw[e,zaS (zqu hw hf (Qa0))]
  exact hw
 ·rw[e,zx0]
  exact gx
 ·rw[e,zx0]
  exact gy
def zdX(K:ψa):TS :=
 (zd2 (zcp (tOp rEq (zaG zcy [] E0 (zab (zac 0) (zab (tC (.int 24)) zas))) (Qi))) (zbq (tOp zwq (tSl (zuH K) (zac 2) zef (ziv (QX))) (zhK (zab (tOp (zf2 K) (zac 2) (QbQ)) (zab (tOp (zf2 K) (zac 2) (QX)) zas)))) (zaj 2)) zb7)
def zb9(K:ψa):=eqT (zdX.eq_1 K)
def zg6(K:ψa):TS :=
 (zd2 (zcp (tOp (QY) (zac 4) (tC (.int 4)))) (zbq (zaG (zmL 4) [] E0 (zab (zac 0) (zab (tOp (zf2 K) (zac 2) (QX)) zas))) (zwh (zac 2) (QX) zml)) (zd2 (zcp (tOp (QY) (zac 4) (tC (.int 8)))) (zbq (zaG (zmL 4) [] E0 (zab (zac 0) (zab (tOp (zf2 K) (zac 2) (QbQ)) zas))) (zwh (zac 2) (QbQ) zml)) (zd2 (zcp (tOp rEq (zac 4) (tC (.int 8)))) (zbq (zaG zs8 [] E0 (zab (zac 0) (zab (tOp (zf2 K) (zac 1) (Qi)) zas))) (zwh (zac 2) (Qi) zml)) (zbq (tOp (zf2 K) (zhK (zab (tOp (Qz) (tOp (zf2 K) (zac 1) (Qq)) (Qi)) (zab (tCB (λxs H Q=>∃i j,xs=[.int i,.int j]∧Q (.int (if j > i then j else i)) H) (zab (Qq) (zab (tOp (QA) (tOp (zf2 K) (zac 1) (Qq)) (Qi)) zas))) zas))) (Qba)) (zwh (zac 2) (Qq) zml)))))
def zfA(K:ψa):=eqT (zg6.eq_1 K)
def zg9(K:ψa):TS :=
 (zbf (zka (zmW (zab (tOp (Qz) (Qi) (Qba)) zas)) (zaj 3)
 (zbf (zbq (zaG zcy [] E0 (zab (zac 0) (zab (tC (.int 10)) zas))) (zaj 4))
 (zg6 K)))
 (zbf (ze2 (zdX K))
 (zb2 (zac 2))))
def zfq(K:ψa):=eqT (zg9.eq_1 K)
def zgu(K:ψa):TS :=
 (zbf (zbq (Qs) (zaj 2))
 (zg9 K))
theorem zle{p c g w:Addr}{u bud:Int}{vm vp:V}{W:Rat}(P:Pur H p c u)(u1:u<20000)(hg:Off p c H g=some (Qbv))(hw:Off p c H w=some (Q9))(bW:Bq 1300 W)(gm:Gd (QaJ) 0 3 vm)(gp:Gd (QaJ) 0 3 vp)(d0:0≤bud)(d1:bud≤59)(q:∀(r w':Addr) (bud':Int) (vm' vp':V) (W':Rat) (u':Int) (H':Hp),zaP (QaJ) (Qag)→Pur H' p c u'→u'≤u+100→Off p c H' r=some (.lst [.int bud',.ref w',vm',vp'])→Off p c H' w'=some (.tup (fr W'))→Bq 2000 W'→Gd (Qag) 2 5 vm'→Gd (Qag) 2 5 vp'→0≤bud'→bud'≤60→Q (QT) H') :
  zgu K { nx:=λ_ H'=>Q .non H',rt:=Q } (L2.start ["_law_purse_here","_law_good","_law_found","_law_turn","_law_way"] [.ref p,.ref g]) H:=by
 unfold zgu
 simp_all only [zb9,zac]
 refine⟨_,.inl (SqL.of (zbB _ _ _ _ _ hg)),λf nf=>?_⟩
 have np:=P.new nf
 have hf0:Off p c H f=none:=zfM nf
 obtain⟨s1,h1,P1⟩:=P.put nf (Qbv)
 have sx:zaP (QaJ) (Off f f (Off p c (L2.upd H f (Qbv)))):=λb o h=>by
  have n:b≠f:=λe=>by
   rw[e,hf0] at h
   cases h
  rw[zhl n n]
  exact s1 _ _ h
 have I0:DrI H f p c 0 (u+1) (L2.upd H f (Qbv)):=⟨s1,⟨u,P1,by omega⟩,bud,w,W,vm,vp,h1,s1 _ _ hw,⟨bW.top.mono (Qm),bW.bot.mono (Qm)⟩,gm.same sx,gp.same sx,d0,by omega⟩
 generalize L2.upd H f (.lst [.int bud,.ref w,vm,vp])=H1 at I0 P1 s1 h1 ⊢
 ((try simp only);first | rw[zfA] | rw[zfq]);simp_all only [zb9,zac]
 refine⟨p,c,u,2,rfl,P1,by omega,by decide,by decide,λr H2 r0 r1 o2 P2=>?_⟩
 have I2:DrI H f p c 0 (u+1) H2:=⟨by rw[o2];exact I0.s,⟨u+1,P2,by omega⟩,by rw[o2];exact I0.ex⟩
 refine⟨r,rfl,by omega,by omega,?_⟩
 refine zfx (λi σ H'=>DrI H f p c i (u+1) H'∧∃x y,σ=[some (Qbn),some (.ref g),some (.ref f),x,y]) ⟨I2,_,_,rfl⟩ ?_ ?_
 ·rintro i σ H3 hi ⟨I,x3,x4,rfl⟩
  have i1:i≤1:=by omega
  obtain⟨u3,P3,hu3⟩:=I.P
  have u30:=P3.t0
  obtain⟨b,w',W',x,y,hf,hw',bW',gx,gy,b0,b1⟩:=I.ex
  have S3:=I.s
  simp_all only [zb9,zac]
  refine⟨p,c,u3,10,rfl,P3,by omega,by decide,by decide,λway H4 w0 w1 o4 P4=>?_⟩
  rw[← o4] at hf hw' gx gy S3
  ((try simp only);first | rw[zfA] | rw[zfq]);simp_all only [zb9,zac]
  have hF:=SqL.of (K:=K) (zbB _ _ _ _ _ hf)
  have hG:=SqL.of (K:=K) (zbB _ _ _ _ _ (S3 _ _ hg))
  refine zbj (Qcz) (λz=>zbj (λz2=>?_) (λz2=>zbj (λz3=>?_) (λz3=>?_)))
  ·refine⟨_,hF,x,rfl,p,c,(f,.lst [.int b,.ref w',x,y]),_,x,i,3+i,rfl,⟨P4,hf⟩,by omega,gx,trivial,i1,by omega,λv' u' H5 s5 P5 hu5 g5=>?_⟩
   have S5:=zhY.all ⟨P4,hf⟩ P5 s5
   refine⟨_,zbB _ _ _ _ _ P5.2,2,rfl,?_⟩
   exact DrI.set np hf0 (S3.trans S5) P5.1 (Qd) P5.2 (S5 _ _ hw') bW' g5 (((gy).same s5).mono (Qd) (Qd)) b0 b1
  ·refine⟨_,hF,y,rfl,p,c,(f,.lst [.int b,.ref w',x,y]),_,y,i,3+i,rfl,⟨P4,hf⟩,by omega,gy,trivial,i1,by omega,λv' u' H5 s5 P5 hu5 g5=>?_⟩
   have S5:=zhY.all ⟨P4,hf⟩ P5 s5
   refine⟨_,zbB _ _ _ _ _ P5.2,3,rfl,?_⟩
   exact DrI.set np hf0 (S3.trans S5) P5.1 (Qd) P5.2 (S5 _ _ hw') bW' ((gx.same s5).mono (Qd) (Qd)) g5 b0 b1
  ·refine⟨_,hG,_,rfl,p,c,w,_,W,rfl,P4,by omega,S3 _ _ hw,bW,λr' W2 u' H5 s5 P5 hu5 h5 bW2=>?_⟩
   refine⟨_,zbB _ _ _ _ _ (s5 _ _ hf),1,rfl,?_⟩
   have sf:=zgX f f s5
   exact DrI.set np hf0 (S3.trans s5) P5 (Qd) (s5 _ _ hf) h5 bW2 ((gx.same sf).mono (Qd) (Qd)) ((gy.same sf).mono (Qd) (Qd)) b0 b1
  ·refine⟨_,hG,_,rfl,bud,rfl,_,hG,_,rfl,bud,rfl,by decide,λa na=>?_⟩
   obtain⟨s5,h5,P5⟩:=P4.put na (.lst [V.int (bud+1),V.int (if bud - 1 > 0 then bud - 1 else 0)])
   generalize L2.upd H4 a (.lst [V.int (bud+1),V.int (if bud - 1 > 0 then bud - 1 else 0)])=H5 at s5 h5 P5 ⊢
   refine⟨p,c,_,2,rfl,P5,by omega,by decide,by decide,λr' H6 r0' r1' o6 P6=>?_⟩
   have s6:zaP (Off p c H5) (Off p c H6):=zfT o6
   have S6:=s5.trans s6
   obtain⟨v',ev,mv⟩:=zhf (xs:=[V.int (bud+1),V.int (if bud - 1 > 0 then bud - 1 else 0)]) r0' (by show r'<2;omega)
   refine⟨_,r',rfl,SqL.of (zbB _ _ _ _ _ (s6 _ _ h5)),v',ev,_,zbB _ _ _ _ _ (S6 _ _ hf),0,rfl,?_⟩
   obtain⟨b',rfl,b0',b1'⟩:∃b':Int,v'=.int b'∧0≤b'∧b'≤60:=by
    simp only[ψv,ψp,or_false] at mv
    rcases mv with rfl | rfl
    ·exact⟨_,rfl,by omega,by omega⟩
    ·refine⟨_,rfl,?_,?_⟩ <;> split <;> omega
   have sf:=zgX f f S6
   exact DrI.set np hf0 (S3.trans S6) P6 (Qd) (S6 _ _ hf) (S6 _ _ hw') bW' ((gx.same sf).mono (Qd) (Qd)) ((gy.same sf).mono (Qd) (Qd)) b0' b1'
 ·rintro σ H3 ⟨I,x3,x4,rfl⟩
  obtain⟨u3,P3,hu3⟩:=I.P
  obtain⟨b,w',W',x,y,hf,hw',bW',gx,gy,b0,b1⟩:=I.ex
  have S3:=I.s
  have hF:=SqL.of (K:=K) (zbB _ _ _ _ _ hf)
  have gx':=(gx.same (zbB f f _)).mono (show(1+r).toNat≤2 by omega) (show 3+(1+r).toNat≤5 by omega)
  have gy':=(gy.same (zbB f f _)).mono (show(1+r).toNat≤2 by omega) (show 3+(1+r).toNat≤5 by omega)
  show zbf (ze2 (zdX K)) (zb2 (zac 2)) _ _ _
  refine zik (λσ H'=>∃(r:Addr) (vm' vp':V) (u':Int) (x3 x4:Option V),zaP (QaJ) (Qag)∧Pur H' p c u'∧u'≤u+100∧Off p c H' r=some (.lst [.int b,.ref w',vm',vp'])∧Off p c H' w'=some (.tup (fr W'))∧Gd (Qag) 2 5 vm'∧Gd (Qag) 2 5 vp'∧σ=[some (Qbn),some (.ref g),some (QT),x3,x4]) ?_ ?_
  ·unfold zdX
   simp_all only [zb9,zac]
   refine⟨p,c,u3,24,rfl,P3,by omega,by decide,by decide,λz H4 z0 z1 o4 P4=>?_⟩
   have s4:zaP (Off p c H3) (Off p c H4):=zfT o4
   have hf4:=s4 _ _ hf
   have S4:=S3.trans s4
   refine⟨rfl,zbj (Qao) (λ_=>⟨S4,f,x,y,u3+1,P4,by omega,hf4,s4 _ _ hw',gx'.same s4,gy'.same s4,rfl⟩)⟩
   have c2:ziW [.int b,.ref w',x,y] none (some 2)=[.int b,.ref w']:=zo8 _ 2
   refine⟨_,SqL.of (zbB _ _ _ _ _ hf4),λl1 n1=>?_⟩
   rw[c2]
   obtain⟨s5,h5,P5⟩:=P4.put n1 (.lst [.int b,.ref w'])
   generalize L2.upd H4 l1 (.lst [.int b,.ref w'])=H5 at s5 h5 P5 ⊢
   have hf5:=SqL.of (K:=K) (zbB _ _ _ _ _ (s5 _ _ hf4))
   refine⟨_,hf5,_,rfl,_,hf5,_,rfl,by decide,λl2 n2=>?_⟩
   obtain⟨s6,h6,P6⟩:=P5.put n2 (.lst [y,x])
   generalize L2.upd H5 l2 (.lst [y,x])=H6 at s6 h6 P6 ⊢
   refine⟨_,zbB _ _ _ _ _ (s6 _ _ h5),_,zbB _ _ _ _ _ h6,zhP (Qa0),λl3 n3=>?_⟩
   obtain⟨s7,h7,P7⟩:=P6.put n3 (.lst ([.int b,.ref w']++[y,x]))
   have S7:=s4.trans (s5.trans (s6.trans s7))
   exact⟨S3.trans S7,l3,y,x,u3+1,P7,by omega,h7,S7 _ _ hw',gy'.same S7,gx'.same S7,rfl⟩
  ·rintro _ H4 ⟨r',vm',vp',u',y3,y4,s4,P4,hu4,h4,hw4,g1,g2,rfl⟩
   simp_all only [zb9,zac]
   exact q r' w' b vm' vp' W' u' H4 s4 P4 hu4 h4 hw4 bW' g1 g2 b0 b1
theorem zdD:zaJ ["_law_purse_here","_law_good","_law_found","_law_turn","_law_way"] (QcO) (zai zgl):=(Qa)
theorem zlc(T:Txt K mg a):zcr P w K mg base CX0 13 a.faZ a.daZ (QcO) zsU:=by
 have GH:=zmt (P:=P) (w:=w) (base:=base) T
 have Gh:=zcq (P:=P) (w:=w) (base:=base) T
 have GaY:=zhp (P:=P) (w:=w) (base:=base) T
 refine T.FaZ.ok zdD (Qk) (Qe)
 all_goals obtain⟨p,c,g,w',u,bud,vm,vp,W,rfl,P',u1,hg,hw,bW,gm,gp,d0,d1,q⟩:=h
 ·rfl
 exact⟨zgu K,(zaf (zaN (i:=2) zdD.nd rfl (Qg) (QaR))
 (zaf (zdA PassesOwn.never rfl (zfr rfl T.z_range (zaa (zao zco zae (Qn)) zad)) (zak (i:=3) zdD.nd rfl (Qg))
 (zaf (zaN (i:=4) zdD.nd rfl (Qg) (Qn))
 (zah (zb1 (zbi zj6 (pv 4) zae (zbd _)) (zah (zcG (zag GH (Qc) rfl T.mH T.FH.kp T.bH .nil zaH (zaa (pv 0) (Qco))) (zkt (pv 2) zae zgP))) (zah (zb1 (zbi zj6 (pv 4) zae (zbd _)) (zah (zcG (zag GH (Qc) rfl T.mH T.FH.kp T.bH .nil zaH (zaa (pv 0) (Qco))) (zkt (pv 2) zae zgP))) (zah (zb1 (zbi zp1 (pv 4) zae (zbd _)) (zah (zcG (zag GaY (Qc) rfl T.maY T.FaY.kp T.baY .nil zaH (zaa (pv 0) (zaa (zaI zbm (pv 1) zae (Qp)) zad))) (zkt (pv 2) zae zgP))) (zah (zcG (zaI zbm (zcl (zaa (zao zco (zaI zbm (pv 1) zae (Qp)) zae) (zaa (zaq (zsb rfl) rfl T.z_max PyProof.Rows.boot_max (zaa zae (zaa (zao zcF (zaI zbm (pv 1) zae (Qp)) zae) zad))) zad))) (Qn) (Qp)) (zkt (pv 2) zae zgP)))))))))))
 (zaf (zbz (zb1 (zbi zp1 (Qn) zae (zbd _)) (zah (zaN (i:=2) zdD.nd rfl (Qg) (zao zkO (zdZ zhx (pv 2) zfg (zeG zae)) (zcl (zaa (zaI zbm (pv 2) zae (Qp)) (Qco)))))) zaY))
 (zah (zaE (pv 2)))))),
  zle P' u1 hg hw bW gm gp d0 d1 q⟩
def zua(K:ψa):Sp:=λvs H Q _=>∃(p:Addr) (ns:List Int),vs=[.ref p]∧SqL K H p (QJ)∧ns.length≤63∧(∀x∈ns,x.natAbs<2 ^ 2 ^ 20)∧∀H',Q (.bl true) H'
def zof(K:ψa):TS :=
 (zd2 (tOr (zcp (tOp (zyd K) (zaG zpq [] E0 (zab (zac 2) (zab (tOp (zf2 K) (zac 7) (Qq)) (zab (tOp (zf2 K) (zac 7) (Qi)) (zab (tOp (zf2 K) (zac 7) (QX)) (zab (tOp (zf2 K) (zac 7) (QbQ)) zas)))))) (zac 9))) (zcp (tOp (rNeD K) (zac 7) (zac 8)))) (QD) zb7)
def zdl(K:ψa):=eqT (zof.eq_1 K)
def znV(K:ψa):TS :=
 (zd2 (zf7 (tB (zaG zrc [] E0 (zab (zac 2) (zab (tOp (zf2 K) (zac 7) (Qq)) (zab (tOp (zf2 K) (zac 7) (Qi)) (zab (tOp (zf2 K) (zac 7) (QX)) zas))))))) (zbq (zf6 (zab (tC (.str "seeker")) zas)) (zaj 9)) (zd2 (zf7 (tB (zaG zsm [] E0 (zab (zac 2) (zab (tOp (zf2 K) (zac 7) (Qq)) (zab (tOp (zf2 K) (zac 7) (Qi)) (zab (tOp (zf2 K) (zac 7) (QbQ)) zas))))))) (zbq (zf6 (zab (tC (.str "hider")) zas)) (zaj 9)) zb7))
def zdk(K:ψa):=eqT (znV.eq_1 K)
def zom:TS :=
 (zd2 (zcp (tOp (Qat) (zac 6) (Qq))) (zbq (zaG zsU [] E0 (zab (zac 1) (Qcn))) (zaj 7)) zb7)
def zdm:=eqT (zom.eq_1)
def zou(K:ψa):TS :=
 (zbf (ze2 (zom))
 (zbf (zbq (zaG (zmO 6) [] E0 (zab (zac 7) zas)) (zaj 8))
 (zbf (zbq (tC .non) (zaj 9))
 (zbf (ze2 (znV K))
 (zof K)))))
def zkL(K:ψa):=eqT (zou.eq_1 K)
def zrJ(K:ψa):TS :=
 (zbf (zbq (zhK (zab (zac 3) (zab (tOp (zbH K) (zac 4) (Qq)) (zab (tOp (zbH K) (zac 4) (Qi)) (zab (tOp (zbH K) (zac 4) (QX)) zas))))) (zaj 5))
 (zbf (zka (zmW (zab (tC (.int 12)) zas)) (zaj 6)
 (zbf (zbq (zac 5) (zaj 7))
 (zou K)))
 (zb2 (tC (.bl true)))))
def zkF(K:ψa):=eqT (zrJ.eq_1 K)
def zsM(K:ψa):TS :=
 (zbf (zbq (zaG zcy [] E0 (zab (zac 1) (zab (tOp (zf2 K) (zhK (zab (QbH) (zab (QbH) (zab (QbH) (zab (QbH) (zab (QbH) (zab (QbH) (zab (QbH) (QaM))))))))) (zaG zcy [] E0 (zab (zac 1) (zab (tC (.int 8)) zas)))) zas))) (zaj 3))
 (zbf (zbq (zaG zhX [] E0 (zab (zac 2) (Qa5))) (zaj 4))
 (zrJ K)))
def zkr(K:ψa):=eqT (zsM.eq_1 K)
def zyv(K:ψa):TS :=
 (zbf (zbq (zaG (zqB K) [] E0 (QF)) (zaj 1))
 (zbf (zbq (zaG zoQ [] E0 (zab (zac 1) (zab (tC (.int 6)) zas))) (zaj 2))
 (zsM K)))
theorem zlB{H:Hp}{K:ψa}{r:Addr}{x:Str}(h:H r=some (.tup [.str x])):zdn K H 1 (.tup [.str x]) (.ref r):=by
 refine .tup (SqT.of h) rfl λi v t e1 e2=>?_
 match i,e1,e2 with
 | 0,e1,e2 =>
  cases e1
  cases e2
  exact .str x
theorem Jdg.same{s h:Prop}{H H':Hp}{v:V}(S:zaP H H')(j:Jdg s h H v):Jdg s h H' v:=by
 rcases j with z | ⟨a,r,e,hr⟩ | ⟨a,b,r,e,hr⟩
 ·exact .inl z
 ·exact .inr (.inl ⟨a,r,e,S _ _ hr⟩)
 ·exact .inr (.inr ⟨a,b,r,e,S _ _ hr⟩)
theorem Jdg.alike{s h R:Prop}{v w:V}(j:Jdg s h H v)(k:Jdg s h H w)(q:Q (QbM) H)(q2:R):rNe v w H Q∨∃n,n≤60∧∃ts,(zdn K H (n+1) (.lst ts) v∧zdn K H (n+1) (.lst ts) w∨zdn K H (n+1) (.tup ts) v∧zdn K H (n+1) (.tup ts) w)∧R:=by
 rcases j with ⟨a,b,rfl⟩ | ⟨a,r,rfl,hr⟩ | ⟨a,b,r,rfl,hr⟩ <;> rcases k with ⟨a',b',rfl⟩ | ⟨a',r',rfl,hr'⟩ | ⟨a',b',r',rfl,hr'⟩
 ·exact .inl ⟨rfl,q⟩
 ·exact absurd a a'
 ·exact absurd b b'
 ·exact absurd a' a
 ·exact .inr ⟨0,by decide,_,.inr ⟨zlB hr,zlB hr'⟩,q2⟩
 ·exact absurd a' a
 ·exact absurd b' b
 ·exact absurd a a'
 ·exact .inr ⟨0,by decide,_,.inr ⟨zlB hr,zlB hr'⟩,q2⟩
theorem Jdg.alike2{s h R F:Prop}{v w:V}(j:Jdg s h H v)(k:Jdg s h H w)(q:R):(zzC v w=true∧if ¬ v=w then F else R)∨∃n,n≤60∧∃ts,(zdn K H (n+1) (.lst ts) v∧zdn K H (n+1) (.lst ts) w∨zdn K H (n+1) (.tup ts) v∧zdn K H (n+1) (.tup ts) w)∧R:=by
 rcases Jdg.alike (K:=K) (R:=R) (Q:=λb _=>b=.bl false) j k rfl q with ⟨a,b⟩ | z
 ·have e:v=w:=by simpa using b
  exact .inl ⟨a,by rw[if_neg (λz=>z e)];exact q⟩
 ·exact .inr z
theorem Sh.shows{K:ψa}{n:Nat}{t:Tr}(d:Dp n t):∀{v:V},Sh H t v→zdn K H n t v:=by
 induction d with
 | int i=>intro v h;cases h;exact .int i
 | bl b=>intro v h;cases h;exact .bl b
 | str x=>intro v h;cases h;exact .str x
 | non=>intro v h;cases h;exact .non
 | lst _ ih =>
  intro v h
  cases h with
  | lst h l e=>exact .lst (SqL.of h) l λi x t e1 e2=>ih t (zan e2) (e i x t e1 e2)
 | tup _ ih =>
  intro v h
  cases h with
  | tup h l e=>exact .tup (SqT.of h) l λi x t e1 e2=>ih t (zan e2) (e i x t e1 e2)
def wT(W:Rat):Tr:=.tup [.int W.num,.int (W.den:Int)]
theorem sh_w{w:Addr}{W:Rat}(h:H w=some (Q9)):Sh H (wT W) (.ref w):=by
 have e:=(ShL.one (H:=H) (Sh.int W.num)).append (ShL.one (Sh.int (W.den:Int)))
 exact .tup h e.len e.el
structure Sm (H:Hp) (l r w:Addr) (ts:List Addr) (bs:List Box) (b:Int) (W:Rat) (vm vp:V) (tm tp:Tr):Prop where
 B:Bx6 H l ts bs
 hr:H r=some (.lst [.int b,.ref w,vm,vp])
 hw:H w=some (Q9)
 bW:Bq 2000 W
 sm:Sh H tm vm
 gm:Gt tm
 dm:Dp 5 tm
 sp:Sh H tp vp
 gp:Gt tp
 dp:Dp 5 tp
 b0:0≤b
 b1:b≤60
theorem Sm.same{H H':Hp}{l r w:Addr}{ts:List Addr}{bs:List Box}{b:Int}{W:Rat}{vm vp:V}{tm tp:Tr}(h:Sm H l r w ts bs b W vm vp tm tp)(s:zaP H H'):Sm H' l r w ts bs b W vm vp tm tp:=⟨h.B.same s,s _ _ h.hr,s _ _ h.hw,h.bW,h.sm.same s,h.gm,h.dm,h.sp.same s,h.gp,h.dp,h.b0,h.b1⟩
def smT(b:Int)(W:Rat)(tm tp:Tr):Tr:=.lst [.int b,wT W,tm,tp]
theorem Sm.sh{l r w:Addr}{ts:List Addr}{bs:List Box}{b:Int}{W:Rat}{vm vp:V}{tm tp:Tr}(h:Sm H l r w ts bs b W vm vp tm tp):Sh H (smT b W tm tp) (QT)∧Dp 6 (smT b W tm tp)∧Szd 9 (smT b W tm tp):=by
 have e:=((ShL.one (H:=H) (Sh.int b)).append (ShL.one (sh_w h.hw))).append ((ShL.one h.sm).append (ShL.one h.sp))
 have bd:∀i:Int,Bd 2000 i→Szd 9 (.int i):=λi hi=>.int (ψt1 (ψj hi (ψE (show 2 ^ 2000≤2 ^ 2750 by decide +kernel) (ψT1 ..))))
 have b2:Bd 2000 b:=by
  have:=h.b0
  have:=h.b1
  exact ψg1 (show b.natAbs<2 ^ 10 by omega) (QaI)
 refine⟨.lst h.hr e.len e.el,.lst λt ht=>?_,.lst (by show 4≤16;decide) λt ht=>?_⟩
 ·simp only[ψv,ψp,or_false] at ht
  rcases ht with rfl | rfl | rfl | rfl
  ·exact .int b
  ·refine .tup λt ht=>?_
   simp only[ψv,ψp,or_false] at ht
   rcases ht with rfl | rfl
   ·exact .int _
   ·exact .int _
  ·exact h.dm
  ·exact h.dp
 ·simp only[ψv,ψp,or_false] at ht
  rcases ht with rfl | rfl | rfl | rfl
  ·exact bd _ b2
  ·refine .tup (by show 2≤16;decide) λt ht=>?_
   simp only[ψv,ψp,or_false] at ht
   rcases ht with rfl | rfl
   ·exact bd _ h.bW.top
   ·exact bd _ h.bW.bot
  ·exact h.gm.mono (Qm)
  ·exact h.gp.mono (Qm)
abbrev s21(s p l:Addr)(x3 x4 x5 x6 x7 x8 x9:Option V):St:=[some (.ref s),some (Qbn),some (Qa1),x3,x4,x5,x6,x7,x8,x9]
theorem zuP{D:zjo}{s p l r w:Addr}{ts:List Addr}{bs:List Box}{b:Int}{W:Rat}{vm vp:V}{tm tp:Tr}{x3 x4 x5 x6 x8 x9:Option V}(X:Sm H l r w ts bs b W vm vp tm tp)(q:∀(y8 y9:Option V) (H':Hp),zaP H H'→D.nx (s21 s p l x3 x4 x5 x6 (some (QT)) y8 y9) H') :
  (zbf (zbq (zaG (zmO 6) [] E0 (zab (zac 7) zas)) (zaj 8)) (zbf (zbq (tC .non) (zaj 9)) (zbf (ze2 (znV K)) (zof K)))) D (s21 s p l x3 x4 x5 x6 (some (QT)) x8 x9) H:=by
 obtain⟨sT,dT,zT⟩:=X.sh
 simp_all only [zdl,zdk,zdm,zac]
 refine⟨.ref r,_,rfl,sT,dT,zT,λy H1 s1 h1=>?_⟩
 have X1:=X.same s1
 have y1:=h1.same zw9
 have hR1:=SqL.of (K:=K) X1.hr
 refine⟨λσ H'=>zaP H1 H'∧∃due,Jdg (zmf bs.length tm=true∧zui bs b W (zmh tm)) (zdq bs.length tp=true∧zvD bs b W (pgW tp) (pgP tp) (pgN tp)) H' due∧σ=s21 s p l x3 x4 x5 x6 (some (QT)) (some y) (some due),?_,?_⟩
 ·simp_all only [zdl,zdk,zdm,zac]
  refine⟨_,hR1,_,rfl,_,hR1,_,rfl,_,hR1,_,rfl,l,w,vm,b,ts,bs,tm,W,rfl,X1.B,X1.hw,X1.bW,X1.sm,X1.gm,X1.b0,X1.b1,λc H2 s2 hc=>⟨c,rfl,?_⟩⟩
  cases c with
  | false=>exact zbj (λ_=>⟨by decide,λe fe=>⟨s2.add fe,_,.inr (.inl ⟨λz=>absurd (hc.mpr z) (Qm),e,rfl,zam⟩),rfl⟩⟩) (Qv)
  | true =>
   refine zbj (Qj) (Qao)
   have X2:=X1.same s2
   have hR2:=SqL.of (K:=K) X2.hr
   refine⟨_,hR2,_,rfl,_,hR2,_,rfl,_,hR2,_,rfl,l,w,vp,b,ts,bs,W,tp,rfl,X2.B,X2.hw,X2.bW,X2.sp,X2.gp,X2.b0,X2.b1,λc' H3 s3 hc'=>⟨c',rfl,?_⟩⟩
   cases c' with
   | false=>exact zbj (λ_=>⟨by decide,λe fe=>⟨(Qb5).add fe,_,.inr (.inr ⟨hc.mp rfl,λz=>absurd (hc'.mpr z) (Qm),e,rfl,zam⟩),rfl⟩⟩) (Qv)
   | true=>exact zbj (Qj) (λ_=>⟨s2.trans s3,_,.inl ⟨hc.mp rfl,hc'.mp rfl,rfl⟩,rfl⟩)
 rintro _ H2 ⟨s2,due,J,rfl⟩
 have X2:=X1.same s2
 have hR2:=SqL.of (K:=K) X2.hr
 simp_all only [zdl,zdk,zdm,zac]
 refine⟨_,hR2,_,rfl,_,hR2,_,rfl,_,hR2,_,rfl,_,hR2,_,rfl,l,w,vm,vp,b,ts,bs,W,tm,tp,rfl,X2.B,X2.hw,X2.bW,X2.sm,X2.gm,X2.sp,X2.gp,X2.b0,X2.b1,λvj H3 s3 J3=>?_⟩
 have S3:=s1.trans (Qb5)
 have fin:∃n,n≤60∧∃x,(zdn K H3 (n+1) (.lst x) (QT)∧zdn K H3 (n+1) (.lst x) y∨zdn K H3 (n+1) (.tup x) (QT)∧zdn K H3 (n+1) (.tup x) y)∧D.nx (s21 s p l x3 x4 x5 x6 (some (QT)) (some y) (some due)) H3:=⟨5,by decide,_,.inl ⟨Sh.shows dT (sT.same S3),Sh.shows dT (y1.same (Qb5))⟩,q _ _ H3 S3⟩
 first | exact Jdg.alike2 J3 (J.same s3) fin | exact Jdg.alike J3 (J.same s3) ⟨false,rfl,by rw[if_neg (Qm)];exact fin⟩ fin
theorem zn4{p:Addr}{ns:List Int}(h:H p=some (Qbd))(l:ns.length≤7)(b:∀n∈ns,Bd 2700 n):Gd H 0 1 (.ref p):=by
 refine .lst h (by rw[ψb];exact l) λx hx=>?_
 obtain⟨n,hn,rfl⟩:=List.mem_map.mp hx
 exact .int (ψE (ψt1 (b n hn)) (QaI))
theorem zzq{ml:Addr}{us:List Addr}{xs:List Mp}(M:MxH H ml us xs)(l:xs.length≤7)(g:∀x∈xs,x.2.1.length≤7∧(Qbx)∧Bd 1800 x.2.2):Gd H 0 3 (.ref ml):=by
 have lu:=M.tp.1
 refine .lst M.hm (by rw[ψb];omega) λv hv=>?_
 obtain⟨u,hu,rfl⟩:=List.mem_map.mp hv
 obtain⟨i,ei⟩:=ψr hu
 obtain⟨x,ex,hx⟩:=M.tp.at ei
 obtain⟨g1,g2,g3⟩:=g x (zan ex)
 refine .tup hx (by show 2≤7;decide) λy hy=>?_
 simp only[ψv,ψp,or_false] at hy
 rcases hy with rfl | rfl
 ·exact zn4 (M.pl x (zan ex)) g1 λn hn=>by
   have:=g2 n hn
   exact ψg1 (show n.natAbs<2 ^ 10 by omega) (QaI)
 ·exact .int (ψE (ψt1 g3) (QaI))
theorem zz8{pr wl pp cl:Addr}{Ws ns:List Int}{P:Rat}(a1:H pr=some (Qah))(a2:H wl=some (QbA))(a3:H pp=some (Qch))(a4:H cl=some (Qbd))(lw:Ws.length≤7)(ln:ns.length≤7)(bw:∀w∈Ws,Bd 2700 w)(bn:∀n∈ns,0≤n∧n≤60)(bP:Bq 2700 P):Gd H 0 3 (.ref pr):=by
 refine .tup a1 (by show 3≤7;decide) λy hy=>?_
 simp only[ψv,ψp,or_false] at hy
 rcases hy with rfl | rfl | rfl
 ·exact(zn4 a2 lw bw).mono (Qm) (Qm)
 ·refine .tup a3 (by show 2≤7;decide) λz hz=>?_
  simp only[ψv,ψp,or_false] at hz
  rcases hz with rfl | rfl
  ·exact .int (ψE (ψt1 bP.top) (QaI))
  ·exact .int (ψE (ψt1 bP.bot) (QaI))
 ·refine(zn4 a4 ln λn hn=>?_).mono (Qm) (Qm)
  have:=bn n hn
  exact ψg1 (show n.natAbs<2 ^ 10 by omega) (QaI)
theorem zzg{s:Addr}{ns:List Int}(hS:SqL K H s (QJ))(q:∀H',Q (.bl true) H'):zyv K { nx:=λ_ H'=>Q .non H',rt:=Q } (L2.start ["_law_script","_law_purse_here","_law_boxes_here","_law_budget","_law_told","_law_good","_law_turn","_law_some","_law_kept","_law_due"] [.ref s]) H:=by
 unfold zyv
 simp_all only [zdl,zdk,zdm,zac]
 refine⟨s,ns,rfl,hS,λp c H1 s1 P1=>?_⟩
 refine⟨p,c,0,rfl,P1,by decide,λl ts bs u2 H2 s2 P2 hu2 hl hb gb l1 l6=>?_⟩
 have B2:Bx6 (Off p c H2) l ts bs:=⟨hl,hb,gb,l1,l6⟩
 have u20:=P2.t0
 ((try simp only);first | rw[zkL] | rw[zkF] | rw[zkr]);simp_all only [zdl,zdk,zdm,zac]
 refine⟨by decide,λa na=>?_⟩
 obtain⟨s3,h3,P3⟩:=P2.put na (.lst [V.int 9,V.int 9,V.int 9,V.int 9,V.int 9,V.int 9,V.int 9,V.int 60])
 generalize L2.upd H2 a (.lst [V.int 9,V.int 9,V.int 9,V.int 9,V.int 9,V.int 9,V.int 9,V.int 60])=H3 at s3 h3 P3 ⊢
 refine⟨p,c,u2,8,rfl,P3,by omega,by decide,by decide,λr H4 r0 r1 o4 P4=>?_⟩
 have s4:=s3.trans (zfT o4)
 have h4:=zfT o4 _ _ h3
 obtain⟨m',em,mm⟩:=zhf (xs:=[V.int 9,V.int 9,V.int 9,V.int 9,V.int 9,V.int 9,V.int 9,V.int 60]) r0 (by show r<8;omega)
 obtain⟨m,rfl,m0,m1⟩:∃m:Int,m'=.int m∧0<m∧m≤60:=by
  simp only[ψv,ψp,or_false] at mm
  rcases mm with rfl | rfl | rfl | rfl | rfl | rfl | rfl | rfl <;> exact(QbR)
 refine⟨_,r,rfl,SqL.of (zbB _ _ _ _ _ h4),_,em,?_⟩
 refine⟨p,c,u2+1,m,rfl,P4,by omega,m0,by omega,λbud H5 d0 d1 o5 P5=>?_⟩
 have s5:=s4.trans (zfT o5)
 have B5:=B2.same s5
 have BH:=B5.same (zbB p c H5)
 refine⟨l,ts,bs,bud,rfl,BH.hl,BH.hb,gb,l1,l6,d0,by omega,λr6 wr mr pr wl pp cl W P us xs Ws ns' H6 s6 k1 k2 M k3 k4 k5 k6 T z1 z2 z3=>?_⟩
 have P6:=P5.same s6
 have S6:=zgX p c s6
 have B6:=B5.same S6
 have K1:=zij P6 k1
 have K2:=zij P6 k2
 have K3:=zij P6 k3
 have K5:=zij P6 k5
 have n1:=P5.new z1
 have n2:=P5.new z2
 have K4:Off p c H6 wl=some (.lst (Ws.map V.int)):=by rw[zhl n1.1 n1.2];exact k4
 have K6:Off p c H6 cl=some (.lst (ns'.map V.int)):=by rw[zhl n2.1 n2.2];exact k6
 have xn:=T.xn
 have x1:=T.x1
 rw[ψb] at xn x1
 have lu:=M.tp.1
 obtain⟨cs,hcs,lc,_⟩:=P6.hc
 have nm:mr≠p∧mr≠c:=by
  constructor
  ·intro e
   have h:=M.hm
   rw[e,P6.hp] at h
   cases us with
   | nil=>cases h
   | cons a as =>
    cases as with
    | nil=>cases h
    | cons=>cases h
  ·intro e
   have h:=M.hm
   rw[e,hcs] at h
   cases us with
   | nil=>rw[List.length_nil] at lu;omega
   | cons a as =>
    cases cs with
    | nil=>cases lc
    | cons=>cases h
 have MO:MxH (Off p c H6) mr us xs:=⟨by rw[zhl nm.1 nm.2];exact M.hm,⟨lu,λi t b e1 e2=>zij P6 (M.tp.2 i t b e1 e2)⟩,λx hx=>by
  have n3:=P5.new (z3 x hx)
  rw[zhl n3.1 n3.2]
  exact M.pl x hx⟩
 have gm:=zzq MO (Qd) λx hx=>by
  have m:=List.mem_map_of_mem (f:=λx:Mp=>x.2) hx
  have:=T.pl x.2 m
  exact⟨by omega,this.2,(T.xw x.2 m).2⟩
 have gp:=zz8 K3 K4 K5 K6 (by rw[T.lw];omega) (by rw[T.ln];omega) (λw hw=>(T.ww w hw).2) T.nn T.pb
 ((try simp only);first | rw[zkL] | rw[zkF] | rw[zkr]);simp_all only [zdl,zdk,zdm,zac]
 have R6:=SqT.of (K:=K) k1
 refine⟨_,R6,_,rfl,_,R6,_,rfl,_,R6,_,rfl,by decide,λg ng=>?_⟩
 obtain⟨s7,h7,P7⟩:=P6.put ng (.lst [.int bud,.ref wr,.ref mr,.ref pr])
 generalize L2.upd H6 g (.lst [.int bud,.ref wr,.ref mr,.ref pr])=H7 at s7 h7 P7 ⊢
 have B7:=B6.same s7
 have gm7:=gm.same s7
 have gp7:=gp.same s7
 have w7:=s7 _ _ K2
 have bW:=T.bW
 refine⟨by decide,by decide,?_⟩
 refine zfx (λi σ H'=>zaP (Off p c H7) (Qag)∧(∃u,Pur H' p c u∧u≤60+100*i)∧∃x6 x7 x8 x9,σ=s21 s p l (some (Qbc)) (some (.ref r6)) (some (.ref g)) x6 x7 x8 x9) ⟨.refl _,⟨_,P7,by omega⟩,_,_,_,_,rfl⟩ ?_ ?_
 ·rintro i σ H8 hi ⟨s8,⟨u8,P8,hu8⟩,x6,x7,x8,x9,rfl⟩
  have u80:=P8.t0
  simp_all only [zdl,zdk,zdm,zac]
  unfold zou
  refine zik (λσ H'=>zaP (Off p c H7) (Qag)∧(∃u,Pur H' p c u∧u≤60+100*(i+1))∧∃(r w:Addr) (b:Int) (W':Rat) (vm vp:V),(Off p c H' r=some (.lst [.int b,.ref w,vm,vp])∧Off p c H' w=some (.tup (fr W'))∧Bq 2000 W'∧Gd (Qag) 2 5 vm∧Gd (Qag) 2 5 vp∧0≤b∧b≤60)∧σ=s21 s p l (some (Qbc)) (some (.ref r6)) (some (.ref g)) (some (.int (0+(i:Int)))) (some (QT)) x8 x9) ?_ ?_
  ·unfold zom
   simp_all only [zdl,zdk,zdm,zac]
   by_cases c0:0<(0:Int)+i
   ·refine zbj (Qao) (λz=>absurd c0 z)
    refine⟨p,c,g,wr,u8,bud,.ref mr,.ref pr,W,rfl,P8,by omega,s8 _ _ h7,s8 _ _ w7,bW,gm7.same s8,gp7.same s8,d0,by omega,λr w' b' vm' vp' W' u' H9 s9 P9 hu9 h9 hw9 bW9 g1 g2 b0 b1=>?_⟩
    exact⟨s8.trans s9,⟨u',P9,by omega⟩,r,w',b',W',vm',vp',h9,hw9,bW9,g1,g2,b0,b1,rfl⟩
   ·refine zbj (λz=>absurd z c0) (Qao)
    exact⟨s8,⟨u8,P8,by omega⟩,g,wr,bud,W,.ref mr,.ref pr,s8 _ _ h7,s8 _ _ w7,⟨bW.top.mono (Qm),bW.bot.mono (Qm)⟩,(gm7.same s8).mono (Qm) (Qm),(gp7.same s8).mono (Qm) (Qm),d0,by omega,rfl⟩
  rintro _ H9 ⟨s9,⟨u9,P9,hu9⟩,r,w,b,W',vm,vp,⟨h9,hw9,bW9,⟨tm,sm,zm,dm⟩,⟨tp,sp,zp,dp⟩,b0,b1⟩,rfl⟩
  have X:Sm H9 l r w ts bs b W' vm vp tm tp:=⟨(B7.same s9).same (zbB p c H9),zbB _ _ _ _ _ h9,zbB _ _ _ _ _ hw9,bW9,sm.same (zbB p c H9),zm,dm,sp.same (zbB p c H9),zp,dp,b0,b1⟩
  exact zuP X λy8 y9 H10 s10=>⟨s9.trans (zgX p c s10),⟨u9,P9.same s10,by omega⟩,_,_,_,_,rfl⟩
 ·rintro σ H8 ⟨s8,_,x6,x7,x8,x9,rfl⟩
  exact q H8
theorem zfE:zaJ ["_law_script","_law_purse_here","_law_boxes_here","_law_budget","_law_told","_law_good","_law_turn","_law_some","_law_kept","_law_due"] (Qb8) (zai zwu):=(Qa)
theorem zzb(T:Txt K mg a):zcr P w K mg base CX0 14 a.fa0 a.da0 (Qb8) (zua K):=by
 have GaT:=zlk (P:=P) (w:=w) (base:=base) T
 have GO:=zmm (P:=P) (w:=w) (base:=base) T
 have Gh:=zcq (P:=P) (w:=w) (base:=base) T
 have GaZ:=zlc (P:=P) (w:=w) (base:=base) T
 have GaW:=zkU (P:=P) (w:=w) (base:=base) T
 have GaS:=zlG (P:=P) (w:=w) (base:=base) T
 have GaU:=zkm (P:=P) (w:=w) (base:=base) T
 have GaI:=ziY (P:=P) (w:=w) (base:=base) T
 have GaR:=zjW (P:=P) (w:=w) (base:=base) T
 refine T.Fa0.ok zfE (Qk) (Qe)
 all_goals obtain⟨p,ns,rfl,hS,hl,hb,q⟩:=h
 ·rfl
 exact⟨zyv K,(zaf (zaN (i:=1) zfE.nd rfl (Qg) (zag GaS (Qc) rfl T.maS T.FaS.kp T.baS .nil zaH (Qaj)))
 (zaf (zaN (i:=2) zfE.nd rfl (Qg) (zag GaT (Qc) rfl T.maT T.FaT.kp T.baT .nil zaH (zaa (pv 1) (Qam))))
 (zaf (zaN (i:=3) zfE.nd rfl (Qg) (zag Gh (Qc) rfl T.mh T.Fh.kp T.bh .nil zaH (zaa (pv 1) (zaa (zaI zbm (zcl (zaa zae (zaa zae (zaa zae (zaa zae (zaa zae (zaa zae (Qb9)))))))) (zag Gh (Qc) rfl T.mh T.Fh.kp T.bh .nil zaH (zaa (pv 1) (Qam))) (Qp)) zad))))
 (zaf (zaN (i:=4) zfE.nd rfl (Qg) (zag GaR (Qc) rfl T.maR T.FaR.kp T.baR .nil zaH (zaa (pv 2) (Qbi))))
 (zaf (zaN (i:=5) zfE.nd rfl (Qg) (zcl (zaa (pv 3) (zaa (Qbu) (zaa (Qbu) (zaa (Qbu) zad))))))
 (zaf (zdA PassesOwn.never rfl (zfr rfl T.z_range (Qam)) (zak (i:=6) zfE.nd rfl (Qg))
 (zaf (zaN (i:=7) zfE.nd rfl (Qg) (pv 5))
 (zaf (zbz (zb1 (zbi znD (pv 6) zae (zbd _)) (zah (zaN (i:=7) zfE.nd rfl (Qg) (zag GaZ (Qc) rfl T.maZ T.FaZ.kp T.baZ .nil zaH (zaa (pv 1) (QcG))))) zaY))
 (zaf (zaN (i:=8) zfE.nd rfl (Qg) (zag GO (Qc) rfl T.mO T.FO.kp T.bO .nil zaH (zaa (pv 7) zad)))
 (zaf (zaN (i:=9) zfE.nd rfl (Qg) zkq)
 (zaf (zbz (zb1 (zbW (zbu (zag GaU (Qc) rfl T.maU T.FaU.kp T.baU .nil zaH (zaa (pv 2) (Qai))))) (zah (zaN (i:=9) zfE.nd rfl (Qg) (zbI (zaa zl6 zad)))) (zah (zb1 (zbW (zbu (zag GaW (Qc) rfl T.maW T.FaW.kp T.baW .nil zaH (zaa (pv 2) (Qai))))) (zah (zaN (i:=9) zfE.nd rfl (Qg) (zbI (zaa zl6 zad)))) zaY))))
 (zah (zb1 (PW.pt (zeY (zbi (zxm hr.units) (zag GaI (Qc) rfl T.maI T.FaI.kp T.baI .nil zaH (zaa (pv 2) (zaa (zaI zbm (pv 7) zae (Qp)) (Qai)))) (pv 9) (zbd _)) (zd6 (zbi (zwo hr.units) (pv 7) (pv 8) (zbd _))))) (QZ) zaY))))))))
 (QZ))))))),
  zzg hS q⟩
end
theorem zoj{us:List Value}{n:Nat}(h:us.length=n+1):∃a t,us=a::t∧t.length=n:=by
 cases us with
 | nil=>cases h
 | cons a t=>exact⟨a,t,rfl,Nat.succ.inj h⟩
theorem zm6{us:List Value}(h:us.length=1):∃a0,us=[a0]:=by
 obtain⟨a0,u0,rfl,h0⟩:=zoj h
 cases ψR h0
 exact⟨a0,rfl⟩
theorem zg0{us:List Value}(h:us.length=2):∃a0,∃a1,us=[a0,a1]:=by
 obtain⟨a0,u0,rfl,h0⟩:=zoj h
 obtain⟨a1,u1,rfl,h1⟩:=zoj h0
 cases ψR h1
 exact⟨a0,a1,rfl⟩
theorem zAD{us:List Value}(h:us.length=3):∃a0,∃a1,∃a2,us=[a0,a1,a2]:=by
 obtain⟨a0,u0,rfl,h0⟩:=zoj h
 obtain⟨a1,u1,rfl,h1⟩:=zoj h0
 obtain⟨a2,u2,rfl,h2⟩:=zoj h1
 cases ψR h2
 exact⟨a0,a1,a2,rfl⟩
theorem ztI{us:List Value}(h:us.length=4):∃a0,∃a1,∃a2,∃a3,us=[a0,a1,a2,a3]:=by
 obtain⟨a0,u0,rfl,h0⟩:=zoj h
 obtain⟨a1,u1,rfl,h1⟩:=zoj h0
 obtain⟨a2,u2,rfl,h2⟩:=zoj h1
 obtain⟨a3,u3,rfl,h3⟩:=zoj h2
 cases ψR h3
 exact⟨a0,a1,a2,a3,rfl⟩
theorem lst5{us:List Value}(h:us.length=5):∃a0,∃a1,∃a2,∃a3,∃a4,us=[a0,a1,a2,a3,a4]:=by
 obtain⟨a0,u0,rfl,h0⟩:=zoj h
 obtain⟨a1,u1,rfl,h1⟩:=zoj h0
 obtain⟨a2,u2,rfl,h2⟩:=zoj h1
 obtain⟨a3,u3,rfl,h3⟩:=zoj h2
 obtain⟨a4,u4,rfl,h4⟩:=zoj h3
 cases ψR h4
 exact⟨a0,a1,a2,a3,a4,rfl⟩
theorem zzF{K:ψa}{h:Heap}{mg:Str→Option Value}(X:K.In h)(G:h.Ns mainGlobals mg)
  {f0 f1 f2 f3 f4 f5 f6 f7 f8 f9 f10 f11 f12 f13 f14 f15 f16 f17 f18 f19 f20 f21 f22 f23 f24 f25 f26 f27 f28 f29 f30 f31 f32 f33 f34 f35 f36 f37 f38 f39 f40 f41 f42 f43 f44 f45 f46 f47 f48 f49 f50 f51 f52 f53 f54 f55 f56 f57 f58 f59 f60 f61 f62 f63:Addr} {d0 d1 d2 d3 d4 d5 d6 d7 d8 d9 d10 d11 d12 d13 d14 d15 d16 d17 d18 d19 d20 d21 d22 d23 d24 d25 d26 d27 d28 d29 d30 d31 d32 d33 d34 d35 d36 d37 d38 d39 d40 d41 d42 d43 d44 d45 d46 d47 d48 d49 d50 d51 d52 d53 d54 d55 d56 d57 d58 d59 d60 d61 d62 d63:FuncData}
  (F0:Fun K "divisor" "divisor" zjI f0 d0) (m0:mg "divisor"=some (.ref f0))
  (F1:Fun K "ratio" "ratio" znb f1 d1) (m1:mg "ratio"=some (.ref f1))
  (F2:Fun K "plus" "plus" zrh f2 d2) (m2:mg "plus"=some (.ref f2))
  (F3:Fun K "minus" "minus" znu f3 d3) (m3:mg "minus"=some (.ref f3))
  (F4:Fun K "times" "times" zny f4 d4) (m4:mg "times"=some (.ref f4))
  (F5:Fun K "over" "over" zrm f5 d5) (m5:mg "over"=some (.ref f5))
  (F6:Fun K "below" "below" znJ f6 d6) (m6:mg "below"=some (.ref f6))
  (F7:Fun K "common" "common" zjn f7 d7) (m7:mg "common"=some (.ref f7))
  (F8:Fun K "shared_divisor" "shared_divisor" zeb f8 d8) (m8:mg "shared_divisor"=some (.ref f8))
  (F9:Fun K "lowest" "lowest" zji f9 d9) (m9:mg "lowest"=some (.ref f9))
  (F10:Fun K "is_whole" "is_whole" ziw f10 d10) (m10:mg "is_whole"=some (.ref f10))
  (F11:Fun K "is_within" "is_within" zhF f11 d11) (m11:mg "is_within"=some (.ref f11))
  (F12:Fun K "is_fraction" "is_fraction" zfW f12 d12) (m12:mg "is_fraction"=some (.ref f12))
  (F13:Fun K "are_weights" "are_weights" zey f13 d13) (m13:mg "are_weights"=some (.ref f13))
  (F14:Fun K "is_box" "is_box" zlj f14 d14) (m14:mg "is_box"=some (.ref f14))
  (F15:Fun K "look_boxes" "look_boxes" ze3 f15 d15) (m15:mg "look_boxes"=some (.ref f15))
  (F16:Fun K "look_budget" "look_budget" zfQ f16 d16) (m16:mg "look_budget"=some (.ref f16))
  (F17:Fun K "is_plan" "is_plan" zh8 f17 d17) (m17:mg "is_plan"=some (.ref f17))
  (F18:Fun K "power" "power" zov f18 d18) (m18:mg "power"=some (.ref f18))
  (F19:Fun K "missed" "missed" zlT f19 d19) (m19:mg "missed"=some (.ref f19))
  (F20:Fun K "chance" "chance" zlv f20 d20) (m20:mg "chance"=some (.ref f20))
  (F21:Fun K "gain" "gain" zqF f21 d21) (m21:mg "gain"=some (.ref f21))
  (F22:Fun K "cost_sum" "cost_sum" zgU f22 d22) (m22:mg "cost_sum"=some (.ref f22))
  (F23:Fun K "is_share" "is_share" ziu f23 d23) (m23:mg "is_share"=some (.ref f23))
  (F24:Fun K "is_mix" "is_mix" zjk f24 d24) (m24:mg "is_mix"=some (.ref f24))
  (F25:Fun K "finds_enough" "finds_enough" zfd f25 d25) (m25:mg "finds_enough"=some (.ref f25))
  (F26:Fun K "is_seeker_right" "is_seeker_right" zbw f26 d26) (m26:mg "is_seeker_right"=some (.ref f26))
  (F27:Fun K "is_hider_paper" "is_hider_paper" zej f27 d27) (m27:mg "is_hider_paper"=some (.ref f27))
  (F28:Fun K "is_last_look_worth" "is_last_look_worth" zc1 f28 d28) (m28:mg "is_last_look_worth"=some (.ref f28))
  (F29:Fun K "is_next_look_dear" "is_next_look_dear" zdf f29 d29) (m29:mg "is_next_look_dear"=some (.ref f29))
  (F30:Fun K "is_count_best" "is_count_best" zeQ f30 d30) (m30:mg "is_count_best"=some (.ref f30))
  (F31:Fun K "is_sum_low" "is_sum_low" zd7 f31 d31) (m31:mg "is_sum_low"=some (.ref f31))
  (F32:Fun K "is_hider_right" "is_hider_right" zeh f32 d32) (m32:mg "is_hider_right"=some (.ref f32))
  (F33:Fun K "budget_judged" "budget_judged" zeU f33 d33) (m33:mg "budget_judged"=some (.ref f33))
  (F34:Fun K "added" "added" znF f34 d34) (m34:mg "added"=some (.ref f34))
  (F35:Fun K "least_chance" "least_chance" zfm f35 d35) (m35:mg "least_chance"=some (.ref f35))
  (F36:Fun K "fair_weights" "fair_weights" zdV f36 d36) (m36:mg "fair_weights"=some (.ref f36))
  (F37:Fun K "chance_for" "chance_for" zd0 f37 d37) (m37:mg "chance_for"=some (.ref f37))
  (F38:Fun K "counts_and_worth" "counts_and_worth" zbZ f38 d38) (m38:mg "counts_and_worth"=some (.ref f38))
  (F39:Fun K "look_shares" "look_shares" zeA f39 d39) (m39:mg "look_shares"=some (.ref f39))
  (F40:Fun K "mix_of" "mix_of" zgS f40 d40) (m40:mg "mix_of"=some (.ref f40))
  (F41:Fun K "paper_of" "paper_of" zgR f41 d41) (m41:mg "paper_of"=some (.ref f41))
  (F42:Fun K "sure_answer" "sure_answer" zet f42 d42) (m42:mg "sure_answer"=some (.ref f42))
  (F43:Fun K "is_sure" "is_sure" zgz f43 d43) (m43:mg "is_sure"=some (.ref f43))
  (F44:Fun K "budget_worth" "budget_worth" zfl f44 d44) (m44:mg "budget_worth"=some (.ref f44))
  (F45:Fun K "_law_power" "_law_power" zgv f45 d45) (m45:mg "_law_power"=some (.ref f45))
  (F46:Fun K "_law_purse" "_law_purse" zge f46 d46) (m46:mg "_law_purse"=some (.ref f46))
  (F47:Fun K "_law_draw" "_law_draw" zhC f47 d47) (m47:mg "_law_draw"=some (.ref f47))
  (F48:Fun K "_law_low" "_law_low" zix f48 d48) (m48:mg "_law_low"=some (.ref f48))
  (F49:Fun K "_law_boxes" "_law_boxes" zgJ f49 d49) (m49:mg "_law_boxes"=some (.ref f49))
  (F50:Fun K "_law_whole" "_law_whole" zgq f50 d50) (m50:mg "_law_whole"=some (.ref f50))
  (F51:Fun K "_law_numbers" "_law_numbers" zdT f51 d51) (m51:mg "_law_numbers"=some (.ref f51))
  (F52:Fun K "_law_miss" "_law_miss" zhE f52 d52) (m52:mg "_law_miss"=some (.ref f52))
  (F53:Fun K "_law_seeker" "_law_seeker" zex f53 d53) (m53:mg "_law_seeker"=some (.ref f53))
  (F54:Fun K "_law_price" "_law_price" zgk f54 d54) (m54:mg "_law_price"=some (.ref f54))
  (F55:Fun K "_law_hider" "_law_hider" ze9 f55 d55) (m55:mg "_law_hider"=some (.ref f55))
  (F56:Fun K "_law_bent_number" "_law_bent_number" zdr f56 d56) (m56:mg "_law_bent_number"=some (.ref f56))
  (F57:Fun K "_law_bent_list" "_law_bent_list" zec f57 d57) (m57:mg "_law_bent_list"=some (.ref f57))
  (F58:Fun K "_law_bent_tuple" "_law_bent_tuple" zdL f58 d58) (m58:mg "_law_bent_tuple"=some (.ref f58))
  (F59:Fun K "_law_bent" "_law_bent" zhI f59 d59) (m59:mg "_law_bent"=some (.ref f59))
  (F60:Fun K "_law_other_worth" "_law_other_worth" zdH f60 d60) (m60:mg "_law_other_worth"=some (.ref f60))
  (F61:Fun K "_law_copy" "_law_copy" zeP f61 d61) (m61:mg "_law_copy"=some (.ref f61))
  (F62:Fun K "_law_drawn" "_law_drawn" zgl f62 d62) (m62:mg "_law_drawn"=some (.ref f62))
  (F63:Fun K "law" "law" zwu f63 d63) (m63:mg "law"=some (.ref f63))
  (z_enumerate:mg "enumerate"=none)
  (z_set:mg "set"=none)
  (z_isinstance:mg "isinstance"=none)
  (z_range:mg "range"=none)
  (z_all:mg "all"=none)
  (z_sorted:mg "sorted"=none)
  (z_abs:mg "abs"=none)
  (z_sum:mg "sum"=none)
  (z_len:mg "len"=none)
  (z_list:mg "list"=none)
  (z_zip:mg "zip"=none)
  (z_int:mg "int"=none)
  (z_bool:mg "bool"=none)
  (z_tuple:mg "tuple"=none)
  (z_max:mg "max"=none)
  (z_min:mg "min"=none)
  {c_NoNumber c_NoBoxes c_NoBudget:Addr}
  (ac_NoNumber:mg "NoNumber"=some (.ref c_NoNumber))
  (ac_NoBoxes:mg "NoBoxes"=some (.ref c_NoBoxes))
  (ac_NoBudget:mg "NoBudget"=some (.ref c_NoBudget))
  {k_MOST_BOXES:Tok} (ak_MOST_BOXES:mg "MOST_BOXES"=some (.int 6 k_MOST_BOXES))
  {k_MOST_COST:Tok} (ak_MOST_COST:mg "MOST_COST"=some (.int 60 k_MOST_COST))
  {k_MOST_OF:Tok} (ak_MOST_OF:mg "MOST_OF"=some (.int 50 k_MOST_OF))
  {k_MOST_BUDGET:Tok} (ak_MOST_BUDGET:mg "MOST_BUDGET"=some (.int 60 k_MOST_BUDGET))
  {k_MOST_LOOKS:Tok} (ak_MOST_LOOKS:mg "MOST_LOOKS"=some (.int 60 k_MOST_LOOKS))
  (xc_NoNumber:PySem.W.excIn K c_NoNumber zp7 "ValueError.__new__"=true)
  (xc_NoBoxes:PySem.W.excIn K c_NoBoxes zp7 "ValueError.__new__"=true)
  (xc_NoBudget:PySem.W.excIn K c_NoBudget zp7 "ValueError.__new__"=true)
  : Txt K mg ⟨f0,d0,f1,d1,f2,d2,f3,d3,f4,d4,f5,d5,f6,d6,f7,d7,f8,d8,f9,d9,f10,d10,f11,d11,f12,d12,f13,d13,f14,d14,f15,d15,f16,d16,f17,d17,f18,d18,f19,d19,f20,d20,f21,d21,f22,d22,f23,d23,f24,d24,f25,d25,f26,d26,f27,d27,f28,d28,f29,d29,f30,d30,f31,d31,f32,d32,f33,d33,f34,d34,f35,d35,f36,d36,f37,d37,f38,d38,f39,d39,f40,d40,f41,d41,f42,d42,f43,d43,f44,d44,f45,d45,f46,d46,f47,d47,f48,d48,f49,d49,f50,d50,f51,d51,f52,d52,f53,d53,f54,d54,f55,d55,f56,d56,f57,d57,f58,d58,f59,d59,f60,d60,f61,d61,f62,d62,f63,d63,c_NoNumber,c_NoBoxes,c_NoBudget,k_MOST_BOXES,k_MOST_COST,k_MOST_OF,k_MOST_BUDGET,k_MOST_LOOKS⟩:=by
 exact⟨F0,F0.binds λ_ _ _ _ _ _ us hl=>by obtain⟨_,_,rfl⟩:=zg0 hl;rfl,m0,F1,F1.binds λ_ _ _ _ _ _ us hl=>by obtain⟨_,_,rfl⟩:=zg0 hl;rfl,m1,F2,F2.binds λ_ _ _ _ _ _ us hl=>by obtain⟨_,_,rfl⟩:=zg0 hl;rfl,m2,F3,F3.binds λ_ _ _ _ _ _ us hl=>by obtain⟨_,_,rfl⟩:=zg0 hl;rfl,m3,F4,F4.binds λ_ _ _ _ _ _ us hl=>by obtain⟨_,_,rfl⟩:=zg0 hl;rfl,m4,F5,F5.binds λ_ _ _ _ _ _ us hl=>by obtain⟨_,_,rfl⟩:=zg0 hl;rfl,m5,F6,F6.binds λ_ _ _ _ _ _ us hl=>by obtain⟨_,_,rfl⟩:=zg0 hl;rfl,m6,F7,F7.binds λ_ _ _ _ _ _ us hl=>by obtain⟨_,rfl⟩:=zm6 hl;rfl,m7,F8,F8.binds λ_ _ _ _ _ _ us hl=>by obtain⟨_,rfl⟩:=zm6 hl;rfl,m8,F9,F9.binds λ_ _ _ _ _ _ us hl=>by obtain⟨_,rfl⟩:=zm6 hl;rfl,m9,F10,F10.binds λ_ _ _ _ _ _ us hl=>by obtain⟨_,rfl⟩:=zm6 hl;rfl,m10,F11,F11.binds λ_ _ _ _ _ _ us hl=>by obtain⟨_,_,_,rfl⟩:=zAD hl;rfl,m11,F12,F12.binds λ_ _ _ _ _ _ us hl=>by obtain⟨_,rfl⟩:=zm6 hl;rfl,m12,F13,F13.binds λ_ _ _ _ _ _ us hl=>by obtain⟨_,_,rfl⟩:=zg0 hl;rfl,m13,F14,F14.binds λ_ _ _ _ _ _ us hl=>by obtain⟨_,rfl⟩:=zm6 hl;rfl,m14,F15,F15.binds λ_ _ _ _ _ _ us hl=>by obtain⟨_,rfl⟩:=zm6 hl;rfl,m15,F16,F16.binds λ_ _ _ _ _ _ us hl=>by obtain⟨_,rfl⟩:=zm6 hl;rfl,m16,F17,F17.binds λ_ _ _ _ _ _ us hl=>by obtain⟨_,_,rfl⟩:=zg0 hl;rfl,m17,F18,F18.binds λ_ _ _ _ _ _ us hl=>by obtain⟨_,_,rfl⟩:=zg0 hl;rfl,m18,F19,F19.binds λ_ _ _ _ _ _ us hl=>by obtain⟨_,_,rfl⟩:=zg0 hl;rfl,m19,F20,F20.binds λ_ _ _ _ _ _ us hl=>by obtain⟨_,_,rfl⟩:=zg0 hl;rfl,m20,F21,F21.binds λ_ _ _ _ _ _ us hl=>by obtain⟨_,_,rfl⟩:=zg0 hl;rfl,m21,F22,F22.binds λ_ _ _ _ _ _ us hl=>by obtain⟨_,_,rfl⟩:=zg0 hl;rfl,m22,F23,F23.binds λ_ _ _ _ _ _ us hl=>by obtain⟨_,_,rfl⟩:=zg0 hl;rfl,m23,F24,F24.binds λ_ _ _ _ _ _ us hl=>by obtain⟨_,_,rfl⟩:=zg0 hl;rfl,m24,F25,F25.binds λ_ _ _ _ _ _ us hl=>by obtain⟨_,_,_,_,rfl⟩:=ztI hl;rfl,m25,F26,F26.binds λ_ _ _ _ _ _ us hl=>by obtain⟨_,_,_,_,rfl⟩:=ztI hl;rfl,m26,F27,F27.binds λ_ _ _ _ _ _ us hl=>by obtain⟨_,_,rfl⟩:=zg0 hl;rfl,m27,F28,F28.binds λ_ _ _ _ _ _ us hl=>by obtain⟨_,_,_,_,rfl⟩:=ztI hl;rfl,m28,F29,F29.binds λ_ _ _ _ _ _ us hl=>by obtain⟨_,_,_,_,rfl⟩:=ztI hl;rfl,m29,F30,F30.binds λ_ _ _ _ _ _ us hl=>by obtain⟨_,_,_,_,rfl⟩:=ztI hl;rfl,m30,F31,F31.binds λ_ _ _ _ _ _ us hl=>by obtain⟨_,_,_,_,rfl⟩:=ztI hl;rfl,m31,F32,F32.binds λ_ _ _ _ _ _ us hl=>by obtain⟨_,_,_,_,rfl⟩:=ztI hl;rfl,m32,F33,F33.binds λ_ _ _ _ _ _ us hl=>by obtain⟨_,_,_,_,_,rfl⟩:=lst5 hl;rfl,m33,F34,F34.binds λ_ _ _ _ _ _ us hl=>by obtain⟨_,rfl⟩:=zm6 hl;rfl,m34,F35,F35.binds λ_ _ _ _ _ _ us hl=>by obtain⟨_,rfl⟩:=zm6 hl;rfl,m35,F36,F36.binds λ_ _ _ _ _ _ us hl=>by obtain⟨_,_,rfl⟩:=zg0 hl;rfl,m36,F37,F37.binds λ_ _ _ _ _ _ us hl=>by obtain⟨_,_,_,rfl⟩:=zAD hl;rfl,m37,F38,F38.binds λ_ _ _ _ _ _ us hl=>by obtain⟨_,_,rfl⟩:=zg0 hl;rfl,m38,F39,F39.binds λ_ _ _ _ _ _ us hl=>by obtain⟨_,_,_,rfl⟩:=zAD hl;rfl,m39,F40,F40.binds λ_ _ _ _ _ _ us hl=>by obtain⟨_,_,_,rfl⟩:=zAD hl;rfl,m40,F41,F41.binds λ_ _ _ _ _ _ us hl=>by obtain⟨_,_,rfl⟩:=zg0 hl;rfl,m41,F42,F42.binds λ_ _ _ _ _ _ us hl=>by obtain⟨_,rfl⟩:=zm6 hl;rfl,m42,F43,F43.binds λ_ _ _ _ _ _ us hl=>by obtain⟨_,_,rfl⟩:=zg0 hl;rfl,m43,F44,F44.binds λ_ _ _ _ _ _ us hl=>by obtain⟨_,_,rfl⟩:=zg0 hl;rfl,m44,F45,F45.binds λ_ _ _ _ _ _ us hl=>by obtain⟨_,_,rfl⟩:=zg0 hl;rfl,m45,F46,F46.binds λ_ _ _ _ _ _ us hl=>by obtain⟨_,rfl⟩:=zm6 hl;rfl,m46,F47,F47.binds λ_ _ _ _ _ _ us hl=>by obtain⟨_,_,rfl⟩:=zg0 hl;rfl,m47,F48,F48.binds λ_ _ _ _ _ _ us hl=>by obtain⟨_,_,rfl⟩:=zg0 hl;rfl,m48,F49,F49.binds λ_ _ _ _ _ _ us hl=>by obtain⟨_,_,rfl⟩:=zg0 hl;rfl,m49,F50,F50.binds λ_ _ _ _ _ _ us hl=>by obtain⟨_,rfl⟩:=zm6 hl;rfl,m50,F51,F51.binds λ_ _ _ _ _ _ us hl=>by obtain⟨_,_,_,rfl⟩:=zAD hl;rfl,m51,F52,F52.binds λ_ _ _ _ _ _ us hl=>by obtain⟨_,_,rfl⟩:=zg0 hl;rfl,m52,F53,F53.binds λ_ _ _ _ _ _ us hl=>by obtain⟨_,_,_,_,rfl⟩:=ztI hl;rfl,m53,F54,F54.binds λ_ _ _ _ _ _ us hl=>by obtain⟨_,rfl⟩:=zm6 hl;rfl,m54,F55,F55.binds λ_ _ _ _ _ _ us hl=>by obtain⟨_,_,_,_,rfl⟩:=ztI hl;rfl,m55,F56,F56.binds λ_ _ _ _ _ _ us hl=>by obtain⟨_,_,rfl⟩:=zg0 hl;rfl,m56,F57,F57.binds λ_ _ _ _ _ _ us hl=>by obtain⟨_,_,rfl⟩:=zg0 hl;rfl,m57,F58,F58.binds λ_ _ _ _ _ _ us hl=>by obtain⟨_,_,rfl⟩:=zg0 hl;rfl,m58,F59,F59.binds λ_ _ _ _ _ _ us hl=>by obtain⟨_,_,rfl⟩:=zg0 hl;rfl,m59,F60,F60.binds λ_ _ _ _ _ _ us hl=>by obtain⟨_,_,rfl⟩:=zg0 hl;rfl,m60,F61,F61.binds λ_ _ _ _ _ _ us hl=>by obtain⟨_,rfl⟩:=zm6 hl;rfl,m61,F62,F62.binds λ_ _ _ _ _ _ us hl=>by obtain⟨_,_,rfl⟩:=zg0 hl;rfl,m62,F63,F63.binds λ_ _ _ _ _ _ us hl=>by obtain⟨_,rfl⟩:=zm6 hl;rfl,m63,z_enumerate,z_set,z_isinstance,z_range,z_all,z_sorted,z_abs,z_sum,z_len,z_list,z_zip,z_int,z_bool,z_tuple,z_max,z_min,ac_NoNumber,ac_NoBoxes,ac_NoBudget,ak_MOST_BOXES,ak_MOST_COST,ak_MOST_OF,ak_MOST_BUDGET,ak_MOST_LOOKS,xc_NoNumber,xc_NoBoxes,xc_NoBudget⟩
theorem zAr{K:ψa}{w:World}{mg:Str→Option Value}{h:Heap}{fa:Addr}{P:Program}(X:K.In h)(G:h.Ns mainGlobals mg)(hfa:mg "law"=some (.ref fa)){a:Ad}(T:Txt K mg a) :
  ∃fd:FuncData,(∀(s:Shared) (u:Value),BindsTo s fd ⟨[u],[]⟩ [("_law_script",u)])∧∀base:Heap,K.In base→base.Ns mainGlobals mg→zcr P w K mg base CX0 14 fa fd (Qb8) (zua K):=by
 have e:=hfa.symm.trans T.ma0
 cases e
 refine⟨a.da0,λs v=>?_,λbase _ _=>zzb T⟩
 obtain⟨oc,od,kV,doc,pm,an,cdv,ct,osl,e,lk,hcd⟩:=T.Fa0.ex
 rw[e]
 exact .of_eq rfl
theorem walk{l:PySem.W.OpenLaw}{q:Program}{loose:List Str}{XP:(Str→Option Value)→Heap→Prop}{YP:World→Heap→Prop}{d:DefRec}{K:Params→ψa}(hn:l.most=some 63)(hdf:d.params.defaults=[])
  (hY:∀(w:World) (h:Heap),YP w h→(QcF).In h)
  (F:∀(w:World) (mg:Str→Option Value) (fa:Addr) (h:Heap),(QcF).In h→h.Ns mainGlobals mg→mg d.name=some (.ref fa) →
   ∃fd:FuncData,(∀(s:Shared) (u:Value),BindsTo s fd ⟨[u],[]⟩ [("_law_script",u)])∧∀base:Heap,(QcF).In base→base.Ns mainGlobals mg→zcr l.prog w (QcF) mg base CX0 14 fa fd (Qb8) (zua (QcF))) :
  PySem.W.WalkO q loose XP YP l.row.toRowW d [] (λf vs=>PySem.call f vs) :=
 L2.zux (n:=63) (k:=14) (x:="_law_script") (CX:=λ_=>CX0) (sp:=λw=>zua (QcF)) hn (Qm) hdf ⟨rfl,by decide,by decide⟩ hY F (λ_ _ a ns hb hl _ hS=>⟨a,ns,rfl,hS,hl,hb,λ_=>rfl⟩) λ_ _ _ _ _ z=>z
end My
open PySem PySem.W in
theorem My.walk_at{K:Params→Frag}{w:World}{h:Heap}{l:OpenLaw}{q:Program}{loose:List Str}{XP:(Str→Option Value)→Heap→Prop}{d:DefRec}{C:Prop}(_:(QcF).In h)
  (use:WalkO q loose XP (λw h=>(QcF).In h) l.row.toRowW d [] (λf vs=>PySem.call f vs)→C) (W:WalkO q loose XP (λw h=>(QcF).In h) l.row.toRowW d [] (λf vs=>PySem.call f vs)):C:=use W
noncomputable section
namespace Hd
open PySem PySem.W.Fast
structure Q (α:Type) where
  a:α
  b:α
  c:α
  d:α
  e:α
  f:α
  g:α
  h:α
class X where
  s:Q (Q (Q Str))
  t:Q (Q (Q String))
  r:Q (Q (Q Obj))
  p:Program
  P:Params
noncomputable def sp (p:Program) (n:Nat):Stmt:=(p.main.body.drop n).headD (.Pass ⟨0,0,0,0⟩)
noncomputable def st [x:X] (n:Nat):Stmt:=sp x.p n
noncomputable def cb:Stmt→List Stmt
  | .ClassDef _ _ _ b ..=>b
  | _=>[]
noncomputable def sm [x:X] (n k:Nat):Stmt:=((cb (st n)).drop k).headD (.Pass ⟨0,0,0,0⟩)
noncomputable def fn (s:Stmt) (q:Str) (g:Addr) (c:List (Str×Addr)) (d k o m:Value) (a:Option Addr) (z t:Value) (b:Addr):FuncData:=match s with
  | .FunctionDef n p y _ _ _ u ..=>⟨n,q,p,.stmts y,u,g,c,d,k,o,m,a,z,t,b⟩
  | _=>default
abbrev z:=W.BT.nil
noncomputable def N (o:Obj) (l r:W.BT):W.BT:=.node o l r
noncomputable def L (o:Obj):W.BT:=.node o .nil .nil
noncomputable def e [x:X] (s:Str) (n:Nat) (v:Value):DictEntry:=⟨PyData.keyHash x.P s,.str s n,v⟩
noncomputable def vR (n:Nat):Option Value:=some (.ref n)
noncomputable def vr (n:Nat):Value:=.ref n
noncomputable def vO:Value:=.int 0 0
noncomputable def vI (n:Int):Value:=.int n 0
noncomputable def vS (s:Str) (n:Tok):Value:=.str s n
noncomputable def vY (s:String):Value:=.type s
noncomputable def vB (s:String):Value:=.builtin s
section
variable [x:X]
abbrev s0:=x.s.a.e.c
abbrev s1:=x.s.b.f.c
abbrev r2:=x.r.a.a.a
abbrev r3:=x.r.a.a.b
abbrev r4:=x.r.a.a.c
abbrev r5:=x.r.a.a.e
abbrev r6:=x.r.a.a.f
abbrev r7:=x.r.a.a.g
abbrev r8:=x.r.a.a.h
abbrev r9:=x.r.a.b.a
abbrev r10:=x.r.a.b.b
abbrev r11:=x.r.a.b.c
abbrev s12:=x.s.a.c.f
abbrev s13:=x.s.a.a.e
abbrev s14:=x.s.b.b.d
abbrev s15:=x.s.b.h.g
abbrev s16:=x.s.b.b.g
abbrev s17:=x.s.a.b.f
abbrev t18:=x.t.a.a.a
abbrev s19:=x.s.a.d.e
abbrev s20:=x.s.a.d.f
abbrev s21:=x.s.a.d.h
abbrev s22:=x.s.a.e.a
abbrev s23:=x.s.a.g.f
abbrev s24:=x.s.a.a.f
abbrev s25:=x.s.b.b.h
abbrev s26:=x.s.b.c.f
abbrev s27:=x.s.b.c.g
def i0:=e x.s.a.a.d 165 (vS s13 187)
def i1:=e s24 166 .none
def i2:=e x.s.a.a.g 167 .none
def i3:=e x.s.a.a.h 168 (vB x.t.a.a.e)
def i4:=e x.s.a.b.a 169 .none
def i5:=e x.s.a.b.b 170 (vr 6)
def i6:=e x.s.a.b.c 171 (vr 4)
def i7:=e x.s.a.b.d 173 (vS x.s.a.a.b 172)
def i8:=e x.s.a.b.e 174 .none
def i9:=e s17 206 (vr 24)
def i10:=e x.s.a.b.g 196 (vS s13 187)
def i11:=e x.s.a.b.h 198 (vS s17 197)
def i12:=e x.s.a.c.a 200 (.int 2 199)
def i13:=e x.s.a.c.b 201 (vr 22)
def i14:=e x.s.a.c.c 203 (vr 25)
def i15:=e s24 204 .none
def i16:=e x.s.a.c.d 222 (vr 37)
def i17:=e x.s.a.b.g 214 (vS s13 187)
def i18:=e x.s.a.b.h 216 (vS x.s.a.c.d 215)
def i19:=e x.s.a.c.a 218 (.int 4 217)
def i20:=e x.s.a.c.b 219 (vr 35)
def i21:=e s24 220 .none
def i22:=e x.s.a.c.e 238 (vr 49)
def i23:=e x.s.a.b.g 230 (vS s13 187)
def i24:=e x.s.a.b.h 232 (vS x.s.a.c.e 231)
def i25:=e x.s.a.c.a 234 (.int 6 233)
def i26:=e x.s.a.c.b 235 (vr 47)
def i27:=e s24 236 .none
def i28:=e x.s.a.a.d 165 (vS s12 255)
def i29:=e x.s.a.c.g 254 (vr 61)
def i30:=e x.s.a.c.h 265 (vr 70)
def i31:=e x.s.a.d.a 274 (vr 77)
def i32:=e x.s.a.d.b 282 (vr 84)
def i33:=e x.s.a.d.c 290 (vr 91)
def i34:=e x.s.a.d.d 298 (vr 98)
def i35:=e x.s.a.b.g 246 (vS s13 187)
def i36:=e x.s.a.b.h 248 (vS x.s.a.c.g 247)
def i37:=e x.s.a.c.a 250 (.int 8 249)
def i38:=e x.s.a.c.b 251 (vr 59)
def i39:=e s24 252 .none
def i40:=e x.s.a.a.d 165 (vS s0 367)
def i41:=e x.s.a.e.d 306 (vr 105)
def i42:=e x.s.a.e.e 314 (vr 112)
def i43:=e x.s.a.e.f 320 (vr 117)
def i44:=e x.s.a.e.g 329 (vr 124)
def i45:=e x.s.a.e.h 335 (vr 129)
def i46:=e x.s.a.f.a 344 (vr 136)
def i47:=e x.s.a.f.b 353 (vr 143)
def i48:=e x.s.a.f.c 359 (vr 148)
def i49:=e x.s.a.f.d 366 (vr 155)
def i50:=e x.s.a.f.e 370 (.int 6 369)
def i51:=e x.s.a.f.f 372 (.int 60 371)
def i52:=e x.s.a.f.g 374 (.int 50 373)
def i53:=e x.s.a.f.h 376 (.int 60 375)
def i54:=e x.s.a.g.a 378 (.int 60 377)
def i55:=e x.s.a.g.b 388 (vr 162)
def i56:=e x.s.a.g.c 394 (vr 167)
def i57:=e x.s.a.h.e 401 (vr 174)
def i58:=e x.s.a.h.f 407 (vr 179)
def i59:=e x.s.a.h.g 417 (vr 186)
def i60:=e x.s.a.h.h 425 (vr 193)
def i61:=e x.s.b.a.a 435 (vr 200)
def i62:=e x.s.b.a.b 445 (vr 207)
def i63:=e x.s.b.a.c 451 (vr 212)
def i64:=e x.s.b.a.d 459 (vr 219)
def i65:=e x.s.b.a.e 465 (vr 224)
def i66:=e x.s.b.a.f 481 (vr 231)
def i67:=e x.s.b.a.g 487 (vr 236)
def i68:=e x.s.b.a.h 498 (vr 243)
def i69:=e x.s.b.b.a 510 (vr 250)
def i70:=e x.s.b.c.h 522 (vr 257)
def i71:=e x.s.b.d.a 532 (vr 264)
def i72:=e x.s.b.d.b 538 (vr 269)
def i73:=e x.s.b.d.c 554 (vr 276)
def i74:=e x.s.b.d.d 565 (vr 283)
def i75:=e x.s.b.d.e 574 (vr 290)
def i76:=e x.s.b.d.f 583 (vr 297)
def i77:=e x.s.b.d.g 589 (vr 302)
def i78:=e x.s.b.d.h 595 (vr 307)
def i79:=e x.s.b.e.a 601 (vr 312)
def i80:=e x.s.b.e.b 607 (vr 317)
def i81:=e x.s.b.e.c 613 (vr 322)
def i82:=e x.s.b.e.d 619 (vr 327)
def i83:=e x.s.a.a.d 165 (vS s1 642)
def i84:=e x.s.b.f.d 625 (vr 332)
def i85:=e x.s.b.f.e 631 (vr 337)
def i86:=e x.s.b.f.f 641 (vr 344)
def i87:=e x.s.b.f.g 653 (vr 351)
def i88:=e x.s.b.f.h 661 (vr 358)
def i89:=e x.s.b.g.a 674 (vr 365)
def i90:=e x.s.b.g.b 685 (vr 372)
def i91:=e x.s.b.g.c 698 (vr 379)
def i92:=e x.s.b.g.d 705 (vr 386)
def i93:=e x.s.b.g.e 711 (vr 391)
def i94:=e x.s.b.g.f 719 (vr 398)
def i95:=e x.s.b.g.g 725 (vr 403)
def i96:=e x.s.b.g.h 732 (vr 410)
def i97:=e x.s.c.b.h 738 (vr 415)
def i98:=e x.s.c.c.a 748 (vr 422)
def i99:=e x.s.c.c.b 758 (vr 429)
def i100:=e x.s.c.c.c 768 (vr 436)
def i101:=e x.s.c.c.d 776 (vr 443)
def i102:=e x.s.c.c.e 789 (vr 450)
def i103:=e x.s.c.c.f 795 (vr 455)
def i104:=e x.s.c.c.g 806 (vr 462)
def i105:=e x.s.c.c.h 822 (vr 469)
def h0(p0:Array Value):Obj:=⟨(vY t18),none,(.seq p0 0),#[]⟩
def h1(p0:Array Value):Obj:=⟨.none,none,(.fields p0),#[]⟩
def h2(p0:Str)(p1 p2 p3:Tok)(p4:Int)(p5 p6:Value)(p7:Nat)(p8:Value)(p9:Nat)(p10 p11 p12:Value)(p13:Int)(p14:Tok):Obj:=⟨(vY x.t.a.a.b),none,(.fields #[(vS p0 p1),(vS p0 p2),(vS x.s.a.a.b p3),(vI p4),p5,vO,vO,p6,(vr p7),p8,(vI 181),(vr p9),.none,p10,p11,p12,(vI p13),(vI p4),(vS x.s.a.a.b p14)]),#[]⟩
def h3(p0 p1:Nat)(p2:Str)(p3:Tok):Obj:=⟨(vY x.t.a.a.c),none,.plain,#[(vR p0),(vR 3),(vR p1),none,(some (vS p2 p3)),none,(vR 0)]⟩
def h4(p0:Array DictEntry)(p1:Nat):Obj:=⟨(vY x.t.a.a.d),none,(.dict p0 p1),#[]⟩
def h5(p0:String)(p1:Value):Obj:=⟨(vY x.t.a.a.g),none,(.fields #[(vB p0),p1]),#[]⟩
def h6(p0:List Value):Obj:=⟨(vY x.t.a.b.a),none,(.cls ⟨s17,[(vY x.t.a.a.f)],[(vr 24),(vY x.t.a.a.f),(vY x.t.a.b.b),(vY x.t.a.b.c),(vY x.t.a.b.d)],23,s17,true,[],p0,false,none,false⟩),#[(vR 15),none,(some (vS s17 189)),(some (vS s17 197)),(some (vB x.t.a.b.e)),(some (Qx))]⟩
def h7(p0:Nat):Obj:=⟨(vY x.t.a.b.h),none,(.fields #[(vr p0),(vr p0),(vr p0)]),#[]⟩
def h8(p0:Str)(p1 p2 p3:Nat)(p4 p5:Tok):Obj:=⟨(vY x.t.a.b.a),none,(.cls ⟨p0,[(vr 24)],[(vr p1),(vr 24),(vY x.t.a.a.f),(vY x.t.a.b.b),(vY x.t.a.b.c),(vY x.t.a.b.d)],p2,p0,true,[],[],false,none,false⟩),#[(vR p3),none,(some (vS p0 p4)),(some (vS p0 p5)),(some (vB x.t.a.b.e)),(some (Qx))]⟩
def h9(p0:Nat)(p1:Str):Obj:=⟨.none,none,(.func (fn (st p0) p1 0 [] .none .none .none .none none .none .none 0)),#[]⟩
def h10(p0:Nat)(p1 p2:Str)(p3:Tok)(p4:Nat):Obj:=⟨(vY x.t.a.c.b),none,(.func (fn (st p0) p1 3 [] .none .none .none (vS p2 p3) none (vr p4) .none 0)),#[]⟩
def zaF:=h0 #[]
def zbg:=h1 #[]
def zqo:=h2 x.s.a.a.a 182 183 184 1 vO vO 11 (.bool false) 12 .none .none .none 185 186
def zqm:=h3 13 3 x.s.a.a.c 164
def b956:=h4 #[i0,i1,i2,i3,i4,i5,i6,i7,i8,i9] 10
def b957:=h1 #[(vI 2),vO,(vr 20)]
def ztE:=h0 #[(vY x.t.a.a.f)]
def zgM:=h5 x.t.a.a.h (vY x.t.a.b.a)
def ztv:=h4 #[i10,i11,i12,i13] 4
def ztC:=h2 s17 191 192 193 2 vO vO 18 (.bool false) 19 .none .none .none 194 195
def ztB:=h3 20 17 s13 187
def ztA:=h4 #[i10,i12,i13,i14,i15] 3
def b967:=h6 []
def ztw:Obj:=⟨(vY x.t.a.b.f),none,(.fields #[(vS x.s.a.c.c 202),(vr 24),(vB x.t.a.b.g),.none]),#[]⟩
def ztD:=h7 24
def ztz:=h5 x.t.a.c.a (vr 24)
def b971:=h4 #[i0,i1,i2,i3,i4,i5,i6,i7,i8,i9,i16] 11
def b972:=h1 #[(vI 2),vO,(vr 20),(vI 4),vO,(vr 33)]
def b973:=h6 [(vr 37)]
def zjh:=h0 #[(vr 24)]
def zuy:=h4 #[i17,i18,i19,i20] 4
def zvs:=h2 x.s.a.c.d 209 210 211 4 vO vO 31 (.bool false) 32 .none .none .none 212 213
def ztW:=h3 33 30 s13 187
def zt8:=h4 #[i17,i19,i20,i21] 2
def zvL:=h8 x.s.a.c.d 37 36 28 207 215
def zuY:=h7 37
def zvA:=h5 x.t.a.c.a (vr 37)
def b986:=h4 #[i0,i1,i2,i3,i4,i5,i6,i7,i8,i9,i16,i22] 12
def b987:=h1 #[(vI 2),vO,(vr 20),(vI 4),vO,(vr 33),(vI 6),vO,(vr 45)]
def b988:=h6 [(vr 37),(vr 49)]
def zwb:=h4 #[i23,i24,i25,i26] 4
def zv2:=h2 x.s.a.c.e 225 226 227 6 vO vO 43 (.bool false) 44 .none .none .none 228 229
def zv6:=h3 45 42 s13 187
def zvU:=h4 #[i23,i25,i26,i27] 2
def zwg:=h8 x.s.a.c.e 49 48 40 223 231
def zv8:=h7 49
def zmH:=h5 x.t.a.c.a (vr 49)
def b1001:=h4 #[i28,i1,i2,i3,i4,i5,i6,i7,i8,i9,i16,i22,i29,i30,i31,i32,i33,i34] 18
def b1002:=h1 #[(vI 2),vO,(vr 20),(vI 4),vO,(vr 33),(vI 6),vO,(vr 45),(vI 8),vO,(vr 57),(vI 11),vO,(vr 69),(vI 19),vO,(vr 76),(vI 26),vO,(vr 83),(vI 28),vO,(vr 90),(vI 30),vO,(vr 97)]
def zoc:=h6 [(vr 37),(vr 49),(vr 61)]
def zog:=h4 #[i35,i36,i37,i38] 4
def znh:=h2 x.s.a.c.g 241 242 243 8 vO vO 55 (.bool false) 56 .none .none .none 244 245
def zox:=h3 57 54 s13 187
def znY:=h4 #[i35,i37,i38,i39] 2
def znC:=h8 x.s.a.c.g 61 60 52 239 247
def znR:=h7 61
def zm9:=h5 x.t.a.c.a (vr 61)
def zos:=h0 #[(vS s19 260),(vS s20 261),(vS x.s.a.d.g 262)]
def znL:=h9 6 x.s.a.c.h
def znK:=h2 x.s.a.c.h 257 258 259 11 (vI 2) (vI 3) 64 (Qx) 65 (vr 66) (vr 67) (vr 68) 263 264
def zoh:=h10 6 x.s.a.c.h s12 255 69
def znx:=h0 #[(vS s21 269),(vS s22 270),(vS x.s.a.e.b 271)]
def znk:=h9 7 x.s.a.d.a
def znv:=h2 x.s.a.d.a 266 267 268 19 (vI 2) (vI 3) 71 (Qx) 72 (vr 73) (vr 74) (vr 75) 272 273
def zon:=h10 7 x.s.a.d.a s12 255 76
def zoz:=h0 #[(vS s19 278),(vS s20 279)]
def zna:=h9 8 x.s.a.d.b
def znS:=h2 x.s.a.d.b 275 276 277 26 (vI 2) (vI 3) 78 (Qx) 79 (vr 80) (vr 81) (vr 82) 280 281
def znq:=h10 8 x.s.a.d.b s12 255 83
def zpy:=h0 #[(vS s19 286),(vS s20 287)]
def zp8:=h9 9 x.s.a.d.c
def zqd:=h2 x.s.a.d.c 283 284 285 28 (vI 2) (vI 3) 85 (Qx) 86 (vr 87) (vr 88) (vr 89) 288 289
def zn7:=h10 9 x.s.a.d.c s12 255 90
def zob:=h0 #[(vS s19 294),(vS s20 295)]
def zoo:=h9 10 x.s.a.d.d
def zoq:=h2 x.s.a.d.d 291 292 293 30 (vI 2) (vI 3) 92 (Qx) 93 (vr 94) (vr 95) (vr 96) 296 297
def znj:=h10 10 x.s.a.d.d s12 255 97
def b1051:=h4 #[i40,i1,i2,i3,i4,i5,i6,i7,i8,i9,i16,i22,i29,i30,i31,i32,i33,i34,i41,i42,i43,i44,i45,i46,i47,i48,i49,i50,i51,i52,i53,i54,i55,i56] 34
def b1052:=h1 #[(vI 2),vO,(vr 20),(vI 4),vO,(vr 33),(vI 6),vO,(vr 45),(vI 8),vO,(vr 57),(vI 11),vO,(vr 69),(vI 19),vO,(vr 76),(vI 26),vO,(vr 83),(vI 28),vO,(vr 90),(vI 30),vO,(vr 97),(vI 32),vO,(vr 104),(vI 34),vO,(vr 111),(vI 36),vO,(vr 116),(vI 41),vO,(vr 123),(vI 46),vO,(vr 128),(vI 50),vO,(vr 135),(vI 52),vO,(vr 142),(vI 54),vO,(vr 147),(vI 58),vO,(vr 154),(vI 70),vO,(vr 161),(vI 75),vO,(vr 166)]
def zqh:=h0 #[(vS s19 302),(vS s20 303)]
def zp2:=h9 11 x.s.a.e.d
def zpV:=h2 x.s.a.e.d 299 300 301 32 (vI 2) (vI 3) 99 (Qx) 100 (vr 101) (vr 102) (vr 103) 304 305
def zpv:=h10 11 x.s.a.e.d s12 255 104
def zpI:=h0 #[(vS s19 310),(vS s20 311)]
def zqi:=h9 12 x.s.a.e.e
def zpW:=h2 x.s.a.e.e 307 308 309 34 (vI 2) (vI 3) 106 (Qx) 107 (vr 108) (vr 109) (vr 110) 312 313
def zpD:=h10 12 x.s.a.e.e s12 255 111
def zpC:=h9 13 x.s.a.e.f
def zpu:=h2 x.s.a.e.f 315 316 317 36 (vI 1) (vI 3) 113 (Qx) 114 .none .none (vr 115) 318 319
def zpX:=h10 13 x.s.a.e.f s12 255 116
def zqg:=h0 #[(vS x.s.a.g.d 324),(vS x.s.a.e.b 325),(vS x.s.a.g.e 326)]
def zpR:=h9 14 x.s.a.e.g
def zqf:=h2 x.s.a.e.g 321 322 323 41 (vI 1) (vI 3) 118 (Qx) 119 (vr 120) (vr 121) (vr 122) 327 328
def zqk:=h10 14 x.s.a.e.g s12 255 123
def zqM:=h9 15 x.s.a.e.h
def ztd:=h2 x.s.a.e.h 330 331 332 46 (vI 1) (vI 3) 125 (Qx) 126 .none .none (vr 127) 333 334
def zqA:=h10 15 x.s.a.e.h s12 255 128
def zrZ:=h0 #[(vS s23 341)]
def zr0:=h9 17 x.s.a.f.a
def ztt:=h2 x.s.a.f.a 338 339 340 50 (vI 1) (vI 3) 130 (Qx) 131 (vr 132) (vr 133) (vr 134) 342 343
def zrK:=h10 17 x.s.a.f.a x.s.a.g.g 336 135
def zsR:=h0 #[(vS s23 348),(vS x.s.a.g.h 349),(vS x.s.a.h.a 350)]
def zrs:=h9 18 x.s.a.f.b
def zsI:=h2 x.s.a.f.b 345 346 347 52 (vI 3) (vI 3) 137 (Qx) 138 (vr 139) (vr 140) (vr 141) 351 352
def zpQ:=h10 18 x.s.a.f.b x.s.a.g.g 336 142
def zqL:=h9 19 x.s.a.f.c
def zsQ:=h2 x.s.a.f.c 354 355 356 54 (vI 2) (vI 3) 144 (Qx) 145 .none .none (vr 146) 357 358
def zru:=h10 19 x.s.a.f.c x.s.a.g.g 336 147
def zre:=h0 #[(vS s23 363)]
def zqC:=h9 20 x.s.a.f.d
def zsx:=h2 x.s.a.f.d 360 361 362 58 (vI 1) (vI 3) 149 (Qx) 150 (vr 151) (vr 152) (vr 153) 364 365
def zsY:=h10 20 x.s.a.f.d x.s.a.g.g 336 154
def zsW:=h0 #[(vS s23 382),(vS x.s.a.h.b 383),(vS x.s.a.h.c 384),(vS x.s.a.h.d 385)]
def ztc:=h9 27 x.s.a.g.b
def zsw:=h2 x.s.a.g.b 379 380 381 70 (vI 1) (vI 3) 156 (Qx) 157 (vr 158) (vr 159) (vr 160) 386 387
def zrM:=h10 27 x.s.a.g.b s0 367 161
def zrS:=h9 28 x.s.a.g.c
def zpT:=h2 x.s.a.g.c 389 390 391 75 (vI 1) (vI 3) 163 (Qx) 164 .none .none (vr 165) 392 393
def zrk:=h10 28 x.s.a.g.c s0 367 166
def b1122:=h4 #[i40,i1,i2,i3,i4,i5,i6,i7,i8,i9,i16,i22,i29,i30,i31,i32,i33,i34,i41,i42,i43,i44,i45,i46,i47,i48,i49,i50,i51,i52,i53,i54,i55,i56,i57,i58,i59,i60,i61,i62,i63,i64,i65,i66,i67,i68,i69] 47
def b1123:=h1 #[(vI 2),vO,(vr 20),(vI 4),vO,(vr 33),(vI 6),vO,(vr 45),(vI 8),vO,(vr 57),(vI 11),vO,(vr 69),(vI 19),vO,(vr 76),(vI 26),vO,(vr 83),(vI 28),vO,(vr 90),(vI 30),vO,(vr 97),(vI 32),vO,(vr 104),(vI 34),vO,(vr 111),(vI 36),vO,(vr 116),(vI 41),vO,(vr 123),(vI 46),vO,(vr 128),(vI 50),vO,(vr 135),(vI 52),vO,(vr 142),(vI 54),vO,(vr 147),(vI 58),vO,(vr 154),(vI 70),vO,(vr 161),(vI 75),vO,(vr 166),(vI 78),vO,(vr 173),(vI 81),vO,(vr 178),(vI 85),vO,(vr 185),(vI 90),vO,(vr 192),(vI 92),vO,(vr 199),(vI 95),vO,(vr 206),(vI 98),vO,(vr 211),(vI 100),vO,(vr 218),(vI 104),vO,(vr 223),(vI 106),vO,(vr 230),(vI 113),vO,(vr 235),(vI 121),vO,(vr 242),(vI 126),vO,(vr 249)]
def zsg:=h0 #[(vS x.s.b.b.b 398)]
def ztG:=h9 29 x.s.a.h.e
def zuF:=h2 x.s.a.h.e 395 396 397 78 (vI 1) (vI 3) 168 (Qx) 169 (vr 170) (vr 171) (vr 172) 399 400
def ztY:=h10 29 x.s.a.h.e s0 367 173
def zuO:=h9 30 x.s.a.h.f
def zuk:=h2 x.s.a.h.f 402 403 404 81 (vI 2) (vI 3) 175 (Qx) 176 .none .none (vr 177) 405 406
def zvp:=h10 30 x.s.a.h.f s0 367 178
def zvk:=h0 #[(vS x.s.b.b.c 411),(vS s14 412),(vS x.s.b.b.e 413),(vS x.s.b.b.f 414)]
def ztN:=h9 31 x.s.a.h.g
def zs3:=h2 x.s.a.h.g 408 409 410 85 (vI 2) (vI 3) 180 (Qx) 181 (vr 182) (vr 183) (vr 184) 415 416
def zqT:=h10 31 x.s.a.h.g s0 367 185
def ztV:=h0 #[(vS s16 421),(vS s14 422)]
def zso:=h9 32 x.s.a.h.h
def zvO:=h2 x.s.a.h.h 418 419 420 90 (vI 2) (vI 3) 187 (Qx) 188 (vr 189) (vr 190) (vr 191) 423 424
def zuM:=h10 32 x.s.a.h.h s0 367 192
def zsa:=h0 #[(vS s16 429),(vS s14 430),(vS s21 431),(vS s22 432)]
def zvu:=h9 33 x.s.b.a.a
def zug:=h2 x.s.b.a.a 426 427 428 92 (vI 2) (vI 3) 194 (Qx) 195 (vr 196) (vr 197) (vr 198) 433 434
def zsX:=h10 33 x.s.b.a.a s0 367 199
def zsG:=h0 #[(vS s16 439),(vS s14 440),(vS s21 441),(vS s22 442)]
def ztl:=h9 34 x.s.b.a.b
def zrB:=h2 x.s.b.a.b 436 437 438 95 (vI 2) (vI 3) 201 (Qx) 202 (vr 203) (vr 204) (vr 205) 443 444
def zr4:=h10 34 x.s.b.a.b s0 367 206
def zrF:=h9 35 x.s.b.a.c
def zrg:=h2 x.s.b.a.c 446 447 448 98 (vI 2) (vI 3) 208 (Qx) 209 .none .none (vr 210) 449 450
def zrx:=h10 35 x.s.b.a.c s0 367 211
def zvn:=h0 #[(vS s23 455),(vS s25 456)]
def zu4:=h9 36 x.s.b.a.d
def zvC:=h2 x.s.b.a.d 452 453 454 100 (vI 2) (vI 3) 213 (Qx) 214 (vr 215) (vr 216) (vr 217) 457 458
def zvF:=h10 36 x.s.b.a.d s0 367 218
def zvi:=h9 37 x.s.b.a.e
def zt0:=h2 x.s.b.a.e 460 461 462 104 (vI 2) (vI 3) 220 (Qx) 221 .none .none (vr 222) 463 464
def zsj:=h10 37 x.s.b.a.e s0 367 223
def zsT:Obj:=⟨(vY t18),none,(.seq #[(vS s16 469),(vS x.s.b.c.a 470),(vS x.s.b.c.b 471),(vS x.s.b.c.c 472),(vS x.s.b.c.d 473),(vS x.s.b.c.e 474),(vS s14 475),(vS s26 476),(vS s21 477),(vS s22 478)] 0),#[]⟩
def zu6:=h9 38 x.s.b.a.f
def zvr:=h2 x.s.b.a.f 466 467 468 106 (vI 4) (vI 3) 225 (Qx) 226 (vr 227) (vr 228) (vr 229) 479 480
def zqy:=h10 38 x.s.b.a.f s0 367 230
def zsE:=h9 39 x.s.b.a.g
def zu8:=h2 x.s.b.a.g 482 483 484 113 (vI 4) (vI 3) 232 (Qx) 233 .none .none (vr 234) 485 486
def zu9:=h10 39 x.s.b.a.g s0 367 235
def zq7:=h0 #[(vS s23 491),(vS s25 492),(vS x.s.b.c.b 493),(vS s27 494),(vS x.s.b.c.a 495)]
def zqY:=h9 40 x.s.b.a.h
def zuQ:=h2 x.s.b.a.h 488 489 490 121 (vI 2) (vI 3) 237 (Qx) 238 (vr 239) (vr 240) (vr 241) 496 497
def zu1:=h10 40 x.s.b.a.h s0 367 242
def zsi:=h0 #[(vS s16 502),(vS s26 503),(vS s27 504),(vS s14 505),(vS s21 506),(vS s22 507)]
def zsk:=h9 41 x.s.b.b.a
def zvy:=h2 x.s.b.b.a 499 500 501 126 (vI 4) (vI 3) 244 (Qx) 245 (vr 246) (vr 247) (vr 248) 508 509
def zub:=h10 41 x.s.b.b.a s0 367 249
def b1207:=h4 #[i40,i1,i2,i3,i4,i5,i6,i7,i8,i9,i16,i22,i29,i30,i31,i32,i33,i34,i41,i42,i43,i44,i45,i46,i47,i48,i49,i50,i51,i52,i53,i54,i55,i56,i57,i58,i59,i60,i61,i62,i63,i64,i65,i66,i67,i68,i69,i70,i71,i72,i73,i74,i75,i76,i77,i78,i79,i80,i81,i82] 60
def b1208:=h1 #[(vI 2),vO,(vr 20),(vI 4),vO,(vr 33),(vI 6),vO,(vr 45),(vI 8),vO,(vr 57),(vI 11),vO,(vr 69),(vI 19),vO,(vr 76),(vI 26),vO,(vr 83),(vI 28),vO,(vr 90),(vI 30),vO,(vr 97),(vI 32),vO,(vr 104),(vI 34),vO,(vr 111),(vI 36),vO,(vr 116),(vI 41),vO,(vr 123),(vI 46),vO,(vr 128),(vI 50),vO,(vr 135),(vI 52),vO,(vr 142),(vI 54),vO,(vr 147),(vI 58),vO,(vr 154),(vI 70),vO,(vr 161),(vI 75),vO,(vr 166),(vI 78),vO,(vr 173),(vI 81),vO,(vr 178),(vI 85),vO,(vr 185),(vI 90),vO,(vr 192),(vI 92),vO,(vr 199),(vI 95),vO,(vr 206),(vI 98),vO,(vr 211),(vI 100),vO,(vr 218),(vI 104),vO,(vr 223),(vI 106),vO,(vr 230),(vI 113),vO,(vr 235),(vI 121),vO,(vr 242),(vI 126),vO,(vr 249),(vI 129),vO,(vr 256),(vI 132),vO,(vr 263),(vI 136),vO,(vr 268),(vI 145),vO,(vr 275),(vI 153),vO,(vr 282),(vI 161),vO,(vr 289),(vI 166),vO,(vr 296),(vI 172),vO,(vr 301),(vI 174),vO,(vr 306),(vI 180),vO,(vr 311),(vI 189),vO,(vr 316),(vI 191),vO,(vr 321),(vI 204),vO,(vr 326)]
def zt2:=h0 #[(vS s16 514),(vS s26 515),(vS s27 516),(vS s14 517),(vS s21 518),(vS s22 519)]
def zwS:=h9 42 x.s.b.c.h
def zxF:=h2 x.s.b.c.h 511 512 513 129 (vI 4) (vI 3) 251 (Qx) 252 (vr 253) (vr 254) (vr 255) 520 521
def zwG:=h10 42 x.s.b.c.h s0 367 256
def zx8:=h0 #[(vS s16 526),(vS s26 527),(vS s27 528),(vS s14 529)]
def zxv:=h9 43 x.s.b.d.a
def zwA:=h2 x.s.b.d.a 523 524 525 132 (vI 4) (vI 3) 258 (Qx) 259 (vr 260) (vr 261) (vr 262) 530 531
def zyj:=h10 43 x.s.b.d.a s0 367 263
def zw2:=h9 44 x.s.b.d.b
def zxo:=h2 x.s.b.d.b 533 534 535 136 (vI 4) (vI 3) 265 (Qx) 266 .none .none (vr 267) 536 537
def zye:=h10 44 x.s.b.d.b s0 367 268
def zyx:Obj:=⟨(vY t18),none,(.seq #[(vS s25 542),(vS x.s.b.b.b 543),(vS x.s.b.c.c 544),(vS x.s.b.e.e 545),(vS x.s.b.c.b 546),(vS s27 547),(vS x.s.b.c.a 548),(vS s16 549),(vS s26 550),(vS s14 551)] 0),#[]⟩
def zwM:=h9 45 x.s.b.d.c
def zxa:=h2 x.s.b.d.c 539 540 541 145 (vI 4) (vI 3) 270 (Qx) 271 (vr 272) (vr 273) (vr 274) 552 553
def zx5:=h10 45 x.s.b.d.c s0 367 275
def zxe:=h0 #[(vS s25 558),(vS x.s.b.b.b 559),(vS x.s.b.c.c 560),(vS x.s.b.e.f 561),(vS x.s.b.e.e 562)]
def zwK:=h9 46 x.s.b.d.d
def zxY:=h2 x.s.b.d.d 555 556 557 153 (vI 5) (vI 3) 277 (Qx) 278 (vr 279) (vr 280) (vr 281) 563 564
def zw4:=h10 46 x.s.b.d.d s0 367 282
def zw8:=h0 #[(vS x.s.b.e.g 569),(vS x.s.b.e.h 570),(vS x.s.b.f.a 571)]
def zyl:=h9 47 x.s.b.d.e
def zxc:=h2 x.s.b.d.e 566 567 568 161 (vI 1) (vI 3) 284 (Qx) 285 (vr 286) (vr 287) (vr 288) 572 573
def zxZ:=h10 47 x.s.b.d.e s0 367 289
def zxw:=h0 #[(vS x.s.b.f.b 578),(vS x.s.a.g.h 579),(vS s19 580)]
def zwV:=h9 48 x.s.b.d.f
def zu0:=h2 x.s.b.d.f 575 576 577 166 (vI 1) (vI 3) 291 (Qx) 292 (vr 293) (vr 294) (vr 295) 581 582
def zuL:=h10 48 x.s.b.d.f s0 367 296
def zxU:=h9 49 x.s.b.d.g
def zw5:=h2 x.s.b.d.g 584 585 586 172 (vI 2) (vI 3) 298 (Qx) 299 .none .none (vr 300) 587 588
def zxK:=h10 49 x.s.b.d.g s0 367 301
def zwE:=h9 50 x.s.b.d.h
def zxC:=h2 x.s.b.d.h 590 591 592 174 (vI 3) (vI 3) 303 (Qx) 304 .none .none (vr 305) 593 594
def zxi:=h10 50 x.s.b.d.h s0 367 306
def zwY:=h9 51 x.s.b.e.a
def ztR:=h2 x.s.b.e.a 596 597 598 180 (vI 2) (vI 3) 308 (Qx) 309 .none .none (vr 310) 599 600
def zya:=h10 51 x.s.b.e.a s0 367 311
def zvz:=h9 52 x.s.b.e.b
def zuJ:=h2 x.s.b.e.b 602 603 604 189 (vI 3) (vI 3) 313 (Qx) 314 .none .none (vr 315) 605 606
def zxf:=h10 52 x.s.b.e.b s0 367 316
def zwZ:=h9 53 x.s.b.e.c
def zyg:=h2 x.s.b.e.c 608 609 610 191 (vI 3) (vI 3) 318 (Qx) 319 .none .none (vr 320) 611 612
def ztZ:=h10 53 x.s.b.e.c s0 367 321
def ztX:=h9 54 x.s.b.e.d
def zwQ:=h2 x.s.b.e.d 614 615 616 204 (vI 2) (vI 3) 323 (Qx) 324 .none .none (vr 325) 617 618
def zxr:=h10 54 x.s.b.e.d s0 367 326
def b1286:=h4 #[i83,i1,i2,i3,i4,i5,i6,i7,i8,i9,i16,i22,i29,i30,i31,i32,i33,i34,i41,i42,i43,i44,i45,i46,i47,i48,i49,i50,i51,i52,i53,i54,i55,i56,i57,i58,i59,i60,i61,i62,i63,i64,i65,i66,i67,i68,i69,i70,i71,i72,i73,i74,i75,i76,i77,i78,i79,i80,i81,i82,i84,i85,i86,i87,i88,i89,i90,i91,i92,i93,i94,i95,i96] 73
def b1287:=h1 #[(vI 2),vO,(vr 20),(vI 4),vO,(vr 33),(vI 6),vO,(vr 45),(vI 8),vO,(vr 57),(vI 11),vO,(vr 69),(vI 19),vO,(vr 76),(vI 26),vO,(vr 83),(vI 28),vO,(vr 90),(vI 30),vO,(vr 97),(vI 32),vO,(vr 104),(vI 34),vO,(vr 111),(vI 36),vO,(vr 116),(vI 41),vO,(vr 123),(vI 46),vO,(vr 128),(vI 50),vO,(vr 135),(vI 52),vO,(vr 142),(vI 54),vO,(vr 147),(vI 58),vO,(vr 154),(vI 70),vO,(vr 161),(vI 75),vO,(vr 166),(vI 78),vO,(vr 173),(vI 81),vO,(vr 178),(vI 85),vO,(vr 185),(vI 90),vO,(vr 192),(vI 92),vO,(vr 199),(vI 95),vO,(vr 206),(vI 98),vO,(vr 211),(vI 100),vO,(vr 218),(vI 104),vO,(vr 223),(vI 106),vO,(vr 230),(vI 113),vO,(vr 235),(vI 121),vO,(vr 242),(vI 126),vO,(vr 249),(vI 129),vO,(vr 256),(vI 132),vO,(vr 263),(vI 136),vO,(vr 268),(vI 145),vO,(vr 275),(vI 153),vO,(vr 282),(vI 161),vO,(vr 289),(vI 166),vO,(vr 296),(vI 172),vO,(vr 301),(vI 174),vO,(vr 306),(vI 180),vO,(vr 311),(vI 189),vO,(vr 316),(vI 191),vO,(vr 321),(vI 204),vO,(vr 326),(vI 208),vO,(vr 331),(vI 211),vO,(vr 336),(vI 213),vO,(vr 343),(vI 221),vO,(vr 350),(vI 226),vO,(vr 357),(vI 231),vO,(vr 364),(vI 242),vO,(vr 371),(vI 250),vO,(vr 378),(vI 258),vO,(vr 385),(vI 260),vO,(vr 390),(vI 264),vO,(vr 397),(vI 266),vO,(vr 402),(vI 290),vO,(vr 409)]
def zx7:=h9 55 x.s.b.f.d
def zx9:=h2 x.s.b.f.d 620 621 622 208 (vI 1) (vI 3) 328 (Qx) 329 .none .none (vr 330) 623 624
def zxp:=h10 55 x.s.b.f.d s0 367 331
def zw7:=h9 56 x.s.b.f.e
def zxl:=h2 x.s.b.f.e 626 627 628 211 (vI 2) (vI 3) 333 (Qx) 334 .none .none (vr 335) 629 630
def zwB:=h10 56 x.s.b.f.e s0 367 336
def zwF:=h0 #[(vS s25 635),(vS x.s.b.b.b 636),(vS x.s.b.c.a 637),(vS x.s.b.c.c 638)]
def zy4:=h9 57 x.s.b.f.f
def zzc:=h2 x.s.b.f.f 632 633 634 213 (vI 2) (vI 3) 338 (Qx) 339 (vr 340) (vr 341) (vr 342) 639 640
def zyZ:=h10 57 x.s.b.f.f s0 367 343
def zzy:=h0 #[(vS x.s.b.h.a 647),(vS x.s.b.h.b 648),(vS x.s.b.h.c 649),(vS x.s.b.h.d 650)]
def zwz:=h9 59 x.s.b.f.g
def zzj:=h2 x.s.b.f.g 644 645 646 221 (vI 2) (vI 3) 345 (Qx) 346 (vr 347) (vr 348) (vr 349) 651 652
def zyW:=h10 59 x.s.b.f.g s1 642 350
def zyo:=h0 #[(vS x.s.b.h.e 657),(vS x.s.b.h.f 658)]
def zwN:=h9 60 x.s.b.f.h
def zyH:=h2 x.s.b.f.h 654 655 656 226 (vI 1) (vI 3) 352 (Qx) 353 (vr 354) (vr 355) (vr 356) 659 660
def zzm:=h10 60 x.s.b.f.h s1 642 357
def zxx:Obj:=⟨(vY t18),none,(.seq #[(vS s15 665),(vS x.s.b.h.h 666),(vS x.s.b.h.f 667),(vS x.s.c.a.a 668),(vS x.s.c.a.b 669),(vS x.s.c.a.c 670),(vS x.s.c.a.d 671)] 0),#[]⟩
def zyM:=h9 61 x.s.b.g.a
def zzk:=h2 x.s.b.g.a 662 663 664 231 (vI 2) (vI 3) 359 (Qx) 360 (vr 361) (vr 362) (vr 363) 672 673
def zxb:=h10 61 x.s.b.g.a s1 642 364
def zxQ:=h0 #[(vS x.s.c.a.e 678),(vS x.s.c.a.f 679),(vS x.s.c.a.g 680),(vS x.s.c.a.h 681),(vS x.s.c.b.a 682)]
def zyA:=h9 62 x.s.b.g.b
def zz1:=h2 x.s.b.g.b 675 676 677 242 (vI 2) (vI 3) 366 (Qx) 367 (vr 368) (vr 369) (vr 370) 683 684
def zym:=h10 62 x.s.b.g.b s1 642 371
def zxn:Obj:=⟨(vY t18),none,(.seq #[(vS s15 689),(vS x.s.c.b.b 690),(vS x.s.b.h.c 691),(vS x.s.b.h.d 692),(vS x.s.c.b.c 693),(vS x.s.c.b.d 694),(vS x.s.c.b.e 695)] 0),#[]⟩
def zyF:=h9 63 x.s.b.g.c
def zAt:=h2 x.s.b.g.c 686 687 688 250 (vI 2) (vI 3) 373 (Qx) 374 (vr 375) (vr 376) (vr 377) 696 697
def zxH:=h10 63 x.s.b.g.c s1 642 378
def zx2:=h0 #[(vS x.s.c.b.f 702)]
def zz7:=h9 64 x.s.b.g.d
def zzX:=h2 x.s.b.g.d 699 700 701 258 (vI 1) (vI 3) 380 (Qx) 381 (vr 382) (vr 383) (vr 384) 703 704
def zzM:=h10 64 x.s.b.g.d s1 642 385
def zzZ:=h9 65 x.s.b.g.e
def zzS:=h2 x.s.b.g.e 706 707 708 260 (vI 3) (vI 3) 387 (Qx) 388 .none .none (vr 389) 709 710
def zzQ:=h10 65 x.s.b.g.e s1 642 390
def zze:=h0 #[(vS x.s.c.b.g 715),(vS x.s.b.h.b 716)]
def zyR:=h9 66 x.s.b.g.f
def zAd:=h2 x.s.b.g.f 712 713 714 264 (vI 2) (vI 3) 392 (Qx) 393 (vr 394) (vr 395) (vr 396) 717 718
def zyC:=h10 66 x.s.b.g.f s1 642 397
def zzI:=h9 67 x.s.b.g.g
def zz2:=h2 x.s.b.g.g 720 721 722 266 (vI 4) (vI 3) 399 (Qx) 400 .none .none (vr 401) 723 724
def zzD:=h10 67 x.s.b.g.g s1 642 402
def zAG:=h0 #[(vS x.s.c.b.f 729)]
def zy0:=h9 68 x.s.b.g.h
def zyI:=h2 x.s.b.g.h 726 727 728 290 (vI 1) (vI 3) 404 (Qx) 405 (vr 406) (vr 407) (vr 408) 730 731
def zy7:=h10 68 x.s.b.g.h s1 642 409
def zzp:=h4 #[i83,i1,i2,i3,i4,i5,i6,i7,i8,i9,i16,i22,i29,i30,i31,i32,i33,i34,i41,i42,i43,i44,i45,i46,i47,i48,i49,i50,i51,i52,i53,i54,i55,i56,i57,i58,i59,i60,i61,i62,i63,i64,i65,i66,i67,i68,i69,i70,i71,i72,i73,i74,i75,i76,i77,i78,i79,i80,i81,i82,i84,i85,i86,i87,i88,i89,i90,i91,i92,i93,i94,i95,i96,i97,i98,i99,i100,i101,i102,i103,i104,i105] 82
def zyU:=h1 #[(vI 2),vO,(vr 20),(vI 4),vO,(vr 33),(vI 6),vO,(vr 45),(vI 8),vO,(vr 57),(vI 11),vO,(vr 69),(vI 19),vO,(vr 76),(vI 26),vO,(vr 83),(vI 28),vO,(vr 90),(vI 30),vO,(vr 97),(vI 32),vO,(vr 104),(vI 34),vO,(vr 111),(vI 36),vO,(vr 116),(vI 41),vO,(vr 123),(vI 46),vO,(vr 128),(vI 50),vO,(vr 135),(vI 52),vO,(vr 142),(vI 54),vO,(vr 147),(vI 58),vO,(vr 154),(vI 70),vO,(vr 161),(vI 75),vO,(vr 166),(vI 78),vO,(vr 173),(vI 81),vO,(vr 178),(vI 85),vO,(vr 185),(vI 90),vO,(vr 192),(vI 92),vO,(vr 199),(vI 95),vO,(vr 206),(vI 98),vO,(vr 211),(vI 100),vO,(vr 218),(vI 104),vO,(vr 223),(vI 106),vO,(vr 230),(vI 113),vO,(vr 235),(vI 121),vO,(vr 242),(vI 126),vO,(vr 249),(vI 129),vO,(vr 256),(vI 132),vO,(vr 263),(vI 136),vO,(vr 268),(vI 145),vO,(vr 275),(vI 153),vO,(vr 282),(vI 161),vO,(vr 289),(vI 166),vO,(vr 296),(vI 172),vO,(vr 301),(vI 174),vO,(vr 306),(vI 180),vO,(vr 311),(vI 189),vO,(vr 316),(vI 191),vO,(vr 321),(vI 204),vO,(vr 326),(vI 208),vO,(vr 331),(vI 211),vO,(vr 336),(vI 213),vO,(vr 343),(vI 221),vO,(vr 350),(vI 226),vO,(vr 357),(vI 231),vO,(vr 364),(vI 242),vO,(vr 371),(vI 250),vO,(vr 378),(vI 258),vO,(vr 385),(vI 260),vO,(vr 390),(vI 264),vO,(vr 397),(vI 266),vO,(vr 402),(vI 290),vO,(vr 409),(vI 294),vO,(vr 414),(vI 315),vO,(vr 421),(vI 319),vO,(vr 428),(vI 325),vO,(vr 435),(vI 331),vO,(vr 442),(vI 339),vO,(vr 449),(vI 347),vO,(vr 454),(vI 353),vO,(vr 461),(vI 368),vO,(vr 468)]
def zzV:=h9 69 x.s.c.b.h
def zy2:=h2 x.s.c.b.h 733 734 735 294 (vI 4) (vI 3) 411 (Qx) 412 .none .none (vr 413) 736 737
def zzz:=h10 69 x.s.c.b.h s1 642 414
def zAh:=h0 #[(vS s15 742),(vS x.s.c.b.f 743),(vS x.s.c.d.a 744),(vS x.s.c.d.b 745)]
def zzY:=h9 70 x.s.c.c.a
def zAk:=h2 x.s.c.c.a 739 740 741 315 (vI 2) (vI 3) 416 (Qx) 417 (vr 418) (vr 419) (vr 420) 746 747
def zzB:=h10 70 x.s.c.c.a s1 642 421
def zy6:=h0 #[(vS s15 752),(vS x.s.c.d.c 753),(vS x.s.c.a.b 754),(vS x.s.c.d.a 755)]
def zAo:=h9 71 x.s.c.c.b
def zAn:=h2 x.s.c.c.b 749 750 751 319 (vI 2) (vI 3) 423 (Qx) 424 (vr 425) (vr 426) (vr 427) 756 757
def zzL:=h10 71 x.s.c.c.b s1 642 428
def zAC:=h0 #[(vS s15 762),(vS x.s.c.d.c 763),(vS x.s.c.a.b 764),(vS x.s.c.d.a 765)]
def zzU:=h9 72 x.s.c.c.c
def zAf:=h2 x.s.c.c.c 759 760 761 325 (vI 2) (vI 3) 430 (Qx) 431 (vr 432) (vr 433) (vr 434) 766 767
def zzK:=h10 72 x.s.c.c.c s1 642 435
def zzv:=h0 #[(vS s15 772),(vS x.s.c.b.f 773)]
def zAF:=h9 73 x.s.c.c.d
def zzW:=h2 x.s.c.c.d 769 770 771 331 (vI 2) (vI 3) 437 (Qx) 438 (vr 439) (vr 440) (vr 441) 774 775
def zzt:=h10 73 x.s.c.c.d s1 642 442
def zAg:Obj:=⟨(vY t18),none,(.seq #[(vS s15 780),(vS x.s.c.d.d 781),(vS x.s.c.d.e 782),(vS x.s.c.a.e 783),(vS x.s.c.a.f 784),(vS x.s.c.d.f 785),(vS x.s.b.h.c 786)] 0),#[]⟩
def zAu:=h9 74 x.s.c.c.e
def zAe:=h2 x.s.c.c.e 777 778 779 339 (vI 2) (vI 3) 444 (Qx) 445 (vr 446) (vr 447) (vr 448) 787 788
def zy8:=h10 74 x.s.c.c.e s1 642 449
def zyY:=h9 75 x.s.c.c.f
def zz4:=h2 x.s.c.c.f 790 791 792 347 (vI 1) (vI 3) 451 (Qx) 452 .none .none (vr 453) 793 794
def zyK:=h10 75 x.s.c.c.f s1 642 454
def zy5:=h0 #[(vS s15 799),(vS x.s.c.d.g 800),(vS x.s.b.h.c 801),(vS x.s.c.a.a 802),(vS x.s.c.d.a 803)]
def zz9:=h9 76 x.s.c.c.g
def zzJ:=h2 x.s.c.c.g 796 797 798 353 (vI 2) (vI 3) 456 (Qx) 457 (vr 458) (vr 459) (vr 460) 804 805
def zzT:=h10 76 x.s.c.c.g s1 642 461
def zAq:Obj:=⟨(vY t18),none,(.seq #[(vS x.s.b.h.e 810),(vS s15 811),(vS x.s.c.d.h 812),(vS x.s.c.e.a 813),(vS x.s.c.e.b 814),(vS x.s.c.d.g 815),(vS x.s.c.a.a 816),(vS x.s.c.d.f 817),(vS x.s.c.e.c 818),(vS x.s.c.e.d 819)] 0),#[]⟩
def zAl:=h9 77 x.s.c.c.h
def zyG:=h2 x.s.c.c.h 807 808 809 368 (vI 1) (vI 3) 463 (Qx) 464 (vr 465) (vr 466) (vr 467) 820 821
def zzA:=h10 77 x.s.c.c.h s1 642 468
def m953:Heap:=⟨⟨[r2,r3,r4,x.r.a.a.d,r5,r6,r7,r8,r9,r10,r11,zaF,zbg,zqo,zqm]⟩,⟨[],[],[],0,[],[],false,#[],[],0,false,false,false,0,[2000,10,10],false,0,true,[],[],0,false⟩⟩
def q0:=L zaF
def q1:=L zbg
def q2:=N zbg q0 z
def q3:=N zaF q1 z
def q4:=N zaF q0 z
def q5:=N zbg q1 z
def q6:=N zaF q1 q1
def q7:=N zaF q0 q0
def q8:=N zbg q1 q0
def q9:=N zug (L zxr) z
def q10:=N zrk (L zwV) z
def q11:=N zvp (L zxi) z
def q12:=N zsY (L zw4) z
def q13:=N zuM (L zyg) z
def q14:=N zsw (L zxc) z
def q15:=N zuO (L zwE) z
def q16:=N zrS (L zxw) z
def q17:=N zaF q4 q0
def q18:=N zuF (L zw5) z
def q19:=N ztV (L zxf) z
def q20:=N zvO (L zwZ) z
def q21:=N ztc (L zyl) z
def q22:=N ztN (L zya) z
def q23:=N ztG (L zxU) z
def q24:=N zrM (L zxZ) z
def q25:=N zuk (L zxC) z
def q26:=N zvu (L zwQ) z
def q27:=N zvk (L zwY) z
def q28:=N ztY (L zxK) z
def q29:=N zsW (L zw8) z
def q30:=N zqM (L zwS) q0
def q31:=N zt0 (L zyW) z
def q32:=N ztt (L zwA) (L zzQ)
def q33:=N zpy (N zre (L zxe) q0) (N zvn (L zzc) z)
def q34:=N zsQ (L zxa) (L zzD)
def q35:=N zu1 (L zz1) z
def q36:=N zsR (L zw2) q0
def q37:=N zu8 (L zyM) z
def q38:=N zvF (L zzy) z
def q39:=N zqA (L zwG) (L zzX)
def q40:=N zbg q0 (L zzI)
def q41:=N zaF q0 q1
def q42:=N zp8 (N zqC (L zwK) (L zyI)) (N zu4 q0 z)
def q43:=N zvy (L zyF) z
def q44:=N zaF q0 (L zzZ)
def q45:=N zu6 (L zyH) z
def q46:=N zrs (L zye) (L zAd)
def q47:=N ztd (L zxF) (L zz7)
def q48:=N zaF (L zyx) q1
def q49:=N zrK (L zyj) q0
def q50:=N zaF (N zaF q0 (L zy0)) (N zaF (L zyZ) z)
def q51:=N zrZ (L zx8) q1
def q52:=N zru (L zx5) q0
def q53:=N zaF (L zxo) (L zyR)
def q54:=N zu9 (L zzk) z
def q55:=N zaF q0 (L zzM)
def q56:=N zqL (L zwM) (L zz2)
def q57:=N zuQ (L zyA) z
def q58:=N zbg q1 (L zze)
def q59:=N zqd (N zsx (L zxY) (L zy7)) (N zvC q1 z)
def q60:=N zub (L zAt) z
def q61:=N zr0 (L zxv) (L zzS)
def q62:=N zvr (L zzm) z
def q63:=N zbg (N zbg q1 (L zAG)) (N zbg (L zy4) z)
def q64:=N zsI q0 (L zyC)
def q65:=N zvi (L zzj) z
def m954:=N r2 (N r3 (N x.r.a.a.d (L r8) q0) (N r6 (L r10) (L zqo))) (N r4 (N r5 (L r9) q1) (N r7 (L r11) (L zqm)))
def m970:=N r2 (N r3 (N b956 (N r8 (L ztE) (L ztA)) (N zaF q1 (L ztz))) (N r6 (N r10 (L ztv) (L ztw)) (N zqo (L ztB) z))) (N r4 (N r5 (N r9 (L zgM) (L b967)) (N b957 (L ztC) z)) (N r7 (N r11 q0 (L ztD)) (N zqm q0 z)))
def m985:=N r2 (N r3 (N b971 (N r8 (N ztE q0 z) (N ztA (L zvA) z)) (N zaF q2 (L ztz))) (N r6 (N r10 (N ztv (L zvs) z) (L ztw)) (N zqo (N ztB (L zvL) z) (L zgM)))) (N r4 (N r5 (N r9 (N zgM q1 z) (L b973)) (N b972 (N ztC (L zt8) z) (L zjh))) (N r7 (N r11 (N zaF (L ztW) z) (L ztD)) (N zqm (N zaF (L zuY) z) (L zuy))))
def m1000:=N r2 (N r3 (N b986 (N r8 (N ztE q0 q0) (N ztA (L zvA) z)) (N zaF (N zbg q0 (L zmH)) (N ztz q0 z))) (N r6 (N r10 (N ztv (L zvs) (L zwg)) (N ztw (L zgM) z)) (N zqo (N ztB (L zvL) z) (N zgM (L zv2) z)))) (N r4 (N r5 (N r9 (N zgM q1 (L zvU)) (N b988 (L zjh) z)) (N b987 (N ztC (L zt8) z) (N zjh q1 z))) (N r7 (N r11 (N zaF (L ztW) (L zv8)) (N ztD (L zwb) z)) (N zqm (N zaF (L zuY) z) (N zuy (L zv6) z))))
def m1050:=N r2 (N r3 (N b1001 (N r8 (N ztE (N zaF (L zm9) q0) q3) (N ztA (N zvA q0 z) (N zaF (L zpy) z))) (N zaF (N zbg q4 (N zmH (L znS) z)) (N ztz (N zaF (L znk) z) (N zaF (L zn7) z)))) (N r6 (N r10 (N ztv (N zvs q1 (L zoq)) (N zwg q0 z)) (N ztw (N zgM (L znx) z) (N znh (L zp8) z))) (N zqo (N ztB (N zvL (L znK) z) (N zgM q0 z)) (N zgM (N zv2 (L zon) z) (N znC q1 z))))) (N r4 (N r5 (N r9 (N zgM (N zbg q0 (L zoo)) (N zvU (L zoz) z)) (N zoc (N zjh q1 z) q2)) (N b1002 (N ztC (N zt8 (L znL) z) (N zjh (L znq) z)) (N zjh (N zbg (L znv) z) (N znY q0 z)))) (N r7 (N r11 (N zaF (N ztW (L zos) (L znj)) (N zv8 (L zna) z)) (N ztD (N zwb q0 z) (N zox (L zqd) z))) (N zqm (N zaF (N zuY (L zoh) z) (N zog q1 z)) (N zuy (N zv6 q0 z) (N znR (L zob) z)))))
def m1121:=N r2 (N r3 (N b1051 (N r8 (N ztE (N zaF (N zm9 (L zqM) z) q4) (N zaF (N zbg (L zpQ) z) (L zpW))) (N ztA (N zvA (N zaF (L ztt) z) (N zp2 (L zrk) z)) (N zaF (N zpy (L zre) z) q1))) (N zaF (N zbg (N zaF q3 q4) (N zmH (N znS (L zsQ) z) (L zpC))) (N ztz (N zaF (N znk (L zsR) z) q1) (N zaF (N zn7 (L zsY) z) (L zqf))))) (N r6 (N r10 (N ztv (N zvs (N zbg (L zqA) z) (N zoq (L zsw) z)) (N zwg q3 q0)) (N ztw (N zgM (N znx q0 z) (L zpv)) (N znh (N zp8 (L zqC) z) q0))) (N zqo (N ztB (N zvL (N znK q0 z) (N zqh (L zrS) z)) (N zgM q4 (L zpX))) (N zgM (N zv2 (N zon (L zrs) z) q0) (N znC q5 q0))))) (N r4 (N r5 (N r9 (N zgM (N zbg (N zaF (L ztd) z) (N zoo (L ztc) z)) (N zvU (N zoz q0 z) (L zpD))) (N zoc (N zjh (N zbg (L zrK) z) (L zpV)) (N zbg q4 (L zqg)))) (N b1052 (N ztC (N zt8 (N znL (L zrZ) z) q5) (N zjh (N znq (L zru) z) (L zpu))) (N zjh (N zbg (N znv q0 z) (L zpI)) (N znY q4 (L zqk))))) (N r7 (N r11 (N zaF (N ztW (N zos q0 z) (N znj (L zrM) z)) (N zv8 (N zna (L zqL) z) q1)) (N ztD (N zwb q3 q0) (N zox (N zqd (L zsx) z) (L zpR)))) (N zqm (N zaF (N zuY (N zoh (L zr0) z) (N zaF (L zpT) z)) (N zog q5 q0)) (N zuy (N zv6 (N zaF (L zsI) z) (L zqi)) (N znR (N zob (L zsW) z) q1)))))
def m1206:=N r2 (N r3 (N b1122 (N r8 (N ztE (N zaF (N zm9 (L zqM) (L zso)) (N zaF q0 (L zt0))) (N zaF (N zbg (L zpQ) (L zr4)) (N zpW q0 (L zq7)))) (N ztA (N zvA (N zaF (L ztt) (L zug)) (N zp2 (L zrk) (L zqy))) (N zaF (N zpy (L zre) (L zvn)) (N zbg q0 q0)))) (N zaF (N zbg (N zaF q6 (N zaF q0 (L zsT))) (N zmH (N znS (L zsQ) (L zrg)) (N zpC (L zvp) (L zu1)))) (N ztz (N zaF (N znk (L zsR) (L zsG)) (N zbg q0 (L zu8))) (N zaF (N zn7 (L zsY) (L zvF)) (N zqf q0 z))))) (N r6 (N r10 (N ztv (N zvs (N zbg (L zqA) (L zuM)) (N zoq (L zsw) q0)) (N zwg q6 (N zaF (L zuO) (L zqY)))) (N ztw (N zgM (N znx q0 q0) (N zpv q1 q1)) (N znh (N zp8 (L zqC) (L zu4)) (N zaF (L zs3) (L zvy))))) (N zqo (N ztB (N zvL (N znK q0 q0) (N zqh (L zrS) (L zu6))) (N zgM q7 (N zpX q1 q1))) (N zgM (N zv2 (N zon (L zrs) (L ztl)) (N zaF (L zuF) q0)) (N znC (N zbg q1 q1) (N zaF (L ztV) z)))))) (N r4 (N r5 (N r9 (N zgM (N zbg (N zaF (L ztd) (L zvO)) (N zoo (L ztc) (L zsj))) (N zvU (N zoz q0 q0) (N zpD q1 q0))) (N zoc (N zjh (N zbg (L zrK) (L zsX)) (N zpV q0 q0)) (N zbg q7 (N zqg (L ztN) (L zsk))))) (N b1123 (N ztC (N zt8 (N znL (L zrZ) (L zsa)) q8) (N zjh (N znq (L zru) (L zrx)) (N zpu q0 q0))) (N zjh (N zbg (N znv q0 q0) (N zpI (L ztG) (L zu9))) (N znY q7 (N zqk q1 z))))) (N r7 (N r11 (N zaF (N ztW (N zos q0 q0) (N znj (L zrM) q1)) (N zv8 (N zna (L zqL) (L zrF)) (N zbg (L zuk) (L zuQ)))) (N ztD (N zwb q6 (N zaF (L zsg) (L zsE))) (N zox (N zqd (L zsx) (L zvC)) (N zpR (L zqT) (L zub))))) (N zqm (N zaF (N zuY (N zoh (L zr0) (L zvu)) (N zaF (L zpT) (L zvr))) (N zog (N zbg q1 q1) (N zaF (L zvk) (L zsi)))) (N zuy (N zv6 (N zaF (L zsI) (L zrB)) (N zqi (L ztY) q1)) (N znR (N zob (L zsW) (L zvi)) q2)))))
def m1285:=N r2 (N r3 (N b1207 (N r8 (N ztE (N zaF (N zm9 (N zqM (L zwS) z) (N zso q1 z)) (N zaF q4 (L zt0))) (N zaF (N zbg (N zpQ q1 z) (L zr4)) (N zpW q4 (L zq7)))) (N ztA (N zvA (N zaF (N ztt (L zwA) z) q9) (N zp2 q10 (L zqy))) (N zaF (N zpy (N zre (L zxe) z) (L zvn)) (N zbg (N zaF (L ztR) z) q0)))) (N zaF (N zbg (N zaF (N zaF q5 q2) (N zaF q4 (L zsT))) (N zmH (N znS (N zsQ (L zxa) z) (L zrg)) (N zpC q11 (L zu1)))) (N ztz (N zaF (N znk (N zsR (L zw2) z) (L zsG)) (N zbg q3 (L zu8))) (N zaF (N zn7 q12 (L zvF)) (N zqf (N zaF (L zvz) z) q0))))) (N r6 (N r10 (N ztv (N zvs (N zbg (N zqA (L zwG) z) q13) (N zoq q14 q0)) (N zwg (N zaF q2 q1) (N zaF q15 (L zqY)))) (N ztw (N zgM (N znx q4 q0) (N zpv (N zbg (L zuL) z) q1)) (N znh (N zp8 (N zqC (L zwK) z) (L zu4)) (N zaF (N zs3 q0 z) (L zvy))))) (N zqo (N ztB (N zvL (N znK q4 (N zaF (L ztX) z)) (N zqh q16 (L zu6))) (N zgM q17 (N zpX q5 q1))) (N zgM (N zv2 (N zon (N zrs (L zye) z) (L ztl)) (N zaF q18 q0)) (N znC (N zbg q5 q1) (N zaF q19 (L zt2))))))) (N r4 (N r5 (N r9 (N zgM (N zbg (N zaF (N ztd (L zxF) z) q20) (N zoo q21 (L zsj))) (N zvU (N zoz (N zaF (L zyx) z) q0) (N zpD q5 q0))) (N zoc (N zjh (N zbg (N zrK (L zyj) z) (L zsX)) (N zpV (N zaF (L zu0) z) q0)) (N zbg q17 (N zqg q22 (L zsk))))) (N b1208 (N ztC (N zt8 (N znL (N zrZ (L zx8) z) (N zsa q1 z)) (N zbg q5 q0)) (N zjh (N znq (N zru (L zx5) z) (L zrx)) (N zpu q4 q0))) (N zjh (N zbg (N znv (N zaF (L zxo) z) q0) (N zpI q23 (L zu9))) (N znY q17 (N zqk (N zbg (L zuJ) z) q1))))) (N r7 (N r11 (N zaF (N ztW (N zos q4 (N zaF (L ztZ) z)) (N znj q24 q1)) (N zv8 (N zna (N zqL (L zwM) z) (L zrF)) (N zbg q25 (L zuQ)))) (N ztD (N zwb (N zaF q5 q1) (N zaF (N zsg q0 z) (L zsE))) (N zox (N zqd (N zsx (L zxY) z) (L zvC)) (N zpR (N zqT q1 z) (L zub))))) (N zqm (N zaF (N zuY (N zoh (N zr0 (L zxv) z) q26) (N zaF (N zpT q0 z) (L zvr))) (N zog (N zbg q5 q1) (N zaF q27 (L zsi)))) (N zuy (N zv6 (N zaF (N zsI q0 z) (L zrB)) (N zqi q28 q1)) (N znR (N zob q29 (L zvi)) (N zbg q4 q0))))))
def m1370:=N r2 (N r3 (N b1286 (N r8 (N ztE (N zaF (N zm9 q30 (N zso q1 z)) (N zaF q4 q31)) (N zaF (N zbg (N zpQ q1 q0) (N zr4 (L zw7) z)) (N zpW q4 (N zq7 q1 z)))) (N ztA (N zvA (N zaF q32 q9) (N zp2 q10 (N zqy q0 z))) (N zaF q33 (N zbg (N zaF (L ztR) z) (N zaF (L zxn) z))))) (N zaF (N zbg (N zaF (N zaF q8 q2) (N zaF q4 (N zsT q0 z))) (N zmH (N znS q34 (N zrg q1 z)) (N zpC q11 q35))) (N ztz (N zaF (N znk q36 (N zsG (L zx9) z)) (N zbg q3 q37)) (N zaF (N zn7 q12 q38) (N zqf (N zaF (L zvz) z) (N zaF (L zxH) z)))))) (N r6 (N r10 (N ztv (N zvs (N zbg q39 q13) (N zoq q14 q3)) (N zwg (N zaF q40 (N zbg (L zwB) z)) (N zaF q15 (N zqY q0 z)))) (N ztw (N zgM (N znx q41 q3) (N zpv (N zbg (L zuL) z) (N zbg (L zxx) z))) (N znh q42 (N zaF (N zs3 q0 z) q43)))) (N zqo (N ztB (N zvL (N znK q44 (N zaF (L ztX) z)) (N zqh q16 q45)) (N zgM (N zaF q41 q4) (N zpX q5 q2))) (N zgM (N zv2 (N zon q46 (N ztl q0 z)) (N zaF q18 (N zaF (L zxb) z))) (N znC (N zbg q5 (N zbg (L zwz) z)) (N zaF q19 (N zt2 q1 z))))))) (N r4 (N r5 (N r9 (N zgM (N zbg (N zaF q47 q20) (N zoo q21 (N zsj q0 z))) (N zvU (N zoz q48 (N zaF (L zxl) z)) (N zpD q5 (N zaF (L zxQ) z)))) (N zoc (N zjh (N zbg q49 (N zsX q0 z)) (N zpV (N zaF (L zu0) z) q3)) (N zbg q50 (N zqg q22 (N zsk q0 z))))) (N b1287 (N ztC (N zt8 (N znL q51 (N zsa q1 z)) (N zbg q5 (N zaF (L zwN) z))) (N zjh (N znq q52 (N zrx (L zwF) z)) (N zpu q4 (N zaF (L zym) z)))) (N zjh (N zbg (N znv q53 (N zaF (L zxp) z)) (N zpI q23 q54)) (N znY (N zaF q4 q4) (N zqk (N zbg (L zuJ) z) q2))))) (N r7 (N r11 (N zaF (N ztW (N zos q55 (N zaF (L ztZ) z)) (N znj q24 (N zbg (L zyo) z))) (N zv8 (N zna q56 (N zrF q0 z)) (N zbg q25 q57))) (N ztD (N zwb (N zaF q58 (N zbg (L zx7) z)) (N zaF (N zsg q0 z) (N zsE q0 z))) (N zox q59 (N zpR (N zqT q1 z) q60)))) (N zqm (N zaF (N zuY (N zoh q61 q26) (N zaF (N zpT q0 z) q62)) (N zog q63 (N zaF q27 (N zsi q1 z)))) (N zuy (N zv6 (N zaF q64 (N zrB q1 z)) (N zqi q28 q2)) (N znR (N zob q29 q65) (N zbg q4 (N zaF (L zx2) z)))))))
def m1431:=N r2 (N r3 (N zzp (N r8 (N ztE (N zaF (N zm9 q30 (N zso q1 q0)) (N zaF (N zaF q0 (L zzz)) q31)) (N zaF (N zbg (N zpQ q1 q0) (N zr4 (L zw7) q0)) (N zpW q41 (N zq7 q1 z)))) (N ztA (N zvA (N zaF q32 (N zug (L zxr) (L zyK))) (N zp2 (N zrk (L zwV) q0) (N zqy q0 z))) (N zaF q33 (N zbg (N zaF (L ztR) (L zzv)) (N zaF (L zxn) z))))) (N zaF (N zbg (N zaF (N zaF q8 (N zbg q0 q0)) (N zaF q7 (N zsT q0 z))) (N zmH (N znS q34 (N zrg q1 (L zAl))) (N zpC (N zvp (L zxi) (L zAf)) q35))) (N ztz (N zaF (N znk q36 (N zsG (L zx9) q0)) (N zbg (N zaF q1 (L zAo)) q37)) (N zaF (N zn7 (N zsY (L zw4) q0) q38) (N zqf (N zaF (L zvz) (L zzt)) (N zaF (L zxH) z)))))) (N r6 (N r10 (N ztv (N zvs (N zbg q39 (N zuM (L zyg) (L zAe))) (N zoq (N zsw (L zxc) q1) q3)) (N zwg (N zaF q40 (N zbg (L zwB) (L zAq))) (N zaF (N zuO (L zwE) q0) (N zqY q0 z)))) (N ztw (N zgM (N znx q41 q6) (N zpv (N zbg (L zuL) (L zy6)) (N zbg (L zxx) z))) (N znh q42 (N zaF (N zs3 q0 (L zAF)) q43)))) (N zqo (N ztB (N zvL (N znK q44 (N zaF (L ztX) (L zyY))) (N zqh (N zrS (L zxw) (L zAk)) q45)) (N zgM (N zaF q41 (N zaF q0 (L zzA))) (N zpX q8 q2))) (N zgM (N zv2 (N zon q46 (N ztl q0 (L zzJ))) (N zaF (N zuF (L zw5) (L zzL)) (N zaF (L zxb) z))) (N znC (N zbg (N zbg q1 (L zzV)) (N zbg (L zwz) z)) (N zaF (N ztV (L zxf) q1) (N zt2 q1 z))))))) (N r4 (N r5 (N r9 (N zgM (N zbg (N zaF q47 (N zvO (L zwZ) (L zAu))) (N zoo (N ztc (L zyl) q0) (N zsj q0 z))) (N zvU (N zoz q48 (N zaF (L zxl) q1)) (N zpD (N zbg q1 (L zAC)) (N zaF (L zxQ) z)))) (N zoc (N zjh (N zbg q49 (N zsX q0 q0)) (N zpV (N zaF (L zu0) q1) q3)) (N zbg q50 (N zqg (N ztN (L zya) q0) (N zsk q0 z))))) (N zyU (N ztC (N zt8 (N znL q51 (N zsa q1 q1)) (N zbg (N zbg q1 (L zzY)) (N zaF (L zwN) z))) (N zjh (N znq q52 (N zrx (L zwF) (L zyG))) (N zpu (N zaF q0 (L zzK)) (N zaF (L zym) z)))) (N zjh (N zbg (N znv q53 (N zaF (L zxp) (L zz9))) (N zpI (N ztG (L zxU) (L zAn)) q54)) (N znY (N zaF q41 q4) (N zqk (N zbg (L zuJ) q0) q2))))) (N r7 (N r11 (N zaF (N ztW (N zos q55 (N zaF (L ztZ) (L zy8))) (N znj (N zrM (L zxZ) (L zAh)) (N zbg (L zyo) z))) (N zv8 (N zna q56 (N zrF q0 q0)) (N zbg (N zuk (L zxC) (L zzU)) q57))) (N ztD (N zwb (N zaF q58 (N zbg (L zx7) (L zy5))) (N zaF (N zsg q0 q0) (N zsE q0 z))) (N zox q59 (N zpR (N zqT q1 (L zzW)) q60)))) (N zqm (N zaF (N zuY (N zoh q61 (N zvu (L zwQ) (L zz4))) (N zaF (N zpT q0 (L zzB)) q62)) (N zog q63 (N zaF (N zvk (L zwY) q1) (N zsi q1 z)))) (N zuy (N zv6 (N zaF q64 (N zrB q1 (L zzT))) (N zqi (N ztY (L zxK) q0) q2)) (N znR (N zob (N zsW (L zw8) (L zy2)) q65) (N zbg (N zaF q0 (L zAg)) (N zaF (L zx2) z)))))))
def m1432:Heap:=⟨⟨[r2,r3,r4,zzp,r5,r6,r7,r8,r9,r10,r11,zaF,zyU,zqo,zqm,ztE,zgM,ztv,zaF,zbg,ztC,ztB,zaF,ztA,zoc,ztw,ztD,ztz,zjh,zgM,zuy,zaF,zbg,zvs,ztW,zaF,zt8,zvL,zuY,zvA,zjh,zgM,zwb,zaF,zbg,zv2,zv6,zaF,zvU,zwg,zv8,zmH,zjh,zgM,zog,zaF,zbg,znh,zox,zaF,znY,znC,znR,zm9,zaF,zbg,zos,zaF,znL,znK,zoh,zaF,zbg,znx,zaF,znk,znv,zon,zaF,zbg,zoz,zaF,zna,znS,znq,zaF,zbg,zpy,zaF,zp8,zqd,zn7,zaF,zbg,zob,zaF,zoo,zoq,znj,zaF,zbg,zqh,zaF,zp2,zpV,zpv,zaF,zbg,zpI,zaF,zqi,zpW,zpD,zaF,zbg,zpC,zpu,zpX,zaF,zbg,zqg,zaF,zpR,zqf,zqk,zaF,zbg,zqM,ztd,zqA,zaF,zbg,zrZ,zaF,zr0,ztt,zrK,zaF,zbg,zsR,zaF,zrs,zsI,zpQ,zaF,zbg,zqL,zsQ,zru,zaF,zbg,zre,zaF,zqC,zsx,zsY,zaF,zbg,zsW,zaF,ztc,zsw,zrM,zaF,zbg,zrS,zpT,zrk,zaF,zbg,zsg,zaF,ztG,zuF,ztY,zaF,zbg,zuO,zuk,zvp,zaF,zbg,zvk,zaF,ztN,zs3,zqT,zaF,zbg,ztV,zaF,zso,zvO,zuM,zaF,zbg,zsa,zaF,zvu,zug,zsX,zaF,zbg,zsG,zaF,ztl,zrB,zr4,zaF,zbg,zrF,zrg,zrx,zaF,zbg,zvn,zaF,zu4,zvC,zvF,zaF,zbg,zvi,zt0,zsj,zaF,zbg,zsT,zaF,zu6,zvr,zqy,zaF,zbg,zsE,zu8,zu9,zaF,zbg,zq7,zaF,zqY,zuQ,zu1,zaF,zbg,zsi,zaF,zsk,zvy,zub,zaF,zbg,zt2,zaF,zwS,zxF,zwG,zaF,zbg,zx8,zaF,zxv,zwA,zyj,zaF,zbg,zw2,zxo,zye,zaF,zbg,zyx,zaF,zwM,zxa,zx5,zaF,zbg,zxe,zaF,zwK,zxY,zw4,zaF,zbg,zw8,zaF,zyl,zxc,zxZ,zaF,zbg,zxw,zaF,zwV,zu0,zuL,zaF,zbg,zxU,zw5,zxK,zaF,zbg,zwE,zxC,zxi,zaF,zbg,zwY,ztR,zya,zaF,zbg,zvz,zuJ,zxf,zaF,zbg,zwZ,zyg,ztZ,zaF,zbg,ztX,zwQ,zxr,zaF,zbg,zx7,zx9,zxp,zaF,zbg,zw7,zxl,zwB,zaF,zbg,zwF,zaF,zy4,zzc,zyZ,zaF,zbg,zzy,zaF,zwz,zzj,zyW,zaF,zbg,zyo,zaF,zwN,zyH,zzm,zaF,zbg,zxx,zaF,zyM,zzk,zxb,zaF,zbg,zxQ,zaF,zyA,zz1,zym,zaF,zbg,zxn,zaF,zyF,zAt,zxH,zaF,zbg,zx2,zaF,zz7,zzX,zzM,zaF,zbg,zzZ,zzS,zzQ,zaF,zbg,zze,zaF,zyR,zAd,zyC,zaF,zbg,zzI,zz2,zzD,zaF,zbg,zAG,zaF,zy0,zyI,zy7,zaF,zbg,zzV,zy2,zzz,zaF,zbg,zAh,zaF,zzY,zAk,zzB,zaF,zbg,zy6,zaF,zAo,zAn,zzL,zaF,zbg,zAC,zaF,zzU,zAf,zzK,zaF,zbg,zzv,zaF,zAF,zzW,zzt,zaF,zbg,zAg,zaF,zAu,zAe,zy8,zaF,zbg,zyY,zz4,zyK,zaF,zbg,zy5,zaF,zz9,zzJ,zzT,zaF,zbg,zAq,zaF,zAl,zyG,zzA]⟩,⟨[],[],[],0,[],[],false,#[],[],0,false,false,false,0,[2000,10,10],false,0,true,[],[],0,false⟩⟩
end
def m946v(p:Program):Program:={ p with main:={ p.main with body:=[sp p 1,sp p 2,sp p 3,sp p 4,sp p 6,sp p 7,sp p 8,sp p 9,sp p 10,sp p 11,sp p 12,sp p 13,sp p 14,sp p 15,sp p 17,sp p 18,sp p 19,sp p 20,sp p 22,sp p 23,sp p 24,sp p 25,sp p 26,sp p 27,sp p 28,sp p 29,sp p 30,sp p 31,sp p 32,sp p 33,sp p 34,sp p 35,sp p 36,sp p 37,sp p 38,sp p 39,sp p 40,sp p 41,sp p 42,sp p 43,sp p 44,sp p 45,sp p 46,sp p 47,sp p 48,sp p 49,sp p 50,sp p 51,sp p 52,sp p 53,sp p 54,sp p 55,sp p 56,sp p 57,sp p 59,sp p 60,sp p 61,sp p 62,sp p 63,sp p 64,sp p 65,sp p 66,sp p 67,sp p 68,sp p 69,sp p 70,sp p 71,sp p 72,sp p 73,sp p 74,sp p 75,sp p 76,sp p 77] } }
def m956s(p:Program):List Stmt:=[sp p 0,sp p 1]
def m971s(p:Program):List Stmt:=[sp p 2]
def m986s(p:Program):List Stmt:=[sp p 3]
def m1001s(p:Program):List Stmt:=[sp p 4,sp p 5,sp p 6,sp p 7,sp p 8,sp p 9,sp p 10]
def m1051s(p:Program):List Stmt:=[sp p 11,sp p 12,sp p 13,sp p 14,sp p 15,sp p 16,sp p 17,sp p 18,sp p 19,sp p 20,sp p 21,sp p 22,sp p 23,sp p 24,sp p 25,sp p 26,sp p 27,sp p 28]
def m1122s(p:Program):List Stmt:=[sp p 29,sp p 30,sp p 31,sp p 32,sp p 33,sp p 34,sp p 35,sp p 36,sp p 37,sp p 38,sp p 39,sp p 40,sp p 41]
def m1207s(p:Program):List Stmt:=[sp p 42,sp p 43,sp p 44,sp p 45,sp p 46,sp p 47,sp p 48,sp p 49,sp p 50,sp p 51,sp p 52,sp p 53,sp p 54]
def m1286s(p:Program):List Stmt:=[sp p 55,sp p 56,sp p 57,sp p 58,sp p 59,sp p 60,sp p 61,sp p 62,sp p 63,sp p 64,sp p 65,sp p 66,sp p 67,sp p 68]
def m1371s(p:Program):List Stmt:=[sp p 69,sp p 70,sp p 71,sp p 72,sp p 73,sp p 74,sp p 75,sp p 76,sp p 77]
noncomputable def u0:Q Str:=⟨Str.ofString "<module>",Str.ofString "/claim/cut.py",Str.ofString "__main__",Str.ofString "__name__",Str.ofString "hideworth.errors",Str.ofString "__doc__",Str.ofString "__package__",Str.ofString "__loader__"⟩
noncomputable def u1:Q Str:=⟨Str.ofString "__spec__",Str.ofString "__annotations__",Str.ofString "__builtins__",Str.ofString "__file__",Str.ofString "__cached__",Str.ofString "HideError",Str.ofString "__module__",Str.ofString "__qualname__"⟩
noncomputable def u2:Q Str:=⟨Str.ofString "__firstlineno__",Str.ofString "__static_attributes__",Str.ofString "__weakref__",Str.ofString "NoNumber",Str.ofString "NoBoxes",Str.ofString "hideworth.ratios",Str.ofString "NoBudget",Str.ofString "divisor"⟩
noncomputable def u3:Q Str:=⟨Str.ofString "ratio",Str.ofString "plus",Str.ofString "minus",Str.ofString "times",Str.ofString "one",Str.ofString "other",Str.ofString "rest",Str.ofString "top"⟩
noncomputable def u4:Q Str:=⟨Str.ofString "bottom",Str.ofString "shared",Str.ofString "hideworth.boxes",Str.ofString "over",Str.ofString "below",Str.ofString "common",Str.ofString "shared_divisor",Str.ofString "lowest"⟩
noncomputable def u5:Q Str:=⟨Str.ofString "is_whole",Str.ofString "is_within",Str.ofString "are_weights",Str.ofString "is_fraction",Str.ofString "MOST_BOXES",Str.ofString "MOST_COST",Str.ofString "MOST_OF",Str.ofString "MOST_LOOKS"⟩
noncomputable def u6:Q Str:=⟨Str.ofString "MOST_BUDGET",Str.ofString "is_box",Str.ofString "look_boxes",Str.ofString "numbers",Str.ofString "number",Str.ofString "thing",Str.ofString "hideworth.checks",Str.ofString "least"⟩
noncomputable def u7:Q Str:=⟨Str.ofString "most",Str.ofString "cost",Str.ofString "hits",Str.ofString "of",Str.ofString "look_budget",Str.ofString "is_plan",Str.ofString "power",Str.ofString "missed"⟩
noncomputable def u8:Q Str:=⟨Str.ofString "chance",Str.ofString "gain",Str.ofString "cost_sum",Str.ofString "is_share",Str.ofString "is_mix",Str.ofString "finds_enough",Str.ofString "is_seeker_right",Str.ofString "is_hider_paper"⟩
noncomputable def u9:Q Str:=⟨Str.ofString "is_last_look_worth",Str.ofString "budget",Str.ofString "base",Str.ofString "count",Str.ofString "product",Str.ofString "k",Str.ofString "box",Str.ofString "boxes"⟩
noncomputable def u10:Q Str:=⟨Str.ofString "counts",Str.ofString "weights",Str.ofString "worth",Str.ofString "whole",Str.ofString "parts",Str.ofString "weight",Str.ofString "price",Str.ofString "is_next_look_dear"⟩
noncomputable def u11:Q Str:=⟨Str.ofString "is_count_best",Str.ofString "is_sum_low",Str.ofString "is_hider_right",Str.ofString "budget_judged",Str.ofString "added",Str.ofString "least_chance",Str.ofString "fair_weights",Str.ofString "chance_for"⟩
noncomputable def u12:Q Str:=⟨Str.ofString "counts_and_worth",Str.ofString "look_shares",Str.ofString "mix_of",Str.ofString "paper_of",Str.ofString "paper",Str.ofString "mix",Str.ofString "fractions",Str.ofString "total"⟩
noncomputable def u13:Q Str:=⟨Str.ofString "fraction",Str.ofString "chances",Str.ofString "law_hideworth_k21_budget_papers_looked_at",Str.ofString "sure_answer",Str.ofString "is_sure",Str.ofString "budget_worth",Str.ofString "_law_power",Str.ofString "_law_purse"⟩
noncomputable def u14:Q Str:=⟨Str.ofString "_law_draw",Str.ofString "_law_low",Str.ofString "_law_boxes",Str.ofString "_law_whole",Str.ofString "_law_numbers",Str.ofString "_law_miss",Str.ofString "_law_seeker",Str.ofString "_law_price"⟩
noncomputable def u15:Q Str:=⟨Str.ofString "_law_base",Str.ofString "_law_many",Str.ofString "_law_found",Str.ofString "_law_k",Str.ofString "_law_script",Str.ofString "_law_cells",Str.ofString "_law_purse_here",Str.ofString "_law_out_of"⟩
noncomputable def u16:Q Str:=⟨Str.ofString "_law_turn",Str.ofString "_law_at",Str.ofString "_law_cell",Str.ofString "_law_number",Str.ofString "_law_top",Str.ofString "_law_bottom",Str.ofString "_law_one",Str.ofString "_law_other"⟩
noncomputable def u17:Q Str:=⟨Str.ofString "_law_rest",Str.ofString "_law_most",Str.ofString "_law_cost",Str.ofString "_law_of",Str.ofString "_law_hits",Str.ofString "_law_thing",Str.ofString "_law_box",Str.ofString "_law_hider"⟩
noncomputable def u18:Q Str:=⟨Str.ofString "_law_bent_number",Str.ofString "_law_bent_list",Str.ofString "_law_bent_tuple",Str.ofString "_law_bent",Str.ofString "_law_other_worth",Str.ofString "_law_copy",Str.ofString "_law_drawn",Str.ofString "law"⟩
noncomputable def u19:Q Str:=⟨Str.ofString "_law_way",Str.ofString "_law_far",Str.ofString "_law_things",Str.ofString "_law_worth",Str.ofString "_law_fine",Str.ofString "_law_some",Str.ofString "_law_good",Str.ofString "_law_boxes_here"⟩
noncomputable def u20:Q Str:=⟨Str.ofString "_law_budget",Str.ofString "_law_told",Str.ofString "_law_kept",Str.ofString "_law_due",Str.ofString "_law_due",Str.ofString "_law_due",Str.ofString "_law_due",Str.ofString "_law_due"⟩
noncomputable def v0:Q String:=⟨"tuple","code","frame","dict","__main__.__loader__#opaque","ValueError","builtin_function_or_method","type.__prepare__"⟩
noncomputable def v1:Q String:=⟨"type","Exception","BaseException","object","ValueError.__new__","getset_descriptor","ExceptionGroup.__weakref__","super"⟩
noncomputable def v2:Q String:=⟨"object.__init_subclass__","function","function","function","function","function","function","function"⟩
noncomputable def w0 (P:Params):Q Obj:=⟨W.boot_o_0 P,W.boot_o_1 P,W.boot_o_2 P,W.boot_o_3 P,W.boot_o_4 P,W.boot_o_5 P,W.boot_o_6 P,W.boot_o_7 P⟩
noncomputable def w1 (P:Params):Q Obj:=⟨W.boot_o_8 P,W.boot_o_9 P,W.boot_o_10 P,W.boot_o_10 P,W.boot_o_10 P,W.boot_o_10 P,W.boot_o_10 P,W.boot_o_10 P⟩
noncomputable def yb:{t:(Params→Str→Int)→Params→Obj // W.boot_o_0=t PyData.keyHash}:=⟨_,by unfold W.boot_o_0;generalize PyData.keyHash=k;conv=>lhs;reduce⟩
def _root_.PySem.W.Fast.tw14598715356260435866:Params→Obj:=yb.1 PyData.keyHash
theorem _root_.PySem.W.Fast.te14598715356260435866:W.boot_o_0=tw14598715356260435866:=yb.2
noncomputable def yp:{t:Program // PySem.Challenge.pw_hideworth_k21_budget_papers_looked_at=t}:=⟨_,by conv=>lhs;reduce⟩
def _root_.PySem.W.Fast.tw10643642339515478971:Program:=yp.1
theorem _root_.PySem.W.Fast.te10643642339515478971:PySem.Challenge.pw_hideworth_k21_budget_papers_looked_at=tw10643642339515478971:=yp.2
lay_quick u0 u1 u2 u3 u4 u5 u6 u7 u8 u9 u10 u11 u12 u13 u14 u15 u16 u17 u18 u19 u20 v0 v1 v2 w0 w1 PySem.Challenge.pw_hideworth_k21_budget_papers_looked_at
def K(a' b' c' d' e' f' g' h' i' j' k' l' m' n' o' p' q' r' s' t' u':Q Str)(v' w' x':Q String)(y' z':Params→Q Obj)(A':Program)(P:Params):X:=⟨⟨⟨a',b',c',d',e',f',g',h'⟩,⟨i',j',k',l',m',n',o',p'⟩,⟨q',r',s',t',u',u',u',u'⟩,⟨q',r',s',t',u',u',u',u'⟩,⟨q',r',s',t',u',u',u',u'⟩,⟨q',r',s',t',u',u',u',u'⟩,⟨q',r',s',t',u',u',u',u'⟩,⟨q',r',s',t',u',u',u',u'⟩⟩,⟨⟨v',w',x',x',x',x',x',x'⟩,⟨v',w',x',x',x',x',x',x'⟩,⟨v',w',x',x',x',x',x',x'⟩,⟨v',w',x',x',x',x',x',x'⟩,⟨v',w',x',x',x',x',x',x'⟩,⟨v',w',x',x',x',x',x',x'⟩,⟨v',w',x',x',x',x',x',x'⟩,⟨v',w',x',x',x',x',x',x'⟩⟩,⟨⟨y' P,z' P,z' P,z' P,z' P,z' P,z' P,z' P⟩,⟨y' P,z' P,z' P,z' P,z' P,z' P,z' P,z' P⟩,⟨y' P,z' P,z' P,z' P,z' P,z' P,z' P,z' P⟩,⟨y' P,z' P,z' P,z' P,z' P,z' P,z' P,z' P⟩,⟨y' P,z' P,z' P,z' P,z' P,z' P,z' P,z' P⟩,⟨y' P,z' P,z' P,z' P,z' P,z' P,z' P,z' P⟩,⟨y' P,z' P,z' P,z' P,z' P,z' P,z' P,z' P⟩,⟨y' P,z' P,z' P,z' P,z' P,z' P,z' P,z' P⟩⟩,A',P⟩
noncomputable def k0:=K u0 u1 u2 u3 u4 u5 u6 u7 u8 u9 u10 u11 u12 u13 u14 u15 u16 u17 u18 u19 u20 v0 v1 v2 w0 w1 PySem.Challenge.pw_hideworth_k21_budget_papers_looked_at
noncomputable def k1:=K tw13894225608423057668 tw17531079430653816501 tw13809737476558091540 tw2367299412457286945 tw1912701158020654693 tw2188347355606102534 tw16368670287772101220 tw14842115654739255404 tw4717311838995323452 tw594758545415977400 tw10895325593200808953 tw10037743213843438893 tw10009084784789568687 tw5084553986333570498 tw16641277437810104112 tw11875653558476324687 tw1672153094372761355 tw4580522010931877059 tw15163288008780518816 tw2560371371167247513 tw13463505119322665063 tw15633551313878501473 tw10735261366311057212 tw13734974896645664886 tw1278260381020688717 tw13492767390215788210 tw10643642339515478971
theorem ke:k0=k1:=by
  unfold k0 k1
  rw[te13894225608423057668,te17531079430653816501,te13809737476558091540,te2367299412457286945,te1912701158020654693,te2188347355606102534,te16368670287772101220,te14842115654739255404,te4717311838995323452,te594758545415977400,te10895325593200808953,te10037743213843438893,te10009084784789568687,te5084553986333570498,te16641277437810104112,te11875653558476324687,te1672153094372761355,te4580522010931877059,te15163288008780518816,te2560371371167247513,te13463505119322665063,te15633551313878501473,te10735261366311057212,te13734974896645664886,te1278260381020688717,te13492767390215788210,te10643642339515478971]
theorem kE{β:Type _}(f:X→β):(λP=>f (k0 P))=λP=>f (k1 P):=congrArg (λy P=>f (y P)) ke
end Hd
namespace PySem.W.Fast
def tw16027612414534040672:Program:=Hd.m946v tw10643642339515478971
theorem te16027612414534040672:Hd.m946v PySem.Challenge.pw_hideworth_k21_budget_papers_looked_at=tw16027612414534040672:=congrArg Hd.m946v te10643642339515478971
def tw14648147245060970717(P:Params):Heap:=@Hd.m953 (Hd.k1 P)
theorem te14648147245060970717:(λP=>@Hd.m953 (Hd.k0 P))=tw14648147245060970717:=Hd.kE @Hd.m953
def tw14262496637459058946(P:Params):BT:=@Hd.m954 (Hd.k1 P)
theorem te14262496637459058946:(λP=>@Hd.m954 (Hd.k0 P))=tw14262496637459058946:=Hd.kE @Hd.m954
def tw18367765913053021036:List Stmt:=Hd.m956s tw10643642339515478971
theorem te18367765913053021036:Hd.m956s PySem.Challenge.pw_hideworth_k21_budget_papers_looked_at=tw18367765913053021036:=congrArg Hd.m956s te10643642339515478971
def tw16297282788874579387(P:Params):BT:=@Hd.m970 (Hd.k1 P)
theorem te16297282788874579387:(λP=>@Hd.m970 (Hd.k0 P))=tw16297282788874579387:=Hd.kE @Hd.m970
def tw1750985478139212991:List Stmt:=Hd.m971s tw10643642339515478971
theorem te1750985478139212991:Hd.m971s PySem.Challenge.pw_hideworth_k21_budget_papers_looked_at=tw1750985478139212991:=congrArg Hd.m971s te10643642339515478971
def tw10240407805441811852(P:Params):BT:=@Hd.m985 (Hd.k1 P)
theorem te10240407805441811852:(λP=>@Hd.m985 (Hd.k0 P))=tw10240407805441811852:=Hd.kE @Hd.m985
def tw16954935309810516999:List Stmt:=Hd.m986s tw10643642339515478971
theorem te16954935309810516999:Hd.m986s PySem.Challenge.pw_hideworth_k21_budget_papers_looked_at=tw16954935309810516999:=congrArg Hd.m986s te10643642339515478971
def tw3838965249300462115(P:Params):BT:=@Hd.m1000 (Hd.k1 P)
theorem te3838965249300462115:(λP=>@Hd.m1000 (Hd.k0 P))=tw3838965249300462115:=Hd.kE @Hd.m1000
def tw8871647643279349428:List Stmt:=Hd.m1001s tw10643642339515478971
theorem te8871647643279349428:Hd.m1001s PySem.Challenge.pw_hideworth_k21_budget_papers_looked_at=tw8871647643279349428:=congrArg Hd.m1001s te10643642339515478971
def tw9666773491129931671(P:Params):BT:=@Hd.m1050 (Hd.k1 P)
theorem te9666773491129931671:(λP=>@Hd.m1050 (Hd.k0 P))=tw9666773491129931671:=Hd.kE @Hd.m1050
def tw9556311306269178704:List Stmt:=Hd.m1051s tw10643642339515478971
theorem te9556311306269178704:Hd.m1051s PySem.Challenge.pw_hideworth_k21_budget_papers_looked_at=tw9556311306269178704:=congrArg Hd.m1051s te10643642339515478971
def tw13343809615944587702(P:Params):BT:=@Hd.m1121 (Hd.k1 P)
theorem te13343809615944587702:(λP=>@Hd.m1121 (Hd.k0 P))=tw13343809615944587702:=Hd.kE @Hd.m1121
def tw8067518562243701813:List Stmt:=Hd.m1122s tw10643642339515478971
theorem te8067518562243701813:Hd.m1122s PySem.Challenge.pw_hideworth_k21_budget_papers_looked_at=tw8067518562243701813:=congrArg Hd.m1122s te10643642339515478971
def tw11226098736111427581(P:Params):BT:=@Hd.m1206 (Hd.k1 P)
theorem te11226098736111427581:(λP=>@Hd.m1206 (Hd.k0 P))=tw11226098736111427581:=Hd.kE @Hd.m1206
def tw3341491651366893442:List Stmt:=Hd.m1207s tw10643642339515478971
theorem te3341491651366893442:Hd.m1207s PySem.Challenge.pw_hideworth_k21_budget_papers_looked_at=tw3341491651366893442:=congrArg Hd.m1207s te10643642339515478971
def tw17961676786641227704(P:Params):BT:=@Hd.m1285 (Hd.k1 P)
theorem te17961676786641227704:(λP=>@Hd.m1285 (Hd.k0 P))=tw17961676786641227704:=Hd.kE @Hd.m1285
def tw6909708313254287652:List Stmt:=Hd.m1286s tw10643642339515478971
theorem te6909708313254287652:Hd.m1286s PySem.Challenge.pw_hideworth_k21_budget_papers_looked_at=tw6909708313254287652:=congrArg Hd.m1286s te10643642339515478971
def tw16122384027387587915(P:Params):BT:=@Hd.m1370 (Hd.k1 P)
theorem te16122384027387587915:(λP=>@Hd.m1370 (Hd.k0 P))=tw16122384027387587915:=Hd.kE @Hd.m1370
def tw17541641427782031751:List Stmt:=Hd.m1371s tw10643642339515478971
theorem te17541641427782031751:Hd.m1371s PySem.Challenge.pw_hideworth_k21_budget_papers_looked_at=tw17541641427782031751:=congrArg Hd.m1371s te10643642339515478971
def tw8222334767273045044(P:Params):BT:=@Hd.m1431 (Hd.k1 P)
theorem te8222334767273045044:(λP=>@Hd.m1431 (Hd.k0 P))=tw8222334767273045044:=Hd.kE @Hd.m1431
def tw13581890676559869319(P:Params):Heap:=@Hd.m1432 (Hd.k1 P)
theorem te13581890676559869319:(λP=>@Hd.m1432 (Hd.k0 P))=tw13581890676559869319:=Hd.kE @Hd.m1432
end PySem.W.Fast
end
open PySem PySem.W PyProof.Rows PySem.W.X PySem.W.ZRun
set_option maxRecDepth 100000 in
set_option maxHeartbeats 0 in
theorem PySem.Challenge.cw_hideworth_k21_budget_papers_looked_at_holds : PySem.Challenge.rw_hideworth_k21_budget_papers_looked_at.Holds := by
 w_on;o_law;z_head;(case hw=>w_witness2)
 k_fill
 intro w s0 s1 m0 m1 G Y fa o pm cd doc dV kV ho hd hc hD hm hg xs vs as L h1 h2 h3 h4 h5
 z_open Y L KX ZH ZN ZT
 refine My.walk_at (l:=PySem.Challenge.rw_hideworth_k21_budget_papers_looked_at) KX (λW=>W w s0 s1 m0 m1 G KX fa o pm cd doc dV kV ho hd hc hD hm hg xs vs as h1 h2 h3 h4 h5) (My.walk (l:=PySem.Challenge.rw_hideworth_k21_budget_papers_looked_at) rfl rfl (λ_ _ h=>h) ?F)
 case F =>
  intro w mg fa h KX G hmg
  refine' My.zAr KX G hmg (My.zzF KX G (L2.zaX ?l0 ?c0 ?k0) (mg_of KX G ?a0) (L2.zaX ?l1 ?c1 ?k1) (mg_of KX G ?a1) (L2.zaX ?l2 ?c2 ?k2) (mg_of KX G ?a2) (L2.zaX ?l3 ?c3 ?k3) (mg_of KX G ?a3) (L2.zaX ?l4 ?c4 ?k4) (mg_of KX G ?a4) (L2.zaX ?l5 ?c5 ?k5) (mg_of KX G ?a5) (L2.zaX ?l6 ?c6 ?k6) (mg_of KX G ?a6) (L2.zaX ?l7 ?c7 ?k7) (mg_of KX G ?a7) (L2.zaX ?l8 ?c8 ?k8) (mg_of KX G ?a8) (L2.zaX ?l9 ?c9 ?k9) (mg_of KX G ?a9) (L2.zaX ?l10 ?c10 ?k10) (mg_of KX G ?a10) (L2.zaX ?l11 ?c11 ?k11) (mg_of KX G ?a11) (L2.zaX ?l12 ?c12 ?k12) (mg_of KX G ?a12) (L2.zaX ?l13 ?c13 ?k13) (mg_of KX G ?a13) (L2.zaX ?l14 ?c14 ?k14) (mg_of KX G ?a14) (L2.zaX ?l15 ?c15 ?k15) (mg_of KX G ?a15) (L2.zaX ?l16 ?c16 ?k16) (mg_of KX G ?a16) (L2.zaX ?l17 ?c17 ?k17) (mg_of KX G ?a17) (L2.zaX ?l18 ?c18 ?k18) (mg_of KX G ?a18) (L2.zaX ?l19 ?c19 ?k19) (mg_of KX G ?a19) (L2.zaX ?l20 ?c20 ?k20) (mg_of KX G ?a20) (L2.zaX ?l21 ?c21 ?k21) (mg_of KX G ?a21) (L2.zaX ?l22 ?c22 ?k22) (mg_of KX G ?a22) (L2.zaX ?l23 ?c23 ?k23) (mg_of KX G ?a23) (L2.zaX ?l24 ?c24 ?k24) (mg_of KX G ?a24) (L2.zaX ?l25 ?c25 ?k25) (mg_of KX G ?a25) (L2.zaX ?l26 ?c26 ?k26) (mg_of KX G ?a26) (L2.zaX ?l27 ?c27 ?k27) (mg_of KX G ?a27) (L2.zaX ?l28 ?c28 ?k28) (mg_of KX G ?a28) (L2.zaX ?l29 ?c29 ?k29) (mg_of KX G ?a29) (L2.zaX ?l30 ?c30 ?k30) (mg_of KX G ?a30) (L2.zaX ?l31 ?c31 ?k31) (mg_of KX G ?a31) (L2.zaX ?l32 ?c32 ?k32) (mg_of KX G ?a32) (L2.zaX ?l33 ?c33 ?k33) (mg_of KX G ?a33) (L2.zaX ?l34 ?c34 ?k34) (mg_of KX G ?a34) (L2.zaX ?l35 ?c35 ?k35) (mg_of KX G ?a35) (L2.zaX ?l36 ?c36 ?k36) (mg_of KX G ?a36) (L2.zaX ?l37 ?c37 ?k37) (mg_of KX G ?a37) (L2.zaX ?l38 ?c38 ?k38) (mg_of KX G ?a38) (L2.zaX ?l39 ?c39 ?k39) (mg_of KX G ?a39) (L2.zaX ?l40 ?c40 ?k40) (mg_of KX G ?a40) (L2.zaX ?l41 ?c41 ?k41) (mg_of KX G ?a41) (L2.zaX ?l42 ?c42 ?k42) (mg_of KX G ?a42) (L2.zaX ?l43 ?c43 ?k43) (mg_of KX G ?a43) (L2.zaX ?l44 ?c44 ?k44) (mg_of KX G ?a44) (L2.zaX ?l45 ?c45 ?k45) (mg_of KX G ?a45) (L2.zaX ?l46 ?c46 ?k46) (mg_of KX G ?a46) (L2.zaX ?l47 ?c47 ?k47) (mg_of KX G ?a47) (L2.zaX ?l48 ?c48 ?k48) (mg_of KX G ?a48) (L2.zaX ?l49 ?c49 ?k49) (mg_of KX G ?a49) (L2.zaX ?l50 ?c50 ?k50) (mg_of KX G ?a50) (L2.zaX ?l51 ?c51 ?k51) (mg_of KX G ?a51) (L2.zaX ?l52 ?c52 ?k52) (mg_of KX G ?a52) (L2.zaX ?l53 ?c53 ?k53) (mg_of KX G ?a53) (L2.zaX ?l54 ?c54 ?k54) (mg_of KX G ?a54) (L2.zaX ?l55 ?c55 ?k55) (mg_of KX G ?a55) (L2.zaX ?l56 ?c56 ?k56) (mg_of KX G ?a56) (L2.zaX ?l57 ?c57 ?k57) (mg_of KX G ?a57) (L2.zaX ?l58 ?c58 ?k58) (mg_of KX G ?a58) (L2.zaX ?l59 ?c59 ?k59) (mg_of KX G ?a59) (L2.zaX ?l60 ?c60 ?k60) (mg_of KX G ?a60) (L2.zaX ?l61 ?c61 ?k61) (mg_of KX G ?a61) (L2.zaX ?l62 ?c62 ?k62) (mg_of KX G ?a62) (L2.zaX ?l63 ?c63 ?k63) (mg_of KX G ?a63) (mg_none_of KX G ?z_enumerate) (mg_none_of KX G ?z_set) (mg_none_of KX G ?z_isinstance) (mg_none_of KX G ?z_range) (mg_none_of KX G ?z_all) (mg_none_of KX G ?z_sorted) (mg_none_of KX G ?z_abs) (mg_none_of KX G ?z_sum) (mg_none_of KX G ?z_len) (mg_none_of KX G ?z_list) (mg_none_of KX G ?z_zip) (mg_none_of KX G ?z_int) (mg_none_of KX G ?z_bool) (mg_none_of KX G ?z_tuple) (mg_none_of KX G ?z_max) (mg_none_of KX G ?z_min) (mg_of KX G ?ac_NoNumber) (mg_of KX G ?ac_NoBoxes) (mg_of KX G ?ac_NoBudget) (mg_of KX G ?ak_MOST_BOXES) (mg_of KX G ?ak_MOST_COST) (mg_of KX G ?ak_MOST_OF) (mg_of KX G ?ak_MOST_BUDGET) (mg_of KX G ?ak_MOST_LOOKS) ?xc_NoNumber ?xc_NoBoxes ?xc_NoBudget)
  (case a0=>k_is);(case l0=>k_is);(case c0=>k_is);(case k0=>k_is)
  (case a1=>k_is);(case l1=>k_is);(case c1=>k_is);(case k1=>k_is)
  (case a2=>k_is);(case l2=>k_is);(case c2=>k_is);(case k2=>k_is)
  (case a3=>k_is);(case l3=>k_is);(case c3=>k_is);(case k3=>k_is)
  (case a4=>k_is);(case l4=>k_is);(case c4=>k_is);(case k4=>k_is)
  (case a5=>k_is);(case l5=>k_is);(case c5=>k_is);(case k5=>k_is)
  (case a6=>k_is);(case l6=>k_is);(case c6=>k_is);(case k6=>k_is)
  (case a7=>k_is);(case l7=>k_is);(case c7=>k_is);(case k7=>k_is)
  (case a8=>k_is);(case l8=>k_is);(case c8=>k_is);(case k8=>k_is)
  (case a9=>k_is);(case l9=>k_is);(case c9=>k_is);(case k9=>k_is)
  (case a10=>k_is);(case l10=>k_is);(case c10=>k_is);(case k10=>k_is)
  (case a11=>k_is);(case l11=>k_is);(case c11=>k_is);(case k11=>k_is)
  (case a12=>k_is);(case l12=>k_is);(case c12=>k_is);(case k12=>k_is)
  (case a13=>k_is);(case l13=>k_is);(case c13=>k_is);(case k13=>k_is)
  (case a14=>k_is);(case l14=>k_is);(case c14=>k_is);(case k14=>k_is)
  (case a15=>k_is);(case l15=>k_is);(case c15=>k_is);(case k15=>k_is)
  (case a16=>k_is);(case l16=>k_is);(case c16=>k_is);(case k16=>k_is)
  (case a17=>k_is);(case l17=>k_is);(case c17=>k_is);(case k17=>k_is)
  (case a18=>k_is);(case l18=>k_is);(case c18=>k_is);(case k18=>k_is)
  (case a19=>k_is);(case l19=>k_is);(case c19=>k_is);(case k19=>k_is)
  (case a20=>k_is);(case l20=>k_is);(case c20=>k_is);(case k20=>k_is)
  (case a21=>k_is);(case l21=>k_is);(case c21=>k_is);(case k21=>k_is)
  (case a22=>k_is);(case l22=>k_is);(case c22=>k_is);(case k22=>k_is)
  (case a23=>k_is);(case l23=>k_is);(case c23=>k_is);(case k23=>k_is)
  (case a24=>k_is);(case l24=>k_is);(case c24=>k_is);(case k24=>k_is)
  (case a25=>k_is);(case l25=>k_is);(case c25=>k_is);(case k25=>k_is)
  (case a26=>k_is);(case l26=>k_is);(case c26=>k_is);(case k26=>k_is)
  (case a27=>k_is);(case l27=>k_is);(case c27=>k_is);(case k27=>k_is)
  (case a28=>k_is);(case l28=>k_is);(case c28=>k_is);(case k28=>k_is)
  (case a29=>k_is);(case l29=>k_is);(case c29=>k_is);(case k29=>k_is)
  (case a30=>k_is);(case l30=>k_is);(case c30=>k_is);(case k30=>k_is)
  (case a31=>k_is);(case l31=>k_is);(case c31=>k_is);(case k31=>k_is)
  (case a32=>k_is);(case l32=>k_is);(case c32=>k_is);(case k32=>k_is)
  (case a33=>k_is);(case l33=>k_is);(case c33=>k_is);(case k33=>k_is)
  (case a34=>k_is);(case l34=>k_is);(case c34=>k_is);(case k34=>k_is)
  (case a35=>k_is);(case l35=>k_is);(case c35=>k_is);(case k35=>k_is)
  (case a36=>k_is);(case l36=>k_is);(case c36=>k_is);(case k36=>k_is)
  (case a37=>k_is);(case l37=>k_is);(case c37=>k_is);(case k37=>k_is)
  (case a38=>k_is);(case l38=>k_is);(case c38=>k_is);(case k38=>k_is)
  (case a39=>k_is);(case l39=>k_is);(case c39=>k_is);(case k39=>k_is)
  (case a40=>k_is);(case l40=>k_is);(case c40=>k_is);(case k40=>k_is)
  (case a41=>k_is);(case l41=>k_is);(case c41=>k_is);(case k41=>k_is)
  (case a42=>k_is);(case l42=>k_is);(case c42=>k_is);(case k42=>k_is)
  (case a43=>k_is);(case l43=>k_is);(case c43=>k_is);(case k43=>k_is)
  (case a44=>k_is);(case l44=>k_is);(case c44=>k_is);(case k44=>k_is)
  (case a45=>k_is);(case l45=>k_is);(case c45=>k_is);(case k45=>k_is)
  (case a46=>k_is);(case l46=>k_is);(case c46=>k_is);(case k46=>k_is)
  (case a47=>k_is);(case l47=>k_is);(case c47=>k_is);(case k47=>k_is)
  (case a48=>k_is);(case l48=>k_is);(case c48=>k_is);(case k48=>k_is)
  (case a49=>k_is);(case l49=>k_is);(case c49=>k_is);(case k49=>k_is)
  (case a50=>k_is);(case l50=>k_is);(case c50=>k_is);(case k50=>k_is)
  (case a51=>k_is);(case l51=>k_is);(case c51=>k_is);(case k51=>k_is)
  (case a52=>k_is);(case l52=>k_is);(case c52=>k_is);(case k52=>k_is)
  (case a53=>k_is);(case l53=>k_is);(case c53=>k_is);(case k53=>k_is)
  (case a54=>k_is);(case l54=>k_is);(case c54=>k_is);(case k54=>k_is)
  (case a55=>k_is);(case l55=>k_is);(case c55=>k_is);(case k55=>k_is)
  (case a56=>k_is);(case l56=>k_is);(case c56=>k_is);(case k56=>k_is)
  (case a57=>k_is);(case l57=>k_is);(case c57=>k_is);(case k57=>k_is)
  (case a58=>k_is);(case l58=>k_is);(case c58=>k_is);(case k58=>k_is)
  (case a59=>k_is);(case l59=>k_is);(case c59=>k_is);(case k59=>k_is)
  (case a60=>k_is);(case l60=>k_is);(case c60=>k_is);(case k60=>k_is)
  (case a61=>k_is);(case l61=>k_is);(case c61=>k_is);(case k61=>k_is)
  (case a62=>k_is);(case l62=>k_is);(case c62=>k_is);(case k62=>k_is)
  (case a63=>k_is);(case l63=>k_is);(case c63=>k_is);(case k63=>k_is)
  (case z_enumerate=>k_is)
  (case z_set=>k_is)
  (case z_isinstance=>k_is)
  (case z_range=>k_is)
  (case z_all=>k_is)
  (case z_sorted=>k_is)
  (case z_abs=>k_is)
  (case z_sum=>k_is)
  (case z_len=>k_is)
  (case z_list=>k_is)
  (case z_zip=>k_is)
  (case z_int=>k_is)
  (case z_bool=>k_is)
  (case z_tuple=>k_is)
  (case z_max=>k_is)
  (case z_min=>k_is)
  (case ac_NoNumber=>k_is)
  (case ac_NoBoxes=>k_is)
  (case ac_NoBudget=>k_is)
  (case ak_MOST_BOXES=>k_is)
  (case ak_MOST_COST=>k_is)
  (case ak_MOST_OF=>k_is)
  (case ak_MOST_BUDGET=>k_is)
  (case ak_MOST_LOOKS=>k_is)
  (case xc_NoNumber=>k_exc)
  (case xc_NoBoxes=>k_exc)
  (case xc_NoBudget=>k_exc)
