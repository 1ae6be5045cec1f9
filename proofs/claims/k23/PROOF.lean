import PyProof.Rows.All
import Wide.All
import OpenK.AllK
import Wide.FinOn
import Lean
import PyProof.EqAt
import PyProof.EqKinds
import PyProof.TupleCall
import KE.IntBitsLaws
import PyProof.NeKinds
import KE.KIsAll
import PyProof.ExcAttrAll.ValueError
import KE.RegKIsAll
import OpenK.KOwn
import PyProof.ConsumeWalk
import PyProof.SumWalkG
import PyProof.Rows.SeqCalls
import PyProof.Rows.SeqGen
import PyProof.ZipIter
import PyProof.Rows.ZipGen
import PyProof.Rows.FactsT2
import PyProof.ListRange
import KE.KDictSum
import PyProof.Rows.SortWalk
import KE.KEqSeq
import PyProof.IsRules
import PyProof.Rows.SetFrom
import PyProof.TupleKey
import PyProof.SetRoads
import PyProof.FactsAll.set_1
import OpenK.ZGo
import PySem.Challenge.RW_hideworth_k23_whole_worths_for_budgets
open PySem.W renaming Frag→ψa,kia_one→ψc1,kitOne→ψw1,kitAny→ψO1
open List renaming length_map→ψb,getElem?_eq_getElem→ψc,mem_cons_of_mem→ψd,mem_cons_self→ψe,zipWith→ψf,size_toArray→ψg,Nodup→ψh,length_zipWith→ψk,zip→ψn,getElem?_of_mem→ψp,sum_cons→ψq,getElem?_map→ψt,take_add_one→ψu,getD_eq_getElem?_getD→ψx,mem_append_right→ψA,take_length→ψC,map_cons→ψD,not_mem_nil→ψF,zipWith_cons_cons→ψH,map_append→ψK,length_take→ψL,length_cons→ψM,mem_of_getElem?→ψN,getElem?_zip_eq_some→ψO,mem_cons→ψP,length_append→ψR,take_of_length_le→ψV,eq_nil_of_length_eq_zero→ψX,sum_nil→ψY,getElem?_zipWith→ψZ,getElem?_append_right→ψa1,getElem?_append_left→ψe1,lookup_cons→ψj1,zipWith_nil_left→ψl1,map_nil→ψm1,range→ψs1,all_eq_true→ψu1,getElem_mem→ψv1,zip_cons_cons→ψI1,mem_append_left→ψK1,mem_of_mem_take→ψL1,getElem?_mapIdx→ψM1,zipWith_nil_right→ψZ1
open PyProof.Rows renaming boot_isinstance→ψi,boot_sum→ψG,callWith_type1→ψo1,boot_all→ψz1
open Nat renaming le_refl→ψj,lt_of_lt_of_le→ψr,ne_of_lt→ψs,le_trans→ψb1,zero_le→ψp1,lt_irrefl→ψr1,lt_of_le_of_lt→ψx1,not_lt_zero→ψD1,ne_of_gt→ψG1,lt_succ_self→ψP1,lt_trans→ψQ1,one_lt_two_pow→ψV1
open Rat renaming divInt_eq_div→ψl,intCast_mul→ψm,divInt→ψw,num_divInt_den→ψy,le_of_lt→ψB,mul_le_mul_of_nonneg_right→ψJ,intCast_add→ψT,pow_succ→ψk1,mul_nonneg→ψn1,pow_zero→ψq1,le_of_mul_le_mul_right→ψt1,mul_pos→ψB1,le_refl→ψF1,intCast_sub→ψU1,div_def→ψY1
open PySem renaming boot_len→ψo,mem_of_lookup→ψE
open Bool renaming false_ne_true→ψv,and_eq_true→ψQ,eq_iff_iff→ψJ1
open Int renaming le_of_lt→ψz,mul_ne_zero→ψS,gcd→ψU,fdiv_eq_ediv_of_nonneg→ψW,fmod_nonneg_of_pos→ψd1,mul_fdiv_add_fmod→ψf1,fmod_lt_of_pos→ψy1,mul_pos→ψA1,mul_neg→ψC1,ediv_le_self→ψE1,mul_sub→ψN1,eq_ofNat_of_zero_le→ψR1,emod_lt_of_pos→ψS1,ediv_nonneg→ψT1,mul_le_mul_of_nonneg_right→ψW1,mul_one→ψX1
open Classical renaming byContradiction→ψI
open PySem.F renaming slot_list_append→ψg1,type_list_append→ψh1,plainAttrs_list→ψi1
open PyProof.Rows.F renaming plain_set_update_loop→ψH1
set_option Elab.async false
set_option linter.all false
set_option maxRecDepth 100000
namespace L2
open PySem PySem.Spec PyProof.Rows
abbrev Key:=Sum Int Str
def zzi:Key→Value→Bool
 | .inl k,v=>Value.isInt k v
 | .inr x,v=>Value.isStrOf x v
def keyH(w:World):Key→Int
 | .inl k=>hashInt k
 | .inr x=>hashStr w x
theorem zcu:∀{k:Key} {v:Value},zzi k v=true→(∃i t,k=Sum.inl i∧v=Value.int i t)∨(∃x t,k=Sum.inr x∧v=Value.str x t)
 | .inl i,v,h=>by
  obtain⟨t,e⟩:=Value.isInt_shape (k:=i) (v:=v) h
  exact .inl ⟨i,t,rfl,e⟩
 | .inr x,v,h=>by
  obtain⟨t,e⟩:=Value.isStrOf_shape (x:=x) (v:=v) h
  exact .inr ⟨x,t,rfl,e⟩
theorem zxV(a b:Int):decide ((Sum.inl a:Key)=Sum.inl b)=(a == b):=by
 by_cases e:a=b
 ·subst e;simp
 ·have h:¬ (Sum.inl a:Key)=Sum.inl b:=λq=>e (Sum.inl.inj q)
  rw[decide_eq_false h]
  exact(beq_eq_false_iff_ne.mpr e).symm
theorem zzu(a b:Str):decide ((Sum.inr a:Key)=Sum.inr b)=decide (a=b):=by
 by_cases e:a=b
 ·subst e;simp
 ·have h:¬ (Sum.inr a:Key)=Sum.inr b:=λq=>e (Sum.inr.inj q)
  rw[decide_eq_false h,decide_eq_false e]
theorem zy7(a:Int)(b:Str):decide ((Sum.inl a:Key)=Sum.inr b)=false:=decide_eq_false (λq=>nomatch q)
theorem zyQ(a:Str)(b:Int):decide ((Sum.inr a:Key)=Sum.inl b)=false:=decide_eq_false (λq=>nomatch q)
def znI(prog:Program)(w:World):PySem.KeyKind prog w Key where
 is:=zzi
 hash:=keyH w
 inj:=λv a b ha hb=>by
  rcases zcu ha with ⟨i,t,rfl,rfl⟩ | ⟨x,t,rfl,rfl⟩
  ·rcases zcu hb with ⟨j,u,rfl,e⟩ | ⟨y,u,rfl,e⟩
   ·injection e with e1 _;rw[e1]
   ·exact nomatch e
  ·rcases zcu hb with ⟨j,u,rfl,e⟩ | ⟨y,u,rfl,e⟩
   ·exact nomatch e
   ·injection e with e1 _;rw[e1]
 byValue:=λk v h=>by
  rcases zcu h with ⟨i,t,rfl,rfl⟩ | ⟨x,t,rfl,rfl⟩ <;> rfl
 pyHash:=λhv h=>by
  rcases zcu hv with ⟨i,t,rfl,rfl⟩ | ⟨x,t,rfl,rfl⟩
  ·exact wpAny_pyHash_int h
  ·exact wpAny_pyHash_str h
 eqBool:=λhu hv h=>by
  rcases zcu hu with ⟨i,t,rfl,rfl⟩ | ⟨x,t,rfl,rfl⟩
  ·rcases zcu hv with ⟨j,u,rfl,rfl⟩ | ⟨y,u,rfl,rfl⟩
   ·rw[zxV] at h;exact wpAny_eqBool_int h
   ·rw[zy7] at h;exact SeqAt.EqAt.int_str i t y u _ _ _ _ h
  ·rcases zcu hv with ⟨j,u,rfl,rfl⟩ | ⟨y,u,rfl,rfl⟩
   ·rw[zyQ] at h;exact SeqAt.EqAt.str_int x t j u _ _ _ _ h
   ·rw[zzu] at h;exact wpAny_eqBool_str h
 «strs»:=λk x t v h=>by
  rcases zcu h with ⟨i,u,rfl,e⟩ | ⟨y,u,rfl,e⟩
  ·exact nomatch e
  ·injection e with e1 _
   subst e1
   cases v <;> rfl
end L2
namespace L2
open PySem PySem.Spec PyProof.Rows
inductive V where
 | non | bl (b:Bool) | int (i:Int) | str (x:Str) | byt (b:Array UInt8) | flt (b:UInt64) | ref (a:Addr) | ty (n:String)
 deriving DecidableEq
def zdp:V→Value→Prop
 | .non,u=>u=Value.none
 | .bl b,u=>u=Value.bool b
 | .int i,u=>∃t,u=Value.int i t
 | .str x,u=>∃t,u=Value.str x t
 | .byt b,u=>∃t,u=Value.bytes b t
 | .flt b,u=>∃t,u=Value.float b t
 | .ref a,u=>u=Value.ref a
 | .ty n,u=>u=Value.type n
abbrev zcH:List V→List Value→Prop:=Paired zdp
theorem zcH.length{xs:List V}{us:List Value}(r:zcH xs us):xs.length=us.length:=Paired.length r
theorem zcH.get:∀{xs:List V} {us:List Value} {i:Nat} {x:V},zcH xs us→xs[i]?=some x→∃u,us[i]?=some u∧zdp x u
 | _,_,_,_,.nil,e=>by simp at e
 | _,_,0,_,.cons r _,e=>by simp at e;subst e;exact⟨_,rfl,r⟩
 | _,_,i+1,x,.cons _ t,e=>by
  obtain⟨u,h1,h2⟩:=zcH.get (i:=i) (x:=x) t (by simpa using e)
  exact⟨u,by simpa using h1,h2⟩
theorem zcH.set{x:V}{u:Value}(r:zdp x u):∀{xs:List V} {us:List Value} (i:Nat),zcH xs us→zcH (xs.set i x) (us.set i u)
 | _,_,_,.nil=>.nil
 | _,_,0,.cons _ t=>.cons r t
 | _,_,i+1,.cons q t=>.cons q (zcH.set r i t)
theorem zcH.append:∀{xs ys:List V} {us ws:List Value},zcH xs us→zcH ys ws→zcH (xs++ys) (us++ws)
 | _,_,_,_,.nil,s=>s
 | _,_,_,_,.cons r t,s=>.cons r (zcH.append t s)
theorem zcH.take:∀{xs:List V} {us:List Value} (n:Nat),zcH xs us→zcH (xs.take n) (us.take n)
 | _,_,0,_=>.nil
 | _,_,_+1,.nil=>.nil
 | _,_,n+1,.cons r t=>.cons r (zcH.take n t)
theorem zcH.drop:∀{xs:List V} {us:List Value} (n:Nat),zcH xs us→zcH (xs.drop n) (us.drop n)
 | _,_,0,r=>r
 | _,_,_+1,.nil=>.nil
 | _,_,n+1,.cons _ t=>zcH.drop n t
def RelO:Option V→Option Value→Prop
 | some v,some u=>zdp v u
 | none,none=>True
 | _,_=>False
def KV{κ:Type}:List (κ×V)→List (κ×Value)→Prop:=Paired λ(p:κ×V) (q:κ×Value)=>p.1=q.1∧zdp p.2 q.2
def kV:Key→V
 | .inl i=>.int i
 | .inr x=>.str x
inductive HO where
  | lst (xs:List V)
  | tup (xs:List V)
  | dK (kvs:List (Key×V)) | dT (kvs:List (List Key×V))
  | set (S:Int→Bool) (n:Nat)
  | ins (C dx:Addr) (fs:List (Str×V))
  | own (x:Addr)
  | xd (fs:List (Str×V))
  | met (f x:Addr)
  | rng (lo hi:Int)
  | frz (o:Obj) (u:HO)
  | tbl (ps:Array Value)
  | ext (φ:Heap→Prop)
abbrev Hp:=Addr→Option HO
def upd(H:Hp)(a:Addr)(o:HO):Hp:=λb=>if b=a then some o else H b
theorem zai{H:Hp}{a:Addr}{o:HO}:upd H a o a=some o:=by unfold upd;rw[if_pos rfl]
theorem zaM{H:Hp}{a b:Addr}{o:HO}(h:b≠a):upd H a o b=H b:=by unfold upd;rw[if_neg h]
theorem zaG{H:Hp}{a b:Addr}{o:HO}(h:H a=some o)(h':H b=none):a≠b:=by
 intro e;subst e;rw[h] at h';cases h'
section
variable (P:Program) (w:World)
def zdU(H:Hp)(h:Heap)(a:Addr):HO→Prop
 | .lst xs=>xs.length≤sizeLine∧∃(its:List Value) (n:Nat),zcH xs its∧h.get? a=some { cls:=.type "list",data:=.seq its.toArray n }
 | .tup xs=>xs.length≤sizeLine∧∃its:List Value,zcH xs its∧IsTup h a its.toArray
 | .dK kvs=>kvs.length≤sizeLine∧(a == sysModules)=false∧∃vs,KV kvs vs∧h.DictOf (znI P w) a vs
 | .dT kvs=>kvs.length≤sizeLine∧(a == sysModules)=false∧∃xs:List (List Key×Addr×Value),
   Paired (λ(p:List Key×V) (q:List Key×Addr×Value)=>p.1=q.1∧H q.2.1=some (.tup (p.1.map kV))∧zdp p.2 q.2.2) kvs xs ∧
   ∃o es ep,h.get? a=some o∧o.ExactDict∧o.data=.dict es ep∧es.toList=xs.map (entryOfKey (tupleKind (znI P w)))∧(xs.map (·.1)).Nodup
 | .set S n=>h.SetOf (intKind P w) a S n
 | .ins C dx fs=>H dx=some (.own a)∧fs.length≤1000∧dx≠a∧h.get? a=some (PySem.W.instObj C dx) ∧
   ∃mA,h.Ns1 dx mA∧(∀f,RelO (fs.lookup f) (mA f))∧PySem.Within mA (fs.map (·.1))
 | .own _=>∃o,h.get? a=some o
 | .xd fs=>∃mA,h.Ns1 a mA∧∀f,RelO (fs.lookup f) (mA f)
 | .rng lo hi=>∃t u v,h.get? a=some { cls:=.type "range",data:=.fields #[.int lo t,.int hi u,.int 1 v] }
 | .frz o u=>h.get? a=some o∧zdU H h a u
 | .tbl ps=>h.get? a=some { cls:=.none,data:=.fields ps }
 | .met f x=>h.get? a=some (PySem.W.methodObj (.ref f) (.ref x))
 | .ext φ=>φ h∧(∃o,h.get? a=some o)∧∀h1 h2:Heap,φ h1→(∀o,h1.get? a=some o→h2.get? a=some o)→φ h2
def HOk(H:Hp)(h:Heap):Prop:=∀a o,H a=some o→zdU P w H h a o
end
section
variable {P:Program} {w:World} {H H':Hp} {h h':Heap} {a:Addr} {o:HO}
theorem zdU.lt(x:zdU P w H h a o):a<h.objs.size:=by
 cases o with
 | lst xs=>obtain⟨_,_,_,_,e⟩:=x;exact Heap.lt_size e
 | tup xs=>obtain⟨_,_,_,p⟩:=x;exact p.lt
 | dK kvs=>obtain⟨_,_,_,_,o,_,_,e,_⟩:=x;exact Heap.lt_size e
 | dT kvs=>obtain⟨_,_,_,_,o,_,_,e,_⟩:=x;exact Heap.lt_size e
 | set S n=>obtain⟨o,_,_,_,e,_⟩:=x;exact Heap.lt_size e
 | ins C dx fs=>obtain⟨_,_,_,e,_⟩:=x;exact Heap.lt_size e
 | own y=>obtain⟨_,e⟩:=x;exact Heap.lt_size e
 | xd fs=>obtain⟨_,⟨_,_,_,e,_⟩,_⟩:=x;exact Heap.lt_size e
 | rng lo hi=>obtain⟨_,_,_,e⟩:=x;exact Heap.lt_size e
 | frz ob u=>obtain⟨e,_⟩:=x;exact Heap.lt_size e
 | tbl ps=>exact Heap.lt_size (show h.get? a=some _ from x)
 | met f y=>exact Heap.lt_size (show h.get? a=some _ from x)
 | ext φ=>obtain⟨_,⟨_,e⟩,_⟩:=x;exact Heap.lt_size e
theorem Paired.mapP{α β:Type}{F G:α→β→Prop}:∀{l₁:List α} {l₂:List β},Paired F l₁ l₂→(∀a b,F a b→G a b)→Paired G l₁ l₂
 | _,_,.nil,_=>.nil
 | _,_,.cons r t,f=>.cons (f _ _ r) (Paired.mapP t f)
theorem zdU.stay(x:zdU P w H h a o)(k:∀b u,(b=a∨H b=some (.own a))→h.get? b=some u→h'.get? b=some u)
  (ho:∀b,H b=some (.own a)→H' b=some (.own a)) (ht:∀b xs,H b=some (.tup xs)→H' b=some (.tup xs)):zdU P w H' h' a o:=by
 induction o with
 | lst xs=>obtain⟨z,its,n,r,e⟩:=x;exact⟨z,its,n,r,k _ _ (.inl rfl) e⟩
 | tup xs=>obtain⟨z,its,r,ob,e,c⟩:=x;exact⟨z,its,r,ob,k _ _ (.inl rfl) e,c⟩
 | dK kvs=>obtain⟨z,y,vs,r,ob,es,ep,e,c⟩:=x;exact⟨z,y,vs,r,ob,es,ep,k _ _ (.inl rfl) e,c⟩
 | dT kvs =>
  obtain⟨z,y,xs,r,ob,es,ep,e,c⟩:=x
  exact⟨z,y,xs,Paired.mapP r λp q z=>⟨z.1,ht _ _ z.2.1,z.2.2⟩,ob,es,ep,k _ _ (.inl rfl) e,c⟩
 | set S n=>obtain⟨ob,es,ep,t,e,c⟩:=x;exact⟨ob,es,ep,t,k _ _ (.inl rfl) e,c⟩
 | ins C dx fs =>
  obtain⟨d,z,ne,e,mA,⟨od,es,ep,e2,c⟩,r⟩:=x
  exact⟨ho _ d,z,ne,k _ _ (.inl rfl) e,mA,⟨od,es,ep,k _ _ (.inr d) e2,c⟩,r⟩
 | own y=>obtain⟨ob,e⟩:=x;exact⟨ob,k _ _ (.inl rfl) e⟩
 | xd fs=>obtain⟨mA,⟨od,es,ep,e,c⟩,r⟩:=x;exact⟨mA,⟨od,es,ep,k _ _ (.inl rfl) e,c⟩,r⟩
 | rng lo hi=>obtain⟨t,u,v,e⟩:=x;exact⟨t,u,v,k _ _ (.inl rfl) e⟩
 | frz ob u ih=>obtain⟨e,q⟩:=x;exact⟨k _ _ (.inl rfl) e,ih q⟩
 | tbl ps =>
  have e:h.get? a=some { cls:=.none,data:=.fields ps }:=x
  show h'.get? a=some { cls:=.none,data:=.fields ps }
  exact k a _ (.inl rfl) e
 | met f y =>
  have e:h.get? a=some (PySem.W.methodObj (.ref f) (.ref y)):=x
  show h'.get? a=some (PySem.W.methodObj (.ref f) (.ref y))
  exact k a _ (.inl rfl) e
 | ext φ=>obtain⟨p,⟨o,e⟩,st⟩:=x;exact⟨st _ _ p λo q=>k _ _ (.inl rfl) q,⟨o,k _ _ (.inl rfl) e⟩,st⟩
theorem HOk.lt(x:HOk P w H h)(e:H a=some o):a<h.objs.size:=(x a o e).lt
theorem HOk.fresh(x:HOk P w H h)(e:h.objs.size≤a):H a=none:=by
 cases q:H a with
 | none=>rfl
 | some u=>exact absurd (ψr (x.lt q) e) (ψr1 _)
theorem HOk.kept(x:HOk P w H h)(k:∀b u,h.get? b=some u→h'.get? b=some u):HOk P w H h':=λa o e =>
 (x a o e).stay (λb u _ q=>k b u q) (λ_ q=>q) λ_ _ q=>q
theorem HOk.laid(x:HOk P w H h)(k:∀b u,h.get? b=some u→h'.get? b=some u)(hp:h.objs.size≤a)(new:zdU P w (upd H a o) h' a o):HOk P w (upd H a o) h':=λb u e=>by
 have hn:=x.fresh hp
 by_cases hb:b=a
 ·subst hb;rw[zai] at e;cases e;exact new
 ·rw[zaM hb] at e
  exact(x b u e).stay (λc v _ q=>k c v q) (λc q=>by rw[zaM (zaG q hn)];exact q) λc xs q=>by rw[zaM (zaG q hn)];exact q
end
def Rd(H:Hp)(a:Addr)(u:HO):Prop:=H a=some u∨∃o,H a=some (.frz o u)
theorem Rd.ok{P:Program}{w:World}{H:Hp}{h:Heap}{a:Addr}{u:HO}(r:Rd H a u)(x:HOk P w H h):zdU P w H h a u:=by
 rcases r with r | ⟨o,r⟩
 ·exact x a u r
 ·obtain⟨_,q⟩:=x a _ r
  exact q
def Mut:Option HO→Prop
 | some (.lst _)=>True
 | some (.dK _)=>True
 | some (.dT _)=>True
 | some (.set _ _)=>True
 | some (.ins _ _ _)=>True
 | some (.ext _)=>True
 | _=>False
section
variable {P:Program} {w:World} {H:Hp} {h h':Heap} {x e:Addr} {o':HO}
theorem HOk.write(ok:HOk P w H h)(mu:Mut (H x))(he:e=x∨H e=some (.own x))(k:∀b u,b≠e→h.get? b=some u→h'.get? b=some u)(heo:∃u,h'.get? e=some u)
  (new:zdU P w (upd H x o') h' x o'):HOk P w (upd H x o') h':=λb u q=>by
 have nown:∀c y,H c=some (.own y)→c≠x:=λc y r z=>by subst z;rw[r] at mu;exact mu
 have ntup:∀c xs,H c=some (.tup xs)→c≠x:=λc xs r z=>by subst z;rw[r] at mu;exact mu
 by_cases hb:b=x
 ·subst hb;rw[zai] at q;cases q;exact new
 ·rw[zaM hb] at q
  by_cases hbe:b=e
  ·have q':H b=some (.own x):=by
    rcases he with z | z
    ·exact absurd (hbe.trans z) hb
    ·rw[hbe];exact z
   rw[q] at q';cases q'
   obtain⟨v,hv⟩:=heo
   exact⟨v,by rw[hbe];exact hv⟩
  ·refine(ok b u q).stay (λc v hc r=>k c v ?_ r) (λc r=>by rw[zaM (nown c b r)];exact r) λc xs r=>by rw[zaM (ntup c xs r)];exact r
   rcases hc with rfl | hc
   ·exact hbe
   ·rintro rfl
    rcases he with z | z
    ·exact nown c b hc z
    ·rw[hc] at z;cases z;exact hb rfl
end
structure Un (fs ex:List Addr) (H H':Hp) (h h':Heap):Prop where
 keep:∀b o,h.get? b=some o→H b=none→b∉fs→b∉ex→h'.get? b=some o
 slot:∀b o,h.get? b=some o→H b=none→b∈fs→b∉ex→∃sl,h'.get? b=some { o with slots:=sl }
 free:∀b o,h.get? b=some o→H b=none→b∉ex→H' b=none
 there:∀b o,h.get? b=some o→b∉ex→∃o',h'.get? b=some o'
 tups:∀b xs,H b=some (.tup xs)→H' b=some (.tup xs)
 frzs:∀b o u,H b=some (.frz o u)→H' b=some (.frz o u)
 tbls:∀b ps,H b=some (.tbl ps)→∃more,H' b=some (.tbl (ps++more))
section
variable {fs fs' ex ex':List Addr} {H H1 H2:Hp} {h h1 h2 h':Heap} {a x e:Addr} {o:HO}
theorem Un.any(u:Un fs ex H H1 h h1){b:Addr}{ob:Obj}(q:h.get? b=some ob)(n:H b=none)(hx:b∉ex):∃sl,h1.get? b=some { ob with slots:=sl }:=by
 by_cases hb:b∈fs
 ·exact u.slot b ob q n hb hx
 ·exact⟨ob.slots,u.keep b ob q n hb hx⟩
theorem Un.kept(k:∀b u,h.get? b=some u→h'.get? b=some u):Un fs ex H H h h' :=
 ⟨λb ob q _ _ _=>k b ob q,λb ob q _ _ _=>⟨ob.slots,k b ob q⟩,λ_ _ _ n _=>n,λb ob q _=>⟨ob,k b ob q⟩,λ_ _ q=>q,λ_ _ _ q=>q,λ_ ps q=>⟨#[],by rw[q];simp⟩⟩
theorem Un.refl:Un fs ex H H h h:=Un.kept λ_ _ q=>q
theorem Un.laid(k:∀b u,h.get? b=some u→h'.get? b=some u)(hp:h.objs.size≤a)(hn:H a=none):Un fs ex H (upd H a o) h h' where
 keep:=λb u q _ _ _=>k b u q
 slot:=λb u q _ _ _=>⟨u.slots,k b u q⟩
 free:=λb u q n _=>by rw[zaM (ψs (ψr (Heap.lt_size q) hp))];exact n
 there:=λb u q _=>⟨u,k b u q⟩
 tups:=λb xs q=>by rw[zaM (zaG q hn)];exact q
 frzs:=λb u xs q=>by rw[zaM (zaG q hn)];exact q
 tbls:=λb ps q=>⟨#[],by rw[zaM (zaG q hn),q];simp⟩
theorem Un.write(mu:Mut (H x))(he:e=x∨H e=some (.own x))(k:∀b u,b≠e→h.get? b=some u→h'.get? b=some u)(heo:∃u,h'.get? e=some u):Un fs ex H (upd H x o) h h':=by
 have hx:∀b,H b=none→b≠x:=λb n z=>by subst z;rw[n] at mu;exact mu
 have hb:∀b,H b=none→b≠e:=λb n z=>by
  subst z
  rcases he with r | r
  ·exact hx b n r
  ·rw[n] at r;cases r
 have hm:∀b u,H b=some u→¬ Mut (some u)→b≠x:=λb u q nm z=>by subst z;rw[q] at mu;exact nm mu
 refine⟨λb u q n _ _=>k b u (hb b n) q,λb u q n _ _=>⟨u.slots,k b u (hb b n) q⟩,λb u q n _=>by rw[zaM (hx b n)];exact n,λb u q _=>?_,
  λb xs q=>by rw[zaM (hm b _ q λz=>z)];exact q,λb u xs q=>by rw[zaM (hm b _ q λz=>z)];exact q,λb ps q=>⟨#[],by rw[zaM (hm b _ q λz=>z),q];simp⟩⟩
 by_cases hbe:b=e
 ·subst hbe;exact heo
 ·exact⟨u,k b u hbe q⟩
end
def trk(h:Heap)(H:Hp):List Addr:=(ψs1 h.objs.size).filter λa=>(H a).isSome
def zuT(h:Heap)(H:Hp):Heap:=PySem.W.hideAll h (trk h H)
theorem zqK(h:Heap)(H:Hp):(zuT h H).objs.size=h.objs.size:=PySem.W.hideAll_size _ _
theorem zuR{h:Heap}{H:Hp}{b:Addr}{o:Obj}(e:h.get? b=some o)(n:H b=none):(zuT h H).get? b=some o :=
 PySem.W.hideAll_get _ e λhm=>by
  have q:(H b).isSome=true:=(List.mem_filter.mp hm).2
  rw[n] at q;simp at q
theorem zwU{h:Heap}{H:Hp}{b:Addr}{o:Obj}(e:(zuT h H).get? b=some o):h.get? b=some o∧H b=none:=by
 have e':h.get? b=some o:=PySem.W.of_hideAll (trk h H) e
 refine⟨e',?_⟩
 cases q:H b with
 | none=>rfl
 | some x =>
  have hm:b∈trk h H:=List.mem_filter.mpr ⟨List.mem_range.mpr (Heap.lt_size e'),by simp[q]⟩
  have z:(zuT h H).get? b=none:=PySem.W.hideAll_none (trk h H) hm
  rw[z] at e;cases e
def zv2(g h:Heap)(L:Addr):List (Addr×Obj):=(ψs1 h.objs.size).filterMap λa=>if a=L∨(g.get? a).isSome=true then none else (h.get? a).map λo=>(a,o)
def rest(g h:Heap)(L d:Addr):List (Addr×Obj):=(zv2 g h L).filter λp=>decide (p.1≠d)
end L2
namespace L2
open PySem PySem.Spec PyProof.Rows
structure Mod (K:ψa) (mg:Str→Option Value) (base:Heap):Prop where
 kin:K.In base
 glob:base.Ns mainGlobals mg
 blt:∃mb,base.Ns builtinsNs mb∧∀x:Str,x≠"__name__"→mb x=bootBuiltins x
 nolimit:base.NoLimit
structure Cx where
 prog:Program
 w:World
 K:ψa
 mg:Str→Option Value
 base:Heap
 A:Around
 N:List Str
 s₀:Shared
 H₀:Hp
 env:Env
 outer:List Env
 stack:List Env
 ex:List Addr
 fn:Str→Bool
 calm:Bool
 pn:List (Addr×Obj)
 xe:Value→Shared→Prop
def frs(l:List Env):List Addr:=l.filterMap (·.frame)
abbrev Cx.fs(X:Cx):List Addr:=frs X.outer
def Vis(sc:Scope)(x:Str):Prop:=sc.names.lookup x=some .local∨sc.names.lookup x=some .cell∨sc.names.lookup x=some .free
def Loc(sc:Scope)(x:Str):Prop:=sc.names.lookup x=some .local∨sc.names.lookup x=some .cell
def Look(env:Env)(h:Heap)(m:Str→Option Value)(x:Str)(u:Value):Prop :=
 (env.kindOf x=some .local∧m x=some u)∨((env.kindOf x=some .cell∨env.kindOf x=some .free)∧∃c,env.cells.lookup x=some c∧h.IsCell c (some u))
structure Cx.Ok (X:Cx):Prop where
 mod:Mod X.K X.mg X.base
 kind:X.env.scope.kind=.function
 glob:X.env.globals=mainGlobals
 blt:X.env.builtins=builtinsNs
 above:X.s₀.heap.objs.size≤X.env.locals
 inj:∀x y c,X.env.cells.lookup x=some c→X.env.cells.lookup y=some c→x=y
 has:∀x,(X.env.kindOf x=some .cell∨X.env.kindOf x=some .free)→∃c,X.env.cells.lookup x=some c
 cab:∀x c,X.fn x=true→X.env.cells.lookup x=some c→X.s₀.heap.objs.size≤c
 hd:X.calm=true→X.A.handled=none
 frames:X.A.frames=some X.stack
 stk:X.stack=X.outer∨(X.stack=X.env::X.outer∧X.env.frame=some X.env.locals)
 exf:∀b∈X.ex,b≠X.env.locals∧∀x c,X.env.cells.lookup x=some c→c≠b
 bs:∀b o,X.base.get? b=some o→X.s₀.heap.get? b=some o∧X.H₀ b=none
 bsz:X.base.objs.size≤X.s₀.heap.objs.size
 noex:∀b o,X.base.get? b=some o→b∉X.ex
 exfs:∀b∈X.ex,b∉X.fs
 funs:X.s₀.heap.FunFrames X.base X.outer
 frf:∀b∈X.fs,X.H₀ b=none
structure Inv (X:Cx) (pins:List (Addr×Obj)) (σ:List (Option V)) (H:Hp) (s:Shared):Prop where
 ok:X.Ok
 os:s.os=X.s₀.os
 bare:AllBare s.gens
 base:Un X.fs X.ex X.H₀ H X.s₀.heap s.heap
 loc:∃m,s.heap.Ns X.env.locals m∧∀(i:Nat) (x:Str) (v:V),X.N[i]?=some x→σ[i]?=some (some v)→Vis X.env.scope x→∃u,zdp v u∧Look X.env s.heap m x u
 cell:∀x c,X.env.cells.lookup x=some c→∃v,s.heap.IsCell c v
 free:H X.env.locals=none
 freeC:∀x c,X.env.cells.lookup x=some c→H c=none
 pin:∀p∈X.pn++pins,s.heap.get? p.1=some p.2∧H p.1=none∧p.1≠X.env.locals∧p.1∉X.fs∧∀v,p.2.data≠.cell v
 hok:HOk X.prog X.w H s.heap
 len:σ.length=X.N.length
section
variable {X:Cx} {pins:List (Addr×Obj)} {σ:List (Option V)} {H H':Hp} {s:Shared} {h':Heap}
theorem Cx.Ok.nofr(ok:X.Ok){b:Addr}{o:Obj}(e:X.base.get? b=some o):b∉X.fs:=λhb=>by
 have:=(ok.funs.mem hb).1
 rw[e] at this;cases this
theorem Inv.bs(I:Inv X pins σ H s):∀b o,X.base.get? b=some o→s.heap.get? b=some o∧H b=none:=λb o e =>
 ⟨I.base.keep b o (I.ok.bs b o e).1 (I.ok.bs b o e).2 (I.ok.nofr e) (I.ok.noex b o e),I.base.free b o (I.ok.bs b o e).1 (I.ok.bs b o e).2 (I.ok.noex b o e)⟩
theorem Inv.bk(I:Inv X pins σ H s):∀b o,X.base.get? b=some o→s.heap.get? b=some o:=λb o e=>(I.bs b o e).1
theorem Inv.mod(I:Inv X pins σ H s):Mod X.K X.mg X.base:=I.ok.mod
theorem Inv.kIn(I:Inv X pins σ H s):X.K.In s.heap:=I.ok.mod.kin.keeps I.bk
theorem Inv.lt(I:Inv X pins σ H s):X.env.locals<s.heap.objs.size:=let ⟨_,hn,_⟩:=I.loc;hn.lt
theorem Inv.sz(I:Inv X pins σ H s):X.s₀.heap.objs.size≤s.heap.objs.size:=ψb1 I.ok.above (Nat.le_of_lt I.lt)
theorem Inv.nofs(I:Inv X pins σ H s){a:Addr}(h:s.heap.objs.size≤a):a∉X.fs:=λhb=>by
 obtain⟨_,o,ho,_⟩:=I.ok.funs.mem hb
 exact absurd (ψr (Heap.lt_size ho) (ψb1 I.sz h)) (ψr1 _)
theorem Inv.cne(I:Inv X pins σ H s):∀x c,X.env.cells.lookup x=some c→c≠X.env.locals:=λx c e z=>by
 obtain⟨v,o,ho,hd⟩:=I.cell x c e
 obtain⟨m,⟨o',es,ep,ho',hd',_⟩,_⟩:=I.loc
 rw[z,ho'] at ho;cases ho;rw[hd'] at hd;cases hd
theorem Inv.funs(I:Inv X pins σ H s):s.heap.FunFrames X.base X.outer:=by
 have all:∀(l:List Env),(∀b∈frs l,b∈X.fs)→X.s₀.heap.FunFrames X.base l→s.heap.FunFrames X.base l:=by
  intro l
  induction l with
  | nil=>intro _ _;trivial
  | cons env r ih =>
   intro hs hl
   obtain⟨hk,⟨L,o,hf,hn,ho,hd⟩,hr⟩:=hl
   have hL:L∈X.fs:=hs L (by unfold frs;rw[List.filterMap_cons,hf];exact ψe)
   obtain⟨sl,e⟩:=I.base.slot L o ho (I.ok.frf L hL) hL λz=>I.ok.exfs L z hL
   exact⟨hk,⟨L,_,hf,hn,e,hd⟩,ih (λb hb=>hs b (by unfold frs;rw[List.filterMap_cons,hf];exact ψd _ hb)) hr⟩
 exact all X.outer (λ_ hb=>hb) I.ok.funs
theorem Inv.stack(I:Inv X pins σ H s):s.heap.FunFrames X.base X.stack:=by
 rcases I.ok.stk with e | ⟨e,hf⟩
 ·rw[e];exact I.funs
 ·rw[e]
  obtain⟨m,hn,_⟩:=I.loc
  refine .cons (by rw[I.ok.kind];decide) hf hn ?_ I.funs
  exact Heap.get?_none_of_le (ψb1 I.ok.bsz I.ok.above)
theorem Inv.stkSub(I:Inv X pins σ H s):∀b∈frs X.stack,b∈X.env.locals::X.fs:=λb hb=>by
 rcases I.ok.stk with e | ⟨e,hf⟩
 ·rw[e] at hb;exact ψd _ hb
 ·rw[e] at hb
  unfold frs at hb
  rw[List.filterMap_cons,hf] at hb
  exact hb
theorem Inv.stkFree(I:Inv X pins σ H s):∀b∈frs X.stack,H b=none:=λb hb=>by
 rcases List.mem_cons.mp (I.stkSub b hb) with e | hb
 ·rw[e];exact I.free
 ·obtain⟨_,o,ho,_⟩:=I.ok.funs.mem hb
  exact I.base.free b o ho (I.ok.frf b hb) λz=>I.ok.exfs b z hb
theorem Inv.step{g':Array GenState}{t':Nat}{d':Drawn}{ch:List Addr}(I:Inv X pins σ H s)
  (hch:∀b∈ch,(b∈X.ex∨X.s₀.heap.objs.size≤b)∧b≠X.env.locals∧(∀x c,X.env.cells.lookup x=some c→c≠b)∧∀p∈X.pn++pins,p.1≠b)
  (keep:∀b o,b≠X.env.locals→b∉X.fs→b∉ch→s.heap.get? b=some o→H b=none→h'.get? b=some o)
  (slot:∀b o,b≠X.env.locals→b∈X.fs→b∉ch→s.heap.get? b=some o→H b=none→∃sl,h'.get? b=some { o with slots:=sl }) (free:∀b o,b∉ch→s.heap.get? b=some o→H b=none→H' b=none)
  (there:∀b o,b∉ch→s.heap.get? b=some o→∃o',h'.get? b=some o')
  (tups:∀b xs,H b=some (.tup xs)→H' b=some (.tup xs)) (frzs:∀b o u,H b=some (.frz o u)→H' b=some (.frz o u)) (tbls:∀b ps,H b=some (.tbl ps)→∃more,H' b=some (.tbl (ps++more)))
  (ns:∀m,s.heap.Ns X.env.locals m→h'.Ns X.env.locals m) (hok:HOk X.prog X.w H' h') (hg:AllBare g') :
  Inv X pins σ H' { s with heap:=h',gens:=g',drawn:=d',toks:=t' }:=by
 have neL:∀b o,X.s₀.heap.get? b=some o→b≠X.env.locals:=λb o e=>ψs (ψr (Heap.lt_size e) I.ok.above)
 have neC:∀b o,X.s₀.heap.get? b=some o→b∉X.ex→b∉ch:=λb o e hx hb=>by
  rcases(hch b hb).1 with z | z
  ·exact hx z
  ·exact absurd (ψr (Heap.lt_size e) z) (ψr1 _)
 have cellK:∀x c,X.env.cells.lookup x=some c→∀v,s.heap.IsCell c v→h'.IsCell c v:=λx c e v ⟨o,ho,hd⟩=>by
  have nch:c∉ch:=λz=>(hch c z).2.2.1 x c e rfl
  by_cases hc:c∈X.fs
  ·obtain⟨sl,q⟩:=slot c o (I.cne x c e) hc nch ho (I.freeC x c e)
   exact⟨_,q,hd⟩
  ·exact⟨o,keep c o (I.cne x c e) hc nch ho (I.freeC x c e),hd⟩
 refine⟨I.ok,I.os,hg,⟨λb o e n hb hx=>?_,λb o e n hb hx=>?_,λb o e n hx=>?_,λb o e hx=>?_,λb xs e=>tups b xs (I.base.tups b xs e),λb o xs e=>frzs b o xs (I.base.frzs b o xs e),λb ps e=>?_⟩,?_,λx c e=>?_,?_,λx c e=>?_,λp hp=>?_,hok,I.len⟩
 ·exact keep b o (neL b o e) hb (neC b o e hx) (I.base.keep b o e n hb hx) (I.base.free b o e n hx)
 ·obtain⟨sl,e1⟩:=I.base.slot b o e n hb hx
  obtain⟨sl',e2⟩:=slot b _ (neL b o e) hb (neC b o e hx) e1 (I.base.free b o e n hx)
  exact⟨sl',e2⟩
 ·obtain⟨o',e1⟩:=I.base.there b o e hx
  exact free b o' (neC b o e hx) e1 (I.base.free b o e n hx)
 ·obtain⟨o',e1⟩:=I.base.there b o e hx
  exact there b o' (neC b o e hx) e1
 ·obtain⟨m1,e1⟩:=I.base.tbls b ps e
  obtain⟨m2,e2⟩:=tbls b _ e1
  exact⟨m1++m2,by rw[e2,Array.append_assoc]⟩
 ·obtain⟨m,hn,hl⟩:=I.loc
  refine⟨m,ns m hn,λi x v e1 e2 e3=>?_⟩
  obtain⟨u,r,l⟩:=hl i x v e1 e2 e3
  refine⟨u,r,?_⟩
  rcases l with l | ⟨k,c,e,z⟩
  ·exact .inl l
  ·exact .inr ⟨k,c,e,cellK x c e _ z⟩
 ·obtain⟨v,z⟩:=I.cell x c e
  exact⟨v,cellK x c e v z⟩
 ·obtain⟨m,⟨o,_,_,ho,_⟩,_⟩:=I.loc
  exact free _ o (λz=>(hch _ z).2.1 rfl) ho I.free
 ·obtain⟨v,o,ho,hd⟩:=I.cell x c e
  exact free c o (λz=>(hch c z).2.2.1 x c e rfl) ho (I.freeC x c e)
 ·obtain⟨e,n,ne,nf,d⟩:=I.pin p hp
  have nch:p.1∉ch:=λz=>(hch p.1 z).2.2.2 p hp rfl
  exact⟨keep p.1 p.2 ne nf nch e n,free p.1 p.2 nch e n,ne,nf,d⟩
theorem Inv.un{t':Nat}(I:Inv X pins σ H s)(u:Un X.fs [] H H' s.heap h')(hok:HOk X.prog X.w H' h'):Inv X pins σ H' { s with heap:=h',toks:=t' }:=by
 obtain⟨m,⟨o,es,ep,ho,r⟩,_⟩:=id I.loc
 obtain⟨sl,hL⟩:=u.any ho I.free (by simp)
 exact I.step (g':=s.gens) (d':=s.drawn) (ch:=[]) (λ_ z=>nomatch z) (λb o _ hb _ e n=>u.keep b o e n hb (by simp)) (λb o _ hb _ e n=>u.slot b o e n hb (by simp)) (λb o _ e n=>u.free b o e n (by simp)) (λb o _ e=>u.there b o e (by simp)) u.tups u.frzs u.tbls (λm' hm=>by
  obtain⟨o',es',ep',ho',r'⟩:=hm
  rw[ho] at ho';cases ho'
  exact⟨_,es',ep',hL,r'⟩) hok I.bare
theorem Inv.call{g':Array GenState}{t':Nat}{d':Drawn}{ch:List Addr}(I:Inv X pins σ H s)(u:Un (frs X.stack) ch H H' s.heap h')(hok:HOk X.prog X.w H' h')(hg:AllBare g')
  (hch:∀b∈ch,(b∈X.ex∨X.s₀.heap.objs.size≤b)∧b≠X.env.locals∧(∀x c,X.env.cells.lookup x=some c→c≠b)∧∀p∈X.pn++pins,p.1≠b) :
  Inv X pins σ H' { s with heap:=h',gens:=g',drawn:=d',toks:=t' }:=by
 obtain⟨m,⟨o,es,ep,ho,r⟩,_⟩:=id I.loc
 obtain⟨sl,hL⟩:=u.any ho I.free λz=>(hch _ z).2.1 rfl
 exact I.step (ch:=ch) hch (λb o hL hb hc e n=>u.keep b o e n (λz=>(List.mem_cons.mp (I.stkSub b z)).elim hL hb) hc) (λb o _ _ hc e n=>u.any e n hc) (λb o hc e n=>u.free b o e n hc) (λb o hc e=>u.there b o e hc) u.tups u.frzs u.tbls (λm' hm=>by
  obtain⟨o',es',ep',ho',r'⟩:=hm
  rw[ho] at ho';cases ho'
  exact⟨_,es',ep',hL,r'⟩) hok hg
theorem Inv.turned{t':Nat}{it:Addr}(I:Inv X pins σ H s)(k:∀b o,b≠it→s.heap.get? b=some o→h'.get? b=some o)(hn:H it=none)(hL:it≠X.env.locals)
  (h1:it∈X.ex∨X.s₀.heap.objs.size≤it) (h2:∀x c,X.env.cells.lookup x=some c→c≠it) (h3:∀p∈X.pn++pins,p.1≠it):Inv X pins σ H { s with heap:=h',toks:=t' }:=by
 have nit:∀b u,H b=some u→b≠it:=λb u e z=>by rw[z,hn] at e;cases e
 refine I.step (g':=s.gens) (d':=s.drawn) (ch:=[it]) (λb hb=>?_) (λb o _ _ hc e _=>k b o (λz=>hc (by simp[z])) e) (λb o _ _ hc e _=>⟨o.slots,k b o (λz=>hc (by simp[z])) e⟩) (λ_ _ _ _ n=>n)
  (λb o hc e=>⟨o,k b o (λz=>hc (by simp[z])) e⟩) (λ_ _ e=>e) (λ_ _ _ e=>e) (λb ps e=>⟨#[],by rw[e];simp⟩) (λm hm=>?_) (λb u e=>?_) I.bare
 ·have e:b=it:=by simpa using hb
  subst e
  exact⟨h1,hL,h2,h3⟩
 ·obtain⟨o,es,ep,ho,r⟩:=hm
  exact⟨o,es,ep,k _ o (Ne.symm hL) ho,r⟩
 ·refine(I.hok b u e).stay (λc v hc q=>k c v ?_ q) (λ_ q=>q) λ_ _ q=>q
  rcases hc with z | z
  ·rw[z];exact nit b u e
  ·exact nit c _ z
theorem Inv.tok(I:Inv X pins σ H s)(t:Nat):Inv X pins σ H { s with toks:=t }:=I.un (h':=s.heap) (t':=t) Un.refl I.hok
theorem Inv.kept{t':Nat}(I:Inv X pins σ H s)(k:∀b u,s.heap.get? b=some u→h'.get? b=some u):Inv X pins σ H { s with heap:=h',toks:=t' }:=I.un (Un.kept k) (I.hok.kept k)
theorem Inv.laid{a:Addr}{o:HO}{t':Nat}(I:Inv X pins σ H s)(k:∀b u,s.heap.get? b=some u→h'.get? b=some u)(hp:s.heap.objs.size≤a)(new:zdU X.prog X.w (upd H a o) h' a o) :
  Inv X pins σ (upd H a o) { s with heap:=h',toks:=t' }:=I.un (Un.laid k hp (I.hok.fresh hp)) (I.hok.laid k hp new)
theorem Inv.write{x e:Addr}{o:HO}{t':Nat}(I:Inv X pins σ H s)(mu:Mut (H x))(he:e=x∨H e=some (.own x))(k:∀b u,b≠e→s.heap.get? b=some u→h'.get? b=some u)(heo:∃u,h'.get? e=some u)
  (new:zdU X.prog X.w (upd H x o) h' x o):Inv X pins σ (upd H x o) { s with heap:=h',toks:=t' }:=I.un (Un.write mu he k heo) (I.hok.write mu he k heo new)
theorem Inv.pins_of{pins':List (Addr×Obj)}(I:Inv X pins σ H s)(h:∀p∈pins',s.heap.get? p.1=some p.2∧H p.1=none∧p.1≠X.env.locals∧p.1∉X.fs∧∀v,p.2.data≠.cell v):Inv X pins' σ H s :=
 ⟨I.ok,I.os,I.bare,I.base,I.loc,I.cell,I.free,I.freeC,λp hp=>(List.mem_append.mp hp).elim (λz=>I.pin p (ψK1 _ z)) (h p),I.hok,I.len⟩
theorem zoq{N:List Str}(hN:N.Nodup){i j:Nat}{x:Str}(a:N[i]?=some x)(b:N[j]?=some x):i=j:=by
 obtain⟨h1,e1⟩:=List.getElem?_eq_some_iff.mp a
 obtain⟨h2,e2⟩:=List.getElem?_eq_some_iff.mp b
 exact(List.getElem_inj hN).mp (e1.trans e2.symm)
theorem ziY{M:Model}{A:Around}{E:Value→Shared→Prop}{i:Nat}{x:Str}{v:V}{u:Value}{Q:Unit→Shared→Prop}(I:Inv X pins σ H s)(hN:X.N.Nodup)(hi:X.N[i]?=some x)(hx:Loc X.env.scope x)(r:zdp v u)
  (h:∀s',Inv X pins (σ.set i (some v)) H s'→(∃a,Heap.SameBut a s.heap s'.heap∧(a=X.env.locals∨X.env.cells.lookup x=some a))→Q () s') (hf:X.fn x=true∨X.env.scope.names.lookup x=some .local:=by first | exact .inl rfl | exact .inr rfl | assumption):wpAny M A (storeName X.env x u) Q E s:=by
 obtain⟨m,hn,hl⟩:=id I.loc
 have hcls:(X.env.scope.kind == .class || (X.env.scope.kind == .module&&X.env.locals != X.env.globals))=false:=by rw[I.ok.kind];rfl
 have hiσ:i<σ.length:=by rw[I.len];exact(List.getElem?_eq_some_iff.mp hi).1
 have cne:=I.cne
 have tracked:∀{a:Addr} {h':Heap},(∃o,s.heap.get? a=some o∧H a=none)→Heap.SameBut a s.heap h'→HOk X.prog X.w H h':=fun {a h'} ha hs b ob e=>by
  obtain⟨_,_,hfree⟩:=ha
  refine(I.hok b ob e).stay (λc w' hc q=>(hs.2 c ?_).trans q) (λ_ q=>q) λ_ _ q=>q
  rintro rfl
  rcases hc with rfl | hc
  ·rw[hfree] at e;cases e
  ·rw[hfree] at hc;cases hc
 rcases hx with hk | hk
 ·refine wpAny_storeName_local hk hn (λh' hn' hs=>?_) hcls
  obtain⟨oL,_,_,hoL,_⟩:=id hn
  refine h _ ⟨I.ok,I.os,I.bare,⟨λb o e n hb hx=>?_,λb o e n hb hx=>?_,I.base.free,λb o e hx=>?_,I.base.tups,I.base.frzs,I.base.tbls⟩,⟨_,hn',λj y v' e1 e2 e3=>?_⟩,λy c e=>?_,I.free,I.freeC,λp hp=>?_,tracked ⟨oL,hoL,I.free⟩ hs,by simpa using I.len⟩ ⟨_,hs,.inl rfl⟩
  ·exact(hs.2 b (ψs (ψr (Heap.lt_size e) I.ok.above))).trans (I.base.keep b o e n hb hx)
  ·obtain⟨sl,e1⟩:=I.base.slot b o e n hb hx
   exact⟨sl,(hs.2 b (ψs (ψr (Heap.lt_size e) I.ok.above))).trans e1⟩
  ·obtain⟨o',e1⟩:=I.base.there b o e hx
   exact⟨o',(hs.2 b (ψs (ψr (Heap.lt_size e) I.ok.above))).trans e1⟩
  ·by_cases hj:j=i
   ·subst hj
    rw[hi] at e1;cases e1
    rw[List.getElem?_set_self hiσ] at e2
    cases e2
    exact⟨u,r,.inl ⟨hk,by simp⟩⟩
   ·rw[List.getElem?_set_ne (Ne.symm hj)] at e2
    obtain⟨u',r',q⟩:=hl j y v' e1 e2 e3
    refine⟨u',r',?_⟩
    rcases q with ⟨k,e⟩ | ⟨k,c,e,z⟩
    ·refine .inl ⟨k,?_⟩
     have:y≠x:=λe=>hj (zoq hN e1 (e ▸ hi))
     simp[this,e]
    ·exact .inr ⟨k,c,e,z.sameBut hs (cne y c e)⟩
  ·obtain⟨w',z⟩:=I.cell y c e
   exact⟨w',z.sameBut hs (cne y c e)⟩
  ·obtain⟨e,n,ne,nf,d⟩:=I.pin p hp
   exact⟨(hs.2 p.1 ne).trans e,n,ne,nf,d⟩
 ·have hfn:X.fn x=true:=by
   rcases hf with z | z
   ·exact z
   ·rw[z] at hk;cases hk
  obtain⟨c,hc⟩:=I.ok.has x (.inl hk)
  obtain⟨w',z⟩:=I.cell x c hc
  refine wpAny_storeName_cell I.ok.kind hk hc z (λh' hc' hs=>?_)
  obtain⟨oc,hoc,hocd⟩:=id z
  refine h { s with heap:=h' } ⟨I.ok,I.os,I.bare,⟨λb o e n hb hx=>?_,λb o e n hb hx=>?_,I.base.free,λb o e hx=>?_,I.base.tups,I.base.frzs,I.base.tbls⟩,⟨m,hn.sameBut hs (Ne.symm (cne x c hc)),λj y v' e1 e2 e3=>?_⟩,λy c' e=>?_,I.free,I.freeC,λp hp=>?_,tracked ⟨oc,hoc,I.freeC x c hc⟩ hs,by simpa using I.len⟩ ⟨c,hs,.inr hc⟩
  ·exact(hs.2 b (ψs (ψr (Heap.lt_size e) (I.ok.cab x c hfn hc)))).trans (I.base.keep b o e n hb hx)
  ·obtain⟨sl,e1⟩:=I.base.slot b o e n hb hx
   exact⟨sl,(hs.2 b (ψs (ψr (Heap.lt_size e) (I.ok.cab x c hfn hc)))).trans e1⟩
  ·obtain⟨o',e1⟩:=I.base.there b o e hx
   exact⟨o',(hs.2 b (ψs (ψr (Heap.lt_size e) (I.ok.cab x c hfn hc)))).trans e1⟩
  ·by_cases hj:j=i
   ·subst hj
    rw[hi] at e1;cases e1
    rw[List.getElem?_set_self hiσ] at e2
    cases e2
    exact⟨u,r,.inr ⟨.inl hk,c,hc,hc'⟩⟩
   ·rw[List.getElem?_set_ne (Ne.symm hj)] at e2
    obtain⟨u',r',q⟩:=hl j y v' e1 e2 e3
    refine⟨u',r',?_⟩
    rcases q with q | ⟨k,c',e,z'⟩
    ·exact .inl q
    ·refine .inr ⟨k,c',e,z'.sameBut hs ?_⟩
     rintro rfl
     exact hj (zoq hN e1 (I.ok.inj _ _ _ e hc ▸ hi))
  ·by_cases hcc:c'=c
   ·subst hcc;exact⟨_,hc'⟩
   ·obtain⟨w2,z2⟩:=I.cell y c' e
    exact⟨w2,z2.sameBut hs hcc⟩
  ·obtain⟨e,n,ne,nf,d⟩:=I.pin p hp
   refine⟨(hs.2 p.1 ?_).trans e,n,ne,nf,d⟩
   intro q
   rw[q,hoc] at e
   have q':oc=p.2:=Option.some.inj e
   exact d w' (by rw[← q'];exact hocd)
theorem ziC{M:Model}{A:Around}{E:Value→Shared→Prop}{i:Nat}{x:Str}{v:V}{u:Value}{Q:Unit→Shared→Prop}(I:Inv X pins σ H s)(hN:X.N.Nodup)(hi:X.N[i]?=some x)(hx:Loc X.env.scope x)(r:zdp v u)
  (h:∀s',Inv X pins (σ.set i (some v)) H s'→Q () s') (hf:X.fn x=true∨X.env.scope.names.lookup x=some .local:=by first | exact .inl rfl | exact .inr rfl | assumption):wpAny M A (storeName X.env x u) Q E s :=
 ziY I hN hi hx r (λs' I' _=>h s' I') hf
theorem Inv.call'{s':Shared}{ch:List Addr}(I:Inv X pins σ H s)(ho:s'.os=s.os)(u:Un (frs X.stack) ch H H' s.heap s'.heap)(hok:HOk X.prog X.w H' s'.heap)(hg:AllBare s'.gens)
  (hch:∀b∈ch,(b∈X.ex∨X.s₀.heap.objs.size≤b)∧b≠X.env.locals∧(∀x c,X.env.cells.lookup x=some c→c≠b)∧∀p∈X.pn++pins,p.1≠b):Inv X pins σ H' s':=by
 obtain⟨h',g',d',t',o'⟩:=s'
 have e:o'=s.os:=ho
 subst e
 exact I.call (g':=g') (t':=t') (d':=d') u hok hg hch
end
abbrev XK:=Value→Option Addr→Hp→Prop
abbrev St:=List (Option V)
abbrev VK:=V→Hp→Prop
abbrev TE:=St→Hp→VK→Prop
abbrev TT:=St→Hp→(Bool→Hp→Prop)→Prop
abbrev TA:=St→Hp→(List V→Hp→Prop)→Prop
structure zlp where
 nx:St→Hp→Prop
 rt:VK
 bk:St→Hp→Prop:=λ_ _=>False
 ct:St→Hp→Prop:=λ_ _=>False
abbrev TS:=zlp→St→Hp→Prop
def EP(X:Cx)(pins:List (Addr×Obj))(σ:St)(Q:VK)(u:Value)(s':Shared):Prop:=∃v H',Inv X pins σ H' s'∧zdp v u∧Q v H'
def TP(X:Cx)(pins:List (Addr×Obj))(σ:St)(Q:Bool→Hp→Prop)(b:Bool)(s':Shared):Prop:=∃H',Inv X pins σ H' s'∧Q b H'
def AP(X:Cx)(pins:List (Addr×Obj))(σ:St)(Q:List V→Hp→Prop)(us:List Value)(s':Shared):Prop:=∃vs H',Inv X pins σ H' s'∧zcH vs us∧Q vs H'
def SP(X:Cx)(pins:List (Addr×Obj))(D:zlp)(f:Flow)(s':Shared):Prop :=
 match f with
 | .next=>∃σ' H',Inv X pins σ' H' s'∧D.nx σ' H'
 | .brk=>∃σ' H',Inv X pins σ' H' s'∧D.bk σ' H'
 | .cont=>∃σ' H',Inv X pins σ' H' s'∧D.ct σ' H'
 | .ret u=>∃v σ' H',Inv X pins σ' H' s'∧zdp v u∧D.rt v H'
def PE(X:Cx)(e:Expr)(t:TE):Prop :=
 ∀(pins:List (Addr×Obj)) (s:Shared) (σ:St) (H:Hp) (Q:VK),Inv X pins σ H s→t σ H Q→wpAny (model X.prog X.w) X.A (eval e X.env) (EP X pins σ Q) X.xe s
def PT(X:Cx)(e:Expr)(t:TT):Prop :=
 ∀(pins:List (Addr×Obj)) (s:Shared) (σ:St) (H:Hp) (Q:Bool→Hp→Prop),Inv X pins σ H s→t σ H Q→wpAny (model X.prog X.w) X.A (isTrue e X.env (eval e X.env)) (TP X pins σ Q) X.xe s
def PW(X:Cx)(e:Expr)(t:TT):Prop :=
 ∀(whole:Sem Value) (pins:List (Addr×Obj)) (s:Shared) (σ:St) (H:Hp) (Q:Bool→Hp→Prop),Inv X pins σ H s→t σ H Q→wpAny (model X.prog X.w) X.A (isTrue e X.env whole) (TP X pins σ Q) X.xe s
theorem PW.pt{X:Cx}{e:Expr}{t:TT}(h:PW X e t):PT X e t:=h _
def PA(X:Cx)(es:List Expr)(t:TA):Prop :=
 ∀(pos:Pos) (pins:List (Addr×Obj)) (s:Shared) (σ:St) (H:Hp) (Q:List V→Hp→Prop),Inv X pins σ H s→t σ H Q→wpAny (model X.prog X.w) X.A (spliced (backTo pos (starEach es X.env))) (AP X pins σ Q) X.xe s
def PS(X:Cx)(st:Stmt)(t:TS):Prop :=
 ∀(pins:List (Addr×Obj)) (s:Shared) (σ:St) (H:Hp) (D:zlp),Inv X pins σ H s→t D σ H→wpAny (model X.prog X.w) X.A (exec st X.env) (SP X pins D) X.xe s
def PSs(X:Cx)(st:List Stmt)(t:TS):Prop :=
 ∀(pins:List (Addr×Obj)) (s:Shared) (σ:St) (H:Hp) (D:zlp),Inv X pins σ H s→t D σ H→wpAny (model X.prog X.w) X.A (execs st X.env) (SP X pins D) X.xe s
theorem thn{α:Type}{t:Sem α}{Q Q':α→Shared→Prop}{M:Model}{A:Around}{E:Value→Shared→Prop}{s:Shared}(h:wpAny M A t Q E s)(hQ:∀a s,Q a s→Q' a s):wpAny M A t Q' E s:=wpAny_mono h hQ λ_ _ x=>x
end L2
namespace L2
open PySem PySem.Spec PyProof.Rows
section
variable {X:Cx}
def zac(i:Nat):TE:=λσ H Q=>∃v,σ[i]?=some (some v)∧Q v H
def tC(v:V):TE:=λ_ H Q=>Q v H
theorem zyq{i:Nat}{x:Str}{pos:Pos}(hN:X.N[i]?=some x)(hv:Vis X.env.scope x)(hd:(x == ("__debug__":Str))=false:=by decide)(hcd:(x == ("__classdict__":Str))=false:=by decide):PE X (.Name x pos) (zac i):=by
 intro pins s σ H Q I h
 obtain⟨v,e,h⟩:=h
 obtain⟨m,hn,hl⟩:=I.loc
 obtain⟨u,r,l⟩:=hl i x v hN e hv
 have fin:EP X pins σ Q u s:=⟨v,H,I,r,h⟩
 rcases l with ⟨hk,hm⟩ | ⟨hk,c,hc,hcell⟩
 ·exact wpAny_Name (wpAny_loadName_local I.ok.kind hk hn hm fin) hd
 ·rcases hk with hk | hk
  ·exact wpAny_Name (wpAny_loadName_cell I.ok.kind hk hc hcell fin) hd
  ·exact wpAny_Name (wpAny_loadName_free I.ok.kind hk hc hcell fin hcd) hd
theorem zaf{i j pos}:PE X (.Constant (.int i) j pos) (tC (.int i)):=λ_ _ _ H _ I h=>wpAny_Constant_int ⟨.int i,H,I.tok _,⟨_,rfl⟩,h⟩
theorem zcE{b j pos}:PE X (.Constant (.bool b) j pos) (tC (.bl b)):=λ_ _ _ H _ I h=>Constant_bool ⟨.bl b,H,I,rfl,h⟩
theorem zvF{j pos}:PE X (.Constant .none j pos) (tC .non):=λ_ _ _ H _ I h=>Constant_none ⟨.non,H,I,rfl,h⟩
theorem zvv{x j pos}:PE X (.Constant (.str x) j pos) (tC (.str x)):=λ_ _ _ H _ I h=>Calls.Constant_str ⟨.str x,H,I.tok _,⟨_,rfl⟩,h⟩
def Gl(X:Cx)(x:Str):Prop:=X.env.kindOf x=some .globalImplicit
theorem zsg{E:Value→Shared→Prop}{pins:List (Addr×Obj)}{s:Shared}{σ:St}{H:Hp}{x:Str}{u:Value}{pos:Pos}{Q:Value→Shared→Prop}(I:Inv X pins σ H s)(hg:Gl X x)(hm:X.mg x=some u)(h:Q u s)
  (hd:(x == ("__debug__":Str))=false:=by decide):wpAny (model X.prog X.w) X.A (eval (.Name x pos) X.env) Q E s :=
 Calls.Name_function_global I.ok.kind hg (Calls.loadGlobal_global (by rw[I.ok.glob];exact I.mod.glob.keeps I.bk) hm h) hd
theorem zic{E:Value→Shared→Prop}{pins:List (Addr×Obj)}{s:Shared}{σ:St}{H:Hp}{x:Str}{u:Value}{pos:Pos}{Q:Value→Shared→Prop}(I:Inv X pins σ H s)(hg:Gl X x)(hm:X.mg x=none)(hv:bootBuiltins x=some u)(h:Q u s)
  (hn:x≠"__name__":=by decide) (hd:(x == ("__debug__":Str))=false:=by decide):wpAny (model X.prog X.w) X.A (eval (.Name x pos) X.env) Q E s:=by
 obtain⟨mb,h1,h2⟩:=I.mod.blt
 exact Calls.Name_function_global I.ok.kind hg (Calls.loadGlobal_builtin (by rw[I.ok.glob];exact I.mod.glob.keeps I.bk) hm (by rw[I.ok.blt];exact h1.keeps I.bk) ((h2 x hn).trans hv) h) hd
theorem zhE{x:Str}{v:V}{u:Value}{pos:Pos}(hg:Gl X x)(hm:X.mg x=some u)(r:zdp v u)(hd:(x == ("__debug__":Str))=false:=by decide):PE X (.Name x pos) (tC v) :=
 λ_ _ _ H _ I h=>zsg I hg hm ⟨v,H,I,r,h⟩ hd
theorem zbW{x:Str}{v:V}{u:Value}{pos:Pos}(hg:Gl X x)(hm:X.mg x=none)(hv:bootBuiltins x=some u)(r:zdp v u)(hn:x≠"__name__":=by decide)(hd:(x == ("__debug__":Str))=false:=by decide):PE X (.Name x pos) (tC v) :=
 λ_ _ _ H _ I h=>zic I hg hm hv ⟨v,H,I,r,h⟩ hn hd
variable {a b:Expr} {ta tb:TE} {pos:Pos}
def tB(t:TE):TT:=λσ H Q=>t σ H λx H1=>∃c,x=.bl c∧Q c H1
theorem zbr{e:Expr}{t:TE}(h:PE X e t)(he:∀whole,isTrue e X.env whole=(do let v ← whole;standAt e.pos;holding [v] (truthy v)):=by intro _;rfl):PT X e (tB t):=by
 intro pins s σ H Q I hw
 refine isTrue_plain (thn (h pins s σ H _ I hw) λv s1 hQ'=>?_) (he _)
 obtain⟨x,H1,I1,r1,q1⟩:=hQ'
 obtain⟨d,rfl,q⟩:=q1
 cases r1
 exact wpAny_truthy_bool ⟨H1,I1,q⟩
variable {tA tB':TT} {rest:List Expr}
def tAnd(t u:TT):TT:=λσ H Q=>t σ H λc H1=>if c=true then u σ H1 Q else Q false H1
def tOr(t u:TT):TT:=λσ H Q=>t σ H λc H1=>if c=true then Q true H1 else u σ H1 Q
def zeM(t:TT):TT:=λσ H Q=>t σ H λc H1=>Q (!c) H1
theorem zwc(ha:PT X a tA):PW X (.BoolOp .And [a] pos) tA:=by
 intro wh pins s σ H Q I h
 refine isTrue_and (thn (ha pins s σ H Q I h) λc s1 e=>?_)
 cases c with
 | true=>exact isTrue_and_nil e
 | false=>exact e
theorem zcB(ha:PT X a tA):PW X (.BoolOp .Or [a] pos) tA:=by
 intro wh pins s σ H Q I h
 refine isTrue_or (thn (ha pins s σ H Q I h) λc s1 e=>?_)
 cases c with
 | false=>exact isTrue_or_nil e
 | true=>exact e
theorem zzD(ha:PT X a tA)(hb:PW X (.BoolOp .And (b::rest) pos) tB'):PW X (.BoolOp .And (a::b::rest) pos) (tAnd tA tB'):=by
 intro wh pins s σ H Q I h
 refine isTrue_and (thn (ha pins s σ H _ I h) λc s1 hQ'=>?_)
 obtain⟨H1,I1,q1⟩:=hQ'
 cases c with
 | true=>exact hb wh pins s1 σ H1 Q I1 q1
 | false=>exact⟨H1,I1,q1⟩
theorem zcP(ha:PT X a tA)(hb:PW X (.BoolOp .Or (b::rest) pos) tB'):PW X (.BoolOp .Or (a::b::rest) pos) (tOr tA tB'):=by
 intro wh pins s σ H Q I h
 refine isTrue_or (thn (ha pins s σ H _ I h) λc s1 hQ'=>?_)
 obtain⟨H1,I1,q1⟩:=hQ'
 cases c with
 | true=>exact⟨H1,I1,q1⟩
 | false=>exact hb wh pins s1 σ H1 Q I1 q1
theorem zbG(ha:PT X a tA):PT X (.UnaryOp .Not a pos) (zeM tA):=by
 intro pins s σ H Q I h
 exact isTrue_not (ha pins s σ H (λc H1=>Q (!c) H1) I h)
def ze3(ta tb:TE):TE:=λσ H Q=>ta σ H λx H1=>∃c,x=.bl c∧if c=true then tb σ H1 Q else Q (.bl false) H1
def tOrV(ta tb:TE):TE:=λσ H Q=>ta σ H λx H1=>∃c,x=.bl c∧if c=true then Q (.bl true) H1 else tb σ H1 Q
def zrI(ta:TE):TE:=λσ H Q=>ta σ H λx H1=>∃c,x=.bl c∧Q (.bl (!c)) H1
theorem zeY{op}{t:TE}(h:PE X a t):PE X (.BoolOp op [a] pos) t:=λpins s σ H Q I hw=>BoolOp_one (h pins s σ H Q I hw)
theorem zdD(ha:PE X a ta)(hb:PE X (.BoolOp .And (b::rest) pos) tb):PE X (.BoolOp .And (a::b::rest) pos) (ze3 ta tb):=by
 intro pins s σ H Q I h
 refine BoolOp_and (thn (ha pins s σ H _ I h) λv s1 hQ'=>?_)
 obtain⟨x,H1,I1,r1,q1⟩:=hQ'
 obtain⟨c,rfl,q1⟩:=q1
 cases r1
 refine wpAny_truthy_bool ?_
 cases c with
 | true=>exact hb pins s1 σ H1 Q I1 q1
 | false=>exact⟨.bl false,H1,I1,rfl,q1⟩
theorem pe_or(ha:PE X a ta)(hb:PE X (.BoolOp .Or (b::rest) pos) tb):PE X (.BoolOp .Or (a::b::rest) pos) (tOrV ta tb):=by
 intro pins s σ H Q I h
 refine BoolOp_or (thn (ha pins s σ H _ I h) λv s1 hQ'=>?_)
 obtain⟨x,H1,I1,r1,q1⟩:=hQ'
 obtain⟨c,rfl,q1⟩:=q1
 cases r1
 refine wpAny_truthy_bool ?_
 cases c with
 | false=>exact hb pins s1 σ H1 Q I1 q1
 | true=>exact⟨.bl true,H1,I1,rfl,q1⟩
theorem zsG(ha:PE X a ta):PE X (.UnaryOp .Not a pos) (zrI ta):=by
 intro pins s σ H Q I h
 refine UnaryOp_ (thn (ha pins s σ H _ I h) λv s1 hQ'=>?_)
 obtain⟨x,H1,I1,r1,q1⟩:=hQ'
 obtain⟨c,rfl,q1⟩:=q1
 cases r1
 exact not_of (wpAny_truthy_bool ⟨.bl (!c),H1,I1,rfl,q1⟩)
def tIf(t:TT)(ta tb:TE):TE:=λσ H Q=>t σ H λc H1=>if c=true then ta σ H1 Q else tb σ H1 Q
theorem zoG{c:Expr}(hc:PT X c tA)(ha:PE X a ta)(hb:PE X b tb):PE X (.IfExp c a b pos) (tIf tA ta tb):=by
 intro pins s σ H Q I h
 refine wpAny_IfExp (thn (hc pins s σ H _ I h) λd s1 hQ'=>?_)
 obtain⟨H1,I1,q1⟩:=hQ'
 cases d with
 | true=>exact ha pins s1 σ H1 Q I1 q1
 | false=>exact hb pins s1 σ H1 Q I1 q1
end
end L2
namespace L2
open PySem PySem.Spec PyProof.Rows
def SqL(K:ψa)(H:Hp)(a:Addr)(xs:List V):Prop :=
 Rd H a (.lst xs) ∨
  ∃(o:Obj) (its:Array Value) (n:Nat),K.lookup a=some o∧o.cls=.type "list"∧o.dict=none∧o.data=.seq its n∧its.size≤sizeLine∧zcH xs its.toList
def SqT(K:ψa)(H:Hp)(a:Addr)(xs:List V):Prop :=
 Rd H a (.tup xs) ∨
  ∃(o:Obj) (its:Array Value) (n:Nat),K.lookup a=some o∧o.cls=.type "tuple"∧o.data=.seq its n∧its.size≤sizeLine∧zcH xs its.toList
def absV:Value→Option V
 | .none=>some .non
 | .bool b=>some (.bl b)
 | .int i _=>some (.int i)
 | .str x _=>some (.str x)
 | .bytes b _=>some (.byt b)
 | .float b _=>some (.flt b)
 | .ref a=>some (.ref a)
 | .type n=>some (.ty n)
 | _=>none
theorem zdp.abs{x:V}{u:Value}(r:zdp x u):absV u=some x:=by
 cases x with
 | non=>cases r;rfl
 | bl _=>cases r;rfl
 | int _=>obtain⟨t,rfl⟩:=r;rfl
 | str _=>obtain⟨t,rfl⟩:=r;rfl
 | byt _=>obtain⟨t,rfl⟩:=r;rfl
 | flt _=>obtain⟨t,rfl⟩:=r;rfl
 | ref _=>cases r;rfl
 | ty _=>cases r;rfl
theorem zdp.inj{x y:V}{u:Value}(r:zdp x u)(q:zdp y u):x=y:=Option.some.inj (r.abs.symm.trans q.abs)
theorem zcH.inj:∀{xs ys:List V} {us:List Value},zcH xs us→zcH ys us→xs=ys
 | _,_,_,.nil,.nil=>rfl
 | _,_,_,.cons r t,.cons r' t'=>by rw[r.inj r',zcH.inj t t']
section
variable {X:Cx} {pins:List (Addr×Obj)} {σ:St} {H:Hp} {s:Shared} {a:Addr} {xs ys:List V}
theorem SqL.of{K:ψa}(h:H a=some (.lst xs)):SqL K H a xs:=.inl (.inl h)
theorem SqT.of{K:ψa}(h:H a=some (.tup xs)):SqT K H a xs:=.inl (.inl h)
theorem Inv.list(I:Inv X pins σ H s)(h:SqL X.K H a xs):∃its:List Value,zcH xs its∧PlainL s.heap a its.toArray∧xs.length≤sizeLine:=by
 rcases h with h | ⟨o,its,n,hk,hc,hd,hs,hz,r⟩
 ·obtain⟨z,its,n,r,e⟩:=h.ok I.hok
  exact⟨its,r,⟨_,n,e,rfl,rfl,rfl⟩,z⟩
 ·refine⟨its.toList,r,⟨o,n,I.kIn a o hk,hc,hd,by simpa using hs⟩,?_⟩
  have e:=r.length
  simp only[Array.length_toList] at e
  (first|lia|omega)
theorem Inv.tuple(I:Inv X pins σ H s)(h:SqT X.K H a xs):∃its:List Value,zcH xs its∧IsTup s.heap a its.toArray∧xs.length≤sizeLine:=by
 rcases h with h | ⟨o,its,n,hk,hc,hs,hz,r⟩
 ·obtain⟨z,its,r,p⟩:=h.ok I.hok
  exact⟨its,r,p,z⟩
 ·refine⟨its.toList,r,⟨o,I.kIn a o hk,hc,n,by simpa using hs⟩,?_⟩
  have e:=r.length
  simp only[Array.length_toList] at e
  (first|lia|omega)
theorem Inv.list_inj(I:Inv X pins σ H s)(h:SqL X.K H a xs)(h':SqL X.K H a ys):xs=ys:=by
 obtain⟨its,r,⟨o,n,e,_,_,d⟩,_⟩:=I.list h
 obtain⟨its',r',⟨o',n',e',_,_,d'⟩,_⟩:=I.list h'
 rw[e] at e';cases e'
 rw[d] at d'
 injection d' with d1 _
 have:its=its':=by simpa using congrArg Array.toList d1
 subst this
 exact r.inj r'
theorem Inv.tuple_inj(I:Inv X pins σ H s)(h:SqT X.K H a xs)(h':SqT X.K H a ys):xs=ys:=by
 obtain⟨its,r,⟨o,e,_,n,d⟩,_⟩:=I.tuple h
 obtain⟨its',r',⟨o',e',_,n',d'⟩,_⟩:=I.tuple h'
 rw[e] at e';cases e'
 rw[d] at d'
 injection d' with d1 _
 have:its=its':=by simpa using congrArg Array.toList d1
 subst this
 exact r.inj r'
end
abbrev Cx.wish(X:Cx)(E:Value→Shared→Prop):Cx:={ X with xe:=E }
abbrev Cx.nox(X:Cx):Cx:=X.wish λ_ _=>False
theorem Cx.Ok.wish{X:Cx}(ok:X.Ok)(E:Value→Shared→Prop):(X.wish E).Ok :=
 ⟨ok.mod,ok.kind,ok.glob,ok.blt,ok.above,ok.inj,ok.has,ok.cab,ok.hd,ok.frames,ok.stk,ok.exf,ok.bs,ok.bsz,ok.noex,ok.exfs,ok.funs,ok.frf⟩
theorem Cx.Ok.unwish{X:Cx}{E:Value→Shared→Prop}(ok:(X.wish E).Ok):X.Ok :=
 ⟨ok.mod,ok.kind,ok.glob,ok.blt,ok.above,ok.inj,ok.has,ok.cab,ok.hd,ok.frames,ok.stk,ok.exf,ok.bs,ok.bsz,ok.noex,ok.exfs,ok.funs,ok.frf⟩
section
variable {X:Cx} {pins:List (Addr×Obj)} {σ:St} {H:Hp} {s:Shared} {E:Value→Shared→Prop}
theorem Inv.wish(I:Inv X pins σ H s)(E:Value→Shared→Prop):Inv (X.wish E) pins σ H s:=⟨I.ok.wish E,I.os,I.bare,I.base,I.loc,I.cell,I.free,I.freeC,I.pin,I.hok,I.len⟩
theorem Inv.unwish(I:Inv (X.wish E) pins σ H s):Inv X pins σ H s:=⟨I.ok.unwish,I.os,I.bare,I.base,I.loc,I.cell,I.free,I.freeC,I.pin,I.hok,I.len⟩
theorem SP.unwish{D:zlp}{f:Flow}{s':Shared}(h:SP (X.wish E) pins D f s'):SP X pins D f s':=by
 cases f with
 | next=>obtain⟨σ',H',I,q⟩:=h;exact⟨σ',H',I.unwish,q⟩
 | brk=>obtain⟨σ',H',I,q⟩:=h;exact⟨σ',H',I.unwish,q⟩
 | cont=>obtain⟨σ',H',I,q⟩:=h;exact⟨σ',H',I.unwish,q⟩
 | ret u=>obtain⟨v,σ',H',I,r,q⟩:=h;exact⟨v,σ',H',I.unwish,r,q⟩
theorem PSs.nox{st:List Stmt}{t:TS}(h:PSs X.nox st t):PSs X st t:=λpins s σ H D I hw =>
 wpAny_mono (h pins s σ H D (I.wish _) hw) (λ_ _ q=>q.unwish) λ_ _ z=>False.elim z
end
section
variable {X:Cx} {st:Stmt} {rest:List Stmt} {t u:TS} {e:Expr} {te:TE} {pos:Pos}
def zbU:TS:=λD σ H=>D.nx σ H
def zbg(t u:TS):TS:=λD σ H=>t { D with nx:=u D } σ H
theorem zaY:PSs X [] zbU:=λ_ _ σ H _ I h=>wpAny_execs_nil ⟨σ,H,I,h⟩
theorem zae(h1:PS X st t)(h2:PSs X rest u):PSs X (st::rest) (zbg t u):=by
 intro pins s σ H D I h
 refine wpAny_execs_cons (thn (h1 pins s σ H { D with nx:=u D } I h) λf s1 q=>?_)
 cases f with
 | next =>
  obtain⟨σ',H',I',q⟩:=q
  exact h2 pins s1 σ' H' D I' q
 | ret v=>exact q
 | brk=>exact q
 | cont=>exact q
theorem zah(h1:PS X st t):PSs X [st] t:=by
 intro pins s σ H D I h
 refine wpAny_execs_cons (thn (h1 pins s σ H D I h) λf s1 q=>?_)
 cases f with
 | next=>exact wpAny_execs_nil q
 | ret v=>exact q
 | brk=>exact q
 | cont=>exact q
theorem Inv.quiet{pins:List (Addr×Obj)}{σ:St}{H:Hp}{s:Shared}(I:Inv X pins σ H s):interactive X.env=false:=by simp[interactive,I.ok.kind]
def zgh(te:TE):TS:=λD σ H=>te σ H λ_ H1=>D.nx σ H1
theorem zdi(he:PE X e te)(hs:swapsWith e none pos.line X.env=pure false:=by rfl):PS X (.Expr e pos) (zgh te):=by
 intro pins s σ H D I h
 exact wpAny_Expr_any (thn (he pins s σ H _ I h) λv s1 ⟨x,H1,I1,r1,q1⟩=>⟨σ,H1,I1,q1⟩) I.quiet hs
def zbP(te:TE):TS:=λD σ H=>te σ H D.rt
theorem zat(he:PE X e te):PS X (.Return (some e) pos) (zbP te):=by
 intro pins s σ H D I h
 exact wpAny_Return_some (thn (he pins s σ H _ I h) λv s1 ⟨x,H1,I1,r1,q1⟩=>⟨x,σ,H1,I1,r1,q1⟩)
def zdI(c:TT)(t u:TS):TS:=λD σ H=>c σ H λb H1=>if b=true then t D σ H1 else u D σ H1
theorem zbY{c:Expr}{a b:List Stmt}{tc:TT}(hc:PT X c tc)(ha:PSs X a t)(hb:PSs X b u):PS X (.If c a b pos) (zdI tc t u):=by
 intro pins s σ H D I h
 refine wpAny_If (thn (hc pins s σ H _ I h) λd s1 hQ'=>?_)
 obtain⟨H1,I1,q1⟩:=hQ'
 cases d with
 | true=>exact ha pins s1 σ H1 D I1 q1
 | false=>exact hb pins s1 σ H1 D I1 q1
def zoV:TS:=λ_ _ _=>False
theorem zlo:PS X st zoV:=λ_ _ _ _ _ _ h=>h.elim
end
abbrev TG:=V→St→Hp→(St→Hp→Prop)→Prop
abbrev TGs:=List V→St→Hp→(St→Hp→Prop)→Prop
def PG(X:Cx)(target:Expr)(t:TG):Prop :=
 ∀(pins:List (Addr×Obj)) (s:Shared) (σ:St) (H:Hp) (v:V) (u:Value) (Q:St→Hp→Prop),Inv X pins σ H s→zdp v u→t v σ H Q →
  wpAny (model X.prog X.w) X.A (assign target X.env u) (λ_ s'=>∃σ' H',Inv X pins σ' H' s'∧Q σ' H') X.xe s
def PGs(X:Cx)(ts:List Expr)(t:TGs):Prop :=
 ∀(pins:List (Addr×Obj)) (s:Shared) (σ:St) (H:Hp) (vs:List V) (us:List Value) (Q:St→Hp→Prop),Inv X pins σ H s→zcH vs us→t vs σ H Q →
  wpAny (model X.prog X.w) X.A (assignInOrder ((assignEach ts X.env).map (·.2)) us) (λ_ s'=>∃σ' H',Inv X pins σ' H' s'∧Q σ' H') X.xe s
abbrev TSet:=V→V→V→Hp→(Hp→Prop)→Prop
def PSet(X:Cx)(t:TSet):Prop :=
 ∀(pins:List (Addr×Obj)) (s:Shared) (σ:St) (H:Hp) (o i v:V) (ov iv u:Value) (Q:Hp→Prop),Inv X pins σ H s→zdp o ov→zdp i iv→zdp v u→t o i v H Q →
  wpAny (model X.prog X.w) X.A (setItem ov iv u) (λ_ s'=>∃H',Inv X pins σ H' s'∧Q H') X.xe s
section
variable {X:Cx} {pos:Pos}
def zam(i:Nat):TG:=λv σ H Q=>Q (σ.set i (some v)) H
theorem zaj{i:Nat}{x:Str}(hN:X.N.Nodup)(hi:X.N[i]?=some x)(hx:Loc X.env.scope x)(hf:X.fn x=true∨X.env.scope.names.lookup x=some .local:=by first | exact .inl rfl | exact .inr rfl | assumption):PG X (.Name x pos) (zam i):=by
 intro pins s σ H v u Q I r h
 exact wpAny_assign_Name (ziC I hN hi hx r (λs' I'=>⟨_,H,I',h⟩) hf)
def zdO:TGs:=λvs σ H Q=>vs=[]∧Q σ H
def zaL(t:TG)(u:TGs):TGs:=λvs σ H Q=>∃v r,vs=v::r∧t v σ H λσ' H'=>u r σ' H' Q
theorem za6:PGs X [] zdO:=by
 intro pins s σ H vs us Q I r h
 obtain⟨e,h⟩:=h
 subst e
 cases r
 exact assignInOrder_nil ⟨σ,H,I,h⟩
theorem zal{e:Expr}{es:List Expr}{t:TG}{u:TGs}(h1:PG X e t)(h2:PGs X es u)
  (hs:(assignEach (e::es) X.env).map (·.2)=assign e X.env::(assignEach es X.env).map (·.2):=by rfl):PGs X (e::es) (zaL t u):=by
 intro pins s σ H vs us Q I r h
 obtain⟨v,vr,e1,h⟩:=h
 subst e1
 cases r with
 | cons r rr =>
  rw[hs]
  refine assignInOrder_cons (thn (h1 pins s σ H _ _ _ I r h) λ_ s1 hQ'=>?_)
  obtain⟨σ1,H1,I1,q1⟩:=hQ'
  exact h2 pins s1 σ1 H1 _ _ Q I1 rr q1
def zdS(K:ψa)(n:Nat)(t:TGs):TG:=λv σ H Q=>∃a xs,v=.ref a∧SqT K H a xs∧xs.length=n∧t xs σ H Q
theorem zbs{es:List Expr}{k:Nat}{t:TGs}{n:Nat}(hc:X.calm=true)(h:PGs X es t)
  (hn:(assignEach es X.env).length=n:=by rfl) (hst:(assignEach es X.env).findIdx? (·.1)=none:=by rfl):PG X (.Tuple es k pos) (zdS X.K n t):=by
 intro pins s σ H v u Q I r hw
 obtain⟨a,xs,e1,hq,hl,hw⟩:=hw
 subst e1
 cases r
 obtain⟨its,rv,ht,hz⟩:=I.tuple hq
 refine assign_Tuple_tuple (I.ok.hd hc) ht (by simp[hn,← hl,rv.length]) hst λh' hx=>?_
 have I1:Inv X pins σ H { s with heap:=h' }:=I.kept (t':=s.toks) λb o e=>hx b o (ψs (Heap.lt_size e)) e
 exact h pins _ σ H xs _ Q I1 (by simpa using rv) hw
def gSub(to ti:TE)(t:TSet):TG:=λv σ H Q=>to σ H λo H1=>ti σ H1 λi H2=>t o i v H2 λH3=>Q σ H3
theorem zvm{o i:Expr}{to ti:TE}{t:TSet}(ho:PE X o to)(hi:PE X i ti)(hs:PSet X t)
  (ha:∀v,assign (.Subscript o i pos) X.env v=(do
   let ov ← holding [v] (eval o X.env)
   let iv ← holding [v,ov] (eval i X.env)
   standAt pos
   holding [v,ov,iv] (setItem ov iv v)
   release [v,ov,iv] []):=by intro _;rfl):PG X (.Subscript o i pos) (gSub to ti t):=by
 intro pins s σ H v u Q I r h
 rw[ha]
 refine wpAny_bind (wpAny_holding (thn (ho pins s σ H _ I h) λov s1 hQ'=>?_))
 obtain⟨x,H1,I1,r1,q1⟩:=hQ'
 refine wpAny_bind (wpAny_holding (thn (hi pins s1 σ H1 _ I1 q1) λiv s2 hQ'=>?_))
 obtain⟨y,H2,I2,r2,q2⟩:=hQ'
 refine wpAny_bind (wpAny_standAt (wpAny_bind (wpAny_holding (thn (hs pins s2 σ H2 x y v ov iv u _ I2 r1 r2 r q2) λ_ s3 hQ'=>?_))))
 obtain⟨H3,I3,q3⟩:=hQ'
 exact wpAny_release ⟨σ,H3,I3,q3⟩
def zbS(te:TE)(g:TG):TS:=λD σ H=>te σ H λx H1=>g x σ H1 D.nx
theorem zc1{tg e:Expr}{te:TE}{g:TG}(he:PE X e te)(hg:PG X tg g)(hs:swapsWithSole [tg] e pos.line X.env=pure false:=by rfl)(hw:swappedStores [tg] e X.env=pure none:=by rfl)
  (h1:(assignEach [tg] X.env).map (·.2)=[assign tg X.env]:=by rfl):PS X (.Assign [tg] e pos) (zbS te g):=by
 intro pins s σ H D I h
 refine wpAny_Assign_stores (thn (he pins s σ H _ I h) λv s1 hQ'=>?_) hs hw
 obtain⟨x,H1,I1,r1,q1⟩:=hQ'
 rw[h1]
 exact thn (hg pins s1 σ H1 x v _ I1 r1 q1) λ_ s2 q=>q
theorem zaX{i:Nat}{x:Str}{e:Expr}{te:TE}{pos':Pos}(hN:X.N.Nodup)(hi:X.N[i]?=some x)(hx:Loc X.env.scope x)(he:PE X e te)(hs:swapsWith e (some (.Name x pos')) pos.line X.env=pure false:=by rfl)(hf:X.fn x=true∨X.env.scope.names.lookup x=some .local:=by first | exact .inl rfl | exact .inr rfl | assumption) :
  PS X (.Assign [.Name x pos'] e pos) (zbS te (zam i)):=by
 intro pins s σ H D I h
 refine wpAny_Assign_Name (thn (he pins s σ H _ I h) λv s1 hQ'=>?_) hs
 obtain⟨y,H1,I1,r1,q1⟩:=hQ'
 exact ziC I1 hN hi hx r1 (λs2 I2=>⟨_,H1,I2,q1⟩) hf
def tPar(i j:Nat)(ta:TA):TS:=λD σ H=>ta σ H λvs H1=>∃v w,vs=[v,w]∧D.nx ((σ.set i (some v)).set j (some w)) H1
theorem zvq{i j:Nat}{x y:Str}{a b:Expr}{ta:TA}{px py pt:Pos}{kt k2 pt2}(hc:X.calm=true)(hN:X.N.Nodup)(hi:X.N[i]?=some x)(hj:X.N[j]?=some y)(hij:i≠j)
  (hx:X.env.scope.names.lookup x=some .local) (hy:X.env.scope.names.lookup y=some .local) (ha:PA X [a,b] ta)
  (hw:swappedStores [.Tuple [.Name x px,.Name y py] kt pt] (.Tuple [a,b] k2 pt2) X.env=pure (some [x,y]))
  (hs:swapsWithSole [.Tuple [.Name x px,.Name y py] kt pt] (.Tuple [a,b] k2 pt2) pos.line X.env=pure false:=by rfl) :
  PS X (.Assign [.Tuple [.Name x px,.Name y py] kt pt] (.Tuple [a,b] k2 pt2) pos) (tPar i j ta):=by
 intro pins s σ H D I h
 rw[exec_Assign_arm]
 refine wpAny_bind (wpAny_standAt ?_)
 rw[hs]
 refine wpAny_bind (wpAny_pure ?_)
 rw[if_neg (by decide)]
 refine wpAny_bind (Tuple_ (thn (ha _ pins s σ H _ I h) λus s1 hQ'=>?_))
 obtain⟨vs,H1,I1,r1,q1⟩:=hQ'
 obtain⟨v,w,e1,q1⟩:=q1
 subst e1
 obtain⟨u1,u2,rfl,rv,rw'⟩:∃u1 u2,us=[u1,u2]∧zdp v u1∧zdp w u2:=by
  cases r1 with
  | cons p q =>
   cases q with
   | cons p' q' =>
    cases q'
    exact⟨_,_,rfl,p,p'⟩
 refine wpAny_newObj_type ?_ (by show 2≤sizeLine;decide)
 have I2:Inv X pins σ H1 { s1 with heap:=s1.heap.push { cls:=.type "tuple",data:=.seq [u1,u2].toArray } }:=I1.kept (t':=s1.toks) λb o e=>Heap.get?_push_of_some _ e
 rw[hw]
 refine wpAny_bind (wpAny_pure ?_)
 show wpAny (model X.prog X.w) X.A (do rule "assign.swapped-stores";let items ← unpackItems (.ref s1.heap.objs.size) 2 none;assignInOrder [λv=>bindName X.env y v,λv=>bindName X.env x v] items.reverse;pure Flow.next) _ _ _
 refine wpAny_bind (wpAny_rule (wpAny_bind (unpackItems_tuple (items:=#[u1,u2]) (I.ok.hd hc) (IsTup.new s1.heap _) λh' hx'=>?_)))
 have I3:=I2.kept (h':=h') (t':=s1.toks) λb o e=>hx' b o (ψs (Heap.lt_size e)) e
 show wpAny _ _ (assignInOrder [λv=>bindName X.env y v,λv=>bindName X.env x v] [u2,u1] >>= λ_=>pure Flow.next) _ _ _
 refine wpAny_bind (assignInOrder_cons (wpAny_bindName (ziC I3 hN hj (.inl hy) rw' (λs2 I4=>?_) (.inr hy))))
 refine assignInOrder_cons (wpAny_bindName (ziC I4 hN hi (.inl hx) rv (λs3 I5=>assignInOrder_nil (wpAny_pure ?_)) (.inr hx)))
 rw[List.set_comm _ _ (Ne.symm hij)] at I5
 exact⟨_,H1,I5,q1⟩
end
section
variable {X:Cx} {pos:Pos}
def zjK(c:TT)(tb:TS):TS:=λD σ H=>∃W:Nat→St→Hp→Prop,(∃m,W m σ H)∧∀m σ H,W m σ H →
 c σ H λb H1=>if b=true then ∃N:St→Hp→Prop,(∀σ' H',N σ' H'→∃m',m'<m∧W m' σ' H')∧tb { D with nx:=N,ct:=N,bk:=D.nx } σ H1 else D.nx σ H1
theorem zis{c:Expr}{body:List Stmt}{tc:TT}{tb:TS}(hp:PassesOwn (model X.prog X.w) X.A X.env X.xe)(hc:PT X c tc)(hb:PSs X body tb):PS X (.While c body [] pos) (zjK tc tb):=by
 intro pins s σ H D I h
 obtain⟨W,⟨m0,w0⟩,zpo⟩:=h
 refine wpAny_While (codeAny_whileLoop (λn s'=>∃σ' H',Inv X pins σ' H' s'∧W n σ' H') ?_ m0 ⟨σ,H,I,w0⟩)
 rintro n s1 ⟨σ1,H1,I1,w1⟩
 refine wpAny_passesOwn hp (thn (hc pins s1 σ1 H1 _ I1 (zpo n σ1 H1 w1)) λb s2 hQ'=>?_)
 obtain⟨H2,I2,q2⟩:=hQ'
 cases b with
 | true =>
  obtain⟨N,hN,q2⟩:=q2
  rw[if_pos rfl]
  refine wpAny_passesOwn hp (thn (hb pins s2 σ1 H2 _ I2 q2) λf s3 q3=>?_)
  cases f with
  | next =>
   obtain⟨σ3,H3,I3,n3⟩:=q3
   obtain⟨m',hm,w3⟩:=hN σ3 H3 n3
   exact⟨m',hm,σ3,H3,I3,w3⟩
  | cont =>
   obtain⟨σ3,H3,I3,n3⟩:=q3
   obtain⟨m',hm,w3⟩:=hN σ3 H3 n3
   exact⟨m',hm,σ3,H3,I3,w3⟩
  | brk=>exact q3
  | ret v=>exact q3
 | false =>
  rw[if_neg ψv]
  exact wpAny_execs_nil ⟨σ1,H2,I2,q2⟩
end
structure It where
 go:Nat→Hp→Prop
 yld:Nat→Hp→V→Hp→Prop
 stop:Nat→Hp→Prop
def zlR(X:Cx)(pins:List (Addr×Obj))(H:Hp)(b:Addr):Prop :=
 H b=none∧b≠X.env.locals∧b∉X.fs∧(b∈X.ex∨X.s₀.heap.objs.size≤b)∧(∀x c,X.env.cells.lookup x=some c→c≠b)∧∀p∈X.pn++pins,p.1≠b
theorem Inv.fpOk{X:Cx}{pins:List (Addr×Obj)}{σ:St}{H H':Hp}{s:Shared}{b:Addr}(I:Inv X pins σ H s)(hb:s.heap.objs.size≤b)(hn:H' b=none):zlR X pins H' b:=by
 refine⟨hn,ψG1 (ψr I.lt hb),I.nofs hb,.inr (ψb1 I.sz hb),λx c e z=>?_,λp hp z=>?_⟩
 ·obtain⟨v,q⟩:=I.cell x c e
  exact absurd (ψr q.lt (by rw[z];exact hb)) (ψr1 _)
 ·exact absurd (ψr (Heap.lt_size (I.pin p hp).1) (by rw[z];exact hb)) (ψr1 _)
structure zxH (P:Program) (w:World) (K:ψa) (tg:Expr) (J:It) (fp:List Addr) (it:Addr) (tn:Nat→Heap→Prop):Prop where
 mem:it∈fp
 obj:∀i h,tn i h→∀b∈fp,∃o,h.get? b=some o∧∀v,o.data≠.cell v
 keep:∀i h h',tn i h→(∀b∈fp,∀o,h.get? b=some o→h'.get? b=some o)→tn i h'
 item:∀(X:Cx),X.prog=P→X.w=w→X.K=K→X.calm=true→∀(i:Nat) (pins:List (Addr×Obj)) (s:Shared) (σ:St) (H:Hp) (E:Value→Shared→Prop),Inv X pins σ H s→(∀b∈fp,zlR X pins H b)→tn i s.heap→J.go i H →
  wpAny (model P w) X.A (pyNext (.ref it)) (λr s1=>∃u,r=some u ∧
   wpAny (model P w) X.A (letOwnedTupleGo tg (.ref it) u) (λ_ s2=>∃x H',Inv X pins σ H' s2∧zdp x u∧J.yld i H x H'∧tn (i+1) s2.heap∧∀b∈fp,H' b=none) E s1) E s
 done:∀(X:Cx),X.prog=P→X.w=w→X.K=K→X.calm=true→∀(i:Nat) (pins:List (Addr×Obj)) (s:Shared) (σ:St) (H:Hp) (E:Value→Shared→Prop),Inv X pins σ H s→(∀b∈fp,zlR X pins H b)→tn i s.heap→J.stop i H →
  wpAny (model P w) X.A (pyNext (.ref it)) (λr s1=>r=none∧Inv X pins σ H s1) E s
 self:∀(A:Around) (i:Nat) (s:Shared) (Q:Value→Shared→Prop) (E:Value→Shared→Prop),tn i s.heap→Q (.ref it) s→wpAny (model P w) A (pyIter (.ref it)) Q E s
abbrev TI:=St→Hp→(It→Hp→Prop)→Prop
def PIE(X:Cx)(pins:List (Addr×Obj))(σ:St)(tg:Expr)(R:It→Hp→Prop)(itv:Value)(s2:Shared):Prop :=
 ∃(it:Addr) (fp:List Addr) (tn:Nat→Heap→Prop) (J:It) (H':Hp),itv=.ref it∧Inv X pins σ H' s2∧zxH X.prog X.w X.K tg J fp it tn∧tn 0 s2.heap∧(∀b∈fp,zlR X pins H' b)∧R J H'
def PI(X:Cx)(tg iter:Expr)(wi:TI):Prop :=
 ∀(pins:List (Addr×Obj)) (s:Shared) (σ:St) (H:Hp) (R:It→Hp→Prop),Inv X pins σ H s→wi σ H R →
  wpAny (model X.prog X.w) X.A (eval iter X.env) (λv s1=>wpAny (model X.prog X.w) X.A (pyIter v) (PIE X pins σ tg R) X.xe s1) X.xe s
theorem zxe{M:Model}{A:Around}{E:Value→Shared→Prop}{s:Shared}{tg:Expr}{it:Addr}{u:Value}{o:Obj}{n:String}{vs:Array Value}{Q:Unit→Shared→Prop}(ho:s.heap.get? it=some o)(hc:o.cls=.type n)(hd:o.data=.fields vs)
  (hn:["enumerate","zip","dict_itemiterator","dict_reverseitemiterator","odict_iterator","itertools.zip_longest","itertools.pairwise"].contains n=false) (hQ:Q () s):wpAny M A (letOwnedTupleGo tg (.ref it) u) Q E s:=by
 unfold letOwnedTupleGo
 cases tg <;> first
  | exact wpAny_pure hQ
  | (cases u <;> first
    | exact wpAny_pure hQ
    | (refine wpAny_bind (wpAny_load ho ?_)
       rw[hc,hd]
       show wpAny M A (if (["enumerate","zip","dict_itemiterator","dict_reverseitemiterator","odict_iterator","itertools.zip_longest","itertools.pairwise"].contains n&&vs[0]? == some (rawInt _))=true then _ else _) Q E s
       rw[if_neg (by intro h;rw[hn,Bool.false_and] at h;cases h)]
       exact wpAny_pure hQ))
def Itl(K:ψa)(a:Addr):It :=
 ⟨λi H=>∃xs x,SqL K H a xs∧xs[i]?=some x,λi H x H'=>H'=H∧∀xs,SqL K H a xs→xs[i]?=some x,λi H=>∃xs,SqL K H a xs∧xs.length≤i⟩
def Itt(K:ψa)(a:Addr):It :=
 ⟨λi H=>∃xs x,SqT K H a xs∧xs[i]?=some x,λi H x H'=>H'=H∧∀xs,SqT K H a xs→xs[i]?=some x,λi H=>∃xs,SqT K H a xs∧xs.length≤i⟩
def Itr(lo:Int)(n:Nat):It:=⟨λi _=>i<n,λi H x H'=>H'=H∧x=.int (lo+i),λi _=>n≤i⟩
theorem zmF{P:Program}{w:World}{K:ψa}{tg:Expr}(a it:Addr):zxH P w K tg (Itl K a) [it] it (λi h=>h.IsListIter it a i) where
 mem:=by simp
 obj:=λi h st b hb=>by
  have e:b=it:=by simpa using hb
  subst e
  obtain⟨o,e,c,d⟩:=st
  exact⟨o,e,λv z=>by rw[d] at z;cases z⟩
 keep:=λi h h' st k=>st.at λo e=>k it (by simp) o e
 item:=by
  intro X hP hw hK hc i pins s σ H E I hf st hg
  subst hP hw hK
  obtain⟨xs,x,hq,hx⟩:=hg
  obtain⟨its,rv,p,hz⟩:=I.list hq
  obtain⟨u,hu,ru⟩:=rv.get hx
  obtain⟨f0,f1,f2,f3,f4,f5⟩:=hf it (by simp)
  refine wpAny_pyNext_list_item st p.isList (x:=u) (by simpa using hu) λh' st' sb=>?_
  have I1:Inv X pins σ H { s with heap:=h' }:=I.turned (t':=s.toks) (λb o hb e=>(sb.2 b hb).trans e) f0 f1 f3 f4 f5
  obtain⟨o,e,c,d⟩:=id st'
  exact⟨u,rfl,zxe (s:={ s with heap:=h' }) e c d (by decide) ⟨x,H,I1,ru,⟨rfl,λys hy=>by rw[I.list_inj hy hq];exact hx⟩,st',λb hb=>(hf b hb).1⟩⟩
 done:=by
  intro X hP hw hK hc i pins s σ H E I hf st hg
  subst hP hw hK
  obtain⟨xs,hq,hx⟩:=hg
  obtain⟨its,rv,p,hz⟩:=I.list hq
  obtain⟨f0,f1,f2,f3,f4,f5⟩:=hf it (by simp)
  have hl:=rv.length
  exact wpAny_pyNext_list_end (I.ok.hd hc) st p.isList (by simp;(first|lia|omega)) λh' eb=>⟨rfl,I.turned (t':=s.toks) (λb o hb e=>eb b o hb e) f0 f1 f3 f4 f5⟩
 self:=λ_ _ _ _ _ st h=>wpAny_pyIter_listiter st h
theorem zjV{P:Program}{w:World}{K:ψa}{tg:Expr}(a it:Addr):zxH P w K tg (Itt K a) [it] it (λi h=>h.IsTupleIter it a i) where
 mem:=by simp
 obj:=λi h st b hb=>by
  have e:b=it:=by simpa using hb
  subst e
  obtain⟨o,e,c,d⟩:=st
  exact⟨o,e,λv z=>by rw[d] at z;cases z⟩
 keep:=λi h h' st k=>st.at λo e=>k it (by simp) o e
 item:=by
  intro X hP hw hK hc i pins s σ H E I hf st hg
  subst hP hw hK
  obtain⟨xs,x,hq,hx⟩:=hg
  obtain⟨its,rv,p,hz⟩:=I.tuple hq
  obtain⟨u,hu,ru⟩:=rv.get hx
  obtain⟨f0,f1,f2,f3,f4,f5⟩:=hf it (by simp)
  refine wpAny_pyNext_tuple_item st (show s.heap.IsTuple a its.toArray from p) (x:=u) (by simpa using hu) λh' st' sb=>?_
  have I1:Inv X pins σ H { s with heap:=h' }:=I.turned (t':=s.toks) (λb o hb e=>(sb.2 b hb).trans e) f0 f1 f3 f4 f5
  obtain⟨o,e,c,d⟩:=id st'
  exact⟨u,rfl,zxe (s:={ s with heap:=h' }) e c d (by decide) ⟨x,H,I1,ru,⟨rfl,λys hy=>by rw[I.tuple_inj hy hq];exact hx⟩,st',λb hb=>(hf b hb).1⟩⟩
 done:=by
  intro X hP hw hK hc i pins s σ H E I hf st hg
  subst hP hw hK
  obtain⟨xs,hq,hx⟩:=hg
  obtain⟨its,rv,p,hz⟩:=I.tuple hq
  obtain⟨f0,f1,f2,f3,f4,f5⟩:=hf it (by simp)
  have hl:=rv.length
  exact wpAny_pyNext_tuple_end (I.ok.hd hc) st (show s.heap.IsTuple a its.toArray from p) (by simp;(first|lia|omega)) λh' eb=>⟨rfl,I.turned (t':=s.toks) (λb o hb e=>eb b o hb e) f0 f1 f3 f4 f5⟩
 self:=λ_ _ _ _ _ st h=>wpAny_pyIter_tupleiter st h
theorem zpF{P:Program}{w:World}{K:ψa}{tg:Expr}(it:Addr)(lo:Int)(n:Nat):zxH P w K tg (Itr lo n) [it] it (λi h=>IsRangeIter h it (lo+(i:Nat)*1) ((n:Int) - (i:Nat)) 1) where
 mem:=by simp
 obj:=λi h st b hb=>by
  have e:b=it:=by simpa using hb
  subst e
  exact⟨_,st,λv z=>by
   have z':Data.fields _=Data.cell v:=z
   cases z'⟩
 keep:=λi h h' st k=>k it (by simp) _ st
 item:=by
  intro X hP hw hK hc i pins s σ H E I hf st hg
  subst hP hw hK
  obtain⟨f0,f1,f2,f3,f4,f5⟩:=hf it (by simp)
  have W:=Walks.range (prog:=X.prog) (w:=X.w) (I.ok.hd hc) it lo 1 n
  refine W.item i s _ _ hg st λv h' tk hv st' kk=>?_
  obtain⟨t,rfl⟩:=hv
  have I1:Inv X pins σ H { s with heap:=h',toks:=tk }:=I.turned (λb o hb e=>kk b o (by simpa using hb) e) f0 f1 f3 f4 f5
  refine⟨_,rfl,zxe (s:={ s with heap:=h',toks:=tk }) (n:="range_iterator") st' rfl rfl (by decide) ⟨.int (lo+i),H,I1,⟨t,?_⟩,⟨rfl,rfl⟩,st',λb hb=>(hf b hb).1⟩⟩
  rw[ψX1]
 done:=by
  intro X hP hw hK hc i pins s σ H E I hf st hg
  subst hP hw hK
  obtain⟨f0,f1,f2,f3,f4,f5⟩:=hf it (by simp)
  exact wpAny_pyNext_range_end (I.ok.hd hc) st (by have:n≤i:=hg;(first|lia|omega)) λh' eb=>⟨rfl,I.turned (t':=s.toks) (λb o hb e=>eb b o hb e) f0 f1 f3 f4 f5⟩
 self:=λ_ _ _ _ _ st h=>wpAny_pyIter_rangeiter st h
end L2
namespace L2
open PySem PySem.Spec PyProof.Rows
section
variable {X:Cx} {tg:Expr}
def zcT(K:ψa)(tl:TE):TI:=λσ H R=>tl σ H λx H1=>∃a,x=.ref a∧(∃xs,SqL K H1 a xs)∧R (Itl K a) H1
def iTup(K:ψa)(tl:TE):TI:=λσ H R=>tl σ H λx H1=>∃a,x=.ref a∧(∃xs,SqT K H1 a xs)∧R (Itt K a) H1
theorem zbz{l:Expr}{tl:TE}(hl:PE X l tl):PI X tg l (zcT X.K tl):=by
 intro pins s σ H R I h
 refine thn (hl pins s σ H _ I h) λv s1 hQ'=>?_
 obtain⟨x,H1,I1,r1,q1⟩:=hQ'
 obtain⟨a,e,⟨xs,hq⟩,q⟩:=q1
 subst e
 cases r1
 obtain⟨its,rv,p,hz⟩:=I1.list hq
 refine wpAny_pyIter_list p.isList ?_
 refine⟨s1.heap.objs.size,[s1.heap.objs.size],_,_,H1,rfl,I1.kept (t':=s1.toks) λb o e=>Heap.get?_push_of_some _ e,zmF a _,⟨_,Heap.get?_push_size _ rfl,rfl,rfl⟩,λb hb=>?_,q⟩
 have e:b=s1.heap.objs.size:=by simpa using hb
 subst e
 exact I1.fpOk (ψj _) (I1.hok.fresh (ψj _))
theorem zys{l:Expr}{tl:TE}(hl:PE X l tl):PI X tg l (iTup X.K tl):=by
 intro pins s σ H R I h
 refine thn (hl pins s σ H _ I h) λv s1 hQ'=>?_
 obtain⟨x,H1,I1,r1,q1⟩:=hQ'
 obtain⟨a,e,⟨xs,hq⟩,q⟩:=q1
 subst e
 cases r1
 obtain⟨its,rv,p,hz⟩:=I1.tuple hq
 refine wpAny_pyIter_tuple (show s1.heap.IsTuple a its.toArray from p) ?_
 refine⟨s1.heap.objs.size,[s1.heap.objs.size],_,_,H1,rfl,I1.kept (t':=s1.toks) λb o e=>Heap.get?_push_of_some _ e,zjV a _,⟨_,Heap.get?_push_size _ rfl,rfl,rfl⟩,λb hb=>?_,q⟩
 have e:b=s1.heap.objs.size:=by simpa using hb
 subst e
 exact I1.fpOk (ψj _) (I1.hok.fresh (ψj _))
theorem zub{pins:List (Addr×Obj)}{σ:St}{H:Hp}{s:Shared}{R:It→Hp→Prop}{E:Value→Shared→Prop}{lo hi:Int}{t u v:Tok}{tk:Nat}(I:Inv X pins σ H s)(h1:-(2 ^ 62)≤lo)(h2:lo<2 ^ 62)(h3:-(2 ^ 62)≤hi)(h4:hi<2 ^ 62)
  (q:R (Itr lo (hi - lo).toNat) H):wpAny (model X.prog X.w) X.A (pyIter (.ref s.heap.objs.size)) (PIE X pins σ tg R) E { s with heap:=s.heap.push { cls:=.type "range",data:=.fields #[.int lo t,.int hi u,.int 1 v] },toks:=tk }:=by
 refine wpAny_pyIter_range (IsRange.new ..) (small_one h1 h2 h3 h4) ?_
 have I1:Inv X pins σ H { s with heap:=s.heap.push { cls:=.type "range",data:=.fields #[.int lo t,.int hi u,.int 1 v] },toks:=tk }:=I.kept λb o e=>Heap.get?_push_of_some _ e
 refine⟨(s.heap.push { cls:=.type "range",data:=.fields #[.int lo t,.int hi u,.int 1 v] }).objs.size,[(s.heap.push { cls:=.type "range",data:=.fields #[.int lo t,.int hi u,.int 1 v] }).objs.size],_,_,H,rfl,
  I1.kept (t':=tk) λb o e=>Heap.get?_push_of_some _ e,zpF _ lo (hi - lo).toNat,?_,λb hb=>?_,q⟩
 ·have e1:lo+((0:Nat):Int)*1=lo:=by simp
  have e2:(((hi - lo).toNat:Nat):Int) - ((0:Nat):Int)=Builtin.Range.rangeSize lo hi 1:=by rw[rangeSize_one];split <;> (first|lia|omega)
  show IsRangeIter _ _ (lo+((0:Nat):Int)*1) ((((hi - lo).toNat:Nat):Int) - ((0:Nat):Int)) 1
  rw[e1,e2]
  exact Heap.get?_push_size _ rfl
 ·have e:b=(s.heap.push { cls:=.type "range",data:=.fields #[.int lo t,.int hi u,.int 1 v] }).objs.size:=by simpa using hb
  subst e
  exact I1.fpOk (ψj _) (I1.hok.fresh (ψj _))
def zij(ta:TA):TI:=λσ H R=>ta σ H λvs H1=>∃j:Int,vs=[.int j]∧-(2 ^ 62)≤j∧j<2 ^ 62∧R (Itr 0 j.toNat) H1
theorem zc0{a:Expr}{ta:TA}{p pos:Pos}(hg:Gl X "range")(hm:X.mg "range"=none)(ha:PA X [a] ta)(hs:starEach [a] X.env=[(false,eval a X.env)]:=by rfl):PI X tg (.Call (.Name "range" p) [a] [] pos) (zij ta):=by
 intro pins s σ H R I h
 refine Call_ (zic I hg hm boot_range (ψo1 (thn (ha pos pins s σ H _ I h) λus s1 hQ'=>?_) hs rfl))
 obtain⟨vs,H1,I1,r1,q1⟩:=hQ'
 obtain⟨j,e,q1,q2,q⟩:=q1
 subst e
 cases r1 with
 | cons r rr =>
  cases rr
  obtain⟨t,rfl⟩:=r
  exact call_range_1 (zub I1 (by (first|lia|omega)) (by (first|lia|omega)) q1 q2 (by simpa using q))
def zjW(wi:TI)(g:TG)(tb:TS):TS:=λD σ H=>wi σ H λJ H1=>∃W:Nat→Nat→St→Hp→Prop,(∃m,W 0 m σ H1)∧∀i m σ H,W i m σ H →
 (J.stop i H∧D.nx σ H)∨(J.go i H∧∃N:St→Hp→Prop,(∀σ' H',N σ' H'→∃m',m'<m∧W (i+1) m' σ' H')∧∀x H',J.yld i H x H'→g x σ H' λσ2 H2=>tb { D with nx:=N,ct:=N,bk:=D.nx } σ2 H2)
def zjO(fp:List Addr)(h:Heap):List (Addr×Obj):=fp.filterMap λb=>(h.get? b).map λo=>(b,o)
theorem zd7{fp:List Addr}{h:Heap}{b:Addr}{o:Obj}(hb:b∈fp)(e:h.get? b=some o):(b,o)∈zjO fp h:=List.mem_filterMap.mpr ⟨b,hb,by rw[e];rfl⟩
theorem zrN{fp:List Addr}{h:Heap}{p:Addr×Obj}(hp:p∈zjO fp h):p.1∈fp∧h.get? p.1=some p.2:=by
 obtain⟨b,hb,e⟩:=List.mem_filterMap.mp hp
 cases q:h.get? b with
 | none=>rw[q] at e;cases e
 | some o =>
  rw[q] at e
  have e':(b,o)=p:=Option.some.inj e
  subst e'
  exact⟨hb,q⟩
theorem Inv.pinned{pins:List (Addr×Obj)}{σ:St}{H:Hp}{s:Shared}{fp:List Addr}(I:Inv X pins σ H s)(hf:∀b∈fp,zlR X pins H b)(ho:∀b∈fp,∃o,s.heap.get? b=some o∧∀v,o.data≠.cell v):Inv X (pins++zjO fp s.heap) σ H s :=
 I.pins_of λp hp=>(List.mem_append.mp hp).elim (λz=>I.pin p (ψA _ z)) λz=>by
  obtain⟨hb,e⟩:=zrN z
  obtain⟨f0,f1,f2,_⟩:=hf p.1 hb
  obtain⟨o,e',d⟩:=ho p.1 hb
  rw[e] at e';cases e'
  exact⟨e,f0,f1,f2,d⟩
theorem Inv.unpinned{pins pl:List (Addr×Obj)}{σ:St}{H:Hp}{s:Shared}(I:Inv X (pins++pl) σ H s):Inv X pins σ H s:=I.pins_of λp hp=>I.pin p (ψA _ (ψK1 _ hp))
theorem zdq{iter:Expr}{body:List Stmt}{wi:TI}{g:TG}{tb:TS}{pos:Pos}(hp:PassesOwn (model X.prog X.w) X.A X.env X.xe)(hc:X.calm=true)(hi:PI X tg iter wi)(hg:PG X tg g)(hb:PSs X body tb)
  (hs:∀x,foldedSetIterable iter X.env x=pure x:=by intro _;rfl):PS X (.For tg iter body [] pos) (zjW wi g tb):=by
 intro pins s σ H D I h
 refine wpAny_For (thn (hi pins s σ H _ I h) λv s1 h1=>thn h1 λitv s2 h2=>?_) hs
 obtain⟨it,fp,tn,J,H2,e,I2,T,st2,f2,W,⟨m0,w0⟩,zpo⟩:=h2
 subst e
 have stat:∀{H':Hp},(∀b∈fp,H' b=none)→∀b∈fp,zlR X pins H' b:=λhn b hb=>⟨hn b hb,(f2 b hb).2⟩
 refine codeAny_forLoop_any (λn s'=>∃i σ' H',Inv X pins σ' H' s'∧tn i s'.heap∧(∀b∈fp,H' b=none)∧W i n σ' H') ?_ m0 ⟨0,σ,H2,I2,st2,λb hb=>(f2 b hb).1,w0⟩
 rintro n s3 ⟨i,σ3,H3,I3,st3,fr3,w3⟩
 rcases zpo i n σ3 H3 w3 with ⟨stop,qn⟩ | ⟨go,N,hN,step⟩
 ·refine wpAny_passesOwn hp (thn (T.done X rfl rfl rfl hc i pins s3 σ3 H3 X.xe I3 (stat fr3) st3 stop) λr s4 hQ'=>?_)
  obtain⟨hr,I4⟩:=hQ'
  subst hr
  exact wpAny_execs_nil ⟨σ3,H3,I4,qn⟩
 ·refine wpAny_passesOwn hp (thn (T.item X rfl rfl rfl hc i pins s3 σ3 H3 X.xe I3 (stat fr3) st3 go) λr s4 hQ'=>?_)
  obtain⟨u,hr,h4⟩:=hQ'
  subst hr
  refine wpAny_passesOwn hp (thn h4 λ_ s5 hQ'=>?_)
  obtain⟨x,H5,I5,r5,y5,st5,fr5⟩:=hQ'
  have I5':=I5.pinned (stat fr5) (T.obj _ _ st5)
  refine wpAny_passesOwn hp (thn (hg _ s5 σ3 H5 x u _ I5' r5 (step x H5 y5)) λ_ s6 hQ'=>?_)
  obtain⟨σ6,H6,I6,q6⟩:=hQ'
  refine wpAny_passesOwn hp (thn (hb _ s6 σ6 H6 _ I6 q6) λf s7 q7=>?_)
  have again:∀{σ7:St} {H7:Hp},Inv X (pins++zjO fp s5.heap) σ7 H7 s7→N σ7 H7→∃m,m<n∧∃i σ' H',Inv X pins σ' H' s7∧tn i s7.heap∧(∀b∈fp,H' b=none)∧W i m σ' H':=fun {σ7 H7} I7 n7=>by
   obtain⟨m',hm,w7⟩:=hN σ7 H7 n7
   refine⟨m',hm,i+1,σ7,H7,I7.unpinned,T.keep _ _ _ st5 λb hb o e=>(I7.pin (b,o) (ψA _ (ψA _ (zd7 hb e)))).1,λb hb=>?_,w7⟩
   obtain⟨o,e,d⟩:=T.obj _ _ st5 b hb
   exact(I7.pin (b,o) (ψA _ (ψA _ (zd7 hb e)))).2.1
  cases f with
  | next=>obtain⟨σ7,H7,I7,n7⟩:=q7;exact again I7 n7
  | cont=>obtain⟨σ7,H7,I7,n7⟩:=q7;exact again I7 n7
  | brk=>obtain⟨σ7,H7,I7,q7⟩:=q7;exact⟨σ7,H7,I7.unpinned,q7⟩
  | ret v=>obtain⟨x7,σ7,H7,I7,r7,q7⟩:=q7;exact⟨x7,σ7,H7,I7.unpinned,r7,q7⟩
end
theorem zuK{K:ψa}{a:Addr}{xs:List V}{g:TG}{tb:TS}{D:zlp}{σ:St}{H:Hp}(Pv:Nat→St→Hp→Prop)(h0:Pv 0 σ H)(hl:∀i σ H,i≤xs.length→Pv i σ H→SqL K H a xs)
  (hs:∀i x σ H,xs[i]?=some x→Pv i σ H→g x σ H λσ2 H2=>tb { D with nx:=Pv (i+1),ct:=Pv (i+1),bk:=D.nx } σ2 H2) (hd:∀σ H,Pv xs.length σ H→D.nx σ H) :
  ∃W:Nat→Nat→St→Hp→Prop,(∃m,W 0 m σ H)∧∀i m σ H,W i m σ H →
   ((Itl K a).stop i H∧D.nx σ H)∨((Itl K a).go i H∧∃N:St→Hp→Prop,(∀σ' H',N σ' H'→∃m',m'<m∧W (i+1) m' σ' H')∧∀x H',(Itl K a).yld i H x H'→g x σ H' λσ2 H2=>tb { D with nx:=N,ct:=N,bk:=D.nx } σ2 H2):=by
 refine⟨λi m σ H=>m=xs.length - i∧i≤xs.length∧Pv i σ H,⟨xs.length,by simp,ψp1 _,h0⟩,?_⟩
 rintro i m σ H ⟨rfl,hi,p⟩
 have q:=hl i σ H hi p
 by_cases hlt:i<xs.length
 ·refine .inr ⟨⟨xs,xs[i],q,by simp[hlt]⟩,Pv (i+1),λσ' H' p'=>⟨xs.length - (i+1),by (first|lia|omega),rfl,hlt,p'⟩,λx H' y=>?_⟩
  obtain⟨e,y⟩:=y
  subst e
  exact hs i x σ _ (y xs q) p
 ·have e:i=xs.length:=by (first|lia|omega)
  subst e
  exact .inl ⟨⟨xs,q,ψj _⟩,hd σ H p⟩
theorem zwM{K:ψa}{a:Addr}{xs:List V}{g:TG}{tb:TS}{D:zlp}{σ:St}{H:Hp}(Pv:Nat→St→Hp→Prop)(h0:Pv 0 σ H)(hl:∀i σ H,i≤xs.length→Pv i σ H→SqT K H a xs)
  (hs:∀i x σ H,xs[i]?=some x→Pv i σ H→g x σ H λσ2 H2=>tb { D with nx:=Pv (i+1),ct:=Pv (i+1),bk:=D.nx } σ2 H2) (hd:∀σ H,Pv xs.length σ H→D.nx σ H) :
  ∃W:Nat→Nat→St→Hp→Prop,(∃m,W 0 m σ H)∧∀i m σ H,W i m σ H →
   ((Itt K a).stop i H∧D.nx σ H)∨((Itt K a).go i H∧∃N:St→Hp→Prop,(∀σ' H',N σ' H'→∃m',m'<m∧W (i+1) m' σ' H')∧∀x H',(Itt K a).yld i H x H'→g x σ H' λσ2 H2=>tb { D with nx:=N,ct:=N,bk:=D.nx } σ2 H2):=by
 refine⟨λi m σ H=>m=xs.length - i∧i≤xs.length∧Pv i σ H,⟨xs.length,by simp,ψp1 _,h0⟩,?_⟩
 rintro i m σ H ⟨rfl,hi,p⟩
 have q:=hl i σ H hi p
 by_cases hlt:i<xs.length
 ·refine .inr ⟨⟨xs,xs[i],q,by simp[hlt]⟩,Pv (i+1),λσ' H' p'=>⟨xs.length - (i+1),by (first|lia|omega),rfl,hlt,p'⟩,λx H' y=>?_⟩
  obtain⟨e,y⟩:=y
  subst e
  exact hs i x σ _ (y xs q) p
 ·have e:i=xs.length:=by (first|lia|omega)
  subst e
  exact .inl ⟨⟨xs,q,ψj _⟩,hd σ H p⟩
theorem zsx{lo:Int}{n:Nat}{g:TG}{tb:TS}{D:zlp}{σ:St}{H:Hp}(Pv:Nat→St→Hp→Prop)(h0:Pv 0 σ H)
  (hs:∀i σ H,i<n→Pv i σ H→g (.int (lo+i)) σ H λσ2 H2=>tb { D with nx:=Pv (i+1),ct:=Pv (i+1),bk:=D.nx } σ2 H2) (hd:∀σ H,Pv n σ H→D.nx σ H) :
  ∃W:Nat→Nat→St→Hp→Prop,(∃m,W 0 m σ H)∧∀i m σ H,W i m σ H →
   ((Itr lo n).stop i H∧D.nx σ H)∨((Itr lo n).go i H∧∃N:St→Hp→Prop,(∀σ' H',N σ' H'→∃m',m'<m∧W (i+1) m' σ' H')∧∀x H',(Itr lo n).yld i H x H'→g x σ H' λσ2 H2=>tb { D with nx:=N,ct:=N,bk:=D.nx } σ2 H2):=by
 refine⟨λi m σ H=>m=n - i∧i≤n∧Pv i σ H,⟨n,by simp,ψp1 _,h0⟩,?_⟩
 rintro i m σ H ⟨rfl,hi,p⟩
 by_cases hlt:i<n
 ·refine .inr ⟨hlt,Pv (i+1),λσ' H' p'=>⟨n - (i+1),by (first|lia|omega),rfl,hlt,p'⟩,λx H' y=>?_⟩
  obtain⟨e,y⟩:=y
  subst e y
  exact hs i σ _ hlt p
 ·have e:i=n:=by (first|lia|omega)
  subst e
  exact .inl ⟨ψj _,hd σ H p⟩
theorem ziB{c:TT}{tb:TS}{D:zlp}{σ:St}{H:Hp}(Pv:St→Hp→Prop)(μ:St→Hp→Nat)(h0:Pv σ H)
  (hs:∀σ H,Pv σ H→c σ H λb H1=>if b=true then tb { D with nx:=λσ' H'=>Pv σ' H'∧μ σ' H'<μ σ H,ct:=λσ' H'=>Pv σ' H'∧μ σ' H'<μ σ H,bk:=D.nx } σ H1 else D.nx σ H1)
  (mono:∀σ H Q Q',(∀b H1,Q b H1→Q' b H1)→c σ H Q→c σ H Q'):zjK c tb D σ H:=by
 refine⟨λm σ H=>m=μ σ H∧Pv σ H,⟨_,rfl,h0⟩,?_⟩
 rintro m σ H ⟨rfl,p⟩
 refine mono σ H _ _ (λb H1 q=>?_) (hs σ H p)
 cases b with
 | true=>exact⟨_,λσ' H' ⟨p',l⟩=>⟨_,l,rfl,p'⟩,q⟩
 | false=>exact q
end L2
namespace L2
open PySem PySem.Spec PyProof.Rows
abbrev R2:=V→V→Hp→VK→Prop
def OpR(X:Cx)(f:Value→Value→Sem Value)(r:R2):Prop :=
 ∀(pins:List (Addr×Obj)) (s:Shared) (σ:St) (H:Hp) (x y:V) (v u:Value) (Q:VK),Inv X pins σ H s→zdp x v→zdp y u→r x y H Q →
  wpAny (model X.prog X.w) X.A (f v u) (EP X pins σ Q) X.xe s
def UnR(X:Cx)(f:Value→Sem Value)(r:V→Hp→VK→Prop):Prop :=
 ∀(pins:List (Addr×Obj)) (s:Shared) (σ:St) (H:Hp) (x:V) (v:Value) (Q:VK),Inv X pins σ H s→zdp x v→r x H Q →
  wpAny (model X.prog X.w) X.A (f v) (EP X pins σ Q) X.xe s
def zio(X:Cx)(f:Value)(r:List V→Hp→VK→Prop):Prop :=
 ∀(pins:List (Addr×Obj)) (s:Shared) (σ:St) (H:Hp) (xs:List V) (us:List Value) (Q:VK),Inv X pins σ H s→zcH xs us→r xs H Q →
  wpAny (model X.prog X.w) X.A (call f us) (EP X pins σ Q) X.xe s
def TruR(X:Cx)(r:V→Hp→(Bool→Hp→Prop)→Prop):Prop :=
 ∀(pins:List (Addr×Obj)) (s:Shared) (σ:St) (H:Hp) (x:V) (v:Value) (Q:Bool→Hp→Prop),Inv X pins σ H s→zdp x v→r x H Q →
  wpAny (model X.prog X.w) X.A (truthy v) (TP X pins σ Q) X.xe s
def tOp(r:R2)(ta tb:TE):TE:=λσ H Q=>ta σ H λx H1=>tb σ H1 λy H2=>r x y H2 Q
def tUn(r:V→Hp→VK→Prop)(ta:TE):TE:=λσ H Q=>ta σ H λx H1=>r x H1 Q
def rI(C:Int→Int→Prop)(g:Int→Int→V):R2:=λx y H Q=>∃i j,x=.int i∧y=.int j∧C i j∧Q (g i j) H
def rI0(g:Int→Int→V):R2:=λx y H Q=>∃i j,x=.int i∧y=.int j∧Q (g i j) H
def rU(g:Int→V):V→Hp→VK→Prop:=λx H Q=>∃i,x=.int i∧Q (g i) H
section
variable {X:Cx} {a b c:Expr} {ta tb tc:TE} {pos:Pos}
theorem binT(ha:PE X a ta)(hb:PE X b tb){pins:List (Addr×Obj)}{s:Shared}{σ:St}{H:Hp}{R:V→V→Hp→Prop}(I:Inv X pins σ H s)
  (h:ta σ H λx H1=>tb σ H1 λy H2=>R x y H2) {Q:Value→Shared→Prop} {f:Value→Value→Sem Value}
  (hf:∀v u s2 x y H2,Inv X pins σ H2 s2→zdp x v→zdp y u→R x y H2→wpAny (model X.prog X.w) X.A (f v u) Q X.xe s2) :
  wpAny (model X.prog X.w) X.A (eval a X.env) (λv s₁=>wpAny (model X.prog X.w) X.A (eval b X.env) (λu s₂=>wpAny (model X.prog X.w) X.A (f v u) Q X.xe s₂) X.xe s₁) X.xe s:=by
 refine thn (ha pins s σ H _ I h) λv s1 hQ'=>?_
 obtain⟨x,H1,I1,r1,q1⟩:=hQ'
 refine thn (hb pins s1 σ H1 _ I1 q1) λu s2 hQ'=>?_
 obtain⟨y,H2,I2,r2,q2⟩:=hQ'
 exact hf v u s2 x y H2 I2 r1 r2 q2
theorem zaz{op:Operator}{r:R2}(ho:OpR X (binaryOp op) r)(ha:PE X a ta)(hb:PE X b tb):PE X (.BinOp a op b pos) (tOp r ta tb):=by
 intro pins s σ H Q I h
 exact wpAny_BinOp (binT ha hb I h λv u s2 x y H2 I2 rx ry q=>ho pins s2 σ H2 x y v u Q I2 rx ry q)
theorem zxg{op:UnaryOp}{r:V→Hp→VK→Prop}(ho:UnR X (unaryOp op) r)(ha:PE X a ta):PE X (.UnaryOp op a pos) (tUn r ta):=by
 intro pins s σ H Q I h
 exact UnaryOp_ (thn (ha pins s σ H _ I h) λv s1 ⟨x,H1,I1,r1,q1⟩=>ho pins s1 σ H1 x v Q I1 r1 q1)
theorem opI{f:Value→Value→Sem Value}{C:Int→Int→Prop}{g:Int→Int→Int}
  (rule:∀(i j:Int) (t u:Tok) (s:Shared) (Q:Value→Shared→Prop) (E:Value→Shared→Prop),C i j→Q (.int (g i j) s.toks) { s with toks:=s.toks+1 }→wpAny (model X.prog X.w) X.A (f (.int i t) (.int j u)) Q E s) :
  OpR X f (rI C λi j=>.int (g i j)):=by
 intro pins s σ H x y v u Q I rx ry h
 obtain⟨i,j,rfl,rfl,hc,q⟩:=h
 obtain⟨t,rfl⟩:=rx
 obtain⟨t',rfl⟩:=ry
 exact rule i j t t' s _ _ hc ⟨.int (g i j),H,I.tok _,⟨_,rfl⟩,q⟩
theorem opI0{f:Value→Value→Sem Value}{g:Int→Int→Int}
  (rule:∀(i j:Int) (t u:Tok) (s:Shared) (Q:Value→Shared→Prop) (E:Value→Shared→Prop),Q (.int (g i j) s.toks) { s with toks:=s.toks+1 }→wpAny (model X.prog X.w) X.A (f (.int i t) (.int j u)) Q E s) :
  OpR X f (rI0 λi j=>.int (g i j)):=by
 intro pins s σ H x y v u Q I rx ry h
 obtain⟨i,j,rfl,rfl,q⟩:=h
 obtain⟨t,rfl⟩:=rx
 obtain⟨t',rfl⟩:=ry
 exact rule i j t t' s _ _ ⟨.int (g i j),H,I.tok _,⟨_,rfl⟩,q⟩
theorem opB0{f:Value→Value→Sem Value}{g:Int→Int→Bool}
  (rule:∀(i j:Int) (t u:Tok) (s:Shared) (Q:Value→Shared→Prop) (E:Value→Shared→Prop),Q (.bool (g i j)) s→wpAny (model X.prog X.w) X.A (f (.int i t) (.int j u)) Q E s) :
  OpR X f (rI0 λi j=>.bl (g i j)):=by
 intro pins s σ H x y v u Q I rx ry h
 obtain⟨i,j,rfl,rfl,q⟩:=h
 obtain⟨t,rfl⟩:=rx
 obtain⟨t',rfl⟩:=ry
 exact rule i j t t' s _ _ ⟨.bl (g i j),H,I,rfl,q⟩
def CPow(i j:Int):Prop:=0≤j∧j≤1000000∧i.natAbs<2 ^ 64
theorem zdC:OpR X (binaryOp .Add) (rI0 λi j=>.int (i+j)):=opI0 λ_ _ _ _ _ _ _ q=>add_int q
theorem zdy:OpR X (binaryOp .Sub) (rI0 λi j=>.int (i - j)):=opI0 λ_ _ _ _ _ _ _ q=>sub_int q
theorem zmx:OpR X (binaryOp .Mod) (rI (λ_ j=>0<j) λi j=>.int (i % j)):=opI λi j _ _ _ _ _ hc q=>by
 have h1:(0:Int)<j:=hc
 exact mod_int' (by (first|lia|omega)) (by rw[Int.fmod_eq_emod_of_nonneg i (by (first|lia|omega))];exact q)
theorem zvS:OpR X (binaryOp .Mod) (rI (λ_ j=>j≠0) λi j=>.int (i.fmod j)):=opI λ_ _ _ _ _ _ _ hc q=>mod_int' hc q
theorem zvy:OpR X (binaryOp .Pow) (rI CPow λi j=>.int (i ^ j.toNat)):=opI λ_ _ _ _ _ _ _ hc q=>pow_int_small hc.1 hc.2.1 hc.2.2 q
theorem unI{f:Value→Sem Value}{g:Int→Int}
  (rule:∀(i:Int) (t:Tok) (s:Shared) (Q:Value→Shared→Prop) (E:Value→Shared→Prop),Q (.int (g i) s.toks) { s with toks:=s.toks+1 }→wpAny (model X.prog X.w) X.A (f (.int i t)) Q E s) :
  UnR X f (rU λi=>.int (g i)):=by
 intro pins s σ H x v Q I rx h
 obtain⟨i,rfl,q⟩:=h
 obtain⟨t,rfl⟩:=rx
 exact rule i t s _ _ ⟨.int (g i),H,I.tok _,⟨_,rfl⟩,q⟩
theorem zsa:UnR X (unaryOp .USub) (rU λi=>.int (-i)):=unI λ_ _ _ _ _ q=>neg_int q
end
def scal:V→V→Bool
 | .non,.non=>true | .non,.int _=>true | .int _,.non=>true | .non,.bl _=>true | .bl _,.non=>true | .non,.str _=>true | .str _,.non=>true
 | .int _,.int _=>true | .bl _,.bl _=>true | .str _,.str _=>true | .byt _,.byt _=>true
 | .int _,.str _=>true | .str _,.int _=>true | .bl _,.str _=>true | .str _,.bl _=>true
 | _,_=>false
def rEq:R2:=λx y H Q=>scal x y=true∧Q (.bl (decide (x=y))) H
def rNe:R2:=λx y H Q=>scal x y=true∧Q (.bl (!decide (x=y))) H
theorem zp5{i j:Int}:decide (V.int i=V.int j)=(i == j):=by
 rw[ψJ1]
 simp
theorem zvD{i j:Bool}:decide (V.bl i=V.bl j)=(i == j):=by
 rw[ψJ1]
 simp
theorem zr5{i j:Str}:decide (V.str i=V.str j)=(i == j):=by
 rw[ψJ1]
 simp
theorem zqo{i j:Array UInt8}:decide (V.byt i=V.byt j)=(i.toList == j.toList):=by
 rw[ψJ1]
 cases i
 cases j
 simp
section
variable {X:Cx} {a b c:Expr} {ta tb tc:TE} {pos:Pos}
theorem zb2{pins:List (Addr×Obj)}{σ:St}{H:Hp}{s:Shared}{Q:VK}{k k':Bool}(I:Inv X pins σ H s)(q:Q (.bl k) H)(e:k=k'):EP X pins σ Q (.bool k') s:=by
 subst e
 exact⟨.bl k,H,I,rfl,q⟩
theorem zjs:OpR X (compareOp .Eq) rEq:=by
 intro pins s σ H x y v u Q I rx ry h
 obtain⟨hs,q⟩:=h
 cases x with
 | non =>
  cases rx
  cases y with
  | non=>cases ry;exact PySem.EqNone.eq_none_none (zb2 I q (by simp))
  | bl j=>cases ry;exact PySem.EqNone.eq_none_bool (zb2 I q (by simp))
  | int j=>obtain⟨t',rfl⟩:=ry;exact PySem.EqNone.eq_none_int (zb2 I q (by simp))
  | str j=>obtain⟨t',rfl⟩:=ry;exact PySem.EqNone.eq_none_str (zb2 I q (by simp))
  | _=>exact absurd (show false=true from hs) ψv
 | bl i =>
  cases rx
  cases y with
  | non=>cases ry;exact PySem.EqNone.eq_bool_none (zb2 I q (by simp))
  | bl j=>cases ry;exact eq_bool (zb2 I q zvD)
  | str j=>obtain⟨t',rfl⟩:=ry;exact PySem.EqMixed.eq_bool_str (zb2 I q (by simp))
  | _=>exact absurd (show false=true from hs) ψv
 | int i =>
  obtain⟨t,rfl⟩:=rx
  cases y with
  | non=>cases ry;exact PySem.EqNone.eq_int_none (zb2 I q (by simp))
  | int j=>obtain⟨t',rfl⟩:=ry;exact eq_int (zb2 I q zp5)
  | str j=>obtain⟨t',rfl⟩:=ry;exact PySem.EqMixed.eq_int_str (zb2 I q (by simp))
  | _=>exact absurd (show false=true from hs) ψv
 | str i =>
  obtain⟨t,rfl⟩:=rx
  cases y with
  | non=>cases ry;exact PySem.EqNone.eq_str_none (zb2 I q (by simp))
  | bl j=>cases ry;exact PySem.EqMixed.eq_str_bool (zb2 I q (by simp))
  | int j=>obtain⟨t',rfl⟩:=ry;exact PySem.EqMixed.eq_str_int (zb2 I q (by simp))
  | str j=>obtain⟨t',rfl⟩:=ry;exact eq_str (zb2 I q zr5)
  | _=>exact absurd (show false=true from hs) ψv
 | byt i =>
  obtain⟨t,rfl⟩:=rx
  cases y with
  | byt j=>obtain⟨t',rfl⟩:=ry;exact PySem.W.eq_bytes (zb2 I q zqo)
  | _=>exact absurd (show false=true from hs) ψv
 | _=>cases y <;> exact absurd (show false=true from hs) ψv
theorem zih:OpR X (compareOp .NotEq) rNe:=by
 intro pins s σ H x y v u Q I rx ry h
 obtain⟨hs,q⟩:=h
 cases x with
 | non =>
  cases rx
  cases y with
  | non=>cases ry;exact PySem.EqNone.ne_none_none (zb2 I q (by simp))
  | bl j=>cases ry;exact PySem.EqNone.ne_none_bool (zb2 I q (by simp))
  | int j=>obtain⟨t',rfl⟩:=ry;exact PySem.EqNone.ne_none_int (zb2 I q (by simp))
  | str j=>obtain⟨t',rfl⟩:=ry;exact PySem.EqNone.ne_none_str (zb2 I q (by simp))
  | _=>exact absurd (show false=true from hs) ψv
 | bl i =>
  cases rx
  cases y with
  | non=>cases ry;exact PySem.EqNone.ne_bool_none (zb2 I q (by simp))
  | bl j=>cases ry;exact ne_bool (zb2 I q (congrArg not zvD))
  | str j=>obtain⟨t',rfl⟩:=ry;exact PySem.EqMixed.ne_bool_str (zb2 I q (by simp))
  | _=>exact absurd (show false=true from hs) ψv
 | int i =>
  obtain⟨t,rfl⟩:=rx
  cases y with
  | non=>cases ry;exact PySem.EqNone.ne_int_none (zb2 I q (by simp))
  | int j=>obtain⟨t',rfl⟩:=ry;exact ne_int (zb2 I q (congrArg not zp5))
  | str j=>obtain⟨t',rfl⟩:=ry;exact PySem.EqMixed.ne_int_str (zb2 I q (by simp))
  | _=>exact absurd (show false=true from hs) ψv
 | str i =>
  obtain⟨t,rfl⟩:=rx
  cases y with
  | non=>cases ry;exact PySem.EqNone.ne_str_none (zb2 I q (by simp))
  | bl j=>cases ry;exact PySem.EqMixed.ne_str_bool (zb2 I q (by simp))
  | int j=>obtain⟨t',rfl⟩:=ry;exact PySem.EqMixed.ne_str_int (zb2 I q (by simp))
  | str j=>obtain⟨t',rfl⟩:=ry;exact ne_str (zb2 I q (congrArg not zr5))
  | _=>exact absurd (show false=true from hs) ψv
 | byt i =>
  obtain⟨t,rfl⟩:=rx
  cases y with
  | byt j=>obtain⟨t',rfl⟩:=ry;exact PySem.W.ne_bytes (zb2 I q (congrArg not zqo))
  | _=>exact absurd (show false=true from hs) ψv
 | _=>cases y <;> exact absurd (show false=true from hs) ψv
theorem zi4:OpR X (compareOp .Lt) (rI0 λi j=>.bl (decide (i<j))):=opB0 λ_ _ _ _ _ _ _ q=>lt_int q
theorem zk1:OpR X (compareOp .LtE) (rI0 λi j=>.bl (decide (i≤j))):=opB0 λ_ _ _ _ _ _ _ q=>le_int q
theorem zhg:OpR X (compareOp .Gt) (rI0 λi j=>.bl (decide (j<i))):=opB0 λ_ _ _ _ _ _ _ q=>gt_int q
theorem zme:OpR X (compareOp .GtE) (rI0 λi j=>.bl (decide (j≤i))):=opB0 λ_ _ _ _ _ _ _ q=>ge_int q
theorem zv6:OpR X (compareOp .IsNot) (λx y H Q=>y=.non∧Q (.bl (!decide (x=.non))) H):=by
 intro pins s σ H x y v u Q I rx ry h
 obtain⟨rfl,q⟩:=h
 cases ry
 refine isnot_none_gen (zb2 I q ?_)
 cases x <;> first
  | (cases rx;rfl)
  | (obtain⟨t,rfl⟩:=rx;rfl)
theorem zaV(b:Expr){op:CmpOp}(h:op≠.In:=by decide)(h2:op≠.NotIn:=by decide):behindInMarks op b=false:=by
 have e1:(op == CmpOp.In)=false:=by cases op <;> first | rfl | exact absurd rfl h
 have e2:(op == CmpOp.NotIn)=false:=by cases op <;> first | rfl | exact absurd rfl h2
 cases b <;> simp[behindInMarks,e1,e2]
theorem zbT{op:CmpOp}{r:R2}(ho:OpR X (compareOp op) r)(ha:PE X a ta)(hb:PE X b tb)(hm:behindInMarks op b=false):PE X (.Compare a [op] [b] pos) (tOp r ta tb):=by
 intro pins s σ H Q I h
 exact wpAny_Compare1 (binT ha hb I h λv u s2 x y H2 I2 rx ry q=>ho pins s2 σ H2 x y v u Q I2 rx ry q) hm
def zbZ(t:TE):TT:=λσ H Q=>t σ H λx H'=>∃k,x=.bl k∧Q k H'
theorem za7{op:CmpOp}{r:R2}(ho:OpR X (compareOp op) r)(ha:PE X a ta)(hb:PE X b tb)(hm:behindInMarks op b=false):PT X (.Compare a [op] [b] pos) (zbZ (tOp r ta tb)):=by
 intro pins s σ H Q I h
 refine wpAny_isTrue_Compare1 (thn (ha pins s σ H _ I h) λv s1 ⟨x,H1,I1,r1,q1⟩=>thn (hb pins s1 σ H1 _ I1 q1) λu s2 ⟨y,H2,I2,r2,q2⟩ =>
  thn (ho pins s2 σ H2 x y v u _ I2 r1 r2 q2) λc s3 ⟨z,H3,I3,r3,k,e,q3⟩=>?_) hm
 subst e
 cases r3
 exact wpAny_truthy_bool ⟨H3,I3,q3⟩
def zmv(r r':R2)(ta tb tc:TE):TE:=λσ H Q=>ta σ H λx H1=>tb σ H1 λy H2=>r x y H2 λz H3=>∃k,z=.bl k ∧
 (if k=true then tc σ H3 λw' H4=>r' y w' H4 Q else Q (.bl false) H3)
theorem zuQ{op op':CmpOp}{r r':R2}(ho:OpR X (compareOp op) r)(ho':OpR X (compareOp op') r')(ha:PE X a ta)(hb:PE X b tb)(hc:PE X c tc)
  (hm:lastMarks [op,op'] [b,c]=false:=by with_unfolding_all rfl):PE X (.Compare a [op,op'] [b,c] pos) (zmv r r' ta tb tc):=by
 intro pins s σ H Q I h
 refine Compare_chain (thn (ha pins s σ H _ I h) λv s1 ⟨x,H1,I1,r1,q1⟩=>chain_link (thn (hb pins s1 σ H1 _ I1 q1) λu s2 ⟨y,H2,I2,r2,q2⟩ =>
  thn (ho pins s2 σ H2 x y v u _ I2 r1 r2 q2) λd s3 ⟨z,H3,I3,r3,k,e,q3⟩=>?_)) hm
 subst e
 cases r3
 refine wpAny_truthy_bool ?_
 cases k with
 | false=>exact ite_ff ⟨.bl false,H3,I3,rfl,q3⟩
 | true=>exact ite_tt (chain_last (thn (hc pins s3 σ H3 _ I3 q3) λw' s4 ⟨z',H4,I4,r4,q4⟩=>ho' pins s4 σ H4 y z' u w' Q I4 r2 r4 q4))
theorem zuJ{op op':CmpOp}{r r':R2}(ho:OpR X (compareOp op) r)(ho':OpR X (compareOp op') r')(ha:PE X a ta)(hb:PE X b tb)(hc:PE X c tc)
  (hm:lastMarks [op,op'] [b,c]=false:=by with_unfolding_all rfl):PT X (.Compare a [op,op'] [b,c] pos) (zbZ (zmv r r' ta tb tc)):=by
 intro pins s σ H Q I h
 refine isTrue_chain (thn (ha pins s σ H _ I h) λv s1 ⟨x,H1,I1,r1,q1⟩=>test_link (thn (hb pins s1 σ H1 _ I1 q1) λu s2 ⟨y,H2,I2,r2,q2⟩ =>
  thn (ho pins s2 σ H2 x y v u _ I2 r1 r2 q2) λd s3 ⟨z,H3,I3,r3,k,e,q3⟩=>?_)) hm
 subst e
 cases r3
 refine wpAny_truthy_bool ?_
 cases k with
 | false =>
  obtain⟨k',e',q'⟩:=q3
  cases e'
  exact ite_ff ⟨H3,I3,q'⟩
 | true =>
  refine ite_tt (test_last (thn (hc pins s3 σ H3 _ I3 q3) λw' s4 ⟨z',H4,I4,r4,q4⟩=>thn (ho' pins s4 σ H4 y z' u w' _ I4 r2 r4 q4) λd' s5 hQ'=>?_))
  obtain⟨z2,H5,I5,r5,k2,e2,q5⟩:=hQ'
  subst e2
  cases r5
  exact wpAny_truthy_bool ⟨H5,I5,q5⟩
def zyI(K:ψa)(x:V)(H:Hp)(k:Bool):Prop :=
 match x with
 | .non=>k=false
 | .bl b=>k=b
 | .int i=>k=(i != 0)
 | .str y=>y.length≤sizeLine∧k=((y.length:Int) != 0)
 | .byt y=>y.size≤sizeLine∧k=((y.size:Int) != 0)
 | .ref p=>(∃xs,SqL K H p xs∧k=!xs.isEmpty)∨(∃xs,SqT K H p xs∧k=!xs.isEmpty)∨∃kvs,H p=some (.dK kvs)∧k=!kvs.isEmpty
 | _=>False
theorem zpJ{κ:Type}{kvs:List (κ×V)}{vs:List (κ×Value)}(r:KV kvs vs):(!vs.isEmpty)=!kvs.isEmpty:=by
 cases r <;> rfl
theorem zj0{xs:List V}{its:List Value}(r:zcH xs its):(!its.toArray.isEmpty)=!xs.isEmpty:=by
 cases r <;> simp
theorem zmg:(sizeLine:Nat)<2 ^ 63:=by rw[sizeLine_eq];decide
theorem zzm:TruR X (λx H Q=>∃k,zyI X.K x H k∧Q k H):=by
 intro pins s σ H x v Q I rx h
 obtain⟨k,e,q⟩:=h
 have hl:=zmg
 have hs:sizeLine=16777216:=sizeLine_eq
 cases x with
 | non =>
  cases rx
  have e':k=false:=e
  subst e'
  exact truthy_none ⟨H,I,q⟩
 | bl b =>
  cases rx
  have e':k=b:=e
  subst e'
  exact wpAny_truthy_bool ⟨H,I,q⟩
 | int i =>
  obtain⟨t,rfl⟩:=rx
  have e':k=(i != 0):=e
  subst e'
  exact PySem.P.truthy_int ⟨H,I,q⟩
 | str y =>
  obtain⟨t,rfl⟩:=rx
  obtain⟨hy,e'⟩:y.length≤sizeLine∧k=((y.length:Int) != 0):=e
  subst e'
  exact PySem.P.truthy_str (by (first|lia|omega)) ⟨H,I.tok _,q⟩
 | byt y =>
  obtain⟨t,rfl⟩:=rx
  obtain⟨hy,e'⟩:y.size≤sizeLine∧k=((y.size:Int) != 0):=e
  subst e'
  exact PySem.W.truthy_bytes (by (first|lia|omega)) ⟨H,I.tok _,q⟩
 | ref p =>
  cases rx
  have e':(∃xs,SqL X.K H p xs∧k=!xs.isEmpty)∨(∃xs,SqT X.K H p xs∧k=!xs.isEmpty)∨∃kvs,H p=some (.dK kvs)∧k=!kvs.isEmpty:=e
  rcases e' with ⟨xs,hx,e'⟩ | ⟨xs,hx,e'⟩ | ⟨kvs,hx,e'⟩
  ·subst e'
   obtain⟨its,r,pl,hz⟩:=I.list hx
   have hlen:=r.length
   exact wpAny_truthy_list pl.isList (by simp only[ψg];(first|lia|omega)) ⟨H,I.tok _,by rw[zj0 r];exact q⟩
  ·subst e'
   obtain⟨its,r,pl,hz⟩:=I.tuple hx
   have hlen:=r.length
   exact truthy_tuple pl (by simp only[ψg];(first|lia|omega)) ⟨H,I.tok _,by rw[zj0 r];exact q⟩
  ·subst e'
   obtain⟨hz,hS,vs,r,m⟩:kvs.length≤sizeLine∧(p == sysModules)=false∧∃vs,KV kvs vs∧s.heap.DictOf (znI X.prog X.w) p vs:=I.hok p _ hx
   have hlen:kvs.length=vs.length:=Paired.length r
   exact wpAny_truthy_dict hS m (by (first|lia|omega)) ⟨H,I.tok _,by rw[zpJ r];exact q⟩
 | _=>exact(show False from e).elim
theorem zow(ha:PE X a ta)(he:∀whole,isTrue a X.env whole=(do let v ← whole;standAt a.pos;holding [v] (truthy v))) :
  PT X a (λσ H Q=>ta σ H λx H'=>∃k,zyI X.K x H' k∧Q k H'):=by
 intro pins s σ H Q I h
 exact isTrue_plain (thn (ha pins s σ H _ I h) λv s1 ⟨x,H1,I1,r1,q1⟩=>zzm pins s1 σ H1 x v Q I1 r1 q1) (he _)
theorem zmQ{x:V}{us:List Value}(r:zcH [x] us):∃u,us=[u]∧zdp x u:=by
 cases r with
 | cons r1 r2=>cases r2;exact⟨_,rfl,r1⟩
theorem ztn{x y:V}{us:List Value}(r:zcH [x,y] us):∃u w',us=[u,w']∧zdp x u∧zdp y w':=by
 cases r with
 | cons r1 r2 =>
  cases r2 with
  | cons r3 r4=>cases r4;exact⟨_,_,rfl,r1,r3⟩
theorem zoy:zio X (.builtin "abs") (λxs H Q=>∃i,xs=[.int i]∧Q (.int (if i<0 then -i else i)) H):=by
 intro pins s σ H xs us Q I r h
 obtain⟨i,rfl,q⟩:=h
 obtain⟨u,rfl,t,rfl⟩:=zmQ r
 exact call_abs_int λu tk=>⟨.int (if i<0 then -i else i),H,I.tok _,⟨_,rfl⟩,q⟩
theorem zrz(hc:X.calm=true):zio X (.builtin "max") (λxs H Q=>∃i j,xs=[.int i,.int j]∧Q (.int (if j > i then j else i)) H):=by
 intro pins s σ H xs us Q I r h
 obtain⟨i,j,rfl,q⟩:=h
 obtain⟨u,w',rfl,⟨t,rfl⟩,⟨t',rfl⟩⟩:=ztn r
 refine max_two_ints (I.ok.hd hc) λh' tk k=>⟨_,H,I.kept k,?_,q⟩
 by_cases hj:j > i
 ·rw[if_pos hj,if_pos hj];exact⟨_,rfl⟩
 ·rw[if_neg hj,if_neg hj];exact⟨_,rfl⟩
theorem zrJ:zio X (.type "int") (λxs H Q=>(∃i,xs=[.int i]∧Q (.int i) H)∨∃k,xs=[.bl k]∧Q (.int (if k then 1 else 0)) H):=by
 intro pins s σ H xs us Q I r h
 rcases h with ⟨i,rfl,q⟩ | ⟨k,rfl,q⟩
 ·obtain⟨u,rfl,t,rfl⟩:=zmQ r
  exact call_int_int ⟨.int i,H,I,⟨_,rfl⟩,q⟩
 ·obtain⟨u,rfl,r1⟩:=zmQ r
  cases r1
  exact call_int_bool ⟨.int (if k then 1 else 0),H,I.tok _,⟨_,rfl⟩,q⟩
end
end L2
namespace L2
open PySem PySem.Spec PyProof.Rows
structure ObjM (h:Heap) (x dx C:Addr) (mA:Str→Option Value):Prop where
 obj:h.get? x=some (PySem.W.instObj C dx)
 ns:h.Ns1 dx mA
 ne:dx≠x
theorem zqH{h:Heap}{dx:Addr}{mA:Str→Option Value}(n:h.Ns1 dx mA):∃od,h.get? dx=some od∧∀name,PySem.W.lookIn name od=some (mA name):=by
 obtain⟨o,es,ep,ho,hd,hk,_,hm⟩:=n
 refine⟨o,ho,λname=>?_⟩
 have e:=hm name
 unfold nsFind findBy at e
 rw[← Array.find?_toList] at e
 unfold PySem.W.lookIn
 rw[hd]
 dsimp only
 split
 ·rename_i y q
  rw[q] at e
  exact congrArg some e
 ·rename_i q
  rw[q] at e
  have a:es.toList.any (·.refKey)=false:=by
   rw[List.any_eq_false]
   intro y hy
   obtain⟨z,t,hkey⟩:=hk y (Array.mem_toList_iff.mp hy)
   simp[DictEntry.refKey,hkey]
  have a':¬ es.toList.any (·.refKey)=true:=by rw[a];exact ψv
  rw[if_neg a']
  exact congrArg some e
theorem ObjM.look{h:Heap}{x dx C:Addr}{mA:Str→Option Value}(I:ObjM h x dx C mA):∃od,PySem.W.InstAt h x (PySem.W.instObj C dx) C (some od)∧∀name,PySem.W.lookIn name od=some (mA name) :=
 let ⟨od,ho,hl⟩:=zqH I.ns
 ⟨od,⟨I.obj,rfl,rfl,ho⟩,hl⟩
section
variable {prog:Program} {w:World} {A:Around} {E:Value→Shared→Prop} {s:Shared} {K:ψa} {x dx C f:Addr} {mA:Str→Option Value} {name:Str} {v:Value}
end
section
variable {P:Program} {w:World} {H H':Hp} {h h':Heap} {a C dx:Addr} {fs fs':List (Str×V)}
theorem zxB(hok:HOk P w H h)(e:H a=some (.ins C dx fs)):∃mA,ObjM h a dx C mA∧(∀f,RelO (fs.lookup f) (mA f))∧PySem.Within mA (fs.map (·.1))∧fs.length≤1000∧H dx=some (.own a):=by
 obtain⟨d,z,ne,ob,mA,n,r,q⟩:=(show zdU P w H h a (.ins C dx fs) from hok a _ e)
 exact⟨mA,⟨ob,n,ne⟩,r,q,z,d⟩
end
structure Cls (K:ψa) (C:Addr):Prop where
 pg:PySem.W.plainGet K C Str.empty=true
 hd:PySem.W.hasDictIn K C=true
 po:PySem.W.plainOver K C=true
 sa:PySem.W.findIn K (.ref C) "__setattr__"=some (some (.builtin "object.__setattr__"))
theorem Cls.get{K:ψa}{C:Addr}(c:Cls K C)(f:Str):PySem.W.plainGet K C f=true:=c.pg
section
variable {X:Cx} {pins:List (Addr×Obj)} {σ:St} {H:Hp} {s:Shared} {a C dx:Addr} {fs:List (Str×V)} {f:Str} {v:V} {A:Around} {E:Value→Shared→Prop}
end
section
variable {X:Cx} {o e value:Expr} {f:Str} {pos pos' tpos:Pos} {ta tv:TE}
end
section
variable {X:Cx} {pins:List (Addr×Obj)} {σ:St} {H:Hp} {s:Shared} {A:Around} {E:Value→Shared→Prop} {Q:Value→Shared→Prop} {c:Value} {b:Bool}
inductive zpa (K:ψa) (H:Hp):V→Value→Prop where
 | non:zpa K H .non (.type "NoneType")
 | bl (x:Bool):zpa K H (.bl x) (.type "bool")
 | int (i:Int):zpa K H (.int i) (.type "int")
 | str (x:Str):zpa K H (.str x) (.type "str")
 | flt (x:UInt64):zpa K H (.flt x) (.type "float")
 | lst {a:Addr} {xs:List V} (e:H a=some (.lst xs)):zpa K H (.ref a) (.type "list")
 | frz {a:Addr} {o:Obj} {xs:List V} (e:H a=some (.frz o (.lst xs))):zpa K H (.ref a) (.type "list")
 | tup {a:Addr} {xs:List V} (e:H a=some (.tup xs)):zpa K H (.ref a) (.type "tuple")
 | dK {a:Addr} {kvs:List (Key×V)} (e:H a=some (.dK kvs)):zpa K H (.ref a) (.type "dict")
 | dT {a:Addr} {kvs:List (List Key×V)} (e:H a=some (.dT kvs)):zpa K H (.ref a) (.type "dict")
 | ins {a C dx:Addr} {fs:List (Str×V)} (e:H a=some (.ins C dx fs)) (cl:Cls K C) (ha:PySem.W.findIn K (.ref C) "__class__"=some (some (.builtin "object.__class__")))
   (hn:PySem.W.specialIn K (.builtin "object.__class__") "__get__"=some (some (.builtin "getset_descriptor.__get__"))) (htk:PySem.W.takesIn K (.builtin "object.__class__")=some true)
   (hm:PySem.W.mroIn K C (.type "object")=some true):zpa K H (.ref a) (.ref C)
theorem zso{x:V}{u t:Value}(I:Inv X pins σ H s)(rx:zdp x u)(ty:zpa X.K H x t)(e:ψw1 X.K t c=some b)(h:∀tk,Q (.bool b) { s with toks:=tk }) :
  wpAny (model X.prog X.w) A (call (.builtin "isinstance") [u,c]) Q E s:=by
 cases ty with
 | non=>cases (show u=Value.none from rx);exact ψc1 PySem.W.kitx_none I.kIn True.intro e (λz=>nomatch z) h
 | bl y=>cases (show u=Value.bool y from rx);exact ψc1 PySem.W.kitx_bool I.kIn True.intro e (λz=>nomatch z) h
 | int i=>obtain⟨t,q⟩:=(show ∃t,u=Value.int i t from rx);cases q;exact ψc1 PySem.W.kitx_int I.kIn True.intro e (λz=>nomatch z) h
 | str y=>obtain⟨t,q⟩:=(show ∃t,u=Value.str y t from rx);cases q;exact ψc1 PySem.W.kitx_str I.kIn True.intro e (λz=>nomatch z) h
 | flt y=>obtain⟨t,q⟩:=(show ∃t,u=Value.float y t from rx);cases q;exact ψc1 PySem.W.kitx_float I.kIn True.intro e (λz=>nomatch z) h
 | @lst a xs ea =>
  cases (show u=Value.ref a from rx)
  obtain⟨_,_,n,_,h1⟩:=(show zdU X.prog X.w H s.heap a (.lst xs) from I.hok a _ ea)
  exact ψc1 PySem.W.kitx_list I.kIn ⟨_,h1,rfl⟩ e (λz=>nomatch z) h
 | @frz a ob xs ea =>
  cases (show u=Value.ref a from rx)
  obtain⟨_,_,_,n,_,h1⟩:=(show zdU X.prog X.w H s.heap a (.frz ob (.lst xs)) from I.hok a _ ea)
  exact ψc1 PySem.W.kitx_list I.kIn ⟨_,h1,rfl⟩ e (λz=>nomatch z) h
 | @tup a xs ea =>
  cases (show u=Value.ref a from rx)
  obtain⟨_,_,_,p⟩:=(show zdU X.prog X.w H s.heap a (.tup xs) from I.hok a _ ea)
  obtain⟨o,h1,h2,_⟩:=p
  exact ψc1 PySem.W.kitx_tuple I.kIn ⟨o,h1,h2⟩ e (λz=>nomatch z) h
 | @dK a kvs ea =>
  cases (show u=Value.ref a from rx)
  obtain⟨_,_,vs,_,p⟩:=(show zdU X.prog X.w H s.heap a (.dK kvs) from I.hok a _ ea)
  obtain⟨o,es,ep,h1,h2,_⟩:=p
  exact ψc1 PySem.W.kitx_dict I.kIn ⟨o,h1,h2.1⟩ e (λz=>nomatch z) h
 | @dT a kvs ea =>
  cases (show u=Value.ref a from rx)
  obtain⟨_,_,xs,_,o,es,ep,h1,h2,_⟩:=(show zdU X.prog X.w H s.heap a (.dT kvs) from I.hok a _ ea)
  exact ψc1 PySem.W.kitx_dict I.kIn ⟨o,h1,h2.1⟩ e (λz=>nomatch z) h
 | @ins a C dx fs ea cl ha hn htk hm =>
  cases (show u=Value.ref a from rx)
  obtain⟨mA,O,_⟩:=zxB I.hok ea
  obtain⟨od,J,_⟩:=O.look
  exact ψc1 (PySem.W.kitx_own (cl.get _) cl.hd ha hn htk hm) I.kIn J e (λz=>nomatch z) h
end
end L2
namespace L2
open PySem PySem.Spec PyProof.Rows
structure zll (k:Nat) (A:Around):Prop where
 hd:A.handled=none
 dp:A.depth+3*k+5<recursionLimit
 un:A.units+16*k+200<cLine
theorem zll.mono{j k:Nat}{A:Around}(r:zll k A)(h:j≤k):zll j A:=⟨r.hd,by have:=r.dp;(first|lia|omega),by have:=r.un;(first|lia|omega)⟩
theorem zll.deeper{k:Nat}{A:Around}(r:zll (k+1) A)(env:Env):zll k (A.deeper env) :=
 ⟨r.hd,by have:=r.dp;show A.depth+1+3*k+5<_;(first|lia|omega),by have:=r.un;show A.units+3+16*k+200<_;(first|lia|omega)⟩
theorem zll.depth{k:Nat}{A:Around}(r:zll k A):A.depth<recursionLimit:=by have:=r.dp;(first|lia|omega)
theorem zll.units{k:Nat}{A:Around}(r:zll k A):A.units+64<cLine:=by have:=r.un;(first|lia|omega)
theorem zll.units0{k:Nat}{A:Around}(r:zll k A):A.units<cLine:=by have:=r.un;(first|lia|omega)
def zau:TA:=λ_ H Q=>Q [] H
def zab(ta:TE)(tr:TA):TA:=λσ H Q=>ta σ H λx H1=>tr σ H1 λxs H2=>Q (x::xs) H2
section
variable {X:Cx} {e:Expr} {es:List Expr} {te:TE} {t:TA} {pos:Pos}
theorem zad:PA X [] zau:=λ_ _ _ _ H Q I h=>Calls.spliced_nil ⟨[],H,I,.nil,h⟩
theorem zaa(ha:PE X e te)(hr:PA X es t)(hs:starEach (e::es) X.env=(false,eval e X.env)::starEach es X.env:=by rfl):PA X (e::es) (zab te t):=by
 intro pos pins s σ H Q I h
 rw[hs]
 show wpAny _ _ (spliced ((false,eval e X.env)::backTo pos (starEach es X.env))) _ _ s
 refine Calls.spliced_cons (thn (ha pins s σ H _ I h) λu s1 hQ'=>?_)
 obtain⟨x,H1,I1,r1,q1⟩:=hQ'
 exact thn (hr pos pins s1 σ H1 _ I1 q1) λus s2 ⟨xs,H2,I2,r2,q2⟩=>⟨x::xs,H2,I2,.cons r1 r2,q2⟩
def zfq(t:TA):TE:=λσ H Q=>t σ H λxs H1=>xs.length≤sizeLine∧∀p,H1 p=none→Q (.ref p) (upd H1 p (.tup xs))
def zlA(t:TA):TE:=λσ H Q=>t σ H λxs H1=>xs.length≤sizeLine∧∀p,H1 p=none→Q (.ref p) (upd H1 p (.lst xs))
theorem zbR{x1}(h:PA X es t):PE X (.Tuple es x1 pos) (zfq t):=by
 intro pins s σ H Q I hq
 refine wpAny_Tuple_spliced (thn (h pos pins s σ H _ I hq) λus s1 ⟨xs,H1,I1,r,z,q⟩=>⟨by rw[← r.length];exact z,?_⟩)
 have hf:H1 s1.heap.objs.size=none:=I1.hok.fresh (ψj _)
 refine⟨.ref s1.heap.objs.size,upd H1 s1.heap.objs.size (.tup xs),I1.laid (t':=s1.toks) (λb u e=>Heap.get?_push_of_some _ e) (ψj _) ?_,rfl,q _ hf⟩
 exact⟨z,us,r,⟨_,Heap.get?_push_size _ rfl,rfl,_,rfl⟩⟩
theorem zea(h:PA X es t):PE X (.List es pos) (zlA t):=by
 intro pins s σ H Q I hq
 refine wpAny_List_spliced (thn (h pos pins s σ H _ I hq) λus s1 ⟨xs,H1,I1,r,z,q⟩=>⟨by rw[← r.length];exact z,?_⟩)
 have hf:H1 s1.heap.objs.size=none:=I1.hok.fresh (ψj _)
 refine⟨.ref s1.heap.objs.size,upd H1 s1.heap.objs.size (.lst xs),I1.laid (t':=s1.toks) (λb u e=>Heap.get?_push_of_some _ e) (ψj _) ?_,rfl,q _ hf⟩
 exact⟨z,us,0,r,Heap.get?_push_size _ rfl⟩
end
abbrev Sp:=List V→Hp→VK→XK→Prop
abbrev CXT:=List Env→Hp→Shared→XK→Value→Shared→Prop
structure Env0 (P:Program) (w:World) (K:ψa) (mg:Str→Option Value) (base:Heap) (A:Around) (outer:List Env) (s:Shared) (H:Hp):Prop where
 frames:A.frames=some outer
 mod:Mod K mg base
 bs:∀b o,base.get? b=some o→s.heap.get? b=some o∧H b=none
 bsz:base.objs.size≤s.heap.objs.size
 funs:s.heap.FunFrames base outer
 frf:∀b∈frs outer,H b=none
 hok:HOk P w H s.heap
 bare:AllBare s.gens
def CE(outer:List Env)(P:Program)(w:World)(H:Hp)(s:Shared)(Q:VK)(u:Value)(s':Shared):Prop :=
 ∃v H',s'.os=s.os∧AllBare s'.gens∧Un (frs outer) [] H H' s.heap s'.heap∧HOk P w H' s'.heap∧zdp v u∧Q v H'
def CR(CX:CXT)(outer:List Env)(P:Program)(w:World)(H:Hp)(s:Shared)(Q:VK)(E:XK)(r:Result)(s':Shared):Prop :=
 match r with
 | .ok (.ret u)=>CE outer P w H s Q u s'
 | .ok _=>False
 | .error e=>CX outer H s E e s'
structure zci (P:Program) (w:World) (K:ψa) (mg:Str→Option Value) (base:Heap) (CX:CXT) (k:Nat) (f:Addr) (fd:FuncData) (ps:List Str) (sp:Sp):Prop where
 len:∀vs H Q E,sp vs H Q E→vs.length=ps.length
 run:∀(A:Around) (outer:List Env) (s:Shared) (H:Hp) (args:Args) (us:List Value) (vs:List V) (Q:VK) (E:XK),zll k A→Env0 P w K mg base A outer s H→BindsTo s fd args (ps.zip us)→zcH vs us→sp vs H Q E →
  codeAny (model P w) A (.call (.ref f) args) (CR CX outer P w H s Q E) s
section
variable {X:Cx} {pins:List (Addr×Obj)} {σ:St} {H:Hp} {s s':Shared}
theorem Inv.env0(I:Inv X pins σ H s):Env0 X.prog X.w X.K X.mg X.base X.A X.stack s H :=
 ⟨I.ok.frames,I.ok.mod,I.bs,ψb1 I.ok.bsz I.sz,I.stack,I.stkFree,I.hok,I.bare⟩
theorem Inv.after{Q:VK}{u:Value}(I:Inv X pins σ H s)(h:CE X.stack X.prog X.w H s Q u s'):EP X pins σ Q u s':=by
 obtain⟨v,H',os,bare,un,hok,r,q⟩:=h
 obtain⟨hh,g,d,t,os'⟩:=s'
 obtain rfl:os'=s.os:=os
 exact⟨v,H',I.call (h':=hh) (g':=g) (d':=d) (t':=t) (ch:=[]) un hok bare (λb z=>absurd z (by simp)),r,q⟩
end
def zaA(sp:Sp)(dvs:List V)(E:XK)(t:TA):TE:=λσ H Q=>t σ H λvs H1=>sp (vs++dvs) H1 Q E
def zbq(K:ψa)(fd:FuncData)(ps:List Str)(ds:List Value):Prop :=
 ∀(s:Shared) (us:List Value),K.In s.heap→(us++ds).length=ps.length→BindsTo s fd ⟨us,[]⟩ (ps.zip (us++ds))
theorem zbq.all{K:ψa}{fd:FuncData}{ps:List Str}(h:∀us:List Value,us.length=ps.length→bindArgs fd ⟨us,[]⟩=pure (ps.zip us)):zbq K fd ps []:=λs us _ hl=>by
 rw[List.append_nil] at hl ⊢
 exact .of_eq (h us hl)
def zq4(CX:CXT)(X:Cx)(E:XK):Prop:=∀(pins:List (Addr×Obj)) (σ:St) (H:Hp) (s:Shared) (e:Value) (s':Shared),Inv X pins σ H s→CX X.stack H s E e s'→X.xe e s'
section
variable {X:Cx} {CX:CXT} {k:Nat} {f C:Addr} {fd:FuncData} {ps:List Str} {sp:Sp} {dvs:List V} {ds:List Value} {E:XK} {x m:Str} {p pos apos:Pos} {e o:Expr} {es:List Expr} {ta:TE} {t:TA}
theorem zyR{pins:List (Addr×Obj)}{σ:St}{H:Hp}{s:Shared}{Q:VK}{us:List Value}{vs:List V}(F:zci X.prog X.w X.K X.mg X.base CX k f fd ps sp)(hr:zll k X.A)(hb:zbq X.K fd ps ds)(hd:zcH dvs ds)(hx:zq4 CX X E)
  (I:Inv X pins σ H s) (r:zcH vs us) (h:sp (vs++dvs) H Q E):wpAny (model X.prog X.w) X.A (call (.ref f) us) (EP X pins σ Q) X.xe s:=by
 have r2:zcH (vs++dvs) (us++ds):=r.append hd
 have hl:(us++ds).length=ps.length:=by rw[← r2.length];exact F.len _ _ _ _ h
 refine wpAny_call (codeAny_mono (F.run X.A X.stack s H ⟨us,[]⟩ (us++ds) (vs++dvs) Q E hr I.env0 (hb s us I.kIn hl) r2 h) λr s' hq=>?_)
 cases r with
 | error e=>exact hx pins σ H s e s' I hq
 | ok fl =>
  cases fl with
  | ret u=>exact I.after hq
  | next=>exact False.elim hq
  | brk=>exact False.elim hq
  | cont=>exact False.elim hq
theorem zak(F:zci X.prog X.w X.K X.mg X.base CX k f fd ps sp)(hr:zll k X.A)(hg:Gl X x)(hm:X.mg x=some (.ref f))(hk:PySem.W.keepIn X.K (.ref f)=true)(hb:zbq X.K fd ps ds)(hd:zcH dvs ds)(hx:zq4 CX X E)
  (ha:PA X (e::es) t) (hdb:(x == ("__debug__":Str))=false:=by decide) (he:starEach (e::es) X.env=(false,eval e X.env)::starEach es X.env:=by rfl) (hpl:(backTo pos (starEach es X.env)).any (·.1)=false:=by rfl) :
  PE X (.Call (.Name x p) (e::es) [] pos) (zaA sp dvs E t):=by
 intro pins s σ H Q I h
 refine wpAny_Call_Name_kw (zsg I hg hm ?_ hdb)
 refine PySem.W.callWith_K (h₀:=X.base) I.ok.mod.kin hk (thn (ha pos pins s σ H _ I h) λus s1 ⟨vs,H1,I1,r,q⟩=>⟨I1.kIn,?_⟩) he hpl
 exact zyR F hr hb hd hx I1 r q
end
section
variable {X:Cx} {CX:CXT} {k:Nat} {f C:Addr} {fd:FuncData} {ps ks:List Str} {sp:Sp} {E:XK} {x m:Str} {p pos apos kpos:Pos} {e o:Expr} {es:List Expr} {kws:List Keyword} {te ta:TE} {t tk:TA} {nm:Option Str}
variable {g:List Value→List Value→List Value} {gV:List V→List V→List V}
end
structure zay (N P:List Str) (sc:Scope):Prop where
 kind:sc.kind=.function
 co:sc.isCoroutine=false
 gen:sc.isGenerator=false
 nd:N.Nodup
 pre:N.take P.length=P
 par:∀x∈P,sc.names.lookup x=some .local∨sc.names.lookup x=some .cell
 nofree:∀y∈sc.names,y.2≠.free
theorem zmH{kindOf:Str→Option NameKind}{x:Str}:∀{binds:List (Str×Value)} {m:Str→Option Value},(∀v,(x,v)∉binds)→bindL kindOf binds m x=m x
 | [],_,_=>rfl
 | (n,v)::r,m,h=>by
  unfold bindL
  rw[zmH λw hw=>h w (ψd _ hw)]
  split
  ·have:x≠n:=by rintro rfl;exact h v ψe
   simp[this]
  ·rfl
theorem zlN{kindOf:Str→Option NameKind}{x:Str}:∀{binds:List (Str×Value)} {m:Str→Option Value},(∀v,(x,v)∉binds)→bindC kindOf binds m x=m x
 | [],_,_=>rfl
 | (n,v)::r,m,h=>by
  unfold bindC
  rw[zlN λw hw=>h w (ψd _ hw)]
  split
  ·rfl
  ·have:x≠n:=by rintro rfl;exact h v ψe
   simp[this]
theorem zmL{kindOf:Str→Option NameKind}{x:Str}{v:Value}:∀{P:List Str} {vs:List Value} {i:Nat} {m:Str→Option Value},P.Nodup→P[i]?=some x→vs[i]?=some v→kindOf x=some .local →
  bindL kindOf (P.zip vs) m x=some v
 | [],_,_,_,_,h,_,_=>by simp at h
 | _::_,[],_,_,_,_,h,_=>by simp at h
 | p::P,w::vs,0,m,nd,h1,h2,hk=>by
  simp at h1 h2;subst h1;subst h2
  show bindL kindOf ((p,w)::P.zip vs) m p=_
  unfold bindL
  rw[zmH λv hv=>(List.nodup_cons.mp nd).1 (List.of_mem_zip hv).1,if_pos hk]
  simp
 | p::P,w::vs,i+1,m,nd,h1,h2,hk=>by
  show bindL kindOf ((p,w)::P.zip vs) m x=_
  unfold bindL
  exact zmL (i:=i) (List.nodup_cons.mp nd).2 (by simpa using h1) (by simpa using h2) hk
theorem zlQ{kindOf:Str→Option NameKind}{x:Str}{v:Value}:∀{P:List Str} {vs:List Value} {i:Nat} {m:Str→Option Value},P.Nodup→P[i]?=some x→vs[i]?=some v→kindOf x≠some .local →
  bindC kindOf (P.zip vs) m x=some v
 | [],_,_,_,_,h,_,_=>by simp at h
 | _::_,[],_,_,_,_,h,_=>by simp at h
 | p::P,w::vs,0,m,nd,h1,h2,hk=>by
  simp at h1 h2;subst h1;subst h2
  show bindC kindOf ((p,w)::P.zip vs) m p=_
  unfold bindC
  rw[zlN λv hv=>(List.nodup_cons.mp nd).1 (List.of_mem_zip hv).1,if_neg hk]
  simp
 | p::P,w::vs,i+1,m,nd,h1,h2,hk=>by
  show bindC kindOf ((p,w)::P.zip vs) m x=_
  unfold bindC
  exact zlQ (i:=i) (List.nodup_cons.mp nd).2 (by simpa using h1) (by simpa using h2) hk
def start(N:List Str)(vs:List V):St:=vs.map some++List.replicate (N.length - vs.length) none
def zxJ(CX:CXT)(P:Program)(w:World)(K:ψa)(mg:Str→Option Value)(base:Heap)(N:List Str)(qual:Str)(scope:Scope)(f:Addr)(cd:Value)(A:Around)(outer:List Env)(s:Shared)(H:Hp)(E:XK):Cx where
 prog:=P
 w:=w
 K:=K
 mg:=mg
 base:=base
 A:=A.deeper (envOfC qual scope s.heap.objs.size f cd)
 N:=N
 s₀:=s
 H₀:=H
 env:=envOfC qual scope s.heap.objs.size f cd
 outer:=outer
 stack:=envOfC qual scope s.heap.objs.size f cd::outer
 ex:=[]
 calm:=true
 fn:=λ_=>true
 pn:=[]
 xe:=λe s'=>wpAny (model P w) (A.deeper (envOfC qual scope s.heap.objs.size f cd)) (leaving (envOfC qual scope s.heap.objs.size f cd) e) (λ_ s''=>CX outer H s E e s'') (λe' s''=>CX outer H s E e' s'') s'
theorem ziA{sc:Scope}{n:Nat}{x:Str}(h:sc.names.lookup x=some .cell):∃c,(cellsFrom n sc.names []).lookup x=some c:=by
 have q:=PySem.W.cellsFrom_some sc.names n [] (.inl h)
 exact Option.isSome_iff_exists.mp q
theorem zqT{CX:CXT}{P:Program}{w:World}{K:ψa}{mg:Str→Option Value}{base:Heap}{N ps:List Str}{qual:Str}{scope:Scope}{f:Addr}{cd:Value}{A:Around}{outer:List Env}{s s1:Shared}{H:Hp}{E:XK}{us:List Value}{vs:List V}
  (S:zay N ps scope) (hd:A.handled=none) (e0:Env0 P w K mg base A outer s H) (hl:vs.length=ps.length) (r:zcH vs us)
  (x:InCallC s s.heap.objs.size (bindL (envOfC qual scope s.heap.objs.size f cd).kindOf (ps.zip us) λ_=>none) (cellsFrom (s.heap.objs.size+1) scope.names []) (bindC (envOfC qual scope s.heap.objs.size f cd).kindOf (ps.zip us) λ_=>none) s1) :
  Inv (zxJ CX P w K mg base N qual scope f cd A outer s H E) [] (start N vs) H s1:=by
 have hpl:ps.length≤N.length:=by have:=congrArg List.length S.pre;rw[ψL] at this;(first|lia|omega)
 obtain⟨h1,tk,rfl,hk⟩:=x.done
 have noA:∀b:Addr,b∉(zxJ CX P w K mg base N qual scope f cd A outer s H E).ex:=λb z=>absurd (show b∈([]:List Addr) from z) (by simp)
 refine⟨⟨e0.mod,S.kind,rfl,rfl,ψj _,λy z c h1 h2=>?_,λy hy=>?_,λy c _ h=>?_,λ_=>hd,Around.frames_deeper e0.frames,.inr ⟨rfl,rfl⟩,λb z=>absurd z (noA b),e0.bs,e0.bsz,λb _ _=>noA b,λb z=>absurd z (noA b),e0.funs,e0.frf⟩,
  rfl,e0.bare,Un.kept hk,⟨_,x.toInCall.ns,λi y v h1 h2 h3=>?_⟩,λy c h=>⟨_,x.cell y c h⟩,e0.hok.fresh (ψj _),λy c h=>?_,λp hp=>absurd (show p∈([]:List (Addr×Obj)) from hp) (by simp),e0.hok.kept hk,?_⟩
 ·exact name_of_addr x.apart (ψE h1) (ψE h2)
 ·have hy:scope.names.lookup y=some .cell∨scope.names.lookup y=some .free:=hy
  rcases hy with hy | hy
  ·exact ziA hy
  ·exact absurd rfl (S.nofree _ (ψE hy))
 ·exact Nat.le_of_lt (x.above y c (ψE h))
 ·have hi:i<vs.length:=by
   unfold start at h2
   by_cases hi:i<vs.length
   ·exact hi
   ·rw[ψa1 (by simpa using hi)] at h2
    rw[List.getElem?_replicate] at h2
    split at h2 <;> cases h2
  have ha:vs[i]?=some v:=by
   unfold start at h2
   rw[ψe1 (by simpa using hi),ψt] at h2
   cases e:vs[i]? with
   | none=>rw[e] at h2;cases h2
   | some a=>rw[e] at h2;cases h2;rfl
  obtain⟨u,hu,rv⟩:=r.get ha
  have hp:ps[i]?=some y:=by
   rw[← S.pre,List.getElem?_take_of_lt (by (first|lia|omega))];exact h1
  have ndP:ps.Nodup:=by rw[← S.pre];exact S.nd.sublist (List.take_sublist _ _)
  refine⟨u,rv,?_⟩
  rcases S.par y (ψN hp) with k | k
  ·exact .inl ⟨k,zmL ndP hp hu k⟩
  ·obtain⟨c,e⟩:=ziA (n:=s.heap.objs.size+1) k
   refine .inr ⟨.inl k,c,e,?_⟩
   have q:=x.cell y c e
   rw[zlQ ndP hp hu (by show scope.names.lookup y≠_;rw[k];decide)] at q
   exact q
 ·exact e0.hok.fresh (Nat.le_of_lt (x.above y c (ψE h)))
 ·unfold start
  show _=N.length
  rw[ψR,ψb,List.length_replicate]
  (first|lia|omega)
theorem fn_of{CX:CXT}{P:Program}{w:World}{K:ψa}{mg:Str→Option Value}{base:Heap}{k:Nat}{f:Addr}{name qual:Str}{params:Arguments}{body:List Stmt}{scope:Scope}{dV kV doc pm cdv ct oc:Value}{an od:Option Addr}
  {osl:Array (Option Value)} {N ps:List Str} {sp:Sp} (lk:K.lookup f=some ⟨oc,od,.func (PySem.W.fnOf name qual params body scope dV kV doc pm an cdv ct),osl⟩) (hcd:PySem.W.codeIn K cdv qual=true) (S:zay N ps scope)
  (len:∀vs H Q E,sp vs H Q E→vs.length=ps.length)
  (hbody:∀(A:Around) (outer:List Env) (s:Shared) (H:Hp) (vs:List V) (Q:VK) (E:XK),zll k (A.deeper (envOfC qual scope s.heap.objs.size f cdv))→sp vs H Q E →
   ∃t,PSs (zxJ CX P w K mg base N qual scope f cdv A outer s H E) body t∧t { nx:=λ_ H'=>Q .non H',rt:=Q } (start N vs) H) :
  zci P w K mg base CX (k+1) f (PySem.W.fnOf name qual params body scope dV kV doc pm an cdv ct) ps sp:=by
 refine⟨len,λA outer s H args us vs Q E hr e0 hb r hsp=>?_⟩
 have hl:=len _ _ _ _ hsp
 have KX:K.In s.heap:=e0.mod.kin.keeps λb o e=>(e0.bs b o e).1
 have lim:s.heap.NoLimit:=e0.mod.nolimit.keeps λb o e=>(e0.bs b o e).1
 have hkind:∀y∈ps.zip us,scope.names.lookup y.1=some .local∨(scope.names.lookup y.1=some .cell∧((cellsFrom (s.heap.objs.size+1) scope.names []).lookup y.1).isSome=true):=λ⟨n,v⟩ hy=>by
  rcases S.par n (List.of_mem_zip hy).1 with q | q
  ·exact .inl q
  ·exact .inr ⟨q,PySem.W.cellsFrom_some _ _ _ (.inl q)⟩
 refine codeAny_call_function hr.depth (KX _ _ lk) rfl S.co S.gen rfl (PySem.W.codeRec_of KX hcd) (hb _ _ _ _ ?_)
 refine wpAny_newFunctionEnv_cells S.kind hkind λenv he s1 x=>?_
 subst he
 refine⟨lim.keeps x.toInCall.keep,codeAny_func ?_⟩
 obtain⟨t,ht,hq⟩:=hbody A outer s H vs Q E (hr.deeper _) hsp
 have I:Inv (zxJ CX P w K mg base N qual scope f cdv A outer s H E) [] (start N vs) H s1:=zqT S hr.hd e0 hl r x
 refine wpAny_mono (ht [] s1 (start N vs) H _ I hq) (λfl s' hs=>?_) λe s' hs=>hs
 have fin:∀{σ':St} {H':Hp} {v:V} {u:Value},Inv (zxJ CX P w K mg base N qual scope f cdv A outer s H E) [] σ' H' s'→zdp v u→Q v H'→CE outer P w H s Q u s' :=
  fun {σ' H' v u} J rv q=>⟨v,H',J.os,J.bare,J.base,J.hok,rv,q⟩
 cases fl with
 | ret u =>
  obtain⟨v,σ',H',J,rv,q⟩:=hs
  exact fin J rv q
 | next =>
  obtain⟨σ',H',J,q⟩:=hs
  exact fin (v:=V.non) (u:=Value.none) J rfl q
 | brk =>
  obtain⟨_,_,_,q⟩:=hs
  exact False.elim q
 | cont =>
  obtain⟨_,_,_,q⟩:=hs
  exact False.elim q
end L2
namespace L2
open PySem PySem.Spec PyProof.Rows
section
variable {X:Cx} {x:Str} {p pos:Pos} {e:Expr} {es:List Expr} {t:TA} {id T:String} {r:List V→Hp→VK→Prop}
def tCB(r:List V→Hp→VK→Prop)(t:TA):TE:=λσ H Q=>t σ H λvs H1=>r vs H1 Q
theorem zap(hc:zio X (.builtin id) r)(hg:Gl X x)(hm:X.mg x=none)(hv:bootBuiltins x=some (.builtin id))(ha:PA X (e::es) t)(hn:x≠"__name__":=by decide)(hdb:(x == ("__debug__":Str))=false:=by decide)
  (he:starEach (e::es) X.env=(false,eval e X.env)::starEach es X.env:=by rfl) (hpl:(backTo pos (starEach es X.env)).any (·.1)=false:=by rfl):PE X (.Call (.Name x p) (e::es) [] pos) (tCB r t):=by
 intro pins s σ H Q I h
 refine wpAny_Call_Name_kw (zic I hg hm hv ?_ hn hdb)
 exact PyProof.Rows.callWith_builtin1 (thn (ha pos pins s σ H _ I h) λus s1 ⟨vs,H1,I1,r1,q1⟩=>hc pins s1 σ H1 vs us Q I1 r1 q1) he hpl
theorem zdn(hc:zio X (.type T) r)(hg:Gl X x)(hm:X.mg x=none)(hv:bootBuiltins x=some (.type T))(ha:PA X (e::es) t)(hn:x≠"__name__":=by decide)(hdb:(x == ("__debug__":Str))=false:=by decide)
  (he:starEach (e::es) X.env=(false,eval e X.env)::starEach es X.env:=by rfl) (hpl:(backTo pos (starEach es X.env)).any (·.1)=false:=by rfl):PE X (.Call (.Name x p) (e::es) [] pos) (tCB r t):=by
 intro pins s σ H Q I h
 refine wpAny_Call_Name_kw (zic I hg hm hv ?_ hn hdb)
 exact ψo1 (thn (ha pos pins s σ H _ I h) λus s1 ⟨vs,H1,I1,r1,q1⟩=>hc pins s1 σ H1 vs us Q I1 r1 q1) he hpl
end
end L2
namespace HT
open PySem PyProof.Rows
section
open PySem.SeqAt
open PySem.AutoSeq1 (wpAny_loadPart')
open PySem.MeetsSeq PySem.MeetsSeq2 PySem.MeetsSeq3
end
section
variable {prog:Program} {w:World} {A:Around} {E:Value→Shared→Prop} {s:Shared}
def sIx(n d:Nat):Option Int→Nat
 | none=>d
 | some v=>if v<0 then (v+(n:Int)).toNat else min v.toNat n
theorem zog(n d:Nat):sIx n d none=d:=rfl
theorem zrR(n d k:Nat):sIx n d (some (k:Int))=min k n:=by
 show(if (k:Int)<0 then ((k:Int)+(n:Int)).toNat else min (k:Int).toNat n)=min k n
 rw[if_neg (by (first|lia|omega)),Int.toNat_natCast]
end
end HT
namespace L2
open PySem PySem.Spec PyProof.Rows
abbrev TO:=St→Hp→(Option Int→Hp→Prop)→Prop
def PO(X:Cx)(e:Option Expr)(t:TO):Prop :=
 ∀(pins:List (Addr×Obj)) (s:Shared) (σ:St) (H:Hp) (Q:Option Int→Hp→Prop),Inv X pins σ H s→t σ H Q →
  wpAny (model X.prog X.w) X.A (evalPart e X.env) (λu s'=>∃o H',Inv X pins σ H' s'∧IsPart u o∧Q o H') X.xe s
def zkW:TO:=λ_ H Q=>Q none H
def zu6(t:TE):TO:=λσ H Q=>t σ H λx H1=>∃i,x=.int i∧Q (some i) H1
section
variable {X:Cx} {e:Expr} {te:TE} {lo hi:Option Expr} {tl th:TO} {pos p2:Pos}
theorem zrr:PO X none zkW:=by
 intro pins s σ H Q I h
 rw[evalPart_none]
 exact wpAny_pure ⟨none,H,I,.none,h⟩
theorem zqS(h:PE X e te):PO X (some e) (zu6 te):=by
 intro pins s σ H Q I hw
 rw[evalPart_some]
 refine thn (h pins s σ H _ I hw) λu s1 hQ'=>?_
 obtain⟨x,H1,I1,r1,q1⟩:=hQ'
 obtain⟨i,rfl,q⟩:=q1
 obtain⟨t,rfl⟩:=r1
 exact⟨some i,H1,I1,.int i t,q⟩
def SlR(X:Cx)(r:V→Option Int→Option Int→Hp→VK→Prop):Prop :=
 ∀(pins:List (Addr×Obj)) (s:Shared) (σ:St) (H:Hp) (x:V) (v vl vu:Value) (lo hi:Option Int) (sl:Addr) (Q:VK),Inv X pins σ H s→zdp x v→s.heap.IsSliceOf sl vl vu .none→IsPart vl lo→IsPart vu hi→r x lo hi H Q →
  ∃T id,typeLookup (.type T) "__getitem__"=pure (some (.builtin id))∧s.TypeIs v T∧wpAny (model X.prog X.w) X.A (getItem v (.ref sl)) (EP X pins σ Q) X.xe s
def tSl(r:V→Option Int→Option Int→Hp→VK→Prop)(te:TE)(tl th:TO):TE:=λσ H Q=>te σ H λx H1=>tl σ H1 λl H2=>th σ H2 λu H3=>r x l u H3 Q
theorem zpb{r:V→Option Int→Option Int→Hp→VK→Prop}(hr:SlR X r)(he:PE X e te)(hl:PO X lo tl)(hu:PO X hi th):PE X (.Subscript e (.Slice lo hi none p2) pos) (tSl r te tl th):=by
 intro pins s σ H Q I h
 refine Subscript_ (thn (he pins s σ H _ I h) λv s1 hQ'=>?_)
 obtain⟨x,H1,I1,r1,q1⟩:=hQ'
 refine wpAny_Slice (thn (hl pins s1 σ H1 _ I1 q1) λvl s2 ⟨l,H2,I2,pl,q2⟩=>thn (hu pins s2 σ H2 _ I2 q2) λvu s3 hQ'=>?_)
 obtain⟨u,H3,I3,pu,q3⟩:=hQ'
 rw[evalPart_none]
 refine wpAny_pure ?_
 have I4:Inv X pins σ H3 { s3 with heap:=s3.heap.push { cls:=.type "slice",data:=.fields #[vl,vu,.none] } }:=I3.kept (t':=s3.toks) λb ob q=>Heap.get?_push_of_some _ q
 obtain⟨T,id,hT,ht,hg⟩:=hr pins { s3 with heap:=s3.heap.push { cls:=.type "slice",data:=.fields #[vl,vu,.none] } } σ H3 x v vl vu l u s3.heap.objs.size Q I4 r1 (Heap.IsSliceOf.new ..) pl pu q3
 show wpAny (model X.prog X.w) X.A (subscriptTail e (.Slice lo hi none p2) v (.ref s3.heap.objs.size)) (EP X pins σ Q) X.xe { s3 with heap:=s3.heap.push { cls:=.type "slice",data:=.fields #[vl,vu,.none] } }
 exact tail_any (ops:=[.ref s3.heap.objs.size,v]) ht hT hg (by with_unfolding_all rfl)
def zpA(xs:List V)(lo hi:Option Int):List V:=(xs.drop (HT.sIx xs.length 0 lo)).take (HT.sIx xs.length xs.length hi - HT.sIx xs.length 0 lo)
theorem zmR(xs:List V)(lo hi:Option Int):(zpA xs lo hi).length≤xs.length:=by
 unfold zpA
 rw[ψL,List.length_drop]
 (first|lia|omega)
end
end L2
namespace L2
open PySem PySem.Spec PyProof.Rows
def ixN(n:Nat)(i:Int):Option Nat:=if 0≤i then (if i<n then some i.toNat else none) else if -(n:Int)≤i then some (i+n).toNat else none
def atI{α:Type}(xs:List α)(i:Int):Option α:=(ixN xs.length i).bind λj=>xs[j]?
theorem zs0{n:Nat}{i:Int}{j:Nat}(h:ixN n i=some j):seqIndex? i n=some j∧j<n∧-(n:Int)≤i∧i<n:=by
 unfold ixN at h
 by_cases h0:0≤i
 ·rw[if_pos h0] at h
  by_cases h1:i<n
  ·rw[if_pos h1] at h
   have e:i.toNat=j:=Option.some.inj h
   exact⟨by rw[seqIndex_of h0 h1,e],by (first|lia|omega),by (first|lia|omega),h1⟩
  ·rw[if_neg h1] at h;cases h
 ·rw[if_neg h0] at h
  by_cases h1:-(n:Int)≤i
  ·rw[if_pos h1] at h
   have e:(i+n).toNat=j:=Option.some.inj h
   exact⟨by rw[seqIndex_neg (by (first|lia|omega)) h1,e],by (first|lia|omega),h1,by (first|lia|omega)⟩
  ·rw[if_neg h1] at h;cases h
theorem zrq{α:Type}{xs:List α}{i:Int}{v:α}(h:atI xs i=some v):∃j,seqIndex? i xs.length=some j∧xs[j]?=some v∧j<xs.length∧-(xs.length:Int)≤i∧i<xs.length:=by
 unfold atI at h
 cases e:ixN xs.length i with
 | none=>rw[e] at h;cases h
 | some j =>
  rw[e] at h
  obtain⟨h1,h2,h3,h4⟩:=zs0 e
  exact⟨j,h1,h,h2,h3,h4⟩
theorem zeG{α:Type}{xs:List α}{j:Nat}{v:α}(h:xs[j]?=some v):atI xs (j:Int)=some v:=by
 have hj:j<xs.length:=(List.getElem?_eq_some_iff.mp h).1
 have e:ixN xs.length (j:Int)=some j:=by
  unfold ixN
  rw[if_pos (by (first|lia|omega)),if_pos (by (first|lia|omega))];simp
 unfold atI;rw[e];exact h
theorem zt7{α:Type}(xs:List α)(v:α):atI (xs++[v]) (-1)=some v:=by
 have hl:(xs++[v]).length=xs.length+1:=by simp
 have e:ixN (xs++[v]).length (-1)=some xs.length:=by
  unfold ixN
  rw[hl,if_neg (by decide),if_pos (by (first|lia|omega))]
  congr 1
  (first|lia|omega)
 unfold atI
 rw[e]
 show(xs++[v])[xs.length]?=some v
 simp
def zwN(b:Expr):Prop:=∀o i,subscripted b false o i=operate [o,i] (getItem o i)
def IxR(X:Cx)(r:R2):Prop :=
 ∀(value slice:Expr) (pins:List (Addr×Obj)) (s:Shared) (σ:St) (H:Hp) (x y:V) (v u:Value) (Q:VK),Inv X pins σ H s→zdp x v→zdp y u→r x y H Q →
  subscripted slice false v u=operate [v,u] (getItem v u)→wpAny (model X.prog X.w) X.A (subscriptTail value slice v u) (EP X pins σ Q) X.xe s
def MtR(X:Cx)(id:String)(r:V→List V→Hp→VK→Prop):Prop :=
 ∀(pins:List (Addr×Obj)) (s:Shared) (σ:St) (H:Hp) (x:V) (xs:List V) (v:Value) (us:List Value) (Q:VK),Inv X pins σ H s→zdp x v→zcH xs us→r x xs H Q →
  wpAny (model X.prog X.w) X.A (call (.builtin id) (v::us)) (EP X pins σ Q) X.xe s
section
variable {X:Cx} {a b:Expr} {ta tb:TE} {pos:Pos}
theorem zax{r:R2}(hr:IxR X r)(ha:PE X a ta)(hb:PE X b tb)(hs:zwN b):PE X (.Subscript a b pos) (tOp r ta tb):=by
 intro pins s σ H Q I h
 exact Subscript_ (binT ha hb I h λv u s2 x y H2 I2 rx ry q=>hr a b pins s2 σ H2 x y v u Q I2 rx ry q (hs _ _))
def zhx(K:ψa):R2:=λx y H Q=>∃p xs i v,x=.ref p∧y=.int i∧SqL K H p xs∧atI xs i=some v∧Q v H
def zbB(K:ψa):R2:=λx y H Q=>∃p xs i v,x=.ref p∧y=.int i∧SqT K H p xs∧atI xs i=some v∧Q v H
theorem zbX:IxR X (zhx X.K):=by
 intro value slice pins s σ H x y v u Q I rx ry h hs
 obtain⟨p,xs,i,z,rfl,rfl,hq,he,q⟩:=h
 cases rx
 obtain⟨t,rfl⟩:=ry
 obtain⟨its,r,pl,hz⟩:=I.list hq
 obtain⟨j,h1,h2,h3,h4,h5⟩:=zrq he
 obtain⟨w,ew,rw'⟩:=r.get h2
 have hl:=r.length
 have hn:=zmg
 have fin:EP X pins σ Q w s:=⟨z,H,I,rw',q⟩
 by_cases h0:0≤i
 ·have hj:i.toNat=j:=by
   rw[seqIndex_of h0 h5] at h1
   exact Option.some.inj h1
  exact item_listR pl.isList h0 (by (first|lia|omega)) (by rw[hj];simpa using ew) fin hs
 ·have hj:(i+(its.toArray.size:Int)).toNat=j:=by
   rw[seqIndex_neg (by (first|lia|omega)) h4] at h1
   rw[ψg,← hl]
   exact Option.some.inj h1
  exact subscriptTail_builtinR (x:=w) pl.isList.typeIs slot_list_getitem.lookup
   (wpAny_getItem_list_neg (Q:=λr s'=>r=w∧EP X pins σ Q r s') pl.isList (by (first|lia|omega)) (by rw[ψg] <;> (first|lia|omega)) (by (first|lia|omega)) (by rw[hj];simpa using ew) ⟨rfl,fin⟩) hs
theorem zaq:IxR X (zbB X.K):=by
 intro value slice pins s σ H x y v u Q I rx ry h hs
 obtain⟨p,xs,i,z,rfl,rfl,hq,he,q⟩:=h
 cases rx
 obtain⟨t,rfl⟩:=ry
 obtain⟨its,r,pl,hz⟩:=I.tuple hq
 obtain⟨j,h1,h2,h3,h4,h5⟩:=zrq he
 obtain⟨w,ew,rw'⟩:=r.get h2
 have hl:=r.length
 have hn:=zmg
 have fin:EP X pins σ Q w s:=⟨z,H,I,rw',q⟩
 exact subscriptTail_builtinR (x:=w) pl.typeIs slot_tuple_getitem.lookup
  (getItem_tuple (j:=j) (Q:=λr s'=>r=w∧EP X pins σ Q r s') pl (by (first|lia|omega)) (by (first|lia|omega)) (by rw[ψg,← hl];exact h1) (by simpa using ew) ⟨rfl,fin⟩) hs
theorem zpt(its:List Value)(n j:Nat)(u:Value):Obj.mapSeq (·.setIfInBounds j u) { cls:=.type "list",data:=.seq its.toArray n }={ cls:=.type "list",data:=.seq (its.set j u).toArray n }:=by
 simp[Obj.mapSeq]
theorem Inv.lst{pins:List (Addr×Obj)}{σ:St}{H:Hp}{s:Shared}{p:Addr}{xs:List V}(I:Inv X pins σ H s)(h:H p=some (.lst xs)) :
  ∃(its:List Value) (n:Nat),zcH xs its∧s.heap.get? p=some { cls:=.type "list",data:=.seq its.toArray n }∧xs.length≤sizeLine:=by
 obtain⟨z,its,n,r,e⟩:=I.hok p _ h
 exact⟨its,n,r,e,z⟩
theorem Inv.lstUpd{pins:List (Addr×Obj)}{σ:St}{H:Hp}{s:Shared}{p:Addr}{xs ys:List V}{its its':List Value}{n n':Nat}{f:Obj→Obj}(I:Inv X pins σ H s)(h:H p=some (.lst xs))
  (ho:s.heap.get? p=some { cls:=.type "list",data:=.seq its.toArray n }) (hf:f { cls:=.type "list",data:=.seq its.toArray n }={ cls:=.type "list",data:=.seq its'.toArray n' }) (r:zcH ys its') (hz:ys.length≤sizeLine) (t:Nat) :
  Inv X pins σ (upd H p (.lst ys)) { s with heap:=s.heap.update p f,toks:=t }:=by
 have e:(s.heap.update p f).get? p=some { cls:=.type "list",data:=.seq its'.toArray n' }:=by
  rw[Heap.get?_update_self f ho (by rw[hf] <;> rfl),hf]
 refine I.write (x:=p) (e:=p) (by rw[h];trivial) (.inl rfl) (λb u hb q=>(Heap.get?_update_other _ _ (Ne.symm hb)).trans q) ⟨_,e⟩ ?_
 exact⟨hz,its',n',r,e⟩
def zuI:V→V→V→Hp→(Hp→Prop)→Prop:=λo i v H Q=>∃p xs k j,o=.ref p∧i=.int k∧H p=some (.lst xs)∧ixN xs.length k=some j∧Q (upd H p (.lst (xs.set j v)))
theorem zom:PSet X zuI:=by
 intro pins s σ H o i v ov iv u Q I ro ri rv h
 obtain⟨p,xs,k,j,rfl,rfl,hp,hj,q⟩:=h
 cases ro
 obtain⟨t,rfl⟩:=ri
 obtain⟨its,n,r,ho,hz⟩:=I.lst hp
 obtain⟨h1,h2,h3,h4⟩:=zs0 hj
 have hl:=r.length
 have hn:=zmg
 have I':Inv X pins σ (upd H p (.lst (xs.set j v))) { s with heap:=s.heap.update p (Obj.mapSeq (·.setIfInBounds j u)) } :=
  I.lstUpd hp ho (zpt its n j u) (r.set rv j) (by rw[List.length_set];exact hz) s.toks
 by_cases h0:0≤k
 ·have hk:k.toNat=j:=by
   rw[seqIndex_of h0 h4] at h1
   exact Option.some.inj h1
  exact PySem.W.ki_setAt ho h0 (by (first|lia|omega)) (by rw[ψg,← hl];exact h4) (by rw[hk];exact⟨_,I',q⟩)
 ·have hk:(k+(its.toArray.size:Int)).toNat=j:=by
   rw[seqIndex_neg (by (first|lia|omega)) h3] at h1
   rw[ψg,← hl]
   exact Option.some.inj h1
  exact PySem.W.ki_setBack ho (by (first|lia|omega)) (by rw[ψg,← hl];exact h3) (by (first|lia|omega)) (by rw[hk];exact⟨_,I',q⟩)
theorem zms(lo hi:Option Int)(n:Nat):(sliceBounds lo hi none n).1=((HT.sIx n 0 lo:Nat):Int)∧(sliceBounds lo hi none n).2.1=((HT.sIx n n hi:Nat):Int)∧(sliceBounds lo hi none n).2.2=1:=by
 refine⟨?_,?_,rfl⟩
 ·cases lo with
  | none=>simp[sliceBounds,HT.sIx]
  | some i =>
   simp only[sliceBounds,HT.sIx,Option.getD_none,show(1:Int) > 0 by decide,if_true]
   by_cases h:i<0
   ·simp only[h,if_true] <;> (first|lia|omega)
   ·simp only[h,if_false] <;> (first|lia|omega)
 ·cases hi with
  | none=>simp[sliceBounds,HT.sIx]
  | some i =>
   simp only[sliceBounds,HT.sIx,Option.getD_none,show(1:Int) > 0 by decide,if_true]
   by_cases h:i<0
   ·simp only[h,if_true] <;> (first|lia|omega)
   ·simp only[h,if_false] <;> (first|lia|omega)
theorem zkL(its:List Value)(lo hi:Option Int):slicePick its.toArray lo hi none=((its.drop (HT.sIx its.length 0 lo)).take (HT.sIx its.length its.length hi - HT.sIx its.length 0 lo)).toArray:=by
 obtain⟨h1,h2,h3⟩:=zms lo hi its.toArray.size
 unfold slicePick
 rw[h1,h2,h3]
 simp only[sliceRange_one,pick_run,ψg] <;> rfl
def rSlL(K:ψa):V→Option Int→Option Int→Hp→VK→Prop:=λx lo hi H Q=>∃a xs,x=.ref a∧SqL K H a xs∧∀p,H p=none→Q (.ref p) (upd H p (.lst (zpA xs lo hi)))
theorem zta:SlR X (rSlL X.K):=by
 intro pins s σ H x v vl vu lo hi sl Q I rx hs pl pu h
 obtain⟨a,xs,rfl,hx,q⟩:=h
 cases rx
 obtain⟨its,r,ht,hz⟩:=I.list hx
 have hlen:=r.length
 refine⟨"list",_,slot_list_getitem.lookup,ht.isList.typeIs,?_⟩
 refine wpAny_getItem_list_slice ht.isList hs pl pu .none (by simp) ?_ (by rw[ψg] <;> (first|lia|omega))
 rw[zkL,← hlen]
 refine⟨.ref s.heap.objs.size,_,I.laid (t':=s.toks) (o:=.lst (zpA xs lo hi)) (λb ob q=>Heap.get?_push_of_some _ q) (ψj _) ?_,rfl,q _ (I.hok.fresh (ψj _))⟩
 exact⟨ψb1 (zmR xs lo hi) hz,_,0,(r.drop (HT.sIx xs.length 0 lo)).take (HT.sIx xs.length xs.length hi - HT.sIx xs.length 0 lo),Heap.get?_push_size _ rfl⟩
def zkt:V→Bool
 | .non=>true
 | .bl _=>true
 | .int _=>true
 | .str _=>true
 | _=>false
def eqV:V→V→Bool
 | .non,.non=>true
 | .bl a,.bl b=>a == b
 | .bl a,.int b=>(if a then 1 else 0) == b
 | .int a,.bl b=>a == (if b then 1 else 0)
 | .int a,.int b=>a == b
 | .str a,.str b=>a == b
 | _,_=>false
theorem zxS{A:Around}{s:Shared}{y x:V}{u v:Value}(ry:zdp y u)(rx:zdp x v)(fy:zkt y=true)(fx:zkt x=true):SeqAt.EqAt A s u v (eqV y x):=by
 cases y with
 | non =>
  cases ry
  cases x with
  | non=>cases rx;exact SeqAt.EqAt.same _
  | bl b=>cases rx;exact SeqAt.EqAt.none_bool b
  | int b=>obtain⟨t,rfl⟩:=rx;exact SeqAt.EqAt.none_int b t
  | str b=>obtain⟨t,rfl⟩:=rx;exact SeqAt.EqAt.none_str b t
  | _=>exact absurd (show false=true from fx) ψv
 | bl a =>
  cases ry
  cases x with
  | non=>cases rx;exact SeqAt.EqAt.bool_none a
  | bl b=>cases rx;exact SeqAt.EqAt.bool_bool a b
  | int b=>obtain⟨t,rfl⟩:=rx;exact SeqAt.EqAt.bool_int a b t
  | str b=>obtain⟨t,rfl⟩:=rx;exact SeqAt.EqAt.bool_str a b t
  | _=>exact absurd (show false=true from fx) ψv
 | int a =>
  obtain⟨t',rfl⟩:=ry
  cases x with
  | non=>cases rx;exact SeqAt.EqAt.int_none a t'
  | bl b=>cases rx;exact SeqAt.EqAt.int_bool a t' b
  | int b=>obtain⟨t,rfl⟩:=rx;exact SeqAt.EqAt.int_int a t' b t
  | str b=>obtain⟨t,rfl⟩:=rx;exact SeqAt.EqAt.int_str a t' b t
  | _=>exact absurd (show false=true from fx) ψv
 | str a =>
  obtain⟨t',rfl⟩:=ry
  cases x with
  | non=>cases rx;exact SeqAt.EqAt.str_none a t'
  | bl b=>cases rx;exact SeqAt.EqAt.str_bool a t' b
  | int b=>obtain⟨t,rfl⟩:=rx;exact SeqAt.EqAt.str_int a t' b t
  | str b=>obtain⟨t,rfl⟩:=rx;exact SeqAt.EqAt.str_str a t' b t
  | _=>exact absurd (show false=true from fx) ψv
 | _=>exact absurd (show false=true from fy) ψv
def eqU(x:V)(u:Value):Bool:=match u with
 | .none=>eqV .non x
 | .bool b=>eqV (.bl b) x
 | .int i _=>eqV (.int i) x
 | .str z _=>eqV (.str z) x
 | _=>false
theorem zvn{x y:V}{u:Value}(r:zdp y u)(f:zkt y=true):eqU x u=eqV y x:=by
 cases y with
 | non=>cases r;rfl
 | bl b=>cases r;rfl
 | int i=>obtain⟨t,rfl⟩:=r;rfl
 | str z=>obtain⟨t,rfl⟩:=r;rfl
 | _=>exact absurd (show false=true from f) ψv
theorem zn4{x:V}:∀{xs:List V} {us:List Value},zcH xs us→xs.all zkt=true→us.any (eqU x)=xs.any λy=>eqV y x
 | _,_,.nil,_=>rfl
 | y::xs,u::us,.cons r t,f=>by
  rw[List.all_cons,ψQ] at f
  rw[List.any_cons,List.any_cons,zvn r f.1,zn4 t f.2]
theorem zlg{A:Around}{s:Shared}{x:V}{v:Value}(rx:zdp x v)(fx:zkt x=true):∀{xs:List V} {us:List Value},zcH xs us→xs.all zkt=true→∀u∈us,SeqAt.EqAt A s u v (eqU x u)
 | _,_,.nil,_=>λu hu=>by cases hu
 | y::xs,u::us,.cons r t,f=>λu' hu=>by
  rw[List.all_cons,ψQ] at f
  rcases List.mem_cons.mp hu with rfl | hu
  ·rw[zvn r f.1];exact zxS r rx f.1 fx
  ·exact zlg rx fx t f.2 u' hu
def inV(x:V)(xs:List V):Bool:=xs.any λy=>eqV y x
def rIn(K:ψa)(neg:Bool):R2:=λx y H Q=>∃p xs,y=.ref p∧(SqL K H p xs∨SqT K H p xs)∧zkt x=true∧xs.all zkt=true∧Q (.bl (if neg then !inV x xs else inV x xs)) H
theorem zlC:OpR X (compareOp .In) (rIn X.K false):=by
 intro pins s σ H x y v u Q I rx ry h
 obtain⟨p,xs,rfl,hq,fx,fs,q⟩:=h
 cases ry
 rcases hq with hq | hq
 ·obtain⟨its,r,pl,hz⟩:=I.list hq
  refine SeqAt.in_listAt (eqU x) pl.isList (λw hw=>zlg rx fx r fs w (by simpa using hw)) ⟨.bl _,H,I,rfl,?_⟩
  rw[show its.toArray.any (eqU x)=its.any (eqU x) by simp,zn4 r fs]
  exact q
 ·obtain⟨its,r,pl,hz⟩:=I.tuple hq
  refine SeqAt.in_tupleAt (eqU x) pl (λw hw=>zlg rx fx r fs w (by simpa using hw)) ⟨.bl _,H,I,rfl,?_⟩
  rw[show its.toArray.any (eqU x)=its.any (eqU x) by simp,zn4 r fs]
  exact q
theorem zar:zio X (.builtin "len") (λxs H Q=>∃p ys,xs=[.ref p]∧(SqL X.K H p ys∨SqT X.K H p ys)∧Q (.int ys.length) H):=by
 intro pins s σ H xs us Q I r h
 obtain⟨p,ys,rfl,hq,q⟩:=h
 obtain⟨u,rfl,rx⟩:=zmQ r
 cases rx
 have hn:=zmg
 rcases hq with hq | hq
 ·obtain⟨its,r',pl,hz⟩:=I.list hq
  have hlen:=r'.length
  exact Calls.call_len_list pl.isList (by simp only[ψg] <;> (first|lia|omega)) ⟨.int ys.length,H,I.tok _,⟨s.toks+1,by rw[ψg,hlen]⟩,q⟩
 ·obtain⟨its,r',pl,hz⟩:=I.tuple hq
  have hlen:=r'.length
  exact len_tuple pl (by simp only[ψg] <;> (first|lia|omega)) ⟨.int ys.length,H,I.tok _,⟨s.toks+1,by rw[ψg,hlen]⟩,q⟩
theorem zcF:zio X (.type "list") (λxs H Q=>∃p ys,xs=[.ref p]∧(SqL X.K H p ys∨SqT X.K H p ys)∧∀l,H l=none→Q (.ref l) (upd H l (.lst ys))):=by
 intro pins s σ H xs us Q I r h
 obtain⟨p,ys,rfl,hq,q⟩:=h
 obtain⟨u,rfl,rx⟩:=zmQ r
 cases rx
 have fin:∀(its:List Value),zcH ys its→ys.length≤sizeLine→∀(h':Heap) (c':Nat),(∀b o',s.heap.get? b=some o'→h'.get? b=some o') →
   h'.get? s.heap.objs.size=some { cls:=.type "list",dict:=none,data:=.seq its.toArray c',slots:=#[] }→EP X pins σ Q (.ref s.heap.objs.size) { s with heap:=h' }:=λits r' hz h' c' kp e =>
  ⟨.ref s.heap.objs.size,_,I.laid (t':=s.toks) kp (ψj _) (show zdU X.prog X.w _ h' _ (.lst ys) from⟨hz,its,c',r',e⟩),rfl,q _ (I.hok.fresh (ψj _))⟩
 rcases hq with hq | hq
 ·obtain⟨its,r',pl,hz⟩:=I.list hq
  have hlen:=r'.length
  obtain⟨o,ho,hc,n,hd⟩:=pl.isList
  exact call_list_seq p (.inl rfl) ho hc hd (λh' c' kp e=>fin its r' hz h' c' kp e) (by simp only[ψg] <;> (first|lia|omega))
 ·obtain⟨its,r',pl,hz⟩:=I.tuple hq
  have hlen:=r'.length
  obtain⟨o,ho,hc,n,hd⟩:=pl
  exact call_list_seq p (.inr rfl) ho hc hd (λh' c' kp e=>fin its r' hz h' c' kp e) (by simp only[ψg] <;> (first|lia|omega))
theorem zk7:zio X (.type "tuple") (λxs H Q=>∃p ys,xs=[.ref p]∧((SqL X.K H p ys∧∀l,H l=none→Q (.ref l) (upd H l (.tup ys)))∨(SqT X.K H p ys∧Q (.ref p) H))):=by
 intro pins s σ H xs us Q I r h
 obtain⟨p,ys,rfl,h⟩:=h
 obtain⟨u,rfl,rx⟩:=zmQ r
 cases rx
 rcases h with ⟨hq,q⟩ | ⟨hq,q⟩
 ·obtain⟨its,r',pl,hz⟩:=I.list hq
  have hlen:=r'.length
  refine call_tuple_list pl.isList (λh' kp=>?_) (by simp only[ψg] <;> (first|lia|omega))
  have I1:Inv X pins σ H { s with heap:=h' }:=I.kept (t':=s.toks) kp
  have I2:Inv X pins σ (upd H h'.objs.size (.tup ys)) { s with heap:=h'.push { cls:=.type "tuple",data:=.seq its.toArray } } :=
   I1.laid (t':=s.toks) (λb o e=>Heap.get?_push_of_some _ e) (ψj _) (show zdU X.prog X.w _ _ _ (.tup ys) from⟨hz,its,r',IsTup.new _ _⟩)
  exact⟨.ref h'.objs.size,_,I2,rfl,q _ (I1.hok.fresh (ψj _))⟩
 ·obtain⟨its,r',pl,hz⟩:=I.tuple hq
  exact call_tuple_same pl ⟨.ref p,H,I,rfl,q⟩
def tyV(K:ψa)(T:String)(x:V)(H:Hp):Prop:=match x with
 | .str _=>T="str"
 | .int _=>T="int"
 | .ref p=>(T="list"∧∃xs,SqL K H p xs)∨(T="tuple"∧∃o,K.lookup p=some o∧o.cls=.type "tuple"∧o.dict=none) ∨
   (T="dict"∧((∃kvs,H p=some (.dK kvs))∨∃kvs,H p=some (.dT kvs)))∨(T="set"∧∃S n,H p=some (.set S n))
 | _=>False
theorem zyv{pins:List (Addr×Obj)}{σ:St}{H:Hp}{s:Shared}{T:String}{x:V}{v:Value}(I:Inv X pins σ H s)(r:zdp x v)(ty:tyV X.K T x H) :
  s.TypeIs v T∧∀a,v=.ref a→∃ob,s.heap.get? a=some ob∧ob.dict=none:=by
 cases x with
 | str z =>
  obtain⟨t,rfl⟩:=r
  cases (show T="str" from ty)
  exact⟨typeIs_str s z t,λ_ e=>nomatch e⟩
 | int i =>
  obtain⟨t,rfl⟩:=r
  cases (show T="int" from ty)
  exact⟨typeIs_int s i t,λ_ e=>nomatch e⟩
 | ref p =>
  cases r
  rcases ty with ⟨rfl,xs,hq⟩ | ⟨rfl,o,hk,hc,hd⟩ | ⟨rfl,hk⟩ | ⟨rfl,S,n,hk⟩
  ·obtain⟨its,_,pl,_⟩:=I.list hq
   refine⟨pl.isList.typeIs,λa e=>?_⟩
   cases e
   obtain⟨o,n,e,c,hd,_⟩:=pl
   exact⟨o,e,hd⟩
  ·refine⟨⟨o,I.kIn p o hk,hc⟩,λa e=>?_⟩
   cases e
   exact⟨o,I.kIn _ o hk,hd⟩
  ·have z:∃o,s.heap.get? p=some o∧o.ExactDict:=by
    rcases hk with ⟨kvs,hk⟩ | ⟨kvs,hk⟩
    ·obtain⟨_,_,_,_,o,_,_,e,ex,_⟩:=I.hok p _ hk
     exact⟨o,e,ex⟩
    ·obtain⟨_,_,_,_,o,_,_,e,ex,_⟩:=I.hok p _ hk
     exact⟨o,e,ex⟩
   obtain⟨o,e,ex⟩:=z
   refine⟨⟨o,e,ex.1⟩,λa e2=>?_⟩
   cases e2
   exact⟨o,e,ex.2.1⟩
  ·obtain⟨o,_,_,_,e,ex,_⟩:=I.hok p _ hk
   refine⟨⟨o,e,ex.1⟩,λa e2=>?_⟩
   cases e2
   exact⟨o,e,ex.2.1⟩
 | _=>exact False.elim ty
def tBM(K:ψa)(T:String)(r:V→List V→Hp→VK→Prop)(to:TE)(t:TA):TE:=λσ H Q=>to σ H λx H1=>tyV K T x H1∧t σ H1 λxs H2=>r x xs H2 Q
variable {o e:Expr} {es:List Expr} {to:TE} {t:TA} {name:Str} {apos cpos:Pos} {T id:String} {r:V→List V→Hp→VK→Prop}
theorem znk(pa:PlainAttrs T)(slot:Slot T name id)(hty:typeOf (.builtin id)=pure (.type "method_descriptor"))(hm:MtR X id r)(ho:PE X o to)(ha:PA X (e::es) t)
  (hbase:attributeBase o name X.env (eval o X.env)=eval o X.env:=by rfl)
  (hfew:((backTo cpos (starEach (e::es) X.env)).all (λx=>!x.1)&&(backToKw cpos (keywordEach [] X.env)).all (λx=>x.1.isSome)
   && decide ((e::es).length+([]:List Keyword).length+(if ([]:List Keyword).isEmpty then 0 else 1)<30))=true:=by rfl)
  (hline:(apos.endLine == cpos.line)=true:=by rfl) (hs:starEach (e::es) X.env=(false,eval e X.env)::starEach es X.env:=by rfl) (hplain:(backTo cpos (starEach es X.env)).any (·.1)=false:=by rfl) :
  PE X (.Call (.Attribute o name apos) (e::es) [] cpos) (tBM X.K T r to t):=by
 intro pins s σ H Q I h
 refine wpAny_Call_method_late hbase hfew hline rfl (thn (ho pins s σ H _ I h) λv s1 hQ'=>?_)
 obtain⟨x,H1,I1,r1,ty,q1⟩:=hQ'
 obtain⟨h1,h2⟩:=zyv I1 r1 ty
 refine⟨T,id,pa,slot,hty,h1,h2,?_⟩
 have hA:=ha cpos pins s1 σ H1 _ I1 q1
 rw[hs] at hA ⊢
 refine Calls.callWith_builtin (by show(false || (backTo cpos (starEach es X.env)).any (·.1))=false;rw[hplain] <;> rfl) (Calls.evalArgs_plain ?_)
 exact thn hA λus s2 ⟨vs,H2,I2,r2,q2⟩=>hm pins s2 σ H2 x vs v us Q I2 r1 r2 q2
end
end L2
namespace L2
open PySem PySem.Spec PyProof.Rows
def MtM(X:Cx)(id:String)(r:V→List V→Hp→VK→Prop):Prop :=
 ∀(pins:List (Addr×Obj)) (s:Shared) (σ:St) (H:Hp) (x:V) (xs:List V) (v:Value) (us:List Value) (Q:VK),Inv X pins σ H s→zdp x v→zcH xs us→r x xs H Q →
  wpAny (model X.prog X.w) X.A (call (.builtin id) (v::us)) (EP X pins σ Q) X.xe s
theorem zcH.one:∀{x:V} {us:List Value},zcH [x] us→∃u,us=[u]∧zdp x u
 | _,_,.cons r .nil=>⟨_,rfl,r⟩
section
variable {X:Cx} {pins:List (Addr×Obj)} {σ:St} {H:Hp} {s:Shared} {l b:Addr} {xs ys zs:List V}
theorem Inv.lset{its its':List Value}{n:Nat}{f:Array Value→Array Value}{t':Nat}(I:Inv X pins σ H s)(hH:H l=some (.lst xs))
  (e:s.heap.get? l=some { cls:=.type "list",data:=.seq its.toArray n }) (hf:f its.toArray=its'.toArray) (hv:zcH ys its') (hz:ys.length≤sizeLine) :
  Inv X pins σ (upd H l (.lst ys)) { s with heap:=s.heap.update l (Obj.mapSeq f),toks:=t' }:=by
 have q:=PySem.IsL.update e f
 rw[hf] at q
 refine I.write (x:=l) (e:=l) (by rw[hH];exact trivial) (.inl rfl) (λb' u hb hu=>(Heap.get?_update_other s.heap (Obj.mapSeq f) (Ne.symm hb)).trans hu) ⟨_,q⟩ ?_
 exact⟨hz,its',_,hv,q⟩
theorem Inv.lnew{its:List Value}{t':Nat}(I:Inv X pins σ H s)(hv:zcH ys its)(hz:ys.length≤sizeLine) :
  Inv X pins σ (upd H s.heap.objs.size (.lst ys)) { s with heap:=s.heap.push { cls:=.type "list",data:=.seq its.toArray },toks:=t' } :=
 I.laid (λ_ _ q=>Heap.get?_push_of_some _ q) (ψj _) ⟨hz,its,0,hv,Heap.get?_push_size _ rfl⟩
theorem Inv.fresh(I:Inv X pins σ H s):H s.heap.objs.size=none:=I.hok.fresh (ψj _)
theorem Inv.lstM(I:Inv X pins σ H s)(hH:H l=some (.lst xs)):xs.length≤sizeLine∧∃(its:List Value) (n:Nat),zcH xs its∧xs.length=its.length∧s.heap.get? l=some { cls:=.type "list",data:=.seq its.toArray n }:=by
 obtain⟨z,its,n,r,e⟩:=I.hok l _ hH
 exact⟨z,its,n,r,r.length,e⟩
end
section
variable {X:Cx}
def zb8:V→List V→Hp→VK→Prop:=λx vs H Q=>∃l xs y,x=.ref l∧vs=[y]∧H l=some (.lst xs)∧xs.length<sizeLine∧Q .non (upd H l (.lst (xs++[y])))
theorem zdj:MtM X "list.append" zb8:=by
 intro pins s σ H x vs v us Q I rx rv h
 obtain⟨l,xs,y,rfl,rfl,hH,hz,q⟩:=h
 cases rx
 obtain⟨u,rfl,ru⟩:=rv.one
 obtain⟨z,its,n,r,hl,e⟩:=I.lstM hH
 refine call_meets F.slot_list_append ⟨_,e,rfl⟩ F.entry_list_append (F.args_list_append_2 _ _) (PySem.list_append l its.toArray n u (by rw[ψg];(first|lia|omega))) ⟨e,?_⟩
 refine⟨.non,_,I.lset (its':=its++[u]) hH e (by simp) (r.append (.cons ru .nil)) ?_,rfl,q⟩
 rw[ψR,List.length_singleton]
 (first|lia|omega)
def zxI:R2:=λx y H Q=>∃l b xs zs,x=.ref l∧y=.ref b∧H l=some (.lst xs)∧H b=some (.lst zs)∧xs.length+zs.length≤sizeLine∧∀p,H p=none→Q (.ref p) (upd H p (.lst (xs++zs)))
theorem zoT:OpR X (binaryOp .Add) zxI:=by
 intro pins s σ H x y v u Q I rx ry h
 obtain⟨l,b,xs,zs,rfl,rfl,hH,hB,hz,q⟩:=h
 cases rx
 cases ry
 obtain⟨z,its,n,r,hl,e⟩:=I.lstM hH
 obtain⟨z2,its2,n2,r2,hl2,e2⟩:=I.lstM hB
 refine PySem.P.add_list e e2 ?_ (by rw[ψg,ψg];(first|lia|omega))
 have ea:its.toArray++its2.toArray=(its++its2).toArray:=by simp
 rw[ea]
 exact⟨.ref _,_,I.lnew (t':=s.toks) (r.append r2) (by rw[ψR];(first|lia|omega)),rfl,q _ I.fresh⟩
end
section
variable {prog:Program} {w:World} {A:Around} {E:Value→Shared→Prop} {s:Shared}
end
section
variable {X:Cx}
end
end L2
namespace Att
open PySem PySem.W PySem.Calls PyProof.Rows
theorem zi0{P:Params}{h:Heap}:∀(ns:List Int) (vs:List Value),WellAll P h vs (ns.map WData.int)→IntsAre vs ns:=by
 intro ns
 induction ns with
 | nil =>
  intro vs w
  rw[ψm1] at w
  cases w
  exact .nil
 | cons n ns ih =>
  intro vs w
  rw[ψD] at w
  cases w with
  | cons a b =>
   cases a
   exact .cons _ _ (ih _ b)
theorem zqj{l:OpenLaw}{n:Nat}(hn:l.most=some n){P:Params}{h:Heap}{args:List WData}{vals:List Value}
  (hpre:l.row.toRowW.claim.pre args=true) (hwl:WellAll P h vals args) :
  ∃a vs ns,vals=[Value.ref a]∧args=[WData.list (ns.map WData.int)]∧h.get? a=some { cls:=.type "list",data:=.seq vs.toArray }∧IntsAre vs ns∧ns.length≤n:=by
 have hsh:WShape.hasAll [] args [.list .int]=true:=(pre_splitW hpre).1
 have hc:l.pre.holds [] { args:=args }=true:=(pre_splitW hpre).2
 obtain⟨d,r,rfl,h1,h2⟩:=hasAllW_cons hsh
 obtain rfl:=hasAllW_nil h2
 obtain⟨xs,rfl,h3⟩:=hasW_list h1
 obtain⟨ns,rfl⟩:=items_int h3
 have hlen:ns.length≤n:=by
  unfold OpenLaw.pre at hc
  have h4:(WTm.not (.lt (.lit (.int (n:Int))) (.len (.arg 0)))).holds [] { args:=[.list (ns.map .int)] }=true:=by
   have h4:=(holds_andW hc).1
   rw[hn] at h4
   exact h4
  have h5:=condW_of h4 (w_not (w_lt w_lit (w_len_list (w_arg rfl))))
  rw[ψb] at h5
  refine Nat.le_of_not_lt λq=>?_
  have q':(n:Int)<((ns.length:Nat):Int):=by (first|lia|omega)
  first
   | (rw[decide_eq_true q'] at h5;exact absurd h5 (by decide))
   | (simp at h5;(first|lia|omega))
 cases hwl with
 | cons w1 w2 =>
  cases w2
  cases w1 with
  | list ho hall=>exact⟨_,_,ns,rfl,rfl,ho,zi0 ns _ hall,hlen⟩
theorem zqZ(l:OpenLaw)(args:List WData):l.row.toRowW.claim.post args (.bool true) args=true :=
 postW_of (r:=l.row.toRowW) (X:=(true == true))
  (show WShape.has [] (.bool true) .bool=true by first | rfl | decide | simp[WShape.has,WShape.arms,WShape.armsAll])
  (show(WTm.eq .res (.lit (.bool true))).value [] { args:=args,res:=some (.bool true),after:=args }=some (.bool (true == true)) from w_eq_bool (w_res rfl) w_lit) rfl
section
variable {prog:Program} {w:World} {A:Around} {E:Value→Shared→Prop} {s:Shared} {K:Frag}
end
end Att
namespace L2
open PySem PySem.Spec PyProof.Rows
theorem zmy:∀{vs:List Value} {ns:List Int},IntsAre vs ns→zcH (ns.map V.int) vs
 | _,_,.nil=>.nil
 | _,_,.cons n t h=>.cons ⟨t,rfl⟩ (zmy h)
def Only(H:Hp):Prop:=∀b,H b=none∨∃o xs,H b=some (.frz o (.lst xs))
theorem ztx{P:Program}{w:World}{K:ψa}{mg mb:Str→Option Value}{CX:CXT}{k:Nat}{fa a:Addr}{fd:FuncData}{x:Str}{sp:Sp}{s₁:Shared}{vs:List Value}{ns:List Int}
  (KX:K.In s₁.heap) (hns:s₁.heap.Ns mainGlobals mg) (hb:s₁.heap.Ns builtinsNs mb) (hbb:∀x:Str,x≠"__name__"→mb x=bootBuiltins x) (hlim:s₁.heap.NoLimit) (hg:s₁.gens=#[])
  (ha:s₁.heap.get? a=some { cls:=.type "list",data:=.seq vs.toArray }) (hi:IntsAre vs ns) (hl:ns.length≤sizeLine) (hr:zll k callerA)
  (F:∀base:Heap,K.In base→base.Ns mainGlobals mg→zci P w K mg base CX k fa fd [x] sp) (hbind:∀(s:Shared) (u:Value),BindsTo s fd ⟨[u],[]⟩ [(x,u)])
  (hsp:∀H:Hp,Only H→SqL K H a (ns.map V.int)→sp [.ref a] H (λv _=>v=.bl true) λ_ _ _=>False)
  (hCX:∀H e s',CX [] H s₁ (λ_ _ _=>False) e s'→False) :
  codeAny (model P w) callerA (.call (.ref fa) ⟨[.ref a],[]⟩) (λr s'=>r=.ok (.ret (.bool true))∧OldK s₁.heap s'.heap∧s'.os=s₁.os∧AllBare s'.gens) s₁:=by
 have rv:=zmy hi
 have lenV:=hi.length
 have core:∀H:Hp,Only H→SqL K H a (ns.map V.int)→HOk P w H s₁.heap→(∀b,H b≠none→b=a)→(H a≠none→K.lookup a=none) →
   codeAny (model P w) callerA (.call (.ref fa) ⟨[.ref a],[]⟩) (λr s'=>r=.ok (.ret (.bool true))∧OldK s₁.heap s'.heap∧s'.os=s₁.os∧AllBare s'.gens) s₁:=by
  intro H hO hS hok hA hK
  have base_of:∀{b:Addr} {o:Obj},s₁.heap.get? b=some o→H b=none→(zuT s₁.heap H).get? b=some o:=λe n=>zuR e n
  have noA:∀{b:Addr} {o:Obj} {es:Array DictEntry} {ep:Nat},s₁.heap.get? b=some o→o.data=.dict es ep→H b=none:=fun {b o es ep} e d=>by
   cases q:H b with
   | none=>rfl
   | some u =>
    have e':b=a:=hA b (by rw[q];simp)
    subst e'
    rw[ha] at e;cases e
    have d':Data.seq vs.toArray _=Data.dict es ep:=d
    cases d'
  have nsK:∀{b:Addr} {m:Str→Option Value},s₁.heap.Ns b m→(zuT s₁.heap H).Ns b m:=fun {b m} ⟨o,es,ep,e,d,r⟩=>⟨o,es,ep,base_of e (noA e d),d,r⟩
  have hKb:K.In (zuT s₁.heap H):=λb o e=>base_of (KX b o e) (by
   cases q:H b with
   | none=>rfl
   | some u =>
    have e':b=a:=hA b (by rw[q];simp)
    subst e'
    rw[hK (by rw[q];simp)] at e;cases e)
  have hM:Mod K mg (zuT s₁.heap H):=⟨hKb,nsK hns,⟨mb,nsK hb,hbb⟩,let ⟨mc,h1,h2⟩:=hlim;⟨mc,nsK h1,h2⟩⟩
  have e0:Env0 P w K mg (zuT s₁.heap H) callerA [] s₁ H:=⟨rfl,hM,λb o e=>zwU e,Nat.le_of_eq (zqK _ _),trivial,λb hb=>absurd (show b∈([]:List Addr) from hb) (by simp),hok,.of_eq hg⟩
  refine codeAny_mono ((F _ hKb (nsK hns)).run callerA [] s₁ H ⟨[.ref a],[]⟩ [.ref a] [.ref a] _ _ hr e0 (hbind s₁ (.ref a)) (.cons rfl .nil) (hsp H hO hS)) λr s' h=>?_
  cases r with
  | error e=>exact(hCX H e s' h).elim
  | ok fl =>
   cases fl with
   | next=>exact False.elim h
   | brk=>exact False.elim h
   | cont=>exact False.elim h
   | ret u =>
    obtain⟨v,H',os,bare,un,hok',r',q⟩:=h
    have q':v=.bl true:=q
    subst q'
    obtain rfl:u=Value.bool true:=r'
    refine⟨rfl,OldK.of_keep λb o e=>?_,os,bare⟩
    cases q:H b with
    | none=>exact un.keep b o e q (by intro z;exact absurd (show b∈([]:List Addr) from z) (by simp)) (by simp)
    | some u =>
     rcases hO b with z | ⟨ob,xs,z⟩
     ·rw[q] at z;cases z
     ·have z2:=un.frzs b ob _ z
      obtain⟨e1,_⟩:=hok b _ z
      obtain⟨e2,_⟩:=hok' b _ z2
      rw[e] at e1;cases e1
      exact e2
 cases hk:K.lookup a with
 | some o =>
  have e:=KX a o hk
  rw[ha] at e
  cases e
  refine core (λ_=>none) (λ_=>.inl rfl) (.inr ⟨_,vs.toArray,_,hk,rfl,rfl,rfl,by rw[ψg,lenV];exact hl,by simpa using rv⟩) (λb u z=>by have z':(none:Option HO)=some u:=z;cases z') (λb z=>absurd rfl z) λz=>absurd rfl z
 | none =>
  refine core (λb=>if b=a then some (.frz { cls:=.type "list",data:=.seq vs.toArray } (.lst (ns.map V.int))) else none) (λb=>?_) (.inl (.inr ⟨{ cls:=.type "list",data:=.seq vs.toArray },if_pos rfl⟩)) (λb u z=>?_) (λb z=>?_) λ_=>hk
  ·by_cases hb:b=a
   ·exact .inr ⟨_,_,if_pos hb⟩
   ·exact .inl (if_neg hb)
  ·by_cases hb:b=a
   ·have z':=(if_pos hb).symm.trans z
    cases z'
    subst hb
    exact⟨ha,by rw[ψb];exact hl,vs,_,rv,ha⟩
   ·have z':=(if_neg hb).symm.trans z
    cases z'
  ·by_cases hb:b=a
   ·exact hb
   ·exact absurd (if_neg hb) z
end L2
namespace L2
open PySem PySem.Spec PyProof.Rows
end L2
namespace L2
open PySem PySem.Spec PyProof.Rows
def zlk(s:Stmt):Arguments:=match s with
 | .FunctionDef _ a _ _ _ _ _ _ _ _=>a
 | _=>{ posonlyargs:=[],args:=[],vararg:=none,kwonlyargs:=[],kw_defaults:=[],kwarg:=none,defaults:=[] }
def ziT(s:Stmt):List Stmt:=match s with
 | .FunctionDef _ _ b _ _ _ _ _ _ _=>b
 | _=>[]
def zag(s:Stmt):Scope:=match s with
 | .FunctionDef _ _ _ _ _ _ sc _ _ _=>sc
 | _=>{ kind:=.function,names:=[],isGenerator:=false,isCoroutine:=false }
abbrev CX0:CXT:=λ_ _ _ _ _ _=>False
abbrev E0:XK:=λ_ _ _=>False
theorem zaB{X:Cx}:zq4 CX0 X E0:=λ_ _ _ _ _ _ _ h=>h.elim
structure Fun (K:ψa) (x qual:Str) (st:Stmt) (f:Addr) (fd:FuncData):Prop where
 ex:∃(oc:Value) (od:Option Addr) (kV doc pm:Value) (an:Option Addr) (cdv ct:Value) (osl:Array (Option Value)),
  fd=PySem.W.fnOf x qual (zlk st) (ziT st) (zag st) .none kV doc pm an cdv ct∧K.lookup f=some ⟨oc,od,.func fd,osl⟩∧PySem.W.codeIn K cdv qual=true
 kp:PySem.W.keepIn K (.ref f)=true
section
variable {P:Program} {w:World} {K:ψa} {mg:Str→Option Value} {base:Heap}
theorem Fun.ok{x qual:Str}{st:Stmt}{f:Addr}{fd:FuncData}{N ps:List Str}{k:Nat}{sp:Sp}(F:Fun K x qual st f fd)(S:zay N ps (zag st))(len:∀vs H Q E,sp vs H Q E→vs.length=ps.length)
  (hbody:∀(cdv:Value) (A:Around) (outer:List Env) (s:Shared) (H:Hp) (vs:List V) (Q:VK) (E:XK),zll k (A.deeper (envOfC qual (zag st) s.heap.objs.size f cdv))→sp vs H Q E →
   ∃t,PSs (zxJ CX0 P w K mg base N qual (zag st) f cdv A outer s H E).nox (ziT st) t∧t { nx:=λ_ H'=>Q .non H',rt:=Q } (start N vs) H):zci P w K mg base CX0 (k+1) f fd ps sp:=by
 obtain⟨oc,od,kV,doc,pm,an,cdv,ct,osl,rfl,lk,hcd⟩:=F.ex
 refine fn_of lk hcd S len λA outer s H vs Q E hr hsp=>?_
 obtain⟨t,h,q⟩:=hbody cdv A outer s H vs Q E hr hsp
 exact⟨t,h.nox,q⟩
theorem Fun.binds{x qual:Str}{st:Stmt}{f:Addr}{fd:FuncData}{ps:List Str}(F:Fun K x qual st f fd)
  (h:∀(kV doc pm:Value) (an:Option Addr) (cdv ct:Value) (us:List Value),us.length=ps.length→bindArgs (PySem.W.fnOf x qual (zlk st) (ziT st) (zag st) .none kV doc pm an cdv ct) ⟨us,[]⟩=pure (ps.zip us)):zbq K fd ps []:=by
 obtain⟨oc,od,kV,doc,pm,an,cdv,ct,osl,rfl,lk,hcd⟩:=F.ex
 exact .all (h kV doc pm an cdv ct)
theorem zaW{x qual:Str}{st:Stmt}{f:Addr}{oc:Value}{od an:Option Addr}{osl:Array (Option Value)}{kV doc pm cdv ct:Value}(l:K.lookup f=some ⟨oc,od,.func (PySem.W.fnOf x qual (zlk st) (ziT st) (zag st) .none kV doc pm an cdv ct),osl⟩)
  (c:PySem.W.codeIn K cdv qual=true) (k:PySem.W.keepIn K (.ref f)=true):Fun K x qual st f (PySem.W.fnOf x qual (zlk st) (ziT st) (zag st) .none kV doc pm an cdv ct):=⟨⟨oc,od,kV,doc,pm,an,cdv,ct,osl,rfl,l,c⟩,k⟩
end
theorem zbe{n:Nat}(h:n≤1000):n<sizeLine:=ψx1 h (by decide)
section
variable {X:Cx}
theorem pv(i:Nat){x:Str}{pos:Pos}(hN:X.N[i]?=some x:=by rfl)(hv:Vis X.env.scope x:=by first | exact Or.inl rfl | exact Or.inr (Or.inl rfl) | exact Or.inr (Or.inr rfl))(hd:(x == ("__debug__":Str))=false:=by decide)
  (hcd:(x == ("__classdict__":Str))=false:=by decide):PE X (.Name x pos) (zac i):=zyq hN hv hd hcd
end
theorem iteF{A B:Prop}(h:B):if false=true then A else B:=by
 rw[if_neg ψv]
 exact h
theorem zp1{A B:Prop}(h:A):if true=true then A else B:=by
 rw[if_pos rfl]
 exact h
theorem zb5{c A B:Prop}[Decidable c](h1:c→A)(h2:¬ c→B):if c then A else B:=by
 by_cases h:c
 ·rw[if_pos h]
  exact h1 h
 ·rw[if_neg h]
  exact h2 h
def zaF(H H':Hp):Prop:=∀b o,H b=some o→H' b=some o
theorem zaF.refl(H:Hp):zaF H H:=λ_ _ h=>h
theorem zaF.trans{H H1 H2:Hp}(a:zaF H H1)(b:zaF H1 H2):zaF H H2:=λc o h=>b c o (a c o h)
theorem zaF.free{H H':Hp}(e:zaF H H'){l:Addr}(h:H' l=Option.none):H l=Option.none:=by
 cases q:H l with
 | none=>rfl
 | some o =>
  rw[e l o q] at h
  cases h
theorem zaF.seq{K:ψa}{H H':Hp}{a:Addr}{xs:List V}(e:zaF H H')(h:SqL K H a xs):SqL K H' a xs:=by
 rcases h with (h | ⟨o,h⟩) | h
 ·exact .inl (.inl (e _ _ h))
 ·exact .inl (.inr ⟨o,e _ _ h⟩)
 ·exact .inr h
end L2
namespace L2
open PySem PySem.Spec PyProof.Rows
section
variable {X:Cx}
theorem zt5:OpR X (binaryOp .FloorDiv) (rI (λ_ j=>0<j∧j.natAbs.log2<9000) λi j=>.int (i / j)):=opI λi j _ _ _ _ _ hc q=>by
 have h1:(0:Int)<j:=hc.1
 exact floordiv_int (by (first|lia|omega)) (by rw[ψW i (by (first|lia|omega))];exact q) (.inl (PyProof.noPylong_of_log2 hc.2))
theorem zdu:OpR X (binaryOp .FloorDiv) (rI (λ_ j=>j≠0∧j.natAbs.log2<9000) λi j=>.int (i.fdiv j)):=opI λ_ _ _ _ _ _ _ hc q=>floordiv_int hc.1 q (.inl (PyProof.noPylong_of_log2 hc.2))
theorem zhK:OpR X (binaryOp .Mod) (rI (λ_ j=>j≠0) λi j=>.int (i.fmod j)):=zvS
theorem zav:OpR X (binaryOp .Mult) (rI IntMulOk λi j=>.int (i*j)):=opI λ_ _ _ _ _ _ _ hc q=>mul_int q hc
theorem zoz{i j:Int}(h1:-(2 ^ 64)<j)(h2:j<2 ^ 64):IntMulOk i j:=.of_right (intBits_le_64 h1 h2)
theorem mulL{i j:Int}(h1:-(2 ^ 64)<i)(h2:i<2 ^ 64):IntMulOk i j:=.of_left (intBits_le_64 h1 h2)
theorem zde{i j:Int}(m n:Nat)(h1:i.natAbs<2 ^ m)(h2:j.natAbs<2 ^ n)(h:m+n≤134217728:=by decide):IntMulOk i j:=.of_le (intBits_le_iff.mpr h1) (intBits_le_iff.mpr h2) h
theorem zhf{j:Int}(m:Nat)(h0:j≠0)(h:j.natAbs<2 ^ m)(hm:m≤9000:=by decide):j.natAbs.log2<9000 :=
 ψr ((Nat.log2_lt (by (first|lia|omega))).mpr h) hm
theorem zkw:bootBuiltins "int"=some (.type "int"):=by decide +kernel
theorem zmD:bootBuiltins "bool"=some (.type "bool"):=by decide +kernel
theorem zbN:bootBuiltins "list"=some (.type "list"):=by decide +kernel
theorem zcf:bootBuiltins "tuple"=some (.type "tuple"):=by decide +kernel
theorem zl0(K:ψa):ψw1 K (.type "int") (.type "bool")=some false:=by first | rfl | kernel_rfl
def zzF(a:Addr)(c:Value)(h:Heap):Prop:=∃oe vs,h.get? a=some oe∧oe.cls=c∧oe.data=.fields vs
def excO(a:Addr)(c:Value):HO:=.ext (zzF a c)
structure zzy (K:ψa) (c:Value):Prop where
 kit:∀a:Addr,PySem.W.KitX K (.ref a) c (zzF a c)
inductive TyX (K:ψa) (H:Hp):V→Value→Prop where
 | of {x:V} {t:Value} (h:zpa K H x t):TyX K H x t
 | exc {a:Addr} {c:Value} (h:H a=some (excO a c)) (k:zzy K c):TyX K H (.ref a) c
def clsV:V→Option Value
 | .ty n=>some (.type n)
 | .ref c=>some (.ref c)
 | _=>none
def zhy(K:ψa):List V→Hp→VK→Prop:=λxs H Q=>∃x c t cv b,xs=[x,c]∧clsV c=some cv∧TyX K H x t∧ψw1 K t cv=some b∧Q (.bl b) H
theorem ziR{K:ψa}{H:Hp}{Q:VK}{i:Int}(q:Q (.bl true) H):zhy K [.int i,.ty "int"] H Q:=⟨_,_,_,_,true,rfl,rfl,.of (.int i),rfl,q⟩
theorem zh9{K:ψa}{H:Hp}{Q:VK}{i:Int}(q:Q (.bl false) H):zhy K [.int i,.ty "bool"] H Q:=⟨_,_,_,_,false,rfl,rfl,.of (.int i),zl0 K,q⟩
theorem zcq{K:ψa}{H:Hp}{Q:VK}{r:Addr}{xs:List V}(h:H r=some (.tup xs))(q:Q (.bl true) H):zhy K [.ref r,.ty "tuple"] H Q:=⟨_,_,_,_,true,rfl,rfl,.of (.tup h),rfl,q⟩
theorem zop{c:V}{u cv:Value}(r:zdp c u)(h:clsV c=some cv):u=cv:=by
 cases c with
 | ty n=>cases r;exact Option.some.inj h
 | ref a=>cases r;exact Option.some.inj h
 | _=>cases h
theorem za9:zio X (.builtin "isinstance") (zhy X.K):=by
 intro pins s σ H xs us Q I r h
 obtain⟨x,c,t,cv,b,rfl,hc,ty,e,q⟩:=h
 obtain⟨u,w',rfl,rx,rw'⟩:=ztn r
 obtain rfl:=zop rw' hc
 cases ty with
 | of ty=>exact zso I rx ty e λtk=>⟨.bl b,H,I.tok tk,rfl,q⟩
 | @exc a c h k =>
  cases (show u=Value.ref a from rx)
  obtain⟨p,_,_⟩:=(show zdU X.prog X.w H s.heap a (excO a t) from I.hok a _ h)
  exact ψc1 (k.kit a) I.kIn p e (λz=>nomatch z) λtk=>⟨.bl b,H,I.tok tk,rfl,q⟩
def rEqT(K:ψa):R2:=λx y H Q=>∃(a b:Addr) (ns ms:List Int),x=.ref a∧y=.ref b∧SqT K H a (ns.map V.int)∧SqT K H b (ms.map V.int)∧Q (.bl (decide (ns=ms))) H
theorem znq:∀{ns:List Int} {us:List Value},zcH (ns.map V.int) us→∀{j:Nat} (h:j<us.length),∃(h':j<ns.length) (t:Tok),us[j]=.int ns[j] t
 | [],_,.nil,j,h=>absurd h (ψD1 _)
 | n::ns,_,.cons r t,0,h=>by
  obtain⟨t',rfl⟩:=r
  exact⟨Nat.succ_pos _,t',rfl⟩
 | n::ns,_,.cons r t,j+1,h=>by
  obtain⟨h',t',e⟩:=znq t (j:=j) (Nat.lt_of_succ_lt_succ h)
  exact⟨Nat.succ_lt_succ h',t',e⟩
theorem zkc{l:List Int}{j:Nat}(h:j<l.length):l.getD j 0=l[j]:=by
 rw[ψx,ψc h]
 rfl
theorem zut{ns ms:List Int}:((ψs1 (min ns.length ms.length)).all (λj=>ns.getD j 0 == ms.getD j 0)&&ns.length == ms.length)=decide (ns=ms):=by
 by_cases h:ns=ms
 ·subst h
  rw[decide_eq_true rfl,ψQ]
  refine⟨List.all_eq_true.mpr λj _=>beq_self_eq_true _,beq_self_eq_true _⟩
 ·rw[decide_eq_false h]
  refine Bool.eq_false_iff.mpr λz=>h ?_
  obtain⟨z1,z2⟩:=(ψQ _ _).mp z
  have hl:ns.length=ms.length:=beq_iff_eq.mp z2
  refine List.ext_getElem hl λj h1 h2=>?_
  have q:=List.all_eq_true.mp z1 j (List.mem_range.mpr (by (first|lia|omega)))
  have q':ns.getD j 0=ms.getD j 0:=beq_iff_eq.mp q
  rw[zkc h1,zkc h2] at q'
  exact q'
theorem zqd{A:Around}{s:Shared}{ns ms:List Int}{us ws:List Value}(r1:zcH (ns.map V.int) us)(r2:zcH (ms.map V.int) ws) :
  ∀j (h1:j<us.toArray.size) (h2:j<ws.toArray.size),SeqAt.EqAt A s us.toArray[j] ws.toArray[j] (ns.getD j 0 == ms.getD j 0):=by
 intro j h1 h2
 rw[ψg] at h1 h2
 obtain⟨k1,t1,e1⟩:=znq r1 h1
 obtain⟨k2,t2,e2⟩:=znq r2 h2
 rw[List.getElem_toArray,List.getElem_toArray,e1,e2,zkc k1,zkc k2]
 exact SeqAt.EqAt.int_int _ _ _ _
theorem zye(hu:X.A.units<cLine):OpR X (compareOp .Eq) (rEqT X.K):=by
 intro pins s σ H x y v u Q I rx ry h
 obtain⟨a,b,ns,ms,rfl,rfl,ha,hb,q⟩:=h
 cases rx
 cases ry
 obtain⟨us,r1,p1,_⟩:=I.tuple ha
 obtain⟨ws,r2,p2,_⟩:=I.tuple hb
 have l1:=r1.length
 have l2:=r2.length
 rw[ψb] at l1 l2
 refine SeqAt.RcAt.tuples p1 p2 hu (e:=λj=>ns.getD j 0 == ms.getD j 0) (zqd r1 r2) X.prog X.w X.xe _ ⟨.bl _,H,I,rfl,?_⟩
 rw[ψg,ψg,← l1,← l2,zut]
 exact q
def tTru(K:ψa)(ta:TE):TT:=λσ H Q=>ta σ H λx H'=>∃k,zyI K x H' k∧Q k H'
def zeK(t:TS):TS:=λD σ H=>∃R:St→Hp→Prop,t { D with nx:=R } σ H∧∀σ' H',R σ' H'→D.nx σ' H'
theorem zbA{st:Stmt}{t:TS}(h:PS X st t):PS X st (zeK t):=by
 intro pins s σ H D I hw
 obtain⟨R,hw,hR⟩:=hw
 refine thn (h pins s σ H _ I hw) λf s' q=>?_
 cases f with
 | next=>obtain⟨σ',H',I',q⟩:=q;exact⟨σ',H',I',hR _ _ q⟩
 | brk=>exact q
 | cont=>exact q
 | ret u=>exact q
end
theorem zan{H:Hp}{p:Addr}(h:H p=none)(o:HO):zaF H (upd H p o):=λb u q=>by rw[zaM (zaG q h)];exact q
theorem zaF.add{H0 H:Hp}{p:Addr}{o:HO}(s:zaF H0 H)(h:H p=none):zaF H0 (upd H p o):=s.trans (zan h o)
theorem zaF.put{H0 H:Hp}{p:Addr}{o:HO}(s:zaF H0 H)(h:H0 p=none):zaF H0 (upd H p o):=λb u q=>by rw[zaM (zaG q h)];exact s _ _ q
theorem zuf{K:ψa}{i:Int}{H:Hp}{k:Bool}:zyI K (.int i) H k=(k=(i != 0)):=rfl
theorem zwV{K:ψa}{i:Bool}{H:Hp}{k:Bool}:zyI K (.bl i) H k=(k=i):=rfl
theorem ztV(a b:Int):scal (.int a) (.int b)=true:=rfl
theorem zwn(a b:Bool):scal (.bl a) (.bl b)=true:=rfl
def zpR(J:It)(g:TG)(tb:TS):TS:=λD σ H=>∃W:Nat→Nat→St→Hp→Prop,(∃m,W 0 m σ H)∧∀i m σ H,W i m σ H →
 (J.stop i H∧D.nx σ H)∨(J.go i H∧∃N:St→Hp→Prop,(∀σ' H',N σ' H'→∃m',m'<m∧W (i+1) m' σ' H')∧∀x H',J.yld i H x H'→g x σ H' λσ2 H2=>tb { D with nx:=N,ct:=N,bk:=D.nx } σ2 H2)
theorem zw5{wi:TI}{g:TG}{tb:TS}{D:zlp}{σ:St}{H:Hp}:zjW wi g tb D σ H=wi σ H λJ H1=>zpR J g tb D σ H1:=rfl
theorem zeU{lo:Int}{n:Nat}{g:TG}{tb:TS}{D:zlp}{σ:St}{H:Hp}(Pv:Nat→St→Hp→Prop)(h0:Pv 0 σ H)
  (hs:∀i σ H,i<n→Pv i σ H→g (.int (lo+i)) σ H λσ2 H2=>tb { D with nx:=Pv (i+1),ct:=Pv (i+1),bk:=D.nx } σ2 H2) (hd:∀σ H,Pv n σ H→D.nx σ H):zpR (Itr lo n) g tb D σ H:=zsx Pv h0 hs hd
theorem zc2{K:ψa}{a:Addr}{xs:List V}{g:TG}{tb:TS}{D:zlp}{σ:St}{H:Hp}(Pv:Nat→St→Hp→Prop)(h0:Pv 0 σ H)(hl:∀i σ H,i≤xs.length→Pv i σ H→SqL K H a xs)
  (hs:∀i x σ H,xs[i]?=some x→Pv i σ H→g x σ H λσ2 H2=>tb { D with nx:=Pv (i+1),ct:=Pv (i+1),bk:=D.nx } σ2 H2) (hd:∀σ H,Pv xs.length σ H→D.nx σ H):zpR (Itl K a) g tb D σ H:=zuK Pv h0 hl hs hd
theorem zuj{K:ψa}{a:Addr}{xs:List V}{g:TG}{tb:TS}{D:zlp}{σ:St}{H:Hp}(Pv:Nat→St→Hp→Prop)(h0:Pv 0 σ H)(hl:∀i σ H,i≤xs.length→Pv i σ H→SqT K H a xs)
  (hs:∀i x σ H,xs[i]?=some x→Pv i σ H→g x σ H λσ2 H2=>tb { D with nx:=Pv (i+1),ct:=Pv (i+1),bk:=D.nx } σ2 H2) (hd:∀σ H,Pv xs.length σ H→D.nx σ H):zpR (Itt K a) g tb D σ H:=zwM Pv h0 hl hs hd
end L2
namespace L2
open PySem PySem.Spec PyProof.Rows
section
variable {P:Program} {w:World}
end
section
variable {P:Program} {w:World} {K:ψa} {mg:Str→Option Value} {base:Heap} {N:List Str} {qual:Str} {scope:Scope} {f:Addr} {cd:Value} {A:Around} {outer:List Env} {s₀:Shared} {H₀:Hp} {E:XK}
end
section
variable {P:Program} {w:World} {K:ψa} {mg:Str→Option Value} {base:Heap} {N:List Str} {qual:Str} {scope:Scope} {f:Addr} {cd:Value} {A:Around} {outer:List Env} {s₀:Shared} {H₀:Hp} {E:XK}
end
abbrev zpH:List Value:=[.type "ValueError",.type "Exception",.type "BaseException",.type "object"]
section
variable {X:Cx} {CX:CXT} {k:Nat} {f:Addr} {fd:FuncData} {ps:List Str} {sp:Sp} {dvs:List V} {ds:List Value} {E:St→XK} {x:Str} {p pos:Pos} {e:Expr} {es:List Expr} {t:TA}
end
theorem Inv.track{X:Cx}{pins:List (Addr×Obj)}{σ:St}{H:Hp}{s:Shared}{a:Addr}{o:HO}(I:Inv X pins σ H s)(hn:H a=none)(h0:X.s₀.heap.get? a=none)(hL:a≠X.env.locals)(hc:∀x c,X.env.cells.lookup x=some c→c≠a)
  (hp:∀p∈X.pn++pins,p.1≠a) (new:zdU X.prog X.w (upd H a o) s.heap a o):Inv X pins σ (upd H a o) s:=by
 refine⟨I.ok,I.os,I.bare,⟨I.base.keep,I.base.slot,λb u q n hx=>?_,I.base.there,λb xs q=>?_,λb u xs q=>?_,λb ps q=>?_⟩,I.loc,I.cell,?_,λx c e=>?_,λp q=>?_,λb u e=>?_,I.len⟩
 ·have nb:b≠a:=λz=>by rw[z,h0] at q;cases q
  rw[zaM nb]
  exact I.base.free b u q n hx
 ·have q2:=I.base.tups b xs q
  rw[zaM (zaG q2 hn)]
  exact q2
 ·have q2:=I.base.frzs b u xs q
  rw[zaM (zaG q2 hn)]
  exact q2
 ·obtain⟨m,q2⟩:=I.base.tbls b ps q
  exact⟨m,by rw[zaM (zaG q2 hn)];exact q2⟩
 ·rw[zaM hL.symm]
  exact I.free
 ·rw[zaM (hc x c e)]
  exact I.freeC x c e
 ·obtain⟨e,n,r⟩:=I.pin p q
  exact⟨e,by rw[zaM (hp p q)];exact n,r⟩
 ·by_cases hb:b=a
  ·subst hb
   rw[zai] at e
   cases e
   exact new
  ·rw[zaM hb] at e
   exact(I.hok b u e).stay (λc v _ q=>q) (λc q=>by rw[zaM (zaG q hn)];exact q) λc xs q=>by rw[zaM (zaG q hn)];exact q
section
open Builtin Builtin.ObjectAttr Builtin.Getset_descriptor PySem.W
variable {K:ψa} {prog:Program} {w:World} {A:Around} {E:Value→Shared→Prop} {h:Heap} {g:Array GenState} {d:Drawn} {t:Nat} {os:OsState} {a C:Addr} {o:Obj}
end
end L2
namespace L2
open PySem PySem.Spec PyProof.Rows
theorem zqX{env:Env}{x:Str}{c:Addr}(h:env.cells.lookup x=some c):cellOf env x=pure c:=by
 unfold cellOf
 rw[h]
theorem zhT{env:Env}:∀(l:List (Str×NameKind)) (cs:List (Str×Addr)),(∀y∈l,y.2=.free→∃c,env.cells.lookup y.1=some c)→(∀x c,cs.lookup x=some c→env.cells.lookup x=some c) →
  ∃cl,(forIn l cs λ(y:Str×NameKind) r=>(if (y.2 == .free)=true then do let c ← cellOf env y.1;pure (ForInStep.yield ((y.1,c)::r)) else pure (ForInStep.yield r):Sem (ForInStep (List (Str×Addr)))))=pure cl ∧
   (∀x c,cl.lookup x=some c→env.cells.lookup x=some c)∧(∀y∈l,y.2=.free→∃c,cl.lookup y.1=some c)∧∀x,(∃c,cs.lookup x=some c)→∃c,cl.lookup x=some c
 | [],cs,_,hc=>⟨cs,by simp,hc,by simp,λ_ h=>h⟩
 | y::l,cs,hf,hc=>by
  have hf':∀z∈l,z.2=.free→∃c,env.cells.lookup z.1=some c:=λz hz=>hf z (ψd _ hz)
  by_cases hy:y.2=.free
  ·obtain⟨c,e⟩:=hf y ψe hy
   have hc':∀x d,List.lookup x ((y.1,c)::cs)=some d→env.cells.lookup x=some d:=λx d q=>by
    rw[ψj1] at q
    split at q
    ·rename_i b
     cases q
     rw[beq_iff_eq.mp b,e]
    ·exact hc x d q
   obtain⟨cl,e1,e2,e3,e4⟩:=zhT l ((y.1,c)::cs) hf' hc'
   refine⟨cl,?_,e2,λz hz q=>?_,λx ⟨d,q⟩=>e4 x ?_⟩
   ·rw[List.forIn_cons,if_pos (by rw[hy];rfl),zqX e]
    simpa using e1
   ·rcases List.mem_cons.mp hz with r | r
    ·exact e4 z.1 ⟨c,by rw[r,ψj1];simp⟩
    ·exact e3 z r q
   ·rw[ψj1]
    split
    ·exact⟨_,rfl⟩
    ·exact⟨d,q⟩
  ·obtain⟨cl,e1,e2,e3,e4⟩:=zhT l cs hf' hc
   refine⟨cl,?_,e2,λz hz q=>?_,e4⟩
   ·rw[List.forIn_cons,if_neg (by simpa using hy)]
    simpa using e1
   ·rcases List.mem_cons.mp hz with r | r
    ·rw[r] at q;exact absurd q hy
    ·exact e3 z r q
theorem zjT{scope:Scope}{env:Env}(h:∀y∈scope.names,y.2=.free→∃c,env.cells.lookup y.1=some c) :
  ∃cl,closureFor scope env=pure cl∧(∀x c,cl.lookup x=some c→env.cells.lookup x=some c)∧∀y∈scope.names,y.2=.free→∃c,cl.lookup y.1=some c:=by
 obtain⟨cl,e1,e2,e3,_⟩:=zhT scope.names [] h (by simp)
 refine⟨cl,?_,e2,e3⟩
 unfold closureFor
 simp only[bind_pure]
 exact e1
theorem zhW{P:Program}{w:World}{A:Around}{R:Result→Shared→Prop}{s:Shared}{elt target iter:Expr}{ifs:List Expr}{scope:Scope}{pos:Pos}{it acc:Value}{env:Env}{Z:Value→Shared→Prop}(J:Nat→Shared→Prop)
  (hZ:Z=notedBy (model P w) A env λe s'=>R (.error e) s')
  (zpo:∀n s,J n s→wpAny (model P w) A (pyNext it) (λr s1=>match r with
   | none=>R (.ok .next) s1
   | some v=>wpAny (model P w) A (letOwnedTupleGo target it v) (λ_ s2=>wpAny (model P w) A (assign target env v) (λ_ s3 =>
     wpAny (model P w) A (forIn ifs true λc r=>if r=true then do let ok ← isTrue c env (eval c env);pure (ForInStep.yield ok) else pure (ForInStep.yield r)) (λok s4 =>
      if ok=true then wpAny (model P w) A (eval elt env) (λx s5=>wpAny (model P w) A (call (.builtin "list.append") [acc,x]) (λ_ s6=>∃m,m<n∧J m s6) Z s5) Z s4
      else ∃m,m<n∧J m s4) Z s3) Z s2) Z s1) Z s)
  (n:Nat) (h:J n s):codeAny (model P w) A (.compLoop (.ListComp elt [⟨target,iter,ifs,0⟩] scope pos) 0 it acc env) R s:=by
 subst hZ
 refine codeAny_loop rfl J (λn s hJ=>?_) n h
 show wpAny _ _ (Sem.onRaise (compTurn (.ListComp elt [⟨target,iter,ifs,0⟩] scope pos) 0 it acc env) λx=>do noteFrame x env;theTreesLotGoes x) _ _ s
 refine wpAny_noted ?_
 rw[compTurn_list]
 refine wpAny_bind (wpAny_standAt (wpAny_bind (thn (zpo n s hJ) λr s1 h1=>?_)))
 cases r with
 | none=>exact wpAny_pure h1
 | some v =>
  refine wpAny_bind (thn h1 λ_ s2 h2=>wpAny_bind (thn h2 λ_ s3 h3=>wpAny_bind (thn h3 λok s4 h4=>?_)))
  cases ok with
  | false=>exact wpAny_pure ⟨rfl,h4⟩
  | true=>exact wpAny_bind (wpAny_bind (thn h4 λx s5 h5=>wpAny_bind (thn h5 λ_ s6 h6=>wpAny_pure (wpAny_pure ⟨rfl,h6⟩))))
def PTs(X:Cx)(ifs:List Expr)(t:TT):Prop:=∀(pins:List (Addr×Obj)) (s:Shared) (σ:St) (H:Hp) (Q:Bool→Hp→Prop),Inv X pins σ H s→t σ H Q →
 wpAny (model X.prog X.w) X.A (forIn ifs true λc r=>if r=true then do let ok ← isTrue c X.env (eval c X.env);pure (ForInStep.yield ok) else pure (ForInStep.yield r)) (TP X pins σ Q) X.xe s
def za8:TT:=λ_ H Q=>Q true H
theorem zbp{X:Cx}:PTs X [] za8:=λ_ _ _ H _ I h=>wpAny_tests_nil ⟨H,I,h⟩
theorem zi2{X:Cx}{c:Expr}{t:TT}(h:PT X c t):PTs X [c] t:=λpins s σ H Q I q=>wpAny_tests_one (h pins s σ H Q I q)
def zud(cap:List (Option Nat))(σ:St):St:=cap.map λo=>o.bind λj=>(σ[j]?).join
def zb1(wi:TI)(g:TG)(tt:TT)(te:TE)(cap:List (Option Nat)):TE:=λσ H Q=>wi σ H λJ H1=>∀D,H1 D=none→∃W:Nat→Nat→St→Hp→Prop,(∃m,W 0 m (zud cap σ) (upd H1 D (.lst [])))∧∀i m σc Hc,W i m σc Hc →
 (J.stop i Hc∧Q (.ref D) Hc)∨(J.go i Hc∧∃N:St→Hp→Prop,(∀σ' H',N σ' H'→∃m',m'<m∧W (i+1) m' σ' H')∧∀x H',J.yld i Hc x H'→g x σc H' λσ2 H2=>tt σ2 H2 λb H3=>if b=true then te σ2 H3 λy H4=>zb8 (.ref D) [y] H4 λ_ H5=>N σ2 H5 else N σ2 H3)
def Cx.blk(X:Cx)(Nc:List Str)(scope:Scope)(cl:List (Str×Addr))(s:Shared)(H:Hp)(fp:List Addr):Cx:={ X with
 N:=Nc,s₀:=s,H₀:=H,env:=compEnvC scope cl s.heap.objs.size X.env,outer:=X.stack,stack:=X.stack,ex:=fp,fn:=λ_=>false,pn:=[],xe:=λ_ _=>False }
structure zpT (sc:Scope) (N Nc:List Str) (cap:List (Option Nat)) (scope:Scope):Prop where
 kind:scope.kind=.function
 nocell:∀y∈scope.names,y.2≠.cell
 free:∀y∈scope.names,y.2=.free→sc.names.lookup y.1=some .cell∨sc.names.lookup y.1=some .free
 once:∀y∈scope.names,scope.names.lookup y.1=some y.2
 nd:Nc.Nodup
 len:cap.length=Nc.length
 cap:∀(i:Nat) (y:Str) (j:Nat),Nc[i]?=some y→cap[i]?=some (some j)→N[j]?=some y∧scope.names.lookup y=some .free
def zvi(sc:Scope)(N Nc:List Str)(cap:List (Option Nat))(scope:Scope):Bool :=
 scope.kind == .function&&scope.names.all (λy=>y.2 != .cell&&scope.names.lookup y.1 == some y.2&&(y.2 != .free || sc.names.lookup y.1 == some .cell || sc.names.lookup y.1 == some .free))&&decide Nc.Nodup&&cap.length == Nc.length
  && (Nc.zip cap).all λp=>p.2.all λj=>N[j]? == some p.1&&scope.names.lookup p.1 == some .free
theorem zpT.of{sc:Scope}{N Nc:List Str}{cap:List (Option Nat)}{scope:Scope}(h:zvi sc N Nc cap scope=true):zpT sc N Nc cap scope:=by
 unfold zvi at h
 simp only[ψQ,beq_iff_eq,ψu1,bne_iff_ne,ne_eq,Bool.or_eq_true,decide_eq_true_eq] at h
 obtain⟨⟨⟨⟨h1,h2⟩,h3⟩,h4⟩,h5⟩:=h
 refine⟨h1,λy hy=>(h2 y hy).1.1,λy hy hf=>?_,λy hy=>(h2 y hy).1.2,h3,h4,λi y j e1 e2=>?_⟩
 ·rcases(h2 y hy).2 with (q | q) | q
  ·exact absurd hf q
  ·exact .inl q
  ·exact .inr q
 ·have m:(y,some j)∈Nc.zip cap:=by
   refine ψN (i:=i) ?_
   rw[ψO]
   exact⟨e1,e2⟩
  have z:=h5 _ m
  simpa using z
theorem zc3{env:Env}{x:Str}:∀{names:List (Str×NameKind)} {k:NameKind},((names.map λ(n,k)=>if (k == NameKind.free&&env.scope.kind == .function&&env.kindOf n == some .cell) then (n,NameKind.cell) else (n,k)).lookup x=some k)→k≠.cell∧names.lookup x=some k∨(k=.cell∧(names.lookup x=some .cell∨names.lookup x=some .free))
 | [],_,h=>by simp at h
 | (n,q)::r,k,h=>by
  have ih:=@zc3 env x r k
  rw[ψD] at h
  dsimp only at h
  by_cases hx:(x == n)=true
  ·by_cases hc:(q == NameKind.free&&env.scope.kind == .function&&env.kindOf n == some .cell)=true
   ·rw[if_pos hc,ψj1,hx] at h
    cases h
    rw[ψQ,ψQ] at hc
    refine .inr ⟨rfl,.inr ?_⟩
    rw[ψj1,hx]
    exact congrArg some (beq_iff_eq.mp hc.1.1)
   ·rw[if_neg hc,ψj1,hx] at h
    cases h
    rw[ψj1,hx]
    by_cases z:q=.cell
    ·exact .inr ⟨z,.inl (congrArg some z)⟩
    ·exact .inl ⟨z,rfl⟩
  ·have hx':(x == n)=false:=by simpa using hx
   rw[ψj1,hx']
   refine ih ?_
   by_cases hc:(q == NameKind.free&&env.scope.kind == .function&&env.kindOf n == some .cell)=true
   ·rw[if_pos hc,ψj1,hx'] at h
    exact h
   ·rw[if_neg hc,ψj1,hx'] at h
    exact h
section
variable {X:Cx} {pins:List (Addr×Obj)} {σ:St} {H:Hp} {s:Shared}
theorem zvM{Nc:List Str}{cap:List (Option Nat)}{scope:Scope}{cl:List (Str×Addr)}{fp:List Addr}{h1:Heap}{tk:Nat}{m1:Str→Option Value}(I:Inv X pins σ H s)(B:zpT X.env.scope X.N Nc cap scope)
  (hsub:∀x c,cl.lookup x=some c→X.env.cells.lookup x=some c) (hfr:∀y∈scope.names,y.2=.free→∃c,cl.lookup y.1=some c) (hf:∀b∈fp,zlR X pins H b) (hin:∀b∈fp,b<s.heap.objs.size)
  (hk:∀b o,s.heap.get? b=some o→h1.get? b=some o) (hn:h1.Ns s.heap.objs.size m1):Inv (X.blk Nc scope cl s H fp) [] (zud cap σ) H { s with heap:=h1,toks:=tk }:=by
 have ok:=I.ok
 have bsz:X.base.objs.size≤s.heap.objs.size:=ψb1 ok.bsz I.sz
 refine⟨⟨ok.mod,B.kind,ok.glob,ok.blt,ψj _,λx y c h1 h2=>ok.inj x y c (hsub x c h1) (hsub y c h2),λx hx=>?_,(by intro x c z;cases z),ok.hd,ok.frames,.inl rfl,λb hb=>⟨ψs (hin b hb),λx c e=>(hf b hb).2.2.2.2.1 x c (hsub x c e)⟩,
  I.bs,bsz,λb o e hb=>?_,λb hb z=>?_,I.stack,I.stkFree⟩,rfl,I.bare,Un.kept hk,⟨m1,hn,λi y v e1 e2 e3=>?_⟩,λx c e=>?_,I.hok.fresh (ψj _),λx c e=>I.freeC x c (hsub x c e),(by intro p hp;cases hp),I.hok.kept hk,?_⟩
 ·have look:∀k,(relabel scope X.env).names.lookup x=some k→k=.cell∨k=.free→∃c,cl.lookup x=some c:=λk q hk=>by
   rcases zc3 q with ⟨n1,n2⟩ | ⟨_,n2 | n2⟩
   ·rcases hk with r | r
    ·exact absurd r n1
    ·exact hfr (x,k) (ψE n2) r
   ·exact absurd rfl (B.nocell _ (ψE n2))
   ·exact hfr (x,.free) (ψE n2) rfl
  rcases hx with q | q
  ·exact look _ q (.inl rfl)
  ·exact look _ q (.inr rfl)
 ·rcases(hf b hb).2.2.2.1 with q | q
  ·exact ok.noex b o e q
  ·exact absurd (ψr (Heap.lt_size e) (ψb1 ok.bsz q)) (ψr1 _)
 ·rcases List.mem_cons.mp (I.stkSub b z) with q | q
  ·exact(hf b hb).2.1 q
  ·exact(hf b hb).2.2.1 q
 ·have e2':(cap[i]?).map (λo=>o.bind λj=>(σ[j]?).join)=some (some v):=by rw[← ψt];exact e2
  obtain⟨o,ho,eo⟩:=Option.map_eq_some_iff.mp e2'
  obtain⟨j,rfl,ej⟩:=Option.bind_eq_some_iff.mp eo
  have ej':σ[j]?=some (some v):=by
   cases q:σ[j]? with
   | none=>rw[q] at ej;cases ej
   | some z=>rw[q] at ej;cases ej;rfl
  obtain⟨c1,c2⟩:=B.cap i y j e1 ho
  have vis:=B.free (y,.free) (ψE c2) rfl
  obtain⟨m,_,hl⟩:=I.loc
  obtain⟨u,r,lk⟩:=hl j y v c1 ej' (.inr vis)
  obtain⟨c',ec⟩:=hfr (y,.free) (ψE c2) rfl
  have ec2:=hsub _ _ ec
  rcases lk with ⟨kl,_⟩ | ⟨_,c,e,z⟩
  ·have kl':X.env.scope.names.lookup y=some .local:=kl
   rcases vis with q | q
   ·have q':X.env.scope.names.lookup y=some .cell:=q
    rw[kl'] at q';cases q'
   ·have q':X.env.scope.names.lookup y=some .free:=q
    rw[kl'] at q';cases q'
  ·have ecc:X.env.cells.lookup y=some c':=ec2
   rw[e] at ecc
   cases ecc
   refine⟨u,r,.inr ⟨?_,_,ec,?_⟩⟩
   ·rcases e3 with q | q | q
    ·rcases zc3 q with ⟨_,n2⟩ | ⟨n1,_⟩
     ·rw[c2] at n2;cases n2
     ·cases n1
    ·exact .inl q
    ·exact .inr q
   ·obtain⟨o,ho,hd⟩:=z
    exact⟨o,hk _ _ ho,hd⟩
 ·obtain⟨v,o,ho,hd⟩:=I.cell x c (hsub x c e)
  exact⟨v,o,hk _ _ ho,hd⟩
 ·show(zud cap σ).length=Nc.length
  rw[zud,ψb,B.len]
theorem zr9{Nc:List Str}{scope:Scope}{cl:List (Str×Addr)}{fp:List Addr}{σc:St}{Hc:Hp}{s':Shared}{h':Heap}(I:Inv X pins σ H s)(hf:∀b∈fp,zlR X pins H b)(J:Inv (X.blk Nc scope cl s H fp) [] σc Hc s')
  (hs:Heap.SameBut s.heap.objs.size s'.heap h'):Inv X pins σ Hc { s' with heap:=h' }:=by
 have ne:∀b o,s.heap.get? b=some o→b≠s.heap.objs.size:=λb o e=>ψs (Heap.lt_size e)
 have u:=J.base
 refine I.call' (ch:=fp) J.os ⟨λb o e n hb hx=>(hs.2 b (ne b o e)).trans (u.keep b o e n hb hx),λb o e n hb hx=>?_,u.free,λb o e hx=>?_,u.tups,u.frzs,u.tbls⟩ (λb ob e=>?_) J.bare λb hb=>⟨(hf b hb).2.2.2.1,(hf b hb).2.1,(hf b hb).2.2.2.2.1,(hf b hb).2.2.2.2.2⟩
 ·obtain⟨sl,q⟩:=u.slot b o e n hb hx
  exact⟨sl,(hs.2 b (ne b o e)).trans q⟩
 ·obtain⟨o',q⟩:=u.there b o e hx
  exact⟨o',(hs.2 b (ne b o e)).trans q⟩
 ·have hC:Hc s.heap.objs.size=none:=J.free
  refine(J.hok b ob e).stay (λc w' hc q=>(hs.2 c ?_).trans q) (λ_ q=>q) λ_ _ q=>q
  rintro rfl
  rcases hc with z | hc
  ·rw[← z,hC] at e;cases e
  ·rw[hC] at hc;cases hc
end
theorem Inv.turns{X:Cx}{pins:List (Addr×Obj)}{σ:St}{H:Hp}{s:Shared}{h':Heap}{t':Nat}{ch:List Addr}(I:Inv X pins σ H s)(k:∀b o,b∉ch→s.heap.get? b=some o→h'.get? b=some o)(hf:∀b∈ch,zlR X pins H b):Inv X pins σ H { s with heap:=h',toks:=t' }:=by
 refine I.call (g':=s.gens) (d':=s.drawn) (ch:=ch) ⟨λb o e _ _ hx=>k b o hx e,λb o e _ _ hx=>⟨o.slots,k b o hx e⟩,λ_ _ _ n _=>n,λb o e hx=>⟨o,k b o hx e⟩,λ_ _ q=>q,λ_ _ _ q=>q,λ_ ps q=>⟨#[],by rw[q];simp⟩⟩ (λb u e=>?_) I.bare
  λb hb=>⟨(hf b hb).2.2.2.1,(hf b hb).2.1,(hf b hb).2.2.2.2.1,(hf b hb).2.2.2.2.2⟩
 refine(I.hok b u e).stay (λc v hc q=>k c v (λz=>?_) q) (λ_ q=>q) λ_ _ q=>q
 have n:=(hf c z).1
 rcases hc with r | r
 ·rw[r,e] at n;cases n
 ·rw[r] at n;cases n
theorem zmG{X:Cx}{pins:List (Addr×Obj)}{s:Shared}{σ:St}{H:Hp}{Q:VK}{sc:Scope}{N Nc:List Str}{cap:List (Option Nat)}{elt tg iter:Expr}{ifs:List Expr}{scope:Scope}{pos pos':Pos}{wi:TI}{g:TG}{tt:TT}{te:TE}{use:Option (Value→Sem Unit)}{QQ:Value→Shared→Prop}
  (hc:X.calm=true) (hsc:X.env.scope=sc) (hN:X.N=N) (B:zpT sc N Nc cap scope) (hi:PI X tg iter wi)
  (hg:∀cl s H fp,PG (X.blk Nc scope cl s H fp) tg g) (ht:∀cl s H fp,PTs (X.blk Nc scope cl s H fp) ifs tt) (he:∀cl s H fp,PE (X.blk Nc scope cl s H fp) elt te)
  (hs:∀x,foldedSetIterable iter X.env x=pure x) (I:Inv X pins σ H s) (h:zb1 wi g tt te cap σ H Q)
  (fin:∀(s3:Shared) (H3:Hp) (cl:List (Str×Addr)) (fp:List Addr) (D:Addr) (σc:St) (Hc:Hp) (s6:Shared),Inv X pins σ H3 s3→(∀b∈fp,zlR X pins H3 b)→Inv (X.blk Nc scope cl s3 H3 fp) [] σc Hc s6→Q (.ref D) Hc→compPost (model X.prog X.w) X.A X.xe use QQ (.ref D) s3.heap.objs.size (.ok .next) s6) :
  wpAny (model X.prog X.w) X.A (comprehension (.ListComp elt [⟨tg,iter,ifs,0⟩] scope pos) scope X.env pos' (newList []) false (eval iter X.env) use) QQ X.xe s:=by
 subst hsc hN
 obtain⟨cl,hclos,hsub,hfr⟩:=zjT (scope:=scope) (env:=X.env) λy hy hf=>I.ok.has y.1 (B.free y hy hf)
 refine wpAny_comprehension_free (use:=use) rfl hs hclos B.kind (λy hy hl=>by rw[B.once y hy,hl]) (thn (hi pins s σ H _ I h) λv s1 h1=>thn h1 λitv s2 h2=>?_)
 obtain⟨it,fp,tn,J,H2,rfl,I2,T,st2,f2,hw⟩:=h2
 refine wpAny_newObj_type ?_
 have hfree:H2 s2.heap.objs.size=none:=I2.hok.fresh (ψj _)
 have I3:=I2.laid (t':=s2.toks) (o:=.lst []) (λb u e=>Heap.get?_push_of_some { cls:=.type "list",dict:=none,data:=.seq ([]:List Value).toArray } e) (ψj _) ⟨by decide,[],0,.nil,Heap.get?_push_size _ rfl⟩
 obtain⟨W,⟨m0,w0⟩,zpo⟩:=hw _ hfree
 have keep23:∀b o,s2.heap.get? b=some o→(s2.heap.push { cls:=.type "list",dict:=none,data:=.seq ([]:List Value).toArray }).get? b=some o:=λb o e=>Heap.get?_push_of_some _ e
 have hin:∀b∈fp,b<s2.heap.objs.size:=λb hb=>let ⟨o,e,_⟩:=T.obj 0 _ st2 b hb;Heap.lt_size e
 have f3:∀b∈fp,zlR X pins (upd H2 s2.heap.objs.size (.lst [])) b:=λb hb=>⟨by rw[zaM (ψs (hin b hb))];exact(f2 b hb).1,(f2 b hb).2⟩
 have st3:=T.keep 0 _ _ st2 λb _ o e=>keep23 b o e
 have hin3:∀b∈fp,b<(s2.heap.push { cls:=.type "list",dict:=none,data:=.seq ([]:List Value).toArray }).objs.size:=λb hb=>let ⟨o,e,_⟩:=T.obj 0 _ st3 b hb;Heap.lt_size e
 clear keep23 hin
 generalize s2.heap.push { cls:=.type "list",dict:=none,data:=.seq ([]:List Value).toArray }=h3 at I3 st3 hin3 ⊢
 generalize upd H2 s2.heap.objs.size (.lst [])=H3 at I3 f3 w0
 generalize s2.heap.objs.size=D at hfree w0 zpo ⊢
 refine wpAny_newFunctionEnv B.nocell (by intro y hy;cases hy) (λh1 hns hsb=>?_) B.kind
 have keep:∀b o,h3.get? b=some o→h1.get? b=some o:=λb o e=>(hsb.2 b (ψs (Heap.lt_size e))).trans (Heap.get?_push_of_some _ e)
 have I4:=zvM (tk:=s2.toks+([]:List (Str×Value)).length) I3 B hsub hfr f3 hin3 keep hns
 have st4:=T.keep 0 _ _ st3 λb _ o e=>keep b o e
 have stat:∀{H':Hp},(∀b∈fp,H' b=none)→∀b∈fp,zlR (X.blk Nc scope cl { s2 with heap:=h3,toks:=s2.toks } H3 fp) [] H' b:=λhn b hb =>
  ⟨hn b hb,ψs (hin3 b hb),λz=>by
   rcases List.mem_cons.mp (I3.stkSub b z) with q | q
   ·exact(f3 b hb).2.1 q
   ·exact(f3 b hb).2.2.1 q,.inl hb,λx c e=>(f3 b hb).2.2.2.2.1 x c (hsub x c e),by intro p hp;cases hp⟩
 have hcb:(X.blk Nc scope cl { s2 with heap:=h3,toks:=s2.toks } H3 fp).calm=true:=hc
 have loop:codeAny (model X.prog X.w) X.A (.compLoop (.ListComp elt [⟨tg,iter,ifs,0⟩] scope pos) 0 (.ref it) (.ref D) (compEnvC scope cl h3.objs.size X.env)) (compPost (model X.prog X.w) X.A X.xe use QQ (.ref D) h3.objs.size) { s2 with heap:=h1,toks:=s2.toks+([]:List (Str×Value)).length }:=by
  refine zhW (λn s'=>∃i σ' H',Inv (X.blk Nc scope cl { s2 with heap:=h3,toks:=s2.toks } H3 fp) [] σ' H' s'∧tn i s'.heap∧(∀b∈fp,H' b=none)∧W i n σ' H') rfl ?_ m0 ⟨0,_,H3,I4,st4,λb hb=>(f3 b hb).1,w0⟩
  rintro n s5 ⟨i,σ5,H5,I5,st5,fr5,w5⟩
  rcases zpo i n σ5 H5 w5 with ⟨stop,qn⟩ | ⟨go,N',hN',step⟩
  ·refine thn (T.done (X.blk Nc scope cl { s2 with heap:=h3,toks:=s2.toks } H3 fp) rfl rfl rfl hcb i [] s5 σ5 H5 _ I5 (stat fr5) st5 stop) λr s6 hQ'=>?_
   obtain⟨hr,I6⟩:=hQ'
   subst hr
   exact fin { s2 with heap:=h3,toks:=s2.toks } H3 cl fp D σ5 H5 s6 I3 f3 I6 qn
  ·refine thn (T.item (X.blk Nc scope cl { s2 with heap:=h3,toks:=s2.toks } H3 fp) rfl rfl rfl hcb i [] s5 σ5 H5 _ I5 (stat fr5) st5 go) λr s6 hQ'=>?_
   obtain⟨u,hr,h6⟩:=hQ'
   subst hr
   refine thn h6 λ_ s7 hQ'=>?_
   obtain⟨x,H7,I7,r7,y7,st7,fr7⟩:=hQ'
   have I7':=I7.pinned (stat fr7) (T.obj _ _ st7)
   refine wpAny_mono (hg cl _ H3 fp _ s7 σ5 H7 x u _ I7' r7 (step x H7 y7)) (λ_ s8 hQ'=>?_) λ_ _ z=>z.elim
   obtain⟨σ8,H8,I8,q8⟩:=hQ'
   have again:∀{H9:Hp} {s9:Shared} {m:Nat},Inv (X.blk Nc scope cl { s2 with heap:=h3,toks:=s2.toks } H3 fp) ([]++zjO fp s7.heap) σ8 H9 s9→m<n→W (i+1) m σ8 H9→∃m,m<n∧∃i σ' H',Inv (X.blk Nc scope cl { s2 with heap:=h3,toks:=s2.toks } H3 fp) [] σ' H' s9∧tn i s9.heap∧(∀b∈fp,H' b=none)∧W i m σ' H':=fun {H9 s9 m} I9 hm w9=>by
    refine⟨m,hm,i+1,σ8,H9,I9.unpinned,T.keep _ _ _ st7 λb hb o e=>(I9.pin (b,o) (ψA _ (ψA _ (zd7 hb e)))).1,λb hb=>?_,w9⟩
    obtain⟨o,e,d⟩:=T.obj _ _ st7 b hb
    exact(I9.pin (b,o) (ψA _ (ψA _ (zd7 hb e)))).2.1
   refine wpAny_mono (ht cl _ H3 fp _ s8 σ8 H8 _ I8 q8) (λb s9 hQ'=>?_) λ_ _ z=>z.elim
   obtain⟨H9,I9,q9⟩:=hQ'
   cases b with
   | false =>
    rw[if_neg (by decide)] at q9
    obtain⟨m',hm,w9⟩:=hN' _ _ q9
    exact again I9 hm w9
   | true =>
    rw[if_pos rfl] at q9
    refine wpAny_mono (he cl _ H3 fp _ s9 σ8 H9 _ I9 q9) (λu s10 hQ'=>?_) λ_ _ z=>z.elim
    obtain⟨y,H10,I10,r10,q10⟩:=hQ'
    refine wpAny_mono (zdj (X:=X.blk Nc scope cl { s2 with heap:=h3,toks:=s2.toks } H3 fp) _ s10 σ8 H10 (.ref D) [y] (.ref D) [u] _ I10 rfl (.cons r10 .nil) q10) (λ_ s11 hQ'=>?_) λ_ _ z=>z.elim
    obtain⟨_,H11,I11,_,q11⟩:=hQ'
    obtain⟨m',hm,w11⟩:=hN' _ _ q11
    exact again I11 hm w11
 exact codeAny_compStart_list loop (T.self _ 0 _ _ _ st4 loop)
theorem zbC{X:Cx}{sc:Scope}{N Nc:List Str}{cap:List (Option Nat)}{elt tg iter:Expr}{ifs:List Expr}{scope:Scope}{pos:Pos}{wi:TI}{g:TG}{tt:TT}{te:TE}(hc:X.calm=true)(hsc:X.env.scope=sc)(hN:X.N=N)(B:zpT sc N Nc cap scope)(hi:PI X tg iter wi)
  (hg:∀cl s H fp,PG (X.blk Nc scope cl s H fp) tg g) (ht:∀cl s H fp,PTs (X.blk Nc scope cl s H fp) ifs tt) (he:∀cl s H fp,PE (X.blk Nc scope cl s H fp) elt te)
  (hs:∀x,foldedSetIterable iter X.env x=pure x:=by intro _;rfl):PE X (.ListComp elt [⟨tg,iter,ifs,0⟩] scope pos) (zb1 wi g tt te cap):=by
 intro pins s σ H Q I h
 rw[eval_ListComp]
 refine zmG hc hsc hN B hi hg ht he hs I h λs3 H3 cl fp D σc Hc s6 I3 f3 I6 q=>?_
 obtain⟨m,hn,_⟩:=id I6.loc
 exact⟨m,hn,λh' hs'=>⟨.ref D,Hc,zr9 I3 f3 I6 hs',rfl,q⟩⟩
theorem zcy{X:Cx}{i:Nat}{y:Str}{py spos:Pos}{sc:Scope}{N Nc:List Str}{cap:List (Option Nat)}{elt tg iter:Expr}{ifs:List Expr}{scope:Scope}{pos:Pos}{wi:TI}{g:TG}{tt:TT}{te:TE}(hnd:X.N.Nodup)(hix:X.N[i]?=some y)(hl:X.env.scope.names.lookup y=some .local)
  (hc:X.calm=true) (hsc:X.env.scope=sc) (hN:X.N=N) (B:zpT sc N Nc cap scope) (hi:PI X tg iter wi)
  (hg:∀cl s H fp,PG (X.blk Nc scope cl s H fp) tg g) (ht:∀cl s H fp,PTs (X.blk Nc scope cl s H fp) ifs tt) (he:∀cl s H fp,PE (X.blk Nc scope cl s H fp) elt te)
  (hsw:swapsWith (.ListComp elt [⟨tg,iter,ifs,0⟩] scope pos) (some (.Name y py)) spos.line X.env=pure true:=by rfl)
  (hs:∀x,foldedSetIterable iter X.env x=pure x:=by intro _;rfl):PS X (.Assign [.Name y py] (.ListComp elt [⟨tg,iter,ifs,0⟩] scope pos) spos) (zbS (zb1 wi g tt te cap) (zam i)):=by
 intro pins s σ H D0 I h
 rw[exec_Assign_Name_used _ _ _ _ hsw]
 refine wpAny_bind (wpAny_standAt (wpAny_bind (wpAny_bind (thn (zmG (use:=some (assign (.Name y py) X.env)) (QQ:=λ_ s'=>SP X pins D0 .next s') hc hsc hN B hi hg ht he hs I h λs3 H3 cl fp D σc Hc s6 I3 f3 I6 q=>?_) λ_ s' hq=>wpAny_pure (wpAny_pure hq)))))
 have I6x:Inv X pins σ Hc s6:=zr9 I3 f3 I6 (Heap.SameBut.refl ..)
 obtain⟨m,hn,_⟩:=id I6.loc
 have hC:Hc s3.heap.objs.size=none:=I6.free
 have fpC:=I3.fpOk (b:=s3.heap.objs.size) (ψj _) hC
 refine wpAny_assign_Name (ziY I6x hnd hix (.inl hl) (v:=.ref D) rfl (λs7 I7 ch=>?_) (.inr hl))
 obtain⟨a,same,ha⟩:=ch
 have nC:s3.heap.objs.size≠a:=by
  rcases ha with r | r
  ·rw[r];exact fpC.2.1
  ·exact(fpC.2.2.2.2.1 _ _ r).symm
 refine⟨m,hn.sameBut same nC,λh' hs'=>⟨_,_,I7.turns (t':=s7.toks) (ch:=[s3.heap.objs.size]) (λb o hb e=>(hs'.2 b (by simpa using hb)).trans e) λb hb=>?_,q⟩⟩
 have e:b=s3.heap.objs.size:=by simpa using hb
 rw[e]
 exact fpC
theorem zr6{K:ψa}{a:Addr}{xs:List V}{g:TG}{tt:TT}{te:TE}{σ:St}{H:Hp}{D:Addr}{Q:VK}(Pv:Nat→List V→St→Hp→Prop)(h0:Pv 0 [] σ (upd H D (.lst [])))(hl:∀i ys σ H,i≤xs.length→Pv i ys σ H→SqL K H a xs)
  (hs:∀i x ys σ H,xs[i]?=some x→H D=some (.lst ys)→Pv i ys σ H→g x σ H λσ2 H2=>tt σ2 H2 λb H3=>if b=true then te σ2 H3 λy H4=>zb8 (.ref D) [y] H4 λ_ H5=>∃ys,H5 D=some (.lst ys)∧Pv (i+1) ys σ2 H5 else ∃ys,H3 D=some (.lst ys)∧Pv (i+1) ys σ2 H3)
  (hd:∀ys σ H,H D=some (.lst ys)→Pv xs.length ys σ H→Q (.ref D) H) :
  ∃W:Nat→Nat→St→Hp→Prop,(∃m,W 0 m σ (upd H D (.lst [])))∧∀i m σc Hc,W i m σc Hc →
   ((Itl K a).stop i Hc∧Q (.ref D) Hc)∨((Itl K a).go i Hc∧∃N:St→Hp→Prop,(∀σ' H',N σ' H'→∃m',m'<m∧W (i+1) m' σ' H')∧∀x H',(Itl K a).yld i Hc x H'→g x σc H' λσ2 H2=>tt σ2 H2 λb H3=>if b=true then te σ2 H3 λy H4=>zb8 (.ref D) [y] H4 λ_ H5=>N σ2 H5 else N σ2 H3):=by
 refine⟨λi m σ H=>m=xs.length - i∧i≤xs.length∧∃ys,H D=some (.lst ys)∧Pv i ys σ H,⟨_,rfl,ψp1 _,[],zai,h0⟩,?_⟩
 rintro i m σ H ⟨rfl,hi,ys,hD,pv⟩
 have q:=hl i ys σ H hi pv
 by_cases hlt:i<xs.length
 ·refine .inr ⟨⟨xs,xs[i],q,by simp[hlt]⟩,λσ H=>∃ys,H D=some (.lst ys)∧Pv (i+1) ys σ H,λσ' H' p'=>⟨_,by (first|lia|omega),rfl,hlt,p'⟩,λx H' yl=>?_⟩
  obtain⟨e,yl⟩:=yl
  subst e
  exact hs i x ys σ _ (yl xs q) hD pv
 ·have e:i=xs.length:=by (first|lia|omega)
  subst e
  exact .inl ⟨⟨xs,q,ψj _⟩,hd ys σ H hD pv⟩
theorem zpK{lo:Int}{n:Nat}{g:TG}{tt:TT}{te:TE}{σ:St}{H:Hp}{D:Addr}{Q:VK}(Pv:Nat→List V→St→Hp→Prop)(h0:Pv 0 [] σ (upd H D (.lst [])))
  (hs:∀i ys σ H,i<n→H D=some (.lst ys)→Pv i ys σ H→g (.int (lo+i)) σ H λσ2 H2=>tt σ2 H2 λb H3=>if b=true then te σ2 H3 λy H4=>zb8 (.ref D) [y] H4 λ_ H5=>∃ys,H5 D=some (.lst ys)∧Pv (i+1) ys σ2 H5 else ∃ys,H3 D=some (.lst ys)∧Pv (i+1) ys σ2 H3)
  (hd:∀ys σ H,H D=some (.lst ys)→Pv n ys σ H→Q (.ref D) H) :
  ∃W:Nat→Nat→St→Hp→Prop,(∃m,W 0 m σ (upd H D (.lst [])))∧∀i m σc Hc,W i m σc Hc →
   ((Itr lo n).stop i Hc∧Q (.ref D) Hc)∨((Itr lo n).go i Hc∧∃N:St→Hp→Prop,(∀σ' H',N σ' H'→∃m',m'<m∧W (i+1) m' σ' H')∧∀x H',(Itr lo n).yld i Hc x H'→g x σc H' λσ2 H2=>tt σ2 H2 λb H3=>if b=true then te σ2 H3 λy H4=>zb8 (.ref D) [y] H4 λ_ H5=>N σ2 H5 else N σ2 H3):=by
 refine⟨λi m σ H=>m=n - i∧i≤n∧∃ys,H D=some (.lst ys)∧Pv i ys σ H,⟨_,rfl,ψp1 _,[],zai,h0⟩,?_⟩
 rintro i m σ H ⟨rfl,hi,ys,hD,pv⟩
 by_cases hlt:i<n
 ·refine .inr ⟨hlt,λσ H=>∃ys,H D=some (.lst ys)∧Pv (i+1) ys σ H,λσ' H' p'=>⟨_,by (first|lia|omega),rfl,hlt,p'⟩,λx H' yl=>?_⟩
  obtain⟨e,yl⟩:=yl
  subst e yl
  exact hs i ys σ _ hlt hD pv
 ·have e:i=n:=by (first|lia|omega)
  subst e
  exact .inl ⟨ψj _,hd ys σ H hD pv⟩
end L2
namespace L2
open PySem PySem.Spec PyProof.Rows
theorem zsm(bs:List Bool):(ψs1 bs.length).all (λi=>bs.getD i false)=bs.all id:=by
 rw[ψJ1,ψu1,ψu1]
 constructor
 ·intro h x hx
  obtain⟨i,hi,e⟩:=List.getElem_of_mem hx
  have:=h i (List.mem_range.mpr hi)
  rw[ψx,ψc hi] at this
  rw[← e]
  exact this
 ·intro h i hi
  have hi:=List.mem_range.mp hi
  rw[ψx,ψc hi]
  exact h _ (ψv1 hi)
def zu9(K:ψa):List V→Hp→VK→Prop:=λxs H Q=>∃(p:Addr) (bs:List Bool),xs=[.ref p]∧SqL K H p (bs.map V.bl)∧Q (.bl (bs.all id)) H
def zlH(K:ψa):List V→Hp→VK→Prop:=λxs H Q=>∃(p:Addr) (ns:List Int),xs=[.ref p]∧SqL K H p (ns.map V.int)∧Q (.int ns.sum) H
theorem zzG{bs:List Bool}{its:List Value}{i:Nat}{v:Value}(r:zcH (bs.map V.bl) its)(e:its.toArray[i]?=some v):v=.bool (bs.getD i false):=by
 have l:=r.length
 rw[ψb] at l
 have e':its[i]?=some v:=by simpa using e
 have hi:i<bs.length:=by rw[l];exact(List.getElem?_eq_some_iff.mp e').1
 obtain⟨u,hu,ru⟩:=r.get (i:=i) (x:=.bl bs[i]) (by rw[ψt,ψc hi];rfl)
 rw[e'] at hu
 cases hu
 cases ru
 rw[ψx,ψc hi]
 rfl
theorem zuU{P:Program}{w:World}{A:Around}{bs:List Bool}{its:List Value}(r:zcH (bs.map V.bl) its):TruthOf P w A (λi v=>its.toArray[i]?=some v) λi=>bs.getD i false:=λi v s Q E hP hQ=>by
 rw[zzG r hP]
 exact wpAny_pure hQ
section
variable {X:Cx}
theorem zga(hc:X.calm=true):zio X (.builtin "all") (zu9 X.K):=by
 intro pins s σ H xs us Q I r h
 obtain⟨p,bs,rfl,hl,q⟩:=h
 obtain⟨u,rfl,ru⟩:=r.one
 cases ru
 obtain⟨its,rv,pl,_⟩:=I.list hl
 have l:=rv.length
 rw[ψb] at l
 obtain⟨o,n,e,_⟩:=id pl
 have hne:p≠s.heap.objs.size:=ψs (Heap.lt_size e)
 refine call_all_walk (wpAny_pyIter_list pl.isList ?_)
 refine⟨s.heap.objs.size,_,_,_,_,_,λi=>bs.getD i false,rfl,Walks.list (A:=X.A.in1) (I.ok.hd hc) _ p hne its.toArray,⟨⟨_,Heap.get?_push_size _ rfl,rfl,rfl⟩,?_⟩,zuU rv,λh' tk hk=>⟨.bl _,H,I.kept λb u eb=>?_,rfl,?_⟩⟩
 ·exact pl.isList.at λo e=>Heap.get?_push_of_some _ e
 ·exact hk b u (λz=>ψs (Heap.lt_size eb) (by simpa using z)) (Heap.get?_push_of_some _ eb)
 ·rw[ψg,← l,zsm]
  exact q
theorem zxk{ns:List Int}{its:List Value}{i:Nat}{v:Value}(r:zcH (ns.map V.int) its)(e:its.toArray[i]?=some v):∃t,v=.int (ns.getD i 0) t:=by
 have l:=r.length
 rw[ψb] at l
 have e':its[i]?=some v:=by simpa using e
 have hi:i<ns.length:=by rw[l];exact(List.getElem?_eq_some_iff.mp e').1
 obtain⟨u,hu,ru⟩:=r.get (i:=i) (x:=.int ns[i]) (by rw[ψt,ψc hi];rfl)
 rw[e'] at hu
 cases hu
 obtain⟨t,rfl⟩:=ru
 refine⟨t,?_⟩
 rw[ψx,ψc hi]
 rfl
theorem zjU(ns:List Int):∀k,k≤ns.length→preSum (λi=>ns.getD i 0) k=(ns.take k).sum
 | 0,_=>by simp[preSum]
 | k+1,h=>by
  rw[preSum,zjU ns k (by (first|lia|omega)),ψu,ψc (by (first|lia|omega)),List.sum_append,ψx,ψc (by (first|lia|omega))]
  simp
theorem zcp(hc:X.calm=true):zio X (.builtin "sum") (zlH X.K):=by
 intro pins s σ H xs us Q I r h
 obtain⟨p,ns,rfl,hl,q⟩:=h
 obtain⟨u,rfl,ru⟩:=r.one
 cases ru
 obtain⟨its,rv,pl,_⟩:=I.list hl
 have l:=rv.length
 rw[ψb] at l
 obtain⟨o,n,e,_⟩:=id pl
 have hlt:=Heap.lt_size e
 have hne:p≠s.heap.objs.size:=ψs hlt
 refine call_sum_walkG (wpAny_pyIter_list pl.isList ?_)
 refine⟨s.heap.objs.size,_,_,_,_,_,λi=>ns.getD i 0,rfl,Walks.list (A:=X.A.in1) (I.ok.hd hc) _ p hne its.toArray,⟨⟨_,Heap.get?_push_size _ rfl,rfl,rfl⟩,?_⟩,λb hb=>?_,λi v hv=>zxk rv hv,λh' tk t' hk=>⟨.int _,H,I.kept λb u eb=>?_,⟨t',rfl⟩,?_⟩⟩
 ·exact pl.isList.at λo e=>Heap.get?_push_of_some _ e
 ·rw[Heap.size_push]
  rcases List.mem_cons.mp hb with z | z
  ·rw[z];exact ψP1 _
  ·have z':b=p:=by simpa using z
   rw[z'];exact Nat.lt_succ_of_lt hlt
 ·exact hk b u (λz=>ψs (Heap.lt_size eb) (by simpa using z)) (Heap.get?_push_of_some _ eb)
 ·rw[ψg,← l,zjU _ _ (ψj _),ψC]
  exact q
end
end L2
namespace L2
open PySem PySem.Spec PyProof.Rows
def Itz(K:ψa)(p q:Addr):It where
 go:=λi H=>∃xs ys a b,SqL K H p xs∧SqL K H q ys∧xs[i]?=some a∧ys[i]?=some b
 yld:=λi H x H'=>∃t a b,x=.ref t∧H t=none∧H'=upd H t (.tup [a,b])∧(∀xs,SqL K H p xs→xs[i]?=some a)∧∀ys,SqL K H q ys→ys[i]?=some b
 stop:=λi H=>∃xs ys,SqL K H p xs∧SqL K H q ys∧i=min xs.length ys.length
def tnZ(z TI TO i1 i2 p q:Addr)(i:Nat)(h:Heap):Prop:=IsZip h z TI TO .none∧IsPair h TI (.ref i1) (.ref i2)∧(∃a b,IsPair h TO a b)∧h.IsListIter i1 p i∧h.IsListIter i2 q i
theorem zt6{z TI TO i1 i2 p q:Addr}{i:Nat}{h h':Heap}(st:tnZ z TI TO i1 i2 p q i h)(k:∀b∈[z,TI,TO,i1,i2],∀o,h.get? b=some o→h'.get? b=some o):tnZ z TI TO i1 i2 p q i h':=by
 obtain⟨a1,a2,⟨x,y,a3⟩,a4,a5⟩:=st
 exact⟨k z (by simp) _ a1,k TI (by simp) _ a2,⟨x,y,k TO (by simp) _ a3⟩,a4.at λo e=>k i1 (by simp) o e,a5.at λo e=>k i2 (by simp) o e⟩
theorem zcj{o:Obj}{vs:Array Value}(h:o.data=.fields vs):∀v,o.data≠.cell v:=λv z=>by rw[h] at z;cases z
theorem zup{P:Program}{w:World}{K:ψa}{elts:List Expr}{k:Nat}{pos:Pos}{z TI TO i1 i2 p q:Addr}(D:ZipApart z TI TO i1 i2 p q):zxH P w K (.Tuple elts k pos) (Itz K p q) [z,TI,TO,i1,i2] z (tnZ z TI TO i1 i2 p q) where
 mem:=by simp
 obj:=λi h st b hb=>by
  obtain⟨a1,a2,⟨x,y,a3⟩,⟨o4,a4,_,d4⟩,⟨o5,a5,_,d5⟩⟩:=st
  simp only[ψP,ψF,or_false] at hb
  rcases hb with rfl | rfl | rfl | rfl | rfl
  ·exact⟨_,a1,zcj rfl⟩
  ·exact⟨_,a2,λv z=>nomatch (show Data.seq _ _=Data.cell v from z)⟩
  ·exact⟨_,a3,λv z=>nomatch (show Data.seq _ _=Data.cell v from z)⟩
  ·exact⟨_,a4,zcj d4⟩
  ·exact⟨_,a5,zcj d5⟩
 keep:=λi h h' st kk=>zt6 st kk
 item:=by
  intro X hP hw hK hc i pins s σ H E I hf st hg
  subst hP hw hK
  obtain⟨xs,ys,a,b,hx,hy,ea,eb⟩:=hg
  obtain⟨its1,r1,pl1,z1⟩:=I.list hx
  obtain⟨its2,r2,pl2,z2⟩:=I.list hy
  obtain⟨ua,eua,rua⟩:=r1.get ea
  obtain⟨ub,eub,rub⟩:=r2.get eb
  obtain⟨s1,s2,s3,s4,s5⟩:=st
  have W:=WalksT.zip2 (prog:=X.prog) (w:=X.w) (A:=X.A) (I.ok.hd hc) z TI TO i1 i2 p q D its1.toArray its2.toArray
  have hi:i<min its1.toArray.size its2.toArray.size:=by
   have h1:=(List.getElem?_eq_some_iff.mp eua).1
   have h2:=(List.getElem?_eq_some_iff.mp eub).1
   simp only[ψg]
   (first|lia|omega)
  refine W.item i s _ _ hi ⟨s1,s2,s3,s4,s5,pl1.isList,pl2.isList⟩ λT vals h' tk hp hT hTup mid kk=>⟨_,rfl,?_⟩
  obtain⟨u,v,e1,e2,rfl⟩:=hp
  have e1':u=ua:=by
   have:its1[i]?=some u:=by simpa using e1
   rw[eua] at this;cases this;rfl
  have e2':v=ub:=by
   have:its2[i]?=some v:=by simpa using e2
   rw[eub] at this;cases this;rfl
  subst e1' e2'
  refine W.go elts k pos i T { s with heap:=h',toks:=tk } _ _ mid λh2 st2 kk2=>?_
  obtain⟨t1,t2,t3,t4,t5,_,_⟩:=st2
  have sub:∀b∈[z,TO,i1,i2],b∈[z,TI,TO,i1,i2]:=λb hb=>by
   simp only[ψP,ψF,or_false] at hb ⊢
   rcases hb with h | h | h | h <;> simp[h]
  have I1:Inv X pins σ H { s with heap:=h2,toks:=tk }:=I.turns (ch:=[z,TO,i1,i2]) (λb o hb e=>kk2 b o hb (kk b o hb e)) λb hb=>hf b (sub b hb)
  have nT:H T=none:=I.hok.fresh hT
  have I2:=I1.track (a:=T) (o:=.tup [a,b]) nT (Heap.get?_none_of_le (ψb1 I.sz hT)) (ψG1 (ψr I.lt hT)) (λx c e=>by
   obtain⟨v,q⟩:=I.cell x c e
   exact ψs (ψr q.lt hT)) (λp hp=>ψs (ψr (Heap.lt_size (I.pin p hp).1) hT)) (by
   refine⟨by show 2≤sizeLine;decide,[u,v],.cons rua (.cons rub .nil),?_⟩
   obtain⟨o,ho,hcl,hd⟩:=hTup
   exact⟨o,kk2 T o (W.apart i T h' mid) ho,hcl,hd⟩)
  refine⟨.ref T,_,I2,rfl,⟨T,a,b,rfl,nT,rfl,λxs' h'=>?_,λys' h'=>?_⟩,⟨t1,t2,t3,t4,t5⟩,λb hb=>?_⟩
  ·rw[I.list_inj h' hx];exact ea
  ·rw[I.list_inj h' hy];exact eb
  ·have hb2:∃o,s.heap.get? b=some o:=by
    obtain⟨x3,y3,s3⟩:=s3
    obtain⟨o4,s4,_⟩:=s4
    obtain⟨o5,s5,_⟩:=s5
    simp only[ψP,ψF,or_false] at hb
    rcases hb with h | h | h | h | h <;> rw[h] <;> first | exact⟨_,s1⟩ | exact⟨_,s2⟩ | exact⟨_,s3⟩ | exact⟨_,s4⟩ | exact⟨_,s5⟩
   obtain⟨o,e⟩:=hb2
   rw[zaM (ψs (ψr (Heap.lt_size e) hT))]
   exact(hf b hb).1
 done:=by
  intro X hP hw hK hc i pins s σ H E I hf st hg
  subst hP hw hK
  obtain⟨xs,ys,hx,hy,rfl⟩:=hg
  obtain⟨its1,r1,pl1,z1⟩:=I.list hx
  obtain⟨its2,r2,pl2,z2⟩:=I.list hy
  obtain⟨s1,s2,s3,s4,s5⟩:=st
  have W:=WalksT.zip2 (prog:=X.prog) (w:=X.w) (A:=X.A) (I.ok.hd hc) z TI TO i1 i2 p q D its1.toArray its2.toArray
  have sub:∀b∈[z,TO,i1,i2],b∈[z,TI,TO,i1,i2]:=λb hb=>by
   simp only[ψP,ψF,or_false] at hb ⊢
   rcases hb with h | h | h | h <;> simp[h]
  refine W.done s _ _ ?_ λh' tk kk=>⟨rfl,I.turns (ch:=[z,TO,i1,i2]) (λb o hb e=>kk b o hb e) λb hb=>hf b (sub b hb)⟩
  rw[ψg,ψg,← r1.length,← r2.length]
  exact⟨s1,s2,s3,s4,s5,pl1.isList,pl2.isList⟩
 self:=λA i s Q E st h=>wpAny_pyIter_zip st.1 h
def zlG(K:ψa)(ta:TA):TI:=λσ H R=>ta σ H λvs H1=>∃p q,vs=[.ref p,.ref q]∧(∃xs,SqL K H1 p xs)∧(∃ys,SqL K H1 q ys)∧R (Itz K p q) H1
theorem zec{X:Cx}{a b:Expr}{elts:List Expr}{k:Nat}{tp p pos:Pos}{ta:TA}(hg:Gl X "zip")(hm:X.mg "zip"=none)(ha:PA X [a,b] ta)(hs:starEach [a,b] X.env=[(false,eval a X.env),(false,eval b X.env)]:=by rfl)(hs2:starEach [b] X.env=[(false,eval b X.env)]:=by rfl) :
  PI X (.Tuple elts k tp) (.Call (.Name "zip" p) [a,b] [] pos) (zlG X.K ta):=by
 intro pins s σ H R I h
 refine Call_ (zic I hg hm boot_zip (ψo1 (thn (ha pos pins s σ H _ I h) λus s1 hQ'=>?_) (by rw[hs,hs2]) (by rw[hs2];rfl)))
 obtain⟨vs,H1,I1,r1,q1⟩:=hQ'
 obtain⟨p1,p2,rfl,⟨xs,hx⟩,⟨ys,hy⟩,q⟩:=q1
 obtain⟨u,v,rfl,ru,rv⟩:=ztn r1
 cases ru
 cases rv
 obtain⟨its1,_,pl1,_⟩:=I1.list hx
 obtain⟨its2,_,pl2,_⟩:=I1.list hy
 have a1:p1<s1.heap.objs.size:=by obtain⟨_,e,_⟩:=pl1.isList;exact Heap.lt_size e
 have a2:p2<s1.heap.objs.size:=by obtain⟨_,e,_⟩:=pl2.isList;exact Heap.lt_size e
 refine call_zip_2 pl1.isList pl2.isList λh' hz hTI hTO hi1 hi2 hsz hk=>?_
 refine wpAny_pyIter_zip hz ?_
 refine⟨_,_,_,_,H1,rfl,I1.kept (t':=s1.toks) hk,zup (zipApart_new a1 a2),⟨hz,hTI,⟨_,_,hTO⟩,hi1,hi2⟩,λb hb=>?_,q⟩
 have hb':s1.heap.objs.size≤b:=by
  simp only[ψP,ψF,or_false] at hb
  rcases hb with h | h | h | h | h <;> rw[h] <;> first | exact ψj _ | exact Nat.le_add_right _ _
 exact I1.fpOk hb' (I1.hok.fresh hb')
theorem zvT{K:ψa}{p q:Addr}{xs ys:List V}{g:TG}{tb:TS}{D:zlp}{σ:St}{H:Hp}(Pv:Nat→St→Hp→Prop)(h0:Pv 0 σ H)(hl:∀i σ H,i≤min xs.length ys.length→Pv i σ H→SqL K H p xs∧SqL K H q ys)
  (hs:∀i x y t σ H,xs[i]?=some x→ys[i]?=some y→Pv i σ H→H t=none→g (.ref t) σ (upd H t (.tup [x,y])) λσ2 H2=>tb { D with nx:=Pv (i+1),ct:=Pv (i+1),bk:=D.nx } σ2 H2) (hd:∀σ H,Pv (min xs.length ys.length) σ H→D.nx σ H) :
  ∃W:Nat→Nat→St→Hp→Prop,(∃m,W 0 m σ H)∧∀i m σ H,W i m σ H →
   ((Itz K p q).stop i H∧D.nx σ H)∨((Itz K p q).go i H∧∃N:St→Hp→Prop,(∀σ' H',N σ' H'→∃m',m'<m∧W (i+1) m' σ' H')∧∀x H',(Itz K p q).yld i H x H'→g x σ H' λσ2 H2=>tb { D with nx:=N,ct:=N,bk:=D.nx } σ2 H2):=by
 refine⟨λi m σ H=>m=min xs.length ys.length - i∧i≤min xs.length ys.length∧Pv i σ H,⟨_,rfl,ψp1 _,h0⟩,?_⟩
 rintro i m σ H ⟨rfl,hi,pv⟩
 obtain⟨hx,hy⟩:=hl i σ H hi pv
 by_cases hlt:i<min xs.length ys.length
 ·have l1:i<xs.length:=by (first|lia|omega)
  have l2:i<ys.length:=by (first|lia|omega)
  refine .inr ⟨⟨xs,ys,xs[i],ys[i],hx,hy,by simp[l1],by simp[l2]⟩,Pv (i+1),λσ' H' p'=>⟨_,by (first|lia|omega),rfl,hlt,p'⟩,λx H' yl=>?_⟩
  obtain⟨t,a,b,rfl,ht,rfl,e1,e2⟩:=yl
  exact hs i a b t σ H (e1 xs hx) (e2 ys hy) pv ht
 ·have e:i=min xs.length ys.length:=by (first|lia|omega)
  subst e
  exact .inl ⟨⟨xs,ys,hx,hy,rfl⟩,hd σ H pv⟩
theorem zuG{K:ψa}{p q:Addr}{xs zs:List V}{g:TG}{tt:TT}{te:TE}{σ:St}{H:Hp}{D:Addr}{Q:VK}(Pv:Nat→List V→St→Hp→Prop)(h0:Pv 0 [] σ (upd H D (.lst [])))
  (hl:∀i ys σ H,i≤min xs.length zs.length→Pv i ys σ H→SqL K H p xs∧SqL K H q zs)
  (hs:∀i x z t ys σ H,xs[i]?=some x→zs[i]?=some z→H D=some (.lst ys)→Pv i ys σ H→H t=none→g (.ref t) σ (upd H t (.tup [x,z])) λσ2 H2=>tt σ2 H2 λb H3=>if b=true then te σ2 H3 λy H4=>zb8 (.ref D) [y] H4 λ_ H5=>∃ys,H5 D=some (.lst ys)∧Pv (i+1) ys σ2 H5 else ∃ys,H3 D=some (.lst ys)∧Pv (i+1) ys σ2 H3)
  (hd:∀ys σ H,H D=some (.lst ys)→Pv (min xs.length zs.length) ys σ H→Q (.ref D) H) :
  ∃W:Nat→Nat→St→Hp→Prop,(∃m,W 0 m σ (upd H D (.lst [])))∧∀i m σc Hc,W i m σc Hc →
   ((Itz K p q).stop i Hc∧Q (.ref D) Hc)∨((Itz K p q).go i Hc∧∃N:St→Hp→Prop,(∀σ' H',N σ' H'→∃m',m'<m∧W (i+1) m' σ' H')∧∀x H',(Itz K p q).yld i Hc x H'→g x σc H' λσ2 H2=>tt σ2 H2 λb H3=>if b=true then te σ2 H3 λy H4=>zb8 (.ref D) [y] H4 λ_ H5=>N σ2 H5 else N σ2 H3):=by
 refine⟨λi m σ H=>m=min xs.length zs.length - i∧i≤min xs.length zs.length∧∃ys,H D=some (.lst ys)∧Pv i ys σ H,⟨_,rfl,ψp1 _,[],zai,h0⟩,?_⟩
 rintro i m σ H ⟨rfl,hi,ys,hD,pv⟩
 obtain⟨hx,hz⟩:=hl i ys σ H hi pv
 by_cases hlt:i<min xs.length zs.length
 ·have l1:i<xs.length:=by (first|lia|omega)
  have l2:i<zs.length:=by (first|lia|omega)
  refine .inr ⟨⟨xs,zs,xs[i],zs[i],hx,hz,by simp[l1],by simp[l2]⟩,λσ H=>∃ys,H D=some (.lst ys)∧Pv (i+1) ys σ H,λσ' H' p'=>⟨_,by (first|lia|omega),rfl,hlt,p'⟩,λx H' yl=>?_⟩
  obtain⟨t,a,b,rfl,ht,rfl,e1,e2⟩:=yl
  exact hs i a b t ys σ H (e1 xs hx) (e2 zs hz) hD pv ht
 ·have e:i=min xs.length zs.length:=by (first|lia|omega)
  subst e
  exact .inl ⟨⟨xs,zs,hx,hz,rfl⟩,hd ys σ H hD pv⟩
end L2
namespace L2
open PySem PySem.Spec PyProof.Rows
inductive Tr where
 | int (i:Int)
 | bl (b:Bool)
 | str (x:Str)
 | non
 | lst (l:List Tr)
 | tup (l:List Tr)
inductive zfz (K:ψa) (H:Hp):Nat→Tr→V→Prop where
 | int {n:Nat} (i:Int):zfz K H n (.int i) (.int i)
 | bl {n:Nat} (b:Bool):zfz K H n (.bl b) (.bl b)
 | str {n:Nat} (x:Str):zfz K H n (.str x) (.str x)
 | non {n:Nat}:zfz K H n .non .non
 | lst {n:Nat} {p:Addr} {xs:List V} {ts:List Tr} (h:SqL K H p xs) (l:xs.length=ts.length) (e:∀(i:Nat) x t,xs[i]?=some x→ts[i]?=some t→zfz K H n t x):zfz K H (n+1) (.lst ts) (.ref p)
 | tup {n:Nat} {p:Addr} {xs:List V} {ts:List Tr} (h:SqT K H p xs) (l:xs.length=ts.length) (e:∀(i:Nat) x t,xs[i]?=some x→ts[i]?=some t→zfz K H n t x):zfz K H (n+1) (.tup ts) (.ref p)
section
variable {X:Cx} {pins:List (Addr×Obj)} {σ:St} {H:Hp} {s:Shared}
theorem ziq{A:Around}{n:Nat}{xs ys:List V}{ts:List Tr}{us vs:List Value}(lx:xs.length=ts.length)(ly:ys.length=ts.length)(r1:zcH xs us)(r2:zcH ys vs)
  (ih:∀(i:Nat) x t,xs[i]?=some x→ts[i]?=some t→∀y,zfz X.K H n t y→∀(u v:Value) (A:Around),zdp x u→zdp y v→A.units+n<cLine→SeqAt.EqAt A s u v true)
  (ey:∀(i:Nat) y t,ys[i]?=some y→ts[i]?=some t→zfz X.K H n t y) (hu:A.units+(n+1)<cLine) :
  ∀j (h1:j<us.toArray.size) (h2:j<vs.toArray.size),SeqAt.EqAt A.in1 s us.toArray[j] vs.toArray[j] true:=by
 intro j h1 h2
 have k1:j<xs.length:=by rw[r1.length];simpa using h1
 have k2:j<ys.length:=by rw[r2.length];simpa using h2
 have k3:j<ts.length:=by (first|lia|omega)
 obtain⟨u,e1,ru⟩:=r1.get (ψc k1)
 obtain⟨v,e2,rv⟩:=r2.get (ψc k2)
 have q1:us.toArray[j]=u:=by
  have:=(List.getElem?_eq_some_iff.mp e1).2
  simpa using this
 have q2:vs.toArray[j]=v:=by
  have:=(List.getElem?_eq_some_iff.mp e2).2
  simpa using this
 rw[q1,q2]
 exact ih j _ _ (ψc k1) (ψc k3) _ (ey j _ _ (ψc k2) (ψc k3)) u v A.in1 ru rv (by show A.units+1+n<cLine;(first|lia|omega))
theorem ziy(n:Nat):(ψs1 n).all (λ_=>true)=true:=by simp
theorem zrQ(I:Inv X pins σ H s){n:Nat}{t:Tr}{x:V}(hx:zfz X.K H n t x):∀y,zfz X.K H n t y→∀(u v:Value) (A:Around),zdp x u→zdp y v→A.units+n<cLine→SeqAt.EqAt A s u v true:=by
 induction hx with
 | int i =>
  intro y hy u v A ru rv hu
  cases hy
  obtain⟨a,rfl⟩:=ru
  obtain⟨b,rfl⟩:=rv
  have:=SeqAt.EqAt.int_int (A:=A) (s:=s) i a i b
  rw[beq_self_eq_true] at this
  exact this
 | bl b =>
  intro y hy u v A ru rv hu
  cases hy
  cases ru
  cases rv
  exact SeqAt.EqAt.same _
 | str x =>
  intro y hy u v A ru rv hu
  cases hy
  obtain⟨a,rfl⟩:=ru
  obtain⟨b,rfl⟩:=rv
  have:=SeqAt.EqAt.str_str (A:=A) (s:=s) x a x b
  rw[beq_self_eq_true] at this
  exact this
 | non =>
  intro y hy u v A ru rv hu
  cases hy
  cases ru
  cases rv
  exact SeqAt.EqAt.same _
 | @lst n p xs ts h l e ih =>
  intro y hy u v A ru rv hu
  cases hy with
  | @lst _ q ys _ h2 l2 e2 =>
   cases ru
   cases rv
   by_cases hpq:p=q
   ·subst hpq
    exact SeqAt.EqAt.same _
   ·obtain⟨us,r1,p1,_⟩:=I.list h
    obtain⟨vs,r2,p2,_⟩:=I.list h2
    have z:=SeqAt.RcAt.lists (A:=A) p1.isList p2.isList (by rw[ψg,ψg,← r1.length,← r2.length,l,l2]) (by (first|lia|omega)) (e:=λ_=>true) (ziq l l2 r1 r2 ih e2 hu)
    rw[ziy] at z
    exact SeqAt.EqAt.of_refs hpq z
 | @tup n p xs ts h l e ih =>
  intro y hy u v A ru rv hu
  cases hy with
  | @tup _ q ys _ h2 l2 e2 =>
   cases ru
   cases rv
   by_cases hpq:p=q
   ·subst hpq
    exact SeqAt.EqAt.same _
   ·obtain⟨us,r1,p1,_⟩:=I.tuple h
    obtain⟨vs,r2,p2,_⟩:=I.tuple h2
    have z:=SeqAt.RcAt.tuples (A:=A) p1 p2 (by (first|lia|omega)) (e:=λ_=>true) (ziq l l2 r1 r2 ih e2 hu)
    rw[ziy,ψg,ψg,← r1.length,← r2.length,l,l2,beq_self_eq_true,Bool.and_self] at z
    exact SeqAt.EqAt.of_refs hpq z
def zxi(K:ψa):R2:=λx y H Q=>∃n ts,n≤60∧(zfz K H (n+1) (.lst ts) x∧zfz K H (n+1) (.lst ts) y∨zfz K H (n+1) (.tup ts) x∧zfz K H (n+1) (.tup ts) y)∧Q (.bl false) H
theorem zmh(hu:X.A.units+64<cLine):OpR X (compareOp .NotEq) (zxi X.K):=by
 intro pins s σ H x y v u Q I rx ry h
 obtain⟨n,ts,hn,h,q⟩:=h
 have hu':X.A.units+(n+1)<cLine:=by (first|lia|omega)
 rcases h with ⟨h1,h2⟩ | ⟨h1,h2⟩
 ·cases h1 with
  | @lst _ p xs _ a1 a2 a3 =>
   cases h2 with
   | @lst _ p' ys _ b1 b2 b3 =>
    cases rx
    cases ry
    obtain⟨us,r1,p1,_⟩:=I.list a1
    obtain⟨vs,r2,p2,_⟩:=I.list b1
    have z:=SeqAt.RcNeAt.lists (A:=X.A) p1.isList p2.isList (by rw[ψg,ψg,← r1.length,← r2.length,a2,b2]) (by (first|lia|omega)) (e:=λ_=>true) (ziq a2 b2 r1 r2 (λi x t e1 e2=>zrQ I (a3 i x t e1 e2)) b3 hu')
    rw[ziy] at z
    exact z X.prog X.w X.xe _ ⟨.bl false,H,I,rfl,q⟩
 ·cases h1 with
  | @tup _ p xs _ a1 a2 a3 =>
   cases h2 with
   | @tup _ p' ys _ b1 b2 b3 =>
    cases rx
    cases ry
    obtain⟨us,r1,p1,_⟩:=I.tuple a1
    obtain⟨vs,r2,p2,_⟩:=I.tuple b1
    have z:=SeqAt.RcNeAt.tuples (A:=X.A) p1 p2 (by (first|lia|omega)) (e:=λ_=>true) (ziq a2 b2 r1 r2 (λi x t e1 e2=>zrQ I (a3 i x t e1 e2)) b3 hu')
    rw[ziy,ψg,ψg,← r1.length,← r2.length,a2,b2,beq_self_eq_true,Bool.and_self] at z
    exact z X.prog X.w X.xe _ ⟨.bl false,H,I,rfl,q⟩
end
end L2
namespace L2
open PySem PySem.Spec PyProof.Rows
section
variable {X:Cx}
end
def zfD(J:It)(g:TG)(tt:TT)(te:TE)(D:Addr)(Q:VK)(σ:St)(H:Hp):Prop:=∃W:Nat→Nat→St→Hp→Prop,(∃m,W 0 m σ H)∧∀i m σc Hc,W i m σc Hc →
 (J.stop i Hc∧Q (.ref D) Hc)∨(J.go i Hc∧∃N:St→Hp→Prop,(∀σ' H',N σ' H'→∃m',m'<m∧W (i+1) m' σ' H')∧∀x H',J.yld i Hc x H'→g x σc H' λσ2 H2=>tt σ2 H2 λb H3=>if b=true then te σ2 H3 λy H4=>zb8 (.ref D) [y] H4 λ_ H5=>N σ2 H5 else N σ2 H3)
theorem zt3{wi:TI}{g:TG}{tt:TT}{te:TE}{cap:List (Option Nat)}{σ:St}{H:Hp}{Q:VK}:zb1 wi g tt te cap σ H Q=wi σ H λJ H1=>∀D,H1 D=none→zfD J g tt te D Q (zud cap σ) (upd H1 D (.lst [])):=rfl
theorem zcz{K:ψa}{a:Addr}{xs:List V}{g:TG}{tt:TT}{te:TE}{σ:St}{H:Hp}{D:Addr}{Q:VK}(Pv:Nat→List V→St→Hp→Prop)(h0:Pv 0 [] σ (upd H D (.lst [])))(hl:∀i ys σ H,i≤xs.length→Pv i ys σ H→SqL K H a xs)
  (hs:∀i x ys σ H,xs[i]?=some x→H D=some (.lst ys)→Pv i ys σ H→g x σ H λσ2 H2=>tt σ2 H2 λb H3=>if b=true then te σ2 H3 λy H4=>zb8 (.ref D) [y] H4 λ_ H5=>∃ys,H5 D=some (.lst ys)∧Pv (i+1) ys σ2 H5 else ∃ys,H3 D=some (.lst ys)∧Pv (i+1) ys σ2 H3)
  (hd:∀ys σ H,H D=some (.lst ys)→Pv xs.length ys σ H→Q (.ref D) H):zfD (Itl K a) g tt te D Q σ (upd H D (.lst [])):=zr6 Pv h0 hl hs hd
theorem zek{lo:Int}{n:Nat}{g:TG}{tt:TT}{te:TE}{σ:St}{H:Hp}{D:Addr}{Q:VK}(Pv:Nat→List V→St→Hp→Prop)(h0:Pv 0 [] σ (upd H D (.lst [])))
  (hs:∀i ys σ H,i<n→H D=some (.lst ys)→Pv i ys σ H→g (.int (lo+i)) σ H λσ2 H2=>tt σ2 H2 λb H3=>if b=true then te σ2 H3 λy H4=>zb8 (.ref D) [y] H4 λ_ H5=>∃ys,H5 D=some (.lst ys)∧Pv (i+1) ys σ2 H5 else ∃ys,H3 D=some (.lst ys)∧Pv (i+1) ys σ2 H3)
  (hd:∀ys σ H,H D=some (.lst ys)→Pv n ys σ H→Q (.ref D) H):zfD (Itr lo n) g tt te D Q σ (upd H D (.lst [])):=zpK Pv h0 hs hd
theorem zhj{K:ψa}{p q:Addr}{xs zs:List V}{g:TG}{tt:TT}{te:TE}{σ:St}{H:Hp}{D:Addr}{Q:VK}(Pv:Nat→List V→St→Hp→Prop)(h0:Pv 0 [] σ (upd H D (.lst [])))
  (hl:∀i ys σ H,i≤min xs.length zs.length→Pv i ys σ H→SqL K H p xs∧SqL K H q zs)
  (hs:∀i x z t ys σ H,xs[i]?=some x→zs[i]?=some z→H D=some (.lst ys)→Pv i ys σ H→H t=none→g (.ref t) σ (upd H t (.tup [x,z])) λσ2 H2=>tt σ2 H2 λb H3=>if b=true then te σ2 H3 λy H4=>zb8 (.ref D) [y] H4 λ_ H5=>∃ys,H5 D=some (.lst ys)∧Pv (i+1) ys σ2 H5 else ∃ys,H3 D=some (.lst ys)∧Pv (i+1) ys σ2 H3)
  (hd:∀ys σ H,H D=some (.lst ys)→Pv (min xs.length zs.length) ys σ H→Q (.ref D) H):zfD (Itz K p q) g tt te D Q σ (upd H D (.lst [])):=zuG Pv h0 hl hs hd
theorem zoP{K:ψa}{p q:Addr}{xs ys:List V}{g:TG}{tb:TS}{D:zlp}{σ:St}{H:Hp}(Pv:Nat→St→Hp→Prop)(h0:Pv 0 σ H)(hl:∀i σ H,i≤min xs.length ys.length→Pv i σ H→SqL K H p xs∧SqL K H q ys)
  (hs:∀i x y t σ H,xs[i]?=some x→ys[i]?=some y→Pv i σ H→H t=none→g (.ref t) σ (upd H t (.tup [x,y])) λσ2 H2=>tb { D with nx:=Pv (i+1),ct:=Pv (i+1),bk:=D.nx } σ2 H2) (hd:∀σ H,Pv (min xs.length ys.length) σ H→D.nx σ H):zpR (Itz K p q) g tb D σ H:=zvT Pv h0 hl hs hd
end L2
namespace My3
open PySem
abbrev zcV(h:Heap)(T:Addr)(a b c:Value):Prop:=h.get? T=some { cls:=.type "tuple",data:=.seq #[a,b,c] }
structure ziX (z TI TO i1 i2 i3 l1 l2 l3:Addr):Prop where
 a1:TI≠z
 a2:TO≠z
 a3:i1≠z
 a4:i2≠z
 a5:i3≠z
 b0:TI≠TO
 b1:TI≠i1
 b2:TI≠i2
 b3:TI≠i3
 c1:TO≠i1
 c2:TO≠i2
 c3:TO≠i3
 d12:i1≠i2
 d13:i1≠i3
 d23:i2≠i3
 e1:∀b∈[z,TO,i1,i2,i3],l1≠b
 e2:∀b∈[z,TO,i1,i2,i3],l2≠b
 e3:∀b∈[z,TO,i1,i2,i3],l3≠b
section
variable {P:Program} {w:World} {A:Around} {E:Value→Shared→Prop} {s:Shared}
theorem zkk{T:Addr}{a b c x:Value}{k:Nat}{R:Unit→Shared→Prop}(g:zcV s.heap T a b c)
  (h:∀h',h'.get? T=some { cls:=.type "tuple",data:=.seq ((#[a,b,c]:Array Value).setIfInBounds k x) }→Heap.SameBut T s.heap h'→R () { s with heap:=h' }):wpAny (model P w) A (updateSeq T (·.setIfInBounds k x)) R E s:=by
 refine wpAny_updateSeq g rfl (h _ ?_ (Heap.SameBut.update ..))
 rw[Heap.get?_update_self _ g rfl];simp[Obj.mapSeq]
theorem ztz{z TI TO i1 i2 i3 l1 l2 l3:Addr}{k:Nat}{xs ys vs:Array Value}{x y v a b c:Value}{R:Value→Shared→Prop}(D:ziX z TI TO i1 i2 i3 l1 l2 l3)
  (gz:IsZip s.heap z TI TO .none) (gI:zcV s.heap TI (.ref i1) (.ref i2) (.ref i3)) (gO:zcV s.heap TO a b c)
  (n1:s.heap.IsListIter i1 l1 k) (n2:s.heap.IsListIter i2 l2 k) (n3:s.heap.IsListIter i3 l3 k) (m1:s.heap.IsList l1 xs) (m2:s.heap.IsList l2 ys) (m3:s.heap.IsList l3 vs) (ex:xs[k]?=some x) (ey:ys[k]?=some y) (ev:vs[k]?=some v)
  (q:∀h',IsZip h' z TI TO (rawInt s.heap.objs.size)→zcV h' TO x y v→h'.IsListIter i1 l1 (k+1)→h'.IsListIter i2 l2 (k+1)→h'.IsListIter i3 l3 (k+1)→zcV h' s.heap.objs.size x y v→h'.objs.size=s.heap.objs.size+1 →
   (∀t o,t∉[z,TO,i1,i2,i3]→s.heap.get? t=some o→h'.get? t=some o)→R (.ref s.heap.objs.size) { s with heap:=h' }) :
  wpAny (model P w) A (Builtin.«zip.__next__» ⟨[.ref z],[]⟩) (λfin s'=>∃v,fin=.done (.ret v)∧R v s') E s:=by
 have lz1:=D.e1 z (by simp);have lO1:=D.e1 TO (by simp);have li11:=D.e1 i1 (by simp)
 have lz2:=D.e2 z (by simp);have lO2:=D.e2 TO (by simp);have li21:=D.e2 i1 (by simp);have li22:=D.e2 i2 (by simp)
 have lz3:=D.e3 z (by simp);have lO3:=D.e3 TO (by simp);have li31:=D.e3 i1 (by simp);have li32:=D.e3 i2 (by simp);have li33:=D.e3 i3 (by simp)
 show wpAny _ _ (field (.ref z) 2 >>= _) _ _ _;refine wpAny_bind (wpAny_field gz rfl (x:=.bool false) rfl ?_);show wpAny _ _ (field (.ref z) 3 >>= _) _ _ _
 refine wpAny_bind (wpAny_field gz rfl (x:=.ref TI) rfl ?_)
 refine wpAny_bind (wpAny_seqItems gI rfl ?_);show wpAny _ _ (Builtin.SmallTypes.ownedTupleIsFree (.ref z) >>= _) _ _ _
 refine wpAny_bind ?_;unfold Builtin.SmallTypes.ownedTupleIsFree
 refine wpAny_bind (wpAny_field gz rfl (x:=.none) rfl (wpAny_pure ?_));simp only[if_true]
 refine wpAny_bind (wpAny_rule ?_);refine wpAny_bind (wpAny_field gz rfl (x:=.ref TO) rfl ?_)
 refine wpAny_bind (wpAny_setField_rec gz (by simp) λh₁ gz₁ q₁=>?_)
 replace gz₁:IsZip h₁ z TI TO .ellipsis:=gz₁
 refine wpAny_bind ?_;simp only[List.zipIdx_cons,List.zipIdx_nil,List.forIn_cons,List.forIn_nil]
 refine wpAny_bind (wpAny_bind (wpAny_onRaise ?_));show wpAny _ _ (Builtin.SmallTypes.nextOf (.ref i1) >>= _) _ _ _
 refine wpAny_bind (wpAny_nextOf_list_item (n1.extBut q₁.extBut D.a3) (m1.extBut q₁.extBut lz1) ex λh₂ n1₂ q₂=>wpAny_pure ?_)
 have gO₂:zcV h₂ TO a b c:=q₂.extBut _ _ D.c1 (q₁.extBut _ _ D.a2 gO)
 refine wpAny_bind (wpAny_seqItems gO₂ rfl ?_)
 refine wpAny_bind (zkk gO₂ λh₃ gO₃ q₃=>?_)
 replace gO₃:zcV h₃ TO x b c:=gO₃
 refine wpAny_bind (wpAny_letGo (wpAny_pure ?_))
 refine wpAny_bind (wpAny_bind (wpAny_onRaise ?_));show wpAny _ _ (Builtin.SmallTypes.nextOf (.ref i2) >>= _) _ _ _
 refine wpAny_bind (wpAny_nextOf_list_item (((n2.extBut q₁.extBut D.a4).extBut q₂.extBut D.d12.symm).extBut q₃.extBut D.c2.symm)
  (((m2.extBut q₁.extBut lz2).extBut q₂.extBut li21).extBut q₃.extBut lO2) ey λh₄ n2₄ q₄=>wpAny_pure ?_)
 have gO₄:zcV h₄ TO x b c:=q₄.extBut _ _ D.c2 gO₃
 refine wpAny_bind (wpAny_seqItems gO₄ rfl ?_)
 refine wpAny_bind (zkk gO₄ λh₅ gO₅ q₅=>?_)
 replace gO₅:zcV h₅ TO x y c:=gO₅
 refine wpAny_bind (wpAny_letGo (wpAny_pure ?_))
 refine wpAny_bind (wpAny_bind (wpAny_onRaise ?_));show wpAny _ _ (Builtin.SmallTypes.nextOf (.ref i3) >>= _) _ _ _
 refine wpAny_bind (wpAny_nextOf_list_item (((((n3.extBut q₁.extBut D.a5).extBut q₂.extBut D.d13.symm).extBut q₃.extBut D.c3.symm).extBut q₄.extBut D.d23.symm).extBut q₅.extBut D.c3.symm)
  (((((m3.extBut q₁.extBut lz3).extBut q₂.extBut li31).extBut q₃.extBut lO3).extBut q₄.extBut li32).extBut q₅.extBut lO3) ev λh₆ n3₆ q₆=>wpAny_pure ?_)
 have gO₆:zcV h₆ TO x y c:=q₆.extBut _ _ D.c3 gO₅
 refine wpAny_bind (wpAny_seqItems gO₆ rfl ?_)
 refine wpAny_bind (zkk gO₆ λh₇ gO₇ q₇=>?_)
 replace gO₇:zcV h₇ TO x y v:=gO₇
 refine wpAny_bind (wpAny_letGo (wpAny_pure (wpAny_pure ?_)))
 refine wpAny_bind (wpAny_seqItems gO₇ rfl ?_)
 refine wpAny_bind (wpAny_newTuple ?_)
 have sz:h₇.objs.size=s.heap.objs.size:=by rw[q₇.1,q₆.1,q₅.1,q₄.1,q₃.1,q₂.1,q₁.1]
 have gz₇:IsZip h₇ z TI TO .ellipsis:=q₇.extBut _ _ D.a2.symm (q₆.extBut _ _ D.a5.symm (q₅.extBut _ _ D.a2.symm (q₄.extBut _ _ D.a4.symm (q₃.extBut _ _ D.a2.symm (q₂.extBut _ _ D.a3.symm gz₁)))))
 have kp:∀t o,t∉[z,TO,i1,i2,i3]→s.heap.get? t=some o→h₇.get? t=some o:=λt o ht e=>by
  simp only[ψP,ψF,or_false,not_or] at ht
  obtain⟨t1,t2,t3,t4,t5⟩:=ht
  exact q₇.extBut _ _ t2 (q₆.extBut _ _ t5 (q₅.extBut _ _ t2 (q₄.extBut _ _ t4 (q₃.extBut _ _ t2 (q₂.extBut _ _ t3 (q₁.extBut _ _ t1 e))))))
 have n1₇:h₇.IsListIter i1 l1 (k+1):=((((n1₂.extBut q₃.extBut D.c1.symm).extBut q₄.extBut D.d12).extBut q₅.extBut D.c1.symm).extBut q₆.extBut D.d13).extBut q₇.extBut D.c1.symm
 have n2₇:h₇.IsListIter i2 l2 (k+1):=((n2₄.extBut q₅.extBut D.c2.symm).extBut q₆.extBut D.d23).extBut q₇.extBut D.c2.symm
 have n3₇:h₇.IsListIter i3 l3 (k+1):=n3₆.extBut q₇.extBut D.c3.symm
 have zlt:z<h₇.objs.size:=Heap.lt_size gz₇
 show wpAny _ _ (Builtin.SmallTypes.ownedTupleHandOut (.ref z) (.ref h₇.objs.size) >>= _) _ _ _;refine wpAny_bind ?_;unfold Builtin.SmallTypes.ownedTupleHandOut
 have gz₈:IsZip (h₇.push { cls:=.type "tuple",data:=.seq #[x,y,v] }) z TI TO .ellipsis:=Heap.get?_push_of_some _ gz₇
 refine wpAny_bind (wpAny_setField_rec gz₈ (by simp) λh₉ gz₉ q₉=>?_)
 replace gz₉:IsZip h₉ z TI TO (rawInt h₇.objs.size):=gz₉
 refine wpAny_setField_rec gz₉ (by simp) λhA gzA qA=>?_
 replace gzA:IsZip hA z TI TO (rawInt h₇.objs.size):=gzA
 have up:∀t o,t≠z→h₇.get? t=some o→hA.get? t=some o:=λt o t1 e=>qA.extBut _ _ t1 (q₉.extBut _ _ t1 (Heap.get?_push_of_some _ e))
 have gT:zcV hA h₇.objs.size x y v:=qA.extBut _ _ (ψG1 zlt) (q₉.extBut _ _ (ψG1 zlt) (Heap.get?_push_size _ rfl))
 have szA:hA.objs.size=h₇.objs.size+1:=by rw[qA.1,q₉.1,Heap.size_push]
 rw[sz] at gzA gT szA
 refine wpAny_pure ⟨_,rfl,?_⟩;show R (.ref h₇.objs.size) _;rw[sz]
 exact q hA gzA (up _ _ D.a2 gO₇) (n1₇.at λo e=>up _ o D.a3 e) (n2₇.at λo e=>up _ o D.a4 e) (n3₇.at λo e=>up _ o D.a5 e) gT szA λt o ht e=>up t o (λh=>ht (by simp[h])) (kp t o ht e)
theorem zv7{z TI TO i1 i2 i3 l1 l2 l3:Addr}{k:Nat}{xs:Array Value}{R:Fin→Shared→Prop}(hh:A.handled=none)(D:ziX z TI TO i1 i2 i3 l1 l2 l3)
  (gz:IsZip s.heap z TI TO .none) (gI:zcV s.heap TI (.ref i1) (.ref i2) (.ref i3)) (n1:s.heap.IsListIter i1 l1 k) (m1:s.heap.IsList l1 xs) (ex:xs[k]?=none)
  (q:∀h' e,(∀t o,t∉[z,TO,i1,i2,i3]→s.heap.get? t=some o→h'.get? t=some o)→(∃o,h'.get? e=some o∧o.cls=.type "StopIteration")→E (.ref e) { s with heap:=h' }) :
  wpAny (model P w) A (Builtin.«zip.__next__» ⟨[.ref z],[]⟩) R E s:=by
 have lz1:=D.e1 z (by simp)
 show wpAny _ _ (field (.ref z) 2 >>= _) _ _ _;refine wpAny_bind (wpAny_field gz rfl (x:=.bool false) rfl ?_);show wpAny _ _ (field (.ref z) 3 >>= _) _ _ _
 refine wpAny_bind (wpAny_field gz rfl (x:=.ref TI) rfl ?_)
 refine wpAny_bind (wpAny_seqItems gI rfl ?_);show wpAny _ _ (Builtin.SmallTypes.ownedTupleIsFree (.ref z) >>= _) _ _ _
 refine wpAny_bind ?_;unfold Builtin.SmallTypes.ownedTupleIsFree
 refine wpAny_bind (wpAny_field gz rfl (x:=.none) rfl (wpAny_pure ?_));simp only[if_true]
 refine wpAny_bind (wpAny_rule ?_);refine wpAny_bind (wpAny_field gz rfl (x:=.ref TO) rfl ?_)
 refine wpAny_bind (wpAny_setField_rec gz (by simp) λh₁ gz₁ q₁=>?_)
 replace gz₁:IsZip h₁ z TI TO .ellipsis:=gz₁
 refine wpAny_bind ?_;simp only[List.zipIdx_cons,List.zipIdx_nil,List.forIn_cons,List.forIn_nil]
 refine wpAny_bind (wpAny_bind (wpAny_onRaise ?_));show wpAny _ _ (Builtin.SmallTypes.nextOf (.ref i1) >>= _) _ _ _
 refine wpAny_bind (wpAny_nextOf_list_end hh (n1.extBut q₁.extBut D.a3) (m1.extBut q₁.extBut lz1) ex λh₂ e q₂ he=>?_)
 obtain⟨oe,g1,g2⟩:=he
 have gz₂:IsZip h₂ z TI TO .ellipsis:=q₂ _ _ D.a3.symm gz₁
 have nz:e≠z:=λx=>by subst x;rw[gz₂] at g1;cases g1;simp at g2
 refine wpAny_setField_rec gz₂ (by simp) λh₃ _ q₃=>q h₃ e (λt o ht x=>?_) ⟨oe,q₃.extBut _ _ nz g1,g2⟩
 have t1:t≠z:=λh=>ht (by simp[h])
 have t3:t≠i1:=λh=>ht (by simp[h])
 exact q₃.extBut _ _ t1 (q₂ _ _ t3 (q₁.extBut _ _ t1 x))
theorem zpL{z TI TO i1 i2 i3 l1 l2 l3:Addr}{k:Nat}{xs ys vs:Array Value}{x y v a b c:Value}{R:Option Value→Shared→Prop}(D:ziX z TI TO i1 i2 i3 l1 l2 l3)
  (gz:IsZip s.heap z TI TO .none) (gI:zcV s.heap TI (.ref i1) (.ref i2) (.ref i3)) (gO:zcV s.heap TO a b c)
  (n1:s.heap.IsListIter i1 l1 k) (n2:s.heap.IsListIter i2 l2 k) (n3:s.heap.IsListIter i3 l3 k) (m1:s.heap.IsList l1 xs) (m2:s.heap.IsList l2 ys) (m3:s.heap.IsList l3 vs) (ex:xs[k]?=some x) (ey:ys[k]?=some y) (ev:vs[k]?=some v)
  (q:∀h',IsZip h' z TI TO (rawInt s.heap.objs.size)→zcV h' TO x y v→h'.IsListIter i1 l1 (k+1)→h'.IsListIter i2 l2 (k+1)→h'.IsListIter i3 l3 (k+1)→zcV h' s.heap.objs.size x y v→h'.objs.size=s.heap.objs.size+1 →
   (∀t o,t∉[z,TO,i1,i2,i3]→s.heap.get? t=some o→h'.get? t=some o)→R (some (.ref s.heap.objs.size)) { s with heap:=h' }) :
  wpAny (model P w) A (pyNext (.ref z)) R E s:=by
 have ty:s.TypeIs (.ref z) "zip":=⟨_,gz,rfl⟩
 unfold pyNext
 exact wpAny_bind (wpAny_attempt (wpAny_callSpecial?_slot (name:=Str.ofString "__next__") ty F.slot_zip_next (wpAny_call_entry F.slot_zip_next ty F.entry_zip_next
  (ztz D gz gI gO n1 n2 n3 m1 m2 m3 ex ey ev λh' a1 a2 a3 a4 a5 a6 a7 a8=>wpAny_pure (q h' a1 a2 a3 a4 a5 a6 a7 a8)) (F.args_zip_next_1 _))))
theorem zsU{z TI TO i1 i2 i3 l1 l2 l3:Addr}{k:Nat}{xs:Array Value}{R:Option Value→Shared→Prop}(hh:A.handled=none)(D:ziX z TI TO i1 i2 i3 l1 l2 l3)
  (gz:IsZip s.heap z TI TO .none) (gI:zcV s.heap TI (.ref i1) (.ref i2) (.ref i3)) (n1:s.heap.IsListIter i1 l1 k) (m1:s.heap.IsList l1 xs) (ex:xs[k]?=none)
  (q:∀h',(∀t o,t∉[z,TO,i1,i2,i3]→s.heap.get? t=some o→h'.get? t=some o)→R none { s with heap:=h' }):wpAny (model P w) A (pyNext (.ref z)) R E s:=by
 have ty:s.TypeIs (.ref z) "zip":=⟨_,gz,rfl⟩
 unfold pyNext
 refine wpAny_bind (wpAny_attempt (wpAny_callSpecial?_slot (name:=Str.ofString "__next__") ty F.slot_zip_next (wpAny_call_entry F.slot_zip_next ty F.entry_zip_next (zv7 hh D gz gI n1 m1 ex λh' e hk he=>?_) (F.args_zip_next_1 _))))
 obtain⟨o,h1,h2⟩:=he
 exact wpAny_bind (wpAny_isInstance (T:="StopIteration") (b:=true) ⟨o,h1,h2⟩ isSubtype_stop (wpAny_pure (q _ hk)))
theorem zrp(a b c:Value):checkTypeCall "zip" ⟨[a,b,c],[]⟩=pure ():=by kernel_rfl
theorem zuN(a b c:Value):checkBuiltinCall "zip.__new__" ⟨[.type "zip",a,b,c],[]⟩=pure ():=by kernel_rfl
theorem zsD(a b c d:Value):argsOk "object.__init__" ⟨[a,b,c,d],[]⟩:=by
 unfold argsOk;rw[signature?_of (id:="object.__init__") (n:="__tini__".toList) (o:="tcejbo".toList) (by kernel_rfl) F.owner_object];kernel_rfl
abbrev it0(l:Addr):Obj:={ cls:=.type "list_iterator",data:=.fields #[.ref l,.int 0 0] }
abbrev zh1(h:Heap)(l1:Addr):Heap:=h.push (it0 l1)
abbrev zh2(h:Heap)(l1 l2:Addr):Heap:=(zh1 h l1).push (it0 l2)
abbrev zh3(h:Heap)(l1 l2 l3:Addr):Heap:=(zh2 h l1 l2).push (it0 l3)
abbrev zh4(h:Heap)(l1 l2 l3:Addr):Heap:=(zh3 h l1 l2 l3).push { cls:=.type "tuple",data:=.seq #[.ref h.objs.size,.ref (zh1 h l1).objs.size,.ref (zh2 h l1 l2).objs.size] }
abbrev zh5(h:Heap)(l1 l2 l3:Addr):Heap:=(zh4 h l1 l2 l3).push { cls:=.type "tuple",data:=.seq #[.none,.none,.none] }
abbrev zh6(h:Heap)(l1 l2 l3:Addr):Heap:=(zh5 h l1 l2 l3).push { cls:=.type "zip",data:=.fields #[.none,.bool false,.bool false,.ref (zh3 h l1 l2 l3).objs.size,.ref (zh4 h l1 l2 l3).objs.size] }
theorem new3(l1 l2 l3:Addr)(xs ys vs:Array Value) :
  Meets (Builtin.«zip.__new__» ⟨[.type "zip",.ref l1,.ref l2,.ref l3],[]⟩) (λ_ R s=>s.heap.IsList l1 xs∧s.heap.IsList l2 ys∧s.heap.IsList l3 vs ∧
   R (.ok (.ret (.ref (zh5 s.heap l1 l2 l3).objs.size))) { s with heap:=zh6 s.heap l1 l2 l3 }) :=
 .of_wp λprog w A R s h=>by
  obtain⟨hp,g,d,tk,os⟩:=s;obtain⟨m1,m2,m3,h⟩:=h
  have hsub:=sub_zip
  have k1:Heap.IsList (Shared.heap ⟨hp,g,d,tk,os⟩) l1 xs:=m1
  have k2:Heap.IsList (Shared.heap ⟨hp.push { cls:=.type "list_iterator",data:=.fields #[.ref l1,.int 0 0] },g,d,tk,os⟩) l2 ys:=Heap.IsList.push m2 _
  have k3:Heap.IsList (Shared.heap ⟨(hp.push { cls:=.type "list_iterator",data:=.fields #[.ref l1,.int 0 0] }).push { cls:=.type "list_iterator",data:=.fields #[.ref l2,.int 0 0] },g,d,tk,os⟩) l3 vs:=Heap.IsList.push (Heap.IsList.push m3 _) _
  wp_walk using wpAny_pyIter_list k1,wpAny_pyIter_list k2,wpAny_pyIter_list k3
  exact⟨_,rfl,h⟩
theorem call3{l1 l2 l3:Addr}{xs ys vs:Array Value}{R:Value→Shared→Prop}(m1:s.heap.IsList l1 xs)(m2:s.heap.IsList l2 ys)(m3:s.heap.IsList l3 vs)
  (h:∀(h':Heap) (n:Nat),n=s.heap.objs.size→IsZip h' (n+5) (n+3) (n+4) .none→zcV h' (n+3) (.ref n) (.ref (n+1)) (.ref (n+2))→zcV h' (n+4) .none .none .none→h'.IsListIter n l1 0→h'.IsListIter (n+1) l2 0→h'.IsListIter (n+2) l3 0 →
   (∀c o,s.heap.get? c=some o→h'.get? c=some o)→R (.ref (n+5)) { s with heap:=h' }) :
  wpAny (model P w) A (call (.type "zip") [.ref l1,.ref l2,.ref l3]) R E s:=by
 refine callType_new F.called_zip (by decide) (zrp _ _ _) (zuN _ _ _) (λobj=>zsD obj _ _ _) F.entry_zip_new (new3 l1 l2 l3 xs ys vs) ⟨m1,m2,m3,?_⟩
 have z1:(zh1 s.heap l1).objs.size=s.heap.objs.size+1:=Heap.size_push ..
 have z2:(zh2 s.heap l1 l2).objs.size=s.heap.objs.size+2:=by rw[Heap.size_push,z1]
 have z3:(zh3 s.heap l1 l2 l3).objs.size=s.heap.objs.size+3:=by rw[Heap.size_push,z2]
 have z4:(zh4 s.heap l1 l2 l3).objs.size=s.heap.objs.size+4:=by rw[Heap.size_push,z3]
 have z5:(zh5 s.heap l1 l2 l3).objs.size=s.heap.objs.size+5:=by rw[Heap.size_push,z4]
 have on:∀{hh:Heap} {a:Addr} {o o':Obj},hh.get? a=some o→(hh.push o').get? a=some o:=λe=>Heap.get?_push_of_some _ e
 have y6:(zh6 s.heap l1 l2 l3).get? (zh5 s.heap l1 l2 l3).objs.size=some _:=Heap.get?_push_size _ rfl
 have y5:(zh6 s.heap l1 l2 l3).get? (zh4 s.heap l1 l2 l3).objs.size=some _:=on (Heap.get?_push_size _ rfl)
 have y4:(zh6 s.heap l1 l2 l3).get? (zh3 s.heap l1 l2 l3).objs.size=some _:=on (on (Heap.get?_push_size _ rfl))
 have y3:(zh6 s.heap l1 l2 l3).get? (zh2 s.heap l1 l2).objs.size=some _:=on (on (on (Heap.get?_push_size _ rfl)))
 have y2:(zh6 s.heap l1 l2 l3).get? (zh1 s.heap l1).objs.size=some _:=on (on (on (on (Heap.get?_push_size _ rfl))))
 have y1:(zh6 s.heap l1 l2 l3).get? s.heap.objs.size=some _:=on (on (on (on (on (Heap.get?_push_size _ rfl)))))
 show _∧_
 rw[z3,z4,z5] at y6
 rw[z4] at y5
 rw[z1,z2,z3] at y4
 rw[z2] at y3
 rw[z1] at y2
 rw[z5]
 exact⟨⟨_,y6,rfl⟩,h _ _ rfl y6 y4 y5 ⟨_,y1,rfl,rfl⟩ ⟨_,y2,rfl,rfl⟩ ⟨_,y3,rfl,rfl⟩ λc o x=>on (on (on (on (on (on x)))))⟩
end
end My3
namespace L2
open PySem PySem.Spec PyProof.Rows My3
def Itz3(K:ψa)(p q r:Addr):It where
 go:=λi H=>∃xs ys zs a b c,SqL K H p xs∧SqL K H q ys∧SqL K H r zs∧xs[i]?=some a∧ys[i]?=some b∧zs[i]?=some c
 yld:=λi H x H'=>∃t a b c,x=.ref t∧H t=none∧H'=upd H t (.tup [a,b,c])∧(∀xs,SqL K H p xs→xs[i]?=some a)∧(∀ys,SqL K H q ys→ys[i]?=some b)∧∀zs,SqL K H r zs→zs[i]?=some c
 stop:=λi H=>∃xs,SqL K H p xs∧i=xs.length
def tn3(z TI TO i1 i2 i3 p q r:Addr)(i:Nat)(h:Heap):Prop:=IsZip h z TI TO .none∧zcV h TI (.ref i1) (.ref i2) (.ref i3)∧(∃a b c,zcV h TO a b c)∧h.IsListIter i1 p i∧h.IsListIter i2 q i∧h.IsListIter i3 r i
theorem zu4{z TI TO i1 i2 i3 p q r:Addr}{i:Nat}{h h':Heap}(st:tn3 z TI TO i1 i2 i3 p q r i h)(k:∀b∈[z,TI,TO,i1,i2,i3],∀o,h.get? b=some o→h'.get? b=some o):tn3 z TI TO i1 i2 i3 p q r i h':=by
 obtain⟨a1,a2,⟨x,y,v,a3⟩,a4,a5,a6⟩:=st
 exact⟨k z (by simp) _ a1,k TI (by simp) _ a2,⟨x,y,v,k TO (by simp) _ a3⟩,a4.at λo e=>k i1 (by simp) o e,a5.at λo e=>k i2 (by simp) o e,a6.at λo e=>k i3 (by simp) o e⟩
theorem zlw{z TI TO i1 i2 i3 p q r:Addr}{i:Nat}{h:Heap}(st:tn3 z TI TO i1 i2 i3 p q r i h):∀b∈[z,TI,TO,i1,i2,i3],∃o,h.get? b=some o∧∀v,o.data≠.cell v:=λb hb=>by
 obtain⟨a1,a2,⟨x,y,v,a3⟩,⟨o4,a4,_,d4⟩,⟨o5,a5,_,d5⟩,⟨o6,a6,_,d6⟩⟩:=st
 simp only[ψP,ψF,or_false] at hb
 rcases hb with rfl | rfl | rfl | rfl | rfl | rfl
 ·exact⟨_,a1,zcj rfl⟩
 ·exact⟨_,a2,λv z=>nomatch (show Data.seq _ _=Data.cell v from z)⟩
 ·exact⟨_,a3,λv z=>nomatch (show Data.seq _ _=Data.cell v from z)⟩
 ·exact⟨_,a4,zcj d4⟩
 ·exact⟨_,a5,zcj d5⟩
 ·exact⟨_,a6,zcj d6⟩
theorem zs2{P:Program}{w:World}{K:ψa}{elts:List Expr}{k:Nat}{pos:Pos}{z TI TO i1 i2 i3 p q r:Addr}(D:ziX z TI TO i1 i2 i3 p q r):zxH P w K (.Tuple elts k pos) (Itz3 K p q r) [z,TI,TO,i1,i2,i3] z (tn3 z TI TO i1 i2 i3 p q r) where
 mem:=by simp
 obj:=λi h st=>zlw st
 keep:=λi h h' st kk=>zu4 st kk
 item:=by
  intro X hP hw hK hc i pins s σ H E I hf st hg
  subst hP hw hK
  obtain⟨xs,ys,zs,a,b,c,hx,hy,hz,ea,eb,ec⟩:=hg
  obtain⟨its1,r1,pl1,z1⟩:=I.list hx
  obtain⟨its2,r2,pl2,z2⟩:=I.list hy
  obtain⟨its3,r3,pl3,z3⟩:=I.list hz
  obtain⟨ua,eua,rua⟩:=r1.get ea
  obtain⟨ub,eub,rub⟩:=r2.get eb
  obtain⟨uc,euc,ruc⟩:=r3.get ec
  have there:=zlw st
  obtain⟨s1,s2,⟨x0,y0,v0,s3⟩,s4,s5,s6⟩:=st
  refine zpL D s1 s2 s3 s4 s5 s6 pl1.isList pl2.isList pl3.isList (by simpa using eua) (by simpa using eub) (by simpa using euc) λh' a1 a2 a3 a4 a5 aT asz kk=>⟨_,rfl,?_⟩
  refine wpAny_letOwnedTupleGo_zip a1 λh2 gz2 q2=>?_
  have sub:∀b∈[z,TO,i1,i2,i3],b∈[z,TI,TO,i1,i2,i3]:=λb hb=>by
   simp only[ψP,ψF,or_false] at hb ⊢
   rcases hb with h | h | h | h | h <;> simp[h]
  have I1:Inv X pins σ H { s with heap:=h2 }:=I.turns (t':=s.toks) (ch:=[z,TO,i1,i2,i3]) (λb o hb e=>q2.extBut _ _ (λx=>hb (by simp[x])) (kk b o hb e)) λb hb=>hf b (sub b hb)
  have hT:s.heap.objs.size≤s.heap.objs.size:=ψj _
  have nT:H s.heap.objs.size=none:=I.hok.fresh hT
  have zT:s.heap.objs.size≠z:=ψG1 (Heap.lt_size s1)
  have I2:=I1.track (a:=s.heap.objs.size) (o:=.tup [a,b,c]) nT (Heap.get?_none_of_le (ψb1 I.sz hT)) (ψG1 (ψr I.lt hT)) (λx c e=>by
   obtain⟨v,q⟩:=I.cell x c e
   exact ψs (ψr q.lt hT)) (λp hp=>ψs (ψr (Heap.lt_size (I.pin p hp).1) hT)) (by
   refine⟨by show 3≤sizeLine;decide,[ua,ub,uc],.cons rua (.cons rub (.cons ruc .nil)),?_⟩
   exact⟨_,q2.extBut _ _ zT aT,rfl,_,rfl⟩)
  refine⟨.ref s.heap.objs.size,_,I2,rfl,⟨s.heap.objs.size,a,b,c,rfl,nT,rfl,λxs' h'=>?_,λys' h'=>?_,λzs' h'=>?_⟩,?_,λb hb=>?_⟩
  ·rw[I.list_inj h' hx];exact ea
  ·rw[I.list_inj h' hy];exact eb
  ·rw[I.list_inj h' hz];exact ec
  ·have nTI:TI∉[z,TO,i1,i2,i3]:=by
    simp only[ψP,ψF,or_false,not_or]
    exact⟨D.a1,D.b0,D.b1,D.b2,D.b3⟩
   exact⟨gz2,q2.extBut _ _ D.a1 (kk _ _ nTI s2),⟨_,_,_,q2.extBut _ _ D.a2 a2⟩,a3.extBut q2.extBut D.a3,a4.extBut q2.extBut D.a4,a5.extBut q2.extBut D.a5⟩
  ·obtain⟨o,e,_⟩:=there b hb
   rw[zaM (ψs (ψr (Heap.lt_size e) hT))]
   exact(hf b hb).1
 done:=by
  intro X hP hw hK hc i pins s σ H E I hf st hg
  subst hP hw hK
  obtain⟨xs,hx,rfl⟩:=hg
  obtain⟨its1,r1,pl1,z1⟩:=I.list hx
  obtain⟨s1,s2,s3,s4,s5,s6⟩:=st
  have sub:∀b∈[z,TO,i1,i2,i3],b∈[z,TI,TO,i1,i2,i3]:=λb hb=>by
   simp only[ψP,ψF,or_false] at hb ⊢
   rcases hb with h | h | h | h | h <;> simp[h]
  refine zsU (I.ok.hd hc) D s1 s2 s4 pl1.isList (by rw[r1.length];simp) λh' kk=>⟨rfl,I.turns (t':=s.toks) (ch:=[z,TO,i1,i2,i3]) (λb o hb e=>kk b o hb e) λb hb=>hf b (sub b hb)⟩
 self:=λA i s Q E st h=>wpAny_pyIter_zip st.1 h
def zxC(K:ψa)(ta:TA):TI:=λσ H R=>ta σ H λvs H1=>∃p q r,vs=[.ref p,.ref q,.ref r]∧(∃xs,SqL K H1 p xs)∧(∃ys,SqL K H1 q ys)∧(∃zs,SqL K H1 r zs)∧R (Itz3 K p q r) H1
theorem vals3{a b c:V}{us:List Value}(r:zcH [a,b,c] us):∃u v w,us=[u,v,w]∧zdp a u∧zdp b v∧zdp c w:=by
 cases r with
 | cons r1 r=>cases r with
  | cons r2 r=>cases r with
   | cons r3 r=>cases r;exact⟨_,_,_,rfl,r1,r2,r3⟩
theorem zgj(n:Nat){a b:Nat}(h:a≠b):n+a≠n+b:=by (first|lia|omega)
theorem zje(n:Nat){b:Nat}(h:0<b):n≠n+b:=by (first|lia|omega)
theorem zqP{n l:Nat}(h:l<n):∀b∈[n+5,n+4,n,n+1,n+2],l≠b:=λb hb=>by
 simp only[ψP,ψF,or_false] at hb
 (first|lia|omega)
theorem zpk{n l1 l2 l3:Nat}(h1:l1<n)(h2:l2<n)(h3:l3<n):ziX (n+5) (n+3) (n+4) n (n+1) (n+2) l1 l2 l3 :=
 ⟨zgj n (by decide),zgj n (by decide),zje n (by decide),zgj n (by decide),zgj n (by decide),zgj n (by decide),(zje n (by decide)).symm,zgj n (by decide),zgj n (by decide),(zje n (by decide)).symm,zgj n (by decide),zgj n (by decide),zje n (by decide),zje n (by decide),zgj n (by decide),zqP h1,zqP h2,zqP h3⟩
theorem zv5{X:Cx}{a b c:Expr}{elts:List Expr}{k:Nat}{tp p pos:Pos}{ta:TA}(hg:Gl X "zip")(hm:X.mg "zip"=none)(ha:PA X [a,b,c] ta)(hs:starEach [a,b,c] X.env=[(false,eval a X.env),(false,eval b X.env),(false,eval c X.env)]:=by rfl)(hs2:starEach [b,c] X.env=[(false,eval b X.env),(false,eval c X.env)]:=by rfl) :
  PI X (.Tuple elts k tp) (.Call (.Name "zip" p) [a,b,c] [] pos) (zxC X.K ta):=by
 intro pins s σ H R I h
 refine Call_ (zic I hg hm boot_zip (ψo1 (thn (ha pos pins s σ H _ I h) λus s1 hQ'=>?_) (by rw[hs,hs2]) (by rw[hs2];rfl)))
 obtain⟨vs,H1,I1,r1,q1⟩:=hQ'
 obtain⟨p1,p2,p3,rfl,⟨xs,hx⟩,⟨ys,hy⟩,⟨zs,hz⟩,q⟩:=q1
 obtain⟨u,v,w,rfl,ru,rv,rw'⟩:=vals3 r1
 cases ru
 cases rv
 cases rw'
 obtain⟨its1,_,pl1,_⟩:=I1.list hx
 obtain⟨its2,_,pl2,_⟩:=I1.list hy
 obtain⟨its3,_,pl3,_⟩:=I1.list hz
 have a1:p1<s1.heap.objs.size:=by obtain⟨_,e,_⟩:=pl1.isList;exact Heap.lt_size e
 have a2:p2<s1.heap.objs.size:=by obtain⟨_,e,_⟩:=pl2.isList;exact Heap.lt_size e
 have a3:p3<s1.heap.objs.size:=by obtain⟨_,e,_⟩:=pl3.isList;exact Heap.lt_size e
 refine call3 pl1.isList pl2.isList pl3.isList λh' n hn gz gI gO n1 n2 n3 hk=>?_
 refine wpAny_pyIter_zip gz ?_
 have D:ziX (n+5) (n+3) (n+4) n (n+1) (n+2) p1 p2 p3:=zpk (by rw[hn];exact a1) (by rw[hn];exact a2) (by rw[hn];exact a3)
 refine⟨_,_,_,_,H1,rfl,I1.kept (t':=s1.toks) hk,zs2 D,⟨gz,gI,⟨_,_,_,gO⟩,n1,n2,n3⟩,λb hb=>?_,q⟩
 have hb':s1.heap.objs.size≤b:=by
  rw[← hn]
  simp only[ψP,ψF,or_false] at hb
  rcases hb with h | h | h | h | h | h <;> rw[h] <;> first | exact ψj _ | exact Nat.le_add_right _ _
 exact I1.fpOk hb' (I1.hok.fresh hb')
end L2
namespace L2
open PySem PySem.Spec PyProof.Rows
def zts:List V→Option (List Value)
 | []=>some []
 | v::vs=>(clsV v).bind λc=>(zts vs).map λcs=>c::cs
theorem zmw:∀{vs:List V} {us cs:List Value},zcH vs us→zts vs=some cs→us=cs
 | [],_,cs,.nil,h=>by cases h;rfl
 | v::vs,_,cs,.cons r t,h=>by
  unfold zts at h
  obtain⟨c,h1,h2⟩:=Option.bind_eq_some_iff.mp h
  obtain⟨ds,h3,rfl⟩:=Option.map_eq_some_iff.mp h2
  rw[zop r h1,zmw t h3]
section
variable {X:Cx}
end
end L2
namespace L2
open PySem PySem.Spec PyProof.Rows
section
variable {X:Cx}
theorem zru:∀{xs:List V} {us:List Value},xs.length=us.length→(∀(j:Nat) x u,xs[j]?=some x→us[j]?=some u→zdp x u)→zcH xs us
 | [],[],_,_=>.nil
 | [],_::_,h,_=>by simp at h
 | _::_,[],h,_=>by simp at h
 | x::xs,u::us,h,r=>.cons (r 0 x u rfl rfl) (zru (by simpa using h) λj y v e1 e2=>r (j+1) y v e1 e2)
end
end L2
namespace L2
open PySem PySem.Spec PyProof.Rows
section
variable {X:Cx}
theorem zo5:∀{ns:List Int} {us:List Value},zcH (ns.map V.int) us→IntsAre us ns
 | [],_,r=>by rw[ψm1] at r;cases r;exact .nil
 | n::ns,_,r=>by
  rw[ψD] at r
  cases r with
  | cons h t =>
   obtain⟨t',rfl⟩:=h
   exact .cons _ _ (zo5 t)
theorem zmr:∀{ns:List Int} {us:List Value},IntsAre us ns→zcH (ns.map V.int) us
 | _,_,.nil=>.nil
 | _,_,.cons n t r=>.cons ⟨t,rfl⟩ (zmr r)
theorem zpZ{pins:List (Addr×Obj)}{σ:St}{H:Hp}{s:Shared}{l:Addr}{h':Heap}{tk:Nat}{out:Array Value}{e:Nat}{ns':List Int}{Q:VK}(I:Inv X pins σ H s)(kp:∀b o,s.heap.get? b=some o→h'.get? b=some o)(hlt:s.heap.objs.size≤l)
  (ho:h'.get? l=some (seqObj "list" out e)) (hI:IntsAre out.toList ns') (hl:ns'.length<64) (q:H l=none→Q (.ref l) (upd H l (.lst (ns'.map V.int)))):EP X pins σ Q (.ref l) { s with heap:=h',toks:=tk }:=by
 refine⟨.ref l,_,I.laid (t':=tk) kp hlt (show zdU X.prog X.w _ h' _ (.lst (ns'.map V.int)) from⟨?_,out.toList,e,zmr hI,ho⟩),rfl,q (I.hok.fresh hlt)⟩
 rw[ψb,sizeLine_eq]
 (first|lia|omega)
end
end L2
namespace L2
open PySem PySem.Spec PyProof.Rows
theorem zeF(K:ψa):ψw1 K (.type "tuple") (.type "list")=some false:=by first | rfl | kernel_rfl
theorem zhh(K:ψa):ψw1 K (.type "int") (.type "tuple")=some false:=by first | rfl | kernel_rfl
theorem zfs(K:ψa):ψw1 K (.type "int") (.type "list")=some false:=by first | rfl | kernel_rfl
theorem zlM{K:ψa}{H:Hp}{Q:VK}{x:V}{t c:String}{b:Bool}(h:zpa K H x (.type t))(e:ψw1 K (.type t) (.type c)=some b)(q:Q (.bl b) H):zhy K [x,.ty c] H Q:=⟨_,_,_,_,b,rfl,rfl,.of h,e,q⟩
end L2
namespace L2
open PySem PySem.Spec PyProof.Rows
def zpe(scope sc:Scope):Scope :=
 { scope with names:=scope.names.map λ(n,k)=>if (k == .free&&sc.kind == .function&&sc.names.lookup n == some .cell) then (n,.cell) else (n,k) }
theorem zjc:∀(names:List (Str×NameKind)) (n:Addr) (a cl:List (Str×Addr)),cellsFrom n names (a++cl)=cellsFrom n names a++cl
 | [],n,a,cl=>by unfold cellsFrom;rfl
 | (x,k)::r,n,a,cl=>by
  unfold cellsFrom
  split
  ·exact zjc r (n+1) ((x,n)::a) cl
  ·exact zjc r n a cl
theorem zi5:∀(names:List (Str×NameKind)) (n:Addr) (a:List (Str×Addr)) (x:Str) (c:Addr),(x,c)∈cellsFrom n names a→(x,c)∈a∨(x,NameKind.cell)∈names
 | [],n,a,x,c,h=>by unfold cellsFrom at h;exact .inl h
 | (y,k)::r,n,a,x,c,h=>by
  unfold cellsFrom at h
  split at h
  ·rename_i hk
   rcases zi5 r (n+1) ((y,n)::a) x c h with q | q
   ·rcases List.mem_cons.mp q with e | q
    ·cases e
     refine .inr ?_
     have:k=NameKind.cell:=by simpa using hk
     rw[this]
     exact ψe
    ·exact .inl q
   ·exact .inr (ψd _ q)
  ·rcases zi5 r n a x c h with q | q
   ·exact .inl q
   ·exact .inr (ψd _ q)
theorem zmB{M:Model}{A:Around}{E:Value→Shared→Prop}{s:Shared}{scope:Scope}{globals:Addr}{cl:List (Str×Addr)}{qual:Str}{outer:Env}{Q:Env→Shared→Prop}
  (hQ:Q (newEnv scope s.heap.objs.size globals (cellsFrom (s.heap.objs.size+1) scope.names []++cl) qual none .none (some outer) builtinsNs) { s with heap:=pushCells (s.heap.push { cls:=.type "dict",data:=.dict #[] }) scope.names }) :
  wpAny M A (newFunctionEnv scope globals cl [] qual none .none (some outer)) Q E s:=by
 simp only[newFunctionEnv,Option.isSome_some,if_true]
 refine wpAny_bind (wpAny_alloc ?_)
 refine wpAny_bind (wpAny_layCells _ (λname kind cells=>by cases hkc:kind == NameKind.cell <;> simp[hkc]) _ _ _ _ ?_)
 rw[show({ s with heap:=s.heap.push { cls:=.type "dict",data:=.dict #[] } }:Shared).heap.objs.size=s.heap.objs.size+1 from Heap.size_push ..]
 have e:=zjc scope.names (s.heap.objs.size+1) [] cl
 rw[List.nil_append] at e
 rw[e]
 refine wpAny_bind ?_
 rw[List.forIn_nil]
 exact wpAny_pure (wpAny_pure hQ)
def Cx.blkC(X:Cx)(Nc:List Str)(scope:Scope)(cl:List (Str×Addr))(s:Shared)(H:Hp)(fp:List Addr):Cx:={ X with
 N:=Nc,s₀:=s,H₀:=H,env:=compEnvC scope (cellsFrom (s.heap.objs.size+1) scope.names []++cl) s.heap.objs.size X.env,outer:=X.stack,stack:=X.stack,ex:=fp,fn:=λx=>scope.names.lookup x == some .cell,pn:=[],xe:=λ_ _=>False }
theorem zvL{X:Cx}{Nc:List Str}{scope:Scope}{cl:List (Str×Addr)}{s:Shared}{H:Hp}{fp:List Addr}:(X.blkC Nc scope cl s H fp).env.scope=zpe scope X.env.scope:=rfl
structure zlr (sc:Scope) (N Nc:List Str) (cap:List (Option Nat)) (scope:Scope):Prop where
 kind:scope.kind=.function
 free:∀y∈scope.names,y.2=.free→sc.names.lookup y.1=some .cell∨sc.names.lookup y.1=some .free
 once:∀y∈scope.names,scope.names.lookup y.1=some y.2
 nd:Nc.Nodup
 len:cap.length=Nc.length
 cap:∀(i:Nat) (y:Str) (j:Nat),Nc[i]?=some y→cap[i]?=some (some j)→N[j]?=some y∧scope.names.lookup y=some .free
def zqs(sc:Scope)(N Nc:List Str)(cap:List (Option Nat))(scope:Scope):Bool :=
 scope.kind == .function&&scope.names.all (λy=>scope.names.lookup y.1 == some y.2&&(y.2 != .free || sc.names.lookup y.1 == some .cell || sc.names.lookup y.1 == some .free))&&decide Nc.Nodup&&cap.length == Nc.length
  && (Nc.zip cap).all λp=>p.2.all λj=>N[j]? == some p.1&&scope.names.lookup p.1 == some .free
theorem zlr.of{sc:Scope}{N Nc:List Str}{cap:List (Option Nat)}{scope:Scope}(h:zqs sc N Nc cap scope=true):zlr sc N Nc cap scope:=by
 unfold zqs at h
 simp only[ψQ,beq_iff_eq,ψu1,bne_iff_ne,ne_eq,Bool.or_eq_true,decide_eq_true_eq] at h
 obtain⟨⟨⟨⟨h1,h2⟩,h3⟩,h4⟩,h5⟩:=h
 refine⟨h1,λy hy hf=>?_,λy hy=>(h2 y hy).1,h3,h4,λi y j e1 e2=>?_⟩
 ·rcases(h2 y hy).2 with (q | q) | q
  ·exact absurd hf q
  ·exact .inl q
  ·exact .inr q
 ·have m:(y,some j)∈Nc.zip cap:=by
   refine ψN (i:=i) ?_
   rw[ψO]
   exact⟨e1,e2⟩
  have z:=h5 _ m
  simpa using z
section
variable {X:Cx} {pins:List (Addr×Obj)} {σ:St} {H:Hp} {s:Shared}
structure zvx (scope:Scope) (cl:List (Str×Addr)) (L:Addr) (h1:Heap):Prop where
 look:∀x c,(cellsFrom (L+1) scope.names []++cl).lookup x=some c→(L<c∧h1.IsCell c none∧scope.names.lookup x=some .cell∧(cellsFrom (L+1) scope.names []).lookup x=some c)∨(cl.lookup x=some c∧(cellsFrom (L+1) scope.names []).lookup x=none)
 new:∀x,scope.names.lookup x=some .cell→∃c,(cellsFrom (L+1) scope.names []++cl).lookup x=some c
 old:∀x c,scope.names.lookup x=some .free→cl.lookup x=some c→(cellsFrom (L+1) scope.names []++cl).lookup x=some c
 inj:∀x y c,(cellsFrom (L+1) scope.names []).lookup x=some c→(cellsFrom (L+1) scope.names []).lookup y=some c→x=y
theorem ztR{scope:Scope}{cl:List (Str×Addr)}{h:Heap}(once:∀y∈scope.names,scope.names.lookup y.1=some y.2):zvx scope cl h.objs.size (pushCells (h.push { cls:=.type "dict",data:=.dict #[] }) scope.names):=by
 have ok:=cellsFrom_ok scope.names (h.push { cls:=.type "dict",data:=.dict #[] }) (h.objs.size+1) [] ⟨λ_ _ hm=>(nomatch hm),List.Pairwise.nil⟩ (by rw[Heap.size_push];exact ψj _)
 rw[Heap.size_push] at ok
 have kinds:∀x c,(cellsFrom (h.objs.size+1) scope.names []).lookup x=some c→scope.names.lookup x=some .cell:=λx c e=>by
  rcases zi5 _ _ _ _ _ (ψE e) with q | q
  ·cases q
  ·exact once _ q
 refine⟨λx c e=>?_,λx e=>?_,λx c e1 e2=>?_,λx y c e1 e2=>name_of_addr ok.apart (ψE e1) (ψE e2)⟩
 ·rw[List.lookup_append] at e
  cases q:(cellsFrom (h.objs.size+1) scope.names []).lookup x with
  | none=>rw[q] at e;exact .inr ⟨e,rfl⟩
  | some d =>
   rw[q] at e
   cases e
   obtain⟨o1,o2⟩:=ok.empty x c (ψE q)
   exact .inl ⟨o2,o1,kinds x c q,rfl⟩
 ·obtain⟨c,q⟩:=ziA (n:=h.objs.size+1) e
  exact⟨c,by rw[List.lookup_append,q];rfl⟩
 ·rw[List.lookup_append]
  cases q:(cellsFrom (h.objs.size+1) scope.names []).lookup x with
  | none=>exact e2
  | some d =>
   have:=kinds x d q
   rw[e1] at this
   cases this
theorem zuO{Nc:List Str}{cap:List (Option Nat)}{scope:Scope}{cl:List (Str×Addr)}{fp:List Addr}{h1:Heap}{tk:Nat}{m1:Str→Option Value}(I:Inv X pins σ H s)(B:zlr X.env.scope X.N Nc cap scope)
  (hsub:∀x c,cl.lookup x=some c→X.env.cells.lookup x=some c) (hfr:∀y∈scope.names,y.2=.free→∃c,cl.lookup y.1=some c) (hf:∀b∈fp,zlR X pins H b) (hin:∀b∈fp,b<s.heap.objs.size)
  (hk:∀b o,s.heap.get? b=some o→h1.get? b=some o) (hn:h1.Ns s.heap.objs.size m1) (C:zvx scope cl s.heap.objs.size h1):Inv (X.blkC Nc scope cl s H fp) [] (zud cap σ) H { s with heap:=h1,toks:=tk }:=by
 have ok:=I.ok
 have bsz:X.base.objs.size≤s.heap.objs.size:=ψb1 ok.bsz I.sz
 have oldlt:∀x c,cl.lookup x=some c→c<s.heap.objs.size:=λx c e=>by
  obtain⟨v,q⟩:=I.cell x c (hsub x c e)
  exact q.lt
 refine⟨⟨ok.mod,B.kind,ok.glob,ok.blt,ψj _,λx y c h1 h2=>?_,λx hx=>?_,λx c z e=>?_,ok.hd,ok.frames,.inl rfl,λb hb=>⟨ψs (hin b hb),λx c e=>?_⟩,
  I.bs,bsz,λb o e hb=>?_,λb hb z=>?_,I.stack,I.stkFree⟩,rfl,I.bare,Un.kept hk,⟨m1,hn,λi y v e1 e2 e3=>?_⟩,λx c e=>?_,I.hok.fresh (ψj _),λx c e=>?_,(by intro p hp;cases hp),I.hok.kept hk,?_⟩
 ·rcases C.look x c h1 with ⟨a1,_,_,a4⟩ | ⟨a,_⟩ <;> rcases C.look y c h2 with ⟨b1,_,_,b4⟩ | ⟨b,_⟩
  ·exact C.inj x y c a4 b4
  ·exact absurd (ψQ1 a1 (oldlt y c b)) (ψr1 _)
  ·exact absurd (ψQ1 b1 (oldlt x c a)) (ψr1 _)
  ·exact ok.inj x y c (hsub x c a) (hsub y c b)
 ·have fr:∀x,scope.names.lookup x=some .free→∃c,(cellsFrom (s.heap.objs.size+1) scope.names []++cl).lookup x=some c:=λx q=>by
   obtain⟨c,e⟩:=hfr (x,.free) (ψE q) rfl
   exact⟨c,C.old x c q e⟩
  have look:∀k,(relabel scope X.env).names.lookup x=some k→k=.cell∨k=.free→∃c,(cellsFrom (s.heap.objs.size+1) scope.names []++cl).lookup x=some c:=λk q hk=>by
   rcases zc3 q with ⟨n1,n2⟩ | ⟨_,n2 | n2⟩
   ·rcases hk with r | r
    ·exact absurd r n1
    ·rw[r] at n2
     exact fr x n2
   ·exact C.new x n2
   ·exact fr x n2
  rcases hx with q | q
  ·exact look _ q (.inl rfl)
  ·exact look _ q (.inr rfl)
 ·obtain⟨c3,q3⟩:=ziA (n:=s.heap.objs.size+1) (show scope.names.lookup x=some .cell from beq_iff_eq.mp z)
  rcases C.look x c e with ⟨a1,_⟩ | ⟨_,b⟩
  ·exact Nat.le_of_lt a1
  ·rw[q3] at b
   cases b
 ·rcases C.look x c e with ⟨a1,_⟩ | ⟨a,_⟩
  ·exact ψG1 (ψQ1 (hin b hb) a1)
  ·exact(hf b hb).2.2.2.2.1 x c (hsub x c a)
 ·rcases(hf b hb).2.2.2.1 with q | q
  ·exact ok.noex b o e q
  ·exact absurd (ψr (Heap.lt_size e) (ψb1 ok.bsz q)) (ψr1 _)
 ·rcases List.mem_cons.mp (I.stkSub b z) with q | q
  ·exact(hf b hb).2.1 q
  ·exact(hf b hb).2.2.1 q
 ·have e2':(cap[i]?).map (λo=>o.bind λj=>(σ[j]?).join)=some (some v):=by rw[← ψt];exact e2
  obtain⟨o,ho,eo⟩:=Option.map_eq_some_iff.mp e2'
  obtain⟨j,rfl,ej⟩:=Option.bind_eq_some_iff.mp eo
  have ej':σ[j]?=some (some v):=by
   cases q:σ[j]? with
   | none=>rw[q] at ej;cases ej
   | some z=>rw[q] at ej;cases ej;rfl
  obtain⟨c1,c2⟩:=B.cap i y j e1 ho
  have vis:=B.free (y,.free) (ψE c2) rfl
  obtain⟨m,_,hl⟩:=I.loc
  obtain⟨u,r,lk⟩:=hl j y v c1 ej' (.inr vis)
  obtain⟨c',ec⟩:=hfr (y,.free) (ψE c2) rfl
  have ec2:=hsub _ _ ec
  rcases lk with ⟨kl,_⟩ | ⟨_,c,e,z⟩
  ·have kl':X.env.scope.names.lookup y=some .local:=kl
   rcases vis with q | q
   ·have q':X.env.scope.names.lookup y=some .cell:=q
    rw[kl'] at q';cases q'
   ·have q':X.env.scope.names.lookup y=some .free:=q
    rw[kl'] at q';cases q'
  ·have ecc:X.env.cells.lookup y=some c':=ec2
   rw[e] at ecc
   cases ecc
   refine⟨u,r,.inr ⟨?_,_,C.old y _ c2 ec,?_⟩⟩
   ·rcases e3 with q | q | q
    ·rcases zc3 q with ⟨_,n2⟩ | ⟨n1,_⟩
     ·rw[c2] at n2;cases n2
     ·cases n1
    ·exact .inl q
    ·exact .inr q
   ·obtain⟨o,ho,hd⟩:=z
    exact⟨o,hk _ _ ho,hd⟩
 ·rcases C.look x c e with ⟨_,a2,_⟩ | ⟨a,_⟩
  ·exact⟨none,a2⟩
  ·obtain⟨v,o,ho,hd⟩:=I.cell x c (hsub x c a)
   exact⟨v,o,hk _ _ ho,hd⟩
 ·rcases C.look x c e with ⟨a1,_⟩ | ⟨a,_⟩
  ·exact I.hok.fresh (Nat.le_of_lt a1)
  ·exact I.freeC x c (hsub x c a)
 ·show(zud cap σ).length=Nc.length
  rw[zud,ψb,B.len]
theorem zuS{Nc:List Str}{scope:Scope}{cl:List (Str×Addr)}{fp:List Addr}{σc:St}{Hc:Hp}{s':Shared}{h':Heap}(I:Inv X pins σ H s)(hf:∀b∈fp,zlR X pins H b)(J:Inv (X.blkC Nc scope cl s H fp) [] σc Hc s')
  (hs:Heap.SameBut s.heap.objs.size s'.heap h'):Inv X pins σ Hc { s' with heap:=h' }:=by
 have ne:∀b o,s.heap.get? b=some o→b≠s.heap.objs.size:=λb o e=>ψs (Heap.lt_size e)
 have u:=J.base
 refine I.call' (ch:=fp) J.os ⟨λb o e n hb hx=>(hs.2 b (ne b o e)).trans (u.keep b o e n hb hx),λb o e n hb hx=>?_,u.free,λb o e hx=>?_,u.tups,u.frzs,u.tbls⟩ (λb ob e=>?_) J.bare λb hb=>⟨(hf b hb).2.2.2.1,(hf b hb).2.1,(hf b hb).2.2.2.2.1,(hf b hb).2.2.2.2.2⟩
 ·obtain⟨sl,q⟩:=u.slot b o e n hb hx
  exact⟨sl,(hs.2 b (ne b o e)).trans q⟩
 ·obtain⟨o',q⟩:=u.there b o e hx
  exact⟨o',(hs.2 b (ne b o e)).trans q⟩
 ·have hC:Hc s.heap.objs.size=none:=J.free
  refine(J.hok b ob e).stay (λc w' hc q=>(hs.2 c ?_).trans q) (λ_ q=>q) λ_ _ q=>q
  rintro rfl
  rcases hc with z | hc
  ·rw[← z,hC] at e;cases e
  ·rw[hC] at hc;cases hc
end
theorem zpE{X:Cx}{pins:List (Addr×Obj)}{s:Shared}{σ:St}{H:Hp}{Q:VK}{sc:Scope}{N Nc:List Str}{cap:List (Option Nat)}{elt tg iter:Expr}{ifs:List Expr}{scope:Scope}{pos pos':Pos}{wi:TI}{g:TG}{tt:TT}{te:TE}{use:Option (Value→Sem Unit)}{QQ:Value→Shared→Prop}
  (hc:X.calm=true) (hsc:X.env.scope=sc) (hN:X.N=N) (B:zlr sc N Nc cap scope) (hi:PI X tg iter wi)
  (hg:∀cl s H fp,PG (X.blkC Nc scope cl s H fp) tg g) (ht:∀cl s H fp,PTs (X.blkC Nc scope cl s H fp) ifs tt) (he:∀cl s H fp,PE (X.blkC Nc scope cl s H fp) elt te)
  (hs:∀x,foldedSetIterable iter X.env x=pure x) (I:Inv X pins σ H s) (h:zb1 wi g tt te cap σ H Q)
  (fin:∀(s3:Shared) (H3:Hp) (cl:List (Str×Addr)) (fp:List Addr) (D:Addr) (σc:St) (Hc:Hp) (s6:Shared),Inv X pins σ H3 s3→(∀b∈fp,zlR X pins H3 b)→Inv (X.blkC Nc scope cl s3 H3 fp) [] σc Hc s6→Q (.ref D) Hc→compPost (model X.prog X.w) X.A X.xe use QQ (.ref D) s3.heap.objs.size (.ok .next) s6) :
  wpAny (model X.prog X.w) X.A (comprehension (.ListComp elt [⟨tg,iter,ifs,0⟩] scope pos) scope X.env pos' (newList []) false (eval iter X.env) use) QQ X.xe s:=by
 subst hsc hN
 obtain⟨cl,hclos,hsub,hfr⟩:=zjT (scope:=scope) (env:=X.env) λy hy hf=>I.ok.has y.1 (B.free y hy hf)
 refine wpAny_comprehension_free (use:=use) rfl hs hclos B.kind (λy hy hl=>by rw[B.once y hy,hl]) (thn (hi pins s σ H _ I h) λv s1 h1=>thn h1 λitv s2 h2=>?_)
 obtain⟨it,fp,tn,J,H2,rfl,I2,T,st2,f2,hw⟩:=h2
 refine wpAny_newObj_type ?_
 have hfree:H2 s2.heap.objs.size=none:=I2.hok.fresh (ψj _)
 have I3:=I2.laid (t':=s2.toks) (o:=.lst []) (λb u e=>Heap.get?_push_of_some { cls:=.type "list",dict:=none,data:=.seq ([]:List Value).toArray } e) (ψj _) ⟨by decide,[],0,.nil,Heap.get?_push_size _ rfl⟩
 obtain⟨W,⟨m0,w0⟩,zpo⟩:=hw _ hfree
 have keep23:∀b o,s2.heap.get? b=some o→(s2.heap.push { cls:=.type "list",dict:=none,data:=.seq ([]:List Value).toArray }).get? b=some o:=λb o e=>Heap.get?_push_of_some _ e
 have hin:∀b∈fp,b<s2.heap.objs.size:=λb hb=>let ⟨o,e,_⟩:=T.obj 0 _ st2 b hb;Heap.lt_size e
 have f3:∀b∈fp,zlR X pins (upd H2 s2.heap.objs.size (.lst [])) b:=λb hb=>⟨by rw[zaM (ψs (hin b hb))];exact(f2 b hb).1,(f2 b hb).2⟩
 have st3:=T.keep 0 _ _ st2 λb _ o e=>keep23 b o e
 have hin3:∀b∈fp,b<(s2.heap.push { cls:=.type "list",dict:=none,data:=.seq ([]:List Value).toArray }).objs.size:=λb hb=>let ⟨o,e,_⟩:=T.obj 0 _ st3 b hb;Heap.lt_size e
 clear keep23 hin
 generalize s2.heap.push { cls:=.type "list",dict:=none,data:=.seq ([]:List Value).toArray }=h3 at I3 st3 hin3 ⊢
 generalize upd H2 s2.heap.objs.size (.lst [])=H3 at I3 f3 w0
 generalize s2.heap.objs.size=D at hfree w0 zpo ⊢
 refine zmB ?_
 have Cc:=ztR (scope:=scope) (cl:=cl) (h:=h3) B.once
 have keep:∀b o,h3.get? b=some o→(pushCells (h3.push { cls:=.type "dict",data:=.dict #[] }) scope.names).get? b=some o:=λb o e=>pushCells_keeps _ _ b o (Heap.get?_push_of_some _ e)
 have hns:(pushCells (h3.push { cls:=.type "dict",data:=.dict #[] }) scope.names).Ns h3.objs.size λ_=>none:=(Heap.Ns.new h3 (.type "dict")).keeps (pushCells_keeps _ _)
 dsimp only
 generalize pushCells (h3.push { cls:=.type "dict",data:=.dict #[] }) scope.names=h1 at Cc keep hns ⊢
 have I4:=zuO (tk:=s2.toks) I3 B hsub hfr f3 hin3 keep hns Cc
 have st4:=T.keep 0 _ _ st3 λb _ o e=>keep b o e
 have stat:∀{H':Hp},(∀b∈fp,H' b=none)→∀b∈fp,zlR (X.blkC Nc scope cl { s2 with heap:=h3,toks:=s2.toks } H3 fp) [] H' b:=λhn b hb =>
  ⟨hn b hb,ψs (hin3 b hb),λz=>by
   rcases List.mem_cons.mp (I3.stkSub b z) with q | q
   ·exact(f3 b hb).2.1 q
   ·exact(f3 b hb).2.2.1 q,.inl hb,λx c e=>by
   rcases Cc.look x c e with ⟨a1,_⟩ | ⟨a,_⟩
   ·exact ψG1 (ψQ1 (hin3 b hb) a1)
   ·exact(f3 b hb).2.2.2.2.1 x c (hsub x c a),by intro p hp;cases hp⟩
 have hcb:(X.blkC Nc scope cl { s2 with heap:=h3,toks:=s2.toks } H3 fp).calm=true:=hc
 have loop:codeAny (model X.prog X.w) X.A (.compLoop (.ListComp elt [⟨tg,iter,ifs,0⟩] scope pos) 0 (.ref it) (.ref D) (compEnvC scope (cellsFrom (h3.objs.size+1) scope.names []++cl) h3.objs.size X.env)) (compPost (model X.prog X.w) X.A X.xe use QQ (.ref D) h3.objs.size) { s2 with heap:=h1,toks:=s2.toks }:=by
  refine zhW (λn s'=>∃i σ' H',Inv (X.blkC Nc scope cl { s2 with heap:=h3,toks:=s2.toks } H3 fp) [] σ' H' s'∧tn i s'.heap∧(∀b∈fp,H' b=none)∧W i n σ' H') rfl ?_ m0 ⟨0,_,H3,I4,st4,λb hb=>(f3 b hb).1,w0⟩
  rintro n s5 ⟨i,σ5,H5,I5,st5,fr5,w5⟩
  rcases zpo i n σ5 H5 w5 with ⟨stop,qn⟩ | ⟨go,N',hN',step⟩
  ·refine thn (T.done (X.blkC Nc scope cl { s2 with heap:=h3,toks:=s2.toks } H3 fp) rfl rfl rfl hcb i [] s5 σ5 H5 _ I5 (stat fr5) st5 stop) λr s6 hQ'=>?_
   obtain⟨hr,I6⟩:=hQ'
   subst hr
   exact fin { s2 with heap:=h3,toks:=s2.toks } H3 cl fp D σ5 H5 s6 I3 f3 I6 qn
  ·refine thn (T.item (X.blkC Nc scope cl { s2 with heap:=h3,toks:=s2.toks } H3 fp) rfl rfl rfl hcb i [] s5 σ5 H5 _ I5 (stat fr5) st5 go) λr s6 hQ'=>?_
   obtain⟨u,hr,h6⟩:=hQ'
   subst hr
   refine thn h6 λ_ s7 hQ'=>?_
   obtain⟨x,H7,I7,r7,y7,st7,fr7⟩:=hQ'
   have I7':=I7.pinned (stat fr7) (T.obj _ _ st7)
   refine wpAny_mono (hg cl _ H3 fp _ s7 σ5 H7 x u _ I7' r7 (step x H7 y7)) (λ_ s8 hQ'=>?_) λ_ _ z=>z.elim
   obtain⟨σ8,H8,I8,q8⟩:=hQ'
   have again:∀{H9:Hp} {s9:Shared} {m:Nat},Inv (X.blkC Nc scope cl { s2 with heap:=h3,toks:=s2.toks } H3 fp) ([]++zjO fp s7.heap) σ8 H9 s9→m<n→W (i+1) m σ8 H9→∃m,m<n∧∃i σ' H',Inv (X.blkC Nc scope cl { s2 with heap:=h3,toks:=s2.toks } H3 fp) [] σ' H' s9∧tn i s9.heap∧(∀b∈fp,H' b=none)∧W i m σ' H':=fun {H9 s9 m} I9 hm w9=>by
    refine⟨m,hm,i+1,σ8,H9,I9.unpinned,T.keep _ _ _ st7 λb hb o e=>(I9.pin (b,o) (ψA _ (ψA _ (zd7 hb e)))).1,λb hb=>?_,w9⟩
    obtain⟨o,e,d⟩:=T.obj _ _ st7 b hb
    exact(I9.pin (b,o) (ψA _ (ψA _ (zd7 hb e)))).2.1
   refine wpAny_mono (ht cl _ H3 fp _ s8 σ8 H8 _ I8 q8) (λb s9 hQ'=>?_) λ_ _ z=>z.elim
   obtain⟨H9,I9,q9⟩:=hQ'
   cases b with
   | false =>
    rw[if_neg (by decide)] at q9
    obtain⟨m',hm,w9⟩:=hN' _ _ q9
    exact again I9 hm w9
   | true =>
    rw[if_pos rfl] at q9
    refine wpAny_mono (he cl _ H3 fp _ s9 σ8 H9 _ I9 q9) (λu s10 hQ'=>?_) λ_ _ z=>z.elim
    obtain⟨y,H10,I10,r10,q10⟩:=hQ'
    refine wpAny_mono (zdj (X:=X.blkC Nc scope cl { s2 with heap:=h3,toks:=s2.toks } H3 fp) _ s10 σ8 H10 (.ref D) [y] (.ref D) [u] _ I10 rfl (.cons r10 .nil) q10) (λ_ s11 hQ'=>?_) λ_ _ z=>z.elim
    obtain⟨_,H11,I11,_,q11⟩:=hQ'
    obtain⟨m',hm,w11⟩:=hN' _ _ q11
    exact again I11 hm w11
 exact codeAny_compStart_list loop (T.self _ 0 _ _ _ st4 loop)
theorem znF{X:Cx}{i:Nat}{y:Str}{py spos:Pos}{sc:Scope}{N Nc:List Str}{cap:List (Option Nat)}{elt tg iter:Expr}{ifs:List Expr}{scope:Scope}{pos:Pos}{wi:TI}{g:TG}{tt:TT}{te:TE}(hnd:X.N.Nodup)(hix:X.N[i]?=some y)(hl:X.env.scope.names.lookup y=some .local)
  (hc:X.calm=true) (hsc:X.env.scope=sc) (hN:X.N=N) (B:zlr sc N Nc cap scope) (hi:PI X tg iter wi)
  (hg:∀cl s H fp,PG (X.blkC Nc scope cl s H fp) tg g) (ht:∀cl s H fp,PTs (X.blkC Nc scope cl s H fp) ifs tt) (he:∀cl s H fp,PE (X.blkC Nc scope cl s H fp) elt te)
  (hsw:swapsWith (.ListComp elt [⟨tg,iter,ifs,0⟩] scope pos) (some (.Name y py)) spos.line X.env=pure true:=by rfl)
  (hs:∀x,foldedSetIterable iter X.env x=pure x:=by intro _;rfl):PS X (.Assign [.Name y py] (.ListComp elt [⟨tg,iter,ifs,0⟩] scope pos) spos) (zbS (zb1 wi g tt te cap) (zam i)):=by
 intro pins s σ H D0 I h
 rw[exec_Assign_Name_used _ _ _ _ hsw]
 refine wpAny_bind (wpAny_standAt (wpAny_bind (wpAny_bind (thn (zpE (use:=some (assign (.Name y py) X.env)) (QQ:=λ_ s'=>SP X pins D0 .next s') hc hsc hN B hi hg ht he hs I h λs3 H3 cl fp D σc Hc s6 I3 f3 I6 q=>?_) λ_ s' hq=>wpAny_pure (wpAny_pure hq)))))
 have I6x:Inv X pins σ Hc s6:=zuS I3 f3 I6 (Heap.SameBut.refl ..)
 obtain⟨m,hn,_⟩:=id I6.loc
 have hC:Hc s3.heap.objs.size=none:=I6.free
 have fpC:=I3.fpOk (b:=s3.heap.objs.size) (ψj _) hC
 refine wpAny_assign_Name (ziY I6x hnd hix (.inl hl) (v:=.ref D) rfl (λs7 I7 ch=>?_) (.inr hl))
 obtain⟨a,same,ha⟩:=ch
 have nC:s3.heap.objs.size≠a:=by
  rcases ha with r | r
  ·rw[r];exact fpC.2.1
  ·exact(fpC.2.2.2.2.1 _ _ r).symm
 refine⟨m,hn.sameBut same nC,λh' hs'=>⟨_,_,I7.turns (t':=s7.toks) (ch:=[s3.heap.objs.size]) (λb o hb e=>(hs'.2 b (by simpa using hb)).trans e) λb hb=>?_,q⟩⟩
 have e:b=s3.heap.objs.size:=by simpa using hb
 rw[e]
 exact fpC
end L2
namespace L2
open PySem PySem.Spec PyProof.Rows
def rNeI(K:ψa):R2:=λx y H Q=>∃(a b:Addr) (ns ms:List Int),x=.ref a∧y=.ref b∧SqL K H a (ns.map V.int)∧SqL K H b (ms.map V.int)∧Q (.bl (!decide (ns=ms))) H
section
variable {X:Cx}
theorem zjm:∀{ns:List Int} {us:List Value},zcH (ns.map V.int) us→IntsAre us ns
 | [],_,r=>by rw[ψm1] at r;cases r;exact .nil
 | n::ns,_,r=>by
  rw[ψD] at r
  cases r with
  | cons h t =>
   obtain⟨t',rfl⟩:=h
   exact .cons _ _ (zjm t)
theorem zym(hu:X.A.units+64<cLine):OpR X (compareOp .NotEq) (rNeI X.K):=by
 intro pins s σ H x y v u Q I rx ry h
 obtain⟨a,b,ns,ms,rfl,rfl,ha,hb,q⟩:=h
 cases rx
 cases ry
 obtain⟨us,r1,p1,_⟩:=I.list ha
 obtain⟨vs,r2,p2,_⟩:=I.list hb
 exact PySem.W.ke_ne_ints p1.isList p2.isList (zjm r1) (zjm r2) hu ⟨.bl _,H,I,rfl,q⟩
end
end L2
namespace L2
open PySem
theorem zwZ{v:V}{σ:List (Option V)}{H:Hp}{Q:VK}:zac 0 (some v::σ) H Q=Q v H:=by simp[zac]
theorem zwT{x0:Option V}{v:V}{σ:List (Option V)}{H:Hp}{Q:VK}:zac 1 (x0::some v::σ) H Q=Q v H:=by simp[zac]
theorem zw7{x0 x1:Option V}{v:V}{σ:List (Option V)}{H:Hp}{Q:VK}:zac 2 (x0::x1::some v::σ) H Q=Q v H:=by simp[zac]
theorem zxa{x0 x1 x2:Option V}{v:V}{σ:List (Option V)}{H:Hp}{Q:VK}:zac 3 (x0::x1::x2::some v::σ) H Q=Q v H:=by simp[zac]
theorem zxD{x0 x1 x2 x3:Option V}{v:V}{σ:List (Option V)}{H:Hp}{Q:VK}:zac 4 (x0::x1::x2::x3::some v::σ) H Q=Q v H:=by simp[zac]
theorem zvV{x0 x1 x2 x3 x4:Option V}{v:V}{σ:List (Option V)}{H:Hp}{Q:VK}:zac 5 (x0::x1::x2::x3::x4::some v::σ) H Q=Q v H:=by simp[zac]
theorem zv8{x0 x1 x2 x3 x4 x5:Option V}{v:V}{σ:List (Option V)}{H:Hp}{Q:VK}:zac 6 (x0::x1::x2::x3::x4::x5::some v::σ) H Q=Q v H:=by simp[zac]
theorem zwp{x0 x1 x2 x3 x4 x5 x6:Option V}{v:V}{σ:List (Option V)}{H:Hp}{Q:VK}:zac 7 (x0::x1::x2::x3::x4::x5::x6::some v::σ) H Q=Q v H:=by simp[zac]
theorem zxE{x0 x1 x2 x3 x4 x5 x6 x7:Option V}{v:V}{σ:List (Option V)}{H:Hp}{Q:VK}:zac 8 (x0::x1::x2::x3::x4::x5::x6::x7::some v::σ) H Q=Q v H:=by simp[zac]
theorem zwr{x0 x1 x2 x3 x4 x5 x6 x7 x8:Option V}{v:V}{σ:List (Option V)}{H:Hp}{Q:VK}:zac 9 (x0::x1::x2::x3::x4::x5::x6::x7::x8::some v::σ) H Q=Q v H:=by simp[zac]
theorem zug{x0 x1 x2 x3 x4 x5 x6 x7 x8 x9:Option V}{v:V}{σ:List (Option V)}{H:Hp}{Q:VK}:zac 10 (x0::x1::x2::x3::x4::x5::x6::x7::x8::x9::some v::σ) H Q=Q v H:=by simp[zac]
theorem zu1{x0 x1 x2 x3 x4 x5 x6 x7 x8 x9 x10:Option V}{v:V}{σ:List (Option V)}{H:Hp}{Q:VK}:zac 11 (x0::x1::x2::x3::x4::x5::x6::x7::x8::x9::x10::some v::σ) H Q=Q v H:=by simp[zac]
theorem zuP{x0 x1 x2 x3 x4 x5 x6 x7 x8 x9 x10 x11:Option V}{v:V}{σ:List (Option V)}{H:Hp}{Q:VK}:zac 12 (x0::x1::x2::x3::x4::x5::x6::x7::x8::x9::x10::x11::some v::σ) H Q=Q v H:=by simp[zac]
theorem zu3{x0 x1 x2 x3 x4 x5 x6 x7 x8 x9 x10 x11 x12:Option V}{v:V}{σ:List (Option V)}{H:Hp}{Q:VK}:zac 13 (x0::x1::x2::x3::x4::x5::x6::x7::x8::x9::x10::x11::x12::some v::σ) H Q=Q v H:=by simp[zac]
theorem ztQ{x0:Option V}{v:V}{σ:List (Option V)}{H:Hp}{Q:St→Hp→Prop}:zam 0 v (x0::σ) H Q=Q (some v::σ) H:=rfl
theorem ztA{x0 x1:Option V}{v:V}{σ:List (Option V)}{H:Hp}{Q:St→Hp→Prop}:zam 1 v (x0::x1::σ) H Q=Q (x0::some v::σ) H:=rfl
theorem ztW{x0 x1 x2:Option V}{v:V}{σ:List (Option V)}{H:Hp}{Q:St→Hp→Prop}:zam 2 v (x0::x1::x2::σ) H Q=Q (x0::x1::some v::σ) H:=rfl
theorem ztS{x0 x1 x2 x3:Option V}{v:V}{σ:List (Option V)}{H:Hp}{Q:St→Hp→Prop}:zam 3 v (x0::x1::x2::x3::σ) H Q=Q (x0::x1::x2::some v::σ) H:=rfl
theorem zuq{x0 x1 x2 x3 x4:Option V}{v:V}{σ:List (Option V)}{H:Hp}{Q:St→Hp→Prop}:zam 4 v (x0::x1::x2::x3::x4::σ) H Q=Q (x0::x1::x2::x3::some v::σ) H:=rfl
theorem zux{x0 x1 x2 x3 x4 x5:Option V}{v:V}{σ:List (Option V)}{H:Hp}{Q:St→Hp→Prop}:zam 5 v (x0::x1::x2::x3::x4::x5::σ) H Q=Q (x0::x1::x2::x3::x4::some v::σ) H:=rfl
theorem zul{x0 x1 x2 x3 x4 x5 x6:Option V}{v:V}{σ:List (Option V)}{H:Hp}{Q:St→Hp→Prop}:zam 6 v (x0::x1::x2::x3::x4::x5::x6::σ) H Q=Q (x0::x1::x2::x3::x4::x5::some v::σ) H:=rfl
theorem zur{x0 x1 x2 x3 x4 x5 x6 x7:Option V}{v:V}{σ:List (Option V)}{H:Hp}{Q:St→Hp→Prop}:zam 7 v (x0::x1::x2::x3::x4::x5::x6::x7::σ) H Q=Q (x0::x1::x2::x3::x4::x5::x6::some v::σ) H:=rfl
theorem ztt{x0 x1 x2 x3 x4 x5 x6 x7 x8:Option V}{v:V}{σ:List (Option V)}{H:Hp}{Q:St→Hp→Prop}:zam 8 v (x0::x1::x2::x3::x4::x5::x6::x7::x8::σ) H Q=Q (x0::x1::x2::x3::x4::x5::x6::x7::some v::σ) H:=rfl
theorem ztL{x0 x1 x2 x3 x4 x5 x6 x7 x8 x9:Option V}{v:V}{σ:List (Option V)}{H:Hp}{Q:St→Hp→Prop}:zam 9 v (x0::x1::x2::x3::x4::x5::x6::x7::x8::x9::σ) H Q=Q (x0::x1::x2::x3::x4::x5::x6::x7::x8::some v::σ) H:=rfl
theorem zqu{x0 x1 x2 x3 x4 x5 x6 x7 x8 x9 x10:Option V}{v:V}{σ:List (Option V)}{H:Hp}{Q:St→Hp→Prop}:zam 10 v (x0::x1::x2::x3::x4::x5::x6::x7::x8::x9::x10::σ) H Q=Q (x0::x1::x2::x3::x4::x5::x6::x7::x8::x9::some v::σ) H:=rfl
theorem zsR{x0 x1 x2 x3 x4 x5 x6 x7 x8 x9 x10 x11:Option V}{v:V}{σ:List (Option V)}{H:Hp}{Q:St→Hp→Prop}:zam 11 v (x0::x1::x2::x3::x4::x5::x6::x7::x8::x9::x10::x11::σ) H Q=Q (x0::x1::x2::x3::x4::x5::x6::x7::x8::x9::x10::some v::σ) H:=rfl
theorem zs7{x0 x1 x2 x3 x4 x5 x6 x7 x8 x9 x10 x11 x12:Option V}{v:V}{σ:List (Option V)}{H:Hp}{Q:St→Hp→Prop}:zam 12 v (x0::x1::x2::x3::x4::x5::x6::x7::x8::x9::x10::x11::x12::σ) H Q=Q (x0::x1::x2::x3::x4::x5::x6::x7::x8::x9::x10::x11::some v::σ) H:=rfl
theorem zqJ{x0 x1 x2 x3 x4 x5 x6 x7 x8 x9 x10 x11 x12 x13:Option V}{v:V}{σ:List (Option V)}{H:Hp}{Q:St→Hp→Prop}:zam 13 v (x0::x1::x2::x3::x4::x5::x6::x7::x8::x9::x10::x11::x12::x13::σ) H Q=Q (x0::x1::x2::x3::x4::x5::x6::x7::x8::x9::x10::x11::x12::some v::σ) H:=rfl
theorem rI_c{C:Int→Int→Prop}{g:Int→Int→V}{a b:Int}{H:Hp}{Q:VK}:rI C g (.int a) (.int b) H Q=(C a b∧Q (g a b) H):=by simp[rI]
theorem rI0_c{g:Int→Int→V}{a b:Int}{H:Hp}{Q:VK}:rI0 g (.int a) (.int b) H Q=Q (g a b) H:=by simp[rI0]
theorem zzE{K:ψa}{p:Addr}{i:Int}{H:Hp}{Q:VK}:zhx K (.ref p) (.int i) H Q=∃xs,SqL K H p xs∧∃v,atI xs i=some v∧Q v H:=by simp[zhx]
theorem zyO{K:ψa}{p:Addr}{i:Int}{H:Hp}{Q:VK}:zbB K (.ref p) (.int i) H Q=∃xs,SqT K H p xs∧∃v,atI xs i=some v∧Q v H:=by simp[zbB]
theorem ex_bl{c:Bool}{Q:Bool→Prop}:(∃k,V.bl c=V.bl k∧Q k)=Q c:=by simp
theorem zyP{c:Int}{Q:Int→Prop}:(∃k,V.int c=V.int k∧Q k)=Q c:=by simp
theorem zyW{c:Addr}{Q:Addr→Prop}:(∃k,V.ref c=V.ref k∧Q k)=Q c:=by simp
theorem zza{c:Int}{Q:Int→Prop}:(∃k,[V.int c]=[V.int k]∧Q k)=Q c:=by simp
theorem zxY{c:Addr}{Q:Addr→Prop}:(∃k,[V.ref c]=[V.ref k]∧Q k)=Q c:=by simp
end L2
namespace Att
open PySem PySem.W PySem.Calls PyProof.Rows
theorem ziK{x:Int}:∀{ns:List Int},x∈ns→WData.weight (.int x)≤WData.weightAll (ns.map WData.int)
 | [],h=>absurd h (ψF)
 | y::ns,h=>by
  rw[ψD,WData.weightAll]
  rcases List.mem_cons.mp h with e | e
  ·rw[← e]
   (first|lia|omega)
  ·have:=ziK e
   (first|lia|omega)
theorem zwO{ns:List Int}(h:WData.layableAll [WData.list (ns.map WData.int)]=true):∀x∈ns,x.natAbs<2 ^ 2 ^ 20:=by
 intro x hx
 have h1:(WData.list (ns.map WData.int)).layable=true:=(layW_cons h).1
 have h2:WData.weight (.list (ns.map WData.int))≤2 ^ 20:=by
  unfold WData.layable at h1
  rw[ψQ] at h1
  exact of_decide_eq_true h1.2
 rw[WData.weight] at h2
 have h3:=ψb1 (ziK hx) h2
 rw[WData.weight] at h3
 by_cases h0:x=0
 ·subst h0
  exact Nat.two_pow_pos _
 ·rw[if_neg (by simpa using h0)] at h3
  have hn:x.natAbs≠0:=λe=>h0 (Int.natAbs_eq_zero.mp e)
  exact(Nat.log2_lt hn).mp h3
theorem attach_callL{l:OpenLaw}{n:Nat}{q:Program}{loose:List Str}{XP:(Str→Option Value)→Heap→Prop}{YP:World→Heap→Prop}{d:DefRec}
  (hn:l.most=some n) (hdf:d.params.defaults=[])
  (call:∀(w:World) (s₀ s₁:Shared) (mg mb:Str→Option Value) (fa:Addr) (o:Obj) (pm cd doc:Value) (a:Addr) (vs:List Value) (ns:List Int),(∀x∈ns,x.natAbs<2 ^ 2 ^ 20) →
   Ground q loose [] XP w s₀ mg mb s₁.heap→YP w s₁.heap →
   s₁.heap.get? fa=some o→o.data=.func (docDef d.name d.params d.body d.scope pm cd doc)→s₁.heap.CodeRec cd d.name→mg d.name=some (.ref fa) →
   s₁.heap.get? a=some { cls:=.type "list",data:=.seq vs.toArray }→IntsAre vs ns→ns.length≤n→s₁.gens=#[] →
   codeAny (model l.prog w) callerA (.call (.ref fa) ⟨[.ref a],[]⟩) (λr s'=>r=.ok (.ret (.bool true))∧OldK s₁.heap s'.heap∧s'.os=s₁.os∧AllBare s'.gens) s₁) :
  WalkO q loose XP YP l.row.toRowW d [] (λf vs=>PySem.call f vs):=by
 intro w s₀ s₁ mg mb G Y fa o pm cd doc dV kV ho hd hcd hD hmg hg args vals as hpre hlay hrd hwl hlo
 obtain rfl:dV=.none:=Dflts.none hD hdf
 obtain rfl:kV=.none:=Dflts.noKw hD
 obtain⟨a,vs,ns,rfl,rfl,hobj,hints,hlen⟩:=zqj hn hpre hwl
 refine enter_call (codeAny_mono (call w s₀ s₁ mg mb fa o pm cd doc a vs ns (zwO hlay) G Y ho (fd_plain hd) hcd hmg hobj hints hlen hg) λr s' hq=>?_)
 obtain⟨rfl,h2,h3,h4⟩:=hq
 exact⟨.inl ⟨.bool true,.bool true,[],rfl,λ_=>rfl,.bool true,zqZ l _,λ_=>⟨List.Pairwise.nil,λ_ hm=>(nomatch hm)⟩⟩,h2,h3,h4⟩
end Att
namespace L2
open PySem PySem.Spec PyProof.Rows
theorem ztq{l:PySem.W.OpenLaw}{n k:Nat}{q:Program}{loose:List Str}{XP:(Str→Option Value)→Heap→Prop}{YP:World→Heap→Prop}{d:DefRec}{K:Params→ψa}{CX:World→CXT}{sp:World→Sp}{x:Str}
  (hn:l.most=some n) (hn2:n≤sizeLine) (hdf:d.params.defaults=[]) (hr:zll k callerA)
  (hY:∀(w:World) (h:Heap),YP w h→(K w.params).In h)
  (F:∀(w:World) (mg:Str→Option Value) (fa:Addr) (h:Heap),(K w.params).In h→h.Ns mainGlobals mg→mg d.name=some (.ref fa) →
   ∃fd:FuncData,(∀(s:Shared) (u:Value),BindsTo s fd ⟨[u],[]⟩ [(x,u)]) ∧
    ∀base:Heap,(K w.params).In base→base.Ns mainGlobals mg→zci l.prog w (K w.params) mg base (CX w) k fa fd [x] (sp w))
  (hsp:∀(w:World) (H:Hp) (a:Addr) (ns:List Int),(∀x∈ns,x.natAbs<2 ^ 2 ^ 20)→ns.length≤n→Only H→SqL (K w.params) H a (ns.map V.int)→sp w [.ref a] H (λv _=>v=.bl true) λ_ _ _=>False)
  (hCX:∀(w:World) (H:Hp) (s:Shared) (e:Value) (s':Shared),CX w [] H s (λ_ _ _=>False) e s'→False) :
  PySem.W.WalkO q loose XP YP l.row.toRowW d [] (λf vs=>PySem.call f vs):=by
 refine Att.attach_callL hn hdf λw s₀ s₁ mg mb fa o pm cd doc a vs ns hb0 G Y ho hd hcd hmg hobj hints hlen hg=>?_
 have KX:=hY w _ Y
 obtain⟨fd,hb,hF⟩:=F w mg fa _ KX G.T.g hmg
 exact ztx KX G.T.g G.T.b G.T.builtins G.T.nolimit hg hobj hints (ψb1 hlen hn2) hr hF hb (λH hO hS=>hsp w H a ns hb0 hlen hO hS) λH e s'=>hCX w H s₁ e s'
end L2
namespace L2.St
open PySem
def it(m:Nat):Nat→Nat→Nat
 | 0,x=>x
 | n+1,x=>it m n ((x*5+1) % m)
def orb(m:Nat):Nat→Nat→List Nat
 | 0,_=>[]
 | n+1,x=>x::orb m n ((x*5+1) % m)
theorem zo2(m:Nat):∀a b x,it m (a+b) x=it m b (it m a x)
 | 0,b,x=>by rw[Nat.zero_add];rfl
 | a+1,b,x=>by rw[Nat.succ_add];exact zo2 m a b _
theorem znC{m j:Nat}:∀{n x},j∈orb m n x→∃k,k<n∧it m k x=j
 | 0,x,h=>by simp[orb] at h
 | n+1,x,h=>by
  rcases List.mem_cons.mp h with rfl | h
  ·exact⟨0,Nat.succ_pos _,rfl⟩
  ·obtain⟨k,h1,h2⟩:=znC h
   exact⟨k+1,by (first|lia|omega),h2⟩
def Msk(M:Nat):Prop:=M=7∨M=31∨M=127∨M=511
theorem zw1{M:Nat}(h:Msk M):(∀j,j<M+1→j∈orb (M+1) (M+1) 0)∧it (M+1) (M+1) 0=0:=by
 have key:∀m,((ψs1 m).all λj=>(orb m m 0).contains j)=true→∀j,j<m→j∈orb m m 0:=λm e j hj=>by
  have:=List.all_eq_true.mp e j (List.mem_range.mpr hj)
  simpa using this
 rcases h with rfl | rfl | rfl | rfl
 ·exact⟨key 8 (by decide +kernel),by decide +kernel⟩
 ·exact⟨key 32 (by decide +kernel),by decide +kernel⟩
 ·exact⟨key 128 (by decide +kernel),by decide +kernel⟩
 ·exact⟨key 512 (by decide +kernel),by decide +kernel⟩
theorem zxK{M:Nat}(h:Msk M){x j:Nat}(hx:x<M+1)(hj:j<M+1):∃n,n<M+1∧it (M+1) n x=j:=by
 obtain⟨h1,h2⟩:=zw1 h
 obtain⟨a,a1,rfl⟩:=znC (h1 x hx)
 obtain⟨b,b1,rfl⟩:=znC (h1 j hj)
 by_cases c:a≤b
 ·exact⟨b - a,by (first|lia|omega),by rw[← zo2,Nat.add_sub_cancel' c]⟩
 ·refine⟨M+1 - a+b,by (first|lia|omega),?_⟩
  rw[← zo2,show a+(M+1 - a+b)=(M+1)+b by (first|lia|omega),zo2,h2]
def lp(M:Nat):Nat→Nat×Nat→Nat×Nat
 | 0,s=>s
 | n+1,s=>lp M n (SetTable.leap M s.1 s.2)
theorem zvh(M:Nat):∀a b s,lp M (a+b) s=lp M b (lp M a s)
 | 0,b,s=>by rw[Nat.zero_add];rfl
 | a+1,b,s=>by rw[Nat.succ_add];exact zvh M a b _
theorem zvo(M:Nat):∀n s,(lp M n s).2=s.2 / 32 ^ n
 | 0,s=>by simp[lp]
 | n+1,s=>by
  show(lp M n _).2=_
  rw[zvo M n,SetTable.leap,Nat.div_div_eq_div_mul,Nat.pow_succ,Nat.mul_comm]
theorem zyX(M:Nat):∀n s,s.1<M+1→(lp M n s).1<M+1
 | 0,s,h=>h
 | n+1,s,h=>zyX M n _ (Nat.mod_lt _ (Nat.succ_pos _))
theorem zrt(M:Nat):∀n x,(lp M n (x,0)).1=it (M+1) n x
 | 0,x=>rfl
 | n+1,x=>by
  show(lp M n ((x*5+1+0 / 32) % (M+1),0 / 32)).1=it (M+1) n ((x*5+1) % (M+1))
  rw[Nat.zero_div,Nat.add_zero,zrt M n]
theorem zvd{M:Nat}(h:Msk M){x p j:Nat}(hx:x<M+1)(hp:p<2 ^ 64)(hj:j<M+1):∃n,n≤M+13∧(lp M n (x,p)).1=j:=by
 have e:lp M 13 (x,p)=((lp M 13 (x,p)).1,0):=by
  refine Prod.ext rfl ?_
  rw[zvo]
  exact Nat.div_eq_of_lt (ψQ1 hp (by decide))
 obtain⟨n,n1,n2⟩:=zxK h (zyX M 13 (x,p) hx) hj
 refine⟨13+n,by (first|lia|omega),?_⟩
 rw[zvh,e,zrt]
 exact n2
theorem zsP(h:Int):SetTable.bits h<2 ^ 64:=by
 unfold SetTable.bits
 have:=ψS1 h (show(0:Int)<2 ^ 64 by decide)
 have:=Int.emod_nonneg h (show(2 ^ 64:Int)≠0 by decide)
 (first|lia|omega)
def zk0(t:SetTable)(s:Nat×Nat):SetTable.Probe:={ j:=s.1,more:=SetTable.runEnd t.mask s.1 - s.1,i:=s.1,perturb:=s.2,dummy:=none }
def adv(t:SetTable):Nat→SetTable.Probe→SetTable.Probe
 | 0,p=>p
 | n+1,p=>adv t n (t.advance p)
theorem zqt(t:SetTable):∀a b p,adv t (a+b) p=adv t b (adv t a p)
 | 0,b,p=>by rw[Nat.zero_add];rfl
 | a+1,b,p=>by rw[Nat.succ_add];exact zqt t a b _
theorem zrF(t:SetTable):∀k j i q,adv t (k+1) { j:=j,more:=k,i:=i,perturb:=q,dummy:=none }=zk0 t (SetTable.leap t.mask i q)
 | 0,j,i,q=>by simp[adv,SetTable.advance,zk0]
 | k+1,j,i,q=>by
  show adv t (k+1) (t.advance _)=_
  rw[show t.advance { j:=j,more:=k+1,i:=i,perturb:=q,dummy:=none }={ j:=j+1,more:=k,i:=i,perturb:=q,dummy:=none } by simp[SetTable.advance]]
  exact zrF t k (j+1) i q
def Reach(t:SetTable)(n:Nat)(p:SetTable.Probe):Prop:=∃r,r≤n∧t.slot (adv t r p).j=.empty
theorem zoF{t:SetTable}:∀{n s},t.slot (lp t.mask n s).1=.empty→Reach t (10*n) (zk0 t s)
 | 0,s,h=>⟨0,ψj _,h⟩
 | n+1,s,h=>by
  obtain⟨r,r1,r2⟩:=zoF (n:=n) (s:=SetTable.leap t.mask s.1 s.2) h
  have hm:SetTable.runEnd t.mask s.1 - s.1≤9:=by unfold SetTable.runEnd;split <;> (first|lia|omega)
  refine⟨SetTable.runEnd t.mask s.1 - s.1+1+r,by (first|lia|omega),?_⟩
  rw[zqt,zk0,zrF]
  exact r2
theorem zvc:∀(m:Nat) (l:List Nat),(∀j,j<m→j∈l)→m≤l.length
 | 0,l,h=>ψp1 _
 | m+1,l,h=>by
  have hm:=h m (ψP1 m)
  have:=zvc m (l.erase m) λj hj=>(List.mem_erase_of_ne (by (first|lia|omega))).mpr (h j (by (first|lia|omega)))
  rw[List.length_erase_of_mem hm] at this
  have:0<l.length:=List.length_pos_of_mem hm
  (first|lia|omega)
theorem slot_cases{t:SetTable}(hd:t.dummies=#[])(j:Nat):t.slot j=.empty∨∃i,t.slot j=.live i∧t.place[i]?=some j:=by
 unfold SetTable.slot
 rw[hd]
 by_cases c:(t.place[SetTable.below t.place j]? == some j)=true
 ·exact .inr ⟨_,by rw[if_pos c],by simpa using c⟩
 ·left
  rw[if_neg c]
  simp[SetTable.has]
theorem zp0{t:SetTable}(hd:t.dummies=#[])(hl:t.place.size<t.mask+1):∃j,j<t.mask+1∧t.slot j=.empty:=by
 refine ψI λhn=>?_
 have:=zvc (t.mask+1) t.place.toList λj hj=>by
  rcases slot_cases hd j with h | ⟨i,_,h⟩
  ·exact absurd ⟨j,hj,h⟩ hn
  ·rw[← Array.getElem?_toList] at h
   exact ψN h
 rw[Array.length_toList] at this
 (first|lia|omega)
theorem reach_start{t:SetTable}(hM:Msk t.mask)(hd:t.dummies=#[])(hl:t.place.size<t.mask+1)(h:Int):Reach t (10*(t.mask+13)) (t.probeStart h):=by
 obtain⟨j,j1,j2⟩:=zp0 hd hl
 obtain⟨n,n1,n2⟩:=zvd hM (x:=SetTable.bits h % (t.mask+1)) (Nat.mod_lt _ (Nat.succ_pos _)) (zsP h) j1
 obtain⟨r,r1,r2⟩:=zoF (t:=t) (n:=n) (s:=(SetTable.bits h % (t.mask+1),SetTable.bits h)) (by rw[n2];exact j2)
 exact⟨r,by (first|lia|omega),r2⟩
theorem adv_dummy(t:SetTable)(p:SetTable.Probe):(t.advance p).dummy=p.dummy:=by
 unfold SetTable.advance
 split
 ·rfl
 ·rfl
theorem zmu{M:Nat}{ow:Array (Option Nat)}:∀(fuel i p n:Nat),n<fuel→ow.getD (lp M n (i,p)).1 (some 0)=none→∃j,SetTable.layClean.free M ow fuel i p=some j∧ow.getD j (some 0)=none
 | 0,i,p,n,h,_=>by (first|lia|omega)
 | fuel+1,i,p,n,h,e=>by
  rw[SetTable.layClean.free]
  cases c:(ψs1 (SetTable.runEnd M i+1 - i)).find? λk=>(ow.getD (i+k) (some 0)).isNone with
  | some k =>
   have:=List.find?_some c
   exact⟨i+k,rfl,by simpa using this⟩
  | none =>
   match n,h,e with
   | 0,_,e =>
    have:=List.find?_eq_none.mp c 0 (List.mem_range.mpr (by unfold SetTable.runEnd;split <;> (first|lia|omega)))
    rw[Nat.add_zero,show ow.getD i (some 0)=none from e] at this
    simp at this
   | n+1,h,e=>exact zmu fuel _ _ n (by (first|lia|omega)) e
def Own(M:Nat)(ow:Array (Option Nat))(k:Nat):Prop:=ow.size=M+1∧ow.toList.countP Option.isSome=k∧∀v,some v∈ow.toList→v<k
theorem getD_lt{ow:Array (Option Nat)}{j:Nat}(h:ow.getD j (some 0)=none):∃hj:j<ow.size,ow[j]=none:=by
 by_cases c:j<ow.size
 ·exact⟨c,by simpa [Array.getD,c] using h⟩
 ·simp[Array.getD,c] at h
theorem ztH{M:Nat}(hM:Msk M){ow:Array (Option Nat)}{k:Nat}(o:Own M ow k)(hk:k<M+1)(h:Int):∃j,SetTable.layClean.free M ow (SetTable.turns M) (SetTable.bits h % (M+1)) (SetTable.bits h)=some j∧Own M (ow.setIfInBounds j (some k)) (k+1):=by
 obtain⟨o1,o2,o3⟩:=o
 have ex:∃j,j<M+1∧ow.getD j (some 0)=none:=by
  refine ψI λhn=>?_
  have:ow.toList.countP Option.isSome=ow.toList.length:=by
   rw[List.countP_eq_length]
   intro v hv
   cases v with
   | some v=>rfl
   | none =>
    obtain⟨j,hj,e⟩:=List.mem_iff_getElem.mp hv
    rw[Array.length_toList] at hj
    exact absurd ⟨j,by (first|lia|omega),by simpa [Array.getD,hj] using e⟩ hn
  rw[Array.length_toList] at this
  (first|lia|omega)
 obtain⟨j,j1,j2⟩:=ex
 obtain⟨n,n1,n2⟩:=zvd hM (x:=SetTable.bits h % (M+1)) (Nat.mod_lt _ (Nat.succ_pos _)) (zsP h) j1
 obtain⟨j',f1,f2⟩:=zmu (M:=M) (ow:=ow) (SetTable.turns M) _ _ n (by unfold SetTable.turns;(first|lia|omega)) (by rw[n2];exact j2)
 obtain⟨hj,ej⟩:=getD_lt f2
 refine⟨j',f1,by simpa using o1,?_,?_⟩
 ·rw[Array.toList_setIfInBounds,List.countP_set (by simpa using hj)]
  rw[show ow.toList[j']=none from by simpa using ej,o2]
  simp
 ·intro v hv
  rw[Array.toList_setIfInBounds] at hv
  rcases List.mem_or_eq_of_mem_set hv with hv | hv
  ·exact Nat.lt_succ_of_lt (o3 v hv)
  ·cases hv;exact ψP1 _
theorem fold_ok{M:Nat}(hM:Msk M):∀(hs:List Int) (ow:Array (Option Nat)) (k:Nat),Own M ow k→k+hs.length<M+1 →
  ∃ow',(hs.foldl (λ(acc:Option (Array (Option Nat)×Nat)) h=>do
   let (owner,k) ← acc
   let j ← SetTable.layClean.free M owner (SetTable.turns M) (SetTable.bits h % (M+1)) (SetTable.bits h)
   pure (owner.setIfInBounds j (some k),k+1)) (some (ow,k)))=some (ow',k+hs.length)∧Own M ow' (k+hs.length)
 | [],ow,k,o,_=>⟨ow,rfl,o⟩
 | h::hs,ow,k,o,hl=>by
  rw[ψM] at hl
  obtain⟨j,e1,e2⟩:=ztH hM o (by (first|lia|omega)) h
  obtain⟨ow',a,b⟩:=fold_ok hM hs _ _ e2 (by (first|lia|omega))
  refine⟨ow',?_,by rw[ψM,show k+(hs.length+1)=k+1+hs.length by (first|lia|omega)];exact b⟩
  rw[List.foldl_cons,ψM,show k+(hs.length+1)=k+1+hs.length by (first|lia|omega),← a]
  simp[e1]
theorem relaid_ok{t:SetTable}{hs:Array Int}{wanted:Nat}(hM:Msk (SetTable.sizeAbove wanted - 1))(hl:hs.size<SetTable.sizeAbove wanted - 1+1) :
  ∃t' ord,t.relaid hs wanted=some (t',ord)∧t'.mask=SetTable.sizeAbove wanted - 1∧t'.dummies=#[]∧t'.place.size=hs.size∧t'.led=t.led∧ord.size=hs.size∧∀v∈ord.toList,v<hs.size:=by
 obtain⟨ow,a,o1,o2,o3⟩:=fold_ok hM hs.toList (Array.replicate (SetTable.sizeAbove wanted - 1+1) none) 0 ⟨by simp,by simp[List.countP_replicate],by simp⟩ (by simpa using hl)
 rw[Nat.zero_add,Array.length_toList] at o2 o3
 unfold SetTable.relaid SetTable.laid SetTable.layClean
 rw[← Array.foldl_toList,a]
 have len:((ψs1 (SetTable.sizeAbove wanted - 1+1)).filterMap λj=>(ow.getD j none).map (j,·)).length=hs.size:=by
  rw[List.length_filterMap_eq_countP,← o2,← o1]
  have:ow.toList=(ψs1 ow.size).map λj=>ow.getD j none:=by
   apply List.ext_getElem
   ·simp
   ·intro i h1 h2
    simp at h1
    simp[Array.getD,h1]
  rw[this,List.countP_map]
  congr 1
  funext j
  simp
 refine⟨_,_,rfl,rfl,rfl,by simpa using len,rfl,by simpa using len,λv hv=>?_⟩
 rw[List.toList_toArray,List.mem_map] at hv
 obtain⟨⟨j,v'⟩,hm,rfl⟩:=hv
 obtain⟨j',_,e⟩:=List.mem_filterMap.mp hm
 refine o3 v' ?_
 cases c:ow.getD j' none with
 | none=>rw[c] at e;simp at e
 | some u =>
  rw[c] at e
  simp at e
  have:j'<ow.size:=by
   refine ψI λhn=>?_
   simp[Array.getD,hn] at c
  rw[← e.2,← c]
  simp[Array.getD,this]
end L2.St
namespace L2.St
open PySem
section
variable {P:Program} {w:World} {A:Around} {E:Value→Shared→Prop} {s:Shared}
end
end L2.St
namespace L2.St
open PySem
theorem ins_size{α:Type}(xs:Array α)(p:Nat)(x:α):(SetTable.insertAt xs p x).size=xs.size+1:=by
 unfold SetTable.insertAt
 simp only[Array.size_append,Array.size_push,Array.size_extract]
 (first|lia|omega)
theorem put_ok{t:SetTable}{j:Nat}(hd:t.dummies=#[]):(t.put j).1.dummies=#[]∧(t.put j).1.place.size=t.place.size+1∧(t.put j).1.mask=t.mask:=by
 unfold SetTable.put
 refine⟨?_,ins_size _ _ _,rfl⟩
 dsimp only
 rw[hd]
 simp[SetTable.has]
section
variable {P:Program} {w:World} {A:Around} {E:Value→Shared→Prop} {s:Shared}
theorem grow{M n:Nat}(hM:Msk M)(h1:n*5<M*3)(h2:(n+1)*5≥M*3)(hz:n<300):Msk (SetTable.sizeAbove (SetTable.grown (n+1)) - 1)∧(n+1)*5<(SetTable.sizeAbove (SetTable.grown (n+1)) - 1)*3∧¬ SetTable.sizeAbove (SetTable.grown (n+1)) > sizeLine:=by
 rcases hM with rfl | rfl | rfl | rfl
 ·obtain rfl:n=4:=by (first|lia|omega)
  exact⟨.inr (.inl rfl),by decide,by decide⟩
 ·obtain rfl:n=18:=by (first|lia|omega)
  exact⟨.inr (.inr (.inl rfl)),by decide,by decide⟩
 ·obtain rfl:n=76:=by (first|lia|omega)
  exact⟨.inr (.inr (.inr rfl)),by decide,by decide⟩
 ·(first|lia|omega)
theorem lay_self{h:Heap}{S:Addr}{es es':Array (Int×Value)}{ep:Nat}{t t':SetTable}(T:h.get? S=some { cls:=.type "set",dict:=none,data:=.set es ep t,slots:=#[] }) :
  (h.update S (Obj.putSet es' t')).get? S=some { cls:=.type "set",dict:=none,data:=.set es' (ep+1) t',slots:=#[] }:=by
 have:=Heap.get?_update_self (Obj.putSet es' t') T (by rw[putSet_of es' t' rfl];rfl)
 rw[putSet_of es' t' rfl] at this;exact this
end
end L2.St
namespace L2.St
open PySem PySem.Spec
def kk(key:Nat→List Int)(ad:Nat→Addr):Nat→List (List Int×Addr)
 | 0=>[]
 | i+1=>(key i,ad i)::kk key ad i
section
variable {P:Program} {w:World} {A:Around} {E:Value→Shared→Prop} {s:Shared}
end
end L2.St
namespace L2
open PySem PySem.Spec PyProof.Rows
section
variable {X:Cx} {pins:List (Addr×Obj)} {s:Shared} {σ:St} {H:Hp}
variable {e:Expr} {t:TA} {p1 p2 pos1 pos2:Pos}
end
end L2
namespace L2.Sw
open PySem PySem.Spec PyProof.Rows
theorem zhN:Slot "set_iterator" "__next__" "set_iterator.__next__":=by
 refine .of (owner:="set_iterator") (n:="__next__") (by rw[typeLookup_type,builtinLookup_eq_fast];kernel_rfl) ?_ ?_ ?_ ?_ (by rw[isSubtype_type];kernel_rfl)
 ·decide +kernel
 ·decide +kernel
 ·decide +kernel
 ·first | exact .inl (by decide +kernel) | exact .inr (by decide +kernel)
theorem zsv:Slot "set_iterator" "__iter__" "set_iterator.__iter__":=by
 refine .of (owner:="set_iterator") (n:="__iter__") (by rw[typeLookup_type,builtinLookup_eq_fast];kernel_rfl) ?_ ?_ ?_ ?_ (by rw[isSubtype_type];kernel_rfl)
 ·decide +kernel
 ·decide +kernel
 ·decide +kernel
 ·first | exact .inl (by decide +kernel) | exact .inr (by decide +kernel)
theorem zrm:entryFor table "set_iterator.__next__"=some Builtin.«set_iterator.__next__»:=entryFor_of_tree (by kernel_rfl)
theorem zx1:Manifest.owners.lookup (String.ofList "rotareti_tes".toList.reverse)=some Manifest.sig_set_iterator:=by kernel_rfl
theorem zqI(v:Value):argsOk "set_iterator.__next__" ⟨[v],[]⟩:=by
 unfold argsOk
 rw[signature?_of (id:="set_iterator.__next__") (n:="__txen__".toList) (o:="rotareti_tes".toList) (by kernel_rfl) zx1]
 kernel_rfl
theorem zxz:entryFor table "set.__iter__"=some Builtin.«frozenset.__iter__»:=entryFor_alias (id':="frozenset.__iter__") (by kernel_rfl) rfl (by decide +kernel) (by kernel_rfl)
theorem zui:entryFor table "set_iterator.__iter__"=some Builtin.«dict_keyiterator.__iter__»:=entryFor_alias (id':="dict_keyiterator.__iter__") (by kernel_rfl) rfl (by decide +kernel) (by kernel_rfl)
theorem zuc(v:Value):argsOk "set_iterator.__iter__" ⟨[v],[]⟩:=by
 unfold argsOk
 rw[signature?_of (id:="set_iterator.__iter__") (n:="__reti__".toList) (o:="rotareti_tes".toList) (by kernel_rfl) zx1]
 kernel_rfl
def SI(h:Heap)(it S:Addr)(slot i n ep:Nat):Prop:=∃o,h.get? it=some o∧o.cls=.type "set_iterator"∧o.data=.fields #[rawInt slot,rawInt i,.ref S,rawInt n,rawInt ep]
def SO(h:Heap)(S:Addr)(es:Array (Int×Value))(ep:Nat)(t:SetTable):Prop:=h.get? S=some { cls:=.type "set",dict:=none,data:=.set es ep t,slots:=#[] }
section
variable {P:Program} {w:World} {A:Around} {E:Value→Shared→Prop} {s:Shared} {it S:Addr} {es:Array (Int×Value)} {ep:Nat} {t:SetTable} {slot i:Nat}
theorem SI.ty(x:SI s.heap it S slot i es.size ep):s.TypeIs (.ref it) "set_iterator":=let ⟨o,ho,hc,_⟩:=x;⟨o,ho,hc⟩
theorem SO.ty(x:SO s.heap S es ep t):s.TypeIs (.ref S) "set":=⟨_,x,rfl⟩
theorem zf5{Q:(Array (Int×Value)×Nat×SetTable)→Shared→Prop}(x:SO s.heap S es ep t)(f:t.fits es.size=true)(q:Q (es,ep,t) s):wpAny (model P w) A (setState S) Q E s :=
 wpAny_setState_of x rfl f q
theorem zqz{v:Value}{B:Nat→Prop}{Q:Option Value→Shared→Prop}(hi:SI s.heap it S slot i es.size ep)(x:SO s.heap S es ep t)(f:t.fits es.size=true)
  (nx:∀(A':Around) (E':Value→Shared→Prop) (Q':Option (Value×Nat)→Shared→Prop),(∀slot',B slot'→Q' (some (v,slot')) s)→wpAny (model P w) A' (setNext S slot i ep) Q' E' s)
  (q:∀slot' h',B slot'→SI h' it S slot' (i+1) es.size ep→Heap.SameBut it s.heap h'→Q (some v) { s with heap:=h' }) :
  wpAny (model P w) A (pyNext (.ref it)) Q E s:=by
 obtain⟨o,ho,hc,hd⟩:=id hi
 unfold pyNext
 refine wpAny_bind (wpAny_attempt (wpAny_callSpecial?_slot (name:=Str.ofString "__next__") hi.ty zhN (wpAny_call_entry zhN hi.ty zrm ?_ (zqI _))))
 unfold Builtin.«set_iterator.__next__»;refine wpAny_bind (wpAny_of_eq (a:=(Value.ref it,[])) rfl ?_);refine wpAny_bind (wpAny_fieldsOf ho hd ?_)
 show wpAny _ _ (setEntries S >>= _) _ _ s
 refine wpAny_bind (wpAny_setEntries_of x rfl f ?_)
 dsimp only
 rw[if_neg (by simp)]
 refine wpAny_bind (nx _ _ _ λslot' hB=>?_)
 show wpAny _ _ (setField (.ref it) 0 (rawInt slot') >>= _) _ _ s;refine wpAny_bind (wpAny_setField ho hd (by simp) ?_)
 have g1:=Heap.get?_update_self (Obj.mapFields (·.setIfInBounds 0 (rawInt slot'))) ho (Obj.isFreed_of_fields (Obj.data_mapFields hd _))
 have d1:=Obj.data_mapFields hd (·.setIfInBounds 0 (rawInt slot'))
 refine wpAny_bind (wpAny_setField g1 d1 (by simp) ?_)
 refine wpAny_pure ⟨v,rfl,wpAny_pure (q slot' _ hB ⟨_,Heap.get?_update_self _ g1 (Obj.isFreed_of_fields (Obj.data_mapFields d1 _)),?_,?_⟩ ?_)⟩
 ·rw[Obj.cls_mapFields,Obj.cls_mapFields]
  exact hc
 ·rw[Obj.data_mapFields d1]
  simp[rawInt]
 ·exact(Heap.SameBut.update ..).trans (Heap.SameBut.update ..)
theorem ztZ{Q:Option Value→Shared→Prop}(hh:A.handled=none)(hi:SI s.heap it S slot i es.size ep)(x:SO s.heap S es ep t)(f:t.fits es.size=true)
  (nx:∀(A':Around) (E':Value→Shared→Prop) (Q':Option (Value×Nat)→Shared→Prop),Q' none s→wpAny (model P w) A' (setNext S slot i ep) Q' E' s)
  (q:∀h',Heap.ExtBut it s.heap h'→Q none { s with heap:=h' }) :
  wpAny (model P w) A (pyNext (.ref it)) Q E s:=by
 obtain⟨o,ho,hc,hd⟩:=id hi
 unfold pyNext
 refine wpAny_bind (wpAny_attempt (wpAny_callSpecial?_slot (name:=Str.ofString "__next__") hi.ty zhN (wpAny_call_entry zhN hi.ty zrm ?_ (zqI _))))
 unfold Builtin.«set_iterator.__next__»;refine wpAny_bind (wpAny_of_eq (a:=(Value.ref it,[])) rfl ?_);refine wpAny_bind (wpAny_fieldsOf ho hd ?_)
 show wpAny _ _ (setEntries S >>= _) _ _ s
 refine wpAny_bind (wpAny_setEntries_of x rfl f ?_)
 dsimp only
 rw[if_neg (by simp)]
 refine wpAny_bind (nx _ _ _ ?_);show wpAny _ _ (setField (.ref it) 2 .none >>= _) _ _ s;refine wpAny_bind (wpAny_setField ho hd (by simp) ?_)
 refine wpAny_bind ?_
 simp only[newExc,newTuple]
 refine wpAny_bind (wpAny_newObj_type ?_ (by size_fits));refine wpAny_bind (m:=firstArgMember _ _) (wpAny_of_eq (a:=Value.none) (by first | rfl | (simp only[firstArgMember];rfl)) ?_);refine wpAny_newObj_type ?_ (by size_fits)
 simp only[raiseNew];refine wpAny_bind (wpAny_handled ?_);first | rw[show A.in1.handled=none from hh] | rw[hh]
 refine wpAny_bind (wpAny_pure (wpAny_throw ?_));refine wpAny_bind (wpAny_isInstance (T:="StopIteration") (b:=true) ⟨_,Heap.get?_push_size _ rfl,rfl⟩ isSubtype_stop ?_)
 exact wpAny_pure (q _ (((Heap.SameBut.update ..).extBut.push _).push _))
theorem zqD{Q:Value→Shared→Prop}(hi:SI s.heap it S slot i es.size ep)(q:Q (.ref it) s):wpAny (model P w) A (pyIter (.ref it)) Q E s:=by
 refine wpAny_pyIter_slot hi.ty zsv (wpAny_call_entry zsv hi.ty zui ?_ (zuc _))
 show wpAny _ _ (ret (.ref it)) _ _ s;exact wpAny_pure ⟨_,rfl,"set_iterator",_,hi.ty,zhN.lookup,q⟩
theorem ztU{Q:Value→Shared→Prop}(x:SO s.heap S es ep t)(f:t.fits es.size=true)(dr:∀(A':Around) (E':Value→Shared→Prop) (Q':Bool→Shared→Prop),Q' false s→wpAny (model P w) A' (setDrawn S) Q' E' s)
  (q:Q (.ref s.heap.objs.size) { s with heap:=s.heap.push { cls:=.type "set_iterator",data:=.fields #[rawInt 0,rawInt 0,.ref S,rawInt es.size,rawInt ep] } }) :
  wpAny (model P w) A (pyIter (.ref S)) Q E s:=by
 refine wpAny_pyIter_slot x.ty PySem.F.slot_set_iter (wpAny_call_entry PySem.F.slot_set_iter x.ty zxz ?_ (PySem.F.args_set_iter_1 _))
 unfold Builtin.«frozenset.__iter__»
 refine wpAny_bind (wpAny_of_eq (a:=S) rfl ?_)
 refine wpAny_bind (m:=Builtin.Frozenset.sizeOf S) ?_
 unfold Builtin.Frozenset.sizeOf
 refine wpAny_bind (wpAny_setEntries_of x rfl f (wpAny_pure ?_))
 refine wpAny_bind (dr _ _ _ ?_);simp only[Bool.false_eq_true,if_false];refine wpAny_bind (wpAny_pure ?_)
 refine wpAny_bind (wpAny_setEpoch_of x rfl f ?_)
 refine wpAny_bind (wpAny_newObj_type (wpAny_pure ⟨_,rfl,"set_iterator",_,⟨_,Heap.get?_push_size _ rfl,rfl⟩,zhN.lookup,q⟩))
theorem hint{Q:Bool→Shared→Prop}(x:SO s.heap S es ep t)(q:Q false s):wpAny (model P w) A (Builtin.List.listLengthHint (.ref S)) Q E s:=by
 unfold Builtin.List.listLengthHint;refine wpAny_bind (wpAny_specialOf x.ty PySem.F.slot_set_len.lookup ?_)
 generalize e:("set.__len__":String)=nm
 wp_delta
 rw[show splitId nm=some ("set","__len__") from by subst e;decide +kernel];subst e
 refine wpAny_bind (wpAny_isInstance (T:="set") (b:=true) x.ty (by rw[isSubtype_type];kernel_rfl) ?_)
 refine wpAny_ite_split (λz=>absurd z (by decide)) λ_=>wpAny_ite_split (λ_=>wpAny_bind (wpAny_typeOf x.ty (wpAny_pure q))) λz=>absurd (by decide +kernel) z
theorem zfO{Q:Bool→Shared→Prop}(q:Q (w.params.followText "set-order") s):wpAny (model P w) A setsByText Q E s:=by
 unfold setsByText
 exact wpAny_bind (wpAny_askSetting (wpAny_pure q))
theorem znO{xs:Array Nat}{j:Nat}(h:xs.toList.Pairwise (·<·)):∀(fuel lo hi:Nat),hi - lo≤fuel→lo≤hi→hi≤xs.size→(∀(k v:Nat),xs[k]?=some v→k<lo→v<j)→(∀(k v:Nat),xs[k]?=some v→hi≤k→j≤v) →
  SetTable.below.go xs j fuel lo hi≤xs.size∧(∀(k v:Nat),xs[k]?=some v→k<SetTable.below.go xs j fuel lo hi→v<j)∧∀(k v:Nat),xs[k]?=some v→SetTable.below.go xs j fuel lo hi≤k→j≤v
 | 0,lo,hi,h1,h2,h3,h4,h5=>by
  have:lo=hi:=by (first|lia|omega)
  subst this
  exact⟨h3,h4,h5⟩
 | fuel+1,lo,hi,h1,h2,h3,h4,h5=>by
  have mono:∀{k m v u:Nat},xs[k]?=some v→xs[m]?=some u→k<m→v<u:=fun {k m v u} e1 e2 l=>by
   rw[← Array.getElem?_toList] at e1 e2
   obtain⟨l1,rfl⟩:=List.getElem?_eq_some_iff.mp e1
   obtain⟨l2,rfl⟩:=List.getElem?_eq_some_iff.mp e2
   exact List.pairwise_iff_getElem.mp h _ _ l1 l2 l
  unfold SetTable.below.go
  by_cases c:lo<hi
  ·rw[if_pos c]
   dsimp only
   have hm:(lo+hi) / 2<hi:=by (first|lia|omega)
   have hl:lo≤(lo+hi) / 2:=by (first|lia|omega)
   generalize (lo+hi) / 2=mid at hm hl ⊢
   have em:xs[mid]?=some xs[mid]:=Array.getElem?_eq_getElem (by (first|lia|omega))
   have eg:xs.getD mid j=xs[mid]:=by
    rw[Array.getD_eq_getD_getElem?,em]
    rfl
   rw[eg]
   by_cases d:xs[mid]<j
   ·rw[if_pos d]
    refine znO h fuel (mid+1) hi (by (first|lia|omega)) (by (first|lia|omega)) h3 (λk v e l=>?_) h5
    rcases Nat.lt_or_ge k mid with l' | l'
    ·exact ψQ1 (mono e em l') d
    ·obtain rfl:k=mid:=by (first|lia|omega)
     rw[em] at e
     cases e
     exact d
   ·rw[if_neg d]
    refine znO h fuel lo mid (by (first|lia|omega)) hl (by (first|lia|omega)) h4 λk v e l=>?_
    rcases Nat.lt_or_ge mid k with l' | l'
    ·exact Nat.le_of_lt (ψx1 (Nat.le_of_not_lt d) (mono em e l'))
    ·obtain rfl:k=mid:=by (first|lia|omega)
     rw[em] at e
     cases e
     exact Nat.le_of_not_lt d
  ·rw[if_neg c]
   have:lo=hi:=by (first|lia|omega)
   subst this
   exact⟨h3,h4,h5⟩
theorem zf9{xs:Array Nat}(j:Nat)(h:xs.toList.Pairwise (·<·)):SetTable.below xs j≤xs.size∧(∀(k v:Nat),xs[k]?=some v→k<SetTable.below xs j→v<j)∧∀(k v:Nat),xs[k]?=some v→SetTable.below xs j≤k→j≤v :=
 znO h xs.size 0 xs.size (ψj _) (ψp1 _) (ψj _) (λ_ _ _ z=>absurd z (ψD1 _)) λk v e z=>absurd (Array.getElem?_eq_some_iff.mp e).1 (by (first|lia|omega))
theorem zpQ{xs:Array Nat}{i j:Nat}(h:xs.toList.Pairwise (·<·))(e:xs[i]?=some j):SetTable.below xs (j+1)=i+1:=by
 obtain⟨h1,h2,h3⟩:=zf9 (j+1) h
 have a1:¬ SetTable.below xs (j+1)≤i:=λz=>absurd (h3 i j e z) (by (first|lia|omega))
 have a2:¬ i+1<SetTable.below xs (j+1):=λz=>by
  have l:i+1<xs.size:=by (first|lia|omega)
  have e2:xs[i+1]?=some xs[i+1]:=Array.getElem?_eq_getElem l
  have u1:=h2 _ _ e2 z
  rw[← Array.getElem?_toList] at e e2
  obtain⟨l1,z1⟩:=List.getElem?_eq_some_iff.mp e
  obtain⟨l2,z2⟩:=List.getElem?_eq_some_iff.mp e2
  have u2:=List.pairwise_iff_getElem.mp h _ _ l1 l2 (ψP1 i)
  (first|lia|omega)
 (first|lia|omega)
theorem zpX{xs:Array Nat}(h:xs.toList.Pairwise (·<·)):SetTable.below xs 0=0:=by
 obtain⟨h1,h2,_⟩:=zf9 0 h
 rcases Nat.eq_zero_or_pos (SetTable.below xs 0) with z | z
 ·exact z
 ·exact absurd (h2 0 _ (Array.getElem?_eq_getElem (by (first|lia|omega))) z) (ψD1 _)
theorem zuu{xs:Array Nat}{j:Nat}(h:xs.toList.Pairwise (·<·))(n:j∉xs.toList):(SetTable.insertAt xs (SetTable.below xs j) j).toList.Pairwise (·<·):=by
 obtain⟨h1,h2,h3⟩:=zf9 j h
 generalize SetTable.below xs j=p at h1 h2 h3 ⊢
 have e:(SetTable.insertAt xs p j).toList=xs.toList.take p++([j]++xs.toList.drop p):=by
  unfold SetTable.insertAt
  simp only[Array.toList_append,Array.toList_push,Array.toList_extract,List.extract_eq_drop_take,List.drop_zero,Nat.sub_zero,List.append_assoc]
  rw[ψV (l:=xs.toList.drop p) (by rw[List.length_drop,Array.length_toList];(first|lia|omega))]
 rw[e]
 have m1:∀v∈xs.toList.take p,v<j:=λv hv=>by
  obtain⟨k,ek⟩:=ψp hv
  rw[List.getElem?_take] at ek
  split at ek
  ·exact h2 k v (by rw[← Array.getElem?_toList];exact ek) (by assumption)
  ·cases ek
 have m2:∀v∈xs.toList.drop p,j<v:=λv hv=>by
  obtain⟨k,ek⟩:=ψp hv
  rw[List.getElem?_drop] at ek
  have:=h3 (p+k) v (by rw[← Array.getElem?_toList];exact ek) (by (first|lia|omega))
  have ne:v≠j:=λz=>n (z ▸ List.mem_of_mem_drop hv)
  (first|lia|omega)
 refine List.pairwise_append.mpr ⟨h.sublist (List.take_sublist _ _),List.pairwise_append.mpr ⟨List.pairwise_singleton _ _,h.sublist (List.drop_sublist _ _),λa ha b hb=>?_⟩,λa ha b hb=>?_⟩
 ·rw[List.mem_singleton.mp ha]
  exact m2 b hb
 ·rcases List.mem_append.mp hb with hb | hb
  ·rw[List.mem_singleton.mp hb]
   exact m1 a ha
  ·exact ψQ1 (m1 a ha) (m2 b hb)
def Led(w:World)(t:SetTable):Prop:=w.params.followText "set-order"=true∨(t.led=true∧t.plain=true∧t.place.toList.Pairwise (·<·))
theorem ztN{Q:Bool→Shared→Prop}(x:SO s.heap S es ep t)(f:t.fits es.size=true)(l:Led w t)(q:Q false s):wpAny (model P w) A (setDrawn S) Q E s:=by
 unfold setDrawn
 refine wpAny_bind (zf5 x f ?_)
 refine wpAny_bind (zfO (wpAny_pure ?_))
 have e:(!w.params.followText "set-order"&&(!t.plain&&decide (es.size > 1)))=false:=by
  rcases l with l | ⟨_,l,_⟩ <;> rw[l]
  ·rfl
  ·rw[Bool.not_true,Bool.false_and,Bool.and_false]
 exact(congrArg (λb=>Q b s) e).mpr q
def ord(w:World)(S:Addr)(es:Array (Int×Value))(ep:Nat):Array (Int×Value):=if w.params.followText "set-order"=true then pickOrder (w.params.setOrder S ep) es else es
theorem zxj{Q:Option (Value×Nat)→Shared→Prop}{v:Value}(x:SO s.heap S es ep t)(f:t.fits es.size=true)(l:Led w t)(hs:w.params.followText "set-order"=true∨SetTable.below t.place slot=i)(hv:((ord w S es ep)[i]?).map (·.2)=some v)
  (q:∀slot',(w.params.followText "set-order"=true∨SetTable.below t.place slot'=i+1)→Q (some (v,slot')) s):wpAny (model P w) A (setNext S slot i ep) Q E s:=by
 unfold setNext
 refine wpAny_bind (zf5 x f ?_)
 refine wpAny_bind (zfO ?_)
 by_cases tx:w.params.followText "set-order"=true
 ·rw[if_pos tx]
  dsimp only
  rw[if_neg (by simp)]
  refine wpAny_bind (m:=setWalk S) ?_
  unfold setWalk
  refine wpAny_bind (zf5 x f (wpAny_bind (zfO ?_)))
  rw[if_pos tx]
  refine wpAny_bind (wpAny_askSetting (wpAny_pure (wpAny_pure ?_)))
  unfold ord at hv
  rw[if_pos tx] at hv
  obtain⟨e,e1,e2⟩:=Option.map_eq_some_iff.mp hv
  show Q (Option.map (λe=>(e.snd,slot)) (pickOrder (w.params.setOrder S ep) es)[i]?) s
  rw[e1]
  subst e2
  exact q slot (.inl tx)
 ·obtain⟨l1,l2,l3⟩:=l.resolve_left tx
  have hb:=hs.resolve_left tx
  rw[if_neg tx]
  dsimp only
  unfold ord at hv
  rw[if_neg tx] at hv
  obtain⟨e,e1,e2⟩:=Option.map_eq_some_iff.mp hv
  have hp:t.place.size=es.size:=by
   unfold SetTable.fits at f
   rw[ψQ,beq_iff_eq] at f
   exact f.1
  have hi:=(Array.getElem?_eq_some_iff.mp e1).1
  have e3:t.place[i]?=some t.place[i]:=Array.getElem?_eq_getElem (by (first|lia|omega))
  show wpAny _ _ (if (!t.plain&&decide (es.size > 1))=true then _ else _) _ _ s
  rw[if_neg (by rw[l2];simp)]
  show wpAny _ _ ((if (!t.led&&!es.isEmpty)=true then unsupported "set:maker-not-led" else pure ()) >>= _) _ _ s
  rw[if_neg (by rw[l1];simp)];refine wpAny_bind (wpAny_pure (wpAny_pure ?_))
  show Q (match es[SetTable.below t.place slot]?,t.place[SetTable.below t.place slot]? with
      | some (_,y),some k=>some (y,k+1)
      | _,_=>none) s
  rw[hb,e1,e3]
  subst e2
  exact q _ (.inr (zpQ l3 e3))
theorem zqV{Q:Option (Value×Nat)→Shared→Prop}(x:SO s.heap S es ep t)(f:t.fits es.size=true)(l:Led w t)(hs:w.params.followText "set-order"=true∨SetTable.below t.place slot=i)(hv:(ord w S es ep)[i]?=none)
  (q:Q none s):wpAny (model P w) A (setNext S slot i ep) Q E s:=by
 unfold setNext
 refine wpAny_bind (zf5 x f ?_)
 refine wpAny_bind (zfO ?_)
 by_cases tx:w.params.followText "set-order"=true
 ·rw[if_pos tx]
  dsimp only
  rw[if_neg (by simp)]
  refine wpAny_bind (m:=setWalk S) ?_
  unfold setWalk
  refine wpAny_bind (zf5 x f (wpAny_bind (zfO ?_)))
  rw[if_pos tx]
  refine wpAny_bind (wpAny_askSetting (wpAny_pure (wpAny_pure ?_)))
  unfold ord at hv
  rw[if_pos tx] at hv
  show Q (Option.map (λe=>(e.snd,slot)) (pickOrder (w.params.setOrder S ep) es)[i]?) s
  rw[hv]
  exact q
 ·obtain⟨l1,l2,l3⟩:=l.resolve_left tx
  have hb:=hs.resolve_left tx
  rw[if_neg tx]
  dsimp only
  unfold ord at hv
  rw[if_neg tx] at hv
  show wpAny _ _ (if (!t.plain&&decide (es.size > 1))=true then _ else _) _ _ s
  rw[if_neg (by rw[l2];simp)]
  show wpAny _ _ ((if (!t.led&&!es.isEmpty)=true then unsupported "set:maker-not-led" else pure ()) >>= _) _ _ s
  rw[if_neg (by rw[l1];simp)];refine wpAny_bind (wpAny_pure (wpAny_pure ?_))
  show Q (match es[SetTable.below t.place slot]?,t.place[SetTable.below t.place slot]? with
      | some (_,y),some k=>some (y,k+1)
      | _,_=>none) s
  rw[hb,hv]
  exact q
theorem zmC{α:Type}{next:Nat→Nat}:∀(fuel k:Nat) (left:List α) (out:Array α),left.length=fuel→(pickOrder.go next fuel k left out).toList.Perm (out.toList++left)
 | 0,k,left,out,e=>by
  rw[ψX e,List.append_nil]
  exact .refl _
 | fuel+1,k,left,out,e=>by
  have l:next k % left.length<left.length:=Nat.mod_lt _ (by (first|lia|omega))
  unfold pickOrder.go
  generalize next k % left.length=i at l ⊢
  rw[ψc l]
  refine(zmC fuel (k+1) (left.eraseIdx i) (out.push left[i]) (by rw[List.length_eraseIdx_of_lt l];(first|lia|omega))).trans ?_
  rw[Array.toList_push,List.append_assoc];refine List.Perm.append_left _ ?_
  rw[List.eraseIdx_eq_take_drop_succ]
  have e2:left=left.take i++left[i]::left.drop (i+1):=by rw[List.getElem_cons_drop,List.take_append_drop]
  exact(List.perm_middle (a:=left[i]) (l₁:=left.take i) (l₂:=left.drop (i+1))).symm.trans (.of_eq e2.symm)
theorem ord_perm:(ord w S es ep).toList.Perm es.toList:=by
 unfold ord
 split
 ·exact zmC _ _ _ _ (Array.length_toList ..)
 ·exact .refl _
theorem src(f:t.fits es.size=true)(l:Led w t):PySem.W.KdlSrc P w "set" S S es.size (λi v=>((ord w S es ep)[i]?).map (·.2)=some v) (λh=>SO h S es ep t) where
 type:=λs x=>x.ty
 there:=λh x=>⟨Heap.lt_size x,Heap.lt_size x⟩
 keep:=λh h' x k=>k S (.inl rfl) _ x
 notList:=by decide
 notTuple:=by decide
 hint:=λA E s Q x q=>hint x q
 iter:=λA s hh x=>by
  have hne:S≠s.heap.objs.size:=ψs (Heap.lt_size x)
  have osz:(ord w S es ep).size=es.size:=by rw[← Array.length_toList,ord_perm.length_eq,Array.length_toList]
  refine⟨_,λi h=>(∃slot,SI h s.heap.objs.size S slot i es.size ep∧(w.params.followText "set-order"=true∨SetTable.below t.place slot=i))∧SO h S es ep t,λE Q q=>ztU x f (λA' E' Q' q'=>ztN x f l q') q,?_,⟨0,⟨_,Heap.get?_push_size _ rfl,rfl,rfl⟩,?_⟩,Heap.get?_push_of_some _ x⟩
  ·exact {
    sub:=λb' hb'=>by rw[List.mem_singleton] at hb';rw[hb'];exact ψe
    frame:=λi h h' st hk=>⟨let ⟨slot,⟨o,ho,r⟩,b⟩:=st.1;⟨slot,⟨o,hk _ (by simp) o ho,r⟩,b⟩,hk S (by simp) _ st.2⟩
    item:=λi s' Q E hi st hQ=>by
     obtain⟨⟨slot,si,b⟩,so⟩:=st
     have e1:(ord w S es ep)[i]?=some (ord w S es ep)[i]:=Array.getElem?_eq_getElem (by (first|lia|omega))
     refine zqz si so f (λA' E' Q' q'=>zxj (v:=(ord w S es ep)[i].2) so f l b (by rw[e1];rfl) q') λslot' h' hB si' sm=>?_
     refine hQ _ h' s'.toks (by rw[e1];rfl) ⟨⟨slot',si',hB⟩,?_⟩ λb' o hb e=>sm.extBut b' o (λz=>hb (by simp[z])) e
     exact sm.extBut S _ hne so
    done:=λs' Q E st hQ=>by
     obtain⟨⟨slot,si,b⟩,so⟩:=st
     exact ztZ hh si so f (λA' E' Q' q'=>zqV so f l b (Array.getElem?_eq_none (by (first|lia|omega))) q') λh' ex=>hQ h' s'.toks λb' o hb e=>ex b' o (λz=>hb (by simp[z])) e
    self:=λi s' Q E st hQ=>by
     obtain⟨⟨slot,si,b⟩,so⟩:=st
     exact zqD si hQ }
  ·rcases l with l | ⟨_,_,l⟩
   ·exact .inl l
   ·exact .inr (zpX l)
def vI:Value→Int
 | .int k _=>k
 | _=>0
structure SJ (P:Program) (w:World) (h:Heap) (S:Addr) (es:Array (Int×Value)) (ep:Nat) (t:SetTable) (ds:List Int):Prop where
 ob:SO h S es ep t
 pl:t.place.size=es.size
 dm:t.dummies=#[]
 ms:St.Msk t.mask
 lo:es.size*5<t.mask*3
 pn:t.plain=true
 ld:w.params.followText "set-order"=true∨t.led=true
 rs:t.place.toList.Pairwise (·<·)
 el:∀e∈es.toList,∃k tk,e=((intKind P w).hash k,Value.int k tk)
 ks:(es.toList.map λe=>vI e.2).Perm ds
theorem SJ.fits{h:Heap}{ds:List Int}(T:SJ P w h S es ep t ds):t.fits es.size=true:=by
 have:=T.lo
 simp only[SetTable.fits,SetTable.fill,T.pl,T.dm,ψQ,beq_self_eq_true,decide_eq_true_eq,true_and]
 show es.size+0≤t.mask
 (first|lia|omega)
theorem SJ.led{h:Heap}{ds:List Int}(T:SJ P w h S es ep t ds):Led w t:=T.ld.elim .inl λl=>.inr ⟨l,T.pn,T.rs⟩
theorem SJ.elems{h:Heap}{ds:List Int}(T:SJ P w h S es ep t ds):ElemsOf (intKind P w) es.toList:=λe he=>by
 obtain⟨k,tk,rfl⟩:=T.el e he
 exact⟨⟨k,intKind_is _ _ _ _,rfl⟩,rfl⟩
theorem zsp{j:Nat}(hd:t.dummies=#[])(h:t.slot j=.empty)(l:t.place.toList.Pairwise (·<·)):j∉t.place.toList:=by
 intro hm
 obtain⟨i,ei⟩:=ψp hm
 rw[Array.getElem?_toList] at ei
 obtain⟨h1,h2,h3⟩:=zf9 j l
 have a1:¬ i<SetTable.below t.place j:=λz=>absurd (h2 i j ei z) (ψr1 _)
 have a2:¬ SetTable.below t.place j<i:=λz=>by
  have hi:=(Array.getElem?_eq_some_iff.mp ei).1
  have e2:t.place[SetTable.below t.place j]?=some t.place[SetTable.below t.place j]:=Array.getElem?_eq_getElem (by (first|lia|omega))
  have u:=h3 _ _ e2 (ψj _)
  rw[← Array.getElem?_toList] at ei e2
  obtain⟨l1,z1⟩:=List.getElem?_eq_some_iff.mp ei
  obtain⟨l2,z2⟩:=List.getElem?_eq_some_iff.mp e2
  have u2:=List.pairwise_iff_getElem.mp l _ _ l2 l1 z
  (first|lia|omega)
 have:SetTable.below t.place j=i:=by (first|lia|omega)
 unfold SetTable.slot at h
 rw[this] at h
 dsimp only at h
 rw[ei,if_pos (by simp)] at h
 cases h
theorem zrX{x:Int}(hd:t.dummies=#[]):∀(n fuel:Nat) (p:SetTable.Probe),St.Reach t n p→n<fuel→p.dummy=none→∃j,SetTable.probe.go t (λ_=>x+1) x fuel p=some (.empty j none)∧t.slot j=.empty
 | n,0,p,_,hn,_=>by (first|lia|omega)
 | n,fuel+1,p,hr,hn,hp=>by
  rw[SetTable.probe.go]
  rcases St.slot_cases hd p.j with e | ⟨i,e,_⟩
  ·exact⟨p.j,by rw[e];simp[hp],e⟩
  ·obtain⟨r,r1,r2⟩:=hr
   match r,r1,r2 with
   | 0,r1,r2=>exact absurd (show t.slot p.j=.empty from r2) (by rw[e];simp)
   | r+1,r1,r2 =>
    obtain⟨j,a,b⟩:=zrX (x:=x) hd (n - 1) fuel (t.advance p) ⟨r,by (first|lia|omega),r2⟩ (by (first|lia|omega)) (by rw[St.adv_dummy,hp])
    have c:((x+1:Int) == x)=false:=by
     rw[Bool.eq_false_iff]
     intro z
     have:=eq_of_beq z
     (first|lia|omega)
    exact⟨j,by rw[e];simpa [c] using a,b⟩
theorem zvQ{h:Heap}{ds:List Int}(T:SJ P w h S es ep t ds)(x:Int)(v:Value):∃(p:Nat) (t2:SetTable),layNew t es x v=(SetTable.insertAt es p (x,v),t2,false,false)∧t2.mask=t.mask∧t2.dummies=#[]∧t2.place.size=es.size+1∧t2.plain=true∧t2.led=t.led∧t2.place.toList.Pairwise (·<·):=by
 have lo:=T.lo
 have hl:t.place.size<t.mask+1:=by rw[T.pl];(first|lia|omega)
 have hr:=St.reach_start T.ms T.dm hl x
 have hf:∃j,t.freeSlot x=some (j,false)∧t.slot j=.empty:=by
  unfold SetTable.freeSlot SetTable.probe
  obtain⟨j,a,b⟩:=zrX (x:=x) T.dm _ (10*SetTable.turns t.mask) _ hr (by unfold SetTable.turns;(first|lia|omega)) rfl
  exact⟨j,by rw[a];rfl,b⟩
 obtain⟨j,e1,e2⟩:=hf
 obtain⟨a1,a2,a3⟩:=St.put_ok (t:=t) (j:=j) T.dm
 refine⟨SetTable.below t.place j,(t.put j).1,?_,a3,a1,by rw[a2,T.pl],T.pn,rfl,zuu T.rs (zsp T.dm e2 T.rs)⟩
 unfold layNew
 rw[e1]
 have fit:(t.put j).1.fits (SetTable.insertAt es (SetTable.below t.place j) (x,v)).size=true:=by
  simp only[SetTable.fits,SetTable.fill,a1,a2,a3,St.ins_size,T.pl,ψQ,beq_self_eq_true,decide_eq_true_eq,true_and]
  show es.size+1+0≤t.mask
  (first|lia|omega)
 show((SetTable.insertAt es (SetTable.below t.place j) (x,v)),((t.put j).1.orStandIn (SetTable.insertAt es (SetTable.below t.place j) (x,v)).size),false,!((t.put j).1.fits (SetTable.insertAt es (SetTable.below t.place j) (x,v)).size))=_
 unfold SetTable.orStandIn
 rw[if_pos fit,fit]
 rfl
theorem zt0{α:Type}(xs:Array α)(p:Nat)(x:α):(SetTable.insertAt xs p x).toList.Perm (x::xs.toList):=by
 refine(SetTable.insertAt_perm xs p x).trans ?_
 rw[Array.toList_push]
 exact List.perm_append_comm
theorem zqf:∀(r l:List Nat),r.Nodup→(∀v∈r,v∈l)→l.length=r.length→l.Perm r
 | [],l,_,_,e=>by rw[ψX e]
 | a::r,l,n,h,e=>by
  have ha:=h a ψe
  rw[List.nodup_cons] at n
  refine(List.perm_cons_erase ha).trans (List.Perm.cons _ (zqf r (l.erase a) n.2 (λv hv=>?_) ?_))
  ·exact(List.mem_erase_of_ne (λ(z:v=a)=>n.1 (z ▸ hv))).mpr (h v (ψd _ hv))
  ·rw[List.length_erase_of_mem ha,e]
   rfl
theorem zmk{M:Nat}{ow:Array (Option Nat)}:∀(fuel i p j:Nat),SetTable.layClean.free M ow fuel i p=some j→ow.getD j (some 0)=none
 | 0,i,p,j,e=>by
  unfold SetTable.layClean.free at e
  cases e
 | fuel+1,i,p,j,e=>by
  unfold SetTable.layClean.free at e
  split at e
  ·rename_i k hk
   cases e
   have:=List.find?_some hk
   simpa using this
  ·exact zmk fuel _ _ j e
theorem zou{M:Nat}:∀(hs:List Int) (ow ow':Array (Option Nat)) (k k':Nat),(∀v,v<k→some v∈ow.toList) →
  (hs.foldl (λ(acc:Option (Array (Option Nat)×Nat)) h=>do
   let (owner,k) ← acc
   let j ← SetTable.layClean.free M owner (SetTable.turns M) (SetTable.bits h % (M+1)) (SetTable.bits h)
   pure (owner.setIfInBounds j (some k),k+1)) (some (ow,k)))=some (ow',k')→∀v,v<k'→some v∈ow'.toList
 | [],ow,ow',k,k',h,e=>by
  cases e
  exact h
 | x::hs,ow,ow',k,k',h,e=>by
  rw[List.foldl_cons] at e
  cases c:SetTable.layClean.free M ow (SetTable.turns M) (SetTable.bits x % (M+1)) (SetTable.bits x) with
  | none =>
   simp only[c,Option.bind_eq_bind,Option.bind_some,Option.bind_none] at e
   exfalso
   have:∀l:List Int,(l.foldl (λ(acc:Option (Array (Option Nat)×Nat)) h=>acc.bind λq=>(SetTable.layClean.free M q.1 (SetTable.turns M) (SetTable.bits h % (M+1)) (SetTable.bits h)).bind λj=>pure (q.1.setIfInBounds j (some q.2),q.2+1)) none)=none:=λl=>by
    induction l with
    | nil=>rfl
    | cons y l ih=>rw[List.foldl_cons];exact ih
   have z:=(this hs).symm.trans e
   cases z
  | some j =>
   simp only[c,Option.bind_eq_bind,Option.bind_some] at e
   refine zou hs _ ow' _ k' (λv hv=>?_) e
   have nj:=zmk _ _ _ _ c
   obtain⟨lj,gj⟩:=St.getD_lt nj
   rw[Array.toList_setIfInBounds]
   rcases Nat.lt_or_ge v k with l | l
   ·obtain⟨i,ei⟩:=ψp (h v l)
    have ne:j≠i:=λz=>by
     subst z
     rw[Array.getElem?_toList,Array.getElem?_eq_getElem lj,gj] at ei
     cases ei
    exact ψN (by rw[List.getElem?_set_ne ne];exact ei)
   ·obtain rfl:v=k:=by (first|lia|omega)
    exact ψN (List.getElem?_set_self (by rw[Array.length_toList];exact lj))
theorem ztP{n:Nat}{t2:SetTable}{es2:Array (Int×Value)}(hM:St.Msk t2.mask)(hn:es2.size=n+1)(c1:n*5<t2.mask*3)(c2:(n+1)*5≥t2.mask*3)(hz:n<300)(pn:t2.plain=true) :
  ∃(es3:Array (Int×Value)) (t3:SetTable),relayAll t2 es2 (SetTable.grown es2.size)=(es3,t3,false)∧es3.toList.Perm es2.toList∧St.Msk t3.mask∧(n+1)*5<t3.mask*3∧t3.dummies=#[]∧t3.place.size=n+1∧t3.plain=true∧t3.led=t2.led∧t3.place.toList.Pairwise (·<·):=by
 obtain⟨g1,g2,g3⟩:=St.grow hM c1 c2 hz
 rw[← hn] at g1 g2
 obtain⟨t3,od,r1,r2,r3,r4,r5,r6,r7⟩:=St.relaid_ok (t:=t2) (hs:=es2.map (·.1)) g1 (by rw[Array.size_map];(first|lia|omega))
 rw[Array.size_map] at r4 r6 r7
 have key:t3.plain=true∧t3.place.toList.Pairwise (·<·)∧∀v,v<es2.size→v∈od.toList:=by
  have r:=r1
  obtain⟨ow,a,o1,o2,o3⟩:=St.fold_ok g1 (es2.map (·.1)).toList (Array.replicate (SetTable.sizeAbove (SetTable.grown es2.size) - 1+1) none) 0 ⟨by simp,by simp[List.countP_replicate],by simp⟩ (by simp;(first|lia|omega))
  have al:=zou _ _ _ _ _ (λv hv=>absurd hv (ψD1 v)) a
  rw[Nat.zero_add,Array.length_toList,Array.size_map] at al
  unfold SetTable.relaid SetTable.laid SetTable.layClean at r
  rw[← Array.foldl_toList,a] at r
  simp only[Option.map_some,Option.bind_eq_bind,Option.bind_some] at r
  have r':=Option.some.inj r
  cases r'
  refine⟨pn,?_,λv hv=>?_⟩
  ·show(List.toArray _).toList.Pairwise (·<·)
   rw[List.toList_toArray,List.pairwise_map]
   refine List.Pairwise.filterMap _ (λa a' l b hb b' hb'=>?_) List.pairwise_lt_range
   obtain⟨u,_,rfl⟩:=Option.map_eq_some_iff.mp hb
   obtain⟨u',_,rfl⟩:=Option.map_eq_some_iff.mp hb'
   exact l
  ·rw[List.toList_toArray,List.mem_map]
   obtain⟨j,ej⟩:=ψp (al v hv)
   rw[Array.getElem?_toList] at ej
   have lj:=(Array.getElem?_eq_some_iff.mp ej).1
   refine⟨(j,v),List.mem_filterMap.mpr ⟨j,List.mem_range.mpr (by (first|lia|omega)),?_⟩,rfl⟩
   rw[Array.getD_eq_getD_getElem?,ej]
   rfl
 obtain⟨k1,k2,k3⟩:=key
 have pm:od.toList.Perm (ψs1 es2.size):=zqf _ _ List.nodup_range (λv hv=>k3 v (List.mem_range.mp hv)) (by rw[Array.length_toList,r6,List.length_range])
 have cv:coversAll od es2.size=true:=by
  unfold coversAll
  exact List.isPerm_iff.mpr pm
 have pe:(od.filterMap (es2[·]?)).toList.Perm es2.toList:=by
  rw[Array.toList_filterMap]
  refine(pm.filterMap _).trans (.of_eq (filterMap_getElem?_range es2))
 have sz:(od.filterMap (es2[·]?)).size=es2.size:=by rw[← Array.length_toList,pe.length_eq,Array.length_toList]
 have ft:t3.fits (od.filterMap (es2[·]?)).size=true:=by
  simp only[SetTable.fits,SetTable.fill,r3,r4,sz,ψQ,beq_self_eq_true,decide_eq_true_eq,true_and]
  show es2.size+0≤t3.mask
  rw[r2]
  (first|lia|omega)
 refine⟨_,t3,?_,pe,by rw[r2];exact g1,by rw[r2,← hn];exact g2,r3,by rw[r4,hn],k1,r5,k2⟩
 unfold relayAll
 rw[r1]
 dsimp only
 rw[if_pos (by rw[cv,ft];rfl)]
theorem addJ{k:Int}{tk:Tok}{ds:List Int}{Q:Bool→Shared→Prop}(T:SJ P w s.heap S es ep t ds)(hz:es.size<300)
  (q:∀h' b es' ep' t',SJ P w h' S es' ep' t' (if k∈ds then ds else k::ds)→Heap.SameBut S s.heap h'→Q b { s with heap:=h' }) :
  wpAny (model P w) A (setAddHashed S (.int k tk) ((intKind P w).hash k)) Q E s:=by
 have bd:es.size<scanBound:=ψQ1 hz (by decide);unfold setAddHashed setAddHashedIn
 refine wpAny_holding (wpAny_bind (zf5 T.ob T.fits ?_))
 dsimp only
 rw[byScan_of (knd:=intKind P w) rfl bd T.elems,if_pos rfl]
 unfold setAddByScan
 refine wpAny_bind (wpAny_bind (wpAny_rule (wpAny_bind (wpAny_setScan_of (knd:=intKind P w) (intKind_is _ _ _ _) T.ob rfl T.fits T.elems ?_))))
 have mem:∀e∈es.toList,(intKind P w).is k e.2=true↔vI e.2=k:=λe he=>by
  obtain⟨k',tk',rfl⟩:=T.el e he
  simp only[intKind,Value.isInt,vI]
  exact beq_iff_eq
 have inD:k∈ds↔∃e∈es.toList,(intKind P w).is k e.2=true:=by
  rw[← T.ks.mem_iff,List.mem_map]
  exact⟨λ⟨e,h1,h2⟩=>⟨e,h1,(mem e h1).mpr h2⟩,λ⟨e,h1,h2⟩=>⟨e,h1,(mem e h1).mp h2⟩⟩
 cases hr:List.findIdx? (λe=>(intKind P w).is k e.2) es.toList with
 | some j =>
  obtain⟨hj,hp,_⟩:=List.findIdx?_eq_some_iff_getElem.mp hr
  have hk:k∈ds:=inD.mpr ⟨_,ψv1 hj,hp⟩
  rw[if_pos hk] at q
  exact wpAny_pure (wpAny_pure (q s.heap false es ep t T (Heap.SameBut.refl S s.heap)))
 | none =>
  have hk:k∉ds:=λz=>by
   obtain⟨e,h1,h2⟩:=inD.mp z
   rw[List.findIdx?_eq_none_iff.mp hr e h1] at h2
   cases h2
  rw[if_neg hk] at q
  obtain⟨p,t2,e1,m2,d2,p2,pn2,l2,r2⟩:=zvQ T ((intKind P w).hash k) (.int k tk)
  dsimp only
  rw[e1]
  dsimp only
  have sz:(SetTable.insertAt es p ((intKind P w).hash k,Value.int k tk)).size=es.size+1:=St.ins_size _ _ _
  have pm:=zt0 es p ((intKind P w).hash k,Value.int k tk)
  generalize SetTable.insertAt es p ((intKind P w).hash k,Value.int k tk)=es2 at sz pm ⊢
  have zl:es.size+1≤sizeLine:=by rw[sizeLine_eq];(first|lia|omega)
  have fl:t2.fill=es.size+1:=by simp[SetTable.fill,d2,p2]
  have el2:∀e∈es2.toList,∃k tk,e=((intKind P w).hash k,Value.int k tk):=λe he=>by
   rcases List.mem_cons.mp (pm.mem_iff.mp he) with rfl | he
   ·exact⟨_,_,rfl⟩
   ·exact T.el e he
  have ks2:(es2.toList.map λe=>vI e.2).Perm (k::ds):=(pm.map _).trans (List.Perm.cons _ T.ks)
  have ld2:w.params.followText "set-order"=true∨t2.led=true:=by rw[l2];exact T.ld
  show wpAny _ _ (pure () >>= _) _ _ s;refine wpAny_bind (wpAny_pure ?_)
  rw[if_pos pn2,hashByValue_scannable 8 (x:=.int k tk) rfl];refine wpAny_bind (wpAny_pure ?_)
  dsimp only [plainKind]
  rw[if_pos rfl]
  refine wpAny_bind (wpAny_storeSet_of T.ob rfl ?_ (by rw[sz];exact zl))
  have sb:=Heap.SameBut.update s.heap S (Obj.putSet es2 t2)
  have o1:=St.lay_self (es':=es2) (t':=t2) T.ob
  by_cases c:(!false&&t2.tooFull)=true
  ·rw[if_pos c]
   have c':(es.size+1)*5≥t.mask*3:=by
    simp only[Bool.not_false,Bool.true_and,SetTable.tooFull,decide_eq_true_eq,fl,m2] at c
    exact c
   obtain⟨es3,t3,f1,f2,f3,f4,f5,f6,f7,f8,f9⟩:=ztP (n:=es.size) (t2:=t2) (es2:=es2) (by rw[m2];exact T.ms) sz (by rw[m2];exact T.lo) (by rw[m2];exact c') hz pn2
   rw[f1]
   dsimp only
   have sz3:es3.size=es.size+1:=by rw[← Array.length_toList,f2.length_eq,Array.length_toList,sz]
   show wpAny _ _ (pure () >>= _) _ _ _;refine wpAny_bind (wpAny_pure ?_)
   refine wpAny_bind (wpAny_storeSet_of (s:={ s with heap:=_ }) o1 rfl ?_ (by rw[sz3];exact zl))
   refine wpAny_pure (wpAny_pure (q _ true es3 _ t3 ⟨St.lay_self o1,by rw[f6,sz3],f5,f3,by rw[sz3];exact f4,f7,by rw[f8];exact ld2,f9,λe he=>el2 e (f2.mem_iff.mp he),(f2.map _).trans ks2⟩ (sb.trans (Heap.SameBut.update _ S _))))
  ·rw[if_neg c]
   refine wpAny_pure (wpAny_pure (q _ true es2 _ t2 ⟨o1,by rw[p2,sz],d2,by rw[m2];exact T.ms,?_,pn2,ld2,r2,el2,ks2⟩ sb))
   simp only[Bool.not_false,Bool.true_and,SetTable.tooFull,decide_eq_true_eq,fl,m2] at c
   rw[sz,m2]
   (first|lia|omega)
def dd(val:Nat→Int):Nat→List Int
 | 0=>[]
 | i+1=>if val i∈dd val i then dd val i else val i::dd val i
theorem dd_len(val:Nat→Int):∀i,(dd val i).length≤i
 | 0=>ψj _
 | i+1=>by
  have:=dd_len val i
  unfold dd
  split
  ·(first|lia|omega)
  ·rw[ψM]
   (first|lia|omega)
theorem dd_nodup(val:Nat→Int):∀i,(dd val i).Nodup
 | 0=>List.nodup_nil
 | i+1=>by
  unfold dd
  split
  ·exact dd_nodup val i
  ·exact List.nodup_cons.mpr ⟨by assumption,dd_nodup val i⟩
theorem dd_mem(val:Nat→Int){x:Int}:∀{i},x∈dd val i↔∃j,j<i∧val j=x
 | 0=>⟨λh=>(nomatch h),λ⟨j,h,_⟩=>absurd h (ψD1 j)⟩
 | i+1=>by
  have ih:=dd_mem val (x:=x) (i:=i)
  have e:x∈dd val (i+1)↔x∈dd val i∨val i=x:=by
   show x∈(if val i∈dd val i then dd val i else val i::dd val i)↔_
   split
   ·rename_i h
    exact⟨.inl,λz=>z.elim id λe=>e ▸ h⟩
   ·rw[ψP]
    exact⟨λz=>z.elim (λe=>.inr e.symm) .inl,λz=>z.elim .inr λe=>.inl e.symm⟩
  rw[e,ih]
  constructor
  ·rintro(⟨j,h1,h2⟩ | h)
   ·exact⟨j,by (first|lia|omega),h2⟩
   ·exact⟨i,by (first|lia|omega),h⟩
  ·rintro⟨j,h1,h2⟩
   rcases Nat.lt_or_ge j i with l | l
   ·exact .inl ⟨j,l,h2⟩
   ·obtain rfl:j=i:=by (first|lia|omega)
    exact .inr h2
theorem SJ.keep{h h':Heap}{ds:List Int}(T:SJ P w h S es ep t ds)(e:∀o,h.get? S=some o→h'.get? S=some o):SJ P w h' S es ep t ds :=
 ⟨e _ T.ob,T.pl,T.dm,T.ms,T.lo,T.pn,T.ld,T.rs,T.el,T.ks⟩
theorem SJ.size{h:Heap}{ds:List Int}(T:SJ P w h S es ep t ds):es.size=ds.length:=by
 rw[← T.ks.length_eq,ψb,Array.length_toList]
theorem loopJ{R:Result→Shared→Prop}{I:Addr}{fp wr:List Addr}{G:Array GenState→Array GenState→Prop}{n:Nat}{V:Nat→Value→Prop}{Z:Nat→Shared→Prop}
  (W:WalksS P w A.in1 I fp wr G n V Z) (S:Addr) (nS:S∉fp) (val:Nat→Int) (hv:∀i v,V i v→∃tk,v=.int (val i) tk) (hz:n<300) :
  ∀(k i:Nat) (s:Shared) (es:Array (Int×Value)) (ep:Nat) (t:SetTable),n - i=k→i≤n→Z i s→SJ P w s.heap S es ep t (dd val i) →
   (∀s' es' ep' t',Moved (S::wr) G s s'→SJ P w s'.heap S es' ep' t' (dd val n)→R (.ok (.ret .none)) s') →
   codeAny (model P w) A (.builtin "set.update.loop" ⟨[.ref S,.ref I],[]⟩) R s:=by
 have nW:S∉wr:=λh=>nS (W.sub _ h)
 have sb:∀b∈wr,b∈S::wr:=λb hb=>ψd _ hb
 intro k
 induction k with
 | zero =>
  intro i s es ep t ek hi st T q
  obtain rfl:i=n:=by (first|lia|omega)
  refine codeAny_builtin PyProof.Rows.F.entry_set_update_loop ?_;rw[Around.under_plainId ψH1 _]
  show wpAny _ A.in1 (pyNext (.ref I) >>= _) _ _ s;refine wpAny_bind (W.done s _ _ st λs' hm=>?_)
  show wpAny _ A.in1 (ret Value.none) _ _ s';exact wpAny_pure (q s' es ep t (hm.mono sb) (T.keep λo e=>hm.heap S o nW e))
 | succ k ih =>
  intro i s es ep t ek hi st T q
  have lt:i<n:=by (first|lia|omega)
  refine codeAny_builtin PyProof.Rows.F.entry_set_update_loop ?_;rw[Around.under_plainId ψH1 _]
  show wpAny _ A.in1 (pyNext (.ref I) >>= _) _ _ s;refine wpAny_bind (W.item i s _ _ lt st λv s' hP st' hm=>?_)
  obtain⟨tk,rfl⟩:=hv i v hP
  have T':SJ P w s'.heap S es ep t (dd val i):=T.keep λo e=>hm.heap S o nW e
  have zl:=dd_len val i
  have sz:=T'.size
  show wpAny _ A.in1 (holding [Value.int (val i) tk] (setAdd S (.int (val i) tk)) >>= _) _ _ s';refine wpAny_bind (wpAny_holding ?_)
  unfold setAdd
  refine wpAny_holding (wpAny_bind ((intKind P w).pyHash (k:=val i) (intKind_is _ _ _ _) ?_))
  refine addJ (s:={ s' with toks:=s'.toks+1 }) T' (by (first|lia|omega)) λh' b es' ep' t' T2 sm=>?_
  refine wpAny_pure ⟨plainId_quiet ψH1 _,ih (i+1) _ es' ep' t' (by (first|lia|omega)) lt (W.frame _ s' _ _ st' (Nat.le_succ _) λb hb o e=>?_) T2 λs'' es'' ep'' t'' hm'' T3=>?_⟩
  ·rw[sm.2 b (λh:b=S=>nS (by rw[← h];exact hb))];exact e
  ·refine q s'' es'' ep'' t'' (Moved.trans W.gtrans ((hm.mono sb).then_heap (Nat.le_succ _) λb o hb e=>?_) hm'') T3
   rw[sm.2 b (λh:b=S=>hb (by rw[h];exact ψe))];exact e
theorem zwv(v:Value){Q₁:Value→Shared→Prop}(h:Q₁ (.ref s.heap.objs.size) { s with heap:=s.heap.push { cls:=.type "set",dict:=none,data:=.set #[] 0 (.fresh 0 0 (!w.params.followText "set-order")) } }) :
  codeAny (model P w) A (.call (.builtin "set.__new__") ⟨[.type "set",v],[]⟩) (wants Q₁ E) s:=by
 refine codeAny_of_tree ?_;show wpAny _ A.in1 (do checkBuiltinCall "set.__new__" ⟨[.type "set",v],[]⟩;again (.builtin "set.__new__" ⟨[.type "set",v],[]⟩)) _ _ s
 refine wpAny_bind (wpAny_of_eq (PySem.F.newCall_set_1 v) (wpAny_pure ⟨plainId_quiet PySem.F.plain_set_new _,codeAny_builtin PySem.F.entry_set_new ?_⟩));rw[Around.under_plainId PySem.F.plain_set_new _]
 unfold Builtin.«set.__new__» Builtin.Frozenset.newClass;have hsub:=PySem.sub_set_self;obtain⟨hp,g,d,tk,os⟩:=s
 dsimp only;wp_walk
 refine wpAny_askSetting (wpAny_pure ?_);dsimp only;simp only[newObj]
 refine wpAny_bind (wpAny_alloc (wpAny_pure ?_));exact wpAny_pure h
set_option maxHeartbeats 3200000 in
theorem call_setJ{l:Addr}{its:Array Value}{val:Nat→Int}{Q:Value→Shared→Prop}
  (hh:A.handled=none) (hl:s.heap.IsList l its) (hv:∀(i:Nat) v,its[i]?=some v→∃tk,v=.int (val i) tk) (hz:its.size<300)
  (q:∀(h':Heap) (u:Nat) es ep t,SJ P w h' s.heap.objs.size es ep t (dd val its.size)→(∀b o,s.heap.get? b=some o→h'.get? b=some o)→Q (.ref s.heap.objs.size) { s with heap:=h',toks:=u }) :
  wpAny (model P w) A (call (.type "set") [.ref l]) Q E s:=by
 obtain⟨c0,tl0,mr⟩:=PySem.F.called_set.mro
 have mad:=PySem.F.called_set.made;have sub0:=PySem.F.called_set.sub;refine wpAny_call (codeAny_of_tree ?_)
 show wpAny _ _ (callAny (.type "set") _) _ _ _;refine wpAny_pure ⟨Code.quiet_builtin _ (by decide +kernel),codeAny_builtin PySem.F.entry_type_call ?_⟩;rw[Around.under_plain (weight_type_call_type "set" [.ref l] []) rfl]
 have h1:=PySem.F.called_set.notType;have h2:=PySem.F.called_set.canCreate;have tc:=PySem.F.typeCall_set_1 (.ref l);repeat (any_goals (first | assumption | wp_step))
 refine codeAny_mono (zwv (.ref l) (E:=E) (Q₁:=λob s₁=>∃led:Bool,led=!w.params.followText "set-order"∧ob=.ref s.heap.objs.size∧s₁={ s with heap:=s.heap.push { cls:=.type "set",dict:=none,data:=.set #[] 0 (.fresh 0 0 led) } }) ⟨_,rfl,rfl,rfl⟩) λr s₁ hr=>?_
 cases r with
 | error e=>exact hr
 | ok fl =>
  cases fl with
  | ret ob =>
   obtain⟨led,hled,rfl,rfl⟩:=hr
   have gS:(s.heap.push { cls:=.type "set",dict:=none,data:=.set #[] 0 (.fresh 0 0 led) }).get? s.heap.objs.size=some { cls:=.type "set",dict:=none,data:=.set #[] 0 (.fresh 0 0 led) }:=Heap.get?_push_size _ rfl
   have tyS:Shared.TypeIs { s with heap:=s.heap.push { cls:=.type "set",dict:=none,data:=.set #[] 0 (.fresh 0 0 led) } } (.ref s.heap.objs.size) "set":=⟨_,gS,rfl⟩
   have li:=PySem.F.called_set.init.lookup;have bi:=PySem.F.called_set.init.bind (.ref s.heap.objs.size);repeat (any_goals (first | assumption | wp_step))
   refine codeAny_mono (codeAny_call_builtin (R:=wants (λr s₂=>r=.none∧∃h' u es ep t,s₂={ s with heap:=h',toks:=u }∧SJ P w h' s.heap.objs.size es ep t (dd val its.size)∧(∀b o,s.heap.get? b=some o→h'.get? b=some o)) E) PySem.F.called_set.init.plain PySem.F.entry_set_init (check_set_init_1 tyS ?_)) λr₂ s₂ hr₂=>?_
   ·obtain⟨⟨oc,od,odt,os⟩,go,gc,nl,gd⟩:=hl
    simp only at gc gd
    subst gc;subst gd
    have go':(s.heap.push { cls:=.type "set",dict:=none,data:=.set #[] 0 (.fresh 0 0 led) }).get? l=some { cls:=.type "list",dict:=od,data:=.seq its nl,slots:=os }:=Heap.get?_push_of_some _ go
    have b1:=PySem.F.sub_list_set;have b2:=PySem.F.sub_list_frozenset
    have b3:(Value.type "list" == Value.type "dict")=false:=by decide
    have hl1:(s.heap.push { cls:=.type "set",dict:=none,data:=.set #[] 0 (.fresh 0 0 led) }).IsList l its:=⟨_,go',rfl,nl,rfl⟩;unfold Builtin.«set.__init__» noKeywords Builtin.Frozenset.updateFrom
    generalize ePI:pyIter=PI
    wp_walk
    subst ePI
    refine wpAny_pyIter_list hl1 ?_;refine wpAny_bind (wpAny_runValue ?_)
    have lS:l<s.heap.objs.size:=Heap.lt_size go;have hh3:A.in1.in1.in1.handled=none:=by simp[hh]
    have sz1:(s.heap.push { cls:=.type "set",dict:=none,data:=.set #[] 0 (.fresh 0 0 led) }).objs.size=s.heap.objs.size+1:=Heap.size_push ..
    have nI:l≠(s.heap.push { cls:=.type "set",dict:=none,data:=.set #[] 0 (.fresh 0 0 led) }).objs.size:=by rw[sz1];exact ψs (Nat.lt_succ_of_lt lS)
    have nSf:s.heap.objs.size∉[(s.heap.push { cls:=.type "set",dict:=none,data:=.set #[] 0 (.fresh 0 0 led) }).objs.size,l]:=by
     rw[sz1];simp only[ψP,ψF,or_false,not_or]
     exact⟨ψs (ψP1 _),ψG1 lS⟩
    refine loopJ ((Walks.list hh3 _ l nI its).toS) s.heap.objs.size nSf val hv hz (its.size - 0) 0 _ #[] 0 (.fresh 0 0 led) (by (first|lia|omega)) (ψp1 _) ⟨⟨_,Heap.get?_push_size _ rfl,rfl,rfl⟩,(hl1.push _)⟩ ⟨Heap.get?_push_of_some _ gS,rfl,rfl,.inl rfl,(by show 0*5<7*3;decide),rfl,?_,List.Pairwise.nil,λe he=>by simp at he,List.Perm.refl _⟩ ?_
    ·show w.params.followText "set-order"=true∨led=true
     rw[hled]
     cases w.params.followText "set-order" <;> simp
    ·intro s' es ep t hm T
     obtain⟨h',g',d',tk',os'⟩:=s';have eg:g'=s.gens:=hm.gens;have ed:d'=s.drawn:=hm.drawn
     have eo:os'=s.os:=hm.os
     subst eg;subst ed;subst eo
     show wpAny _ _ _ _ _ _;refine wpAny_pure ?_;show wpAny _ _ (ret Value.none) _ _ _
     refine wpAny_pure ⟨rfl,h',tk',es,ep,t,rfl,T,λb o e=>?_⟩
     have:=Heap.lt_size e
     refine hm.heap b o ?_ (Heap.get?_push_of_some _ (Heap.get?_push_of_some _ e))
     simp only[ψP,ψF,or_false,not_or]
     rw[sz1]
     exact⟨ψs this,ψs (Nat.lt_succ_of_lt this)⟩
   ·cases r₂ with
    | error e=>exact hr₂
    | ok fl₂ =>
     cases fl₂ with
     | ret r =>
      obtain⟨rfl,h',u,es,ep,t,rfl,g1,g4⟩:=hr₂;repeat (any_goals (first | assumption | wp_step))
      exact q _ _ _ _ _ g1 g4
     | _=>exact hr₂.elim
  | _=>exact hr.elim
end
end L2.Sw
namespace L2
open PySem PySem.Spec PyProof.Rows
def zky(K:ψa):List V→Hp→VK→Prop:=λxs H Q=>∃(p:Addr) (ns:List Int),xs=[.ref p]∧SqL K H p (ns.map V.int)∧ns.length<64∧∀(l:Addr) (ms:List Int),H l=none→(∀x,x∈ms↔x∈ns)→ms.Pairwise (·<·)→ms.length≤ns.length→Q (.ref l) (upd H l (.lst (ms.map V.int)))
section
variable {X:Cx} {e:Expr} {t:TA} {p1 p2 pos1 pos2:Pos}
theorem zqp:∀{ms:List Int},ms.Pairwise (·≤·)→ms.Nodup→ms.Pairwise (·<·)
 | [],_,_=>.nil
 | a::ms,h,n=>by
  rw[List.pairwise_cons] at h ⊢
  rw[List.nodup_cons] at n
  refine⟨λb hb=>?_,zqp h.2 n.2⟩
  have h1:=h.1 b hb
  have h2:a≠b:=λz=>n.1 (z ▸ hb)
  (first|lia|omega)
theorem zpw(hgl:Gl X "sorted")(hml:X.mg "sorted"=none)(hgs:Gl X "set")(hms:X.mg "set"=none)(ha:PA X [e] t)(hc:X.calm=true:=by rfl)
  (he:starEach [e] X.env=(false,eval e X.env)::starEach [] X.env:=by rfl) (hpl:∀pos,(backTo pos (starEach [] X.env)).any (·.1)=false:=by intro _;rfl)
  (he2:starEach [.Call (.Name "set" p2) [e] [] pos2] X.env=(false,eval (.Call (.Name "set" p2) [e] [] pos2) X.env)::starEach [] X.env:=by rfl) :
  PE X (.Call (.Name "sorted" p1) [.Call (.Name "set" p2) [e] [] pos2] [] pos1) (tCB (zky X.K) t):=by
 intro pins s σ H Q I h
 refine wpAny_Call_Name_kw (zic I hgl hml boot_sorted ?_ (by decide) (by decide))
 refine PyProof.Rows.callWith_builtin1 ?_ he2 (hpl _);rw[he2]
 show wpAny _ _ (spliced ((false,eval (.Call (.Name "set" p2) [e] [] pos2) X.env)::backTo pos1 (starEach [] X.env))) _ _ s;refine Calls.spliced_cons ?_
 refine wpAny_Call_Name_kw (zic I hgs hms PyProof.Rows.boot_set ?_ (by decide) (by decide))
 refine ψo1 (thn (ha pos2 pins s σ H _ I h) λus s1 hQ'=>?_) he (hpl _)
 obtain⟨vs,H1,I1,r1,q1⟩:=hQ'
 obtain⟨p,ns,rfl,hp,l64,q⟩:=q1
 obtain⟨u,rfl,rx⟩:=zmQ r1
 cases rx
 obtain⟨its,rv,pl,hz⟩:=I1.list hp
 have hlen:its.length=ns.length:=by rw[← rv.length,ψb]
 refine Sw.call_setJ (its:=its.toArray) (val:=λi=>ns.getD i 0) (I1.ok.hd hc) pl.isList (λi v e=>?_) (by rw[ψg,hlen];(first|lia|omega)) λh' tk es ep tb T g4=>?_
 ·have hi:i<ns.length:=by
   have:=(Array.getElem?_eq_some_iff.mp e).1
   rw[ψg,hlen] at this
   exact this
  obtain⟨u,eu,ru⟩:=rv.get (show(ns.map V.int)[i]?=some (V.int ns[i]) by simp[hi])
  have e':its[i]?=some v:=by simpa using e
  rw[e'] at eu
  cases eu
  rw[ψx,ψc hi]
  exact ru
 ·refine Calls.spliced_nil ?_
  have szi:its.toArray.size=ns.length:=by rw[ψg];exact hlen
  rw[szi] at T
  have I2:Inv X pins σ H1 { s1 with heap:=h',toks:=tk }:=I1.kept (t':=tk) g4
  generalize s1.heap.objs.size=S at T ⊢
  have hes:=T.size
  have hdd:=Sw.dd_len (λi=>ns.getD i 0) ns.length
  refine Calls.call_function_entry kind_sorted plain_sorted entry_sorted (args_sorted1 _) ?_;unfold Builtin.«sorted»;refine wpAny_bind (m:=checkCount "sorted" 1 1 _) (wpAny_pure ?_)
  refine wpAny_bind (PySem.W.kdu_collect (A:=X.A.in1) (s:={ s1 with heap:=h',toks:=tk }) (Sw.src (P:=X.prog) (w:=X.w) T.fits T.led) (I1.ok.hd hc) T.ob (by rw[sizeLine_eq];(first|lia|omega)) λh2 tk2 acc hkp hacc=>?_)
  have pm:=(Sw.ord_perm (w:=X.w) (S:=S) (es:=es) (ep:=ep))
  have osz:(Sw.ord X.w S es ep).size=es.size:=by rw[← Array.length_toList,pm.length_eq,Array.length_toList]
  have hla:acc.toList.length=es.size:=by rw[Array.length_toList,hacc.1]
  have hI:IntsAre acc.toList ((Sw.ord X.w S es ep).toList.map λe=>Sw.vI e.2):=by
   refine zo5 (zru (by rw[ψb,ψb,hla,Array.length_toList,osz]) λj x w e1 e2=>?_)
   rw[ψt,Option.map_eq_some_iff] at e1
   obtain⟨k,hk,rfl⟩:=e1
   rw[ψt,Option.map_eq_some_iff] at hk
   obtain⟨y,hy,rfl⟩:=hk
   have e3:((Sw.ord X.w S es ep)[j]?).map (·.2)=some w:=hacc.2 j w (by rw[← Array.getElem?_toList];exact e2)
   rw[← Array.getElem?_toList,hy] at e3
   cases e3
   obtain⟨k',tk',rfl⟩:=T.el y (pm.mem_iff.mp (ψN hy))
   exact⟨tk',rfl⟩
  have hpk:((Sw.ord X.w S es ep).toList.map λe=>Sw.vI e.2).Perm (Sw.dd (λi=>ns.getD i 0) ns.length):=(pm.map _).trans T.ks
  refine wpAny_bind (wpAny_newList ?_ (by rw[hla,sizeLine_eq];(first|lia|omega)))
  have hoL:(h2.push (seqObj "list" acc.toList.toArray 0)).get? h2.objs.size=some (seqObj "list" acc.toList.toArray 0):=Heap.get?_push_size _ rfl
  refine wpAny_bind (wpAny_holding (wpAny_call_entry slot_list_sort ⟨_,hoL,rfl⟩ entry_list_sort (list_sort_tree hoL hI (by rw[hla];(first|lia|omega)) λout ns' a1 a2 a3=>⟨_,rfl,?_⟩) (args_list_sort _)))
  obtain⟨e,he⟩:=sortedHeap_at (out:=out) hoL;refine wpAny_pure ⟨_,rfl,?_⟩
  have I':Inv X pins σ H1 { s1 with heap:=h2,toks:=tk2 }:=I2.kept (t':=tk2) hkp
  have a4:=a2.trans hpk
  refine zpZ (s:={ s1 with heap:=h2,toks:=tk2 }) (h':=sortedHeap (h2.push (seqObj "list" acc.toList.toArray 0)) h2.objs.size acc.toList out) (tk:=tk2) I' (λb o hb'=>?_) (ψj _) he a1 (by rw[a4.length_eq];(first|lia|omega)) λhn=>q _ ns' hn (λx=>?_) (zqp a3 (a4.nodup_iff.mpr (Sw.dd_nodup _ _))) (by rw[a4.length_eq];exact hdd)
  ·have hlt:=Heap.lt_size hb'
   rw[sortedHeap_old (ψs hlt) (by rw[size_push'];exact Nat.lt_succ_of_lt hlt)]
   exact Heap.get?_push_of_some _ hb'
  ·rw[a4.mem_iff,Sw.dd_mem]
   constructor
   ·rintro⟨j,hj,rfl⟩
    rw[ψx,ψc hj]
    exact ψv1 hj
   ·intro hx
    obtain⟨j,ej⟩:=ψp hx
    exact⟨j,(List.getElem?_eq_some_iff.mp ej).1,by rw[ψx,ej];rfl⟩
end
end L2
set_option maxHeartbeats 4000000
local macro_rules
 | `(tactic| simp_all only [$xs,*])=>do
  let ds ← ("zwZ zwT zw7 zxa zxD zvV zv8 zwp zxE zwr zug zu1 zuP rI0_c zzE zyO ex_bl zyP zyW zza zxY ztQ ztA ztW ztS zuq zux zul zur ztt ztL zqu zsR zs7 rNeI zt3 zlH zxi za8 tSl zkW zu6 rSlL zb8 zxI tBM zw5 zij zcT zbg zbU zbS zdS zaL zdO tCB zab zau tC tOp zbZ tB tOr zeM zdI zbP zgh zlA zfq zaA rEq rNe rI_c rIn zrI zu3 zqJ zky zlG tUn tTru ze3 tIf rU tOrV tAnd zxC zu9 tPar rEqT zvJ zwC zmv iTup gSub zuI".splitOn " ").toArray.mapM λs=>`(Lean.Parser.Tactic.simpLemma| ↓ $(Lean.mkIdent s.toName):ident)
  let ps ← ("zud Option.bind_some Option.bind_none Option.join_some Option.map_some List.getElem?_cons_zero List.getElem?_cons_succ V.str.injEq V.ty.injEq zac rI0 zhx zbB L2.start zuf zwV ztV zwn List.map_cons List.map_nil List.length_cons List.length_nil List.replicate List.cons_append List.nil_append List.append_nil Option.some.injEq exists_eq_left' exists_eq_left exists_and_left List.cons.injEq V.int.injEq V.ref.injEq V.bl.injEq and_true true_and List.set_cons_zero List.set_cons_succ Nat.reduceAdd Nat.reduceSub Int.reduceToNat Int.reducePow Int.reduceNeg Int.reduceMul Int.reduceAdd Int.reduceSub decide_eq_true_eq Bool.not_eq_true' decide_eq_false_iff_not exists_const and_assoc exists_eq exists_eq' if_true if_false Bool.false_eq_true Bool.true_eq_false reduceCtorEq not_true_eq_false not_false_eq_true rI".splitOn " ").toArray.mapM λs=>`(Lean.Parser.Tactic.simpLemma| $(Lean.mkIdent s.toName):ident)
  `(tactic| simp only[$xs,*,$ds,*,$ps,*])
set_option hygiene false
local macro_rules|`((Qa))=>`(⟨rfl,rfl,rfl,by decide +kernel,rfl,by decide +kernel,by decide +kernel⟩)
local macro_rules|`((Qb))=>`(λxs H Q=>∃p ys,xs=[.ref p]∧(SqL K H p ys∨SqT K H p ys)∧Q (.int ys.length) H)
local macro_rules|`((Qc))=>`(hr.mono (Qs))
local macro_rules|`((Qd))=>`(rI IntMulOk λi j=>.int (i*j))
local macro_rules|`((Qe))=>`(λcdv A outer s H vs Q E hr h=>?_)
local macro_rules|`((Qf))=>`(by omega)
local macro_rules|`((Qg))=>`(zax zaq (pv 0) zaf (Qo))
local macro_rules|`((Qh))=>`(Or.inl rfl)
local macro_rules|`((Qi))=>`(tC (.int 1))
local macro_rules|`((Qj))=>`(λvs H Q E h=>?_)
local macro_rules|`((Qk))=>`(λz=>absurd z (Qs))
local macro_rules|`((Ql))=>`(.of (by decide +kernel))
local macro_rules|`((Qm))=>`(zdS K 2 (zaL (zam 0) (zaL (zam 1) zdO)))
local macro_rules|`((Qn))=>`(tC (.int 0))
local macro_rules|`((Qo))=>`(λ_ _=>rfl)
local macro_rules|`((Qp))=>`(λ_ _ _ _=>(zbs rfl (zal (zaj (i:=0) (show ψh (["box","count"]:List Str) from by decide) rfl (Qh)) (zal (zaj (i:=1) (show ψh (["box","count"]:List Str) from by decide) rfl (Qh)) za6))))
local macro_rules|`((Qq))=>`(zap zar rfl T.z_len ψo (Qag))
local macro_rules|`((Qr))=>`(λxs H Q=>∃p ys,xs=[.ref p]∧(SqL K H p ys∨SqT K H p ys)∧∀l,H l=none→Q (.ref l) (upd H l (.lst ys)))
local macro_rules|`((Qs))=>`(by decide)
local macro_rules|`((Qt))=>`(zbP (tC (.bl false)))
local macro_rules|`((Qu))=>`(xs.map λx=>x.2)
local macro_rules|`((Qv))=>`(.bool true)
local macro_rules|`((Qw))=>`(rI (λ_ j=>j≠0∧j.natAbs.log2<9000) λi j=>.int (i.fdiv j))
local macro_rules|`((Qx))=>`(tOp (zbB K) (zac 0) (Qi))
local macro_rules|`((Qy))=>`(zbA (zbY (PW.pt (zcP (zbG (zbr (zap za9 rfl T.z_isinstance ψi (zaa (pv 0) (QaB))))) (zcB (za7 zih (Qq) zaf (zaV _))))) (QL) zaY))
local macro_rules|`((Qz))=>`(zab (zac 1) zau)
local macro_rules|`((QA))=>`(zab (zac 0) zau)
local macro_rules|`((QB))=>`(zaa (pv 1) zad)
local macro_rules|`((QC))=>`(zax zaq (pv 1) zaf (Qo))
local macro_rules|`((QD))=>`(λ_ _ _ _=>zbp)
local macro_rules|`((QE))=>`(tOp (zbB K) (zac 0) (Qn))
local macro_rules|`((QF))=>`(zap za9 rfl T.z_isinstance ψi (zaa (pv 0) (zaa (zbW rfl T.z_list zbN rfl) zad)))
local macro_rules|`((QG))=>`(.lst (ts.map V.ref))
local macro_rules|`((QH))=>`(.lst (ns.map V.int))
local macro_rules|`((QI))=>`(rI0 λi j=>.bl (decide (j<i)))
local macro_rules|`((QJ))=>`(rI0 λi j=>.int (i - j))
local macro_rules|`((QK))=>`(λz=>absurd rfl z)
local macro_rules|`((QL))=>`(zah (zat zcE))
local macro_rules|`((QM))=>`(rI0 λi j=>.int (i+j))
local macro_rules|`((QN))=>`(["one","other"])
local macro_rules|`((QO))=>`(.ref r)
local macro_rules|`((QP))=>`(tB (tCB (zhy K) (zab (zac 0) (zab (tC (.ty "tuple")) zau))))
local macro_rules|`((QR))=>`(["box","weight","price","count"])
local macro_rules|`((QS))=>`(rI0 λi j=>.bl (decide (i<j)))
local macro_rules|`((QT))=>`(tOp (zbB K) (zac 1) (Qi))
local macro_rules|`((QU))=>`(tC (.int 2))
local macro_rules|`((QV))=>`(tCB (zhy K) (zab (zac 0) (zab (tC (.ty "list")) zau)))
local macro_rules|`((QW))=>`(zax zaq (pv 2) zaf (Qo))
local macro_rules|`((QX))=>`(show ψh (["_law_plan_here","_law_weight","_law_boxes_here"]:List Str) from by decide)
local macro_rules|`((QY))=>`((zbx ts).map V.int)
local macro_rules|`((QZ))=>`(zab (zac 0) (Qz))
local macro_rules|`((Q0))=>`(.lst (us.map V.ref))
local macro_rules|`((Q3))=>`(zab (zac 3) zau)
local macro_rules|`((Q4))=>`(zaa zaf zad)
local macro_rules|`((Q5))=>`(["_law_boxes_here","_law_budget","_law_worth","_law_mix_here"])
local macro_rules|`((Q6))=>`(rI0 λi j=>.bl (decide (i≤j)))
local macro_rules|`((Q7))=>`(List.getElem?_eq_some_iff.mp hx)
local macro_rules|`((Q8))=>`(zax zaq (pv 7) zaf (Qo))
local macro_rules|`((Q9))=>`(λ_ _ _ _=>(zaj (i:=0) (show ψh (["box"]:List Str) from by decide) rfl (Qh)))
local macro_rules|`((Qaa))=>`(.tup [.ref wl,.ref pp,.ref cl])
local macro_rules|`((Qab))=>`(λ(w:Int) (x:Box×Int)=>w*(x.1.2.2 ^ x.2.toNat - (x.1.2.2 - x.1.2.1) ^ x.2.toNat)*T.fdiv (x.1.2.2 ^ x.2.toNat))
local macro_rules|`((Qac))=>`(["thing","boxes"])
local macro_rules|`((Qad))=>`(zaa (pv 0) (QB))
local macro_rules|`((Qae))=>`(zdZ bs ns bud)
local macro_rules|`((Qaf))=>`(zaa (pv 0) (zaa (pv 1) (zaa (pv 2) (zaa (pv 3) zad))))
local macro_rules|`((Qag))=>`(zaa (pv 0) zad)
local macro_rules|`((Qah))=>`(rI0 λi j=>.bl (decide (j≤i)))
local macro_rules|`((Qai))=>`(show ψh (["_law_plan_here","_law_weight"]:List Str) from by decide)
local macro_rules|`((Qaj))=>`(.lst (Ws.map V.int))
local macro_rules|`((Qak))=>`(rI (λ_ j=>j≠0) λi j=>.int (i.fmod j))
local macro_rules|`((Qal))=>`(⟨true,rfl,?_⟩)
local macro_rules|`((Qam))=>`(["_law_one","_law_other"])
local macro_rules|`((Qan))=>`(zgZ R ns ss ls ms ((wds R ms).map λw=>w.fdiv g))
local macro_rules|`((Qao))=>`(zax zaq (pv 3) zaf (Qo))
local macro_rules|`((Qap))=>`(zab (zac 2) zau)
local macro_rules|`((Qaq))=>`(tCB (Qb) (QA))
local macro_rules|`((Qar))=>`(ms.map V.int)
local macro_rules|`((Qas))=>`(.tup [.int ((b.2.2 - b.2.1) ^ n.toNat),.int (b.2.2 ^ n.toNat)])
local macro_rules|`((Qat))=>`(wqs bs ns)
local macro_rules|`((Qau))=>`(["_law_thing"])
local macro_rules|`((Qav))=>`(tOp (zbB K) (zac 1) (Qn))
local macro_rules|`((Qaw))=>`(tOp (zbB K) (zac 0) (QU))
local macro_rules|`((Qax))=>`(zaa (pv 2) zad)
local macro_rules|`((Qay))=>`(zab (zac 0) (zab (zac 1) (zab (zac 2) (Q3))))
local macro_rules|`((Qaz))=>`(∀b∈bs,b.2.1=b.2.2)
local macro_rules|`((QaA))=>`(ψn bs ns)
local macro_rules|`((QaB))=>`(zaa (zbW rfl T.z_tuple zcf rfl) zad)
local macro_rules|`((QaC))=>`(zab (zac 4) zau)
local macro_rules|`((QaD))=>`(∀b∈bs,GB b)
local macro_rules|`((QaE))=>`(zaz zav (Qg) (QC))
local macro_rules|`((QaF))=>`(λ_=>?_)
local macro_rules|`((QaG))=>`(.tup (fr W))
local macro_rules|`((QaH))=>`(zcT K (zac 0))
local macro_rules|`((QaI))=>`(["boxes","counts","worth"])
set_option hygiene true
namespace My
local macro_rules | `(tactic| omega)=>`(tactic| lia)
open PySem L2
def top(i:Nat):Stmt:=PySem.Challenge.pw_hideworth_k23_whole_worths_for_budgets.main.body.getD i (.Pass ⟨0,0,0,0⟩)
abbrev zi3:Stmt:=top 6
abbrev zmU:Stmt:=top 7
abbrev zp9:Stmt:=top 8
abbrev znj:Stmt:=top 9
abbrev zmP:Stmt:=top 10
abbrev zsf:Stmt:=top 11
abbrev zmX:Stmt:=top 12
abbrev ziu:Stmt:=top 13
abbrev zdM:Stmt:=top 14
abbrev ziD:Stmt:=top 15
abbrev zhA:Stmt:=top 17
abbrev zgV:Stmt:=top 18
abbrev ze9:Stmt:=top 20
abbrev zd5:Stmt:=top 19
abbrev zkZ:Stmt:=top 27
abbrev zer:Stmt:=top 28
abbrev ze1:Stmt:=top 29
abbrev zg9:Stmt:=top 30
abbrev znW:Stmt:=top 31
abbrev zk4:Stmt:=top 32
abbrev zkU:Stmt:=top 33
abbrev zqN:Stmt:=top 34
abbrev zf7:Stmt:=top 35
abbrev zhC:Stmt:=top 36
abbrev zir:Stmt:=top 37
abbrev zeD:Stmt:=top 38
abbrev zbE:Stmt:=top 39
abbrev zdP:Stmt:=top 40
abbrev zcZ:Stmt:=top 41
abbrev zda:Stmt:=top 42
abbrev zei:Stmt:=top 43
abbrev zdB:Stmt:=top 44
abbrev zdT:Stmt:=top 45
abbrev zee:Stmt:=top 46
abbrev zod:Stmt:=top 47
abbrev zeE:Stmt:=top 48
abbrev zdw:Stmt:=top 49
abbrev zdE:Stmt:=top 50
abbrev zbQ:Stmt:=top 51
abbrev zd1:Stmt:=top 52
abbrev zgb:Stmt:=top 53
abbrev zgd:Stmt:=top 54
abbrev zd6:Stmt:=top 55
abbrev zfL:Stmt:=top 56
abbrev zeL:Stmt:=top 57
abbrev zhL:Stmt:=top 59
abbrev zeH:Stmt:=top 60
abbrev zg0:Stmt:=top 61
abbrev zg5:Stmt:=top 62
abbrev zfK:Stmt:=top 63
abbrev zfC:Stmt:=top 64
abbrev zem:Stmt:=top 65
abbrev ze2:Stmt:=top 66
abbrev zg2:Stmt:=top 67
abbrev zgP:Stmt:=top 68
abbrev zgR:Stmt:=top 69
abbrev ze4:Stmt:=top 70
abbrev zey:Stmt:=top 71
abbrev zdY:Stmt:=top 72
abbrev zdA:Stmt:=top 73
abbrev zev:Stmt:=top 74
abbrev zfx:Stmt:=top 75
abbrev zdG:Stmt:=top 76
abbrev zej:Stmt:=top 77
abbrev zfQ:Stmt:=top 78
abbrev zdF:Stmt:=top 79
abbrev zs9:Stmt:=top 80
set_option genInjectivity false in
set_option genSizeOf false in
structure Ad where
 fO:Addr
 dO:FuncData
 fj:Addr
 dj:FuncData
 fac:Addr
 dac:FuncData
 fau:Addr
 dau:FuncData
 fav:Addr
 dav:FuncData
 fX:Addr
 dX:FuncData
 fae:Addr
 dae:FuncData
 faf:Addr
 daf:FuncData
 fag:Addr
 dag:FuncData
 faw:Addr
 daw:FuncData
 fJ:Addr
 dJ:FuncData
 fM:Addr
 dM:FuncData
 fay:Addr
 day:FuncData
 faz:Addr
 daz:FuncData
 faA:Addr
 daA:FuncData
 fah:Addr
 dah:FuncData
 fai:Addr
 dai:FuncData
 faj:Addr
 daj:FuncData
 faa:Addr
 daa:FuncData
 fH:Addr
 dH:FuncData
 fY:Addr
 dY:FuncData
 fak:Addr
 dak:FuncData
 fZ:Addr
 dZ:FuncData
 faB:Addr
 daB:FuncData
 faC:Addr
 daC:FuncData
 faD:Addr
 daD:FuncData
 faE:Addr
 daE:FuncData
 faF:Addr
 daF:FuncData
 faG:Addr
 daG:FuncData
 faH:Addr
 daH:FuncData
 faI:Addr
 daI:FuncData
 faJ:Addr
 daJ:FuncData
 faK:Addr
 daK:FuncData
 faL:Addr
 daL:FuncData
 fas:Addr
 das:FuncData
 faM:Addr
 daM:FuncData
 fal:Addr
 dal:FuncData
 faN:Addr
 daN:FuncData
 faO:Addr
 daO:FuncData
 faP:Addr
 daP:FuncData
 faQ:Addr
 daQ:FuncData
 faR:Addr
 daR:FuncData
 faS:Addr
 daS:FuncData
 faT:Addr
 daT:FuncData
 fU:Addr
 dU:FuncData
 faU:Addr
 daU:FuncData
 faV:Addr
 daV:FuncData
 faW:Addr
 daW:FuncData
 fz:Addr
 dz:FuncData
 faX:Addr
 daX:FuncData
 fL:Addr
 dL:FuncData
 fam:Addr
 dam:FuncData
 faY:Addr
 daY:FuncData
 fQ:Addr
 dQ:FuncData
 fan:Addr
 dan:FuncData
 fao:Addr
 dao:FuncData
 faq:Addr
 daq:FuncData
 far:Addr
 dar:FuncData
 faZ:Addr
 daZ:FuncData
 fa0:Addr
 da0:FuncData
 fa1:Addr
 da1:FuncData
 fa2:Addr
 da2:FuncData
 fa3:Addr
 da3:FuncData
 fN:Addr
 dN:FuncData
 fab:Addr
 dab:FuncData
 fat:Addr
 dat:FuncData
 fa4:Addr
 da4:FuncData
 c_NoNumber:Addr
 c_NoBoxes:Addr
 c_NoBudget:Addr
 k_MOST_BOXES:Tok
 k_MOST_COST:Tok
 k_MOST_OF:Tok
 k_MOST_BUDGET:Tok
 k_MOST_LOOKS:Tok
structure Txt (K:ψa) (mg:Str→Option Value) (a:Ad):Prop where
 FO:Fun K "divisor" "divisor" zi3 a.fO a.dO
 bO:zbq K a.dO (QN) []
 mO:mg "divisor"=some (.ref a.fO)
 Fj:Fun K "ratio" "ratio" zmU a.fj a.dj
 bj:zbq K a.dj ["top","bottom"] []
 mj:mg "ratio"=some (.ref a.fj)
 Fac:Fun K "plus" "plus" zp9 a.fac a.dac
 bac:zbq K a.dac (QN) []
 mac:mg "plus"=some (.ref a.fac)
 Fau:Fun K "minus" "minus" znj a.fau a.dau
 bau:zbq K a.dau (QN) []
 mau:mg "minus"=some (.ref a.fau)
 Fav:Fun K "times" "times" zmP a.fav a.dav
 bav:zbq K a.dav (QN) []
 mav:mg "times"=some (.ref a.fav)
 FX:Fun K "over" "over" zsf a.fX a.dX
 bX:zbq K a.dX (QN) []
 mX:mg "over"=some (.ref a.fX)
 Fae:Fun K "below" "below" zmX a.fae a.dae
 bae:zbq K a.dae (QN) []
 mae:mg "below"=some (.ref a.fae)
 Faf:Fun K "common" "common" ziu a.faf a.daf
 baf:zbq K a.daf ["fractions"] []
 maf:mg "common"=some (.ref a.faf)
 Fag:Fun K "shared_divisor" "shared_divisor" zdM a.fag a.dag
 bag:zbq K a.dag ["numbers"] []
 mag:mg "shared_divisor"=some (.ref a.fag)
 Faw:Fun K "lowest" "lowest" ziD a.faw a.daw
 baw:zbq K a.daw ["weights"] []
 maw:mg "lowest"=some (.ref a.faw)
 FJ:Fun K "is_whole" "is_whole" zhA a.fJ a.dJ
 bJ:zbq K a.dJ ["thing"] []
 mJ:mg "is_whole"=some (.ref a.fJ)
 FM:Fun K "is_within" "is_within" zgV a.fM a.dM
 bM:zbq K a.dM ["thing","least","most"] []
 mM:mg "is_within"=some (.ref a.fM)
 Fay:Fun K "is_fraction" "is_fraction" ze9 a.fay a.day
 bay:zbq K a.day ["thing"] []
 may:mg "is_fraction"=some (.ref a.fay)
 Faz:Fun K "are_weights" "are_weights" zd5 a.faz a.daz
 baz:zbq K a.daz ["thing","many"] []
 maz:mg "are_weights"=some (.ref a.faz)
 FaA:Fun K "is_box" "is_box" zkZ a.faA a.daA
 baA:zbq K a.daA ["thing"] []
 maA:mg "is_box"=some (.ref a.faA)
 Fah:Fun K "look_boxes" "look_boxes" zer a.fah a.dah
 bah:zbq K a.dah ["boxes"] []
 mah:mg "look_boxes"=some (.ref a.fah)
 Fai:Fun K "look_budget" "look_budget" ze1 a.fai a.dai
 bai:zbq K a.dai ["budget"] []
 mai:mg "look_budget"=some (.ref a.fai)
 Faj:Fun K "is_plan" "is_plan" zg9 a.faj a.daj
 baj:zbq K a.daj (Qac) []
 maj:mg "is_plan"=some (.ref a.faj)
 Faa:Fun K "power" "power" znW a.faa a.daa
 baa:zbq K a.daa ["base","count"] []
 maa:mg "power"=some (.ref a.faa)
 FH:Fun K "missed" "missed" zk4 a.fH a.dH
 bH:zbq K a.dH ["box","count"] []
 mH:mg "missed"=some (.ref a.fH)
 FY:Fun K "chance" "chance" zkU a.fY a.dY
 bY:zbq K a.dY ["box","count"] []
 mY:mg "chance"=some (.ref a.fY)
 Fak:Fun K "gain" "gain" zqN a.fak a.dak
 bak:zbq K a.dak ["box","count"] []
 mak:mg "gain"=some (.ref a.fak)
 FZ:Fun K "cost_sum" "cost_sum" zf7 a.fZ a.dZ
 bZ:zbq K a.dZ ["boxes","plan"] []
 mZ:mg "cost_sum"=some (.ref a.fZ)
 FaB:Fun K "is_share" "is_share" zhC a.faB a.daB
 baB:zbq K a.daB (Qac) []
 maB:mg "is_share"=some (.ref a.faB)
 FaC:Fun K "is_mix" "is_mix" zir a.faC a.daC
 baC:zbq K a.daC (Qac) []
 maC:mg "is_mix"=some (.ref a.faC)
 FaD:Fun K "finds_enough" "finds_enough" zeD a.faD a.daD
 baD:zbq K a.daD ["box","counts","weights","worth"] []
 maD:mg "finds_enough"=some (.ref a.faD)
 FaE:Fun K "is_seeker_right" "is_seeker_right" zbE a.faE a.daE
 baE:zbq K a.daE ["boxes","budget","worth","mix"] []
 maE:mg "is_seeker_right"=some (.ref a.faE)
 FaF:Fun K "is_hider_paper" "is_hider_paper" zdP a.faF a.daF
 baF:zbq K a.daF (Qac) []
 maF:mg "is_hider_paper"=some (.ref a.faF)
 FaG:Fun K "is_last_look_worth" "is_last_look_worth" zcZ a.faG a.daG
 baG:zbq K a.daG (QR) []
 maG:mg "is_last_look_worth"=some (.ref a.faG)
 FaH:Fun K "is_next_look_dear" "is_next_look_dear" zda a.faH a.daH
 baH:zbq K a.daH (QR) []
 maH:mg "is_next_look_dear"=some (.ref a.faH)
 FaI:Fun K "is_count_best" "is_count_best" zei a.faI a.daI
 baI:zbq K a.daI (QR) []
 maI:mg "is_count_best"=some (.ref a.faI)
 FaJ:Fun K "is_sum_low" "is_sum_low" zdB a.faJ a.daJ
 baJ:zbq K a.daJ ["boxes","budget","worth","paper"] []
 maJ:mg "is_sum_low"=some (.ref a.faJ)
 FaK:Fun K "is_hider_right" "is_hider_right" zdT a.faK a.daK
 baK:zbq K a.daK ["boxes","budget","worth","paper"] []
 maK:mg "is_hider_right"=some (.ref a.faK)
 FaL:Fun K "budget_judged" "budget_judged" zee a.faL a.daL
 baL:zbq K a.daL ["boxes","budget","worth","mix","paper"] []
 maL:mg "budget_judged"=some (.ref a.faL)
 Fas:Fun K "added" "added" zod a.fas a.das
 bas:zbq K a.das ["fractions"] []
 mas:mg "added"=some (.ref a.fas)
 FaM:Fun K "least_chance" "least_chance" zeE a.faM a.daM
 baM:zbq K a.daM ["chances"] []
 maM:mg "least_chance"=some (.ref a.faM)
 Fal:Fun K "fair_weights" "fair_weights" zdw a.fal a.dal
 bal:zbq K a.dal ["boxes","counts"] []
 mal:mg "fair_weights"=some (.ref a.fal)
 FaN:Fun K "chance_for" "chance_for" zdE a.faN a.daN
 baN:zbq K a.daN ["boxes","budget","counts"] []
 maN:mg "chance_for"=some (.ref a.faN)
 FaO:Fun K "counts_and_worth" "counts_and_worth" zbQ a.faO a.daO
 baO:zbq K a.daO ["boxes","budget"] []
 maO:mg "counts_and_worth"=some (.ref a.faO)
 FaP:Fun K "look_shares" "look_shares" zd1 a.faP a.daP
 baP:zbq K a.daP (QaI) []
 maP:mg "look_shares"=some (.ref a.faP)
 FaQ:Fun K "mix_of" "mix_of" zgb a.faQ a.daQ
 baQ:zbq K a.daQ (QaI) []
 maQ:mg "mix_of"=some (.ref a.faQ)
 FaR:Fun K "paper_of" "paper_of" zgd a.faR a.daR
 baR:zbq K a.daR ["boxes","counts"] []
 maR:mg "paper_of"=some (.ref a.faR)
 FaS:Fun K "sure_answer" "sure_answer" zd6 a.faS a.daS
 baS:zbq K a.daS ["boxes"] []
 maS:mg "sure_answer"=some (.ref a.faS)
 FaT:Fun K "is_sure" "is_sure" zfL a.faT a.daT
 baT:zbq K a.daT ["boxes","budget"] []
 maT:mg "is_sure"=some (.ref a.faT)
 FU:Fun K "budget_worth" "budget_worth" zeL a.fU a.dU
 bU:zbq K a.dU ["boxes","budget"] []
 mU:mg "budget_worth"=some (.ref a.fU)
 FaU:Fun K "_law_mix" "_law_mix" zhL a.faU a.daU
 baU:zbq K a.daU ["_law_number","_law_k"] []
 maU:mg "_law_mix"=some (.ref a.faU)
 FaV:Fun K "_law_cell_at" "_law_cell_at" zeH a.faV a.daV
 baV:zbq K a.daV ["_law_script","_law_k"] []
 maV:mg "_law_cell_at"=some (.ref a.faV)
 FaW:Fun K "_law_left" "_law_left" zg0 a.faW a.daW
 baW:zbq K a.daW ["_law_script","_law_k"] []
 maW:mg "_law_left"=some (.ref a.faW)
 Fz:Fun K "_law_draw" "_law_draw" zg5 a.fz a.dz
 bz:zbq K a.dz ["_law_left_here","_law_base"] []
 mz:mg "_law_draw"=some (.ref a.fz)
 FaX:Fun K "_law_boxes" "_law_boxes" zfK a.faX a.daX
 baX:zbq K a.daX ["_law_left_here","_law_most"] []
 maX:mg "_law_boxes"=some (.ref a.faX)
 FL:Fun K "_law_whole" "_law_whole" zfC a.fL a.dL
 bL:zbq K a.dL (Qau) []
 mL:mg "_law_whole"=some (.ref a.fL)
 Fam:Fun K "_law_fraction" "_law_fraction" zem a.fam a.dam
 bam:zbq K a.dam (Qau) []
 mam:mg "_law_fraction"=some (.ref a.fam)
 FaY:Fun K "_law_lowest" "_law_lowest" ze2 a.faY a.daY
 baY:zbq K a.daY ["_law_top","_law_bottom"] []
 maY:mg "_law_lowest"=some (.ref a.faY)
 FQ:Fun K "_law_miss" "_law_miss" zg2 a.fQ a.dQ
 bQ:zbq K a.dQ ["_law_box","_law_many"] []
 mQ:mg "_law_miss"=some (.ref a.fQ)
 Fan:Fun K "_law_plus" "_law_plus" zgP a.fan a.dan
 ban:zbq K a.dan (Qam) []
 man:mg "_law_plus"=some (.ref a.fan)
 Fao:Fun K "_law_less" "_law_less" zgR a.fao a.dao
 bao:zbq K a.dao (Qam) []
 mao:mg "_law_less"=some (.ref a.fao)
 Faq:Fun K "_law_plan" "_law_plan" ze4 a.faq a.daq
 baq:zbq K a.daq ["_law_boxes_here","_law_thing"] []
 maq:mg "_law_plan"=some (.ref a.faq)
 Far:Fun K "_law_price" "_law_price" zey a.far a.dar
 bar:zbq K a.dar ["_law_boxes_here","_law_plan_here"] []
 mar:mg "_law_price"=some (.ref a.far)
 FaZ:Fun K "_law_chance" "_law_chance" zdY a.faZ a.daZ
 baZ:zbq K a.daZ ["_law_boxes_here","_law_mix_here","_law_k"] []
 maZ:mg "_law_chance"=some (.ref a.faZ)
 Fa0:Fun K "_law_keeps" "_law_keeps" zdA a.fa0 a.da0
 ba0:zbq K a.da0 ["_law_boxes_here","_law_budget","_law_mix_here"] []
 ma0:mg "_law_keeps"=some (.ref a.fa0)
 Fa1:Fun K "_law_finds" "_law_finds" zev a.fa1 a.da1
 ba1:zbq K a.da1 (Q5) []
 ma1:mg "_law_finds"=some (.ref a.fa1)
 Fa2:Fun K "_law_marks" "_law_marks" zfx a.fa2 a.da2
 ba2:zbq K a.da2 ["_law_box","_law_weight","_law_price_here","_law_count"] []
 ma2:mg "_law_marks"=some (.ref a.fa2)
 Fa3:Fun K "_law_hides" "_law_hides" zdG a.fa3 a.da3
 ba3:zbq K a.da3 ["_law_boxes_here","_law_budget","_law_worth","_law_paper"] []
 ma3:mg "_law_hides"=some (.ref a.fa3)
 FN:Fun K "_law_deep" "_law_deep" zej a.fN a.dN
 bN:zbq K a.dN (Qau) []
 mN:mg "_law_deep"=some (.ref a.fN)
 Fab:Fun K "_law_spoil" "_law_spoil" zfQ a.fab a.dab
 bab:zbq K a.dab (Qau) []
 mab:mg "_law_spoil"=some (.ref a.fab)
 Fat:Fun K "_law_right" "_law_right" zdF a.fat a.dat
 bat:zbq K a.dat ["_law_boxes_here","_law_budget","_law_told"] []
 mat:mg "_law_right"=some (.ref a.fat)
 Fa4:Fun K "law" "law" zs9 a.fa4 a.da4
 ba4:zbq K a.da4 ["_law_script"] []
 ma4:mg "law"=some (.ref a.fa4)
 z_set:mg "set"=none
 z_isinstance:mg "isinstance"=none
 z_range:mg "range"=none
 z_all:mg "all"=none
 z_sorted:mg "sorted"=none
 z_abs:mg "abs"=none
 z_sum:mg "sum"=none
 z_len:mg "len"=none
 z_list:mg "list"=none
 z_zip:mg "zip"=none
 z_int:mg "int"=none
 z_bool:mg "bool"=none
 z_tuple:mg "tuple"=none
 z_max:mg "max"=none
 z_min:mg "min"=none
 m_NoNumber:mg "NoNumber"=some (.ref a.c_NoNumber)
 m_NoBoxes:mg "NoBoxes"=some (.ref a.c_NoBoxes)
 m_NoBudget:mg "NoBudget"=some (.ref a.c_NoBudget)
 m_MOST_BOXES:mg "MOST_BOXES"=some (.int 6 a.k_MOST_BOXES)
 m_MOST_COST:mg "MOST_COST"=some (.int 60 a.k_MOST_COST)
 m_MOST_OF:mg "MOST_OF"=some (.int 50 a.k_MOST_OF)
 m_MOST_BUDGET:mg "MOST_BUDGET"=some (.int 60 a.k_MOST_BUDGET)
 m_MOST_LOOKS:mg "MOST_LOOKS"=some (.int 60 a.k_MOST_LOOKS)
 x_NoNumber:PySem.W.excIn K a.c_NoNumber zpH "ValueError.__new__"=true
 x_NoBoxes:PySem.W.excIn K a.c_NoBoxes zpH "ValueError.__new__"=true
 x_NoBudget:PySem.W.excIn K a.c_NoBudget zpH "ValueError.__new__"=true
def Bd(m:Nat)(x:Int):Prop:=x.natAbs<2 ^ m
theorem Bd.mono{m n:Nat}{x:Int}(h:Bd m x)(l:m≤n):Bd n x:=ψr h (Nat.pow_le_pow_right (Qs) l)
theorem Bd.mul{m n:Nat}{x y:Int}(hx:Bd m x)(hy:Bd n y):Bd (m+n) (x*y):=by
 unfold Bd at *
 rw[Int.natAbs_mul,Nat.pow_add]
 exact Nat.mul_lt_mul'' hx hy
theorem Bd.add{m:Nat}{x y:Int}(hx:Bd m x)(hy:Bd m y):Bd (m+1) (x+y):=by
 unfold Bd at *
 rw[Nat.pow_succ,Nat.mul_two]
 exact ψx1 (Int.natAbs_add_le x y) (Nat.add_lt_add hx hy)
theorem Bd.sub{m:Nat}{x y:Int}(hx:Bd m x)(hy:Bd m y):Bd (m+1) (x - y):=by
 unfold Bd at *
 rw[Nat.pow_succ,Nat.mul_two]
 exact ψx1 (Int.natAbs_sub_le x y) (Nat.add_lt_add hx hy)
theorem Bd.le{m:Nat}{x y:Int}(hy:Bd m y)(h:x.natAbs≤y.natAbs):Bd m x:=ψx1 h hy
def sg(t b:Int):Int:=if b<0 then -(ψU t b:Int) else (ψU t b:Int)
def ztw(t b:Int):Int:=t.fdiv (sg t b)
def zm8(t b:Int):Int:=b.fdiv (sg t b)
theorem zsi{t b:Int}(h:b≠0):ψU t b≠0:=λe=>h (Int.gcd_eq_zero_iff.mp e).2
theorem zlL{t b:Int}(h:b≠0):sg t b≠0:=by
 have:=zsi (t:=t) h
 unfold sg
 split <;> omega
theorem zvb(t b:Int):(sg t b).natAbs=ψU t b:=by
 unfold sg
 split <;> omega
theorem zwD(t b:Int):sg t b∣t:=by
 unfold sg
 split
 ·exact Int.neg_dvd.mpr (Int.gcd_dvd_left ..)
 ·exact Int.gcd_dvd_left ..
theorem zxf(t b:Int):sg t b∣b:=by
 unfold sg
 split
 ·exact Int.neg_dvd.mpr (Int.gcd_dvd_right ..)
 ·exact Int.gcd_dvd_right ..
theorem zdb{x g:Int}(h:g∣x):x.fdiv g*g=x:=by
 rw[Int.fdiv_eq_ediv_of_dvd h]
 exact Int.ediv_mul_cancel h
theorem zks(t b:Int):ztw t b*sg t b=t:=zdb (zwD t b)
theorem zhd(t b:Int):zm8 t b*sg t b=b:=zdb (zxf t b)
theorem zzz{t b:Int}(h:b≠0):(sg t b).natAbs≤b.natAbs:=by
 rw[zvb]
 exact Nat.le_of_dvd (Qf) (Int.natAbs_dvd_natAbs.mpr (Int.gcd_dvd_right t b))
theorem zf6{q g x:Int}(h:q*g=x)(hg:g≠0):q.natAbs≤x.natAbs:=by
 rw[← h,Int.natAbs_mul]
 exact Nat.le_mul_of_pos_right _ (Qf)
theorem zsq{t b:Int}(h:b≠0):(ztw t b).natAbs≤t.natAbs:=zf6 (zks t b) (zlL h)
theorem zqh{t b:Int}(h:b≠0):(zm8 t b).natAbs≤b.natAbs:=zf6 (zhd t b) (zlL h)
theorem zph{q g x:Int}(h:q*g=x)(s:(0<x∧0<g)∨(x<0∧g<0)):0<q:=by
 rcases s with ⟨a,c⟩ | ⟨a,c⟩
 ·exact Int.pos_of_mul_pos_left (by rw[h];exact a) c
 ·by_cases z:0<q
  ·exact z
  ·have h1:0≤(-q)*(-g):=Int.mul_nonneg (Qf) (Qf)
   rw[Int.neg_mul_neg,h] at h1
   omega
theorem ztv{t b:Int}(h:b≠0):0<zm8 t b:=by
 refine zph (zhd t b) ?_
 have g:=zsi (t:=t) h
 unfold sg
 split <;> omega
theorem zw8{t b:Int}(h:b≠0):ψU (ztw t b) (zm8 t b)=1:=by
 have e:ψU (ztw t b*sg t b) (zm8 t b*sg t b)=ψU (ztw t b) (zm8 t b)*(sg t b).natAbs:=Int.gcd_mul_right ..
 rw[zks,zhd,zvb] at e
 exact Nat.eq_of_mul_eq_mul_right (Nat.pos_of_ne_zero (zsi h)) (by rw[Nat.one_mul];exact e.symm)
theorem zhY{t b:Int}(h:b≠0):(ψw t b).num=ztw t b∧((ψw t b).den:Int)=zm8 t b:=by
 have p:=ztv (t:=t) h
 have g:=zw8 (t:=t) h
 have e2:((zm8 t b).toNat:Int)=zm8 t b:=by omega
 have nz:(zm8 t b).toNat≠0:=by omega
 have red:(ztw t b).natAbs.Coprime (zm8 t b).toNat:=by
  have e:(zm8 t b).toNat=(zm8 t b).natAbs:=by omega
  rw[e]
  exact g
 have e:ψw t b=⟨ztw t b,(zm8 t b).toNat,nz,red⟩:=by
  rw[Rat.mk_eq_divInt,e2,Rat.divInt_eq_divInt_iff h (Qf)]
  have h1:=zks t b
  have h2:=zhd t b
  generalize ztw t b=x at h1 ⊢
  generalize zm8 t b=y at h2 ⊢
  rw[← h1,← h2]
  grind
 rw[e]
 exact⟨rfl,e2⟩
abbrev fr(q:Rat):List L2.V:=[.int q.num,.int (q.den:Int)]
abbrev nf(q:Rat):List Int:=[q.num,(q.den:Int)]
theorem zcJ(q:Rat):(q.den:Int)≠0:=by
 have:=q.den_nz
 omega
theorem zch(q:Rat):0<(q.den:Int):=by
 have:=q.den_nz
 omega
theorem zsu(p q:Rat):ψw (p.num*q.den+q.num*p.den) (p.den*q.den)=p+q:=by
 rw[← Rat.divInt_add_divInt _ _ (zcJ p) (zcJ q),ψy,ψy]
theorem zr3(p q:Rat):ψw (p.num*q.den - q.num*p.den) (p.den*q.den)=p - q:=by
 rw[← Rat.divInt_sub_divInt _ _ (zcJ p) (zcJ q),ψy,ψy]
theorem zq3(p q:Rat):ψw (p.num*q.num) (p.den*q.den)=p*q:=by
 rw[← Rat.divInt_mul_divInt,ψy,ψy]
theorem zko(p q:Rat):ψw (p.num*q.den) (p.den*q.num)=p / q:=by
 rw[← Rat.divInt_mul_divInt,ψy,← Rat.inv_divInt,ψy,ψY1]
structure Bq (n:Nat) (q:Rat):Prop where
 top:Bd n q.num
 bot:Bd n (q.den:Int)
theorem Bq.mono{m n:Nat}{q:Rat}(h:Bq m q)(l:m≤n):Bq n q:=⟨h.top.mono l,h.bot.mono l⟩
theorem zcw{n:Nat}{t b:Int}(h:b≠0)(ht:Bd n t)(hb:Bd n b):Bq n (ψw t b):=by
 obtain⟨e1,e2⟩:=zhY (t:=t) h
 exact⟨by rw[e1];exact ht.le (zsq h),by rw[e2];exact hb.le (zqh h)⟩
theorem zoZ{q:Rat}(h:q≠0):q.num≠0:=λe=>h (Rat.num_eq_zero.mp e)
theorem ztJ{x y:Int}(hx:0≤x)(hy:0<y):ψU y (x % y)=ψU x y:=by
 obtain⟨m,rfl⟩:=ψR1 hx
 obtain⟨n,rfl⟩:=ψR1 (ψz hy)
 rw[← Int.natCast_emod]
 show Nat.gcd n (m % n)=Nat.gcd m n
 rw[Nat.gcd_comm n,← Nat.gcd_rec,Nat.gcd_comm]
theorem zlT{x y:Int}(hx:0≤x)(hy:0<y):ψU y (x.fmod y)=ψU x y:=by
 rw[Int.fmod_eq_emod_of_nonneg x (ψz hy)]
 exact ztJ hx hy
theorem zvE(i:Int):(if i<0 then -i else i)=(i.natAbs:Int):=by
 split <;> omega
theorem zjQ(u:Int)(h:0≤u):((ψU u 0:Nat):Int)=u:=by
 show((Nat.gcd u.natAbs 0:Nat):Int)=u
 rw[Nat.gcd_zero_right]
 omega
theorem zyo:CPow 10 18:=⟨by decide,by decide,by decide⟩
def zs1:Sp:=λvs H Q _=>∃a b:Int,vs=[.int a,.int b]∧Q (.int (ψU a b:Nat)) H
def zhS:Sp:=λvs H Q _=>∃a:Int,vs=[.int a]∧Q (.bl true) H
abbrev Box:=Int×Int×Int
abbrev bx(b:Box):List V:=[.int b.1,.int b.2.1,.int b.2.2]
def GB(b:Box):Prop:=1≤b.1∧b.1≤60∧1≤b.2.1∧b.2.1≤b.2.2∧b.2.2≤50
theorem zas{α β:Type}{f:α→β}{l:List α}{i:Nat}{y:β}(h:(l.map f)[i]?=some y):∃x,l[i]?=some x∧y=f x:=by
 rw[ψt] at h
 obtain⟨x,h1,h2⟩:=Option.map_eq_some_iff.mp h
 exact⟨x,h1,h2.symm⟩
def Tps{α:Type}(f:α→List V)(H:Hp)(ts:List Addr)(bs:List α):Prop:=ts.length=bs.length∧∀(i:Nat) t b,ts[i]?=some t→bs[i]?=some b→H t=some (.tup (f b))
theorem Tps.same{α:Type}{f:α→List V}{H H':Hp}{ts:List Addr}{bs:List α}(h:Tps f H ts bs)(s:zaF H H'):Tps f H' ts bs:=⟨h.1,λi t b e1 e2=>s _ _ (h.2 i t b e1 e2)⟩
theorem Tps.nil{α:Type}{f:α→List V}{H:Hp}:Tps f H [] ([]:List α):=⟨rfl,λi t b e=>by simp at e⟩
theorem Tps.put{α:Type}{f:α→List V}{H H':Hp}{ts:List Addr}{bs:List α}{t:Addr}{b:α}(h:Tps f H ts bs)(s:∀(x:Addr) (u:List V),H x=some (.tup u)→H' x=some (.tup u))(e:H' t=some (.tup (f b))):Tps f H' (ts++[t]) (bs++[b]):=by
 refine⟨by rw[ψR,ψR,h.1];rfl,λi x y e1 e2=>?_⟩
 by_cases c:i<ts.length
 ·rw[ψe1 c] at e1
  rw[ψe1 (by rw[← h.1];exact c)] at e2
  exact s _ _ (h.2 i x y e1 e2)
 ·have c1:ts.length≤i:=by omega
  rw[ψa1 c1] at e1
  rw[ψa1 (by rw[← h.1];exact c1),← h.1] at e2
  have z:i - ts.length=0:=by
   have:=(List.getElem?_eq_some_iff.mp e1).1
   simp only[ψM,List.length_nil] at this
   omega
  rw[z] at e1 e2
  simp only[List.getElem?_cons_zero,Option.some.injEq] at e1 e2
  rw[← e1,← e2]
  exact e
theorem Tps.app{α:Type}{f:α→List V}{H:Hp}{ts us:List Addr}{bs cs:List α}(h:Tps f H ts bs)(h2:Tps f H us cs):Tps f H (ts++us) (bs++cs):=by
 refine⟨by rw[ψR,ψR,h.1,h2.1],λi x y e1 e2=>?_⟩
 by_cases c:i<ts.length
 ·rw[ψe1 c] at e1
  rw[ψe1 (by rw[← h.1];exact c)] at e2
  exact h.2 i x y e1 e2
 ·have c1:ts.length≤i:=by omega
  rw[ψa1 c1] at e1
  rw[ψa1 (by rw[← h.1];exact c1),← h.1] at e2
  exact h2.2 _ x y e1 e2
theorem Tps.at{α:Type}{f:α→List V}{H:Hp}{ts:List Addr}{bs:List α}(h:Tps f H ts bs){i:Nat}{t:Addr}(e:ts[i]?=some t):∃b,bs[i]?=some b∧H t=some (.tup (f b)):=by
 have hi:=(List.getElem?_eq_some_iff.mp e).1
 rw[h.1] at hi
 exact⟨bs[i],ψc hi,h.2 i t _ e (ψc hi)⟩
theorem zao{α:Type}{l:List α}{i:Nat}{x:α}(e:l[i]?=some x):x∈l:=ψN e
structure BP (H:Hp) (l pl:Addr) (ts:List Addr) (bs:List Box) (ns:List Int):Prop where
 hl:H l=some (QG)
 hb:Tps bx H ts bs
 hp:H pl=some (QH)
 len:ns.length=bs.length
 gb:∀b∈bs,GB b
 gn:∀n∈ns,0≤n∧n≤60
 l1:1≤bs.length
 l6:bs.length≤6
theorem BP.same{H H':Hp}{l pl:Addr}{ts:List Addr}{bs:List Box}{ns:List Int}(h:BP H l pl ts bs ns)(s:zaF H H'):BP H' l pl ts bs ns :=
 ⟨s _ _ h.hl,h.hb.same s,s _ _ h.hp,h.len,h.gb,h.gn,h.l1,h.l6⟩
def chq(b:Box)(n:Int):Rat:=ψw (b.2.2 ^ n.toNat - (b.2.2 - b.2.1) ^ n.toNat) (b.2.2 ^ n.toNat)
def zaH(bs:List Box)(ns:List Int):List Int:=ψf (λb n=>b.1*n) bs ns
def zmq(bs:List Box)(ns:List Int):List Rat:=ψf chq bs ns
def Off(p c:Addr)(H:Hp):Hp:=λb=>if b=p∨b=c then none else H b
theorem zj1(p c:Addr)(H:Hp):zaF (Off p c H) H:=λb o h=>by
 unfold Off at h
 split at h
 ·cases h
 ·exact h
theorem zy9{p c b:Addr}{H:Hp}(h1:b≠p)(h2:b≠c):Off p c H b=H b:=if_neg (λz=>z.elim h1 h2)
theorem zy5{p c:Addr}{H:Hp}{o:HO}:Off p c (upd H p o)=Off p c H:=by
 funext b
 unfold Off upd
 split
 ·rfl
 ·rename_i z
  rw[if_neg λe=>z (.inl e)]
theorem zjj{p c b:Addr}{H:Hp}{o:HO}(h1:b≠p)(h2:b≠c):Off p c (upd H b o)=upd (Off p c H) b o:=by
 funext x
 unfold Off upd
 by_cases e:x=b
 ·subst e
  rw[if_neg λz=>z.elim h1 h2,if_pos rfl,if_pos rfl]
 ·rw[if_neg e,if_neg e]
theorem zrg{H:Hp}{p c b:Addr}(hb:H b=none):Off p c H b=none:=by
 unfold Off
 split
 ·rfl
 ·exact hb
def zrP:Sp:=λvs H Q _=>∃(p:Addr) (b:Box),vs=[.ref p]∧H p=some (.tup (bx b))∧GB b∧Q (.bl true) H
def zsF:Sp:=λvs H Q _=>∃(l:Addr) (ts:List Addr) (bs:List Box),vs=[.ref l]∧H l=some (QG)∧Tps bx H ts bs∧(QaD)∧1≤bs.length∧bs.length≤6∧∀H',zaF H H'→Q .non H'
def zuX:Sp:=λvs H Q _=>∃b n:Int,vs=[.int b,.int n]∧0≤n∧n≤60∧0≤b∧b≤50∧Q (.int (b ^ n.toNat)) H
def zfc:Sp:=λvs H Q _=>∃(p:Addr) (b:Box) (n:Int),vs=[.ref p,.int n]∧H p=some (.tup (bx b))∧GB b∧0≤n∧n≤60∧∀(r:Addr) (H':Hp),zaF H H'→H' r=some (Qas)→Q (QO) H'
def ziz:Sp:=λvs H Q _=>∃(p:Addr) (b:Box) (n:Int),vs=[.ref p,.int n]∧H p=some (.tup (bx b))∧GB b∧0≤n∧n≤60∧∀(r:Addr) (H':Hp),zaF H H'→H' r=some (.tup (fr (chq b n)))→Q (QO) H'
def zoO:Sp:=λvs H Q _=>∃(l pl:Addr) (ts:List Addr) (bs:List Box) (ns:List Int),vs=[.ref l,.ref pl]∧BP H l pl ts bs ns∧∀H',zaF H H'→Q (.int (zaH bs ns).sum) H'
def zly:Sp:=λvs H Q _=>∃t b:Int,vs=[.int t,.int b]∧b≠0∧Bd 6000 b∧∀(r:Addr) (H':Hp),zaF H H'→H' r=some (.tup (fr (ψw t b)))→Q (QO) H'
theorem zvt{t b:Int}(h:b≠0)(hb:Bd 6000 b):(sg t b).natAbs.log2<9000:=zhf 6000 (zlL h) (hb.le (zzz h))
theorem zb9{p:Rat}(p0:0≤p)(p1:p≤1):∀n:Nat,1 - (1 - p) ^ n≤(n:Rat)*p∧0≤(1 - p) ^ n∧(1 - p) ^ n≤1
 | 0=>by
  rw[ψq1]
  refine⟨?_,?_,ψF1⟩ <;> grind
 | n+1=>by
  obtain⟨h1,h2,h3⟩:=zb9 p0 p1 n
  have q0:0≤1 - p:=by grind
  have m1:0≤(1 - p) ^ n*(1 - p):=ψn1 h2 q0
  have m2:0≤(1 - p) ^ n*p:=ψn1 h2 p0
  have m3:(1 - p) ^ n*p≤1*p:=ψJ h3 p0
  rw[ψk1]
  have c:((n+1:Nat):Rat)=(n:Rat)+1:=by exact_mod_cast rfl
  rw[c]
  refine⟨?_,m1,?_⟩ <;> grind
structure Drw (H:Hp) (p:Addr) (c:Int):Prop where
 hp:∃n f:Int,H p=some (.lst [.int n,.int f,.int c])∧n.natAbs<2 ^ 2 ^ 20∧(f=0∨f=1∧0≤n)
 c0:0≤c
theorem Drw.new{H:Hp}{p:Addr}{c:Int}(h:Drw H p c){b:Addr}(hb:H b=none):b≠p:=by
 obtain⟨n,f,hp,_⟩:=h.hp
 exact(zaG hp hb).symm
theorem Drw.upd{H:Hp}{p:Addr}{c:Int}(h:Drw H p c){b:Addr}{o:HO}(h1:b≠p):Drw (L2.upd H b o) p c:=by
 obtain⟨n,f,hp,e⟩:=h.hp
 exact⟨⟨n,f,by rw[zaM h1.symm];exact hp,e⟩,h.c0⟩
theorem Drw.mk2{H:Hp}{p:Addr}{c:Int}(h:Drw H p c){b:Addr}(hb:H b=none)(o:HO):∃H2,H2=L2.upd H b o∧Drw H2 p c∧zaF (Off p p H) (Off p p H2)∧Off p p H2 b=some o∧zaF H H2:=by
 have n:=h.new hb
 refine⟨_,rfl,h.upd n,?_,?_,zan hb _⟩
 ·rw[zjj n n]
  exact zan (zrg hb) _
 ·rw[zjj n n]
  exact zai
theorem Drw.put{H0 H:Hp}{p:Addr}{c:Int}(h:Drw H p c){b:Addr}(n:b≠p)(s:zaF (Off p p H0) (Off p p H))(f:Off p p H0 b=none)(o:HO):∃H2,H2=L2.upd H b o∧Drw H2 p c∧zaF (Off p p H0) (Off p p H2)∧Off p p H2 b=some o∧∀x,x≠b→Off p p H2 x=Off p p H x:=by
 refine⟨_,rfl,h.upd n,?_,?_,λx hx=>?_⟩
 ·rw[zjj n n]
  exact s.put f
 ·rw[zjj n n]
  exact zai
 ·rw[zjj n n,zaM hx]
def zrf:Sp:=λvs H Q _=>∃n k:Int,vs=[.int n,.int k]∧n.natAbs<2 ^ 2 ^ 20∧0≤k∧k≤100000∧∀r:Int,0≤r→r<2147483587→Q (.int r) H
def zoJ(K:ψa):Sp:=λvs H Q _=>∃(p:Addr) (x:Int),vs=[.ref p,.int 0]∧H p=some (.lst [.int x])∧Q (.int x) H
def zvp(K:ψa):Sp:=λvs H Q _=>∃(p:Addr) (x:Int),vs=[.ref p,.int 0]∧H p=some (.lst [.int x])∧x.natAbs<2 ^ 2 ^ 20∧∀(l:Addr) (H':Hp),zaF H H'→H l=none→Drw H' l 0→Q (.ref l) H'
def zd0:Sp:=λvs H Q _=>∃(p:Addr) (c m:Int),vs=[.ref p,.int m]∧Drw H p c∧c<10000∧0<m∧m≤1000000000000000000000000000000∧∀(r:Int) (H':Hp),0≤r→r<m→Off p p H'=Off p p H→Drw H' p (c+1)→Q (.int r) H'
section
variable {P:Program} {w:World} {mg:Str→Option Value} {base:Heap}
variable {K:ψa} {H:Hp} {Q:VK} {a:Ad}
theorem eqT{f g:TS}(h:f=g)(D:zlp)(σ:St)(H:Hp):f D σ H=g D σ H:=by rw[h]
def TyL(H:Hp)(x:V)(t:String):Prop:=(∃i,x=.int i∧t="int")∨(∃a ys,x=.ref a∧H a=some (.lst ys)∧t="list")∨(∃a ys,x=.ref a∧H a=some (.tup ys)∧t="tuple")
def zvJ(K:ψa):List V→Hp→VK→Prop:=λxs H Q=>∃(x:V) (t:String) (tp:Addr) (cs:List V) (cvs:List Value) (b:Bool),xs=[x,.ref tp]∧TyL H x t∧SqT K H tp cs∧zts cs=some cvs∧ψO1 K (.type t) cvs=some b∧Q (.bl b) H
def zwC(K:ψa)(tl:TE):TI:=λσ H R=>tl σ H λx H1=>∃a,x=.ref a∧((∃xs,SqL K H1 a xs)∧R (Itl K a) H1∨(∃xs,SqT K H1 a xs)∧R (Itt K a) H1)
theorem zpM(K:ψa):ψO1 K (.type "int") [.type "list",.type "tuple"]=some false:=by simp only[ψO1,zfs,zhh]
theorem znb(K:ψa):ψO1 K (.type "list") [.type "list",.type "tuple"]=some true:=by simp[ψO1,ψw1]
theorem zlI(K:ψa):ψO1 K (.type "tuple") [.type "list",.type "tuple"]=some true:=by simp only[ψO1,zeF];simp[ψw1]
open PySem PySem.Spec PyProof.Rows in
theorem zrC{X:Cx}:zio X (.builtin "isinstance") (zvJ X.K):=by
 intro pins s σ H xs us Q I r h
 obtain⟨x,t,tp,cs,cvs,b,rfl,ty,ht,hc,e,q⟩:=h
 obtain⟨u,w',rfl,rx,rw'⟩:=ztn r
 cases rw'
 obtain⟨ws,rv,⟨⟨cls,dd,data,sl⟩,e1,e2,n,e3⟩,_⟩:=I.tuple ht
 obtain rfl:=zmw rv hc
 simp only at e2 e3
 subst e2 e3
 rcases ty with ⟨i,rfl,rfl⟩ | ⟨a,ys,rfl,ha,rfl⟩ | ⟨a,ys,rfl,ha,rfl⟩
 ·obtain⟨t,z⟩:=(show ∃t,u=Value.int i t from rx)
  cases z
  exact PySem.W.kia_tup PySem.W.kitx_int I.kIn True.intro e1 e (λz=>nomatch z) λtk=>⟨.bl b,H,I.tok tk,rfl,q⟩
 ·cases (show u=Value.ref a from rx)
  obtain⟨_,_,n,_,h1⟩:=(show zdU X.prog X.w H s.heap a (.lst ys) from I.hok a _ ha)
  exact PySem.W.kia_tup PySem.W.kitx_list I.kIn ⟨_,h1,rfl⟩ e1 e (λz=>nomatch z) λtk=>⟨.bl b,H,I.tok tk,rfl,q⟩
 ·cases (show u=Value.ref a from rx)
  obtain⟨_,_,_,p⟩:=(show zdU X.prog X.w H s.heap a (.tup ys) from I.hok a _ ha)
  obtain⟨o,h1,h2,_⟩:=p
  exact PySem.W.kia_tup PySem.W.kitx_tuple I.kIn ⟨o,h1,h2⟩ e1 e (λz=>nomatch z) λtk=>⟨.bl b,H,I.tok tk,rfl,q⟩
open PySem PySem.Spec PyProof.Rows in
theorem zxp{X:Cx}{tg l:Expr}{tl:TE}(hl:PE X l tl):PI X tg l (zwC X.K tl):=by
 intro pins s σ H R I h
 refine thn (hl pins s σ H _ I h) λv s1 hQ'=>?_
 obtain⟨x,H1,I1,r1,q1⟩:=hQ'
 obtain⟨a,e,q1⟩:=q1
 subst e
 cases r1
 rcases q1 with ⟨⟨xs,hq⟩,q⟩ | ⟨⟨xs,hq⟩,q⟩
 ·obtain⟨its,rv,p,hz⟩:=I1.list hq
  refine wpAny_pyIter_list p.isList ?_
  refine⟨s1.heap.objs.size,[s1.heap.objs.size],_,_,H1,rfl,I1.kept (t':=s1.toks) λb o e=>Heap.get?_push_of_some _ e,zmF a _,⟨_,Heap.get?_push_size _ rfl,rfl,rfl⟩,λb hb=>?_,q⟩
  have e:b=s1.heap.objs.size:=by simpa using hb
  subst e
  exact I1.fpOk (ψj _) (I1.hok.fresh (ψj _))
 ·obtain⟨its,rv,p,hz⟩:=I1.tuple hq
  refine wpAny_pyIter_tuple (show s1.heap.IsTuple a its.toArray from p) ?_
  refine⟨s1.heap.objs.size,[s1.heap.objs.size],_,_,H1,rfl,I1.kept (t':=s1.toks) λb o e=>Heap.get?_push_of_some _ e,zjV a _,⟨_,Heap.get?_push_size _ rfl,rfl,rfl⟩,λb hb=>?_,q⟩
  have e:b=s1.heap.objs.size:=by simpa using hb
  subst e
  exact I1.fpOk (ψj _) (I1.hok.fresh (ψj _))
def ziP:TS :=
 (zbg (zbS (tOp (Qak) (zac 0) (zac 1)) (zam 2))
 (zbg (zbS (zac 1) (zam 0))
 (zbS (zac 2) (zam 1))))
def zgM:=eqT (ziP.eq_1)
def zi6(K:ψa):TS :=
 (zbg (zbS (tCB (λxs H Q=>∃i,xs=[.int i]∧Q (.int (if i<0 then -i else i)) H) (QA)) (zam 0))
 (zbg (zbS (tCB (λxs H Q=>∃i,xs=[.int i]∧Q (.int (if i<0 then -i else i)) H) (Qz)) (zam 1))
 (zbg (zjK (tTru K (zac 1)) (ziP))
 (zbP (zac 0)))))
theorem zpn{x y:Int}(q:Q (.int (ψU x y:Nat)) H):zi6 K { nx:=λ_ H'=>Q .non H',rt:=Q } (L2.start ["one","other","rest"] [.int x,.int y]) H:=by
 unfold zi6
 simp_all only [zgM,zac]
 refine ziB (λσ H'=>H'=H∧∃u v r,σ=[some (.int u),some (.int v),r]∧0≤u∧0≤v∧ψU u v=ψU x y) (λσ _=>match σ with | [_,some (.int y),_]=>y.toNat | _=>0) ?_ ?_ ?_
 ·rw[zvE,zvE]
  exact⟨rfl,_,_,_,rfl,by omega,by omega,rfl⟩
 ·rintro σ H' ⟨rfl,u,v,r,rfl,hu,hv,hg⟩
  simp_all only [zgM,zac]
  refine zb5 (λc=>?_) (λc=>?_)
  ·have c':v≠0:=by simpa using c
   have hv':0<v:=by omega
   refine⟨c',hv,ψd1 u hv',?_,?_⟩
   ·rw[zlT hu hv',hg]
   ·have:=ψy1 u hv'
    omega
  ·have c':v=0:=by simpa using c
   subst c'
   rw[← hg,zjQ u hu] at q
   exact q
 ·rintro σ H1 Q1 Q2 hQ ⟨v,hv,k,hk,h⟩
  exact⟨v,hv,k,hk,hQ _ _ h⟩
theorem zd8:zay ["one","other","rest"] (QN) (zag zi3):=(Qa)
theorem zf8(T:Txt K mg a):zci P w K mg base CX0 1 a.fO a.dO (QN) zs1:=by
 refine T.FO.ok zd8 (Qj) (Qe)
 all_goals obtain⟨x,y,rfl,q⟩:=h
 ·rfl
 exact⟨zi6 K,(zae (zaX (i:=0) zd8.nd rfl (Qh) (zap zoy rfl T.z_abs PyProof.Rows.boot_abs (Qag)))
 (zae (zaX (i:=1) zd8.nd rfl (Qh) (zap zoy rfl T.z_abs PyProof.Rows.boot_abs (QB)))
 (zae (zis PassesOwn.never (zow (pv 1) (λ_=>rfl)) (zae (zaX (i:=2) zd8.nd rfl (Qh) (zaz zhK (pv 0) (pv 1)))
 (zae (zaX (i:=0) zd8.nd rfl (Qh) (pv 1))
 (zah (zaX (i:=1) zd8.nd rfl (Qh) (pv 2))))))
 (zah (zat (pv 0)))))),
  zpn q⟩
def zmt:TS :=
 (zbP (zfq (zab (tOp (Qw) (zac 0) (zac 2)) (zab (tOp (Qw) (zac 1) (zac 2)) zau))))
def zdz:=eqT (zmt.eq_1)
def zls:TS :=
 (zbg (zbS (zaA zs1 [] E0 (QZ)) (zam 2))
 (zbg (zeK (zdI (zbZ (tOp (QS) (zac 1) (Qn))) (zbS (tUn (rU λi=>.int (-i)) (zac 2)) (zam 2)) zbU))
 (zmt)))
def zdH:=eqT (zls.eq_1)
def znZ:TS :=
 (zbg (zeK (zdI (zbZ (tOp rEq (zac 1) (Qn))) zoV zbU))
 (zls))
theorem zto{t b:Int}(h:b≠0)(hb:Bd 6000 b)(q:∀(r:Addr) (H':Hp),zaF H H'→H' r=some (.tup (fr (ψw t b)))→Q (QO) H') :
  znZ { nx:=λ_ H'=>Q .non H',rt:=Q } (L2.start ["top","bottom","shared"] [.int t,.int b]) H:=by
 unfold znZ
 simp_all only [zdz,zdH,zac]
 refine⟨λσ H'=>H'=H∧σ=[some (.int t),some (.int b),none],?_,?_⟩
 ·simp_all only [zdz,zdH,zac]
  exact zb5 (λc=>absurd c h) (λ_=>trivial)
 ·rintro σ H' ⟨e,rfl⟩
  rw[e]
  simp_all only [zdz,zdH,zac]
  refine⟨t,b,rfl,?_⟩
  refine⟨λσ H'=>H'=H∧σ=[some (.int t),some (.int b),some (.int (sg t b))],?_,?_⟩
  ·simp_all only [zdz,zdH,zac]
   unfold sg
   exact zb5 (λc=>by rw[if_pos c]) (λc=>by rw[if_neg c])
  ·rintro σ H' ⟨e,rfl⟩
   rw[e]
   simp_all only [zdz,zdH,zac]
   refine⟨zlL h,zvt h hb,zlL h,zvt h hb,by decide,λp hp=>q p _ (zan hp _) ?_⟩
   rw[fr,(zhY h).1,(zhY h).2]
   exact zai
theorem zk5:zay ["top","bottom","shared"] ["top","bottom"] (zag zmU):=(Qa)
theorem zfg(T:Txt K mg a):zci P w K mg base CX0 2 a.fj a.dj ["top","bottom"] zly:=by
 have GO:=zf8 (P:=P) (w:=w) (base:=base) T
 refine T.Fj.ok zk5 (Qj) (Qe)
 all_goals obtain⟨t,b,rfl,h,hb,q⟩:=h
 ·rfl
 exact⟨znZ,(zae (zbA (zbY (za7 zjs (pv 1) zaf (zaV _)) (zah zlo) zaY))
 (zae (zaX (i:=2) zk5.nd rfl (Qh) (zak GO (Qc) rfl T.mO T.FO.kp T.bO .nil zaB (Qad)))
 (zae (zbA (zbY (za7 zi4 (pv 1) zaf (zaV _)) (zah (zaX (i:=2) zk5.nd rfl (Qh) (zxg zsa (pv 2)))) zaY))
 (zah (zat (zbR (zaa (zaz zdu (pv 0) (pv 2)) (zaa (zaz zdu (pv 1) (pv 2)) zad)))))))),
  zto h hb q⟩
theorem zoW{b:Int}(h0:0≤b)(h1:b≤50):∀n:Nat,0≤b ^ n∧b ^ n≤50 ^ n
 | 0=>by simp
 | n+1=>by
  obtain⟨z1,z2⟩:=zoW h0 h1 n
  rw[Int.pow_succ,Int.pow_succ]
  exact⟨Int.mul_nonneg z1 h0,Int.mul_le_mul z2 h1 h0 (Int.le_trans z1 z2)⟩
theorem zes{b:Int}(h0:0≤b)(h1:b≤50){n:Nat}(hn:n≤60):Bd 400 (b ^ n):=by
 obtain⟨z1,z2⟩:=zoW h0 h1 n
 have z3:(50:Int) ^ n≤50 ^ 60:=by
  exact_mod_cast Nat.pow_le_pow_right (n:=50) (Qs) hn
 have z4:(50:Int) ^ 60<2 ^ 400:=by decide +kernel
 unfold Bd
 have:(b ^ n).natAbs<(2:Int) ^ 400:=by omega
 omega
theorem zf2{b:Int}(h0:1≤b):∀n:Nat,0<b ^ n
 | 0=>by simp
 | n+1=>by
  rw[Int.pow_succ]
  exact ψA1 (zf2 h0 n) (Qf)
def zn0:TS :=
 (zbg (zbS (Qi) (zam 2))
 (zbg (zjW (zij (Qz)) (zam 3)
 (zbS (tOp (Qd) (zac 2) (zac 0)) (zam 2)))
 (zbP (zac 2))))
theorem ztY{b n:Int}(n0:0≤n)(n1:n≤60)(b0:0≤b)(b1:b≤50)(q:Q (.int (b ^ n.toNat)) H) :
  zn0 { nx:=λ_ H'=>Q .non H',rt:=Q } (L2.start ["base","count","product","k"] [.int b,.int n]) H:=by
 unfold zn0
 simp_all only [zac]
 refine⟨by omega,by omega,?_⟩
 refine zeU (λi σ H'=>H'=H∧∃k,σ=[some (.int b),some (.int n),some (.int (b ^ i)),k]) ⟨rfl,none,by rw[Int.pow_zero]⟩ ?_ ?_
 ·rintro i σ H' hi ⟨rfl,k,rfl⟩
  simp_all only [zac]
  exact⟨zoz (Qf) (Qf),by rw[Int.pow_succ]⟩
 ·rintro σ H' ⟨rfl,k,rfl⟩
  simp_all only [zac]
  exact q
theorem ziI:zay ["base","count","product","k"] ["base","count"] (zag znW):=(Qa)
theorem zo1(T:Txt K mg a):zci P w K mg base CX0 1 a.faa a.daa ["base","count"] zuX:=by
 refine T.Faa.ok ziI (Qj) (Qe)
 all_goals obtain⟨b,n,rfl,n0,n1,b0,b1,q⟩:=h
 ·rfl
 exact⟨zn0,(zae (zaX (i:=2) ziI.nd rfl (Qh) zaf)
 (zae (zdq PassesOwn.never rfl (zc0 rfl T.z_range (QB)) (zaj (i:=3) ziI.nd rfl (Qh))
 (zah (zaX (i:=2) ziI.nd rfl (Qh) (zaz zav (pv 2) (pv 0)))))
 (zah (zat (pv 2))))),
  ztY n0 n1 b0 b1 q⟩
def zl1:Sp:=λvs H Q _=>∃(x y:Addr) (u v:Rat),vs=[.ref x,.ref y]∧H x=some (.tup (fr u))∧H y=some (.tup (fr v))∧Bq 2000 u∧Bq 2000 v∧∀(r:Addr) (H':Hp),zaF H H'→H' r=some (.tup (fr (u*v)))→Q (QO) H'
def znr(K:ψa):TS :=
 (zbP (zaA zly [] E0 (zab (tOp (Qd) (QE) (Qav)) (zab (tOp (Qd) (Qx) (QT)) zau))))
theorem zuA{x y:Addr}{u v:Rat}(hx:H x=some (.tup (fr u)))(hy:H y=some (.tup (fr v)))(bu:Bq 2000 u)(bv:Bq 2000 v)
  (q:∀(r:Addr) (H':Hp),zaF H H'→H' r=some (.tup (fr (u*v)))→Q (QO) H') :
  znr K { nx:=λ_ H'=>Q .non H',rt:=Q } (L2.start (QN) [.ref x,.ref y]) H:=by
 unfold znr
 simp_all only [zac]
 rw[← zq3] at q
 have hx:=SqT.of (K:=K) hx
 have hy:=SqT.of (K:=K) hy
 exact⟨_,hx,_,rfl,_,hy,_,rfl,_,rfl,_,rfl,zde 2000 2000 bu.top bv.top,_,hx,_,rfl,_,hy,_,rfl,_,rfl,_,rfl,zde 2000 2000 bu.bot bv.bot,_,_,rfl,ψS (zcJ u) (zcJ v),(bu.bot.mul bv.bot).mono (Qs),q⟩
theorem zua:zay (QN) (QN) (zag zmP):=(Qa)
theorem zuz(T:Txt K mg a):zci P w K mg base CX0 3 a.fav a.dav (QN) zl1:=by
 have Gj:=zfg (P:=P) (w:=w) (base:=base) T
 refine T.Fav.ok zua (Qj) (Qe)
 all_goals obtain⟨x,y,u,v,rfl,hx,hy,bu,bv,q⟩:=h
 ·rfl
 exact⟨znr K,(zah (zat (zak Gj (Qc) rfl T.mj T.Fj.kp T.bj .nil zaB (zaa (QaE) (zaa (QaE) zad))))),
  zuA hx hy bu bv q⟩
theorem zuW{b d:Int}(hb:0<b)(hd:0<d):0<b.fdiv (ψU b d:Nat)*d∧b∣b.fdiv (ψU b d:Nat)*d∧d∣b.fdiv (ψU b d:Nat)*d∧(∀M,b∣M→d∣M→b.fdiv (ψU b d:Nat)*d∣M)∧b.fdiv (ψU b d:Nat)*d≤b*d:=by
 obtain⟨B,rfl⟩:=ψR1 (ψz hb)
 obtain⟨D,rfl⟩:=ψR1 (ψz hd)
 have e:((B:Int).fdiv (ψU (B:Int) (D:Int):Nat))*(D:Int)=((Nat.lcm B D:Nat):Int):=by
  rw[ψW _ (Qf)]
  show(((B / Nat.gcd B D:Nat):Int))*(D:Int)=_
  rw[← Int.natCast_mul]
  congr 1
  unfold Nat.lcm
  exact Nat.div_mul_right_comm (Nat.gcd_dvd_left B D) D
 rw[e]
 have B0:0<B:=by omega
 have D0:0<D:=by omega
 refine⟨?_,Int.natCast_dvd_natCast.mpr (Nat.dvd_lcm_left B D),Int.natCast_dvd_natCast.mpr (Nat.dvd_lcm_right B D),λM h1 h2=>?_,?_⟩
 ·have:=Nat.lcm_pos B0 D0
  omega
 ·rw[Int.ofNat_dvd_left] at h1 h2 ⊢
  exact Nat.lcm_dvd h1 h2
 ·rw[← Int.natCast_mul]
  have:Nat.lcm B D≤B*D:=Nat.div_le_self _ _
  omega
structure Com (qs:List Rat) (D:Int):Prop where
 pos:0<D
 all:∀q∈qs,(q.den:Int)∣D
 least:∀M:Int,(∀q∈qs,(q.den:Int)∣M)→D∣M
def zlc:Sp:=λvs H Q _=>∃(l:Addr) (us:List Addr) (qs:List Rat),vs=[.ref l]∧H l=some (Q0)∧Tps fr H us qs∧qs.length≤60∧(∀q∈qs,Bq 2200 q)∧∀(r tl:Addr) (D:Int) (H':Hp),zaF H H'→Com qs D→H' r=some (.tup [.ref tl,.int D])→H tl=none→H' tl=some (.lst ((qs.map λq=>q.num*(D / q.den)).map V.int))→Q (QO) H'
def zjZ(K:ψa):TS :=
 (zbS (tOp (Qd) (tOp (Qw) (zac 1) (zaA zs1 [] E0 (zab (zac 1) (zab (tOp (zbB K) (zac 2) (Qi)) zau)))) (tOp (zbB K) (zac 2) (Qi))) (zam 1))
def zdX(K:ψa):=eqT (zjZ.eq_1 K)
def zjX(K:ψa):TS :=
 (zbP (zfq (zab (zb1 (QaH) (zam 0) za8 (tOp (Qd) (QE) (tOp (Qw) (zac 1) (Qx))) [none,some 1]) (Qz))))
def zd3(K:ψa):=eqT (zjX.eq_1 K)
def zj5(K:ψa):TS :=
 (zbg (zbS (Qi) (zam 1))
 (zbg (zjW (QaH) (zam 2)
 (zjZ K))
 (zjX K)))
theorem zrO{l:Addr}{us:List Addr}{qs:List Rat}(hl:H l=some (Q0))(ht:Tps fr H us qs)(h60:qs.length≤60)(hB:∀q∈qs,Bq 2200 q)(q:∀(r tl:Addr) (D:Int) (H':Hp),zaF H H'→Com qs D→H' r=some (.tup [.ref tl,.int D])→H tl=none→H' tl=some (.lst ((qs.map λq=>q.num*(D / q.den)).map V.int))→Q (QO) H') :
  zj5 K { nx:=λ_ H'=>Q .non H',rt:=Q } (L2.start ["fractions","bottom","fraction"] [.ref l]) H:=by
 unfold zj5
 have ul:=ht.1
 simp_all only [zdX,zd3,zac]
 refine⟨⟨_,SqL.of hl⟩,?_⟩
 refine zc2 (K:=K) (xs:=us.map V.ref) (λi σ H'=>H'=H∧∃(b:Int) (x1:Option V),Com (qs.take i) b∧Bd (2200*i+1) b∧σ=[some (.ref l),some (.int b),x1]) ⟨rfl,1,_,⟨by decide,by simp,λM _=>Int.one_dvd M⟩,by show(1:Nat)<2 ^ 1;decide,rfl⟩ ?_ ?_ ?_
 ·rintro i σ H' _ ⟨rfl,_⟩
  exact SqL.of hl
 ·rintro i v σ H1 hx ⟨rfl,b,x1,C,hb,rfl⟩
  obtain⟨t,et,rfl⟩:=zas hx
  obtain⟨f,ef,hf⟩:=ht.at et
  have li:=(List.getElem?_eq_some_iff.mp ef).1
  have bf:=hB f (zao ef)
  obtain⟨p1,p2,p3,p4,p5⟩:=zuW C.pos (zch f)
  have g0:(ψU b f.den:Int)≠0:=by
   have:=Int.gcd_pos_of_ne_zero_right b (zcJ f)
   omega
  have gle:(ψU b f.den:Int).natAbs≤(f.den:Int).natAbs:=by
   have:=Int.gcd_le_natAbs_right b (zcJ f)
   omega
  have fdl:(b.fdiv (ψU b f.den:Nat)).natAbs≤b.natAbs:=by
   rw[ψW _ (Qf)]
   have h1:=ψE1 (ψU b f.den:Nat) (ψz C.pos)
   have h2:=ψT1 (b:=((ψU b f.den:Nat):Int)) (ψz C.pos) (Qf)
   have:=C.pos
   omega
  simp_all only [zdX,zd3,zac]
  refine⟨_,SqT.of hf,_,rfl,b,_,rfl,_,rfl,g0,zhf 2200 g0 (bf.bot.le gle),_,SqT.of hf,_,rfl,_,rfl,zde (2200*i+1) 2200 (hb.le fdl) bf.bot (Qf),rfl,_,⟨p1,λr hr=>?_,λM hM=>p4 M (C.least M λr hr=>hM r ?_) (hM f ?_)⟩,?_,rfl⟩
  ·rw[ψu,ef] at hr
   rcases List.mem_append.mp hr with h | h
   ·exact Int.dvd_trans (C.all r h) p2
   ·have:r=f:=by simpa using h
    rw[this]
    exact p3
  ·rw[ψu,ef]
   exact ψK1 _ hr
  ·rw[ψu,ef]
   exact ψA _ (by simp)
  ·have hm:=hb.mul bf.bot
   have h0:=C.pos
   have h1:=zch f
   have h2:=ψA1 h0 h1
   exact(hm.le (Qf)).mono (Qf)
 ·rintro σ H1 ⟨rfl,b,x1,C,hb,rfl⟩
  rw[ψb,ul] at C hb
  rw[ψV (ψj _)] at C
  have hb2:Bd 132001 b:=hb.mono (Qf)
  simp_all only [zdX,zd3,zac]
  refine⟨⟨_,SqL.of hl⟩,λD hD=>?_⟩
  refine zcz (K:=K) (xs:=us.map V.ref) (λj ys σ H'=>zaF H1 H'∧ys=((qs.take j).map λq=>q.num*(b / q.den)).map V.int∧∃k,σ=[k,some (.int b)]) ⟨zan hD _,rfl,_,rfl⟩ ?_ ?_ ?_
  ·rintro j ys σ H' _ ⟨s,_⟩
   exact SqL.of (s _ _ hl)
  ·rintro j v ys σ H3 hx hD3 ⟨s3,rfl,k,rfl⟩
   obtain⟨t,et,rfl⟩:=zas hx
   obtain⟨f,ef,hf⟩:=ht.at et
   have bf:=hB f (zao ef)
   have lj:=(List.getElem?_eq_some_iff.mp ef).1
   have hf3:=s3 _ _ hf
   have fde:b.fdiv f.den=b / f.den:=ψW _ (ψz (zch f))
   have fdl:(b.fdiv f.den).natAbs≤b.natAbs:=by
    rw[fde]
    have h1:=ψE1 (f.den:Int) (ψz C.pos)
    have h2:=ψT1 (b:=(f.den:Int)) (ψz C.pos) (ψz (zch f))
    have:=C.pos
    omega
   simp_all only [zdX,zd3,zac]
   refine⟨_,SqT.of hf3,_,rfl,_,SqT.of hf3,_,rfl,_,rfl,zcJ f,zhf 2200 (zcJ f) bf.bot,_,rfl,zde 2200 132001 bf.top (hb2.le fdl),_,hD3,zbe (by rw[ψb,ψb,ψL];omega),_,zai,s3.put hD,?_⟩
   rw[ψu,ef,fde]
   simp
  ·rintro ys σ H3 hD3 ⟨s3,rfl,k,rfl⟩
   rw[ψb,ul,ψV (ψj _)] at hD3
   exact⟨by decide,λp hp=>q p D b _ (s3.add hp) C zai hD (by rw[zaM (zaG hD3 hp)];exact hD3)⟩
theorem zhk:zay ["fractions","bottom","fraction"] ["fractions"] (zag ziu):=(Qa)
theorem zl6(T:Txt K mg a):zci P w K mg base CX0 2 a.faf a.daf ["fractions"] zlc:=by
 have GO:=zf8 (P:=P) (w:=w) (base:=base) T
 refine T.Faf.ok zhk (Qj) (Qe)
 all_goals obtain⟨l,us,qs,rfl,hl,ht,h60,hB,q⟩:=h
 ·rfl
 exact⟨zj5 K,(zae (zaX (i:=1) zhk.nd rfl (Or.inr rfl) zaf)
 (zae (zdq PassesOwn.never rfl (zbz (pv 0)) (zaj (i:=2) zhk.nd rfl (Qh))
 (zah (zaX (i:=1) zhk.nd rfl (Or.inr rfl) (zaz zav (zaz zdu (pv 1) (zak GO (Qc) rfl T.mO T.FO.kp T.bO .nil zaB (zaa (pv 1) (zaa (QW) zad)))) (QW)))))
 (zah (zat (zbR (zaa (zbC (sc:=zag ziu) (N:=["fractions","bottom","fraction"]) (Nc:=["fraction","bottom"]) (cap:=[none,some 1]) rfl rfl rfl (Ql) (zbz (pv 0)) (λ_ _ _ _=>(zaj (i:=0) (show ψh (["fraction","bottom"]:List Str) from by decide) rfl (Qh))) (QD) (λ_ _ _ _=>(zaz zav (Qg) (zaz zdu (pv 1) (Qg))))) (QB))))))),
  zrO hl ht h60 hB q⟩
def znx:Sp:=λvs H Q _=>∃(x y:Addr) (u v:Rat),vs=[.ref x,.ref y]∧H x=some (.tup (fr u))∧H y=some (.tup (fr v))∧Bq 2900 u∧Bq 2900 v∧∀(r:Addr) (H':Hp),zaF H H'→H' r=some (.tup (fr (u+v)))→Q (QO) H'
def zo3:Sp:=λvs H Q _=>∃(x y:Addr) (u v:Rat),vs=[.ref x,.ref y]∧H x=some (.tup (fr u))∧H y=some (.tup (fr v))∧Bq 2900 u∧Bq 2900 v∧∀(r:Addr) (H':Hp),zaF H H'→H' r=some (.tup (fr (u - v)))→Q (QO) H'
def zkF:Sp:=λvs H Q _=>∃(x y:Addr) (u v:Rat),vs=[.ref x,.ref y]∧H x=some (.tup (fr u))∧H y=some (.tup (fr v))∧v≠0∧Bq 2900 u∧Bq 2900 v∧∀(r:Addr) (H':Hp),zaF H H'→H' r=some (.tup (fr (u / v)))→Q (QO) H'
def zld:Sp:=λvs H Q _=>∃(x y:Addr) (u v:Rat),vs=[.ref x,.ref y]∧H x=some (.tup (fr u))∧H y=some (.tup (fr v))∧Bq 6000 u∧Bq 6000 v∧Q (.bl (decide (u<v))) H
def zsb(K:ψa):TS :=
 (zbP (zaA zly [] E0 (zab (tOp (QM) (tOp (Qd) (QE) (QT)) (tOp (Qd) (Qav) (Qx))) (zab (tOp (Qd) (Qx) (QT)) zau))))
theorem zwm{x y:Addr}{u v:Rat}(hx:H x=some (.tup (fr u)))(hy:H y=some (.tup (fr v)))(bu:Bq 2900 u)(bv:Bq 2900 v)(q:∀(r:Addr) (H':Hp),zaF H H'→H' r=some (.tup (fr (u+v)))→Q (QO) H') :
  zsb K { nx:=λ_ H'=>Q .non H',rt:=Q } (L2.start (QN) [.ref x,.ref y]) H:=by
 unfold zsb
 simp_all only [zac]
 rw[← zsu] at q
 have hx:=SqT.of (K:=K) hx
 have hy:=SqT.of (K:=K) hy
 exact⟨_,hx,_,rfl,_,hy,_,rfl,_,rfl,_,rfl,zde 2900 2900 bu.top bv.bot,_,hy,_,rfl,_,hx,_,rfl,_,rfl,_,rfl,zde 2900 2900 bv.top bu.bot,_,hx,_,rfl,_,hy,_,rfl,_,rfl,_,rfl,zde 2900 2900 bu.bot bv.bot,_,_,rfl,ψS (zcJ u) (zcJ v),(bu.bot.mul bv.bot).mono (Qs),q⟩
theorem zxh:zay (QN) (QN) (zag zp9):=(Qa)
theorem zrx(T:Txt K mg a):zci P w K mg base CX0 3 a.fac a.dac (QN) znx:=by
 have Gj:=zfg (P:=P) (w:=w) (base:=base) T
 refine T.Fac.ok zxh (Qj) (Qe)
 all_goals obtain⟨x,y,u,v,rfl,hx,hy,bu,bv,q⟩:=h
 ·rfl
 exact⟨zsb K,(zah (zat (zak Gj (Qc) rfl T.mj T.Fj.kp T.bj .nil zaB (zaa (zaz zdC (QaE) (zaz zav (QC) (Qg))) (zaa (QaE) zad))))),
  zwm hx hy bu bv q⟩
def znl(K:ψa):TS :=
 (zbP (zaA zly [] E0 (zab (tOp (QJ) (tOp (Qd) (QE) (QT)) (tOp (Qd) (Qav) (Qx))) (zab (tOp (Qd) (Qx) (QT)) zau))))
theorem zuv{x y:Addr}{u v:Rat}(hx:H x=some (.tup (fr u)))(hy:H y=some (.tup (fr v)))(bu:Bq 2900 u)(bv:Bq 2900 v)(q:∀(r:Addr) (H':Hp),zaF H H'→H' r=some (.tup (fr (u - v)))→Q (QO) H') :
  znl K { nx:=λ_ H'=>Q .non H',rt:=Q } (L2.start (QN) [.ref x,.ref y]) H:=by
 unfold znl
 simp_all only [zac]
 rw[← zr3] at q
 have hx:=SqT.of (K:=K) hx
 have hy:=SqT.of (K:=K) hy
 exact⟨_,hx,_,rfl,_,hy,_,rfl,_,rfl,_,rfl,zde 2900 2900 bu.top bv.bot,_,hy,_,rfl,_,hx,_,rfl,_,rfl,_,rfl,zde 2900 2900 bv.top bu.bot,_,hx,_,rfl,_,hy,_,rfl,_,rfl,_,rfl,zde 2900 2900 bu.bot bv.bot,_,_,rfl,ψS (zcJ u) (zcJ v),(bu.bot.mul bv.bot).mono (Qs),q⟩
theorem ztm:zay (QN) (QN) (zag znj):=(Qa)
theorem ztr(T:Txt K mg a):zci P w K mg base CX0 3 a.fau a.dau (QN) zo3:=by
 have Gj:=zfg (P:=P) (w:=w) (base:=base) T
 refine T.Fau.ok ztm (Qj) (Qe)
 all_goals obtain⟨x,y,u,v,rfl,hx,hy,bu,bv,q⟩:=h
 ·rfl
 exact⟨znl K,(zah (zat (zak Gj (Qc) rfl T.mj T.Fj.kp T.bj .nil zaB (zaa (zaz zdy (QaE) (zaz zav (QC) (Qg))) (zaa (QaE) zad))))),
  zuv hx hy bu bv q⟩
def zqU(K:ψa):TS :=
 (zbP (zaA zly [] E0 (zab (tOp (Qd) (QE) (QT)) (zab (tOp (Qd) (Qx) (Qav)) zau))))
theorem zv9{x y:Addr}{u v:Rat}(hx:H x=some (.tup (fr u)))(hy:H y=some (.tup (fr v)))(v0:v≠0)(bu:Bq 2900 u)(bv:Bq 2900 v)(q:∀(r:Addr) (H':Hp),zaF H H'→H' r=some (.tup (fr (u / v)))→Q (QO) H') :
  zqU K { nx:=λ_ H'=>Q .non H',rt:=Q } (L2.start (QN) [.ref x,.ref y]) H:=by
 unfold zqU
 simp_all only [zac]
 rw[← zko] at q
 have hx:=SqT.of (K:=K) hx
 have hy:=SqT.of (K:=K) hy
 exact⟨_,hx,_,rfl,_,hy,_,rfl,_,rfl,_,rfl,zde 2900 2900 bu.top bv.bot,_,hx,_,rfl,_,hy,_,rfl,_,rfl,_,rfl,zde 2900 2900 bu.bot bv.top,_,_,rfl,ψS (zcJ u) (λz=>v0 (Rat.num_eq_zero.mp z)),(bu.bot.mul bv.top).mono (Qs),q⟩
theorem zwd:zay (QN) (QN) (zag zsf):=(Qa)
theorem zn7(T:Txt K mg a):zci P w K mg base CX0 3 a.fX a.dX (QN) zkF:=by
 have Gj:=zfg (P:=P) (w:=w) (base:=base) T
 refine T.FX.ok zwd (Qj) (Qe)
 all_goals obtain⟨x,y,u,v,rfl,hx,hy,v0,bu,bv,q⟩:=h
 ·rfl
 exact⟨zqU K,(zah (zat (zak Gj (Qc) rfl T.mj T.Fj.kp T.bj .nil zaB (zaa (QaE) (zaa (QaE) zad))))),
  zv9 hx hy v0 bu bv q⟩
def znp(K:ψa):TS :=
 (zbP (tOp (QS) (tOp (Qd) (QE) (QT)) (tOp (Qd) (Qav) (Qx))))
theorem ztI{x y:Addr}{u v:Rat}(hx:H x=some (.tup (fr u)))(hy:H y=some (.tup (fr v)))(bu:Bq 6000 u)(bv:Bq 6000 v)(q:Q (.bl (decide (u<v))) H) :
  znp K { nx:=λ_ H'=>Q .non H',rt:=Q } (L2.start (QN) [.ref x,.ref y]) H:=by
 unfold znp
 simp_all only [zac]
 have hx:=SqT.of (K:=K) hx
 have hy:=SqT.of (K:=K) hy
 rw[decide_eq_decide.mpr (Rat.lt_iff u v)] at q
 exact⟨_,hx,_,rfl,_,hy,_,rfl,_,rfl,_,rfl,zde 6000 6000 bu.top bv.bot,_,hy,_,rfl,_,hx,_,rfl,_,rfl,_,rfl,zde 6000 6000 bv.top bu.bot,q⟩
theorem ztX:zay (QN) (QN) (zag zmX):=(Qa)
theorem zot(T:Txt K mg a):zci P w K mg base CX0 1 a.fae a.dae (QN) zld:=by
 refine T.Fae.ok ztX (Qj) (Qe)
 all_goals obtain⟨x,y,u,v,rfl,hx,hy,bu,bv,q⟩:=h
 ·rfl
 exact⟨znp K,(zah (zat (zbT zi4 (QaE) (zaz zav (QC) (Qg)) (zaV _)))),
  ztI hx hy bu bv q⟩
def zkH(K:ψa):TS :=
 (zbP (zfq (zab (zaA zuX [] E0 (zab (tOp (QJ) (Qaw) (Qx)) (Qz))) (zab (zaA zuX [] E0 (zab (Qaw) (Qz))) zau))))
theorem zrc{p:Addr}{b:Box}{n:Int}(hp:H p=some (.tup (bx b)))(g:GB b)(n0:0≤n)(n1:n≤60)(q:∀(r:Addr) (H':Hp),zaF H H'→H' r=some (Qas)→Q (QO) H') :
  zkH K { nx:=λ_ H'=>Q .non H',rt:=Q } (L2.start ["box","count"] [.ref p,.int n]) H:=by
 unfold zkH
 obtain⟨g1,g2,g3,g4,g5⟩:=g
 simp_all only [zac]
 refine⟨_,SqT.of hp,_,rfl,_,SqT.of hp,_,rfl,_,rfl,_,rfl,_,_,rfl,n0,n1,by omega,by omega,_,SqT.of hp,_,rfl,_,_,rfl,n0,n1,by omega,by omega,by decide,λr hr=>q r _ (zan hr _) zai⟩
theorem zp6:zay ["box","count"] ["box","count"] (zag zk4):=(Qa)
theorem zeX(T:Txt K mg a):zci P w K mg base CX0 2 a.fH a.dH ["box","count"] zfc:=by
 have Gaa:=zo1 (P:=P) (w:=w) (base:=base) T
 refine T.FH.ok zp6 (Qj) (Qe)
 all_goals obtain⟨p,b,n,rfl,hp,g,n0,n1,q⟩:=h
 ·rfl
 exact⟨zkH K,(zah (zat (zbR (zaa (zak Gaa (Qc) rfl T.maa T.Faa.kp T.baa .nil zaB (zaa (zaz zdy (Qg) (Qg)) (QB))) (zaa (zak Gaa (Qc) rfl T.maa T.Faa.kp T.baa .nil zaB (zaa (Qg) (QB))) zad))))),
  zrc hp g n0 n1 q⟩
theorem zdh{b:Box}(g:GB b)(n:Int):0<b.2.2 ^ n.toNat:=zf2 (by obtain⟨g1,g2,g3,g4,g5⟩:=g;omega) _
theorem zgf{b:Box}(g:GB b){n:Int}(n1:n≤60):Bd 400 (b.2.2 ^ n.toNat):=zes (by obtain⟨g1,g2,g3,g4,g5⟩:=g;omega) g.2.2.2.2 (Qf)
def zlm(K:ψa):TS :=
 (zbg (zbS (zaA zfc [] E0 (QZ)) (zdS K 2 (zaL (zam 2) (zaL (zam 3) zdO))))
 (zbP (zaA zly [] E0 (zab (tOp (QJ) (zac 3) (zac 2)) (Q3)))))
theorem zsc{p:Addr}{b:Box}{n:Int}(hp:H p=some (.tup (bx b)))(g:GB b)(n0:0≤n)(n1:n≤60)(q:∀(r:Addr) (H':Hp),zaF H H'→H' r=some (.tup (fr (chq b n)))→Q (QO) H') :
  zlm K { nx:=λ_ H'=>Q .non H',rt:=Q } (L2.start ["box","count","top","bottom"] [.ref p,.int n]) H:=by
 unfold zlm
 simp_all only [zac]
 refine⟨p,b,n,rfl,hp,g,n0,n1,λr H1 s1 hr=>?_⟩
 simp_all only [zac]
 refine⟨_,SqT.of hr,rfl,_,_,rfl,_,_,rfl,rfl,_,rfl,_,rfl,?_⟩
 have z:=zdh g n
 exact⟨_,_,rfl,by omega,(zgf g n1).mono (Qs),λr H2 s2 hr2=>q r H2 (s1.trans s2) hr2⟩
theorem ziN:zay ["box","count","top","bottom"] ["box","count"] (zag zkU):=(Qa)
theorem zjb(T:Txt K mg a):zci P w K mg base CX0 3 a.fY a.dY ["box","count"] ziz:=by
 have GH:=zeX (P:=P) (w:=w) (base:=base) T
 have Gj:=zfg (P:=P) (w:=w) (base:=base) T
 refine T.FY.ok ziN (Qj) (Qe)
 all_goals obtain⟨p,b,n,rfl,hp,g,n0,n1,q⟩:=h
 ·rfl
 exact⟨zlm K,(zae (zc1 (zak GH (Qc) rfl T.mH T.FH.kp T.bH .nil zaB (Qad)) (zbs rfl (zal (zaj (i:=2) ziN.nd rfl (Qh)) (zal (zaj (i:=3) ziN.nd rfl (Qh)) za6))))
 (zah (zat (zak Gj (Qc) rfl T.mj T.Fj.kp T.bj .nil zaB (zaa (zaz zdy (pv 3) (pv 2)) (zaa (pv 3) zad)))))),
  zsc hp g n0 n1 q⟩
theorem zhs{α β γ:Type}(f:α→β→γ)(as:List α)(bs:List β){i:Nat}{x:α}{y:β}(h1:as[i]?=some x)(h2:bs[i]?=some y) :
  (ψf f as bs).take (i+1)=(ψf f as bs).take i++[f x y]:=by
 rw[ψu,ψZ,h1,h2]
 rfl
theorem zrW{α β γ:Type}(f:α→β→γ)(as:List α)(bs:List β):(ψf f as bs).take (min as.length bs.length)=ψf f as bs :=
 ψV (by rw[ψk];exact ψj _)
def zhO(K:ψa):TS :=
 (zbP (tCB (zlH K) (zab (zb1 (zlG K (QZ)) (Qm) za8 (tOp (Qd) (QE) (zac 1)) [none,none]) zau)))
theorem znE{l pl:Addr}{ts:List Addr}{bs:List Box}{ns:List Int}(B:BP H l pl ts bs ns)(q:∀H',zaF H H'→Q (.int (zaH bs ns).sum) H') :
  zhO K { nx:=λ_ H'=>Q .non H',rt:=Q } (L2.start ["boxes","plan"] [.ref l,.ref pl]) H:=by
 unfold zhO
 simp_all only [zac]
 refine⟨⟨_,SqL.of B.hl⟩,⟨_,SqL.of B.hp⟩,λD hD=>?_⟩
 refine zhj (K:=K) (xs:=ts.map V.ref) (zs:=ns.map V.int) (λi ys σ H'=>zaF H H'∧ys=((zaH bs ns).take i).map V.int∧∃x y,σ=[x,y]) ⟨zan hD _,rfl,_,_,rfl⟩ ?_ ?_ ?_
 ·rintro i ys σ H' _ ⟨s,_⟩
  exact⟨SqL.of (s _ _ B.hl),SqL.of (s _ _ B.hp)⟩
 ·rintro i x z t ys σ H' hx hz hD' ⟨s,rfl,u,v,rfl⟩ ht
  obtain⟨a,ha,rfl⟩:=zas hx
  obtain⟨n,hn,rfl⟩:=zas hz
  obtain⟨b,hb1,hb2⟩:=B.hb.at ha
  obtain⟨n0,n1⟩:=B.gn n (zao hn)
  have li:=(List.getElem?_eq_some_iff.mp hb1).1
  have l6:=B.l6
  have hb3:=s _ _ hb2
  simp_all only [zac]
  refine⟨_,SqT.of zai,rfl,_,_,rfl,_,_,rfl,rfl,?_⟩
  simp_all only [zac]
  refine⟨_,SqT.of (by rw[zaM (zaG hb3 ht)];exact hb3),_,rfl,_,rfl,zoz (Qf) (Qf),_,by rw[zaM (zaG hD' ht)];exact hD',zbe (by rw[ψb,ψL];omega),_,zai,((s.add ht).put hD),?_⟩
  rw[zaH,zhs _ _ _ hb1 hn,ψK]
  rfl
 ·rintro ys σ H' hD' ⟨s,rfl,u,v,rfl⟩
  simp_all only [zac]
  refine⟨_,SqL.of hD',?_⟩
  rw[ψb,ψb,B.hb.1,zaH,zrW]
  exact q _ s
theorem zof:zay ["boxes","plan"] ["boxes","plan"] (zag zf7):=(Qa)
theorem zg6(T:Txt K mg a):zci P w K mg base CX0 1 a.fZ a.dZ ["boxes","plan"] zoO:=by
 refine T.FZ.ok zof (Qj) (Qe)
 all_goals obtain⟨l,pl,ts,bs,ns,rfl,B,q⟩:=h
 ·rfl
 exact⟨zhO K,(zah (zat (zap (zcp rfl) rfl T.z_sum ψG (zaa (zbC (sc:=zag zf7) (N:=["boxes","plan"]) (Nc:=["box","count"]) (cap:=[none,none]) rfl rfl rfl (Ql) (zec rfl T.z_zip (Qad)) (Qp) (QD) (λ_ _ _ _=>(zaz zav (Qg) (pv 1)))) zad)))),
  znE B q⟩
def gnq(b:Box)(n:Int):Rat:=ψw ((b.2.2 - b.2.1) ^ n.toNat*b.2.1) (b.2.2 ^ n.toNat*b.2.2)
def zn9:Sp:=λvs H Q _=>∃(p:Addr) (b:Box) (n:Int),vs=[.ref p,.int n]∧H p=some (.tup (bx b))∧GB b∧0≤n∧n≤60∧∀(r:Addr) (H':Hp),zaF H H'→H' r=some (.tup (fr (gnq b n)))→Q (QO) H'
def zrl(K:ψa):TS :=
 (zbg (zbS (zaA zfc [] E0 (QZ)) (zdS K 2 (zaL (zam 2) (zaL (zam 3) zdO))))
 (zbP (zaA zly [] E0 (zab (tOp (Qd) (zac 2) (Qx)) (zab (tOp (Qd) (zac 3) (Qaw)) zau)))))
theorem zxc{p:Addr}{b:Box}{n:Int}(hp:H p=some (.tup (bx b)))(g:GB b)(n0:0≤n)(n1:n≤60)(q:∀(r:Addr) (H':Hp),zaF H H'→H' r=some (.tup (fr (gnq b n)))→Q (QO) H') :
  zrl K { nx:=λ_ H'=>Q .non H',rt:=Q } (L2.start ["box","count","top","bottom"] [.ref p,.int n]) H:=by
 unfold zrl
 simp_all only [zac]
 refine⟨p,b,n,rfl,hp,g,n0,n1,λr H1 s1 hr=>?_⟩
 simp_all only [zac]
 have hp1:=SqT.of (K:=K) (s1 _ _ hp)
 have z:=zdh g n
 have bo:=zgf g n1
 obtain⟨g1,g2,g3,g4,g5⟩:=g
 have b50:Bd 6 b.2.2:=by show b.2.2.natAbs<2 ^ 6;omega
 refine⟨_,SqT.of hr,rfl,_,_,rfl,_,_,rfl,rfl,_,hp1,_,rfl,_,rfl,_,rfl,zoz (Qf) (Qf),_,hp1,_,rfl,_,rfl,_,rfl,zoz (Qf) (Qf),?_⟩
 exact⟨_,_,rfl,ψS (Qf) (Qf),(bo.mul b50).mono (Qs),λr H2 s2 hr2=>q r H2 (s1.trans s2) hr2⟩
theorem znM:zay ["box","count","top","bottom"] ["box","count"] (zag zqN):=(Qa)
theorem zqB(T:Txt K mg a):zci P w K mg base CX0 3 a.fak a.dak ["box","count"] zn9:=by
 have GH:=zeX (P:=P) (w:=w) (base:=base) T
 have Gj:=zfg (P:=P) (w:=w) (base:=base) T
 refine T.Fak.ok znM (Qj) (Qe)
 all_goals obtain⟨p,b,n,rfl,hp,g,n0,n1,q⟩:=h
 ·rfl
 exact⟨zrl K,(zae (zc1 (zak GH (Qc) rfl T.mH T.FH.kp T.bH .nil zaB (Qad)) (zbs rfl (zal (zaj (i:=2) znM.nd rfl (Qh)) (zal (zaj (i:=3) znM.nd rfl (Qh)) za6))))
 (zah (zat (zak Gj (Qc) rfl T.mj T.Fj.kp T.bj .nil zaB (zaa (zaz zav (pv 2) (Qg)) (zaa (zaz zav (pv 3) (Qg)) zad)))))),
  zxc hp g n0 n1 q⟩
theorem Bq.add2{m n:Nat}{p q:Rat}(hp:Bq m p)(hq:Bq n q):Bq (m+n+1) (p+q):=by
 rw[← zsu]
 have h:Bd (m+n) (q.num*(p.den:Int)):=by rw[Nat.add_comm m n];exact hq.top.mul hp.bot
 exact zcw (ψS (zcJ p) (zcJ q)) ((hp.top.mul hq.bot).add h) ((hp.bot.mul hq.bot).mono (Nat.le_succ _))
def zm5:Sp:=λvs H Q _=>∃(l:Addr) (us:List Addr) (qs:List Rat),vs=[.ref l]∧H l=some (Q0)∧Tps fr H us qs∧(∀i:Nat,Bq 2900 (qs.take i).sum)∧(∀q∈qs,Bq 2900 q)∧∀(r:Addr) (H':Hp),zaF H H'→H' r=some (.tup (fr qs.sum))→Q (QO) H'
def znH(K:ψa):TS :=
 (zbg (zbS (zfq (zab (Qn) (zab (Qi) zau))) (zam 1))
 (zbg (zjW (QaH) (zam 2)
 (zbS (zaA znx [] E0 (zab (zac 1) (Qap))) (zam 1)))
 (zbP (zac 1))))
theorem ztB{l:Addr}{us:List Addr}{qs:List Rat}(hl:H l=some (Q0))(T:Tps fr H us qs)(bs:∀i:Nat,Bq 2900 (qs.take i).sum)(bq:∀q∈qs,Bq 2900 q)(q:∀(r:Addr) (H':Hp),zaF H H'→H' r=some (.tup (fr qs.sum))→Q (QO) H') :
  znH K { nx:=λ_ H'=>Q .non H',rt:=Q } (L2.start ["fractions","total","fraction"] [.ref l]) H:=by
 unfold znH
 simp_all only [zac]
 refine⟨by decide,λr0 n0=>?_⟩
 have s0:=zan n0 (.tup [.int 0,.int 1])
 have h0:(L2.upd H r0 (.tup [.int 0,.int 1])) r0=some (.tup [.int 0,.int 1]):=zai
 generalize L2.upd H r0 (.tup [.int 0,.int 1])=H0 at s0 h0 ⊢
 refine⟨⟨_,SqL.of (s0 _ _ hl)⟩,?_⟩
 refine zc2 (K:=K) (xs:=us.map V.ref) (λi σ H'=>zaF H0 H'∧∃(r:Addr) (x:Option V),H' r=some (.tup (fr ((qs.take i).sum)))∧σ=[some (.ref l),some (QO),x]) ⟨.refl _,r0,_,h0,rfl⟩ ?_ ?_ ?_
 ·rintro i σ H' _ ⟨s,_⟩
  exact SqL.of (s _ _ (s0 _ _ hl))
 ·rintro i v σ H1 hx ⟨s1,r,x,hr,rfl⟩
  obtain⟨t,et,rfl⟩:=zas hx
  obtain⟨f,ef,hf⟩:=T.at et
  simp_all only [zac]
  refine⟨r,t,_,f,rfl,hr,s1 _ _ (s0 _ _ hf),bs i,bq f (zao ef),λr2 H2 s2 h2=>?_⟩
  have e:(qs.take (i+1)).sum=(qs.take i).sum+f:=by
   rw[ψu,ef,List.sum_append]
   show _+(f+0)=_
   rw[Rat.add_zero]
  exact⟨s1.trans s2,r2,by rw[e];exact h2,rfl⟩
 ·rintro σ H1 ⟨s1,r,x,hr,rfl⟩
  simp_all only [zac]
  rw[ψb,T.1,ψC] at hr
  exact q r H1 (s0.trans s1) hr
theorem zix:zay ["fractions","total","fraction"] ["fractions"] (zag zod):=(Qa)
theorem zu7(T:Txt K mg a):zci P w K mg base CX0 4 a.fas a.das ["fractions"] zm5:=by
 have Gac:=zrx (P:=P) (w:=w) (base:=base) T
 refine T.Fas.ok zix (Qj) (Qe)
 all_goals obtain⟨l,us,qs,rfl,hl,T',bs,bq,q⟩:=h
 ·rfl
 exact⟨znH K,(zae (zaX (i:=1) zix.nd rfl (Qh) (zbR (zaa zaf (Q4))))
 (zae (zdq PassesOwn.never rfl (zbz (pv 0)) (zaj (i:=2) zix.nd rfl (Qh))
 (zah (zaX (i:=1) zix.nd rfl (Qh) (zak Gac (Qc) rfl T.mac T.Fac.kp T.bac .nil zaB (zaa (pv 1) (Qax))))))
 (zah (zat (pv 1))))),
  ztB hl T' bs bq q⟩
def zo8:Sp:=λvs H Q _=>∃(l:Addr) (us:List Addr) (qs:List Rat),vs=[.ref l]∧H l=some (Q0)∧Tps fr H us qs∧1≤qs.length∧(∀q∈qs,Bq 6000 q)∧∀(r:Addr) (m:Rat),H r=some (.tup (fr m))→m∈qs→(∀q∈qs,m≤q)→Q (QO) H
def zez(K:ψa):TS :=
 (zbg (zbS (tOp (zhx K) (zac 0) (Qn)) (zam 1))
 (zbg (zjW (QaH) (zam 2)
 (zdI (tB (zaA zld [] E0 (zab (zac 2) (Qz)))) (zbS (zac 2) (zam 1)) zbU))
 (zbP (zac 1))))
theorem ziZ{l:Addr}{us:List Addr}{qs:List Rat}(hl:H l=some (Q0))(T:Tps fr H us qs)(l1:1≤qs.length)(bq:∀q∈qs,Bq 6000 q)(q:∀(r:Addr) (m:Rat),H r=some (.tup (fr m))→m∈qs→(∀q∈qs,m≤q)→Q (QO) H) :
  zez K { nx:=λ_ H'=>Q .non H',rt:=Q } (L2.start ["chances","least","one"] [.ref l]) H:=by
 unfold zez
 simp_all only [zac]
 have hL:=SqL.of (K:=K) hl
 have lu:=T.1
 have e0:us[0]?=some us[0]:=ψc (Qf)
 obtain⟨f0,ef0,hf0⟩:=T.at e0
 refine⟨_,hL,_,zeG (j:=0) (show(us.map V.ref)[0]?=some (V.ref us[0]) by rw[ψt,e0];rfl),⟨_,hL⟩,?_⟩
 refine zc2 (K:=K) (xs:=us.map V.ref) (λi σ H'=>H'=H∧∃(r:Addr) (m:Rat) (x:Option V),H r=some (.tup (fr m))∧m∈qs∧(∀q∈qs.take i,m≤q)∧σ=[some (.ref l),some (QO),x]) ⟨rfl,us[0],f0,_,hf0,zao ef0,by simp,rfl⟩ ?_ ?_ ?_
 ·rintro i σ H' _ ⟨rfl,_⟩
  exact hL
 ·rintro i v σ H1 hx ⟨rfl,r,m,x,hr,hm,hall,rfl⟩
  obtain⟨t,et,rfl⟩:=zas hx
  obtain⟨f,ef,hf⟩:=T.at et
  simp_all only [zac]
  refine⟨t,r,f,m,rfl,hf,hr,bq f (zao ef),bq m hm,?_⟩
  have tk:∀y,y∈qs.take (i+1)→y∈qs.take i∨y=f:=λy hy=>by
   rw[ψu,ef] at hy
   exact(List.mem_append.mp hy).imp id λz=>List.mem_singleton.mp z
  refine⟨_,rfl,?_⟩
  by_cases c:f<m
  ·rw[if_pos (decide_eq_true c)]
   refine⟨rfl,t,f,hf,zao ef,λy hy=>?_,rfl⟩
   rcases tk y hy with z | rfl
   ·exact Rat.le_trans (ψB c) (hall y z)
   ·exact ψF1
  ·rw[if_neg (by simpa using c)]
   refine⟨rfl,r,m,hr,hm,λy hy=>?_,rfl⟩
   rcases tk y hy with z | rfl
   ·exact hall y z
   ·exact Rat.not_lt.mp c
 ·rintro σ H1 ⟨rfl,r,m,x,hr,hm,hall,rfl⟩
  simp_all only [zac]
  rw[ψb,T.1,ψC] at hall
  exact q r m hr hm hall
theorem zdm:zay ["chances","least","one"] ["chances"] (zag zeE):=(Qa)
theorem zjk(T:Txt K mg a):zci P w K mg base CX0 2 a.faM a.daM ["chances"] zo8:=by
 have Gae:=zot (P:=P) (w:=w) (base:=base) T
 refine T.FaM.ok zdm (Qj) (Qe)
 all_goals obtain⟨l,us,qs,rfl,hl,T',l1,bq,q⟩:=h
 ·rfl
 exact⟨zez K,(zae (zaX (i:=1) zdm.nd rfl (Qh) (zax zbX (pv 0) zaf (Qo)))
 (zae (zdq PassesOwn.never rfl (zbz (pv 0)) (zaj (i:=2) zdm.nd rfl (Qh))
 (zah (zbY (zbr (zak Gae (Qc) rfl T.mae T.Fae.kp T.bae .nil zaB (zaa (pv 2) (QB)))) (zah (zaX (i:=1) zdm.nd rfl (Qh) (pv 2))) zaY)))
 (zah (zat (pv 1))))),
  ziZ hl T' l1 bq q⟩
def pr(b:Box):Rat:=ψw b.2.1 b.2.2
theorem powI(a:Int):∀n:Nat,((a ^ n:Int):Rat)=(a:Rat) ^ n
 | 0=>by rw[Int.pow_zero,ψq1];rfl
 | n+1=>by rw[Int.pow_succ,ψk1,ψm,powI a n]
theorem powD(a b:Rat)(hb:b≠0):∀n:Nat,(a / b) ^ n=a ^ n / b ^ n
 | 0=>by rw[ψq1,ψq1,ψq1];grind
 | n+1=>by
  rw[ψk1,ψk1,ψk1,powD a b hb n]
  grind
theorem znR{b:Rat}(hb:b≠0):∀n:Nat,b ^ n≠0
 | 0=>by rw[ψq1];decide
 | n+1=>by
  rw[ψk1]
  have:=znR hb n
  grind
theorem zju{b:Box}(g:GB b):0<pr b∧pr b≤1∧∀n:Nat,(((b.2.2 - b.2.1) ^ n:Int):Rat) / ((b.2.2 ^ n:Int):Rat)=(1 - pr b) ^ n:=by
 obtain⟨g1,g2,g3,g4,g5⟩:=g
 have o0:(0:Rat)<(b.2.2:Rat):=by exact_mod_cast (show(0:Int)<b.2.2 by omega)
 have h0:(0:Rat)<(b.2.1:Rat):=by exact_mod_cast (show(0:Int)<b.2.1 by omega)
 have ho:(b.2.1:Rat)≤(b.2.2:Rat):=by exact_mod_cast g4
 have on:(b.2.2:Rat)≠0:=by grind
 have e:pr b=(b.2.1:Rat) / (b.2.2:Rat):=ψl ..
 refine⟨?_,?_,λn=>?_⟩
 ·rw[e]
  rw[ψY1]
  exact ψB1 h0 (Rat.inv_pos.mpr o0)
 ·rw[e]
  have i0:=Rat.inv_pos.mpr o0
  have m:=ψJ ho (ψB i0)
  rw[Rat.mul_inv_cancel _ on] at m
  rw[ψY1]
  exact m
 ·rw[powI,powI,← powD _ _ on,e,ψU1]
  congr 1
  grind
theorem zfm{b:Box}(g:GB b)(n:Int):chq b n=1 - (1 - pr b) ^ n.toNat:=by
 have h:=(zju g).2.2 n.toNat
 have on:((b.2.2 ^ n.toNat:Int):Rat)≠0:=by
  have:=zdh g n
  intro z
  have:(b.2.2 ^ n.toNat:Int)=0:=by exact_mod_cast z
  omega
 unfold chq
 rw[ψl,ψU1,← h]
 grind
theorem zfu{b:Box}(g:GB b)(n:Int):gnq b n=(1 - pr b) ^ n.toNat*pr b:=by
 have h:=(zju g).2.2 n.toNat
 unfold gnq pr
 rw[ψl,ψl,ψm,ψm]
 unfold pr at h
 rw[ψl] at h
 rw[← h]
 grind
theorem zfZ{α:Type}{f:α→List V}{p q D:Addr}{xs zs:List V}{te:TE}{rest:St}{x0 y0:Option V}{qs:List α}(hp:H p=some (.lst xs))(hq:H q=some (.lst zs))(lq:qs.length=min xs.length zs.length)(l6:qs.length≤1000)(hD:H D=none)
  (st:∀(i:Nat) (x z:V) (w:α) (H':Hp) (R:VK),xs[i]?=some x→zs[i]?=some z→qs[i]?=some w→zaF H H'→(∀(r:Addr) (H2:Hp),zaF H' H2→H2 r=some (.tup (f w))→R (QO) H2)→te (some x::some z::rest) H' R)
  (hd:∀(us:List Addr) (H':Hp),zaF H H'→H' D=some (Q0)→Tps f H' us qs→Q (.ref D) H') :
  zfD (Itz K p q) (Qm) za8 te D Q (x0::y0::rest) (upd H D (.lst [])):=by
 refine zhj (K:=K) (xs:=xs) (zs:=zs) (λi ys σ H'=>zaF H H'∧(∃us:List Addr,ys=us.map V.ref∧Tps f H' us (qs.take i))∧∃x y,σ=x::y::rest) ⟨zan hD _,⟨[],rfl,Tps.nil⟩,_,_,rfl⟩ ?_ ?_ ?_
 ·rintro i ys σ H' _ ⟨s,_⟩
  exact⟨SqL.of (s _ _ hp),SqL.of (s _ _ hq)⟩
 ·rintro i x z t ys σ H' hx hz hD' ⟨s,⟨us,rfl,T⟩,u,v,rfl⟩ ht
  have i1:=(Q7).1
  have i2:=(List.getElem?_eq_some_iff.mp hz).1
  have hw:qs[i]?=some (qs[i]'(by omega)):=ψc (Qf)
  have s1:=zan ht (.tup [x,z])
  refine⟨t,_,rfl,SqT.of zai,rfl,_,_,rfl,_,_,rfl,rfl,?_⟩
  refine st i x z _ _ _ hx hz hw (s.trans s1) λr H2 s2 h2=>?_
  have s3:=s1.trans s2
  have hD2:=s3 _ _ hD'
  have rD:r≠D:=λe=>by
   subst e
   rw[h2] at hD2
   cases hD2
  have lu:us.length≤1000:=by
   have e:=T.1
   rw[ψL] at e
   omega
  refine⟨D,_,_,rfl,rfl,hD2,zbe (by rw[ψb];exact lu),_,zai,(s.trans s3).put hD,⟨us++[r],by rw[ψK];rfl,?_⟩,_,_,rfl⟩
  rw[ψu,hw]
  refine T.put (λy w e=>?_) (by rw[zaM rD];exact h2)
  have nx:y≠D:=λz=>by
   subst z
   rw[e] at hD'
   cases hD'
  rw[zaM nx]
  exact s3 _ _ e
 ·rintro ys σ H' hD' ⟨s,⟨us,rfl,T⟩,u,v,rfl⟩
  rw[← lq,ψC] at T
  exact hd us H' s hD' T
theorem zeV{p q D:Addr}{xs zs:List V}{te:TE}{rest:St}{x0 y0:Option V}{vs:List V}(hp:H p=some (.lst xs))(hq:H q=some (.lst zs))(lq:vs.length=min xs.length zs.length)(l6:vs.length≤1000)(hD:H D=none)
  (st:∀(i:Nat) (x z v:V) (H':Hp) (R:VK),xs[i]?=some x→zs[i]?=some z→vs[i]?=some v→zaF H H'→(∀H2:Hp,zaF H' H2→R v H2)→te (some x::some z::rest) H' R)
  (hd:∀H':Hp,zaF H H'→H' D=some (.lst vs)→Q (.ref D) H') :
  zfD (Itz K p q) (Qm) za8 te D Q (x0::y0::rest) (upd H D (.lst [])):=by
 refine zhj (K:=K) (xs:=xs) (zs:=zs) (λi ys σ H'=>zaF H H'∧ys=vs.take i∧∃x y,σ=x::y::rest) ⟨zan hD _,rfl,_,_,rfl⟩ ?_ ?_ ?_
 ·rintro i ys σ H' _ ⟨s,_⟩
  exact⟨SqL.of (s _ _ hp),SqL.of (s _ _ hq)⟩
 ·rintro i x z t ys σ H' hx hz hD' ⟨s,rfl,u,v,rfl⟩ ht
  have i1:=(Q7).1
  have i2:=(List.getElem?_eq_some_iff.mp hz).1
  have hw:vs[i]?=some (vs[i]'(by omega)):=ψc (Qf)
  have s1:=zan ht (.tup [x,z])
  refine⟨t,_,rfl,SqT.of zai,rfl,_,_,rfl,_,_,rfl,rfl,?_⟩
  refine st i x z _ _ _ hx hz hw (s.trans s1) λH2 s2=>?_
  refine⟨D,_,_,rfl,rfl,s2 _ _ (s1 _ _ hD'),zbe (by rw[ψL];omega),_,zai,(s.trans (s1.trans s2)).put hD,?_,_,_,rfl⟩
  rw[ψu,hw]
  rfl
 ·rintro ys σ H' hD' ⟨s,rfl,u,v,rfl⟩
  rw[← lq,ψC] at hD'
  exact hd H' s hD'
theorem zdd{p D:Addr}{xs:List V}{te:TE}{rest:St}{x0:Option V}{vs:List V}(hp:H p=some (.lst xs))(lq:vs.length=xs.length)(l6:vs.length≤1000)(hD:H D=none)
  (st:∀(i:Nat) (x v:V) (H':Hp) (R:VK),xs[i]?=some x→vs[i]?=some v→zaF H H'→(∀H2:Hp,zaF H' H2→R v H2)→te (some x::rest) H' R)
  (hd:∀H':Hp,zaF H H'→H' D=some (.lst vs)→Q (.ref D) H') :
  zfD (Itl K p) (zam 0) za8 te D Q (x0::rest) (upd H D (.lst [])):=by
 refine zcz (K:=K) (xs:=xs) (λi ys σ H'=>zaF H H'∧ys=vs.take i∧∃x,σ=x::rest) ⟨zan hD _,rfl,_,rfl⟩ ?_ ?_ ?_
 ·rintro i ys σ H' _ ⟨s,_⟩
  exact SqL.of (s _ _ hp)
 ·rintro i x ys σ H' hx hD' ⟨s,rfl,u,rfl⟩
  have i1:=(Q7).1
  have hw:vs[i]?=some (vs[i]'(by omega)):=ψc (Qf)
  refine st i x _ _ _ hx hw s λH2 s2=>?_
  refine⟨D,_,_,rfl,rfl,s2 _ _ hD',zbe (by rw[ψL];omega),_,zai,(s.trans s2).put hD,?_,_,rfl⟩
  rw[ψu,hw]
  rfl
 ·rintro ys σ H' hD' ⟨s,rfl,u,rfl⟩
  rw[← lq,ψC] at hD'
  exact hd H' s hD'
def wq(b:Box)(n:Int):Rat:=(b.1:Rat) / gnq b n
def wqs(bs:List Box)(ns:List Int):List Rat:=ψf wq bs ns
def Gn(bs:List Box)(ns:List Int):Prop:=∀(i:Nat) b n,bs[i]?=some b→ns[i]?=some n→gnq b n≠0
theorem zq5{b:Box}(g:GB b){n:Int}(n1:n≤60):Bq 410 (gnq b n):=by
 have bo:=zgf g n1
 have bt:Bd 400 ((b.2.2 - b.2.1) ^ n.toNat):=zes (by obtain⟨g1,g2,g3,g4,g5⟩:=g;omega) (by obtain⟨g1,g2,g3,g4,g5⟩:=g;omega) (Qf)
 have o0:=zdh g n
 obtain⟨g1,g2,g3,g4,g5⟩:=g
 have h1:Bd 10 b.2.1:=by show b.2.1.natAbs<2 ^ 10;omega
 have h2:Bd 10 b.2.2:=by show b.2.2.natAbs<2 ^ 10;omega
 exact zcw (ψS (Qf) (Qf)) (bt.mul h1) (bo.mul h2)
def zrB:Sp:=λvs H Q _=>∃(l pl:Addr) (ts:List Addr) (bs:List Box) (ns:List Int),vs=[.ref l,.ref pl]∧BP H l pl ts bs ns∧Gn bs ns∧∀(r:Addr) (us:List Addr) (H':Hp),zaF H H'→H' r=some (Q0)→Tps fr H' us (Qat)→Q (QO) H'
def zeB(K:ψa):TS :=
 (zbP (zb1 (zlG K (QZ)) (Qm) za8 (zaA zkF [] E0 (zab (zfq (zab (QE) (zab (Qi) zau))) (zab (zaA zn9 [] E0 (QZ)) zau))) [none,none]))
theorem ziU{l pl:Addr}{ts:List Addr}{bs:List Box}{ns:List Int}(B:BP H l pl ts bs ns)(G:Gn bs ns)(q:∀(r:Addr) (us:List Addr) (H':Hp),zaF H H'→H' r=some (Q0)→Tps fr H' us (Qat)→Q (QO) H') :
  zeB K { nx:=λ_ H'=>Q .non H',rt:=Q } (L2.start ["boxes","counts"] [.ref l,.ref pl]) H:=by
 unfold zeB
 simp_all only [zac]
 refine⟨⟨_,SqL.of B.hl⟩,⟨_,SqL.of B.hp⟩,λD hD=>?_⟩
 refine zhj (K:=K) (xs:=ts.map V.ref) (zs:=ns.map V.int) (λi ys σ H'=>zaF H H'∧(∃us:List Addr,ys=us.map V.ref∧Tps fr H' us ((Qat).take i)∧∀u∈us,u≠D)∧∃x y,σ=[x,y]) ⟨zan hD _,⟨[],rfl,Tps.nil,by simp⟩,_,_,rfl⟩ ?_ ?_ ?_
 ·rintro i ys σ H' _ ⟨s,_⟩
  exact⟨SqL.of (s _ _ B.hl),SqL.of (s _ _ B.hp)⟩
 ·rintro i x z t ys σ H' hx hz hD' ⟨s,⟨us,rfl,T,nu⟩,u,v,rfl⟩ ht
  obtain⟨a,ha,rfl⟩:=zas hx
  obtain⟨n,hn,rfl⟩:=zas hz
  obtain⟨b,hb1,hb2⟩:=B.hb.at ha
  obtain⟨n0,n1⟩:=B.gn n (zao hn)
  have g:=B.gb b (zao hb1)
  have hb3:=s _ _ hb2
  simp_all only [zac]
  refine⟨_,SqT.of zai,rfl,_,_,rfl,_,_,rfl,rfl,?_⟩
  simp_all only [zac]
  have s1:=zan ht (.tup [V.ref a,V.int n])
  have h1:(L2.upd H' t (.tup [V.ref a,V.int n])) t=some (.tup [V.ref a,V.int n]):=zai
  generalize L2.upd H' t (.tup [V.ref a,V.int n])=H1 at s1 h1 ⊢
  refine⟨_,SqT.of (s1 _ _ hb3),_,rfl,by decide,λp np=>?_⟩
  have s2:=zan np (.tup [V.int b.1,V.int 1])
  have h2:(L2.upd H1 p (.tup [V.int b.1,V.int 1])) p=some (.tup [V.int b.1,V.int 1]):=zai
  generalize L2.upd H1 p (.tup [V.int b.1,V.int 1])=H2 at s2 h2 ⊢
  have hb4:=s2 _ _ (s1 _ _ hb3)
  refine⟨a,b,n,rfl,hb4,g,n0,n1,λr H3 s3 h3=>?_⟩
  have b1:Bq 2900 (b.1:Rat):=⟨by show b.1.natAbs<2 ^ 2900;exact ψr (by have:=g.1;have:=g.2.1;omega:b.1.natAbs<2 ^ 6) (Nat.pow_le_pow_right (Qs) (Qs)),by show(1:Nat)<2 ^ 2900;exact ψV1 (Qs)⟩
  refine⟨p,r,(b.1:Rat),gnq b n,rfl,s3 _ _ h2,h3,G i b n hb1 hn,b1,(zq5 g n1).mono (Qs),λy H4 s4 h4=>?_⟩
  have s14:=s1.trans (s2.trans (s3.trans s4))
  have hD4:=s14 _ _ hD'
  have yD:y≠D:=λz=>by
   subst z
   rw[h4] at hD4
   cases hD4
  have lu:us.length≤6:=by
   have:=B.l6
   have e:=T.1
   rw[ψL,wqs,ψk] at e
   omega
  refine⟨_,hD4,zbe (by rw[ψb];omega),_,zai,(s.trans s14).put hD,us++[y],by rw[ψK];rfl,?_,λu hu=>?_⟩
  ·rw[wqs,zhs _ _ _ hb1 hn]
   refine T.put (λx w e=>?_) (by rw[zaM yD];exact h4)
   have nx:x≠D:=λz=>by
    subst z
    rw[e] at hD'
    cases hD'
   rw[zaM nx]
   exact s14 _ _ e
  ·rcases List.mem_append.mp hu with hu | hu
   ·exact nu u hu
   ·rw[List.mem_singleton.mp hu]
    exact yD
 ·rintro ys σ H' hD' ⟨s,⟨us,rfl,T,nu⟩,u,v,rfl⟩
  rw[ψb,ψb,B.hb.1,wqs,zrW] at T
  exact q D us H' s hD' T
theorem zji:zay ["boxes","counts"] ["boxes","counts"] (zag zdw):=(Qa)
theorem zfG(T:Txt K mg a):zci P w K mg base CX0 4 a.fal a.dal ["boxes","counts"] zrB:=by
 have Gak:=zqB (P:=P) (w:=w) (base:=base) T
 have GX:=zn7 (P:=P) (w:=w) (base:=base) T
 refine T.Fal.ok zji (Qj) (Qe)
 all_goals obtain⟨l,pl,ts,bs,ns,rfl,B,G,q⟩:=h
 ·rfl
 exact⟨zeB K,(zah (zat (zbC (sc:=zag zdw) (N:=["boxes","counts"]) (Nc:=["box","count"]) (cap:=[none,none]) rfl rfl rfl (Ql) (zec rfl T.z_zip (Qad)) (Qp) (QD) (λ_ _ _ _=>(zak GX (Qc) rfl T.mX T.FX.kp T.bX .nil zaB (zaa (zbR (zaa (Qg) (Q4))) (zaa (zak Gak (Qc) rfl T.mak T.Fak.kp T.bak .nil zaB (Qad)) zad))))))),
  ziU B G q⟩
theorem Bq.mul2{m n:Nat}{p q:Rat}(hp:Bq m p)(hq:Bq n q):Bq (m+n) (p*q):=by
 rw[← zq3]
 exact zcw (ψS (zcJ p) (zcJ q)) (hp.top.mul hq.top) (hp.bot.mul hq.bot)
theorem zhz{b:Int}(h0:0≤b)(h1:b≤50)(n:Nat):Bd (6*n+1) (b ^ n):=by
 obtain⟨z1,z2⟩:=zoW h0 h1 n
 have z3:(50:Nat) ^ n≤64 ^ n:=Nat.pow_le_pow_left (Qs) n
 have z4:(64:Nat) ^ n=2 ^ (6*n):=by rw[Nat.pow_mul]
 have z5:((50 ^ n:Nat):Int)=(50:Int) ^ n:=by exact_mod_cast rfl
 have z6:(2:Nat) ^ (6*n+1)=2 ^ (6*n)*2:=Nat.pow_succ ..
 have z7:0<(2:Nat) ^ (6*n):=Nat.pow_pos (Qs)
 show(b ^ n).natAbs<2 ^ (6*n+1)
 omega
theorem zoI{b:Box}(g:GB b)(n:Int):Bq (6*n.toNat+2) (chq b n):=by
 have o0:=zdh g n
 obtain⟨g1,g2,g3,g4,g5⟩:=g
 exact zcw (Qf) ((zhz (Qf) g5 _).sub (zhz (Qf) (Qf) _)) ((zhz (Qf) g5 _).mono (Qf))
theorem zq7{b:Box}(g:GB b)(n:Int):Bq (6*n.toNat+7) (gnq b n):=by
 have o0:=zdh g n
 obtain⟨g1,g2,g3,g4,g5⟩:=g
 have h1:Bd 6 b.2.1:=by show b.2.1.natAbs<2 ^ 6;omega
 have h2:Bd 6 b.2.2:=by show b.2.2.natAbs<2 ^ 6;omega
 exact zcw (ψS (Qf) (Qf)) (((zhz (Qf) (Qf) _).mul h1).mono (Qf)) (((zhz (Qf) g5 _).mul h2).mono (Qf))
theorem zl5{b:Box}(g:GB b){n:Int}(gn:gnq b n≠0):Bq (6*n.toNat+14) (wq b n):=by
 have hb:=zq7 g n
 unfold wq
 rw[← zko]
 have c:Bd 7 b.1:=by have:=g.1;have:=g.2.1;show b.1.natAbs<2 ^ 7;omega
 exact zcw (ψS (by show(1:Int)≠0;decide) (zoZ gn)) ((c.mul hb.bot).mono (Qf)) (((show Bd 1 (1:Int) from by show(1:Nat)<2 ^ 1;decide).mul hb.top).mono (Qf))
theorem zkP{j k:Nat}{f:Box×Int→Rat}:∀xs:List (Box×Int),(∀x∈xs,Bq (j*x.2.toNat+k) (f x))→Bq (j*(xs.map λx=>x.2.toNat).sum+(k+1)*xs.length+1) (xs.map f).sum
 | [],_=>⟨by show(0:Nat)<2 ^ _;exact Nat.pow_pos (Qs),by show(1:Nat)<2 ^ _;exact ψV1 (Qf)⟩
 | x::xs,h=>by
  have ih:=zkP xs λy hy=>h y (ψd _ hy)
  rw[ψD,ψq,ψD,ψq,ψM,Nat.mul_add,Nat.mul_add]
  exact((h x ψe).add2 ih).mono (Qf)
theorem zhq:∀(bs:List Box) (ns:List Int),(QaD)→(∀n∈ns,0≤n)→((((QaA).map λx=>x.2.toNat).sum:Nat):Int)≤(zaH bs ns).sum
 | [],_,_,_=>by simp[zaH]
 | _::_,[],_,_=>by simp[zaH]
 | b::bs,n::ns,gb,n0=>by
  have ih:=zhq bs ns (λx hx=>gb x (ψd _ hx)) (λx hx=>n0 x (ψd _ hx))
  obtain⟨g1,_⟩:=gb b ψe
  have hn:=n0 n ψe
  have m1:1*n≤b.1*n:=ψW1 g1 hn
  rw[Int.one_mul] at m1
  rw[ψI1,ψD,ψq]
  show((n.toNat+_:Nat):Int)≤b.1*n+(zaH bs ns).sum
  omega
theorem Bq.div2{m n:Nat}{p q:Rat}(hp:Bq m p)(hq:Bq n q)(q0:q≠0):Bq (m+n) (p / q):=by
 rw[← zko]
 exact zcw (ψS (zcJ p) (zoZ q0)) (hp.top.mul hq.bot) (hp.bot.mul hq.top)
theorem Bq.sub2{m n:Nat}{p q:Rat}(hp:Bq m p)(hq:Bq n q):Bq (m+n+1) (p - q):=by
 rw[← zr3]
 have h:Bd (m+n) (q.num*(p.den:Int)):=by rw[Nat.add_comm m n];exact hq.top.mul hp.bot
 exact zcw (ψS (zcJ p) (zcJ q)) ((hp.top.mul hq.bot).sub h) ((hp.bot.mul hq.bot).mono (Nat.le_succ _))
theorem zgJ{α β γ:Type}{f:α→β→γ}{as:List α}{bs:List β}(P:γ→Prop)(h:∀(i:Nat) a b,as[i]?=some a→bs[i]?=some b→P (f a b)):∀x∈ψf f as bs,P x:=λx hx=>by
 obtain⟨i,ei⟩:=ψp hx
 rw[ψZ] at ei
 cases e1:as[i]? with
 | none=>rw[e1] at ei;cases ei
 | some a =>
  cases e2:bs[i]? with
  | none=>rw[e1,e2] at ei;cases ei
  | some b =>
   rw[e1,e2] at ei
   cases ei
   exact h i a b e1 e2
theorem zin{α β γ:Type}{f:α→β→γ}{as:List α}{bs:List β}{i:Nat}{a:α}{b:β}{c:γ}(e1:as[i]?=some a)(e2:bs[i]?=some b)(e3:(ψf f as bs)[i]?=some c):c=f a b:=by
 rw[ψZ,e1,e2] at e3
 exact(Option.some.inj e3).symm
theorem zqv:∀(l:List Nat) (i:Nat),(l.take i).sum≤l.sum
 | [],i=>by simp
 | x::l,0=>by simp
 | x::l,i+1=>by
  have:=zqv l i
  rw[List.take_succ_cons,ψq,ψq]
  omega
theorem zl2{j k:Nat}{f:Box×Int→Rat}(xs:List (Box×Int))(h:∀x∈xs,Bq (j*x.2.toNat+k) (f x))(i:Nat):Bq (j*(xs.map λx=>x.2.toNat).sum+(k+1)*xs.length+1) ((xs.map f).take i).sum:=by
 have b:=zkP (j:=j) (k:=k) (f:=f) (xs.take i) λx hx=>h x (ψL1 hx)
 rw[← List.map_take]
 have t:=zqv (xs.map λx=>x.2.toNat) i
 rw[← List.map_take] at t
 have l:=List.length_take_le i xs
 exact b.mono (Nat.add_le_add_right (Nat.add_le_add (Nat.mul_le_mul_left j t) (Nat.mul_le_mul_left (k+1) (by rw[ψL];omega))) 1)
theorem zxZ{b:Box}(g:GB b){n:Int}(n1:n≤60)(gn:gnq b n≠0):Bq 420 (wq b n):=by
 have hb:=zq5 g n1
 unfold wq
 rw[← zko]
 have c:Bd 7 b.1:=by have:=g.1;have:=g.2.1;show b.1.natAbs<2 ^ 7;omega
 exact zcw (ψS (by show(1:Int)≠0;decide) (zoZ gn)) ((c.mul hb.bot).mono (Qs)) (((show Bd 1 (1:Int) from by show(1:Nat)<2 ^ 1;decide).mul hb.top).mono (Qs))
theorem zvj{b:Box}(g:GB b){n:Int}(n1:n≤60):Bq 401 (chq b n):=by
 have bo:=zgf g n1
 have bt:Bd 400 ((b.2.2 - b.2.1) ^ n.toNat):=zes (by obtain⟨g1,g2,g3,g4,g5⟩:=g;omega) (by obtain⟨g1,g2,g3,g4,g5⟩:=g;omega) (Qf)
 have o0:=zdh g n
 exact zcw (Qf) (bo.sub bt) (bo.mono (Qs))
theorem ziG:∀(bs:List Box) (ns:List Int),(QaD)→(∀n∈ns,0≤n∧n≤60)→0≤(zaH bs ns).sum∧(zaH bs ns).sum≤3600*bs.length
 | [],ns,_,_=>by simp[zaH]
 | b::bs,[],_,_=>by simp[zaH];omega
 | b::bs,n::ns,h1,h2=>by
  obtain⟨z1,z2⟩:=ziG bs ns (λx hx=>h1 x (ψd _ hx)) (λx hx=>h2 x (ψd _ hx))
  obtain⟨g1,g2,_⟩:=h1 b ψe
  obtain⟨n0,n1⟩:=h2 n ψe
  have m1:0≤b.1*n:=Int.mul_nonneg (Qf) n0
  have m2:b.1*n≤60*60:=Int.mul_le_mul g2 n1 n0 (Qs)
  show 0≤b.1*n+(zaH bs ns).sum∧b.1*n+(zaH bs ns).sum≤3600*((bs.length+1:Nat):Int)
  omega
def zik(bs:List Box)(ns:List Int):List Rat:=ψf (λx y:Rat=>x*y) (Qat) (zmq bs ns)
theorem zgK{α β γ:Type}(f:α→β→γ):∀(as:List α) (bs:List β),ψf f as bs=(ψn as bs).map λx=>f x.1 x.2
 | [],_=>by simp
 | _::_,[]=>by simp
 | a::as,b::bs=>by
  rw[ψH,ψI1,ψD,zgK f as bs]
theorem zi9(bs:List Box)(ns:List Int):zik bs ns=(ψn bs ns).map λx=>wq x.1 x.2*chq x.1 x.2:=by
 unfold zik wqs zmq
 rw[zgK wq,zgK chq,List.zipWith_map_left,List.zipWith_map_right]
 generalize ψn bs ns=l
 induction l with
 | nil=>rfl
 | cons x l ih=>rw[ψH,ψD,ih]
def zdZ(bs:List Box)(ns:List Int)(bud:Int):Rat:=((zik bs ns).sum+((bud - (zaH bs ns).sum:Int):Rat)) / (wqs bs ns).sum
def zja:Sp:=λvs H Q _=>∃(l pl:Addr) (ts:List Addr) (bs:List Box) (ns:List Int) (bud:Int),vs=[.ref l,.int bud,.ref pl]∧BP H l pl ts bs ns∧(zaH bs ns).sum≤60∧Gn bs ns∧0≤bud∧bud≤60∧(Qat).sum≠0∧∀(r:Addr) (H':Hp),zaF H H'→H' r=some (.tup (fr (Qae)))→Q (QO) H'
def zfI(K:ψa):TS :=
 (zbg (zbS (zaA zrB [] E0 (zab (zac 0) (Qap))) (zam 3))
 (zbg (zbS (zb1 (zlG K (zab (zac 0) (Qap))) (Qm) za8 (zaA ziz [] E0 (QZ)) [none,none]) (zam 4))
 (zbg (zbS (zaA zm5 [] E0 (zab (zb1 (zlG K (zab (zac 3) (QaC))) (Qm) za8 (zaA zl1 [] E0 (QZ)) [none,none]) zau)) (zam 5))
 (zbg (zbS (tOp (QJ) (zac 1) (zaA zoO [] E0 (zab (zac 0) (Qap)))) (zam 6))
 (zbP (zaA zkF [] E0 (zab (zaA znx [] E0 (zab (zac 5) (zab (zfq (zab (zac 6) (zab (Qi) zau))) zau))) (zab (zaA zm5 [] E0 (Q3)) zau))))))))
theorem zj8{l pl:Addr}{ts:List Addr}{bs:List Box}{ns:List Int}{bud:Int}(B:BP H l pl ts bs ns)(cs:(zaH bs ns).sum≤60)(G:Gn bs ns)(d0:0≤bud)(d1:bud≤60)(ws:(Qat).sum≠0)(q:∀(r:Addr) (H':Hp),zaF H H'→H' r=some (.tup (fr (Qae)))→Q (QO) H') :
  zfI K { nx:=λ_ H'=>Q .non H',rt:=Q } (L2.start ["boxes","budget","counts","weights","chances","found","spare"] [.ref l,.int bud,.ref pl]) H:=by
 unfold zfI
 simp_all only [zac]
 refine⟨l,pl,ts,bs,ns,rfl,B,G,λwl us H1 s1 hw TW=>?_⟩
 have B1:=B.same s1
 simp_all only [zac]
 refine⟨⟨_,SqL.of B1.hl⟩,⟨_,SqL.of B1.hp⟩,λD hD=>?_⟩
 have l6:=B.l6
 have len:=B.len
 have lC:(zmq bs ns).length=bs.length:=by rw[zmq,ψk,len];omega
 have lW:(Qat).length=bs.length:=by rw[wqs,ψk,len];omega
 have lP:(zik bs ns).length=bs.length:=by rw[zik,ψk,lW,lC];omega
 refine zfZ (f:=fr) (qs:=zmq bs ns) B1.hl B1.hp (by rw[lC,ψb,ψb,B.hb.1,len];omega) (Qf) hD (λi x z w H3 R hx hz hv s3 k=>?_) λvs H' s hD' T=>?_
 ·obtain⟨a,ha,rfl⟩:=zas hx
  obtain⟨n,hn,rfl⟩:=zas hz
  obtain⟨b,hb1,hb2⟩:=B1.hb.at ha
  obtain⟨n0,n1⟩:=B1.gn n (zao hn)
  have e:=zin hb1 hn hv
  subst e
  simp_all only [zac]
  exact⟨a,b,n,rfl,s3 _ _ hb2,B1.gb b (zao hb1),n0,n1,k⟩
 simp_all only [zac]
 have hw1:=s _ _ hw
 have TW1:=TW.same s
 have n0:∀n∈ns,0≤n:=λn hn=>(B.gn n hn).1
 have mb:∀x∈ψn bs ns,GB x.1∧gnq x.1 x.2≠0:=λx hx=>by
  obtain⟨i,ei⟩:=ψp hx
  rw[ψO] at ei
  exact⟨B.gb _ (zao ei.1),G i _ _ ei.1 ei.2⟩
 have st:=zhq bs ns B.gb n0
 have zl:(QaA).length≤6:=by rw[List.length_zip];omega
 have pW:∀i:Nat,Bq 500 ((Qat).take i).sum:=λi=>by
  have h:=zl2 (j:=6) (k:=14) (f:=λx=>wq x.1 x.2) (QaA) (λx hx=>zl5 (mb x hx).1 (mb x hx).2) i
  rw[wqs,zgK]
  exact h.mono (Qf)
 have pP:∀i:Nat,Bq 900 ((zik bs ns).take i).sum:=λi=>by
  have h:=zl2 (j:=12) (k:=16) (f:=λx=>wq x.1 x.2*chq x.1 x.2) (QaA) (λx hx=>((zl5 (mb x hx).1 (mb x hx).2).mul2 (zoI (mb x hx).1 x.2)).mono (Qf)) i
  rw[zi9]
  exact h.mono (Qf)
 have bW:∀x∈wqs bs ns,Bq 420 x:=zgJ _ λi b n e1 e2=>zxZ (B.gb b (zao e1)) (B.gn n (zao e2)).2 (G i b n e1 e2)
 have bC:∀x∈zmq bs ns,Bq 401 x:=zgJ _ λi b n e1 e2=>zvj (B.gb b (zao e1)) (B.gn n (zao e2)).2
 have bP:∀x∈zik bs ns,Bq 900 x:=zgJ _ λi x y e1 e2=>((bW x (zao e1)).mul2 (bC y (zao e2))).mono (Qs)
 refine⟨⟨_,SqL.of hw1⟩,⟨_,SqL.of hD'⟩,λD2 hD2=>?_⟩
 refine zfZ (f:=fr) (qs:=zik bs ns) hw1 hD' (by rw[lP,ψb,ψb,TW1.1,T.1,lW,lC];omega) (Qf) hD2 (λi x z w H3 R hx hz hv s3 k=>?_) λrs H2 s2 hD2' TR=>?_
 ·obtain⟨a,ha,rfl⟩:=zas hx
  obtain⟨c,hc,rfl⟩:=zas hz
  obtain⟨f,ef,hf⟩:=TW1.at ha
  obtain⟨g,eg,hg⟩:=T.at hc
  have e:=zin ef eg hv
  subst e
  simp_all only [zac]
  exact⟨a,c,f,g,rfl,s3 _ _ hf,s3 _ _ hg,(bW f (zao ef)).mono (Qs),(bC g (zao eg)).mono (Qs),k⟩
 have hP:Bq 900 (zik bs ns).sum:=by
  have:=pP (zik bs ns).length
  rwa[ψC] at this
 have hW:Bq 500 (Qat).sum:=by
  have:=pW (Qat).length
  rwa[ψC] at this
 refine⟨D2,rs,_,rfl,hD2',TR,λi=>(pP i).mono (Qs),λx hx=>(bP x hx).mono (Qs),λfd H3 s3 h3=>?_⟩
 have S3:=s.trans (s2.trans s3)
 refine⟨l,pl,ts,bs,ns,rfl,B1.same S3,λH4 s4=>?_⟩
 simp_all only [zac]
 refine⟨by decide,λp np=>?_⟩
 have s5:=zan np (.tup [V.int (bud - (zaH bs ns).sum),V.int 1])
 have h5:(L2.upd H4 p (.tup [V.int (bud - (zaH bs ns).sum),V.int 1])) p=some (.tup [V.int (bud - (zaH bs ns).sum),V.int 1]):=zai
 generalize L2.upd H4 p (.tup [V.int (bud - (zaH bs ns).sum),V.int 1])=H5 at s5 h5 ⊢
 obtain⟨z1,z2⟩:=ziG bs ns B.gb B.gn
 have bS:Bq 20 ((bud - (zaH bs ns).sum:Int):Rat):=⟨by show(bud - (zaH bs ns).sum).natAbs<2 ^ 20;omega,by show(1:Nat)<2 ^ 20;decide⟩
 refine⟨fd,p,_,((bud - (zaH bs ns).sum:Int):Rat),rfl,s5 _ _ (s4 _ _ h3),h5,hP.mono (Qf),bS.mono (Qs),λr1 H6 s6 h6=>?_⟩
 have S6:=S3.trans (s4.trans (s5.trans s6))
 refine⟨wl,us,_,rfl,S6 _ _ hw,TW.same S6,λi=>(pW i).mono (Qs),λx hx=>(bW x hx).mono (Qs),λr2 H7 s7 h7=>?_⟩
 exact⟨r1,r2,_,_,rfl,s7 _ _ h6,h7,ws,(hP.add2 bS).mono (Qf),hW.mono (Qf),λr3 H8 s8 h8=>q r3 H8 (s1.trans (S6.trans (s7.trans s8))) h8⟩
theorem zdl:zay ["boxes","budget","counts","weights","chances","found","spare"] ["boxes","budget","counts"] (zag zdE):=(Qa)
theorem zke(T:Txt K mg a):zci P w K mg base CX0 5 a.faN a.daN ["boxes","budget","counts"] zja:=by
 have Gas:=zu7 (P:=P) (w:=w) (base:=base) T
 have GY:=zjb (P:=P) (w:=w) (base:=base) T
 have GZ:=zg6 (P:=P) (w:=w) (base:=base) T
 have Gal:=zfG (P:=P) (w:=w) (base:=base) T
 have GX:=zn7 (P:=P) (w:=w) (base:=base) T
 have Gac:=zrx (P:=P) (w:=w) (base:=base) T
 have Gav:=zuz (P:=P) (w:=w) (base:=base) T
 refine T.FaN.ok zdl (Qj) (Qe)
 all_goals obtain⟨l,pl,ts,bs,ns,bud,rfl,B,cs,G,d0,d1,ws,q⟩:=h
 ·rfl
 exact⟨zfI K,(zae (zaX (i:=3) zdl.nd rfl (Qh) (zak Gal (Qc) rfl T.mal T.Fal.kp T.bal .nil zaB (zaa (pv 0) (Qax))))
 (zae (zcy (i:=4) zdl.nd rfl rfl (sc:=zag zdE) (N:=["boxes","budget","counts","weights","chances","found","spare"]) (Nc:=["box","count"]) (cap:=[none,none]) rfl rfl rfl (Ql) (zec rfl T.z_zip (zaa (pv 0) (Qax))) (Qp) (QD) (λ_ _ _ _=>(zak GY (Qc) rfl T.mY T.FY.kp T.bY .nil zaB (Qad))))
 (zae (zaX (i:=5) zdl.nd rfl (Qh) (zak Gas (Qc) rfl T.mas T.Fas.kp T.bas .nil zaB (zaa (zbC (sc:=zag zdE) (N:=["boxes","budget","counts","weights","chances","found","spare"]) (Nc:=["weight","one"]) (cap:=[none,none]) rfl rfl rfl (Ql) (zec rfl T.z_zip (zaa (pv 3) (zaa (pv 4) zad))) (λ_ _ _ _=>(zbs rfl (zal (zaj (i:=0) (show ψh (["weight","one"]:List Str) from by decide) rfl (Qh)) (zal (zaj (i:=1) (show ψh (["weight","one"]:List Str) from by decide) rfl (Qh)) za6)))) (QD) (λ_ _ _ _=>(zak Gav (Qc) rfl T.mav T.Fav.kp T.bav .nil zaB (Qad)))) zad)))
 (zae (zaX (i:=6) zdl.nd rfl (Qh) (zaz zdy (pv 1) (zak GZ (Qc) rfl T.mZ T.FZ.kp T.bZ .nil zaB (zaa (pv 0) (Qax)))))
 (zah (zat (zak GX (Qc) rfl T.mX T.FX.kp T.bX .nil zaB (zaa (zak Gac (Qc) rfl T.mac T.Fac.kp T.bac .nil zaB (zaa (pv 5) (zaa (zbR (zaa (pv 6) (Q4))) zad))) (zaa (zak Gas (Qc) rfl T.mas T.Fas.kp T.bas .nil zaB (zaa (pv 3) zad)) zad))))))))),
  zj8 B cs G d0 d1 ws q⟩
theorem zsj{α:Type}(w ch c:α→Rat)(J:α→Bool)(V E:Rat):∀xs:List α,(∀x∈xs,J x=true→c x=w x*(E - ch x)) →
  (xs.map λx=>w x*(V - ch x)).sum - (xs.map λx=>if J x=true then c x else 0).sum=(xs.map λx=>if J x=true then 0 else w x*(E - ch x)).sum+(V - E)*(xs.map w).sum
 | [],_=>by
  simp only[ψm1,ψY]
  grind
 | x::xs,h=>by
  have ih:=zsj w ch c J V E xs λy hy=>h y (ψd _ hy)
  simp only[ψD,ψq]
  by_cases j:J x=true
  ·have hx:=h x ψe j
   simp only[j,if_true]
   rw[hx]
   grind
  ·simp only[j]
   grind
theorem zhP{α:Type}(f:α→Rat):∀xs:List α,(∀x∈xs,0≤f x)→0≤(xs.map f).sum
 | [],_=>ψF1
 | x::xs,h=>by
  have ih:=zhP f xs λy hy=>h y (ψd _ hy)
  have hx:=h x ψe
  simp only[ψD,ψq]
  grind
theorem zsK{α:Type}(f:α→Rat):∀xs:List α,xs≠[]→(∀x∈xs,0<f x)→0<(xs.map f).sum
 | [],n,_=>absurd rfl n
 | x::xs,_,h=>by
  have ih:=zhP f xs λy hy=>ψB (h y (ψd _ hy))
  have hx:=h x ψe
  simp only[ψD,ψq]
  grind
theorem zry{α:Type}{w ch c:α→Rat}{J:α→Bool}{V E S:Rat}{xs:List α}(ne:xs≠[])(w0:∀x∈xs,0<w x)(hc:∀x∈xs,J x=true→c x=w x*(E - ch x))(lo:∀x∈xs,ch x≤E)(ve:E<V)(hS:(xs.map λx=>w x*(V - ch x)).sum=S) :
  (xs.map λx=>if J x=true then 0 else w x*(E - ch x)).sum<S - (xs.map λx=>if J x=true then c x else 0).sum∧0<S - (xs.map λx=>if J x=true then c x else 0).sum:=by
 have id:=zsj w ch c J V E xs hc
 rw[hS] at id
 have wp:=zsK w xs ne w0
 have vp:0<V - E:=by grind
 have m:=ψB1 vp wp
 have nn:=zhP (λx=>if J x=true then 0 else w x*(E - ch x)) xs λx hx=>by
  have h1:0≤E - ch x:=by have:=lo x hx;grind
  have h2:=ψn1 (ψB (w0 x hx)) h1
  show 0≤(if J x=true then 0 else w x*(E - ch x))
  split
  ·exact ψF1
  ·exact h2
 constructor <;> grind
theorem zka{α:Type}(w ch:α→Rat)(V:Rat):∀xs:List α,(xs.map λx=>w x*(V - ch x)).sum=V*(xs.map w).sum - (xs.map λx=>w x*ch x).sum
 | []=>by
  simp only[ψm1,ψY]
  grind
 | x::xs=>by
  have ih:=zka w ch V xs
  simp only[ψD,ψq]
  grind
theorem ziv{bs:List Box}{ns:List Int}{bud:Int}(ws:(Qat).sum≠0):((QaA).map λx=>wq x.1 x.2*(zdZ bs ns bud - chq x.1 x.2)).sum=((bud - (zaH bs ns).sum:Int):Rat):=by
 rw[zka (λx:Box×Int=>wq x.1 x.2) (λx=>chq x.1 x.2)]
 have e1:((QaA).map λx=>wq x.1 x.2).sum=(wqs bs ns).sum:=by rw[wqs,zgK]
 rw[e1,← zi9]
 unfold zdZ
 generalize (Qat).sum=W at ws ⊢
 grind
theorem zxM{b:Box}(g:GB b){n:Int}(n0:0≤n)(gn:gnq b n≠0):wq b n*(chq b (n+1) - chq b n)=(b.1:Rat):=by
 have e:chq b (n+1) - chq b n=gnq b n:=by
  rw[zfm g,zfm g,zfu g,show(n+1).toNat=n.toNat+1 by omega,ψk1]
  grind
 rw[e]
 unfold wq
 grind
def nxt(E:Rat)(bs:List Box)(ns:List Int):List Int:=ψf (λb n=>if chq b (n+1)=E then n+1 else n) bs ns
theorem zm1(E:Rat):∀(bs:List Box) (ns:List Int),ψn bs (nxt E bs ns)=(ψn bs ns).map λx=>(x.1,if chq x.1 (x.2+1)=E then x.2+1 else x.2)
 | [],_=>by simp[nxt]
 | _::_,[]=>by simp[nxt]
 | b::bs,n::ns=>by
  show ψn (b::bs) ((if chq b (n+1)=E then n+1 else n)::nxt E bs ns)=_
  rw[ψI1,ψI1,ψD,zm1 E bs ns]
theorem zoj(E:Rat):∀(bs:List Box) (ns:List Int),(((zaH bs (nxt E bs ns)).sum:Int):Rat)=(((zaH bs ns).sum:Int):Rat)+((QaA).map λx=>if decide (chq x.1 (x.2+1)=E)=true then (x.1.1:Rat) else 0).sum
 | [],_=>by
  simp only[zaH,nxt,ψl1,List.zip_nil_left,ψm1,ψY]
  grind
 | b::bs,[]=>by
  simp only[zaH,nxt,ψZ1,List.zip_nil_right,ψm1,ψY]
  grind
 | b::bs,n::ns=>by
  have ih:=zoj E bs ns
  show(((b.1*(if chq b (n+1)=E then n+1 else n)+(zaH bs (nxt E bs ns)).sum:Int)):Rat)=((b.1*n+(zaH bs ns).sum:Int):Rat)+((if decide (chq b (n+1)=E)=true then (b.1:Rat) else 0)+((QaA).map λx=>if decide (chq x.1 (x.2+1)=E)=true then (x.1.1:Rat) else 0).sum)
  rw[ψT,ψT,ih,ψm,ψm]
  by_cases c:chq b (n+1)=E
  ·rw[if_pos c,if_pos (decide_eq_true c),ψT]
   grind
  ·rw[if_neg c,if_neg (by simpa using c)]
   grind
theorem zlv{b:Box}(g:GB b){n:Int}(gn:gnq b n≠0):0<wq b n:=by
 obtain⟨p0,p1,_⟩:=zju g
 have c0:(0:Rat)<(b.1:Rat):=by exact_mod_cast (show(0:Int)<b.1 by have:=g.1;omega)
 have g0:0≤gnq b n:=by
  rw[zfu g]
  exact ψn1 (zb9 (ψB p0) p1 _).2.1 (ψB p0)
 have gp:0<gnq b n:=by grind
 unfold wq
 rw[ψY1]
 exact ψB1 c0 (Rat.inv_pos.mpr gp)
theorem zpo{bs:List Box}{ns:List Int}{bud:Int}{E:Rat}(gb:∀b∈bs,GB b)(n0:∀n∈ns,0≤n)(G:Gn bs ns)(ne:ψn bs ns≠[])(lo:∀x∈ψn bs ns,chq x.1 x.2≤E)(ws:(Qat).sum≠0)(ve:E<zdZ bs ns bud) :
  ((ψn bs (nxt E bs ns)).map λx=>wq x.1 x.2*(E - chq x.1 x.2)).sum<((bud - (zaH bs (nxt E bs ns)).sum:Int):Rat)∧(zaH bs (nxt E bs ns)).sum<bud:=by
 have mb:∀x∈ψn bs ns,GB x.1∧0≤x.2∧gnq x.1 x.2≠0:=λx hx=>by
  obtain⟨i,ei⟩:=ψp hx
  rw[ψO] at ei
  exact⟨gb _ (zao ei.1),n0 _ (zao ei.2),G i _ _ ei.1 ei.2⟩
 have h:=zry (w:=λx:Box×Int=>wq x.1 x.2) (ch:=λx=>chq x.1 x.2) (c:=λx=>(x.1.1:Rat)) (J:=λx=>decide (chq x.1 (x.2+1)=E)) ne (λx hx=>zlv (mb x hx).1 (mb x hx).2.2) (λx hx j=>?_) lo ve (ziv ws)
 ·have e1:((bud - (zaH bs (nxt E bs ns)).sum:Int):Rat)=((bud - (zaH bs ns).sum:Int):Rat) - ((QaA).map λx=>if decide (chq x.1 (x.2+1)=E)=true then (x.1.1:Rat) else 0).sum:=by
   rw[ψU1,ψU1,zoj]
   grind
  rw[← e1] at h
  refine⟨?_,?_⟩
  ·refine(congrArg (λz=>z<((bud - (zaH bs (nxt E bs ns)).sum:Int):Rat)) ?_).mpr h.1
   rw[zm1,List.map_map]
   congr 1
   refine List.map_congr_left λx _=>?_
   show wq x.1 (if chq x.1 (x.2+1)=E then x.2+1 else x.2)*(E - chq x.1 (if chq x.1 (x.2+1)=E then x.2+1 else x.2))=if decide (chq x.1 (x.2+1)=E)=true then 0 else wq x.1 x.2*(E - chq x.1 x.2)
   by_cases c:chq x.1 (x.2+1)=E
   ·rw[if_pos c,if_pos (decide_eq_true c),c]
    grind
   ·rw[if_neg c,if_neg (by simpa using c)]
  ·have h2:=h.2
   have:(0:Int)<bud - (zaH bs (nxt E bs ns)).sum:=by exact_mod_cast h2
   omega
 ·have e:=of_decide_eq_true j
  obtain⟨g1,g2,g3⟩:=mb x hx
  show(x.1.1:Rat)=wq x.1 x.2*(E - chq x.1 x.2)
  rw[← zxM g1 g2 g3,e]
theorem zyG{b:Box}(g:GB b)(h:pr b=1):b.2.1=b.2.2:=by
 have on:(b.2.2:Rat)≠0:=λz=>by
  have:b.2.2=0:=by exact_mod_cast z
  obtain⟨g1,g2,g3,g4,g5⟩:=g
  omega
 have e:pr b=(b.2.1:Rat) / (b.2.2:Rat):=ψl ..
 rw[e] at h
 have:(b.2.1:Rat)=(b.2.2:Rat):=by grind
 exact_mod_cast this
theorem zmm{b:Box}(g:GB b)(h:pr b=1){n:Int}(n0:0≤n)(gn:gnq b n≠0):n=0:=by
 rw[zfu g,h] at gn
 rcases Nat.eq_zero_or_pos n.toNat with z | z
 ·omega
 ·exfalso
  apply gn
  obtain⟨k,hk⟩:∃k,n.toNat=k+1:=⟨n.toNat - 1,by omega⟩
  rw[hk,ψk1]
  grind
theorem zor(V:Rat):∀(bs:List Box) (ns:List Int),ns.length=bs.length→((QaA).map λx=>(x.1.1:Rat)*V).sum=V*(((bs.map λb=>b.1).sum:Int):Rat)
 | [],_,_=>by
  simp only[List.zip_nil_left,ψm1,ψY]
  grind
 | _::_,[],h=>by cases h
 | b::bs,n::ns,h=>by
  have ih:=zor V bs ns (Nat.succ.inj h)
  rw[ψI1,ψD,ψq,ψD,ψq,ψT,ih]
  grind
theorem zhU:∀(bs:List Box) (ns:List Int),(∀n∈ns,n=0)→(zaH bs ns).sum=0
 | [],_,_=>by simp[zaH]
 | _::_,[],_=>by simp[zaH]
 | b::bs,n::ns,h=>by
  have ih:=zhU bs ns λx hx=>h x (ψd _ hx)
  show b.1*n+(zaH bs ns).sum=0
  rw[ih,h n ψe,Int.mul_zero]
  rfl
theorem zoS:∀(bs:List Box),(QaD)→bs≠[]→0<(bs.map λb=>b.1).sum
 | [],_,n=>absurd rfl n
 | [b],h,_=>by
  have:=(h b ψe).1
  simp only[ψD,ψm1,ψq,ψY]
  omega
 | b::c::bs,h,_=>by
  have ih:=zoS (c::bs) (λx hx=>h x (ψd _ hx)) (by simp)
  have:=(h b ψe).1
  rw[ψD,ψq]
  omega
theorem zy8{bs:List Box}{ns:List Int}{bud:Int}{E:Rat}(len:ns.length=bs.length)(gb:∀b∈bs,GB b)(n0:∀n∈ns,0≤n)(G:Gn bs ns)(ws:(Qat).sum≠0)(ve:E<zdZ bs ns bud)(mn:∀x∈ψn bs ns,E≤chq x.1 (x.2+1))
  (hs:(Qaz)→bud<(bs.map λb=>b.1).sum):Gn bs (nxt E bs ns):=by
 intro i b m hb hm
 rw[nxt,ψZ,hb] at hm
 cases hn:ns[i]? with
 | none=>rw[hn] at hm;cases hm
 | some n =>
  rw[hn] at hm
  replace hm:(if chq b (n+1)=E then n+1 else n)=m:=Option.some.inj hm
  have g:=gb b (zao hb)
  have gn:=G i b n hb hn
  have hn0:=n0 n (zao hn)
  by_cases c:chq b (n+1)=E
  ·rw[if_pos c] at hm
   subst hm
   obtain⟨p0,p1,_⟩:=zju g
   by_cases s:pr b=1
   ·exfalso
    have z:=zmm g s hn0 gn
    subst z
    have eE:E=1:=by
     rw[← c,zfm g,s]
     show(1:Rat) - (1 - 1) ^ 1=1
     rw[ψk1,ψq1]
     grind
    have all:∀x∈ψn bs ns,pr x.1=1∧x.2=0∧GB x.1:=λx hx=>by
     have hm:=mn x hx
     obtain⟨k,ek⟩:=ψp hx
     rw[ψO] at ek
     have gx:=gb x.1 (zao ek.1)
     obtain⟨q0,q1,_⟩:=zju gx
     have hx0:=n0 x.2 (zao ek.2)
     rw[eE,zfm gx] at hm
     have px:pr x.1=1:=by
      refine ψI λne=>?_
      have h1:(1 - pr x.1)≠0:=by grind
      have h2:=znR h1 (x.2+1).toNat
      have h3:=(zb9 (ψB q0) q1 (x.2+1).toNat).2.1
      grind
     exact⟨px,zmm gx px hx0 (G k _ _ ek.1 ek.2),gx⟩
    have sure:∀b∈bs,b.2.1=b.2.2:=λb' hb'=>by
     obtain⟨k,ek⟩:=ψp hb'
     have lk:=(List.getElem?_eq_some_iff.mp ek).1
     have en:ns[k]?=some ns[k]:=ψc (Qf)
     have hz:(b',ns[k])∈ψn bs ns:=ψN (List.getElem?_zip_eq_some.mpr ⟨ek,en⟩)
     exact zyG (gb b' hb') (all _ hz).1
    have hlt:=hs sure
    have W:=ziv (bud:=bud) ws
    have zs:∀n∈ns,n=0:=λn' hn'=>by
     obtain⟨k,ek⟩:=ψp hn'
     have lk:=(List.getElem?_eq_some_iff.mp ek).1
     have eb:bs[k]?=some bs[k]:=ψc (Qf)
     have hz:(bs[k],n')∈ψn bs ns:=ψN (List.getElem?_zip_eq_some.mpr ⟨eb,ek⟩)
     exact(all _ hz).2.1
    rw[zhU bs ns zs] at W
    have e1:((QaA).map λx=>wq x.1 x.2*(zdZ bs ns bud - chq x.1 x.2))=(ψn bs ns).map λx=>(x.1.1:Rat)*zdZ bs ns bud:=by
     refine List.map_congr_left λx hx=>?_
     obtain⟨a1,a2,a3⟩:=all x hx
     rw[a2]
     unfold wq
     rw[zfu a3,zfm a3,a1]
     show(x.1.1:Rat) / ((1 - 1) ^ 0*1)*(zdZ bs ns bud - (1 - (1 - 1) ^ 0))=_
     rw[ψq1]
     grind
    rw[e1,zor _ _ _ len] at W
    have C0:=zoS bs gb (λz=>by rw[z] at hb;cases hb)
    have C1:(0:Rat)<(((bs.map λb=>b.1).sum:Int):Rat):=by exact_mod_cast C0
    have C2:((bud - 0:Int):Rat)<(((bs.map λb=>b.1).sum:Int):Rat):=by
     rw[Int.sub_zero]
     exact_mod_cast hlt
    rw[eE] at ve
    have m:=Rat.mul_lt_mul_of_pos_right ve C1
    grind
   ·rw[zfu g]
    have h1:(1 - pr b)≠0:=by grind
    have h2:=znR h1 (n+1).toNat
    grind
  ·rw[if_neg c] at hm
   subst hm
   exact gn
theorem zoB{b:Box}(g:GB b){n:Int}(n0:0≤n):chq b n≤chq b (n+1):=by
 obtain⟨p0,p1,_⟩:=zju g
 have h:=(zb9 (ψB p0) p1 n.toNat).2.1
 have m:=ψn1 h (ψB p0)
 rw[zfm g,zfm g,show(n+1).toNat=n.toNat+1 by omega,ψk1]
 grind
theorem zkr{b:Box}(g:GB b):chq b 0=0:=by
 rw[zfm g]
 show(1:Rat) - (1 - pr b) ^ 0=0
 rw[ψq1]
 grind
def Mid(bs:List Box)(ns:List Int)(t:Rat):Prop:=∀x∈ψn bs ns,chq x.1 x.2≤t∧t≤chq x.1 (x.2+1)
theorem zjg:∀(bs:List Box) (ns:List Int),(QaD)→(∀n∈ns,0≤n)→ns.length=bs.length→0≤(zaH bs ns).sum∧∀n∈ns,n≤(zaH bs ns).sum
 | [],[],_,_,_=>by simp[zaH]
 | [],_::_,_,_,h=>by cases h
 | _::_,[],_,_,h=>by cases h
 | b::bs,n::ns,gb,n0,h=>by
  obtain⟨z1,z2⟩:=zjg bs ns (λx hx=>gb x (ψd _ hx)) (λx hx=>n0 x (ψd _ hx)) (Nat.succ.inj h)
  obtain⟨g1,_⟩:=gb b ψe
  have hn:=n0 n ψe
  have m1:1*n≤b.1*n:=ψW1 g1 hn
  rw[Int.one_mul] at m1
  refine⟨?_,λm hm=>?_⟩
  ·show 0≤b.1*n+(zaH bs ns).sum
   omega
  ·show m≤b.1*n+(zaH bs ns).sum
   rcases List.mem_cons.mp hm with rfl | hm
   ·omega
   ·have:=z2 m hm
    omega
theorem zoC(E:Rat):∀(bs:List Box) (ns:List Int),(QaD)→(zaH bs ns).sum≤(zaH bs (nxt E bs ns)).sum∧((∃x∈ψn bs ns,chq x.1 (x.2+1)=E)→(zaH bs ns).sum<(zaH bs (nxt E bs ns)).sum)
 | [],_,_=>by simp[zaH]
 | b::bs,[],_=>by simp[zaH,nxt]
 | b::bs,n::ns,gb=>by
  obtain⟨z1,z2⟩:=zoC E bs ns (λx hx=>gb x (ψd _ hx))
  obtain⟨g1,_⟩:=gb b ψe
  have e:(zaH (b::bs) (nxt E (b::bs) (n::ns))).sum=b.1*(if chq b (n+1)=E then n+1 else n)+(zaH bs (nxt E bs ns)).sum:=rfl
  have e2:(zaH (b::bs) (n::ns)).sum=b.1*n+(zaH bs ns).sum:=rfl
  rw[e,e2]
  by_cases c:chq b (n+1)=E
  ·rw[if_pos c,Int.mul_add,ψX1]
   exact⟨by omega,λ_=>by omega⟩
  ·rw[if_neg c]
   refine⟨by omega,λhQ'=>?_⟩
   obtain⟨x,hx,ex⟩:=hQ'
   rw[ψI1] at hx
   rcases List.mem_cons.mp hx with rfl | hx
   ·exact absurd ex c
   ·have:=z2 ⟨x,hx,ex⟩
    omega
theorem znf(E:Rat)(bs:List Box)(ns:List Int)(h:ns.length=bs.length):(nxt E bs ns).length=bs.length:=by rw[nxt,ψk];omega
theorem zvH(E:Rat)(bs:List Box)(ns:List Int)(h:∀n∈ns,0≤n):∀n∈nxt E bs ns,0≤n:=λm hm=>by
 obtain⟨i,ei⟩:=ψp hm
 rw[nxt,ψZ] at ei
 cases e1:bs[i]? with
 | none=>rw[e1] at ei;cases ei
 | some b =>
  cases e2:ns[i]? with
  | none=>rw[e1,e2] at ei;cases ei
  | some n =>
   rw[e1,e2] at ei
   have:=h n (zao e2)
   replace ei:(if chq b (n+1)=E then n+1 else n)=m:=Option.some.inj ei
   rw[← ei]
   split <;> omega
theorem zxo{bs:List Box}{ns:List Int}{t E:Rat}(gb:∀b∈bs,GB b)(n0:∀n∈ns,0≤n)(M:Mid bs ns t)(te:t≤E)(mn:∀x∈ψn bs ns,E≤chq x.1 (x.2+1)):Mid bs (nxt E bs ns) E:=by
 intro y hy
 rw[zm1] at hy
 obtain⟨x,hx,rfl⟩:=List.mem_map.mp hy
 obtain⟨i,ei⟩:=ψp hx
 rw[ψO] at ei
 have g:=gb x.1 (zao ei.1)
 have h0:=n0 x.2 (zao ei.2)
 obtain⟨m1,m2⟩:=M x hx
 have m3:=mn x hx
 show chq x.1 (if chq x.1 (x.2+1)=E then x.2+1 else x.2)≤E∧E≤chq x.1 ((if chq x.1 (x.2+1)=E then x.2+1 else x.2)+1)
 by_cases c:chq x.1 (x.2+1)=E
 ·rw[if_pos c]
  refine⟨by rw[c];exact ψF1,?_⟩
  have:=zoB g (n:=x.2+1) (Qf)
  rw[c] at this
  exact this
 ·rw[if_neg c]
  exact⟨Rat.le_trans m1 te,m3⟩
theorem zg7{bs:List Box}{ns:List Int}(gb:∀b∈bs,GB b)(G:Gn bs ns)(ne:ψn bs ns≠[]):0<(wqs bs ns).sum:=by
 rw[wqs,zgK]
 refine zsK (λx:Box×Int=>wq x.1 x.2) _ ne λx hx=>?_
 obtain⟨i,ei⟩:=ψp hx
 rw[ψO] at ei
 exact zlv (gb _ (zao ei.1)) (G i _ _ ei.1 ei.2)
theorem zox{bs:List Box}{ns:List Int}{bud:Int}{t:Rat}(W:0<(wqs bs ns).sum)(h:((QaA).map λx=>wq x.1 x.2*(t - chq x.1 x.2)).sum≤((bud - (zaH bs ns).sum:Int):Rat)):t≤zdZ bs ns bud:=by
 have w:=ziv (bud:=bud) (bs:=bs) (ns:=ns) (by grind)
 rw[← w,zka (λx:Box×Int=>wq x.1 x.2) (λx=>chq x.1 x.2),zka (λx:Box×Int=>wq x.1 x.2) (λx=>chq x.1 x.2)] at h
 have e1:((QaA).map λx=>wq x.1 x.2).sum=(wqs bs ns).sum:=by rw[wqs,zgK]
 rw[e1] at h
 refine ψI λc=>?_
 have c':zdZ bs ns bud<t:=Rat.not_le.mp c
 have m:=Rat.mul_lt_mul_of_pos_right c' W
 grind
structure Lev (bs:List Box) (ns:List Int) (bud:Int) (t:Rat):Prop where
 len:ns.length=bs.length
 n0:∀n∈ns,0≤n
 n59:∀n∈ns,n≤59
 gn:Gn bs ns
 mid:Mid bs ns t
 tw:t≤zdZ bs ns bud
 cb:(zaH bs ns).sum≤bud
theorem ziM{bs:List Box}{ns:List Int}(l1:1≤bs.length)(h:ns.length=bs.length):ψn bs ns≠[]:=λz=>by
 have:=congrArg List.length z
 rw[List.length_zip,List.length_nil] at this
 omega
theorem Lev.zero{bs:List Box}{bud:Int}(gb:∀b∈bs,GB b)(l1:1≤bs.length)(d0:0≤bud):Lev bs (bs.map λ_=>0) bud 0:=by
 have len:(bs.map λ_=>(0:Int)).length=bs.length:=ψb ..
 have z:∀n∈(bs.map λ_=>(0:Int)),n=0:=λn hn=>by
  obtain⟨_,_,e⟩:=List.mem_map.mp hn
  exact e.symm
 have gn:Gn bs (bs.map λ_=>(0:Int)):=λi b n e1 e2=>by
  have:=z n (zao e2)
  subst this
  have g:=gb b (zao e1)
  rw[zfu g]
  have:=(zju g).1
  show(1 - pr b) ^ 0*pr b≠0
  rw[ψq1]
  grind
 have cz:=zhU bs _ z
 have zz:∀x∈ψn bs (bs.map λ_=>(0:Int)),GB x.1∧x.2=0:=λx hx=>by
  obtain⟨i,ei⟩:=ψp hx
  rw[ψO] at ei
  exact⟨gb _ (zao ei.1),z _ (zao ei.2)⟩
 refine⟨len,λn hn=>by rw[z n hn];decide,λn hn=>by rw[z n hn];decide,gn,λx hx=>?_,zox (zg7 gb gn (ziM l1 len)) ?_,by omega⟩
 ·obtain⟨g,e⟩:=zz x hx
  rw[e,zkr g]
  refine⟨ψF1,?_⟩
  have:=zoB g (n:=0) (Qs)
  rw[zkr g] at this
  exact this
 ·have e:((ψn bs (bs.map λ_=>(0:Int))).map λx=>wq x.1 x.2*(0 - chq x.1 x.2)).sum=0:=by
   rw[show((ψn bs (bs.map λ_=>(0:Int))).map λx=>wq x.1 x.2*(0 - chq x.1 x.2))=(ψn bs (bs.map λ_=>(0:Int))).map λ_=>(0:Rat) from List.map_congr_left λx hx=>by
    obtain⟨g,e⟩:=zz x hx
    rw[e,zkr g]
    grind]
   generalize ψn bs (bs.map λ_=>(0:Int))=l
   induction l with
   | nil=>rfl
   | cons x l ih =>
    rw[ψD,ψq,ih]
    grind
  rw[e,cz]
  exact_mod_cast (show(0:Int)≤bud - 0 by omega)
theorem Lev.step{bs:List Box}{ns:List Int}{bud:Int}{t E:Rat}(L:Lev bs ns bud t)(gb:∀b∈bs,GB b)(l1:1≤bs.length)(d1:bud≤60)(hs:(Qaz)→bud<(bs.map λb=>b.1).sum)
  (mn:∀x∈ψn bs ns,E≤chq x.1 (x.2+1)) (me:∃x∈ψn bs ns,chq x.1 (x.2+1)=E) (ve:E<zdZ bs ns bud) :
  Lev bs (nxt E bs ns) bud E∧(bud - (zaH bs (nxt E bs ns)).sum).toNat<(bud - (zaH bs ns).sum).toNat:=by
 have ne:=ziM l1 L.len
 have W:=zg7 gb L.gn ne
 have te:t≤E:=by
  obtain⟨x,hx,ex⟩:=me
  rw[← ex]
  exact(L.mid x hx).2
 obtain⟨t1,t2⟩:=zpo (bud:=bud) gb L.n0 L.gn ne (λx hx=>Rat.le_trans (L.mid x hx).1 te) (by grind) ve
 have gn:=zy8 L.len gb L.n0 L.gn (by grind) ve mn hs
 have len:=znf E bs ns L.len
 have n0:=zvH E bs ns L.n0
 have ce:=zjg bs _ gb n0 len
 have mo:=(zoC E bs ns gb).2 me
 refine⟨⟨len,n0,λn hn=>?_,gn,zxo gb L.n0 L.mid te mn,zox (zg7 gb gn (ziM l1 len)) (ψB t1),by omega⟩,by omega⟩
 have:=ce.2 n hn
 omega
def zsW(vs:List V):List Int:=vs.map λv=>match v with | .int n=>n | _=>0
theorem zpv(ns:List Int):zsW (ns.map V.int)=ns:=by
 unfold zsW
 rw[List.map_map]
 exact List.map_id ns
def zrZ(bs:List Box)(bud:Int):St→Hp→Nat:=λσ H=>match σ with
 | _::_::some (.ref p)::_=>(match H p with | some (.lst vs)=>(bud - (zaH bs (zsW vs)).sum).toNat | _=>0)
 | _=>0
theorem zmn{bs:List Box}{bud:Int}{x y:Option V}{p:Addr}{r:St}{H:Hp}{ns:List Int}(h:H p=some (QH)):zrZ bs bud (x::y::some (.ref p)::r) H=(bud - (zaH bs ns).sum).toNat:=by
 unfold zrZ
 simp only[h,zpv]
theorem zu8(u v:Rat):[u.num,(u.den:Int)]=[v.num,(v.den:Int)]↔u=v:=by
 refine⟨λh=>?_,λh=>by rw[h]⟩
 simp only[List.cons.injEq,and_true] at h
 exact Rat.ext h.1 (Int.ofNat.inj h.2)
theorem zqk{bs:List Box}{ns:List Int}{bud:Int}{t:Rat}(L:Lev bs ns bud t)(gb:∀b∈bs,GB b)(l1:1≤bs.length)(l6:bs.length≤6)(d1:bud≤60):Bq 1300 (zdZ bs ns bud):=by
 have W:=zg7 gb L.gn (ziM l1 L.len)
 have st:=zhq bs ns gb L.n0
 have cb:=L.cb
 have ce:=(zjg bs ns gb L.n0 L.len).1
 have zl:(QaA).length≤6:=by rw[List.length_zip];omega
 have mb:∀x∈ψn bs ns,GB x.1∧gnq x.1 x.2≠0:=λx hx=>by
  obtain⟨i,ei⟩:=ψp hx
  rw[ψO] at ei
  exact⟨gb _ (zao ei.1),L.gn i _ _ ei.1 ei.2⟩
 have h1:=zkP (j:=12) (k:=16) (f:=λx=>wq x.1 x.2*chq x.1 x.2) (QaA) λx hx=>((zl5 (mb x hx).1 (mb x hx).2).mul2 (zoI (mb x hx).1 x.2)).mono (Qf)
 have h2:=zkP (j:=6) (k:=14) (f:=λx=>wq x.1 x.2) (QaA) λx hx=>zl5 (mb x hx).1 (mb x hx).2
 have e1:((QaA).map λx=>wq x.1 x.2).sum=(wqs bs ns).sum:=by rw[wqs,zgK]
 rw[← zi9] at h1
 rw[e1] at h2
 have bS:Bq 20 ((bud - (zaH bs ns).sum:Int):Rat):=⟨by show(bud - (zaH bs ns).sum).natAbs<2 ^ 20;omega,by show(1:Nat)<2 ^ 20;decide⟩
 have h3:=(h1.add2 bS).div2 h2 (by grind)
 exact h3.mono (Qf)
def zxG(b:Box)(n:Int):Rat:=chq b (n+1)
def Lst(bs:List Box)(ns:List Int)(E:Rat):Prop:=E∈ψf zxG bs ns∧∀x∈ψf zxG bs ns,E≤x
theorem Lst.det{bs:List Box}{ns:List Int}{E E':Rat}(h:Lst bs ns E)(h':Lst bs ns E'):E=E':=Rat.le_antisymm (h.2 _ h'.1) (h'.2 _ h.1)
inductive Rch (bs:List Box) (bud:Int):Nat→List Int→Prop where
 | z:Rch bs bud 0 (bs.map λ_=>(0:Int))
 | s {k:Nat} {ns:List Int} {E:Rat} (r:Rch bs bud k ns) (l:Lst bs ns E) (v:E<zdZ bs ns bud):Rch bs bud (k+1) (nxt E bs ns)
theorem Rch.det{bs:List Box}{bud:Int}:∀{k:Nat} {ns ns':List Int},Rch bs bud k ns→Rch bs bud k ns'→ns=ns'
 | _,_,_,.z,.z=>rfl
 | _,_,_,.s r l v,.s r' l' v'=>by
  have e:=r.det r'
  subst e
  rw[l.det l']
theorem Rch.less{bs:List Box}{bud:Int}{k:Nat}{ns:List Int}(h:Rch bs bud k ns):∀j,j<k→∃ms E,Rch bs bud j ms∧Lst bs ms E∧E<zdZ bs ms bud:=by
 induction h with
 | z=>exact λj hj=>absurd hj (Qf)
 | @s k ns E r l v ih =>
  intro j hj
  by_cases c:j=k
  ·subst c
   exact⟨ns,E,r,l,v⟩
  ·exact ih j (Qf)
def zpO(bs:List Box)(bud:Int)(ns:List Int):Prop:=∃(k:Nat) (E:Rat),Rch bs bud k ns∧Lst bs ns E∧¬ E<zdZ bs ns bud
theorem zpO.det{bs:List Box}{bud:Int}{ns ns':List Int}(h:zpO bs bud ns)(h':zpO bs bud ns'):ns=ns':=by
 obtain⟨k,E,r,l,v⟩:=h
 obtain⟨k',E',r',l',v'⟩:=h'
 have key:∀{i j:Nat} {a b:List Int} {F:Rat},Rch bs bud i a→Lst bs a F→¬ F<zdZ bs a bud→Rch bs bud j b→¬ i<j:=fun {i j a b F} ra la va rb c=>by
  obtain⟨ms,G,rm,lm,vm⟩:=rb.less i c
  have e:=ra.det rm
  subst e
  rw[la.det lm] at va
  exact va vm
 have e:k=k':=by
  have:=key r l v r'
  have:=key r' l' v' r
  omega
 subst e
 exact r.det r'
def zoY:Sp:=λvs H Q _=>∃(l:Addr) (ts:List Addr) (bs:List Box) (bud:Int),vs=[.ref l,.int bud]∧H l=some (QG)∧Tps bx H ts bs∧(QaD)∧1≤bs.length∧bs.length≤6∧0≤bud∧bud≤60∧((Qaz)→bud<(bs.map λb=>b.1).sum) ∧
 ∀(r pl wr:Addr) (ns:List Int) (H':Hp),zaF H H'→H' r=some (.tup [.ref pl,.ref wr])→BP H' l pl ts bs ns→zpO bs bud ns→Lev bs ns bud (Qae)→H' wr=some (.tup (fr (Qae)))→Q (QO) H'
def zdV(K:ψa):TS :=
 (zbS (zb1 (zlG K (zab (zac 2) (QaC))) (Qm) za8 (tIf (zbZ (tOp (rEqT K) (zac 1) (zac 2))) (tOp (QM) (zac 0) (Qi)) (zac 0)) [none,none,some 5]) (zam 2))
def zbt(K:ψa):=eqT (zdV.eq_1 K)
def zdW(K:ψa):TS :=
 (zbg (zbS (zaA zja [] E0 (zab (zac 0) (zab (zac 1) (Qap)))) (zam 3))
 (zbg (zbS (zb1 (zlG K (zab (zac 0) (Qap))) (Qm) za8 (zaA ziz [] E0 (zab (zac 0) (zab (tOp (QM) (zac 1) (Qi)) zau))) [none,none]) (zam 4))
 (zbg (zbS (zaA zo8 [] E0 (QaC)) (zam 5))
 (zbg (zeK (zdI (zeM (tB (zaA zld [] E0 (zab (zac 5) (Q3))))) (zbP (zfq (zab (zac 2) (Q3)))) zbU))
 (zdV K)))))
def zbw(K:ψa):=eqT (zdW.eq_1 K)
def zdk(K:ψa):TS :=
 (zbg (zbS (zb1 (QaH) (zam 0) za8 (Qn) [none]) (zam 2))
 (zjK (tB (tC (.bl true))) (zdW K)))
theorem zgX{l:Addr}{ts:List Addr}{bs:List Box}{bud:Int}(hl:H l=some (QG))(T:Tps bx H ts bs)(gb:∀b∈bs,GB b)(l1:1≤bs.length)(l6:bs.length≤6)(d0:0≤bud)(d1:bud≤60)(hs:(Qaz)→bud<(bs.map λb=>b.1).sum)
  (q:∀(r pl wr:Addr) (ns:List Int) (H':Hp),zaF H H'→H' r=some (.tup [.ref pl,.ref wr])→BP H' l pl ts bs ns→zpO bs bud ns→Lev bs ns bud (Qae)→H' wr=some (.tup (fr (Qae)))→Q (QO) H') :
  zdk K { nx:=λ_ H'=>Q .non H',rt:=Q } (L2.start ["boxes","budget","counts","worth","ends","end"] [.ref l,.int bud]) H:=by
 unfold zdk
 simp_all only [zbt,zbw,zac]
 refine⟨⟨_,SqL.of hl⟩,λD hD=>?_⟩
 refine zdd (vs:=(bs.map λ_=>(0:Int)).map V.int) hl (by simp[T.1]) (by simp;omega) hD (λi x v H' R _ hv s k=>?_) λH1 s1 h1=>?_
 ·obtain⟨n,en,rfl⟩:=zas hv
  obtain⟨_,_,rfl⟩:=zas en
  exact k _ (.refl _)
 refine ziB (λσ H'=>zaF H H'∧∃(pl:Addr) (ns:List Int) (k:Nat) (t:Rat) (x y z:Option V),H' pl=some (QH)∧Rch bs bud k ns∧Lev bs ns bud t∧σ=[some (.ref l),some (.int bud),some (.ref pl),x,y,z]) (zrZ bs bud) ⟨s1,D,_,0,0,_,_,_,h1,.z,Lev.zero gb l1 d0,rfl⟩ ?_ ?_
 ·rintro σ H' ⟨s,pl,ns,k0,t,x,y,z,hp,RC,L,rfl⟩
  rw[zmn hp]
  have B:BP H' l pl ts bs ns:=⟨s _ _ hl,T.same s,hp,L.len,gb,λn hn=>⟨L.n0 n hn,by have:=L.n59 n hn;omega⟩,l1,by omega⟩
  have W:=zg7 gb L.gn (ziM l1 L.len)
  simp_all only [zbt,zbw,zac]
  refine⟨l,pl,ts,bs,ns,bud,rfl,B,(by have:=L.cb;omega),L.gn,d0,d1,by grind,λwr H2 s2 hw=>?_⟩
  have B2:=B.same s2
  refine⟨⟨_,SqL.of B2.hl⟩,⟨_,SqL.of B2.hp⟩,λD2 hD2=>?_⟩
  have lE:(ψf zxG bs ns).length=bs.length:=by rw[ψk,L.len];omega
  refine zfZ (f:=fr) (qs:=ψf zxG bs ns) B2.hl B2.hp (by rw[lE,ψb,ψb,T.1,L.len];omega) (Qf) hD2 (λi x z w H3 R hx hz hw s3 k=>?_) λus H3 s3 h3 TE=>?_
  ·obtain⟨a,ha,rfl⟩:=zas hx
   obtain⟨n,hn,rfl⟩:=zas hz
   obtain⟨b,hb1,hb2⟩:=B2.hb.at ha
   have e:=zin hb1 hn hw
   subst e
   simp_all only [zbt,zbw,zac]
   have:=L.n0 n (zao hn)
   have:=L.n59 n (zao hn)
   exact⟨a,b,n+1,rfl,s3 _ _ hb2,gb b (zao hb1),by omega,by omega,k⟩
  ·have bE:∀x∈ψf zxG bs ns,Bq 401 x:=zgJ _ λi b n h1 h2=>zvj (gb b (zao h1)) (by have:=L.n59 n (zao h2);omega)
   refine⟨D2,us,_,rfl,h3,TE,by omega,λx hx=>(bE x hx).mono (Qs),λer E hE mE lE=>?_⟩
   have hw3:=s3 _ _ hw
   have mn:∀x∈ψn bs ns,E≤chq x.1 (x.2+1):=λx hx=>by
    refine lE _ ?_
    rw[zgK]
    exact List.mem_map.mpr ⟨x,hx,rfl⟩
   have me:∃x∈ψn bs ns,chq x.1 (x.2+1)=E:=by
    rw[zgK] at mE
    obtain⟨x,hx,e⟩:=List.mem_map.mp mE
    exact⟨x,hx,e⟩
   have S3:=s2.trans s3
   refine⟨λσ H'=>H'=H3∧E<zdZ bs ns bud∧σ=[some (.ref l),some (.int bud),some (.ref pl),some (.ref wr),some (.ref D2),some (.ref er)],?_,?_⟩
   ·simp_all only [zbt,zbw,zac]
    refine⟨er,wr,E,_,rfl,hE,hw3,(bE E mE).mono (Qs),(zqk L gb l1 l6 d1).mono (Qs),?_⟩
    refine⟨_,rfl,?_⟩
    by_cases c:E<zdZ bs ns bud
    ·rw[if_neg (by simp[c])]
     exact⟨rfl,c⟩
    ·rw[if_pos (by simp[c])]
     have c':=Rat.not_lt.mp c
     refine⟨by decide,λp np=>?_⟩
     refine q p pl wr ns _ ((s.trans S3).add np) zai ((B.same S3).same (zan np _)) ⟨_,E,RC,⟨mE,lE⟩,c⟩ ⟨L.len,L.n0,L.n59,L.gn,λx hx=>⟨Rat.le_trans (L.mid x hx).1 L.tw,Rat.le_trans c' (mn x hx)⟩,ψF1,L.cb⟩ (by rw[zaM (zaG hw3 np)];exact hw3)
   ·rintro σ H4 ⟨rfl,ve,rfl⟩
    simp_all only [zbt,zbw,zac]
    obtain⟨Lv,dn⟩:=L.step gb l1 d1 hs mn me ve
    have hp3:=S3 _ _ hp
    refine⟨⟨_,SqL.of hp3⟩,⟨_,SqL.of h3⟩,λD3 hD3=>?_⟩
    refine zeV (vs:=(nxt E bs ns).map V.int) hp3 h3 ?_ ?_ hD3 (λi x z v H5 R hx hz hv s5 k=>?_) λH5 s5 h5=>?_
    ·rw[ψb,ψb,ψb,znf E bs ns L.len,TE.1,ψk,L.len]
     omega
    ·rw[ψb,znf E bs ns L.len]
     omega
    ·obtain⟨n,hn,rfl⟩:=zas hx
     obtain⟨a,ha,rfl⟩:=zas hz
     obtain⟨m,hm,rfl⟩:=zas hv
     obtain⟨f,hf1,hf2⟩:=TE.at ha
     have hi:=(List.getElem?_eq_some_iff.mp hn).1
     have hb:bs[i]?=some (bs[i]'(by rw[← L.len];exact hi)):=ψc (by rw[← L.len];exact hi)
     have e:=zin hb hn hm
     have e2:=zin hb hn hf1
     simp_all only [zbt,zbw,zac]
     refine⟨[f.num,(f.den:Int)],SqT.of (s5 _ _ hf2),[E.num,(E.den:Int)],SqT.of (s5 _ _ hE),?_⟩
     rw[e2,zxG]
     by_cases c:chq (bs[i]'(by rw[← L.len];exact hi)) (n+1)=E
     ·rw[if_pos ((zu8 _ _).mpr c)]
      rw[e,if_pos c] at k
      exact k _ (.refl _)
     ·rw[if_neg (λz=>c ((zu8 _ _).mp z))]
      rw[e,if_neg c] at k
      exact k _ (.refl _)
    ·exact⟨s.trans (S3.trans s5),⟨D3,_,h5,_,.s RC ⟨mE,lE⟩ ve,E,Lv,rfl⟩,by rw[zmn h5];exact dn⟩
 ·rintro σ H1 Q1 Q2 hQ ⟨c,e,h⟩
  exact⟨c,e,hQ _ _ h⟩
theorem zbI:zay ["boxes","budget","counts","worth","ends","end"] ["boxes","budget"] (zag zbQ):=(Qa)
theorem zgU(T:Txt K mg a):zci P w K mg base CX0 6 a.faO a.daO ["boxes","budget"] zoY:=by
 have Gae:=zot (P:=P) (w:=w) (base:=base) T
 have GY:=zjb (P:=P) (w:=w) (base:=base) T
 have GaN:=zke (P:=P) (w:=w) (base:=base) T
 have GaM:=zjk (P:=P) (w:=w) (base:=base) T
 refine T.FaO.ok zbI (Qj) (Qe)
 all_goals obtain⟨l,ts,bs,bud,rfl,hl,T',gb,l1,l6,d0,d1,hs,q⟩:=h
 ·rfl
 exact⟨zdk K,(zae (zcy (i:=2) zbI.nd rfl rfl (sc:=zag zbQ) (N:=["boxes","budget","counts","worth","ends","end"]) (Nc:=["box"]) (cap:=[none]) rfl rfl rfl (Ql) (zbz (pv 0)) (Q9) (QD) (λ_ _ _ _=>zaf))
 (zah (zis PassesOwn.never (zbr zcE) (zae (zaX (i:=3) zbI.nd rfl (Qh) (zak GaN (Qc) rfl T.maN T.FaN.kp T.baN .nil zaB (zaa (pv 0) (zaa (pv 1) (Qax)))))
 (zae (zcy (i:=4) zbI.nd rfl rfl (sc:=zag zbQ) (N:=["boxes","budget","counts","worth","ends","end"]) (Nc:=["box","count"]) (cap:=[none,none]) rfl rfl rfl (Ql) (zec rfl T.z_zip (zaa (pv 0) (Qax))) (Qp) (QD) (λ_ _ _ _=>(zak GY (Qc) rfl T.mY T.FY.kp T.bY .nil zaB (zaa (pv 0) (zaa (zaz zdC (pv 1) zaf) zad)))))
 (zae (zaX (i:=5) zbI.nd rfl (Or.inr rfl) (zak GaM (Qc) rfl T.maM T.FaM.kp T.baM .nil zaB (zaa (pv 4) zad)))
 (zae (zbA (zbY (zbG (zbr (zak Gae (Qc) rfl T.mae T.Fae.kp T.bae .nil zaB (zaa (pv 5) (zaa (pv 3) zad))))) (zah (zat (zbR (zaa (pv 2) (zaa (pv 3) zad))))) zaY))
 (zah (zcy (i:=2) zbI.nd rfl rfl (sc:=zag zbQ) (N:=["boxes","budget","counts","worth","ends","end"]) (Nc:=["count","one","end"]) (cap:=[none,none,some 5]) rfl rfl rfl (Ql) (zec rfl T.z_zip (zaa (pv 2) (zaa (pv 4) zad))) (λ_ _ _ _=>(zbs rfl (zal (zaj (i:=0) (show ψh (["count","one","end"]:List Str) from by decide) rfl (Qh)) (zal (zaj (i:=1) (show ψh (["count","one","end"]:List Str) from by decide) rfl (Qh)) za6)))) (QD) (λ_ _ _ _=>(zoG (za7 (zye hr.units0) (pv 1) (pv 2) (zaV _)) (zaz zdC (pv 0) zaf) (pv 0)))))))))))),
  zgX hl T' gb l1 l6 d0 d1 hs q⟩
structure zlq (ns:List Int) (g:Int):Prop where
 g0:0≤g
 all:∀n∈ns,g∣n
 most:∀d:Int,(∀n∈ns,d∣n)→d∣g
theorem zlq.ne{ns:List Int}{g n:Int}(h:zlq ns g)(hn:n∈ns)(n0:n≠0):0<g:=by
 have h1:=h.all n hn
 have h2:=h.g0
 refine ψI λc=>n0 ?_
 have:g=0:=by omega
 subst this
 exact Int.zero_dvd.mp h1
theorem zlq.le{ns:List Int}{g n:Int}(h:zlq ns g)(hn:n∈ns)(n0:n≠0):g.natAbs≤n.natAbs:=Nat.le_of_dvd (Qf) (Int.natAbs_dvd_natAbs.mpr (h.all n hn))
theorem zlq.log{ns:List Int}{g n:Int}(h:zlq ns g)(hn:n∈ns)(n0:n≠0)(b:Bd 9000 n):g.natAbs.log2<9000:=zhf 9000 (by have:=h.ne hn n0;omega) (b.le (h.le hn n0))
def zkj:Sp:=λvs H Q _=>∃(l:Addr) (ns:List Int),vs=[.ref l]∧H l=some (QH)∧∀g:Int,zlq ns g→Q (.int g) H
def zdL(K:ψa):TS :=
 (zbg (zbS (Qn) (zam 1))
 (zbg (zjW (QaH) (zam 2)
 (zbS (zaA zs1 [] E0 (zab (zac 1) (Qap))) (zam 1)))
 (zbP (zac 1))))
theorem zhB{l:Addr}{ns:List Int}(hl:H l=some (QH))(q:∀g:Int,zlq ns g→Q (.int g) H) :
  zdL K { nx:=λ_ H'=>Q .non H',rt:=Q } (L2.start ["numbers","shared","number"] [.ref l]) H:=by
 unfold zdL
 simp_all only [zac]
 refine⟨⟨_,SqL.of hl⟩,?_⟩
 refine zc2 (K:=K) (xs:=ns.map V.int) (λi σ H'=>H'=H∧∃(g:Int) (x:Option V),zlq (ns.take i) g∧σ=[some (.ref l),some (.int g),x]) ⟨rfl,0,_,⟨by decide,by simp,λd _=>Int.dvd_zero d⟩,rfl⟩ ?_ ?_ ?_
 ·rintro i σ H' _ ⟨rfl,_⟩
  exact SqL.of hl
 ·rintro i v σ H1 hx ⟨rfl,g,x,G,rfl⟩
  obtain⟨n,en,rfl⟩:=zas hx
  simp_all only [zac]
  refine⟨g,n,rfl,rfl,_,⟨by omega,λm hm=>?_,λd hd=>?_⟩,rfl⟩
  ·rw[ψu,en] at hm
   rcases List.mem_append.mp hm with h | h
   ·exact Int.dvd_trans (Int.gcd_dvd_left ..) (G.all m h)
   ·have:m=n:=by simpa using h
    rw[this]
    exact Int.gcd_dvd_right ..
  ·rw[ψu,en] at hd
   exact Int.dvd_coe_gcd (G.most d λm hm=>hd m (ψK1 _ hm)) (hd n (ψA _ (by simp)))
 ·rintro σ H1 ⟨rfl,g,x,G,rfl⟩
  rw[ψb,ψC] at G
  simp_all only [zac]
  exact q g G
theorem zcO:zay ["numbers","shared","number"] ["numbers"] (zag zdM):=(Qa)
theorem zeS(T:Txt K mg a):zci P w K mg base CX0 2 a.fag a.dag ["numbers"] zkj:=by
 have GO:=zf8 (P:=P) (w:=w) (base:=base) T
 refine T.Fag.ok zcO (Qj) (Qe)
 all_goals obtain⟨l,ns,rfl,hl,q⟩:=h
 ·rfl
 exact⟨zdL K,(zae (zaX (i:=1) zcO.nd rfl (Qh) zaf)
 (zae (zdq PassesOwn.never rfl (zbz (pv 0)) (zaj (i:=2) zcO.nd rfl (Qh))
 (zah (zaX (i:=1) zcO.nd rfl (Qh) (zak GO (Qc) rfl T.mO T.FO.kp T.bO .nil zaB (zaa (pv 1) (Qax))))))
 (zah (zat (pv 1))))),
  zhB hl q⟩
def zoA:Sp:=λvs H Q _=>∃(l:Addr) (ns:List Int) (m:Int),vs=[.ref l]∧H l=some (QH)∧ns.length≤1000∧m∈ns∧m≠0∧Bd 9000 m∧∀(r:Addr) (g:Int) (H':Hp),zaF H H'→zlq ns g→H' r=some (.lst ((ns.map λn=>n.fdiv g).map V.int))→Q (QO) H'
def zkl(K:ψa):TS :=
 (zbg (zbS (zaA zkj [] E0 (QA)) (zam 1))
 (zbP (zb1 (QaH) (zam 0) za8 (tOp (Qw) (zac 0) (zac 1)) [none,some 1])))
theorem zrK{l:Addr}{ns:List Int}{m:Int}(hl:H l=some (QH))(l1:ns.length≤1000)(hm:m∈ns)(m0:m≠0)(mb:Bd 9000 m)(q:∀(r:Addr) (g:Int) (H':Hp),zaF H H'→zlq ns g→H' r=some (.lst ((ns.map λn=>n.fdiv g).map V.int))→Q (QO) H') :
  zkl K { nx:=λ_ H'=>Q .non H',rt:=Q } (L2.start ["weights","shared"] [.ref l]) H:=by
 unfold zkl
 simp_all only [zac]
 refine⟨l,ns,rfl,hl,λg G=>?_⟩
 refine⟨⟨_,SqL.of hl⟩,λD hD=>?_⟩
 refine zdd (vs:=(ns.map λn=>n.fdiv g).map V.int) hl (by simp) (by simpa using l1) hD (λi x v H' R hx hv s k=>?_) λH1 s1 h1=>q D g H1 s1 G h1
 obtain⟨n,en,rfl⟩:=zas hx
 obtain⟨y,ey,rfl⟩:=zas hv
 obtain⟨n',en',rfl⟩:=zas ey
 rw[en] at en'
 cases en'
 simp_all only [zac]
 exact⟨by have:=G.ne hm m0;omega,G.log hm m0 mb,k _ (.refl _)⟩
theorem zma:zay ["weights","shared"] ["weights"] (zag ziD):=(Qa)
theorem zp8(T:Txt K mg a):zci P w K mg base CX0 3 a.faw a.daw ["weights"] zoA:=by
 have Gag:=zeS (P:=P) (w:=w) (base:=base) T
 refine T.Faw.ok zma (Qj) (Qe)
 all_goals obtain⟨l,ns,m,rfl,hl,l1,hm,m0,mb,q⟩:=h
 ·rfl
 exact⟨zkl K,(zae (zaX (i:=1) zma.nd rfl (Or.inr rfl) (zak Gag (Qc) rfl T.mag T.Fag.kp T.bag .nil zaB (Qag)))
 (zah (zat (zbC (sc:=zag ziD) (N:=["weights","shared"]) (Nc:=["weight","shared"]) (cap:=[none,some 1]) rfl rfl rfl (Ql) (zbz (pv 0)) (λ_ _ _ _=>(zaj (i:=0) (show ψh (["weight","shared"]:List Str) from by decide) rfl (Qh))) (QD) (λ_ _ _ _=>(zaz zdu (pv 0) (pv 1))))))),
  zrK hl l1 hm m0 mb q⟩
def shq(V:Rat)(b:Box)(n:Int):Rat:=(V - chq b n) / gnq b n
def zoH:Sp:=λvs H Q _=>∃(l pl wr:Addr) (ts:List Addr) (bs:List Box) (ns:List Int) (W:Rat),vs=[.ref l,.ref pl,.ref wr]∧BP H l pl ts bs ns∧Gn bs ns∧H wr=some (QaG)∧Bq 1300 W∧∀(r:Addr) (us:List Addr) (H':Hp),zaF H H'→H' r=some (Q0)→Tps fr H' us (ψf (shq W) bs ns)→Q (QO) H'
def ze6(K:ψa):TS :=
 (zbP (zb1 (zlG K (QZ)) (Qm) za8 (zaA zkF [] E0 (zab (zaA zo3 [] E0 (zab (zac 2) (zab (zaA ziz [] E0 (QZ)) zau))) (zab (zaA zn9 [] E0 (QZ)) zau))) [none,none,some 2]))
theorem zjr{l pl wr:Addr}{ts:List Addr}{bs:List Box}{ns:List Int}{W:Rat}(B:BP H l pl ts bs ns)(G:Gn bs ns)(hw:H wr=some (QaG))(bW:Bq 1300 W)(q:∀(r:Addr) (us:List Addr) (H':Hp),zaF H H'→H' r=some (Q0)→Tps fr H' us (ψf (shq W) bs ns)→Q (QO) H') :
  ze6 K { nx:=λ_ H'=>Q .non H',rt:=Q } (L2.start (QaI) [.ref l,.ref pl,.ref wr]) H:=by
 unfold ze6
 simp_all only [zac]
 have l6:=B.l6
 refine⟨⟨_,SqL.of B.hl⟩,⟨_,SqL.of B.hp⟩,λD hD=>?_⟩
 refine zfZ (f:=fr) (qs:=ψf (shq W) bs ns) B.hl B.hp (by rw[ψk,ψb,ψb,B.hb.1]) (by rw[ψk];omega) hD (λi x z w H3 R hx hz hv s3 k=>?_) λus H3 s3 h3 TE=>q D us H3 s3 h3 TE
 obtain⟨a,ha,rfl⟩:=zas hx
 obtain⟨n,hn,rfl⟩:=zas hz
 obtain⟨b,hb1,hb2⟩:=B.hb.at ha
 have e:=zin hb1 hn hv
 subst e
 have g:=B.gb b (zao hb1)
 obtain⟨n0,n1⟩:=B.gn n (zao hn)
 have bC:=zoI g n
 have bG:=zq7 g n
 simp_all only [zac]
 refine⟨a,b,n,rfl,s3 _ _ hb2,g,n0,n1,λc H4 s4 h4=>?_⟩
 refine⟨wr,c,W,_,rfl,s4 _ _ (s3 _ _ hw),h4,bW.mono (Qs),bC.mono (Qf),λd H5 s5 h5=>?_⟩
 refine⟨a,b,n,rfl,s5 _ _ (s4 _ _ (s3 _ _ hb2)),g,n0,n1,λe H6 s6 h6=>?_⟩
 exact⟨d,e,_,_,rfl,s6 _ _ h5,h6,G i b n hb1 hn,(bW.sub2 bC).mono (Qf),bG.mono (Qf),λr H7 s7 h7=>k r H7 (s4.trans (s5.trans (s6.trans s7))) h7⟩
theorem zjE:zay (QaI) (QaI) (zag zd1):=(Qa)
theorem zjq(T:Txt K mg a):zci P w K mg base CX0 4 a.faP a.daP (QaI) zoH:=by
 have GY:=zjb (P:=P) (w:=w) (base:=base) T
 have Gak:=zqB (P:=P) (w:=w) (base:=base) T
 have Gau:=ztr (P:=P) (w:=w) (base:=base) T
 have GX:=zn7 (P:=P) (w:=w) (base:=base) T
 refine T.FaP.ok zjE (Qj) (Qe)
 all_goals obtain⟨l,pl,wr,ts,bs,ns,W,rfl,B,G,hw,bW,q⟩:=h
 ·rfl
 exact⟨ze6 K,(zah (zat (zbC (sc:=zag zd1) (N:=["boxes","counts","worth"]) (Nc:=["box","count","worth"]) (cap:=[none,none,some 2]) rfl rfl rfl (Ql) (zec rfl T.z_zip (Qad)) (λ_ _ _ _=>(zbs rfl (zal (zaj (i:=0) (show ψh (["box","count","worth"]:List Str) from by decide) rfl (Qh)) (zal (zaj (i:=1) (show ψh (["box","count","worth"]:List Str) from by decide) rfl (Qh)) za6)))) (QD) (λ_ _ _ _=>(zak GX (Qc) rfl T.mX T.FX.kp T.bX .nil zaB (zaa (zak Gau (Qc) rfl T.mau T.Fau.kp T.bau .nil zaB (zaa (pv 2) (zaa (zak GY (Qc) rfl T.mY T.FY.kp T.bY .nil zaB (Qad)) zad))) (zaa (zak Gak (Qc) rfl T.mak T.Fak.kp T.bak .nil zaB (Qad)) zad))))))),
  zjr B G hw bW q⟩
theorem zzc{b:Box}(g:GB b){n:Int}(n0:0≤n)(n1:n≤60)(gn:gnq b n≠0){W:Rat}(bW:Bq 1300 W):Bq 2200 (shq W b n):=((bW.sub2 (zoI g n)).div2 (zq7 g n) gn).mono (Qf)
theorem Com.bd{m:Nat}:∀{qs:List Rat} {D:Int},Com qs D→(∀q∈qs,Bq m q)→Bd (m*qs.length+1) D:=by
 intro qs D C h
 have key:∀rs:List Rat,(∀q∈rs,Bq m q)→∃M:Int,0<M∧Bd (m*rs.length+1) M∧∀q∈rs,(q.den:Int)∣M:=by
  intro rs
  induction rs with
  | nil=>exact λ_=>⟨1,by decide,by show(1:Nat)<2 ^ _;exact ψV1 (Qf),by simp⟩
  | cons r rs ih =>
   intro h
   obtain⟨M,M0,hM,hd⟩:=ih λq hq=>h q (ψd _ hq)
   refine⟨(r.den:Int)*M,ψA1 (zch r) M0,(((h r ψe).bot.mul hM).mono (by rw[ψM,Nat.mul_add];omega)),λq hq=>?_⟩
   rcases List.mem_cons.mp hq with rfl | hq
   ·exact Int.dvd_mul_right ..
   ·exact Int.dvd_trans (hd q hq) (Int.dvd_mul_left ..)
 obtain⟨M,M0,hM,hd⟩:=key qs h
 exact hM.le (Nat.le_of_dvd (Qf) (Int.natAbs_dvd_natAbs.mpr (C.least M hd)))
theorem zwR(t b:Int)(h:b≠0):((ψw t b).den:Int)∣b:=by
 rw[(zhY h).2]
 exact⟨_,(zhd t b).symm⟩
theorem zzr{N D A M O X:Rat}(a1:D≠0)(a2:A≠0)(a3:M≠0)(a4:X≠0)(a5:O≠0):((N / D - (A - M) / A) / (M*X / (A*O)))=((N - D)*(A*O)+D*(M*O)) / (D*(M*X)):=by
 have h1:M*X / (A*O)≠0:=by
  rw[ψY1]
  intro z
  rcases Rat.mul_eq_zero.mp z with h | h
  ·rcases Rat.mul_eq_zero.mp h with h | h
   ·exact a3 h
   ·exact a4 h
  ·have h9:A*O≠0:=λz=>(Rat.mul_eq_zero.mp z).elim a2 a5
   have:=Rat.mul_inv_cancel _ h9
   rw[h] at this
   grind
 have h2:D*(M*X)≠0:=by
  intro z
  rcases Rat.mul_eq_zero.mp z with h | h
  ·exact a1 h
  ·rcases Rat.mul_eq_zero.mp h with h | h
   ·exact a3 h
   ·exact a4 h
 have h3:A*O≠0:=by
  intro z
  rcases Rat.mul_eq_zero.mp z with h | h
  ·exact a2 h
  ·exact a5 h
 have e1:((N - D)*(A*O)+D*(M*O)) / (D*(M*X))*(M*X / (A*O))=N / D - (A - M) / A:=by
  have e2:((N - D)*(A*O)+D*(M*O)) / (D*(M*X))*(M*X / (A*O))=((N - D)*(A*O)+D*(M*O)) / D / (A*O):=by grind
  rw[e2]
  have e3:N / D - (A - M) / A=(N - D) / D+M / A:=by grind
  rw[e3]
  have e4:((N - D)*(A*O)+D*(M*O)) / D / (A*O)=(N - D) / D+(D*(M*O)) / D / (A*O):=by grind
  rw[e4]
  grind
 rw[← e1]
 grind
theorem zyC{b:Box}(g:GB b){n:Int}(n0:0≤n)(gn:gnq b n≠0)(W:Rat):((shq W b n).den:Int)∣(W.den:Int)*((b.2.2 - b.2.1) ^ n.toNat*b.2.1):=by
 have m0:(b.2.2 - b.2.1) ^ n.toNat*b.2.1≠0:=λz=>by
  refine gn ?_
  unfold gnq
  rw[z,Rat.zero_divInt]
 have d0:=zcJ W
 have o:=zdh g n
 have h:shq W b n=ψw ((W.num - W.den)*(b.2.2 ^ n.toNat*b.2.2)+W.den*((b.2.2 - b.2.1) ^ n.toNat*b.2.2)) ((W.den:Int)*((b.2.2 - b.2.1) ^ n.toNat*b.2.1)):=by
  unfold shq chq gnq
  have hW:=ψy W
  rw[ψl] at hW ⊢
  rw[ψl,ψl]
  simp only[ψm,ψT,ψU1] at *
  have a1:((W.den:Int):Rat)≠0:=λz=>d0 (by exact_mod_cast z)
  have a2:((b.2.2 ^ n.toNat:Int):Rat)≠0:=λz=>by
   have:(b.2.2 ^ n.toNat:Int)=0:=by exact_mod_cast z
   omega
  have a3:(((b.2.2 - b.2.1) ^ n.toNat:Int):Rat)≠0:=λz=>by
   have:((b.2.2 - b.2.1) ^ n.toNat:Int)=0:=by exact_mod_cast z
   exact m0 (by rw[this,Int.zero_mul])
  have a4:(b.2.1:Rat)≠0:=λz=>by
   have:b.2.1=0:=by exact_mod_cast z
   exact m0 (by rw[this,Int.mul_zero])
  have a5:(b.2.2:Rat)≠0:=λz=>by
   have:b.2.2=0:=by exact_mod_cast z
   have:=g.2.2.1
   have:=g.2.2.2.1
   omega
  generalize ((b.2.2 ^ n.toNat:Int):Rat)=A at *
  generalize (((b.2.2 - b.2.1) ^ n.toNat:Int):Rat)=M at *
  generalize (b.2.2:Rat)=O at *
  generalize (b.2.1:Rat)=X at *
  generalize (W.num:Rat)=N at *
  generalize ((W.den:Int):Rat)=D at *
  rw[← hW]
  exact zzr a1 a2 a3 a4 a5
 rw[h]
 exact zwR _ _ (ψS d0 m0)
theorem zvN{bs:List Box}{ns:List Int}{W:Rat}{D:Int}(gb:∀b∈bs,GB b)(n0:∀n∈ns,0≤n)(G:Gn bs ns)(l6:bs.length≤6)(cs:(zaH bs ns).sum≤60)(bW:Bq 1300 W)(C:Com (ψf (shq W) bs ns) D):Bd 1800 D:=by
 have st:=zhq bs ns gb n0
 have key:∀xs:List (Box×Int),(∀x∈xs,GB x.1∧0≤x.2∧gnq x.1 x.2≠0)→∃M:Int,0<M∧Bd (6*(xs.map λx=>x.2.toNat).sum+8*xs.length+1) M∧∀x∈xs,(x.1.2.2 - x.1.2.1) ^ x.2.toNat*x.1.2.1∣M:=by
  intro xs
  induction xs with
  | nil=>exact λ_=>⟨1,by decide,by show(1:Nat)<2 ^ _;exact ψV1 (Qf),by simp⟩
  | cons x xs ih =>
   intro h
   obtain⟨M,M0,hM,hd⟩:=ih λy hy=>h y (ψd _ hy)
   obtain⟨g,x0,gx⟩:=h x ψe
   have z:(x.1.2.2 - x.1.2.1) ^ x.2.toNat*x.1.2.1≠0:=λz=>by
    refine gx ?_
    unfold gnq
    rw[z,Rat.zero_divInt]
   obtain⟨g1,g2,g3,g4,g5⟩:=g
   have p:=(zoW (b:=x.1.2.2 - x.1.2.1) (Qf) (Qf) x.2.toNat).1
   have p2:=Int.mul_nonneg p (show 0≤x.1.2.1 by omega)
   have hb:Bd 6 x.1.2.1:=by show x.1.2.1.natAbs<2 ^ 6;omega
   have b1:=((zhz (b:=x.1.2.2 - x.1.2.1) (Qf) (Qf) x.2.toNat).mul hb).mul hM
   refine⟨_,ψA1 (Qf) M0,b1.mono (by rw[ψD,ψq,ψM];omega),λy hy=>?_⟩
   rcases List.mem_cons.mp hy with rfl | hy
   ·exact Int.dvd_mul_right ..
   ·exact Int.dvd_trans (hd y hy) (Int.dvd_mul_left ..)
 obtain⟨M,M0,hM,hd⟩:=key (QaA) λx hx=>by
  obtain⟨i,ei⟩:=ψp hx
  rw[ψO] at ei
  exact⟨gb _ (zao ei.1),n0 _ (zao ei.2),G i _ _ ei.1 ei.2⟩
 have zl:(QaA).length≤6:=by rw[List.length_zip];omega
 have dv:D∣(W.den:Int)*M:=C.least _ (zgJ _ λi b n e1 e2=>Int.dvd_trans (zyC (gb b (zao e1)) (n0 n (zao e2)) (G i b n e1 e2) W) (Int.mul_dvd_mul_left _ (hd (b,n) (ψN (List.getElem?_zip_eq_some.mpr ⟨e1,e2⟩)))))
 have pos:=ψA1 (zch W) M0
 exact((bW.bot.mul hM).le (Nat.le_of_dvd (Qf) (Int.natAbs_dvd_natAbs.mpr dv))).mono (Qf)
structure PapW (bs:List Box) (ns Ws:List Int) (P:Rat):Prop where
 len:Ws.length=bs.length
 eq:∀(i:Nat) b n w,bs[i]?=some b→ns[i]?=some n→Ws[i]?=some w→(w:Rat)=wq b n*P
 p0:0<P
 wb:∀w∈Ws,Bd 2700 w
 pb:Bq 2700 P
theorem zvA{q:Rat}{D:Int}(h:(q.den:Int)∣D):((q.num*(D / q.den):Int):Rat)=q*(D:Rat):=by
 obtain⟨k,rfl⟩:=h
 have d0:=zch q
 rw[Int.mul_ediv_cancel_left _ (Qf),ψm,ψm]
 have e:((q.den:Int):Rat)*q=(q.num:Rat):=by
  have h:=ψy q
  rw[ψl] at h
  have z:((q.den:Int):Rat)≠0:=λz=>by
   have:(q.den:Int)=0:=by exact_mod_cast z
   omega
  have h2:(q.num:Rat)=q*((q.den:Int):Rat):=by
   generalize (q.num:Rat)=a at h ⊢
   generalize ((q.den:Int):Rat)=b at h z ⊢
   grind
  rw[h2,Rat.mul_comm]
 grind
theorem papW{bs:List Box}{ns:List Int}{D g:Int}(gb:∀b∈bs,GB b)(n0:∀n∈ns,0≤n∧n≤60)(G:Gn bs ns)(len:ns.length=bs.length)(l1:1≤bs.length)(l6:bs.length≤6)(C:Com (Qat) D)(Gg:zlq ((Qat).map λq=>q.num*(D / q.den)) g) :
  PapW bs ns (((Qat).map λq=>q.num*(D / q.den)).map λn=>n.fdiv g) (ψw D g)∧0<g∧Bd 2661 g:=by
 have lw:(Qat).length=bs.length:=by rw[wqs,ψk];omega
 have bw:∀q∈wqs bs ns,Bq 380 q∧0<q:=zgJ _ λi b n e1 e2=>⟨(zl5 (gb b (zao e1)) (G i b n e1 e2)).mono (by have:=n0 n (zao e2);omega),zlv (gb b (zao e1)) (G i b n e1 e2)⟩
 have D0:=C.pos
 have bD:Bd 2281 D:=(C.bd λq hq=>(bw q hq).1).mono (Qf)
 have tp:∀q∈wqs bs ns,0<q.num*(D / q.den)∧Bd 2661 (q.num*(D / q.den)):=λq hq=>by
  obtain⟨b1,q0⟩:=bw q hq
  have hd:=C.all q hq
  have dp:=zch q
  have h1:0<D / (q.den:Int):=Int.ediv_pos_of_pos_of_dvd D0 (ψz dp) hd
  have h2:0<q.num:=by
   have a:=Rat.num_nonneg.mpr (ψB q0)
   have b:q.num≠0:=zoZ (by grind)
   omega
  have h3:=ψE1 (q.den:Int) (ψz D0)
  exact⟨ψA1 h2 h1,(b1.top.mul (bD.le (x:=D / (q.den:Int)) (Qf))).mono (Qs)⟩
 obtain⟨q0,hq0⟩:∃q,q∈wqs bs ns:=⟨(Qat)[0]'(by omega),ψv1 _⟩
 have hm0:q0.num*(D / q0.den)∈(Qat).map λq=>q.num*(D / q.den):=List.mem_map.mpr ⟨q0,hq0,rfl⟩
 obtain⟨t1,t2⟩:=tp q0 hq0
 have g0:=Gg.ne hm0 (Qf)
 have bg:Bd 2661 g:=t2.le (Gg.le hm0 (Qf))
 refine⟨⟨by rw[ψb,ψb,lw],λi b n w e1 e2 e3=>?_,?_,λw hw=>?_,zcw (Qf) (bD.mono (Qs)) (bg.mono (Qs))⟩,g0,bg⟩
 ·obtain⟨x,ex,rfl⟩:=zas e3
  obtain⟨q,eq,rfl⟩:=zas ex
  have e:=zin e1 e2 eq
  have hd:=Gg.all _ (List.mem_map.mpr ⟨q,zao eq,rfl⟩)
  have f:=zdb hd
  have h:=zvA (C.all q (zao eq))
  rw[← f,ψm] at h
  have gr:(g:Rat)≠0:=λz=>by
   have:g=0:=by exact_mod_cast z
   omega
  rw[ψl,← e]
  generalize (((q.num*(D / (q.den:Int))).fdiv g:Int):Rat)=w at h ⊢
  grind
 ·rw[ψl,ψY1]
  exact ψB1 (by exact_mod_cast D0) (Rat.inv_pos.mpr (by exact_mod_cast g0))
 ·obtain⟨x,hx,rfl⟩:=List.mem_map.mp hw
  obtain⟨q,hq,rfl⟩:=List.mem_map.mp hx
  have f:=zdb (Gg.all _ hx)
  exact((tp q hq).2.le (zf6 f (Qf))).mono (Qs)
theorem Com.det{qs:List Rat}{D D':Int}(h:Com qs D)(h':Com qs D'):D=D':=Int.dvd_antisymm (ψz h.pos) (ψz h'.pos) (h.least _ h'.all) (h'.least _ h.all)
theorem zlq.det{ns:List Int}{g g':Int}(h:zlq ns g)(h':zlq ns g'):g=g':=Int.dvd_antisymm h.g0 h'.g0 (h'.most _ h.all) (h.most _ h'.all)
def zpV(bs:List Box)(ns Ws:List Int)(P:Rat):Prop:=∃D g:Int,Com (Qat) D∧zlq ((Qat).map λq=>q.num*(D / q.den)) g∧Ws=((Qat).map λq=>q.num*(D / q.den)).map (λn=>n.fdiv g)∧P=ψw D g
theorem zpV.det{bs:List Box}{ns Ws Ws':List Int}{P P':Rat}(h:zpV bs ns Ws P)(h':zpV bs ns Ws' P'):Ws=Ws'∧P=P':=by
 obtain⟨D,g,C,G,rfl,rfl⟩:=h
 obtain⟨D',g',C',G',rfl,rfl⟩:=h'
 have e:=C.det C'
 subst e
 rw[G.det G']
 exact⟨rfl,rfl⟩
def zlW:Sp:=λvs H Q _=>∃(l pl:Addr) (ts:List Addr) (bs:List Box) (ns:List Int),vs=[.ref l,.ref pl]∧BP H l pl ts bs ns∧Gn bs ns∧bs.length≤6∧∀(r wl pp cl:Addr) (Ws:List Int) (P:Rat) (H':Hp),zaF H H'→H' r=some (Qaa)→H' wl=some (Qaj)→H' pp=some (.tup (fr P))→H' cl=some (QH)→PapW bs ns Ws P→zpV bs ns Ws P→H wl=none→H cl=none→wl≠cl→Q (QO) H'
def zhD(K:ψa):TS :=
 (zbg (zbS (zaA zlc [] E0 (zab (zaA zrB [] E0 (QZ)) zau)) (zdS K 2 (zaL (zam 2) (zaL (zam 3) zdO))))
 (zbg (zbS (zaA zkj [] E0 (Qap)) (zam 4))
 (zbP (zfq (zab (zb1 (zcT K (zac 2)) (zam 0) za8 (tOp (Qw) (zac 0) (zac 1)) [none,some 4]) (zab (zaA zly [] E0 (zab (zac 3) (QaC))) (zab (tCB (Qr) (Qz)) zau)))))))
theorem zm2{l pl:Addr}{ts:List Addr}{bs:List Box}{ns:List Int}(B:BP H l pl ts bs ns)(G:Gn bs ns)(l6:bs.length≤6)(q:∀(r wl pp cl:Addr) (Ws:List Int) (P:Rat) (H':Hp),zaF H H'→H' r=some (Qaa)→H' wl=some (Qaj)→H' pp=some (.tup (fr P))→H' cl=some (QH)→PapW bs ns Ws P→zpV bs ns Ws P→H wl=none→H cl=none→wl≠cl→Q (QO) H') :
  zhD K { nx:=λ_ H'=>Q .non H',rt:=Q } (L2.start ["boxes","counts","weights","bottom","shared"] [.ref l,.ref pl]) H:=by
 unfold zhD
 simp_all only [zac]
 refine⟨l,pl,ts,bs,ns,rfl,B,G,λfl us H1 s1 h1 T1=>?_⟩
 have lw:(Qat).length=bs.length:=by rw[wqs,ψk,B.len];omega
 refine⟨fl,us,_,rfl,h1,T1,by omega,zgJ _ λi b n e1 e2=>(zxZ (B.gb b (zao e1)) (B.gn n (zao e2)).2 (G i b n e1 e2)).mono (Qs),λcr tl D H2 s2 C h2 ntl htl=>?_⟩
 simp_all only [zac]
 refine⟨_,SqT.of h2,rfl,_,_,rfl,_,_,rfl,rfl,?_⟩
 refine⟨tl,_,rfl,htl,λg Gg=>?_⟩
 obtain⟨PW,g0,bg⟩:=papW B.gb B.gn G B.len B.l1 l6 C Gg
 simp_all only [zac]
 refine⟨⟨_,SqL.of htl⟩,λD1 hD1=>?_⟩
 refine zdd (vs:=(((Qat).map λq=>q.num*(D / q.den)).map λn=>n.fdiv g).map V.int) htl (by simp) (by simp;omega) hD1 (λi x v H' R hx hv s k=>?_) λH3 s3 h3=>?_
 ·obtain⟨n,en,rfl⟩:=zas hx
  obtain⟨y,ey,rfl⟩:=zas hv
  obtain⟨n',en',rfl⟩:=zas ey
  rw[en] at en'
  cases en'
  simp_all only [zac]
  exact⟨by omega,zhf 2661 (Qf) bg,k _ (.refl _)⟩
 refine⟨_,_,rfl,by omega,bg.mono (Qs),λpp H4 s4 h4=>?_⟩
 have hp4:=s4 _ _ (s3 _ _ (s2 _ _ (s1 _ _ B.hp)))
 refine⟨_,.inl (SqL.of hp4),λcl ncl=>?_⟩
 have s5:=zan ncl (QH)
 have h5:(L2.upd H4 cl (QH)) cl=some (.lst (ns.map V.int)):=zai
 generalize L2.upd H4 cl (.lst (ns.map V.int))=H5 at s5 h5 ⊢
 refine⟨by decide,λr nr=>?_⟩
 have s6:=zan nr (.tup [V.ref D1,V.ref pp,V.ref cl])
 have h6:(L2.upd H5 r (.tup [V.ref D1,V.ref pp,V.ref cl])) r=some (.tup [V.ref D1,V.ref pp,V.ref cl]):=zai
 generalize L2.upd H5 r (.tup [V.ref D1,V.ref pp,V.ref cl])=H6 at s6 h6 ⊢
 exact q r D1 pp cl _ _ H6 (s1.trans (s2.trans (s3.trans (s4.trans (s5.trans s6))))) h6 (s6 _ _ (s5 _ _ (s4 _ _ h3))) (s6 _ _ (s5 _ _ h4)) (s6 _ _ h5) PW ⟨D,g,C,Gg,rfl,rfl⟩ ((s1.trans s2).free hD1) ((s1.trans (s2.trans (s3.trans s4))).free ncl) (zaG (s4 _ _ h3) ncl)
theorem ze0:zay ["boxes","counts","weights","bottom","shared"] ["boxes","counts"] (zag zgd):=(Qa)
theorem znD(T:Txt K mg a):zci P w K mg base CX0 5 a.faR a.daR ["boxes","counts"] zlW:=by
 have Gaf:=zl6 (P:=P) (w:=w) (base:=base) T
 have Gal:=zfG (P:=P) (w:=w) (base:=base) T
 have Gj:=zfg (P:=P) (w:=w) (base:=base) T
 have Gag:=zeS (P:=P) (w:=w) (base:=base) T
 refine T.FaR.ok ze0 (Qj) (Qe)
 all_goals obtain⟨l,pl,ts,bs,ns,rfl,B,G,l6,q⟩:=h
 ·rfl
 exact⟨zhD K,(zae (zc1 (zak Gaf (Qc) rfl T.maf T.Faf.kp T.baf .nil zaB (zaa (zak Gal (Qc) rfl T.mal T.Fal.kp T.bal .nil zaB (Qad)) zad)) (zbs rfl (zal (zaj (i:=2) ze0.nd rfl (Qh)) (zal (zaj (i:=3) ze0.nd rfl (Qh)) za6))))
 (zae (zaX (i:=4) ze0.nd rfl (Or.inr rfl) (zak Gag (Qc) rfl T.mag T.Fag.kp T.bag .nil zaB (Qax)))
 (zah (zat (zbR (zaa (zbC (sc:=zag zgd) (N:=["boxes","counts","weights","bottom","shared"]) (Nc:=["weight","shared"]) (cap:=[none,some 4]) rfl rfl rfl (Ql) (zbz (pv 2)) (λ_ _ _ _=>(zaj (i:=0) (show ψh (["weight","shared"]:List Str) from by decide) rfl (Qh))) (QD) (λ_ _ _ _=>(zaz zdu (pv 0) (pv 1)))) (zaa (zak Gj (Qc) rfl T.mj T.Fj.kp T.bj .nil zaB (zaa (pv 3) (zaa (pv 4) zad))) (zaa (zdn zcF rfl T.z_list zbN (QB)) zad)))))))),
  zm2 B G l6 q⟩
abbrev Yb:=Box×Int×Rat
def yv(z:Yb):Rat:=(z.2.1:Rat)+z.2.2
def cy(z:Yb):Rat:=(z.1.1:Rat)*yv z
def cys(zs:List Yb):Rat:=(zs.map cy).sum
theorem zoE{b:Box}(g:GB b){n:Int}(n0:0≤n):chq b (n+1)=chq b n+gnq b n:=by
 rw[zfm g,zfm g,zfu g,show(n+1).toNat=n.toNat+1 by omega,ψk1]
 grind
theorem zj3{b:Box}(g:GB b)(n:Int):0≤gnq b n:=by
 obtain⟨p0,p1,_⟩:=zju g
 rw[zfu g]
 exact ψn1 (zb9 (ψB p0) p1 _).2.1 (ψB p0)
theorem zvB(W:Rat):∀(bs:List Box) (ns:List Int),(QaD)→Gn bs ns→ns.length=bs.length→cys (ψf (λb n=>(b,n,shq W b n)) bs ns)=((zaH bs ns).sum:Rat)+((QaA).map λx=>wq x.1 x.2*(W - chq x.1 x.2)).sum
 | [],ns,_,_,_=>by
  simp only[cys,zaH,ψm1,List.zip_nil_left,ψl1,ψY]
  rw[show((0:Int):Rat)=0 from rfl]
  grind
 | _::_,[],_,_,h=>by cases h
 | b::bs,n::ns,gb,G,len=>by
  have ih:=zvB W bs ns (λx hx=>gb x (ψd _ hx)) (λi b' n' e1 e2=>G (i+1) b' n' e1 e2) (Nat.succ.inj len)
  have gn:=G 0 b n rfl rfl
  show cy (b,n,shq W b n)+cys (ψf (λb n=>(b,n,shq W b n)) bs ns)=((b.1*n+(zaH bs ns).sum:Int):Rat)+(wq b n*(W - chq b n)+((QaA).map λx=>wq x.1 x.2*(W - chq x.1 x.2)).sum)
  rw[ih,ψT,ψm]
  have e:cy (b,n,shq W b n)=(b.1:Rat)*(n:Rat)+wq b n*(W - chq b n):=by
   show(b.1:Rat)*((n:Rat)+shq W b n)=_
   unfold shq wq
   grind
  rw[e]
  grind
def wds(R:Int):List Int→List Int
 | []=>[]
 | [x]=>[R - x]
 | x::y::ms=>(y - x)::wds R (y::ms)
theorem zql(R:Int):∀ms:List Int,ms≠[]→ψf (λa b=>b - a) ms (ms.drop 1++[R])=wds R ms
 | [],h=>absurd rfl h
 | [x],_=>rfl
 | x::y::ms,_=>by
  have ih:=zql R (y::ms) (by simp)
  show(y - x)::ψf (λa b=>b - a) (y::ms) (ms++[R])=(y - x)::wds R (y::ms)
  rw[← ih]
  rfl
theorem zeP(R:Int):∀ms:List Int,(wds R ms).length=ms.length
 | []=>rfl
 | [x]=>rfl
 | x::y::ms=>by
  show(wds R (y::ms)).length+1=_
  rw[zeP R (y::ms)]
  rfl
theorem zn2{R:Int}:∀ms:List Int,ms.Pairwise (·<·)→(∀x∈ms,x<R)→∀w∈wds R ms,0<w
 | [],_,_,w,h=>by cases h
 | [x],_,hR,w,h=>by
  rw[List.mem_singleton.mp h]
  have:=hR x ψe
  omega
 | x::y::ms,hp,hR,w,h=>by
  obtain⟨h1,h2⟩:=List.pairwise_cons.mp hp
  rcases List.mem_cons.mp h with rfl | h
  ·have:=h1 y ψe
   omega
  ·exact zn2 (y::ms) h2 (λz hz=>hR z (ψd _ hz)) w h
theorem zlK{R:Int}:∀(h:Int) (ms:List Int),(h::ms).Pairwise (·<·)→(∀x∈h::ms,x<R)→∀b,(b∈h::ms∨b=R)→(ψf (λe w=>if e<b then w else 0) (h::ms) (wds R (h::ms))).sum=b - h
 | h,[],_,hR,b,hb=>by
  have l:=hR h ψe
  show(if h<b then R - h else 0)+0=b - h
  rcases hb with hb | rfl
  ·rw[List.mem_singleton.mp hb,if_neg (Qf)]
   omega
  ·rw[if_pos l]
   omega
 | h,y::ms,hp,hR,b,hb=>by
  obtain⟨h1,h2⟩:=List.pairwise_cons.mp hp
  have ih:=zlK y ms h2 (λz hz=>hR z (ψd _ hz)) 
  show(if h<b then y - h else 0)+(ψf (λe w=>if e<b then w else 0) (y::ms) (wds R (y::ms))).sum=b - h
  have hl:=hR h ψe
  have ge:∀z∈y::ms,h<z:=h1
  by_cases c:b=h
  ·subst c
   have z:∀(es ws:List Int),(∀e∈es,b<e)→(ψf (λe w=>if e<b then w else 0) es ws).sum=0:=by
    intro es
    induction es with
    | nil=>intro ws _;rfl
    | cons e es ihe =>
     intro ws he
     cases ws with
     | nil=>rfl
     | cons w ws =>
      rw[ψH,ψq,ihe ws λz hz=>he z (ψd _ hz),if_neg (by have:=he e ψe;omega)]
      rfl
   rw[if_neg (Qf),z _ _ ge]
   omega
  ·have hb2:b∈y::ms∨b=R:=by
    rcases hb with hb | hb
    ·rcases List.mem_cons.mp hb with hb | hb
     ·exact absurd hb c
     ·exact .inl hb
    ·exact .inr hb
   have lt:h<b:=by
    rcases hb2 with hb | hb
    ·exact ge b hb
    ·omega
   rw[if_pos lt,ih b hb2]
   omega
theorem ziF(f g:Int→Int→Int):∀(es ws:List Int),(ψf (λe w=>f e w+g e w) es ws).sum=(ψf f es ws).sum+(ψf g es ws).sum
 | [],_=>by simp
 | _::_,[]=>by simp
 | e::es,w::ws=>by
  simp only[ψH,ψq]
  rw[ziF f g es ws]
  omega
theorem zkf(f g:Int→Int→Int):∀(es ws:List Int),(ψf (λe w=>f e w - g e w) es ws).sum=(ψf f es ws).sum - (ψf g es ws).sum
 | [],_=>by simp
 | _::_,[]=>by simp
 | e::es,w::ws=>by
  simp only[ψH,ψq]
  rw[zkf f g es ws]
  omega
theorem zcL{f g:Int→Int→Int}:∀(es ws:List Int),(∀e∈es,∀w,f e w=g e w)→(ψf f es ws).sum=(ψf g es ws).sum
 | [],_,_=>by simp
 | _::_,[],_=>by simp
 | e::es,w::ws,h=>by
  simp only[ψH,ψq]
  rw[h e ψe w,zcL es ws λx hx=>h x (ψd _ hx)]
theorem ziw:∀(es ws:List Int),ws.length=es.length→(ψf (λ_ w=>w) es ws).sum=ws.sum
 | [],[],_=>rfl
 | [],_::_,h=>by cases h
 | _::_,[],h=>by cases h
 | e::es,w::ws,h=>by
  rw[ψH,ψq,ψq,ziw es ws (Nat.succ.inj h)]
structure Edg (R:Int) (ms:List Int):Prop where
 ne:ms≠[]
 srt:ms.Pairwise (·<·)
 lo:∀x∈ms,0≤x
 hi:∀x∈ms,x<R
 zero:(0:Int)∈ms
theorem Edg.ahead{R:Int}{ms:List Int}(h:Edg R ms){b:Int}(hb:b∈ms∨b=R):(ψf (λe w=>if e<b then w else 0) ms (wds R ms)).sum=b:=by
 cases ms with
 | nil=>exact absurd rfl h.ne
 | cons x ms =>
  have x0:x=0:=by
   have l:=h.lo x ψe
   rcases List.mem_cons.mp h.zero with z | z
   ·exact z.symm
   ·have:=(List.pairwise_cons.mp h.srt).1 0 z
    omega
  have:=zlK x ms h.srt h.hi b hb
  rw[this,x0]
  omega
theorem Edg.whole{R:Int}{ms:List Int}(h:Edg R ms):(wds R ms).sum=R:=by
 have a:=h.ahead (b:=R) (.inr rfl)
 rw[← ziw ms (wds R ms) (zeP R ms),← zcL (f:=λe w=>if e<R then w else 0) ms (wds R ms) λe he w=>if_pos (h.hi e he)]
 exact a
theorem zeC{x R k:Int}(h0:0≤x - R*k)(h1:x - R*k<R):x.fmod R=x - R*k:=by
 have R0:0<R:=by omega
 have e:=ψf1 x R
 have f0:=ψd1 x R0
 have f1:=ψy1 x R0
 have:R*(x.fdiv R - k)=(x - R*k) - x.fmod R:=by
  rw[ψN1]
  omega
 have d:x.fdiv R - k=0:=by
  refine ψI λz=>?_
  rcases Int.lt_or_gt_of_ne z with c | c
  ·have:=Int.mul_le_mul_of_nonneg_left (show x.fdiv R - k≤-1 by omega) (ψz R0)
   omega
  ·have:=Int.mul_le_mul_of_nonneg_left (show 1≤x.fdiv R - k by omega) (ψz R0)
   omega
 rw[d,Int.mul_zero] at this
 omega
def cov(R s L e:Int):Bool:=decide ((e - s).fmod R<L)
theorem Edg.arc{R:Int}{ms:List Int}(h:Edg R ms){s L:Int}(hs:s∈ms)(L0:0≤L)(L1:L≤R)(he:(s+L).fmod R∈ms):(ψf (λe w=>if cov R s L e=true then w else 0) ms (wds R ms)).sum=L:=by
 have s0:=h.lo s hs
 have s1:=h.hi s hs
 have as:=h.ahead (.inl hs)
 by_cases c:s+L≤R
 ·have hb:s+L∈ms∨s+L=R:=by
   by_cases c2:s+L=R
   ·exact .inr c2
   ·rw[zeC (k:=0) (Qf) (Qf)] at he
    rw[Int.mul_zero,Int.sub_zero] at he
    exact .inl he
  have ab:=h.ahead hb
  rw[zcL (g:=λe w=>(if e<s+L then w else 0) - (if e<s then w else 0)) ms (wds R ms) λe hm w=>?_,zkf,ab,as]
  ·omega
  have e0:=h.lo e hm
  have e1:=h.hi e hm
  unfold cov
  by_cases c3:e<s
  ·rw[zeC (k:=-1) (by rw[ψC1];omega) (by rw[ψC1];omega),if_neg (by rw[ψC1];simp;omega),if_pos (Qf),if_pos c3]
   omega
  ·rw[zeC (k:=0) (Qf) (Qf),if_neg c3]
   by_cases c4:e<s+L
   ·rw[if_pos (by simp;omega),if_pos c4]
    omega
   ·rw[if_neg (by simp;omega),if_neg c4]
    rfl
 ·rw[zeC (k:=1) (Qf) (Qf),ψX1] at he
  have ab:=h.ahead (.inl he)
  have w:=h.whole
  rw[zcL (g:=λe w=>(w - (if e<s then w else 0))+(if e<s+L - R then w else 0)) ms (wds R ms) λe hm w=>?_,ziF,zkf,ab,as,ziw ms (wds R ms) (zeP R ms),w]
  ·omega
  have e0:=h.lo e hm
  have e1:=h.hi e hm
  unfold cov
  by_cases c3:e<s
  ·rw[zeC (k:=-1) (by rw[ψC1];omega) (by rw[ψC1];omega),if_pos c3]
   by_cases c4:e<s+L - R
   ·rw[if_pos (by rw[ψC1];simp;omega),if_pos c4]
    omega
   ·rw[if_neg (by rw[ψC1];simp;omega),if_neg c4]
    omega
  ·have c4:¬ e<s+L - R:=by omega
   rw[zeC (k:=0) (Qf) (Qf),if_neg c3,if_neg c4,if_pos (by simp;omega)]
   omega
def zjw:Int→List Int→List Int
 | A,[]=>[A]
 | A,L::ls=>A::zjw (A+L) ls
theorem zzH{R A L e:Int}(R0:0<R)(L0:0≤L)(L1:L≤R):(if cov R (A.fmod R) L e=true then (1:Int) else 0)=(e - A).fdiv R - (e - (A+L)).fdiv R:=by
 have ea:=ψf1 (e - A) R
 have f0:=ψd1 (e - A) R0
 have f1:=ψy1 (e - A) R0
 have eA:=ψf1 A R
 have es:(e - A.fmod R).fmod R=(e - A).fmod R:=by
  rw[zeC (x:=e - A.fmod R) (k:=(e - A).fdiv R+A.fdiv R) (by rw[Int.mul_add];omega) (by rw[Int.mul_add];omega),Int.mul_add]
  omega
 have key:∀k:Int,0≤(e - (A+L)) - R*k→(e - (A+L)) - R*k<R→(e - (A+L)).fdiv R=k:=λk h0 h1=>by
  have m:=zeC h0 h1
  have ex:=ψf1 (e - (A+L)) R
  have:R*((e - (A+L)).fdiv R - k)=0:=by
   rw[ψN1]
   omega
  rcases Int.mul_eq_zero.mp this with z | z <;> omega
 unfold cov
 rw[es]
 by_cases c:(e - A).fmod R<L
 ·rw[if_pos (decide_eq_true c),key ((e - A).fdiv R - 1) (by rw[ψN1];omega) (by rw[ψN1];omega)]
  omega
 ·rw[if_neg (by simpa using c),key ((e - A).fdiv R) (Qf) (Qf)]
  omega
theorem zlV{R e:Int}(R0:0<R):∀(ls:List Int) (A:Int),(∀L∈ls,0≤L∧L≤R)→(ψf (λa L=>if cov R (a.fmod R) L e=true then (1:Int) else 0) (zjw A ls) ls).sum=(e - A).fdiv R - (e - (A+ls.sum)).fdiv R
 | [],A,_=>by
  show(0:Int)=_
  rw[ψY,Int.add_zero]
  omega
 | L::ls,A,h=>by
  have ih:=zlV (e:=e) R0 ls (A+L) λx hx=>h x (ψd _ hx)
  obtain⟨h0,h1⟩:=h L ψe
  show(if cov R (A.fmod R) L e=true then (1:Int) else 0)+(ψf (λa L=>if cov R (a.fmod R) L e=true then (1:Int) else 0) (zjw (A+L) ls) ls).sum=_
  rw[ih,zzH R0 h0 h1,ψq,Int.add_assoc]
  omega
def pln(R:Int)(ns ss ls:List Int)(e:Int):List Int:=ψf (λn (c:Bool)=>if c=true then n+1 else n) ns (ψf (λs L=>cov R s L e) ss ls)
theorem zoQ(R n s L e:Int)(ns ss ls:List Int):pln R (n::ns) (s::ss) (L::ls) e=(if cov R s L e=true then n+1 else n)::pln R ns ss ls e:=rfl
theorem zq6{R e:Int}{ns ss ls:List Int}(h1:ls.length=ns.length)(h2:ls.length≤ss.length):(pln R ns ss ls e).length=ns.length:=by
 unfold pln
 rw[ψk,ψk]
 omega
theorem zvz{R e:Int}{ns ss ls:List Int}{k:Nat}{n s L:Int}(h1:ns[k]?=some n)(h2:ss[k]?=some s)(h3:ls[k]?=some L):(pln R ns ss ls e)[k]?=some (if cov R s L e=true then n+1 else n):=by
 unfold pln
 rw[ψZ,ψZ,h1,h2,h3]
structure zuh (bs:List Box) (bud:Int) (W:Rat) (xs:List (List Int×Int)):Prop where
 l1:1≤xs.length
 ln:xs.length≤bs.length+1
 pl:∀x∈xs,x.1.length=bs.length∧∀m∈x.1,0≤m∧m≤60
 w0:∀x∈xs,1≤x.2
 wb:∀x∈xs,Bd 1800 x.2
 ch:∀(k:Nat) b,bs[k]?=some b→(xs.map λx=>(x.2:Rat)*chq b (x.1.getD k 0)).sum=W*(((Qu).sum:Int):Rat)
 co:(xs.map λx=>x.2*(zaH bs x.1).sum).sum=bud*(xs.map λx=>x.2).sum
 one:(∀b∈bs,b.1=1)→∀x∈xs,x.1.sum≤bud
theorem zit(f:Int→Int):∀(es ws:List Int) (g:Int),(∀w∈ws,g∣w)→(ψf (λe w=>w.fdiv g*f e) es ws).sum*g=(ψf (λe w=>w*f e) es ws).sum
 | [],_,_,_=>by simp
 | _::_,[],_,_=>by simp
 | e::es,w::ws,g,h=>by
  have ih:=zit f es ws g λx hx=>h x (ψd _ hx)
  have d:=zdb (h w ψe)
  simp only[ψH,ψq]
  rw[Int.add_mul,ih,Int.mul_right_comm,d]
def zgZ(R:Int)(ns ss ls ms ws:List Int):List (List Int×Int):=ψf (λe w=>(pln R ns ss ls e,w)) ms ws
theorem zkx{α:Type}(f:List Int×Int→α)(R:Int)(ns ss ls ms ws:List Int):(zgZ R ns ss ls ms ws).map f=ψf (λe w=>f (pln R ns ss ls e,w)) ms ws:=by
 unfold zgZ
 rw[List.map_zipWith]
theorem zk6(h:Int→Int→Int)(g:Int):∀(es ws:List Int),ψf h es (ws.map λw=>w.fdiv g)=ψf (λe w=>h e (w.fdiv g)) es ws
 | [],_=>by simp
 | _::_,[]=>by simp
 | e::es,w::ws=>by
  rw[ψD,ψH,ψH,zk6 h g es ws]
def cnl(R:Int):List Box→List Int→List Int→Int
 | b::bs,n::ns,L::ls=>b.1*(n*R+L)+cnl R bs ns ls
 | _,_,_=>0
theorem zml{R:Int}{ms ws:List Int}(wR:(ψf (λ_ w=>w) ms ws).sum=R):∀(bs:List Box) (ns ss ls:List Int),ns.length=bs.length→ls.length=bs.length→bs.length≤ss.length→(∀(i:Nat) s L,ss[i]?=some s→ls[i]?=some L→(ψf (λe w=>if cov R s L e=true then w else 0) ms ws).sum=L) →
  (ψf (λe w=>w*(zaH bs (pln R ns ss ls e)).sum) ms ws).sum=cnl R bs ns ls
 | [],ns,ss,ls,_,_,_,_=>by
  rw[zcL (g:=λ_ _=>0) ms ws λe _ w=>by simp[zaH]]
  show _=(0:Int)
  have:∀es us:List Int,(ψf (λ_ _=>(0:Int)) es us).sum=0:=by
   intro es
   induction es with
   | nil=>intro us;rfl
   | cons e es ih =>
    intro us
    cases us with
    | nil=>rfl
    | cons u us =>
     rw[ψH,ψq,ih us]
     rfl
  exact this ms ws
 | _::_,[],_,_,h,_,_,_=>by cases h
 | _::_,_::_,_,[],_,h,_,_=>by cases h
 | _::_,_::_,[],_::_,_,_,h,_=>by cases h
 | b::bs,n::ns,s::ss,L::ls,h1,h2,h3,h=>by
  have ih:=zml wR bs ns ss ls (Nat.succ.inj h1) (Nat.succ.inj h2) (Nat.le_of_succ_le_succ h3) λi s' L' e1 e2=>h (i+1) s' L' e1 e2
  have a:=h 0 s L rfl rfl
  have sc:∀(c:Int) (f:Int→Int→Int) (es us:List Int),(ψf (λe w=>c*f e w) es us).sum=c*(ψf f es us).sum:=by
   intro c f es
   induction es with
   | nil=>intro us;simp
   | cons e es ihe =>
    intro us
    cases us with
    | nil=>simp
    | cons u us =>
     simp only[ψH,ψq]
     rw[ihe us,Int.mul_add]
  rw[zcL (g:=λe w=>(b.1*(n*w+(if cov R s L e=true then w else 0)))+w*(zaH bs (pln R ns ss ls e)).sum) ms ws λe _ w=>?_,ziF,ih,sc b.1 (λe w=>n*w+(if cov R s L e=true then w else 0)),ziF,a,sc n (λ_ w=>w),wR]
  ·rfl
  rw[zoQ]
  show w*(b.1*(if cov R s L e=true then n+1 else n)+(zaH bs (pln R ns ss ls e)).sum)=_
  by_cases c:cov R s L e=true
  ·rw[if_pos c,if_pos c]
   grind
  ·rw[if_neg c,if_neg c]
   grind
theorem zs4{R e:Int}:∀(ns ss ls:List Int),ls.length=ns.length→ns.length≤ss.length→(pln R ns ss ls e).sum=ns.sum+(ψf (λs L=>if cov R s L e=true then (1:Int) else 0) ss ls).sum
 | [],ss,ls,h,_=>by
  have:ls=[]:=List.length_eq_zero_iff.mp h
  subst this
  simp[pln]
 | _::_,_,[],h,_=>by cases h
 | _::_,[],_::_,_,h=>by cases h
 | n::ns,s::ss,L::ls,h1,h2=>by
  rw[zoQ,ψq,zs4 ns ss ls (Nat.succ.inj h1) (Nat.le_of_succ_le_succ h2),ψH,ψq,ψq]
  split <;> omega
theorem zq8{R:Int}:∀(bs:List Box) (ns ls:List Int),(∀b∈bs,b.1=1)→ns.length=bs.length→ls.length=bs.length→cnl R bs ns ls=ns.sum*R+ls.sum
 | [],[],[],_,_,_=>by simp[cnl]
 | [],_::_,_,_,h,_=>by cases h
 | [],[],_::_,_,_,h=>by cases h
 | _::_,[],_,_,h,_=>by cases h
 | _::_,_::_,[],_,_,h=>by cases h
 | b::bs,n::ns,L::ls,hb,h1,h2=>by
  show b.1*(n*R+L)+cnl R bs ns ls=_
  rw[zq8 bs ns ls (λx hx=>hb x (ψd _ hx)) (Nat.succ.inj h1) (Nat.succ.inj h2),hb b ψe,ψq,ψq,Int.one_mul,Int.add_mul]
  omega
theorem zsw{R:Int}{W:Rat}:∀(bs:List Box) (ns:List Int) (ls:List Int),ns.length=bs.length→ls.length=bs.length→(∀(i:Nat) b n L,bs[i]?=some b→ns[i]?=some n→ls[i]?=some L→(L:Rat)=shq W b n*(R:Rat))→(cnl R bs ns ls:Rat)=cys (ψf (λb n=>(b,n,shq W b n)) bs ns)*(R:Rat)
 | [],_,_,_,_,_=>by
  show((0:Int):Rat)=0*(R:Rat)
  rw[show((0:Int):Rat)=0 from rfl]
  grind
 | _::_,[],_,h,_,_=>by cases h
 | _::_,_::_,[],_,h,_=>by cases h
 | b::bs,n::ns,L::ls,h1,h2,h=>by
  have ih:=zsw (R:=R) (W:=W) bs ns ls (Nat.succ.inj h1) (Nat.succ.inj h2) λi b' n' L' e1 e2 e3=>h (i+1) b' n' L' e1 e2 e3
  have h0:=h 0 b n L rfl rfl rfl
  show((b.1*(n*R+L)+cnl R bs ns ls:Int):Rat)=((b.1:Rat)*((n:Rat)+shq W b n)+cys (ψf (λb n=>(b,n,shq W b n)) bs ns))*(R:Rat)
  rw[ψT,ψm,ψT,ψm,ih,h0]
  grind
theorem zyf(A B:Rat)(f:Int→Int→Int)(g:Int→Int→Int):∀(es ws:List Int),(ψf (λe w=>A*(f e w:Rat)+B*(g e w:Rat)) es ws).sum=A*(((ψf f es ws).sum:Int):Rat)+B*(((ψf g es ws).sum:Int):Rat)
 | [],_=>by
  simp only[ψl1,ψY]
  rw[show((0:Int):Rat)=0 from rfl]
  grind
 | _::_,[]=>by
  simp only[ψZ1,ψY]
  rw[show((0:Int):Rat)=0 from rfl]
  grind
 | e::es,w::ws=>by
  simp only[ψH,ψq]
  rw[zyf A B f g es ws,ψT,ψT]
  grind
theorem zmj:∀(ls:List Int) (A:Int) (i:Nat) (a L:Int),(zjw A ls)[i]?=some a→ls[i]?=some L→(zjw A ls)[i+1]?=some (a+L)
 | [],_,_,_,_,_,h=>by cases h
 | L::ls,A,0,a,L',h1,h2=>by
  cases h2
  replace h1:some A=some a:=h1
  cases h1
  cases ls <;> rfl
 | L::ls,A,i+1,a,L',h1,h2=>zmj ls (A+L) i a L' h1 h2
theorem ziE:∀(ls:List Int) (A:Int),(zjw A ls).length=ls.length+1
 | [],_=>rfl
 | L::ls,A=>by
  show(zjw (A+L) ls).length+1=_
  rw[ziE ls (A+L)]
  rfl
theorem zqg{x R k:Int}(h0:0≤x - R*k)(h1:x - R*k<R):x.fdiv R=k:=by
 have m:=zeC h0 h1
 have ex:=ψf1 x R
 have:R*(x.fdiv R - k)=0:=by
  rw[ψN1]
  omega
 rcases Int.mul_eq_zero.mp this with z | z <;> omega
theorem zmK{x L R:Int}(R0:0<R):(x.fmod R+L).fmod R=(x+L).fmod R:=by
 have e:=ψf1 x R
 have e2:=ψf1 (x+L) R
 have f0:=ψd1 (x+L) R0
 have f1:=ψy1 (x+L) R0
 rw[zeC (x:=x.fmod R+L) (k:=(x+L).fdiv R - x.fdiv R) (by rw[ψN1];omega) (by rw[ψN1];omega),ψN1]
 omega
theorem zpd{w:Int}:∀l:List Int,(∀z∈l,0<z)→(0≤l.sum∧(w∈l→w≤l.sum))
 | [],_=>⟨Int.le_refl 0,λh=>by cases h⟩
 | z::l,hp=>by
  obtain⟨h1,h2⟩:=zpd (w:=w) l λy hy=>hp y (ψd _ hy)
  have:=hp z ψe
  rw[ψq]
  refine⟨by omega,λhm=>?_⟩
  rcases List.mem_cons.mp hm with rfl | hm
  ·omega
  ·have:=h2 hm
   omega
theorem zxU{bs:List Box}{ns ls ms:List Int}{bud R g:Int}{W:Rat}(gb:∀b∈bs,GB b)(n0:∀n∈ns,0≤n)(n59:∀n∈ns,n≤59)(G:Gn bs ns)(len:ns.length=bs.length)(lls:ls.length=bs.length)(hL:∀(i:Nat) b n L,bs[i]?=some b→ns[i]?=some n→ls[i]?=some L→(L:Rat)=shq W b n*(R:Rat)∧0≤L∧L≤R)
  (cs:cys (ψf (λb n=>(b,n,shq W b n)) bs ns)=(bud:Rat)) (R0:0<R) (bR:Bd 1800 R) (E:Edg R ms) (lm:ms.length≤bs.length+1) (st:∀a∈zjw 0 ls,a.fmod R∈ms) (Gg:zlq (wds R ms) g) :
  zuh bs bud W (zgZ R ns ((zjw 0 ls).map λa=>a.fmod R) ls ms ((wds R ms).map λw=>w.fdiv g)):=by
 have wl:=zeP R ms
 have wp:=zn2 ms E.srt E.hi
 have wR:(ψf (λ_ w=>w) ms (wds R ms)).sum=R:=by rw[ziw ms _ wl];exact E.whole
 have mp:0<ms.length:=List.length_pos_iff.mpr E.ne
 obtain⟨w1,hw1⟩:∃w,w∈wds R ms:=⟨(wds R ms)[0]'(by omega),ψv1 _⟩
 have w1p:=wp w1 hw1
 have g0:=Gg.ne hw1 (Qf)
 have al:=ziE ls 0
 have sl:((zjw 0 ls).map λa=>a.fmod R).length=bs.length+1:=by rw[ψb,al,lls]
 have arc:∀(i:Nat) s L,((zjw 0 ls).map λa=>a.fmod R)[i]?=some s→ls[i]?=some L→(ψf (λe w=>if cov R s L e=true then w else 0) ms (wds R ms)).sum=L:=λi s L e1 e2=>by
  obtain⟨a,ea,rfl⟩:=zas e1
  have li:=(List.getElem?_eq_some_iff.mp e2).1
  have eb:bs[i]?=some (bs[i]'(by omega)):=ψc _
  have en:ns[i]?=some (ns[i]'(by omega)):=ψc _
  obtain⟨_,L0,L1⟩:=hL i _ _ L eb en e2
  refine E.arc (st a (zao ea)) L0 L1 ?_
  rw[zmK R0]
  exact st _ (zao (zmj ls 0 i a L ea e2))
 generalize hss:((zjw 0 ls).map λa=>a.fmod R)=ss at sl arc ⊢
 have gR:(g:Rat)≠0:=λz=>by
  have:g=0:=by exact_mod_cast z
  omega
 have dv:=Gg.all
 have T:((Qan).map λx=>x.2).sum*g=R:=by
  rw[zkx,zk6 (λ_ w=>w),zcL (g:=λe w=>w.fdiv g*(λ_=>(1:Int)) e) ms (wds R ms) λe _ w=>(ψX1 _).symm,zit (λ_=>(1:Int)) ms _ g dv,zcL (g:=λ_ w=>w) ms (wds R ms) λe _ w=>ψX1 _]
  exact wR
 generalize hT:((Qan).map λx=>x.2).sum=TT at T ⊢
 have mem:∀x∈zgZ R ns ss ls ms ((wds R ms).map λw=>w.fdiv g),∃e∈ms,∃w∈wds R ms,x=(pln R ns ss ls e,w.fdiv g):=zgJ (λx=>∃e∈ms,∃w∈wds R ms,x=(pln R ns ss ls e,w.fdiv g)) λi e w e1 e2=>by
  obtain⟨w',ew,rfl⟩:=zas e2
  exact⟨e,zao e1,w',zao ew,rfl⟩
 have cn:cnl R bs ns ls=bud*R:=by
  have h:=zsw (R:=R) (W:=W) bs ns ls len lls λi b n L e1 e2 e3=>(hL i b n L e1 e2 e3).1
  rw[cs,← ψm] at h
  exact_mod_cast h
 have lx:(Qan).length=ms.length:=by
  unfold zgZ
  rw[ψk,ψb,wl]
  omega
 refine⟨by omega,by omega,λx hx=>?_,λx hx=>?_,λx hx=>?_,λk b hk=>?_,?_,λh1 x hx=>?_⟩
 ·obtain⟨e,he,w,hw,rfl⟩:=mem x hx
  refine⟨by rw[zq6 (Qf) (Qf),len],λm hm=>?_⟩
  obtain⟨i,ei⟩:=ψp hm
  have li:=(List.getElem?_eq_some_iff.mp ei).1
  rw[zq6 (Qf) (Qf)] at li
  have en:ns[i]?=some (ns[i]'li):=ψc _
  have es:ss[i]?=some (ss[i]'(by omega)):=ψc _
  have el:ls[i]?=some (ls[i]'(by omega)):=ψc _
  rw[zvz en es el] at ei
  have:=n0 _ (zao en)
  have:=n59 _ (zao en)
  rw[← Option.some.inj ei]
  split <;> omega
 ·obtain⟨e,he,w,hw,rfl⟩:=mem x hx
  have f:=zdb (dv w hw)
  have p:=wp w hw
  show 1≤w.fdiv g
  refine ψI λc=>?_
  have:=ψW1 (show w.fdiv g≤0 by omega) (ψz g0)
  omega
 ·obtain⟨e,he,w,hw,rfl⟩:=mem x hx
  have f:=zdb (dv w hw)
  have le:w≤R:=by
   rw[← E.whole]
   exact(zpd _ wp).2 hw
  have p:=wp w hw
  exact(bR.le (Qf)).le (zf6 f (Qf))
 ·have lk:=(List.getElem?_eq_some_iff.mp hk).1
  have en:ns[k]?=some (ns[k]'(by omega)):=ψc _
  have es:ss[k]?=some (ss[k]'(by omega)):=ψc _
  have el:ls[k]?=some (ls[k]'(by omega)):=ψc _
  have pa:∀e,(pln R ns ss ls e)[k]?=_:=λe=>zvz (e:=e) (R:=R) en es el
  have A:=arc k _ _ es el
  obtain⟨q,_,_⟩:=hL k b _ _ hk en el
  have nk:=n0 _ (zao en)
  have gk:=G k b _ hk en
  have gbk:=gb b (zao hk)
  generalize ns[k]'(by omega)=n at en pa q nk gk
  generalize ss[k]'(by omega)=s at es pa A
  generalize ls[k]'(by omega)=L at el pa A q
  have U:(ψf (λe w=>w.fdiv g*(λe=>if cov R s L e=true then (1:Int) else 0) e) ms (wds R ms)).sum*g=L:=by
   rw[zit (λe=>if cov R s L e=true then (1:Int) else 0) ms _ g dv,zcL (g:=λe w=>if cov R s L e=true then w else 0) ms (wds R ms) λe _ w=>?_]
   ·exact A
   ·by_cases c:cov R s L e=true
    ·simp only[if_pos c,ψX1]
    ·simp only[if_neg c,Int.mul_zero]
  have T2:(ψf (λe w=>w.fdiv g) ms (wds R ms)).sum=TT:=by
   rw[← hT,zkx,zk6 (λ_ w=>w)]
  rw[zkx]
  have e1:ψf (λe w=>((w:Int):Rat)*chq b ((pln R ns ss ls e).getD k 0)) ms ((wds R ms).map λw=>w.fdiv g)=ψf (λe w=>chq b n*(((w.fdiv g):Int):Rat)+gnq b n*((w.fdiv g*(λe=>if cov R s L e=true then (1:Int) else 0) e:Int):Rat)) ms (wds R ms):=by
   rw[List.zipWith_map_right]
   congr 1
   funext e w
   rw[ψx,pa e]
   show(((w.fdiv g):Int):Rat)*chq b (if cov R s L e=true then n+1 else n)=_
   rw[ψm]
   by_cases c:cov R s L e=true
   ·simp only[if_pos c]
    rw[zoE gbk nk,show((1:Int):Rat)=1 from rfl]
    grind
   ·simp only[if_neg c]
    rw[show((0:Int):Rat)=0 from rfl]
    grind
  show(ψf (λe w=>((w:Int):Rat)*chq b ((pln R ns ss ls e).getD k 0)) ms ((wds R ms).map λw=>w.fdiv g)).sum=_
  rw[hT,e1,zyf (chq b n) (gnq b n) (λ_ w=>w.fdiv g) (λe w=>w.fdiv g*(λe=>if cov R s L e=true then (1:Int) else 0) e),T2]
  generalize (ψf (λe w=>w.fdiv g*(λe=>if cov R s L e=true then (1:Int) else 0) e) ms (wds R ms)).sum=UU at U ⊢
  have TR:(TT:Rat)*(g:Rat)=(R:Rat):=by rw[← ψm,T]
  have UR:(UU:Rat)*(g:Rat)=(L:Rat):=by rw[← ψm,U]
  have sq:shq W b n*gnq b n=W - chq b n:=by
   unfold shq
   generalize gnq b n=x at gk ⊢
   grind
  have h:(chq b n*(TT:Rat)+gnq b n*(UU:Rat))*(g:Rat)=W*(TT:Rat)*(g:Rat):=by
   have a1:(chq b n*(TT:Rat)+gnq b n*(UU:Rat))*(g:Rat)=chq b n*((TT:Rat)*(g:Rat))+gnq b n*((UU:Rat)*(g:Rat)):=by grind
   have a2:W*(TT:Rat)*(g:Rat)=W*((TT:Rat)*(g:Rat)):=by grind
   rw[a1,a2,TR,UR,q]
   have a3:gnq b n*(shq W b n*(R:Rat))=(shq W b n*gnq b n)*(R:Rat):=by grind
   rw[a3,sq]
   grind
  have h2:(chq b n*(TT:Rat)+gnq b n*(UU:Rat) - W*(TT:Rat))*(g:Rat)=0:=by
   generalize chq b n*(TT:Rat)+gnq b n*(UU:Rat)=X at h ⊢
   generalize W*(TT:Rat)=Y at h ⊢
   grind
  rcases Rat.mul_eq_zero.mp h2 with z | z
  ·generalize chq b n*(TT:Rat)+gnq b n*(UU:Rat)=X at z ⊢
   generalize W*(TT:Rat)=Y at z ⊢
   grind
  ·exact absurd z gR
 ·have C:=zml wR bs ns ss ls len lls (Qf) arc
  have D:((Qan).map λx=>x.2*(zaH bs x.1).sum).sum*g=bud*R:=by
   rw[zkx,zk6 (λe w=>w*(zaH bs (pln R ns ss ls e)).sum),zit (λe=>(zaH bs (pln R ns ss ls e)).sum) ms _ g dv,C,cn]
  have:(((Qan).map λx=>x.2*(zaH bs x.1).sum).sum - bud*TT)*g=0:=by
   rw[Int.sub_mul,D,Int.mul_assoc,T]
   omega
  rcases Int.mul_eq_zero.mp this with z | z <;> omega
 ·obtain⟨e,he,w,hw,rfl⟩:=mem x hx
  show(pln R ns ss ls e).sum≤bud
  have e0:=E.lo e he
  have e1:=E.hi e he
  have o:=zq8 (R:=R) bs ns ls h1 len lls
  rw[cn] at o
  have sL:ls.sum=R*(bud - ns.sum):=by
   rw[ψN1,Int.mul_comm R bud,Int.mul_comm R ns.sum]
   omega
  have cc:=zlV (e:=e) R0 ls 0 λL hm=>by
   obtain⟨i,ei⟩:=ψp hm
   have li:=(List.getElem?_eq_some_iff.mp ei).1
   exact(hL i _ _ L (ψc (Qf)) (ψc (Qf)) ei).2
  rw[zs4 ns ss ls (Qf) (Qf),← hss,List.zipWith_map_left,cc,Int.sub_zero,Int.zero_add,sL,zqg (x:=e) (k:=0) (Qf) (Qf),zqg (x:=e - R*(bud - ns.sum)) (k:=-(bud - ns.sum)) (by rw[ψC1];omega) (by rw[ψC1];omega)]
  omega
open HT in
theorem cut1(xs:List V):zpA xs (some 1) none=xs.drop 1:=by
 unfold zpA
 rw[zog,show(some (1:Int))=some ((1:Nat):Int) from rfl,zrR]
 cases xs with
 | nil=>rfl
 | cons x xs =>
  rw[ψM,show min 1 (xs.length+1)=1 by omega]
  exact ψV (by rw[List.length_drop,ψM];omega)
abbrev Mp:=Addr×List Int×Int
abbrev mt1(x:Mp):V:=.ref x.1
abbrev mt2(x:Mp):V:=.int x.2.2
theorem Tps.single{α:Type}{f:α→List V}{H:Hp}{t:Addr}{b:α}(h:H t=some (.tup (f b))):Tps f H [t] [b] :=
 ⟨rfl,λi t' b' e1 e2=>by
  match i with
  | 0 =>
   cases e1
   cases e2
   exact h
  | i+1=>cases e1⟩
structure MxH (H:Hp) (ml:Addr) (us:List Addr) (xs:List Mp):Prop where
 hm:H ml=some (Q0)
 tp:Tps (λx=>[mt1 x,mt2 x]) H us xs
 pl:∀x∈xs,H x.1=some (.lst (x.2.1.map V.int))
theorem MxH.same{H H':Hp}{ml:Addr}{us:List Addr}{xs:List Mp}(h:MxH H ml us xs)(s:zaF H H'):MxH H' ml us xs:=⟨s _ _ h.hm,h.tp.same s,λx hx=>s _ _ (h.pl x hx)⟩
theorem zlB:∀(ls:List Int) (A L:Int),zjw A (ls++[L])=zjw A ls++[A+ls.sum+L]
 | [],A,L=>by
  show [A,A+L]=[A,A+0+L]
  rw[Int.add_zero]
 | M::ls,A,L=>by
  show A::zjw (A+M) (ls++[L])=A::(zjw (A+M) ls++[A+(M+ls.sum)+L])
  rw[zlB ls (A+M) L,Int.add_assoc A M]
theorem zlP:∀(ls:List Int) (A:Int),∃init,zjw A ls=init++[A+ls.sum]
 | [],A=>⟨[],by rw[ψY,Int.add_zero];rfl⟩
 | M::ls,A=>by
  obtain⟨init,e⟩:=zlP ls (A+M)
  exact⟨A::init,by rw[ψq,← Int.add_assoc,zjw,e];rfl⟩
theorem zv0{bs:List Box}{ns:List Int}{bud:Int}(gb:∀b∈bs,GB b)(L:Lev bs ns bud (Qae)){i:Nat}{b:Box}{n:Int}(e1:bs[i]?=some b)(e2:ns[i]?=some n):0≤shq (Qae) b n∧shq (Qae) b n≤1:=by
 have g:=gb b (zao e1)
 have n0:=L.n0 n (zao e2)
 have gn:=L.gn i b n e1 e2
 have gp:0<gnq b n:=by
  have:=zj3 g n
  grind
 obtain⟨m1,m2⟩:=L.mid (b,n) (ψN (List.getElem?_zip_eq_some.mpr ⟨e1,e2⟩))
 replace m1:chq b n≤zdZ bs ns bud:=m1
 replace m2:zdZ bs ns bud≤chq b (n+1):=m2
 rw[zoE g n0] at m2
 have ip:=Rat.inv_pos.mpr gp
 unfold shq
 constructor
 ·rw[ψY1]
  exact ψn1 (by grind) (ψB ip)
 ·have:=ψJ (show zdZ bs ns bud - chq b n≤gnq b n by grind) (ψB ip)
  rw[Rat.mul_inv_cancel _ gn] at this
  rw[ψY1]
  exact this
theorem zsH:∀{a b:List Int},a.Pairwise (·<·)→b.Pairwise (·<·)→(∀y,y∈a↔y∈b)→a=b
 | [],[],_,_,_=>rfl
 | [],y::_,_,_,h=>by have:=(h y).mpr ψe;cases this
 | x::_,[],_,_,h=>by have:=(h x).mp ψe;cases this
 | x::a,y::b,ha,hb,h=>by
  obtain⟨a1,a2⟩:=List.pairwise_cons.mp ha
  obtain⟨b1,b2⟩:=List.pairwise_cons.mp hb
  have e:x=y:=by
   have h1:=(h x).mp ψe
   have h2:=(h y).mpr ψe
   rcases List.mem_cons.mp h1 with z | z
   ·exact z
   rcases List.mem_cons.mp h2 with z' | z'
   ·exact z'.symm
   have:=a1 _ z'
   have:=b1 _ z
   omega
  subst e
  rw[zsH a2 b2 λw=>⟨λm=>?_,λm=>?_⟩]
  ·rcases List.mem_cons.mp ((h w).mp (ψd _ m)) with z | z
   ·have:=a1 w m
    omega
   ·exact z
  ·rcases List.mem_cons.mp ((h w).mpr (ψd _ m)) with z | z
   ·have:=b1 w m
    omega
   ·exact z
def lsOf(W:Rat)(bs:List Box)(ns:List Int)(R:Int):List Int:=(ψf (shq W) bs ns).map λq=>q.num*(R / q.den)
def ssOf(W:Rat)(bs:List Box)(ns:List Int)(R:Int):List Int:=(zjw 0 (lsOf W bs ns R)).map λa=>a.fmod R
def zpS(bs:List Box)(ns:List Int)(W:Rat)(xs:List (List Int×Int)):Prop:=∃(R g:Int) (ms:List Int),Com (ψf (shq W) bs ns) R∧(∀y,y∈ms↔y∈ssOf W bs ns R)∧ms.Pairwise (·<·)∧zlq (wds R ms) g∧xs=zgZ R ns (ssOf W bs ns R) (lsOf W bs ns R) ms ((wds R ms).map λn=>n.fdiv g)
theorem zpS.det{bs:List Box}{ns:List Int}{W:Rat}{xs xs':List (List Int×Int)}(h:zpS bs ns W xs)(h':zpS bs ns W xs'):xs=xs':=by
 obtain⟨R,g,ms,C,a,b,G,rfl⟩:=h
 obtain⟨R',g',ms',C',a',b',G',rfl⟩:=h'
 have e:=C.det C'
 subst e
 have e:=zsH b b' λy=>(a y).trans (a' y).symm
 subst e
 rw[G.det G']
def zsX:Sp:=λvs H Q _=>∃(l pl wr:Addr) (ts:List Addr) (bs:List Box) (ns:List Int) (bud:Int),vs=[.ref l,.ref pl,.ref wr]∧BP H l pl ts bs ns∧Lev bs ns bud (Qae)∧H wr=some (.tup (fr (Qae)))∧bud≤60∧∀(r:Addr) (us:List Addr) (xs:List Mp) (H':Hp),zaF H H'→MxH H' r us xs→zuh bs bud (Qae) (Qu)→zpS bs ns (Qae) (Qu)→H r=none→(∀x∈xs,H x.1=none∧x.1≠r)→(xs.map λx=>x.1).Nodup→Q (QO) H'
def zjP(K:ψa):TS :=
 (zbg (zbS (zb1 (zlG K (zab (zac 5) (Q3))) (Qm) za8 (tOp (QS) (tOp (Qak) (tOp (QJ) (zac 3) (zac 0)) (zac 2)) (zac 1)) [none,none,some 4,some 10]) (zam 12))
 (zbg (zbS (zb1 (zlG K (zab (zac 1) (zab (zac 12) zau))) (Qm) za8 (tIf (tTru K (zac 1)) (tOp (QM) (zac 0) (Qi)) (zac 0)) [none,none]) (zam 13))
 (zgh (tBM K "list" zb8 (zac 9) (zab (zfq (zab (zac 13) (zab (zac 11) zau))) zau)))))
def zbM(K:ψa):=eqT (zjP.eq_1 K)
def zjS(K:ψa):TS :=
 (zgh (tBM K "list" zb8 (zac 5) (zab (tOp (Qak) (tOp (QM) (tOp (zhx K) (zac 5) (tUn (rU λi=>.int (-i)) (Qi))) (zac 6)) (zac 4)) zau)))
def zbL(K:ψa):=eqT (zjS.eq_1 K)
def zjR(K:ψa):TS :=
 (zbg (zbS (tCB (zky K) (zab (zac 5) zau)) (zam 7))
 (zbg (zbS (zb1 (zlG K (zab (zac 7) (zab (tOp zxI (tSl (rSlL K) (zac 7) (zu6 (Qi)) zkW) (zlA (QaC))) zau))) (Qm) za8 (tOp (QJ) (zac 1) (zac 0)) [none,none]) (zam 8))
 (zbg (zbS (zlA zau) (zam 9))
 (zbg (zjW (zlG K (zab (zac 7) (zab (zaA zoA [] E0 (zab (zac 8) zau)) zau))) (zdS K 2 (zaL (zam 10) (zaL (zam 11) zdO)))
 (zjP K))
 (zbP (zac 9))))))
def zbK(K:ψa):=eqT (zjR.eq_1 K)
def zkM(K:ψa):TS :=
 (zbg (zbS (zaA zlc [] E0 (zab (zaA zoH [] E0 (zab (zac 0) (zab (zac 1) (Qap)))) zau)) (zdS K 2 (zaL (zam 3) (zaL (zam 4) zdO))))
 (zbg (zbS (zlA (zab (Qn) zau)) (zam 5))
 (zbg (zjW (zcT K (zac 3)) (zam 6)
 (zjS K))
 (zjR K))))
theorem zrU{l pl wr:Addr}{ts:List Addr}{bs:List Box}{ns:List Int}{bud:Int}(B:BP H l pl ts bs ns)(L:Lev bs ns bud (Qae))(hw:H wr=some (.tup (fr (Qae))))(d1:bud≤60)(q:∀(r:Addr) (us:List Addr) (xs:List Mp) (H':Hp),zaF H H'→MxH H' r us xs→zuh bs bud (Qae) (Qu)→zpS bs ns (Qae) (Qu)→H r=none→(∀x∈xs,H x.1=none∧x.1≠r)→(xs.map λx=>x.1).Nodup→Q (QO) H') :
  zkM K { nx:=λ_ H'=>Q .non H',rt:=Q } (L2.start ["boxes","counts","worth","lengths","ring","starts","length","edges","widths","mix","edge","weight","more","plan"] [.ref l,.ref pl,.ref wr]) H:=by
 unfold zkM
 have l6:=B.l6
 have G:=L.gn
 have bW:=zqk L B.gb B.l1 l6 d1
 have cs:(zaH bs ns).sum≤60:=by have:=L.cb;omega
 generalize hW:zdZ bs ns bud=W at bW hw
 simp_all only [zbM,zbL,zbK,zac]
 refine⟨l,pl,wr,ts,bs,ns,W,rfl,B,G,hw,bW,λsr us H1 s1 h1 T1=>?_⟩
 have lq:(ψf (shq W) bs ns).length=bs.length:=by rw[ψk,B.len];omega
 have bq:∀x∈ψf (shq W) bs ns,Bq 2200 x:=zgJ _ λi b n h1 h2=>zzc (B.gb b (zao h1)) (B.gn n (zao h2)).1 (B.gn n (zao h2)).2 (G i b n h1 h2) bW
 refine⟨sr,us,_,rfl,h1,T1,by omega,bq,λcr tl R H2 s2 C h2 ntl htl=>?_⟩
 have R0:=C.pos
 have bR:Bd 1800 R:=zvN B.gb (λn hn=>(B.gn n hn).1) G l6 cs bW C
 generalize hls:((ψf (shq W) bs ns).map λq=>q.num*(R / q.den))=ls at htl
 have ll:ls.length=bs.length:=by rw[← hls,ψb,lq]
 simp_all only [zbM,zbL,zbK,zac]
 refine⟨_,SqT.of h2,rfl,_,_,rfl,_,_,rfl,rfl,by decide,λsl nsl=>?_⟩
 have s3:=zan nsl (.lst [V.int 0])
 have h3:(L2.upd H2 sl (.lst [V.int 0])) sl=some (.lst [V.int 0]):=zai
 generalize L2.upd H2 sl (.lst [V.int 0])=H3 at s3 h3 ⊢
 have htl3:=s3 _ _ htl
 refine⟨_,rfl,⟨_,SqL.of htl3⟩,?_⟩
 refine zc2 (K:=K) (xs:=ls.map V.int) (λi σ H'=>zaF H2 H'∧∃x:Option V,H' sl=some (.lst (((zjw 0 (ls.take i)).map λa=>a.fmod R).map V.int))∧σ=[some (.ref l),some (.ref pl),some (.ref wr),some (.ref tl),some (.int R),some (.ref sl),x,none,none,none,none,none,none,none]) ⟨s3,_,by rw[h3];show some (HO.lst [V.int 0])=some (HO.lst [V.int ((0:Int).fmod R)]);rw[Int.zero_fmod],rfl⟩ ?_ ?_ ?_
 ·rintro i σ H' _ ⟨s,_⟩
  exact SqL.of (s _ _ htl)
 ·rintro i v σ H4 hx ⟨s4,x,h4,rfl⟩
  obtain⟨n,en,rfl⟩:=zas hx
  have li:=(List.getElem?_eq_some_iff.mp en).1
  obtain⟨init,ei⟩:=zlP (ls.take i) 0
  have en2:ls.take (i+1)=ls.take i++[n]:=by rw[ψu,en];rfl
  have la:=ziE (ls.take i) 0
  rw[ψL] at la
  simp_all only [zbM,zbL,zbK,zac]
  refine⟨.inl ⟨rfl,_,SqL.of h4⟩,_,SqL.of h4,_,by rw[ei,ψK,ψK];exact zt7 _ _,_,rfl,by omega,_,h4,zbe (by rw[ψb,ψb];omega),s4.put nsl,?_⟩
  rw[zai,en2,zlB,ψK (l₂:=[0+(ls.take i).sum+n]),ψK (l₂:=[0+(ls.take i).sum+n].map λa=>a.fmod R),zmK R0]
  rfl
 ·rintro σ H4 ⟨s4,x,h4,rfl⟩
  rw[ψb,ψC] at h4
  have al:=ziE ls 0
  generalize hss:((zjw 0 ls).map λa=>a.fmod R)=ss at h4
  have lss:ss.length=bs.length+1:=by rw[← hss,ψb,al,ll]
  have bss:∀s∈ss,0≤s∧s<R:=λs hs=>by
   rw[← hss] at hs
   obtain⟨a,_,rfl⟩:=List.mem_map.mp hs
   exact⟨ψd1 a R0,ψy1 a R0⟩
  have zss:(0:Int)∈ss:=by
   rw[← hss]
   refine List.mem_map.mpr ⟨0,?_,Int.zero_fmod R⟩
   cases ls <;> exact ψe
  simp_all only [zbM,zbL,zbK,zac]
  refine⟨_,SqL.of h4,by omega,λel ms nel mem srt lms=>?_⟩
  have s5:=zan nel (.lst (Qar))
  have h5:(L2.upd H4 el (.lst (Qar))) el=some (.lst (Qar)):=zai
  generalize L2.upd H4 el (.lst (Qar))=H5 at s5 h5 ⊢
  have mne:ms≠[]:=λz=>by
   have:=(mem 0).mpr zss
   rw[z] at this
   cases this
  have E:Edg R ms:=⟨mne,srt,λy hy=>(bss y ((mem y).mp hy)).1,λy hy=>(bss y ((mem y).mp hy)).2,(mem 0).mpr zss⟩
  have lm:=zeP R ms
  have wp:=zn2 ms E.srt E.hi
  refine⟨_,SqL.of h5,λe2 ne2=>?_⟩
  have s6:=zan ne2 (.lst (zpA (Qar) (some 1) none))
  have h6:(L2.upd H5 e2 (.lst (zpA (Qar) (some 1) none))) e2=some (.lst (zpA (Qar) (some 1) none)):=zai
  generalize L2.upd H5 e2 (.lst (zpA (Qar) (some 1) none))=H6 at s6 h6 ⊢
  rw[cut1] at h6
  refine⟨by decide,λe3 ne3=>?_⟩
  have s7:=zan ne3 (.lst [V.int R])
  have h7:(L2.upd H6 e3 (.lst [V.int R])) e3=some (.lst [V.int R]):=zai
  generalize L2.upd H6 e3 (.lst [V.int R])=H7 at s7 h7 ⊢
  refine⟨_,s7 _ _ h6,_,h7,?_,λe4 ne4=>?_⟩
  ·have:((Qar).drop 1).length≤1000:=by rw[List.length_drop,ψb];omega
   exact ψb1 (Nat.succ_le_succ this) (Qs)
  have s8:=zan ne4 (.lst ((Qar).drop 1++[V.int R]))
  have h8:(L2.upd H7 e4 (.lst ((Qar).drop 1++[V.int R]))) e4=some (.lst ((Qar).drop 1++[V.int R])):=zai
  generalize L2.upd H7 e4 (.lst ((Qar).drop 1++[V.int R]))=H8 at s8 h8 ⊢
  have S8:=s5.trans (s6.trans (s7.trans s8))
  have h5':=s8 _ _ (s7 _ _ (s6 _ _ h5))
  refine⟨⟨_,SqL.of h5'⟩,⟨_,SqL.of h8⟩,λD hD=>?_⟩
  have e8:(Qar).drop 1++[V.int R]=(ms.drop 1++[R]).map V.int:=by rw[ψK,List.map_drop];rfl
  rw[e8] at h8
  refine zeV (vs:=(ψf (λa b=>b - a) ms (ms.drop 1++[R])).map V.int) h5' h8 ?_ ?_ hD (λi x z v H9 R' hx hz hv s9 k=>?_) λH9 s9 h9=>?_
  ·rw[ψb,ψb,ψb,ψk]
  ·rw[ψb,ψk]
   omega
  ·obtain⟨a,ha,rfl⟩:=zas hx
   obtain⟨b,hb,rfl⟩:=zas hz
   obtain⟨c,hc,rfl⟩:=zas hv
   have e:=zin ha hb hc
   subst e
   simp_all only [zbM,zbL,zbK,zac]
   exact k _ (.refl _)
  ·refine⟨by decide,λml nml=>?_⟩
   have sa:=zan nml (.lst [])
   have ha:(L2.upd H9 ml (.lst [])) ml=some (.lst []):=zai
   generalize L2.upd H9 ml (.lst [])=Ha at sa ha ⊢
   rw[zql R ms mne] at h9
   have mp:=List.length_pos_iff.mpr mne
   obtain⟨w1,hw1⟩:∃w,w∈wds R ms:=⟨(wds R ms)[0]'(by omega),ψv1 _⟩
   have w1p:=wp w1 hw1
   have w1R:w1≤R:=by rw[← E.whole];exact(zpd _ wp).2 hw1
   have bw:Bd 9000 w1:=(bR.le (Qf)).mono (Qs)
   refine⟨D,wds R ms,w1,rfl,sa _ _ h9,by omega,hw1,by omega,bw,λlo g Hb sb Gg hb=>?_⟩
   have Sb:=S8.trans (s9.trans (sa.trans sb))
   have h5b:=sb _ _ (sa _ _ (s9 _ _ h5'))
   refine⟨_,rfl,⟨_,SqL.of h5b⟩,⟨_,SqL.of hb⟩,?_⟩
   have S9:zaF H2 H9:=s4.trans (S8.trans s9)
   have Sab:zaF H9 Hb:=sa.trans sb
   refine zoP (K:=K) (xs:=ms.map V.int) (ys:=((wds R ms).map λn=>n.fdiv g).map V.int) (λi σ H'=>zaF H9 H'∧H' el=some (.lst (Qar))∧H' lo=some (.lst (((wds R ms).map λn=>n.fdiv g).map V.int))∧∃(us:List Addr) (xs:List Mp) (y1 y2 y3 y4:Option V),H' ml=some (Q0)∧Tps (λx=>[mt1 x,mt2 x]) H' us xs∧(∀x∈xs,H' x.1=some (.lst (x.2.1.map V.int))∧x.1≠ml∧H x.1=none)∧(xs.map λx=>x.1).Nodup∧xs.map (λx=>x.2)=(zgZ R ns ss ls ms ((wds R ms).map λn=>n.fdiv g)).take i∧σ=[some (.ref l),some (.ref pl),some (.ref wr),some (.ref tl),some (.int R),some (.ref sl),x,some (.ref el),some (.ref D),some (.ref ml),y1,y2,y3,y4]) ⟨Sab,h5b,hb,[],[],_,_,_,_,sb _ _ ha,Tps.nil,by simp,List.nodup_nil,rfl,rfl⟩ ?_ ?_ ?_
   ·rintro i σ H' _ ⟨_,h1,h2,_⟩
    exact⟨SqL.of h1,SqL.of h2⟩
   ·rintro i v1 v2 t σ Hc hv1 hv2 ⟨sc,hec,hlc,us',xs,y1,y2,y3,y4,hmc,Tc,hxc,ndx,exs,rfl⟩ ht
    obtain⟨e,ee,rfl⟩:=zas hv1
    obtain⟨wt,ew,rfl⟩:=zas hv2
    have li:=(List.getElem?_eq_some_iff.mp ee).1
    simp_all only [zbM,zbL,zbK,zac]
    have sd:=zan ht (.tup [V.int e,V.int wt])
    have hd:(L2.upd Hc t (.tup [V.int e,V.int wt])) t=some (.tup [V.int e,V.int wt]):=zai
    generalize L2.upd Hc t (.tup [V.int e,V.int wt])=Hd at sd hd ⊢
    refine⟨_,SqT.of hd,rfl,_,_,rfl,_,_,rfl,rfl,?_⟩
    have S9d:zaF H9 Hd:=sc.trans sd
    have Sd:zaF H4 Hd:=S8.trans (s9.trans S9d)
    have hsd:=Sd _ _ h4
    have htd:Hd tl=some (.lst (ls.map V.int)):=S9d _ _ (S9 _ _ htl)
    have hpd:Hd pl=some (.lst (ns.map V.int)):=S9d _ _ (S9 _ _ (s2 _ _ (s1 _ _ B.hp)))
    refine⟨⟨_,SqL.of hsd⟩,⟨_,SqL.of htd⟩,λD1 hD1=>?_⟩
    refine zeV (vs:=(ψf (λs n=>decide ((e - s).fmod R<n)) ss ls).map V.bl) hsd htd (by rw[ψb,ψb,ψb,ψk]) (by rw[ψb,ψk];omega) hD1 (λi x z v H' R' hx hz hv s k=>?_) λHe se he=>?_
    ·obtain⟨a,ha,rfl⟩:=zas hx
     obtain⟨b,hb,rfl⟩:=zas hz
     obtain⟨c,hc,rfl⟩:=zas hv
     have e:=zin ha hb hc
     subst e
     simp_all only [zbM,zbL,zbK,zac]
     exact⟨by omega,k _ (.refl _)⟩
    have hpe:=se _ _ hpd
    simp_all only [zbM,zbL,zbK,zac]
    refine⟨⟨_,SqL.of hpe⟩,⟨_,SqL.of he⟩,λD2 hD2=>?_⟩
    refine zeV (vs:=(ψf (λn (b:Bool)=>if b=true then n+1 else n) ns (ψf (λs n=>decide ((e - s).fmod R<n)) ss ls)).map V.int) hpe he (by rw[ψb,ψb,ψb,ψk]) (by rw[ψb,ψk,B.len];omega) hD2 (λi x z v H' R' hx hz hv s k=>?_) λHf sf hf=>?_
    ·obtain⟨a,ha,rfl⟩:=zas hx
     obtain⟨b,hb,rfl⟩:=zas hz
     obtain⟨c,hc,rfl⟩:=zas hv
     have e:=zin ha hb hc
     subst e
     simp_all only [zbM,zbL,zbK,zac]
     by_cases c:b=true
     ·rw[if_pos c] at k ⊢
      exact k _ (.refl _)
     ·rw[if_neg c] at k ⊢
      exact k _ (.refl _)
    have Sf:zaF Hc Hf:=sd.trans (se.trans sf)
    refine⟨.inl ⟨rfl,_,SqL.of (Sf _ _ hmc)⟩,by decide,λp np=>?_⟩
    have sg:=zan np (.tup [V.ref D2,V.int wt])
    have hg:(L2.upd Hf p (.tup [V.ref D2,V.int wt])) p=some (.tup [V.ref D2,V.int wt]):=zai
    generalize L2.upd Hf p (.tup [V.ref D2,V.int wt])=Hg at sg hg ⊢
    have Sg:=Sf.trans sg
    have eml:el≠ml:=zaG (s9 _ _ h5') nml
    have lml:lo≠ml:=λz=>by
     subst z
     have z1:=sb _ _ ha
     rw[hb] at z1
     have z2:=congrArg List.length (HO.lst.inj (Option.some.inj z1))
     rw[ψb,ψb,lm] at z2
     exact mne (List.length_eq_zero_iff.mp z2)
    have lxs:xs.length≤i:=by
     have:=congrArg List.length exs
     rw[ψb,ψL] at this
     omega
    have hm':=Sg _ _ hmc
    have pml:p≠ml:=λz=>by
     subst z
     rw[hg] at hm'
     cases hm'
    have Dml:D2≠ml:=(zaG (se _ _ (sd _ _ hmc)) hD2).symm
    have T2:=Tc.1
    refine⟨_,hm',zbe (by rw[ψb];omega),(sc.trans Sg).put nml,by rw[zaM eml];exact Sg _ _ hec,by rw[zaM lml];exact Sg _ _ hlc,us'++[p],by rw[zai,ψK];rfl,xs++[(D2,pln R ns ss ls e,wt)],?_,λy hy=>?_,?_,?_⟩
    ·refine Tc.put (λy w e=>?_) (by rw[zaM pml];exact hg)
     have nx:y≠ml:=λz=>by
      subst z
      rw[e] at hmc
      cases hmc
     rw[zaM nx]
     exact Sg _ _ e
    ·rcases List.mem_append.mp hy with z | z
     ·obtain⟨z1,z2,z3⟩:=hxc y z
      exact⟨by rw[zaM z2];exact Sg _ _ z1,z2,z3⟩
     ·rw[List.mem_singleton.mp z]
      exact⟨by rw[zaM Dml];exact sg _ _ hf,Dml,(s1.trans (s2.trans (S9.trans (S9d.trans se)))).free hD2⟩
    ·rw[ψK,List.nodup_append]
     refine⟨ndx,by simp,λu hu v hv z=>?_⟩
     obtain⟨y,hy,rfl⟩:=List.mem_map.mp hu
     obtain⟨z1,_⟩:=hxc y hy
     exact absurd (se _ _ (sd _ _ z1)) (by rw[z,List.mem_singleton.mp hv,hD2];exact nofun)
    ·rw[ψK,exs,zgZ,zhs _ _ _ ee ew]
     rfl
   ·rintro σ Hc ⟨sc,hec,hlc,us',xs,y1,y2,y3,y4,hmc,Tc,hxc,ndx,exs,rfl⟩
    simp_all only [zbM,zbL,zbK,zac]
    refine q ml us' xs Hc (s1.trans (s2.trans (S9.trans sc))) ⟨hmc,Tc,λy hy=>(hxc y hy).1⟩ ?_ ?_ ((s1.trans (s2.trans S9)).free nml) (λy hy=>⟨(hxc y hy).2.2,(hxc y hy).2.1⟩) ndx
    rw[exs,ψV (by simp only[zgZ,ψk,ψb];omega),← hss]
    have hWb:zdZ bs ns bud=W:=hW
    rw[hWb]
    refine zxU B.gb (λn hn=>(B.gn n hn).1) L.n59 G B.len ll (λi b n M e1 e2 e3=>?_) ?_ R0 bR E (Qf) (λa ha=>(mem _).mpr (by rw[← hss];exact List.mem_map.mpr ⟨a,ha,rfl⟩)) Gg
    ·rw[← hls] at e3
     obtain⟨q',eq',rfl⟩:=zas e3
     have eqq:=zin e1 e2 eq'
     have tq:=zvA (C.all q' (zao eq'))
     have su:=zv0 B.gb L e1 e2
     rw[hWb,← eqq] at su
     rw[← eqq]
     have RR:(0:Rat)<(R:Rat):=by exact_mod_cast R0
     have a1:=ψn1 su.1 (ψB RR)
     have a2:=ψJ su.2 (ψB RR)
     rw[← tq] at a1 a2
     rw[Rat.one_mul] at a2
     exact⟨tq,by exact_mod_cast a1,by exact_mod_cast a2⟩
    ·rw[zvB W bs ns B.gb G B.len,← hWb]
     have wi:=ziv (bud:=bud) (bs:=bs) (ns:=ns) (by have:=zg7 B.gb G (ziM B.l1 B.len);grind)
     rw[wi,ψU1]
     grind
    ·have e1:lsOf W bs ns R=ls:=hls
     have e2:ssOf W bs ns R=ss:=by rw[ssOf,e1];exact hss
     rw[hW,exs,ψV (by simp only[zgZ,ψk,ψb];omega)]
     exact⟨R,g,ms,C,λy=>by rw[e2];exact mem y,srt,Gg,by rw[e1,e2]⟩
theorem zcx:zay ["boxes","counts","worth","lengths","ring","starts","length","edges","widths","mix","edge","weight","more","plan"] (QaI) (zag zgb):=(Qa)
theorem zs6(T:Txt K mg a):zci P w K mg base CX0 5 a.faQ a.daQ (QaI) zsX:=by
 have Gaf:=zl6 (P:=P) (w:=w) (base:=base) T
 have GaP:=zjq (P:=P) (w:=w) (base:=base) T
 have Gaw:=zp8 (P:=P) (w:=w) (base:=base) T
 refine T.FaQ.ok zcx (Qj) (Qe)
 all_goals obtain⟨l,pl,wr,ts,bs,ns,bud,rfl,B,L,hw,d1,q⟩:=h
 ·rfl
 exact⟨zkM K,(zae (zc1 (zak Gaf (Qc) rfl T.maf T.Faf.kp T.baf .nil zaB (zaa (zak GaP (Qc) rfl T.maP T.FaP.kp T.baP .nil zaB (zaa (pv 0) (zaa (pv 1) (Qax)))) zad)) (zbs rfl (zal (zaj (i:=3) zcx.nd rfl (Qh)) (zal (zaj (i:=4) zcx.nd rfl (Or.inr rfl)) za6))))
 (zae (zaX (i:=5) zcx.nd rfl (Qh) (zea (Q4)))
 (zae (zdq PassesOwn.never rfl (zbz (pv 3)) (zaj (i:=6) zcx.nd rfl (Qh))
 (zah (zdi (znk ψi1 ψg1 ψh1 zdj (pv 5) (zaa (zaz zhK (zaz zdC (zax zbX (pv 5) (zxg zsa zaf) (Qo)) (pv 6)) (pv 4)) zad)))))
 (zae (zaX (i:=7) zcx.nd rfl (Qh) (zpw rfl T.z_sorted rfl T.z_set (zaa (pv 5) zad)))
 (zae (zcy (i:=8) zcx.nd rfl rfl (sc:=zag zgb) (N:=["boxes","counts","worth","lengths","ring","starts","length","edges","widths","mix","edge","weight","more","plan"]) (Nc:=["ahead","behind"]) (cap:=[none,none]) rfl rfl rfl (Ql) (zec rfl T.z_zip (zaa (pv 7) (zaa (zaz zoT (zpb zta (pv 7) (zqS zaf) zrr) (zea (zaa (pv 4) zad))) zad))) (λ_ _ _ _=>(zbs rfl (zal (zaj (i:=0) (show ψh (["ahead","behind"]:List Str) from by decide) rfl (Qh)) (zal (zaj (i:=1) (show ψh (["ahead","behind"]:List Str) from by decide) rfl (Qh)) za6)))) (QD) (λ_ _ _ _=>(zaz zdy (pv 1) (pv 0))))
 (zae (zaX (i:=9) zcx.nd rfl (Qh) (zea zad))
 (zae (zdq PassesOwn.never rfl (zec rfl T.z_zip (zaa (pv 7) (zaa (zak Gaw (Qc) rfl T.maw T.Faw.kp T.baw .nil zaB (zaa (pv 8) zad)) zad))) (zbs rfl (zal (zaj (i:=10) zcx.nd rfl (Or.inr rfl)) (zal (zaj (i:=11) zcx.nd rfl (Qh)) za6)))
 (zae (zcy (i:=12) zcx.nd rfl rfl (sc:=zag zgb) (N:=["boxes","counts","worth","lengths","ring","starts","length","edges","widths","mix","edge","weight","more","plan"]) (Nc:=["start","length","ring","edge"]) (cap:=[none,none,some 4,some 10]) rfl rfl rfl (Ql) (zec rfl T.z_zip (zaa (pv 5) (zaa (pv 3) zad))) (λ_ _ _ _=>(zbs rfl (zal (zaj (i:=0) (show ψh (["start","length","ring","edge"]:List Str) from by decide) rfl (Qh)) (zal (zaj (i:=1) (show ψh (["start","length","ring","edge"]:List Str) from by decide) rfl (Qh)) za6)))) (QD) (λ_ _ _ _=>(zbT zi4 (zaz zhK (zaz zdy (pv 3) (pv 0)) (pv 2)) (pv 1) (zaV _))))
 (zae (zcy (i:=13) zcx.nd rfl rfl (sc:=zag zgb) (N:=["boxes","counts","worth","lengths","ring","starts","length","edges","widths","mix","edge","weight","more","plan"]) (Nc:=["count","one"]) (cap:=[none,none]) rfl rfl rfl (Ql) (zec rfl T.z_zip (zaa (pv 1) (zaa (pv 12) zad))) (λ_ _ _ _=>(zbs rfl (zal (zaj (i:=0) (show ψh (["count","one"]:List Str) from by decide) rfl (Qh)) (zal (zaj (i:=1) (show ψh (["count","one"]:List Str) from by decide) rfl (Qh)) za6)))) (QD) (λ_ _ _ _=>(zoG (zow (pv 1) (λ_=>rfl)) (zaz zdC (pv 0) zaf) (pv 0))))
 (zah (zdi (znk ψi1 ψg1 ψh1 zdj (pv 9) (zaa (zbR (zaa (pv 13) (zaa (pv 11) zad))) zad)))))))
 (zah (zat (pv 9)))))))))),
  zrU B L hw d1 q⟩
def zhF(K:ψa):TS :=
 (zbP (ze3 (tCB (zhy K) (zab (zac 0) (zab (tC (.ty "int")) zau))) (zrI (tCB (zhy K) (zab (zac 0) (zab (tC (.ty "bool")) zau))))))
theorem znX{x:Int}(q:Q (.bl true) H):zhF K { nx:=λ_ H'=>Q .non H',rt:=Q } (L2.start ["thing"] [.int x]) H:=by
 unfold zhF
 simp_all only [zac]
 refine ziR ⟨_,rfl,zp1 ?_⟩
 exact zh9 ⟨_,rfl,q⟩
theorem znm:zay ["thing"] ["thing"] (zag zhA):=(Qa)
theorem zfd(T:Txt K mg a):zci P w K mg base CX0 1 a.fJ a.dJ ["thing"] zhS:=by
 refine T.FJ.ok znm (Qj) (Qe)
 all_goals obtain⟨x,rfl,q⟩:=h
 ·rfl
 exact⟨zhF K,(zah (zat (zdD (zap za9 rfl T.z_isinstance ψi (zaa (pv 0) (zaa (zbW rfl T.z_int zkw rfl) zad))) (zeY (zsG (zap za9 rfl T.z_isinstance ψi (zaa (pv 0) (zaa (zbW rfl T.z_bool zmD rfl) zad)))))))),
  znX q⟩
def zeT:Sp:=λvs H Q _=>∃x l m:Int,vs=[.int x,.int l,.int m]∧Q (.bl (decide (l≤x∧x≤m))) H
def zgO:TS :=
 (zbP (ze3 (zaA zhS [] E0 (QA)) (zmv (Q6) (Q6) (zac 1) (zac 0) (zac 2))))
theorem zmo{x l m:Int}(q:Q (.bl (decide (l≤x∧x≤m))) H):zgO { nx:=λ_ H'=>Q .non H',rt:=Q } (L2.start ["thing","least","most"] [.int x,.int l,.int m]) H:=by
 unfold zgO
 simp_all only [zac]
 refine⟨x,rfl,true,rfl,zp1 ?_⟩
 by_cases c:l≤x
 ·rw[if_pos c]
  by_cases d:x≤m
  ·rw[decide_eq_true (show l≤x∧x≤m from⟨c,d⟩)] at q
   rw[decide_eq_true d]
   exact q
  ·rw[decide_eq_false (λz:l≤x∧x≤m=>d z.2)] at q
   rw[decide_eq_false d]
   exact q
 ·rw[if_neg c]
  rw[decide_eq_false (λz:l≤x∧x≤m=>c z.1)] at q
  exact q
theorem zmN:zay ["thing","least","most"] ["thing","least","most"] (zag zgV):=(Qa)
theorem zfH(T:Txt K mg a):zci P w K mg base CX0 2 a.fM a.dM ["thing","least","most"] zeT:=by
 have GJ:=zfd (P:=P) (w:=w) (base:=base) T
 refine T.FM.ok zmN (Qj) (Qe)
 all_goals obtain⟨x,l,m,rfl,q⟩:=h
 ·rfl
 exact⟨zgO,(zah (zat (zdD (zak GJ (Qc) rfl T.mJ T.FJ.kp T.bJ .nil zaB (Qag)) (zeY (zuQ zk1 zk1 (pv 1) (pv 0) (pv 2)))))),
  zmo q⟩
def zjM(K:ψa):TS :=
 (zbg (zbS (zac 0) (zdS K 3 (zaL (zam 1) (zaL (zam 2) (zaL (zam 3) zdO)))))
 (zbP (ze3 (zaA zeT [] E0 (zab (zac 1) (zab (Qi) (zab (tC (.int 60)) zau)))) (ze3 (zaA zeT [] E0 (zab (zac 3) (zab (Qi) (zab (tC (.int 50)) zau)))) (zaA zeT [] E0 (zab (zac 2) (zab (Qi) (Q3))))))))
def zfb(K:ψa):=eqT (zjM.eq_1 K)
def zjY(K:ψa):TS :=
 (zdI (tOr (zeM (QP)) (zbZ (tOp rNe (Qaq) (tC (.int 3))))) (Qt) zbU)
def ze7(K:ψa):=eqT (zjY.eq_1 K)
def zkN(K:ψa):TS :=
 (zbg (zeK (zjY K))
 (zjM K))
theorem zr8{p:Addr}{b:Box}(hp:H p=some (.tup (bx b)))(g:GB b)(q:Q (.bl true) H):zkN K { nx:=λ_ H'=>Q .non H',rt:=Q } (L2.start ["thing","cost","hits","of"] [.ref p]) H:=by
 unfold zkN
 obtain⟨g1,g2,g3,g4,g5⟩:=g
 simp_all only [zfb,ze7,zac]
 refine⟨λσ H'=>H'=H∧σ=[some (.ref p),none,none,none],?_,?_⟩
 ·simp_all only [zfb,ze7,zac]
  refine zcq hp (Qal)
  refine zb5 (Qk) (QaF)
  refine⟨_,.inr (SqT.of hp),?_⟩
  exact zb5 (QK) (λ_=>rfl)
 ·rintro σ H' ⟨e,rfl⟩
  rw[e]
  simp_all only [zfb,ze7,zac]
  refine⟨_,SqT.of hp,rfl,_,_,rfl,_,_,rfl,_,_,rfl,rfl,?_⟩
  refine⟨_,_,_,rfl,true,by rw[decide_eq_true ⟨g1,g2⟩],zp1 ⟨_,_,_,rfl,true,by rw[decide_eq_true (show 1≤b.2.2∧b.2.2≤50 from⟨by omega,g5⟩)],zp1 ⟨_,_,_,rfl,?_⟩⟩⟩
  rw[decide_eq_true ⟨g3,g4⟩]
  exact q
theorem zht:zay ["thing","cost","hits","of"] ["thing"] (zag zkZ):=(Qa)
theorem zr2(T:Txt K mg a):zci P w K mg base CX0 3 a.faA a.daA ["thing"] zrP:=by
 have GM:=zfH (P:=P) (w:=w) (base:=base) T
 refine T.FaA.ok zht (Qj) (Qe)
 all_goals obtain⟨p,b,rfl,hp,g,q⟩:=h
 ·rfl
 exact⟨zkN K,(zae (Qy)
 (zae (zc1 (pv 0) (zbs rfl (zal (zaj (i:=1) zht.nd rfl (Qh)) (zal (zaj (i:=2) zht.nd rfl (Qh)) (zal (zaj (i:=3) zht.nd rfl (Qh)) za6)))))
 (zah (zat (zdD (zak GM (Qc) rfl T.mM T.FM.kp T.bM .nil zaB (zaa (pv 1) (zaa zaf (zaa (zhE rfl T.m_MOST_COST ⟨_,rfl⟩) zad)))) (zdD (zak GM (Qc) rfl T.mM T.FM.kp T.bM .nil zaB (zaa (pv 3) (zaa zaf (zaa (zhE rfl T.m_MOST_OF ⟨_,rfl⟩) zad)))) (zeY (zak GM (Qc) rfl T.mM T.FM.kp T.bM .nil zaB (zaa (pv 2) (zaa zaf (zaa (pv 3) zad))))))))))),
  zr8 hp g q⟩
theorem zct{K:ψa}{H:Hp}{Q:VK}{r:Addr}{xs:List V}(h:H r=some (.lst xs))(q:Q (.bl true) H):zhy K [.ref r,.ty "list"] H Q:=⟨_,_,_,_,true,rfl,rfl,.of (.lst h),rfl,q⟩
theorem znV{bs:List Bool}(h:∀b∈bs,b=true):bs.all id=true:=List.all_eq_true.mpr h
def zfY(K:ψa):TS :=
 (zdI (tOr (zeM (tB (QV))) (tOr (zeM (zbZ (zmv (Q6) (Q6) (Qi) (Qaq) (tC (.int 6))))) (zeM (tB (tCB (zu9 K) (zab (zb1 (QaH) (zam 0) za8 (zaA zrP [] E0 (QA)) [none]) zau)))))) zoV zbU)
theorem zkg{l:Addr}{ts:List Addr}{bs:List Box}(hl:H l=some (QG))(hb:Tps bx H ts bs)(gb:∀b∈bs,GB b)(l1:1≤bs.length)(l6:bs.length≤6)(q:∀H',zaF H H'→Q .non H') :
  zfY K { nx:=λ_ H'=>Q .non H',rt:=Q } (L2.start ["boxes"] [.ref l]) H:=by
 unfold zfY
 simp_all only [zac]
 refine zct hl (Qal)
 refine zb5 (Qk) (QaF)
 refine⟨_,.inl (SqL.of hl),?_⟩
 rw[ψb,hb.1]
 refine zb5 (QaF) (λz=>absurd (show(1:Int)≤(bs.length:Int) by omega) z)
 refine zb5 (λz=>absurd (show(bs.length:Int)≤6 by omega) z) (QaF)
 refine⟨⟨_,SqL.of hl⟩,λD hD=>?_⟩
 refine zcz (K:=K) (xs:=ts.map V.ref) (λi ys σ H'=>zaF H H'∧∃cs:List Bool,ys=cs.map V.bl∧(∀b∈cs,b=true)∧cs.length≤i∧∃z,σ=[z]) ⟨zan hD _,[],rfl,by simp,by simp,_,rfl⟩ ?_ ?_ ?_
 ·rintro i ys σ H' _ ⟨s,_⟩
  exact SqL.of (s _ _ hl)
 ·rintro i x ys σ H' hx hD' ⟨s,cs,rfl,hc,lc,z,rfl⟩
  obtain⟨t,ht,rfl⟩:=zas hx
  obtain⟨b,hb1,hb2⟩:=hb.at ht
  have hi:=(List.getElem?_eq_some_iff.mp ht).1
  simp_all only [zac]
  refine⟨t,b,rfl,s _ _ hb2,gb b (zao hb1),_,hD',zbe (by rw[ψb];have:=hb.1;omega),_,zai,s.put hD,cs++[true],by simp,?_,by rw[ψR];exact Nat.succ_le_succ lc⟩
  intro b hb
  rcases List.mem_append.mp hb with h | h
  ·exact hc b h
  ·simpa using h
 ·rintro ys σ H' hD' ⟨s,cs,rfl,hc,_,z,rfl⟩
  simp_all only [zac]
  refine⟨_,SqL.of hD',?_⟩
  rw[znV hc]
  exact zb5 (Qk) (λ_=>q _ s)
theorem zln:zay ["boxes"] ["boxes"] (zag zer):=(Qa)
theorem zhm(T:Txt K mg a):zci P w K mg base CX0 4 a.fah a.dah ["boxes"] zsF:=by
 have GaA:=zr2 (P:=P) (w:=w) (base:=base) T
 refine T.Fah.ok zln (Qj) (Qe)
 all_goals obtain⟨l,ts,bs,rfl,hl,hb,gb,l1,l6,q⟩:=h
 ·rfl
 exact⟨zfY K,(zah (zbY (PW.pt (zcP (zbG (zbr (QF))) (zcP (zbG (zuJ zk1 zk1 zaf (Qq) (zhE rfl T.m_MOST_BOXES ⟨_,rfl⟩))) (zcB (zbG (zbr (zap (zga rfl) rfl T.z_all ψz1 (zaa (zbC (sc:=zag zer) (N:=["boxes"]) (Nc:=["box"]) (cap:=[none]) rfl rfl rfl (Ql) (zbz (pv 0)) (Q9) (QD) (λ_ _ _ _=>(zak GaA (Qc) rfl T.maA T.FaA.kp T.baA .nil zaB (Qag)))) zad)))))))) (zah zlo) zaY)),
  zkg hl hb gb l1 l6 q⟩
def zfE:Sp:=λvs H Q _=>∃n:Int,vs=[.int n]∧0≤n∧n≤60∧Q .non H
def zff:TS :=
 (zdI (zeM (tB (zaA zeT [] E0 (zab (zac 0) (zab (Qn) (zab (tC (.int 60)) zau)))))) zoV zbU)
theorem zjC{n:Int}(n0:0≤n)(n1:n≤60)(q:Q .non H):zff { nx:=λ_ H'=>Q .non H',rt:=Q } (L2.start ["budget"] [.int n]) H:=by
 unfold zff
 simp_all only [zac]
 exact⟨n,0,60,rfl,true,by rw[decide_eq_true ⟨n0,n1⟩],zb5 (Qk) (λ_=>q)⟩
theorem zjy:zay ["budget"] ["budget"] (zag ze1):=(Qa)
theorem zgr(T:Txt K mg a):zci P w K mg base CX0 3 a.fai a.dai ["budget"] zfE:=by
 have GM:=zfH (P:=P) (w:=w) (base:=base) T
 refine T.Fai.ok zjy (Qj) (Qe)
 all_goals obtain⟨n,rfl,n0,n1,q⟩:=h
 ·rfl
 exact⟨zff,(zah (zbY (zbG (zbr (zak GM (Qc) rfl T.mM T.FM.kp T.bM .nil zaB (zaa (pv 0) (zaa zaf (zaa (zhE rfl T.m_MOST_BUDGET ⟨_,rfl⟩) zad)))))) (zah zlo) zaY)),
  zjC n0 n1 q⟩
def zo7:Sp:=λvs H Q _=>∃(l:Addr) (ts:List Addr) (bs:List Box) (bud:Int),vs=[.ref l,.int bud]∧H l=some (QG)∧Tps bx H ts bs∧bs.length≤6∧∀(c:Bool) (H':Hp),zaF H H'→(c=true↔(Qaz)∧(bs.map λb=>b.1).sum≤bud)→Q (.bl c) H'
def ziW(K:ψa):TS :=
 (zbP (ze3 (tCB (zu9 K) (zab (zb1 (QaH) (zdS K 3 (zaL (zam 0) (zaL (zam 1) (zaL (zam 2) zdO)))) za8 (tOp rEq (zac 1) (zac 2)) [none,none,none]) zau)) (tOp (Q6) (tCB (zlH K) (zab (zb1 (QaH) (zam 0) za8 (QE) [none]) zau)) (zac 1))))
theorem zpf{l:Addr}{ts:List Addr}{bs:List Box}{bud:Int}(hl:H l=some (QG))(T:Tps bx H ts bs)(l6:bs.length≤6)(q:∀(c:Bool) (H':Hp),zaF H H'→(c=true↔(Qaz)∧(bs.map λb=>b.1).sum≤bud)→Q (.bl c) H') :
  ziW K { nx:=λ_ H'=>Q .non H',rt:=Q } (L2.start ["boxes","budget"] [.ref l,.int bud]) H:=by
 unfold ziW
 simp_all only [zac]
 refine⟨⟨_,SqL.of hl⟩,λD hD=>?_⟩
 refine zcz (K:=K) (xs:=ts.map V.ref) (λi ys σ H'=>zaF H H'∧ys=((bs.take i).map λb=>decide (b.2.1=b.2.2)).map V.bl∧∃x y z,σ=[x,y,z]) ⟨zan hD _,rfl,_,_,_,rfl⟩ ?_ ?_ ?_
 ·rintro i ys σ H' _ ⟨s,_⟩
  exact SqL.of (s _ _ hl)
 ·rintro i x ys σ H' hx hD' ⟨s,rfl,x,y,z,rfl⟩
  obtain⟨t,ht,rfl⟩:=zas hx
  obtain⟨b,hb1,hb2⟩:=T.at ht
  simp_all only [zac]
  refine⟨_,SqT.of (s _ _ hb2),rfl,_,_,rfl,_,_,rfl,_,_,rfl,rfl,?_⟩
  simp_all only [zac]
  refine⟨_,hD',zbe (by rw[ψb,ψb,ψL];omega),_,zai,s.put hD,?_⟩
  rw[ψu,hb1]
  simp
 ·rintro ys σ H1 h1 ⟨s1,rfl,x,y,z,rfl⟩
  rw[ψb,T.1,ψC] at h1
  simp_all only [zac]
  refine⟨_,SqL.of h1,?_⟩
  by_cases c:∀b∈bs,b.2.1=b.2.2
  ·have e:((bs.map λb=>decide (b.2.1=b.2.2)).all id)=true:=List.all_eq_true.mpr λx hx=>by
    obtain⟨b,hb,rfl⟩:=List.mem_map.mp hx
    exact decide_eq_true (c b hb)
   rw[e]
   refine zp1 ?_
   have hl1:=s1 _ _ hl
   refine⟨⟨_,SqL.of hl1⟩,λD2 hD2=>?_⟩
   refine zdd (vs:=(bs.map λb=>b.1).map V.int) hl1 (by simp[T.1]) (by simp;omega) hD2 (λi x v H' R hx hv s k=>?_) λH2 s2 h2=>?_
   ·obtain⟨t,ht,rfl⟩:=zas hx
    obtain⟨w,hw,rfl⟩:=zas hv
    obtain⟨b,hb,rfl⟩:=zas hw
    obtain⟨b',hb1,hb2⟩:=T.at ht
    rw[hb] at hb1
    cases hb1
    simp_all only [zac]
    exact⟨_,SqT.of (s _ _ (s1 _ _ hb2)),_,rfl,k _ (.refl _)⟩
   ·simp_all only [zac]
    refine⟨_,SqL.of h2,?_⟩
    exact q _ H2 (s1.trans s2) ⟨λh=>⟨c,of_decide_eq_true h⟩,λh=>decide_eq_true h.2⟩
  ·have e:((bs.map λb=>decide (b.2.1=b.2.2)).all id)=false:=by
    rw[Bool.eq_false_iff]
    intro z
    refine c λb hb=>?_
    have:=List.all_eq_true.mp z _ (List.mem_map.mpr ⟨b,hb,rfl⟩)
    exact of_decide_eq_true this
   rw[e]
   refine iteF ?_
   exact q _ H1 s1 ⟨λh=>absurd h (Qs),λh=>absurd h.1 c⟩
theorem zpx:zay ["boxes","budget"] ["boxes","budget"] (zag zfL):=(Qa)
theorem zpC(T:Txt K mg a):zci P w K mg base CX0 1 a.faT a.daT ["boxes","budget"] zo7:=by
 refine T.FaT.ok zpx (Qj) (Qe)
 all_goals obtain⟨l,ts,bs,bud,rfl,hl,T',l6,q⟩:=h
 ·rfl
 exact⟨ziW K,(zah (zat (zdD (zap (zga rfl) rfl T.z_all ψz1 (zaa (zbC (sc:=zag zfL) (N:=["boxes","budget"]) (Nc:=["cost","hits","of"]) (cap:=[none,none,none]) rfl rfl rfl (Ql) (zbz (pv 0)) (λ_ _ _ _=>(zbs rfl (zal (zaj (i:=0) (show ψh (["cost","hits","of"]:List Str) from by decide) rfl (Qh)) (zal (zaj (i:=1) (show ψh (["cost","hits","of"]:List Str) from by decide) rfl (Qh)) (zal (zaj (i:=2) (show ψh (["cost","hits","of"]:List Str) from by decide) rfl (Qh)) za6))))) (QD) (λ_ _ _ _=>(zbT zjs (pv 1) (pv 2) (zaV _)))) zad)) (zeY (zbT zk1 (zap (zcp rfl) rfl T.z_sum ψG (zaa (zbC (sc:=zag zfL) (N:=["boxes","budget"]) (Nc:=["box"]) (cap:=[none]) rfl rfl rfl (Ql) (zbz (pv 0)) (Q9) (QD) (λ_ _ _ _=>(Qg))) zad)) (pv 1) (zaV _)))))),
  zpf hl T' l6 q⟩
def zbx(ts:List Addr):List Int:=ts.map λ_=>(1:Int)
def zve:Sp:=λvs H Q _=>∃(l:Addr) (ts:List Addr),vs=[.ref l]∧H l=some (QG)∧ts.length≤6∧∀(r wr mr pr wl pp cl t u:Addr) (H':Hp),zaF H H'→H' r=some (.tup [.ref wr,.ref mr,.ref pr])→H' wr=some (.tup (fr 1))→H' pr=some (Qaa)→H' wl=some (.lst (QY))→H' pp=some (.tup (fr 0))→H' cl=some (.lst (QY))→MxH H' mr [t] [(u,zbx ts,1)]→H mr=none→H wl=none→H cl=none→H u=none→[mr,wl,cl,u].Nodup→Q (QO) H'
def zfi(K:ψa):TS :=
 (zbg (zbS (zb1 (QaH) (zam 0) za8 (Qi) [none]) (zam 1))
 (zbP (zfq (zab (zfq (zab (Qi) (zab (Qi) zau))) (zab (zlA (zab (zfq (zab (tCB (Qr) (Qz)) (zab (Qi) zau))) zau)) (zab (zfq (zab (tCB (Qr) (Qz)) (zab (zfq (zab (Qn) (zab (Qi) zau))) (zab (tCB (Qr) (Qz)) zau)))) zau))))))
theorem zjD{l:Addr}{ts:List Addr}(hl:H l=some (QG))(l6:ts.length≤6)(q:∀(r wr mr pr wl pp cl t u:Addr) (H':Hp),zaF H H'→H' r=some (.tup [.ref wr,.ref mr,.ref pr])→H' wr=some (.tup (fr 1))→H' pr=some (Qaa)→H' wl=some (.lst (QY))→H' pp=some (.tup (fr 0))→H' cl=some (.lst (QY))→MxH H' mr [t] [(u,zbx ts,1)]→H mr=none→H wl=none→H cl=none→H u=none→[mr,wl,cl,u].Nodup→Q (QO) H') :
  zfi K { nx:=λ_ H'=>Q .non H',rt:=Q } (L2.start ["boxes","ones"] [.ref l]) H:=by
 unfold zfi
 simp_all only [zac]
 refine⟨⟨_,SqL.of hl⟩,λD hD=>?_⟩
 refine zdd (vs:=(zbx ts).map V.int) hl (by simp[zbx]) (by simp[zbx];omega) hD (λi x v H' R _ hv s k=>?_) λH1 s1 h1=>?_
 ·obtain⟨n,en,rfl⟩:=zas hv
  obtain⟨_,_,rfl⟩:=zas en
  exact k _ (.refl _)
 refine⟨by decide,λp1 n1=>?_⟩
 have s2:=zan n1 (.tup [V.int 1,V.int 1])
 have h2:(L2.upd H1 p1 (.tup [V.int 1,V.int 1])) p1=some (.tup [V.int 1,V.int 1]):=zai
 generalize L2.upd H1 p1 (.tup [V.int 1,V.int 1])=H2 at s2 h2 ⊢
 refine⟨_,rfl,_,.inl (SqL.of (s2 _ _ h1)),λp2 n2=>?_⟩
 have s3:=zan n2 (.lst (QY))
 have h3:(L2.upd H2 p2 (.lst (QY))) p2=some (.lst (QY)):=zai
 generalize L2.upd H2 p2 (.lst (QY))=H3 at s3 h3 ⊢
 refine⟨by decide,λp3 n3=>?_⟩
 have s4:=zan n3 (.tup [V.ref p2,V.int 1])
 have h4:(L2.upd H3 p3 (.tup [V.ref p2,V.int 1])) p3=some (.tup [V.ref p2,V.int 1]):=zai
 generalize L2.upd H3 p3 (.tup [V.ref p2,V.int 1])=H4 at s4 h4 ⊢
 refine⟨by decide,λp4 n4=>?_⟩
 have s5:=zan n4 (.lst [V.ref p3])
 have h5:(L2.upd H4 p4 (.lst [V.ref p3])) p4=some (.lst [V.ref p3]):=zai
 generalize L2.upd H4 p4 (.lst [V.ref p3])=H5 at s5 h5 ⊢
 have S5:=s2.trans (s3.trans (s4.trans s5))
 refine⟨_,rfl,_,.inl (SqL.of (S5 _ _ h1)),λp5 n5=>?_⟩
 have s6:=zan n5 (.lst (QY))
 have h6:(L2.upd H5 p5 (.lst (QY))) p5=some (.lst (QY)):=zai
 generalize L2.upd H5 p5 (.lst (QY))=H6 at s6 h6 ⊢
 refine⟨by decide,λp6 n6=>?_⟩
 have s7:=zan n6 (.tup [V.int 0,V.int 1])
 have h7:(L2.upd H6 p6 (.tup [V.int 0,V.int 1])) p6=some (.tup [V.int 0,V.int 1]):=zai
 generalize L2.upd H6 p6 (.tup [V.int 0,V.int 1])=H7 at s7 h7 ⊢
 refine⟨_,rfl,_,.inl (SqL.of (s7 _ _ (s6 _ _ (S5 _ _ h1)))),λp7 n7=>?_⟩
 have s8:=zan n7 (.lst (QY))
 have h8:(L2.upd H7 p7 (.lst (QY))) p7=some (.lst (QY)):=zai
 generalize L2.upd H7 p7 (.lst (QY))=H8 at s8 h8 ⊢
 refine⟨by decide,λp8 n8=>?_⟩
 have s9:=zan n8 (.tup [V.ref p5,V.ref p6,V.ref p7])
 have h9:(L2.upd H8 p8 (.tup [V.ref p5,V.ref p6,V.ref p7])) p8=some (.tup [V.ref p5,V.ref p6,V.ref p7]):=zai
 generalize L2.upd H8 p8 (.tup [V.ref p5,V.ref p6,V.ref p7])=H9 at s9 h9 ⊢
 refine⟨by decide,λr nr=>?_⟩
 have sa:=zan nr (.tup [V.ref p1,V.ref p4,V.ref p8])
 have ha:(L2.upd H9 r (.tup [V.ref p1,V.ref p4,V.ref p8])) r=some (.tup [V.ref p1,V.ref p4,V.ref p8]):=zai
 generalize L2.upd H9 r (.tup [V.ref p1,V.ref p4,V.ref p8])=Ha at sa ha ⊢
 have S9:=s8.trans (s9.trans sa)
 have S5a:=s6.trans (s7.trans S9)
 refine q r p1 p4 p8 p5 p6 p7 p3 p2 Ha (s1.trans (S5.trans S5a)) ha (S5a _ _ (s5 _ _ (s4 _ _ (s3 _ _ h2)))) (sa _ _ h9) (S9 _ _ (s7 _ _ h6)) (S9 _ _ h7) (sa _ _ (s9 _ _ h8)) ⟨S5a _ _ h5,Tps.single (S5a _ _ (s5 _ _ h4)),λx hx=>?_⟩ ((s1.trans (s2.trans (s3.trans s4))).free n4) ((s1.trans S5).free n5) ((s1.trans (S5.trans (s6.trans s7))).free n7) ((s1.trans s2).free n2) (by simp only[List.nodup_cons,ψP,ψF,or_false,not_or,not_false_eq_true,List.nodup_nil,and_true];exact⟨⟨zaG h5 n5,zaG (s7 _ _ (s6 _ _ h5)) n7,(zaG (s4 _ _ h3) n4).symm⟩,⟨zaG (s7 _ _ h6) n7,(zaG (s5 _ _ (s4 _ _ h3)) n5).symm⟩,(zaG (s7 _ _ (s6 _ _ (s5 _ _ (s4 _ _ h3)))) n7).symm⟩)
 rw[List.mem_singleton.mp hx]
 exact S5a _ _ (s5 _ _ (s4 _ _ h3))
theorem zgo:zay ["boxes","ones"] ["boxes"] (zag zd6):=(Qa)
theorem zjB(T:Txt K mg a):zci P w K mg base CX0 1 a.faS a.daS ["boxes"] zve:=by
 refine T.FaS.ok zgo (Qj) (Qe)
 all_goals obtain⟨l,ts,rfl,hl,l6,q⟩:=h
 ·rfl
 exact⟨zfi K,(zae (zcy (i:=1) zgo.nd rfl rfl (sc:=zag zd6) (N:=["boxes","ones"]) (Nc:=["box"]) (cap:=[none]) rfl rfl rfl (Ql) (zbz (pv 0)) (Q9) (QD) (λ_ _ _ _=>zaf))
 (zah (zat (zbR (zaa (zbR (zaa zaf (Q4))) (zaa (zea (zaa (zbR (zaa (zdn zcF rfl T.z_list zbN (QB)) (Q4))) zad)) (zaa (zbR (zaa (zdn zcF rfl T.z_list zbN (QB)) (zaa (zbR (zaa zaf (Q4))) (zaa (zdn zcF rfl T.z_list zbN (QB)) zad)))) zad))))))),
  zjD hl l6 q⟩
abbrev Pw:=List Int×Int
def wsm(xs:List Pw):Int:=(Qu).sum
def psm(bs:List Box)(xs:List Pw):Int:=(xs.map λx=>x.2*(zaH bs x.1).sum).sum
def csm(b:Box)(k:Nat)(xs:List Pw):Rat:=(xs.map λx=>(x.2:Rat)*chq b (x.1.getD k 0)).sum
def znd(bs:List Box)(Ws ms:List Int):Rat:=(ψf (λ(w:Int) (c:Rat)=>(w:Rat)*c) Ws (zmq bs ms)).sum
structure zvG (bs:List Box) (bud:Int) (V:Rat) (xs:List Pw):Prop where
 co:psm bs xs≤bud*wsm xs
 ch:∀(k:Nat) b,bs[k]?=some b→V*(wsm xs:Rat)≤csm b k xs
def Mrk(b:Box)(w:Int)(P:Rat)(n:Int):Prop:=(w:Rat)*gnq b n≤P*(b.1:Rat)∧(0<n→P*(b.1:Rat)≤(w:Rat)*gnq b (n - 1))
structure zvr (bs:List Box) (bud:Int) (V:Rat) (Ws:List Int) (P:Rat) (ns:List Int):Prop where
 mr:∀(i:Nat) b w n,bs[i]?=some b→Ws[i]?=some w→ns[i]?=some n→Mrk b w P n
 sm:znd bs Ws ns+P*((bud - (zaH bs ns).sum:Int):Rat)≤V*(Ws.sum:Rat)
structure ztM (bs:List Box) (bud:Int) (W:Rat) (xs:List Pw) (Ws:List Int) (P:Rat) (ns:List Int):Prop where
 bW:Bq 1300 W
 x1:1≤xs.length
 xn:xs.length≤bs.length+1
 pl:∀x∈xs,x.1.length=bs.length∧∀m∈x.1,0≤m∧m≤60
 xw:∀x∈xs,1≤x.2∧Bd 1800 x.2
 seek:zvG bs bud W xs
 one:(∀b∈bs,b.1=1)→∀x∈xs,x.1.sum≤bud
 lw:Ws.length=bs.length
 ww:∀w∈Ws,1≤w∧Bd 2700 w
 p0:0≤P
 pb:Bq 2700 P
 ln:ns.length=bs.length
 nn:∀n∈ns,0≤n∧n≤60
 hide:zvr bs bud W Ws P ns
 w01:0≤W∧W≤1
theorem zoX{b:Box}(g:GB b)(n:Int):0≤chq b n∧chq b n≤1:=by
 obtain⟨p0,p1,_⟩:=zju g
 have h:=(zb9 (ψB p0) p1 n.toNat).2
 rw[zfm g]
 constructor <;> grind
theorem zrG{P:Rat}:∀{bs:List Box} {ns Ws ms:List Int},(∀(i:Nat) b n w,bs[i]?=some b→ns[i]?=some n→Ws[i]?=some w→(w:Rat)=wq b n*P)→ns.length=bs.length→Ws.length=bs.length→ms.length=bs.length →
  (Ws.sum:Rat)=(wqs bs ns).sum*P∧znd bs Ws ms=(ψf (λx y:Rat=>x*y) (Qat) (zmq bs ms)).sum*P
 | [],[],[],[],_,_,_,_=>by
  refine⟨?_,?_⟩
  ·show((0:Int):Rat)=0*P
   rw[show((0:Int):Rat)=0 from rfl]
   grind
  ·simp only[znd,wqs,zmq,ψl1,ψY]
   grind
 | [],_::_,_,_,_,h,_,_=>by cases h
 | [],_,_::_,_,_,_,h,_=>by cases h
 | [],_,_,_::_,_,_,_,h=>by cases h
 | _::_,[],_,_,_,h,_,_=>by cases h
 | _::_,_::_,[],_,_,_,h,_=>by cases h
 | _::_,_::_,_::_,[],_,_,_,h=>by cases h
 | b::bs,n::ns,w::Ws,m::ms,h,l1,l2,l3=>by
  obtain⟨z1,z2⟩:=zrG (P:=P) (bs:=bs) (ns:=ns) (Ws:=Ws) (ms:=ms) (λi b' n' w' e1 e2 e3=>h (i+1) b' n' w' e1 e2 e3) (Nat.succ.inj l1) (Nat.succ.inj l2) (Nat.succ.inj l3)
  have h0:=h 0 b n w rfl rfl rfl
  refine⟨?_,?_⟩
  ·show(((w+Ws.sum:Int)):Rat)=(wq b n+(wqs bs ns).sum)*P
   rw[ψT,z1,h0]
   grind
  ·show(w:Rat)*chq b m+znd bs Ws ms=(wq b n*chq b m+(ψf (λx y:Rat=>x*y) (Qat) (zmq bs ms)).sum)*P
   rw[z2,h0]
   grind
theorem ztM.of{bs:List Box}{ns Ws:List Int}{bud:Int}{P:Rat}{xs:List Pw}(gb:∀b∈bs,GB b)(l1:1≤bs.length)(l6:bs.length≤6)(d1:bud≤60)(L:Lev bs ns bud (Qae))(PW:PapW bs ns Ws P)(M:zuh bs bud (Qae) xs):ztM bs bud (Qae) xs Ws P ns:=by
 have W:=zg7 gb L.gn (ziM l1 L.len)
 obtain⟨e1,e2⟩:=zrG PW.eq L.len PW.len L.len
 refine⟨zqk L gb l1 l6 d1,M.l1,M.ln,M.pl,λx hx=>⟨M.w0 x hx,M.wb x hx⟩,⟨?_,λk b hk=>?_⟩,M.one,PW.len,λw hw=>⟨?_,PW.wb w hw⟩,ψB PW.p0,PW.pb,L.len,λn hn=>⟨L.n0 n hn,by have:=L.n59 n hn;omega⟩,⟨λi b w n h1 h2 h3=>?_,?_⟩,?_⟩
 ·exact Int.le_of_eq M.co
 ·unfold csm wsm
  rw[M.ch k b hk]
  exact ψF1
 ·obtain⟨i,ei⟩:=ψp hw
  have li:=(List.getElem?_eq_some_iff.mp ei).1
  have hb:bs[i]?=some (bs[i]'(by rw[← PW.len];exact li)):=ψc _
  have hn:ns[i]?=some (ns[i]'(by rw[L.len,← PW.len];exact li)):=ψc _
  have e:=PW.eq i _ _ w hb hn ei
  have p:=ψB1 (zlv (gb _ (zao hb)) (L.gn i _ _ hb hn)) PW.p0
  rw[← e] at p
  have:(0:Int)<w:=by exact_mod_cast p
  omega
 ·have g:=gb b (zao h1)
  have gn:=L.gn i b n h1 h3
  have e:=PW.eq i b n w h1 h3 h2
  have n0:=L.n0 n (zao h3)
  have k:(w:Rat)*gnq b n=P*(b.1:Rat):=by
   rw[e]
   unfold wq
   grind
  refine⟨by rw[k];exact ψF1,λnp=>?_⟩
  rw[← k]
  have wR:(0:Rat)≤(w:Rat):=by
   rw[e]
   exact ψB (ψB1 (zlv g gn) PW.p0)
  refine Rat.mul_le_mul_of_nonneg_left ?_ wR
  obtain⟨p0,p1,_⟩:=zju g
  rw[zfu g,zfu g,show n.toNat=(n - 1).toNat+1 by omega,ψk1]
  have h:=(zb9 (ψB p0) p1 (n - 1).toNat).2.1
  have a:=ψn1 h (ψB p0)
  have c:=ψn1 a (ψB p0)
  grind
 ·rw[e2,e1]
  have e3:(ψf (λx y:Rat=>x*y) (Qat) (zmq bs ns)).sum=(zik bs ns).sum:=rfl
  rw[e3]
  have v:zdZ bs ns bud*(wqs bs ns).sum=(zik bs ns).sum+((bud - (zaH bs ns).sum:Int):Rat):=by
   unfold zdZ
   generalize (Qat).sum=S at W ⊢
   have:S≠0:=by grind
   grind
  have e4:zdZ bs ns bud*((Qat).sum*P)=zdZ bs ns bud*(wqs bs ns).sum*P:=by grind
  rw[e4,v]
  grind
 ·obtain⟨b,hb⟩:∃b,bs[0]?=some b:=⟨bs[0]'(by omega),ψc _⟩
  obtain⟨n,hn⟩:∃n,ns[0]?=some n:=⟨ns[0]'(by rw[L.len];omega),ψc _⟩
  obtain⟨m1,m2⟩:=L.mid (b,n) (ψN (List.getElem?_zip_eq_some.mpr ⟨hb,hn⟩))
  have g:=gb b (zao hb)
  exact⟨Rat.le_trans (zoX g n).1 m1,Rat.le_trans m2 (zoX g (n+1)).2⟩
theorem zhM(ts:List Addr):∀n∈zbx ts,n=1:=λn hn=>by
 obtain⟨_,_,e⟩:=List.mem_map.mp hn
 exact e.symm
theorem ztK(ts:List Addr):(zbx ts).length=ts.length:=ψb ..
theorem zoM(ts:List Addr):(zbx ts).sum=(ts.length:Int):=by
 induction ts with
 | nil=>rfl
 | cons t ts ih =>
  show 1+(zbx ts).sum=_
  rw[ih,ψM]
  omega
theorem zmz:∀(bs:List Box) (ts:List Addr),ts.length=bs.length→(zaH bs (zbx ts)).sum=(bs.map λb=>b.1).sum
 | [],_,_=>by simp[zaH]
 | _::_,[],h=>by cases h
 | b::bs,t::ts,h=>by
  show b.1*1+(zaH bs (zbx ts)).sum=b.1+(bs.map λb=>b.1).sum
  rw[zmz bs ts (Nat.succ.inj h),ψX1]
theorem zk9{b:Box}(g:GB b)(h:b.2.1=b.2.2):chq b 1=1∧gnq b 1=0:=by
 have o0:(b.2.2:Rat)≠0:=λz=>by
  have:b.2.2=0:=by exact_mod_cast z
  have:=g.2.2.1
  have:=g.2.2.2.1
  omega
 have p:pr b=1:=by
  unfold pr
  rw[h,ψl]
  grind
 rw[zfm g,zfu g,p,show(1:Int).toNat=0+1 from rfl,ψk1,ψq1]
 constructor <;> grind
theorem zoL:∀(bs:List Box) (ts:List Addr),(QaD)→(Qaz)→ts.length=bs.length→znd bs (zbx ts) (zbx ts)=((ts.length:Int):Rat)
 | [],[],_,_,_=>by
  simp only[znd,zmq,zbx,ψm1,ψl1,ψY]
  rfl
 | [],_::_,_,_,h=>by cases h
 | _::_,[],_,_,h=>by cases h
 | b::bs,t::ts,gb,hs,h=>by
  have ih:=zoL bs ts (λx hx=>gb x (ψd _ hx)) (λx hx=>hs x (ψd _ hx)) (Nat.succ.inj h)
  show((1:Int):Rat)*chq b 1+znd bs (zbx ts) (zbx ts)=(((ts.length+1:Nat):Int):Rat)
  rw[ih,(zk9 (gb b ψe) (hs b ψe)).1,show((ts.length+1:Nat):Int)=(ts.length:Int)+1 by omega,ψT,show((1:Int):Rat)=1 from rfl]
  grind
theorem ztM.sure{bs:List Box}{ts:List Addr}{bud:Int}(gb:∀b∈bs,GB b)(lt:ts.length=bs.length)(l1:1≤bs.length)(hs:∀b∈bs,b.2.1=b.2.2)(hc:(bs.map λb=>b.1).sum≤bud):ztM bs bud 1 [(zbx ts,1)] (zbx ts) 0 (zbx ts):=by
 have ol:=ztK ts
 have oc:=zmz bs ts lt
 have one1:∀m:Nat,1≤m→(1:Nat)<2 ^ m:=λm h=>ψV1 (Qf)
 refine⟨⟨one1 _ (Qs),one1 _ (Qs)⟩,ψj _,by show 1≤_;omega,λx hx=>?_,λx hx=>?_,⟨?_,λk b hk=>?_⟩,λh1 x hx=>?_,by omega,λw hw=>?_,ψF1,⟨Nat.pow_pos (Qs),one1 _ (Qs)⟩,by omega,λn hn=>?_,⟨λi b w n e1 e2 e3=>?_,?_⟩,by decide⟩
 ·rw[List.mem_singleton.mp hx]
  exact⟨by show(zbx ts).length=_;omega,λm hm=>by rw[zhM ts m hm];decide⟩
 ·rw[List.mem_singleton.mp hx]
  exact⟨Int.le_refl 1,one1 _ (Qs)⟩
 ·show 1*(zaH bs (zbx ts)).sum+0≤bud*(1+0)
  rw[oc]
  omega
 ·have lk:=(List.getElem?_eq_some_iff.mp hk).1
  have e:(zbx ts).getD k 0=1:=by
   rw[ψx,ψc (Qf)]
   exact zhM ts _ (ψv1 _)
  show(1:Rat)*((1+0:Int):Rat)≤((1:Int):Rat)*chq b ((zbx ts).getD k 0)+0
  rw[e,(zk9 (gb b (zao hk)) (hs b (zao hk))).1,show((1+0:Int):Rat)=1 from rfl,show((1:Int):Rat)=1 from rfl]
  grind
 ·rw[List.mem_singleton.mp hx]
  show(zbx ts).sum≤bud
  rw[zoM]
  have:(bs.map λb=>b.1).sum=(bs.length:Int):=by
   clear hc oc hs gb l1 lt
   induction bs with
   | nil=>rfl
   | cons b bs ih =>
    rw[ψD,ψq,ih λx hx=>h1 x (ψd _ hx),h1 b ψe,ψM]
    omega
  omega
 ·rw[zhM ts w hw]
  exact⟨Int.le_refl 1,one1 _ (Qs)⟩
 ·rw[zhM ts n hn]
  decide
 ·rw[zhM ts w (zao e2),zhM ts n (zao e3)]
  have g:=gb b (zao e1)
  refine⟨?_,λ_=>?_⟩
  ·rw[(zk9 g (hs b (zao e1))).2]
   grind
  ·have:=zj3 g (1 - 1)
   rw[show((1:Int):Rat)=1 from rfl]
   grind
 ·rw[zoL bs ts gb hs lt,zoM]
  generalize ((bud - (zaH bs (zbx ts)).sum:Int):Rat)=C
  grind
def zjz(bs:List Box)(bud:Int)(W:Rat)(xs:List Pw)(Ws:List Int)(P:Rat)(ns:List Int):Prop :=
 (((Qaz)∧(bs.map λb=>b.1).sum≤bud)∧W=1∧xs=[(List.replicate bs.length 1,1)]∧Ws=List.replicate bs.length 1∧P=0∧ns=List.replicate bs.length 1) ∨
 (¬ ((Qaz)∧(bs.map λb=>b.1).sum≤bud)∧zpO bs bud ns∧W=zdZ bs ns bud∧zpS bs ns (Qae) xs∧zpV bs ns Ws P)
theorem zjz.det{bs:List Box}{bud:Int}{W W' P P':Rat}{xs xs':List Pw}{Ws Ws' ns ns':List Int}(h:zjz bs bud W xs Ws P ns)(h':zjz bs bud W' xs' Ws' P' ns'):W=W'∧xs=xs'∧Ws=Ws'∧P=P'∧ns=ns':=by
 rcases h with ⟨c,rfl,rfl,rfl,rfl,rfl⟩ | ⟨c,a,rfl,m,p⟩ <;> rcases h' with ⟨c',rfl,rfl,rfl,rfl,rfl⟩ | ⟨c',a',rfl,m',p'⟩
 ·exact⟨rfl,rfl,rfl,rfl,rfl⟩
 ·exact absurd c c'
 ·exact absurd c' c
 ·have e:=a.det a'
  subst e
  obtain⟨e1,e2⟩:=p.det p'
  exact⟨rfl,m.det m',e1,e2,rfl⟩
theorem zkO(ts:List Addr):zbx ts=List.replicate ts.length 1:=by
 induction ts with
 | nil=>rfl
 | cons t ts ih=>show 1::zbx ts=_;rw[ih];rfl
def zdf:Sp:=λvs H Q _=>∃(l:Addr) (ts:List Addr) (bs:List Box) (bud:Int),vs=[.ref l,.int bud]∧H l=some (QG)∧Tps bx H ts bs∧(QaD)∧1≤bs.length∧bs.length≤6∧0≤bud∧bud≤60 ∧
 ∀(r wr mr pr wl pp cl:Addr) (W P:Rat) (us:List Addr) (xs:List Mp) (Ws ns:List Int) (H':Hp),zaF H H'→H' r=some (.tup [.ref wr,.ref mr,.ref pr])→H' wr=some (QaG)→MxH H' mr us xs→H' pr=some (Qaa)→H' wl=some (Qaj)→H' pp=some (.tup (fr P))→H' cl=some (QH)→ztM bs bud W (Qu) Ws P ns→zjz bs bud W (Qu) Ws P ns→(mr::wl::cl::xs.map λx=>x.1).Nodup→(∀x∈mr::wl::cl::xs.map λx=>x.1,H x=none)→Q (QO) H'
def zfo(K:ψa):TS :=
 (zbg (zbS (zaA zoY [] E0 (QZ)) (zdS K 2 (zaL (zam 2) (zaL (zam 3) zdO))))
 (zbP (zfq (zab (zac 3) (zab (zaA zsX [] E0 (zab (zac 0) (zab (zac 2) (Q3)))) (zab (zaA zlW [] E0 (zab (zac 0) (Qap))) zau))))))
def zcs(K:ψa):=eqT (zfo.eq_1 K)
def zeJ(K:ψa):TS :=
 (zbg (zgh (zaA zsF [] E0 (QA)))
 (zbg (zgh (zaA zfE [] E0 (Qz)))
 (zbg (zeK (zdI (tB (zaA zo7 [] E0 (QZ))) (zbP (zaA zve [] E0 (QA))) zbU))
 (zfo K))))
theorem ziV{l:Addr}{ts:List Addr}{bs:List Box}{bud:Int}(hl:H l=some (QG))(T:Tps bx H ts bs)(gb:∀b∈bs,GB b)(l1:1≤bs.length)(l6:bs.length≤6)(d0:0≤bud)(d1:bud≤60)
  (q:∀(r wr mr pr wl pp cl:Addr) (W P:Rat) (us:List Addr) (xs:List Mp) (Ws ns:List Int) (H':Hp),zaF H H'→H' r=some (.tup [.ref wr,.ref mr,.ref pr])→H' wr=some (QaG)→MxH H' mr us xs→H' pr=some (Qaa)→H' wl=some (Qaj)→H' pp=some (.tup (fr P))→H' cl=some (QH)→ztM bs bud W (Qu) Ws P ns→zjz bs bud W (Qu) Ws P ns→(mr::wl::cl::xs.map λx=>x.1).Nodup→(∀x∈mr::wl::cl::xs.map λx=>x.1,H x=none)→Q (QO) H') :
  zeJ K { nx:=λ_ H'=>Q .non H',rt:=Q } (L2.start ["boxes","budget","counts","worth"] [.ref l,.int bud]) H:=by
 unfold zeJ
 simp_all only [zcs,zac]
 refine⟨l,ts,bs,rfl,hl,T,gb,l1,by omega,λH1 s1=>?_⟩
 refine⟨bud,rfl,d0,d1,?_⟩
 have hl1:=s1 _ _ hl
 have T1:=T.same s1
 refine⟨λσ H'=>zaF H1 H'∧((Qaz)→bud<(bs.map λb=>b.1).sum)∧σ=[some (.ref l),some (.int bud),none,none],?_,?_⟩
 ·simp_all only [zcs,zac]
  refine⟨l,ts,bs,bud,rfl,hl1,T1,by omega,λc H2 s2 hc=>⟨c,rfl,?_⟩⟩
  cases c with
  | true =>
   obtain⟨c1,c2⟩:=hc.mp rfl
   refine zp1 ⟨l,ts,rfl,s2 _ _ hl1,by have:=T.1;omega,λr wr mr pr wl pp cl t u H3 s3 a1 a2 a3 a4 a5 a6 a7 a0 a8 a9 aa nd=>?_⟩
   refine q r wr mr pr wl pp cl _ _ _ _ _ _ H3 (s1.trans (s2.trans s3)) a1 a2 a7 a3 a4 a5 a6 (ztM.sure gb T.1 l1 c1 c2) (.inl ⟨⟨c1,c2⟩,rfl,?_,?_,rfl,?_⟩) nd λx hx=>(s1.trans s2).free ?_
   ·show [(zbx ts,(1:Int))]=_
    rw[zkO,T.1]
   ·rw[zkO,T.1]
   ·rw[zkO,T.1]
   ·simp only[ψD,ψm1,ψP,ψF,or_false] at hx
    rcases hx with rfl | rfl | rfl | rfl
    ·exact a0
    ·exact a8
    ·exact a9
    ·exact aa
  | false =>
   refine iteF ⟨s2,λh=>?_⟩
   refine ψI λz=>?_
   exact absurd (hc.mpr ⟨h,by omega⟩) (Qs)
 ·rintro σ H2 ⟨s2,hs,rfl⟩
  simp_all only [zcs,zac]
  refine⟨l,ts,bs,bud,rfl,s2 _ _ hl1,T1.same s2,gb,l1,l6,d0,d1,hs,λr pl wr ns H3 s3 h3 B CI L hw=>?_⟩
  simp_all only [zcs,zac]
  refine⟨_,SqT.of h3,rfl,_,_,rfl,_,_,rfl,rfl,?_⟩
  refine⟨l,pl,wr,ts,bs,ns,bud,rfl,B,L,hw,d1,λmr us xs H4 s4 Mx MO MI fm fx ndx=>?_⟩
  refine⟨l,pl,ts,bs,ns,rfl,B.same s4,L.gn,l6,λpr wl pp cl Ws P H5 s5 a1 a2 a3 a4 PW PI a6 a7 a8=>?_⟩
  have S3:=s1.trans (s2.trans s3)
  refine⟨by decide,λr6 n6=>?_⟩
  have s6:=zan n6 (.tup [V.ref wr,V.ref mr,V.ref pr])
  have h6:(L2.upd H5 r6 (.tup [V.ref wr,V.ref mr,V.ref pr])) r6=some (.tup [V.ref wr,V.ref mr,V.ref pr]):=zai
  generalize L2.upd H5 r6 (.tup [V.ref wr,V.ref mr,V.ref pr])=H6 at s6 h6 ⊢
  refine q r6 wr mr pr wl pp cl _ _ _ _ _ _ H6 (s1.trans (s2.trans (s3.trans (s4.trans (s5.trans s6))))) h6 (s6 _ _ (s5 _ _ (s4 _ _ hw))) (Mx.same (s5.trans s6)) (s6 _ _ a1) (s6 _ _ a2) (s6 _ _ a3) (s6 _ _ a4) (ztM.of gb l1 l6 d1 L PW MO) (.inr ⟨λz=>?_,CI,rfl,MI,PI⟩) ?_ λx hx=>?_
  ·have:=hs z.1
   have:=z.2
   omega
  ·refine List.nodup_cons.mpr ⟨λz=>?_,List.nodup_cons.mpr ⟨λz=>?_,List.nodup_cons.mpr ⟨λz=>?_,ndx⟩⟩⟩
   ·rcases List.mem_cons.mp z with z | z
    ·exact zaG Mx.hm a6 z
    rcases List.mem_cons.mp z with z | z
    ·exact zaG Mx.hm a7 z
    obtain⟨x,hx,e⟩:=List.mem_map.mp z
    exact(fx x hx).2 e
   ·rcases List.mem_cons.mp z with z | z
    ·exact a8 z
    obtain⟨x,hx,e⟩:=List.mem_map.mp z
    exact zaG (Mx.pl x hx) a6 e
   ·obtain⟨x,hx,e⟩:=List.mem_map.mp z
    exact zaG (Mx.pl x hx) a7 e
  ·rcases List.mem_cons.mp hx with rfl | hx
   ·exact S3.free fm
   rcases List.mem_cons.mp hx with rfl | hx
   ·exact(S3.trans s4).free a6
   rcases List.mem_cons.mp hx with rfl | hx
   ·exact(S3.trans s4).free a7
   obtain⟨y,hy,rfl⟩:=List.mem_map.mp hx
   exact S3.free (fx y hy).1
theorem zeb:zay ["boxes","budget","counts","worth"] ["boxes","budget"] (zag zeL):=(Qa)
theorem ziS(T:Txt K mg a):zci P w K mg base CX0 7 a.fU a.dU ["boxes","budget"] zdf:=by
 have GaO:=zgU (P:=P) (w:=w) (base:=base) T
 have GaT:=zpC (P:=P) (w:=w) (base:=base) T
 have Gah:=zhm (P:=P) (w:=w) (base:=base) T
 have Gai:=zgr (P:=P) (w:=w) (base:=base) T
 have GaQ:=zs6 (P:=P) (w:=w) (base:=base) T
 have GaR:=znD (P:=P) (w:=w) (base:=base) T
 have GaS:=zjB (P:=P) (w:=w) (base:=base) T
 refine T.FU.ok zeb (Qj) (Qe)
 all_goals obtain⟨l,ts,bs,bud,rfl,hl,T',gb,l1,l6,d0,d1,q⟩:=h
 ·rfl
 exact⟨zeJ K,(zae (zdi (zak Gah (Qc) rfl T.mah T.Fah.kp T.bah .nil zaB (Qag)))
 (zae (zdi (zak Gai (Qc) rfl T.mai T.Fai.kp T.bai .nil zaB (QB)))
 (zae (zbA (zbY (zbr (zak GaT (Qc) rfl T.maT T.FaT.kp T.baT .nil zaB (Qad))) (zah (zat (zak GaS (Qc) rfl T.maS T.FaS.kp T.baS .nil zaB (Qag)))) zaY))
 (zae (zc1 (zak GaO (Qc) rfl T.maO T.FaO.kp T.baO .nil zaB (Qad)) (zbs rfl (zal (zaj (i:=2) zeb.nd rfl (Qh)) (zal (zaj (i:=3) zeb.nd rfl (Qh)) za6))))
 (zah (zat (zbR (zaa (pv 3) (zaa (zak GaQ (Qc) rfl T.maQ T.FaQ.kp T.baQ .nil zaB (zaa (pv 0) (zaa (pv 2) (zaa (pv 3) zad)))) (zaa (zak GaR (Qc) rfl T.maR T.FaR.kp T.baR .nil zaB (zaa (pv 0) (Qax))) zad)))))))))),
  ziV hl T' gb l1 l6 d0 d1 q⟩
structure Bx6 (H:Hp) (l:Addr) (ts:List Addr) (bs:List Box):Prop where
 hl:H l=some (QG)
 hb:Tps bx H ts bs
 gb:∀b∈bs,GB b
 l1:1≤bs.length
 l6:bs.length≤6
theorem Bx6.same{H H':Hp}{l:Addr}{ts:List Addr}{bs:List Box}(h:Bx6 H l ts bs)(s:zaF H H'):Bx6 H' l ts bs:=⟨s _ _ h.hl,h.hb.same s,h.gb,h.l1,h.l6⟩
theorem Bx6.ix{H:Hp}{l:Addr}{ts:List Addr}{bs:List Box}(h:Bx6 H l ts bs){i:Nat}(hi:i<bs.length):∃(t:Addr) (b:Box),ts[i]?=some t∧bs[i]?=some b∧atI (ts.map V.ref) (i:Int)=some (.ref t)∧H t=some (.tup (bx b))∧GB b:=by
 have lt:=h.hb.1
 have e:ts[i]?=some (ts[i]'(by omega)):=ψc (Qf)
 obtain⟨b,h1,h2⟩:=h.hb.at e
 exact⟨_,b,e,h1,zeG (by rw[ψt,e];rfl),h2,h.gb b (zao h1)⟩
theorem Bx6.bp{H:Hp}{l pl:Addr}{ts:List Addr}{bs:List Box}{ns:List Int}(h:Bx6 H l ts bs)(hp:H pl=some (QH))(len:ns.length=bs.length)(gn:∀n∈ns,0≤n∧n≤60):BP H l pl ts bs ns:=⟨h.hl,h.hb,hp,len,h.gb,gn,h.l1,h.l6⟩
def okP(ms:List Int):Bool:=ms.all λm=>decide (m≤60)
theorem zgQ{ms:List Int}:okP ms=true↔∀m∈ms,m≤60:=by
 unfold okP
 rw[ψu1]
 exact⟨λh m hm=>of_decide_eq_true (h m hm),λh m hm=>decide_eq_true (h m hm)⟩
def zmS(n:Nat)(xs:List Mp):Prop:=1≤xs.length∧xs.length≤9∧∀x∈xs,x.2.1.length=n∧(∀m∈x.2.1,0≤m∧m≤100)∧1≤x.2.2∧Bd 1900 x.2.2
theorem zgc{α:Type}(f:α→Bool)(l:List α):(l.map f).all id=l.all f:=by
 rw[List.all_map]
 rfl
def zkA:Sp:=λvs H Q _=>∃(pl l:Addr) (ts:List Addr) (bs:List Box) (ms:List Int),vs=[.ref pl,.ref l]∧Bx6 H l ts bs∧H pl=some (.lst (Qar))∧ms.length=bs.length∧(∀m∈ms,0≤m)∧∀H',zaF H H'→Q (.bl (okP ms)) H'
def ziJ(K:ψa):TS :=
 (zbP (tCB (zu9 K) (zab (zb1 (QaH) (zam 0) za8 (zaA zeT [] E0 (zab (zac 0) (zab (Qn) (zab (tC (.int 60)) zau)))) [none]) zau)))
def zdt(K:ψa):=eqT (ziJ.eq_1 K)
def ziQ(K:ψa):TS :=
 (zdI (tOr (zeM (tB (QV))) (zbZ (tOp rNe (Qaq) (tCB (Qb) (Qz))))) (Qt) zbU)
def zdv(K:ψa):=eqT (ziQ.eq_1 K)
def zjd(K:ψa):TS :=
 (zbg (zeK (ziQ K))
 (ziJ K))
theorem zpU{pl l:Addr}{ts:List Addr}{bs:List Box}{ms:List Int}(B:Bx6 H l ts bs)(hp:H pl=some (.lst (Qar)))(len:ms.length=bs.length)(m0:∀m∈ms,0≤m)(q:∀H',zaF H H'→Q (.bl (okP ms)) H') :
  zjd K { nx:=λ_ H'=>Q .non H',rt:=Q } (L2.start (Qac) [.ref pl,.ref l]) H:=by
 unfold zjd
 have l6:=B.l6
 simp_all only [zdt,zdv,zac]
 refine⟨λσ H'=>H'=H∧σ=[some (.ref pl),some (.ref l)],?_,?_⟩
 ·simp_all only [zdt,zdv,zac]
  refine zct hp (Qal)
  refine zb5 (Qk) (QaF)
  refine⟨_,.inl (SqL.of hp),_,.inl (SqL.of B.hl),?_⟩
  rw[ψb,ψb,B.hb.1,len]
  exact zb5 (QK) (λ_=>rfl)
 ·rintro σ H' ⟨e,rfl⟩
  rw[e]
  simp_all only [zdt,zdv,zac]
  refine⟨⟨_,SqL.of hp⟩,λD hD=>?_⟩
  refine zdd (vs:=(ms.map λm=>decide (m≤60)).map V.bl) hp (by simp) (by simp;omega) hD (λi x v H' R hx hv s k=>?_) λH1 s1 h1=>?_
  ·obtain⟨m,em,rfl⟩:=zas hx
   obtain⟨w,ew,rfl⟩:=zas hv
   obtain⟨m',em',rfl⟩:=zas ew
   rw[em] at em'
   cases em'
   simp_all only [zdt,zdv,zac]
   refine⟨_,_,_,rfl,?_⟩
   rw[decide_eq_decide.mpr (show(0≤m∧m≤60)↔m≤60 from⟨λz=>z.2,λz=>⟨m0 m (zao em),z⟩⟩)]
   exact k _ (.refl _)
  ·refine⟨D,rfl,_,SqL.of h1,?_⟩
   rw[zgc]
   exact q _ s1
theorem zpW:zay (Qac) (Qac) (zag zg9):=(Qa)
theorem zjN(T:Txt K mg a):zci P w K mg base CX0 3 a.faj a.daj (Qac) zkA:=by
 have GM:=zfH (P:=P) (w:=w) (base:=base) T
 refine T.Faj.ok zpW (Qj) (Qe)
 all_goals obtain⟨pl,l,ts,bs,ms,rfl,B,hp,len,m0,q⟩:=h
 ·rfl
 exact⟨zjd K,(zae (zbA (zbY (PW.pt (zcP (zbG (zbr (QF))) (zcB (za7 zih (Qq) (zap zar rfl T.z_len ψo (QB)) (zaV _))))) (QL) zaY))
 (zah (zat (zap (zga rfl) rfl T.z_all ψz1 (zaa (zbC (sc:=zag zg9) (N:=["thing","boxes"]) (Nc:=["count"]) (cap:=[none]) rfl rfl rfl (Ql) (zbz (pv 0)) (λ_ _ _ _=>(zaj (i:=0) (show ψh (["count"]:List Str) from by decide) rfl (Qh))) (QD) (λ_ _ _ _=>(zak GM (Qc) rfl T.mM T.FM.kp T.bM .nil zaB (zaa (pv 0) (zaa zaf (zaa (zhE rfl T.m_MOST_LOOKS ⟨_,rfl⟩) zad)))))) zad))))),
  zpU B hp len m0 q⟩
def zmf:Sp:=λvs H Q _=>∃(u l:Addr) (ts:List Addr) (bs:List Box) (x:Mp),vs=[.ref u,.ref l]∧Bx6 H l ts bs∧H u=some (.tup [mt1 x,mt2 x])∧H x.1=some (.lst (x.2.1.map V.int))∧x.2.1.length=bs.length∧(∀m∈x.2.1,0≤m)∧1≤x.2.2∧∀H',zaF H H'→Q (.bl (okP x.2.1)) H'
def zh7(K:ψa):TS :=
 (zbP (ze3 (zaA zkA [] E0 (zab (QE) (Qz))) (ze3 (zaA zhS [] E0 (zab (Qx) zau)) (tOp (Qah) (Qx) (Qi)))))
def zef(K:ψa):=eqT (zh7.eq_1 K)
def zib(K:ψa):TS :=
 (zdI (tOr (zeM (QP)) (zbZ (tOp rNe (Qaq) (QU)))) (Qt) zbU)
def zeg(K:ψa):=eqT (zib.eq_1 K)
def zhG(K:ψa):TS :=
 (zbg (zeK (zib K))
 (zh7 K))
theorem znu{u l:Addr}{ts:List Addr}{bs:List Box}{x:Mp}(B:Bx6 H l ts bs)(hu:H u=some (.tup [mt1 x,mt2 x]))(hx:H x.1=some (.lst (x.2.1.map V.int)))(len:x.2.1.length=bs.length)(m0:∀m∈x.2.1,0≤m)(w1:1≤x.2.2)(q:∀H',zaF H H'→Q (.bl (okP x.2.1)) H') :
  zhG K { nx:=λ_ H'=>Q .non H',rt:=Q } (L2.start (Qac) [.ref u,.ref l]) H:=by
 unfold zhG
 simp_all only [zef,zeg,zac]
 refine⟨λσ H'=>H'=H∧σ=[some (.ref u),some (.ref l)],?_,?_⟩
 ·simp_all only [zef,zeg,zac]
  refine zcq hu (Qal)
  refine zb5 (Qk) (QaF)
  refine⟨_,.inr (SqT.of hu),?_⟩
  exact zb5 (QK) (λ_=>rfl)
 ·rintro σ H' ⟨e,rfl⟩
  rw[e]
  simp_all only [zef,zeg,zac]
  refine⟨_,SqT.of hu,_,rfl,x.1,l,ts,bs,x.2.1,rfl,B,hx,len,m0,λH1 s1=>⟨okP x.2.1,rfl,?_⟩⟩
  by_cases c:okP x.2.1=true
  ·rw[if_pos c]
   have hu1:=s1 _ _ hu
   refine⟨_,SqT.of hu1,_,rfl,x.2.2,rfl,true,rfl,zp1 ⟨_,SqT.of hu1,_,rfl,_,rfl,?_⟩⟩
   rw[decide_eq_true w1,← c]
   exact q _ s1
  ·rw[if_neg c]
   rw[Bool.not_eq_true] at c
   rw[← c]
   exact q _ s1
theorem znQ:zay (Qac) (Qac) (zag zhC):=(Qa)
theorem znK(T:Txt K mg a):zci P w K mg base CX0 4 a.faB a.daB (Qac) zmf:=by
 have Gaj:=zjN (P:=P) (w:=w) (base:=base) T
 have GJ:=zfd (P:=P) (w:=w) (base:=base) T
 refine T.FaB.ok znQ (Qj) (Qe)
 all_goals obtain⟨u,l,ts,bs,x,rfl,B,hu,hx,len,m0,w1,q⟩:=h
 ·rfl
 exact⟨zhG K,(zae (Qy)
 (zah (zat (zdD (zak Gaj (Qc) rfl T.maj T.Faj.kp T.baj .nil zaB (zaa (Qg) (QB))) (zdD (zak GJ (Qc) rfl T.mJ T.FJ.kp T.bJ .nil zaB (zaa (Qg) zad)) (zeY (zbT zme (Qg) zaf (zaV _)))))))),
  znu B hu hx len m0 w1 q⟩
def okM(xs:List Mp):Bool:=xs.all λx=>okP x.2.1
def zri:Sp:=λvs H Q _=>∃(ml l:Addr) (ts:List Addr) (bs:List Box) (us:List Addr) (xs:List Mp),vs=[.ref ml,.ref l]∧Bx6 H l ts bs∧MxH H ml us xs∧zmS bs.length xs∧∀H',zaF H H'→Q (.bl (okM xs)) H'
def zlh(K:ψa):TS :=
 (zbP (ze3 (QV) (ze3 (tOp (Qah) (Qaq) (Qi)) (tCB (zu9 K) (zab (zb1 (QaH) (zam 0) za8 (zaA zmf [] E0 (QZ)) [none,some 1]) zau)))))
theorem zr1{ml l:Addr}{ts:List Addr}{bs:List Box}{us:List Addr}{xs:List Mp}(B:Bx6 H l ts bs)(M:MxH H ml us xs)(g:zmS bs.length xs)(q:∀H',zaF H H'→Q (.bl (okM xs)) H') :
  zlh K { nx:=λ_ H'=>Q .non H',rt:=Q } (L2.start (Qac) [.ref ml,.ref l]) H:=by
 unfold zlh
 obtain⟨x1,x9,gx⟩:=g
 have lu:=M.tp.1
 simp_all only [zac]
 refine zct M.hm ⟨true,rfl,zp1 ?_⟩
 refine⟨_,.inl (SqL.of M.hm),?_⟩
 rw[ψb,lu]
 refine zb5 (QaF) (λz=>absurd (show(1:Int)≤(xs.length:Int) by omega) z)
 refine⟨⟨_,SqL.of M.hm⟩,λD hD=>?_⟩
 refine zdd (vs:=(xs.map λx=>okP x.2.1).map V.bl) M.hm (by simp[lu]) (by simp;omega) hD (λi x v H' R hx hv s k=>?_) λH1 s1 h1=>?_
 ·obtain⟨u,eu,rfl⟩:=zas hx
  obtain⟨w,ew,rfl⟩:=zas hv
  obtain⟨x,ex,rfl⟩:=zas ew
  obtain⟨x',ex',hu⟩:=M.tp.at eu
  rw[ex] at ex'
  cases ex'
  obtain⟨a1,a2,a3,_⟩:=gx x (zao ex)
  simp_all only [zac]
  exact⟨u,l,ts,bs,x,rfl,B.same s,s _ _ hu,s _ _ (M.pl x (zao ex)),a1,λm hm=>(a2 m hm).1,a3,λH2 s2=>k _ s2⟩
 ·refine⟨D,rfl,_,SqL.of h1,?_⟩
  rw[zgc]
  exact q _ s1
theorem zq1:zay (Qac) (Qac) (zag zir):=(Qa)
theorem zrA(T:Txt K mg a):zci P w K mg base CX0 5 a.faC a.daC (Qac) zri:=by
 have GaB:=znK (P:=P) (w:=w) (base:=base) T
 refine T.FaC.ok zq1 (Qj) (Qe)
 all_goals obtain⟨ml,l,ts,bs,us,xs,rfl,B,M,g,q⟩:=h
 ·rfl
 exact⟨zlh K,(zah (zat (zdD (QF) (zdD (zbT zme (Qq) zaf (zaV _)) (zeY (zap (zga rfl) rfl T.z_all ψz1 (zaa (zbC (sc:=zag zir) (N:=["thing","boxes"]) (Nc:=["share","boxes"]) (cap:=[none,some 1]) rfl rfl rfl (Ql) (zbz (pv 0)) (λ_ _ _ _=>(zaj (i:=0) (show ψh (["share","boxes"]:List Str) from by decide) rfl (Qh))) (QD) (λ_ _ _ _=>(zak GaB (Qc) rfl T.maB T.FaB.kp T.baB .nil zaB (Qad)))) zad))))))),
  zr1 B M g q⟩
theorem zwJ{o:Int}(o1:1≤o){n:Nat}(hn:n≤60):(o ^ 60).fdiv (o ^ n)=o ^ (60 - n):=by
 have p:=zf2 o1 n
 have e:o ^ 60=o ^ (60 - n)*o ^ n:=by
  rw[← Int.pow_add]
  congr 1
  omega
 rw[e,ψW _ (ψz p)]
 exact Int.mul_ediv_cancel _ (Qf)
theorem zvf{b:Box}(g:GB b){n:Int}(n0:0≤n)(n1:n≤60)(w:Int):((w*(b.2.2 ^ n.toNat - (b.2.2 - b.2.1) ^ n.toNat)*(b.2.2 ^ 60).fdiv (b.2.2 ^ n.toNat):Int):Rat)=(w:Rat)*chq b n*((b.2.2 ^ 60:Int):Rat):=by
 have o:=zdh g n
 have o1:1≤b.2.2:=by have:=g.2.2.1;have:=g.2.2.2.1;omega
 have hn:n.toNat≤60:=by omega
 rw[zwJ o1 hn]
 have e:b.2.2 ^ 60=b.2.2 ^ (60 - n.toNat)*b.2.2 ^ n.toNat:=by
  rw[← Int.pow_add]
  congr 1
  omega
 rw[e]
 unfold chq
 rw[ψl,ψm,ψm,ψm]
 have on:((b.2.2 ^ n.toNat:Int):Rat)≠0:=λz=>by
  have:(b.2.2 ^ n.toNat:Int)=0:=by exact_mod_cast z
  omega
 generalize ((b.2.2 ^ n.toNat:Int):Rat)=A at on ⊢
 generalize ((b.2.2 ^ n.toNat - (b.2.2 - b.2.1) ^ n.toNat:Int):Rat)=C
 grind
theorem zqb{a d S p w:Int}{C:Rat}(d0:0<d)(w0:0<w)(h:(p:Rat)=C*(w:Rat)):a*S*w≤p*d↔ψw a d*(S:Rat)≤C:=by
 have dR:(0:Rat)<(d:Rat):=by exact_mod_cast d0
 have wR:(0:Rat)<(w:Rat):=by exact_mod_cast w0
 have dn:(d:Rat)≠0:=by grind
 have e:a*S*w≤p*d↔((a*S*w:Int):Rat)≤((p*d:Int):Rat):=by rw[Rat.intCast_le_intCast]
 rw[e,ψm,ψm,ψm,h,ψl]
 constructor
 ·intro z
  have z2:(a:Rat) / (d:Rat)*(S:Rat)*((d:Rat)*(w:Rat))≤C*((d:Rat)*(w:Rat)):=by
   have e1:(a:Rat) / (d:Rat)*(S:Rat)*((d:Rat)*(w:Rat))=(a:Rat)*(S:Rat)*(w:Rat):=by
    generalize (d:Rat)=D at dn ⊢
    grind
   rw[e1]
   grind
  exact ψt1 z2 (ψB1 dR wR)
 ·intro z
  have z2:=ψJ z (ψB (ψB1 dR wR))
  have e1:(a:Rat) / (d:Rat)*(S:Rat)*((d:Rat)*(w:Rat))=(a:Rat)*(S:Rat)*(w:Rat):=by
   generalize (d:Rat)=D at dn ⊢
   grind
  rw[e1] at z2
  grind
theorem zjL{m:Nat}:∀l:List Int,(∀w∈l,Bd m w)→Bd (m+l.length) l.sum
 | [],_=>by show(0:Nat)<2 ^ _;exact Nat.pow_pos (Qs)
 | w::l,h=>by
  have ih:=zjL l λx hx=>h x (ψd _ hx)
  have h1:=h w ψe
  rw[ψq,ψM]
  exact((h1.mono (Nat.le_add_right m l.length)).add ih)
def wch(b:Box)(cs ws:List Int):List Rat:=ψf (λ(c w:Int)=>(w:Rat)*chq b c) cs ws
def zqE:Sp:=λvs H Q _=>∃(t c w v:Addr) (b:Box) (cs ws:List Int) (W:Rat),vs=[.ref t,.ref c,.ref w,.ref v]∧H t=some (.tup (bx b))∧GB b∧H c=some (.lst (cs.map V.int))∧H w=some (.lst (ws.map V.int))∧H v=some (QaG)∧ws.length=cs.length∧cs.length≤9∧(∀n∈cs,0≤n∧n≤60)∧(∀w∈ws,Bd 1900 w)∧Bq 2000 W∧∀(r:Bool) (H':Hp),zaF H H'→(r=true↔W*(ws.sum:Rat)≤(wch b cs ws).sum)→Q (.bl r) H'
def zfn(K:ψa):TS :=
 (zbg (zbS (zaA zfc [] E0 (zab (zac 0) (zab (zac 6) zau))) (zdS K 2 (zaL (zam 8) (zaL (zam 9) zdO))))
 (zbS (tOp (QM) (zac 5) (tOp (Qd) (tOp (Qd) (zac 7) (tOp (QJ) (zac 9) (zac 8))) (tOp (Qw) (zac 4) (zac 9)))) (zam 5)))
def zb4(K:ψa):=eqT (zfn.eq_1 K)
def zfl(K:ψa):TS :=
 (zbP (tOp (Qah) (tOp (Qd) (zac 5) (tOp (zbB K) (zac 3) (Qi))) (tOp (Qd) (tOp (Qd) (tOp (zbB K) (zac 3) (Qn)) (tCB (zlH K) (Qap))) (zac 4))))
def zb3(K:ψa):=eqT (zfl.eq_1 K)
def zeI(K:ψa):TS :=
 (zbg (zbS (zaA zuX [] E0 (zab (Qaw) (zab (tC (.int 60)) zau))) (zam 4))
 (zbg (zbS (Qn) (zam 5))
 (zbg (zjW (zlG K (zab (zac 1) (Qap))) (zdS K 2 (zaL (zam 6) (zaL (zam 7) zdO)))
 (zfn K))
 (zfl K))))
theorem zjo{t c w v:Addr}{b:Box}{cs ws:List Int}{W:Rat}(ht:H t=some (.tup (bx b)))(g:GB b)(hc:H c=some (.lst (cs.map V.int)))(hw:H w=some (.lst (ws.map V.int)))(hv:H v=some (QaG))(len:ws.length=cs.length)(l9:cs.length≤9)(c0:∀n∈cs,0≤n∧n≤60)(bw:∀w∈ws,Bd 1900 w)(bV:Bq 2000 W)(q:∀(r:Bool) (H':Hp),zaF H H'→(r=true↔W*(ws.sum:Rat)≤(wch b cs ws).sum)→Q (.bl r) H') :
  zeI K { nx:=λ_ H'=>Q .non H',rt:=Q } (L2.start ["box","counts","weights","worth","whole","parts","count","weight","top","bottom"] [.ref t,.ref c,.ref w,.ref v]) H:=by
 unfold zeI
 simp_all only [zb4,zb3,zac]
 have g':=g
 obtain⟨g1,g2,g3,g4,g5⟩:=g
 refine⟨_,SqT.of ht,_,rfl,b.2.2,60,rfl,by decide,by decide,by omega,g5,?_⟩
 simp_all only [zb4,zb3,zac]
 have o60:0<b.2.2 ^ 60:=zf2 (Qf) 60
 have b60:Bd 400 (b.2.2 ^ 60):=zes (Qf) g5 (Qs)
 have lw:(wch b cs ws).length=cs.length:=by rw[wch,ψk,len];omega
 refine⟨⟨_,SqL.of hc⟩,⟨_,SqL.of hw⟩,?_⟩
 refine zoP (K:=K) (xs:=cs.map V.int) (ys:=ws.map V.int) (λi σ H'=>zaF H H'∧∃(p:Int) (y6 y7 y8 y9:Option V),(p:Rat)=((wch b cs ws).take i).sum*((b.2.2 ^ 60:Int):Rat)∧Bd (2702+i) p∧σ=[some (.ref t),some (.ref c),some (.ref w),some (.ref v),some (.int (b.2.2 ^ 60)),some (.int p),y6,y7,y8,y9]) ⟨.refl _,0,_,_,_,_,?_,?_,rfl⟩ ?_ ?_ ?_
 ·show(0:Rat)=0*_
  grind
 ·show(0:Nat)<2 ^ _
  exact Nat.pow_pos (Qs)
 ·rintro i σ H' _ ⟨s,_⟩
  exact⟨SqL.of (s _ _ hc),SqL.of (s _ _ hw)⟩
 ·rintro i x z u σ H1 hx hz ⟨s1,p,y6,y7,y8,y9,ep,bp,rfl⟩ hu
  obtain⟨n,en,rfl⟩:=zas hx
  obtain⟨m,em,rfl⟩:=zas hz
  obtain⟨n0,n1⟩:=c0 n (zao en)
  have bm:=bw m (zao em)
  have li:=(List.getElem?_eq_some_iff.mp en).1
  simp_all only [zb4,zb3,zac]
  have s2:=zan hu (.tup [V.int n,V.int m])
  have h2:(L2.upd H1 u (.tup [V.int n,V.int m])) u=some (.tup [V.int n,V.int m]):=zai
  generalize L2.upd H1 u (.tup [V.int n,V.int m])=H2 at s2 h2 ⊢
  refine⟨_,SqT.of h2,rfl,_,_,rfl,_,_,rfl,rfl,?_⟩
  refine⟨t,b,n,rfl,s2 _ _ (s1 _ _ ht),g',n0,n1,λr H3 s3 h3=>?_⟩
  simp_all only [zb4,zb3,zac]
  have o:=zdh g' n
  have bo:=zgf g' n1
  have bt:Bd 400 ((b.2.2 - b.2.1) ^ n.toNat):=zes (Qf) (Qf) (Qf)
  have qd:((b.2.2 ^ 60).fdiv (b.2.2 ^ n.toNat)).natAbs≤(b.2.2 ^ 60).natAbs:=by
   rw[ψW _ (ψz o)]
   have h1:=ψE1 (b.2.2 ^ n.toNat) (ψz o60)
   have h2:=ψT1 (b:=b.2.2 ^ n.toNat) (ψz o60) (ψz o)
   omega
  have bt2:=(bm.mul (bo.sub bt)).mul (b60.le qd)
  refine⟨_,SqT.of h3,rfl,_,_,rfl,_,_,rfl,rfl,_,rfl,_,rfl,zde 1900 401 bm (bo.sub bt),_,rfl,by omega,zhf 400 (Qf) bo,zde 2301 400 (bm.mul (bo.sub bt)) (b60.le qd),s1.trans (s2.trans s3),_,?_,?_,rfl⟩
  ·rw[ψT,ep,zvf g' n0 n1 m,wch,zhs _ _ _ en em,List.sum_append]
   show _=(_+((m:Rat)*chq b n+0))*_
   grind
  ·exact(bp.add (bt2.mono (Qf))).mono (Qf)
 ·rintro σ H1 ⟨s1,p,y6,y7,y8,y9,ep,bp,rfl⟩
  rw[ψb,ψb,len,Nat.min_self,← lw,ψC] at ep
  rw[ψb,ψb,len,Nat.min_self] at bp
  have bS:=zjL ws bw
  have hv1:=SqT.of (K:=K) (s1 _ _ hv)
  simp_all only [zb4,zb3,zac]
  refine⟨_,hv1,_,rfl,_,rfl,zde 2711 2000 (bp.mono (Qf)) bV.bot,_,hv1,_,rfl,ws,SqL.of (s1 _ _ hw),_,rfl,zde 2000 1909 bV.top (bS.mono (Qf)),zde 3909 400 ((bV.top.mul bS).mono (Qf)) b60,?_⟩
  refine q _ H1 s1 ?_
  rw[decide_eq_true_iff,zqb (zch W) o60 ep,ψy]
theorem zbO:zay ["box","counts","weights","worth","whole","parts","count","weight","top","bottom"] ["box","counts","weights","worth"] (zag zeD):=(Qa)
theorem zi1(T:Txt K mg a):zci P w K mg base CX0 3 a.faD a.daD ["box","counts","weights","worth"] zqE:=by
 have GH:=zeX (P:=P) (w:=w) (base:=base) T
 have Gaa:=zo1 (P:=P) (w:=w) (base:=base) T
 refine T.FaD.ok zbO (Qj) (Qe)
 all_goals obtain⟨t,c,w,v,b,cs,ws,W,rfl,ht,g,hc,hw,hv,len,l9,c0,bw,bV,q⟩:=h
 ·rfl
 exact⟨zeI K,(zae (zaX (i:=4) zbO.nd rfl (Qh) (zak Gaa (Qc) rfl T.maa T.Faa.kp T.baa .nil zaB (zaa (Qg) (zaa (zhE rfl T.m_MOST_LOOKS ⟨_,rfl⟩) zad))))
 (zae (zaX (i:=5) zbO.nd rfl (Qh) zaf)
 (zae (zdq PassesOwn.never rfl (zec rfl T.z_zip (zaa (pv 1) (Qax))) (zbs rfl (zal (zaj (i:=6) zbO.nd rfl (Qh)) (zal (zaj (i:=7) zbO.nd rfl (Qh)) za6)))
 (zae (zc1 (zak GH (Qc) rfl T.mH T.FH.kp T.bH .nil zaB (zaa (pv 0) (zaa (pv 6) zad))) (zbs rfl (zal (zaj (i:=8) zbO.nd rfl (Qh)) (zal (zaj (i:=9) zbO.nd rfl (Qh)) za6))))
 (zah (zaX (i:=5) zbO.nd rfl (Qh) (zaz zdC (pv 5) (zaz zav (zaz zav (pv 7) (zaz zdy (pv 9) (pv 8))) (zaz zdu (pv 4) (pv 9))))))))
 (zah (zat (zbT zme (zaz zav (pv 5) (Qao)) (zaz zav (zaz zav (Qao) (zap (zcp rfl) rfl T.z_sum ψG (Qax))) (pv 4)) (zaV _))))))),
  zjo ht g hc hw hv len l9 c0 bw bV q⟩
def col(xs:List Mp)(k:Nat):List Int:=xs.map λx=>x.2.1.getD k 0
theorem zsL(b:Box)(k:Nat):∀xs:List Mp,(wch b (col xs k) (xs.map λx=>x.2.2)).sum=csm b k (Qu)
 | []=>rfl
 | x::xs=>by
  show(x.2.2:Rat)*chq b (x.2.1.getD k 0)+(wch b (col xs k) (xs.map λx=>x.2.2)).sum=(x.2.2:Rat)*chq b (x.2.1.getD k 0)+csm b k (Qu)
  rw[zsL b k xs]
theorem zl9(xs:List Mp):wsm (xs.map λx=>x.2)=(xs.map λx=>x.2.2).sum:=by
 unfold wsm
 rw[List.map_map]
 rfl
theorem zvu(bs:List Box)(xs:List Mp):psm bs (xs.map λx=>x.2)=(xs.map λx=>x.2.2*(zaH bs x.2.1).sum).sum:=by
 unfold psm
 rw[List.map_map]
 rfl
theorem zdr{α:Type}{g1 g2:α→V}{p D:Addr}{us:List Addr}{as:List α}{te:TE}{rest:St}{x0 y0:Option V}{vs:List V}(hp:H p=some (Q0))(T:Tps (λa=>[g1 a,g2 a]) H us as)(lq:vs.length=as.length)(l6:vs.length≤1000)(hD:H D=none)
  (st:∀(i:Nat) (a:α) (v:V) (H':Hp) (R:VK),as[i]?=some a→vs[i]?=some v→zaF H H'→(∀H2:Hp,zaF H' H2→R v H2)→te (some (g1 a)::some (g2 a)::rest) H' R)
  (hd:∀H':Hp,zaF H H'→H' D=some (.lst vs)→Q (.ref D) H') :
  zfD (Itl K p) (Qm) za8 te D Q (x0::y0::rest) (upd H D (.lst [])):=by
 refine zcz (K:=K) (xs:=us.map V.ref) (λi ys σ H'=>zaF H H'∧ys=vs.take i∧∃x y,σ=x::y::rest) ⟨zan hD _,rfl,_,_,rfl⟩ ?_ ?_ ?_
 ·rintro i ys σ H' _ ⟨s,_⟩
  exact SqL.of (s _ _ hp)
 ·rintro i x ys σ H' hx hD' ⟨s,rfl,u,v,rfl⟩
  obtain⟨t,ht,rfl⟩:=zas hx
  obtain⟨a,ha1,ha2⟩:=T.at ht
  have i1:=(List.getElem?_eq_some_iff.mp ha1).1
  have hw:vs[i]?=some (vs[i]'(by omega)):=ψc (Qf)
  refine⟨t,_,rfl,SqT.of (s _ _ ha2),rfl,_,_,rfl,_,_,rfl,rfl,?_⟩
  refine st i a _ _ _ ha1 hw s λH2 s2=>?_
  refine⟨D,_,_,rfl,rfl,s2 _ _ hD',zbe (by rw[ψL];omega),_,zai,(s.trans s2).put hD,?_,_,_,rfl⟩
  rw[ψu,hw]
  rfl
 ·rintro ys σ H' hD' ⟨s,rfl,u,v,rfl⟩
  rw[ψb,T.1,← lq,ψC] at hD'
  exact hd H' s hD'
def Lps(H:Hp)(us:List Addr)(cs:List (List Int)):Prop:=us.length=cs.length∧∀(i:Nat) u c,us[i]?=some u→cs[i]?=some c→H u=some (.lst (c.map V.int))
theorem zob{n:Nat}{D:Addr}{te:TE}{rest:St}{x0:Option V}{cs:List (List Int)}(lc:cs.length=n)(l6:n≤1000)(hD:H D=none)
  (st:∀(i:Nat) (c:List Int) (H':Hp) (R:VK),i<n→cs[i]?=some c→zaF H H'→(∀(r:Addr) (H2:Hp),zaF H' H2→H' r=none→H2 r=some (.lst (c.map V.int))→R (QO) H2)→te (some (.int (0+(i:Int)))::rest) H' R)
  (hd:∀(us:List Addr) (H':Hp),zaF H H'→H' D=some (Q0)→Lps H' us cs→Q (.ref D) H') :
  zfD (Itr 0 n) (zam 0) za8 te D Q (x0::rest) (upd H D (.lst [])):=by
 refine zek (λi ys σ H'=>zaF H H'∧(∃us:List Addr,ys=us.map V.ref∧us.length=i∧(∀(j:Nat) u c,us[j]?=some u→cs[j]?=some c→H' u=some (.lst (c.map V.int))∧u≠D))∧∃x,σ=x::rest) ⟨zan hD _,⟨[],rfl,rfl,λj u c e=>by cases e⟩,_,rfl⟩ ?_ ?_
 ·rintro i ys σ H' hi hD' ⟨s,⟨us,rfl,lu,hu⟩,x,rfl⟩
  have hc:cs[i]?=some (cs[i]'(by omega)):=ψc _
  refine st i _ H' _ hi hc s λr H2 s2 nr h2=>?_
  have rD:r≠D:=(zaG hD' nr).symm
  refine⟨D,_,_,rfl,rfl,s2 _ _ hD',zbe (by rw[ψb];omega),_,zai,(s.trans s2).put hD,⟨us++[r],by rw[ψK];rfl,by rw[ψR,lu];rfl,λj u c e1 e2=>?_⟩,_,rfl⟩
  by_cases cj:j<us.length
  ·rw[ψe1 cj] at e1
   obtain⟨a1,a2⟩:=hu j u c e1 e2
   exact⟨by rw[zaM a2];exact s2 _ _ a1,a2⟩
  ·rw[ψa1 (Qf)] at e1
   have z:j - us.length=0:=by
    have:=(List.getElem?_eq_some_iff.mp e1).1
    simp only[ψM,List.length_nil] at this
    omega
   rw[z] at e1
   cases e1
   have ej:j=i:=by omega
   subst ej
   rw[hc] at e2
   cases e2
   exact⟨by rw[zaM rD];exact h2,rD⟩
 ·rintro ys σ H' hD' ⟨s,⟨us,rfl,lu,hu⟩,x,rfl⟩
  exact hd us H' s hD' ⟨by omega,λi u c e1 e2=>(hu i u c e1 e2).1⟩
theorem zuD{W:Rat}{bs:List Box}{xs:List Pw}:(∀y∈bs.zipIdx,decide (W*(wsm xs:Rat)≤csm y.1 y.2 xs)=true)↔∀(k:Nat) b,bs[k]?=some b→W*(wsm xs:Rat)≤csm b k xs:=by
 simp only[decide_eq_true_eq]
 constructor
 ·intro z k b hk
  have m:(b,k)∈bs.zipIdx:=ψN (i:=k) (by rw[List.getElem?_zipIdx,hk];simp)
  exact z (b,k) m
 ·intro z y hy
  obtain⟨i,ei⟩:=ψp hy
  rw[List.getElem?_zipIdx] at ei
  obtain⟨b,eb,e⟩:=Option.map_eq_some_iff.mp ei
  rw[← e,Nat.zero_add]
  exact z i b eb
def zoR:Sp:=λvs H Q _=>∃(l v ml:Addr) (bud:Int) (ts:List Addr) (bs:List Box) (us:List Addr) (xs:List Mp) (W:Rat),vs=[.ref l,.int bud,.ref v,.ref ml]∧Bx6 H l ts bs∧H v=some (QaG)∧Bq 2000 W∧MxH H ml us xs∧zmS bs.length xs∧0≤bud∧bud≤60∧∀(r:Bool) (H':Hp),zaF H H'→(r=true↔okM xs=true∧zvG bs bud W (Qu))→Q (.bl r) H'
def zep(K:ψa):TS :=
 (zbg (zbS (zb1 (zij (zab (Qaq) zau)) (zam 0) za8 (zb1 (zcT K (zac 1)) (Qm) za8 (tOp (zhx K) (zac 0) (zac 2)) [none,none,some 0]) [none,some 3]) (zam 5))
 (zbP (tCB (zu9 K) (zab (zb1 (zlG K (zab (zac 0) (zab (zac 5) zau))) (Qm) za8 (zaA zqE [] E0 (Qay)) [none,none,some 4,some 2]) zau))))
def zaD(K:ψa):=eqT (zep.eq_1 K)
def zd9(K:ψa):TS :=
 (zdI (zbZ (tOp (QI) (tCB (zlH K) (zab (zb1 (zcT K (zac 3)) (Qm) za8 (tOp (Qd) (zac 1) (zaA zoO [] E0 (zab (zac 2) (QA)))) [none,none,some 0]) zau)) (tOp (Qd) (zac 1) (tCB (zlH K) (QaC))))) (Qt) zbU)
def zaE(K:ψa):=eqT (zd9.eq_1 K)
def zel(K:ψa):TS :=
 (zbg (zbS (zb1 (zcT K (zac 3)) (Qm) za8 (zac 1) [none,none]) (zam 4))
 (zbg (zeK (zd9 K))
 (zep K)))
def zaC(K:ψa):=eqT (zel.eq_1 K)
def zds(K:ψa):TS :=
 (zbg (zeK (zdI (zeM (tB (zaA zri [] E0 (zab (zac 3) (QA))))) (Qt) zbU))
 (zel K))
theorem zhc{l v ml:Addr}{bud:Int}{ts:List Addr}{bs:List Box}{us:List Addr}{xs:List Mp}{W:Rat}(B:Bx6 H l ts bs)(hv:H v=some (QaG))(bW:Bq 2000 W)(M:MxH H ml us xs)(g:zmS bs.length xs)(d0:0≤bud)(d1:bud≤60)(q:∀(r:Bool) (H':Hp),zaF H H'→(r=true↔okM xs=true∧zvG bs bud W (Qu))→Q (.bl r) H') :
  zds K { nx:=λ_ H'=>Q .non H',rt:=Q } (L2.start ["boxes","budget","worth","mix","weights","columns"] [.ref l,.int bud,.ref v,.ref ml]) H:=by
 unfold zds
 have g':=g
 obtain⟨x1,x9,gx⟩:=g
 have l6:=B.l6
 simp_all only [zaD,zaE,zaC,zac]
 refine⟨λσ H'=>zaF H H'∧okM xs=true∧σ=[some (.ref l),some (.int bud),some (.ref v),some (.ref ml),none,none],?_,?_⟩
 ·simp_all only [zaD,zaE,zaC,zac]
  refine⟨ml,l,ts,bs,us,xs,rfl,B,M,g',λH1 s1=>⟨okM xs,rfl,?_⟩⟩
  by_cases c:okM xs=true
  ·rw[if_neg (by simp[c])]
   exact⟨s1,c⟩
  ·rw[if_pos (by simpa using c)]
   exact q false H1 s1 ⟨λz=>(by cases z),λz=>absurd z.1 c⟩
 ·rintro σ H1 ⟨s1,ok,rfl⟩
  have M1:=M.same s1
  have B1:=B.same s1
  have okx:∀x∈xs,∀m∈x.2.1,0≤m∧m≤60:=λx hx m hm=>⟨((gx x hx).2.1 m hm).1,zgQ.mp (List.all_eq_true.mp ok x hx) m hm⟩
  simp_all only [zaD,zaE,zaC,zac]
  refine⟨⟨_,SqL.of M1.hm⟩,λD hD=>?_⟩
  refine zdr (g1:=mt1) (g2:=mt2) (vs:=(xs.map λx=>x.2.2).map V.int) M1.hm M1.tp (by simp) (by simp;omega) hD (λi x v H' R hx hv s kk=>?_) λH2 s2 h2=>?_
  ·obtain⟨w,hw,rfl⟩:=zas hv
   obtain⟨y,hy,rfl⟩:=zas hw
   rw[hx] at hy
   cases hy
   simp_all only [zaD,zaE,zaC,zac]
   exact kk _ (.refl _)
  have M2:=M1.same s2
  have B2:=B1.same s2
  have bws:∀w∈xs.map λx=>x.2.2,Bd 1900 w:=λw hw=>by
   obtain⟨x,hx,rfl⟩:=List.mem_map.mp hw
   exact(gx x hx).2.2.2
  refine⟨λσ H'=>zaF H2 H'∧psm bs (xs.map λx=>x.2)≤bud*wsm (Qu)∧σ=[some (.ref l),some (.int bud),some (.ref v),some (.ref ml),some (.ref D),none],?_,?_⟩
  ·simp_all only [zaD,zaE,zaC,zac]
   refine⟨⟨_,SqL.of M2.hm⟩,λD2 hD2=>?_⟩
   refine zdr (g1:=mt1) (g2:=mt2) (vs:=(xs.map λx=>x.2.2*(zaH bs x.2.1).sum).map V.int) M2.hm M2.tp (by simp) (by simp;omega) hD2 (λi x v H' R hx hv s kk=>?_) λH3 s3 h3=>?_
   ·obtain⟨w,hw,rfl⟩:=zas hv
    obtain⟨y,hy,rfl⟩:=zas hw
    rw[hx] at hy
    cases hy
    obtain⟨a1,_,a3,a4⟩:=gx x (zao hx)
    have bp:BP H' l x.1 ts bs x.2.1:=(B2.same s).bp (s _ _ (M2.pl x (zao hx))) a1 (okx x (zao hx))
    obtain⟨z1,z2⟩:=ziG bs x.2.1 B.gb (okx x (zao hx))
    simp_all only [zaD,zaE,zaC,zac]
    refine⟨l,x.1,ts,bs,x.2.1,rfl,bp,λH4 s4=>?_⟩
    simp_all only [zaD,zaE,zaC,zac]
    exact⟨zoz (Qf) (Qf),kk _ s4⟩
   simp_all only [zaD,zaE,zaC,zac]
   refine⟨_,SqL.of h3,xs.map λx=>x.2.2,SqL.of (s3 _ _ h2),mulL (Qf) (Qf),?_⟩
   rw[← zvu,← zl9]
   by_cases c:psm bs (xs.map λx=>x.2)≤bud*wsm (Qu)
   ·rw[if_neg (Qf)]
    exact⟨s3,c⟩
   ·rw[if_pos (Qf)]
    exact q false H3 (s1.trans (s2.trans s3)) ⟨λz=>(by cases z),λz=>absurd z.2.co c⟩
  ·rintro σ H3 ⟨s3,co,rfl⟩
   have M3:=M2.same s3
   have B3:=B2.same s3
   simp_all only [zaD,zaE,zaC,zac]
   refine⟨_,.inl (SqL.of B3.hl),?_⟩
   rw[ψb,B.hb.1]
   refine⟨by omega,by omega,λD2 hD2=>?_⟩
   have en:(bs.length:Int).toNat=bs.length:=Int.toNat_natCast _
   rw[en]
   refine zob (cs:=(ψs1 bs.length).map (col xs)) (by simp) (Qf) hD2 (λi c H4 R hi hc s4 kk=>?_) λvs H4 s4 h4 L4=>?_
   ·obtain⟨i',ei',rfl⟩:=zas hc
    rw[List.getElem?_range hi] at ei'
    cases ei'
    have M4:=M3.same s4
    simp_all only [zaD,zaE,zaC,zac]
    refine⟨⟨_,SqL.of M4.hm⟩,λD3 hD3=>?_⟩
    refine zdr (g1:=mt1) (g2:=mt2) (vs:=(col xs i).map V.int) M4.hm M4.tp (by simp[col]) (by simp[col];omega) hD3 (λj x w H5 R' hx hw s5 k5=>?_) λH5 s5 h5=>kk D3 H5 s5 hD3 h5
    obtain⟨z,hz,rfl⟩:=zas hw
    obtain⟨y,hy,rfl⟩:=zas hz
    rw[hx] at hy
    cases hy
    obtain⟨a1,_⟩:=gx x (zao hx)
    have em:x.2.1[i]?=some (x.2.1[i]'(by omega)):=ψc _
    rw[ψx,em] at k5
    simp_all only [zaD,zaE,zaC,zac]
    refine⟨_,SqL.of (s5 _ _ (M4.pl x (zao hx))),_,?_,k5 _ (.refl _)⟩
    rw[Int.zero_add]
    exact zeG (by rw[ψt,em];rfl)
   ·simp_all only [zaD,zaE,zaC,zac]
    have B4:=B3.same s4
    have s24:=s3.trans s4
    have S4:=s1.trans (s2.trans s24)
    have lc:vs.length=bs.length:=by rw[L4.1,ψb,List.length_range]
    refine⟨⟨_,SqL.of B4.hl⟩,⟨_,SqL.of h4⟩,λD3 hD3=>?_⟩
    refine zeV (vs:=(bs.zipIdx.map λy=>decide (W*(wsm (xs.map λx=>x.2):Rat)≤csm y.1 y.2 (Qu))).map V.bl) B4.hl h4 (by simp[B.hb.1,lc]) (by simp;omega) hD3 (λi x z w H5 R hx hz hw s5 kk=>?_) λH5 s5 h5=>?_
    ·obtain⟨t,et,rfl⟩:=zas hx
     obtain⟨c,ec,rfl⟩:=zas hz
     obtain⟨r,er,rfl⟩:=zas hw
     obtain⟨y,ey,rfl⟩:=zas er
     obtain⟨b,eb,hb⟩:=B4.hb.at et
     have li:=(List.getElem?_eq_some_iff.mp eb).1
     rw[List.getElem?_zipIdx,eb] at ey
     simp only[Option.map_some,Nat.zero_add,Option.some.injEq] at ey
     subst ey
     have ecol:((ψs1 bs.length).map (col xs))[i]?=some (col xs i):=by rw[ψt,List.getElem?_range li];rfl
     have hc:=L4.2 i c _ ec ecol
     simp_all only [zaD,zaE,zaC,zac]
     refine⟨t,c,D,v,b,col xs i,xs.map λx=>x.2.2,W,rfl,s5 _ _ hb,B.gb b (zao eb),s5 _ _ hc,s5 _ _ (s24 _ _ h2),s5 _ _ (S4 _ _ hv),by rw[col,ψb,ψb],by rw[col,ψb];exact x9,λn hn=>?_,bws,bW,λr H6 s6 hr=>?_⟩
     ·obtain⟨x,hx,rfl⟩:=List.mem_map.mp hn
      have em:x.2.1[i]?=some (x.2.1[i]'(by rw[(gx x hx).1];exact li)):=ψc _
      rw[ψx,em]
      exact okx x hx _ (zao em)
     ·rw[zsL,← zl9] at hr
      have e:r=decide (W*(wsm (xs.map λx=>x.2):Rat)≤csm b i (Qu)):=by
       rw[ψJ1,decide_eq_true_iff]
       exact hr
      rw[e]
      exact kk _ s6
    ·refine⟨D3,rfl,_,SqL.of h5,?_⟩
     refine q _ H5 (S4.trans s5) ?_
     rw[zgc,ψu1,zuD]
     exact⟨λz=>⟨ok,co,z⟩,λz=>z.2.ch⟩
theorem zdg:zay ["boxes","budget","worth","mix","weights","columns"] ["boxes","budget","worth","mix"] (zag zbE):=(Qa)
theorem zhp(T:Txt K mg a):zci P w K mg base CX0 6 a.faE a.daE ["boxes","budget","worth","mix"] zoR:=by
 have GZ:=zg6 (P:=P) (w:=w) (base:=base) T
 have GaD:=zi1 (P:=P) (w:=w) (base:=base) T
 have GaC:=zrA (P:=P) (w:=w) (base:=base) T
 refine T.FaE.ok zdg (Qj) (Qe)
 all_goals obtain⟨l,v,ml,bud,ts,bs,us,xs,W,rfl,B,hv,bW,M,g,d0,d1,q⟩:=h
 ·rfl
 exact⟨zds K,(zae (zbA (zbY (zbG (zbr (zak GaC (Qc) rfl T.maC T.FaC.kp T.baC .nil zaB (zaa (pv 3) (Qag))))) (QL) zaY))
 (zae (zaX (i:=4) zdg.nd rfl (Or.inr rfl) (zbC (sc:=zag zbE) (N:=["boxes","budget","worth","mix","weights","columns"]) (Nc:=["plan","weight"]) (cap:=[none,none]) rfl rfl rfl (Ql) (zbz (pv 3)) (λ_ _ _ _=>(zbs rfl (zal (zaj (i:=0) (show ψh (["plan","weight"]:List Str) from by decide) rfl (Qh)) (zal (zaj (i:=1) (show ψh (["plan","weight"]:List Str) from by decide) rfl (Qh)) za6)))) (QD) (λ_ _ _ _=>(pv 1))))
 (zae (zbA (zbY (za7 zhg (zap (zcp rfl) rfl T.z_sum ψG (zaa (zbC (sc:=zag zbE) (N:=["boxes","budget","worth","mix","weights","columns"]) (Nc:=["plan","weight","boxes"]) (cap:=[none,none,some 0]) rfl rfl rfl (Ql) (zbz (pv 3)) (λ_ _ _ _=>(zbs rfl (zal (zaj (i:=0) (show ψh (["plan","weight","boxes"]:List Str) from by decide) rfl (Qh)) (zal (zaj (i:=1) (show ψh (["plan","weight","boxes"]:List Str) from by decide) rfl (Qh)) za6)))) (QD) (λ_ _ _ _=>(zaz zav (pv 1) (zak GZ (Qc) rfl T.mZ T.FZ.kp T.bZ .nil zaB (zaa (pv 2) (Qag)))))) zad)) (zaz zav (pv 1) (zap (zcp rfl) rfl T.z_sum ψG (zaa (pv 4) zad))) (zaV _)) (QL) zaY))
 (zae (znF (i:=5) zdg.nd rfl rfl (sc:=zag zbE) (N:=["boxes","budget","worth","mix","weights","columns"]) (Nc:=["k","mix"]) (cap:=[none,some 3]) rfl rfl rfl (Ql) (zc0 rfl T.z_range (zaa (Qq) zad)) (λ_ _ _ _=>(zaj (i:=0) (show ψh (["k","mix"]:List Str) from by decide) rfl (Or.inr rfl))) (QD) (λ_ _ _ _=>(zbC (N:=["k","mix"]) (Nc:=["plan","weight","k"]) (cap:=[none,none,some 0]) rfl (zvL.trans (congrArg (zpe _) (rfl:_=zag zbE))) rfl (Ql) (zbz (pv 1)) (λ_ _ _ _=>(zbs rfl (zal (zaj (i:=0) (show ψh (["plan","weight","k"]:List Str) from by decide) rfl (Qh)) (zal (zaj (i:=1) (show ψh (["plan","weight","k"]:List Str) from by decide) rfl (Qh)) za6)))) (QD) (λ_ _ _ _=>(zax zbX (pv 0) (pv 2) (Qo))))))
 (zah (zat (zap (zga rfl) rfl T.z_all ψz1 (zaa (zbC (sc:=zag zbE) (N:=["boxes","budget","worth","mix","weights","columns"]) (Nc:=["box","counts","weights","worth"]) (cap:=[none,none,some 4,some 2]) rfl rfl rfl (Ql) (zec rfl T.z_zip (zaa (pv 0) (zaa (pv 5) zad))) (λ_ _ _ _=>(zbs rfl (zal (zaj (i:=0) (show ψh (["box","counts","weights","worth"]:List Str) from by decide) rfl (Qh)) (zal (zaj (i:=1) (show ψh (["box","counts","weights","worth"]:List Str) from by decide) rfl (Qh)) za6)))) (QD) (λ_ _ _ _=>(zak GaD (Qc) rfl T.maD T.FaD.kp T.baD .nil zaB (Qaf)))) zad)))))))),
  zhc B hv bW M g d0 d1 q⟩
def zyL:Sp:=λvs H Q _=>∃(wl:Addr) (Ws:List Int),vs=[.ref wl,.int (Ws.length:Nat)]∧H wl=some (Qaj)∧(∀w∈Ws,0≤w)∧Ws.length≤6∧∀H',zaF H H'→Q (.bl (decide (0<Ws.sum))) H'
def zfw(K:ψa):TS :=
 (zbP (ze3 (tCB (zu9 K) (zab (zb1 (QaH) (zam 0) za8 (ze3 (zaA zhS [] E0 (QA)) (tOp (Qah) (zac 0) (Qn))) [none]) zau)) (tOp (QI) (tCB (zlH K) (QA)) (Qn))))
def zb6(K:ψa):=eqT (zfw.eq_1 K)
def zfS(K:ψa):TS :=
 (zdI (tOr (zeM (tB (QV))) (zbZ (tOp rNe (Qaq) (zac 1)))) (Qt) zbU)
def zb7(K:ψa):=eqT (zfS.eq_1 K)
def zfe(K:ψa):TS :=
 (zbg (zeK (zfS K))
 (zfw K))
theorem zjJ{wl:Addr}{Ws:List Int}(hw:H wl=some (Qaj))(w0:∀w∈Ws,0≤w)(l6:Ws.length≤6)(q:∀H',zaF H H'→Q (.bl (decide (0<Ws.sum))) H') :
  zfe K { nx:=λ_ H'=>Q .non H',rt:=Q } (L2.start ["thing","many"] [.ref wl,.int (Ws.length:Nat)]) H:=by
 unfold zfe
 simp_all only [zb6,zb7,zac]
 refine⟨λσ H'=>H'=H∧σ=[some (.ref wl),some (.int (Ws.length:Nat))],?_,?_⟩
 ·simp_all only [zb6,zb7,zac]
  refine zct hw (Qal)
  refine zb5 (Qk) (QaF)
  refine⟨_,.inl (SqL.of hw),?_⟩
  rw[ψb]
  exact zb5 (QK) (λ_=>rfl)
 ·rintro σ H' ⟨e,rfl⟩
  rw[e]
  simp_all only [zb6,zb7,zac]
  refine⟨⟨_,SqL.of hw⟩,λD hD=>?_⟩
  refine zdd (vs:=(Ws.map λ_=>true).map V.bl) hw (by simp) (by simp;omega) hD (λi x v H' R hx hv s k=>?_) λH1 s1 h1=>?_
  ·obtain⟨w,ew,rfl⟩:=zas hx
   obtain⟨r,er,rfl⟩:=zas hv
   obtain⟨_,_,rfl⟩:=zas er
   simp_all only [zb6,zb7,zac]
   refine⟨w,rfl,true,rfl,zp1 ?_⟩
   rw[decide_eq_true (w0 w (zao ew))]
   exact k _ (.refl _)
  ·simp_all only [zb6,zb7,zac]
   refine⟨_,SqL.of h1,?_⟩
   rw[zgc,show(Ws.all λ_=>true)=true from List.all_eq_true.mpr λ_ _=>rfl]
   exact zp1 ⟨Ws,SqL.of (s1 _ _ hw),q _ s1⟩
theorem zjH:zay ["thing","many"] ["thing","many"] (zag zd5):=(Qa)
theorem zjp(T:Txt K mg a):zci P w K mg base CX0 2 a.faz a.daz ["thing","many"] zyL:=by
 have GJ:=zfd (P:=P) (w:=w) (base:=base) T
 refine T.Faz.ok zjH (Qj) (Qe)
 all_goals obtain⟨wl,Ws,rfl,hw,w0,l6,q⟩:=h
 ·rfl
 exact⟨zfe K,(zae (zbA (zbY (PW.pt (zcP (zbG (zbr (QF))) (zcB (za7 zih (Qq) (pv 1) (zaV _))))) (QL) zaY))
 (zah (zat (zdD (zap (zga rfl) rfl T.z_all ψz1 (zaa (zbC (sc:=zag zd5) (N:=["thing","many"]) (Nc:=["weight"]) (cap:=[none]) rfl rfl rfl (Ql) (zbz (pv 0)) (λ_ _ _ _=>(zaj (i:=0) (show ψh (["weight"]:List Str) from by decide) rfl (Qh))) (QD) (λ_ _ _ _=>(zdD (zak GJ (Qc) rfl T.mJ T.FJ.kp T.bJ .nil zaB (Qag)) (zeY (zbT zme (pv 0) zaf (zaV _)))))) zad)) (zeY (zbT zhg (zap (zcp rfl) rfl T.z_sum ψG (Qag)) zaf (zaV _))))))),
  zjJ hw w0 l6 q⟩
def zvg:Sp:=λvs H Q _=>∃(p:Addr) (P:Rat),vs=[.ref p]∧H p=some (.tup (fr P))∧Q (.bl true) H
theorem zvl(P:Rat):ψU P.num (P.den:Int)=1:=P.reduced
def zfP(K:ψa):TS :=
 (zbP (ze3 (tOp (Qah) (Qx) (Qi)) (tOp rEq (zaA zs1 [] E0 (zab (QE) (zab (Qx) zau))) (Qi))))
def zcA(K:ψa):=eqT (zfP.eq_1 K)
def zfr(K:ψa):TS :=
 (zdI (tOr (zeM (tB (zaA zhS [] E0 (zab (QE) zau)))) (zeM (tB (zaA zhS [] E0 (zab (Qx) zau))))) (Qt) zbU)
def zcC(K:ψa):=eqT (zfr.eq_1 K)
def zfB(K:ψa):TS :=
 (zdI (tOr (zeM (QP)) (zbZ (tOp rNe (Qaq) (QU)))) (Qt) zbU)
def zcD(K:ψa):=eqT (zfB.eq_1 K)
def zfh(K:ψa):TS :=
 (zbg (zeK (zfB K))
 (zbg (zeK (zfr K))
 (zfP K)))
theorem zjx{p:Addr}{P:Rat}(hp:H p=some (.tup (fr P)))(q:Q (.bl true) H) :
  zfh K { nx:=λ_ H'=>Q .non H',rt:=Q } (L2.start ["thing"] [.ref p]) H:=by
 unfold zfh
 have d:=zch P
 have hP:=SqT.of (K:=K) hp
 simp_all only [zcA,zcC,zcD,zac]
 refine⟨λσ H'=>H'=H∧σ=[some (.ref p)],?_,?_⟩
 ·simp_all only [zcA,zcC,zcD,zac]
  refine zcq hp (Qal)
  refine zb5 (Qk) (QaF)
  refine⟨_,.inr hP,?_⟩
  exact zb5 (QK) (λ_=>rfl)
 ·rintro σ H' ⟨e,rfl⟩
  rw[e]
  refine⟨λσ H'=>H'=H∧σ=[some (.ref p)],?_,?_⟩
  ·simp_all only [zcA,zcC,zcD,zac]
   refine⟨_,hP,_,rfl,P.num,rfl,true,rfl,?_⟩
   refine zb5 (Qk) (QaF)
   refine⟨_,hP,_,rfl,(P.den:Int),rfl,true,rfl,?_⟩
   exact zb5 (Qk) (λ_=>rfl)
  ·rintro σ H' ⟨e,rfl⟩
   rw[e]
   simp_all only [zcA,zcC,zcD,zac]
   refine⟨_,hP,_,rfl,_,rfl,?_⟩
   refine zb5 (QaF) (λz=>absurd (show(1:Int)≤(P.den:Int) by omega) z)
   refine⟨_,hP,_,rfl,_,hP,_,rfl,P.num,(P.den:Int),rfl,?_⟩
   rw[zvl]
   exact⟨rfl,q⟩
theorem zjt:zay ["thing"] ["thing"] (zag ze9):=(Qa)
theorem zjG(T:Txt K mg a):zci P w K mg base CX0 2 a.fay a.day ["thing"] zvg:=by
 have GO:=zf8 (P:=P) (w:=w) (base:=base) T
 have GJ:=zfd (P:=P) (w:=w) (base:=base) T
 refine T.Fay.ok zjt (Qj) (Qe)
 all_goals obtain⟨p,P,rfl,hp,q⟩:=h
 ·rfl
 exact⟨zfh K,(zae (Qy)
 (zae (zbA (zbY (PW.pt (zcP (zbG (zbr (zak GJ (Qc) rfl T.mJ T.FJ.kp T.bJ .nil zaB (zaa (Qg) zad)))) (zcB (zbG (zbr (zak GJ (Qc) rfl T.mJ T.FJ.kp T.bJ .nil zaB (zaa (Qg) zad))))))) (QL) zaY))
 (zah (zat (zdD (zbT zme (Qg) zaf (zaV _)) (zeY (zbT zjs (zak GO (Qc) rfl T.mO T.FO.kp T.bO .nil zaB (zaa (Qg) (zaa (Qg) zad))) zaf (zaV _)))))))),
  zjx hp q⟩
structure PpH (H:Hp) (pr:Addr) (n:Nat) (Ws:List Int) (P:Rat) (ns:List Int):Prop where
 ex:∃wl pp cl:Addr,H pr=some (Qaa)∧H wl=some (Qaj)∧H pp=some (.tup (fr P))∧H cl=some (QH)
 lw:Ws.length=n
 ln:ns.length=n
 w0:∀w∈Ws,0≤w
 wb:∀w∈Ws,Bd 2800 w
 n0:∀m∈ns,0≤m∧m≤100
 p0:0≤P
 pb:Bq 2800 P
theorem PpH.same{H H':Hp}{pr:Addr}{n:Nat}{Ws:List Int}{P:Rat}{ns:List Int}(h:PpH H pr n Ws P ns)(s:zaF H H'):PpH H' pr n Ws P ns:=by
 obtain⟨wl,pp,cl,a1,a2,a3,a4⟩:=h.ex
 exact⟨⟨wl,pp,cl,s _ _ a1,s _ _ a2,s _ _ a3,s _ _ a4⟩,h.lw,h.ln,h.w0,h.wb,h.n0,h.p0,h.pb⟩
def okH(Ws ns:List Int):Bool:=decide (0<Ws.sum)&&okP ns
def zok:Sp:=λvs H Q _=>∃(pr l:Addr) (ts:List Addr) (bs:List Box) (Ws ns:List Int) (P:Rat),vs=[.ref pr,.ref l]∧Bx6 H l ts bs∧PpH H pr bs.length Ws P ns∧∀H',zaF H H'→Q (.bl (okH Ws ns)) H'
def zeu(K:ψa):TS :=
 (zbg (zbS (zac 0) (zdS K 3 (zaL (zam 2) (zaL (zam 3) (zaL (zam 4) zdO)))))
 (zbP (ze3 (zaA zyL [] E0 (zab (zac 2) (zab (tCB (Qb) (Qz)) zau))) (ze3 (zaA zvg [] E0 (Q3)) (ze3 (tOp (Qah) (tOp (zbB K) (zac 3) (Qn)) (Qn)) (zaA zkA [] E0 (zab (zac 4) (Qz))))))))
def zcK(K:ψa):=eqT (zeu.eq_1 K)
def zet(K:ψa):TS :=
 (zdI (tOr (zeM (QP)) (zbZ (tOp rNe (Qaq) (tC (.int 3))))) (Qt) zbU)
def zcG(K:ψa):=eqT (zet.eq_1 K)
def zdJ(K:ψa):TS :=
 (zbg (zeK (zet K))
 (zeu K))
theorem zhH{pr l:Addr}{ts:List Addr}{bs:List Box}{Ws ns:List Int}{P:Rat}(B:Bx6 H l ts bs)(A:PpH H pr bs.length Ws P ns)(q:∀H',zaF H H'→Q (.bl (okH Ws ns)) H') :
  zdJ K { nx:=λ_ H'=>Q .non H',rt:=Q } (L2.start ["thing","boxes","weights","price","counts"] [.ref pr,.ref l]) H:=by
 unfold zdJ
 obtain⟨wl,pp,cl,a1,a2,a3,a4⟩:=A.ex
 have l6:=B.l6
 have lw:=A.lw
 simp_all only [zcK,zcG,zac]
 refine⟨λσ H'=>H'=H∧σ=[some (.ref pr),some (.ref l),none,none,none],?_,?_⟩
 ·simp_all only [zcK,zcG,zac]
  refine zcq a1 (Qal)
  refine zb5 (Qk) (QaF)
  refine⟨_,.inr (SqT.of a1),?_⟩
  exact zb5 (QK) (λ_=>rfl)
 ·rintro σ H' ⟨e,rfl⟩
  rw[e]
  simp_all only [zcK,zcG,zac]
  refine⟨_,SqT.of a1,rfl,_,_,rfl,_,_,rfl,_,_,rfl,rfl,?_⟩
  refine⟨_,.inl (SqL.of B.hl),?_⟩
  rw[ψb,B.hb.1,← lw]
  refine⟨wl,Ws,rfl,a2,A.w0,by omega,λH1 s1=>⟨decide (0<Ws.sum),rfl,?_⟩⟩
  unfold okH at q
  by_cases c:0<Ws.sum
  ·rw[if_pos (decide_eq_true c)]
   rw[decide_eq_true c,Bool.true_and] at q
   have h3:=s1 _ _ a3
   refine⟨pp,P,rfl,h3,true,rfl,zp1 ⟨pp,rfl,_,SqT.of h3,_,rfl,_,rfl,?_⟩⟩
   have n0:0≤P.num:=Rat.num_nonneg.mpr A.p0
   rw[if_pos n0]
   exact⟨cl,l,ts,bs,ns,rfl,B.same s1,s1 _ _ a4,A.ln,λm hm=>(A.n0 m hm).1,λH2 s2=>q _ (s1.trans s2)⟩
  ·rw[if_neg (by simpa using c)]
   rw[decide_eq_false c,Bool.false_and] at q
   exact q _ s1
theorem zcR:zay ["thing","boxes","weights","price","counts"] (Qac) (zag zdP):=(Qa)
theorem zhJ(T:Txt K mg a):zci P w K mg base CX0 4 a.faF a.daF (Qac) zok:=by
 have Gaz:=zjp (P:=P) (w:=w) (base:=base) T
 have Gay:=zjG (P:=P) (w:=w) (base:=base) T
 have Gaj:=zjN (P:=P) (w:=w) (base:=base) T
 refine T.FaF.ok zcR (Qj) (Qe)
 all_goals obtain⟨pr,l,ts,bs,Ws,ns,P',rfl,B,A,q⟩:=h
 ·rfl
 exact⟨zdJ K,(zae (Qy)
 (zae (zc1 (pv 0) (zbs rfl (zal (zaj (i:=2) zcR.nd rfl (Qh)) (zal (zaj (i:=3) zcR.nd rfl (Qh)) (zal (zaj (i:=4) zcR.nd rfl (Qh)) za6)))))
 (zah (zat (zdD (zak Gaz (Qc) rfl T.maz T.Faz.kp T.baz .nil zaB (zaa (pv 2) (zaa (zap zar rfl T.z_len ψo (QB)) zad))) (zdD (zak Gay (Qc) rfl T.may T.Fay.kp T.bay .nil zaB (zaa (pv 3) zad)) (zdD (zbT zme (Qao) zaf (zaV _)) (zeY (zak Gaj (Qc) rfl T.maj T.Faj.kp T.baj .nil zaB (zaa (pv 4) (QB))))))))))),
  zhH B A q⟩
theorem zkB{b:Box}(g:GB b)(w n:Int)(P:Rat):(w*b.2.1*(b.2.2 - b.2.1) ^ n.toNat*(P.den:Int)≤P.num*b.1*b.2.2*b.2.2 ^ n.toNat↔(w:Rat)*gnq b n≤P*(b.1:Rat))∧(P.num*b.1*b.2.2*b.2.2 ^ n.toNat≤w*b.2.1*(b.2.2 - b.2.1) ^ n.toNat*(P.den:Int)↔P*(b.1:Rat)≤(w:Rat)*gnq b n):=by
 have o:=zdh g n
 have o1:0<b.2.2:=by have:=g.2.2.1;have:=g.2.2.2.1;omega
 have d:=zch P
 have D:(0:Rat)<((b.2.2 ^ n.toNat*b.2.2*P.den:Int):Rat):=by exact_mod_cast ψA1 (ψA1 o o1) d
 have e1:(w:Rat)*gnq b n*((b.2.2 ^ n.toNat*b.2.2*P.den:Int):Rat)=((w*b.2.1*(b.2.2 - b.2.1) ^ n.toNat*(P.den:Int):Int):Rat):=by
  unfold gnq
  rw[ψl]
  simp only[ψm]
  have on:((b.2.2 ^ n.toNat:Int):Rat)≠0:=λz=>by
   have:(b.2.2 ^ n.toNat:Int)=0:=by exact_mod_cast z
   omega
  have oo:(b.2.2:Rat)≠0:=λz=>by
   have:b.2.2=0:=by exact_mod_cast z
   omega
  generalize ((b.2.2 ^ n.toNat:Int):Rat)=A at on ⊢
  generalize (b.2.2:Rat)=O at oo ⊢
  generalize (((b.2.2 - b.2.1) ^ n.toNat:Int):Rat)=M
  grind
 have e2:P*(b.1:Rat)*((b.2.2 ^ n.toNat*b.2.2*P.den:Int):Rat)=((P.num*b.1*b.2.2*b.2.2 ^ n.toNat:Int):Rat):=by
  have h:=ψy P
  rw[ψl] at h
  simp only[ψm]
  have dn:((P.den:Int):Rat)≠0:=λz=>by
   have:(P.den:Int)=0:=by exact_mod_cast z
   omega
  have h2:(P.num:Rat)=P*((P.den:Int):Rat):=by
   generalize ((P.den:Int):Rat)=x at h dn ⊢
   generalize (P.num:Rat)=y at h ⊢
   grind
  rw[h2]
  generalize ((P.den:Int):Rat)=x
  grind
 constructor
 ·rw[← Rat.intCast_le_intCast,← e1,← e2]
  exact⟨λz=>ψt1 z D,λz=>ψJ z (ψB D)⟩
 ·rw[← Rat.intCast_le_intCast,← e1,← e2]
  exact⟨λz=>ψt1 z D,λz=>ψJ z (ψB D)⟩
def zjl(H:Hp)(t p:Addr)(b:Box)(w n:Int)(P:Rat):Prop:=H t=some (.tup (bx b))∧GB b∧H p=some (.tup (fr P))∧Bd 2800 w∧Bq 2800 P∧0≤n∧n≤60
def zrn:Sp:=λvs H Q _=>∃(t p:Addr) (b:Box) (w n:Int) (P:Rat),vs=[.ref t,.int w,.ref p,.int n]∧zjl H t p b w n P∧∀(r:Bool) (H':Hp),zaF H H'→(r=true↔(w:Rat)*gnq b n≤P*(b.1:Rat))→Q (.bl r) H'
def zc9(K:ψa):TS :=
 (zbg (zbS (zaA zfc [] E0 (zab (zac 0) (Q3))) (zdS K 2 (zaL (zam 4) (zaL (zam 5) zdO))))
 (zbP (tOp (Q6) (tOp (Qd) (tOp (Qd) (tOp (Qd) (zac 1) (Qx)) (zac 4)) (tOp (zbB K) (zac 2) (Qi))) (tOp (Qd) (tOp (Qd) (tOp (Qd) (tOp (zbB K) (zac 2) (Qn)) (QE)) (Qaw)) (zac 5)))))
theorem zgg{t p:Addr}{b:Box}{w n:Int}{P:Rat}(A:zjl H t p b w n P)(q:∀(r:Bool) (H':Hp),zaF H H'→(r=true↔(w:Rat)*gnq b n≤P*(b.1:Rat))→Q (.bl r) H') :
  zc9 K { nx:=λ_ H'=>Q .non H',rt:=Q } (L2.start ["box","weight","price","count","top","bottom"] [.ref t,.int w,.ref p,.int n]) H:=by
 unfold zc9
 obtain⟨ht,g,hp,bw,bP,n0,n1⟩:=A
 have cm:=(zkB g w n P).1
 have bo:=zgf g n1
 have g':=g
 obtain⟨g1,g2,g3,g4,g5⟩:=g
 have bt:Bd 400 ((b.2.2 - b.2.1) ^ n.toNat):=zes (Qf) (Qf) (Qf)
 have h6:Bd 6 b.2.1:=by show b.2.1.natAbs<2 ^ 6;omega
 have c6:Bd 6 b.1:=by show b.1.natAbs<2 ^ 6;omega
 have o6:Bd 6 b.2.2:=by show b.2.2.natAbs<2 ^ 6;omega
 simp_all only [zac]
 refine⟨t,b,n,rfl,ht,g',n0,n1,λr H1 s1 h1=>?_⟩
 simp_all only [zac]
 have ht1:=SqT.of (K:=K) (s1 _ _ ht)
 have hp1:=SqT.of (K:=K) (s1 _ _ hp)
 have m1:=bw.mul h6
 have m2:=m1.mul bt
 have m3:=bP.top.mul c6
 have m4:=m3.mul o6
 refine⟨_,SqT.of h1,rfl,_,_,rfl,_,_,rfl,rfl,?_⟩
 refine⟨_,ht1,_,rfl,_,rfl,zde 2800 6 bw h6,_,rfl,zde 2806 400 m1 bt,_,hp1,_,rfl,_,rfl,zde 3206 2800 m2 bP.bot,_,hp1,_,rfl,_,ht1,_,rfl,_,rfl,_,rfl,zde 2800 6 bP.top c6,_,ht1,_,rfl,_,rfl,zde 2806 6 m3 o6,_,rfl,zde 2812 400 m4 bo,?_⟩
 exact q _ H1 s1 (by rw[decide_eq_true_iff];exact cm)
theorem zcW:zay ["box","weight","price","count","top","bottom"] (QR) (zag zda):=(Qa)
theorem zgi(T:Txt K mg a):zci P w K mg base CX0 3 a.faH a.daH (QR) zrn:=by
 have GH:=zeX (P:=P) (w:=w) (base:=base) T
 refine T.FaH.ok zcW (Qj) (Qe)
 all_goals obtain⟨t,p,b,w,n,P',rfl,A,q⟩:=h
 ·rfl
 exact⟨zc9 K,(zae (zc1 (zak GH (Qc) rfl T.mH T.FH.kp T.bH .nil zaB (zaa (pv 0) (zaa (pv 3) zad))) (zbs rfl (zal (zaj (i:=4) zcW.nd rfl (Qh)) (zal (zaj (i:=5) zcW.nd rfl (Qh)) za6))))
 (zah (zat (zbT zk1 (zaz zav (zaz zav (zaz zav (pv 1) (Qg)) (pv 4)) (QW)) (zaz zav (zaz zav (zaz zav (QW) (Qg)) (Qg)) (pv 5)) (zaV _))))),
  zgg A q⟩
def zsd:Sp:=λvs H Q _=>∃(t p:Addr) (b:Box) (w n:Int) (P:Rat),vs=[.ref t,.int w,.ref p,.int n]∧zjl H t p b w n P∧0<n∧∀(r:Bool) (H':Hp),zaF H H'→(r=true↔P*(b.1:Rat)≤(w:Rat)*gnq b (n - 1))→Q (.bl r) H'
def zcY(K:ψa):TS :=
 (zbg (zbS (zaA zfc [] E0 (zab (zac 0) (zab (tOp (QJ) (zac 3) (Qi)) zau))) (zdS K 2 (zaL (zam 4) (zaL (zam 5) zdO))))
 (zbP (tOp (Qah) (tOp (Qd) (tOp (Qd) (tOp (Qd) (zac 1) (Qx)) (zac 4)) (tOp (zbB K) (zac 2) (Qi))) (tOp (Qd) (tOp (Qd) (tOp (Qd) (tOp (zbB K) (zac 2) (Qn)) (QE)) (Qaw)) (zac 5)))))
theorem zfy{t p:Addr}{b:Box}{w n:Int}{P:Rat}(A:zjl H t p b w n P)(np:0<n)(q:∀(r:Bool) (H':Hp),zaF H H'→(r=true↔P*(b.1:Rat)≤(w:Rat)*gnq b (n - 1))→Q (.bl r) H') :
  zcY K { nx:=λ_ H'=>Q .non H',rt:=Q } (L2.start ["box","weight","price","count","top","bottom"] [.ref t,.int w,.ref p,.int n]) H:=by
 unfold zcY
 obtain⟨ht,g,hp,bw,bP,n0,n1⟩:=A
 have cm:=(zkB g w (n - 1) P).2
 have bo:=zgf g (show n - 1≤60 by omega)
 have g':=g
 obtain⟨g1,g2,g3,g4,g5⟩:=g
 have bt:Bd 400 ((b.2.2 - b.2.1) ^ (n - 1).toNat):=zes (Qf) (Qf) (Qf)
 have h6:Bd 6 b.2.1:=by show b.2.1.natAbs<2 ^ 6;omega
 have c6:Bd 6 b.1:=by show b.1.natAbs<2 ^ 6;omega
 have o6:Bd 6 b.2.2:=by show b.2.2.natAbs<2 ^ 6;omega
 simp_all only [zac]
 refine⟨t,b,n - 1,rfl,ht,g',by omega,by omega,λr H1 s1 h1=>?_⟩
 simp_all only [zac]
 have ht1:=SqT.of (K:=K) (s1 _ _ ht)
 have hp1:=SqT.of (K:=K) (s1 _ _ hp)
 have m1:=bw.mul h6
 have m2:=m1.mul bt
 have m3:=bP.top.mul c6
 have m4:=m3.mul o6
 refine⟨_,SqT.of h1,rfl,_,_,rfl,_,_,rfl,rfl,?_⟩
 refine⟨_,ht1,_,rfl,_,rfl,zde 2800 6 bw h6,_,rfl,zde 2806 400 m1 bt,_,hp1,_,rfl,_,rfl,zde 3206 2800 m2 bP.bot,_,hp1,_,rfl,_,ht1,_,rfl,_,rfl,_,rfl,zde 2800 6 bP.top c6,_,ht1,_,rfl,_,rfl,zde 2806 6 m3 o6,_,rfl,zde 2812 400 m4 bo,?_⟩
 exact q _ H1 s1 (by rw[decide_eq_true_iff];exact cm)
theorem zcI:zay ["box","weight","price","count","top","bottom"] (QR) (zag zcZ):=(Qa)
theorem zfv(T:Txt K mg a):zci P w K mg base CX0 3 a.faG a.daG (QR) zsd:=by
 have GH:=zeX (P:=P) (w:=w) (base:=base) T
 refine T.FaG.ok zcI (Qj) (Qe)
 all_goals obtain⟨t,p,b,w,n,P',rfl,A,np,q⟩:=h
 ·rfl
 exact⟨zcY K,(zae (zc1 (zak GH (Qc) rfl T.mH T.FH.kp T.bH .nil zaB (zaa (pv 0) (zaa (zaz zdy (pv 3) zaf) zad))) (zbs rfl (zal (zaj (i:=4) zcI.nd rfl (Qh)) (zal (zaj (i:=5) zcI.nd rfl (Qh)) za6))))
 (zah (zat (zbT zme (zaz zav (zaz zav (zaz zav (pv 1) (Qg)) (pv 4)) (QW)) (zaz zav (zaz zav (zaz zav (QW) (Qg)) (Qg)) (pv 5)) (zaV _))))),
  zfy A np q⟩
def zmI:Sp:=λvs H Q _=>∃(t p:Addr) (b:Box) (w n:Int) (P:Rat),vs=[.ref t,.int w,.ref p,.int n]∧zjl H t p b w n P∧∀(r:Bool) (H':Hp),zaF H H'→(r=true↔Mrk b w P n)→Q (.bl r) H'
theorem zjl.same{H H':Hp}{t p:Addr}{b:Box}{w n:Int}{P:Rat}(A:zjl H t p b w n P)(s:zaF H H'):zjl H' t p b w n P:=by
 obtain⟨a1,a2,a3,a4⟩:=A
 exact⟨s _ _ a1,a2,s _ _ a3,a4⟩
def zeR:TS :=
 (zdI (tAnd (zbZ (tOp (QI) (zac 3) (Qn))) (zeM (tB (zaA zsd [] E0 (Qay))))) (Qt) zbU)
def zcX:=eqT (zeR.eq_1)
def zen:TS :=
 (zbg (zeK (zeR))
 (zbP (zaA zrn [] E0 (Qay))))
theorem zig{t p:Addr}{b:Box}{w n:Int}{P:Rat}(A:zjl H t p b w n P)(q:∀(r:Bool) (H':Hp),zaF H H'→(r=true↔Mrk b w P n)→Q (.bl r) H') :
  zen { nx:=λ_ H'=>Q .non H',rt:=Q } (L2.start (QR) [.ref t,.int w,.ref p,.int n]) H:=by
 unfold zen
 simp_all only [zcX,zac]
 refine⟨λσ H'=>zaF H H'∧(0<n→P*(b.1:Rat)≤(w:Rat)*gnq b (n - 1))∧σ=[some (.ref t),some (.int w),some (.ref p),some (.int n)],?_,?_⟩
 ·simp_all only [zcX,zac]
  by_cases c:0<n
  ·rw[if_pos c]
   refine⟨t,p,b,w,n,P,rfl,A,c,λr H1 s1 hr=>⟨r,rfl,?_⟩⟩
   cases r with
   | true=>exact zb5 (Qk) (λ_=>⟨s1,λ_=>hr.mp rfl⟩)
   | false=>exact zb5 (λ_=>q false H1 s1 ⟨λz=>(by cases z),λz=>absurd (hr.mpr (z.2 c)) (Qs)⟩) (QK)
  ·rw[if_neg c]
   exact⟨.refl _,λz=>absurd z c⟩
 ·rintro σ H1 ⟨s1,hl,rfl⟩
  simp_all only [zcX,zac]
  refine⟨t,p,b,w,n,P,rfl,A.same s1,λr H2 s2 hr=>?_⟩
  exact q r H2 (s1.trans s2) ⟨λz=>⟨hr.mp z,hl⟩,λz=>hr.mpr z.1⟩
theorem zim:zay (QR) (QR) (zag zei):=(Qa)
theorem zid(T:Txt K mg a):zci P w K mg base CX0 4 a.faI a.daI (QR) zmI:=by
 have GaG:=zfv (P:=P) (w:=w) (base:=base) T
 have GaH:=zgi (P:=P) (w:=w) (base:=base) T
 refine T.FaI.ok zim (Qj) (Qe)
 all_goals obtain⟨t,p,b,w,n,P',rfl,A,q⟩:=h
 ·rfl
 exact⟨zen,(zae (zbA (zbY (PW.pt (zzD (za7 zhg (pv 3) zaf (zaV _)) (zwc (zbG (zbr (zak GaG (Qc) rfl T.maG T.FaG.kp T.baG .nil zaB (Qaf))))))) (QL) zaY))
 (zah (zat (zak GaH (Qc) rfl T.maH T.FaH.kp T.baH .nil zaB (Qaf))))),
  zig A q⟩
def mss(b:Box)(n:Int):List V:=[.int ((b.2.2 - b.2.1) ^ n.toNat),.int (b.2.2 ^ n.toNat)]
def mssP(x:Box×Int):List V:=mss x.1 x.2
def ztg:List (Box×Int)→Int
 | []=>1
 | x::xs=>x.1.2.2 ^ x.2.toNat*ztg xs
theorem zo9:∀(xs:List (Box×Int)) (x:Box×Int),ztg (xs++[x])=ztg xs*x.1.2.2 ^ x.2.toNat
 | [],x=>by
  show x.1.2.2 ^ x.2.toNat*1=1*x.1.2.2 ^ x.2.toNat
  rw[ψX1,Int.one_mul]
 | y::ys,x=>by
  show y.1.2.2 ^ y.2.toNat*ztg (ys++[x])=y.1.2.2 ^ y.2.toNat*ztg ys*x.1.2.2 ^ x.2.toNat
  rw[zo9 ys x,Int.mul_assoc]
theorem zpc:∀xs:List (Box×Int),(∀x∈xs,GB x.1)→0<ztg xs
 | [],_=>by decide
 | x::xs,h=>ψA1 (zdh (h x ψe) x.2) (zpc xs λy hy=>h y (ψd _ hy))
theorem znn:∀xs:List (Box×Int),(∀x∈xs,GB x.1∧x.2≤60)→Bd (400*xs.length+1) (ztg xs)
 | [],_=>by show(1:Nat)<2 ^ 1;decide
 | x::xs,h=>by
  have ih:=znn xs λy hy=>h y (ψd _ hy)
  obtain⟨g,n⟩:=h x ψe
  exact((zgf g n).mul ih).mono (by rw[ψM];omega)
theorem zon:∀(xs:List (Box×Int)) (x:Box×Int),x∈xs→x.1.2.2 ^ x.2.toNat∣ztg xs
 | y::ys,x,h=>by
  rcases List.mem_cons.mp h with rfl | h
  ·exact Int.dvd_mul_right ..
  ·exact Int.dvd_trans (zon ys x h) (Int.dvd_mul_left ..)
theorem zrj{b:Box}(g:GB b){n w T:Int}(h:b.2.2 ^ n.toNat∣T):((w*(b.2.2 ^ n.toNat - (b.2.2 - b.2.1) ^ n.toNat)*T.fdiv (b.2.2 ^ n.toNat):Int):Rat)=(w:Rat)*chq b n*(T:Rat):=by
 have o:=zdh g n
 have f:=zdb h
 generalize T.fdiv (b.2.2 ^ n.toNat)=k at f ⊢
 rw[← f]
 unfold chq
 rw[ψl,ψm,ψm,ψm]
 have on:((b.2.2 ^ n.toNat:Int):Rat)≠0:=λz=>by
  have:(b.2.2 ^ n.toNat:Int)=0:=by exact_mod_cast z
  omega
 generalize ((b.2.2 ^ n.toNat:Int):Rat)=A at on ⊢
 generalize ((b.2.2 ^ n.toNat - (b.2.2 - b.2.1) ^ n.toNat:Int):Rat)=C
 grind
theorem zos{T:Int}:∀(bs:List Box) (Ws ns:List Int),(QaD)→(∀x∈ψn bs ns,x.1.2.2 ^ x.2.toNat∣T)→(((ψf (Qab) Ws (QaA)).sum:Int):Rat)=znd bs Ws ns*(T:Rat)
 | [],Ws,ns,_,_=>by
  simp only[znd,zmq,List.zip_nil_left,ψl1,ψZ1,ψY]
  rw[show((0:Int):Rat)=0 from rfl]
  grind
 | _::_,Ws,[],_,_=>by
  simp only[znd,zmq,List.zip_nil_right,ψZ1,ψY]
  rw[show((0:Int):Rat)=0 from rfl]
  grind
 | _::_,[],_::_,_,_=>by
  simp only[znd,ψl1,ψY]
  rw[show((0:Int):Rat)=0 from rfl]
  grind
 | b::bs,w::Ws,n::ns,gb,h=>by
  have ih:=zos bs Ws ns (λx hx=>gb x (ψd _ hx)) (λx hx=>h x (ψd _ hx))
  have t:=zrj (gb b ψe) (w:=w) (h (b,n) ψe)
  show((w*(b.2.2 ^ n.toNat - (b.2.2 - b.2.1) ^ n.toNat)*T.fdiv (b.2.2 ^ n.toNat)+(ψf (Qab) Ws (QaA)).sum:Int):Rat)=((w:Rat)*chq b n+znd bs Ws ns)*(T:Rat)
  rw[ψT,t,ih]
  grind
theorem zvP{F P W:Rat}{f S T s:Int}(T0:0<T)(h:(f:Rat)=F*(T:Rat)):(f*(P.den:Int)+P.num*s*T)*(W.den:Int)≤W.num*S*T*(P.den:Int)↔F+P*(s:Rat)≤W*(S:Rat):=by
 have dP:=zch P
 have dW:=zch W
 have TR:(0:Rat)<(T:Rat):=by exact_mod_cast T0
 have pR:(0:Rat)<((P.den:Int):Rat):=by exact_mod_cast dP
 have wR:(0:Rat)<((W.den:Int):Rat):=by exact_mod_cast dW
 have hP:(P.num:Rat)=P*((P.den:Int):Rat):=by
  have h:=ψy P
  rw[ψl] at h
  generalize ((P.den:Int):Rat)=x at h pR ⊢
  generalize (P.num:Rat)=y at h ⊢
  have:x≠0:=by grind
  grind
 have hW:(W.num:Rat)=W*((W.den:Int):Rat):=by
  have h:=ψy W
  rw[ψl] at h
  generalize ((W.den:Int):Rat)=x at h wR ⊢
  generalize (W.num:Rat)=y at h ⊢
  have:x≠0:=by grind
  grind
 rw[← Rat.intCast_le_intCast]
 simp only[ψm,ψT]
 rw[h,hP,hW]
 have D:=ψB1 (ψB1 TR pR) wR
 have e1:(F*(T:Rat)*((P.den:Int):Rat)+P*((P.den:Int):Rat)*(s:Rat)*(T:Rat))*((W.den:Int):Rat)=(F+P*(s:Rat))*((T:Rat)*((P.den:Int):Rat)*((W.den:Int):Rat)):=by
  generalize ((P.den:Int):Rat)=x
  generalize ((W.den:Int):Rat)=y
  grind
 have e2:W*((W.den:Int):Rat)*(S:Rat)*(T:Rat)*((P.den:Int):Rat)=W*(S:Rat)*((T:Rat)*((P.den:Int):Rat)*((W.den:Int):Rat)):=by
  generalize ((P.den:Int):Rat)=x
  generalize ((W.den:Int):Rat)=y
  grind
 rw[e1,e2]
 exact⟨λz=>ψt1 z D,λz=>ψJ z (ψB D)⟩
def zo4:Sp:=λvs H Q _=>∃(l v pr:Addr) (bud:Int) (ts:List Addr) (bs:List Box) (W P:Rat) (Ws ns:List Int),vs=[.ref l,.int bud,.ref v,.ref pr]∧Bx6 H l ts bs∧H v=some (QaG)∧Bq 2000 W∧PpH H pr bs.length Ws P ns∧(∀n∈ns,n≤60)∧0≤bud∧bud≤60∧∀(r:Bool) (H':Hp),zaF H H'→(r=true↔znd bs Ws ns+P*((bud - (zaH bs ns).sum:Int):Rat)≤W*(Ws.sum:Rat))→Q (.bl r) H'
def zgk(K:ψa):TS :=
 (zbg (zbS (tCB (zlH K) (zab (zb1 (zlG K (zab (zac 4) (zab (zac 7) zau))) (Qm) za8 (tOp (Qd) (tOp (Qd) (zac 0) (tOp (QJ) (QT) (Qav))) (tOp (Qw) (zac 2) (QT))) [none,none,some 8]) zau)) (zam 11))
 (zbg (zbS (tOp (Qd) (tOp (Qd) (tOp (zbB K) (zac 5) (Qn)) (tOp (QJ) (zac 1) (zaA zoO [] E0 (zab (zac 0) (zab (zac 6) zau))))) (zac 8)) (zam 12))
 (zbP (tOp (Q6) (tOp (Qd) (tOp (QM) (tOp (Qd) (zac 11) (tOp (zbB K) (zac 5) (Qi))) (zac 12)) (tOp (zbB K) (zac 2) (Qi))) (tOp (Qd) (tOp (Qd) (tOp (Qd) (tOp (zbB K) (zac 2) (Qn)) (tCB (zlH K) (QaC))) (zac 8)) (tOp (zbB K) (zac 5) (Qi)))))))
def zbD(K:ψa):=eqT (zgk.eq_1 K)
def zfA(K:ψa):TS :=
 (zbg (zbS (zac 3) (zdS K 3 (zaL (zam 4) (zaL (zam 5) (zaL (zam 6) zdO)))))
 (zbg (zbS (zb1 (zlG K (zab (zac 0) (zab (zac 6) zau))) (Qm) za8 (zaA zfc [] E0 (QZ)) [none,none]) (zam 7))
 (zbg (zbS (Qi) (zam 8))
 (zbg (zjW (zcT K (zac 7)) (zdS K 2 (zaL (zam 9) (zaL (zam 10) zdO)))
 (zbS (tOp (Qd) (zac 8) (zac 10)) (zam 8)))
 (zgk K)))))
theorem zli{l v pr:Addr}{bud:Int}{ts:List Addr}{bs:List Box}{W P:Rat}{Ws ns:List Int}(B:Bx6 H l ts bs)(hv:H v=some (QaG))(bW:Bq 2000 W)(A:PpH H pr bs.length Ws P ns)(n60:∀n∈ns,n≤60)(d0:0≤bud)(d1:bud≤60)(q:∀(r:Bool) (H':Hp),zaF H H'→(r=true↔znd bs Ws ns+P*((bud - (zaH bs ns).sum:Int):Rat)≤W*(Ws.sum:Rat))→Q (.bl r) H') :
  zfA K { nx:=λ_ H'=>Q .non H',rt:=Q } (L2.start ["boxes","budget","worth","paper","weights","price","counts","misses","whole","top","bottom","found","spare"] [.ref l,.int bud,.ref v,.ref pr]) H:=by
 unfold zfA
 obtain⟨wl,pp,cl,a1,a2,a3,a4⟩:=A.ex
 have l6:=B.l6
 have gn:∀n∈ns,0≤n∧n≤60:=λn hn=>⟨(A.n0 n hn).1,n60 n hn⟩
 have gz:∀x∈ψn bs ns,GB x.1∧x.2≤60:=λx hx=>by
  obtain⟨i,ei⟩:=ψp hx
  rw[ψO] at ei
  exact⟨B.gb _ (zao ei.1),n60 _ (zao ei.2)⟩
 have lz:(QaA).length=bs.length:=by rw[List.length_zip,A.ln];omega
 simp_all only [zbD,zac]
 refine⟨_,SqT.of a1,rfl,_,_,rfl,_,_,rfl,_,_,rfl,rfl,?_⟩
 refine⟨_,rfl,⟨_,SqL.of B.hl⟩,⟨_,SqL.of a4⟩,λD hD=>?_⟩
 refine zfZ (f:=mssP) (qs:=ψn bs ns) B.hl a4 (by rw[lz,ψb,ψb,B.hb.1,A.ln];omega) (Qf) hD (λi x z w H3 R hx hz hw s3 k=>?_) λus H1 s1 h1 T1=>?_
 ·obtain⟨t,ht,rfl⟩:=zas hx
  obtain⟨n,hn,rfl⟩:=zas hz
  obtain⟨b,hb1,hb2⟩:=B.hb.at ht
  have ez:(QaA)[i]?=some (b,n):=List.getElem?_zip_eq_some.mpr ⟨hb1,hn⟩
  rw[ez] at hw
  cases hw
  simp_all only [zbD,zac]
  exact⟨t,b,n,rfl,s3 _ _ hb2,B.gb b (zao hb1),(gn n (zao hn)).1,(gn n (zao hn)).2,k⟩
 simp_all only [zbD,zac]
 refine⟨⟨_,SqL.of h1⟩,?_⟩
 refine zc2 (K:=K) (xs:=us.map V.ref) (λi σ H'=>zaF H1 H'∧∃y9 y10,σ=[some (.ref l),some (.int bud),some (.ref v),some (.ref pr),some (.ref wl),some (.ref pp),some (.ref cl),some (.ref D),some (.int (ztg ((QaA).take i))),y9,y10,none,none]) ⟨.refl _,_,_,rfl⟩ ?_ ?_ ?_
 ·rintro i σ H' _ ⟨s,_⟩
  exact SqL.of (s _ _ h1)
 ·rintro i x σ H2 hx ⟨s2,y9,y10,rfl⟩
  obtain⟨u,eu,rfl⟩:=zas hx
  obtain⟨z,ez,hz⟩:=T1.at eu
  have gzz:=gz z (zao ez)
  have li:=(List.getElem?_eq_some_iff.mp ez).1
  have bb:=znn ((QaA).take i) λy hy=>gz y (ψL1 hy)
  rw[ψL] at bb
  simp_all only [zbD,zac]
  refine⟨_,SqT.of (s2 _ _ hz),rfl,_,_,rfl,_,_,rfl,rfl,?_⟩
  refine⟨_,rfl,zde 2401 400 (bb.mono (Qf)) (zgf gzz.1 gzz.2),s2,?_⟩
  rw[ψu,ez,Option.toList_some,zo9]
 ·rintro σ H2 ⟨s2,y9,y10,rfl⟩
  rw[ψb,T1.1,ψC]
  have S2:=s1.trans s2
  generalize hT:ztg (ψn bs ns)=T
  have T0:0<T:=by rw[← hT];exact zpc _ λx hx=>(gz x hx).1
  have bT:Bd 2401 T:=by rw[← hT];exact(znn _ gz).mono (Qf)
  have dvT:∀x∈ψn bs ns,x.1.2.2 ^ x.2.toNat∣T:=λx hx=>by rw[← hT];exact zon _ x hx
  simp_all only [zbD,zac]
  refine⟨⟨_,SqL.of (S2 _ _ a2)⟩,⟨_,SqL.of (s2 _ _ h1)⟩,λD2 hD2=>?_⟩
  generalize hF:ψf (Qab) Ws (ψn bs ns)=Fs
  have lF:Fs.length=bs.length:=by rw[← hF,ψk,lz,A.lw];omega
  have tb:∀(i:Nat) w x,Ws[i]?=some w→(QaA)[i]?=some x→Bd 401 (x.1.2.2 ^ x.2.toNat - (x.1.2.2 - x.1.2.1) ^ x.2.toNat)∧(T.fdiv (x.1.2.2 ^ x.2.toNat)).natAbs≤T.natAbs∧0<x.1.2.2 ^ x.2.toNat:=λi w x e1 e2=>by
   obtain⟨g,n1⟩:=gz x (zao e2)
   have o:=zdh g x.2
   have bt:Bd 400 ((x.1.2.2 - x.1.2.1) ^ x.2.toNat):=by
    obtain⟨g1,g2,g3,g4,g5⟩:=g
    exact zes (Qf) (Qf) (Qf)
   refine⟨(zgf g n1).sub bt,?_,o⟩
   rw[ψW _ (ψz o)]
   have h1:=ψE1 (x.1.2.2 ^ x.2.toNat) (ψz T0)
   have h2:=ψT1 (b:=x.1.2.2 ^ x.2.toNat) (ψz T0) (ψz o)
   omega
  refine zeV (vs:=Fs.map V.int) (S2 _ _ a2) (s2 _ _ h1) (by rw[ψb,lF,ψb,ψb,A.lw,T1.1,lz];omega) (by rw[ψb];omega) hD2 (λi x z w H3 R hx hz hw s3 k=>?_) λH3 s3 h3=>?_
  ·obtain⟨m,em,rfl⟩:=zas hx
   obtain⟨u,eu,rfl⟩:=zas hz
   obtain⟨f,ef,rfl⟩:=zas hw
   obtain⟨y,ey,hy⟩:=T1.at eu
   rw[← hF] at ef
   have e:=zin em ey ef
   subst e
   obtain⟨b1,b2,o⟩:=tb i m y em ey
   obtain⟨g,n1⟩:=gz y (zao ey)
   have hy3:=SqT.of (K:=K) (s3 _ _ (s2 _ _ hy))
   have bm:=A.wb m (zao em)
   simp_all only [zbD,zac]
   exact⟨_,hy3,_,rfl,_,hy3,_,rfl,_,rfl,_,rfl,zde 2800 401 bm b1,_,hy3,_,rfl,_,rfl,by omega,zhf 400 (Qf) (zgf g n1),zde 3201 2401 (bm.mul b1) (bT.le b2),k _ (.refl _)⟩
  ·have S3:=S2.trans s3
   have bp:BP H3 l cl ts bs ns:=(B.same S3).bp (S3 _ _ a4) A.ln gn
   obtain⟨c0,c1⟩:=ziG bs ns B.gb gn
   have hp3:=SqT.of (K:=K) (S3 _ _ a3)
   simp_all only [zbD,zac]
   refine⟨_,SqL.of h3,_,hp3,_,rfl,l,cl,ts,bs,ns,rfl,bp,λH4 s4=>?_⟩
   have S4:=S3.trans s4
   have hp4:=SqT.of (K:=K) (S4 _ _ a3)
   have hv4:=SqT.of (K:=K) (S4 _ _ hv)
   have bF:∀f∈Fs,Bd 5602 f:=by
    rw[← hF]
    exact zgJ _ λi w x e1 e2=>by
     obtain⟨b1,b2,_⟩:=tb i w x e1 e2
     exact((A.wb w (zao e1)).mul b1).mul (bT.le b2)
   have bFs:=(zjL Fs bF).mono (show _≤5608 by omega)
   have bWs:=(zjL Ws A.wb).mono (show _≤2806 by have:=A.lw;omega)
   have bsp:Bd 15 (bud - (zaH bs ns).sum):=by show(bud - (zaH bs ns).sum).natAbs<2 ^ 15;omega
   have m1:=A.pb.top.mul bsp
   have m2:=m1.mul bT
   have m3:=bFs.mul A.pb.bot
   have m5:=bW.top.mul bWs
   have m6:=m5.mul bT
   simp_all only [zbD,zac]
   refine⟨zde 2800 15 A.pb.top bsp,zde 2815 2401 m1 bT,_,hp4,_,rfl,_,rfl,zde 5608 2800 bFs A.pb.bot,_,hv4,_,rfl,_,rfl,zde 8409 2000 ((m3.mono (show _≤8408 by omega)).add (m2.mono (Qf))) bW.bot,_,hv4,_,rfl,Ws,SqL.of (S4 _ _ a2),_,rfl,zde 2000 2806 bW.top bWs,zde 4806 2401 m5 bT,_,hp4,_,rfl,_,rfl,zde 7207 2800 m6 A.pb.bot,?_⟩
   refine q _ H4 S4 ?_
   rw[decide_eq_true_iff]
   refine zvP T0 ?_
   rw[← hF]
   exact zos bs Ws ns B.gb dvT
theorem zbH:zay ["boxes","budget","worth","paper","weights","price","counts","misses","whole","top","bottom","found","spare"] ["boxes","budget","worth","paper"] (zag zdB):=(Qa)
theorem zj7(T:Txt K mg a):zci P w K mg base CX0 3 a.faJ a.daJ ["boxes","budget","worth","paper"] zo4:=by
 have GZ:=zg6 (P:=P) (w:=w) (base:=base) T
 have GH:=zeX (P:=P) (w:=w) (base:=base) T
 refine T.FaJ.ok zbH (Qj) (Qe)
 all_goals obtain⟨l,v,pr,bud,ts,bs,W,P',Ws,ns,rfl,B,hv,bW,A,n60,d0,d1,q⟩:=h
 ·rfl
 exact⟨zfA K,(zae (zc1 (pv 3) (zbs rfl (zal (zaj (i:=4) zbH.nd rfl (Qh)) (zal (zaj (i:=5) zbH.nd rfl (Qh)) (zal (zaj (i:=6) zbH.nd rfl (Qh)) za6)))))
 (zae (zcy (i:=7) zbH.nd rfl rfl (sc:=zag zdB) (N:=["boxes","budget","worth","paper","weights","price","counts","misses","whole","top","bottom","found","spare"]) (Nc:=["box","count"]) (cap:=[none,none]) rfl rfl rfl (Ql) (zec rfl T.z_zip (zaa (pv 0) (zaa (pv 6) zad))) (Qp) (QD) (λ_ _ _ _=>(zak GH (Qc) rfl T.mH T.FH.kp T.bH .nil zaB (Qad))))
 (zae (zaX (i:=8) zbH.nd rfl (Or.inr rfl) zaf)
 (zae (zdq PassesOwn.never rfl (zbz (pv 7)) (zbs rfl (zal (zaj (i:=9) zbH.nd rfl (Qh)) (zal (zaj (i:=10) zbH.nd rfl (Qh)) za6)))
 (zah (zaX (i:=8) zbH.nd rfl (Or.inr rfl) (zaz zav (pv 8) (pv 10)))))
 (zae (zaX (i:=11) zbH.nd rfl (Qh) (zap (zcp rfl) rfl T.z_sum ψG (zaa (zbC (sc:=zag zdB) (N:=["boxes","budget","worth","paper","weights","price","counts","misses","whole","top","bottom","found","spare"]) (Nc:=["weight","miss","whole"]) (cap:=[none,none,some 8]) rfl rfl rfl (Ql) (zec rfl T.z_zip (zaa (pv 4) (zaa (pv 7) zad))) (λ_ _ _ _=>(zbs rfl (zal (zaj (i:=0) (show ψh (["weight","miss","whole"]:List Str) from by decide) rfl (Qh)) (zal (zaj (i:=1) (show ψh (["weight","miss","whole"]:List Str) from by decide) rfl (Qh)) za6)))) (QD) (λ_ _ _ _=>(zaz zav (zaz zav (pv 0) (zaz zdy (QC) (QC))) (zaz zdu (pv 2) (QC))))) zad)))
 (zae (zaX (i:=12) zbH.nd rfl (Qh) (zaz zav (zaz zav (zax zaq (pv 5) zaf (Qo)) (zaz zdy (pv 1) (zak GZ (Qc) rfl T.mZ T.FZ.kp T.bZ .nil zaB (zaa (pv 0) (zaa (pv 6) zad))))) (pv 8)))
 (zah (zat (zbT zk1 (zaz zav (zaz zdC (zaz zav (pv 11) (zax zaq (pv 5) zaf (Qo))) (pv 12)) (QW)) (zaz zav (zaz zav (zaz zav (QW) (zap (zcp rfl) rfl T.z_sum ψG (zaa (pv 4) zad))) (pv 8)) (zax zaq (pv 5) zaf (Qo))) (zaV _)))))))))),
  zli B hv bW A n60 d0 d1 q⟩
theorem zsy{p q r:Addr}{xs ws zs:List V}{g:TG}{tb:TS}{D:zlp}{σ:St}(Pv:Nat→St→Hp→Prop)(h0:Pv 0 σ H)(l1:xs.length=ws.length)(l2:xs.length=zs.length)
  (hl:∀i σ H,i≤xs.length→Pv i σ H→SqL K H p xs∧SqL K H q ws∧SqL K H r zs)
  (hs:∀i x w z t σ H,xs[i]?=some x→ws[i]?=some w→zs[i]?=some z→Pv i σ H→H t=none→g (.ref t) σ (upd H t (.tup [x,w,z])) λσ2 H2=>tb { D with nx:=Pv (i+1),ct:=Pv (i+1),bk:=D.nx } σ2 H2)
  (hd:∀σ H,Pv xs.length σ H→D.nx σ H):zpR (Itz3 K p q r) g tb D σ H:=by
 refine⟨λi m σ H=>m=xs.length - i∧i≤xs.length∧Pv i σ H,⟨_,rfl,ψp1 _,h0⟩,?_⟩
 rintro i m σ H ⟨rfl,hi,pv⟩
 obtain⟨hx,hw,hz⟩:=hl i σ H hi pv
 by_cases hlt:i<xs.length
 ·have k1:i<ws.length:=by omega
  have k2:i<zs.length:=by omega
  refine .inr ⟨⟨xs,ws,zs,xs[i],ws[i],zs[i],hx,hw,hz,by simp[hlt],by simp[k1],by simp[k2]⟩,Pv (i+1),λσ' H' p'=>⟨_,by omega,rfl,hlt,p'⟩,λx H' yl=>?_⟩
  obtain⟨t,a,b,c,rfl,ht,rfl,e1,e2,e3⟩:=yl
  exact hs i a b c t σ H (e1 xs hx) (e2 ws hw) (e3 zs hz) pv ht
 ·have e:i=xs.length:=by omega
  subst e
  exact .inl ⟨⟨xs,hx,rfl⟩,hd σ H pv⟩
def zrD:Sp:=λvs H Q _=>∃(l v pr:Addr) (bud:Int) (ts:List Addr) (bs:List Box) (W P:Rat) (Ws ns:List Int),vs=[.ref l,.int bud,.ref v,.ref pr]∧Bx6 H l ts bs∧H v=some (QaG)∧Bq 2000 W∧PpH H pr bs.length Ws P ns∧0≤bud∧bud≤60∧∀(r:Bool) (H':Hp),zaF H H'→(r=true↔okH Ws ns=true∧zvr bs bud W Ws P ns)→Q (.bl r) H'
def zex(K:ψa):TS :=
 (zbg (zbS (zac 3) (zdS K 3 (zaL (zam 4) (zaL (zam 5) (zaL (zam 6) zdO)))))
 (zbg (zjW (zxC K (zab (zac 0) (zab (zac 4) (zab (zac 6) zau)))) (zdS K 3 (zaL (zam 7) (zaL (zam 8) (zaL (zam 9) zdO))))
 (zdI (zeM (tB (zaA zmI [] E0 (zab (zac 7) (zab (zac 8) (zab (zac 5) (zab (zac 9) zau))))))) (Qt) zbU))
 (zbP (zaA zo4 [] E0 (Qay)))))
def zbF(K:ψa):=eqT (zex.eq_1 K)
def zdR(K:ψa):TS :=
 (zbg (zeK (zdI (zeM (tB (zaA zok [] E0 (zab (zac 3) (QA))))) (Qt) zbU))
 (zex K))
theorem zhQ{l v pr:Addr}{bud:Int}{ts:List Addr}{bs:List Box}{W P:Rat}{Ws ns:List Int}(B:Bx6 H l ts bs)(hv:H v=some (QaG))(bW:Bq 2000 W)(A:PpH H pr bs.length Ws P ns)(d0:0≤bud)(d1:bud≤60)(q:∀(r:Bool) (H':Hp),zaF H H'→(r=true↔okH Ws ns=true∧zvr bs bud W Ws P ns)→Q (.bl r) H') :
  zdR K { nx:=λ_ H'=>Q .non H',rt:=Q } (L2.start ["boxes","budget","worth","paper","weights","price","counts","box","weight","count"] [.ref l,.int bud,.ref v,.ref pr]) H:=by
 unfold zdR
 have l6:=B.l6
 simp_all only [zbF,zac]
 refine⟨λσ H'=>zaF H H'∧okH Ws ns=true∧σ=[some (.ref l),some (.int bud),some (.ref v),some (.ref pr),none,none,none,none,none,none],?_,?_⟩
 ·simp_all only [zbF,zac]
  refine⟨pr,l,ts,bs,Ws,ns,P,rfl,B,A,λH1 s1=>⟨okH Ws ns,rfl,?_⟩⟩
  by_cases c:okH Ws ns=true
  ·rw[if_neg (by simp[c])]
   exact⟨s1,c⟩
  ·rw[if_pos (by simpa using c)]
   exact q false H1 s1 ⟨λz=>(by cases z),λz=>absurd z.1 c⟩
 ·rintro σ H1 ⟨s1,ok,rfl⟩
  have A1:=A.same s1
  have B1:=B.same s1
  obtain⟨wl,pp,cl,a1,a2,a3,a4⟩:=A1.ex
  have n60:∀n∈ns,n≤60:=zgQ.mp (by unfold okH at ok;rw[ψQ] at ok;exact ok.2)
  simp_all only [zbF,zac]
  refine⟨_,SqT.of a1,rfl,_,_,rfl,_,_,rfl,_,_,rfl,rfl,?_⟩
  simp_all only [zbF,zac]
  refine⟨⟨_,SqL.of B1.hl⟩,⟨_,SqL.of a2⟩,⟨_,SqL.of a4⟩,?_⟩
  refine zsy (K:=K) (xs:=ts.map V.ref) (ws:=Ws.map V.int) (zs:=ns.map V.int) (λi σ H'=>zaF H1 H'∧(∀(j:Nat) b w n,j<i→bs[j]?=some b→Ws[j]?=some w→ns[j]?=some n→Mrk b w P n)∧∃y7 y8 y9,σ=[some (.ref l),some (.int bud),some (.ref v),some (.ref pr),some (.ref wl),some (.ref pp),some (.ref cl),y7,y8,y9]) ⟨.refl _,λj b w n hj=>absurd hj (ψD1 j),_,_,_,rfl⟩ (by rw[ψb,ψb,B.hb.1,A.lw]) (by rw[ψb,ψb,B.hb.1,A.ln]) ?_ ?_ ?_
  ·rintro i σ H' _ ⟨s,_⟩
   exact⟨SqL.of (s _ _ B1.hl),SqL.of (s _ _ a2),SqL.of (s _ _ a4)⟩
  ·rintro i x w z u σ H2 hx hw hz ⟨s2,hm,y7,y8,y9,rfl⟩ hu
   obtain⟨t,et,rfl⟩:=zas hx
   obtain⟨m,em,rfl⟩:=zas hw
   obtain⟨n,en,rfl⟩:=zas hz
   obtain⟨b,eb,hb⟩:=B1.hb.at et
   simp_all only [zbF,zac]
   have s3:=zan hu (.tup [V.ref t,V.int m,V.int n])
   have h3:(L2.upd H2 u (.tup [V.ref t,V.int m,V.int n])) u=some (.tup [V.ref t,V.int m,V.int n]):=zai
   generalize L2.upd H2 u (.tup [V.ref t,V.int m,V.int n])=H3 at s3 h3 ⊢
   refine⟨_,SqT.of h3,rfl,_,_,rfl,_,_,rfl,_,_,rfl,rfl,?_⟩
   have s13:=s2.trans s3
   refine⟨t,pp,b,m,n,P,rfl,⟨s13 _ _ hb,B.gb b (zao eb),s13 _ _ a3,A.wb m (zao em),A.pb,(A.n0 n (zao en)).1,n60 n (zao en)⟩,λr H4 s4 hr=>⟨r,rfl,?_⟩⟩
   cases r with
   | true =>
    refine zb5 (Qk) (λ_=>⟨s13.trans s4,λj b' w' n' hj e1 e2 e3=>?_⟩)
    by_cases ej:j=i
    ·subst ej
     rw[eb] at e1
     rw[em] at e2
     rw[en] at e3
     cases e1
     cases e2
     cases e3
     exact hr.mp rfl
    ·exact hm j b' w' n' (Qf) e1 e2 e3
   | false =>
    refine zb5 (λ_=>q false H4 (s1.trans (s13.trans s4)) ⟨λz=>(by cases z),λz=>absurd (hr.mpr (z.2.mr i b m n eb em en)) (Qs)⟩) (QK)
  ·rintro σ H2 ⟨s2,hm,y7,y8,y9,rfl⟩
   rw[ψb,B.hb.1] at hm
   have S2:=s1.trans s2
   simp_all only [zbF,zac]
   refine⟨l,v,pr,bud,ts,bs,W,P,Ws,ns,rfl,B.same S2,S2 _ _ hv,bW,A.same S2,n60,d0,d1,λr H3 s3 hr=>?_⟩
   exact q r H3 (S2.trans s3) ⟨λz=>⟨ok,⟨λi b w n e1 e2 e3=>hm i b w n (List.getElem?_eq_some_iff.mp e1).1 e1 e2 e3,hr.mp z⟩⟩,λz=>hr.mpr z.2.sm⟩
theorem zbJ:zay ["boxes","budget","worth","paper","weights","price","counts","box","weight","count"] ["boxes","budget","worth","paper"] (zag zdT):=(Qa)
theorem zhI(T:Txt K mg a):zci P w K mg base CX0 5 a.faK a.daK ["boxes","budget","worth","paper"] zrD:=by
 have GaI:=zid (P:=P) (w:=w) (base:=base) T
 have GaF:=zhJ (P:=P) (w:=w) (base:=base) T
 have GaJ:=zj7 (P:=P) (w:=w) (base:=base) T
 refine T.FaK.ok zbJ (Qj) (Qe)
 all_goals obtain⟨l,v,pr,bud,ts,bs,W,P',Ws,ns,rfl,B,hv,bW,A,d0,d1,q⟩:=h
 ·rfl
 exact⟨zdR K,(zae (zbA (zbY (zbG (zbr (zak GaF (Qc) rfl T.maF T.FaF.kp T.baF .nil zaB (zaa (pv 3) (Qag))))) (QL) zaY))
 (zae (zc1 (pv 3) (zbs rfl (zal (zaj (i:=4) zbJ.nd rfl (Qh)) (zal (zaj (i:=5) zbJ.nd rfl (Qh)) (zal (zaj (i:=6) zbJ.nd rfl (Qh)) za6)))))
 (zae (zdq PassesOwn.never rfl (zv5 rfl T.z_zip (zaa (pv 0) (zaa (pv 4) (zaa (pv 6) zad)))) (zbs rfl (zal (zaj (i:=7) zbJ.nd rfl (Qh)) (zal (zaj (i:=8) zbJ.nd rfl (Qh)) (zal (zaj (i:=9) zbJ.nd rfl (Qh)) za6))))
 (zah (zbY (zbG (zbr (zak GaI (Qc) rfl T.maI T.FaI.kp T.baI .nil zaB (zaa (pv 7) (zaa (pv 8) (zaa (pv 5) (zaa (pv 9) zad))))))) (QL) zaY)))
 (zah (zat (zak GaJ (Qc) rfl T.maJ T.FaJ.kp T.baJ .nil zaB (Qaf))))))),
  zhQ B hv bW A d0 d1 q⟩
def Jdg(s h:Prop)(H:Hp)(v:V):Prop:=(s∧h∧v=.non)∨(¬ s∧∃r,v=.ref r∧H r=some (.tup [.str "seeker"]))∨(s∧¬ h∧∃r,v=.ref r∧H r=some (.tup [.str "hider"]))
def zoU:Sp:=λvs H Q _=>∃(l v ml pr:Addr) (bud:Int) (ts:List Addr) (bs:List Box) (us:List Addr) (xs:List Mp) (W P:Rat) (Ws ns:List Int),vs=[.ref l,.int bud,.ref v,.ref ml,.ref pr]∧Bx6 H l ts bs∧H v=some (QaG)∧Bq 2000 W∧MxH H ml us xs∧zmS bs.length xs∧PpH H pr bs.length Ws P ns∧0≤bud∧bud≤60∧∀(r:V) (H':Hp),zaF H H'→Jdg (okM xs=true∧zvG bs bud W (Qu)) (okH Ws ns=true∧zvr bs bud W Ws P ns) H' r→Q r H'
def zeQ:TS :=
 (zdI (zeM (tB (zaA zrD [] E0 (zab (zac 0) (zab (zac 1) (zab (zac 2) (QaC))))))) (zbP (zfq (zab (tC (.str "hider")) zau))) zbU)
def zcd:=eqT (zeQ.eq_1)
def zeN:TS :=
 (zdI (zeM (tB (zaA zoR [] E0 (Qay)))) (zbP (zfq (zab (tC (.str "seeker")) zau))) zbU)
def zca:=eqT (zeN.eq_1)
def zed:TS :=
 (zbg (zgh (zaA zsF [] E0 (QA)))
 (zbg (zgh (zaA zfE [] E0 (Qz)))
 (zbg (zeK (zeN))
 (zbg (zeK (zeQ))
 (zbP (tC .non))))))
theorem zil{l v ml pr:Addr}{bud:Int}{ts:List Addr}{bs:List Box}{us:List Addr}{xs:List Mp}{W P:Rat}{Ws ns:List Int}(B:Bx6 H l ts bs)(hv:H v=some (QaG))(bW:Bq 2000 W)(M:MxH H ml us xs)(g:zmS bs.length xs)(A:PpH H pr bs.length Ws P ns)(d0:0≤bud)(d1:bud≤60)(q:∀(r:V) (H':Hp),zaF H H'→Jdg (okM xs=true∧zvG bs bud W (Qu)) (okH Ws ns=true∧zvr bs bud W Ws P ns) H' r→Q r H') :
  zed { nx:=λ_ H'=>Q .non H',rt:=Q } (L2.start ["boxes","budget","worth","mix","paper"] [.ref l,.int bud,.ref v,.ref ml,.ref pr]) H:=by
 unfold zed
 simp_all only [zcd,zca,zac]
 refine⟨l,ts,bs,rfl,B.hl,B.hb,B.gb,B.l1,B.l6,λH1 s1=>⟨bud,rfl,d0,d1,?_⟩⟩
 refine⟨λσ H'=>zaF H1 H'∧(okM xs=true∧zvG bs bud W (Qu))∧σ=[some (.ref l),some (.int bud),some (.ref v),some (.ref ml),some (.ref pr)],?_,?_⟩
 ·simp_all only [zcd,zca,zac]
  refine⟨l,v,ml,bud,ts,bs,us,xs,W,rfl,B.same s1,s1 _ _ hv,bW,M.same s1,g,d0,d1,λr H2 s2 hr=>⟨r,rfl,?_⟩⟩
  cases r with
  | true=>exact zb5 (Qk) (λ_=>⟨s2,hr.mp rfl⟩)
  | false =>
   refine zb5 (λ_=>⟨by decide,λp np=>?_⟩) (QK)
   exact q _ _ ((s1.trans s2).add np) (.inr (.inl ⟨λz=>absurd (hr.mpr z) (Qs),p,rfl,zai⟩))
 ·rintro σ H2 ⟨s2,sk,rfl⟩
  have S2:=s1.trans s2
  refine⟨λσ H'=>zaF H2 H'∧(okH Ws ns=true∧zvr bs bud W Ws P ns)∧σ=[some (.ref l),some (.int bud),some (.ref v),some (.ref ml),some (.ref pr)],?_,?_⟩
  ·simp_all only [zcd,zca,zac]
   refine⟨l,v,pr,bud,ts,bs,W,P,Ws,ns,rfl,B.same S2,S2 _ _ hv,bW,A.same S2,d0,d1,λr H3 s3 hr=>⟨r,rfl,?_⟩⟩
   cases r with
   | true=>exact zb5 (Qk) (λ_=>⟨s3,hr.mp rfl⟩)
   | false =>
    refine zb5 (λ_=>⟨by decide,λp np=>?_⟩) (QK)
    exact q _ _ ((S2.trans s3).add np) (.inr (.inr ⟨sk,λz=>absurd (hr.mpr z) (Qs),p,rfl,zai⟩))
  ·rintro σ H3 ⟨s3,hd,rfl⟩
   simp_all only [zcd,zca,zac]
   exact q _ H3 (S2.trans s3) (.inl ⟨sk,hd,rfl⟩)
theorem zii:zay ["boxes","budget","worth","mix","paper"] ["boxes","budget","worth","mix","paper"] (zag zee):=(Qa)
theorem zif(T:Txt K mg a):zci P w K mg base CX0 7 a.faL a.daL ["boxes","budget","worth","mix","paper"] zoU:=by
 have GaK:=zhI (P:=P) (w:=w) (base:=base) T
 have GaE:=zhp (P:=P) (w:=w) (base:=base) T
 have Gah:=zhm (P:=P) (w:=w) (base:=base) T
 have Gai:=zgr (P:=P) (w:=w) (base:=base) T
 refine T.FaL.ok zii (Qj) (Qe)
 all_goals obtain⟨l,v,ml,pr,bud,ts,bs,us,xs,W,P',Ws,ns,rfl,B,hv,bW,M,g,A,d0,d1,q⟩:=h
 ·rfl
 exact⟨zed,(zae (zdi (zak Gah (Qc) rfl T.mah T.Fah.kp T.bah .nil zaB (Qag)))
 (zae (zdi (zak Gai (Qc) rfl T.mai T.Fai.kp T.bai .nil zaB (QB)))
 (zae (zbA (zbY (zbG (zbr (zak GaE (Qc) rfl T.maE T.FaE.kp T.baE .nil zaB (Qaf)))) (zah (zat (zbR (zaa zvv zad)))) zaY))
 (zae (zbA (zbY (zbG (zbr (zak GaK (Qc) rfl T.maK T.FaK.kp T.baK .nil zaB (zaa (pv 0) (zaa (pv 1) (zaa (pv 2) (zaa (pv 4) zad))))))) (zah (zat (zbR (zaa zvv zad)))) zaY))
 (zah (zat zvF)))))),
  zil B hv bW M g A d0 d1 q⟩
def zhR:TS :=
 (zbg (zbS (tOp (rI (λ_ j=>0<j) λi j=>.int (i % j)) (tOp (Qd) (tOp (QM) (tOp (QM) (tOp (Qd) (zac 0) (zac 0)) (tOp (Qd) (zac 1) (zac 0))) (tOp (Qd) (tOp (Qd) (tC (.int 7)) (zac 1)) (zac 1))) (tC (.int 1103515245))) (tC (.int 2147483629))) (zam 2))
 (zbP (tOp (rI (λ_ j=>0<j) λi j=>.int (i % j)) (tOp (Qd) (zac 2) (zac 2)) (tC (.int 2147483587)))))
theorem znS{n k:Int}(hn:n.natAbs<2 ^ 2 ^ 20)(k0:0≤k)(k1:k≤100000)(q:∀r:Int,0≤r→r<2147483587→Q (.int r) H) :
  zhR { nx:=λ_ H'=>Q .non H',rt:=Q } (L2.start ["_law_number","_law_k","_law_mixed"] [.int n,.int k]) H:=by
 unfold zhR
 simp_all only [zac]
 refine⟨zde 1048576 1048576 hn hn,mulL (Qf) (Qf),zoz (Qf) (Qf),zoz (Qf) (Qf),zoz (Qs) (Qs),by decide,?_⟩
 have b3:=Int.emod_nonneg ((n*n+k*n+7*k*k)*1103515245) (show(2147483629:Int)≠0 by decide)
 have b4:=ψS1 ((n*n+k*n+7*k*k)*1103515245) (show(0:Int)<2147483629 by decide)
 generalize (n*n+k*n+7*k*k)*1103515245 % 2147483629=x at b3 b4 ⊢
 refine⟨zoz (Qf) (Qf),by decide,q _ (Int.emod_nonneg _ (Qs)) (ψS1 _ (Qs))⟩
theorem zi8:zay ["_law_number","_law_k","_law_mixed"] ["_law_number","_law_k"] (zag zhL):=(Qa)
theorem zmY(T:Txt K mg a):zci P w K mg base CX0 1 a.faU a.daU ["_law_number","_law_k"] zrf:=by
 refine T.FaU.ok zi8 (Qj) (Qe)
 all_goals obtain⟨n,k,rfl,hn,k0,k1,q⟩:=h
 ·rfl
 exact⟨zhR,(zae (zaX (i:=2) zi8.nd rfl (Qh) (zaz zmx (zaz zav (zaz zdC (zaz zdC (zaz zav (pv 0) (pv 0)) (zaz zav (pv 1) (pv 0))) (zaz zav (zaz zav zaf (pv 1)) (pv 1))) zaf) zaf))
 (zah (zat (zaz zmx (zaz zav (pv 2) (pv 2)) zaf)))),
  znS hn k0 k1 q⟩
def zfj(K:ψa):TS :=
 (zdI (zbZ (tOp (QS) (zac 1) (Qaq))) (zbP (tOp (zhx K) (zac 0) (zac 1))) zbU)
def zeh(K:ψa):=eqT (zfj.eq_1 K)
def zeA(K:ψa):TS :=
 (zbg (zeK (zfj K))
 (zbP (Qn)))
theorem zi7{p:Addr}{x:Int}(hp:H p=some (.lst [.int x]))(q:Q (.int x) H) :
  zeA K { nx:=λ_ H'=>Q .non H',rt:=Q } (L2.start ["_law_script","_law_k"] [.ref p,.int 0]) H:=by
 unfold zeA
 simp_all only [zeh,zac]
 refine⟨λ_ _=>False,?_,λ_ _ z=>z.elim⟩
 simp_all only [zeh,zac]
 refine⟨_,.inl (SqL.of hp),?_⟩
 exact zb5 (λ_=>⟨_,SqL.of hp,_,rfl,q⟩) (λz=>absurd (show(0:Int)<1 by decide) z)
theorem zjn:zay ["_law_script","_law_k"] ["_law_script","_law_k"] (zag zeH):=(Qa)
theorem ziO(T:Txt K mg a):zci P w K mg base CX0 1 a.faV a.daV ["_law_script","_law_k"] (zoJ K):=by
 refine T.FaV.ok zjn (Qj) (Qe)
 all_goals obtain⟨p,x,rfl,hp,q⟩:=h
 ·rfl
 exact⟨zeA K,(zae (zbA (zbY (za7 zi4 (pv 1) (Qq) (zaV _)) (zah (zat (zax zbX (pv 0) (pv 1) (Qo)))) zaY))
 (zah (zat zaf))),
  zi7 hp q⟩
def zhw:TS :=
 (zbP (zlA (zab (tOp (QJ) (zac 2) (tOp (rI CPow λi j=>.int (i ^ j.toNat)) (tC (.int 10)) (tC (.int 18)))) (zab (Qi) (zab (Qn) zau)))))
def zdK:=eqT (zhw.eq_1)
def zhl:TS :=
 (zdI (zbZ (tOp (QS) (zac 2) (tOp (rI CPow λi j=>.int (i ^ j.toNat)) (tC (.int 10)) (tC (.int 18))))) (zbP (zlA (zab (zac 2) (zab (Qn) (zab (Qn) zau))))) zbU)
def zdN:=eqT (zhl.eq_1)
def zgN(K:ψa):TS :=
 (zbg (zbS (zaA (zoJ K) [] E0 (QZ)) (zam 2))
 (zbg (zeK (zhl))
 (zhw)))
theorem zl8{p:Addr}{x:Int}(hp:H p=some (.lst [.int x]))(bx:x.natAbs<2 ^ 2 ^ 20)(q:∀(l:Addr) (H':Hp),zaF H H'→H l=none→Drw H' l 0→Q (.ref l) H') :
  zgN K { nx:=λ_ H'=>Q .non H',rt:=Q } (L2.start ["_law_script","_law_k","_law_cell"] [.ref p,.int 0]) H:=by
 unfold zgN
 simp_all only [zdK,zdN,zac]
 refine⟨p,x,rfl,hp,?_⟩
 refine⟨λσ H'=>H'=H∧1000000000000000000≤x∧σ=[some (.ref p),some (.int 0),some (.int x)],?_,?_⟩
 ·simp_all only [zdK,zdN,zac]
  refine⟨zyo,zb5 (λc=>⟨by decide,λl hl=>?_⟩) (λc=>by omega)⟩
  exact q l _ (zan hl _) hl ⟨⟨x,0,zai,bx,.inl rfl⟩,by decide⟩
 ·rintro σ H1 ⟨rfl,c,rfl⟩
  simp_all only [zdK,zdN,zac]
  refine⟨zyo,by decide,λl hl=>?_⟩
  exact q l _ (zan hl _) hl ⟨⟨_,1,zai,ψx1 (Qf) bx,.inr ⟨rfl,by omega⟩⟩,by decide⟩
theorem zia:zay ["_law_script","_law_k","_law_cell"] ["_law_script","_law_k"] (zag zg0):=(Qa)
theorem zlO(T:Txt K mg a):zci P w K mg base CX0 2 a.faW a.daW ["_law_script","_law_k"] (zvp K):=by
 have GaV:=ziO (P:=P) (w:=w) (base:=base) T
 refine T.FaW.ok zia (Qj) (Qe)
 all_goals obtain⟨p,x,rfl,hp,bx,q⟩:=h
 ·rfl
 exact⟨zgN K,(zae (zaX (i:=2) zia.nd rfl (Qh) (zak GaV (Qc) rfl T.maV T.FaV.kp T.baV .nil zaB (Qad)))
 (zae (zbA (zbY (za7 zi4 (pv 2) (zaz zvy zaf zaf) (zaV _)) (zah (zat (zea (zaa (pv 2) (zaa zaf (Q4)))))) zaY))
 (zah (zat (zea (zaa (zaz zdy (pv 2) (zaz zvy zaf zaf)) (zaa zaf (Q4)))))))),
  zl8 hp bx q⟩
theorem logM{m:Int}(h0:0<m)(h1:m≤1000000000000000000000000000000):m.natAbs.log2<9000:=zhf 100 (Qf) (Qf)
def zha(K:ψa):TS :=
 (zbg (zbS (tOp (rI (λ_ j=>0<j) λi j=>.int (i % j)) (tOp (zhx K) (zac 0) (Qn)) (zac 1)) (zam 3))
 (zbg (zbS (tOp (rI (λ_ j=>0<j∧j.natAbs.log2<9000) λi j=>.int (i / j)) (tOp (zhx K) (zac 0) (Qn)) (zac 1)) (gSub (zac 0) (Qn) zuI))
 (zbP (zac 3))))
def zc7(K:ψa):=eqT (zha.eq_1 K)
def zho(K:ψa):TS :=
 (zdI (zbZ (tOp rEq (tOp (zhx K) (zac 0) (Qi)) (Qn))) (zbg (zbS (zaA zrf [] E0 (zab (tOp (zhx K) (zac 0) (Qn)) (zab (tOp (zhx K) (zac 0) (QU)) zau))) (zam 2))
 (zbP (tOp (rI (λ_ j=>0<j) λi j=>.int (i % j)) (tOp (rI (λ_ j=>0<j) λi j=>.int (i % j)) (tOp (Qd) (zac 2) (tOp (QM) (zac 2) (QU))) (tC (.int 2147483579))) (zac 1)))) zbU)
def zc8(K:ψa):=eqT (zho.eq_1 K)
def zgW(K:ψa):TS :=
 (zbg (zbS (tOp (QM) (tOp (zhx K) (zac 0) (QU)) (Qi)) (gSub (zac 0) (QU) zuI))
 (zbg (zeK (zho K))
 (zha K)))
theorem zlX{p:Addr}{c m:Int}(hP:Drw H p c)(c1:c<10000)(m0:0<m)(m1:m≤1000000000000000000000000000000)
  (q:∀(r:Int) (H':Hp),0≤r→r<m→Off p p H'=Off p p H→Drw H' p (c+1)→Q (.int r) H') :
  zgW K { nx:=λ_ H'=>Q .non H',rt:=Q } (L2.start ["_law_left_here","_law_base","_law_mixed","_law_digit"] [.ref p,.int m]) H:=by
 unfold zgW
 obtain⟨n,f,hp,bn,hf⟩:=hP.hp
 have c0:=hP.c0
 simp_all only [zc7,zc8,zac]
 refine⟨_,SqL.of hp,_,rfl,_,rfl,_,hp,2,rfl,?_⟩
 simp_all only [zc7,zc8,zac]
 have hp2:(L2.upd H p (.lst [.int n,.int f,.int (c+1)])) p=some (.lst [.int n,.int f,.int (c+1)]):=zai
 have o2:Off p p (L2.upd H p (.lst [.int n,.int f,.int (c+1)]))=Off p p H:=zy5
 generalize L2.upd H p (.lst [.int n,.int f,.int (c+1)])=G at hp2 o2 ⊢
 refine⟨λσ H'=>H'=G∧f=1∧0≤n∧σ=[some (.ref p),some (.int m),none,none],?_,?_⟩
 ·simp_all only [zc7,zc8,zac]
  refine⟨_,SqL.of hp2,_,rfl,rfl,zb5 (λz=>?_) (λz=>?_)⟩
  ·refine⟨_,SqL.of hp2,_,rfl,_,SqL.of hp2,_,rfl,n,c+1,rfl,bn,by omega,by omega,λx x0 x1=>?_⟩
   refine⟨x,rfl,x,rfl,zoz (Qf) (Qf),by decide,m0,?_⟩
   exact q _ _ (Int.emod_nonneg _ (Qf)) (ψS1 _ m0) o2 ⟨⟨n,f,hp2,bn,hf⟩,by omega⟩
  ·rcases hf with rfl | h
   ·exact absurd rfl z
   ·exact h
 ·rintro σ H' ⟨rfl,rfl,n0,rfl⟩
  simp_all only [zc7,zc8,zac]
  refine⟨_,SqL.of hp2,_,rfl,n,rfl,m0,_,SqL.of hp2,_,rfl,n,rfl,m0,logM m0 m1,_,hp2,0,rfl,?_⟩
  have d0:0≤n / m:=ψT1 n0 (Qf)
  have d1:n / m≤n:=ψE1 m n0
  exact q _ _ (Int.emod_nonneg _ (Qf)) (ψS1 _ m0) (zy5.trans o2) ⟨⟨n / m,1,zai,ψx1 (Qf) bn,.inr ⟨rfl,d0⟩⟩,by omega⟩
theorem zfV:zay ["_law_left_here","_law_base","_law_mixed","_law_digit"] ["_law_left_here","_law_base"] (zag zg5):=(Qa)
theorem zhZ(T:Txt K mg a):zci P w K mg base CX0 2 a.fz a.dz ["_law_left_here","_law_base"] zd0:=by
 have GaU:=zmY (P:=P) (w:=w) (base:=base) T
 refine T.Fz.ok zfV (Qj) (Qe)
 all_goals obtain⟨p,c,m,rfl,hP,c1,m0,m1,q⟩:=h
 ·rfl
 exact⟨zgW K,(zae (zc1 (zaz zdC (zax zbX (pv 0) zaf (Qo)) zaf) (zvm (pv 0) zaf zom))
 (zae (zbA (zbY (za7 zjs (zax zbX (pv 0) zaf (Qo)) zaf (zaV _)) (zae (zaX (i:=2) zfV.nd rfl (Qh) (zak GaU (Qc) rfl T.maU T.FaU.kp T.baU .nil zaB (zaa (zax zbX (pv 0) zaf (Qo)) (zaa (zax zbX (pv 0) zaf (Qo)) zad))))
 (zah (zat (zaz zmx (zaz zmx (zaz zav (pv 2) (zaz zdC (pv 2) zaf)) zaf) (pv 1))))) zaY))
 (zae (zaX (i:=3) zfV.nd rfl (Qh) (zaz zmx (zax zbX (pv 0) zaf (Qo)) (pv 1)))
 (zae (zc1 (zaz zt5 (zax zbX (pv 0) zaf (Qo)) (pv 1)) (zvm (pv 0) zaf zom))
 (zah (zat (pv 3))))))),
  zlX hP c1 m0 m1 q⟩
theorem zqW{t b:Int}(h:b≠0)(hb:Bd 8000 b):(sg t b).natAbs.log2<9000:=zhf 8000 (zlL h) (hb.le (zzz h))
def zvC:Sp:=λvs H Q _=>∃t b:Int,vs=[.int t,.int b]∧0<b∧Bd 8000 b∧∀(r:Addr) (H':Hp),zaF H H'→H' r=some (.tup (fr (ψw t b)))→Q (QO) H'
def zfF:TS :=
 (zbP (zfq (zab (tOp (Qw) (zac 0) (zac 2)) (zab (tOp (Qw) (zac 1) (zac 2)) zau))))
def zeq:=eqT (zfF.eq_1)
def zfa:TS :=
 (zbg (zbS (zac 1) (zam 2))
 (zbg (zbS (tOp (Qak) (zac 0) (zac 1)) (zam 3))
 (zbg (zjK (zbZ (tOp (QI) (zac 3) (Qn))) (tPar 2 3 (zab (zac 3) (zab (tOp (Qak) (zac 2) (zac 3)) zau))))
 (zfF))))
theorem zjv{t b:Int}(h:0<b)(hb:Bd 8000 b)(q:∀(r:Addr) (H':Hp),zaF H H'→H' r=some (.tup (fr (ψw t b)))→Q (QO) H') :
  zfa { nx:=λ_ H'=>Q .non H',rt:=Q } (L2.start ["_law_top","_law_bottom","_law_one","_law_other"] [.int t,.int b]) H:=by
 unfold zfa
 simp_all only [zeq,zac]
 have h0:b≠0:=by omega
 have e0:sg t b=(ψU t b:Int):=by unfold sg;rw[if_neg (Qf)]
 have f0:=ψd1 t h
 have g0:ψU b (t.fmod b)=ψU t b:=by
  have e:t.fmod b=t - b*(t.fdiv b):=Int.fmod_def t b
  rw[e,Int.gcd_comm t b]
  have:t - b*t.fdiv b=t+b*(-(t.fdiv b)):=by rw[ψC1];omega
  rw[this]
  exact Int.gcd_add_mul_left_right b t _
 refine⟨h0,?_⟩
 refine ziB (λσ H'=>H'=H∧∃u v,σ=[some (.int t),some (.int b),some (.int u),some (.int v)]∧0≤u∧0≤v∧ψU u v=ψU t b) (λσ _=>match σ with | [_,_,_,some (.int v)]=>v.toNat | _=>0) ?_ ?_ ?_
 ·exact⟨rfl,_,_,rfl,by omega,f0,g0⟩
 ·rintro σ H' ⟨rfl,u,v,rfl,hu,hv,hg⟩
  simp_all only [zeq,zac]
  refine zb5 (λc=>?_) (λc=>?_)
  ·have hv':0<v:=by omega
   refine⟨by omega,hv,ψd1 u hv',?_,?_⟩
   ·rw[zlT hu hv',hg]
   ·have:=ψy1 u hv'
    omega
  ·have c':v=0:=by omega
   subst c'
   have e:u=sg t b:=by
    rw[e0,← hg,zjQ u hu]
   subst e
   refine⟨zlL h0,zqW h0 hb,zlL h0,zqW h0 hb,by decide,λp hp=>q p _ (zan hp _) ?_⟩
   rw[fr,(zhY h0).1,(zhY h0).2]
   exact zai
 ·rintro σ H1 Q1 Q2 hQ ⟨v,hv,k,hk,h,h1,b,hb,h2⟩
  exact⟨v,hv,k,hk,h,h1,b,hb,hQ _ _ h2⟩
theorem zdx:zay ["_law_top","_law_bottom","_law_one","_law_other"] ["_law_top","_law_bottom"] (zag ze2):=(Qa)
theorem zjI(T:Txt K mg a):zci P w K mg base CX0 1 a.faY a.daY ["_law_top","_law_bottom"] zvC:=by
 refine T.FaY.ok zdx (Qj) (Qe)
 all_goals obtain⟨t,b,rfl,h,hb,q⟩:=h
 ·rfl
 exact⟨zfa,(zae (zaX (i:=2) zdx.nd rfl (Qh) (pv 1))
 (zae (zaX (i:=3) zdx.nd rfl (Qh) (zaz zhK (pv 0) (pv 1)))
 (zae (zis PassesOwn.never (za7 zhg (pv 3) zaf (zaV _)) (zah (zvq (i:=2) (j:=3) rfl zdx.nd rfl rfl (Qs) rfl rfl (zaa (pv 3) (zaa (zaz zhK (pv 2) (pv 3)) zad)) rfl)))
 (zah (zat (zbR (zaa (zaz zdu (pv 0) (pv 2)) (zaa (zaz zdu (pv 1) (pv 2)) zad)))))))),
  zjv h hb q⟩
def zl3:Sp:=λvs H Q _=>∃(p:Addr) (b:Box) (n:Int),vs=[.ref p,.int n]∧H p=some (.tup (bx b))∧GB b∧0≤n∧n≤60∧∀(r:Addr) (H':Hp),zaF H H'→H' r=some (Qas)→Q (QO) H'
def zhn(K:ψa):TS :=
 (zbg (zbS (tOp (Qd) (zac 2) (tOp (QJ) (Qaw) (Qx))) (zam 2))
 (zbS (tOp (Qd) (zac 3) (Qaw)) (zam 3)))
def zdQ(K:ψa):=eqT (zhn.eq_1 K)
def zg3(K:ψa):TS :=
 (zbg (zbS (Qi) (zam 2))
 (zbg (zbS (Qi) (zam 3))
 (zbg (zjW (zij (Qz)) (zam 4)
 (zhn K))
 (zbP (zfq (zab (zac 2) (Q3)))))))
theorem zlU{p:Addr}{b:Box}{n:Int}(hp:H p=some (.tup (bx b)))(g:GB b)(n0:0≤n)(n1:n≤60)(q:∀(r:Addr) (H':Hp),zaF H H'→H' r=some (Qas)→Q (QO) H') :
  zg3 K { nx:=λ_ H'=>Q .non H',rt:=Q } (L2.start ["_law_box","_law_many","_law_top","_law_bottom","_law_turn"] [.ref p,.int n]) H:=by
 unfold zg3
 obtain⟨g1,g2,g3,g4,g5⟩:=g
 have hP:=SqT.of (K:=K) hp
 simp_all only [zdQ,zac]
 refine⟨by omega,by omega,?_⟩
 refine zeU (λi σ H'=>H'=H∧∃k,σ=[some (.ref p),some (.int n),some (.int ((b.2.2 - b.2.1) ^ i)),some (.int (b.2.2 ^ i)),k]) ⟨rfl,none,by rw[Int.pow_zero,Int.pow_zero]⟩ ?_ ?_
 ·rintro i σ H' hi ⟨rfl,k,rfl⟩
  simp_all only [zdQ,zac]
  refine⟨_,hP,_,rfl,_,hP,_,rfl,_,rfl,_,rfl,zoz (Qf) (Qf),_,hP,_,rfl,_,rfl,zoz (Qf) (Qf),?_⟩
  rw[Int.pow_succ,Int.pow_succ]
  exact⟨rfl,rfl⟩
 ·rintro σ H' ⟨rfl,k,rfl⟩
  simp_all only [zdQ,zac]
  exact⟨by decide,λr hr=>q r _ (zan hr _) zai⟩
theorem zdc:zay ["_law_box","_law_many","_law_top","_law_bottom","_law_turn"] ["_law_box","_law_many"] (zag zg2):=(Qa)
theorem zfT(T:Txt K mg a):zci P w K mg base CX0 1 a.fQ a.dQ ["_law_box","_law_many"] zl3:=by
 refine T.FQ.ok zdc (Qj) (Qe)
 all_goals obtain⟨p,b,n,rfl,hp,g,n0,n1,q⟩:=h
 ·rfl
 exact⟨zg3 K,(zae (zaX (i:=2) zdc.nd rfl (Qh) zaf)
 (zae (zaX (i:=3) zdc.nd rfl (Qh) zaf)
 (zae (zdq PassesOwn.never rfl (zc0 rfl T.z_range (QB)) (zaj (i:=4) zdc.nd rfl (Qh))
 (zae (zaX (i:=2) zdc.nd rfl (Qh) (zaz zav (pv 2) (zaz zdy (Qg) (Qg))))
 (zah (zaX (i:=3) zdc.nd rfl (Qh) (zaz zav (pv 3) (Qg))))))
 (zah (zat (zbR (zaa (pv 2) (zaa (pv 3) zad)))))))),
  zlU hp g n0 n1 q⟩
def zn5:Sp:=λvs H Q _=>∃(x y:Addr) (m1 m2:Nat) (s t u v:Int),vs=[.ref x,.ref y]∧H x=some (.tup [.int s,.int t])∧H y=some (.tup [.int u,.int v])∧0<t∧0<v∧Bd 30000 s∧Bd m1 t∧Bd 30000 u∧Bd m2 v∧m1+m2≤8000∧∀(r:Addr) (H':Hp),zaF H H'→H' r=some (.tup (fr (ψw s t+ψw u v)))→Q (QO) H'
def zg4(K:ψa):TS :=
 (zbP (zaA zvC [] E0 (zab (tOp (QM) (tOp (Qd) (QE) (QT)) (tOp (Qd) (Qav) (Qx))) (zab (tOp (Qd) (Qx) (QT)) zau))))
theorem zlZ{x y:Addr}{m1 m2:Nat}{s t u v:Int}(hx:H x=some (.tup [.int s,.int t]))(hy:H y=some (.tup [.int u,.int v]))(t0:0<t)(v0:0<v)(bs:Bd 30000 s)(bt:Bd m1 t)(bu:Bd 30000 u)(bv:Bd m2 v)(hm:m1+m2≤8000)(q:∀(r:Addr) (H':Hp),zaF H H'→H' r=some (.tup (fr (ψw s t+ψw u v)))→Q (QO) H') :
  zg4 K { nx:=λ_ H'=>Q .non H',rt:=Q } (L2.start (Qam) [.ref x,.ref y]) H:=by
 unfold zg4
 simp_all only [zac]
 rw[Rat.divInt_add_divInt s u (Qf) (Qf)] at q
 have hx:=SqT.of (K:=K) hx
 have hy:=SqT.of (K:=K) hy
 exact⟨_,hx,_,rfl,_,hy,_,rfl,_,rfl,_,rfl,zde 30000 m2 bs bv (Qf),_,hy,_,rfl,_,hx,_,rfl,_,rfl,_,rfl,zde 30000 m1 bu bt (Qf),_,hx,_,rfl,_,hy,_,rfl,_,rfl,_,rfl,zde m1 m2 bt bv (Qf),_,_,rfl,ψA1 t0 v0,(bt.mul bv).mono hm,q⟩
theorem zmb:zay (Qam) (Qam) (zag zgP):=(Qa)
theorem zhV(T:Txt K mg a):zci P w K mg base CX0 2 a.fan a.dan (Qam) zn5:=by
 have GaY:=zjI (P:=P) (w:=w) (base:=base) T
 refine T.Fan.ok zmb (Qj) (Qe)
 all_goals obtain⟨x,y,m1,m2,s,t,u,v,rfl,hx,hy,t0,v0,bs,bt,bu,bv,hm,q⟩:=h
 ·rfl
 exact⟨zg4 K,(zah (zat (zak GaY (Qc) rfl T.maY T.FaY.kp T.baY .nil zaB (zaa (zaz zdC (QaE) (zaz zav (QC) (Qg))) (zaa (QaE) zad))))),
  zlZ hx hy t0 v0 bs bt bu bv hm q⟩
def zm7:Sp:=λvs H Q _=>∃(x y:Addr) (s t u v:Int),vs=[.ref x,.ref y]∧H x=some (.tup [.int s,.int t])∧H y=some (.tup [.int u,.int v])∧Bd 30000 s∧Bd 30000 t∧Bd 30000 u∧Bd 30000 v∧Q (.bl (decide (s*v<u*t))) H
def zgT(K:ψa):TS :=
 (zbP (tOp (QS) (tOp (Qd) (QE) (QT)) (tOp (Qd) (Qav) (Qx))))
theorem zmd{x y:Addr}{s t u v:Int}(hx:H x=some (.tup [.int s,.int t]))(hy:H y=some (.tup [.int u,.int v]))(bs:Bd 30000 s)(bt:Bd 30000 t)(bu:Bd 30000 u)(bv:Bd 30000 v)(q:Q (.bl (decide (s*v<u*t))) H) :
  zgT K { nx:=λ_ H'=>Q .non H',rt:=Q } (L2.start (Qam) [.ref x,.ref y]) H:=by
 unfold zgT
 simp_all only [zac]
 have hx:=SqT.of (K:=K) hx
 have hy:=SqT.of (K:=K) hy
 exact⟨_,hx,_,rfl,_,hy,_,rfl,_,rfl,_,rfl,zde 30000 30000 bs bv,_,hy,_,rfl,_,hx,_,rfl,_,rfl,_,rfl,zde 30000 30000 bu bt,q⟩
theorem zlJ:zay (Qam) (Qam) (zag zgR):=(Qa)
theorem zh8(T:Txt K mg a):zci P w K mg base CX0 1 a.fao a.dao (Qam) zm7:=by
 refine T.Fao.ok zlJ (Qj) (Qe)
 all_goals obtain⟨x,y,s,t,u,v,rfl,hx,hy,bs,bt,bu,bv,q⟩:=h
 ·rfl
 exact⟨zgT K,(zah (zat (zbT zi4 (QaE) (zaz zav (QC) (Qg)) (zaV _)))),
  zmd hx hy bs bt bu bv q⟩
theorem zvs{s t u v:Int}(t0:0<t)(v0:0<v):s*v<u*t↔ψw s t<ψw u v:=by
 have tR:(0:Rat)<(t:Rat):=by exact_mod_cast t0
 have vR:(0:Rat)<(v:Rat):=by exact_mod_cast v0
 have tn:(t:Rat)≠0:=by grind
 have vn:(v:Rat)≠0:=by grind
 rw[← Rat.intCast_lt_intCast,ψm,ψm,ψl,ψl]
 have D:=ψB1 tR vR
 have e1:(s:Rat) / (t:Rat)*((t:Rat)*(v:Rat))=(s:Rat)*(v:Rat):=by
  generalize (t:Rat)=x at tn ⊢
  grind
 have e2:(u:Rat) / (v:Rat)*((t:Rat)*(v:Rat))=(u:Rat)*(t:Rat):=by
  generalize (v:Rat)=x at vn ⊢
  grind
 rw[← e1,← e2]
 constructor
 ·intro z
  refine ψI λc=>?_
  have:=ψJ (Rat.not_lt.mp c) (ψB D)
  grind
 ·exact λz=>Rat.mul_lt_mul_of_pos_right z D
def zf4:Sp:=λvs H Q _=>∃x:Int,vs=[.int x]∧Q (.bl true) H
def zfR(K:ψa):TS :=
 (zbP (ze3 (tCB (zhy K) (zab (zac 0) (zab (tC (.ty "int")) zau))) (zrI (tCB (zhy K) (zab (zac 0) (zab (tC (.ty "bool")) zau))))))
theorem zkT{x:Int}(q:Q (.bl true) H):zfR K { nx:=λ_ H'=>Q .non H',rt:=Q } (L2.start (Qau) [.int x]) H:=by
 unfold zfR
 simp_all only [zac]
 refine ziR ⟨_,rfl,zp1 ?_⟩
 exact zh9 ⟨_,rfl,q⟩
theorem zkK:zay (Qau) (Qau) (zag zfC):=(Qa)
theorem zd4(T:Txt K mg a):zci P w K mg base CX0 1 a.fL a.dL (Qau) zf4:=by
 refine T.FL.ok zkK (Qj) (Qe)
 all_goals obtain⟨x,rfl,q⟩:=h
 ·rfl
 exact⟨zfR K,(zah (zat (zdD (zap za9 rfl T.z_isinstance ψi (zaa (pv 0) (zaa (zbW rfl T.z_int zkw rfl) zad))) (zeY (zsG (zap za9 rfl T.z_isinstance ψi (zaa (pv 0) (zaa (zbW rfl T.z_bool zmD rfl) zad)))))))),
  zkT q⟩
def znU:Sp:=λvs H Q _=>∃(p:Addr) (P:Rat),vs=[.ref p]∧H p=some (.tup (fr P))∧∀H',zaF H H'→Q (.bl true) H'
def zeW(K:ψa):TS :=
 (zbP (ze3 (tOp (QI) (Qx) (Qn)) (tOp (rIn K false) (zac 1) (zfq (zab (Qi) (zab (tUn (rU λi=>.int (-i)) (Qi)) zau))))))
def zcb(K:ψa):=eqT (zeW.eq_1 K)
def zeZ(K:ψa):TS :=
 (zbg (zbS (zac 0) (zdS K 2 (zaL (zam 1) (zaL (zam 2) zdO))))
 (zbg (zjK (zbZ (tOp (QI) (zac 2) (Qn))) (tPar 1 2 (zab (zac 2) (zab (tOp (Qak) (zac 1) (zac 2)) zau))))
 (zeW K)))
def zce(K:ψa):=eqT (zeZ.eq_1 K)
def zeO(K:ψa):TS :=
 (zdI (tOr (zeM (QP)) (tOr (zbZ (tOp rNe (Qaq) (QU))) (tOr (zeM (tB (zaA zf4 [] E0 (zab (QE) zau)))) (zeM (tB (zaA zf4 [] E0 (zab (Qx) zau))))))) (Qt) zbU)
def zcc(K:ψa):=eqT (zeO.eq_1 K)
def zeo(K:ψa):TS :=
 (zbg (zeK (zeO K))
 (zeZ K))
theorem zie{p:Addr}{P:Rat}(hp:H p=some (.tup (fr P)))(q:∀H',zaF H H'→Q (.bl true) H') :
  zeo K { nx:=λ_ H'=>Q .non H',rt:=Q } (L2.start ["_law_thing","_law_one","_law_other"] [.ref p]) H:=by
 unfold zeo
 have d:=zch P
 have hP:=SqT.of (K:=K) hp
 simp_all only [zcb,zce,zcc,zac]
 refine⟨λσ H'=>H'=H∧σ=[some (.ref p),none,none],?_,?_⟩
 ·simp_all only [zcb,zce,zcc,zac]
  refine zcq hp (Qal)
  refine zb5 (Qk) (QaF)
  refine⟨_,.inr hP,?_⟩
  refine zb5 (QK) (QaF)
  refine⟨_,hP,_,rfl,P.num,rfl,true,rfl,?_⟩
  refine zb5 (Qk) (QaF)
  refine⟨_,hP,_,rfl,(P.den:Int),rfl,true,rfl,?_⟩
  exact zb5 (Qk) (λ_=>rfl)
 ·rintro σ H' ⟨e,rfl⟩
  rw[e]
  simp_all only [zcb,zce,zcc,zac]
  refine⟨_,hP,rfl,_,_,rfl,_,_,rfl,rfl,?_⟩
  refine ziB (λσ H'=>H'=H∧∃u v,σ=[some (.ref p),some (.int u),some (.int v)]∧0≤v∧ψU u v=1) (λσ _=>match σ with | [_,_,some (.int v)]=>v.toNat | _=>0) ⟨rfl,_,_,rfl,by omega,zvl P⟩ ?_ ?_
  ·rintro σ H' ⟨rfl,u,v,rfl,hv,hg⟩
   simp_all only [zcb,zce,zcc,zac]
   refine zb5 (λc=>?_) (λc=>?_)
   ·have hv':0<v:=by omega
    refine⟨by omega,ψd1 u hv',?_,?_⟩
    ·have e:u.fmod v=u+v*(-(u.fdiv v)):=by
      have:=ψf1 u v
      rw[ψC1]
      omega
     rw[e,Int.gcd_add_mul_left_right,Int.gcd_comm]
     exact hg
    ·have:=ψy1 u hv'
     omega
   ·have c':v=0:=by omega
    subst c'
    rw[Int.gcd_zero_right] at hg
    refine⟨_,hP,_,rfl,_,rfl,?_⟩
    rw[if_pos d]
    refine⟨by decide,λr nr=>?_⟩
    refine⟨_,.inr (SqT.of zai),rfl,rfl,?_⟩
    have:inV (V.int u) [V.int 1,V.int (-1)]=true:=by
     have:u=1∨u=-1:=by omega
     rcases this with rfl | rfl <;> decide
    rw[this]
    exact q _ (zan nr _)
  ·rintro σ H1 Q1 Q2 hQ ⟨v,hv,k,hk,h,h1,b,hb,h2⟩
   exact⟨v,hv,k,hk,h,h1,b,hb,hQ _ _ h2⟩
theorem zc5:zay ["_law_thing","_law_one","_law_other"] (Qau) (zag zem):=(Qa)
theorem zfk(T:Txt K mg a):zci P w K mg base CX0 2 a.fam a.dam (Qau) znU:=by
 have GL:=zd4 (P:=P) (w:=w) (base:=base) T
 refine T.Fam.ok zc5 (Qj) (Qe)
 all_goals obtain⟨p,P',rfl,hp,q⟩:=h
 ·rfl
 exact⟨zeo K,(zae (zbA (zbY (PW.pt (zcP (zbG (zbr (zap za9 rfl T.z_isinstance ψi (zaa (pv 0) (QaB))))) (zcP (za7 zih (Qq) zaf (zaV _)) (zcP (zbG (zbr (zak GL (Qc) rfl T.mL T.FL.kp T.bL .nil zaB (zaa (Qg) zad)))) (zcB (zbG (zbr (zak GL (Qc) rfl T.mL T.FL.kp T.bL .nil zaB (zaa (Qg) zad))))))))) (QL) zaY))
 (zae (zc1 (pv 0) (zbs rfl (zal (zaj (i:=1) zc5.nd rfl (Qh)) (zal (zaj (i:=2) zc5.nd rfl (Qh)) za6))))
 (zae (zis PassesOwn.never (za7 zhg (pv 2) zaf (zaV _)) (zah (zvq (i:=1) (j:=2) rfl zc5.nd rfl rfl (Qs) rfl rfl (zaa (pv 2) (zaa (zaz zhK (pv 1) (pv 2)) zad)) rfl)))
 (zah (zat (zdD (zbT zhg (Qg) zaf (zaV _)) (zeY (zbT zlC (pv 1) (zbR (zaa zaf (zaa (zxg zsa zaf) zad))) (by with_unfolding_all rfl))))))))),
  zie hp q⟩
def znh:Sp:=λvs H Q _=>∃(l pl:Addr) (ts:List Addr) (bs:List Box) (ms:List Int),vs=[.ref l,.ref pl]∧Bx6 H l ts bs∧H pl=some (.lst (Qar))∧ms.length=bs.length∧(∀m∈ms,0≤m)∧∀H',zaF H H'→Q (.bl (okP ms)) H'
def zg8(K:ψa):TS :=
 (zbP (tOp rEq (tCB (Qb) (zab (zb1 (zcT K (zac 1)) (zam 0) (tOr (zeM (tB (zaA zf4 [] E0 (QA)))) (tOr (zbZ (tOp (QS) (zac 0) (Qn))) (zbZ (tOp (QI) (zac 0) (tC (.int 60)))))) (zac 0) [none]) zau)) (Qn)))
def zc4(K:ψa):=eqT (zg8.eq_1 K)
def zhu(K:ψa):TS :=
 (zdI (tOr (zeM (tB (tCB (zhy K) (zab (zac 1) (zab (tC (.ty "list")) zau))))) (zbZ (tOp rNe (tCB (Qb) (Qz)) (Qaq)))) (Qt) zbU)
def zc6(K:ψa):=eqT (zhu.eq_1 K)
def zgY(K:ψa):TS :=
 (zbg (zeK (zhu K))
 (zg8 K))
theorem zlE{l pl:Addr}{ts:List Addr}{bs:List Box}{ms:List Int}(B:Bx6 H l ts bs)(hp:H pl=some (.lst (Qar)))(len:ms.length=bs.length)(m0:∀m∈ms,0≤m)(q:∀H',zaF H H'→Q (.bl (okP ms)) H') :
  zgY K { nx:=λ_ H'=>Q .non H',rt:=Q } (L2.start ["_law_boxes_here","_law_thing"] [.ref l,.ref pl]) H:=by
 unfold zgY
 have l6:=B.l6
 simp_all only [zc4,zc6,zac]
 refine⟨λσ H'=>H'=H∧σ=[some (.ref l),some (.ref pl)],?_,?_⟩
 ·simp_all only [zc4,zc6,zac]
  refine zct hp (Qal)
  refine zb5 (Qk) (QaF)
  refine⟨_,.inl (SqL.of hp),_,.inl (SqL.of B.hl),?_⟩
  rw[ψb,ψb,B.hb.1,len]
  exact zb5 (QK) (λ_=>rfl)
 ·rintro σ H' ⟨e,rfl⟩
  rw[e]
  simp_all only [zc4,zc6,zac]
  refine⟨⟨_,SqL.of hp⟩,λD hD=>?_⟩
  refine zcz (K:=K) (xs:=ms.map V.int) (λi ys σ H'=>zaF H H'∧ys.length≤i∧(ys=[]↔∀m∈ms.take i,m≤60)∧∃z,σ=[z]) ⟨zan hD _,by simp,by simp,_,rfl⟩ ?_ ?_ ?_
  ·rintro i ys σ H' _ ⟨s,_⟩
   exact SqL.of (s _ _ hp)
  ·rintro i x ys σ H' hx hD' ⟨s,ly,hy,z,rfl⟩
   obtain⟨m,hm,rfl⟩:=zas hx
   have h0:=m0 m (zao hm)
   have li:=(List.getElem?_eq_some_iff.mp hm).1
   simp_all only [zc4,zc6,zac]
   refine⟨m,rfl,true,rfl,?_⟩
   refine zb5 (Qk) (QaF)
   refine zb5 (λz=>absurd z (Qf)) (QaF)
   have tk:ms.take (i+1)=ms.take i++[m]:=by rw[ψu,hm];rfl
   refine zb5 (λc=>?_) (λc=>?_)
   ·refine⟨_,hD',zbe (Qf),_,zai,s.put hD,by rw[ψR];exact Nat.succ_le_succ ly,?_⟩
    rw[tk]
    constructor
    ·intro z
     simp at z
    ·intro z
     have:=z m (ψA _ (by simp))
     omega
   ·refine⟨_,hD',s,by omega,?_⟩
    rw[hy,tk]
    constructor
    ·intro z y hy'
     rcases List.mem_append.mp hy' with h | h
     ·exact z y h
     ·rw[List.mem_singleton.mp h]
      omega
    ·intro z y hy'
     exact z y (ψK1 _ hy')
  ·rintro ys σ H' hD' ⟨s,ly,hy,z,rfl⟩
   rw[ψb,ψC] at hy
   refine⟨D,rfl,_,.inl (SqL.of hD'),?_⟩
   have e:decide ((ys.length:Int)=0)=okP ms:=by
    rw[ψJ1,decide_eq_true_iff,zgQ,← hy]
    exact⟨λz=>List.length_eq_zero_iff.mp (Qf),λz=>by rw[z];rfl⟩
   rw[e]
   exact q _ s
theorem zmJ:zay ["_law_boxes_here","_law_thing"] ["_law_boxes_here","_law_thing"] (zag ze4):=(Qa)
theorem zh0(T:Txt K mg a):zci P w K mg base CX0 2 a.faq a.daq ["_law_boxes_here","_law_thing"] znh:=by
 have GL:=zd4 (P:=P) (w:=w) (base:=base) T
 refine T.Faq.ok zmJ (Qj) (Qe)
 all_goals obtain⟨l,pl,ts,bs,ms,rfl,B,hp,len,m0,q⟩:=h
 ·rfl
 exact⟨zgY K,(zae (zbA (zbY (PW.pt (zcP (zbG (zbr (zap za9 rfl T.z_isinstance ψi (zaa (pv 1) (zaa (zbW rfl T.z_list zbN rfl) zad))))) (zcB (za7 zih (zap zar rfl T.z_len ψo (QB)) (Qq) (zaV _))))) (QL) zaY))
 (zah (zat (zbT zjs (zap zar rfl T.z_len ψo (zaa (zbC (sc:=zag ze4) (N:=["_law_boxes_here","_law_thing"]) (Nc:=["_law_one"]) (cap:=[none]) rfl rfl rfl (Ql) (zbz (pv 1)) (λ_ _ _ _=>(zaj (i:=0) (show ψh (["_law_one"]:List Str) from by decide) rfl (Qh))) (λ_ _ _ _=>(zi2 (PW.pt (zcP (zbG (zbr (zak GL (Qc) rfl T.mL T.FL.kp T.bL .nil zaB (Qag)))) (zcP (za7 zi4 (pv 0) zaf (zaV _)) (zcB (za7 zhg (pv 0) zaf (zaV _)))))))) (λ_ _ _ _=>(pv 0))) zad)) zaf (zaV _))))),
  zlE B hp len m0 q⟩
theorem zkd:∀(bs:List Box) (ms:List Int),(QaD)→(∀m∈ms,0≤m∧m≤100)→0≤(zaH bs ms).sum∧(zaH bs ms).sum≤6000*(bs.length:Int)
 | [],_,_,_=>by simp[zaH]
 | _::_,[],_,_=>by simp[zaH];omega
 | b::bs,m::ms,gb,h=>by
  obtain⟨z1,z2⟩:=zkd bs ms (λx hx=>gb x (ψd _ hx)) (λx hx=>h x (ψd _ hx))
  obtain⟨g1,g2,_⟩:=gb b ψe
  obtain⟨m0,m1⟩:=h m ψe
  have a1:0≤b.1*m:=Int.mul_nonneg (Qf) m0
  have a2:b.1*m≤60*100:=Int.mul_le_mul g2 m1 m0 (Qs)
  have e:(zaH (b::bs) (m::ms)).sum=b.1*m+(zaH bs ms).sum:=rfl
  rw[e,ψM]
  omega
def zm6:Sp:=λvs H Q _=>∃(l pl:Addr) (ts:List Addr) (bs:List Box) (ms:List Int),vs=[.ref l,.ref pl]∧Bx6 H l ts bs∧H pl=some (.lst (Qar))∧ms.length=bs.length∧(∀m∈ms,0≤m∧m≤100)∧∀H',zaF H H'→Q (.int (zaH bs ms).sum) H'
def zfN(K:ψa):TS :=
 (zbP (tCB (zlH K) (zab (zb1 (zij (zab (Qaq) zau)) (zam 0) za8 (tOp (Qd) (tOp (zbB K) (tOp (zhx K) (zac 2) (zac 0)) (Qn)) (tOp (zhx K) (zac 1) (zac 0))) [none,some 1,some 0]) zau)))
theorem zkp{l pl:Addr}{ts:List Addr}{bs:List Box}{ms:List Int}(B:Bx6 H l ts bs)(hp:H pl=some (.lst (Qar)))(len:ms.length=bs.length)(m0:∀m∈ms,0≤m∧m≤100)(q:∀H',zaF H H'→Q (.int (zaH bs ms).sum) H') :
  zfN K { nx:=λ_ H'=>Q .non H',rt:=Q } (L2.start ["_law_boxes_here","_law_plan_here"] [.ref l,.ref pl]) H:=by
 unfold zfN
 simp_all only [zac]
 have l6:=B.l6
 refine⟨_,.inl (SqL.of B.hl),?_⟩
 rw[ψb,B.hb.1]
 refine⟨by omega,by omega,λD hD=>?_⟩
 refine zek (λi ys σ H'=>zaF H H'∧ys=((zaH bs ms).take i).map V.int∧∃z,σ=[z,some (.ref pl),some (.ref l)]) ⟨zan hD _,rfl,_,rfl⟩ ?_ ?_
 ·rintro i ys σ H' hi hD' ⟨s,rfl,z,rfl⟩
  have hi':i<bs.length:=by omega
  obtain⟨t,b,et,eb,ea,hb,gb⟩:=(B.same s).ix hi'
  have em:ms[i]?=some (ms[i]'(by rw[len];exact hi')):=ψc _
  obtain⟨m0,m1⟩:=m0 _ (zao em)
  simp_all only [zac]
  have z0:(0:Int)+(i:Int)=(i:Int):=Int.zero_add _
  rw[z0]
  refine⟨_,SqL.of (s _ _ B.hl),_,ea,_,rfl,_,SqT.of hb,_,rfl,_,SqL.of (s _ _ hp),_,zeG (by rw[ψt,em];rfl),_,rfl,_,rfl,zoz (Qf) (Qf),_,hD',zbe (by rw[ψb,ψL];omega),_,zai,s.put hD,?_⟩
  rw[zaH,zhs _ _ _ eb em,ψK]
  rfl
 ·rintro ys σ H' hD' ⟨s,rfl,z,rfl⟩
  simp_all only [zac]
  refine⟨_,SqL.of hD',?_⟩
  rw[ψV (by rw[zaH,ψk];omega)]
  exact q _ s
theorem zkS:zay ["_law_boxes_here","_law_plan_here"] ["_law_boxes_here","_law_plan_here"] (zag zey):=(Qa)
theorem zhr(T:Txt K mg a):zci P w K mg base CX0 1 a.far a.dar ["_law_boxes_here","_law_plan_here"] zm6:=by
 refine T.Far.ok zkS (Qj) (Qe)
 all_goals obtain⟨l,pl,ts,bs,ms,rfl,B,hp,len,m0,q⟩:=h
 ·rfl
 exact⟨zfN K,(zah (zat (zap (zcp rfl) rfl T.z_sum ψG (zaa (zbC (sc:=zag zey) (N:=["_law_boxes_here","_law_plan_here"]) (Nc:=["_law_k","_law_plan_here","_law_boxes_here"]) (cap:=[none,some 1,some 0]) rfl rfl rfl (Ql) (zc0 rfl T.z_range (zaa (Qq) zad)) (λ_ _ _ _=>(zaj (i:=0) (show ψh (["_law_k","_law_plan_here","_law_boxes_here"]:List Str) from by decide) rfl (Qh))) (QD) (λ_ _ _ _=>(zaz zav (zax zaq (zax zbX (pv 2) (pv 0) (Qo)) zaf (Qo)) (zax zbX (pv 1) (pv 0) (Qo))))) zad)))),
  zkp B hp len m0 q⟩
def tm(b:Box)(W:Int)(k:Nat)(x:Mp):Rat:=ψw (x.2.2*(b.2.2 ^ (x.2.1.getD k 0).toNat - (b.2.2 - b.2.1) ^ (x.2.1.getD k 0).toNat)) (b.2.2 ^ (x.2.1.getD k 0).toNat*W)
theorem zyw{b:Box}(g:GB b){W:Int}(W0:0<W)(k:Nat)(x:Mp):tm b W k x=(x.2.2:Rat)*chq b (x.2.1.getD k 0) / (W:Rat):=by
 unfold tm chq
 have o:=zdh g (x.2.1.getD k 0)
 rw[ψl,ψl,ψm (b.2.2 ^ (x.2.1.getD k 0).toNat) W,ψm]
 have on:((b.2.2 ^ (x.2.1.getD k 0).toNat:Int):Rat)≠0:=λz=>by
  have:(b.2.2 ^ (x.2.1.getD k 0).toNat:Int)=0:=by exact_mod_cast z
  omega
 have wn:(W:Rat)≠0:=λz=>by
  have:W=0:=by exact_mod_cast z
  omega
 generalize ((b.2.2 ^ (x.2.1.getD k 0).toNat - (b.2.2 - b.2.1) ^ (x.2.1.getD k 0).toNat:Int):Rat)=A
 generalize ((b.2.2 ^ (x.2.1.getD k 0).toNat:Int):Rat)=C at on ⊢
 generalize (W:Rat)=D at wn ⊢
 grind
theorem zva{b:Box}(g:GB b){W:Int}(W0:0<W)(k:Nat):∀xs:List Mp,(xs.map (tm b W k)).sum=csm b k (xs.map λx=>x.2) / (W:Rat)
 | []=>by
  show(0:Rat)=0 / (W:Rat)
  grind
 | x::xs=>by
  show tm b W k x+(xs.map (tm b W k)).sum=((x.2.2:Rat)*chq b (x.2.1.getD k 0)+csm b k (Qu)) / (W:Rat)
  rw[zva g W0 k xs,zyw g W0]
  grind
theorem zq0{b:Box}(g:GB b){W:Int}(W0:0<W)(k:Nat):∀xs:List Mp,(∀x∈xs,0≤x.2.1.getD k 0∧x.2.1.getD k 0≤60∧Bd 1900 x.2.2)→∃p:Int,(xs.map (tm b W k)).sum=ψw p (b.2.2 ^ 60*W)∧Bd (2702+xs.length) p
 | [],_=>⟨0,by rw[Rat.zero_divInt];rfl,by show(0:Nat)<2 ^ _;exact Nat.pow_pos (Qs)⟩
 | x::xs,h=>by
  obtain⟨p,ep,bp⟩:=zq0 g W0 k xs λy hy=>h y (ψd _ hy)
  obtain⟨n0,n1,bw⟩:=h x ψe
  have t6:=zvf g n0 n1 x.2.2
  have o:=zdh g (x.2.1.getD k 0)
  have o1:1≤b.2.2:=by have:=g.2.2.1;have:=g.2.2.2.1;omega
  have o60:0<b.2.2 ^ 60:=zf2 o1 60
  have b60:Bd 400 (b.2.2 ^ 60):=zes (Qf) g.2.2.2.2 (Qs)
  have bo:=zgf g n1
  have bt:Bd 400 ((b.2.2 - b.2.1) ^ (x.2.1.getD k 0).toNat):=by
   obtain⟨g1,g2,g3,g4,g5⟩:=g
   exact zes (Qf) (Qf) (Qf)
  have qd:((b.2.2 ^ 60).fdiv (b.2.2 ^ (x.2.1.getD k 0).toNat)).natAbs≤(b.2.2 ^ 60).natAbs:=by
   rw[ψW _ (ψz o)]
   have h1:=ψE1 (b.2.2 ^ (x.2.1.getD k 0).toNat) (ψz o60)
   have h2:=ψT1 (b:=b.2.2 ^ (x.2.1.getD k 0).toNat) (ψz o60) (ψz o)
   omega
  have bb:=(bw.mul (bo.sub bt)).mul (b60.le qd)
  generalize x.2.2*(b.2.2 ^ (x.2.1.getD k 0).toNat - (b.2.2 - b.2.1) ^ (x.2.1.getD k 0).toNat)*(b.2.2 ^ 60).fdiv (b.2.2 ^ (x.2.1.getD k 0).toNat)=r at t6 bb
  refine⟨p+r,?_,?_⟩
  ·rw[ψD,ψq,ep,zyw g W0,ψl,ψl,ψT,t6,ψm]
   have wn:(W:Rat)≠0:=λz=>by
    have:W=0:=by exact_mod_cast z
    omega
   have on:((b.2.2 ^ 60:Int):Rat)≠0:=λz=>by
    have:(b.2.2 ^ 60:Int)=0:=by exact_mod_cast z
    omega
   generalize ((b.2.2 ^ 60:Int):Rat)=A at on ⊢
   generalize (W:Rat)=D at wn ⊢
   grind
  ·rw[ψM]
   exact(bp.add (bb.mono (Qf))).mono (Qf)
theorem zrM{n:Nat}{xs:List Mp}(g:zmS n xs):0<wsm (Qu)∧Bd 1909 (wsm (Qu)):=by
 obtain⟨x1,x9,gx⟩:=g
 rw[zl9]
 have hw:∀w∈xs.map λx=>x.2.2,0<w:=λw hw=>by
  obtain⟨x,hx,rfl⟩:=List.mem_map.mp hw
  have:=(gx x hx).2.2.1
  omega
 obtain⟨x0,hx0⟩:∃x,x∈xs:=⟨xs[0]'(by omega),ψv1 _⟩
 have h1:=(zpd (w:=x0.2.2) _ hw).2 (List.mem_map.mpr ⟨x0,hx0,rfl⟩)
 have h2:=(gx x0 hx0).2.2.1
 refine⟨by omega,(zjL _ λw hw=>?_).mono (show 1900+(xs.map λx=>x.2.2).length≤1909 by rw[ψb];omega)⟩
 obtain⟨x,hx,rfl⟩:=List.mem_map.mp hw
 exact(gx x hx).2.2.2
def zmE:Sp:=λvs H Q _=>∃(l ml:Addr) (ts:List Addr) (bs:List Box) (us:List Addr) (xs:List Mp) (k:Nat) (b:Box),vs=[.ref l,.ref ml,.int k]∧Bx6 H l ts bs∧MxH H ml us xs∧zmS bs.length xs∧okM xs=true∧bs[k]?=some b∧∀(r:Addr) (C:Rat) (H':Hp),zaF H H'→H' r=some (.tup (fr C))→Bq 2800 C→C=csm b k (xs.map λx=>x.2) / (wsm (xs.map λx=>x.2):Rat)→Q (QO) H'
def zft(K:ψa):TS :=
 (zbg (zbS (zaA zl3 [] E0 (zab (tOp (zhx K) (zac 0) (zac 2)) (zab (tOp (zhx K) (zac 5) (zac 2)) zau))) (zdS K 2 (zaL (zam 7) (zaL (zam 8) zdO))))
 (zbS (zaA zn5 [] E0 (zab (zac 3) (zab (zfq (zab (tOp (Qd) (zac 6) (tOp (QJ) (zac 8) (zac 7))) (zab (tOp (Qd) (zac 8) (zac 4)) zau))) zau))) (zam 3)))
def zby(K:ψa):=eqT (zft.eq_1 K)
def ze5(K:ψa):TS :=
 (zbg (zbS (zfq (zab (Qn) (zab (Qi) zau))) (zam 3))
 (zbg (zbS (tCB (zlH K) (zab (zb1 (zcT K (zac 1)) (Qm) za8 (zac 1) [none,none]) zau)) (zam 4))
 (zbg (zjW (zcT K (zac 1)) (zdS K 2 (zaL (zam 5) (zaL (zam 6) zdO)))
 (zft K))
 (zbP (zac 3)))))
theorem zjF{l ml:Addr}{ts:List Addr}{bs:List Box}{us:List Addr}{xs:List Mp}{k:Nat}{b:Box}(B:Bx6 H l ts bs)(M:MxH H ml us xs)(g:zmS bs.length xs)(ok:okM xs=true)(hk:bs[k]?=some b)(q:∀(r:Addr) (C:Rat) (H':Hp),zaF H H'→H' r=some (.tup (fr C))→Bq 2800 C→C=csm b k (xs.map λx=>x.2) / (wsm (xs.map λx=>x.2):Rat)→Q (QO) H') :
  ze5 K { nx:=λ_ H'=>Q .non H',rt:=Q } (L2.start ["_law_boxes_here","_law_mix_here","_law_k","_law_total","_law_whole_here","_law_plan_here","_law_weight","_law_top","_law_bottom"] [.ref l,.ref ml,.int k]) H:=by
 unfold ze5
 obtain⟨W0,bW⟩:=zrM g
 obtain⟨x1,x9,gx⟩:=g
 have kl:=(List.getElem?_eq_some_iff.mp hk).1
 have gbk:=B.gb b (zao hk)
 have o1:1≤b.2.2:=by have:=gbk.2.2.1;have:=gbk.2.2.2.1;omega
 have o60:0<b.2.2 ^ 60:=zf2 o1 60
 have b60:Bd 400 (b.2.2 ^ 60):=zes (Qf) gbk.2.2.2.2 (Qs)
 have en:∀x∈xs,∃m,x.2.1[k]?=some m∧x.2.1.getD k 0=m∧0≤m∧m≤60:=λx hx=>by
  have em:x.2.1[k]?=some (x.2.1[k]'(by rw[(gx x hx).1];exact kl)):=ψc _
  exact⟨_,em,by rw[ψx,em];rfl,((gx x hx).2.1 _ (zao em)).1,zgQ.mp (List.all_eq_true.mp ok x hx) _ (zao em)⟩
 generalize hWW:wsm (xs.map λx=>x.2)=WW at W0 bW q
 have bqs:∀i:Nat,Bq 2712 ((xs.take i).map (tm b WW k)).sum:=λi=>by
  obtain⟨p,ep,bp⟩:=zq0 gbk W0 k (xs.take i) λx hx=>by
   obtain⟨m,_,e,m0,m1⟩:=en x (ψL1 hx)
   rw[e]
   exact⟨m0,m1,(gx x (ψL1 hx)).2.2.2⟩
  rw[ep]
  refine zcw (ψS (Qf) (Qf)) (bp.mono ?_) ((b60.mul bW).mono (Qs))
  rw[ψL]
  omega
 simp_all only [zby,zac]
 refine⟨by decide,λr0 n0=>?_⟩
 have s0:=zan n0 (.tup [.int 0,.int 1])
 have h0:(L2.upd H r0 (.tup [.int 0,.int 1])) r0=some (.tup [.int 0,.int 1]):=zai
 generalize L2.upd H r0 (.tup [.int 0,.int 1])=H0 at s0 h0 ⊢
 have M0:=M.same s0
 refine⟨⟨_,SqL.of M0.hm⟩,λD hD=>?_⟩
 refine zdr (g1:=mt1) (g2:=mt2) (vs:=(xs.map λx=>x.2.2).map V.int) M0.hm M0.tp (by simp) (by simp;omega) hD (λi x v H' R hx hv s kk=>?_) λH1 s1 h1=>?_
 ·obtain⟨w,hw,rfl⟩:=zas hv
  obtain⟨y,hy,rfl⟩:=zas hw
  rw[hx] at hy
  cases hy
  simp_all only [zby,zac]
  exact kk _ (.refl _)
 simp_all only [zby,zac]
 refine⟨_,SqL.of h1,?_⟩
 rw[← zl9,hWW]
 have M1:=M0.same s1
 refine⟨⟨_,SqL.of M1.hm⟩,?_⟩
 refine zc2 (K:=K) (xs:=us.map V.ref) (λi σ H'=>zaF H1 H'∧∃(r:Addr) (y5 y6 y7 y8:Option V),H' r=some (.tup (fr (((xs.take i).map (tm b WW k)).sum)))∧σ=[some (.ref l),some (.ref ml),some (.int k),some (QO),some (.int WW),y5,y6,y7,y8]) ⟨.refl _,r0,_,_,_,_,s1 _ _ h0,rfl⟩ ?_ ?_ ?_
 ·rintro i σ H' _ ⟨s,_⟩
  exact SqL.of (s _ _ M1.hm)
 ·rintro i v σ H2 hx ⟨s2,r,y5,y6,y7,y8,hr,rfl⟩
  obtain⟨u,eu,rfl⟩:=zas hx
  obtain⟨x,ex,hu⟩:=M1.tp.at eu
  obtain⟨a1,a2,a3,a4⟩:=gx x (zao ex)
  have S2:=s0.trans (s1.trans s2)
  obtain⟨t,b',et,eb,ea,hb,gb⟩:=(B.same S2).ix kl
  rw[hk] at eb
  cases eb
  obtain⟨m,em,eg,m0,m1⟩:=en x (zao ex)
  have bo:=zgf gb m1
  have o:=zdh gb m
  have bt:Bd 400 ((b.2.2 - b.2.1) ^ m.toNat):=by
   obtain⟨g1,g2,g3,g4,g5⟩:=gb
   exact zes (Qf) (Qf) (Qf)
  have hpl:=S2 _ _ (M.pl x (zao ex))
  simp_all only [zby,zac]
  refine⟨_,SqT.of (s2 _ _ hu),rfl,_,_,rfl,_,_,rfl,rfl,?_⟩
  simp_all only [zby,zac]
  refine⟨_,SqL.of (S2 _ _ B.hl),_,ea,_,SqL.of hpl,_,zeG (by rw[ψt,em];rfl),t,b,_,rfl,hb,gb,m0,m1,λz H3 s3 h3=>?_⟩
  simp_all only [zby,zac]
  refine⟨_,SqT.of h3,rfl,_,_,rfl,_,_,rfl,rfl,?_⟩
  simp_all only [zby,zac]
  refine⟨zde 1900 401 a4 (bo.sub bt),zde 400 1909 bo bW,by decide,λy ny=>?_⟩
  have s4:=zan ny (.tup [V.int (x.2.2*(b.2.2 ^ m.toNat - (b.2.2 - b.2.1) ^ m.toNat)),V.int (b.2.2 ^ m.toNat*WW)])
  have h4:(L2.upd H3 y (.tup [V.int (x.2.2*(b.2.2 ^ m.toNat - (b.2.2 - b.2.1) ^ m.toNat)),V.int (b.2.2 ^ m.toNat*WW)])) y=some (.tup [V.int (x.2.2*(b.2.2 ^ m.toNat - (b.2.2 - b.2.1) ^ m.toNat)),V.int (b.2.2 ^ m.toNat*WW)]):=zai
  generalize L2.upd H3 y (.tup [V.int (x.2.2*(b.2.2 ^ m.toNat - (b.2.2 - b.2.1) ^ m.toNat)),V.int (b.2.2 ^ m.toNat*WW)])=H4 at s4 h4 ⊢
  refine⟨r,y,2712,2309,_,_,_,_,rfl,s4 _ _ (s3 _ _ hr),h4,zch _,ψA1 o W0,(bqs i).top.mono (Qs),(bqs i).bot,(a4.mul (bo.sub bt)).mono (Qs),bo.mul bW,by decide,λr' H5 s5 h5=>?_⟩
  rw[ψy] at h5
  have e:((xs.take (i+1)).map (tm b WW k)).sum=((xs.take i).map (tm b WW k)).sum+ψw (x.2.2*(b.2.2 ^ m.toNat - (b.2.2 - b.2.1) ^ m.toNat)) (b.2.2 ^ m.toNat*WW):=by
   rw[ψu,ex,ψK,List.sum_append]
   show _+(tm b WW k x+0)=_
   rw[Rat.add_zero,tm,eg]
  exact⟨s2.trans (s3.trans (s4.trans s5)),r',by rw[e];exact h5,rfl⟩
 ·rintro σ H2 ⟨s2,r,y5,y6,y7,y8,hr,rfl⟩
  have bb:=bqs xs.length
  rw[ψC] at bb
  rw[ψb,M.tp.1,ψC] at hr
  simp_all only [zby,zac]
  exact q r _ H2 (s0.trans (s1.trans s2)) hr (bb.mono (Qs)) (zva gbk W0 k xs)
theorem zb0:zay ["_law_boxes_here","_law_mix_here","_law_k","_law_total","_law_whole_here","_law_plan_here","_law_weight","_law_top","_law_bottom"] ["_law_boxes_here","_law_mix_here","_law_k"] (zag zdY):=(Qa)
theorem zjA(T:Txt K mg a):zci P w K mg base CX0 3 a.faZ a.daZ ["_law_boxes_here","_law_mix_here","_law_k"] zmE:=by
 have GQ:=zfT (P:=P) (w:=w) (base:=base) T
 have Gan:=zhV (P:=P) (w:=w) (base:=base) T
 refine T.FaZ.ok zb0 (Qj) (Qe)
 all_goals obtain⟨l,ml,ts,bs,us,xs,k,b,rfl,B,M,g,ok,hk,q⟩:=h
 ·rfl
 exact⟨ze5 K,(zae (zaX (i:=3) zb0.nd rfl (Qh) (zbR (zaa zaf (Q4))))
 (zae (zaX (i:=4) zb0.nd rfl (Qh) (zap (zcp rfl) rfl T.z_sum ψG (zaa (zbC (sc:=zag zdY) (N:=["_law_boxes_here","_law_mix_here","_law_k","_law_total","_law_whole_here","_law_plan_here","_law_weight","_law_top","_law_bottom"]) (Nc:=["_law_plan_here","_law_weight"]) (cap:=[none,none]) rfl rfl rfl (Ql) (zbz (pv 1)) (λ_ _ _ _=>(zbs rfl (zal (zaj (i:=0) (Qai) rfl (Qh)) (zal (zaj (i:=1) (Qai) rfl (Qh)) za6)))) (QD) (λ_ _ _ _=>(pv 1))) zad)))
 (zae (zdq PassesOwn.never rfl (zbz (pv 1)) (zbs rfl (zal (zaj (i:=5) zb0.nd rfl (Qh)) (zal (zaj (i:=6) zb0.nd rfl (Qh)) za6)))
 (zae (zc1 (zak GQ (Qc) rfl T.mQ T.FQ.kp T.bQ .nil zaB (zaa (zax zbX (pv 0) (pv 2) (Qo)) (zaa (zax zbX (pv 5) (pv 2) (Qo)) zad))) (zbs rfl (zal (zaj (i:=7) zb0.nd rfl (Qh)) (zal (zaj (i:=8) zb0.nd rfl (Qh)) za6))))
 (zah (zaX (i:=3) zb0.nd rfl (Qh) (zak Gan (Qc) rfl T.man T.Fan.kp T.ban .nil zaB (zaa (pv 3) (zaa (zbR (zaa (zaz zav (pv 6) (zaz zdy (pv 8) (pv 7))) (zaa (zaz zav (pv 8) (pv 4)) zad))) zad)))))))
 (zah (zat (pv 3)))))),
  zjF B M g ok hk q⟩
def zsM:Sp:=λvs H Q _=>∃(l ml:Addr) (ts:List Addr) (bs:List Box) (us:List Addr) (xs:List Mp) (bud:Int),vs=[.ref l,.int bud,.ref ml]∧Bx6 H l ts bs∧MxH H ml us xs∧zmS bs.length xs∧0≤bud∧bud≤60∧∀(r:Bool) (H':Hp),zaF H H'→(r=true↔okM xs=true∧psm bs (xs.map λx=>x.2)≤bud*wsm (Qu))→Q (.bl r) H'
def zgl(K:ψa):TS :=
 (zdI (tOr (zeM (tB (zaA zf4 [] E0 (zab (tOp (zbB K) (zac 3) (Qi)) zau)))) (zbZ (tOp (QS) (tOp (zbB K) (zac 3) (Qi)) (Qi)))) (Qt) zbU)
def zbb(K:ψa):=eqT (zgl.eq_1 K)
def zgs(K:ψa):TS :=
 (zdI (tOr (zeM (tB (tCB (zhy K) (zab (zac 3) (zab (tC (.ty "tuple")) zau))))) (tOr (zbZ (tOp rNe (tCB (Qb) (Q3)) (QU))) (zeM (tB (zaA znh [] E0 (zab (zac 0) (zab (tOp (zbB K) (zac 3) (Qn)) zau))))))) (Qt) zbU)
def zbd(K:ψa):=eqT (zgs.eq_1 K)
def zgq(K:ψa):TS :=
 (zbg (zbS (tCB (zlH K) (zab (zb1 (zcT K (zac 2)) (Qm) za8 (zac 1) [none,none]) zau)) (zam 4))
 (zbP (tOp (Q6) (tCB (zlH K) (zab (zb1 (zcT K (zac 2)) (Qm) za8 (tOp (Qd) (zac 1) (zaA zm6 [] E0 (zab (zac 2) (QA)))) [none,none,some 0]) zau)) (tOp (Qd) (zac 1) (zac 4)))))
def zba(K:ψa):=eqT (zgq.eq_1 K)
def zgz(K:ψa):TS :=
 (zdI (tOr (zeM (tB (tCB (zhy K) (zab (zac 2) (zab (tC (.ty "list")) zau))))) (zbZ (tOp rEq (tCB (Qb) (Qap)) (Qn)))) (Qt) zbU)
def zbc(K:ψa):=eqT (zgz.eq_1 K)
def zfM(K:ψa):TS :=
 (zbg (zeK (zgz K))
 (zbg (zjW (zcT K (zac 2)) (zam 3)
 (zbg (zeK (zgs K))
 (zgl K)))
 (zgq K)))
theorem zkE{l ml:Addr}{ts:List Addr}{bs:List Box}{us:List Addr}{xs:List Mp}{bud:Int}(B:Bx6 H l ts bs)(M:MxH H ml us xs)(g:zmS bs.length xs)(d0:0≤bud)(d1:bud≤60)(q:∀(r:Bool) (H':Hp),zaF H H'→(r=true↔okM xs=true∧psm bs (xs.map λx=>x.2)≤bud*wsm (Qu))→Q (.bl r) H') :
  zfM K { nx:=λ_ H'=>Q .non H',rt:=Q } (L2.start ["_law_boxes_here","_law_budget","_law_mix_here","_law_part","_law_whole_here"] [.ref l,.int bud,.ref ml]) H:=by
 unfold zfM
 obtain⟨x1,x9,gx⟩:=g
 simp_all only [zbb,zbd,zba,zbc,zac]
 refine⟨λσ H'=>H'=H∧σ=[some (.ref l),some (.int bud),some (.ref ml),none,none],?_,?_⟩
 ·simp_all only [zbb,zbd,zba,zbc,zac]
  refine zct M.hm (Qal)
  refine zb5 (Qk) (QaF)
  refine⟨_,.inl (SqL.of M.hm),?_⟩
  rw[ψb,M.tp.1]
  exact zb5 (λz=>absurd z (Qf)) (λ_=>rfl)
 ·rintro σ H' ⟨e,rfl⟩
  rw[e]
  simp_all only [zbb,zbd,zba,zbc,zac]
  refine⟨⟨_,SqL.of M.hm⟩,?_⟩
  refine zc2 (K:=K) (xs:=us.map V.ref) (λi σ H'=>zaF H H'∧(∀x∈xs.take i,okP x.2.1=true)∧∃y,σ=[some (.ref l),some (.int bud),some (.ref ml),y,none]) ⟨.refl _,by simp,_,rfl⟩ ?_ ?_ ?_
  ·rintro i σ H' _ ⟨s,_⟩
   exact SqL.of (s _ _ M.hm)
  ·rintro i v σ H1 hx ⟨s1,hok,y,rfl⟩
   obtain⟨u,eu,rfl⟩:=zas hx
   obtain⟨x,ex,hu⟩:=M.tp.at eu
   have hu1:=s1 _ _ hu
   obtain⟨a1,a2,a3,a4⟩:=gx x (zao ex)
   simp_all only [zbb,zbd,zba,zbc,zac]
   refine⟨λσ H'=>zaF H1 H'∧okP x.2.1=true∧σ=[some (.ref l),some (.int bud),some (.ref ml),some (.ref u),none],?_,?_⟩
   ·simp_all only [zbb,zbd,zba,zbc,zac]
    refine zcq hu1 (Qal)
    refine zb5 (Qk) (QaF)
    refine⟨_,.inr (SqT.of hu1),?_⟩
    refine zb5 (QK) (QaF)
    refine⟨_,SqT.of hu1,_,rfl,l,x.1,ts,bs,x.2.1,rfl,B.same s1,s1 _ _ (M.pl x (zao ex)),a1,λm hm=>(a2 m hm).1,λH2 s2=>⟨okP x.2.1,rfl,?_⟩⟩
    by_cases c:okP x.2.1=true
    ·rw[if_neg (by simp[c])]
     exact⟨s2,c⟩
    ·rw[if_pos (by simpa using c)]
     exact q false H2 (s1.trans s2) ⟨λz=>(by cases z),λz=>absurd (List.all_eq_true.mp z.1 x (zao ex)) c⟩
   ·rintro σ H2 ⟨s2,hx2,rfl⟩
    have hu2:=s2 _ _ hu1
    simp_all only [zbb,zbd,zba,zbc,zac]
    refine⟨_,SqT.of hu2,_,rfl,x.2.2,rfl,true,rfl,?_⟩
    refine zb5 (Qk) (QaF)
    refine⟨_,SqT.of hu2,_,rfl,x.2.2,rfl,?_⟩
    refine zb5 (λz=>absurd z (Qf)) (λ_=>⟨s1.trans s2,λy hy=>?_⟩)
    rw[ψu,ex] at hy
    rcases List.mem_append.mp hy with z | z
    ·exact hok y z
    ·have:y=x:=by simpa using z
     rw[this]
     exact hx2
  ·rintro σ H1 ⟨s1,hok,y,rfl⟩
   rw[ψb,M.tp.1,ψC] at hok
   have ok:okM xs=true:=List.all_eq_true.mpr hok
   have M1:=M.same s1
   simp_all only [zbb,zbd,zba,zbc,zac]
   refine⟨⟨_,SqL.of M1.hm⟩,λD hD=>?_⟩
   refine zdr (g1:=mt1) (g2:=mt2) (vs:=(xs.map λx=>x.2.2).map V.int) M1.hm M1.tp (by simp) (by simp;omega) hD (λi x v H' R hx hv s kk=>?_) λH2 s2 h2=>?_
   ·obtain⟨w,hw,rfl⟩:=zas hv
    obtain⟨y,hy,rfl⟩:=zas hw
    rw[hx] at hy
    cases hy
    simp_all only [zbb,zbd,zba,zbc,zac]
    exact kk _ (.refl _)
   simp_all only [zbb,zbd,zba,zbc,zac]
   refine⟨_,SqL.of h2,?_⟩
   have M2:=M1.same s2
   have B2:=B.same (s1.trans s2)
   refine⟨⟨_,SqL.of M2.hm⟩,λD2 hD2=>?_⟩
   refine zdr (g1:=mt1) (g2:=mt2) (vs:=(xs.map λx=>x.2.2*(zaH bs x.2.1).sum).map V.int) M2.hm M2.tp (by simp) (by simp;omega) hD2 (λi x v H' R hx hv s kk=>?_) λH3 s3 h3=>?_
   ·obtain⟨w,hw,rfl⟩:=zas hv
    obtain⟨y,hy,rfl⟩:=zas hw
    rw[hx] at hy
    cases hy
    obtain⟨a1,a2,a3,a4⟩:=gx x (zao hx)
    have l6:=B.l6
    obtain⟨z1,z2⟩:=zkd bs x.2.1 B.gb a2
    simp_all only [zbb,zbd,zba,zbc,zac]
    refine⟨l,x.1,ts,bs,x.2.1,rfl,B2.same s,s _ _ (M2.pl x (zao hx)),a1,a2,λH4 s4=>?_⟩
    simp_all only [zbb,zbd,zba,zbc,zac]
    exact⟨zoz (Qf) (Qf),kk _ s4⟩
   simp_all only [zbb,zbd,zba,zbc,zac]
   refine⟨_,SqL.of h3,mulL (Qf) (Qf),?_⟩
   rw[← zvu,← zl9]
   refine q _ H3 (s1.trans (s2.trans s3)) ?_
   rw[decide_eq_true_iff]
   exact⟨λz=>⟨ok,z⟩,λz=>z.2⟩
theorem ze8:zay ["_law_boxes_here","_law_budget","_law_mix_here","_law_part","_law_whole_here"] ["_law_boxes_here","_law_budget","_law_mix_here"] (zag zdA):=(Qa)
theorem zkh(T:Txt K mg a):zci P w K mg base CX0 3 a.fa0 a.da0 ["_law_boxes_here","_law_budget","_law_mix_here"] zsM:=by
 have Gaq:=zh0 (P:=P) (w:=w) (base:=base) T
 have Gar:=zhr (P:=P) (w:=w) (base:=base) T
 have GL:=zd4 (P:=P) (w:=w) (base:=base) T
 refine T.Fa0.ok ze8 (Qj) (Qe)
 all_goals obtain⟨l,ml,ts,bs,us,xs,bud,rfl,B,M,g,d0,d1,q⟩:=h
 ·rfl
 exact⟨zfM K,(zae (zbA (zbY (PW.pt (zcP (zbG (zbr (zap za9 rfl T.z_isinstance ψi (zaa (pv 2) (zaa (zbW rfl T.z_list zbN rfl) zad))))) (zcB (za7 zjs (zap zar rfl T.z_len ψo (Qax)) zaf (zaV _))))) (QL) zaY))
 (zae (zdq PassesOwn.never rfl (zbz (pv 2)) (zaj (i:=3) ze8.nd rfl (Qh))
 (zae (zbA (zbY (PW.pt (zcP (zbG (zbr (zap za9 rfl T.z_isinstance ψi (zaa (pv 3) (QaB))))) (zcP (za7 zih (zap zar rfl T.z_len ψo (zaa (pv 3) zad)) zaf (zaV _)) (zcB (zbG (zbr (zak Gaq (Qc) rfl T.maq T.Faq.kp T.baq .nil zaB (zaa (pv 0) (zaa (Qao) zad))))))))) (QL) zaY))
 (zah (zbY (PW.pt (zcP (zbG (zbr (zak GL (Qc) rfl T.mL T.FL.kp T.bL .nil zaB (zaa (Qao) zad)))) (zcB (za7 zi4 (Qao) zaf (zaV _))))) (QL) zaY))))
 (zae (zaX (i:=4) ze8.nd rfl (Qh) (zap (zcp rfl) rfl T.z_sum ψG (zaa (zbC (sc:=zag zdA) (N:=["_law_boxes_here","_law_budget","_law_mix_here","_law_part","_law_whole_here"]) (Nc:=["_law_plan_here","_law_weight"]) (cap:=[none,none]) rfl rfl rfl (Ql) (zbz (pv 2)) (λ_ _ _ _=>(zbs rfl (zal (zaj (i:=0) (Qai) rfl (Qh)) (zal (zaj (i:=1) (Qai) rfl (Qh)) za6)))) (QD) (λ_ _ _ _=>(pv 1))) zad)))
 (zah (zat (zbT zk1 (zap (zcp rfl) rfl T.z_sum ψG (zaa (zbC (sc:=zag zdA) (N:=["_law_boxes_here","_law_budget","_law_mix_here","_law_part","_law_whole_here"]) (Nc:=["_law_plan_here","_law_weight","_law_boxes_here"]) (cap:=[none,none,some 0]) rfl rfl rfl (Ql) (zbz (pv 2)) (λ_ _ _ _=>(zbs rfl (zal (zaj (i:=0) (QX) rfl (Qh)) (zal (zaj (i:=1) (QX) rfl (Qh)) za6)))) (QD) (λ_ _ _ _=>(zaz zav (pv 1) (zak Gar (Qc) rfl T.mar T.Far.kp T.bar .nil zaB (zaa (pv 2) (Qag)))))) zad)) (zaz zav (pv 1) (pv 4)) (zaV _))))))),
  zkE B M g d0 d1 q⟩
def zoo:Sp:=λvs H Q _=>∃(l v ml:Addr) (bud:Int) (ts:List Addr) (bs:List Box) (us:List Addr) (xs:List Mp) (W:Rat),vs=[.ref l,.int bud,.ref v,.ref ml]∧Bx6 H l ts bs∧H v=some (QaG)∧Bq 2000 W∧MxH H ml us xs∧zmS bs.length xs∧0≤bud∧bud≤60∧∀(r:Bool) (H':Hp),zaF H H'→(r=true↔okM xs=true∧zvG bs bud W (Qu))→Q (.bl r) H'
def zgp(K:ψa):TS :=
 (zbP (tOp rEq (tCB (Qb) (zab (zb1 (zij (zab (Qaq) zau)) (zam 0) (tB (zaA zm7 [] E0 (zab (zaA zmE [] E0 (zab (zac 2) (zab (zac 3) (QA)))) (Qz)))) (zac 0) [none,some 2,some 0,some 3]) zau)) (Qn)))
def zcg(K:ψa):=eqT (zgp.eq_1 K)
def zf0(K:ψa):TS :=
 (zbg (zeK (zdI (zeM (tB (zaA zsM [] E0 (zab (zac 0) (zab (zac 1) (Q3)))))) (Qt) zbU))
 (zgp K))
theorem zkI{l v ml:Addr}{bud:Int}{ts:List Addr}{bs:List Box}{us:List Addr}{xs:List Mp}{W:Rat}(B:Bx6 H l ts bs)(hv:H v=some (QaG))(bW:Bq 2000 W)(M:MxH H ml us xs)(g:zmS bs.length xs)(d0:0≤bud)(d1:bud≤60)(q:∀(r:Bool) (H':Hp),zaF H H'→(r=true↔okM xs=true∧zvG bs bud W (Qu))→Q (.bl r) H') :
  zf0 K { nx:=λ_ H'=>Q .non H',rt:=Q } (L2.start (Q5) [.ref l,.int bud,.ref v,.ref ml]) H:=by
 unfold zf0
 have l6:=B.l6
 obtain⟨W0,_⟩:=zrM g
 simp_all only [zcg,zac]
 refine⟨λσ H'=>zaF H H'∧(okM xs=true∧psm bs (xs.map λx=>x.2)≤bud*wsm (Qu))∧σ=[some (.ref l),some (.int bud),some (.ref v),some (.ref ml)],?_,?_⟩
 ·simp_all only [zcg,zac]
  refine⟨l,ml,ts,bs,us,xs,bud,rfl,B,M,g,d0,d1,λr H1 s1 hr=>⟨r,rfl,?_⟩⟩
  cases r with
  | true=>exact zb5 (Qk) (λ_=>⟨s1,hr.mp rfl⟩)
  | false=>exact zb5 (λ_=>q false H1 s1 ⟨λz=>(by cases z),λz=>absurd (hr.mpr ⟨z.1,z.2.co⟩) (Qs)⟩) (QK)
 ·rintro σ H1 ⟨s1,⟨ok,co⟩,rfl⟩
  have B1:=B.same s1
  simp_all only [zcg,zac]
  refine⟨_,.inl (SqL.of B1.hl),?_⟩
  rw[ψb,B.hb.1]
  refine⟨by omega,by omega,λD hD=>?_⟩
  have en:(bs.length:Int).toNat=bs.length:=Int.toNat_natCast _
  rw[en]
  refine zek (λi ys σ H'=>zaF H1 H'∧ys.length≤i∧(ys=[]↔∀(k:Nat) b,k<i→bs[k]?=some b→W*(wsm (xs.map λx=>x.2):Rat)≤csm b k (Qu))∧∃z,σ=[z,some (.ref v),some (.ref l),some (.ref ml)]) ⟨zan hD _,by simp,⟨λ_ k b hk=>absurd hk (ψD1 k),λ_=>rfl⟩,_,rfl⟩ ?_ ?_
  ·rintro i ys σ H2 hi hD2 ⟨s2,ly,hy,z,rfl⟩
   have eb:bs[i]?=some (bs[i]'hi):=ψc hi
   have S2:=s1.trans s2
   simp_all only [zcg,zac]
   rw[Int.zero_add]
   refine⟨l,ml,ts,bs,us,xs,i,_,rfl,B.same S2,M.same S2,g,ok,eb,λc C H3 s3 h3 bC eC=>?_⟩
   have S3:=S2.trans s3
   refine⟨c,v,C.num,(C.den:Int),W.num,(W.den:Int),rfl,h3,S3 _ _ hv,bC.top.mono (Qs),bC.bot.mono (Qs),bW.top.mono (Qs),bW.bot.mono (Qs),?_⟩
   have WR:(0:Rat)<(wsm (xs.map λx=>x.2):Rat):=by exact_mod_cast W0
   have wn:(wsm (xs.map λx=>x.2):Rat)≠0:=by grind
   have cmp:C.num*(W.den:Int)<W.num*(C.den:Int)↔¬ W*(wsm (xs.map λx=>x.2):Rat)≤csm (bs[i]'hi) i (xs.map λx=>x.2):=by
    rw[zvs (zch C) (zch W),ψy,ψy]
    have e1:csm (bs[i]'hi) i (xs.map λx=>x.2)=C*(wsm (xs.map λx=>x.2):Rat):=by
     rw[eC]
     generalize (wsm (xs.map λx=>x.2):Rat)=x at wn ⊢
     grind
    rw[e1]
    constructor
    ·intro z z2
     exact absurd (ψt1 z2 WR) (Rat.not_le.mpr z)
    ·intro z
     refine ψI λc=>z ?_
     exact ψJ (Rat.not_lt.mp c) (ψB WR)
   refine⟨_,rfl,?_⟩
   have hD3:=s3 _ _ hD2
   by_cases cc:C.num*(W.den:Int)<W.num*(C.den:Int)
   ·rw[if_pos (decide_eq_true cc)]
    refine⟨_,hD3,zbe (Qf),_,zai,(s2.trans s3).put hD,by rw[ψR];exact Nat.succ_le_succ ly,?_⟩
    constructor
    ·intro z
     simp at z
    ·intro z
     exact absurd (z i _ (ψP1 i) eb) (cmp.mp cc)
   ·rw[if_neg (by simpa using cc)]
    refine⟨_,hD3,s2.trans s3,by omega,?_⟩
    rw[hy]
    have hi2:W*(wsm (xs.map λx=>x.2):Rat)≤csm (bs[i]'hi) i (xs.map λx=>x.2):=ψI λz=>cc (cmp.mpr z)
    constructor
    ·intro z k b hk e
     by_cases ck:k=i
     ·subst ck
      rw[eb] at e
      cases e
      exact hi2
     ·exact z k b (Qf) e
    ·intro z k b hk e
     exact z k b (Qf) e
  ·rintro ys σ H2 hD2 ⟨s2,ly,hy,z,rfl⟩
   simp_all only [zcg,zac]
   refine⟨_,.inl (SqL.of hD2),?_⟩
   refine q _ H2 (s1.trans s2) ?_
   rw[decide_eq_true_iff]
   constructor
   ·intro z
    have e:ys=[]:=List.length_eq_zero_iff.mp (Qf)
    exact⟨ok,co,λk b hk=>hy.mp e k b (List.getElem?_eq_some_iff.mp hk).1 hk⟩
   ·intro z
    rw[hy.mpr λk b _ hk=>z.2.ch k b hk]
    rfl
theorem zkQ:zay (Q5) (Q5) (zag zev):=(Qa)
theorem zle(T:Txt K mg a):zci P w K mg base CX0 4 a.fa1 a.da1 (Q5) zoo:=by
 have GaZ:=zjA (P:=P) (w:=w) (base:=base) T
 have Ga0:=zkh (P:=P) (w:=w) (base:=base) T
 have Gao:=zh8 (P:=P) (w:=w) (base:=base) T
 refine T.Fa1.ok zkQ (Qj) (Qe)
 all_goals obtain⟨l,v,ml,bud,ts,bs,us,xs,W,rfl,B,hv,bW,M,g,d0,d1,q⟩:=h
 ·rfl
 exact⟨zf0 K,(zae (zbA (zbY (zbG (zbr (zak Ga0 (Qc) rfl T.ma0 T.Fa0.kp T.ba0 .nil zaB (zaa (pv 0) (zaa (pv 1) (zaa (pv 3) zad)))))) (QL) zaY))
 (zah (zat (zbT zjs (zap zar rfl T.z_len ψo (zaa (zbC (sc:=zag zev) (N:=["_law_boxes_here","_law_budget","_law_worth","_law_mix_here"]) (Nc:=["_law_k","_law_worth","_law_boxes_here","_law_mix_here"]) (cap:=[none,some 2,some 0,some 3]) rfl rfl rfl (Ql) (zc0 rfl T.z_range (zaa (Qq) zad)) (λ_ _ _ _=>(zaj (i:=0) (show ψh (["_law_k","_law_worth","_law_boxes_here","_law_mix_here"]:List Str) from by decide) rfl (Qh))) (λ_ _ _ _=>(zi2 (zbr (zak Gao (Qc) rfl T.mao T.Fao.kp T.bao .nil zaB (zaa (zak GaZ (Qc) rfl T.maZ T.FaZ.kp T.baZ .nil zaB (zaa (pv 2) (zaa (pv 3) (Qag)))) (QB)))))) (λ_ _ _ _=>(pv 0))) zad)) zaf (zaV _))))),
  zkI B hv bW M g d0 d1 q⟩
theorem zoD{b:Box}(g:GB b)(w n:Int)(P:Rat):(w*b.2.1*(P.den:Int)*(b.2.2 - b.2.1) ^ n.toNat≤P.num*b.1*b.2.2*b.2.2 ^ n.toNat↔(w:Rat)*gnq b n≤P*(b.1:Rat))∧(P.num*b.1*b.2.2*b.2.2 ^ n.toNat≤w*b.2.1*(P.den:Int)*(b.2.2 - b.2.1) ^ n.toNat↔P*(b.1:Rat)≤(w:Rat)*gnq b n):=by
 have e:w*b.2.1*(P.den:Int)*(b.2.2 - b.2.1) ^ n.toNat=w*b.2.1*(b.2.2 - b.2.1) ^ n.toNat*(P.den:Int):=Int.mul_right_comm ..
 rw[e]
 exact zkB g w n P
def zqY:Sp:=λvs H Q _=>∃(t p:Addr) (b:Box) (w n:Int) (P:Rat),vs=[.ref t,.int w,.ref p,.int n]∧zjl H t p b w n P∧∀(r:Bool) (H':Hp),zaF H H'→(r=true↔Mrk b w P n)→Q (.bl r) H'
def zgC(K:ψa):TS :=
 (zbg (zbS (zaA zl3 [] E0 (zab (zac 0) (zab (tCB (λxs H Q=>∃i j,xs=[.int i,.int j]∧Q (.int (if j > i then j else i)) H) (zab (Qn) (zab (tOp (QJ) (zac 3) (Qi)) zau))) zau))) (zdS K 2 (zaL (zam 6) (zaL (zam 7) zdO))))
 (zbP (tOrV (tOp rEq (zac 3) (Qn)) (tOp (Qah) (tOp (Qd) (zac 4) (zac 6)) (tOp (Qd) (zac 5) (zac 7))))))
def zcN(K:ψa):=eqT (zgC.eq_1 K)
def zgE:TS :=
 (zdI (zbZ (tOp (QI) (tOp (Qd) (zac 4) (zac 6)) (tOp (Qd) (zac 5) (zac 7)))) (Qt) zbU)
def zcQ:=eqT (zgE.eq_1)
def zfX(K:ψa):TS :=
 (zbg (zbS (tOp (Qd) (tOp (Qd) (zac 1) (Qx)) (tOp (zbB K) (zac 2) (Qi))) (zam 4))
 (zbg (zbS (tOp (Qd) (tOp (Qd) (tOp (zbB K) (zac 2) (Qn)) (QE)) (Qaw)) (zam 5))
 (zbg (zbS (zaA zl3 [] E0 (zab (zac 0) (Q3))) (zdS K 2 (zaL (zam 6) (zaL (zam 7) zdO))))
 (zbg (zeK (zgE))
 (zgC K)))))
theorem zkV{t p:Addr}{b:Box}{w n:Int}{P:Rat}(A:zjl H t p b w n P)(q:∀(r:Bool) (H':Hp),zaF H H'→(r=true↔Mrk b w P n)→Q (.bl r) H') :
  zfX K { nx:=λ_ H'=>Q .non H',rt:=Q } (L2.start ["_law_box","_law_weight","_law_price_here","_law_count","_law_gain","_law_due","_law_top","_law_bottom"] [.ref t,.int w,.ref p,.int n]) H:=by
 unfold zfX
 obtain⟨ht,g,hp,bw,bP,n0,n1⟩:=A
 have cm:=(zoD g w n P).1
 have cl:=(zoD g w (n - 1) P).2
 have g':=g
 obtain⟨g1,g2,g3,g4,g5⟩:=g
 have h6:Bd 6 b.2.1:=by show b.2.1.natAbs<2 ^ 6;omega
 have c6:Bd 6 b.1:=by show b.1.natAbs<2 ^ 6;omega
 have o6:Bd 6 b.2.2:=by show b.2.2.natAbs<2 ^ 6;omega
 have hT:=SqT.of (K:=K) ht
 have hP:=SqT.of (K:=K) hp
 have m1:=bw.mul h6
 have m2:=m1.mul bP.bot
 have m3:=bP.top.mul c6
 have m4:=m3.mul o6
 have bt:∀m:Int,m≤60→Bd 400 ((b.2.2 - b.2.1) ^ m.toNat):=λm hm=>zes (Qf) (Qf) (Qf)
 simp_all only [zcN,zcQ,zac]
 refine⟨_,hT,_,rfl,_,rfl,zde 2800 6 bw h6,_,hP,_,rfl,_,rfl,zde 2806 2800 m1 bP.bot,_,hP,_,rfl,_,hT,_,rfl,_,rfl,_,rfl,zde 2800 6 bP.top c6,_,hT,_,rfl,_,rfl,zde 2806 6 m3 o6,?_⟩
 refine⟨t,b,n,rfl,ht,g',n0,n1,λr H1 s1 h1=>?_⟩
 simp_all only [zcN,zcQ,zac]
 refine⟨_,SqT.of h1,rfl,_,_,rfl,_,_,rfl,rfl,?_⟩
 refine⟨λσ H'=>H'=H1∧(w:Rat)*gnq b n≤P*(b.1:Rat)∧∃y6 y7,σ=[some (.ref t),some (.int w),some (.ref p),some (.int n),some (.int (w*b.2.1*(P.den:Int))),some (.int (P.num*b.1*b.2.2)),y6,y7],?_,?_⟩
 ·simp_all only [zcN,zcQ,zac]
  refine⟨zde 5606 400 m2 (bt n n1),zde 2812 400 m4 (zgf g' n1),?_⟩
  by_cases c:w*b.2.1*(P.den:Int)*(b.2.2 - b.2.1) ^ n.toNat≤P.num*b.1*b.2.2*b.2.2 ^ n.toNat
  ·rw[if_neg (Qf)]
   exact cm.mp c
  ·rw[if_pos (Qf)]
   exact q false H1 s1 ⟨λz=>(by cases z),λz=>absurd (cm.mpr z.1) c⟩
 ·rintro σ H2 ⟨rfl,hn,y6,y7,rfl⟩
  simp_all only [zcN,zcQ,zac]
  by_cases cn:n=0
  ·have e0:(if n - 1 > 0 then n - 1 else 0)=0:=if_neg (Qf)
   rw[e0]
   refine⟨t,b,0,rfl,s1 _ _ ht,g',by decide,by decide,λr3 H3 s3 h3=>?_⟩
   refine⟨_,rfl,_,SqT.of h3,rfl,_,_,rfl,_,_,rfl,rfl,?_⟩
   rw[if_pos cn]
   exact q true H3 (s1.trans s3) ⟨λ_=>⟨hn,λz=>absurd z (Qf)⟩,λ_=>rfl⟩
  ·have e0:(if n - 1 > 0 then n - 1 else 0)=n - 1:=by
    split <;> omega
   rw[e0]
   refine⟨t,b,n - 1,rfl,s1 _ _ ht,g',by omega,by omega,λr3 H3 s3 h3=>?_⟩
   refine⟨_,rfl,_,SqT.of h3,rfl,_,_,rfl,_,_,rfl,rfl,?_⟩
   rw[if_neg cn]
   refine⟨_,rfl,zde 5606 400 m2 (bt (n - 1) (Qf)),_,rfl,zde 2812 400 m4 (zgf g' (show n - 1≤60 by omega)),?_⟩
   refine q _ H3 (s1.trans s3) ?_
   rw[decide_eq_true_iff,cl]
   exact⟨λz=>⟨hn,λ_=>z⟩,λz=>z.2 (Qf)⟩
theorem zcr:zay ["_law_box","_law_weight","_law_price_here","_law_count","_law_gain","_law_due","_law_top","_law_bottom"] ["_law_box","_law_weight","_law_price_here","_law_count"] (zag zfx):=(Qa)
theorem zkD(T:Txt K mg a):zci P w K mg base CX0 3 a.fa2 a.da2 ["_law_box","_law_weight","_law_price_here","_law_count"] zqY:=by
 have GQ:=zfT (P:=P) (w:=w) (base:=base) T
 refine T.Fa2.ok zcr (Qj) (Qe)
 all_goals obtain⟨t,p,b,w,n,P',rfl,A,q⟩:=h
 ·rfl
 exact⟨zfX K,(zae (zaX (i:=4) zcr.nd rfl (Qh) (zaz zav (zaz zav (pv 1) (Qg)) (QW)))
 (zae (zaX (i:=5) zcr.nd rfl (Qh) (zaz zav (zaz zav (QW) (Qg)) (Qg)))
 (zae (zc1 (zak GQ (Qc) rfl T.mQ T.FQ.kp T.bQ .nil zaB (zaa (pv 0) (zaa (pv 3) zad))) (zbs rfl (zal (zaj (i:=6) zcr.nd rfl (Qh)) (zal (zaj (i:=7) zcr.nd rfl (Qh)) za6))))
 (zae (zbA (zbY (za7 zhg (zaz zav (pv 4) (pv 6)) (zaz zav (pv 5) (pv 7)) (zaV _)) (QL) zaY))
 (zae (zc1 (zak GQ (Qc) rfl T.mQ T.FQ.kp T.bQ .nil zaB (zaa (pv 0) (zaa (zap (zrz rfl) rfl T.z_max PyProof.Rows.boot_max (zaa zaf (zaa (zaz zdy (pv 3) zaf) zad))) zad))) (zbs rfl (zal (zaj (i:=6) zcr.nd rfl (Qh)) (zal (zaj (i:=7) zcr.nd rfl (Qh)) za6))))
 (zah (zat (pe_or (zbT zjs (pv 3) zaf (zaV _)) (zeY (zbT zme (zaz zav (pv 4) (pv 6)) (zaz zav (pv 5) (pv 7)) (zaV _))))))))))),
  zkV A q⟩
def zj2(bs:List Box)(Ws ns:List Int):List Rat:=ψf (λ(w:Int) (c:Rat)=>(w:Rat)*c) Ws (zmq bs ns)
theorem zuM{b:Box}(g:GB b)(w n:Int):ψw (w*(b.2.2 ^ n.toNat - (b.2.2 - b.2.1) ^ n.toNat)) (b.2.2 ^ n.toNat)=(w:Rat)*chq b n:=by
 unfold chq
 rw[ψl,ψl,ψm]
 have o:=zdh g n
 have on:((b.2.2 ^ n.toNat:Int):Rat)≠0:=λz=>by
  have:(b.2.2 ^ n.toNat:Int)=0:=by exact_mod_cast z
  omega
 grind
theorem zwQ{m1 m2 k:Nat}{s t u v:Int}(t0:0<t)(v0:0<v)(bt:Bd m1 t)(bv:Bd m2 v)(h1:Bd k (s*v))(h2:Bd k (u*t)):Bd (k+1) (ψw s t+ψw u v).num∧Bd (m1+m2) ((ψw s t+ψw u v).den:Int):=by
 rw[Rat.divInt_add_divInt s u (Qf) (Qf)]
 have n0:t*v≠0:=ψS (Qf) (Qf)
 rw[(zhY n0).1,(zhY n0).2]
 exact⟨(h1.add h2).le (zsq n0),(bt.mul bv).le (zqh n0)⟩
def zqF:Sp:=λvs H Q _=>∃(l v pr:Addr) (bud:Int) (ts:List Addr) (bs:List Box) (W P:Rat) (Ws ns:List Int),vs=[.ref l,.int bud,.ref v,.ref pr]∧Bx6 H l ts bs∧H v=some (QaG)∧Bq 2000 W∧PpH H pr bs.length Ws P ns∧0≤bud∧bud≤60∧∀(r:Bool) (H':Hp),zaF H H'→(r=true↔okH Ws ns=true∧zvr bs bud W Ws P ns)→Q (.bl r) H'
def zgv(K:ψa):TS :=
 (zbg (zbS (zaA zl3 [] E0 (zab (tOp (zhx K) (zac 0) (zac 8)) (zab (tOp (zhx K) (zac 6) (zac 8)) zau))) (zdS K 2 (zaL (zam 9) (zaL (zam 10) zdO))))
 (zbS (zaA zn5 [] E0 (zab (zac 7) (zab (zfq (zab (tOp (Qd) (tOp (zhx K) (zac 4) (zac 8)) (tOp (QJ) (zac 10) (zac 9))) (zab (zac 10) zau))) zau))) (zam 7)))
def zaQ(K:ψa):=eqT (zgv.eq_1 K)
def zgG(K:ψa):TS :=
 (zbP (zrI (zaA zm7 [] E0 (zab (zfq (zab (tOp (Qd) (tOp (zbB K) (zac 2) (Qn)) (tCB (zlH K) (QaC))) (zab (tOp (zbB K) (zac 2) (Qi)) zau))) (zab (zac 7) zau)))))
def zaN(K:ψa):=eqT (zgG.eq_1 K)
def zgt(K:ψa):TS :=
 (zbg (zbS (zfq (zab (tOp (Qd) (tOp (zbB K) (zac 5) (Qn)) (tOp (QJ) (zac 1) (zaA zm6 [] E0 (zab (zac 0) (zab (zac 6) zau))))) (zab (tOp (zbB K) (zac 5) (Qi)) zau))) (zam 7))
 (zbg (zjW (zij (zab (Qaq) zau)) (zam 8)
 (zgv K))
 (zgG K)))
def zaR(K:ψa):=eqT (zgt.eq_1 K)
def zgF(K:ψa):TS :=
 (zdI (zbZ (tOp (rIn K false) (tC (.bl false)) (zb1 (zij (zab (Qaq) zau)) (zam 0) za8 (zaA zqY [] E0 (zab (tOp (zhx K) (zac 2) (zac 0)) (zab (tOp (zhx K) (zac 3) (zac 0)) (zab (zac 1) (zab (tOp (zhx K) (zac 4) (zac 0)) zau))))) [none,some 5,some 0,some 4,some 6]))) (Qt) zbU)
def zaP(K:ψa):=eqT (zgF.eq_1 K)
def zgm(K:ψa):TS :=
 (zdI (tOr (zbZ (tOp rEq (tCB (zlH K) (QaC)) (Qn))) (tOr (zeM (tB (zaA znU [] E0 (zab (zac 5) zau)))) (tOr (zbZ (tOp (QS) (tOp (zbB K) (zac 5) (Qn)) (Qn))) (zeM (tB (zaA znh [] E0 (zab (zac 0) (zab (zac 6) zau)))))))) (Qt) zbU)
def zaO(K:ψa):=eqT (zgm.eq_1 K)
def zgx(K:ψa):TS :=
 (zdI (tOr (zbZ (tOp rNe (tCB (Qb) (QaC)) (Qaq))) (zbZ (tOp (QI) (tCB (Qb) (zab (zb1 (zcT K (zac 4)) (zam 0) (tOr (zeM (tB (zaA zf4 [] E0 (QA)))) (zbZ (tOp (QS) (zac 0) (Qn)))) (zac 0) [none]) zau)) (Qn)))) (Qt) zbU)
def zaS(K:ψa):=eqT (zgx.eq_1 K)
def zgn(K:ψa):TS :=
 (zbg (zbS (zac 3) (zdS K 3 (zaL (zam 4) (zaL (zam 5) (zaL (zam 6) zdO)))))
 (zbg (zeK (zgx K))
 (zbg (zeK (zgm K))
 (zbg (zeK (zgF K))
 (zgt K)))))
def zaT(K:ψa):=eqT (zgn.eq_1 K)
def zgI(K:ψa):TS :=
 (zdI (tOr (zeM (tB (tCB (zhy K) (zab (zac 3) (zab (tC (.ty "tuple")) zau))))) (tOr (zbZ (tOp rNe (tCB (Qb) (Q3)) (tC (.int 3)))) (zeM (tB (tCB (zhy K) (zab (tOp (zbB K) (zac 3) (Qn)) (zab (tC (.ty "list")) zau))))))) (Qt) zbU)
def zaU(K:ψa):=eqT (zgI.eq_1 K)
def zfW(K:ψa):TS :=
 (zbg (zeK (zgI K))
 (zgn K))
theorem zkX{l v pr:Addr}{bud:Int}{ts:List Addr}{bs:List Box}{W P:Rat}{Ws ns:List Int}(B:Bx6 H l ts bs)(hv:H v=some (QaG))(bW:Bq 2000 W)(A:PpH H pr bs.length Ws P ns)(d0:0≤bud)(d1:bud≤60)(q:∀(r:Bool) (H':Hp),zaF H H'→(r=true↔okH Ws ns=true∧zvr bs bud W Ws P ns)→Q (.bl r) H') :
  zfW K { nx:=λ_ H'=>Q .non H',rt:=Q } (L2.start ["_law_boxes_here","_law_budget","_law_worth","_law_paper","_law_weights","_law_price_here","_law_counts","_law_total","_law_k","_law_top","_law_bottom"] [.ref l,.int bud,.ref v,.ref pr]) H:=by
 unfold zfW
 have l6:=B.l6
 obtain⟨wl,pp,cl,a1,a2,a3,a4⟩:=A.ex
 have lw:=A.lw
 have ln:=A.ln
 have bWs:=(zjL Ws A.wb).mono (show _≤2806 by omega)
 simp_all only [zaQ,zaN,zaR,zaP,zaO,zaS,zaT,zaU,zac]
 refine⟨λσ H'=>H'=H∧σ=[some (.ref l),some (.int bud),some (.ref v),some (.ref pr),none,none,none,none,none,none,none],?_,?_⟩
 ·simp_all only [zaQ,zaN,zaR,zaP,zaO,zaS,zaT,zaU,zac]
  refine zcq a1 (Qal)
  refine zb5 (Qk) (QaF)
  refine⟨_,.inr (SqT.of a1),?_⟩
  refine zb5 (QK) (QaF)
  refine⟨_,SqT.of a1,_,rfl,zct a2 (Qal)⟩
  exact zb5 (Qk) (λ_=>rfl)
 rintro σ H' ⟨e,rfl⟩
 rw[e]
 simp_all only [zaQ,zaN,zaR,zaP,zaO,zaS,zaT,zaU,zac]
 refine⟨_,SqT.of a1,rfl,_,_,rfl,_,_,rfl,_,_,rfl,rfl,?_⟩
 refine⟨λσ H'=>zaF H H'∧σ=[some (.ref l),some (.int bud),some (.ref v),some (.ref pr),some (.ref wl),some (.ref pp),some (.ref cl),none,none,none,none],?_,?_⟩
 ·simp_all only [zaQ,zaN,zaR,zaP,zaO,zaS,zaT,zaU,zac]
  refine⟨_,.inl (SqL.of a2),_,.inl (SqL.of B.hl),?_⟩
  rw[ψb,ψb,B.hb.1,lw]
  refine zb5 (QK) (QaF)
  refine⟨⟨_,SqL.of a2⟩,λD hD=>?_⟩
  refine zcz (K:=K) (xs:=Ws.map V.int) (λi ys σ H'=>zaF H H'∧ys=[]∧∃z,σ=[z]) ⟨zan hD _,rfl,_,rfl⟩ ?_ ?_ ?_
  ·rintro i ys σ H' _ ⟨s,_⟩
   exact SqL.of (s _ _ a2)
  ·rintro i x ys σ H' hx hD' ⟨s,rfl,z,rfl⟩
   obtain⟨m,hm,rfl⟩:=zas hx
   have m0:=A.w0 m (zao hm)
   simp_all only [zaQ,zaN,zaR,zaP,zaO,zaS,zaT,zaU,zac]
   refine⟨m,rfl,true,rfl,?_⟩
   refine zb5 (Qk) (QaF)
   exact zb5 (λz=>absurd z (Qf)) (λ_=>⟨_,hD',s,rfl⟩)
  ·rintro ys σ H' hD' ⟨s,rfl,z,rfl⟩
   refine⟨D,rfl,_,.inl (SqL.of hD'),?_⟩
   exact zb5 (Qk) (λ_=>s)
 rintro σ H1 ⟨s1,rfl⟩
 refine⟨λσ H'=>zaF H H'∧okH Ws ns=true∧σ=[some (.ref l),some (.int bud),some (.ref v),some (.ref pr),some (.ref wl),some (.ref pp),some (.ref cl),none,none,none,none],?_,?_⟩
 ·simp_all only [zaQ,zaN,zaR,zaP,zaO,zaS,zaT,zaU,zac]
  refine⟨Ws,SqL.of (s1 _ _ a2),?_⟩
  have sp:0≤Ws.sum:=by
   have:∀l:List Int,(∀w∈l,0≤w)→0≤l.sum:=by
    intro l
    induction l with
    | nil=>intro _;exact Int.le_refl 0
    | cons w l ih =>
     intro h
     have:=ih λx hx=>h x (ψd _ hx)
     have:=h w ψe
     rw[ψq]
     omega
   exact this Ws A.w0
  by_cases c0:Ws.sum=0
  ·rw[if_pos c0]
   refine q false H1 s1 ⟨λz=>(by cases z),λz=>?_⟩
   have:=z.1
   unfold okH at this
   rw[decide_eq_false (Qf),Bool.false_and] at this
   exact absurd this (Qs)
  rw[if_neg c0]
  refine⟨pp,P,rfl,s1 _ _ a3,λH2 s2=>(Qal)⟩
  refine zb5 (Qk) (QaF)
  have S2:=s1.trans s2
  have n0:0≤P.num:=Rat.num_nonneg.mpr A.p0
  refine⟨_,SqT.of (S2 _ _ a3),_,rfl,_,rfl,?_⟩
  refine zb5 (λz=>absurd z (Qf)) (QaF)
  refine⟨l,cl,ts,bs,ns,rfl,B.same S2,S2 _ _ a4,ln,λm hm=>(A.n0 m hm).1,λH3 s3=>⟨okP ns,rfl,?_⟩⟩
  have eo:okH Ws ns=okP ns:=by
   unfold okH
   rw[decide_eq_true (show 0<Ws.sum by omega),Bool.true_and]
  by_cases c:okP ns=true
  ·rw[if_neg (by simp[c])]
   exact⟨S2.trans s3,by rw[eo];exact c⟩
  ·rw[if_pos (by simpa using c)]
   exact q false H3 (S2.trans s3) ⟨λz=>(by cases z),λz=>absurd (eo ▸ z.1) c⟩
 rintro σ H2 ⟨s2,ok,rfl⟩
 have n60:∀n∈ns,n≤60:=zgQ.mp (by unfold okH at ok;rw[ψQ] at ok;exact ok.2)
 have gn:∀n∈ns,0≤n∧n≤60:=λn hn=>⟨(A.n0 n hn).1,n60 n hn⟩
 have tri:∀i:Nat,i<bs.length→∃w n,Ws[i]?=some w∧ns[i]?=some n:=λi hi=>⟨_,_,ψc (Qf),ψc (Qf)⟩
 refine⟨λσ H'=>zaF H H'∧(∀(i:Nat) b w n,bs[i]?=some b→Ws[i]?=some w→ns[i]?=some n→Mrk b w P n)∧σ=[some (.ref l),some (.int bud),some (.ref v),some (.ref pr),some (.ref wl),some (.ref pp),some (.ref cl),none,none,none,none],?_,?_⟩
 ·simp_all only [zaQ,zaN,zaR,zaP,zaO,zaS,zaT,zaU,zac]
  have B2:=B.same s2
  refine⟨_,.inl (SqL.of B2.hl),?_⟩
  rw[ψb,B.hb.1]
  refine⟨by omega,by omega,λD hD=>?_⟩
  have en:(bs.length:Int).toNat=bs.length:=Int.toNat_natCast _
  rw[en]
  refine zek (λi ys σ H'=>zaF H2 H'∧(∃rs:List Bool,ys=rs.map V.bl∧rs.length=i∧(rs.all id=true↔∀(j:Nat) b w n,j<i→bs[j]?=some b→Ws[j]?=some w→ns[j]?=some n→Mrk b w P n))∧∃z,σ=[z,some (.ref pp),some (.ref l),some (.ref wl),some (.ref cl)]) ⟨zan hD _,⟨[],rfl,rfl,⟨λ_ j b w n hj=>absurd hj (ψD1 j),λ_=>rfl⟩⟩,_,rfl⟩ ?_ ?_
  ·rintro i ys σ H3 hi hD3 ⟨s3,⟨rs,rfl,lr,hr⟩,z,rfl⟩
   have S3:=s2.trans s3
   obtain⟨t,b,et,eb,ea,hb,gb⟩:=(B.same S3).ix hi
   obtain⟨w,n,ew,en⟩:=tri i hi
   simp_all only [zaQ,zaN,zaR,zaP,zaO,zaS,zaT,zaU,zac]
   rw[Int.zero_add]
   refine⟨_,SqL.of (S3 _ _ B.hl),_,ea,_,SqL.of (S3 _ _ a2),_,zeG (by rw[ψt,ew];rfl),_,SqL.of (S3 _ _ a4),_,zeG (by rw[ψt,en];rfl),?_⟩
   refine⟨t,pp,b,w,n,P,rfl,⟨hb,gb,S3 _ _ a3,A.wb w (zao ew),A.pb,(gn n (zao en)).1,(gn n (zao en)).2⟩,λr H4 s4 h4=>?_⟩
   refine⟨_,s4 _ _ hD3,zbe (by rw[ψb];omega),_,zai,(s3.trans s4).put hD,rs++[r],by rw[ψK];rfl,by rw[ψR,lr];rfl,?_⟩
   rw[List.all_append,ψQ,hr]
   constructor
   ·rintro⟨z1,z2⟩ j b' w' n' hj e1 e2 e3
    by_cases ej:j=i
    ·subst ej
     rw[eb] at e1
     rw[ew] at e2
     rw[en] at e3
     cases e1
     cases e2
     cases e3
     refine h4.mp ?_
     simpa using z2
    ·exact z1 j b' w' n' (Qf) e1 e2 e3
   ·intro z
    refine⟨λj b' w' n' hj e1 e2 e3=>z j b' w' n' (Qf) e1 e2 e3,?_⟩
    have:=h4.mpr (z i b w n (Qf) eb ew en)
    simpa using this
  ·rintro ys σ H3 hD3 ⟨s3,⟨rs,rfl,lr,hr⟩,z,rfl⟩
   simp_all only [zaQ,zaN,zaR,zaP,zaO,zaS,zaT,zaU,zac]
   have ein:inV (V.bl false) (rs.map V.bl)=!rs.all id:=by
    have:∀rs:List Bool,inV (V.bl false) (rs.map V.bl)=!rs.all id:=by
     intro rs
     induction rs with
     | nil=>rfl
     | cons r rs ih =>
      show(eqV (V.bl r) (V.bl false) || inV (V.bl false) (rs.map V.bl))=!(id r&&rs.all id)
      rw[ih]
      cases r <;> simp[eqV]
    exact this rs
   have fl:(rs.map V.bl).all zkt=true:=by
    rw[ψu1]
    intro y hy
    obtain⟨r,_,rfl⟩:=List.mem_map.mp hy
    rfl
   refine⟨_,.inl (SqL.of hD3),rfl,fl,?_⟩
   rw[ein]
   by_cases c:rs.all id=true
   ·rw[if_neg (by simp[c])]
    exact⟨s2.trans s3,λi b w n e1 e2 e3=>hr.mp c i b w n (List.getElem?_eq_some_iff.mp e1).1 e1 e2 e3⟩
   ·rw[if_pos (by simpa using c)]
    exact q false H3 (s2.trans s3) ⟨λz=>(by cases z),λz=>absurd (hr.mpr λj b w n _ e1 e2 e3=>z.2.mr j b w n e1 e2 e3) c⟩
 rintro σ H3 ⟨s3,mk,rfl⟩
 simp_all only [zaQ,zaN,zaR,zaP,zaO,zaS,zaT,zaU,zac]
 obtain⟨c0,c1⟩:=zkd bs ns B.gb A.n0
 have hp3:=SqT.of (K:=K) (s3 _ _ a3)
 refine⟨_,hp3,_,rfl,l,cl,ts,bs,ns,rfl,B.same s3,s3 _ _ a4,ln,A.n0,λH4 s4=>?_⟩
 have S4:=s3.trans s4
 have hp4:=SqT.of (K:=K) (S4 _ _ a3)
 have bsp:Bd 16 (bud - (zaH bs ns).sum):=by show(bud - (zaH bs ns).sum).natAbs<2 ^ 16;omega
 have dP:=zch P
 simp_all only [zaQ,zaN,zaR,zaP,zaO,zaS,zaT,zaU,zac]
 refine⟨zde 2800 16 A.pb.top bsp,_,hp4,_,rfl,by decide,λp0 f0=>?_⟩
 have s5:=zan f0 (.tup [V.int (P.num*(bud - (zaH bs ns).sum)),V.int (P.den:Int)])
 have h5:(L2.upd H4 p0 (.tup [V.int (P.num*(bud - (zaH bs ns).sum)),V.int (P.den:Int)])) p0=some (.tup [V.int (P.num*(bud - (zaH bs ns).sum)),V.int (P.den:Int)]):=zai
 generalize L2.upd H4 p0 (.tup [V.int (P.num*(bud - (zaH bs ns).sum)),V.int (P.den:Int)])=H5 at s5 h5 ⊢
 have S5:=S4.trans s5
 refine⟨_,.inl (SqL.of (S5 _ _ B.hl)),?_⟩
 rw[ψb,B.hb.1]
 refine⟨by omega,by omega,?_⟩
 have eni:(bs.length:Int).toNat=bs.length:=Int.toNat_natCast _
 rw[eni]
 have lh:(zj2 bs Ws ns).length=bs.length:=by rw[zj2,ψk,zmq,ψk];omega
 have eP:ψw (P.num*(bud - (zaH bs ns).sum)) (P.den:Int)=P*((bud - (zaH bs ns).sum:Int):Rat):=by
  rw[ψl,ψm]
  have h:=ψy P
  rw[ψl] at h
  have z:((P.den:Int):Rat)≠0:=λz=>by
   have:(P.den:Int)=0:=by exact_mod_cast z
   omega
  generalize ((P.den:Int):Rat)=d at h z ⊢
  generalize (P.num:Rat)=n at h ⊢
  grind
 refine zeU (λi σ H'=>zaF H5 H'∧∃(r:Addr) (s t:Int) (y8 y9 y10:Option V),H' r=some (.tup [.int s,.int t])∧0<t∧ψw s t=P*((bud - (zaH bs ns).sum:Int):Rat)+((zj2 bs Ws ns).take i).sum∧Bd (2816+3700*i) s∧Bd (2800+400*i) t∧σ=[some (.ref l),some (.int bud),some (.ref v),some (.ref pr),some (.ref wl),some (.ref pp),some (.ref cl),some (QO),y8,y9,y10]) ⟨.refl _,p0,_,_,_,_,_,h5,dP,?_,A.pb.top.mul bsp,A.pb.bot,rfl⟩ ?_ ?_
 ·rw[eP]
  show _=_+0
  rw[Rat.add_zero]
 ·rintro i σ H6 hi ⟨s6,r,s,t,y8,y9,y10,hr,t0,ev,bs',bt',rfl⟩
  have S6:=S5.trans s6
  obtain⟨u,b,eu,eb,ea,hb,gb⟩:=(B.same S6).ix hi
  obtain⟨w,n,ew,en⟩:=tri i hi
  obtain⟨n0,n1⟩:=gn n (zao en)
  have bo:=zgf gb n1
  have o:=zdh gb n
  have bm:Bd 400 ((b.2.2 - b.2.1) ^ n.toNat):=by
   obtain⟨g1,g2,g3,g4,g5⟩:=gb
   exact zes (Qf) (Qf) (Qf)
  have bw:=A.wb w (zao ew)
  have bu:=bw.mul (bo.sub bm)
  simp_all only [zaQ,zaN,zaR,zaP,zaO,zaS,zaT,zaU,zac]
  rw[Int.zero_add]
  refine⟨_,SqL.of (S6 _ _ B.hl),_,ea,_,SqL.of (S6 _ _ a4),_,zeG (by rw[ψt,en];rfl),u,b,n,rfl,hb,gb,n0,n1,λc H7 s7 h7=>?_⟩
  simp_all only [zaQ,zaN,zaR,zaP,zaO,zaS,zaT,zaU,zac]
  refine⟨_,SqT.of h7,rfl,_,_,rfl,_,_,rfl,rfl,?_⟩
  refine⟨_,SqL.of (s7 _ _ (S6 _ _ a2)),_,zeG (by rw[ψt,ew];rfl),_,rfl,_,rfl,_,rfl,zde 2800 401 bw (bo.sub bm),by decide,λd nd=>?_⟩
  have s8:=zan nd (.tup [V.int (w*(b.2.2 ^ n.toNat - (b.2.2 - b.2.1) ^ n.toNat)),V.int (b.2.2 ^ n.toNat)])
  have h8:(L2.upd H7 d (.tup [V.int (w*(b.2.2 ^ n.toNat - (b.2.2 - b.2.1) ^ n.toNat)),V.int (b.2.2 ^ n.toNat)])) d=some (.tup [V.int (w*(b.2.2 ^ n.toNat - (b.2.2 - b.2.1) ^ n.toNat)),V.int (b.2.2 ^ n.toNat)]):=zai
  generalize L2.upd H7 d (.tup [V.int (w*(b.2.2 ^ n.toNat - (b.2.2 - b.2.1) ^ n.toNat)),V.int (b.2.2 ^ n.toNat)])=H8 at s8 h8 ⊢
  refine⟨r,d,2800+400*i,400,_,_,_,_,rfl,s8 _ _ (s7 _ _ hr),h8,t0,o,bs'.mono (Qf),bt',bu.mono (Qs),bo,by omega,λr' H9 s9 h9=>?_⟩
  obtain⟨q1,q2⟩:=zwQ (k:=6515+3700*i) t0 o bt' bo ((bs'.mul bo).mono (Qf)) ((bu.mul bt').mono (Qf))
  have et:(zj2 bs Ws ns)[i]?=some ((w:Rat)*chq b n):=by
   rw[zj2,ψZ,ew,zmq,ψZ,eb,en]
  refine⟨s6.trans (s7.trans (s8.trans s9)),r',_,_,h9,zch _,?_,q1.mono (Qf),q2.mono (Qf),rfl⟩
  rw[ψy,ev,zuM gb,ψu,et,List.sum_append]
  show _=_+(_+((w:Rat)*chq b n+0))
  rw[Rat.add_zero,Rat.add_assoc]
 ·rintro σ H6 ⟨s6,r,s,t,y8,y9,y10,hr,t0,ev,bs',bt',rfl⟩
  have S6:=S5.trans s6
  rw[← lh,ψC] at ev
  have hv6:=SqT.of (K:=K) (S6 _ _ hv)
  have dW:=zch W
  simp_all only [zaQ,zaN,zaR,zaP,zaO,zaS,zaT,zaU,zac]
  refine⟨_,hv6,_,rfl,Ws,SqL.of (S6 _ _ a2),_,rfl,zde 2000 2806 bW.top bWs,_,hv6,_,rfl,by decide,λd nd=>?_⟩
  have s7:=zan nd (.tup [V.int (W.num*Ws.sum),V.int (W.den:Int)])
  have h7:(L2.upd H6 d (.tup [V.int (W.num*Ws.sum),V.int (W.den:Int)])) d=some (.tup [V.int (W.num*Ws.sum),V.int (W.den:Int)]):=zai
  generalize L2.upd H6 d (.tup [V.int (W.num*Ws.sum),V.int (W.den:Int)])=H7 at s7 h7 ⊢
  refine⟨d,r,_,_,_,_,rfl,h7,s7 _ _ hr,(bW.top.mul bWs).mono (Qs),bW.bot.mono (Qs),bs'.mono (Qf),bt'.mono (Qf),_,rfl,?_⟩
  refine q _ H7 (S6.trans s7) ?_
  have eW:ψw (W.num*Ws.sum) (W.den:Int)=W*(Ws.sum:Rat):=by
   rw[ψl,ψm]
   have h:=ψy W
   rw[ψl] at h
   have z:((W.den:Int):Rat)≠0:=λz=>by
    have:(W.den:Int)=0:=by exact_mod_cast z
    omega
   generalize ((W.den:Int):Rat)=d at h z ⊢
   generalize (W.num:Rat)=n at h ⊢
   grind
  have ef:znd bs Ws ns=(zj2 bs Ws ns).sum:=rfl
  have cmp:=zvs (s:=W.num*Ws.sum) (u:=s) dW t0
  rw[eW,ev,← ef] at cmp
  rw[Bool.not_eq_true',decide_eq_false_iff_not,cmp]
  constructor
  ·intro z
   refine⟨ok,mk,?_⟩
   have:=Rat.not_lt.mp z
   grind
  ·intro z z2
   have:=z.2.sm
   have:=Rat.not_le.mpr z2
   grind
theorem zbV:zay ["_law_boxes_here","_law_budget","_law_worth","_law_paper","_law_weights","_law_price_here","_law_counts","_law_total","_law_k","_law_top","_law_bottom"] ["_law_boxes_here","_law_budget","_law_worth","_law_paper"] (zag zdG):=(Qa)
theorem zla(T:Txt K mg a):zci P w K mg base CX0 4 a.fa3 a.da3 ["_law_boxes_here","_law_budget","_law_worth","_law_paper"] zqF:=by
 have Gam:=zfk (P:=P) (w:=w) (base:=base) T
 have Gao:=zh8 (P:=P) (w:=w) (base:=base) T
 have Ga2:=zkD (P:=P) (w:=w) (base:=base) T
 have GQ:=zfT (P:=P) (w:=w) (base:=base) T
 have Gaq:=zh0 (P:=P) (w:=w) (base:=base) T
 have Gan:=zhV (P:=P) (w:=w) (base:=base) T
 have Gar:=zhr (P:=P) (w:=w) (base:=base) T
 have GL:=zd4 (P:=P) (w:=w) (base:=base) T
 refine T.Fa3.ok zbV (Qj) (Qe)
 all_goals obtain⟨l,v,pr,bud,ts,bs,W,P',Ws,ns,rfl,B,hv,bW,A,d0,d1,q⟩:=h
 ·rfl
 exact⟨zfW K,(zae (zbA (zbY (PW.pt (zcP (zbG (zbr (zap za9 rfl T.z_isinstance ψi (zaa (pv 3) (QaB))))) (zcP (za7 zih (zap zar rfl T.z_len ψo (zaa (pv 3) zad)) zaf (zaV _)) (zcB (zbG (zbr (zap za9 rfl T.z_isinstance ψi (zaa (Qao) (zaa (zbW rfl T.z_list zbN rfl) zad))))))))) (QL) zaY))
 (zae (zc1 (pv 3) (zbs rfl (zal (zaj (i:=4) zbV.nd rfl (Or.inr rfl)) (zal (zaj (i:=5) zbV.nd rfl (Or.inr rfl)) (zal (zaj (i:=6) zbV.nd rfl (Or.inr rfl)) za6)))))
 (zae (zbA (zbY (PW.pt (zcP (za7 zih (zap zar rfl T.z_len ψo (zaa (pv 4) zad)) (Qq) (zaV _)) (zcB (za7 zhg (zap zar rfl T.z_len ψo (zaa (zbC (sc:=zag zdG) (N:=["_law_boxes_here","_law_budget","_law_worth","_law_paper","_law_weights","_law_price_here","_law_counts","_law_total","_law_k","_law_top","_law_bottom"]) (Nc:=["_law_one"]) (cap:=[none]) rfl rfl rfl (Ql) (zbz (pv 4)) (λ_ _ _ _=>(zaj (i:=0) (show ψh (["_law_one"]:List Str) from by decide) rfl (Qh))) (λ_ _ _ _=>(zi2 (PW.pt (zcP (zbG (zbr (zak GL (Qc) rfl T.mL T.FL.kp T.bL .nil zaB (Qag)))) (zcB (za7 zi4 (pv 0) zaf (zaV _))))))) (λ_ _ _ _=>(pv 0))) zad)) zaf (zaV _))))) (QL) zaY))
 (zae (zbA (zbY (PW.pt (zcP (za7 zjs (zap (zcp rfl) rfl T.z_sum ψG (zaa (pv 4) zad)) zaf (zaV _)) (zcP (zbG (zbr (zak Gam (Qc) rfl T.mam T.Fam.kp T.bam .nil zaB (zaa (pv 5) zad)))) (zcP (za7 zi4 (zax zaq (pv 5) zaf (Qo)) zaf (zaV _)) (zcB (zbG (zbr (zak Gaq (Qc) rfl T.maq T.Faq.kp T.baq .nil zaB (zaa (pv 0) (zaa (pv 6) zad)))))))))) (QL) zaY))
 (zae (zbA (zbY (za7 zlC zcE (zbC (sc:=zag zdG) (N:=["_law_boxes_here","_law_budget","_law_worth","_law_paper","_law_weights","_law_price_here","_law_counts","_law_total","_law_k","_law_top","_law_bottom"]) (Nc:=["_law_k","_law_price_here","_law_boxes_here","_law_weights","_law_counts"]) (cap:=[none,some 5,some 0,some 4,some 6]) rfl rfl rfl (Ql) (zc0 rfl T.z_range (zaa (Qq) zad)) (λ_ _ _ _=>(zaj (i:=0) (show ψh (["_law_k","_law_price_here","_law_boxes_here","_law_weights","_law_counts"]:List Str) from by decide) rfl (Qh))) (QD) (λ_ _ _ _=>(zak Ga2 (Qc) rfl T.ma2 T.Fa2.kp T.ba2 .nil zaB (zaa (zax zbX (pv 2) (pv 0) (Qo)) (zaa (zax zbX (pv 3) (pv 0) (Qo)) (zaa (pv 1) (zaa (zax zbX (pv 4) (pv 0) (Qo)) zad))))))) (by with_unfolding_all rfl)) (QL) zaY))
 (zae (zaX (i:=7) zbV.nd rfl (Qh) (zbR (zaa (zaz zav (zax zaq (pv 5) zaf (Qo)) (zaz zdy (pv 1) (zak Gar (Qc) rfl T.mar T.Far.kp T.bar .nil zaB (zaa (pv 0) (zaa (pv 6) zad))))) (zaa (zax zaq (pv 5) zaf (Qo)) zad))))
 (zae (zdq PassesOwn.never rfl (zc0 rfl T.z_range (zaa (Qq) zad)) (zaj (i:=8) zbV.nd rfl (Qh))
 (zae (zc1 (zak GQ (Qc) rfl T.mQ T.FQ.kp T.bQ .nil zaB (zaa (zax zbX (pv 0) (pv 8) (Qo)) (zaa (zax zbX (pv 6) (pv 8) (Qo)) zad))) (zbs rfl (zal (zaj (i:=9) zbV.nd rfl (Qh)) (zal (zaj (i:=10) zbV.nd rfl (Qh)) za6))))
 (zah (zaX (i:=7) zbV.nd rfl (Qh) (zak Gan (Qc) rfl T.man T.Fan.kp T.ban .nil zaB (zaa (pv 7) (zaa (zbR (zaa (zaz zav (zax zbX (pv 4) (pv 8) (Qo)) (zaz zdy (pv 10) (pv 9))) (zaa (pv 10) zad))) zad)))))))
 (zah (zat (zsG (zak Gao (Qc) rfl T.mao T.Fao.kp T.bao .nil zaB (zaa (zbR (zaa (zaz zav (QW) (zap (zcp rfl) rfl T.z_sum ψG (zaa (pv 4) zad))) (zaa (QW) zad))) (zaa (pv 7) zad))))))))))))),
  zkX B hv bW A d0 d1 q⟩
theorem at2{r x y:Int}(h0:0≤r)(h1:r<2):∃v:Int,atI [V.int x,V.int y] r=some (.int v)∧(v=x∨v=y):=by
 have:r=0∨r=1:=by omega
 rcases this with rfl | rfl
 ·exact⟨x,rfl,.inl rfl⟩
 ·exact⟨y,rfl,.inr rfl⟩
theorem at3{r x y z:Int}(h0:0≤r)(h1:r<3):∃v:Int,atI [V.int x,V.int y,V.int z] r=some (.int v)∧(v=x∨v=y∨v=z):=by
 have:r=0∨r=1∨r=2:=by omega
 rcases this with rfl | rfl | rfl
 ·exact⟨x,rfl,.inl rfl⟩
 ·exact⟨y,rfl,.inr (.inl rfl)⟩
 ·exact⟨z,rfl,.inr (.inr rfl)⟩
def zlY:Sp:=λvs H Q _=>∃(p:Addr) (c:Int),vs=[.ref p,.int 3]∧Drw H p c∧c<1000∧∀(l:Addr) (ts:List Addr) (bs:List Box) (c':Int) (H':Hp),zaF (Off p p H) (Off p p H')→Drw H' p c'→c'≤c+31→Off p p H' l=some (QG)→Tps bx (Off p p H') ts bs→(QaD)→1≤bs.length→bs.length≤3→Q (.ref l) H'
def zgH(K:ψa):TS :=
 (zbg (zbS (tOp (QM) (Qi) (zaA zd0 [] E0 (zab (zac 0) (zab (tOp (zhx K) (zlA (zab (Qi) (zab (tC (.int 4)) (zab (tC (.int 60)) zau)))) (zaA zd0 [] E0 (zab (zac 0) (zab (tC (.int 3)) zau)))) zau)))) (zam 4))
 (zbg (zbS (tOp (QM) (Qi) (zaA zd0 [] E0 (zab (zac 0) (zab (tOp (zhx K) (zlA (zab (tC (.int 3)) (zab (tC (.int 50)) zau))) (zaA zd0 [] E0 (zab (zac 0) (zab (QU) zau)))) zau)))) (zam 5))
 (zgh (tBM K "list" zb8 (zac 2) (zab (zfq (zab (zac 4) (zab (tOp (QM) (Qi) (zaA zd0 [] E0 (zab (zac 0) (zab (zac 5) zau)))) (zab (zac 5) zau)))) zau)))))
def zbu(K:ψa):=eqT (zgH.eq_1 K)
def zfJ(K:ψa):TS :=
 (zbg (zbS (zlA zau) (zam 2))
 (zbg (zjW (zij (zab (tOp (QM) (Qi) (zaA zd0 [] E0 (QZ))) zau)) (zam 3)
 (zgH K))
 (zbP (zac 2))))
theorem zkv{p:Addr}{c:Int}(hP:Drw H p c)(c1:c<1000)(q:∀(l:Addr) (ts:List Addr) (bs:List Box) (c':Int) (H':Hp),zaF (Off p p H) (Off p p H')→Drw H' p c'→c'≤c+31→Off p p H' l=some (QG)→Tps bx (Off p p H') ts bs→(QaD)→1≤bs.length→bs.length≤3→Q (.ref l) H') :
  zfJ K { nx:=λ_ H'=>Q .non H',rt:=Q } (L2.start ["_law_left_here","_law_most","_law_found","_law_k","_law_cost","_law_of"] [.ref p,.int 3]) H:=by
 unfold zfJ
 have c0:=hP.c0
 simp_all only [zbu,zac]
 refine⟨by decide,λl hl=>?_⟩
 obtain⟨H1,e1,P1,s1,h1,_⟩:=hP.mk2 hl (.lst [])
 have nl:=hP.new hl
 have fl:Off p p H l=none:=zrg hl
 rw[← e1]
 refine⟨p,c,3,rfl,P1,by omega,by decide,by decide,λr H2 r0 r1 o2 P2=>?_⟩
 simp_all only [zbu,zac]
 refine⟨by omega,by omega,?_⟩
 refine zeU (λi σ H'=>∃(ts:List Addr) (bs:List Box) (u:Int),zaF (Off p p H) (Off p p H')∧Drw H' p u∧u≤c+1+5*i∧Off p p H' l=some (QG)∧Tps bx (Off p p H') ts bs∧(QaD)∧bs.length=i∧∃x y z,σ=[some (.ref p),some (.int 3),some (.ref l),x,y,z]) ?_ ?_ ?_
 ·exact⟨[],[],c+1,by rw[o2];exact s1,P2,by omega,by rw[o2];exact h1,.nil,by simp,rfl,_,_,_,rfl⟩
 ·rintro i σ H3 hi ⟨ts,bs,u,s3,P3,hu,hl3,T3,gb,lb,x,y,z,rfl⟩
  have u0:=P3.c0
  simp_all only [zbu,zac]
  refine⟨by decide,λd1 hd1=>?_⟩
  obtain⟨H4,e4,P4,s4,h4,_⟩:=P3.mk2 hd1 (.lst [.int 1,.int 4,.int 60])
  rw[← e4]
  refine⟨p,u,3,rfl,P4,by omega,by decide,by decide,λr1 H5 r10 r11 o5 P5=>?_⟩
  obtain⟨m1,em1,hm1⟩:=at3 (x:=1) (y:=4) (z:=60) r10 r11
  rw[← o5] at h4 s4
  simp_all only [zbu,zac]
  refine⟨_,SqL.of (zj1 _ _ _ _ _ h4),_,em1,?_⟩
  refine⟨p,u+1,m1,rfl,P5,by omega,by omega,by omega,λcost H6 k0 k1 o6 P6=>?_⟩
  rw[← o6] at s4
  simp_all only [zbu,zac]
  refine⟨by decide,λd2 hd2=>?_⟩
  obtain⟨H7,e7,P7,s7,h7,_⟩:=P6.mk2 hd2 (.lst [.int 3,.int 50])
  rw[← e7]
  refine⟨p,u+1+1,2,rfl,P7,by omega,by decide,by decide,λr2 H8 r20 r21 o8 P8=>?_⟩
  obtain⟨m2,em2,hm2⟩:=at2 (x:=3) (y:=50) r20 r21
  rw[← o8] at h7 s7
  simp_all only [zbu,zac]
  refine⟨_,SqL.of (zj1 _ _ _ _ _ h7),_,em2,?_⟩
  refine⟨p,_,m2,rfl,P8,by omega,by omega,by omega,λof H9 of0 of1 o9 P9=>?_⟩
  rw[← o9] at s7
  simp_all only [zbu,zac]
  have S9:=s4.trans s7
  have hl9:=S9 _ _ hl3
  refine⟨.inl ⟨rfl,_,SqL.of (zj1 _ _ _ _ _ hl9)⟩,?_⟩
  refine⟨p,_,1+of,rfl,P9,by omega,by omega,by omega,λh H10 h0 h1 o10 P10=>?_⟩
  rw[← o10] at S9 hl9
  simp_all only [zbu,zac]
  refine⟨by decide,λb hb=>?_⟩
  obtain⟨H11,e11,P11,s11,h11,_⟩:=P10.mk2 hb (.tup [.int (1+cost),.int (1+h),.int (1+of)])
  rw[← e11]
  have S11:=S9.trans s11
  have hl11:=s11 _ _ hl9
  refine⟨_,zj1 _ _ _ _ _ hl11,zbe (by rw[ψb,T3.1];omega),?_⟩
  obtain⟨H12,e12,P12,s12,h12,k12⟩:=P11.put nl (s3.trans S11) fl (.lst (ts.map V.ref++[V.ref b]))
  rw[← e12]
  have bl:b≠l:=λz=>by
   subst z
   rw[hl11] at h11
   cases h11
  refine⟨s12,ts++[b],bs++[(1+cost,1+h,1+of)],_,P12,by omega,by rw[h12,ψK];rfl,?_,?_,by rw[ψR,lb];rfl⟩
  ·refine T3.put (λx w e=>?_) (by rw[k12 _ bl];exact h11)
   have nx:x≠l:=λz=>by
    subst z
    rw[e] at hl3
    cases hl3
   rw[k12 _ nx]
   exact S11 _ _ e
  ·intro y hy
   rcases List.mem_append.mp hy with z | z
   ·exact gb y z
   ·rw[List.mem_singleton.mp z]
    refine⟨?_,?_,?_,?_,?_⟩ <;> show _≤_ <;> omega
 ·rintro σ H3 ⟨ts,bs,u,s3,P3,hu,hl3,T3,gb,lb,x,y,z,rfl⟩
  simp_all only [zbu,zac]
  exact q l ts bs u H3 s3 P3 (Qf) hl3 T3 gb (Qf) (Qf)
theorem zdo:zay ["_law_left_here","_law_most","_law_found","_law_k","_law_cost","_law_of"] ["_law_left_here","_law_most"] (zag zfK):=(Qa)
theorem zku(T:Txt K mg a):zci P w K mg base CX0 3 a.faX a.daX ["_law_left_here","_law_most"] zlY:=by
 have Gz:=zhZ (P:=P) (w:=w) (base:=base) T
 refine T.FaX.ok zdo (Qj) (Qe)
 all_goals obtain⟨p,c,rfl,hP,c1,q⟩:=h
 ·rfl
 exact⟨zfJ K,(zae (zaX (i:=2) zdo.nd rfl (Qh) (zea zad))
 (zae (zdq PassesOwn.never rfl (zc0 rfl T.z_range (zaa (zaz zdC zaf (zak Gz (Qc) rfl T.mz T.Fz.kp T.bz .nil zaB (Qad))) zad)) (zaj (i:=3) zdo.nd rfl (Qh))
 (zae (zaX (i:=4) zdo.nd rfl (Qh) (zaz zdC zaf (zak Gz (Qc) rfl T.mz T.Fz.kp T.bz .nil zaB (zaa (pv 0) (zaa (zax zbX (zea (zaa zaf (zaa zaf (Q4)))) (zak Gz (Qc) rfl T.mz T.Fz.kp T.bz .nil zaB (zaa (pv 0) (Q4))) (Qo)) zad)))))
 (zae (zaX (i:=5) zdo.nd rfl (Qh) (zaz zdC zaf (zak Gz (Qc) rfl T.mz T.Fz.kp T.bz .nil zaB (zaa (pv 0) (zaa (zax zbX (zea (zaa zaf (Q4))) (zak Gz (Qc) rfl T.mz T.Fz.kp T.bz .nil zaB (zaa (pv 0) (Q4))) (Qo)) zad)))))
 (zah (zdi (znk ψi1 ψg1 ψh1 zdj (pv 2) (zaa (zbR (zaa (pv 4) (zaa (zaz zdC zaf (zak Gz (Qc) rfl T.mz T.Fz.kp T.bz .nil zaB (zaa (pv 0) (zaa (pv 5) zad)))) (zaa (pv 5) zad)))) zad)))))))
 (zah (zat (pv 2))))),
  zkv hP c1 q⟩
inductive ShT (H:Hp):Nat→Tr→V→Prop where
 | int {n:Nat} (i:Int):ShT H n (.int i) (.int i)
 | lst {n:Nat} {p:Addr} {xs:List V} {ts:List Tr} (h:H p=some (.lst xs)) (l:xs.length=ts.length) (b:xs.length≤1000) (e:∀(i:Nat) x t,xs[i]?=some x→ts[i]?=some t→ShT H n t x):ShT H (n+1) (.lst ts) (.ref p)
 | tup {n:Nat} {p:Addr} {xs:List V} {ts:List Tr} (h:H p=some (.tup xs)) (l:xs.length=ts.length) (b:xs.length≤1000) (e:∀(i:Nat) x t,xs[i]?=some x→ts[i]?=some t→ShT H n t x):ShT H (n+1) (.tup ts) (.ref p)
theorem ShT.same{H H':Hp}(s:zaF H H'){n:Nat}{t:Tr}{x:V}(h:ShT H n t x):ShT H' n t x:=by
 induction h with
 | int i=>exact .int i
 | lst h l b _ ih=>exact .lst (s _ _ h) l b ih
 | tup h l b _ ih=>exact .tup (s _ _ h) l b ih
theorem ShT.shows{H:Hp}{K:ψa}{n:Nat}{t:Tr}{x:V}(h:ShT H n t x):zfz K H n t x:=by
 induction h with
 | int i=>exact .int i
 | lst h l b _ ih=>exact .lst (SqL.of h) l ih
 | tup h l b _ ih=>exact .tup (SqT.of h) l ih
def Nw(H H':Hp):Hp:=λa=>match H a with | none=>H' a | some _=>none
theorem zpN{H H':Hp}{a:Addr}{o:HO}(h:H a=none)(h':H' a=some o):Nw H H' a=some o:=by
 unfold Nw
 rw[h]
 exact h'
theorem zpB{H H':Hp}{a:Addr}{o:HO}(h:Nw H H' a=some o):H a=none∧H' a=some o:=by
 unfold Nw at h
 cases e:H a with
 | none =>
  rw[e] at h
  exact⟨rfl,h⟩
 | some x =>
  rw[e] at h
  cases h
theorem zw3{H H':Hp}:zaF (Nw H H') H':=λ_ _ h=>(zpB h).2
def zlz(n:Nat):Sp:=λvs H Q _=>∃(x:V) (t:Tr),vs=[x]∧ShT H n t x∧∀(y:V) (H':Hp),zaF H H'→ShT (Nw H H') n t y→Q y H'
def zna:Sp:=λ_ _ _ _=>False
def zmW:Nat→Sp
 | 0=>zna
 | n+1=>zlz n
def NwD(H:Hp)(D:Addr)(H':Hp):Hp:=Nw (upd H D (.lst [])) H'
theorem zwt{H H' H2:Hp}{D:Addr}{o:HO}(s:zaF H' H2):zaF (NwD H D H') (NwD H D (upd H2 D o)):=λa x h=>by
 obtain⟨h1,h2⟩:=zpB h
 have n:a≠D:=λe=>by
  subst e
  rw[zai] at h1
  cases h1
 exact zpN h1 (by rw[zaM n];exact s _ _ h2)
theorem zwP{H H' H2:Hp}{D:Addr}{o o':HO}(s0:zaF H H')(hD:H' D=some o'):zaF (Nw H' H2) (NwD H D (upd H2 D o)):=λa x h=>by
 obtain⟨h1,h2⟩:=zpB h
 have n:a≠D:=λe=>by
  subst e
  rw[hD] at h1
  cases h1
 refine zpN ?_ (by rw[zaM n];exact h2)
 rw[zaM n]
 cases e:H a with
 | none=>rfl
 | some y=>exact absurd (s0 _ _ e) (by rw[h1];exact nofun)
theorem zro{H H':Hp}{D:Addr}:zaF (NwD H D H') (Nw H H'):=λa x h=>by
 obtain⟨h1,h2⟩:=zpB h
 have n:a≠D:=λe=>by
  subst e
  rw[zai] at h1
  cases h1
 rw[zaM n] at h1
 exact zpN h1 h2
theorem zyJ{H H':Hp}{l:Addr}{o:HO}(hl:H' l=none):zaF (Nw H H') (Nw H (upd H' l o)):=λa x h=>by
 obtain⟨h1,h2⟩:=zpB h
 have n:a≠l:=λe=>by
  subst e
  rw[hl] at h2
  cases h2
 exact zpN h1 (by rw[zaM n];exact h2)
theorem ztC{a:Addr}{xs:List V}{g:TG}{tt:TT}{te:TE}{σ:St}{D:Addr}(Pv:Nat→List V→St→Hp→Prop)(h0:Pv 0 [] σ (upd H D (.lst [])))(hl:∀i ys σ H,i≤xs.length→Pv i ys σ H→SqT K H a xs)
  (hs:∀i x ys σ H,xs[i]?=some x→H D=some (.lst ys)→Pv i ys σ H→g x σ H λσ2 H2=>tt σ2 H2 λb H3=>if b=true then te σ2 H3 λy H4=>zb8 (.ref D) [y] H4 λ_ H5=>∃ys,H5 D=some (.lst ys)∧Pv (i+1) ys σ2 H5 else ∃ys,H3 D=some (.lst ys)∧Pv (i+1) ys σ2 H3)
  (hd:∀ys σ H,H D=some (.lst ys)→Pv xs.length ys σ H→Q (.ref D) H):zfD (Itt K a) g tt te D Q σ (upd H D (.lst [])):=by
 refine⟨λi m σ H=>m=xs.length - i∧i≤xs.length∧∃ys,H D=some (.lst ys)∧Pv i ys σ H,⟨_,rfl,ψp1 _,[],zai,h0⟩,?_⟩
 rintro i m σ H ⟨rfl,hi,ys,hD,pv⟩
 have q:=hl i ys σ H hi pv
 by_cases hlt:i<xs.length
 ·refine .inr ⟨⟨xs,xs[i],q,by simp[hlt]⟩,λσ H=>∃ys,H D=some (.lst ys)∧Pv (i+1) ys σ H,λσ' H' p'=>⟨_,by omega,rfl,hlt,p'⟩,λx H' yl=>?_⟩
  obtain⟨e,yl⟩:=yl
  subst e
  exact hs i x ys σ _ (yl xs q) hD pv
 ·have e:i=xs.length:=by omega
  subst e
  exact .inl ⟨⟨xs,q,ψj _⟩,hd ys σ H hD pv⟩
def DpI(H:Hp)(D:Addr)(n:Nat)(ts:List Tr)(i:Nat)(ys:List V)(σ:St)(H':Hp):Prop:=zaF H H'∧ys.length=i∧(∀(j:Nat) y t,ys[j]?=some y→ts[j]?=some t→ShT (NwD H D H') n t y)∧∃x,σ=[x]
theorem DpI.zero{D:Addr}{n:Nat}{ts:List Tr}{x:Option V}(hD:H D=none):DpI H D n ts 0 [] [x] (upd H D (.lst [])):=⟨zan hD _,rfl,λj y t e=>by simp at e,_,rfl⟩
theorem DpI.put{D:Addr}{n:Nat}{ts:List Tr}{i:Nat}{ys:List V}{σ:St}{H' H2:Hp}{x:Option V}{y:V}{t:Tr}(hD:H D=none)(I:DpI H D n ts i ys σ H')(h':H' D=some (.lst ys))(s:zaF H' H2)(ht:ts[i]?=some t)(h:ShT (Nw H' H2) n t y):DpI H D n ts (i+1) (ys++[y]) [x] (upd H2 D (.lst (ys++[y]))):=by
 obtain⟨s0,rfl,a,_⟩:=I
 refine⟨(s0.trans s).put hD,by simp,λj z u e1 e2=>?_,_,rfl⟩
 by_cases c:j<ys.length
 ·rw[ψe1 c] at e1
  exact(a j z u e1 e2).same (zwt s)
 ·rw[ψa1 (Qf)] at e1
  have k:j - ys.length=0:=by
   have:=(List.getElem?_eq_some_iff.mp e1).1
   simp at this
   omega
  have k2:j=ys.length:=by omega
  subst k2
  rw[ht] at e2
  cases e2
  rw[Nat.sub_self] at e1
  cases e1
  exact h.same (zwP s0 h')
def zhb(K:ψa)(nRec:Nat):TS :=
 (zdI (QP) (zbP (tCB (λxs H Q=>∃p ys,xs=[.ref p]∧((SqL K H p ys∧∀l,H l=none→Q (.ref l) (upd H l (.tup ys)))∨(SqT K H p ys∧Q (.ref p) H))) (zab (zb1 (iTup K (zac 0)) (zam 0) za8 (zaA (zmW nRec) [] E0 (QA)) [none]) zau))) zbU)
def zbi(K:ψa)(nRec:Nat):=eqT (zhb.eq_1 K nRec)
def zhe(K:ψa)(nRec:Nat):TS :=
 (zdI (tB (QV)) (zbP (zb1 (QaH) (zam 0) za8 (zaA (zmW nRec) [] E0 (QA)) [none])) zbU)
def zbh(K:ψa)(nRec:Nat):=eqT (zhe.eq_1 K nRec)
def zgS(K:ψa)(nRec:Nat):TS :=
 (zbg (zeK (zhe K nRec))
 (zbg (zeK (zhb K nRec))
 (zbP (zac 0))))
theorem zmi{n:Nat}{x:V}{t:Tr}(h1:ShT H n t x)(q:∀(y:V) (H':Hp),zaF H H'→ShT (Nw H H') n t y→Q y H') :
  zgS K n { nx:=λ_ H'=>Q .non H',rt:=Q } (L2.start (Qau) [x]) H:=by
 unfold zgS
 simp_all only [zbi,zbh,zac]
 cases h1 with
 | int i =>
  refine⟨λσ H'=>H'=H∧σ=[some (.int i)],?_,?_⟩
  ·simp_all only [zbi,zbh,zac]
   refine zlM (.int i) (zfs K) ⟨false,rfl,zb5 (Qk) (QaF)⟩
   first | rfl | trivial
  rintro σ H1 ⟨rfl,rfl⟩
  simp_all only [zbi,zbh,zac]
  refine⟨λσ H'=>H'=H1∧σ=[some (.int i)],?_,?_⟩
  ·simp_all only [zbi,zbh,zac]
   refine zlM (.int i) (zhh K) ⟨false,rfl,zb5 (Qk) (QaF)⟩
   first | rfl | trivial
  rintro σ H2 ⟨rfl,rfl⟩
  simp_all only [zbi,zbh,zac]
  exact q _ _ (.refl _) (.int i)
 | @lst n p xs ts h l b e =>
  refine⟨λσ H'=>False,?_,λ_ _ z=>z.elim⟩
  simp_all only [zbi,zbh,zac]
  refine zct h ⟨true,rfl,zb5 (QaF) (QK)⟩
  refine⟨⟨_,SqL.of h⟩,λD hD=>?_⟩
  refine zcz (K:=K) (xs:=xs) (DpI H D n ts) (.zero hD) ?_ ?_ ?_
  ·rintro i ys σ H' _ ⟨s,_⟩
   exact SqL.of (s _ _ h)
  ·rintro i x ys σ H' hx hD' I
   obtain⟨s,ly,a,u,rfl⟩:=id I
   have i1:=(Q7).1
   have ht:ts[i]?=some (ts[i]'(by omega)):=ψc (Qf)
   simp_all only [zbi,zbh,zac]
   refine⟨x,_,rfl,(e i x _ hx ht).same s,λy H2 s2 h2=>?_⟩
   exact⟨_,s2 _ _ hD',zbe (Qf),_,zai,I.put hD hD' s2 ht h2⟩
  ·rintro ys σ H' hD' ⟨s,ly,a,u,rfl⟩
   refine q _ _ s (.lst (zpN hD hD') (Qf) (Qf) λj y t e1 e2=>?_)
   exact(a j y t e1 e2).same zro
 | @tup n p xs ts h l b e =>
  refine⟨λσ H'=>H'=H∧σ=[some (.ref p)],?_,?_⟩
  ·simp_all only [zbi,zbh,zac]
   refine zlM (.tup h) (zeF K) ⟨false,rfl,zb5 (Qk) (QaF)⟩
   first | rfl | trivial
  rintro σ H1 ⟨rfl,rfl⟩
  simp_all only [zbi,zbh,zac]
  refine⟨λσ H'=>False,?_,λ_ _ z=>z.elim⟩
  simp_all only [zbi,zbh,zac]
  refine zcq h ⟨true,rfl,zb5 (QaF) (QK)⟩
  refine⟨⟨_,SqT.of h⟩,λD hD=>?_⟩
  refine ztC (K:=K) (xs:=xs) (DpI H1 D n ts) (.zero hD) ?_ ?_ ?_
  ·rintro i ys σ H' _ ⟨s,_⟩
   exact SqT.of (s _ _ h)
  ·rintro i x ys σ H' hx hD' I
   obtain⟨s,ly,a,u,rfl⟩:=id I
   have i1:=(Q7).1
   have ht:ts[i]?=some (ts[i]'(by omega)):=ψc (Qf)
   simp_all only [zbi,zbh,zac]
   refine⟨x,_,rfl,(e i x _ hx ht).same s,λy H2 s2 h2=>?_⟩
   exact⟨_,s2 _ _ hD',zbe (Qf),_,zai,I.put hD hD' s2 ht h2⟩
  ·rintro ys σ H' hD' ⟨s,ly,a,u,rfl⟩
   refine⟨D,rfl,_,.inl ⟨SqL.of hD',λr hr=>?_⟩⟩
   have hr0:H1 r=none:=by
    cases e:H1 r with
    | none=>rfl
    | some y=>exact absurd (s _ _ e) (by rw[hr];exact nofun)
   refine q _ _ (s.trans (zan hr _)) (.tup (zpN hr0 zai) (Qf) (Qf) λj y t e1 e2=>?_)
   exact((a j y t e1 e2).same zro).same (zyJ hr)
theorem zoK{P:Program}{w:World}{K:ψa}{mg:Str→Option Value}{base:Heap}{CX:CXT}{k:Nat}{f:Addr}{fd:FuncData}{ps:List Str}:zci P w K mg base CX k f fd ps zna :=
 ⟨λ_ _ _ _ h=>h.elim,λ_ _ _ _ _ _ _ _ _ _ _ _ _ h=>h.elim⟩
theorem zl7:zay (Qau) (Qau) (zag zej):=(Qa)
theorem zrH(T:Txt K mg a){n:Nat}(GN:zci P w K mg base CX0 n a.fN a.dN (Qau) (zmW n)):zci P w K mg base CX0 (n+1) a.fN a.dN (Qau) (zlz n):=by
 refine T.FN.ok zl7 (Qj) (Qe)
 all_goals obtain⟨x,t,rfl,h1,q⟩:=h
 ·rfl
 exact⟨zgS K n,(zae (zbA (zbY (zbr (QF)) (zah (zat (zbC (sc:=zag zej) (N:=["_law_thing"]) (Nc:=["_law_part"]) (cap:=[none]) rfl rfl rfl (Ql) (zbz (pv 0)) (λ_ _ _ _=>(zaj (i:=0) (show ψh (["_law_part"]:List Str) from by decide) rfl (Qh))) (QD) (λ_ _ _ _=>(zak GN (hr.mono (Qf)) rfl T.mN T.FN.kp T.bN .nil zaB (Qag)))))) zaY))
 (zae (zbA (zbY (zbr (zap za9 rfl T.z_isinstance ψi (zaa (pv 0) (QaB)))) (zah (zat (zdn zk7 rfl T.z_tuple zcf (zaa (zbC (sc:=zag zej) (N:=["_law_thing"]) (Nc:=["_law_part"]) (cap:=[none]) rfl rfl rfl (Ql) (zys (pv 0)) (λ_ _ _ _=>(zaj (i:=0) (show ψh (["_law_part"]:List Str) from by decide) rfl (Qh))) (QD) (λ_ _ _ _=>(zak GN (hr.mono (Qf)) rfl T.mN T.FN.kp T.bN .nil zaB (Qag)))) zad)))) zaY))
 (zah (zat (pv 0))))),zmi h1 q⟩
theorem zlu(T:Txt K mg a):zci P w K mg base CX0 5 a.fN a.dN (Qau) (zlz 4):=zrH T (n:=4) (zrH T (n:=3) (zrH T (n:=2) (zrH T (n:=1) (zrH T (n:=0) zoK))))
def inT(ns:List Int):Tr:=.lst (ns.map Tr.int)
def shT(x:List Int×Int):Tr:=.tup [inT x.1,.int x.2]
def mixT(xs:List Pw):Tr:=.lst (xs.map shT)
def papT(Ws:List Int)(P:Rat)(ns:List Int):Tr:=.tup [inT Ws,.tup [.int P.num,.int (P.den:Int)],inT ns]
def boxT(bs:List Box):Tr:=.lst (bs.map λb=>.tup [.int b.1,.int b.2.1,.int b.2.2])
theorem zg1{H:Hp}{n:Nat}{p:Addr}{ns:List Int}(h:H p=some (QH))(l:ns.length≤1000):ShT H (n+1) (inT ns) (.ref p):=by
 refine .lst h (by rw[ψb,ψb]) (by rw[ψb];exact l) λi x t e1 e2=>?_
 obtain⟨a,ha,rfl⟩:=zas e1
 obtain⟨b,hb,rfl⟩:=zas e2
 rw[ha] at hb
 cases hb
 exact .int _
theorem zyF{α:Type}{a b x:α}{i:Nat}(e:[a,b][i]?=some x):(i=0∧x=a)∨(i=1∧x=b):=by
 match i,e with
 | 0,e=>cases e;exact .inl ⟨rfl,rfl⟩
 | 1,e=>cases e;exact .inr ⟨rfl,rfl⟩
theorem zuo{α:Type}{a b c x:α}{i:Nat}(e:[a,b,c][i]?=some x):(i=0∧x=a)∨(i=1∧x=b)∨(i=2∧x=c):=by
 match i,e with
 | 0,e=>cases e;exact .inl ⟨rfl,rfl⟩
 | 1,e=>cases e;exact .inr (.inl ⟨rfl,rfl⟩)
 | 2,e=>cases e;exact .inr (.inr ⟨rfl,rfl⟩)
theorem zmp{H:Hp}{n:Nat}{p:Addr}{x y:V}{s t:Tr}(h:H p=some (.tup [x,y]))(hx:ShT H n s x)(hy:ShT H n t y):ShT H (n+1) (.tup [s,t]) (.ref p):=by
 refine .tup h rfl (by simp) λi v u e1 e2=>?_
 rcases zyF e1 with ⟨rfl,rfl⟩ | ⟨rfl,rfl⟩ <;> cases e2
 ·exact hx
 ·exact hy
theorem zhv{H:Hp}{n:Nat}{p:Addr}{x y z:V}{s t u:Tr}(h:H p=some (.tup [x,y,z]))(hx:ShT H n s x)(hy:ShT H n t y)(hz:ShT H n u z):ShT H (n+1) (.tup [s,t,u]) (.ref p):=by
 refine .tup h rfl (by simp) λi v w e1 e2=>?_
 rcases zuo e1 with ⟨rfl,rfl⟩ | ⟨rfl,rfl⟩ | ⟨rfl,rfl⟩ <;> cases e2
 ·exact hx
 ·exact hy
 ·exact hz
theorem zy4{H:Hp}{ml:Addr}{us:List Addr}{xs:List Mp}{n:Nat}(M:MxH H ml us xs)(g:zmS n xs)(n6:n≤6):ShT H 3 (mixT (Qu)) (.ref ml):=by
 have lu:=M.tp.1
 refine .lst M.hm (by simp[lu]) (by have:=g.2.1;rw[ψb];omega) λi x t e1 e2=>?_
 obtain⟨u,eu,rfl⟩:=zas e1
 obtain⟨y,ey,rfl⟩:=zas e2
 obtain⟨z,ez,rfl⟩:=zas ey
 have hx:=zao ez
 exact zmp (M.tp.2 i u z eu ez) (zg1 (M.pl z hx) (by have:=(g.2.2 z hx).1;omega)) (.int _)
theorem zzI{H:Hp}{pr:Addr}{n m:Nat}{Ws ns:List Int}{P:Rat}(A:PpH H pr n Ws P ns)(n6:n≤6):ShT H (m+3) (papT Ws P ns) (.ref pr):=by
 obtain⟨wl,pp,cl,a1,a2,a3,a4⟩:=A.ex
 exact zhv a1 (zg1 a2 (by have:=A.lw;omega)) (zmp a3 (.int _) (.int _)) (zg1 a4 (by have:=A.ln;omega))
theorem zol{H:Hp}{l:Addr}{ts:List Addr}{bs:List Box}{m:Nat}(B:Bx6 H l ts bs):ShT H (m+2) (boxT bs) (.ref l):=by
 have lt:=B.hb.1
 refine .lst B.hl (by simp[lt]) (by have:=B.l6;rw[ψb];omega) λi x t e1 e2=>?_
 obtain⟨u,eu,rfl⟩:=zas e1
 obtain⟨b,eb,rfl⟩:=zas e2
 exact zhv (B.hb.2 i u b eu eb) (.int _) (.int _) (.int _)
theorem zrk:∀l:List Int,(∀w∈l,1≤w)→(l.length:Int)≤l.sum
 | [],_=>by simp
 | w::l,h=>by
  have ih:=zrk l λx hx=>h x (ψd _ hx)
  have:=h w ψe
  rw[ψq,ψM]
  omega
def Sps(S:Hp→V→Hp→Prop)(a:Addr)(o:HO):List V→Hp→Hp→Prop
 | [],H,H'=>H'=H
 | v::vs,H,H'=>∃H1,S H v H1∧H1 a=some o∧Sps S a o vs H1 H'
def Spo:Nat→Hp→V→Hp→Prop
 | 0,_,_,_=>False
 | n+1,H,v,H'=>(∃i,v=.int i∧H'=H)∨(∃a vs,v=.ref a∧H a=some (.tup vs)∧Sps (Spo n) a (.tup vs) vs H H')∨∃a vs H1,v=.ref a∧H a=some (.lst vs)∧vs.length≤1000∧Sps (Spo n) a (.lst vs) vs H H1∧H'=upd H1 a (.lst (vs++[.int 7]))
def zkq(n:Nat):Sp:=λvs H Q _=>∃(v:V) (H0 H0':Hp),vs=[v]∧zaF H0 H∧Spo (n+1) H0 v H0'∧∀H',zaF H0' H'→Q .non H'
def zkC:Nat→Sp
 | 0=>zna
 | n+1=>zkq n
theorem Sps.at_end{S:Hp→V→Hp→Prop}{a:Addr}{o:HO}:∀{vs:List V} {H H':Hp},Sps S a o vs H H'→H a=some o→H' a=some o
 | [],_,_,h,e=>by cases h;exact e
 | _::_,_,_,⟨_,_,e1,h⟩,_=>Sps.at_end h e1
theorem zuC{H H':Hp}{a:Addr}{o:HO}(s:zaF H H'):zaF (upd H a o) (upd H' a o):=λb u h=>by
 by_cases c:b=a
 ·subst c
  rw[zai] at h ⊢
  exact h
 ·rw[zaM c] at h ⊢
  exact s _ _ h
theorem zzC{n:Nat}{v:V}{H0 H0' H:Hp}{Q:VK}{E:XK}(h:Spo n H0 v H0')(s:zaF H0 H)(q:∀H',zaF H0' H'→Q .non H'):zkC n ([v]++[]) H Q E:=by
 cases n with
 | zero=>exact h.elim
 | succ n=>exact⟨v,H0,H0',rfl,s,h,q⟩
def zgu(K:ψa)(nRec:Nat):TS :=
 (zdI (tB (tCB (zvJ K) (zab (zac 0) (zab (zfq (zab (tC (.ty "list")) (zab (tC (.ty "tuple")) zau))) zau)))) (zjW (zwC K (zac 0)) (zam 1)
 (zgh (zaA (zkC nRec) [] E0 (Qz)))) zbU)
def zbv(K:ψa)(nRec:Nat):=eqT (zgu.eq_1 K nRec)
def zf1(K:ψa)(nRec:Nat):TS :=
 (zbg (zeK (zgu K nRec))
 (zdI (tB (QV)) (zgh (tBM K "list" zb8 (zac 0) (zab (tC (.int 7)) zau))) zbU))
theorem zkG{n:Nat}{v:V}{H0 H0':Hp}(s0:zaF H0 H)(h1:Spo (n+1) H0 v H0')(q:∀H',zaF H0' H'→Q .non H') :
  zf1 K n { nx:=λ_ H'=>Q .non H',rt:=Q } (L2.start ["_law_thing","_law_part"] [v]) H:=by
 unfold zf1
 simp_all only [zbv,zac]
 rcases h1 with ⟨i,rfl,rfl⟩ | ⟨a,vs,rfl,ha,hS⟩ | ⟨a,vs,H1,rfl,ha,hl,hS,rfl⟩
 ·refine⟨λσ H'=>zaF H0' H'∧σ=[some (.int i),none],?_,?_⟩
  ·simp_all only [zbv,zac]
   refine⟨by decide,λtp ft=>?_⟩
   refine⟨_,.inl ⟨i,rfl,rfl⟩,_,SqT.of zai,_,rfl,_,zpM K,zb5 (Qk) (QaF)⟩
   exact s0.add ft
  rintro σ H2 ⟨s2,rfl⟩
  simp_all only [zbv,zac]
  exact zlM (.int i) (zfs K) ⟨false,rfl,zb5 (Qk) (λ_=>q _ s2)⟩
 ·refine⟨λσ H'=>zaF H0' H'∧∃x,σ=[some (.ref a),x],?_,?_⟩
  ·simp_all only [zbv,zac]
   refine⟨by decide,λtp ft=>?_⟩
   have s1:zaF H0 (upd H tp (.tup [.ty "list",.ty "tuple"])):=s0.add ft
   refine⟨_,.inr (.inr ⟨a,vs,rfl,s1 _ _ ha,rfl⟩),_,SqT.of zai,_,rfl,_,zlI K,zb5 (QaF) (QK)⟩
   generalize upd H tp (.tup [.ty "list",.ty "tuple"])=Hb at s1 ⊢
   refine .inr ⟨⟨_,SqT.of (s1 _ _ ha)⟩,?_⟩
   refine zuj (K:=K) (xs:=vs) (λi σ H'=>∃Hi x,zaF Hi H'∧Hi a=some (.tup vs)∧Sps (Spo n) a (.tup vs) (vs.drop i) Hi H0'∧σ=[some (.ref a),x]) ⟨H0,_,s1,ha,hS,rfl⟩ ?_ ?_ ?_
   ·rintro i σ H' _ ⟨Hi,x,s,h,_⟩
    exact SqT.of (s _ _ h)
   ·rintro i v σ H' hx ⟨Hi,x,s,h,hs,rfl⟩
    have li:=(Q7).1
    rw[List.drop_eq_getElem_cons li,(Q7).2] at hs
    obtain⟨H3,a1,a2,a3⟩:=hs
    simp_all only [zbv,zac]
    exact zzC a1 s λH' s'=>⟨H3,s',a2,a3⟩
   ·rintro σ H' ⟨Hi,x,s,h,hs,rfl⟩
    rw[List.drop_length] at hs
    cases hs
    exact⟨s,_,rfl⟩
  rintro σ H2 ⟨s2,x,rfl⟩
  simp_all only [zbv,zac]
  exact zlM (.tup (s2 _ _ (hS.at_end ha))) (zeF K) ⟨false,rfl,zb5 (Qk) (λ_=>q _ s2)⟩
 ·refine⟨λσ H'=>zaF H1 H'∧∃x,σ=[some (.ref a),x],?_,?_⟩
  ·simp_all only [zbv,zac]
   refine⟨by decide,λtp ft=>?_⟩
   have s1:zaF H0 (upd H tp (.tup [.ty "list",.ty "tuple"])):=s0.add ft
   refine⟨_,.inr (.inl ⟨a,vs,rfl,s1 _ _ ha,rfl⟩),_,SqT.of zai,_,rfl,_,znb K,zb5 (QaF) (QK)⟩
   generalize upd H tp (.tup [.ty "list",.ty "tuple"])=Hb at s1 ⊢
   refine .inl ⟨⟨_,SqL.of (s1 _ _ ha)⟩,?_⟩
   refine zc2 (K:=K) (xs:=vs) (λi σ H'=>∃Hi x,zaF Hi H'∧Hi a=some (.lst vs)∧Sps (Spo n) a (.lst vs) (vs.drop i) Hi H1∧σ=[some (.ref a),x]) ⟨H0,_,s1,ha,hS,rfl⟩ ?_ ?_ ?_
   ·rintro i σ H' _ ⟨Hi,x,s,h,_⟩
    exact SqL.of (s _ _ h)
   ·rintro i v σ H' hx ⟨Hi,x,s,h,hs,rfl⟩
    have li:=(Q7).1
    rw[List.drop_eq_getElem_cons li,(Q7).2] at hs
    obtain⟨H3,a1,a2,a3⟩:=hs
    simp_all only [zbv,zac]
    exact zzC a1 s λH' s'=>⟨H3,s',a2,a3⟩
   ·rintro σ H' ⟨Hi,x,s,h,hs,rfl⟩
    rw[List.drop_length] at hs
    cases hs
    exact⟨s,_,rfl⟩
  rintro σ H2 ⟨s2,x,rfl⟩
  have h2:=s2 _ _ (hS.at_end ha)
  simp_all only [zbv,zac]
  refine zct h2 ⟨true,rfl,zb5 (QaF) (QK)⟩
  exact⟨.inl ⟨rfl,_,SqL.of h2⟩,_,h2,zbe hl,q _ (zuC s2)⟩
theorem zhi:zay ["_law_thing","_law_part"] (Qau) (zag zfQ):=(Qa)
theorem zqR(T:Txt K mg a){n:Nat}(Gab:zci P w K mg base CX0 n a.fab a.dab (Qau) (zkC n)):zci P w K mg base CX0 (n+1) a.fab a.dab (Qau) (zkq n):=by
 refine T.Fab.ok zhi (Qj) (Qe)
 all_goals obtain⟨v,H0,H0',rfl,s0,h1,q⟩:=h
 ·rfl
 exact⟨zf1 K n,(zae (zbA (zbY (zbr (zap zrC rfl T.z_isinstance ψi (zaa (pv 0) (zaa (zbR (zaa (zbW rfl T.z_list zbN rfl) (QaB))) zad)))) (zah (zdq PassesOwn.never rfl (zxp (pv 0)) (zaj (i:=1) zhi.nd rfl (Qh))
 (zah (zdi (zak Gab (hr.mono (Qf)) rfl T.mab T.Fab.kp T.bab .nil zaB (QB)))))) zaY))
 (zah (zbY (zbr (QF)) (zah (zdi (znk ψi1 ψg1 ψh1 zdj (pv 0) (Q4)))) zaY))),zkG s0 h1 q⟩
theorem zlj(T:Txt K mg a):zci P w K mg base CX0 5 a.fab a.dab (Qau) (zkq 4):=zqR T (n:=4) (zqR T (n:=3) (zqR T (n:=2) (zqR T (n:=1) (zqR T (n:=0) zoK))))
structure Tl (H:Hp) (bs:List Box) (bud:Int) (r wr mr pr wl pp cl:Addr) (W P:Rat) (us:List Addr) (xs:List Mp) (Ws ns:List Int):Prop where
 hr:H r=some (.tup [.ref wr,.ref mr,.ref pr])
 hw:H wr=some (QaG)
 M:MxH H mr us xs
 a1:H pr=some (Qaa)
 a2:H wl=some (Qaj)
 a3:H pp=some (.tup (fr P))
 a4:H cl=some (QH)
 T:ztM bs bud W (Qu) Ws P ns
section
variable {bs:List Box} {bud:Int} {r wr mr pr wl pp cl:Addr} {W P:Rat} {us:List Addr} {xs:List Mp} {Ws ns:List Int}
theorem Tl.same{H H':Hp}(h:Tl H bs bud r wr mr pr wl pp cl W P us xs Ws ns)(s:zaF H H'):Tl H' bs bud r wr mr pr wl pp cl W P us xs Ws ns:=⟨s _ _ h.hr,s _ _ h.hw,h.M.same s,s _ _ h.a1,s _ _ h.a2,s _ _ h.a3,s _ _ h.a4,h.T⟩
theorem Tl.len(h:Tl H bs bud r wr mr pr wl pp cl W P us xs Ws ns):1≤xs.length∧xs.length≤bs.length+1:=by
 have a:=h.T.x1
 have b:=h.T.xn
 rw[ψb] at a b
 exact⟨a,b⟩
theorem Tl.gt(h:Tl H bs bud r wr mr pr wl pp cl W P us xs Ws ns):∀x∈xs,x.2.1.length=bs.length∧(∀m∈x.2.1,0≤m∧m≤60)∧1≤x.2.2∧Bd 1800 x.2.2:=λx hx=>by
 have hm:x.2∈xs.map λx=>x.2:=List.mem_map.mpr ⟨x,hx,rfl⟩
 obtain⟨a1,a2⟩:=h.T.pl _ hm
 obtain⟨b1,b2⟩:=h.T.xw _ hm
 exact⟨a1,a2,b1,b2⟩
theorem Tl.mixg(h:Tl H bs bud r wr mr pr wl pp cl W P us xs Ws ns)(l6:bs.length≤6):zmS bs.length xs:=⟨h.len.1,by have:=h.len.2;omega,λx hx=>by
 obtain⟨a1,a2,a3,a4⟩:=h.gt x hx
 exact⟨a1,λm hm=>⟨(a2 m hm).1,by have:=(a2 m hm).2;omega⟩,a3,a4.mono (Qs)⟩⟩
theorem Tl.pph(h:Tl H bs bud r wr mr pr wl pp cl W P us xs Ws ns):PpH H pr bs.length Ws P ns :=
 ⟨⟨wl,pp,cl,h.a1,h.a2,h.a3,h.a4⟩,h.T.lw,h.T.ln,λw hw=>by have:=(h.T.ww w hw).1;omega,λw hw=>((h.T.ww w hw).2).mono (Qs),λm hm=>⟨(h.T.nn m hm).1,by have:=(h.T.nn m hm).2;omega⟩,h.T.p0,h.T.pb.mono (Qs)⟩
theorem Tl.okm(h:Tl H bs bud r wr mr pr wl pp cl W P us xs Ws ns):okM xs=true:=by
 unfold okM
 rw[ψu1]
 exact λx hx=>zgQ.mpr λm hm=>((h.gt x hx).2.1 m hm).2
theorem Tl.okh(h:Tl H bs bud r wr mr pr wl pp cl W P us xs Ws ns)(l1:1≤bs.length):okH Ws ns=true:=by
 unfold okH
 rw[ψQ]
 refine⟨decide_eq_true ?_,zgQ.mpr λm hm=>(h.T.nn m hm).2⟩
 have:=zrk Ws λw hw=>(h.T.ww w hw).1
 have:=h.T.lw
 omega
theorem Tl.bW(h:Tl H bs bud r wr mr pr wl pp cl W P us xs Ws ns):Bq 2000 W:=h.T.bW.mono (Qs)
end
def zki:Sp:=λvs H Q _=>∃(l r wr mr pr wl pp cl:Addr) (bud:Int) (ts:List Addr) (bs:List Box) (W P:Rat) (us:List Addr) (xs:List Mp) (Ws ns:List Int),vs=[.ref l,.int bud,.ref r]∧Bx6 H l ts bs∧Tl H bs bud r wr mr pr wl pp cl W P us xs Ws ns∧0≤bud∧bud≤60∧∀H',zaF H H'→Q (.bl true) H'
def zgL(K:ψa):TS :=
 (zbP (tOp rEq (tCB (Qb) (zab (zb1 (zcT K (zac 4)) (Qm) (zbZ (tOp (QI) (tCB (zlH K) (QA)) (zac 2))) (zac 0) [none,none,some 1]) zau)) (Qn)))
def zbl(K:ψa):=eqT (zgL.eq_1 K)
def zgw(K:ψa):TS :=
 (zdI (zbZ (tOp (QI) (tCB (Qb) (zab (zb1 (QaH) (zam 0) (zbZ (tOp (QI) (QE) (Qi))) (zac 0) [none]) zau)) (Qn))) (zbP (tC (.bl true))) zbU)
def zbk(K:ψa):=eqT (zgw.eq_1 K)
def zgA(K:ψa):TS :=
 (zdI (tOr (zbZ (tOp (QI) (tCB (Qb) (QaC)) (tOp (QM) (Qaq) (Qi)))) (zeM (tB (zaA zqF [] E0 (zab (zac 0) (zab (zac 1) (zab (zac 3) (zab (zac 5) zau)))))))) (Qt) zbU)
def zbo(K:ψa):=eqT (zgA.eq_1 K)
def zgy(K:ψa):TS :=
 (zdI (tOr (zbZ (tOp (QS) (tOp (zbB K) (zac 3) (Qn)) (Qn))) (tOr (zbZ (tOp (QI) (tOp (zbB K) (zac 3) (Qn)) (tOp (zbB K) (zac 3) (Qi)))) (zeM (tB (zaA zoo [] E0 (zab (zac 0) (zab (zac 1) (zab (zac 3) (QaC))))))))) (Qt) zbU)
def zbj(K:ψa):=eqT (zgy.eq_1 K)
def zgD(K:ψa):TS :=
 (zbg (zbS (zac 2) (zdS K 3 (zaL (zam 3) (zaL (zam 4) (zaL (zam 5) zdO)))))
 (zbg (zeK (zgy K))
 (zbg (zeK (zgA K))
 (zbg (zeK (zgw K))
 (zgL K)))))
def zbn(K:ψa):=eqT (zgD.eq_1 K)
def zgB(K:ψa):TS :=
 (zdI (tOr (zeM (tB (tCB (zhy K) (zab (zac 2) (zab (tC (.ty "tuple")) zau))))) (tOr (zbZ (tOp rNe (tCB (Qb) (Qap)) (tC (.int 3)))) (zeM (tB (zaA znU [] E0 (zab (tOp (zbB K) (zac 2) (Qn)) zau)))))) (Qt) zbU)
def zbm(K:ψa):=eqT (zgB.eq_1 K)
def zfU(K:ψa):TS :=
 (zbg (zeK (zgB K))
 (zgD K))
theorem zlf{l r wr mr pr wl pp cl:Addr}{bud:Int}{ts:List Addr}{bs:List Box}{W P:Rat}{us:List Addr}{xs:List Mp}{Ws ns:List Int}(B:Bx6 H l ts bs)(Y:Tl H bs bud r wr mr pr wl pp cl W P us xs Ws ns)(d0:0≤bud)(d1:bud≤60)(q:∀H',zaF H H'→Q (.bl true) H') :
  zfU K { nx:=λ_ H'=>Q .non H',rt:=Q } (L2.start ["_law_boxes_here","_law_budget","_law_told","_law_worth","_law_mix_here","_law_paper"] [.ref l,.int bud,.ref r]) H:=by
 unfold zfU
 simp_all only [zbl,zbk,zbo,zbj,zbn,zbm,zac]
 refine⟨λσ H'=>zaF H H'∧σ=[some (.ref l),some (.int bud),some (QO),none,none,none],?_,?_⟩
 ·simp_all only [zbl,zbk,zbo,zbj,zbn,zbm,zac]
  refine zcq Y.hr ⟨true,rfl,zb5 (Qk) (λ_=>⟨_,.inr (SqT.of Y.hr),zb5 (QK) (λ_=>⟨_,SqT.of Y.hr,_,rfl,?_⟩)⟩)⟩
  exact⟨wr,W,rfl,Y.hw,λH1 s1=>⟨true,rfl,zb5 (Qk) (λ_=>s1)⟩⟩
 rintro σ H1 ⟨s1,rfl⟩
 replace Y:=Y.same s1
 replace B:=B.same s1
 replace q:∀H',zaF H1 H'→Q (.bl true) H':=λH' s=>q H' (s1.trans s)
 simp_all only [zbl,zbk,zbo,zbj,zbn,zbm,zac]
 refine⟨_,SqT.of Y.hr,rfl,_,_,rfl,_,_,rfl,_,_,rfl,rfl,?_⟩
 have w0:0≤W.num:=Rat.num_nonneg.mpr Y.T.w01.1
 have w1:W.num≤W.den:=by
  have:=(Rat.le_iff W 1).mp Y.T.w01.2
  rw[show(1:Rat).den=1 from rfl,show(1:Rat).num=1 from rfl] at this
  omega
 refine⟨λσ H'=>zaF H1 H'∧σ=[some (.ref l),some (.int bud),some (QO),some (.ref wr),some (.ref mr),some (.ref pr)],?_,?_⟩
 ·simp_all only [zbl,zbk,zbo,zbj,zbn,zbm,zac]
  refine⟨_,SqT.of Y.hw,_,rfl,_,rfl,zb5 (λz=>absurd z (Qf)) (λ_=>⟨_,SqT.of Y.hw,_,rfl,_,SqT.of Y.hw,_,rfl,_,rfl,_,rfl,zb5 (λz=>absurd z (Qf)) (QaF)⟩)⟩
  refine⟨l,wr,mr,bud,ts,bs,us,xs,W,rfl,B,Y.hw,Y.bW,Y.M,Y.mixg B.l6,d0,d1,λb H2 s2 hb=>⟨b,rfl,?_⟩⟩
  rw[hb.mpr ⟨Y.okm,Y.T.seek⟩]
  exact zb5 (Qk) (λ_=>s2)
 rintro σ H2 ⟨s2,rfl⟩
 replace Y:=Y.same s2
 replace B:=B.same s2
 refine⟨λσ H'=>zaF H2 H'∧σ=[some (.ref l),some (.int bud),some (QO),some (.ref wr),some (.ref mr),some (.ref pr)],?_,?_⟩
 ·simp_all only [zbl,zbk,zbo,zbj,zbn,zbm,zac]
  refine⟨_,.inl (SqL.of Y.M.hm),_,.inl (SqL.of B.hl),?_⟩
  rw[ψb,ψb,B.hb.1,Y.M.tp.1]
  have:=Y.len.2
  refine zb5 (λz=>absurd z (Qf)) (QaF)
  refine⟨l,wr,pr,bud,ts,bs,W,P,Ws,ns,rfl,B,Y.hw,Y.bW,Y.pph,d0,d1,λb H2 s2 hb=>⟨b,rfl,?_⟩⟩
  rw[hb.mpr ⟨Y.okh B.l1,Y.T.hide⟩]
  exact zb5 (Qk) (λ_=>s2)
 rintro σ H3 ⟨s3,rfl⟩
 replace Y:=Y.same s3
 replace B:=B.same s3
 have S3:=s2.trans s3
 refine⟨λσ H'=>(∀b∈bs,b.1=1)∧zaF H3 H'∧σ=[some (.ref l),some (.int bud),some (QO),some (.ref wr),some (.ref mr),some (.ref pr)],?_,?_⟩
 ·simp_all only [zbl,zbk,zbo,zbj,zbn,zbm,zac]
  have l6:=B.l6
  have lt:=B.hb.1
  refine⟨⟨_,SqL.of B.hl⟩,λD hD=>?_⟩
  refine zcz (K:=K) (xs:=ts.map V.ref) (λi ys σ H'=>zaF H3 H'∧ys.length≤i∧(ys=[]→∀b∈bs.take i,b.1=1)∧∃x,σ=[x]) ⟨zan hD _,by simp,by simp,_,rfl⟩ ?_ ?_ ?_
  ·rintro i ys σ H' _ ⟨s,_⟩
   exact SqL.of (s _ _ B.hl)
  ·rintro i x ys σ H' hx hD' ⟨s,ly,hy,x0,rfl⟩
   obtain⟨t,ht,rfl⟩:=zas hx
   obtain⟨b,hb1,hb2⟩:=B.hb.at ht
   have g:=B.gb b (zao hb1)
   have li:=(List.getElem?_eq_some_iff.mp ht).1
   simp_all only [zbl,zbk,zbo,zbj,zbn,zbm,zac]
   refine⟨_,SqT.of (s _ _ hb2),_,rfl,_,rfl,zb5 (λc=>?_) (λc=>?_)⟩
   ·exact⟨_,hD',zbe (Qf),_,zai,s.put hD,by simp;omega,by simp⟩
   ·refine⟨_,hD',s,by omega,λz b' hb'=>?_⟩
    rw[ψu,hb1] at hb'
    rcases List.mem_append.mp hb' with m | m
    ·exact hy z b' m
    ·have e:b'=b:=by simpa using m
     rw[e]
     have:=g.1
     omega
  ·rintro ys σ H' hD' ⟨s,ly,hy,x0,rfl⟩
   rw[ψb,lt,ψC] at hy
   refine⟨D,rfl,_,.inl (SqL.of hD'),zb5 (λ_=>q _ (S3.trans s)) (λz=>⟨?_,s⟩)⟩
   exact hy (List.length_eq_zero_iff.mp (Qf))
 rintro σ H4 ⟨one,s4,rfl⟩
 replace Y:=Y.same s4
 simp_all only [zbl,zbk,zbo,zbj,zbn,zbm,zac]
 have lx:=Y.len.2
 have lu:=Y.M.tp.1
 have l6:=B.l6
 refine⟨⟨_,SqL.of Y.M.hm⟩,λD hD=>?_⟩
 refine zcz (K:=K) (xs:=us.map V.ref) (λi ys σ H'=>zaF H4 H'∧ys=[]∧∃x y,σ=[x,y,some (.int bud)]) ⟨zan hD _,rfl,_,_,rfl⟩ ?_ ?_ ?_
 ·rintro i ys σ H' _ ⟨s,_⟩
  exact SqL.of (s _ _ Y.M.hm)
 ·rintro i x ys σ H' hx hD' ⟨s,rfl,x0,y0,rfl⟩
  obtain⟨u,hu,rfl⟩:=zas hx
  obtain⟨z,hz1,hz2⟩:=Y.M.tp.at hu
  simp_all only [zbl,zbk,zbo,zbj,zbn,zbm,zac]
  refine⟨_,SqT.of (s _ _ hz2),rfl,_,_,rfl,_,_,rfl,rfl,?_⟩
  simp_all only [zbl,zbk,zbo,zbj,zbn,zbm,zac]
  have:=Y.T.one one z.2 (List.mem_map.mpr ⟨z,zao hz1,rfl⟩)
  refine⟨_,SqL.of (s _ _ (Y.M.pl z (zao hz1))),zb5 (λc=>absurd c (Qf)) (λ_=>⟨_,hD',s,rfl⟩)⟩
 ·rintro ys σ H' hD' ⟨s,rfl,x0,y0,rfl⟩
  refine⟨D,rfl,_,.inl (SqL.of hD'),?_⟩
  exact q _ (S3.trans (s4.trans s))
theorem zd2:zay ["_law_boxes_here","_law_budget","_law_told","_law_worth","_law_mix_here","_law_paper"] ["_law_boxes_here","_law_budget","_law_told"] (zag zdF):=(Qa)
theorem zkn(T:Txt K mg a):zci P w K mg base CX0 7 a.fat a.dat ["_law_boxes_here","_law_budget","_law_told"] zki:=by
 have Ga1:=zle (P:=P) (w:=w) (base:=base) T
 have Gam:=zfk (P:=P) (w:=w) (base:=base) T
 have Ga3:=zla (P:=P) (w:=w) (base:=base) T
 refine T.Fat.ok zd2 (Qj) (Qe)
 all_goals obtain⟨l,r,wr,mr,pr,wl,pp,cl,bud,ts,bs,W,P',us,xs,Ws,ns,rfl,B,Y,d0,d1,q⟩:=h
 ·rfl
 exact⟨zfU K,(zae (zbA (zbY (PW.pt (zcP (zbG (zbr (zap za9 rfl T.z_isinstance ψi (zaa (pv 2) (QaB))))) (zcP (za7 zih (zap zar rfl T.z_len ψo (Qax)) zaf (zaV _)) (zcB (zbG (zbr (zak Gam (Qc) rfl T.mam T.Fam.kp T.bam .nil zaB (zaa (QW) zad)))))))) (QL) zaY))
 (zae (zc1 (pv 2) (zbs rfl (zal (zaj (i:=3) zd2.nd rfl (Qh)) (zal (zaj (i:=4) zd2.nd rfl (Qh)) (zal (zaj (i:=5) zd2.nd rfl (Qh)) za6)))))
 (zae (zbA (zbY (PW.pt (zcP (za7 zi4 (Qao) zaf (zaV _)) (zcP (za7 zhg (Qao) (Qao) (zaV _)) (zcB (zbG (zbr (zak Ga1 (Qc) rfl T.ma1 T.Fa1.kp T.ba1 .nil zaB (zaa (pv 0) (zaa (pv 1) (zaa (pv 3) (zaa (pv 4) zad))))))))))) (QL) zaY))
 (zae (zbA (zbY (PW.pt (zcP (za7 zhg (zap zar rfl T.z_len ψo (zaa (pv 4) zad)) (zaz zdC (Qq) zaf) (zaV _)) (zcB (zbG (zbr (zak Ga3 (Qc) rfl T.ma3 T.Fa3.kp T.ba3 .nil zaB (zaa (pv 0) (zaa (pv 1) (zaa (pv 3) (zaa (pv 5) zad)))))))))) (QL) zaY))
 (zae (zbA (zbY (za7 zhg (zap zar rfl T.z_len ψo (zaa (zbC (sc:=zag zdF) (N:=["_law_boxes_here","_law_budget","_law_told","_law_worth","_law_mix_here","_law_paper"]) (Nc:=["_law_box"]) (cap:=[none]) rfl rfl rfl (Ql) (zbz (pv 0)) (λ_ _ _ _=>(zaj (i:=0) (show ψh (["_law_box"]:List Str) from by decide) rfl (Qh))) (λ_ _ _ _=>(zi2 (za7 zhg (Qg) zaf (zaV _)))) (λ_ _ _ _=>(pv 0))) zad)) zaf (zaV _)) (QL) zaY))
 (zah (zat (zbT zjs (zap zar rfl T.z_len ψo (zaa (zbC (sc:=zag zdF) (N:=["_law_boxes_here","_law_budget","_law_told","_law_worth","_law_mix_here","_law_paper"]) (Nc:=["_law_plan_here","_law_weight","_law_budget"]) (cap:=[none,none,some 1]) rfl rfl rfl (Ql) (zbz (pv 4)) (λ_ _ _ _=>(zbs rfl (zal (zaj (i:=0) (show ψh (["_law_plan_here","_law_weight","_law_budget"]:List Str) from by decide) rfl (Qh)) (zal (zaj (i:=1) (show ψh (["_law_plan_here","_law_weight","_law_budget"]:List Str) from by decide) rfl (Qh)) za6)))) (λ_ _ _ _=>(zi2 (za7 zhg (zap (zcp rfl) rfl T.z_sum ψG (Qag)) (pv 2) (zaV _)))) (λ_ _ _ _=>(pv 0))) zad)) zaf (zaV _))))))))),
  zlf B Y d0 d1 q⟩
theorem zne{D:Addr}{n:Nat}{te:TE}{rest:St}{x0:Option V}{vs:List V}(lq:vs.length=n)(l6:vs.length≤1000)(hD:H D=none)
  (st:∀(i:Nat) (v:V) (H':Hp) (R:VK),i<n→vs[i]?=some v→zaF H H'→(∀H2:Hp,zaF H' H2→R v H2)→te (some (.int (0+i))::rest) H' R)
  (hd:∀H':Hp,zaF H H'→H' D=some (.lst vs)→Q (.ref D) H') :
  zfD (Itr 0 n) (zam 0) za8 te D Q (x0::rest) (upd H D (.lst [])):=by
 refine zek (λi ys σ H'=>zaF H H'∧ys=vs.take i∧∃x,σ=x::rest) ⟨zan hD _,rfl,_,rfl⟩ ?_ ?_
 ·rintro i ys σ H' hi hD' ⟨s,rfl,u,rfl⟩
  have hw:vs[i]?=some (vs[i]'(by omega)):=ψc (Qf)
  refine st i _ _ _ hi hw s λH2 s2=>?_
  refine⟨D,_,_,rfl,rfl,s2 _ _ hD',zbe (by rw[ψL];omega),_,zai,(s.trans s2).put hD,?_,_,rfl⟩
  rw[ψu,hw]
  rfl
 ·rintro ys σ H' hD' ⟨s,rfl,u,rfl⟩
  rw[← lq,ψC] at hD'
  exact hd H' s hD'
def Out(S:List Addr)(H:Hp):Hp:=λa=>if a∈S then none else H a
theorem zhX{S:List Addr}{H:Hp}{a:Addr}(h:a∉S):Out S H a=H a:=if_neg h
theorem zsY(S:List Addr)(H:Hp):zaF (Out S H) H:=λa o h=>by
 unfold Out at h
 split at h
 ·cases h
 ·exact h
theorem zk3(S:List Addr){H H':Hp}(s:zaF H H'):zaF (Out S H) (Out S H'):=λa o h=>by
 unfold Out at h
 split at h
 ·cases h
 ·rename_i n
  rw[zhX n]
  exact s _ _ h
theorem zsr{S:List Addr}{H:Hp}{a:Addr}{o:HO}(h:a∈S):Out S (upd H a o)=Out S H:=by
 funext b
 unfold Out
 split
 ·rfl
 ·rename_i n
  exact zaM λe=>n (e ▸ h)
theorem zxt{S:List Addr}{G H:Hp}(s:zaF G H)(f:∀x∈S,G x=none):zaF G (Out S H):=λa o h=>by
 rw[zhX λm=>by rw[f a m] at h;cases h]
 exact s _ _ h
theorem zqy{H:Hp}{n:Nat}:∀(vs:List V),(∀v∈vs,∃t,ShT H n t v)→∃ts:List Tr,vs.length=ts.length∧∀(i:Nat) x t,vs[i]?=some x→ts[i]?=some t→ShT H n t x
 | [],_=>⟨[],rfl,λi x t e=>by simp at e⟩
 | v::vs,h=>by
  obtain⟨ts,l,e⟩:=zqy vs λx hx=>h x (ψd _ hx)
  obtain⟨t,ht⟩:=h v ψe
  refine⟨t::ts,by simp[l],λi x u e1 e2=>?_⟩
  cases i with
  | zero =>
   cases e1
   cases e2
   exact ht
  | succ i=>exact e i x u (by simpa using e1) (by simpa using e2)
theorem zoi{H:Hp}{n:Nat}{p:Addr}{vs:List V}(h:H p=some (.lst vs))(b:vs.length≤1000)(e:∀v∈vs,∃t,ShT H n t v):∃t,ShT H (n+1) t (.ref p):=by
 obtain⟨ts,l,z⟩:=zqy vs e
 exact⟨_,.lst h l b z⟩
theorem zlF{H:Hp}{n:Nat}{p:Addr}{vs:List V}(h:H p=some (.tup vs))(b:vs.length≤1000)(e:∀v∈vs,∃t,ShT H n t v):∃ts,ShT H (n+1) (.tup ts) (.ref p):=by
 obtain⟨ts,l,z⟩:=zqy vs e
 exact⟨_,.tup h l b z⟩
theorem zjf{H:Hp}{n:Nat}{ns:List Int}:∀v∈ns.map V.int,∃t,ShT H n t v:=λv hv=>by
 obtain⟨i,_,rfl⟩:=List.mem_map.mp hv
 exact⟨_,.int i⟩
theorem zj9{n:Nat}{H:Hp}{a:Addr}{o:HO}(h:H a=some o):∀ns:List Int,Sps (Spo (n+1)) a o (ns.map V.int) H H
 | []=>rfl
 | i::ns=>⟨H,.inl ⟨i,rfl,rfl⟩,h,zj9 h ns⟩
theorem zk2{n:Nat}{H:Hp}{a:Addr}{ns:List Int}(h:H a=some (QH))(l:ns.length≤1000):Spo (n+2) H (.ref a) (upd H a (.lst ((ns++[7]).map V.int))) :=
 .inr (.inr ⟨a,_,H,rfl,h,by rw[ψb];exact l,zj9 h ns,by rw[ψK];rfl⟩)
theorem zvk{n:Nat}{H:Hp}{a:Addr}{q:Rat}(h:H a=some (.tup (fr q))):Spo (n+2) H (.ref a) H:=.inr (.inl ⟨a,_,rfl,h,zj9 h [q.num,(q.den:Int)]⟩)
theorem zsk{o:HO}{m:Addr}:∀(us:List Addr) (ys:List Mp) (H:Hp),Tps (λx=>[mt1 x,mt2 x]) H us ys→(∀y∈ys,H y.1=some (.lst (y.2.1.map V.int))∧y.2.1.length≤1000)→(m::ys.map λy=>y.1).Nodup→H m=some o →
  ∃H1,Sps (Spo 3) m o (us.map V.ref) H H1∧(∀y∈ys,H1 y.1=some (.lst ((y.2.1++[7]).map V.int)))∧∀a,(∀y∈ys,a≠y.1)→H1 a=H a
 | [],[],H,_,_,_,_=>⟨H,rfl,by simp,λ_ _=>rfl⟩
 | [],_::_,_,T,_,_,_=>by have:=T.1;simp at this
 | _::_,[],_,T,_,_,_=>by have:=T.1;simp at this
 | u::us,y::ys,H,T,hp,nd,hm=>by
  obtain⟨h1,h2⟩:=hp y ψe
  have tu:=T.2 0 u y rfl rfl
  obtain⟨n1,n2⟩:=List.nodup_cons.mp nd
  obtain⟨n3,n4⟩:=List.nodup_cons.mp n2
  replace n3:y.1∉ys.map λy=>y.1:=n3
  have my:m≠y.1:=λe=>n1 (by rw[e];exact ψe)
  have uy:u≠y.1:=λe=>by rw[e,h1] at tu;cases tu
  generalize hH2:upd H y.1 (.lst ((y.2.1++[7]).map V.int))=H2
  have k2:∀a,a≠y.1→H2 a=H a:=λa n=>by rw[← hH2,zaM n]
  obtain⟨H1,s1,p1,k1⟩:=zsk us ys H2 ⟨Nat.succ.inj T.1,λi t b e1 e2=>by
    have z:=T.2 (i+1) t b (by simpa using e1) (by simpa using e2)
    rw[k2 t λe=>by rw[e,h1] at z;cases z]
    exact z⟩ (λz hz=>by
    obtain⟨a1,a2⟩:=hp z (ψd _ hz)
    rw[k2 z.1 λe=>n3 (by rw[← e];exact List.mem_map.mpr ⟨z,hz,rfl⟩)]
    exact⟨a1,a2⟩) (List.nodup_cons.mpr ⟨λz=>n1 (ψd _ z),n4⟩) (by rw[k2 m my];exact hm)
  refine⟨H1,⟨H2,.inr (.inl ⟨u,_,rfl,tu,H2,?_,by rw[k2 u uy];exact tu,H2,.inl ⟨_,rfl,rfl⟩,by rw[k2 u uy];exact tu,rfl⟩),by rw[k2 m my];exact hm,s1⟩,λz hz=>?_,λa ha=>?_⟩
  ·rw[← hH2]
   exact zk2 h1 h2
  ·rcases List.mem_cons.mp hz with rfl | hz
   ·rw[k1 z.1 λw hw e=>n3 (by rw[e];exact List.mem_map.mpr ⟨w,hw,rfl⟩),← hH2,zai]
   ·exact p1 z hz
  ·rw[k1 a λw hw=>ha w (ψd _ hw)]
   exact k2 a (ha y ψe)
def ztu(K:ψa):Sp:=λvs H Q _=>∃(p:Addr) (ns:List Int),vs=[.ref p]∧SqL K H p (ns.map V.int)∧ns.length≤63∧(∀x∈ns,x.natAbs<2 ^ 2 ^ 20)∧∀H',Q (.bl true) H'
def zrh:TS :=
 (zdI (zeM (tB (zaA zki [] E0 (zab (tOp zxI (zac 4) (zlA (zab (zfq (zab (Qi) (zab (Qi) (zab (QU) zau)))) zau))) (zab (zac 5) (zab (zaA zdf [] E0 (zab (zac 6) (zab (zac 5) zau))) zau)))))) (Qt) zbU)
def za5:=eqT (zrh.eq_1)
def zng(K:ψa):TS :=
 (zbg (zgh (tBM K "list" zb8 (zac 6) (zab (zfq (zab (Qi) (zab (Qi) (zab (QU) zau)))) zau)))
 (zbg (zeK (zrh))
 (zbS (zfq (zab (zac 4) (zab (zac 5) zau))) (zam 1))))
def za0(K:ψa):=eqT (zng.eq_1 K)
def zrb(K:ψa):TS :=
 (zdI (tOr (zbZ (tOp (zxi K) (zaA zdf [] E0 (zab (zac 6) (zab (zac 5) zau))) (zac 8))) (zbZ (tOp (zxi K) (zac 7) (zac 12)))) (Qt) zbU)
def zaZ(K:ψa):=eqT (zrb.eq_1 K)
def zoe(K:ψa):TS :=
 (zbg (zgh (zaA zdf [] E0 (zab (Qav) (zab (QT) zau))))
 (zbg (zeK (zrb K))
 (zng K)))
def zcU(K:ψa):=eqT (zoe.eq_1 K)
def zoc(K:ψa):TS :=
 (zbg (zgh (zaA (zkq 4) [] E0 (zab (zac 7) zau)))
 (zbg (zbS (zaA (zlz 4) [] E0 (zab (zac 7) zau)) (zam 12))
 (zoe K)))
def za3(K:ψa):=eqT (zoc.eq_1 K)
def zsS(K:ψa):TS :=
 (zdI (zbZ (tOp (zxi K) (tOp (zbB K) (zac 7) (QU)) (zfq (zab (tOp zxI (tOp (zbB K) (zac 9) (Qn)) (zlA (zab (tC (.int 7)) zau))) (zab (tOp (zbB K) (zac 9) (Qi)) (zab (tOp (zbB K) (zac 9) (QU)) zau)))))) (Qt) zbU)
def za4(K:ψa):=eqT (zsS.eq_1 K)
def zrV(K:ψa):TS :=
 (zdI (zbZ (tOp (rNeI K) (zac 11) (zb1 (zij (zab (tCB (Qb) (zab (tOp (zbB K) (zac 7) (Qi)) zau)) zau)) (zam 0) za8 (tCB (λxs H Q=>(∃i,xs=[.int i]∧Q (.int i) H)∨∃k,xs=[.bl k]∧Q (.int (if k then 1 else 0)) H) (zab (tOp (Q6) (zac 0) (zac 1)) zau)) [none,some 10]))) (Qt) zbU)
def zcS(K:ψa):=eqT (zrV.eq_1 K)
def zqr(K:ψa):TS :=
 (zbg (zbS (zb1 (zcT K (tOp (zbB K) (zac 7) (Qi))) (Qm) za8 (tOp (QJ) (Qaq) (tCB (Qb) (Qap))) [none,none,some 4]) (zam 11))
 (zrV K))
def zcM(K:ψa):=eqT (zqr.eq_1 K)
def zsh(K:ψa):TS :=
 (zbg (zgh (tBM K "list" zb8 (tOp (zbB K) (tOp (zhx K) (tOp (zbB K) (zac 7) (Qi)) (zac 10)) (Qn)) (zab (tC (.int 7)) zau)))
 (zqr K))
def za1(K:ψa):=eqT (zsh.eq_1 K)
def znt(K:ψa):TS :=
 (zbg (zgh (tBM K "list" zb8 (tOp (zbB K) (tOp (zbB K) (zac 7) (QU)) (Qn)) (zab (tC (.int 7)) zau)))
 (zbg (zeK (zsS K))
 (zoc K)))
def za2(K:ψa):=eqT (znt.eq_1 K)
def zj4(K:ψa):TS :=
 (zbg (zjW (zij (zab (tCB (Qb) (zab (tOp (zbB K) (zac 7) (Qi)) zau)) zau)) (zam 10)
 (zsh K))
 (znt K))
def zco(K:ψa):=eqT (zj4.eq_1 K)
def zkb(K:ψa):TS :=
 (zbg (zbS (zfq (zab (tCB (Qr) (zab (tOp (zbB K) (tOp (zbB K) (zac 7) (QU)) (Qn)) zau)) (zab (tOp (zbB K) (tOp (zbB K) (zac 7) (QU)) (Qi)) (zab (tCB (Qr) (zab (tOp (zbB K) (tOp (zbB K) (zac 7) (QU)) (QU)) zau)) zau)))) (zam 9))
 (zj4 K))
def zcm(K:ψa):=eqT (zkb.eq_1 K)
def zo0(K:ψa):TS :=
 (zdI (tOr (zbZ (tOp (λx y H Q=>y=.non∧Q (.bl (!decide (x=.non))) H) (zaA zoU [] E0 (zab (zac 6) (zab (zac 5) (zab (tOp (zbB K) (zac 7) (Qn)) (zab (tOp (zbB K) (zac 7) (Qi)) (zab (tOp (zbB K) (zac 7) (QU)) zau)))))) (tC .non))) (zbZ (tOp (zxi K) (zac 6) (zac 4)))) (Qt) zbU)
def zaJ(K:ψa):=eqT (zo0.eq_1 K)
def zoh(K:ψa):TS :=
 (zdI (tOr (zeM (tB (zaA zki [] E0 (zab (zac 4) (zab (zac 5) (zab (zac 7) zau)))))) (zbZ (tOp (zxi K) (zac 6) (zac 4)))) (Qt) zbU)
def zaK(K:ψa):=eqT (zoh.eq_1 K)
def zov(K:ψa):TS :=
 (zbg (zbS (zaA zdf [] E0 (zab (zac 6) (zab (zac 5) zau))) (zam 7))
 (zbg (zeK (zoh K))
 (zbg (zeK (zo0 K))
 (zbg (zbS (zaA (zlz 4) [] E0 (zab (zac 7) zau)) (zam 8))
 (zkb K)))))
def zcl(K:ψa):=eqT (zov.eq_1 K)
def zkR(K:ψa):TS :=
 (zbg (zbS (tCB (Qr) (QaC)) (zam 6))
 (zov K))
def zck(K:ψa):=eqT (zkR.eq_1 K)
def zoN(K:ψa):TS :=
 (zbg (zbS (zaA zd0 [] E0 (zab (zac 3) (zab (tOp (zhx K) (zlA (zab (tC (.int 6)) (zab (tC (.int 61)) zau))) (zaA zd0 [] E0 (zab (zac 3) (zab (QU) zau)))) zau))) (zam 5))
 (zkR K))
def zcn(K:ψa):=eqT (zoN.eq_1 K)
def zkz(K:ψa):TS :=
 (zbg (zbS (zaA (zvp K) [] E0 (zab (zlA (Qap)) (zab (Qn) zau))) (zam 3))
 (zbg (zbS (zaA zlY [] E0 (zab (zac 3) (zab (tC (.int 3)) zau))) (zam 4))
 (zoN K)))
def zaI(K:ψa):=eqT (zkz.eq_1 K)
def zo6(K:ψa):TS :=
 (zbg (zjW (zcT K (tOp zxI (zlA (zab (Qn) zau)) (tSl (rSlL K) (zac 0) zkW (zu6 (tC (.int 40)))))) (zam 2)
 (zkz K))
 (zbP (tC (.bl true))))
def zcv(K:ψa):=eqT (zo6.eq_1 K)
def zwF(K:ψa):TS :=
 (zbg (zbS (zfq (zab (zlA (zab (zfq (zab (Qi) (zab (Qi) (zab (QU) zau)))) zau)) (zab (tC (.int 3)) zau))) (zam 1))
 (zo6 K))
abbrev s23(p0 la:Addr)(cell:Int)(p l:Addr)(bud:Int)(hd:Addr)(x7 x8 x9 xa xb xc:Option V):St:=[some (.ref p0),some (.ref la),some (.int cell),some (.ref p),some (.ref l),some (.int bud),some (.ref hd),x7,x8,x9,xa,xb,xc]
def LaH(H:Hp)(la:Addr):Prop:=∃(ll:Addr) (ts:List Addr) (bs:List Box) (bud:Int),H la=some (.tup [.ref ll,.int bud])∧Bx6 H ll ts bs∧0≤bud∧bud≤60
theorem LaH.same{H H':Hp}{la:Addr}(h:LaH H la)(s:zaF H H'):LaH H' la:=by
 obtain⟨ll,ts,bs,bud,a,b,c⟩:=h
 exact⟨ll,ts,bs,bud,s _ _ a,b.same s,c⟩
def zpP(W:Rat)(xs:List Pw)(Ws:List Int)(P:Rat)(ns:List Int):Tr:=.tup [.tup [.int W.num,.int (W.den:Int)],mixT xs,papT Ws P ns]
def b112:Box:=(1,1,2)
theorem Bx6.more{H:Hp}{l t:Addr}{ts:List Addr}{bs:List Box}(hl:H l=some (.lst (ts.map V.ref++[.ref t])))(T:Tps bx H ts bs)(ht:H t=some (.tup [.int 1,.int 1,.int 2]))(gb:∀b∈bs,GB b)(l5:bs.length≤5):Bx6 H l (ts++[t]) (bs++[b112]):=by
 refine⟨by rw[ψK];exact hl,T.app (Tps.single ht),λb hb=>?_,by simp,by simp;omega⟩
 rcases List.mem_append.mp hb with z | z
 ·exact gb b z
 ·rw[List.mem_singleton.mp z]
  refine⟨?_,?_,?_,?_,?_⟩ <;> decide
section
variable {G U:Hp} {p0 la p l hd r wr mr pr wl pp cl:Addr} {cell bud:Int} {ts us:List Addr} {bs:List Box} {W P:Rat} {xs ys:List Mp} {Ws ns:List Int} {D:zlp} {x7 x8 x9 xa xb xc:Option V}
theorem zqM(Y:Tl H bs bud r wr mr pr wl pp cl W P us xs Ws ns)(l6:bs.length≤6):ShT H 4 (zpP W (Qu) Ws P ns) (.ref r):=zhv Y.hr (zmp Y.hw (.int _) (.int _)) (zy4 Y.M (Y.mixg l6) l6) (zzI (m:=0) Y.pph l6)
theorem law_1(sG:zaF G H)(B:Bx6 G l ts bs)(l5:bs.length≤5)(fh:G hd=none)(hh:H hd=some (QG))(d0:0≤bud)(d1:bud≤60)
  (q:∀(la':Addr) (H':Hp),zaF G H'→LaH H' la'→D.nx (s23 p0 la' cell p l bud hd x7 x8 x9 xa xb xc) H'):zng K D (s23 p0 la cell p l bud hd x7 x8 x9 xa xb xc) H:=by
 have lt:=B.hb.1
 simp_all only [za5,za0,zaZ,za3,za4,za1,za2,zaJ,zaK,zaI,zac]
 refine⟨.inl ⟨rfl,_,SqL.of hh⟩,by decide,λt0 n0=>?_⟩
 have s1:=zan n0 (.tup [V.int 1,V.int 1,V.int 2])
 have h1:(L2.upd H t0 (.tup [V.int 1,V.int 1,V.int 2])) t0=some (.tup [V.int 1,V.int 1,V.int 2]):=zai
 generalize L2.upd H t0 (.tup [V.int 1,V.int 1,V.int 2])=H1 at s1 h1 ⊢
 refine⟨_,s1 _ _ hh,zbe (by rw[ψb];omega),?_⟩
 have e0:t0≠hd:=λe=>by
  have:=s1 _ _ hh
  rw[← e,h1] at this
  cases this
 have sG2:zaF G (upd H1 hd (.lst (ts.map V.ref++[V.ref t0]))):=(sG.trans s1).put fh
 have hh2:(upd H1 hd (.lst (ts.map V.ref++[V.ref t0]))) hd=some (.lst (ts.map V.ref++[V.ref t0])):=zai
 have ht2:(upd H1 hd (.lst (ts.map V.ref++[V.ref t0]))) t0=some (.tup [V.int 1,V.int 1,V.int 2]):=by rw[zaM e0];exact h1
 generalize upd H1 hd (.lst (ts.map V.ref++[V.ref t0]))=H2 at sG2 hh2 ht2 ⊢
 have B2:=B.same sG2
 have X2:=Bx6.more hh2 B2.hb ht2 B.gb l5
 refine⟨λσ H'=>zaF G H'∧σ=s23 p0 la cell p l bud hd x7 x8 x9 xa xb xc,?_,?_⟩
 ·simp_all only [za5,za0,zaZ,za3,za4,za1,za2,zaJ,zaK,zaI,zac]
  refine⟨by decide,λt1 f1=>?_⟩
  have s3:=zan f1 (.tup [V.int 1,V.int 1,V.int 2])
  have h3:(L2.upd H2 t1 (.tup [V.int 1,V.int 1,V.int 2])) t1=some (.tup [V.int 1,V.int 1,V.int 2]):=zai
  generalize L2.upd H2 t1 (.tup [V.int 1,V.int 1,V.int 2])=H3 at s3 h3 ⊢
  refine⟨by decide,λl1 g1=>?_⟩
  have s4:=zan g1 (.lst [V.ref t1])
  have h4:(L2.upd H3 l1 (.lst [V.ref t1])) l1=some (.lst [V.ref t1]):=zai
  generalize L2.upd H3 l1 (.lst [V.ref t1])=H4 at s4 h4 ⊢
  have B4:=B2.same (s3.trans s4)
  refine⟨_,B4.hl,_,h4,zbe (by rw[ψb];omega),λl4 f4=>?_⟩
  have s5:=zan f4 (.lst (ts.map V.ref++[V.ref t1]))
  have h5:(L2.upd H4 l4 (.lst (ts.map V.ref++[V.ref t1]))) l4=some (.lst (ts.map V.ref++[V.ref t1])):=zai
  generalize L2.upd H4 l4 (.lst (ts.map V.ref++[V.ref t1]))=H5 at s5 h5 ⊢
  have S5:=s3.trans (s4.trans s5)
  have X5:=X2.same S5
  have Z5:=Bx6.more h5 (B2.same S5).hb (s5 _ _ (s4 _ _ h3)) B.gb l5
  refine⟨hd,_,_,bud,rfl,X5.hl,X5.hb,X5.gb,X5.l1,X5.l6,d0,d1,λr wr mr pr wl pp cl W P us xs Ws ns H6 s6 b1 b2 b3 b4 b5 b6 b7 T TI nd fr=>?_⟩
  refine⟨l4,r,wr,mr,pr,wl,pp,cl,bud,_,_,W,P,us,xs,Ws,ns,rfl,Z5.same s6,⟨b1,b2,b3,b4,b5,b6,b7,T⟩,d0,d1,λH7 s7=>(Qal)⟩
  exact zb5 (Qk) (λ_=>sG2.trans (S5.trans (s6.trans s7)))
 rintro σ H3 ⟨s3,rfl⟩
 simp_all only [za5,za0,zaZ,za3,za4,za1,za2,zaJ,zaK,zaI,zac]
 refine⟨by decide,λla' f1=>q la' _ (s3.add f1) ⟨l,ts,bs,bud,zai,B.same (s3.add f1),d0,d1⟩⟩
theorem law_3{fi sp:V}{tt:List Tr}(sG:zaF G H)(La:LaH G la)(B:Bx6 G l ts bs)(l5:bs.length≤5)(fh:G hd=none)(hh:H hd=some (QG))(d0:0≤bud)(d1:bud≤60)
  (FI:ShT H 4 (zpP W (Qu) Ws P ns) fi) (TI:zjz bs bud W (Qu) Ws P ns) (h1:ShT H 4 (.tup tt) (QO)) (h2:ShT H 4 (.tup tt) sp)
  (q:∀(la':Addr) (H':Hp),zaF G H'→LaH H' la'→D.nx (s23 p0 la' cell p l bud hd (some (QO)) (some fi) x9 xa xb (some sp)) H'):zoe K D (s23 p0 la cell p l bud hd (some (QO)) (some fi) x9 xa xb (some sp)) H:=by
 obtain⟨ll,tl,bl,lb,hla,Bl,lb0,lb1⟩:=La.same sG
 (try simp only);first | rw[zcU] | rw[zcS] | rw[zcM] | rw[zco] | rw[zcm] | rw[zcl] | rw[zck] | rw[zcn] | rw[zcv]
 simp_all only [za5,za0,zaZ,za3,za4,za1,za2,zaJ,zaK,zaI,zac]
 refine⟨_,SqT.of hla,_,rfl,_,SqT.of hla,_,rfl,?_⟩
 refine⟨ll,tl,bl,lb,rfl,Bl.hl,Bl.hb,Bl.gb,Bl.l1,Bl.l6,lb0,lb1,λ_ _ _ _ _ _ _ _ _ _ _ _ _ H1 s1 _ _ _ _ _ _ _ _ _ _ _=>?_⟩
 have B1:=B.same (sG.trans s1)
 refine⟨λσ H'=>zaF H1 H'∧σ=s23 p0 la cell p l bud hd (some (QO)) (some fi) x9 xa xb (some sp),?_,?_⟩
 ·simp_all only [za5,za0,zaZ,za3,za4,za1,za2,zaJ,zaK,zaI,zac]
  refine⟨hd,ts,bs,bud,rfl,s1 _ _ hh,B1.hb,B.gb,B.l1,B.l6,d0,d1,λr' wr' mr' pr' wl' pp' cl' W' P' us' xs' Ws' ns' H2 s2 b1 b2 b3 b4 b5 b6 b7 T TI' nd fr=>?_⟩
  obtain⟨e1,e2,e3,e4,e5⟩:=TI'.det TI
  have t1:=zqM (H:=H2) ⟨b1,b2,b3,b4,b5,b6,b7,T⟩ B.l6
  rw[e1,e2,e3,e4,e5] at t1
  have t2:=(FI.same s1).same s2
  have S2:=s1.trans s2
  exact⟨3,by decide,_,.inr ⟨t1.shows,t2.shows⟩,3,by decide,_,.inr ⟨(h1.same S2).shows,(h2.same S2).shows⟩,s2⟩
 rintro σ H2 ⟨s2,rfl⟩
 exact law_1 (sG.trans (s1.trans s2)) B l5 fh (s2 _ _ (s1 _ _ hh)) d0 d1 q
theorem MxH.upd{a:Addr}{o:HO}(h:MxH H mr us ys)(n1:mr≠a)(n2:∀y∈ys,y.1≠a)(t:∀vs,H a≠some (.tup vs)):MxH (L2.upd H a o) mr us ys:=by
 refine⟨by rw[zaM n1];exact h.hm,⟨h.tp.1,λi u b e1 e2=>?_⟩,λy hy=>by rw[zaM (n2 y hy)];exact h.pl y hy⟩
 have z:=h.tp.2 i u b e1 e2
 rw[zaM λe=>t _ (by rw[← e];exact z)]
 exact z
structure Ts (H:Hp) (r wr mr pr wl pp cl:Addr) (W P:Rat) (us:List Addr) (ys:List Mp) (Ws ns:List Int):Prop where
 hr:H r=some (.tup [.ref wr,.ref mr,.ref pr])
 hw:H wr=some (QaG)
 M:MxH H mr us ys
 a1:H pr=some (Qaa)
 a2:H wl=some (Qaj)
 a3:H pp=some (.tup (fr P))
 a4:H cl=some (QH)
theorem Ts.same{H H':Hp}(h:Ts H r wr mr pr wl pp cl W P us ys Ws ns)(s:zaF H H'):Ts H' r wr mr pr wl pp cl W P us ys Ws ns:=⟨s _ _ h.hr,s _ _ h.hw,h.M.same s,s _ _ h.a1,s _ _ h.a2,s _ _ h.a3,s _ _ h.a4⟩
theorem Ts.spoil(h:Ts H r wr mr pr wl pp cl W P us ys Ws ns)(nd:(mr::wl::cl::ys.map λy=>y.1).Nodup)(lu:us.length≤100)(ly:∀y∈ys,y.2.1.length≤100)(lw:Ws.length≤100)(ln:ns.length≤100) :
  ∃H',Spo 5 H (QO) H'∧Out (mr::wl::cl::ys.map λy=>y.1) H'=Out (mr::wl::cl::ys.map λy=>y.1) H∧∃tt,ShT H' 4 (.tup tt) (.ref r):=by
 obtain⟨n1,n2⟩:=List.nodup_cons.mp nd
 obtain⟨n3,n4⟩:=List.nodup_cons.mp n2
 obtain⟨n5,n6⟩:=List.nodup_cons.mp n4
 have wm:wl≠mr:=λe=>n1 (by rw[e];exact ψe)
 have cm:cl≠mr:=λe=>n1 (by rw[e];exact ψd _ ψe)
 have cw:cl≠wl:=λe=>n3 (by rw[e];exact ψe)
 have ny:∀y∈ys,y.1≠mr∧y.1≠wl∧y.1≠cl:=λy hy=>by
  have m:y.1∈ys.map λy=>y.1:=List.mem_map.mpr ⟨y,hy,rfl⟩
  exact⟨λe=>n1 (by rw[← e];exact ψd _ (ψd _ m)),λe=>n3 (by rw[← e];exact ψd _ m),λe=>n5 (by rw[← e];exact m)⟩
 obtain⟨H1,sp,p1,k1⟩:=zsk us ys H h.M.tp (λy hy=>⟨h.M.pl y hy,by have:=ly y hy;omega⟩) (List.nodup_cons.mpr ⟨λz=>n1 (ψd _ (ψd _ z)),n6⟩) h.M.hm
 have kt:∀{a:Addr} {vs:List V},H a=some (.tup vs)→H1 a=some (.tup vs)∧a≠mr∧a≠wl∧a≠cl:=fun {a vs} e=>by
  refine⟨?_,λz=>?_,λz=>?_,λz=>?_⟩
  ·rw[k1 a λy hy z=>by rw[z,h.M.pl y hy] at e;cases e]
   exact e
  ·rw[z,h.M.hm] at e
   cases e
  ·rw[z,h.a2] at e
   cases e
  ·rw[z,h.a4] at e
   cases e
 generalize e2:upd H1 mr (.lst (us.map V.ref++[.int 7]))=H2
 have k2:∀a,a≠mr→H2 a=H1 a:=λa n=>by rw[← e2,zaM n]
 generalize e3:upd H2 wl (.lst ((Ws++[7]).map V.int))=H3
 have k3:∀a,a≠wl→H3 a=H2 a:=λa n=>by rw[← e3,zaM n]
 generalize e4:upd H3 cl (.lst ((ns++[7]).map V.int))=H4
 have k4:∀a,a≠cl→H4 a=H3 a:=λa n=>by rw[← e4,zaM n]
 have t2:∀{a:Addr} {vs:List V},H a=some (.tup vs)→H2 a=some (.tup vs):=fun {a vs} e=>by
  obtain⟨z1,z2,z3,z4⟩:=kt e
  rw[k2 a z2]
  exact z1
 have t3:∀{a:Addr} {vs:List V},H a=some (.tup vs)→H3 a=some (.tup vs):=fun {a vs} e=>by
  obtain⟨z1,z2,z3,z4⟩:=kt e
  rw[k3 a z3]
  exact t2 e
 have t4:∀{a:Addr} {vs:List V},H a=some (.tup vs)→H4 a=some (.tup vs):=fun {a vs} e=>by
  obtain⟨z1,z2,z3,z4⟩:=kt e
  rw[k4 a z4]
  exact t3 e
 have w2:H2 wl=some (.lst (Ws.map V.int)):=by
  rw[k2 wl wm,k1 wl λy hy e=>(ny y hy).2.1 e.symm]
  exact h.a2
 have c3:H3 cl=some (.lst (ns.map V.int)):=by
  rw[k3 cl cw,k2 cl cm,k1 cl λy hy e=>(ny y hy).2.2 e.symm]
  exact h.a4
 refine⟨H4,.inr (.inl ⟨r,_,rfl,h.hr,H,zvk (n:=2) h.hw,h.hr,H2,.inr (.inr ⟨mr,_,H1,rfl,h.M.hm,by rw[ψb];omega,sp,e2.symm⟩),t2 h.hr,H4,.inr (.inl ⟨pr,_,rfl,t2 h.a1,H3,?_,t3 h.a1,H3,zvk (n:=1) (t3 h.a3),t3 h.a1,H4,?_,t4 h.a1,rfl⟩),t4 h.hr,rfl⟩),?_,?_⟩
 ·rw[← e3]
  exact zk2 (n:=1) w2 (Qf)
 ·rw[← e4]
  exact zk2 (n:=1) c3 (Qf)
 ·funext a
  by_cases c:a∈(mr::wl::cl::ys.map λy=>y.1)
  ·unfold Out
   rw[if_pos c,if_pos c]
  ·rw[zhX c,zhX c]
   simp only[ψP,not_or] at c
   rw[k4 a c.2.2.1,k3 a c.2.1,k2 a c.1,k1 a λy hy e=>c.2.2.2 (by rw[e];exact List.mem_map.mpr ⟨y,hy,rfl⟩)]
 ·have hm4:H4 mr=some (.lst (us.map V.ref++[.int 7])):=by rw[k4 mr cm.symm,k3 mr wm.symm,← e2,zai]
  have hw4:H4 wl=some (.lst ((Ws++[7]).map V.int)):=by rw[k4 wl cw.symm,← e3,zai]
  have hc4:H4 cl=some (.lst ((ns++[7]).map V.int)):=by rw[← e4,zai]
  refine zlF (t4 h.hr) (by simp) λv hv=>?_
  simp only[ψP,ψF,or_false] at hv
  rcases hv with rfl | rfl | rfl
  ·obtain⟨t,e⟩:=zlF (n:=2) (t4 h.hw) (by simp) (zjf (ns:=[W.num,(W.den:Int)]))
   exact⟨_,e⟩
  ·refine zoi hm4 (by simp;omega) λv hv=>?_
   rcases List.mem_append.mp hv with hv | hv
   ·obtain⟨u,hu,rfl⟩:=List.mem_map.mp hv
    obtain⟨i,ei⟩:=ψp hu
    obtain⟨y,ey,hy⟩:=h.M.tp.at ei
    obtain⟨t,e⟩:=zlF (n:=1) (t4 hy) (by simp) λv hv=>by
     simp only[ψP,ψF,or_false] at hv
     rcases hv with rfl | rfl
     ·have m:=zao ey
      obtain⟨z1,z2,z3⟩:=ny y m
      refine zoi (n:=0) (by rw[k4 _ z3,k3 _ z2,k2 _ z1];exact p1 y m) (by have:=ly y m;simp;omega) zjf
     ·exact⟨_,.int _⟩
    exact⟨_,e⟩
   ·rw[List.mem_singleton.mp hv]
    exact⟨_,.int 7⟩
  ·obtain⟨t,e⟩:=zlF (n:=2) (t4 h.a1) (by simp) λv hv=>by
    simp only[ψP,ψF,or_false] at hv
    rcases hv with rfl | rfl | rfl
    ·exact zoi hw4 (by simp;omega) zjf
    ·obtain⟨t,e⟩:=zlF (n:=1) (t4 h.a3) (by simp) (zjf (ns:=[P.num,(P.den:Int)]))
     exact⟨_,e⟩
    ·exact zoi hc4 (by simp;omega) zjf
   exact⟨_,e⟩
theorem law_4{Vs:List Int}{fi:V}(h:Ts H r wr mr pr wl pp cl W P us ys Vs ns)(nd:(mr::wl::cl::ys.map λy=>y.1).Nodup)(lu:us.length≤100)(ly:∀y∈ys,y.2.1.length≤100)(lw:Vs.length≤100)(ln:ns.length≤100)(sU:zaF U (Out (mr::wl::cl::ys.map λy=>y.1) H))
  (gU:zaF G U) (La:LaH G la) (B:Bx6 G l ts bs) (l5:bs.length≤5) (fh:G hd=none) (hh:U hd=some (QG)) (d0:0≤bud) (d1:bud≤60) (FI:ShT U 4 (zpP W (Qu) Ws P ns) fi) (TI:zjz bs bud W (Qu) Ws P ns)
  (q:∀(la':Addr) (y:V) (H':Hp),zaF G H'→LaH H' la'→D.nx (s23 p0 la' cell p l bud hd (some (QO)) (some fi) x9 xa xb (some y)) H'):zoc K D (s23 p0 la cell p l bud hd (some (QO)) (some fi) x9 xa xb xc) H:=by
 obtain⟨H',sp,eO,tt,ht⟩:=h.spoil nd lu ly lw ln
 simp_all only [za5,za0,zaZ,za3,za4,za1,za2,zaJ,zaK,zaI,zac]
 refine⟨.ref r,H,H',rfl,.refl _,sp,λH1 s1=>?_⟩
 have sU1:zaF U H1:=by
  rw[← eO] at sU
  exact(sU.trans (zsY _ _)).trans s1
 refine⟨.ref r,_,rfl,ht.same s1,λy H2 s2 t2=>?_⟩
 have sU2:=sU1.trans s2
 exact law_3 (gU.trans sU2) La B l5 fh (sU2 _ _ hh) d0 d1 (FI.same sU2) TI ((ht.same s1).same s2) (t2.same zw3) λla' H'=>q la' y H'
theorem law_9{fi:V}{ke k1 k3:Addr}(h:Ts H r wr mr pr wl pp cl W P us ys Ws ns)(nd:(mr::wl::cl::ys.map λy=>y.1).Nodup)(lu:us.length≤100)(ly:∀y∈ys,y.2.1.length≤100)(lw:Ws.length≤90)(ln:ns.length≤90)(sU:zaF U (Out (mr::wl::cl::ys.map λy=>y.1) H))
  (hk:U ke=some (.tup [.ref k1,.ref pp,.ref k3])) (hk1:U k1=some (Qaj)) (hk3:U k3=some (QH))
  (gU:zaF G U) (La:LaH G la) (B:Bx6 G l ts bs) (l5:bs.length≤5) (fh:G hd=none) (hh:U hd=some (QG)) (d0:0≤bud) (d1:bud≤60) (FI:ShT U 4 (zpP W (Qu) Ws P ns) fi) (TI:zjz bs bud W (Qu) Ws P ns)
  (q:∀(la':Addr) (y:V) (H':Hp),zaF G H'→LaH H' la'→D.nx (s23 p0 la' cell p l bud hd (some (QO)) (some fi) (some (.ref ke)) xa xb (some y)) H'):znt K D (s23 p0 la cell p l bud hd (some (QO)) (some fi) (some (.ref ke)) xa xb xc) H:=by
 obtain⟨n1,n2⟩:=List.nodup_cons.mp nd
 obtain⟨n3,n4⟩:=List.nodup_cons.mp n2
 simp_all only [za5,za0,zaZ,za3,za4,za1,za2,zaJ,zaK,zaI,zac]
 refine⟨_,SqT.of h.hr,_,rfl,_,rfl,_,SqT.of h.a1,_,rfl,.inl ⟨rfl,_,SqL.of h.a2⟩,_,rfl,_,h.a2,zbe (by rw[ψb];omega),?_⟩
 have e7:Ws.map V.int++[V.int 7]=(Ws++[7]).map V.int:=by rw[ψK];rfl
 rw[e7]
 have nt:∀vs,H wl≠some (.tup vs):=λvs e=>by rw[h.a2] at e;cases e
 have kt:∀{a:Addr} {vs:List V},H a=some (.tup vs)→(upd H wl (.lst ((Ws++[7]).map V.int))) a=some (.tup vs):=fun {a vs} e=>by
  rw[zaM λz=>nt vs (by rw[← z];exact e)]
  exact e
 have h1:Ts (upd H wl (.lst ((Ws++[7]).map V.int))) r wr mr pr wl pp cl W P us ys (Ws++[7]) ns :=
  ⟨kt h.hr,kt h.hw,h.M.upd (λe=>n1 (by rw[e];exact ψe)) (λy hy e=>n3 (by rw[← e];exact ψd _ (List.mem_map.mpr ⟨y,hy,rfl⟩))) nt,kt h.a1,zai,kt h.a3,by rw[zaM λe=>n3 (by rw[← e];exact ψe)];exact h.a4⟩
 rw[← zsr (o:=.lst ((Ws++[7]).map V.int)) (ψd _ ψe)] at sU
 generalize upd H wl (.lst ((Ws++[7]).map V.int))=H1 at sU h1 ⊢
 have s0:=sU.trans (zsY _ _)
 refine⟨λσ H'=>zaF H1 H'∧σ=s23 p0 la cell p l bud hd (some (QO)) (some fi) (some (.ref ke)) xa xb xc,?_,?_⟩
 ·simp_all only [za5,za0,zaZ,za3,za4,za1,za2,zaJ,zaK,zaI,zac]
  refine⟨_,SqT.of h1.hr,_,rfl,_,SqT.of (s0 _ _ hk),_,rfl,by decide,λq1 f1=>?_⟩
  have s2:=zan f1 (.lst [V.int 7])
  have g2:(L2.upd H1 q1 (.lst [V.int 7])) q1=some (.lst [V.int 7]):=zai
  generalize L2.upd H1 q1 (.lst [V.int 7])=H2 at s2 g2 ⊢
  refine⟨k1,rfl,_,s2 _ _ (s0 _ _ hk1),_,g2,zbe (by rw[ψb];omega),λc1 f2=>?_⟩
  have s3:=zan f2 (.lst (Ws.map V.int++[V.int 7]))
  have g3:(L2.upd H2 c1 (.lst (Ws.map V.int++[V.int 7]))) c1=some (.lst (Ws.map V.int++[V.int 7])):=zai
  generalize L2.upd H2 c1 (.lst (Ws.map V.int++[V.int 7]))=H3 at s3 g3 ⊢
  have S3:=s2.trans s3
  refine⟨_,SqT.of (S3 _ _ (s0 _ _ hk)),_,rfl,_,SqT.of (S3 _ _ (s0 _ _ hk)),_,rfl,by decide,λc2 f3=>?_⟩
  have s4:=zan f3 (.tup [V.ref c1,V.ref pp,V.ref k3])
  have g4:(L2.upd H3 c2 (.tup [V.ref c1,V.ref pp,V.ref k3])) c2=some (.tup [V.ref c1,V.ref pp,V.ref k3]):=zai
  generalize L2.upd H3 c2 (.tup [V.ref c1,V.ref pp,V.ref k3])=H4 at s4 g4 ⊢
  have S4:=S3.trans s4
  have h4:=h1.same S4
  rw[e7] at g3
  refine⟨2,by decide,[inT (Ws++[7]),.tup [.int P.num,.int (P.den:Int)],inT ns],.inr ⟨?_,?_⟩,S4⟩
  ·exact(zhv h4.a1 (zg1 h4.a2 (by simp;omega)) (zmp h4.a3 (.int _) (.int _)) (zg1 h4.a4 (Qf))).shows
  ·exact(zhv g4 (zg1 (s4 _ _ g3) (by simp;omega)) (zmp h4.a3 (.int _) (.int _)) (zg1 (S4 _ _ (s0 _ _ hk3)) (Qf))).shows
 rintro σ H2 ⟨s2,rfl⟩
 exact law_4 (h1.same s2) nd lu ly (by simp;omega) (Qf) (sU.trans (zk3 _ s2)) gU La B l5 fh hh d0 d1 FI TI q
def zte(i j:Nat)(x:Mp):Mp:=(x.1,if j<i then x.2.1++[7] else x.2.1,x.2.2)
def zfp(i:Nat)(xs:List Mp):List Mp:=xs.mapIdx (zte i)
theorem zjh{i j:Nat}{xs:List Mp}{x:Mp}(e:xs[j]?=some x):(zfp i xs)[j]?=some (zte i j x):=by rw[zfp,ψM1,e];rfl
theorem zqL{i:Nat}{xs:List Mp}{y:Mp}(h:y∈zfp i xs):∃j x,xs[j]?=some x∧y=zte i j x:=by
 obtain⟨j,ej⟩:=ψp h
 rw[zfp,ψM1] at ej
 obtain⟨x,ex,e⟩:=Option.map_eq_some_iff.mp ej
 exact⟨j,x,ex,e.symm⟩
theorem zqA(i:Nat)(xs:List Mp):(zfp i xs).map (λy=>y.1)=xs.map λy=>y.1:=by
 refine List.ext_getElem? λj=>?_
 rw[ψt,ψt,zfp,ψM1]
 cases xs[j]? <;> rfl
theorem zus(xs:List Mp):zfp 0 xs=xs:=by
 refine List.ext_getElem? λj=>?_
 rw[zfp,ψM1]
 cases xs[j]? <;> simp[zte]
theorem zvU{i k:Nat}(h:Tps (λx=>[mt1 x,mt2 x]) H us (zfp i xs)):Tps (λx=>[mt1 x,mt2 x]) H us (zfp k xs):=by
 refine⟨by rw[h.1,zfp,zfp,List.length_mapIdx,List.length_mapIdx],λj u b e1 e2=>?_⟩
 rw[zfp,ψM1] at e2
 obtain⟨x,ex,e⟩:=Option.map_eq_some_iff.mp e2
 have:=h.2 j u _ e1 (zjh ex)
 rw[← e]
 exact this
theorem nd_at{i j:Nat}{x y:Mp}(nd:(xs.map λy=>y.1).Nodup)(e1:xs[i]?=some x)(e2:xs[j]?=some y)(e:x.1=y.1):i=j:=by
 have h1:(xs.map λy=>y.1)[i]?=some x.1:=by rw[ψt,e1];rfl
 have h2:(xs.map λy=>y.1)[j]?=some x.1:=by rw[ψt,e2,e];rfl
 exact(List.getElem?_inj (List.getElem?_eq_some_iff.mp h1).1 nd).mp (h1.trans h2.symm)
theorem Ts.next{i:Nat}{x:Mp}(h:Ts H r wr mr pr wl pp cl W P us (zfp i xs) Ws ns)(nd:(mr::wl::cl::xs.map λy=>y.1).Nodup)(e:xs[i]?=some x):Ts (upd H x.1 (.lst ((x.2.1++[7]).map V.int))) r wr mr pr wl pp cl W P us (zfp (i+1) xs) Ws ns:=by
 obtain⟨n1,n2⟩:=List.nodup_cons.mp nd
 obtain⟨n3,n4⟩:=List.nodup_cons.mp n2
 obtain⟨n5,n6⟩:=List.nodup_cons.mp n4
 have mx:x.1∈xs.map λy=>y.1:=List.mem_map.mpr ⟨x,zao e,rfl⟩
 have hx:H x.1=some (.lst ((zte i i x).2.1.map V.int)):=h.M.pl _ (zao (zjh e))
 have kt:∀{a:Addr} {vs:List V},H a=some (.tup vs)→(upd H x.1 (.lst ((x.2.1++[7]).map V.int))) a=some (.tup vs):=fun {a vs} z=>by
  rw[zaM λc=>by rw[c,hx] at z;cases z]
  exact z
 refine⟨kt h.hr,kt h.hw,⟨?_,?_,λy hy=>?_⟩,kt h.a1,?_,kt h.a3,?_⟩
 ·rw[zaM λc=>n1 (by rw[c];exact ψd _ (ψd _ mx))]
  exact h.M.hm
 ·exact zvU (i:=i) ⟨h.M.tp.1,λj u b e1 e2=>kt (h.M.tp.2 j u b e1 e2)⟩
 ·obtain⟨j,z,ez,rfl⟩:=zqL hy
  by_cases c:j=i
  ·subst c
   rw[e] at ez
   cases ez
   show upd H x.1 _ x.1=some (.lst ((if j<j+1 then x.2.1++[7] else x.2.1).map V.int))
   rw[zai,if_pos (Qf)]
  ·show upd H x.1 _ z.1=_
   rw[zaM λd=>c (nd_at n6 ez e d)]
   have:=h.M.pl _ (zao (zjh ez))
   have w:zte (i+1) j z=zte i j z:=by
    unfold zte
    by_cases d:j<i
    ·rw[if_pos d,if_pos (Qf)]
    ·rw[if_neg d,if_neg (Qf)]
   rw[w]
   exact this
 ·rw[zaM λc=>n3 (by rw[c];exact ψd _ mx)]
  exact h.a2
 ·rw[zaM λc=>n5 (by rw[c];exact mx)]
  exact h.a4
def szs(n i:Nat):List Int:=(ψs1 n).map λj=>if j<i+1 then 1 else 0
theorem ziL(n i:Nat):(szs n i).length=n:=by rw[szs,ψb,List.length_range]
theorem zvw{n i j:Nat}{z:Int}(e:(szs n i)[j]?=some z):j<n∧z=if j<i+1 then 1 else 0:=by
 have l:=(List.getElem?_eq_some_iff.mp e).1
 rw[ziL] at l
 rw[szs,ψt,List.getElem?_range l] at e
 exact⟨l,(Option.some.inj e).symm⟩
theorem zxP{fi:V}{ke k1 k3:Addr}(h:Ts H r wr mr pr wl pp cl W P us xs Ws ns)(nd:(mr::wl::cl::xs.map λy=>y.1).Nodup)(lx:xs.length≤90)(ly:∀y∈xs,y.2.1.length=bs.length)(lw:Ws.length≤90)(ln:ns.length≤90)(sU:zaF U (Out (mr::wl::cl::xs.map λy=>y.1) H))
  (hk:U ke=some (.tup [.ref k1,.ref pp,.ref k3])) (hk1:U k1=some (Qaj)) (hk3:U k3=some (QH))
  (gU:zaF G U) (La:LaH G la) (B:Bx6 G l ts bs) (l5:bs.length≤5) (fh:G hd=none) (hh:U hd=some (QG)) (d0:0≤bud) (d1:bud≤60) (FI:ShT U 4 (zpP W (Qu) Ws P ns) fi) (TI:zjz bs bud W (Qu) Ws P ns)
  (q:∀(la':Addr) (ya yb:Option V) (y:V) (H':Hp),zaF G H'→LaH H' la'→D.nx (s23 p0 la' cell p l bud hd (some (QO)) (some fi) (some (.ref ke)) ya yb (some y)) H'):zj4 K D (s23 p0 la cell p l bud hd (some (QO)) (some fi) (some (.ref ke)) xa xb xc) H:=by
 have lu:=h.M.tp.1
 (try simp only);first | rw[zcU] | rw[zcS] | rw[zcM] | rw[zco] | rw[zcm] | rw[zcl] | rw[zck] | rw[zcn] | rw[zcv]
 simp_all only [za5,za0,zaZ,za3,za4,za1,za2,zaJ,zaK,zaI,zac]
 refine⟨_,SqT.of h.hr,_,rfl,mr,rfl,_,.inl (SqL.of h.M.hm),?_⟩
 have el:((us.map V.ref).length:Int).toNat=xs.length:=by rw[ψb,lu];omega
 rw[el]
 have nS:∀{i:Nat} {x:Mp},xs[i]?=some x→x.1∈mr::wl::cl::xs.map λy=>y.1:=fun {i x} e=>ψd _ (ψd _ (ψd _ (List.mem_map.mpr ⟨x,zao e,rfl⟩)))
 refine⟨by omega,by rw[ψb];omega,?_⟩
 refine zeU (λi σ H'=>zaF U (Out (mr::wl::cl::xs.map λy=>y.1) H')∧Ts H' r wr mr pr wl pp cl W P us (zfp i xs) Ws ns∧∃ya yb,σ=s23 p0 la cell p l bud hd (some (QO)) (some fi) (some (.ref ke)) ya yb xc) ⟨sU,by rw[zus];exact h,_,_,rfl⟩ ?_ ?_
 ·rintro i σ H1 hi ⟨s1,h1,ya,yb,rfl⟩
  obtain⟨x,ex⟩:∃x,xs[i]?=some x:=⟨xs[i],ψc hi⟩
  obtain⟨u,eu⟩:∃u,us[i]?=some u:=⟨us[i]'(by omega),ψc _⟩
  have tu:=h1.M.tp.2 i u _ eu (zjh ex)
  have hx:H1 x.1=some (.lst (x.2.1.map V.int)):=by
   have:=h1.M.pl _ (zao (zjh ex))
   rw[show(zte i i x).2.1=x.2.1 from if_neg (Qf)] at this
   exact this
  have lxi:=ly x (zao ex)
  simp_all only [za5,za0,zaZ,za3,za4,za1,za2,zaJ,zaK,zaI,zac]
  refine⟨_,SqT.of h1.hr,_,rfl,mr,rfl,_,SqL.of h1.M.hm,V.ref u,by rw[Int.zero_add];exact zeG (by rw[ψt,eu];rfl),?_⟩
  refine⟨u,rfl,_,SqT.of tu,V.ref x.1,rfl,.inl ⟨rfl,_,SqL.of hx⟩,x.1,rfl,_,hx,zbe (by rw[ψb];omega),?_⟩
  have e7:x.2.1.map V.int++[V.int 7]=(x.2.1++[7]).map V.int:=by rw[ψK];rfl
  rw[e7]
  have h2:=h1.next nd ex
  rw[← zsr (o:=.lst ((x.2.1++[7]).map V.int)) (nS ex)] at s1
  generalize upd H1 x.1 (.lst ((x.2.1++[7]).map V.int))=H2 at s1 h2 ⊢
  have B2:=B.same ((gU.trans s1).trans (zsY _ _))
  have lp:(zfp (i+1) xs).length=xs.length:=by rw[zfp,List.length_mapIdx]
  (try simp only);first | rw[zcU] | rw[zcS] | rw[zcM] | rw[zco] | rw[zcm] | rw[zcl] | rw[zck] | rw[zcn] | rw[zcv]
  simp_all only [za5,za0,zaZ,za3,za4,za1,za2,zaJ,zaK,zaI,zac]
  refine⟨_,SqT.of h2.hr,_,rfl,mr,rfl,⟨_,SqL.of h2.M.hm⟩,λD2 f2=>?_⟩
  refine zdr (vs:=(szs xs.length i).map V.int) h2.M.hm h2.M.tp (by rw[ψb,ziL,lp]) (by rw[ψb,ziL];omega) f2 (λj y v H' R hy hv s k=>?_) λH3 s3 h3=>?_
  ·obtain⟨z,ez,rfl⟩:=zas hv
   obtain⟨lj,rfl⟩:=zvw ez
   obtain⟨x',ex'⟩:∃x,xs[j]?=some x:=⟨xs[j],ψc lj⟩
   rw[zjh ex'] at hy
   cases hy
   have:=ly x' (zao ex')
   have lt:=B.hb.1
   simp_all only [za5,za0,zaZ,za3,za4,za1,za2,zaJ,zaK,zaI,zac]
   refine⟨_,.inl (SqL.of (s _ _ (h2.M.pl _ (zao (zjh ex'))))),_,.inl (SqL.of (s _ _ B2.hl)),?_⟩
   have e:(((zte (i+1) j x').2.1.map V.int).length:Int) - ((ts.map V.ref).length:Int)=if j<i+1 then 1 else 0:=by
    rw[ψb,ψb]
    show((if j<i+1 then x'.2.1++[7] else x'.2.1).length:Int) - _=_
    split
    ·rw[ψR,List.length_singleton]
     omega
    ·omega
   rw[e]
   exact k _ (.refl _)
  (try simp only);first | rw[zcU] | rw[zcS] | rw[zcM] | rw[zco] | rw[zcm] | rw[zcl] | rw[zck] | rw[zcn] | rw[zcv]
  simp_all only [za5,za0,zaZ,za3,za4,za1,za2,zaJ,zaK,zaI,zac]
  have h3':=h2.same s3
  refine⟨_,SqT.of h3'.hr,_,rfl,mr,rfl,_,.inl (SqL.of h3'.M.hm),by omega,by rw[ψb];omega,λD3 f3=>?_⟩
  rw[el]
  refine zne (vs:=(szs xs.length i).map V.int) (by rw[ψb,ziL]) (by rw[ψb,ziL];omega) f3 (λj v H' R lj hv s k=>?_) λH4 s4 h4=>?_
  ·obtain⟨z,ez,rfl⟩:=zas hv
   obtain⟨_,rfl⟩:=zvw ez
   simp_all only [za5,za0,zaZ,za3,za4,za1,za2,zaJ,zaK,zaI,zac]
   have e:(if (0:Int)+(j:Int)≤0+(i:Int) then (1:Int) else 0)=if j<i+1 then 1 else 0:=by
    by_cases c:j<i+1
    ·rw[if_pos c,if_pos (Qf)]
    ·rw[if_neg c,if_neg (Qf)]
   refine .inr ?_
   rw[e]
   exact k _ (.refl _)
  have S4:=s3.trans s4
  exact⟨D3,rfl,_,SqL.of (s4 _ _ h3),_,SqL.of h4,zb5 (QK) (λ_=>⟨s1.trans (zk3 _ S4),h2.same S4⟩)⟩
 ·rintro σ H1 ⟨s1,h1,ya,yb,rfl⟩
  refine law_9 h1 (by rw[zqA];exact nd) (Qf) (λy hy=>?_) lw ln (by rw[zqA];exact s1) hk hk1 hk3 gU La B l5 fh hh d0 d1 FI TI λla'=>q la' ya yb
  obtain⟨j,z,ez,rfl⟩:=zqL hy
  have:=ly z (zao ez)
  show(if j<xs.length then z.2.1++[7] else z.2.1).length≤100
  split
  ·rw[ψR,List.length_singleton]
   omega
  ·omega
theorem Ts.inS(h:Ts H r wr mr pr wl pp cl W P us xs Ws ns){a:Addr}(f:H a=none):a∉mr::wl::cl::xs.map λy=>y.1:=λm=>by
 have key:∃o,H a=some o:=by
  rcases List.mem_cons.mp m with rfl | m
  ·exact⟨_,h.M.hm⟩
  rcases List.mem_cons.mp m with rfl | m
  ·exact⟨_,h.a2⟩
  rcases List.mem_cons.mp m with rfl | m
  ·exact⟨_,h.a4⟩
  obtain⟨y,hy,rfl⟩:=List.mem_map.mp m
  exact⟨_,h.M.pl y hy⟩
 obtain⟨o,e⟩:=key
 rw[f] at e
 cases e
theorem zzJ{fi:V}(h:Ts H r wr mr pr wl pp cl W P us xs Ws ns)(nd:(mr::wl::cl::xs.map λy=>y.1).Nodup)(lx:xs.length≤90)(ly:∀y∈xs,y.2.1.length=bs.length)(lw:Ws.length≤90)(ln:ns.length≤90)(sU:zaF U (Out (mr::wl::cl::xs.map λy=>y.1) H))
  (gU:zaF G U) (La:LaH G la) (B:Bx6 G l ts bs) (l5:bs.length≤5) (fh:G hd=none) (hh:U hd=some (QG)) (d0:0≤bud) (d1:bud≤60) (FI:ShT U 4 (zpP W (Qu) Ws P ns) fi) (TI:zjz bs bud W (Qu) Ws P ns)
  (q:∀(la':Addr) (y9 ya yb:Option V) (y:V) (H':Hp),zaF G H'→LaH H' la'→D.nx (s23 p0 la' cell p l bud hd (some (QO)) (some fi) y9 ya yb (some y)) H'):zkb K D (s23 p0 la cell p l bud hd (some (QO)) (some fi) x9 xa xb xc) H:=by
 (try simp only);first | rw[zcU] | rw[zcS] | rw[zcM] | rw[zco] | rw[zcm] | rw[zcl] | rw[zck] | rw[zcn] | rw[zcv]
 simp_all only [za5,za0,zaZ,za3,za4,za1,za2,zaJ,zaK,zaI,zac]
 refine⟨_,SqT.of h.hr,_,rfl,pr,rfl,_,SqT.of h.a1,_,rfl,wl,rfl,_,.inl (SqL.of h.a2),λk1 f1=>?_⟩
 have s1:=zan f1 (Qaj)
 have g1:(L2.upd H k1 (Qaj)) k1=some (.lst (Ws.map V.int)):=zai
 generalize L2.upd H k1 (.lst (Ws.map V.int))=H1 at s1 g1 ⊢
 have h1:=h.same s1
 refine⟨_,SqT.of h1.hr,_,rfl,pr,rfl,_,SqT.of h1.a1,_,rfl,_,SqT.of h1.hr,_,rfl,pr,rfl,_,SqT.of h1.a1,_,rfl,cl,rfl,_,.inl (SqL.of h1.a4),λk3 f3=>?_⟩
 have s2:=zan f3 (QH)
 have g2:(L2.upd H1 k3 (QH)) k3=some (.lst (ns.map V.int)):=zai
 generalize L2.upd H1 k3 (.lst (ns.map V.int))=H2 at s2 g2 ⊢
 have h2:=h1.same s2
 refine⟨by decide,λke fk=>?_⟩
 have s3:=zan fk (.tup [V.ref k1,V.ref pp,V.ref k3])
 have g3:(L2.upd H2 ke (.tup [V.ref k1,V.ref pp,V.ref k3])) ke=some (.tup [V.ref k1,V.ref pp,V.ref k3]):=zai
 generalize L2.upd H2 ke (.tup [V.ref k1,V.ref pp,V.ref k3])=H3 at s3 g3 ⊢
 have h3:=h2.same s3
 have s23:=s2.trans s3
 have sU':=sU.trans (zk3 _ (s1.trans s23))
 exact zxP h3 nd lx ly lw ln (.refl _) (by rw[zhX (h2.inS fk)];exact g3) (by rw[zhX (h.inS f1)];exact s23 _ _ g1) (by rw[zhX (h1.inS f3)];exact s3 _ _ g2) (gU.trans sU') La B l5 fh (sU' _ _ hh) d0 d1 (FI.same sU') TI λla'=>q la' _
theorem zyn(sG:zaF G H)(La:LaH G la)(B:Bx6 G l ts bs)(l5:bs.length≤5)(d0:0≤bud)(d1:bud≤60){x6:Option V}
  (q:∀(la':Addr) (y6 y7 y8 y9 ya yb yc:Option V) (H':Hp),zaF G H'→LaH H' la'→D.nx [some (.ref p0),some (.ref la'),some (.int cell),some (.ref p),some (.ref l),some (.int bud),y6,y7,y8,y9,ya,yb,yc] H') :
  zkR K D [some (.ref p0),some (.ref la),some (.int cell),some (.ref p),some (.ref l),some (.int bud),x6,x7,x8,x9,xa,xb,xc] H:=by
 have l6:=B.l6
 have lt:=B.hb.1
 (try simp only);first | rw[zcU] | rw[zcS] | rw[zcM] | rw[zco] | rw[zcm] | rw[zcl] | rw[zck] | rw[zcn] | rw[zcv]
 simp_all only [za5,za0,zaZ,za3,za4,za1,za2,zaJ,zaK,zaI,zac]
 have BH:=B.same sG
 refine⟨_,.inl (SqL.of BH.hl),λhd fh=>?_⟩
 have s1:=zan fh (QG)
 have h1:(L2.upd H hd (QG)) hd=some (.lst (ts.map V.ref)):=zai
 generalize L2.upd H hd (.lst (ts.map V.ref))=H1 at s1 h1 ⊢
 have sG1:=sG.trans s1
 have B1:=B.same sG1
 (try simp only);first | rw[zcU] | rw[zcS] | rw[zcM] | rw[zco] | rw[zcm] | rw[zcl] | rw[zck] | rw[zcn] | rw[zcv]
 simp_all only [za5,za0,zaZ,za3,za4,za1,za2,zaJ,zaK,zaI,zac]
 refine⟨hd,ts,bs,bud,rfl,h1,B1.hb,B.gb,B.l1,B.l6,d0,d1,λr wr mr pr wl pp cl W P us xs Ws ns H2 s2 b1 b2 b3 b4 b5 b6 b7 T TI nd fr=>?_⟩
 have Y:Tl H2 bs bud r wr mr pr wl pp cl W P us xs Ws ns:=⟨b1,b2,b3,b4,b5,b6,b7,T⟩
 have sG2:=sG1.trans s2
 have X1:Bx6 H1 hd ts bs:=⟨h1,B1.hb,B.gb,B.l1,B.l6⟩
 refine⟨λσ H'=>zaF H2 H'∧σ=s23 p0 la cell p l bud hd (some (QO)) x8 x9 xa xb xc,?_,?_⟩
 ·simp_all only [za5,za0,zaZ,za3,za4,za1,za2,zaJ,zaK,zaI,zac]
  refine⟨l,r,wr,mr,pr,wl,pp,cl,bud,ts,bs,W,P,us,xs,Ws,ns,rfl,B.same sG2,Y,d0,d1,λH3 s3=>(Qal)⟩
  exact zb5 (Qk) (λ_=>⟨1,by decide,_,.inl ⟨(zol (m:=0) (X1.same (s2.trans s3))).shows,(zol (m:=0) (B.same (sG2.trans s3))).shows⟩,s3⟩)
 rintro σ H3 ⟨s3,rfl⟩
 have Y3:=Y.same s3
 have X3:=X1.same (s2.trans s3)
 have B3:=B.same (sG2.trans s3)
 refine⟨λσ H'=>zaF H3 H'∧σ=s23 p0 la cell p l bud hd (some (QO)) x8 x9 xa xb xc,?_,?_⟩
 ·simp_all only [za5,za0,zaZ,za3,za4,za1,za2,zaJ,zaK,zaI,zac]
  refine⟨_,SqT.of Y3.hr,_,rfl,_,SqT.of Y3.hr,_,rfl,_,SqT.of Y3.hr,_,rfl,?_⟩
  refine⟨hd,wr,mr,pr,bud,ts,bs,us,xs,W,P,Ws,ns,rfl,X3,Y3.hw,Y3.bW,Y3.M,Y3.mixg l6,Y3.pph,d0,d1,λvj H5 s5 J=>?_⟩
  have e:vj=.non:=by
   rcases J with ⟨_,_,e⟩ | ⟨n,_⟩ | ⟨_,n,_⟩
   ·exact e
   ·exact absurd ⟨Y3.okm,Y3.T.seek⟩ n
   ·exact absurd ⟨Y3.okh B.l1,Y3.T.hide⟩ n
  exact zb5 (λz=>absurd e z) (λ_=>⟨1,by decide,_,.inl ⟨(zol (m:=0) (X3.same s5)).shows,(zol (m:=0) (B3.same s5)).shows⟩,s5⟩)
 rintro σ H4 ⟨s4,rfl⟩
 have Y4:=Y3.same s4
 simp_all only [za5,za0,zaZ,za3,za4,za1,za2,zaJ,zaK,zaI,zac]
 refine⟨.ref r,_,rfl,zqM Y4 l6,λy H5 s5 t5=>?_⟩
 have h4:Ts H4 r wr mr pr wl pp cl W P us xs Ws ns:=⟨Y4.hr,Y4.hw,Y4.M,Y4.a1,Y4.a2,Y4.a3,Y4.a4⟩
 have sO:zaF H1 (Out (mr::wl::cl::xs.map λy=>y.1) H5):=zxt (s2.trans (s3.trans (s4.trans s5))) fr
 have sN:zaF (Nw H4 H5) (Out (mr::wl::cl::xs.map λy=>y.1) H5):=λa o z=>by
  obtain⟨z1,z2⟩:=zpB z
  rw[zhX (h4.inS z1)]
  exact z2
 have lx:=Y.len.2
 have lw:=T.lw
 have ln:=T.ln
 exact zzJ (h4.same s5) nd (Qf) (λy hy=>(Y.gt y hy).1) (Qf) (Qf) (.refl _) (sG1.trans sO) La B l5 (sG.free fh) (sO _ _ h1) d0 d1 (t5.same sN) TI λla' y9 ya yb y H'=>q la' _ _ _ y9 ya yb _ H'
end
open HT in
theorem zzj(xs:List V)(k:Nat):zpA xs none (some (k:Int))=xs.take k:=by
 unfold zpA
 rw[zrR,zog,List.drop_zero,Nat.sub_zero]
 by_cases c:k≤xs.length
 ·rw[Nat.min_eq_left c]
 ·rw[Nat.min_eq_right (Qf),ψV (ψj _),ψV (Qf)]
open HT in
theorem zyA(ns:List Int):zpA (ns.map V.int) none (some 40)=(ns.take 40).map V.int:=by
 rw[show(some (40:Int))=some ((40:Nat):Int) from rfl,zzj,List.map_take]
theorem zzd{p0:Addr}{ns:List Int}(hS:SqL K H p0 (ns.map V.int))(hl:ns.length≤63)(hb:∀x∈ns,x.natAbs<2 ^ 2 ^ 20)(q:∀H',Q (.bl true) H') :
  zwF K { nx:=λ_ H'=>Q .non H',rt:=Q } (L2.start ["_law_script","_law_last","_law_cell","_law_left_here","_law_boxes_here","_law_budget","_law_handed","_law_told","_law_first","_law_kept","_law_k","_law_sizes","_law_spoilt"] [.ref p0]) H:=by
 unfold zwF
 simp_all only [za5,za0,zaZ,za3,za4,za1,za2,zaJ,zaK,zaI,zac]
 refine⟨by decide,λb1 f1=>?_⟩
 have s1:=zan f1 (.tup [V.int 1,V.int 1,V.int 2])
 have h1:(L2.upd H b1 (.tup [V.int 1,V.int 1,V.int 2])) b1=some (.tup [V.int 1,V.int 1,V.int 2]):=zai
 generalize L2.upd H b1 (.tup [V.int 1,V.int 1,V.int 2])=H1 at s1 h1 ⊢
 refine⟨by decide,λb2 f2=>?_⟩
 have s2:=zan f2 (.lst [V.ref b1])
 have h2:(L2.upd H1 b2 (.lst [V.ref b1])) b2=some (.lst [V.ref b1]):=zai
 generalize L2.upd H1 b2 (.lst [V.ref b1])=H2 at s2 h2 ⊢
 refine⟨by decide,λla f3=>?_⟩
 have s3:=zan f3 (.tup [V.ref b2,V.int 3])
 have h3:(L2.upd H2 la (.tup [V.ref b2,V.int 3])) la=some (.tup [V.ref b2,V.int 3]):=zai
 generalize L2.upd H2 la (.tup [V.ref b2,V.int 3])=H3 at s3 h3 ⊢
 have La0:LaH H3 la:=⟨b2,[b1],[b112],3,h3,⟨s3 _ _ h2,Tps.single (s3 _ _ (s2 _ _ h1)),λb hb=>by rw[List.mem_singleton.mp hb];refine⟨?_,?_,?_,?_,?_⟩ <;> decide,by decide,by decide⟩,by decide,by decide⟩
 replace hS:=(s1.trans (s2.trans s3)).seq hS
 (try simp only);first | rw[zcU] | rw[zcS] | rw[zcM] | rw[zco] | rw[zcm] | rw[zcl] | rw[zck] | rw[zcn] | rw[zcv]
 simp_all only [za5,za0,zaZ,za3,za4,za1,za2,zaJ,zaK,zaI,zac]
 refine⟨by decide,λe1 g1=>⟨_,(zan g1 _).seq hS,λe2 g2=>⟨_,zan g2 _ _ _ zai,_,zai,?_,λe3 g3=>?_⟩⟩⟩
 ·rw[zyA,ψb,ψL,List.length_singleton]
  simp only[sizeLine]
  omega
 rw[zyA] at g3 ⊢
 have e:[V.int 0]++(ns.take 40).map V.int=(0::ns.take 40).map V.int:=rfl
 rw[e]
 have hc:∀x∈0::ns.take 40,x.natAbs<2 ^ 2 ^ 20:=λx hx=>by
  rcases List.mem_cons.mp hx with rfl | hx
  ·exact Nat.two_pow_pos _
  ·exact hb x (ψL1 hx)
 generalize (0::ns.take 40)=cs at hc ⊢
 replace La0:=((La0.same (zan g1 _)).same (zan g2 _)).same (zan g3 (.lst (cs.map V.int)))
 have h4:(L2.upd (L2.upd (L2.upd H3 e1 (.lst [V.int 0])) e2 (.lst ((ns.take 40).map V.int))) e3 (.lst (cs.map V.int))) e3=some (.lst (cs.map V.int)):=zai
 generalize L2.upd (L2.upd (L2.upd H3 e1 (.lst [V.int 0])) e2 (.lst ((ns.take 40).map V.int))) e3 (.lst (cs.map V.int))=H4 at h4 La0 ⊢
 refine⟨⟨_,SqL.of h4⟩,?_⟩
 refine zc2 (K:=K) (xs:=cs.map V.int) (λi σ H'=>zaF H4 H'∧∃la u2 u3 u4 u5 u6 u7 u8 u9 ua ub uc,LaH H' la∧σ=[some (.ref p0),some (.ref la),u2,u3,u4,u5,u6,u7,u8,u9,ua,ub,uc]) ⟨.refl _,la,_,_,_,_,_,_,_,_,_,_,_,La0,rfl⟩ ?_ ?_ ?_
 ·rintro i σ H' _ ⟨s,_⟩
  exact SqL.of (s _ _ h4)
 ·rintro i x σ H5 hi ⟨s5,la,u2,u3,u4,u5,u6,u7,u8,u9,ua,ub,uc,La,rfl⟩
  obtain⟨cell,ec,rfl⟩:=zas hi
  show zkz K _ [some (.ref p0),some (.ref la),some (.int cell),u3,u4,u5,u6,u7,u8,u9,ua,ub,uc] H5
  simp_all only [za5,za0,zaZ,za3,za4,za1,za2,zaJ,zaK,zaI,zac]
  refine⟨by decide,λd gd=>?_⟩
  refine⟨d,cell,rfl,zai,hc cell (zao ec),λp H6 s6 fp P6=>?_⟩
  have s56:zaF H5 H6:=(zan gd _).trans s6
  have fp5:H5 p=none:=(zan gd _).free fp
  simp_all only [za5,za0,zaZ,za3,za4,za1,za2,zaJ,zaK,zaI,zac]
  refine⟨p,0,rfl,P6,by decide,λl ts bs c H7 s7 P7 hc7 hl7 T7 gb l1 l3=>?_⟩
  (try simp only);first | rw[zcU] | rw[zcS] | rw[zcM] | rw[zco] | rw[zcm] | rw[zcl] | rw[zck] | rw[zcn] | rw[zcv]
  simp_all only [za5,za0,zaZ,za3,za4,za1,za2,zaJ,zaK,zaI,zac]
  refine⟨by decide,λd2 gd2=>?_⟩
  obtain⟨H8,e8,P8,s8,h8,_⟩:=P7.mk2 gd2 (.lst [.int 6,.int 61])
  rw[← e8]
  have c0:=P7.c0
  refine⟨p,c,2,rfl,P8,by omega,by decide,by decide,λr H9 r0 r1 o9 P9=>?_⟩
  obtain⟨m,em,hm⟩:=at2 (x:=6) (y:=61) r0 r1
  rw[← o9] at h8 s8
  simp_all only [za5,za0,zaZ,za3,za4,za1,za2,zaJ,zaK,zaI,zac]
  refine⟨_,SqL.of (zj1 _ _ _ _ _ h8),_,em,?_⟩
  refine⟨p,c+1,m,rfl,P9,by omega,by omega,by omega,λbud Ha b0 b1 oa Pa=>?_⟩
  rw[← oa] at s8
  have Ba:Bx6 (Off p p Ha) l ts bs:=⟨s8 _ _ hl7,T7.same s8,gb,l1,by omega⟩
  have sA:zaF H5 (Off p p Ha):=λa o z=>by
   have n:a≠p:=zaG z fp5
   have w:=s56 _ _ z
   exact s8 _ _ (s7 _ _ (by rw[zy9 n n];exact w))
  refine zyn (zj1 p p Ha) (La.same sA) Ba (Qf) b0 (Qf) λla' y6 y7 y8 y9 ya yb yc H' sh La'=>⟨s5.trans (sA.trans sh),la',La',_,_,_,_,_,_,_,_,_,_,_,rfl⟩
 ·rintro σ H5 ⟨s5,la,u2,u3,u4,u5,u6,u7,u8,u9,ua,ub,uc,_,rfl⟩
  simp_all only [za5,za0,zaZ,za3,za4,za1,za2,zaJ,zaK,zaI,zac]
  exact q H5
theorem zew:zay ["_law_script","_law_last","_law_cell","_law_left_here","_law_boxes_here","_law_budget","_law_handed","_law_told","_law_first","_law_kept","_law_k","_law_sizes","_law_spoilt"] ["_law_script"] (zag zs9):=(Qa)
theorem zxN(T:Txt K mg a):zci P w K mg base CX0 9 a.fa4 a.da4 ["_law_script"] (ztu K):=by
 have GaX:=zku (P:=P) (w:=w) (base:=base) T
 have GN:=zlu (P:=P) (w:=w) (base:=base) T
 have Gz:=zhZ (P:=P) (w:=w) (base:=base) T
 have GaW:=zlO (P:=P) (w:=w) (base:=base) T
 have Gat:=zkn (P:=P) (w:=w) (base:=base) T
 have Gab:=zlj (P:=P) (w:=w) (base:=base) T
 have GaL:=zif (P:=P) (w:=w) (base:=base) T
 have GU:=ziS (P:=P) (w:=w) (base:=base) T
 refine T.Fa4.ok zew (Qj) (Qe)
 all_goals obtain⟨p,ns,rfl,hS,hl,hb,q⟩:=h
 ·rfl
 exact⟨zwF K,(zae (zaX (i:=1) zew.nd rfl (Qh) (zbR (zaa (zea (zaa (zbR (zaa zaf (zaa zaf (Q4)))) zad)) (Q4))))
 (zae (zdq PassesOwn.never rfl (zbz (zaz zoT (zea (Q4)) (zpb zta (pv 0) zrr (zqS zaf)))) (zaj (i:=2) zew.nd rfl (Qh))
 (zae (zaX (i:=3) zew.nd rfl (Qh) (zak GaW (Qc) rfl T.maW T.FaW.kp T.baW .nil zaB (zaa (zea (Qax)) (Q4))))
 (zae (zaX (i:=4) zew.nd rfl (Or.inr rfl) (zak GaX (Qc) rfl T.maX T.FaX.kp T.baX .nil zaB (zaa (pv 3) (Q4))))
 (zae (zaX (i:=5) zew.nd rfl (Qh) (zak Gz (Qc) rfl T.mz T.Fz.kp T.bz .nil zaB (zaa (pv 3) (zaa (zax zbX (zea (zaa zaf (Q4))) (zak Gz (Qc) rfl T.mz T.Fz.kp T.bz .nil zaB (zaa (pv 3) (Q4))) (Qo)) zad))))
 (zae (zaX (i:=6) zew.nd rfl (Qh) (zdn zcF rfl T.z_list zbN (zaa (pv 4) zad)))
 (zae (zaX (i:=7) zew.nd rfl (Qh) (zak GU (Qc) rfl T.mU T.FU.kp T.bU .nil zaB (zaa (pv 6) (zaa (pv 5) zad))))
 (zae (zbA (zbY (PW.pt (zcP (zbG (zbr (zak Gat (Qc) rfl T.mat T.Fat.kp T.bat .nil zaB (zaa (pv 4) (zaa (pv 5) (zaa (pv 7) zad)))))) (zcB (za7 (zmh hr.units) (pv 6) (pv 4) (zaV _))))) (QL) zaY))
 (zae (zbA (zbY (PW.pt (zcP (za7 zv6 (zak GaL (Qc) rfl T.maL T.FaL.kp T.baL .nil zaB (zaa (pv 6) (zaa (pv 5) (zaa (Q8) (zaa (Q8) (zaa (Q8) zad)))))) zvF (zaV _)) (zcB (za7 (zmh hr.units) (pv 6) (pv 4) (zaV _))))) (QL) zaY))
 (zae (zaX (i:=8) zew.nd rfl (Qh) (zak GN (Qc) rfl T.mN T.FN.kp T.bN .nil zaB (zaa (pv 7) zad)))
 (zae (zaX (i:=9) zew.nd rfl (Qh) (zbR (zaa (zdn zcF rfl T.z_list zbN (zaa (zax zaq (Q8) zaf (Qo)) zad)) (zaa (zax zaq (Q8) zaf (Qo)) (zaa (zdn zcF rfl T.z_list zbN (zaa (zax zaq (Q8) zaf (Qo)) zad)) zad)))))
 (zae (zdq PassesOwn.never rfl (zc0 rfl T.z_range (zaa (zap zar rfl T.z_len ψo (zaa (Q8) zad)) zad)) (zaj (i:=10) zew.nd rfl (Or.inr rfl))
 (zae (zdi (znk ψi1 ψg1 ψh1 zdj (zax zaq (zax zbX (Q8) (pv 10) (Qo)) zaf (Qo)) (Q4)))
 (zae (zcy (i:=11) zew.nd rfl rfl (sc:=zag zs9) (N:=["_law_script","_law_last","_law_cell","_law_left_here","_law_boxes_here","_law_budget","_law_handed","_law_told","_law_first","_law_kept","_law_k","_law_sizes","_law_spoilt"]) (Nc:=["_law_plan_here","_law_weight","_law_boxes_here"]) (cap:=[none,none,some 4]) rfl rfl rfl (Ql) (zbz (Q8)) (λ_ _ _ _=>(zbs rfl (zal (zaj (i:=0) (QX) rfl (Qh)) (zal (zaj (i:=1) (QX) rfl (Qh)) za6)))) (QD) (λ_ _ _ _=>(zaz zdy (Qq) (zap zar rfl T.z_len ψo (Qax)))))
 (zah (zbY (za7 (zym hr.units) (pv 11) (zbC (sc:=zag zs9) (N:=["_law_script","_law_last","_law_cell","_law_left_here","_law_boxes_here","_law_budget","_law_handed","_law_told","_law_first","_law_kept","_law_k","_law_sizes","_law_spoilt"]) (Nc:=["_law_j","_law_k"]) (cap:=[none,some 10]) rfl rfl rfl (Ql) (zc0 rfl T.z_range (zaa (zap zar rfl T.z_len ψo (zaa (Q8) zad)) zad)) (λ_ _ _ _=>(zaj (i:=0) (show ψh (["_law_j","_law_k"]:List Str) from by decide) rfl (Qh))) (QD) (λ_ _ _ _=>(zdn zrJ rfl T.z_int zkw (zaa (zbT zk1 (pv 0) (pv 1) (zaV _)) zad)))) (zaV _)) (QL) zaY)))))
 (zae (zdi (znk ψi1 ψg1 ψh1 zdj (zax zaq (Q8) zaf (Qo)) (Q4)))
 (zae (zbA (zbY (za7 (zmh hr.units) (Q8) (zbR (zaa (zaz zoT (zax zaq (pv 9) zaf (Qo)) (zea (Q4))) (zaa (zax zaq (pv 9) zaf (Qo)) (zaa (zax zaq (pv 9) zaf (Qo)) zad)))) (zaV _)) (QL) zaY))
 (zae (zdi (zak Gab (Qc) rfl T.mab T.Fab.kp T.bab .nil zaB (zaa (pv 7) zad)))
 (zae (zaX (i:=12) zew.nd rfl (Qh) (zak GN (Qc) rfl T.mN T.FN.kp T.bN .nil zaB (zaa (pv 7) zad)))
 (zae (zdi (zak GU (Qc) rfl T.mU T.FU.kp T.bU .nil zaB (zaa (QC) (zaa (QC) zad))))
 (zae (zbA (zbY (PW.pt (zcP (za7 (zmh hr.units) (zak GU (Qc) rfl T.mU T.FU.kp T.bU .nil zaB (zaa (pv 6) (zaa (pv 5) zad))) (pv 8) (zaV _)) (zcB (za7 (zmh hr.units) (pv 7) (pv 12) (zaV _))))) (QL) zaY))
 (zae (zdi (znk ψi1 ψg1 ψh1 zdj (pv 6) (zaa (zbR (zaa zaf (zaa zaf (Q4)))) zad)))
 (zae (zbA (zbY (zbG (zbr (zak Gat (Qc) rfl T.mat T.Fat.kp T.bat .nil zaB (zaa (zaz zoT (pv 4) (zea (zaa (zbR (zaa zaf (zaa zaf (Q4)))) zad))) (zaa (pv 5) (zaa (zak GU (Qc) rfl T.mU T.FU.kp T.bU .nil zaB (zaa (pv 6) (zaa (pv 5) zad))) zad)))))) (QL) zaY))
 (zah (zaX (i:=1) zew.nd rfl (Qh) (zbR (zaa (pv 4) (zaa (pv 5) zad))))))))))))))))))))))))
 (QL))),
  zzd hS hl hb q⟩
end
theorem zmT{us:List Value}{n:Nat}(h:us.length=n+1):∃a t,us=a::t∧t.length=n:=by
 cases us with
 | nil=>cases h
 | cons a t=>exact⟨a,t,rfl,Nat.succ.inj h⟩
theorem zmO{us:List Value}(h:us.length=1):∃a0,us=[a0]:=by
 obtain⟨a0,u0,rfl,h0⟩:=zmT h
 cases ψX h0
 exact⟨a0,rfl⟩
theorem zge{us:List Value}(h:us.length=2):∃a0,∃a1,us=[a0,a1]:=by
 obtain⟨a0,u0,rfl,h0⟩:=zmT h
 obtain⟨a1,u1,rfl,h1⟩:=zmT h0
 cases ψX h1
 exact⟨a0,a1,rfl⟩
theorem zwG{us:List Value}(h:us.length=3):∃a0,∃a1,∃a2,us=[a0,a1,a2]:=by
 obtain⟨a0,u0,rfl,h0⟩:=zmT h
 obtain⟨a1,u1,rfl,h1⟩:=zmT h0
 obtain⟨a2,u2,rfl,h2⟩:=zmT h1
 cases ψX h2
 exact⟨a0,a1,a2,rfl⟩
theorem ztf{us:List Value}(h:us.length=4):∃a0,∃a1,∃a2,∃a3,us=[a0,a1,a2,a3]:=by
 obtain⟨a0,u0,rfl,h0⟩:=zmT h
 obtain⟨a1,u1,rfl,h1⟩:=zmT h0
 obtain⟨a2,u2,rfl,h2⟩:=zmT h1
 obtain⟨a3,u3,rfl,h3⟩:=zmT h2
 cases ψX h3
 exact⟨a0,a1,a2,a3,rfl⟩
theorem lst5{us:List Value}(h:us.length=5):∃a0,∃a1,∃a2,∃a3,∃a4,us=[a0,a1,a2,a3,a4]:=by
 obtain⟨a0,u0,rfl,h0⟩:=zmT h
 obtain⟨a1,u1,rfl,h1⟩:=zmT h0
 obtain⟨a2,u2,rfl,h2⟩:=zmT h1
 obtain⟨a3,u3,rfl,h3⟩:=zmT h2
 obtain⟨a4,u4,rfl,h4⟩:=zmT h3
 cases ψX h4
 exact⟨a0,a1,a2,a3,a4,rfl⟩
theorem zzb{K:ψa}{h:Heap}{mg:Str→Option Value}(X:K.In h)(G:h.Ns mainGlobals mg)
  {f0 f1 f2 f3 f4 f5 f6 f7 f8 f9 f10 f11 f12 f13 f14 f15 f16 f17 f18 f19 f20 f21 f22 f23 f24 f25 f26 f27 f28 f29 f30 f31 f32 f33 f34 f35 f36 f37 f38 f39 f40 f41 f42 f43 f44 f45 f46 f47 f48 f49 f50 f51 f52 f53 f54 f55 f56 f57 f58 f59 f60 f61 f62 f63 f64 f65 f66:Addr} {d0 d1 d2 d3 d4 d5 d6 d7 d8 d9 d10 d11 d12 d13 d14 d15 d16 d17 d18 d19 d20 d21 d22 d23 d24 d25 d26 d27 d28 d29 d30 d31 d32 d33 d34 d35 d36 d37 d38 d39 d40 d41 d42 d43 d44 d45 d46 d47 d48 d49 d50 d51 d52 d53 d54 d55 d56 d57 d58 d59 d60 d61 d62 d63 d64 d65 d66:FuncData}
  (F0:Fun K "divisor" "divisor" zi3 f0 d0) (m0:mg "divisor"=some (.ref f0))
  (F1:Fun K "ratio" "ratio" zmU f1 d1) (m1:mg "ratio"=some (.ref f1))
  (F2:Fun K "plus" "plus" zp9 f2 d2) (m2:mg "plus"=some (.ref f2))
  (F3:Fun K "minus" "minus" znj f3 d3) (m3:mg "minus"=some (.ref f3))
  (F4:Fun K "times" "times" zmP f4 d4) (m4:mg "times"=some (.ref f4))
  (F5:Fun K "over" "over" zsf f5 d5) (m5:mg "over"=some (.ref f5))
  (F6:Fun K "below" "below" zmX f6 d6) (m6:mg "below"=some (.ref f6))
  (F7:Fun K "common" "common" ziu f7 d7) (m7:mg "common"=some (.ref f7))
  (F8:Fun K "shared_divisor" "shared_divisor" zdM f8 d8) (m8:mg "shared_divisor"=some (.ref f8))
  (F9:Fun K "lowest" "lowest" ziD f9 d9) (m9:mg "lowest"=some (.ref f9))
  (F10:Fun K "is_whole" "is_whole" zhA f10 d10) (m10:mg "is_whole"=some (.ref f10))
  (F11:Fun K "is_within" "is_within" zgV f11 d11) (m11:mg "is_within"=some (.ref f11))
  (F12:Fun K "is_fraction" "is_fraction" ze9 f12 d12) (m12:mg "is_fraction"=some (.ref f12))
  (F13:Fun K "are_weights" "are_weights" zd5 f13 d13) (m13:mg "are_weights"=some (.ref f13))
  (F14:Fun K "is_box" "is_box" zkZ f14 d14) (m14:mg "is_box"=some (.ref f14))
  (F15:Fun K "look_boxes" "look_boxes" zer f15 d15) (m15:mg "look_boxes"=some (.ref f15))
  (F16:Fun K "look_budget" "look_budget" ze1 f16 d16) (m16:mg "look_budget"=some (.ref f16))
  (F17:Fun K "is_plan" "is_plan" zg9 f17 d17) (m17:mg "is_plan"=some (.ref f17))
  (F18:Fun K "power" "power" znW f18 d18) (m18:mg "power"=some (.ref f18))
  (F19:Fun K "missed" "missed" zk4 f19 d19) (m19:mg "missed"=some (.ref f19))
  (F20:Fun K "chance" "chance" zkU f20 d20) (m20:mg "chance"=some (.ref f20))
  (F21:Fun K "gain" "gain" zqN f21 d21) (m21:mg "gain"=some (.ref f21))
  (F22:Fun K "cost_sum" "cost_sum" zf7 f22 d22) (m22:mg "cost_sum"=some (.ref f22))
  (F23:Fun K "is_share" "is_share" zhC f23 d23) (m23:mg "is_share"=some (.ref f23))
  (F24:Fun K "is_mix" "is_mix" zir f24 d24) (m24:mg "is_mix"=some (.ref f24))
  (F25:Fun K "finds_enough" "finds_enough" zeD f25 d25) (m25:mg "finds_enough"=some (.ref f25))
  (F26:Fun K "is_seeker_right" "is_seeker_right" zbE f26 d26) (m26:mg "is_seeker_right"=some (.ref f26))
  (F27:Fun K "is_hider_paper" "is_hider_paper" zdP f27 d27) (m27:mg "is_hider_paper"=some (.ref f27))
  (F28:Fun K "is_last_look_worth" "is_last_look_worth" zcZ f28 d28) (m28:mg "is_last_look_worth"=some (.ref f28))
  (F29:Fun K "is_next_look_dear" "is_next_look_dear" zda f29 d29) (m29:mg "is_next_look_dear"=some (.ref f29))
  (F30:Fun K "is_count_best" "is_count_best" zei f30 d30) (m30:mg "is_count_best"=some (.ref f30))
  (F31:Fun K "is_sum_low" "is_sum_low" zdB f31 d31) (m31:mg "is_sum_low"=some (.ref f31))
  (F32:Fun K "is_hider_right" "is_hider_right" zdT f32 d32) (m32:mg "is_hider_right"=some (.ref f32))
  (F33:Fun K "budget_judged" "budget_judged" zee f33 d33) (m33:mg "budget_judged"=some (.ref f33))
  (F34:Fun K "added" "added" zod f34 d34) (m34:mg "added"=some (.ref f34))
  (F35:Fun K "least_chance" "least_chance" zeE f35 d35) (m35:mg "least_chance"=some (.ref f35))
  (F36:Fun K "fair_weights" "fair_weights" zdw f36 d36) (m36:mg "fair_weights"=some (.ref f36))
  (F37:Fun K "chance_for" "chance_for" zdE f37 d37) (m37:mg "chance_for"=some (.ref f37))
  (F38:Fun K "counts_and_worth" "counts_and_worth" zbQ f38 d38) (m38:mg "counts_and_worth"=some (.ref f38))
  (F39:Fun K "look_shares" "look_shares" zd1 f39 d39) (m39:mg "look_shares"=some (.ref f39))
  (F40:Fun K "mix_of" "mix_of" zgb f40 d40) (m40:mg "mix_of"=some (.ref f40))
  (F41:Fun K "paper_of" "paper_of" zgd f41 d41) (m41:mg "paper_of"=some (.ref f41))
  (F42:Fun K "sure_answer" "sure_answer" zd6 f42 d42) (m42:mg "sure_answer"=some (.ref f42))
  (F43:Fun K "is_sure" "is_sure" zfL f43 d43) (m43:mg "is_sure"=some (.ref f43))
  (F44:Fun K "budget_worth" "budget_worth" zeL f44 d44) (m44:mg "budget_worth"=some (.ref f44))
  (F45:Fun K "_law_mix" "_law_mix" zhL f45 d45) (m45:mg "_law_mix"=some (.ref f45))
  (F46:Fun K "_law_cell_at" "_law_cell_at" zeH f46 d46) (m46:mg "_law_cell_at"=some (.ref f46))
  (F47:Fun K "_law_left" "_law_left" zg0 f47 d47) (m47:mg "_law_left"=some (.ref f47))
  (F48:Fun K "_law_draw" "_law_draw" zg5 f48 d48) (m48:mg "_law_draw"=some (.ref f48))
  (F49:Fun K "_law_boxes" "_law_boxes" zfK f49 d49) (m49:mg "_law_boxes"=some (.ref f49))
  (F50:Fun K "_law_whole" "_law_whole" zfC f50 d50) (m50:mg "_law_whole"=some (.ref f50))
  (F51:Fun K "_law_fraction" "_law_fraction" zem f51 d51) (m51:mg "_law_fraction"=some (.ref f51))
  (F52:Fun K "_law_lowest" "_law_lowest" ze2 f52 d52) (m52:mg "_law_lowest"=some (.ref f52))
  (F53:Fun K "_law_miss" "_law_miss" zg2 f53 d53) (m53:mg "_law_miss"=some (.ref f53))
  (F54:Fun K "_law_plus" "_law_plus" zgP f54 d54) (m54:mg "_law_plus"=some (.ref f54))
  (F55:Fun K "_law_less" "_law_less" zgR f55 d55) (m55:mg "_law_less"=some (.ref f55))
  (F56:Fun K "_law_plan" "_law_plan" ze4 f56 d56) (m56:mg "_law_plan"=some (.ref f56))
  (F57:Fun K "_law_price" "_law_price" zey f57 d57) (m57:mg "_law_price"=some (.ref f57))
  (F58:Fun K "_law_chance" "_law_chance" zdY f58 d58) (m58:mg "_law_chance"=some (.ref f58))
  (F59:Fun K "_law_keeps" "_law_keeps" zdA f59 d59) (m59:mg "_law_keeps"=some (.ref f59))
  (F60:Fun K "_law_finds" "_law_finds" zev f60 d60) (m60:mg "_law_finds"=some (.ref f60))
  (F61:Fun K "_law_marks" "_law_marks" zfx f61 d61) (m61:mg "_law_marks"=some (.ref f61))
  (F62:Fun K "_law_hides" "_law_hides" zdG f62 d62) (m62:mg "_law_hides"=some (.ref f62))
  (F63:Fun K "_law_deep" "_law_deep" zej f63 d63) (m63:mg "_law_deep"=some (.ref f63))
  (F64:Fun K "_law_spoil" "_law_spoil" zfQ f64 d64) (m64:mg "_law_spoil"=some (.ref f64))
  (F65:Fun K "_law_right" "_law_right" zdF f65 d65) (m65:mg "_law_right"=some (.ref f65))
  (F66:Fun K "law" "law" zs9 f66 d66) (m66:mg "law"=some (.ref f66))
  (z_set:mg "set"=none)
  (z_isinstance:mg "isinstance"=none)
  (z_range:mg "range"=none)
  (z_all:mg "all"=none)
  (z_sorted:mg "sorted"=none)
  (z_abs:mg "abs"=none)
  (z_sum:mg "sum"=none)
  (z_len:mg "len"=none)
  (z_list:mg "list"=none)
  (z_zip:mg "zip"=none)
  (z_int:mg "int"=none)
  (z_bool:mg "bool"=none)
  (z_tuple:mg "tuple"=none)
  (z_max:mg "max"=none)
  (z_min:mg "min"=none)
  {c_NoNumber c_NoBoxes c_NoBudget:Addr}
  (ac_NoNumber:mg "NoNumber"=some (.ref c_NoNumber))
  (ac_NoBoxes:mg "NoBoxes"=some (.ref c_NoBoxes))
  (ac_NoBudget:mg "NoBudget"=some (.ref c_NoBudget))
  {k_MOST_BOXES:Tok} (ak_MOST_BOXES:mg "MOST_BOXES"=some (.int 6 k_MOST_BOXES))
  {k_MOST_COST:Tok} (ak_MOST_COST:mg "MOST_COST"=some (.int 60 k_MOST_COST))
  {k_MOST_OF:Tok} (ak_MOST_OF:mg "MOST_OF"=some (.int 50 k_MOST_OF))
  {k_MOST_BUDGET:Tok} (ak_MOST_BUDGET:mg "MOST_BUDGET"=some (.int 60 k_MOST_BUDGET))
  {k_MOST_LOOKS:Tok} (ak_MOST_LOOKS:mg "MOST_LOOKS"=some (.int 60 k_MOST_LOOKS))
  (xc_NoNumber:PySem.W.excIn K c_NoNumber zpH "ValueError.__new__"=true)
  (xc_NoBoxes:PySem.W.excIn K c_NoBoxes zpH "ValueError.__new__"=true)
  (xc_NoBudget:PySem.W.excIn K c_NoBudget zpH "ValueError.__new__"=true)
  : Txt K mg ⟨f0,d0,f1,d1,f2,d2,f3,d3,f4,d4,f5,d5,f6,d6,f7,d7,f8,d8,f9,d9,f10,d10,f11,d11,f12,d12,f13,d13,f14,d14,f15,d15,f16,d16,f17,d17,f18,d18,f19,d19,f20,d20,f21,d21,f22,d22,f23,d23,f24,d24,f25,d25,f26,d26,f27,d27,f28,d28,f29,d29,f30,d30,f31,d31,f32,d32,f33,d33,f34,d34,f35,d35,f36,d36,f37,d37,f38,d38,f39,d39,f40,d40,f41,d41,f42,d42,f43,d43,f44,d44,f45,d45,f46,d46,f47,d47,f48,d48,f49,d49,f50,d50,f51,d51,f52,d52,f53,d53,f54,d54,f55,d55,f56,d56,f57,d57,f58,d58,f59,d59,f60,d60,f61,d61,f62,d62,f63,d63,f64,d64,f65,d65,f66,d66,c_NoNumber,c_NoBoxes,c_NoBudget,k_MOST_BOXES,k_MOST_COST,k_MOST_OF,k_MOST_BUDGET,k_MOST_LOOKS⟩:=by
 exact⟨F0,F0.binds λ_ _ _ _ _ _ us hl=>by obtain⟨_,_,rfl⟩:=zge hl;rfl,m0,F1,F1.binds λ_ _ _ _ _ _ us hl=>by obtain⟨_,_,rfl⟩:=zge hl;rfl,m1,F2,F2.binds λ_ _ _ _ _ _ us hl=>by obtain⟨_,_,rfl⟩:=zge hl;rfl,m2,F3,F3.binds λ_ _ _ _ _ _ us hl=>by obtain⟨_,_,rfl⟩:=zge hl;rfl,m3,F4,F4.binds λ_ _ _ _ _ _ us hl=>by obtain⟨_,_,rfl⟩:=zge hl;rfl,m4,F5,F5.binds λ_ _ _ _ _ _ us hl=>by obtain⟨_,_,rfl⟩:=zge hl;rfl,m5,F6,F6.binds λ_ _ _ _ _ _ us hl=>by obtain⟨_,_,rfl⟩:=zge hl;rfl,m6,F7,F7.binds λ_ _ _ _ _ _ us hl=>by obtain⟨_,rfl⟩:=zmO hl;rfl,m7,F8,F8.binds λ_ _ _ _ _ _ us hl=>by obtain⟨_,rfl⟩:=zmO hl;rfl,m8,F9,F9.binds λ_ _ _ _ _ _ us hl=>by obtain⟨_,rfl⟩:=zmO hl;rfl,m9,F10,F10.binds λ_ _ _ _ _ _ us hl=>by obtain⟨_,rfl⟩:=zmO hl;rfl,m10,F11,F11.binds λ_ _ _ _ _ _ us hl=>by obtain⟨_,_,_,rfl⟩:=zwG hl;rfl,m11,F12,F12.binds λ_ _ _ _ _ _ us hl=>by obtain⟨_,rfl⟩:=zmO hl;rfl,m12,F13,F13.binds λ_ _ _ _ _ _ us hl=>by obtain⟨_,_,rfl⟩:=zge hl;rfl,m13,F14,F14.binds λ_ _ _ _ _ _ us hl=>by obtain⟨_,rfl⟩:=zmO hl;rfl,m14,F15,F15.binds λ_ _ _ _ _ _ us hl=>by obtain⟨_,rfl⟩:=zmO hl;rfl,m15,F16,F16.binds λ_ _ _ _ _ _ us hl=>by obtain⟨_,rfl⟩:=zmO hl;rfl,m16,F17,F17.binds λ_ _ _ _ _ _ us hl=>by obtain⟨_,_,rfl⟩:=zge hl;rfl,m17,F18,F18.binds λ_ _ _ _ _ _ us hl=>by obtain⟨_,_,rfl⟩:=zge hl;rfl,m18,F19,F19.binds λ_ _ _ _ _ _ us hl=>by obtain⟨_,_,rfl⟩:=zge hl;rfl,m19,F20,F20.binds λ_ _ _ _ _ _ us hl=>by obtain⟨_,_,rfl⟩:=zge hl;rfl,m20,F21,F21.binds λ_ _ _ _ _ _ us hl=>by obtain⟨_,_,rfl⟩:=zge hl;rfl,m21,F22,F22.binds λ_ _ _ _ _ _ us hl=>by obtain⟨_,_,rfl⟩:=zge hl;rfl,m22,F23,F23.binds λ_ _ _ _ _ _ us hl=>by obtain⟨_,_,rfl⟩:=zge hl;rfl,m23,F24,F24.binds λ_ _ _ _ _ _ us hl=>by obtain⟨_,_,rfl⟩:=zge hl;rfl,m24,F25,F25.binds λ_ _ _ _ _ _ us hl=>by obtain⟨_,_,_,_,rfl⟩:=ztf hl;rfl,m25,F26,F26.binds λ_ _ _ _ _ _ us hl=>by obtain⟨_,_,_,_,rfl⟩:=ztf hl;rfl,m26,F27,F27.binds λ_ _ _ _ _ _ us hl=>by obtain⟨_,_,rfl⟩:=zge hl;rfl,m27,F28,F28.binds λ_ _ _ _ _ _ us hl=>by obtain⟨_,_,_,_,rfl⟩:=ztf hl;rfl,m28,F29,F29.binds λ_ _ _ _ _ _ us hl=>by obtain⟨_,_,_,_,rfl⟩:=ztf hl;rfl,m29,F30,F30.binds λ_ _ _ _ _ _ us hl=>by obtain⟨_,_,_,_,rfl⟩:=ztf hl;rfl,m30,F31,F31.binds λ_ _ _ _ _ _ us hl=>by obtain⟨_,_,_,_,rfl⟩:=ztf hl;rfl,m31,F32,F32.binds λ_ _ _ _ _ _ us hl=>by obtain⟨_,_,_,_,rfl⟩:=ztf hl;rfl,m32,F33,F33.binds λ_ _ _ _ _ _ us hl=>by obtain⟨_,_,_,_,_,rfl⟩:=lst5 hl;rfl,m33,F34,F34.binds λ_ _ _ _ _ _ us hl=>by obtain⟨_,rfl⟩:=zmO hl;rfl,m34,F35,F35.binds λ_ _ _ _ _ _ us hl=>by obtain⟨_,rfl⟩:=zmO hl;rfl,m35,F36,F36.binds λ_ _ _ _ _ _ us hl=>by obtain⟨_,_,rfl⟩:=zge hl;rfl,m36,F37,F37.binds λ_ _ _ _ _ _ us hl=>by obtain⟨_,_,_,rfl⟩:=zwG hl;rfl,m37,F38,F38.binds λ_ _ _ _ _ _ us hl=>by obtain⟨_,_,rfl⟩:=zge hl;rfl,m38,F39,F39.binds λ_ _ _ _ _ _ us hl=>by obtain⟨_,_,_,rfl⟩:=zwG hl;rfl,m39,F40,F40.binds λ_ _ _ _ _ _ us hl=>by obtain⟨_,_,_,rfl⟩:=zwG hl;rfl,m40,F41,F41.binds λ_ _ _ _ _ _ us hl=>by obtain⟨_,_,rfl⟩:=zge hl;rfl,m41,F42,F42.binds λ_ _ _ _ _ _ us hl=>by obtain⟨_,rfl⟩:=zmO hl;rfl,m42,F43,F43.binds λ_ _ _ _ _ _ us hl=>by obtain⟨_,_,rfl⟩:=zge hl;rfl,m43,F44,F44.binds λ_ _ _ _ _ _ us hl=>by obtain⟨_,_,rfl⟩:=zge hl;rfl,m44,F45,F45.binds λ_ _ _ _ _ _ us hl=>by obtain⟨_,_,rfl⟩:=zge hl;rfl,m45,F46,F46.binds λ_ _ _ _ _ _ us hl=>by obtain⟨_,_,rfl⟩:=zge hl;rfl,m46,F47,F47.binds λ_ _ _ _ _ _ us hl=>by obtain⟨_,_,rfl⟩:=zge hl;rfl,m47,F48,F48.binds λ_ _ _ _ _ _ us hl=>by obtain⟨_,_,rfl⟩:=zge hl;rfl,m48,F49,F49.binds λ_ _ _ _ _ _ us hl=>by obtain⟨_,_,rfl⟩:=zge hl;rfl,m49,F50,F50.binds λ_ _ _ _ _ _ us hl=>by obtain⟨_,rfl⟩:=zmO hl;rfl,m50,F51,F51.binds λ_ _ _ _ _ _ us hl=>by obtain⟨_,rfl⟩:=zmO hl;rfl,m51,F52,F52.binds λ_ _ _ _ _ _ us hl=>by obtain⟨_,_,rfl⟩:=zge hl;rfl,m52,F53,F53.binds λ_ _ _ _ _ _ us hl=>by obtain⟨_,_,rfl⟩:=zge hl;rfl,m53,F54,F54.binds λ_ _ _ _ _ _ us hl=>by obtain⟨_,_,rfl⟩:=zge hl;rfl,m54,F55,F55.binds λ_ _ _ _ _ _ us hl=>by obtain⟨_,_,rfl⟩:=zge hl;rfl,m55,F56,F56.binds λ_ _ _ _ _ _ us hl=>by obtain⟨_,_,rfl⟩:=zge hl;rfl,m56,F57,F57.binds λ_ _ _ _ _ _ us hl=>by obtain⟨_,_,rfl⟩:=zge hl;rfl,m57,F58,F58.binds λ_ _ _ _ _ _ us hl=>by obtain⟨_,_,_,rfl⟩:=zwG hl;rfl,m58,F59,F59.binds λ_ _ _ _ _ _ us hl=>by obtain⟨_,_,_,rfl⟩:=zwG hl;rfl,m59,F60,F60.binds λ_ _ _ _ _ _ us hl=>by obtain⟨_,_,_,_,rfl⟩:=ztf hl;rfl,m60,F61,F61.binds λ_ _ _ _ _ _ us hl=>by obtain⟨_,_,_,_,rfl⟩:=ztf hl;rfl,m61,F62,F62.binds λ_ _ _ _ _ _ us hl=>by obtain⟨_,_,_,_,rfl⟩:=ztf hl;rfl,m62,F63,F63.binds λ_ _ _ _ _ _ us hl=>by obtain⟨_,rfl⟩:=zmO hl;rfl,m63,F64,F64.binds λ_ _ _ _ _ _ us hl=>by obtain⟨_,rfl⟩:=zmO hl;rfl,m64,F65,F65.binds λ_ _ _ _ _ _ us hl=>by obtain⟨_,_,_,rfl⟩:=zwG hl;rfl,m65,F66,F66.binds λ_ _ _ _ _ _ us hl=>by obtain⟨_,rfl⟩:=zmO hl;rfl,m66,z_set,z_isinstance,z_range,z_all,z_sorted,z_abs,z_sum,z_len,z_list,z_zip,z_int,z_bool,z_tuple,z_max,z_min,ac_NoNumber,ac_NoBoxes,ac_NoBudget,ak_MOST_BOXES,ak_MOST_COST,ak_MOST_OF,ak_MOST_BUDGET,ak_MOST_LOOKS,xc_NoNumber,xc_NoBoxes,xc_NoBudget⟩
theorem zzs{K:ψa}{w:World}{mg:Str→Option Value}{h:Heap}{fa:Addr}{P:Program}(X:K.In h)(G:h.Ns mainGlobals mg)(hfa:mg "law"=some (.ref fa)){a:Ad}(T:Txt K mg a) :
  ∃fd:FuncData,(∀(s:Shared) (u:Value),BindsTo s fd ⟨[u],[]⟩ [("_law_script",u)])∧∀base:Heap,K.In base→base.Ns mainGlobals mg→zci P w K mg base CX0 9 fa fd ["_law_script"] (ztu K):=by
 have e:=hfa.symm.trans T.ma4
 cases e
 refine⟨a.da4,λs v=>?_,λbase _ _=>zxN T⟩
 obtain⟨oc,od,kV,doc,pm,an,cdv,ct,osl,e,lk,hcd⟩:=T.Fa4.ex
 rw[e]
 exact .of_eq rfl
theorem walk{l:PySem.W.OpenLaw}{q:Program}{loose:List Str}{XP:(Str→Option Value)→Heap→Prop}{YP:World→Heap→Prop}{d:DefRec}{K:Params→ψa}(hn:l.most=some 63)(hdf:d.params.defaults=[])
  (hY:∀(w:World) (h:Heap),YP w h→(K w.params).In h)
  (F:∀(w:World) (mg:Str→Option Value) (fa:Addr) (h:Heap),(K w.params).In h→h.Ns mainGlobals mg→mg d.name=some (.ref fa) →
   ∃fd:FuncData,(∀(s:Shared) (u:Value),BindsTo s fd ⟨[u],[]⟩ [("_law_script",u)])∧∀base:Heap,(K w.params).In base→base.Ns mainGlobals mg→zci l.prog w (K w.params) mg base CX0 9 fa fd ["_law_script"] (ztu (K w.params))) :
  PySem.W.WalkO q loose XP YP l.row.toRowW d [] (λf vs=>PySem.call f vs) :=
 L2.ztq (n:=63) (k:=9) (x:="_law_script") (CX:=λ_=>CX0) (sp:=λw=>ztu (K w.params)) hn (Qs) hdf ⟨rfl,by decide,by decide⟩ hY F (λ_ _ a ns hb hl _ hS=>⟨a,ns,rfl,hS,hl,hb,λ_=>rfl⟩) λ_ _ _ _ _ z=>z
end My
open PySem PySem.W in
theorem My.walk_at{K:Params→Frag}{w:World}{h:Heap}{l:OpenLaw}{q:Program}{loose:List Str}{XP:(Str→Option Value)→Heap→Prop}{d:DefRec}{C:Prop}(_:(K w.params).In h)
  (use:WalkO q loose XP (λw h=>(K w.params).In h) l.row.toRowW d [] (λf vs=>PySem.call f vs)→C) (W:WalkO q loose XP (λw h=>(K w.params).In h) l.row.toRowW d [] (λf vs=>PySem.call f vs)):C:=use W
noncomputable section
namespace Hd
open PySem PySem.W.Fast
structure Q (α:Type) where
  a:α
  b:α
  c:α
  d:α
  e:α
  f:α
  g:α
  h:α
class X where
  s:Q (Q (Q Str))
  t:Q (Q (Q String))
  r:Q (Q (Q Obj))
  p:Program
  P:Params
noncomputable def sp (p:Program) (n:Nat):Stmt:=(p.main.body.drop n).headD (.Pass ⟨0,0,0,0⟩)
noncomputable def st [x:X] (n:Nat):Stmt:=sp x.p n
noncomputable def cb:Stmt→List Stmt
  | .ClassDef _ _ _ b ..=>b
  | _=>[]
noncomputable def sm [x:X] (n k:Nat):Stmt:=((cb (st n)).drop k).headD (.Pass ⟨0,0,0,0⟩)
noncomputable def fn (s:Stmt) (q:Str) (g:Addr) (c:List (Str×Addr)) (d k o m:Value) (a:Option Addr) (z t:Value) (b:Addr):FuncData:=match s with
  | .FunctionDef n p y _ _ _ u ..=>⟨n,q,p,.stmts y,u,g,c,d,k,o,m,a,z,t,b⟩
  | _=>default
abbrev z:=W.BT.nil
noncomputable def N (o:Obj) (l r:W.BT):W.BT:=.node o l r
noncomputable def L (o:Obj):W.BT:=.node o .nil .nil
noncomputable def e [x:X] (s:Str) (n:Nat) (v:Value):DictEntry:=⟨PyData.keyHash x.P s,.str s n,v⟩
noncomputable def vR (n:Nat):Option Value:=some (.ref n)
noncomputable def vr (n:Nat):Value:=.ref n
noncomputable def vO:Value:=.int 0 0
noncomputable def vI (n:Int):Value:=.int n 0
noncomputable def vS (s:Str) (n:Tok):Value:=.str s n
noncomputable def vY (s:String):Value:=.type s
noncomputable def vB (s:String):Value:=.builtin s
section
variable [x:X]
abbrev s0:=x.s.a.e.c
abbrev s1:=x.s.b.f.c
abbrev r2:=x.r.a.a.a
abbrev r3:=x.r.a.a.b
abbrev r4:=x.r.a.a.c
abbrev r5:=x.r.a.a.e
abbrev r6:=x.r.a.a.f
abbrev r7:=x.r.a.a.g
abbrev r8:=x.r.a.a.h
abbrev r9:=x.r.a.b.a
abbrev r10:=x.r.a.b.b
abbrev r11:=x.r.a.b.c
abbrev s12:=x.s.a.c.f
abbrev s13:=x.s.a.a.e
abbrev s14:=x.s.b.b.d
abbrev s15:=x.s.b.b.g
abbrev s16:=x.s.a.b.f
abbrev s17:=x.s.a.d.e
abbrev s18:=x.s.a.d.f
abbrev s19:=x.s.a.d.h
abbrev s20:=x.s.a.e.a
abbrev s21:=x.s.a.g.f
abbrev s22:=x.s.a.a.f
abbrev s23:=x.s.b.b.h
abbrev s24:=x.s.b.c.f
abbrev s25:=x.s.b.c.g
def i0:=e x.s.a.a.d 165 (vS s13 187)
def i1:=e s22 166 .none
def i2:=e x.s.a.a.g 167 .none
def i3:=e x.s.a.a.h 168 (vB x.t.a.a.e)
def i4:=e x.s.a.b.a 169 .none
def i5:=e x.s.a.b.b 170 (vr 6)
def i6:=e x.s.a.b.c 171 (vr 4)
def i7:=e x.s.a.b.d 173 (vS x.s.a.a.b 172)
def i8:=e x.s.a.b.e 174 .none
def i9:=e s16 206 (vr 24)
def i10:=e x.s.a.b.g 196 (vS s13 187)
def i11:=e x.s.a.b.h 198 (vS s16 197)
def i12:=e x.s.a.c.a 200 (.int 2 199)
def i13:=e x.s.a.c.b 201 (vr 22)
def i14:=e x.s.a.c.c 203 (vr 25)
def i15:=e s22 204 .none
def i16:=e x.s.a.c.d 222 (vr 37)
def i17:=e x.s.a.b.g 214 (vS s13 187)
def i18:=e x.s.a.b.h 216 (vS x.s.a.c.d 215)
def i19:=e x.s.a.c.a 218 (.int 4 217)
def i20:=e x.s.a.c.b 219 (vr 35)
def i21:=e s22 220 .none
def i22:=e x.s.a.c.e 238 (vr 49)
def i23:=e x.s.a.b.g 230 (vS s13 187)
def i24:=e x.s.a.b.h 232 (vS x.s.a.c.e 231)
def i25:=e x.s.a.c.a 234 (.int 6 233)
def i26:=e x.s.a.c.b 235 (vr 47)
def i27:=e s22 236 .none
def i28:=e x.s.a.a.d 165 (vS s12 255)
def i29:=e x.s.a.c.g 254 (vr 61)
def i30:=e x.s.a.c.h 265 (vr 70)
def i31:=e x.s.a.d.a 274 (vr 77)
def i32:=e x.s.a.d.b 282 (vr 84)
def i33:=e x.s.a.d.c 290 (vr 91)
def i34:=e x.s.a.d.d 298 (vr 98)
def i35:=e x.s.a.b.g 246 (vS s13 187)
def i36:=e x.s.a.b.h 248 (vS x.s.a.c.g 247)
def i37:=e x.s.a.c.a 250 (.int 8 249)
def i38:=e x.s.a.c.b 251 (vr 59)
def i39:=e s22 252 .none
def i40:=e x.s.a.a.d 165 (vS s0 367)
def i41:=e x.s.a.e.d 306 (vr 105)
def i42:=e x.s.a.e.e 314 (vr 112)
def i43:=e x.s.a.e.f 320 (vr 117)
def i44:=e x.s.a.e.g 329 (vr 124)
def i45:=e x.s.a.e.h 335 (vr 129)
def i46:=e x.s.a.f.a 344 (vr 136)
def i47:=e x.s.a.f.b 353 (vr 143)
def i48:=e x.s.a.f.c 359 (vr 148)
def i49:=e x.s.a.f.d 366 (vr 155)
def i50:=e x.s.a.f.e 370 (.int 6 369)
def i51:=e x.s.a.f.f 372 (.int 60 371)
def i52:=e x.s.a.f.g 374 (.int 50 373)
def i53:=e x.s.a.f.h 376 (.int 60 375)
def i54:=e x.s.a.g.a 378 (.int 60 377)
def i55:=e x.s.a.g.b 388 (vr 162)
def i56:=e x.s.a.g.c 394 (vr 167)
def i57:=e x.s.a.h.e 401 (vr 174)
def i58:=e x.s.a.h.f 407 (vr 179)
def i59:=e x.s.a.h.g 417 (vr 186)
def i60:=e x.s.a.h.h 425 (vr 193)
def i61:=e x.s.b.a.a 435 (vr 200)
def i62:=e x.s.b.a.b 445 (vr 207)
def i63:=e x.s.b.a.c 451 (vr 212)
def i64:=e x.s.b.a.d 459 (vr 219)
def i65:=e x.s.b.a.e 465 (vr 224)
def i66:=e x.s.b.a.f 481 (vr 231)
def i67:=e x.s.b.a.g 487 (vr 236)
def i68:=e x.s.b.a.h 498 (vr 243)
def i69:=e x.s.b.b.a 510 (vr 250)
def i70:=e x.s.b.c.h 522 (vr 257)
def i71:=e x.s.b.d.a 532 (vr 264)
def i72:=e x.s.b.d.b 538 (vr 269)
def i73:=e x.s.b.d.c 554 (vr 276)
def i74:=e x.s.b.d.d 565 (vr 283)
def i75:=e x.s.b.d.e 574 (vr 290)
def i76:=e x.s.b.d.f 583 (vr 297)
def i77:=e x.s.b.d.g 589 (vr 302)
def i78:=e x.s.b.d.h 595 (vr 307)
def i79:=e x.s.b.e.a 601 (vr 312)
def i80:=e x.s.b.e.b 607 (vr 317)
def i81:=e x.s.b.e.c 613 (vr 322)
def i82:=e x.s.b.e.d 619 (vr 327)
def i83:=e x.s.a.a.d 165 (vS s1 642)
def i84:=e x.s.b.f.d 625 (vr 332)
def i85:=e x.s.b.f.e 631 (vr 337)
def i86:=e x.s.b.f.f 641 (vr 344)
def i87:=e x.s.b.f.g 652 (vr 351)
def i88:=e x.s.b.f.h 660 (vr 358)
def i89:=e x.s.b.g.a 669 (vr 365)
def i90:=e x.s.b.g.b 679 (vr 372)
def i91:=e x.s.b.g.c 691 (vr 379)
def i92:=e x.s.b.g.d 698 (vr 386)
def i93:=e x.s.b.g.e 707 (vr 393)
def i94:=e x.s.b.g.f 717 (vr 400)
def i95:=e x.s.b.g.g 728 (vr 407)
def i96:=e x.s.c.b.d 736 (vr 414)
def i97:=e x.s.c.b.e 744 (vr 421)
def i98:=e x.s.c.b.f 750 (vr 426)
def i99:=e x.s.c.b.g 756 (vr 431)
def i100:=e x.s.c.b.h 762 (vr 436)
def i101:=e x.s.c.c.a 768 (vr 441)
def i102:=e x.s.c.c.b 774 (vr 446)
def i103:=e x.s.c.c.c 788 (vr 453)
def i104:=e x.s.c.c.d 794 (vr 458)
def i105:=e x.s.c.c.e 800 (vr 463)
def i106:=e x.s.c.c.f 808 (vr 470)
def i107:=e x.s.c.c.g 814 (vr 475)
def i108:=e x.s.c.c.h 820 (vr 480)
def h0(p0:Array Value):Obj:=⟨(vY x.t.a.a.a),none,(.seq p0 0),#[]⟩
def h1(p0:Array Value):Obj:=⟨.none,none,(.fields p0),#[]⟩
def h2(p0:Str)(p1 p2 p3:Tok)(p4:Int)(p5 p6:Value)(p7:Nat)(p8:Value)(p9:Nat)(p10 p11 p12:Value)(p13:Int)(p14:Tok):Obj:=⟨(vY x.t.a.a.b),none,(.fields #[(vS p0 p1),(vS p0 p2),(vS x.s.a.a.b p3),(vI p4),p5,vO,vO,p6,(vr p7),p8,(vI 181),(vr p9),.none,p10,p11,p12,(vI p13),(vI p4),(vS x.s.a.a.b p14)]),#[]⟩
def h3(p0 p1:Nat)(p2:Str)(p3:Tok):Obj:=⟨(vY x.t.a.a.c),none,.plain,#[(vR p0),(vR 3),(vR p1),none,(some (vS p2 p3)),none,(vR 0)]⟩
def h4(p0:Array DictEntry)(p1:Nat):Obj:=⟨(vY x.t.a.a.d),none,(.dict p0 p1),#[]⟩
def h5(p0:String)(p1:Value):Obj:=⟨(vY x.t.a.a.g),none,(.fields #[(vB p0),p1]),#[]⟩
def h6(p0:List Value):Obj:=⟨(vY x.t.a.b.a),none,(.cls ⟨s16,[(vY x.t.a.a.f)],[(vr 24),(vY x.t.a.a.f),(vY x.t.a.b.b),(vY x.t.a.b.c),(vY x.t.a.b.d)],23,s16,true,[],p0,false,none,false⟩),#[(vR 15),none,(some (vS s16 189)),(some (vS s16 197)),(some (vB x.t.a.b.e)),(some (Qv))]⟩
def h7(p0:Nat):Obj:=⟨(vY x.t.a.b.h),none,(.fields #[(vr p0),(vr p0),(vr p0)]),#[]⟩
def h8(p0:Str)(p1 p2 p3:Nat)(p4 p5:Tok):Obj:=⟨(vY x.t.a.b.a),none,(.cls ⟨p0,[(vr 24)],[(vr p1),(vr 24),(vY x.t.a.a.f),(vY x.t.a.b.b),(vY x.t.a.b.c),(vY x.t.a.b.d)],p2,p0,true,[],[],false,none,false⟩),#[(vR p3),none,(some (vS p0 p4)),(some (vS p0 p5)),(some (vB x.t.a.b.e)),(some (Qv))]⟩
def h9(p0:Nat)(p1:Str):Obj:=⟨.none,none,(.func (fn (st p0) p1 0 [] .none .none .none .none none .none .none 0)),#[]⟩
def h10(p0:Nat)(p1 p2:Str)(p3:Tok)(p4:Nat):Obj:=⟨(vY x.t.a.c.b),none,(.func (fn (st p0) p1 3 [] .none .none .none (vS p2 p3) none (vr p4) .none 0)),#[]⟩
def zaw:=h0 #[]
def zbf:=h1 #[]
def zp3:=h2 x.s.a.a.a 182 183 184 1 vO vO 11 (.bool false) 12 .none .none .none 185 186
def zp2:=h3 13 3 x.s.a.a.c 164
def b978:=h4 #[i0,i1,i2,i3,i4,i5,i6,i7,i8,i9] 10
def b979:=h1 #[(vI 2),vO,(vr 20)]
def ztd:=h0 #[(vY x.t.a.a.f)]
def zf3:=h5 x.t.a.a.h (vY x.t.a.b.a)
def zti:=h4 #[i10,i11,i12,i13] 4
def ztj:=h2 s16 191 192 193 2 vO vO 18 (.bool false) 19 .none .none .none 194 195
def zth:=h3 20 17 s13 187
def ztk:=h4 #[i10,i12,i13,i14,i15] 3
def b989:=h6 []
def ztb:Obj:=⟨(vY x.t.a.b.f),none,(.fields #[(vS x.s.a.c.c 202),(vr 24),(vB x.t.a.b.g),.none]),#[]⟩
def ztl:=h7 24
def ztc:=h5 x.t.a.c.a (vr 24)
def b993:=h4 #[i0,i1,i2,i3,i4,i5,i6,i7,i8,i9,i16] 11
def b994:=h1 #[(vI 2),vO,(vr 20),(vI 4),vO,(vr 33)]
def b995:=h6 [(vr 37)]
def ziH:=h0 #[(vr 24)]
def zuL:=h4 #[i17,i18,i19,i20] 4
def zkJ:=h2 x.s.a.c.d 209 210 211 4 vO vO 31 (.bool false) 32 .none .none .none 212 213
def zj6:=h3 33 30 s13 187
def zkY:=h4 #[i17,i19,i20,i21] 2
def zlb:=h8 x.s.a.c.d 37 36 28 207 215
def zkm:=h7 37
def zk8:=h5 x.t.a.c.a (vr 37)
def b1008:=h4 #[i0,i1,i2,i3,i4,i5,i6,i7,i8,i9,i16,i22] 12
def b1009:=h1 #[(vI 2),vO,(vr 20),(vI 4),vO,(vr 33),(vI 6),vO,(vr 45)]
def b1010:=h6 [(vr 37),(vr 49)]
def zmA:=h4 #[i23,i24,i25,i26] 4
def zmM:=h2 x.s.a.c.e 225 226 227 6 vO vO 43 (.bool false) 44 .none .none .none 228 229
def zlS:=h3 45 42 s13 187
def zlD:=h4 #[i23,i25,i26,i27] 2
def zlx:=h8 x.s.a.c.e 49 48 40 223 231
def zmc:=h7 49
def zl4:=h5 x.t.a.c.a (vr 49)
def b1023:=h4 #[i28,i1,i2,i3,i4,i5,i6,i7,i8,i9,i16,i22,i29,i30,i31,i32,i33,i34] 18
def b1024:=h1 #[(vI 2),vO,(vr 20),(vI 4),vO,(vr 33),(vI 6),vO,(vr 45),(vI 8),vO,(vr 57),(vI 11),vO,(vr 69),(vI 19),vO,(vr 76),(vI 26),vO,(vr 83),(vI 28),vO,(vr 90),(vI 30),vO,(vr 97)]
def znT:=h6 [(vr 37),(vr 49),(vr 61)]
def znB:=h4 #[i35,i36,i37,i38] 4
def znN:=h2 x.s.a.c.g 241 242 243 8 vO vO 55 (.bool false) 56 .none .none .none 244 245
def znA:=h3 57 54 s13 187
def zmV:=h4 #[i35,i37,i38,i39] 2
def znP:=h8 x.s.a.c.g 61 60 52 239 247
def zno:=h7 61
def znG:=h5 x.t.a.c.a (vr 61)
def znL:=h0 #[(vS s17 260),(vS s18 261),(vS x.s.a.d.g 262)]
def zm3:=h9 6 x.s.a.c.h
def zns:=h2 x.s.a.c.h 257 258 259 11 (vI 2) (vI 3) 64 (Qv) 65 (vr 66) (vr 67) (vr 68) 263 264
def znv:=h10 6 x.s.a.c.h s12 255 69
def zn6:=h0 #[(vS s19 269),(vS s20 270),(vS x.s.a.e.b 271)]
def zm9:=h9 7 x.s.a.d.a
def zny:=h2 x.s.a.d.a 266 267 268 19 (vI 2) (vI 3) 71 (Qv) 72 (vr 73) (vr 74) (vr 75) 272 273
def znY:=h10 7 x.s.a.d.a s12 255 76
def zoa:=h0 #[(vS s17 278),(vS s18 279)]
def zn3:=h9 8 x.s.a.d.b
def zm0:=h2 x.s.a.d.b 275 276 277 26 (vI 2) (vI 3) 78 (Qv) 79 (vr 80) (vr 81) (vr 82) 280 281
def znz:=h10 8 x.s.a.d.b s12 255 83
def znJ:=h0 #[(vS s17 286),(vS s18 287)]
def zmZ:=h9 9 x.s.a.d.c
def zn8:=h2 x.s.a.d.c 283 284 285 28 (vI 2) (vI 3) 85 (Qv) 86 (vr 87) (vr 88) (vr 89) 288 289
def zm4:=h10 9 x.s.a.d.c s12 255 90
def znw:=h0 #[(vS s17 294),(vS s18 295)]
def zni:=h9 10 x.s.a.d.d
def znc:=h2 x.s.a.d.d 291 292 293 30 (vI 2) (vI 3) 92 (Qv) 93 (vr 94) (vr 95) (vr 96) 296 297
def zn1:=h10 10 x.s.a.d.d s12 255 97
def b1073:=h4 #[i40,i1,i2,i3,i4,i5,i6,i7,i8,i9,i16,i22,i29,i30,i31,i32,i33,i34,i41,i42,i43,i44,i45,i46,i47,i48,i49,i50,i51,i52,i53,i54,i55,i56] 34
def b1074:=h1 #[(vI 2),vO,(vr 20),(vI 4),vO,(vr 33),(vI 6),vO,(vr 45),(vI 8),vO,(vr 57),(vI 11),vO,(vr 69),(vI 19),vO,(vr 76),(vI 26),vO,(vr 83),(vI 28),vO,(vr 90),(vI 30),vO,(vr 97),(vI 32),vO,(vr 104),(vI 34),vO,(vr 111),(vI 36),vO,(vr 116),(vI 41),vO,(vr 123),(vI 46),vO,(vr 128),(vI 50),vO,(vr 135),(vI 52),vO,(vr 142),(vI 54),vO,(vr 147),(vI 58),vO,(vr 154),(vI 70),vO,(vr 161),(vI 75),vO,(vr 166)]
def zpl:=h0 #[(vS s17 302),(vS s18 303)]
def zpr:=h9 11 x.s.a.e.d
def zpj:=h2 x.s.a.e.d 299 300 301 32 (vI 2) (vI 3) 99 (Qv) 100 (vr 101) (vr 102) (vr 103) 304 305
def zpD:=h10 11 x.s.a.e.d s12 255 104
def zpu:=h0 #[(vS s17 310),(vS s18 311)]
def zpY:=h9 12 x.s.a.e.e
def zpz:=h2 x.s.a.e.e 307 308 309 34 (vI 2) (vI 3) 106 (Qv) 107 (vr 108) (vr 109) (vr 110) 312 313
def zpy:=h10 12 x.s.a.e.e s12 255 111
def zpp:=h9 13 x.s.a.e.f
def zpG:=h2 x.s.a.e.f 315 316 317 36 (vI 1) (vI 3) 113 (Qv) 114 .none .none (vr 115) 318 319
def zpI:=h10 13 x.s.a.e.f s12 255 116
def zps:=h0 #[(vS x.s.a.g.d 324),(vS x.s.a.e.b 325),(vS x.s.a.g.e 326)]
def zpi:=h9 14 x.s.a.e.g
def zpm:=h2 x.s.a.e.g 321 322 323 41 (vI 1) (vI 3) 118 (Qv) 119 (vr 120) (vr 121) (vr 122) 327 328
def zpg:=h10 14 x.s.a.e.g s12 255 123
def zsz:=h9 15 x.s.a.e.h
def zsV:=h2 x.s.a.e.h 330 331 332 46 (vI 1) (vI 3) 125 (Qv) 126 .none .none (vr 127) 333 334
def zqi:=h10 15 x.s.a.e.h s12 255 128
def zrv:=h0 #[(vS s21 341)]
def zsO:=h9 17 x.s.a.f.a
def zqe:=h2 x.s.a.f.a 338 339 340 50 (vI 1) (vI 3) 130 (Qv) 131 (vr 132) (vr 133) (vr 134) 342 343
def zsE:=h10 17 x.s.a.f.a x.s.a.g.g 336 135
def zsQ:=h0 #[(vS s21 348),(vS x.s.a.g.h 349),(vS x.s.a.h.a 350)]
def zqG:=h9 18 x.s.a.f.b
def zqO:=h2 x.s.a.f.b 345 346 347 52 (vI 3) (vI 3) 137 (Qv) 138 (vr 139) (vr 140) (vr 141) 351 352
def zsI:=h10 18 x.s.a.f.b x.s.a.g.g 336 142
def zsC:=h9 19 x.s.a.f.c
def zr0:=h2 x.s.a.f.c 354 355 356 54 (vI 2) (vI 3) 144 (Qv) 145 .none .none (vr 146) 357 358
def zrd:=h10 19 x.s.a.f.c x.s.a.g.g 336 147
def zqC:=h0 #[(vS s21 363)]
def zqq:=h9 20 x.s.a.f.d
def zqw:=h2 x.s.a.f.d 360 361 362 58 (vI 1) (vI 3) 149 (Qv) 150 (vr 151) (vr 152) (vr 153) 364 365
def zrT:=h10 20 x.s.a.f.d x.s.a.g.g 336 154
def zp4:=h0 #[(vS s21 382),(vS x.s.a.h.b 383),(vS x.s.a.h.c 384),(vS x.s.a.h.d 385)]
def zr4:=h9 27 x.s.a.g.b
def zsJ:=h2 x.s.a.g.b 379 380 381 70 (vI 1) (vI 3) 156 (Qv) 157 (vr 158) (vr 159) (vr 160) 386 387
def zsn:=h10 27 x.s.a.g.b s0 367 161
def zre:=h9 28 x.s.a.g.c
def zpq:=h2 x.s.a.g.c 389 390 391 75 (vI 1) (vI 3) 163 (Qv) 164 .none .none (vr 165) 392 393
def zrL:=h10 28 x.s.a.g.c s0 367 166
def b1144:=h4 #[i40,i1,i2,i3,i4,i5,i6,i7,i8,i9,i16,i22,i29,i30,i31,i32,i33,i34,i41,i42,i43,i44,i45,i46,i47,i48,i49,i50,i51,i52,i53,i54,i55,i56,i57,i58,i59,i60,i61,i62,i63,i64,i65,i66,i67,i68,i69] 47
def b1145:=h1 #[(vI 2),vO,(vr 20),(vI 4),vO,(vr 33),(vI 6),vO,(vr 45),(vI 8),vO,(vr 57),(vI 11),vO,(vr 69),(vI 19),vO,(vr 76),(vI 26),vO,(vr 83),(vI 28),vO,(vr 90),(vI 30),vO,(vr 97),(vI 32),vO,(vr 104),(vI 34),vO,(vr 111),(vI 36),vO,(vr 116),(vI 41),vO,(vr 123),(vI 46),vO,(vr 128),(vI 50),vO,(vr 135),(vI 52),vO,(vr 142),(vI 54),vO,(vr 147),(vI 58),vO,(vr 154),(vI 70),vO,(vr 161),(vI 75),vO,(vr 166),(vI 78),vO,(vr 173),(vI 81),vO,(vr 178),(vI 85),vO,(vr 185),(vI 90),vO,(vr 192),(vI 92),vO,(vr 199),(vI 95),vO,(vr 206),(vI 98),vO,(vr 211),(vI 100),vO,(vr 218),(vI 104),vO,(vr 223),(vI 106),vO,(vr 230),(vI 113),vO,(vr 235),(vI 121),vO,(vr 242),(vI 126),vO,(vr 249)]
def zq9:=h0 #[(vS x.s.b.b.b 398)]
def zuk:=h9 29 x.s.a.h.e
def zuE:=h2 x.s.a.h.e 395 396 397 78 (vI 1) (vI 3) 168 (Qv) 169 (vr 170) (vr 171) (vr 172) 399 400
def zt9:=h10 29 x.s.a.h.e s0 367 173
def ztp:=h9 30 x.s.a.h.f
def zuy:=h2 x.s.a.h.f 402 403 404 81 (vI 2) (vI 3) 175 (Qv) 176 .none .none (vr 177) 405 406
def ztT:=h10 30 x.s.a.h.f s0 367 178
def zue:=h0 #[(vS x.s.b.b.c 411),(vS s14 412),(vS x.s.b.b.e 413),(vS x.s.b.b.f 414)]
def zty:=h9 31 x.s.a.h.g
def zs5:=h2 x.s.a.h.g 408 409 410 85 (vI 2) (vI 3) 180 (Qv) 181 (vr 182) (vr 183) (vr 184) 415 416
def zqc:=h10 31 x.s.a.h.g s0 367 185
def zuw:=h0 #[(vS s15 421),(vS s14 422)]
def zq2:=h9 32 x.s.a.h.h
def zt1:=h2 x.s.a.h.h 418 419 420 90 (vI 2) (vI 3) 187 (Qv) 188 (vr 189) (vr 190) (vr 191) 423 424
def ztG:=h10 32 x.s.a.h.h s0 367 192
def zqQ:=h0 #[(vS s15 429),(vS s14 430),(vS s19 431),(vS s20 432)]
def zun:=h9 33 x.s.b.a.a
def zu2:=h2 x.s.b.a.a 426 427 428 92 (vI 2) (vI 3) 194 (Qv) 195 (vr 196) (vr 197) (vr 198) 433 434
def zsl:=h10 33 x.s.b.a.a s0 367 199
def zr7:=h0 #[(vS s15 439),(vS s14 440),(vS s19 441),(vS s20 442)]
def zse:=h9 34 x.s.b.a.b
def zqx:=h2 x.s.b.a.b 436 437 438 95 (vI 2) (vI 3) 201 (Qv) 202 (vr 203) (vr 204) (vr 205) 443 444
def zrS:=h10 34 x.s.b.a.b s0 367 206
def zrY:=h9 35 x.s.b.a.c
def zp7:=h2 x.s.b.a.c 446 447 448 98 (vI 2) (vI 3) 208 (Qv) 209 .none .none (vr 210) 449 450
def zsN:=h10 35 x.s.b.a.c s0 367 211
def zst:=h0 #[(vS s21 455),(vS s23 456)]
def zs8:=h9 36 x.s.b.a.d
def zqn:=h2 x.s.b.a.d 452 453 454 100 (vI 2) (vI 3) 213 (Qv) 214 (vr 215) (vr 216) (vr 217) 457 458
def zsA:=h10 36 x.s.b.a.d s0 367 218
def zrs:=h9 37 x.s.b.a.e
def zsZ:=h2 x.s.b.a.e 460 461 462 104 (vI 2) (vI 3) 220 (Qv) 221 .none .none (vr 222) 463 464
def zqa:=h10 37 x.s.b.a.e s0 367 223
def zra:Obj:=⟨(vY x.t.a.a.a),none,(.seq #[(vS s15 469),(vS x.s.b.c.a 470),(vS x.s.b.c.b 471),(vS x.s.b.c.c 472),(vS x.s.b.c.d 473),(vS x.s.b.c.e 474),(vS s14 475),(vS s24 476),(vS s19 477),(vS s20 478)] 0),#[]⟩
def ztE:=h9 38 x.s.b.a.f
def zu0:=h2 x.s.b.a.f 466 467 468 106 (vI 4) (vI 3) 225 (Qv) 226 (vr 227) (vr 228) (vr 229) 479 480
def zsT:=h10 38 x.s.b.a.f s0 367 230
def zs3:=h9 39 x.s.b.a.g
def ztF:=h2 x.s.b.a.g 482 483 484 113 (vI 4) (vI 3) 232 (Qv) 233 .none .none (vr 234) 485 486
def zuH:=h10 39 x.s.b.a.g s0 367 235
def zrE:=h0 #[(vS s21 491),(vS s23 492),(vS x.s.b.c.b 493),(vS s25 494),(vS x.s.b.c.a 495)]
def zrw:=h9 40 x.s.b.a.h
def zuB:=h2 x.s.b.a.h 488 489 490 121 (vI 2) (vI 3) 237 (Qv) 238 (vr 239) (vr 240) (vr 241) 496 497
def zt4:=h10 40 x.s.b.a.h s0 367 242
def zsB:=h0 #[(vS s15 502),(vS s24 503),(vS s25 504),(vS s14 505),(vS s19 506),(vS s20 507)]
def zqm:=h9 41 x.s.b.b.a
def zuV:=h2 x.s.b.b.a 499 500 501 126 (vI 4) (vI 3) 244 (Qv) 245 (vr 246) (vr 247) (vr 248) 508 509
def zuZ:=h10 41 x.s.b.b.a s0 367 249
def b1229:=h4 #[i40,i1,i2,i3,i4,i5,i6,i7,i8,i9,i16,i22,i29,i30,i31,i32,i33,i34,i41,i42,i43,i44,i45,i46,i47,i48,i49,i50,i51,i52,i53,i54,i55,i56,i57,i58,i59,i60,i61,i62,i63,i64,i65,i66,i67,i68,i69,i70,i71,i72,i73,i74,i75,i76,i77,i78,i79,i80,i81,i82] 60
def b1230:=h1 #[(vI 2),vO,(vr 20),(vI 4),vO,(vr 33),(vI 6),vO,(vr 45),(vI 8),vO,(vr 57),(vI 11),vO,(vr 69),(vI 19),vO,(vr 76),(vI 26),vO,(vr 83),(vI 28),vO,(vr 90),(vI 30),vO,(vr 97),(vI 32),vO,(vr 104),(vI 34),vO,(vr 111),(vI 36),vO,(vr 116),(vI 41),vO,(vr 123),(vI 46),vO,(vr 128),(vI 50),vO,(vr 135),(vI 52),vO,(vr 142),(vI 54),vO,(vr 147),(vI 58),vO,(vr 154),(vI 70),vO,(vr 161),(vI 75),vO,(vr 166),(vI 78),vO,(vr 173),(vI 81),vO,(vr 178),(vI 85),vO,(vr 185),(vI 90),vO,(vr 192),(vI 92),vO,(vr 199),(vI 95),vO,(vr 206),(vI 98),vO,(vr 211),(vI 100),vO,(vr 218),(vI 104),vO,(vr 223),(vI 106),vO,(vr 230),(vI 113),vO,(vr 235),(vI 121),vO,(vr 242),(vI 126),vO,(vr 249),(vI 129),vO,(vr 256),(vI 132),vO,(vr 263),(vI 136),vO,(vr 268),(vI 145),vO,(vr 275),(vI 153),vO,(vr 282),(vI 161),vO,(vr 289),(vI 166),vO,(vr 296),(vI 172),vO,(vr 301),(vI 174),vO,(vr 306),(vI 180),vO,(vr 311),(vI 189),vO,(vr 316),(vI 191),vO,(vr 321),(vI 204),vO,(vr 326)]
def ztD:=h0 #[(vS s15 514),(vS s24 515),(vS s25 516),(vS s14 517),(vS s19 518),(vS s20 519)]
def zwq:=h9 42 x.s.b.c.h
def zw9:=h2 x.s.b.c.h 511 512 513 129 (vI 4) (vI 3) 251 (Qv) 252 (vr 253) (vr 254) (vr 255) 520 521
def zw6:=h10 42 x.s.b.c.h s0 367 256
def zvY:=h0 #[(vS s15 526),(vS s24 527),(vS s25 528),(vS s14 529)]
def zvK:=h9 43 x.s.b.d.a
def zxs:=h2 x.s.b.d.a 523 524 525 132 (vI 4) (vI 3) 258 (Qv) 259 (vr 260) (vr 261) (vr 262) 530 531
def zwj:=h10 43 x.s.b.d.a s0 367 263
def zxd:=h9 44 x.s.b.d.b
def zw4:=h2 x.s.b.d.b 533 534 535 136 (vI 4) (vI 3) 265 (Qv) 266 .none .none (vr 267) 536 537
def zwI:=h10 44 x.s.b.d.b s0 367 268
def zxv:Obj:=⟨(vY x.t.a.a.a),none,(.seq #[(vS s23 542),(vS x.s.b.b.b 543),(vS x.s.b.c.c 544),(vS x.s.b.e.e 545),(vS x.s.b.c.b 546),(vS s25 547),(vS x.s.b.c.a 548),(vS s15 549),(vS s24 550),(vS s14 551)] 0),#[]⟩
def zwu:=h9 45 x.s.b.d.c
def zwb:=h2 x.s.b.d.c 539 540 541 145 (vI 4) (vI 3) 270 (Qv) 271 (vr 272) (vr 273) (vr 274) 552 553
def zxu:=h10 45 x.s.b.d.c s0 367 275
def zwx:=h0 #[(vS s23 558),(vS x.s.b.b.b 559),(vS x.s.b.c.c 560),(vS x.s.b.e.f 561),(vS x.s.b.e.e 562)]
def zw0:=h9 46 x.s.b.d.d
def zvI:=h2 x.s.b.d.d 555 556 557 153 (vI 5) (vI 3) 277 (Qv) 278 (vr 279) (vr 280) (vr 281) 563 564
def zwf:=h10 46 x.s.b.d.d s0 367 282
def zxx:=h0 #[(vS x.s.b.e.g 569),(vS x.s.b.e.h 570),(vS x.s.b.f.a 571)]
def zxn:=h9 47 x.s.b.d.e
def zwh:=h2 x.s.b.d.e 566 567 568 161 (vI 1) (vI 3) 284 (Qv) 285 (vr 286) (vr 287) (vr 288) 572 573
def zwe:=h10 47 x.s.b.d.e s0 367 289
def zwB:=h0 #[(vS x.s.b.f.b 578),(vS x.s.a.g.h 579),(vS s17 580)]
def zwz:=h9 48 x.s.b.d.f
def zuF:=h2 x.s.b.d.f 575 576 577 166 (vI 1) (vI 3) 291 (Qv) 292 (vr 293) (vr 294) (vr 295) 581 582
def ztO:=h10 48 x.s.b.d.f s0 367 296
def zxw:=h9 49 x.s.b.d.g
def zv1:=h2 x.s.b.d.g 584 585 586 172 (vI 2) (vI 3) 298 (Qv) 299 .none .none (vr 300) 587 588
def zvW:=h10 49 x.s.b.d.g s0 367 301
def zws:=h9 50 x.s.b.d.h
def zwY:=h2 x.s.b.d.h 590 591 592 174 (vI 3) (vI 3) 303 (Qv) 304 .none .none (vr 305) 593 594
def zvZ:=h10 50 x.s.b.d.h s0 367 306
def zwX:=h9 51 x.s.b.e.a
def zt2:=h2 x.s.b.e.a 596 597 598 180 (vI 2) (vI 3) 308 (Qv) 309 .none .none (vr 310) 599 600
def zwL:=h10 51 x.s.b.e.a s0 367 311
def zum:=h9 52 x.s.b.e.b
def zu5:=h2 x.s.b.e.b 602 603 604 189 (vI 3) (vI 3) 313 (Qv) 314 .none .none (vr 315) 605 606
def zxr:=h10 52 x.s.b.e.b s0 367 316
def zvX:=h9 53 x.s.b.e.c
def zxF:=h2 x.s.b.e.c 608 609 610 191 (vI 3) (vI 3) 318 (Qv) 319 .none .none (vr 320) 611 612
def zuY:=h10 53 x.s.b.e.c s0 367 321
def zt8:=h9 54 x.s.b.e.d
def zwS:=h2 x.s.b.e.d 614 615 616 204 (vI 2) (vI 3) 323 (Qv) 324 .none .none (vr 325) 617 618
def zxb:=h10 54 x.s.b.e.d s0 367 326
def b1308:=h4 #[i83,i1,i2,i3,i4,i5,i6,i7,i8,i9,i16,i22,i29,i30,i31,i32,i33,i34,i41,i42,i43,i44,i45,i46,i47,i48,i49,i50,i51,i52,i53,i54,i55,i56,i57,i58,i59,i60,i61,i62,i63,i64,i65,i66,i67,i68,i69,i70,i71,i72,i73,i74,i75,i76,i77,i78,i79,i80,i81,i82,i84,i85,i86,i87,i88,i89,i90,i91,i92,i93,i94,i95] 72
def b1309:=h1 #[(vI 2),vO,(vr 20),(vI 4),vO,(vr 33),(vI 6),vO,(vr 45),(vI 8),vO,(vr 57),(vI 11),vO,(vr 69),(vI 19),vO,(vr 76),(vI 26),vO,(vr 83),(vI 28),vO,(vr 90),(vI 30),vO,(vr 97),(vI 32),vO,(vr 104),(vI 34),vO,(vr 111),(vI 36),vO,(vr 116),(vI 41),vO,(vr 123),(vI 46),vO,(vr 128),(vI 50),vO,(vr 135),(vI 52),vO,(vr 142),(vI 54),vO,(vr 147),(vI 58),vO,(vr 154),(vI 70),vO,(vr 161),(vI 75),vO,(vr 166),(vI 78),vO,(vr 173),(vI 81),vO,(vr 178),(vI 85),vO,(vr 185),(vI 90),vO,(vr 192),(vI 92),vO,(vr 199),(vI 95),vO,(vr 206),(vI 98),vO,(vr 211),(vI 100),vO,(vr 218),(vI 104),vO,(vr 223),(vI 106),vO,(vr 230),(vI 113),vO,(vr 235),(vI 121),vO,(vr 242),(vI 126),vO,(vr 249),(vI 129),vO,(vr 256),(vI 132),vO,(vr 263),(vI 136),vO,(vr 268),(vI 145),vO,(vr 275),(vI 153),vO,(vr 282),(vI 161),vO,(vr 289),(vI 166),vO,(vr 296),(vI 172),vO,(vr 301),(vI 174),vO,(vr 306),(vI 180),vO,(vr 311),(vI 189),vO,(vr 316),(vI 191),vO,(vr 321),(vI 204),vO,(vr 326),(vI 208),vO,(vr 331),(vI 211),vO,(vr 336),(vI 213),vO,(vr 343),(vI 221),vO,(vr 350),(vI 224),vO,(vr 357),(vI 228),vO,(vr 364),(vI 233),vO,(vr 371),(vI 241),vO,(vr 378),(vI 248),vO,(vr 385),(vI 250),vO,(vr 392),(vI 257),vO,(vr 399),(vI 263),vO,(vr 406)]
def zwo:=h9 55 x.s.b.f.d
def zwk:=h2 x.s.b.f.d 620 621 622 208 (vI 1) (vI 3) 328 (Qv) 329 .none .none (vr 330) 623 624
def zxm:=h10 55 x.s.b.f.d s0 367 331
def zxq:=h9 56 x.s.b.f.e
def zwH:=h2 x.s.b.f.e 626 627 628 211 (vI 2) (vI 3) 333 (Qv) 334 .none .none (vr 335) 629 630
def zv3:=h10 56 x.s.b.f.e s0 367 336
def zwE:=h0 #[(vS s23 635),(vS x.s.b.b.b 636),(vS x.s.b.c.a 637),(vS x.s.b.c.c 638)]
def zwy:=h9 57 x.s.b.f.f
def zwa:=h2 x.s.b.f.f 632 633 634 213 (vI 2) (vI 3) 338 (Qv) 339 (vr 340) (vr 341) (vr 342) 639 640
def zwK:=h10 57 x.s.b.f.f s0 367 343
def zw2:=h0 #[(vS x.s.b.g.h 647),(vS x.s.b.h.a 648),(vS x.s.b.h.b 649)]
def zvO:=h9 59 x.s.b.f.g
def zxy:=h2 x.s.b.f.g 644 645 646 221 (vI 2) (vI 3) 345 (Qv) 346 (vr 347) (vr 348) (vr 349) 650 651
def zxA:=h10 59 x.s.b.f.g s1 642 350
def zwi:=h0 #[(vS x.s.b.h.c 656),(vS x.s.b.h.a 657)]
def zwA:=h9 60 x.s.b.f.h
def zx2:=h2 x.s.b.f.h 653 654 655 224 (vI 2) (vI 3) 352 (Qv) 353 (vr 354) (vr 355) (vr 356) 658 659
def zxO:=h10 60 x.s.b.f.h s1 642 357
def zww:=h0 #[(vS x.s.b.h.c 664),(vS x.s.b.h.a 665),(vS x.s.b.h.d 666)]
def zzx:=h9 61 x.s.b.g.a
def zyh:=h2 x.s.b.g.a 661 662 663 228 (vI 2) (vI 3) 359 (Qv) 360 (vr 361) (vr 362) (vr 363) 667 668
def zvR:=h10 61 x.s.b.g.a s1 642 364
def zwg:=h0 #[(vS x.s.b.h.e 673),(vS x.s.b.h.f 674),(vS x.s.b.h.b 675),(vS x.s.b.h.g 676)]
def zxL:=h9 62 x.s.b.g.b
def zzq:=h2 x.s.b.g.b 670 671 672 233 (vI 2) (vI 3) 366 (Qv) 367 (vr 368) (vr 369) (vr 370) 677 678
def zxl:=h10 62 x.s.b.g.b s1 642 371
def zwW:=h0 #[(vS x.s.b.h.e 683),(vS x.s.b.h.h 684),(vS x.s.c.a.a 685),(vS x.s.b.h.a 686),(vS x.s.c.a.b 687),(vS x.s.c.a.c 688)]
def zyM:=h9 63 x.s.b.g.c
def zyj:=h2 x.s.b.g.c 680 681 682 241 (vI 2) (vI 3) 373 (Qv) 374 (vr 375) (vr 376) (vr 377) 689 690
def zwl:=h10 63 x.s.b.g.c s1 642 378
def zv4:=h0 #[(vS x.s.c.a.d 695)]
def zyl:=h9 64 x.s.b.g.d
def zyV:=h2 x.s.b.g.d 692 693 694 248 (vI 1) (vI 3) 380 (Qv) 381 (vr 382) (vr 383) (vr 384) 696 697
def zy3:=h10 64 x.s.b.g.d s1 642 385
def zyi:=h0 #[(vS x.s.c.a.d 702),(vS x.s.c.a.e 703),(vS x.s.c.a.f 704)]
def zx4:=h9 65 x.s.b.g.e
def zx5:=h2 x.s.b.g.e 699 700 701 250 (vI 1) (vI 3) 387 (Qv) 388 (vr 389) (vr 390) (vr 391) 705 706
def zzp:=h10 65 x.s.b.g.e s1 642 392
def zyB:=h0 #[(vS x.s.c.a.g 711),(vS x.s.c.a.h 712),(vS x.s.c.a.e 713),(vS x.s.c.a.f 714)]
def zyr:=h9 66 x.s.b.g.f
def zyu:=h2 x.s.b.g.f 708 709 710 257 (vI 2) (vI 3) 394 (Qv) 395 (vr 396) (vr 397) (vr 398) 715 716
def zyy:=h10 66 x.s.b.g.f s1 642 399
def zzg:=h0 #[(vS x.s.c.b.a 721),(vS x.s.c.b.b 722),(vS x.s.c.a.g 723),(vS x.s.c.a.h 724),(vS x.s.c.b.c 725)]
def zzw:=h9 67 x.s.b.g.g
def zyY:=h2 x.s.b.g.g 718 719 720 263 (vI 2) (vI 3) 401 (Qv) 402 (vr 403) (vr 404) (vr 405) 726 727
def zzn:=h10 67 x.s.b.g.g s1 642 406
def zy6:=h4 #[i83,i1,i2,i3,i4,i5,i6,i7,i8,i9,i16,i22,i29,i30,i31,i32,i33,i34,i41,i42,i43,i44,i45,i46,i47,i48,i49,i50,i51,i52,i53,i54,i55,i56,i57,i58,i59,i60,i61,i62,i63,i64,i65,i66,i67,i68,i69,i70,i71,i72,i73,i74,i75,i76,i77,i78,i79,i80,i81,i82,i84,i85,i86,i87,i88,i89,i90,i91,i92,i93,i94,i95,i96,i97,i98,i99,i100,i101,i102,i103,i104,i105,i106,i107,i108] 85
def zyD:=h1 #[(vI 2),vO,(vr 20),(vI 4),vO,(vr 33),(vI 6),vO,(vr 45),(vI 8),vO,(vr 57),(vI 11),vO,(vr 69),(vI 19),vO,(vr 76),(vI 26),vO,(vr 83),(vI 28),vO,(vr 90),(vI 30),vO,(vr 97),(vI 32),vO,(vr 104),(vI 34),vO,(vr 111),(vI 36),vO,(vr 116),(vI 41),vO,(vr 123),(vI 46),vO,(vr 128),(vI 50),vO,(vr 135),(vI 52),vO,(vr 142),(vI 54),vO,(vr 147),(vI 58),vO,(vr 154),(vI 70),vO,(vr 161),(vI 75),vO,(vr 166),(vI 78),vO,(vr 173),(vI 81),vO,(vr 178),(vI 85),vO,(vr 185),(vI 90),vO,(vr 192),(vI 92),vO,(vr 199),(vI 95),vO,(vr 206),(vI 98),vO,(vr 211),(vI 100),vO,(vr 218),(vI 104),vO,(vr 223),(vI 106),vO,(vr 230),(vI 113),vO,(vr 235),(vI 121),vO,(vr 242),(vI 126),vO,(vr 249),(vI 129),vO,(vr 256),(vI 132),vO,(vr 263),(vI 136),vO,(vr 268),(vI 145),vO,(vr 275),(vI 153),vO,(vr 282),(vI 161),vO,(vr 289),(vI 166),vO,(vr 296),(vI 172),vO,(vr 301),(vI 174),vO,(vr 306),(vI 180),vO,(vr 311),(vI 189),vO,(vr 316),(vI 191),vO,(vr 321),(vI 204),vO,(vr 326),(vI 208),vO,(vr 331),(vI 211),vO,(vr 336),(vI 213),vO,(vr 343),(vI 221),vO,(vr 350),(vI 224),vO,(vr 357),(vI 228),vO,(vr 364),(vI 233),vO,(vr 371),(vI 241),vO,(vr 378),(vI 248),vO,(vr 385),(vI 250),vO,(vr 392),(vI 257),vO,(vr 399),(vI 263),vO,(vr 406),(vI 270),vO,(vr 413),(vI 272),vO,(vr 420),(vI 274),vO,(vr 425),(vI 278),vO,(vr 430),(vI 280),vO,(vr 435),(vI 287),vO,(vr 440),(vI 297),vO,(vr 445),(vI 301),vO,(vr 452),(vI 309),vO,(vr 457),(vI 324),vO,(vr 462),(vI 330),vO,(vr 469),(vI 336),vO,(vr 474),(vI 347),vO,(vr 479)]
def zya:=h0 #[(vS x.s.c.a.e 732),(vS x.s.c.a.f 733)]
def zyc:=h9 68 x.s.c.b.d
def zyZ:=h2 x.s.c.b.d 729 730 731 270 (vI 2) (vI 3) 408 (Qv) 409 (vr 410) (vr 411) (vr 412) 734 735
def zyE:=h10 68 x.s.c.b.d s1 642 413
def zx3:=h0 #[(vS x.s.c.a.e 740),(vS x.s.c.a.f 741)]
def zxW:=h9 69 x.s.c.b.e
def zx9:=h2 x.s.c.b.e 737 738 739 272 (vI 2) (vI 3) 415 (Qv) 416 (vr 417) (vr 418) (vr 419) 742 743
def zzB:=h10 69 x.s.c.b.e s1 642 420
def zyN:=h9 70 x.s.c.b.f
def zy1:=h2 x.s.c.b.f 745 746 747 274 (vI 2) (vI 3) 422 (Qv) 423 .none .none (vr 424) 748 749
def zy0:=h10 70 x.s.c.b.f s1 642 425
def zzo:=h9 71 x.s.c.b.g
def zzA:=h2 x.s.c.b.g 751 752 753 278 (vI 2) (vI 3) 427 (Qv) 428 .none .none (vr 429) 754 755
def zzv:=h10 71 x.s.c.b.g s1 642 430
def zyd:=h9 72 x.s.c.b.h
def zyt:=h2 x.s.c.b.h 757 758 759 280 (vI 3) (vI 3) 432 (Qv) 433 .none .none (vr 434) 760 761
def zxX:=h10 72 x.s.c.b.h s1 642 435
def zzl:=h9 73 x.s.c.c.a
def zx0:=h2 x.s.c.c.a 763 764 765 287 (vI 3) (vI 3) 437 (Qv) 438 .none .none (vr 439) 766 767
def zx6:=h10 73 x.s.c.c.a s1 642 440
def zxQ:=h9 74 x.s.c.c.b
def zyH:=h2 x.s.c.c.b 769 770 771 297 (vI 4) (vI 3) 442 (Qv) 443 .none .none (vr 444) 772 773
def zx8:=h10 74 x.s.c.c.b s1 642 445
def zze:Obj:=⟨(vY x.t.a.a.a),none,(.seq #[(vS x.s.c.b.a 778),(vS x.s.c.d.a 779),(vS x.s.c.d.b 780),(vS x.s.c.d.c 781),(vS x.s.c.d.d 782),(vS x.s.c.d.e 783),(vS x.s.c.a.g 784),(vS x.s.c.a.h 785)] 0),#[]⟩
def zzK:=h9 75 x.s.c.c.c
def zzh:=h2 x.s.c.c.c 775 776 777 301 (vI 4) (vI 3) 447 (Qv) 448 (vr 449) (vr 450) (vr 451) 786 787
def zzt:=h10 75 x.s.c.c.c s1 642 452
def zyg:=h9 76 x.s.c.c.d
def zyp:=h2 x.s.c.c.d 789 790 791 309 (vI 4) (vI 3) 454 (Qv) 455 .none .none (vr 456) 792 793
def zyx:=h10 76 x.s.c.c.d s1 642 457
def zyb:=h9 77 x.s.c.c.e
def zxT:=h2 x.s.c.c.e 795 796 797 324 (vI 1) (vI 3) 459 (Qv) 460 .none .none (vr 461) 798 799
def zyk:=h10 77 x.s.c.c.e s1 642 462
def zxR:=h0 #[(vS x.s.c.a.d 804),(vS x.s.c.d.f 805)]
def zy2:=h9 78 x.s.c.c.f
def zyS:=h2 x.s.c.c.f 801 802 803 330 (vI 1) (vI 3) 464 (Qv) 465 (vr 466) (vr 467) (vr 468) 806 807
def zzk:=h10 78 x.s.c.c.f s1 642 469
def zyU:=h9 79 x.s.c.c.g
def zx7:=h2 x.s.c.c.g 809 810 811 336 (vI 3) (vI 3) 471 (Qv) 472 .none .none (vr 473) 812 813
def zyK:=h10 79 x.s.c.c.g s1 642 474
def zyT:=h9 80 x.s.c.c.h
def zyz:=h2 x.s.c.c.h 815 816 817 347 (vI 1) (vI 3) 476 (Qv) 477 .none .none (vr 478) 818 819
def zzf:=h10 80 x.s.c.c.h s1 642 479
def m975:Heap:=⟨⟨[r2,r3,r4,x.r.a.a.d,r5,r6,r7,r8,r9,r10,r11,zaw,zbf,zp3,zp2]⟩,⟨[],[],[],0,[],[],false,#[],[],0,false,false,false,0,[2000,10,10],false,0,true,[],[],0,false⟩⟩
def q0:=L zaw
def q1:=L zbf
def q2:=N zbf q0 z
def q3:=N zaw q1 z
def q4:=N zaw q0 z
def q5:=N zbf q1 z
def q6:=N zbf q0 q0
def q7:=N zaw q1 q1
def q8:=N zaw q0 q0
def q9:=N zbf q1 q0
def q10:=N zu2 (L zxb) z
def q11:=N zrL (L zwz) z
def q12:=N ztT (L zvZ) z
def q13:=N zrT (L zwf) z
def q14:=N ztG (L zxF) z
def q15:=N zsJ (L zwh) z
def q16:=N ztp (L zws) z
def q17:=N zqq (L zw0) z
def q18:=N zre (L zwB) z
def q19:=N zaw q4 q0
def q20:=N zuE (L zv1) z
def q21:=N zuw (L zxr) z
def q22:=N zt1 (L zvX) z
def q23:=N zr4 (L zxn) z
def q24:=N zty (L zwL) z
def q25:=N zuk (L zxw) z
def q26:=N zsn (L zwe) z
def q27:=N zuy (L zwY) z
def q28:=N zqw (L zvI) z
def q29:=N zun (L zwS) z
def q30:=N zue (L zwX) z
def q31:=N zt9 (L zvW) z
def q32:=N zp4 (L zxx) z
def q33:=N zsz (L zwq) q0
def q34:=N zsI q1 (L zyu)
def q35:=N zqe (L zxs) (L zx4)
def q36:=N zqC (L zwx) (L zzn)
def q37:=N zr0 (L zwb) (L zzg)
def q38:=N zt4 (L zzq) z
def q39:=N zsQ (L zxd) q1
def q40:=N ztF (L zzx) z
def q41:=N zqi (L zw6) (L zyV)
def q42:=N zaw q0 (L zzp)
def q43:=N zuV (L zyM) z
def q44:=N zaw q0 (L zyi)
def q45:=N ztE (L zx2) z
def q46:=N zaw q0 (L zzw)
def q47:=N zqG (L zwI) q0
def q48:=N zsV (L zw9) (L zyl)
def q49:=N zaw (L zxv) (L zyy)
def q50:=N zsE (L zwj) (L zx5)
def q51:=N zrv (L zvY) q1
def q52:=N zrd (L zxu) q0
def q53:=N zaw (L zw4) (L zyB)
def q54:=N zuH (L zyh) z
def q55:=N zaw q0 (L zy3)
def q56:=N zsC (L zwu) q1
def q57:=N zuB (L zxL) z
def q58:=N zuZ (L zyj) z
def q59:=N zsO (L zvK) q0
def q60:=N zu0 (L zxO) z
def q61:=N zbf q1 (L zyY)
def q62:=N zqO q0 (L zyr)
def m976:=N r2 (N r3 (N x.r.a.a.d (L r8) q0) (N r6 (L r10) (L zp3))) (N r4 (N r5 (L r9) q1) (N r7 (L r11) (L zp2)))
def m992:=N r2 (N r3 (N b978 (N r8 (L ztd) (L ztk)) (N zaw q1 (L ztc))) (N r6 (N r10 (L zti) (L ztb)) (N zp3 (L zth) z))) (N r4 (N r5 (N r9 (L zf3) (L b989)) (N b979 (L ztj) z)) (N r7 (N r11 q0 (L ztl)) (N zp2 q0 z)))
def m1007:=N r2 (N r3 (N b993 (N r8 (N ztd q0 z) (N ztk (L zk8) z)) (N zaw q2 (L ztc))) (N r6 (N r10 (N zti (L zkJ) z) (L ztb)) (N zp3 (N zth (L zlb) z) (L zf3)))) (N r4 (N r5 (N r9 (N zf3 q1 z) (L b995)) (N b994 (N ztj (L zkY) z) (L ziH))) (N r7 (N r11 (N zaw (L zj6) z) (L ztl)) (N zp2 (N zaw (L zkm) z) (L zuL))))
def m1022:=N r2 (N r3 (N b1008 (N r8 (N ztd q0 q0) (N ztk (L zk8) z)) (N zaw (N zbf q0 (L zl4)) (N ztc q0 z))) (N r6 (N r10 (N zti (L zkJ) (L zlx)) (N ztb (L zf3) z)) (N zp3 (N zth (L zlb) z) (N zf3 (L zmM) z)))) (N r4 (N r5 (N r9 (N zf3 q1 (L zlD)) (N b1010 (L ziH) z)) (N b1009 (N ztj (L zkY) z) (N ziH q1 z))) (N r7 (N r11 (N zaw (L zj6) (L zmc)) (N ztl (L zmA) z)) (N zp2 (N zaw (L zkm) z) (N zuL (L zlS) z))))
def m1072:=N r2 (N r3 (N b1023 (N r8 (N ztd (N zaw (L znG) q0) q3) (N ztk (N zk8 q0 z) (N zaw (L znJ) z))) (N zaw (N zbf q4 (N zl4 (L zm0) z)) (N ztc (N zaw (L zm9) z) (N zaw (L zm4) z)))) (N r6 (N r10 (N zti (N zkJ q1 (L znc)) (N zlx q0 z)) (N ztb (N zf3 (L zn6) z) (N znN (L zmZ) z))) (N zp3 (N zth (N zlb (L zns) z) (N zf3 q0 z)) (N zf3 (N zmM (L znY) z) (N znP q1 z))))) (N r4 (N r5 (N r9 (N zf3 (N zbf q0 (L zni)) (N zlD (L zoa) z)) (N znT (N ziH q1 z) q2)) (N b1024 (N ztj (N zkY (L zm3) z) (N ziH (L znz) z)) (N ziH (N zbf (L zny) z) (N zmV q0 z)))) (N r7 (N r11 (N zaw (N zj6 (L znL) (L zn1)) (N zmc (L zn3) z)) (N ztl (N zmA q0 z) (N znA (L zn8) z))) (N zp2 (N zaw (N zkm (L znv) z) (N znB q1 z)) (N zuL (N zlS q0 z) (N zno (L znw) z)))))
def m1143:=N r2 (N r3 (N b1073 (N r8 (N ztd (N zaw (N znG (L zsz) z) q4) (N zaw (N zbf (L zsI) z) (L zpz))) (N ztk (N zk8 (N zaw (L zqe) z) (N zpr (L zrL) z)) (N zaw (N znJ (L zqC) z) q1))) (N zaw (N zbf (N zaw q3 q4) (N zl4 (N zm0 (L zr0) z) (L zpp))) (N ztc (N zaw (N zm9 (L zsQ) z) q1) (N zaw (N zm4 (L zrT) z) (L zpm))))) (N r6 (N r10 (N zti (N zkJ (N zbf (L zqi) z) (N znc (L zsJ) z)) (N zlx q3 q0)) (N ztb (N zf3 (N zn6 q0 z) (L zpD)) (N znN (N zmZ (L zqq) z) q0))) (N zp3 (N zth (N zlb (N zns q0 z) (N zpl (L zre) z)) (N zf3 q4 (L zpI))) (N zf3 (N zmM (N znY (L zqG) z) q0) (N znP q5 q0))))) (N r4 (N r5 (N r9 (N zf3 (N zbf (N zaw (L zsV) z) (N zni (L zr4) z)) (N zlD (N zoa q0 z) (L zpy))) (N znT (N ziH (N zbf (L zsE) z) (L zpj)) (N zbf q4 (L zps)))) (N b1074 (N ztj (N zkY (N zm3 (L zrv) z) q5) (N ziH (N znz (L zrd) z) (L zpG))) (N ziH (N zbf (N zny q0 z) (L zpu)) (N zmV q4 (L zpg))))) (N r7 (N r11 (N zaw (N zj6 (N znL q0 z) (N zn1 (L zsn) z)) (N zmc (N zn3 (L zsC) z) q1)) (N ztl (N zmA q3 q0) (N znA (N zn8 (L zqw) z) (L zpi)))) (N zp2 (N zaw (N zkm (N znv (L zsO) z) (N zaw (L zpq) z)) (N znB q5 q0)) (N zuL (N zlS (N zaw (L zqO) z) (L zpY)) (N zno (N znw (L zp4) z) q1)))))
def m1228:=N r2 (N r3 (N b1144 (N r8 (N ztd (N zaw (N znG (L zsz) (L zq2)) (N zaw q0 (L zsZ))) (N zaw (N zbf (L zsI) (L zrS)) (N zpz q0 (L zrE)))) (N ztk (N zk8 (N zaw (L zqe) (L zu2)) (N zpr (L zrL) (L zsT))) (N zaw (N znJ (L zqC) (L zst)) q6))) (N zaw (N zbf (N zaw q7 (N zaw q0 (L zra))) (N zl4 (N zm0 (L zr0) (L zp7)) (N zpp (L ztT) (L zt4)))) (N ztc (N zaw (N zm9 (L zsQ) (L zr7)) (N zbf q0 (L ztF))) (N zaw (N zm4 (L zrT) (L zsA)) (N zpm q0 z))))) (N r6 (N r10 (N zti (N zkJ (N zbf (L zqi) (L ztG)) (N znc (L zsJ) q0)) (N zlx q7 (N zaw (L ztp) (L zrw)))) (N ztb (N zf3 (N zn6 q0 q0) (N zpD q1 q1)) (N znN (N zmZ (L zqq) (L zs8)) (N zaw (L zs5) (L zuV))))) (N zp3 (N zth (N zlb (N zns q0 q0) (N zpl (L zre) (L ztE))) (N zf3 q8 (N zpI q1 q1))) (N zf3 (N zmM (N znY (L zqG) (L zse)) (N zaw (L zuE) q0)) (N znP (N zbf q1 q1) (N zaw (L zuw) z)))))) (N r4 (N r5 (N r9 (N zf3 (N zbf (N zaw (L zsV) (L zt1)) (N zni (L zr4) (L zqa))) (N zlD (N zoa q0 q0) (N zpy q1 q0))) (N znT (N ziH (N zbf (L zsE) (L zsl)) (N zpj q0 q0)) (N zbf q8 (N zps (L zty) (L zqm))))) (N b1145 (N ztj (N zkY (N zm3 (L zrv) (L zqQ)) q9) (N ziH (N znz (L zrd) (L zsN)) (N zpG q0 q0))) (N ziH (N zbf (N zny q0 q0) (N zpu (L zuk) (L zuH))) (N zmV q8 (N zpg q1 z))))) (N r7 (N r11 (N zaw (N zj6 (N znL q0 q0) (N zn1 (L zsn) q1)) (N zmc (N zn3 (L zsC) (L zrY)) (N zbf (L zuy) (L zuB)))) (N ztl (N zmA q7 (N zaw (L zq9) (L zs3))) (N znA (N zn8 (L zqw) (L zqn)) (N zpi (L zqc) (L zuZ))))) (N zp2 (N zaw (N zkm (N znv (L zsO) (L zun)) (N zaw (L zpq) (L zu0))) (N znB (N zbf q1 q1) (N zaw (L zue) (L zsB)))) (N zuL (N zlS (N zaw (L zqO) (L zqx)) (N zpY (L zt9) q1)) (N zno (N znw (L zp4) (L zrs)) q2)))))
def m1307:=N r2 (N r3 (N b1229 (N r8 (N ztd (N zaw (N znG (N zsz (L zwq) z) (N zq2 q1 z)) (N zaw q4 (L zsZ))) (N zaw (N zbf (N zsI q1 z) (L zrS)) (N zpz q4 (L zrE)))) (N ztk (N zk8 (N zaw (N zqe (L zxs) z) q10) (N zpr q11 (L zsT))) (N zaw (N znJ (N zqC (L zwx) z) (L zst)) (N zbf (N zaw (L zt2) z) q0)))) (N zaw (N zbf (N zaw (N zaw q5 q2) (N zaw q4 (L zra))) (N zl4 (N zm0 (N zr0 (L zwb) z) (L zp7)) (N zpp q12 (L zt4)))) (N ztc (N zaw (N zm9 (N zsQ (L zxd) z) (L zr7)) (N zbf q3 (L ztF))) (N zaw (N zm4 q13 (L zsA)) (N zpm (N zaw (L zum) z) q0))))) (N r6 (N r10 (N zti (N zkJ (N zbf (N zqi (L zw6) z) q14) (N znc q15 q0)) (N zlx (N zaw q2 q1) (N zaw q16 (L zrw)))) (N ztb (N zf3 (N zn6 q4 q0) (N zpD (N zbf (L ztO) z) q1)) (N znN (N zmZ q17 (L zs8)) (N zaw (N zs5 q0 z) (L zuV))))) (N zp3 (N zth (N zlb (N zns q4 (N zaw (L zt8) z)) (N zpl q18 (L ztE))) (N zf3 q19 (N zpI q5 q1))) (N zf3 (N zmM (N znY (N zqG (L zwI) z) (L zse)) (N zaw q20 q0)) (N znP (N zbf q5 q1) (N zaw q21 (L ztD))))))) (N r4 (N r5 (N r9 (N zf3 (N zbf (N zaw (N zsV (L zw9) z) q22) (N zni q23 (L zqa))) (N zlD (N zoa (N zaw (L zxv) z) q0) (N zpy q5 q0))) (N znT (N ziH (N zbf (N zsE (L zwj) z) (L zsl)) (N zpj (N zaw (L zuF) z) q0)) (N zbf q19 (N zps q24 (L zqm))))) (N b1230 (N ztj (N zkY (N zm3 (N zrv (L zvY) z) (N zqQ q1 z)) (N zbf q5 q0)) (N ziH (N znz (N zrd (L zxu) z) (L zsN)) (N zpG q4 q0))) (N ziH (N zbf (N zny (N zaw (L zw4) z) q0) (N zpu q25 (L zuH))) (N zmV q19 (N zpg (N zbf (L zu5) z) q1))))) (N r7 (N r11 (N zaw (N zj6 (N znL q4 (N zaw (L zuY) z)) (N zn1 q26 q1)) (N zmc (N zn3 (N zsC (L zwu) z) (L zrY)) (N zbf q27 (L zuB)))) (N ztl (N zmA (N zaw q5 q1) (N zaw (N zq9 q0 z) (L zs3))) (N znA (N zn8 q28 (L zqn)) (N zpi (N zqc q1 z) (L zuZ))))) (N zp2 (N zaw (N zkm (N znv (N zsO (L zvK) z) q29) (N zaw (N zpq q0 z) (L zu0))) (N znB (N zbf q5 q1) (N zaw q30 (L zsB)))) (N zuL (N zlS (N zaw (N zqO q0 z) (L zqx)) (N zpY q31 q1)) (N zno (N znw q32 (L zrs)) (N zbf q4 q0))))))
def m1389:=N r2 (N r3 (N b1308 (N r8 (N ztd (N zaw (N znG q33 (N zq2 q1 z)) (N zaw q4 (N zsZ (L zxA) z))) (N zaw (N zbf q34 (N zrS (L zxq) z)) (N zpz q4 (N zrE q1 z)))) (N ztk (N zk8 (N zaw q35 q10) (N zpr q11 (N zsT q0 z))) (N zaw (N znJ q36 (N zst (L zwa) z)) (N zbf (N zaw (L zt2) z) (N zaw (L zwW) z))))) (N zaw (N zbf (N zaw (N zaw q9 q2) (N zaw q4 (N zra q0 z))) (N zl4 (N zm0 q37 (N zp7 q1 z)) (N zpp q12 q38))) (N ztc (N zaw (N zm9 q39 (N zr7 (L zwk) z)) (N zbf q3 q40)) (N zaw (N zm4 q13 (N zsA (L zw2) z)) (N zpm (N zaw (L zum) z) (N zaw (L zwl) z)))))) (N r6 (N r10 (N zti (N zkJ (N zbf q41 q14) (N znc q15 q3)) (N zlx (N zaw q6 (N zbf (L zv3) z)) (N zaw q16 (N zrw q0 z)))) (N ztb (N zf3 (N zn6 q42 q3) (N zpD (N zbf (L ztO) z) (N zbf (L zww) z))) (N znN (N zmZ q17 (N zs8 q0 z)) (N zaw (N zs5 q0 z) q43)))) (N zp3 (N zth (N zlb (N zns q44 (N zaw (L zt8) z)) (N zpl q18 q45)) (N zf3 (N zaw q46 q4) (N zpI q5 q2))) (N zf3 (N zmM (N znY q47 (N zse q0 z)) (N zaw q20 (N zaw (L zvR) z))) (N znP (N zbf q5 (N zbf (L zvO) z)) (N zaw q21 (N ztD q1 z))))))) (N r4 (N r5 (N r9 (N zf3 (N zbf (N zaw q48 q22) (N zni q23 (N zqa q0 z))) (N zlD (N zoa q49 (N zaw (L zwH) z)) (N zpy q5 (N zaw (L zwg) z)))) (N znT (N ziH (N zbf q50 (N zsl q0 z)) (N zpj (N zaw (L zuF) z) q3)) (N zbf (N zaw q4 (N zaw (L zwK) z)) (N zps q24 (N zqm q0 z))))) (N b1309 (N ztj (N zkY (N zm3 q51 (N zqQ q1 z)) (N zbf q5 (N zaw (L zwA) z))) (N ziH (N znz q52 (N zsN (L zwE) z)) (N zpG q4 (N zaw (L zxl) z)))) (N ziH (N zbf (N zny q53 (N zaw (L zxm) z)) (N zpu q25 q54)) (N zmV (N zaw q4 q4) (N zpg (N zbf (L zu5) z) q2))))) (N r7 (N r11 (N zaw (N zj6 (N znL q55 (N zaw (L zuY) z)) (N zn1 q26 (N zbf (L zwi) z))) (N zmc (N zn3 q56 (N zrY q0 z)) (N zbf q27 q57))) (N ztl (N zmA (N zaw q9 (N zbf (L zwo) z)) (N zaw (N zq9 q0 z) (N zs3 q0 z))) (N znA (N zn8 q28 (N zqn q1 z)) (N zpi (N zqc q1 z) q58)))) (N zp2 (N zaw (N zkm (N znv q59 q29) (N zaw (N zpq q0 z) q60)) (N znB (N zbf q61 (N zbf (L zwy) z)) (N zaw q30 (N zsB q1 z)))) (N zuL (N zlS (N zaw q62 (N zqx q1 z)) (N zpY q31 q2)) (N zno (N znw q32 (N zrs (L zxy) z)) (N zbf q4 (N zaw (L zv4) z)))))))
def m1464:=N r2 (N r3 (N zy6 (N r8 (N ztd (N zaw (N znG q33 (N zq2 q1 q0)) (N zaw q8 (N zsZ (L zxA) (L zyz)))) (N zaw (N zbf q34 (N zrS (L zxq) (L zyk))) (N zpz (N zaw q0 (L zzv)) (N zrE q1 z)))) (N ztk (N zk8 (N zaw q35 (N zu2 (L zxb) q1)) (N zpr (N zrL (L zwz) q1) (N zsT q0 z))) (N zaw (N znJ q36 (N zst (L zwa) q0)) (N zbf (N zaw (L zt2) (L zzl)) (N zaw (L zwW) z))))) (N zaw (N zbf (N zaw (N zaw q9 (N zbf q0 (L zzK))) (N zaw (N zaw q0 (L zxW)) (N zra q0 z))) (N zl4 (N zm0 q37 (N zp7 q1 q0)) (N zpp (N ztT (L zvZ) (L zyt)) q38))) (N ztc (N zaw (N zm9 q39 (N zr7 (L zwk) q0)) (N zbf (N zaw q1 q0) q40)) (N zaw (N zm4 (N zrT (L zwf) q0) (N zsA (L zw2) (L zyK))) (N zpm (N zaw (L zum) q1) (N zaw (L zwl) z)))))) (N r6 (N r10 (N zti (N zkJ (N zbf q41 (N ztG (L zxF) (L zze))) (N znc (N zsJ (L zwh) (L zx3)) q3)) (N zlx (N zaw q6 (N zbf (L zv3) q1)) (N zaw (N ztp (L zws) q1) (N zrw q0 z)))) (N ztb (N zf3 (N zn6 q42 (N zaw q1 (L zyp))) (N zpD (N zbf (L ztO) (L zy1)) (N zbf (L zww) z))) (N znN (N zmZ (N zqq (L zw0) q1) (N zs8 q0 (L zyU))) (N zaw (N zs5 q0 (L zx6)) q43)))) (N zp3 (N zth (N zlb (N zns q44 (N zaw (L zt8) (L zzt))) (N zpl (N zre (L zwB) (L zzB)) q45)) (N zf3 (N zaw q46 (N zaw q0 (L zyS))) (N zpI q9 q2))) (N zf3 (N zmM (N znY q47 (N zse q0 (L zyb))) (N zaw (N zuE (L zv1) (L zzo)) (N zaw (L zvR) z))) (N znP (N zbf (N zbf q1 (L zyZ)) (N zbf (L zvO) q1)) (N zaw (N zuw (L zxr) (L zyH)) (N ztD q1 z))))))) (N r4 (N r5 (N r9 (N zf3 (N zbf (N zaw q48 (N zt1 (L zvX) q1)) (N zni (N zr4 (L zxn) q1) (N zqa q0 (L zzf)))) (N zlD (N zoa q49 (N zaw (L zwH) q0)) (N zpy q9 (N zaw (L zwg) z)))) (N znT (N ziH (N zbf q50 (N zsl q0 (L zyg))) (N zpj (N zaw (L zuF) (L zyN)) q3)) (N zbf (N zaw q8 (N zaw (L zwK) q1)) (N zps (N zty (L zwL) (L zx0)) (N zqm q0 z))))) (N zyD (N ztj (N zkY (N zm3 q51 (N zqQ q1 (L zzh))) (N zbf (N zbf q1 (L zx9)) (N zaw (L zwA) z))) (N ziH (N znz q52 (N zsN (L zwE) (L zy2))) (N zpG (N zaw q0 (L zxX)) (N zaw (L zxl) z)))) (N ziH (N zbf (N zny q53 (N zaw (L zxm) q1)) (N zpu (N zuk (L zxw) q1) q54)) (N zmV (N zaw (N zaw q0 (L zyc)) q8) (N zpg (N zbf (L zu5) (L zxQ)) q2))))) (N r7 (N r11 (N zaw (N zj6 (N znL q55 (N zaw (L zuY) q0)) (N zn1 (N zsn (L zwe) q0) (N zbf (L zwi) z))) (N zmc (N zn3 q56 (N zrY q0 (L zxR))) (N zbf (N zuy (L zwY) (L zyd)) q57))) (N ztl (N zmA (N zaw q9 (N zbf (L zwo) (L zyx))) (N zaw (N zq9 q0 (L zy0)) (N zs3 q0 z))) (N znA (N zn8 (N zqw (L zvI) (L zya)) (N zqn q1 (L zx7))) (N zpi (N zqc q1 q0) q58)))) (N zp2 (N zaw (N zkm (N znv q59 (N zun (L zwS) q0)) (N zaw (N zpq q0 q0) q60)) (N znB (N zbf q61 (N zbf (L zwy) (L zzk))) (N zaw (N zue (L zwX) q1) (N zsB q1 z)))) (N zuL (N zlS (N zaw q62 (N zqx q1 (L zxT))) (N zpY (N zt9 (L zvW) (L zzA)) q2)) (N zno (N znw (N zp4 (L zxx) (L zyE)) (N zrs (L zxy) (L zyT))) (N zbf (N zaw q0 (L zx8)) (N zaw (L zv4) z)))))))
def m1465:Heap:=⟨⟨[r2,r3,r4,zy6,r5,r6,r7,r8,r9,r10,r11,zaw,zyD,zp3,zp2,ztd,zf3,zti,zaw,zbf,ztj,zth,zaw,ztk,znT,ztb,ztl,ztc,ziH,zf3,zuL,zaw,zbf,zkJ,zj6,zaw,zkY,zlb,zkm,zk8,ziH,zf3,zmA,zaw,zbf,zmM,zlS,zaw,zlD,zlx,zmc,zl4,ziH,zf3,znB,zaw,zbf,znN,znA,zaw,zmV,znP,zno,znG,zaw,zbf,znL,zaw,zm3,zns,znv,zaw,zbf,zn6,zaw,zm9,zny,znY,zaw,zbf,zoa,zaw,zn3,zm0,znz,zaw,zbf,znJ,zaw,zmZ,zn8,zm4,zaw,zbf,znw,zaw,zni,znc,zn1,zaw,zbf,zpl,zaw,zpr,zpj,zpD,zaw,zbf,zpu,zaw,zpY,zpz,zpy,zaw,zbf,zpp,zpG,zpI,zaw,zbf,zps,zaw,zpi,zpm,zpg,zaw,zbf,zsz,zsV,zqi,zaw,zbf,zrv,zaw,zsO,zqe,zsE,zaw,zbf,zsQ,zaw,zqG,zqO,zsI,zaw,zbf,zsC,zr0,zrd,zaw,zbf,zqC,zaw,zqq,zqw,zrT,zaw,zbf,zp4,zaw,zr4,zsJ,zsn,zaw,zbf,zre,zpq,zrL,zaw,zbf,zq9,zaw,zuk,zuE,zt9,zaw,zbf,ztp,zuy,ztT,zaw,zbf,zue,zaw,zty,zs5,zqc,zaw,zbf,zuw,zaw,zq2,zt1,ztG,zaw,zbf,zqQ,zaw,zun,zu2,zsl,zaw,zbf,zr7,zaw,zse,zqx,zrS,zaw,zbf,zrY,zp7,zsN,zaw,zbf,zst,zaw,zs8,zqn,zsA,zaw,zbf,zrs,zsZ,zqa,zaw,zbf,zra,zaw,ztE,zu0,zsT,zaw,zbf,zs3,ztF,zuH,zaw,zbf,zrE,zaw,zrw,zuB,zt4,zaw,zbf,zsB,zaw,zqm,zuV,zuZ,zaw,zbf,ztD,zaw,zwq,zw9,zw6,zaw,zbf,zvY,zaw,zvK,zxs,zwj,zaw,zbf,zxd,zw4,zwI,zaw,zbf,zxv,zaw,zwu,zwb,zxu,zaw,zbf,zwx,zaw,zw0,zvI,zwf,zaw,zbf,zxx,zaw,zxn,zwh,zwe,zaw,zbf,zwB,zaw,zwz,zuF,ztO,zaw,zbf,zxw,zv1,zvW,zaw,zbf,zws,zwY,zvZ,zaw,zbf,zwX,zt2,zwL,zaw,zbf,zum,zu5,zxr,zaw,zbf,zvX,zxF,zuY,zaw,zbf,zt8,zwS,zxb,zaw,zbf,zwo,zwk,zxm,zaw,zbf,zxq,zwH,zv3,zaw,zbf,zwE,zaw,zwy,zwa,zwK,zaw,zbf,zw2,zaw,zvO,zxy,zxA,zaw,zbf,zwi,zaw,zwA,zx2,zxO,zaw,zbf,zww,zaw,zzx,zyh,zvR,zaw,zbf,zwg,zaw,zxL,zzq,zxl,zaw,zbf,zwW,zaw,zyM,zyj,zwl,zaw,zbf,zv4,zaw,zyl,zyV,zy3,zaw,zbf,zyi,zaw,zx4,zx5,zzp,zaw,zbf,zyB,zaw,zyr,zyu,zyy,zaw,zbf,zzg,zaw,zzw,zyY,zzn,zaw,zbf,zya,zaw,zyc,zyZ,zyE,zaw,zbf,zx3,zaw,zxW,zx9,zzB,zaw,zbf,zyN,zy1,zy0,zaw,zbf,zzo,zzA,zzv,zaw,zbf,zyd,zyt,zxX,zaw,zbf,zzl,zx0,zx6,zaw,zbf,zxQ,zyH,zx8,zaw,zbf,zze,zaw,zzK,zzh,zzt,zaw,zbf,zyg,zyp,zyx,zaw,zbf,zyb,zxT,zyk,zaw,zbf,zxR,zaw,zy2,zyS,zzk,zaw,zbf,zyU,zx7,zyK,zaw,zbf,zyT,zyz,zzf]⟩,⟨[],[],[],0,[],[],false,#[],[],0,false,false,false,0,[2000,10,10],false,0,true,[],[],0,false⟩⟩
end
def m968v(p:Program):Program:={ p with main:={ p.main with body:=[sp p 1,sp p 2,sp p 3,sp p 4,sp p 6,sp p 7,sp p 8,sp p 9,sp p 10,sp p 11,sp p 12,sp p 13,sp p 14,sp p 15,sp p 17,sp p 18,sp p 19,sp p 20,sp p 22,sp p 23,sp p 24,sp p 25,sp p 26,sp p 27,sp p 28,sp p 29,sp p 30,sp p 31,sp p 32,sp p 33,sp p 34,sp p 35,sp p 36,sp p 37,sp p 38,sp p 39,sp p 40,sp p 41,sp p 42,sp p 43,sp p 44,sp p 45,sp p 46,sp p 47,sp p 48,sp p 49,sp p 50,sp p 51,sp p 52,sp p 53,sp p 54,sp p 55,sp p 56,sp p 57,sp p 59,sp p 60,sp p 61,sp p 62,sp p 63,sp p 64,sp p 65,sp p 66,sp p 67,sp p 68,sp p 69,sp p 70,sp p 71,sp p 72,sp p 73,sp p 74,sp p 75,sp p 76,sp p 77,sp p 78,sp p 79,sp p 80] } }
def m978s(p:Program):List Stmt:=[sp p 0,sp p 1]
def m993s(p:Program):List Stmt:=[sp p 2]
def m1008s(p:Program):List Stmt:=[sp p 3]
def m1023s(p:Program):List Stmt:=[sp p 4,sp p 5,sp p 6,sp p 7,sp p 8,sp p 9,sp p 10]
def m1073s(p:Program):List Stmt:=[sp p 11,sp p 12,sp p 13,sp p 14,sp p 15,sp p 16,sp p 17,sp p 18,sp p 19,sp p 20,sp p 21,sp p 22,sp p 23,sp p 24,sp p 25,sp p 26,sp p 27,sp p 28]
def m1144s(p:Program):List Stmt:=[sp p 29,sp p 30,sp p 31,sp p 32,sp p 33,sp p 34,sp p 35,sp p 36,sp p 37,sp p 38,sp p 39,sp p 40,sp p 41]
def m1229s(p:Program):List Stmt:=[sp p 42,sp p 43,sp p 44,sp p 45,sp p 46,sp p 47,sp p 48,sp p 49,sp p 50,sp p 51,sp p 52,sp p 53,sp p 54]
def m1308s(p:Program):List Stmt:=[sp p 55,sp p 56,sp p 57,sp p 58,sp p 59,sp p 60,sp p 61,sp p 62,sp p 63,sp p 64,sp p 65,sp p 66,sp p 67]
def m1390s(p:Program):List Stmt:=[sp p 68,sp p 69,sp p 70,sp p 71,sp p 72,sp p 73,sp p 74,sp p 75,sp p 76,sp p 77,sp p 78,sp p 79,sp p 80]
noncomputable def u0:Q Str:=⟨Str.ofString "<module>",Str.ofString "/claim/cut.py",Str.ofString "__main__",Str.ofString "__name__",Str.ofString "hideworth.errors",Str.ofString "__doc__",Str.ofString "__package__",Str.ofString "__loader__"⟩
noncomputable def u1:Q Str:=⟨Str.ofString "__spec__",Str.ofString "__annotations__",Str.ofString "__builtins__",Str.ofString "__file__",Str.ofString "__cached__",Str.ofString "HideError",Str.ofString "__module__",Str.ofString "__qualname__"⟩
noncomputable def u2:Q Str:=⟨Str.ofString "__firstlineno__",Str.ofString "__static_attributes__",Str.ofString "__weakref__",Str.ofString "NoNumber",Str.ofString "NoBoxes",Str.ofString "hideworth.ratios",Str.ofString "NoBudget",Str.ofString "divisor"⟩
noncomputable def u3:Q Str:=⟨Str.ofString "ratio",Str.ofString "plus",Str.ofString "minus",Str.ofString "times",Str.ofString "one",Str.ofString "other",Str.ofString "rest",Str.ofString "top"⟩
noncomputable def u4:Q Str:=⟨Str.ofString "bottom",Str.ofString "shared",Str.ofString "hideworth.boxes",Str.ofString "over",Str.ofString "below",Str.ofString "common",Str.ofString "shared_divisor",Str.ofString "lowest"⟩
noncomputable def u5:Q Str:=⟨Str.ofString "is_whole",Str.ofString "is_within",Str.ofString "are_weights",Str.ofString "is_fraction",Str.ofString "MOST_BOXES",Str.ofString "MOST_COST",Str.ofString "MOST_OF",Str.ofString "MOST_LOOKS"⟩
noncomputable def u6:Q Str:=⟨Str.ofString "MOST_BUDGET",Str.ofString "is_box",Str.ofString "look_boxes",Str.ofString "numbers",Str.ofString "number",Str.ofString "thing",Str.ofString "hideworth.checks",Str.ofString "least"⟩
noncomputable def u7:Q Str:=⟨Str.ofString "most",Str.ofString "cost",Str.ofString "hits",Str.ofString "of",Str.ofString "look_budget",Str.ofString "is_plan",Str.ofString "power",Str.ofString "missed"⟩
noncomputable def u8:Q Str:=⟨Str.ofString "chance",Str.ofString "gain",Str.ofString "cost_sum",Str.ofString "is_share",Str.ofString "is_mix",Str.ofString "finds_enough",Str.ofString "is_seeker_right",Str.ofString "is_hider_paper"⟩
noncomputable def u9:Q Str:=⟨Str.ofString "is_last_look_worth",Str.ofString "budget",Str.ofString "base",Str.ofString "count",Str.ofString "product",Str.ofString "k",Str.ofString "box",Str.ofString "boxes"⟩
noncomputable def u10:Q Str:=⟨Str.ofString "counts",Str.ofString "weights",Str.ofString "worth",Str.ofString "whole",Str.ofString "parts",Str.ofString "weight",Str.ofString "price",Str.ofString "is_next_look_dear"⟩
noncomputable def u11:Q Str:=⟨Str.ofString "is_count_best",Str.ofString "is_sum_low",Str.ofString "is_hider_right",Str.ofString "budget_judged",Str.ofString "added",Str.ofString "least_chance",Str.ofString "fair_weights",Str.ofString "chance_for"⟩
noncomputable def u12:Q Str:=⟨Str.ofString "counts_and_worth",Str.ofString "look_shares",Str.ofString "mix_of",Str.ofString "paper_of",Str.ofString "paper",Str.ofString "mix",Str.ofString "fractions",Str.ofString "total"⟩
noncomputable def u13:Q Str:=⟨Str.ofString "fraction",Str.ofString "chances",Str.ofString "law_hideworth_k23_whole_worths_for_budgets",Str.ofString "sure_answer",Str.ofString "is_sure",Str.ofString "budget_worth",Str.ofString "_law_mix",Str.ofString "_law_cell_at"⟩
noncomputable def u14:Q Str:=⟨Str.ofString "_law_left",Str.ofString "_law_draw",Str.ofString "_law_boxes",Str.ofString "_law_whole",Str.ofString "_law_fraction",Str.ofString "_law_lowest",Str.ofString "_law_miss",Str.ofString "_law_number"⟩
noncomputable def u15:Q Str:=⟨Str.ofString "_law_k",Str.ofString "_law_mixed",Str.ofString "_law_script",Str.ofString "_law_cell",Str.ofString "_law_left_here",Str.ofString "_law_base",Str.ofString "_law_digit",Str.ofString "_law_most"⟩
noncomputable def u16:Q Str:=⟨Str.ofString "_law_found",Str.ofString "_law_cost",Str.ofString "_law_of",Str.ofString "_law_thing",Str.ofString "_law_one",Str.ofString "_law_other",Str.ofString "_law_top",Str.ofString "_law_bottom"⟩
noncomputable def u17:Q Str:=⟨Str.ofString "_law_box",Str.ofString "_law_many",Str.ofString "_law_turn",Str.ofString "_law_plus",Str.ofString "_law_less",Str.ofString "_law_plan",Str.ofString "_law_price",Str.ofString "_law_chance"⟩
noncomputable def u18:Q Str:=⟨Str.ofString "_law_keeps",Str.ofString "_law_finds",Str.ofString "_law_marks",Str.ofString "_law_hides",Str.ofString "_law_deep",Str.ofString "_law_spoil",Str.ofString "_law_right",Str.ofString "law"⟩
noncomputable def u19:Q Str:=⟨Str.ofString "_law_weight",Str.ofString "_law_price_here",Str.ofString "_law_count",Str.ofString "_law_gain",Str.ofString "_law_due",Str.ofString "_law_part",Str.ofString "_law_part",Str.ofString "_law_part"⟩
noncomputable def v0:Q String:=⟨"tuple","code","frame","dict","__main__.__loader__#opaque","ValueError","builtin_function_or_method","type.__prepare__"⟩
noncomputable def v1:Q String:=⟨"type","Exception","BaseException","object","ValueError.__new__","getset_descriptor","ExceptionGroup.__weakref__","super"⟩
noncomputable def v2:Q String:=⟨"object.__init_subclass__","function","function","function","function","function","function","function"⟩
noncomputable def w0 (P:Params):Q Obj:=⟨W.boot_o_0 P,W.boot_o_1 P,W.boot_o_2 P,W.boot_o_3 P,W.boot_o_4 P,W.boot_o_5 P,W.boot_o_6 P,W.boot_o_7 P⟩
noncomputable def w1 (P:Params):Q Obj:=⟨W.boot_o_8 P,W.boot_o_9 P,W.boot_o_10 P,W.boot_o_10 P,W.boot_o_10 P,W.boot_o_10 P,W.boot_o_10 P,W.boot_o_10 P⟩
noncomputable def yb:{t:(Params→Str→Int)→Params→Obj // W.boot_o_0=t PyData.keyHash}:=⟨_,by unfold W.boot_o_0;generalize PyData.keyHash=k;conv=>lhs;reduce⟩
def _root_.PySem.W.Fast.tw14598715356260435866:Params→Obj:=yb.1 PyData.keyHash
theorem _root_.PySem.W.Fast.te14598715356260435866:W.boot_o_0=tw14598715356260435866:=yb.2
noncomputable def yp:{t:Program // PySem.Challenge.pw_hideworth_k23_whole_worths_for_budgets=t}:=⟨_,by conv=>lhs;reduce⟩
def _root_.PySem.W.Fast.tw13125150360321346132:Program:=yp.1
theorem _root_.PySem.W.Fast.te13125150360321346132:PySem.Challenge.pw_hideworth_k23_whole_worths_for_budgets=tw13125150360321346132:=yp.2
lay_quick u0 u1 u2 u3 u4 u5 u6 u7 u8 u9 u10 u11 u12 u13 u14 u15 u16 u17 u18 u19 v0 v1 v2 w0 w1 PySem.Challenge.pw_hideworth_k23_whole_worths_for_budgets
def K(a' b' c' d' e' f' g' h' i' j' k' l' m' n' o' p' q' r' s' t':Q Str)(u' v' w':Q String)(x' y':Params→Q Obj)(z':Program)(P:Params):X:=⟨⟨⟨a',b',c',d',e',f',g',h'⟩,⟨i',j',k',l',m',n',o',p'⟩,⟨q',r',s',t',t',t',t',t'⟩,⟨q',r',s',t',t',t',t',t'⟩,⟨q',r',s',t',t',t',t',t'⟩,⟨q',r',s',t',t',t',t',t'⟩,⟨q',r',s',t',t',t',t',t'⟩,⟨q',r',s',t',t',t',t',t'⟩⟩,⟨⟨u',v',w',w',w',w',w',w'⟩,⟨u',v',w',w',w',w',w',w'⟩,⟨u',v',w',w',w',w',w',w'⟩,⟨u',v',w',w',w',w',w',w'⟩,⟨u',v',w',w',w',w',w',w'⟩,⟨u',v',w',w',w',w',w',w'⟩,⟨u',v',w',w',w',w',w',w'⟩,⟨u',v',w',w',w',w',w',w'⟩⟩,⟨⟨x' P,y' P,y' P,y' P,y' P,y' P,y' P,y' P⟩,⟨x' P,y' P,y' P,y' P,y' P,y' P,y' P,y' P⟩,⟨x' P,y' P,y' P,y' P,y' P,y' P,y' P,y' P⟩,⟨x' P,y' P,y' P,y' P,y' P,y' P,y' P,y' P⟩,⟨x' P,y' P,y' P,y' P,y' P,y' P,y' P,y' P⟩,⟨x' P,y' P,y' P,y' P,y' P,y' P,y' P,y' P⟩,⟨x' P,y' P,y' P,y' P,y' P,y' P,y' P,y' P⟩,⟨x' P,y' P,y' P,y' P,y' P,y' P,y' P,y' P⟩⟩,z',P⟩
noncomputable def k0:=K u0 u1 u2 u3 u4 u5 u6 u7 u8 u9 u10 u11 u12 u13 u14 u15 u16 u17 u18 u19 v0 v1 v2 w0 w1 PySem.Challenge.pw_hideworth_k23_whole_worths_for_budgets
noncomputable def k1:=K tw13894225608423057668 tw17531079430653816501 tw13809737476558091540 tw2367299412457286945 tw1912701158020654693 tw2188347355606102534 tw16368670287772101220 tw14842115654739255404 tw4717311838995323452 tw594758545415977400 tw10895325593200808953 tw10037743213843438893 tw10009084784789568687 tw5084553986333570498 tw16641277437810104112 tw11875653558476324687 tw1672153094372761355 tw4580522010931877059 tw15163288008780518816 tw2560371371167247513 tw15633551313878501473 tw10735261366311057212 tw13734974896645664886 tw1278260381020688717 tw13492767390215788210 tw13125150360321346132
theorem ke:k0=k1:=by
  unfold k0 k1
  rw[te13894225608423057668,te17531079430653816501,te13809737476558091540,te2367299412457286945,te1912701158020654693,te2188347355606102534,te16368670287772101220,te14842115654739255404,te4717311838995323452,te594758545415977400,te10895325593200808953,te10037743213843438893,te10009084784789568687,te5084553986333570498,te16641277437810104112,te11875653558476324687,te1672153094372761355,te4580522010931877059,te15163288008780518816,te2560371371167247513,te15633551313878501473,te10735261366311057212,te13734974896645664886,te1278260381020688717,te13492767390215788210,te13125150360321346132]
theorem kE{β:Type _}(f:X→β):(λP=>f (k0 P))=λP=>f (k1 P):=congrArg (λy P=>f (y P)) ke
end Hd
namespace PySem.W.Fast
def tw3320057294390359782:Program:=Hd.m968v tw13125150360321346132
theorem te3320057294390359782:Hd.m968v PySem.Challenge.pw_hideworth_k23_whole_worths_for_budgets=tw3320057294390359782:=congrArg Hd.m968v te13125150360321346132
def tw12100996992496530941(P:Params):Heap:=@Hd.m975 (Hd.k1 P)
theorem te12100996992496530941:(λP=>@Hd.m975 (Hd.k0 P))=tw12100996992496530941:=Hd.kE @Hd.m975
def tw13564899038564210221(P:Params):BT:=@Hd.m976 (Hd.k1 P)
theorem te13564899038564210221:(λP=>@Hd.m976 (Hd.k0 P))=tw13564899038564210221:=Hd.kE @Hd.m976
def tw2581684702897868570:List Stmt:=Hd.m978s tw13125150360321346132
theorem te2581684702897868570:Hd.m978s PySem.Challenge.pw_hideworth_k23_whole_worths_for_budgets=tw2581684702897868570:=congrArg Hd.m978s te13125150360321346132
def tw9781319144843387358(P:Params):BT:=@Hd.m992 (Hd.k1 P)
theorem te9781319144843387358:(λP=>@Hd.m992 (Hd.k0 P))=tw9781319144843387358:=Hd.kE @Hd.m992
def tw6080672788169000666:List Stmt:=Hd.m993s tw13125150360321346132
theorem te6080672788169000666:Hd.m993s PySem.Challenge.pw_hideworth_k23_whole_worths_for_budgets=tw6080672788169000666:=congrArg Hd.m993s te13125150360321346132
def tw8792313610380413248(P:Params):BT:=@Hd.m1007 (Hd.k1 P)
theorem te8792313610380413248:(λP=>@Hd.m1007 (Hd.k0 P))=tw8792313610380413248:=Hd.kE @Hd.m1007
def tw15934680045874554825:List Stmt:=Hd.m1008s tw13125150360321346132
theorem te15934680045874554825:Hd.m1008s PySem.Challenge.pw_hideworth_k23_whole_worths_for_budgets=tw15934680045874554825:=congrArg Hd.m1008s te13125150360321346132
def tw14057134243735133514(P:Params):BT:=@Hd.m1022 (Hd.k1 P)
theorem te14057134243735133514:(λP=>@Hd.m1022 (Hd.k0 P))=tw14057134243735133514:=Hd.kE @Hd.m1022
def tw12368079306491863320:List Stmt:=Hd.m1023s tw13125150360321346132
theorem te12368079306491863320:Hd.m1023s PySem.Challenge.pw_hideworth_k23_whole_worths_for_budgets=tw12368079306491863320:=congrArg Hd.m1023s te13125150360321346132
def tw1547555068521429020(P:Params):BT:=@Hd.m1072 (Hd.k1 P)
theorem te1547555068521429020:(λP=>@Hd.m1072 (Hd.k0 P))=tw1547555068521429020:=Hd.kE @Hd.m1072
def tw16078825764939794878:List Stmt:=Hd.m1073s tw13125150360321346132
theorem te16078825764939794878:Hd.m1073s PySem.Challenge.pw_hideworth_k23_whole_worths_for_budgets=tw16078825764939794878:=congrArg Hd.m1073s te13125150360321346132
def tw6576409573120583105(P:Params):BT:=@Hd.m1143 (Hd.k1 P)
theorem te6576409573120583105:(λP=>@Hd.m1143 (Hd.k0 P))=tw6576409573120583105:=Hd.kE @Hd.m1143
def tw8286198004014311206:List Stmt:=Hd.m1144s tw13125150360321346132
theorem te8286198004014311206:Hd.m1144s PySem.Challenge.pw_hideworth_k23_whole_worths_for_budgets=tw8286198004014311206:=congrArg Hd.m1144s te13125150360321346132
def tw3546039747603830851(P:Params):BT:=@Hd.m1228 (Hd.k1 P)
theorem te3546039747603830851:(λP=>@Hd.m1228 (Hd.k0 P))=tw3546039747603830851:=Hd.kE @Hd.m1228
def tw327150830326548827:List Stmt:=Hd.m1229s tw13125150360321346132
theorem te327150830326548827:Hd.m1229s PySem.Challenge.pw_hideworth_k23_whole_worths_for_budgets=tw327150830326548827:=congrArg Hd.m1229s te13125150360321346132
def tw15246632703704942051(P:Params):BT:=@Hd.m1307 (Hd.k1 P)
theorem te15246632703704942051:(λP=>@Hd.m1307 (Hd.k0 P))=tw15246632703704942051:=Hd.kE @Hd.m1307
def tw2232722562593870663:List Stmt:=Hd.m1308s tw13125150360321346132
theorem te2232722562593870663:Hd.m1308s PySem.Challenge.pw_hideworth_k23_whole_worths_for_budgets=tw2232722562593870663:=congrArg Hd.m1308s te13125150360321346132
def tw6399238032147015050(P:Params):BT:=@Hd.m1389 (Hd.k1 P)
theorem te6399238032147015050:(λP=>@Hd.m1389 (Hd.k0 P))=tw6399238032147015050:=Hd.kE @Hd.m1389
def tw16206730187184068011:List Stmt:=Hd.m1390s tw13125150360321346132
theorem te16206730187184068011:Hd.m1390s PySem.Challenge.pw_hideworth_k23_whole_worths_for_budgets=tw16206730187184068011:=congrArg Hd.m1390s te13125150360321346132
def tw3258588919995360519(P:Params):BT:=@Hd.m1464 (Hd.k1 P)
theorem te3258588919995360519:(λP=>@Hd.m1464 (Hd.k0 P))=tw3258588919995360519:=Hd.kE @Hd.m1464
def tw4228320496308956309(P:Params):Heap:=@Hd.m1465 (Hd.k1 P)
theorem te4228320496308956309:(λP=>@Hd.m1465 (Hd.k0 P))=tw4228320496308956309:=Hd.kE @Hd.m1465
end PySem.W.Fast
end
open PySem PySem.W PyProof.Rows PySem.W.X PySem.W.ZRun
set_option maxRecDepth 100000 in
set_option maxHeartbeats 0 in
theorem PySem.Challenge.cw_hideworth_k23_whole_worths_for_budgets_holds : PySem.Challenge.rw_hideworth_k23_whole_worths_for_budgets.Holds := by
 w_on;o_law;z_head;(case hw=>w_witness2)
 k_fill
 intro w s0 s1 m0 m1 G Y fa o pm cd doc dV kV ho hd hc hD hm hg xs vs as L h1 h2 h3 h4 h5
 z_open Y L KX ZH ZN ZT
 refine My.walk_at (l:=PySem.Challenge.rw_hideworth_k23_whole_worths_for_budgets) KX (λW=>W w s0 s1 m0 m1 G KX fa o pm cd doc dV kV ho hd hc hD hm hg xs vs as h1 h2 h3 h4 h5) (My.walk (l:=PySem.Challenge.rw_hideworth_k23_whole_worths_for_budgets) rfl rfl (λ_ _ h=>h) ?F)
 case F =>
  intro w mg fa h KX G hmg
  refine' My.zzs KX G hmg (My.zzb KX G (L2.zaW ?l0 ?c0 ?k0) (mg_of KX G ?a0) (L2.zaW ?l1 ?c1 ?k1) (mg_of KX G ?a1) (L2.zaW ?l2 ?c2 ?k2) (mg_of KX G ?a2) (L2.zaW ?l3 ?c3 ?k3) (mg_of KX G ?a3) (L2.zaW ?l4 ?c4 ?k4) (mg_of KX G ?a4) (L2.zaW ?l5 ?c5 ?k5) (mg_of KX G ?a5) (L2.zaW ?l6 ?c6 ?k6) (mg_of KX G ?a6) (L2.zaW ?l7 ?c7 ?k7) (mg_of KX G ?a7) (L2.zaW ?l8 ?c8 ?k8) (mg_of KX G ?a8) (L2.zaW ?l9 ?c9 ?k9) (mg_of KX G ?a9) (L2.zaW ?l10 ?c10 ?k10) (mg_of KX G ?a10) (L2.zaW ?l11 ?c11 ?k11) (mg_of KX G ?a11) (L2.zaW ?l12 ?c12 ?k12) (mg_of KX G ?a12) (L2.zaW ?l13 ?c13 ?k13) (mg_of KX G ?a13) (L2.zaW ?l14 ?c14 ?k14) (mg_of KX G ?a14) (L2.zaW ?l15 ?c15 ?k15) (mg_of KX G ?a15) (L2.zaW ?l16 ?c16 ?k16) (mg_of KX G ?a16) (L2.zaW ?l17 ?c17 ?k17) (mg_of KX G ?a17) (L2.zaW ?l18 ?c18 ?k18) (mg_of KX G ?a18) (L2.zaW ?l19 ?c19 ?k19) (mg_of KX G ?a19) (L2.zaW ?l20 ?c20 ?k20) (mg_of KX G ?a20) (L2.zaW ?l21 ?c21 ?k21) (mg_of KX G ?a21) (L2.zaW ?l22 ?c22 ?k22) (mg_of KX G ?a22) (L2.zaW ?l23 ?c23 ?k23) (mg_of KX G ?a23) (L2.zaW ?l24 ?c24 ?k24) (mg_of KX G ?a24) (L2.zaW ?l25 ?c25 ?k25) (mg_of KX G ?a25) (L2.zaW ?l26 ?c26 ?k26) (mg_of KX G ?a26) (L2.zaW ?l27 ?c27 ?k27) (mg_of KX G ?a27) (L2.zaW ?l28 ?c28 ?k28) (mg_of KX G ?a28) (L2.zaW ?l29 ?c29 ?k29) (mg_of KX G ?a29) (L2.zaW ?l30 ?c30 ?k30) (mg_of KX G ?a30) (L2.zaW ?l31 ?c31 ?k31) (mg_of KX G ?a31) (L2.zaW ?l32 ?c32 ?k32) (mg_of KX G ?a32) (L2.zaW ?l33 ?c33 ?k33) (mg_of KX G ?a33) (L2.zaW ?l34 ?c34 ?k34) (mg_of KX G ?a34) (L2.zaW ?l35 ?c35 ?k35) (mg_of KX G ?a35) (L2.zaW ?l36 ?c36 ?k36) (mg_of KX G ?a36) (L2.zaW ?l37 ?c37 ?k37) (mg_of KX G ?a37) (L2.zaW ?l38 ?c38 ?k38) (mg_of KX G ?a38) (L2.zaW ?l39 ?c39 ?k39) (mg_of KX G ?a39) (L2.zaW ?l40 ?c40 ?k40) (mg_of KX G ?a40) (L2.zaW ?l41 ?c41 ?k41) (mg_of KX G ?a41) (L2.zaW ?l42 ?c42 ?k42) (mg_of KX G ?a42) (L2.zaW ?l43 ?c43 ?k43) (mg_of KX G ?a43) (L2.zaW ?l44 ?c44 ?k44) (mg_of KX G ?a44) (L2.zaW ?l45 ?c45 ?k45) (mg_of KX G ?a45) (L2.zaW ?l46 ?c46 ?k46) (mg_of KX G ?a46) (L2.zaW ?l47 ?c47 ?k47) (mg_of KX G ?a47) (L2.zaW ?l48 ?c48 ?k48) (mg_of KX G ?a48) (L2.zaW ?l49 ?c49 ?k49) (mg_of KX G ?a49) (L2.zaW ?l50 ?c50 ?k50) (mg_of KX G ?a50) (L2.zaW ?l51 ?c51 ?k51) (mg_of KX G ?a51) (L2.zaW ?l52 ?c52 ?k52) (mg_of KX G ?a52) (L2.zaW ?l53 ?c53 ?k53) (mg_of KX G ?a53) (L2.zaW ?l54 ?c54 ?k54) (mg_of KX G ?a54) (L2.zaW ?l55 ?c55 ?k55) (mg_of KX G ?a55) (L2.zaW ?l56 ?c56 ?k56) (mg_of KX G ?a56) (L2.zaW ?l57 ?c57 ?k57) (mg_of KX G ?a57) (L2.zaW ?l58 ?c58 ?k58) (mg_of KX G ?a58) (L2.zaW ?l59 ?c59 ?k59) (mg_of KX G ?a59) (L2.zaW ?l60 ?c60 ?k60) (mg_of KX G ?a60) (L2.zaW ?l61 ?c61 ?k61) (mg_of KX G ?a61) (L2.zaW ?l62 ?c62 ?k62) (mg_of KX G ?a62) (L2.zaW ?l63 ?c63 ?k63) (mg_of KX G ?a63) (L2.zaW ?l64 ?c64 ?k64) (mg_of KX G ?a64) (L2.zaW ?l65 ?c65 ?k65) (mg_of KX G ?a65) (L2.zaW ?l66 ?c66 ?k66) (mg_of KX G ?a66) (mg_none_of KX G ?z_set) (mg_none_of KX G ?z_isinstance) (mg_none_of KX G ?z_range) (mg_none_of KX G ?z_all) (mg_none_of KX G ?z_sorted) (mg_none_of KX G ?z_abs) (mg_none_of KX G ?z_sum) (mg_none_of KX G ?z_len) (mg_none_of KX G ?z_list) (mg_none_of KX G ?z_zip) (mg_none_of KX G ?z_int) (mg_none_of KX G ?z_bool) (mg_none_of KX G ?z_tuple) (mg_none_of KX G ?z_max) (mg_none_of KX G ?z_min) (mg_of KX G ?ac_NoNumber) (mg_of KX G ?ac_NoBoxes) (mg_of KX G ?ac_NoBudget) (mg_of KX G ?ak_MOST_BOXES) (mg_of KX G ?ak_MOST_COST) (mg_of KX G ?ak_MOST_OF) (mg_of KX G ?ak_MOST_BUDGET) (mg_of KX G ?ak_MOST_LOOKS) ?xc_NoNumber ?xc_NoBoxes ?xc_NoBudget)
  (case a0=>k_is);(case l0=>k_is);(case c0=>k_is);(case k0=>k_is)
  (case a1=>k_is);(case l1=>k_is);(case c1=>k_is);(case k1=>k_is)
  (case a2=>k_is);(case l2=>k_is);(case c2=>k_is);(case k2=>k_is)
  (case a3=>k_is);(case l3=>k_is);(case c3=>k_is);(case k3=>k_is)
  (case a4=>k_is);(case l4=>k_is);(case c4=>k_is);(case k4=>k_is)
  (case a5=>k_is);(case l5=>k_is);(case c5=>k_is);(case k5=>k_is)
  (case a6=>k_is);(case l6=>k_is);(case c6=>k_is);(case k6=>k_is)
  (case a7=>k_is);(case l7=>k_is);(case c7=>k_is);(case k7=>k_is)
  (case a8=>k_is);(case l8=>k_is);(case c8=>k_is);(case k8=>k_is)
  (case a9=>k_is);(case l9=>k_is);(case c9=>k_is);(case k9=>k_is)
  (case a10=>k_is);(case l10=>k_is);(case c10=>k_is);(case k10=>k_is)
  (case a11=>k_is);(case l11=>k_is);(case c11=>k_is);(case k11=>k_is)
  (case a12=>k_is);(case l12=>k_is);(case c12=>k_is);(case k12=>k_is)
  (case a13=>k_is);(case l13=>k_is);(case c13=>k_is);(case k13=>k_is)
  (case a14=>k_is);(case l14=>k_is);(case c14=>k_is);(case k14=>k_is)
  (case a15=>k_is);(case l15=>k_is);(case c15=>k_is);(case k15=>k_is)
  (case a16=>k_is);(case l16=>k_is);(case c16=>k_is);(case k16=>k_is)
  (case a17=>k_is);(case l17=>k_is);(case c17=>k_is);(case k17=>k_is)
  (case a18=>k_is);(case l18=>k_is);(case c18=>k_is);(case k18=>k_is)
  (case a19=>k_is);(case l19=>k_is);(case c19=>k_is);(case k19=>k_is)
  (case a20=>k_is);(case l20=>k_is);(case c20=>k_is);(case k20=>k_is)
  (case a21=>k_is);(case l21=>k_is);(case c21=>k_is);(case k21=>k_is)
  (case a22=>k_is);(case l22=>k_is);(case c22=>k_is);(case k22=>k_is)
  (case a23=>k_is);(case l23=>k_is);(case c23=>k_is);(case k23=>k_is)
  (case a24=>k_is);(case l24=>k_is);(case c24=>k_is);(case k24=>k_is)
  (case a25=>k_is);(case l25=>k_is);(case c25=>k_is);(case k25=>k_is)
  (case a26=>k_is);(case l26=>k_is);(case c26=>k_is);(case k26=>k_is)
  (case a27=>k_is);(case l27=>k_is);(case c27=>k_is);(case k27=>k_is)
  (case a28=>k_is);(case l28=>k_is);(case c28=>k_is);(case k28=>k_is)
  (case a29=>k_is);(case l29=>k_is);(case c29=>k_is);(case k29=>k_is)
  (case a30=>k_is);(case l30=>k_is);(case c30=>k_is);(case k30=>k_is)
  (case a31=>k_is);(case l31=>k_is);(case c31=>k_is);(case k31=>k_is)
  (case a32=>k_is);(case l32=>k_is);(case c32=>k_is);(case k32=>k_is)
  (case a33=>k_is);(case l33=>k_is);(case c33=>k_is);(case k33=>k_is)
  (case a34=>k_is);(case l34=>k_is);(case c34=>k_is);(case k34=>k_is)
  (case a35=>k_is);(case l35=>k_is);(case c35=>k_is);(case k35=>k_is)
  (case a36=>k_is);(case l36=>k_is);(case c36=>k_is);(case k36=>k_is)
  (case a37=>k_is);(case l37=>k_is);(case c37=>k_is);(case k37=>k_is)
  (case a38=>k_is);(case l38=>k_is);(case c38=>k_is);(case k38=>k_is)
  (case a39=>k_is);(case l39=>k_is);(case c39=>k_is);(case k39=>k_is)
  (case a40=>k_is);(case l40=>k_is);(case c40=>k_is);(case k40=>k_is)
  (case a41=>k_is);(case l41=>k_is);(case c41=>k_is);(case k41=>k_is)
  (case a42=>k_is);(case l42=>k_is);(case c42=>k_is);(case k42=>k_is)
  (case a43=>k_is);(case l43=>k_is);(case c43=>k_is);(case k43=>k_is)
  (case a44=>k_is);(case l44=>k_is);(case c44=>k_is);(case k44=>k_is)
  (case a45=>k_is);(case l45=>k_is);(case c45=>k_is);(case k45=>k_is)
  (case a46=>k_is);(case l46=>k_is);(case c46=>k_is);(case k46=>k_is)
  (case a47=>k_is);(case l47=>k_is);(case c47=>k_is);(case k47=>k_is)
  (case a48=>k_is);(case l48=>k_is);(case c48=>k_is);(case k48=>k_is)
  (case a49=>k_is);(case l49=>k_is);(case c49=>k_is);(case k49=>k_is)
  (case a50=>k_is);(case l50=>k_is);(case c50=>k_is);(case k50=>k_is)
  (case a51=>k_is);(case l51=>k_is);(case c51=>k_is);(case k51=>k_is)
  (case a52=>k_is);(case l52=>k_is);(case c52=>k_is);(case k52=>k_is)
  (case a53=>k_is);(case l53=>k_is);(case c53=>k_is);(case k53=>k_is)
  (case a54=>k_is);(case l54=>k_is);(case c54=>k_is);(case k54=>k_is)
  (case a55=>k_is);(case l55=>k_is);(case c55=>k_is);(case k55=>k_is)
  (case a56=>k_is);(case l56=>k_is);(case c56=>k_is);(case k56=>k_is)
  (case a57=>k_is);(case l57=>k_is);(case c57=>k_is);(case k57=>k_is)
  (case a58=>k_is);(case l58=>k_is);(case c58=>k_is);(case k58=>k_is)
  (case a59=>k_is);(case l59=>k_is);(case c59=>k_is);(case k59=>k_is)
  (case a60=>k_is);(case l60=>k_is);(case c60=>k_is);(case k60=>k_is)
  (case a61=>k_is);(case l61=>k_is);(case c61=>k_is);(case k61=>k_is)
  (case a62=>k_is);(case l62=>k_is);(case c62=>k_is);(case k62=>k_is)
  (case a63=>k_is);(case l63=>k_is);(case c63=>k_is);(case k63=>k_is)
  (case a64=>k_is);(case l64=>k_is);(case c64=>k_is);(case k64=>k_is)
  (case a65=>k_is);(case l65=>k_is);(case c65=>k_is);(case k65=>k_is)
  (case a66=>k_is);(case l66=>k_is);(case c66=>k_is);(case k66=>k_is)
  (case z_set=>k_is)
  (case z_isinstance=>k_is)
  (case z_range=>k_is)
  (case z_all=>k_is)
  (case z_sorted=>k_is)
  (case z_abs=>k_is)
  (case z_sum=>k_is)
  (case z_len=>k_is)
  (case z_list=>k_is)
  (case z_zip=>k_is)
  (case z_int=>k_is)
  (case z_bool=>k_is)
  (case z_tuple=>k_is)
  (case z_max=>k_is)
  (case z_min=>k_is)
  (case ac_NoNumber=>k_is)
  (case ac_NoBoxes=>k_is)
  (case ac_NoBudget=>k_is)
  (case ak_MOST_BOXES=>k_is)
  (case ak_MOST_COST=>k_is)
  (case ak_MOST_OF=>k_is)
  (case ak_MOST_BUDGET=>k_is)
  (case ak_MOST_LOOKS=>k_is)
  (case xc_NoNumber=>k_exc)
  (case xc_NoBoxes=>k_exc)
  (case xc_NoBudget=>k_exc)
