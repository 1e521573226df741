import PyProof.Rows.All
import Wide.All
import OpenK.AllK
import Wide.FinOn
import Lean
import PyProof.EqAt
import PyProof.EqKinds
import PyProof.TupleCall
import PyProof.NeKinds
import KE.IntBitsLaws
import KE.KRevIter
import KE.KSortKey
import KE.KLam
import KE.KNestM
import KE.KDictList
import PyProof.ZipIter
import PyProof.Rows.Range3
import PyProof.CollectWalk
import PyProof.ListNew
import PyProof.Rows.TupIter
import PyProof.Draws
import PyProof.EnumFor
import KE.KDictSum
import PyProof.ConsumeWalk
import KE.KUnpack
import PyProof.Rows.SetFrom
import PyProof.ListRange
import KE.KDictOf
import PyProof.AttrMissHeap
import PySem.Challenge.RW_lidprice_k77_offers_refused
open List renaming length_map → aDe, mem_map → aDg, mem_of_getElem? → aDi, mem_cons_self → aDj, mem_cons_of_mem → aDk, getElem?_eq_getElem → aDl, getElem?_map → aDm, size_toArray → aDo, length_append → aDp, map_append → aDq, getElem?_eq_some_iff → aDr, length_singleton → aDs, length_take → aDu, mem_singleton → aDw, replicate → aDx, mem_append → aDy, take_length → aDz, mem_cons → aDA, mem_append_right → aDB, map_cons → aDE, length_cons → aDF, map_map → aDH, not_mem_nil → aDJ, getElem?_append_right → aDM, length_drop → aDN, length → aDP, getElem_toArray → aDQ, length_pos_iff → aDT, getElem_mem → aDU, map_eq_nil_iff → aDX, length_take_le → aDY, length_replicate → aDZ, mem_append_left → aD0, getElem?_append_left → aD3, pairwise_map → aD4, lookup_cons → aD8, sum_cons → aD9, mem_range → aEd, nodup_cons → aEe, filterMap_cons → aEf, map_congr_left → aEh, mem_filterMap → aEj, pairwise_cons → aEm, take_append_drop → aEo, foldl_cons → aEq, range → aEs, replicate_succ → aEu, any_eq_true → aEv, getElem?_set_self → aEy, find?_cons → aEA, foldl_append → aEC, getElem?_set_ne → aED, lookup → aEF, mem_of_mem_drop → aEG, mem_of_mem_take → aEH, all_eq_true → aEI, getElem?_take_of_lt → aEJ, of_mem_zip → aEM, filter_append → aEO, getElem?_replicate → aEP, length_eq_zero_iff → aEQ, flatten_cons → aER, append_assoc → aES, nodup_nil → aET, take_add_one → aEU, take_of_length_le → aEV, length_range → aEY, getElem?_eq_none → aEZ, length_filter_le → aE1, mem_iff_getElem → aE4, pairwise_append → aE5, eq_nil_of_length_eq_zero → aE6, mem_filter → aE7, append_nil → aE8, getD_eq_getElem?_getD → aFc, drop_eq_getElem_cons → aFd, flatMap_cons → aFg, Pairwise → aFh, mem_flatMap → aFn, filter_cons_of_pos → aFp, filter_cons_of_neg → aFq, map_nil → aFr, forIn_cons → aFx, sum_append → aFz, drop_zero → aFA, getElem?_of_mem → aFB, flatMap_append → aFF, getElem?_range → aFG, any_cons → aFH, map_take → aFI, map_drop → aFJ, ext_getElem? → aFS, nodup_append → aFV, ext_getElem → aFZ, zipIdx_cons → aF0, zipIdx_nil → aF6, filter_nil → aF7, foldl → aF8, getD → aF9
open PySem.Heap renaming get?_push_of_some → aDf, get?_push_size → aDt, lt_size → aDv, SameBut → aDL, size_push → aEb, get?_update_self → aEn, FlyingW → aEW, get?_update_other → aFs, ExtBut → aF3
open Nat renaming le_trans → aDh, le_refl → aDn, lt_of_lt_of_le → aDG, ne_of_lt → aDI, zero_le → aDK, le_of_lt → aDO, ne_of_gt → aEa, add_le_add_left → aEg, lt_irrefl → aEi, lt_of_le_of_lt → aEk, sub_self → aEz, le_succ → aE2, mul_le_mul_left → aFa, lt_succ_self → aFj, le_add_right → aFm, pow_le_pow_right → aFC, le_of_eq → aFO, succ_mul → aFP, mul_comm → aFQ, lt_succ_of_lt → aFR, sub_zero → aFX, two_pow_pos → aF5
open Bool renaming false_ne_true → aDC, and_eq_true → aD2, false_eq_true → aD7, eq_iff_iff → aEL, eq_false_iff → aEX, or_eq_true → aFy, and_eq_true_iff → aFD, noConfusion → aF1
open Int renaming ne_of_gt → aDD, emod_lt_of_pos → aDS, emod_nonneg → aDV, gcd → aDW, mul_pos → aD1, gcd_pos_of_ne_zero_right → aD5, le_of_lt → aD6, toNat_natCast → aEr, mul_le_mul_of_nonneg_right → aEw, mul_le_mul_of_nonneg_left → aEx, fdiv_eq_ediv_of_nonneg → aEE, mul_fdiv_cancel_left → aEK, mul_nonpos_of_nonneg_of_nonpos → aEN, natAbs_dvd_natAbs → aE0, mul_comm → aFb, le_refl → aFe, gcd_dvd_right → aFf, dvd_trans → aFi, gcd_dvd_left → aFl, gcd_le_natAbs_right → aFo, fmod_nonneg_of_pos → aFu, zero_add → aFv, le_trans → aFw, fdiv_mul_cancel → aFE, lt_or_gt_of_ne → aFL, fmod_lt_of_pos → aFM, natCast_nonneg → aFN, fmod_def → aFT, add_zero → aFU, gcd_one_right → aFW, one_mul → aF4
open Array renaming length_toList → aDR, getElem?_eq_getElem → aEp, getElem?_toList → aEB, toArray_toList → aE3, mk → aFk, getElem?_eq_none → aFt, append_assoc → aFK
open Option renaming some → aEc, isSome_iff_exists → aEt, map_some → aE9, getD_none → aFY, none → aF2
set_option Elab.async false
set_option linter.all false
set_option maxRecDepth 100000
namespace K77
open PySem PySem.W
abbrev sdr:=PySem.Challenge.rw_lidprice_k77_offers_refused
abbrev IK:Program:=sdr.row.toRowW.prog
theorem sdA:sreFenced IK.main=true:=by kernel_rfl
theorem sdB:((moduleNames IK.main.body).isEmpty||lookedIntoSs (moduleNames IK.main.body) IK.main.body)=true:=by kernel_rfl
theorem sdC:namesResolve IK=true:=by kernel_rfl
theorem sdD:(IK.boundNames.all fun n=>!worldNames.contains n)=true:=by kernel_rfl
theorem sdE:noRoadLSs { strict:=!(importedModules IK.main.body).all cThrough.contains,foot:=none,bare:=(["vars","dir","locals"]:List Str).filter (readsOut IK IK.main.body) } IK.main.body=true:=by kernel_rfl
theorem sdF:(namesMeet IK IK.main.body fun _ n=>attrL n)=true:=by kernel_rfl
theorem sdG:looksOpen IK=true:=by
 unfold looksOpen;exact look_both (look_both (look_both (look_both (look_both sdA sdB) sdC) sdD) sdE) sdF
theorem sdH:sdr.row.wellSaid=true:=by
 unfold OpenRow.wellSaid OpenRow.partSaid;rw [sdG]
 kernel_rfl
theorem VV:sdr.wellSaid=true:=by
 unfold OpenLaw.wellSaid;rw [sdH]
 kernel_rfl
end K77
namespace L2
open PySem PySem.Spec PyProof.Rows
abbrev Key:=Sum Int Str
def xE:Key->Value->Bool
 | .inl k,v=>Value.isInt k v
 | .inr x,v=>Value.isStrOf x v
def Yl (w:World):Key->Int
 | .inl k=>hashInt k
 | .inr x=>hashStr w x
theorem dM:∀ {k:Key}{v:Value},xE k v=true->(∃ i t,k=Sum.inl i/\v=Value.int i t)∨(∃ x t,k=Sum.inr x/\v=Value.str x t)
 | .inl i,v,h=>by
  obtain ⟨t,e⟩:=Value.isInt_shape (k:=i) (v:=v) h;exact .inl ⟨i,t,rfl,e⟩
 | .inr x,v,h=>by
  obtain ⟨t,e⟩:=Value.isStrOf_shape (x:=x) (v:=v) h;exact .inr ⟨x,t,rfl,e⟩
theorem Io (i:Int)(t:Tok):xE (.inl i) (.int i t)=true:=by simp [xE,Value.isInt]
theorem Hn (x:Str)(t:Tok):xE (.inr x) (.str x t)=true:=by simp [xE,Value.isStrOf]
theorem Qh (a b:Int):decide ((Sum.inl a:Key)=Sum.inl b)=(a==b):=by
 by_cases e:a=b
 ·subst e; simp
 ·have h:¬ (Sum.inl a:Key)=Sum.inl b:=fun q=>e (Sum.inl.inj q);rw [decide_eq_false h];exact (beq_eq_false_iff_ne.mpr e).symm
theorem Ql (a b:Str):decide ((Sum.inr a:Key)=Sum.inr b)=decide (a=b):=by
 by_cases e:a=b
 ·subst e; simp
 ·have h:¬ (Sum.inr a:Key)=Sum.inr b:=fun q=>e (Sum.inr.inj q);rw [decide_eq_false h,decide_eq_false e]
theorem Rh (a:Int)(b:Str):decide ((Sum.inl a:Key)=Sum.inr b)=false:=decide_eq_false (fun q=>nomatch q)
theorem Rg (a:Str)(b:Int):decide ((Sum.inr a:Key)=Sum.inl b)=false:=decide_eq_false (fun q=>nomatch q)
def dJ (prog:Program)(w:World):PySem.KeyKind prog w Key where
 is:=xE
 hash:=Yl w
 inj:=fun v a b ha hb=>by
  rcases dM ha with ⟨i,t,rfl,rfl⟩ | ⟨x,t,rfl,rfl⟩
  ·rcases dM hb with ⟨j,u,rfl,e⟩ | ⟨y,u,rfl,e⟩
   ·injection e with e1 _; rw [e1]
   ·exact nomatch e
  ·rcases dM hb with ⟨j,u,rfl,e⟩ | ⟨y,u,rfl,e⟩
   ·exact nomatch e
   ·injection e with e1 _; rw [e1]
 byValue:=fun k v h=>by
  rcases dM h with ⟨i,t,rfl,rfl⟩ | ⟨x,t,rfl,rfl⟩ <;> rfl
 pyHash:=fun hv h=>by
  rcases dM hv with ⟨i,t,rfl,rfl⟩ | ⟨x,t,rfl,rfl⟩
  ·exact wpAny_pyHash_int h
  ·exact wpAny_pyHash_str h
 eqBool:=fun hu hv h=>by
  rcases dM hu with ⟨i,t,rfl,rfl⟩ | ⟨x,t,rfl,rfl⟩
  ·rcases dM hv with ⟨j,u,rfl,rfl⟩ | ⟨y,u,rfl,rfl⟩
   ·rw [Qh] at h; exact wpAny_eqBool_int h
   ·rw [Rh] at h; exact SeqAt.EqAt.int_str i t y u _ _ _ _ h
  ·rcases dM hv with ⟨j,u,rfl,rfl⟩ | ⟨y,u,rfl,rfl⟩
   ·rw [Rg] at h; exact SeqAt.EqAt.str_int x t j u _ _ _ _ h
   ·rw [Ql] at h; exact wpAny_eqBool_str h
 «strs»:=fun k x t v h=>by
  rcases dM h with ⟨i,u,rfl,e⟩ | ⟨y,u,rfl,e⟩
  ·exact nomatch e
  ·injection e with e1 _
   subst e1;cases v <;> rfl
theorem Bv (prog:Program)(w:World)(i:Int)(t:Tok):(dJ prog w).is (.inl i) (.int i t)=true:=Io i t
theorem Cy (prog:Program)(w:World)(x:Str)(t:Tok):(dJ prog w).is (.inr x) (.str x t)=true:=Hn x t
inductive V where
 | non | bl (b:Bool) | int (i:Int) | str (x:Str) | byt (b:Array UInt8) | flt (b:UInt64) | ref (a:Addr) | ty (n:String)
 deriving DecidableEq
def RelV:V->Value->Prop
 | .non,u=>u=Value.none
 | .bl b,u=>u=Value.bool b
 | .int i,u=>∃ t,u=Value.int i t
 | .str x,u=>∃ t,u=Value.str x t
 | .byt b,u=>∃ t,u=Value.bytes b t
 | .flt b,u=>∃ t,u=Value.float b t
 | .ref a,u=>u=Value.ref a
 | .ty n,u=>u=Value.type n
abbrev bV:List V->List Value->Prop:=Paired RelV
theorem bV.length {xs:List V}{us:List Value}(r:bV xs us):xs.length=us.length:=Paired.length r
theorem bV.get:∀ {xs:List V}{us:List Value}{i:Nat}{x:V},bV xs us->xs[i]? = some x->∃ u,us[i]? = some u/\RelV x u
 | _,_,_,_,.nil,e=>by simp at e
 | _,_,0,_,.cons r _,e=>by simp at e; subst e; exact ⟨_,rfl,r⟩
 | _,_,i+1,x,.cons _ t,e=>by
  obtain ⟨u,h1,h2⟩:=bV.get (i:=i) (x:=x) t (by simpa using e);exact ⟨u,by simpa using h1,h2⟩
theorem bV.append:∀ {xs ys:List V}{us ws:List Value},bV xs us->bV ys ws->bV (xs++ys) (us++ws)
 | _,_,_,_,.nil,s=>s
 | _,_,_,_,.cons r t,s=>.cons r (bV.append t s)
theorem bV.take:∀ {xs:List V}{us:List Value} (n:Nat),bV xs us->bV (xs.take n) (us.take n)
 | _,_,0,_=>.nil
 | _,_,_+1,.nil=>.nil
 | _,_,n+1,.cons r t=>.cons r (bV.take n t)
theorem bV.drop:∀ {xs:List V}{us:List Value} (n:Nat),bV xs us->bV (xs.drop n) (us.drop n)
 | _,_,0,r=>r
 | _,_,_+1,.nil=>.nil
 | _,_,n+1,.cons _ t=>bV.drop n t
def mX:Option V->Option Value->Prop
 | some v,some u=>RelV v u
 | none,none=>True
 | _,_=>False
def KV {κ:Type}:List (κ×V)->List (κ×Value)->Prop:=Paired fun (p:κ×V) (q:κ×Value)=>p.1=q.1/\RelV p.2 q.2
def kV:Key->V
 | .inl i=>.int i
 | .inr x=>.str x
inductive HO where
 | lst (xs:List V)
 | tup (xs:List V)
 | dK (kvs:List (Key×V)) | dT (kvs:List (List Key×V))
 | set (S:Int->Bool) (n:Nat)
 | ins (C dx:Addr) (fs:List (Str×V))
 | own (x:Addr)
 | xd (fs:List (Str×V))
 | met (f x:Addr)
 | rng (lo hi:Int)
 | frz (o:Obj) (u:HO)
 | tbl (ps:Array Value)
 | ext (φ:Heap->Prop)
abbrev Hp:=Addr->Option HO
def aM (H:Hp)(a:Addr)(o:HO):Hp:=fun b=>if b=a then some o else H b
theorem aA {H:Hp}{a:Addr}{o:HO}:aM H a o a=some o:=by unfold aM; rw [if_pos rfl]
theorem aH {H:Hp}{a b:Addr}{o:HO}(h:b≠a):aM H a o b=H b:=by unfold aM; rw [if_neg h]
theorem Oa {H:Hp}{a:Addr}{o u:HO}:aM (aM H a o) a u=aM H a u:=by
 funext b; unfold aM; split <;> rfl
theorem dG {H:Hp}{a b:Addr}{o u:HO}(h:H a=some o)(h':H b=some u)(d:o≠u):a≠b:=by
 intro e; subst e; rw [h] at h'; exact d (aEc.inj h')
theorem bJ {H:Hp}{a b:Addr}{o:HO}(h:H a=some o)(h':H b=none):a≠b:=by
 intro e; subst e; rw [h] at h'; cases h'
section
variable (P:Program)(w:World)
def cH (H:Hp)(h:Heap)(a:Addr):HO->Prop
 | .lst xs=>xs.length<=sizeLine/\∃ (its:List Value) (n:Nat),bV xs its/\h.get? a=some { cls:=.type "list",data:=.seq its.toArray n }
 | .tup xs=>xs.length<=sizeLine/\∃ its:List Value,bV xs its/\IsTup h a its.toArray
 | .dK kvs=>kvs.length<=sizeLine/\(a==sysModules)=false/\∃ vs,KV kvs vs/\h.DictOf (dJ P w) a vs
 | .dT kvs=>kvs.length<=sizeLine/\(a==sysModules)=false/\∃ xs:List (List Key×Addr×Value),
   Paired (fun (p:List Key×V) (q:List Key×Addr×Value)=>p.1=q.1/\H q.2.1=some (.tup (p.1.map kV))/\RelV p.2 q.2.2) kvs xs ∧
   ∃ o es ep,h.get? a=some o/\o.ExactDict/\o.data=.dict es ep/\es.toList=xs.map (entryOfKey (tupleKind (dJ P w)))/\(xs.map (·.1)).Nodup
 | .set S n=>h.SetOf (intKind P w) a S n
 | .ins C dx fs=>H dx=some (.own a)/\fs.length<=1000/\dx≠a/\h.get? a=some (PySem.W.instObj C dx) ∧
   ∃ mA,h.Ns1 dx mA/\(∀ f,mX (fs.lookup f) (mA f))/\PySem.Within mA (fs.map (·.1))
 | .own _=>∃ o,h.get? a=some o
 | .xd fs=>∃ mA,h.Ns1 a mA/\∀ f,mX (fs.lookup f) (mA f)
 | .rng lo hi=>∃ t u v,h.get? a=some { cls:=.type "range",data:=.fields #[.int lo t,.int hi u,.int 1 v] }
 | .frz o u=>h.get? a=some o/\cH H h a u
 | .tbl ps=>h.get? a=some { cls:=.none,data:=.fields ps }
 | .met f x=>h.get? a=some (PySem.W.methodObj (.ref f) (.ref x))
 | .ext φ=>φ h/\(∃ o,h.get? a=some o)/\∀ h1 h2:Heap,φ h1->(∀ o,h1.get? a=some o->h2.get? a=some o)->φ h2
def n6 (H:Hp)(h:Heap):Prop:=∀ a o,H a=some o->cH P w H h a o
end
section
variable {P:Program}{w:World}{H H':Hp}{h h':Heap}{a:Addr}{o:HO}
theorem cH.lt (x:cH P w H h a o):a<h.objs.size:=by
 cases o with
 | lst xs=>obtain ⟨_,_,_,_,e⟩:=x; exact aDv e
 | tup xs=>obtain ⟨_,_,_,p⟩:=x; exact p.lt
 | dK kvs=>obtain ⟨_,_,_,_,o,_,_,e,_⟩:=x; exact aDv e
 | dT kvs=>obtain ⟨_,_,_,_,o,_,_,e,_⟩:=x; exact aDv e
 | set S n=>obtain ⟨o,_,_,_,e,_⟩:=x; exact aDv e
 | ins C dx fs=>obtain ⟨_,_,_,e,_⟩:=x; exact aDv e
 | own y=>obtain ⟨_,e⟩:=x; exact aDv e
 | xd fs=>obtain ⟨_,⟨_,_,_,e,_⟩,_⟩:=x; exact aDv e
 | rng lo hi=>obtain ⟨_,_,_,e⟩:=x; exact aDv e
 | frz ob u=>obtain ⟨e,_⟩:=x; exact aDv e
 | tbl ps=>exact aDv (show h.get? a=some _ from x)
 | met f y=>exact aDv (show h.get? a=some _ from x)
 | ext φ=>obtain ⟨_,⟨_,e⟩,_⟩:=x; exact aDv e
theorem Paired.mapP {α β:Type}{F G:α->β->Prop}:∀ {l₁:List α}{l₂:List β},Paired F l₁ l₂->(∀ a b,F a b->G a b)->Paired G l₁ l₂
 | _,_,.nil,_=>.nil
 | _,_,.cons r t,f=>.cons (f _ _ r) (Paired.mapP t f)
theorem cH.stay (x:cH P w H h a o)(k:∀ b u,(b=a∨H b=some (.own a))->h.get? b=some u->h'.get? b=some u)
  (ho:∀ b,H b=some (.own a)->H' b=some (.own a)) (ht:∀ b xs,H b=some (.tup xs)->H' b=some (.tup xs)):cH P w H' h' a o:=by
 induction o with
 | lst xs=>obtain ⟨z,its,n,r,e⟩:=x; exact ⟨z,its,n,r,k _ _ (.inl rfl) e⟩
 | tup xs=>obtain ⟨z,its,r,ob,e,c⟩:=x; exact ⟨z,its,r,ob,k _ _ (.inl rfl) e,c⟩
 | dK kvs=>obtain ⟨z,y,vs,r,ob,es,ep,e,c⟩:=x; exact ⟨z,y,vs,r,ob,es,ep,k _ _ (.inl rfl) e,c⟩
 | dT kvs =>
  obtain ⟨z,y,xs,r,ob,es,ep,e,c⟩:=x;exact ⟨z,y,xs,Paired.mapP r fun p q z=>⟨z.1,ht _ _ z.2.1,z.2.2⟩,ob,es,ep,k _ _ (.inl rfl) e,c⟩
 | set S n=>obtain ⟨ob,es,ep,t,e,c⟩:=x; exact ⟨ob,es,ep,t,k _ _ (.inl rfl) e,c⟩
 | ins C dx fs =>
  obtain ⟨d,z,ne,e,mA,⟨od,es,ep,e2,c⟩,r⟩:=x;exact ⟨ho _ d,z,ne,k _ _ (.inl rfl) e,mA,⟨od,es,ep,k _ _ (.inr d) e2,c⟩,r⟩
 | own y=>obtain ⟨ob,e⟩:=x; exact ⟨ob,k _ _ (.inl rfl) e⟩
 | xd fs=>obtain ⟨mA,⟨od,es,ep,e,c⟩,r⟩:=x; exact ⟨mA,⟨od,es,ep,k _ _ (.inl rfl) e,c⟩,r⟩
 | rng lo hi=>obtain ⟨t,u,v,e⟩:=x; exact ⟨t,u,v,k _ _ (.inl rfl) e⟩
 | frz ob u ih=>obtain ⟨e,q⟩:=x; exact ⟨k _ _ (.inl rfl) e,ih q⟩
 | tbl ps =>
  have e:h.get? a=some { cls:=.none,data:=.fields ps }:=x;show h'.get? a=some { cls:=.none,data:=.fields ps };exact k a _ (.inl rfl) e
 | met f y =>
  have e:h.get? a=some (PySem.W.methodObj (.ref f) (.ref y)):=x;show h'.get? a=some (PySem.W.methodObj (.ref f) (.ref y));exact k a _ (.inl rfl) e
 | ext φ=>obtain ⟨p,⟨o,e⟩,st⟩:=x; exact ⟨st _ _ p fun o q=>k _ _ (.inl rfl) q,⟨o,k _ _ (.inl rfl) e⟩,st⟩
theorem n6.lt (x:n6 P w H h)(e:H a=some o):a<h.objs.size:=(x a o e).lt
theorem n6.fresh (x:n6 P w H h)(e:h.objs.size<=a):H a=none:=by
 cases q:H a with
 | none=>rfl
 | some u=>exact absurd (aDG (x.lt q) e) (aEi _)
theorem n6.kept (x:n6 P w H h)(k:∀ b u,h.get? b=some u->h'.get? b=some u):n6 P w H h':=fun a o e =>
 (x a o e).stay (fun b u _ q=>k b u q) (fun _ q=>q) fun _ _ q=>q
theorem n6.laid (x:n6 P w H h)(k:∀ b u,h.get? b=some u->h'.get? b=some u)(hp:h.objs.size<=a)(new:cH P w (aM H a o) h' a o):n6 P w (aM H a o) h':=fun b u e=>by
 have hn:=x.fresh hp
 by_cases hb:b=a
 ·subst hb; rw [aA] at e; cases e; exact new
 ·rw [aH hb] at e;exact (x b u e).stay (fun c v _ q=>k c v q) (fun c q=>by rw [aH (bJ q hn)]; exact q) fun c xs q=>by rw [aH (bJ q hn)]; exact q
end
def Rd (H:Hp)(a:Addr)(u:HO):Prop:=H a=some u∨∃ o,H a=some (.frz o u)
theorem Rd.ok {P:Program}{w:World}{H:Hp}{h:Heap}{a:Addr}{u:HO}(r:Rd H a u)(x:n6 P w H h):cH P w H h a u:=by
 rcases r with r | ⟨o,r⟩
 ·exact x a u r
 ·obtain ⟨_,q⟩:=x a _ r;exact q
def Wd:Option HO->Prop
 | some (.lst _)=>True
 | some (.dK _)=>True
 | some (.dT _)=>True
 | some (.set _ _)=>True
 | some (.ins _ _ _)=>True
 | some (.ext _)=>True
 | _=>False
section
variable {P:Program}{w:World}{H:Hp}{h h':Heap}{x e:Addr}{o':HO}
theorem n6.write (ok:n6 P w H h)(mu:Wd (H x))(he:e=x∨H e=some (.own x))(k:∀ b u,b≠e->h.get? b=some u->h'.get? b=some u)(heo:∃ u,h'.get? e=some u)
  (new:cH P w (aM H x o') h' x o'):n6 P w (aM H x o') h':=fun b u q=>by
 have nown:∀ c y,H c=some (.own y)->c≠x:=fun c y r z=>by subst z; rw [r] at mu; exact mu
 have ntup:∀ c xs,H c=some (.tup xs)->c≠x:=fun c xs r z=>by subst z; rw [r] at mu; exact mu
 by_cases hb:b=x
 ·subst hb; rw [aA] at q; cases q; exact new
 ·rw [aH hb] at q
  by_cases hbe:b=e
  ·have q':H b=some (.own x):=by
    rcases he with z | z
    ·exact absurd (hbe.trans z) hb
    ·rw [hbe]; exact z
   rw [q] at q'; cases q';obtain ⟨v,hv⟩:=heo;exact ⟨v,by rw [hbe]; exact hv⟩
  ·refine (ok b u q).stay (fun c v hc r=>k c v ?_ r) (fun c r=>by rw [aH (nown c b r)]; exact r) fun c xs r=>by rw [aH (ntup c xs r)]; exact r
   rcases hc with rfl | hc
   ·exact hbe
   ·rintro rfl;rcases he with z | z
    ·exact nown c b hc z
    ·rw [hc] at z; cases z; exact hb rfl
end
structure Un (fs ex:List Addr)(H H':Hp)(h h':Heap):Prop where
 keep:∀ b o,h.get? b=some o->H b=none->b∉fs->b∉ex->h'.get? b=some o
 slot:∀ b o,h.get? b=some o->H b=none->b∈fs->b∉ex->∃ sl,h'.get? b=some { o with slots:=sl }
 free:∀ b o,h.get? b=some o->H b=none->b∉ex->H' b=none
 there:∀ b o,h.get? b=some o->b∉ex->∃ o',h'.get? b=some o'
 tups:∀ b xs,H b=some (.tup xs)->H' b=some (.tup xs)
 frzs:∀ b o u,H b=some (.frz o u)->H' b=some (.frz o u)
 tbls:∀ b ps,H b=some (.tbl ps)->∃ more,H' b=some (.tbl (ps++more))
section
variable {fs fs' ex ex':List Addr}{H H1 H2:Hp}{h h1 h2 h':Heap}{a x e:Addr}{o:HO}
theorem Un.any (u:Un fs ex H H1 h h1){b:Addr}{ob:Obj}(q:h.get? b=some ob)(n:H b=none)(hx:b∉ex):∃ sl,h1.get? b=some { ob with slots:=sl }:=by
 by_cases hb:b∈fs
 ·exact u.slot b ob q n hb hx
 ·exact ⟨ob.slots,u.keep b ob q n hb hx⟩
theorem Un.trans (a:Un fs ex H H1 h h1)(b:Un fs ex H1 H2 h1 h2):Un fs ex H H2 h h2 where
 keep:=fun c ob q n hc hx=>b.keep c ob (a.keep c ob q n hc hx) (a.free c ob q n hx) hc hx
 slot:=fun c ob q n hc hx=>by
  obtain ⟨sl,e1⟩:=a.slot c ob q n hc hx;obtain ⟨sl',e2⟩:=b.slot c _ e1 (a.free c ob q n hx) hc hx;exact ⟨sl',e2⟩
 free:=fun c ob q n hx=>by
  obtain ⟨o',e1⟩:=a.there c ob q hx;exact b.free c o' e1 (a.free c ob q n hx) hx
 there:=fun c ob q hx=>by
  obtain ⟨o',e1⟩:=a.there c ob q hx;exact b.there c o' e1 hx
 tups:=fun c xs q=>b.tups c xs (a.tups c xs q)
 frzs:=fun c ob xs q=>b.frzs c ob xs (a.frzs c ob xs q)
 tbls:=fun c ps q=>by
  obtain ⟨m1,e1⟩:=a.tbls c ps q;obtain ⟨m2,e2⟩:=b.tbls c _ e1;exact ⟨m1++m2,by rw [e2,aFK]⟩
theorem Un.kept (k:∀ b u,h.get? b=some u->h'.get? b=some u):Un fs ex H H h h' :=
 ⟨fun b ob q _ _ _=>k b ob q,fun b ob q _ _ _=>⟨ob.slots,k b ob q⟩,fun _ _ _ n _=>n,fun b ob q _=>⟨ob,k b ob q⟩,fun _ _ q=>q,fun _ _ _ q=>q,fun _ ps q=>⟨#[],by rw [q]; simp⟩⟩
theorem Un.refl:Un fs ex H H h h:=Un.kept fun _ _ q=>q
theorem Un.laid (k:∀ b u,h.get? b=some u->h'.get? b=some u)(hp:h.objs.size<=a)(hn:H a=none):Un fs ex H (aM H a o) h h' where
 keep:=fun b u q _ _ _=>k b u q
 slot:=fun b u q _ _ _=>⟨u.slots,k b u q⟩
 free:=fun b u q n _=>by rw [aH (aDI (aDG (aDv q) hp))]; exact n
 there:=fun b u q _=>⟨u,k b u q⟩
 tups:=fun b xs q=>by rw [aH (bJ q hn)]; exact q
 frzs:=fun b u xs q=>by rw [aH (bJ q hn)]; exact q
 tbls:=fun b ps q=>⟨#[],by rw [aH (bJ q hn),q]; simp⟩
theorem Un.write (mu:Wd (H x))(he:e=x∨H e=some (.own x))(k:∀ b u,b≠e->h.get? b=some u->h'.get? b=some u)(heo:∃ u,h'.get? e=some u):Un fs ex H (aM H x o) h h':=by
 have hx:∀ b,H b=none->b≠x:=fun b n z=>by subst z; rw [n] at mu; exact mu
 have hb:∀ b,H b=none->b≠e:=fun b n z=>by
  subst z;rcases he with r | r
  ·exact hx b n r
  ·rw [n] at r; cases r
 have hm:∀ b u,H b=some u->¬ Wd (some u)->b≠x:=fun b u q nm z=>by subst z; rw [q] at mu; exact nm mu
 refine ⟨fun b u q n _ _=>k b u (hb b n) q,fun b u q n _ _=>⟨u.slots,k b u (hb b n) q⟩,fun b u q n _=>by rw [aH (hx b n)]; exact n,fun b u q _=>?_,
  fun b xs q=>by rw [aH (hm b _ q fun z=>z)]; exact q,fun b u xs q=>by rw [aH (hm b _ q fun z=>z)]; exact q,fun b ps q=>⟨#[],by rw [aH (hm b _ q fun z=>z),q]; simp⟩⟩
 by_cases hbe:b=e
 ·subst hbe; exact heo
 ·exact ⟨u,k b u hbe q⟩
end
def Xh (h:Heap)(H:Hp):List Addr:=(aEs h.objs.size).filter fun a=>(H a).isSome
def wQ (h:Heap)(H:Hp):Heap:=PySem.W.hideAll h (Xh h H)
theorem Ho (h:Heap)(H:Hp):(wQ h H).objs.size=h.objs.size:=PySem.W.hideAll_size _ _
theorem M4 {h:Heap}{H:Hp}{b:Addr}{o:Obj}(e:h.get? b=some o)(n:H b=none):(wQ h H).get? b=some o :=
 PySem.W.hideAll_get _ e fun hm=>by
  have q:(H b).isSome=true:=(aE7.mp hm).2;rw [n] at q; simp at q
theorem Ou {h:Heap}{H:Hp}{b:Addr}{o:Obj}(e:(wQ h H).get? b=some o):h.get? b=some o/\H b=none:=by
 have e':h.get? b=some o:=PySem.W.of_hideAll (Xh h H) e;refine ⟨e',?_⟩;cases q:H b with
 | none=>rfl
 | some x =>
  have hm:b∈Xh h H:=aE7.mpr ⟨aEd.mpr (aDv e'),by simp [q]⟩;have z:(wQ h H).get? b=none:=PySem.W.hideAll_none (Xh h H) hm;rw [z] at e; cases e
def Og (g h:Heap)(L:Addr):List (Addr×Obj):=(aEs h.objs.size).filterMap fun a=>if a=L∨(g.get? a).isSome=true then none else (h.get? a).map fun o=>(a,o)
def rest (g h:Heap)(L d:Addr):List (Addr×Obj):=(Og g h L).filter fun p=>decide (p.1≠d)
structure Mod (K:PySem.W.Frag)(mg:Str->Option Value)(base:Heap):Prop where
 kin:K.In base
 glob:base.Ns mainGlobals mg
 blt:∃ mb,base.Ns builtinsNs mb/\∀ x:Str,x≠"__name__" -> mb x=bootBuiltins x
 nolimit:base.NoLimit
structure Cx where
 prog:Program
 w:World
 K:PySem.W.Frag
 mg:Str->Option Value
 base:Heap
 A:Around
 N:List Str
 s₀:Shared
 H₀:Hp
 env:Env
 outer:List Env
 stack:List Env
 ex:List Addr
 fn:Str->Bool
 calm:Bool
 pn:List (Addr×Obj)
 xe:Value->Shared->Prop
def qW (l:List Env):List Addr:=l.filterMap (·.frame)
abbrev Cx.fs (X:Cx):List Addr:=qW X.outer
def Xk (sc:Scope)(x:Str):Prop:=sc.names.lookup x=some .local∨sc.names.lookup x=some .cell∨sc.names.lookup x=some .free
def Loc (sc:Scope)(x:Str):Prop:=sc.names.lookup x=some .local∨sc.names.lookup x=some .cell
def Look (env:Env)(h:Heap)(m:Str->Option Value)(x:Str)(u:Value):Prop :=
 (env.kindOf x=some .local/\m x=some u)∨((env.kindOf x=some .cell∨env.kindOf x=some .free)/\∃ c,env.cells.lookup x=some c/\h.IsCell c (some u))
structure Cx.Ok (X:Cx):Prop where
 mod:Mod X.K X.mg X.base
 kind:X.env.scope.kind=.function
 glob:X.env.globals=mainGlobals
 blt:X.env.builtins=builtinsNs
 above:X.s₀.heap.objs.size<=X.env.locals
 inj:∀ x y c,X.env.cells.lookup x=some c->X.env.cells.lookup y=some c->x=y
 has:∀ x,(X.env.kindOf x=some .cell∨X.env.kindOf x=some .free)->∃ c,X.env.cells.lookup x=some c
 cab:∀ x c,X.fn x=true->X.env.cells.lookup x=some c->X.s₀.heap.objs.size<=c
 hd:X.calm=true->X.A.handled=none
 frames:X.A.frames=some X.stack
 stk:X.stack=X.outer∨(X.stack=X.env::X.outer/\X.env.frame=some X.env.locals)
 exf:∀ b∈X.ex,b≠X.env.locals/\∀ x c,X.env.cells.lookup x=some c->c≠b
 bs:∀ b o,X.base.get? b=some o->X.s₀.heap.get? b=some o/\X.H₀ b=none
 bsz:X.base.objs.size<=X.s₀.heap.objs.size
 noex:∀ b o,X.base.get? b=some o->b∉X.ex
 exfs:∀ b∈X.ex,b∉X.fs
 funs:X.s₀.heap.FunFrames X.base X.outer
 frf:∀ b∈X.fs,X.H₀ b=none
structure aQ (X:Cx)(pins:List (Addr×Obj))(σ:List (Option V))(H:Hp)(s:Shared):Prop where
 ok:X.Ok
 os:s.os=X.s₀.os
 bare:AllBare s.gens
 base:Un X.fs X.ex X.H₀ H X.s₀.heap s.heap
 loc:∃ m,s.heap.Ns X.env.locals m/\∀ (i:Nat) (x:Str) (v:V),X.N[i]? = some x->σ[i]? = some (some v)->Xk X.env.scope x->∃ u,RelV v u/\Look X.env s.heap m x u
 cell:∀ x c,X.env.cells.lookup x=some c->∃ v,s.heap.IsCell c v
 free:H X.env.locals=none
 freeC:∀ x c,X.env.cells.lookup x=some c->H c=none
 pin:∀ p∈X.pn++pins,s.heap.get? p.1=some p.2/\H p.1=none/\p.1≠X.env.locals/\p.1∉X.fs/\∀ v,p.2.data≠.cell v
 hok:n6 X.prog X.w H s.heap
 len:σ.length=X.N.length
section
variable {X:Cx}{pins:List (Addr×Obj)}{σ:List (Option V)}{H H':Hp}{s:Shared}{h':Heap}
theorem Cx.Ok.nofr (ok:X.Ok){b:Addr}{o:Obj}(e:X.base.get? b=some o):b∉X.fs:=fun hb=>by
 have:=(ok.funs.mem hb).1;rw [e] at this; cases this
theorem aQ.bs (I:aQ X pins σ H s):∀ b o,X.base.get? b=some o->s.heap.get? b=some o/\H b=none:=fun b o e =>
 ⟨I.base.keep b o (I.ok.bs b o e).1 (I.ok.bs b o e).2 (I.ok.nofr e) (I.ok.noex b o e),I.base.free b o (I.ok.bs b o e).1 (I.ok.bs b o e).2 (I.ok.noex b o e)⟩
theorem aQ.bk (I:aQ X pins σ H s):∀ b o,X.base.get? b=some o->s.heap.get? b=some o:=fun b o e=>(I.bs b o e).1
theorem aQ.mod (I:aQ X pins σ H s):Mod X.K X.mg X.base:=I.ok.mod
theorem aQ.kIn (I:aQ X pins σ H s):X.K.In s.heap:=I.ok.mod.kin.keeps I.bk
theorem aQ.nolimit (I:aQ X pins σ H s):s.heap.NoLimit:=I.ok.mod.nolimit.keeps I.bk
theorem aQ.fr (I:aQ X pins σ H s):∃ m,Fr X.base X.env.locals s.heap m :=
 let ⟨m,hn,_⟩:=I.loc
 ⟨m,hn,I.bk,aDh I.ok.bsz I.ok.above⟩
theorem aQ.lt (I:aQ X pins σ H s):X.env.locals<s.heap.objs.size:=let ⟨_,hn,_⟩:=I.loc; hn.lt
theorem aQ.sz (I:aQ X pins σ H s):X.s₀.heap.objs.size<=s.heap.objs.size:=aDh I.ok.above (aDO I.lt)
theorem aQ.nofs (I:aQ X pins σ H s){a:Addr}(h:s.heap.objs.size<=a):a∉X.fs:=fun hb=>by
 obtain ⟨_,o,ho,_⟩:=I.ok.funs.mem hb;exact absurd (aDG (aDv ho) (aDh I.sz h)) (aEi _)
theorem aQ.cne (I:aQ X pins σ H s):∀ x c,X.env.cells.lookup x=some c->c≠X.env.locals:=fun x c e z=>by
 obtain ⟨v,o,ho,hd⟩:=I.cell x c e;obtain ⟨m,⟨o',es,ep,ho',hd',_⟩,_⟩:=I.loc;rw [z,ho'] at ho; cases ho; rw [hd'] at hd; cases hd
theorem aQ.funs (I:aQ X pins σ H s):s.heap.FunFrames X.base X.outer:=by
 have all:∀ (l:List Env),(∀ b∈qW l,b∈X.fs)->X.s₀.heap.FunFrames X.base l->s.heap.FunFrames X.base l:=by
  intro l
  induction l with
  | nil=>intro _ _; trivial
  | cons env r ih =>
   intro hs hl;obtain ⟨hk,⟨L,o,hf,hn,ho,hd⟩,hr⟩:=hl;have hL:L∈X.fs:=hs L (by unfold qW; rw [aEf,hf]; exact aDj);obtain ⟨sl,e⟩:=I.base.slot L o ho (I.ok.frf L hL) hL fun z=>I.ok.exfs L z hL;exact ⟨hk,⟨L,_,hf,hn,e,hd⟩,ih (fun b hb=>hs b (by unfold qW; rw [aEf,hf]; exact aDk _ hb)) hr⟩
 exact all X.outer (fun _ hb=>hb) I.ok.funs
theorem aQ.stack (I:aQ X pins σ H s):s.heap.FunFrames X.base X.stack:=by
 rcases I.ok.stk with e | ⟨e,hf⟩
 ·rw [e]; exact I.funs
 ·rw [e];obtain ⟨m,hn,_⟩:=I.loc;refine .cons (by rw [I.ok.kind]; decide) hf hn ?_ I.funs;exact Heap.get?_none_of_le (aDh I.ok.bsz I.ok.above)
theorem aQ.stkSub (I:aQ X pins σ H s):∀ b∈qW X.stack,b∈X.env.locals::X.fs:=fun b hb=>by
 rcases I.ok.stk with e | ⟨e,hf⟩
 ·rw [e] at hb; exact aDk _ hb
 ·rw [e] at hb;unfold qW at hb;rw [aEf,hf] at hb;exact hb
theorem aQ.stkFree (I:aQ X pins σ H s):∀ b∈qW X.stack,H b=none:=fun b hb=>by
 rcases aDA.mp (I.stkSub b hb) with e | hb
 ·rw [e]; exact I.free
 ·obtain ⟨_,o,ho,_⟩:=I.ok.funs.mem hb;exact I.base.free b o ho (I.ok.frf b hb) fun z=>I.ok.exfs b z hb
theorem aQ.step {g':Array GenState}{t':Nat}{d':Drawn}{ch:List Addr}(I:aQ X pins σ H s)
  (hch:∀ b∈ch,(b∈X.ex∨X.s₀.heap.objs.size<=b)/\b≠X.env.locals/\(∀ x c,X.env.cells.lookup x=some c->c≠b)/\∀ p∈X.pn++pins,p.1≠b)
  (keep:∀ b o,b≠X.env.locals->b∉X.fs->b∉ch->s.heap.get? b=some o->H b=none->h'.get? b=some o)
  (slot:∀ b o,b≠X.env.locals->b∈X.fs->b∉ch->s.heap.get? b=some o->H b=none->∃ sl,h'.get? b=some { o with slots:=sl }) (free:∀ b o,b∉ch->s.heap.get? b=some o->H b=none->H' b=none)
  (there:∀ b o,b∉ch->s.heap.get? b=some o->∃ o',h'.get? b=some o')
  (tups:∀ b xs,H b=some (.tup xs)->H' b=some (.tup xs)) (frzs:∀ b o u,H b=some (.frz o u)->H' b=some (.frz o u)) (tbls:∀ b ps,H b=some (.tbl ps)->∃ more,H' b=some (.tbl (ps++more)))
  (ns:∀ m,s.heap.Ns X.env.locals m->h'.Ns X.env.locals m) (hok:n6 X.prog X.w H' h') (hg:AllBare g') :
  aQ X pins σ H' { s with heap:=h',gens:=g',drawn:=d',toks:=t' }:=by
 have neL:∀ b o,X.s₀.heap.get? b=some o->b≠X.env.locals:=fun b o e=>aDI (aDG (aDv e) I.ok.above);have neC:∀ b o,X.s₀.heap.get? b=some o->b∉X.ex->b∉ch:=fun b o e hx hb=>by
  rcases (hch b hb).1 with z | z
  ·exact hx z
  ·exact absurd (aDG (aDv e) z) (aEi _)
 have cellK:∀ x c,X.env.cells.lookup x=some c->∀ v,s.heap.IsCell c v->h'.IsCell c v:=fun x c e v ⟨o,ho,hd⟩=>by
  have nch:c∉ch:=fun z=>(hch c z).2.2.1 x c e rfl
  by_cases hc:c∈X.fs
  ·obtain ⟨sl,q⟩:=slot c o (I.cne x c e) hc nch ho (I.freeC x c e);exact ⟨_,q,hd⟩
  ·exact ⟨o,keep c o (I.cne x c e) hc nch ho (I.freeC x c e),hd⟩
 refine ⟨I.ok,I.os,hg,⟨fun b o e n hb hx=>?_,fun b o e n hb hx=>?_,fun b o e n hx=>?_,fun b o e hx=>?_,fun b xs e=>tups b xs (I.base.tups b xs e),fun b o xs e=>frzs b o xs (I.base.frzs b o xs e),fun b ps e=>?_⟩,?_,fun x c e=>?_,?_,fun x c e=>?_,fun p hp=>?_,hok,I.len⟩
 ·exact keep b o (neL b o e) hb (neC b o e hx) (I.base.keep b o e n hb hx) (I.base.free b o e n hx)
 ·obtain ⟨sl,e1⟩:=I.base.slot b o e n hb hx;obtain ⟨sl',e2⟩:=slot b _ (neL b o e) hb (neC b o e hx) e1 (I.base.free b o e n hx);exact ⟨sl',e2⟩
 ·obtain ⟨o',e1⟩:=I.base.there b o e hx;exact free b o' (neC b o e hx) e1 (I.base.free b o e n hx)
 ·obtain ⟨o',e1⟩:=I.base.there b o e hx;exact there b o' (neC b o e hx) e1
 ·obtain ⟨m1,e1⟩:=I.base.tbls b ps e;obtain ⟨m2,e2⟩:=tbls b _ e1;exact ⟨m1++m2,by rw [e2,aFK]⟩
 ·obtain ⟨m,hn,hl⟩:=I.loc;refine ⟨m,ns m hn,fun i x v e1 e2 e3=>?_⟩;obtain ⟨u,r,l⟩:=hl i x v e1 e2 e3;refine ⟨u,r,?_⟩;rcases l with l | ⟨k,c,e,z⟩
  ·exact .inl l
  ·exact .inr ⟨k,c,e,cellK x c e _ z⟩
 ·obtain ⟨v,z⟩:=I.cell x c e;exact ⟨v,cellK x c e v z⟩
 ·obtain ⟨m,⟨o,_,_,ho,_⟩,_⟩:=I.loc;exact free _ o (fun z=>(hch _ z).2.1 rfl) ho I.free
 ·obtain ⟨v,o,ho,hd⟩:=I.cell x c e;exact free c o (fun z=>(hch c z).2.2.1 x c e rfl) ho (I.freeC x c e)
 ·obtain ⟨e,n,ne,nf,d⟩:=I.pin p hp;have nch:p.1∉ch:=fun z=>(hch p.1 z).2.2.2 p hp rfl;exact ⟨keep p.1 p.2 ne nf nch e n,free p.1 p.2 nch e n,ne,nf,d⟩
theorem aQ.un {t':Nat}(I:aQ X pins σ H s)(u:Un X.fs [] H H' s.heap h')(hok:n6 X.prog X.w H' h'):aQ X pins σ H' { s with heap:=h',toks:=t' }:=by
 obtain ⟨m,⟨o,es,ep,ho,r⟩,_⟩:=id I.loc;obtain ⟨sl,hL⟩:=u.any ho I.free (by simp);exact I.step (g':=s.gens) (d':=s.drawn) (ch:=[]) (fun _ z=>nomatch z) (fun b o _ hb _ e n=>u.keep b o e n hb (by simp)) (fun b o _ hb _ e n=>u.slot b o e n hb (by simp)) (fun b o _ e n=>u.free b o e n (by simp)) (fun b o _ e=>u.there b o e (by simp)) u.tups u.frzs u.tbls (fun m' hm=>by
  obtain ⟨o',es',ep',ho',r'⟩:=hm;rw [ho] at ho'; cases ho';exact ⟨_,es',ep',hL,r'⟩) hok I.bare
theorem aQ.call {g':Array GenState}{t':Nat}{d':Drawn}{ch:List Addr}(I:aQ X pins σ H s)(u:Un (qW X.stack) ch H H' s.heap h')(hok:n6 X.prog X.w H' h')(hg:AllBare g')
  (hch:∀ b∈ch,(b∈X.ex∨X.s₀.heap.objs.size<=b)/\b≠X.env.locals/\(∀ x c,X.env.cells.lookup x=some c->c≠b)/\∀ p∈X.pn++pins,p.1≠b) :
  aQ X pins σ H' { s with heap:=h',gens:=g',drawn:=d',toks:=t' }:=by
 obtain ⟨m,⟨o,es,ep,ho,r⟩,_⟩:=id I.loc;obtain ⟨sl,hL⟩:=u.any ho I.free fun z=>(hch _ z).2.1 rfl;exact I.step (ch:=ch) hch (fun b o hL hb hc e n=>u.keep b o e n (fun z=>(aDA.mp (I.stkSub b z)).elim hL hb) hc) (fun b o _ _ hc e n=>u.any e n hc) (fun b o hc e n=>u.free b o e n hc) (fun b o hc e=>u.there b o e hc) u.tups u.frzs u.tbls (fun m' hm=>by
  obtain ⟨o',es',ep',ho',r'⟩:=hm;rw [ho] at ho'; cases ho';exact ⟨_,es',ep',hL,r'⟩) hok hg
theorem aQ.turned {t':Nat}{it:Addr}(I:aQ X pins σ H s)(k:∀ b o,b≠it->s.heap.get? b=some o->h'.get? b=some o)(hn:H it=none)(hL:it≠X.env.locals)
  (h1:it∈X.ex∨X.s₀.heap.objs.size<=it) (h2:∀ x c,X.env.cells.lookup x=some c->c≠it) (h3:∀ p∈X.pn++pins,p.1≠it):aQ X pins σ H { s with heap:=h',toks:=t' }:=by
 have nit:∀ b u,H b=some u->b≠it:=fun b u e z=>by rw [z,hn] at e; cases e
 refine I.step (g':=s.gens) (d':=s.drawn) (ch:=[it]) (fun b hb=>?_) (fun b o _ _ hc e _=>k b o (fun z=>hc (by simp [z])) e) (fun b o _ _ hc e _=>⟨o.slots,k b o (fun z=>hc (by simp [z])) e⟩) (fun _ _ _ _ n=>n)
  (fun b o hc e=>⟨o,k b o (fun z=>hc (by simp [z])) e⟩) (fun _ _ e=>e) (fun _ _ _ e=>e) (fun b ps e=>⟨#[],by rw [e]; simp⟩) (fun m hm=>?_) (fun b u e=>?_) I.bare
 ·have e:b=it:=by simpa using hb
  subst e;exact ⟨h1,hL,h2,h3⟩
 ·obtain ⟨o,es,ep,ho,r⟩:=hm;exact ⟨o,es,ep,k _ o (Ne.symm hL) ho,r⟩
 ·refine (I.hok b u e).stay (fun c v hc q=>k c v ?_ q) (fun _ q=>q) fun _ _ q=>q;rcases hc with z | z
  ·rw [z]; exact nit b u e
  ·exact nit c _ z
theorem aQ.tok (I:aQ X pins σ H s)(t:Nat):aQ X pins σ H { s with toks:=t }:=I.un (h':=s.heap) (t':=t) Un.refl I.hok
theorem aQ.kept {t':Nat}(I:aQ X pins σ H s)(k:∀ b u,s.heap.get? b=some u->h'.get? b=some u):aQ X pins σ H { s with heap:=h',toks:=t' }:=I.un (Un.kept k) (I.hok.kept k)
theorem aQ.laid {a:Addr}{o:HO}{t':Nat}(I:aQ X pins σ H s)(k:∀ b u,s.heap.get? b=some u->h'.get? b=some u)(hp:s.heap.objs.size<=a)(new:cH X.prog X.w (aM H a o) h' a o) :
  aQ X pins σ (aM H a o) { s with heap:=h',toks:=t' }:=I.un (Un.laid k hp (I.hok.fresh hp)) (I.hok.laid k hp new)
theorem aQ.write {x e:Addr}{o:HO}{t':Nat}(I:aQ X pins σ H s)(mu:Wd (H x))(he:e=x∨H e=some (.own x))(k:∀ b u,b≠e->s.heap.get? b=some u->h'.get? b=some u)(heo:∃ u,h'.get? e=some u)
  (new:cH X.prog X.w (aM H x o) h' x o):aQ X pins σ (aM H x o) { s with heap:=h',toks:=t' }:=I.un (Un.write mu he k heo) (I.hok.write mu he k heo new)
theorem aQ.weak {σ':List (Option V)}(I:aQ X pins σ H s)(hl:σ'.length = σ.length)(w:∀ (i:Nat) v,σ'[i]? = some (some v)->σ[i]? = some (some v)):aQ X pins σ' H s :=
 ⟨I.ok,I.os,I.bare,I.base,let ⟨m,hn,hl'⟩:=I.loc; ⟨m,hn,fun i x v e1 e2 e3=>hl' i x v e1 (w i v e2) e3⟩,I.cell,I.free,I.freeC,I.pin,I.hok,hl.trans I.len⟩
theorem aQ.pins_of {pins':List (Addr×Obj)}(I:aQ X pins σ H s)(h:∀ p∈pins',s.heap.get? p.1=some p.2/\H p.1=none/\p.1≠X.env.locals/\p.1∉X.fs/\∀ v,p.2.data≠.cell v):aQ X pins' σ H s :=
 ⟨I.ok,I.os,I.bare,I.base,I.loc,I.cell,I.free,I.freeC,fun p hp=>(aDy.mp hp).elim (fun z=>I.pin p (aD0 _ z)) (h p),I.hok,I.len⟩
theorem vL {N:List Str}(hN:N.Nodup){i j:Nat}{x:Str}(a:N[i]? = some x)(b:N[j]? = some x):i=j:=by
 obtain ⟨h1,e1⟩:=aDr.mp a;obtain ⟨h2,e2⟩:=aDr.mp b;exact (List.getElem_inj hN).mp (e1.trans e2.symm)
theorem oH {M:Model}{A:Around}{E:Value->Shared->Prop}{i:Nat}{x:Str}{v:V}{u:Value}{Q:Unit->Shared->Prop}(I:aQ X pins σ H s)(hN:X.N.Nodup)(hi:X.N[i]? = some x)(hx:Loc X.env.scope x)(r:RelV v u)
  (h:∀ s',aQ X pins (σ.set i (some v)) H s'->(∃ a,aDL a s.heap s'.heap/\(a=X.env.locals∨X.env.cells.lookup x=some a))->Q () s') (hf:X.fn x=true∨X.env.scope.names.lookup x=some .local:=by first | exact .inl rfl | exact .inr rfl | assumption):wpAny M A (storeName X.env x u) Q E s:=by
 obtain ⟨m,hn,hl⟩:=id I.loc;have hcls:(X.env.scope.kind==.class||(X.env.scope.kind==.module&&X.env.locals != X.env.globals))=false:=by rw [I.ok.kind]; rfl
 have hiσ:i < σ.length:=by rw [I.len]; exact (aDr.mp hi).1
 have cne:=I.cne;have tracked:∀ {a:Addr}{h':Heap},(∃ o,s.heap.get? a=some o/\H a=none)->aDL a s.heap h'->n6 X.prog X.w H h':=fun {a h'} ha hs b ob e=>by
  obtain ⟨_,_,hfree⟩:=ha;refine (I.hok b ob e).stay (fun c w' hc q=>(hs.2 c ?_).trans q) (fun _ q=>q) fun _ _ q=>q;rintro rfl;rcases hc with rfl | hc
  ·rw [hfree] at e; cases e
  ·rw [hfree] at hc; cases hc
 rcases hx with hk | hk
 ·refine wpAny_storeName_local hk hn (fun h' hn' hs=>?_) hcls;obtain ⟨oL,_,_,hoL,_⟩:=id hn;refine h _ ⟨I.ok,I.os,I.bare,⟨fun b o e n hb hx=>?_,fun b o e n hb hx=>?_,I.base.free,fun b o e hx=>?_,I.base.tups,I.base.frzs,I.base.tbls⟩,⟨_,hn',fun j y v' e1 e2 e3=>?_⟩,fun y c e=>?_,I.free,I.freeC,fun p hp=>?_,tracked ⟨oL,hoL,I.free⟩ hs,by simpa using I.len⟩ ⟨_,hs,.inl rfl⟩
  ·exact (hs.2 b (aDI (aDG (aDv e) I.ok.above))).trans (I.base.keep b o e n hb hx)
  ·obtain ⟨sl,e1⟩:=I.base.slot b o e n hb hx;exact ⟨sl,(hs.2 b (aDI (aDG (aDv e) I.ok.above))).trans e1⟩
  ·obtain ⟨o',e1⟩:=I.base.there b o e hx;exact ⟨o',(hs.2 b (aDI (aDG (aDv e) I.ok.above))).trans e1⟩
  ·by_cases hj:j=i
   ·subst hj;rw [hi] at e1; cases e1;rw [aEy hiσ] at e2;cases e2;exact ⟨u,r,.inl ⟨hk,by simp⟩⟩
   ·rw [aED (Ne.symm hj)] at e2;obtain ⟨u',r',q⟩:=hl j y v' e1 e2 e3;refine ⟨u',r',?_⟩;rcases q with ⟨k,e⟩ | ⟨k,c,e,z⟩
    ·refine .inl ⟨k,?_⟩;have:y≠x:=fun e=>hj (vL hN e1 (e ▸ hi));simp [this,e]
    ·exact .inr ⟨k,c,e,z.sameBut hs (cne y c e)⟩
  ·obtain ⟨w',z⟩:=I.cell y c e;exact ⟨w',z.sameBut hs (cne y c e)⟩
  ·obtain ⟨e,n,ne,nf,d⟩:=I.pin p hp;exact ⟨(hs.2 p.1 ne).trans e,n,ne,nf,d⟩
 ·have hfn:X.fn x=true:=by
   rcases hf with z | z
   ·exact z
   ·rw [z] at hk; cases hk
  obtain ⟨c,hc⟩:=I.ok.has x (.inl hk);obtain ⟨w',z⟩:=I.cell x c hc;refine wpAny_storeName_cell I.ok.kind hk hc z (fun h' hc' hs=>?_);obtain ⟨oc,hoc,hocd⟩:=id z;refine h { s with heap:=h' } ⟨I.ok,I.os,I.bare,⟨fun b o e n hb hx=>?_,fun b o e n hb hx=>?_,I.base.free,fun b o e hx=>?_,I.base.tups,I.base.frzs,I.base.tbls⟩,⟨m,hn.sameBut hs (Ne.symm (cne x c hc)),fun j y v' e1 e2 e3=>?_⟩,fun y c' e=>?_,I.free,I.freeC,fun p hp=>?_,tracked ⟨oc,hoc,I.freeC x c hc⟩ hs,by simpa using I.len⟩ ⟨c,hs,.inr hc⟩
  ·exact (hs.2 b (aDI (aDG (aDv e) (I.ok.cab x c hfn hc)))).trans (I.base.keep b o e n hb hx)
  ·obtain ⟨sl,e1⟩:=I.base.slot b o e n hb hx;exact ⟨sl,(hs.2 b (aDI (aDG (aDv e) (I.ok.cab x c hfn hc)))).trans e1⟩
  ·obtain ⟨o',e1⟩:=I.base.there b o e hx;exact ⟨o',(hs.2 b (aDI (aDG (aDv e) (I.ok.cab x c hfn hc)))).trans e1⟩
  ·by_cases hj:j=i
   ·subst hj;rw [hi] at e1; cases e1;rw [aEy hiσ] at e2;cases e2;exact ⟨u,r,.inr ⟨.inl hk,c,hc,hc'⟩⟩
   ·rw [aED (Ne.symm hj)] at e2;obtain ⟨u',r',q⟩:=hl j y v' e1 e2 e3;refine ⟨u',r',?_⟩;rcases q with q | ⟨k,c',e,z'⟩
    ·exact .inl q
    ·refine .inr ⟨k,c',e,z'.sameBut hs ?_⟩;rintro rfl;exact hj (vL hN e1 (I.ok.inj _ _ _ e hc ▸ hi))
  ·by_cases hcc:c'=c
   ·subst hcc; exact ⟨_,hc'⟩
   ·obtain ⟨w2,z2⟩:=I.cell y c' e;exact ⟨w2,z2.sameBut hs hcc⟩
  ·obtain ⟨e,n,ne,nf,d⟩:=I.pin p hp;refine ⟨(hs.2 p.1 ?_).trans e,n,ne,nf,d⟩;intro q;rw [q,hoc] at e;have q':oc=p.2:=aEc.inj e;exact d w' (by rw [<- q']; exact hocd)
theorem BR {M:Model}{A:Around}{E:Value->Shared->Prop}{i:Nat}{x:Str}{v:V}{u:Value}{Q:Unit->Shared->Prop}(I:aQ X pins σ H s)(hN:X.N.Nodup)(hi:X.N[i]? = some x)(hx:Loc X.env.scope x)(r:RelV v u)
  (h:∀ s',aQ X pins (σ.set i (some v)) H s'->Q () s') (hf:X.fn x=true∨X.env.scope.names.lookup x=some .local:=by first | exact .inl rfl | exact .inr rfl | assumption):wpAny M A (storeName X.env x u) Q E s :=
 oH I hN hi hx r (fun s' I' _=>h s' I') hf
theorem aQ.call' {s':Shared}{ch:List Addr}(I:aQ X pins σ H s)(ho:s'.os=s.os)(u:Un (qW X.stack) ch H H' s.heap s'.heap)(hok:n6 X.prog X.w H' s'.heap)(hg:AllBare s'.gens)
  (hch:∀ b∈ch,(b∈X.ex∨X.s₀.heap.objs.size<=b)/\b≠X.env.locals/\(∀ x c,X.env.cells.lookup x=some c->c≠b)/\∀ p∈X.pn++pins,p.1≠b):aQ X pins σ H' s':=by
 obtain ⟨h',g',d',t',o'⟩:=s';have e:o'=s.os:=ho;subst e;exact I.call (g':=g') (t':=t') (d':=d') u hok hg hch
end
abbrev XK:=Value->Option Addr->Hp->Prop
abbrev St:=List (Option V)
abbrev VK:=V->Hp->Prop
abbrev TE:=St->Hp->VK->Prop
abbrev TT:=St->Hp->(Bool->Hp->Prop)->Prop
abbrev TA:=St->Hp->(List V->Hp->Prop)->Prop
structure Ends where
 nx:St->Hp->Prop
 rt:VK
 bk:St->Hp->Prop:=fun _ _=>False
 ct:St->Hp->Prop:=fun _ _=>False
abbrev TS:=Ends->St->Hp->Prop
def EP (X:Cx)(pins:List (Addr×Obj))(σ:St)(Q:VK)(u:Value)(s':Shared):Prop:=∃ v H',aQ X pins σ H' s'/\RelV v u/\Q v H'
def TP (X:Cx)(pins:List (Addr×Obj))(σ:St)(Q:Bool->Hp->Prop)(b:Bool)(s':Shared):Prop:=∃ H',aQ X pins σ H' s'/\Q b H'
def AP (X:Cx)(pins:List (Addr×Obj))(σ:St)(Q:List V->Hp->Prop)(us:List Value)(s':Shared):Prop:=∃ vs H',aQ X pins σ H' s'/\bV vs us/\Q vs H'
def SP (X:Cx)(pins:List (Addr×Obj))(D:Ends)(f:Flow)(s':Shared):Prop :=
 match f with
 | .next=>∃ σ' H',aQ X pins σ' H' s'/\D.nx σ' H'
 | .brk=>∃ σ' H',aQ X pins σ' H' s'/\D.bk σ' H'
 | .cont=>∃ σ' H',aQ X pins σ' H' s'/\D.ct σ' H'
 | .ret u=>∃ v σ' H',aQ X pins σ' H' s'/\RelV v u/\D.rt v H'
def PE (X:Cx)(e:Expr)(t:TE):Prop :=
 ∀ (pins:List (Addr×Obj)) (s:Shared) (σ:St) (H:Hp) (Q:VK),aQ X pins σ H s->t σ H Q->wpAny (model X.prog X.w) X.A (eval e X.env) (EP X pins σ Q) X.xe s
def PT (X:Cx)(e:Expr)(t:TT):Prop :=
 ∀ (pins:List (Addr×Obj)) (s:Shared) (σ:St) (H:Hp) (Q:Bool->Hp->Prop),aQ X pins σ H s->t σ H Q->wpAny (model X.prog X.w) X.A (isTrue e X.env (eval e X.env)) (TP X pins σ Q) X.xe s
def PW (X:Cx)(e:Expr)(t:TT):Prop :=
 ∀ (whole:Sem Value) (pins:List (Addr×Obj)) (s:Shared) (σ:St) (H:Hp) (Q:Bool->Hp->Prop),aQ X pins σ H s->t σ H Q->wpAny (model X.prog X.w) X.A (isTrue e X.env whole) (TP X pins σ Q) X.xe s
theorem PW.pt {X:Cx}{e:Expr}{t:TT}(h:PW X e t):PT X e t:=h _
def PA (X:Cx)(es:List Expr)(t:TA):Prop :=
 ∀ (pos:Pos) (pins:List (Addr×Obj)) (s:Shared) (σ:St) (H:Hp) (Q:List V->Hp->Prop),aQ X pins σ H s->t σ H Q->wpAny (model X.prog X.w) X.A (spliced (backTo pos (starEach es X.env))) (AP X pins σ Q) X.xe s
def PS (X:Cx)(st:Stmt)(t:TS):Prop :=
 ∀ (pins:List (Addr×Obj)) (s:Shared) (σ:St) (H:Hp) (D:Ends),aQ X pins σ H s->t D σ H->wpAny (model X.prog X.w) X.A (exec st X.env) (SP X pins D) X.xe s
def qR (X:Cx)(st:List Stmt)(t:TS):Prop :=
 ∀ (pins:List (Addr×Obj)) (s:Shared) (σ:St) (H:Hp) (D:Ends),aQ X pins σ H s->t D σ H->wpAny (model X.prog X.w) X.A (execs st X.env) (SP X pins D) X.xe s
theorem dF {α:Type}{t:Sem α}{Q Q':α->Shared->Prop}{M:Model}{A:Around}{E:Value->Shared->Prop}{s:Shared}(h:wpAny M A t Q E s)(hQ:∀ a s,Q a s->Q' a s):wpAny M A t Q' E s:=wpAny_mono h hQ fun _ _ x=>x
section
variable {X:Cx}
theorem bin {a b:Expr}{ta tb:TE}(ha:PE X a ta)(hb:PE X b tb){pins:List (Addr×Obj)}{s:Shared}{σ:St}{H:Hp}{R:V->V->Hp->Prop}(I:aQ X pins σ H s)(h:ta σ H fun x H1=>tb σ H1 fun y H2=>R x y H2)
  {α:Type}{Q:α->Shared->Prop}{f:Value->Value->Sem α}
  (hf:∀ v u s2 x y H2,aQ X pins σ H2 s2->RelV x v->RelV y u->R x y H2->wpAny (model X.prog X.w) X.A (f v u) Q X.xe s2) :
  wpAny (model X.prog X.w) X.A (eval a X.env) (fun v s₁=>wpAny (model X.prog X.w) X.A (eval b X.env) (fun u s₂=>wpAny (model X.prog X.w) X.A (f v u) Q X.xe s₂) X.xe s₁) X.xe s:=by
 refine dF (ha pins s σ H _ I h) fun v s1 ⟨x,H1,I1,r1,q1⟩=>?_;refine dF (hb pins s1 σ H1 _ I1 q1) fun u s2 ⟨y,H2,I2,r2,q2⟩=>?_;exact hf v u s2 x y H2 I2 r1 r2 q2
def Ry (i:Nat):TE:=fun σ H Q=>∃ v,σ[i]? = some (some v)/\Q v H
def tC (v:V):TE:=fun _ H Q=>Q v H
theorem Mj {i:Nat}{x:Str}{pos:Pos}(hN:X.N[i]? = some x)(hv:Xk X.env.scope x)(hd:(x==("__debug__" : Str))=false:=by decide)(hcd:(x==("__classdict__" : Str))=false:=by decide):PE X (.Name x pos) (Ry i):=by
 intro pins s σ H Q I h;obtain ⟨v,e,h⟩:=h;obtain ⟨m,hn,hl⟩:=I.loc;obtain ⟨u,r,l⟩:=hl i x v hN e hv;have fin:EP X pins σ Q u s:=⟨v,H,I,r,h⟩
 rcases l with ⟨hk,hm⟩ | ⟨hk,c,hc,hcell⟩
 ·exact wpAny_Name (wpAny_loadName_local I.ok.kind hk hn hm fin) hd
 ·rcases hk with hk | hk
  ·exact wpAny_Name (wpAny_loadName_cell I.ok.kind hk hc hcell fin) hd
  ·exact wpAny_Name (wpAny_loadName_free I.ok.kind hk hc hcell fin hcd) hd
theorem aO {i j pos}:PE X (.Constant (.int i) j pos) (tC (.int i)):=fun _ _ _ H _ I h=>wpAny_Constant_int ⟨.int i,H,I.tok _,⟨_,rfl⟩,h⟩
theorem mR {b j pos}:PE X (.Constant (.bool b) j pos) (tC (.bl b)):=fun _ _ _ H _ I h=>Constant_bool ⟨.bl b,H,I,rfl,h⟩
theorem Rb {j pos}:PE X (.Constant .none j pos) (tC .non):=fun _ _ _ H _ I h=>Constant_none ⟨.non,H,I,rfl,h⟩
theorem FJ {x j pos}:PE X (.Constant (.str x) j pos) (tC (.str x)):=fun _ _ _ H _ I h=>Calls.Constant_str ⟨.str x,H,I.tok _,⟨_,rfl⟩,h⟩
def Gl (X:Cx)(x:Str):Prop:=X.env.kindOf x=some .globalImplicit
theorem nZ {E:Value->Shared->Prop}{pins:List (Addr×Obj)}{s:Shared}{σ:St}{H:Hp}{x:Str}{u:Value}{pos:Pos}{Q:Value->Shared->Prop}(I:aQ X pins σ H s)(hg:Gl X x)(hm:X.mg x=some u)(h:Q u s)
  (hd:(x==("__debug__" : Str))=false:=by decide):wpAny (model X.prog X.w) X.A (eval (.Name x pos) X.env) Q E s :=
 Calls.Name_function_global I.ok.kind hg (Calls.loadGlobal_global (by rw [I.ok.glob]; exact I.mod.glob.keeps I.bk) hm h) hd
theorem jQ {E:Value->Shared->Prop}{pins:List (Addr×Obj)}{s:Shared}{σ:St}{H:Hp}{x:Str}{u:Value}{pos:Pos}{Q:Value->Shared->Prop}(I:aQ X pins σ H s)(hg:Gl X x)(hm:X.mg x=none)(hv:bootBuiltins x=some u)(h:Q u s)
  (hn:x≠"__name__":=by decide) (hd:(x==("__debug__" : Str))=false:=by decide):wpAny (model X.prog X.w) X.A (eval (.Name x pos) X.env) Q E s:=by
 obtain ⟨mb,h1,h2⟩:=I.mod.blt;exact Calls.Name_function_global I.ok.kind hg (Calls.loadGlobal_builtin (by rw [I.ok.glob]; exact I.mod.glob.keeps I.bk) hm (by rw [I.ok.blt]; exact h1.keeps I.bk) ((h2 x hn).trans hv) h) hd
theorem j8 {x:Str}{v:V}{u:Value}{pos:Pos}(hg:Gl X x)(hm:X.mg x=some u)(r:RelV v u)(hd:(x==("__debug__" : Str))=false:=by decide):PE X (.Name x pos) (tC v) :=
 fun _ _ _ H _ I h=>nZ I hg hm ⟨v,H,I,r,h⟩ hd
theorem jE {x:Str}{v:V}{u:Value}{pos:Pos}(hg:Gl X x)(hm:X.mg x=none)(hv:bootBuiltins x=some u)(r:RelV v u)(hn:x≠"__name__":=by decide)(hd:(x==("__debug__" : Str))=false:=by decide):PE X (.Name x pos) (tC v) :=
 fun _ _ _ H _ I h=>jQ I hg hm hv ⟨v,H,I,r,h⟩ hn hd
variable {a b:Expr}{ta tb:TE}{pos:Pos}
def PC (X:Cx)(op:CmpOp)(a b:Expr)(t:TE):Prop :=
 ∀ (pins:List (Addr×Obj)) (s:Shared) (σ:St) (H:Hp) (Q:VK),aQ X pins σ H s->t σ H Q ->
  wpAny (model X.prog X.w) X.A (eval a X.env) (fun v s₁=>wpAny (model X.prog X.w) X.A (eval b X.env) (fun u s₂=>wpAny (model X.prog X.w) X.A (compareOp op v u) (EP X pins σ Q) X.xe s₂) X.xe s₁) X.xe s
theorem J1 (b:Expr){op:CmpOp}(h:op≠.In)(h2:op≠.NotIn):behindInMarks op b=false:=by
 have e1:(op==CmpOp.In)=false:=by cases op <;> first | rfl | exact absurd rfl h
 have e2:(op==CmpOp.NotIn)=false:=by cases op <;> first | rfl | exact absurd rfl h2
 cases b <;> simp [behindInMarks,e1,e2]
def tB (t:TE):TT:=fun σ H Q=>t σ H fun x H1=>∃ c,x=.bl c/\Q c H1
theorem Yd {op:CmpOp}{t:TE}(h:PC X op a b t)(h1:behindInMarks op b=false:=by first | exact J1 _ (by decide) (by decide) | rfl):PT X (.Compare a [op] [b] pos) (tB t):=by
 intro pins s σ H Q I hw;refine wpAny_isTrue_Compare1 (dF (h pins s σ H _ I hw) fun v s1 h1=>dF h1 fun u s2 h2=>dF h2 fun c s3 ⟨x,H1,I1,r1,q1⟩=>?_) h1;obtain ⟨d,rfl,q⟩:=q1;cases r1;exact wpAny_truthy_bool ⟨H1,I1,q⟩
theorem gH {e:Expr}{t:TE}(h:PE X e t)(he:∀ whole,isTrue e X.env whole=(do let v <- whole; standAt e.pos; holding [v] (truthy v)):=by intro _; rfl):PT X e (tB t):=by
 intro pins s σ H Q I hw;refine isTrue_plain (dF (h pins s σ H _ I hw) fun v s1 ⟨x,H1,I1,r1,q1⟩=>?_) (he _);obtain ⟨d,rfl,q⟩:=q1;cases r1;exact wpAny_truthy_bool ⟨H1,I1,q⟩
variable {tA tB':TT}{rest:List Expr}
def tOr (t u:TT):TT:=fun σ H Q=>t σ H fun c H1=>if c=true then Q true H1 else u σ H1 Q
def W5 (t:TT):TT:=fun σ H Q=>t σ H fun c H1=>Q (!c) H1
theorem pC (ha:PT X a tA):PW X (.BoolOp .Or [a] pos) tA:=by
 intro wh pins s σ H Q I h;refine isTrue_or (dF (ha pins s σ H Q I h) fun c s1 e=>?_);cases c with
 | false=>exact isTrue_or_nil e
 | true=>exact e
theorem uY (ha:PT X a tA)(hb:PW X (.BoolOp .Or (b::rest) pos) tB'):PW X (.BoolOp .Or (a::b::rest) pos) (tOr tA tB'):=by
 intro wh pins s σ H Q I h;refine isTrue_or (dF (ha pins s σ H _ I h) fun c s1 ⟨H1,I1,q1⟩=>?_);cases c with
 | true=>exact ⟨H1,I1,q1⟩
 | false=>exact hb wh pins s1 σ H1 Q I1 q1
theorem gJ (ha:PT X a tA):PT X (.UnaryOp .Not a pos) (W5 tA):=by
 intro pins s σ H Q I h;exact isTrue_not (ha pins s σ H (fun c H1=>Q (!c) H1) I h)
def Xa (ta tb:TE):TE:=fun σ H Q=>ta σ H fun x H1=>∃ c,x=.bl c/\if c=true then tb σ H1 Q else Q (.bl false) H1
def W6 (ta:TE):TE:=fun σ H Q=>ta σ H fun x H1=>∃ c,x=.bl c/\Q (.bl (!c)) H1
theorem Es {op}{t:TE}(h:PE X a t):PE X (.BoolOp op [a] pos) t:=fun pins s σ H Q I hw=>BoolOp_one (h pins s σ H Q I hw)
theorem Aa (ha:PE X a ta)(hb:PE X (.BoolOp .And (b::rest) pos) tb):PE X (.BoolOp .And (a::b::rest) pos) (Xa ta tb):=by
 intro pins s σ H Q I h;refine BoolOp_and (dF (ha pins s σ H _ I h) fun v s1 ⟨x,H1,I1,r1,q1⟩=>?_);obtain ⟨c,rfl,q1⟩:=q1;cases r1;refine wpAny_truthy_bool ?_;cases c with
 | true=>exact hb pins s1 σ H1 Q I1 q1
 | false=>exact ⟨.bl false,H1,I1,rfl,q1⟩
theorem SM (ha:PE X a ta):PE X (.UnaryOp .Not a pos) (W6 ta):=by
 intro pins s σ H Q I h;refine UnaryOp_ (dF (ha pins s σ H _ I h) fun v s1 ⟨x,H1,I1,r1,q1⟩=>?_);obtain ⟨c,rfl,q1⟩:=q1;cases r1;exact not_of (wpAny_truthy_bool ⟨.bl (!c),H1,I1,rfl,q1⟩)
def tIf (t:TT)(ta tb:TE):TE:=fun σ H Q=>t σ H fun c H1=>if c=true then ta σ H1 Q else tb σ H1 Q
theorem K8 {c:Expr}(hc:PT X c tA)(ha:PE X a ta)(hb:PE X b tb):PE X (.IfExp c a b pos) (tIf tA ta tb):=by
 intro pins s σ H Q I h;refine wpAny_IfExp (dF (hc pins s σ H _ I h) fun d s1 ⟨H1,I1,q1⟩=>?_);cases d with
 | true=>exact ha pins s1 σ H1 Q I1 q1
 | false=>exact hb pins s1 σ H1 Q I1 q1
end
def bB (K:PySem.W.Frag)(H:Hp)(a:Addr)(xs:List V):Prop :=
 Rd H a (.lst xs) ∨
  ∃ (o:Obj) (its:Array Value) (n:Nat),K.lookup a=some o/\o.cls=.type "list"/\o.dict=none/\o.data=.seq its n/\its.size<=sizeLine/\bV xs its.toList
def cW (K:PySem.W.Frag)(H:Hp)(a:Addr)(xs:List V):Prop :=
 Rd H a (.tup xs) ∨
  ∃ (o:Obj) (its:Array Value) (n:Nat),K.lookup a=some o/\o.cls=.type "tuple"/\o.data=.seq its n/\its.size<=sizeLine/\bV xs its.toList
def Yv:Value->Option V
 | .none=>some .non
 | .bool b=>some (.bl b)
 | .int i _=>some (.int i)
 | .str x _=>some (.str x)
 | .bytes b _=>some (.byt b)
 | .float b _=>some (.flt b)
 | .ref a=>some (.ref a)
 | .type n=>some (.ty n)
 | _=>none
theorem RelV.abs {x:V}{u:Value}(r:RelV x u):Yv u=some x:=by
 cases x with
 | non=>cases r; rfl
 | bl _=>cases r; rfl
 | int _=>obtain ⟨t,rfl⟩:=r; rfl
 | str _=>obtain ⟨t,rfl⟩:=r; rfl
 | byt _=>obtain ⟨t,rfl⟩:=r; rfl
 | flt _=>obtain ⟨t,rfl⟩:=r; rfl
 | ref _=>cases r; rfl
 | ty _=>cases r; rfl
theorem RelV.inj {x y:V}{u:Value}(r:RelV x u)(q:RelV y u):x=y:=aEc.inj (r.abs.symm.trans q.abs)
theorem bV.inj:∀ {xs ys:List V}{us:List Value},bV xs us->bV ys us->xs=ys
 | _,_,_,.nil,.nil=>rfl
 | _,_,_,.cons r t,.cons r' t'=>by rw [r.inj r',bV.inj t t']
section
variable {X:Cx}{pins:List (Addr×Obj)}{σ:St}{H:Hp}{s:Shared}{a:Addr}{xs ys:List V}
theorem bB.of {K:PySem.W.Frag}(h:H a=some (.lst xs)):bB K H a xs:=.inl (.inl h)
theorem cW.of {K:PySem.W.Frag}(h:H a=some (.tup xs)):cW K H a xs:=.inl (.inl h)
theorem aQ.list (I:aQ X pins σ H s)(h:bB X.K H a xs):∃ its:List Value,bV xs its/\PlainL s.heap a its.toArray/\xs.length<=sizeLine:=by
 rcases h with h | ⟨o,its,n,hk,hc,hd,hs,hz,r⟩
 ·obtain ⟨z,its,n,r,e⟩:=h.ok I.hok;exact ⟨its,r,⟨_,n,e,rfl,rfl,rfl⟩,z⟩
 ·refine ⟨its.toList,r,⟨o,n,I.kIn a o hk,hc,hd,by simpa using hs⟩,?_⟩;have e:=r.length;simp only [aDR] at e;omega
theorem aQ.tuple (I:aQ X pins σ H s)(h:cW X.K H a xs):∃ its:List Value,bV xs its/\IsTup s.heap a its.toArray/\xs.length<=sizeLine:=by
 rcases h with h | ⟨o,its,n,hk,hc,hs,hz,r⟩
 ·obtain ⟨z,its,r,p⟩:=h.ok I.hok;exact ⟨its,r,p,z⟩
 ·refine ⟨its.toList,r,⟨o,I.kIn a o hk,hc,n,by simpa using hs⟩,?_⟩;have e:=r.length;simp only [aDR] at e;omega
theorem aQ.list_inj (I:aQ X pins σ H s)(h:bB X.K H a xs)(h':bB X.K H a ys):xs=ys:=by
 obtain ⟨its,r,⟨o,n,e,_,_,d⟩,_⟩:=I.list h;obtain ⟨its',r',⟨o',n',e',_,_,d'⟩,_⟩:=I.list h';rw [e] at e'; cases e';rw [d] at d';injection d' with d1 _
 have:its=its':=by simpa using congrArg Array.toList d1
 subst this;exact r.inj r'
theorem aQ.tuple_inj (I:aQ X pins σ H s)(h:cW X.K H a xs)(h':cW X.K H a ys):xs=ys:=by
 obtain ⟨its,r,⟨o,e,_,n,d⟩,_⟩:=I.tuple h;obtain ⟨its',r',⟨o',e',_,n',d'⟩,_⟩:=I.tuple h';rw [e] at e'; cases e';rw [d] at d';injection d' with d1 _
 have:its=its':=by simpa using congrArg Array.toList d1
 subst this;exact r.inj r'
end
abbrev Cx.wish (X:Cx)(E:Value->Shared->Prop):Cx:={ X with xe:=E }
abbrev Cx.nox (X:Cx):Cx:=X.wish fun _ _=>False
theorem Cx.Ok.wish {X:Cx}(ok:X.Ok)(E:Value->Shared->Prop):(X.wish E).Ok :=
 ⟨ok.mod,ok.kind,ok.glob,ok.blt,ok.above,ok.inj,ok.has,ok.cab,ok.hd,ok.frames,ok.stk,ok.exf,ok.bs,ok.bsz,ok.noex,ok.exfs,ok.funs,ok.frf⟩
theorem Cx.Ok.unwish {X:Cx}{E:Value->Shared->Prop}(ok:(X.wish E).Ok):X.Ok :=
 ⟨ok.mod,ok.kind,ok.glob,ok.blt,ok.above,ok.inj,ok.has,ok.cab,ok.hd,ok.frames,ok.stk,ok.exf,ok.bs,ok.bsz,ok.noex,ok.exfs,ok.funs,ok.frf⟩
section
variable {X:Cx}{pins:List (Addr×Obj)}{σ:St}{H:Hp}{s:Shared}{E:Value->Shared->Prop}
theorem aQ.wish (I:aQ X pins σ H s)(E:Value->Shared->Prop):aQ (X.wish E) pins σ H s:=⟨I.ok.wish E,I.os,I.bare,I.base,I.loc,I.cell,I.free,I.freeC,I.pin,I.hok,I.len⟩
theorem aQ.unwish (I:aQ (X.wish E) pins σ H s):aQ X pins σ H s:=⟨I.ok.unwish,I.os,I.bare,I.base,I.loc,I.cell,I.free,I.freeC,I.pin,I.hok,I.len⟩
theorem SP.unwish {D:Ends}{f:Flow}{s':Shared}(h:SP (X.wish E) pins D f s'):SP X pins D f s':=by
 cases f with
 | next=>obtain ⟨σ',H',I,q⟩:=h; exact ⟨σ',H',I.unwish,q⟩
 | brk=>obtain ⟨σ',H',I,q⟩:=h; exact ⟨σ',H',I.unwish,q⟩
 | cont=>obtain ⟨σ',H',I,q⟩:=h; exact ⟨σ',H',I.unwish,q⟩
 | ret u=>obtain ⟨v,σ',H',I,r,q⟩:=h; exact ⟨v,σ',H',I.unwish,r,q⟩
theorem PT.nox {e:Expr}{t:TT}(h:PT X.nox e t):PT X e t:=fun pins s σ H Q I hw =>
 wpAny_mono (h pins s σ H Q (I.wish _) hw) (fun _ _ ⟨H',I',q⟩=>⟨H',I'.unwish,q⟩) fun _ _ z=>False.elim z
theorem qR.nox {st:List Stmt}{t:TS}(h:qR X.nox st t):qR X st t:=fun pins s σ H D I hw =>
 wpAny_mono (h pins s σ H D (I.wish _) hw) (fun _ _ q=>q.unwish) fun _ _ z=>False.elim z
end
section
variable {X:Cx}{st:Stmt}{rest:List Stmt}{t u:TS}{e:Expr}{te:TE}{pos:Pos}
def QM:TS:=fun D σ H=>D.nx σ H
def Qn (t u:TS):TS:=fun D σ H=>t { D with nx:=u D } σ H
theorem eF:qR X [] QM:=fun _ _ σ H _ I h=>wpAny_execs_nil ⟨σ,H,I,h⟩
theorem aL (h1:PS X st t)(h2:qR X rest u):qR X (st::rest) (Qn t u):=by
 intro pins s σ H D I h;refine wpAny_execs_cons (dF (h1 pins s σ H { D with nx:=u D } I h) fun f s1 q=>?_);cases f with
 | next =>
  obtain ⟨σ',H',I',q⟩:=q;exact h2 pins s1 σ' H' D I' q
 | ret v=>exact q
 | brk=>exact q
 | cont=>exact q
theorem aK (h1:PS X st t):qR X [st] t:=by
 intro pins s σ H D I h;refine wpAny_execs_cons (dF (h1 pins s σ H D I h) fun f s1 q=>?_);cases f with
 | next=>exact wpAny_execs_nil q
 | ret v=>exact q
 | brk=>exact q
 | cont=>exact q
theorem aQ.quiet {pins:List (Addr×Obj)}{σ:St}{H:Hp}{s:Shared}(I:aQ X pins σ H s):interactive X.env=false:=by simp [interactive,I.ok.kind]
def Q7 (te:TE):TS:=fun D σ H=>te σ H fun _ H1=>D.nx σ H1
theorem gY (he:PE X e te)(hs:swapsWith e none pos.line X.env=pure false:=by rfl):PS X (.Expr e pos) (Q7 te):=by
 intro pins s σ H D I h;exact wpAny_Expr_any (dF (he pins s σ H _ I h) fun v s1 ⟨x,H1,I1,r1,q1⟩=>⟨σ,H1,I1,q1⟩) I.quiet hs
def Wy (te:TE):TS:=fun D σ H=>te σ H D.rt
theorem bC (he:PE X e te):PS X (.Return (some e) pos) (Wy te):=by
 intro pins s σ H D I h;exact wpAny_Return_some (dF (he pins s σ H _ I h) fun v s1 ⟨x,H1,I1,r1,q1⟩=>⟨x,σ,H1,I1,r1,q1⟩)
def Wq (c:TT)(t u:TS):TS:=fun D σ H=>c σ H fun b H1=>if b=true then t D σ H1 else u D σ H1
theorem iW {c:Expr}{a b:List Stmt}{tc:TT}(hc:PT X c tc)(ha:qR X a t)(hb:qR X b u):PS X (.If c a b pos) (Wq tc t u):=by
 intro pins s σ H D I h;refine wpAny_If (dF (hc pins s σ H _ I h) fun d s1 ⟨H1,I1,q1⟩=>?_);cases d with
 | true=>exact ha pins s1 σ H1 D I1 q1
 | false=>exact hb pins s1 σ H1 D I1 q1
def NP:TS:=fun _ _ _=>False
theorem Jp:PS X st NP:=fun _ _ _ _ _ _ h=>h.elim
theorem rG {sts:List Stmt}:qR X sts NP:=fun _ _ _ _ _ _ h=>h.elim
end
abbrev TG:=V->St->Hp->(St->Hp->Prop)->Prop
abbrev QK:=List V->St->Hp->(St->Hp->Prop)->Prop
def PG (X:Cx)(target:Expr)(t:TG):Prop :=
 ∀ (pins:List (Addr×Obj)) (s:Shared) (σ:St) (H:Hp) (v:V) (u:Value) (Q:St->Hp->Prop),aQ X pins σ H s->RelV v u->t v σ H Q ->
  wpAny (model X.prog X.w) X.A (assign target X.env u) (fun _ s'=>∃ σ' H',aQ X pins σ' H' s'/\Q σ' H') X.xe s
def Ur (X:Cx)(ts:List Expr)(t:QK):Prop :=
 ∀ (pins:List (Addr×Obj)) (s:Shared) (σ:St) (H:Hp) (vs:List V) (us:List Value) (Q:St->Hp->Prop),aQ X pins σ H s->bV vs us->t vs σ H Q ->
  wpAny (model X.prog X.w) X.A (assignInOrder ((assignEach ts X.env).map (·.2)) us) (fun _ s'=>∃ σ' H',aQ X pins σ' H' s'/\Q σ' H') X.xe s
section
variable {X:Cx}{pos:Pos}
def mL (i:Nat):TG:=fun v σ H Q=>Q (σ.set i (some v)) H
theorem aR {i:Nat}{x:Str}(hN:X.N.Nodup)(hi:X.N[i]? = some x)(hx:Loc X.env.scope x)(hf:X.fn x=true∨X.env.scope.names.lookup x=some .local:=by first | exact .inl rfl | exact .inr rfl | assumption):PG X (.Name x pos) (mL i):=by
 intro pins s σ H v u Q I r h;exact wpAny_assign_Name (BR I hN hi hx r (fun s' I'=>⟨_,H,I',h⟩) hf)
def Z9:QK:=fun vs σ H Q=>vs=[]/\Q σ H
def Vk (t:TG)(u:QK):QK:=fun vs σ H Q=>∃ v r,vs=v::r/\t v σ H fun σ' H'=>u r σ' H' Q
theorem eU:Ur X [] Z9:=by
 intro pins s σ H vs us Q I r h;obtain ⟨e,h⟩:=h;subst e;cases r;exact assignInOrder_nil ⟨σ,H,I,h⟩
theorem bK {e:Expr}{es:List Expr}{t:TG}{u:QK}(h1:PG X e t)(h2:Ur X es u)
  (hs:(assignEach (e::es) X.env).map (·.2)=assign e X.env::(assignEach es X.env).map (·.2):=by rfl):Ur X (e::es) (Vk t u):=by
 intro pins s σ H vs us Q I r h;obtain ⟨v,vr,e1,h⟩:=h;subst e1;cases r with
 | cons r rr =>
  rw [hs];refine assignInOrder_cons (dF (h1 pins s σ H _ _ _ I r h) fun _ s1 ⟨σ1,H1,I1,q1⟩=>?_);exact h2 pins s1 σ1 H1 _ _ Q I1 rr q1
def Ti (K:PySem.W.Frag)(n:Nat)(t:QK):TG:=fun v σ H Q=>∃ a xs,v=.ref a/\cW K H a xs/\xs.length=n/\t xs σ H Q
theorem vN {es:List Expr}{k:Nat}{t:QK}{n:Nat}(hc:X.calm=true)(h:Ur X es t)
  (hn:(assignEach es X.env).length=n:=by rfl) (hst:(assignEach es X.env).findIdx? (·.1)=none:=by rfl):PG X (.Tuple es k pos) (Ti X.K n t):=by
 intro pins s σ H v u Q I r hw;obtain ⟨a,xs,e1,hq,hl,hw⟩:=hw;subst e1;cases r;obtain ⟨its,rv,ht,hz⟩:=I.tuple hq;refine assign_Tuple_tuple (I.ok.hd hc) ht (by simp [hn,<- hl,rv.length]) hst fun h' hx=>?_;have I1:aQ X pins σ H { s with heap:=h' }:=I.kept (t':=s.toks) fun b o e=>hx b o (aDI (aDv e)) e;exact h pins _ σ H xs _ Q I1 (by simpa using rv) hw
def Mg (te:TE)(g:TG):TS:=fun D σ H=>te σ H fun x H1=>g x σ H1 D.nx
theorem RC {tg e:Expr}{te:TE}{g:TG}(he:PE X e te)(hg:PG X tg g)(hs:swapsWithSole [tg] e pos.line X.env=pure false:=by rfl)(hw:swappedStores [tg] e X.env=pure none:=by rfl)
  (h1:(assignEach [tg] X.env).map (·.2)=[assign tg X.env]:=by rfl):PS X (.Assign [tg] e pos) (Mg te g):=by
 intro pins s σ H D I h;refine wpAny_Assign_stores (dF (he pins s σ H _ I h) fun v s1 ⟨x,H1,I1,r1,q1⟩=>?_) hs hw;rw [h1];exact dF (hg pins s1 σ H1 x v _ I1 r1 q1) fun _ s2 q=>q
theorem bU {i:Nat}{x:Str}{e:Expr}{te:TE}{pos':Pos}(hN:X.N.Nodup)(hi:X.N[i]? = some x)(hx:Loc X.env.scope x)(he:PE X e te)(hs:swapsWith e (some (.Name x pos')) pos.line X.env=pure false:=by rfl)(hf:X.fn x=true∨X.env.scope.names.lookup x=some .local:=by first | exact .inl rfl | exact .inr rfl | assumption) :
  PS X (.Assign [.Name x pos'] e pos) (Mg te (mL i)):=by
 intro pins s σ H D I h;refine wpAny_Assign_Name (dF (he pins s σ H _ I h) fun v s1 ⟨y,H1,I1,r1,q1⟩=>?_) hs;exact BR I1 hN hi hx r1 (fun s2 I2=>⟨_,H1,I2,q1⟩) hf
def NK (c:TT)(tb:TS):TS:=fun D σ H=>∃ W:Nat->St->Hp->Prop,(∃ m,W m σ H)/\∀ m σ H,W m σ H ->
 c σ H fun b H1=>if b=true then ∃ N:St->Hp->Prop,(∀ σ' H',N σ' H'->∃ m',m'<m/\W m' σ' H')/\tb { D with nx:=N,ct:=N,bk:=D.nx } σ H1 else D.nx σ H1
theorem Jd {c:Expr}{body:List Stmt}{tc:TT}{tb:TS}(hp:PassesOwn (model X.prog X.w) X.A X.env X.xe)(hc:PT X c tc)(hb:qR X body tb):PS X (.While c body [] pos) (NK tc tb):=by
 intro pins s σ H D I h;obtain ⟨W,⟨m0,w0⟩,turn⟩:=h;refine wpAny_While (codeAny_whileLoop (fun n s'=>∃ σ' H',aQ X pins σ' H' s'/\W n σ' H') ?_ m0 ⟨σ,H,I,w0⟩);rintro n s1 ⟨σ1,H1,I1,w1⟩;refine wpAny_passesOwn hp (dF (hc pins s1 σ1 H1 _ I1 (turn n σ1 H1 w1)) fun b s2 ⟨H2,I2,q2⟩=>?_);cases b with
 | true =>
  obtain ⟨N,hN,q2⟩:=q2;rw [if_pos rfl];refine wpAny_passesOwn hp (dF (hb pins s2 σ1 H2 _ I2 q2) fun f s3 q3=>?_);cases f with
  | next =>
   obtain ⟨σ3,H3,I3,n3⟩:=q3;obtain ⟨m',hm,w3⟩:=hN σ3 H3 n3;exact ⟨m',hm,σ3,H3,I3,w3⟩
  | cont =>
   obtain ⟨σ3,H3,I3,n3⟩:=q3;obtain ⟨m',hm,w3⟩:=hN σ3 H3 n3;exact ⟨m',hm,σ3,H3,I3,w3⟩
  | brk=>exact q3
  | ret v=>exact q3
 | false =>
  rw [if_neg aDC];exact wpAny_execs_nil ⟨σ1,H2,I2,q2⟩
end
structure It where
 go:Nat->Hp->Prop
 yld:Nat->Hp->V->Hp->Prop
 stop:Nat->Hp->Prop
def jM (X:Cx)(pins:List (Addr×Obj))(H:Hp)(b:Addr):Prop :=
 H b=none/\b≠X.env.locals/\b∉X.fs/\(b∈X.ex∨X.s₀.heap.objs.size<=b)/\(∀ x c,X.env.cells.lookup x=some c->c≠b)/\∀ p∈X.pn++pins,p.1≠b
theorem aQ.fpOk {X:Cx}{pins:List (Addr×Obj)}{σ:St}{H H':Hp}{s:Shared}{b:Addr}(I:aQ X pins σ H s)(hb:s.heap.objs.size<=b)(hn:H' b=none):jM X pins H' b:=by
 refine ⟨hn,aEa (aDG I.lt hb),I.nofs hb,.inr (aDh I.sz hb),fun x c e z=>?_,fun p hp z=>?_⟩
 ·obtain ⟨v,q⟩:=I.cell x c e;exact absurd (aDG q.lt (by rw [z]; exact hb)) (aEi _)
 ·exact absurd (aDG (aDv (I.pin p hp).1) (by rw [z]; exact hb)) (aEi _)
structure Turn (P:Program)(w:World)(K:PySem.W.Frag)(tg:Expr)(J:It)(fp:List Addr)(it:Addr)(tn:Nat->Heap->Prop):Prop where
 mem:it∈fp
 obj:∀ i h,tn i h->∀ b∈fp,∃ o,h.get? b=some o/\∀ v,o.data≠.cell v
 keep:∀ i h h',tn i h->(∀ b∈fp,∀ o,h.get? b=some o->h'.get? b=some o)->tn i h'
 item:∀ (X:Cx),X.prog=P->X.w=w->X.K=K->X.calm=true->∀ (i:Nat) (pins:List (Addr×Obj)) (s:Shared) (σ:St) (H:Hp) (E:Value->Shared->Prop),aQ X pins σ H s->(∀ b∈fp,jM X pins H b)->tn i s.heap->J.go i H ->
  wpAny (model P w) X.A (pyNext (.ref it)) (fun r s1=>∃ u,r=some u ∧
   wpAny (model P w) X.A (letOwnedTupleGo tg (.ref it) u) (fun _ s2=>∃ x H',aQ X pins σ H' s2/\RelV x u/\J.yld i H x H'/\tn (i+1) s2.heap/\∀ b∈fp,H' b=none) E s1) E s
 done:∀ (X:Cx),X.prog=P->X.w=w->X.K=K->X.calm=true->∀ (i:Nat) (pins:List (Addr×Obj)) (s:Shared) (σ:St) (H:Hp) (E:Value->Shared->Prop),aQ X pins σ H s->(∀ b∈fp,jM X pins H b)->tn i s.heap->J.stop i H ->
  wpAny (model P w) X.A (pyNext (.ref it)) (fun r s1=>r=none/\aQ X pins σ H s1) E s
 self:∀ (A:Around) (i:Nat) (s:Shared) (Q:Value->Shared->Prop) (E:Value->Shared->Prop),tn i s.heap->Q (.ref it) s->wpAny (model P w) A (pyIter (.ref it)) Q E s
abbrev TI:=St->Hp->(It->Hp->Prop)->Prop
def YZ (X:Cx)(pins:List (Addr×Obj))(σ:St)(tg:Expr)(R:It->Hp->Prop)(itv:Value)(s2:Shared):Prop :=
 ∃ (it:Addr) (fp:List Addr) (tn:Nat->Heap->Prop) (J:It) (H':Hp),itv=.ref it/\aQ X pins σ H' s2/\Turn X.prog X.w X.K tg J fp it tn/\tn 0 s2.heap/\(∀ b∈fp,jM X pins H' b)/\R J H'
def PI (X:Cx)(tg iter:Expr)(wi:TI):Prop :=
 ∀ (pins:List (Addr×Obj)) (s:Shared) (σ:St) (H:Hp) (R:It->Hp->Prop),aQ X pins σ H s->wi σ H R ->
  wpAny (model X.prog X.w) X.A (eval iter X.env) (fun v s1=>wpAny (model X.prog X.w) X.A (pyIter v) (YZ X pins σ tg R) X.xe s1) X.xe s
theorem CN {M:Model}{A:Around}{E:Value->Shared->Prop}{s:Shared}{tg:Expr}{it:Addr}{u:Value}{o:Obj}{n:String}{vs:Array Value}{Q:Unit->Shared->Prop}(ho:s.heap.get? it=some o)(hc:o.cls=.type n)(hd:o.data=.fields vs)
  (hn:["enumerate","zip","dict_itemiterator","dict_reverseitemiterator","odict_iterator","itertools.zip_longest","itertools.pairwise"].contains n=false) (hQ:Q () s):wpAny M A (letOwnedTupleGo tg (.ref it) u) Q E s:=by
 unfold letOwnedTupleGo;cases tg <;> first
  | exact wpAny_pure hQ
  | (cases u <;> first
    | exact wpAny_pure hQ
    | (refine wpAny_bind (wpAny_load ho ?_); rw [hc,hd]; show wpAny M A (if (["enumerate","zip","dict_itemiterator","dict_reverseitemiterator","odict_iterator","itertools.zip_longest","itertools.pairwise"].contains n&&vs[0]?==some (rawInt _))=true then _ else _) Q E s; rw [if_neg (by intro h; rw [hn,Bool.false_and] at h; cases h)]; exact wpAny_pure hQ))
def Sh (K:PySem.W.Frag)(a:Addr):It :=
 ⟨fun i H=>∃ xs x,bB K H a xs/\xs[i]? = some x,fun i H x H'=>H'=H/\∀ xs,bB K H a xs->xs[i]? = some x,fun i H=>∃ xs,bB K H a xs/\xs.length<=i⟩
def Zu (K:PySem.W.Frag)(a:Addr):It :=
 ⟨fun i H=>∃ xs x,cW K H a xs/\xs[i]? = some x,fun i H x H'=>H'=H/\∀ xs,cW K H a xs->xs[i]? = some x,fun i H=>∃ xs,cW K H a xs/\xs.length<=i⟩
def Ru (lo:Int)(n:Nat):It:=⟨fun i _=>i<n,fun i H x H'=>H'=H/\x=.int (lo+i),fun i _=>n<=i⟩
theorem Ib {P:Program}{w:World}{K:PySem.W.Frag}{tg:Expr}(a it:Addr):Turn P w K tg (Sh K a) [it] it (fun i h=>h.IsListIter it a i) where
 mem:=by simp
 obj:=fun i h st b hb=>by
  have e:b=it:=by simpa using hb
  subst e;obtain ⟨o,e,c,d⟩:=st;exact ⟨o,e,fun v z=>by rw [d] at z; cases z⟩
 keep:=fun i h h' st k=>st.at fun o e=>k it (by simp) o e
 item:=by
  intro X hP hw hK hc i pins s σ H E I hf st hg;subst hP hw hK;obtain ⟨xs,x,hq,hx⟩:=hg;obtain ⟨its,rv,p,hz⟩:=I.list hq;obtain ⟨u,hu,ru⟩:=rv.get hx;obtain ⟨f0,f1,f2,f3,f4,f5⟩:=hf it (by simp);refine wpAny_pyNext_list_item st p.isList (x:=u) (by simpa using hu) fun h' st' sb=>?_;have I1:aQ X pins σ H { s with heap:=h' }:=I.turned (t':=s.toks) (fun b o hb e=>(sb.2 b hb).trans e) f0 f1 f3 f4 f5;obtain ⟨o,e,c,d⟩:=id st';exact ⟨u,rfl,CN (s:={ s with heap:=h' }) e c d (by decide) ⟨x,H,I1,ru,⟨rfl,fun ys hy=>by rw [I.list_inj hy hq]; exact hx⟩,st',fun b hb=>(hf b hb).1⟩⟩
 done:=by
  intro X hP hw hK hc i pins s σ H E I hf st hg;subst hP hw hK;obtain ⟨xs,hq,hx⟩:=hg;obtain ⟨its,rv,p,hz⟩:=I.list hq;obtain ⟨f0,f1,f2,f3,f4,f5⟩:=hf it (by simp);have hl:=rv.length;exact wpAny_pyNext_list_end (I.ok.hd hc) st p.isList (by simp; omega) fun h' eb=>⟨rfl,I.turned (t':=s.toks) (fun b o hb e=>eb b o hb e) f0 f1 f3 f4 f5⟩
 self:=fun _ _ _ _ _ st h=>wpAny_pyIter_listiter st h
theorem Dm {P:Program}{w:World}{K:PySem.W.Frag}{tg:Expr}(a it:Addr):Turn P w K tg (Zu K a) [it] it (fun i h=>h.IsTupleIter it a i) where
 mem:=by simp
 obj:=fun i h st b hb=>by
  have e:b=it:=by simpa using hb
  subst e;obtain ⟨o,e,c,d⟩:=st;exact ⟨o,e,fun v z=>by rw [d] at z; cases z⟩
 keep:=fun i h h' st k=>st.at fun o e=>k it (by simp) o e
 item:=by
  intro X hP hw hK hc i pins s σ H E I hf st hg;subst hP hw hK;obtain ⟨xs,x,hq,hx⟩:=hg;obtain ⟨its,rv,p,hz⟩:=I.tuple hq;obtain ⟨u,hu,ru⟩:=rv.get hx;obtain ⟨f0,f1,f2,f3,f4,f5⟩:=hf it (by simp);refine wpAny_pyNext_tuple_item st (show s.heap.IsTuple a its.toArray from p) (x:=u) (by simpa using hu) fun h' st' sb=>?_;have I1:aQ X pins σ H { s with heap:=h' }:=I.turned (t':=s.toks) (fun b o hb e=>(sb.2 b hb).trans e) f0 f1 f3 f4 f5;obtain ⟨o,e,c,d⟩:=id st';exact ⟨u,rfl,CN (s:={ s with heap:=h' }) e c d (by decide) ⟨x,H,I1,ru,⟨rfl,fun ys hy=>by rw [I.tuple_inj hy hq]; exact hx⟩,st',fun b hb=>(hf b hb).1⟩⟩
 done:=by
  intro X hP hw hK hc i pins s σ H E I hf st hg;subst hP hw hK;obtain ⟨xs,hq,hx⟩:=hg;obtain ⟨its,rv,p,hz⟩:=I.tuple hq;obtain ⟨f0,f1,f2,f3,f4,f5⟩:=hf it (by simp);have hl:=rv.length;exact wpAny_pyNext_tuple_end (I.ok.hd hc) st (show s.heap.IsTuple a its.toArray from p) (by simp; omega) fun h' eb=>⟨rfl,I.turned (t':=s.toks) (fun b o hb e=>eb b o hb e) f0 f1 f3 f4 f5⟩
 self:=fun _ _ _ _ _ st h=>wpAny_pyIter_tupleiter st h
theorem Dg {P:Program}{w:World}{K:PySem.W.Frag}{tg:Expr}(it:Addr)(lo:Int)(n:Nat):Turn P w K tg (Ru lo n) [it] it (fun i h=>IsRangeIter h it (lo+(i:Nat)*1) ((n:Int)-(i:Nat)) 1) where
 mem:=by simp
 obj:=fun i h st b hb=>by
  have e:b=it:=by simpa using hb
  subst e;exact ⟨_,st,fun v z=>by
   have z':Data.fields _=Data.cell v:=z;cases z'⟩
 keep:=fun i h h' st k=>k it (by simp) _ st
 item:=by
  intro X hP hw hK hc i pins s σ H E I hf st hg;subst hP hw hK;obtain ⟨f0,f1,f2,f3,f4,f5⟩:=hf it (by simp);have W:=Walks.range (prog:=X.prog) (w:=X.w) (I.ok.hd hc) it lo 1 n;refine W.item i s _ _ hg st fun v h' tk hv st' kk=>?_;obtain ⟨t,rfl⟩:=hv;have I1:aQ X pins σ H { s with heap:=h',toks:=tk }:=I.turned (fun b o hb e=>kk b o (by simpa using hb) e) f0 f1 f3 f4 f5;refine ⟨_,rfl,CN (s:={ s with heap:=h',toks:=tk }) (n:="range_iterator") st' rfl rfl (by decide) ⟨.int (lo+i),H,I1,⟨t,?_⟩,⟨rfl,rfl⟩,st',fun b hb=>(hf b hb).1⟩⟩;rw [Int.mul_one]
 done:=by
  intro X hP hw hK hc i pins s σ H E I hf st hg;subst hP hw hK;obtain ⟨f0,f1,f2,f3,f4,f5⟩:=hf it (by simp);exact wpAny_pyNext_range_end (I.ok.hd hc) st (by have:n<=i:=hg; omega) fun h' eb=>⟨rfl,I.turned (t':=s.toks) (fun b o hb e=>eb b o hb e) f0 f1 f3 f4 f5⟩
 self:=fun _ _ _ _ _ st h=>wpAny_pyIter_rangeiter st h
section
variable {X:Cx}{tg:Expr}
def Tq (K:PySem.W.Frag)(tl:TE):TI:=fun σ H R=>tl σ H fun x H1=>∃ a,x=.ref a/\(∃ xs,bB K H1 a xs)/\R (Sh K a) H1
def Z2 (K:PySem.W.Frag)(tl:TE):TI:=fun σ H R=>tl σ H fun x H1=>∃ a,x=.ref a/\(∃ xs,cW K H1 a xs)/\R (Zu K a) H1
theorem cB {l:Expr}{tl:TE}(hl:PE X l tl):PI X tg l (Tq X.K tl):=by
 intro pins s σ H R I h;refine dF (hl pins s σ H _ I h) fun v s1 ⟨x,H1,I1,r1,q1⟩=>?_;obtain ⟨a,e,⟨xs,hq⟩,q⟩:=q1;subst e;cases r1;obtain ⟨its,rv,p,hz⟩:=I1.list hq;refine wpAny_pyIter_list p.isList ?_;refine ⟨s1.heap.objs.size,[s1.heap.objs.size],_,_,H1,rfl,I1.kept (t':=s1.toks) fun b o e=>aDf _ e,Ib a _,⟨_,aDt _ rfl,rfl,rfl⟩,fun b hb=>?_,q⟩;have e:b=s1.heap.objs.size:=by simpa using hb
 subst e;exact I1.fpOk (aDn _) (I1.hok.fresh (aDn _))
theorem rE {l:Expr}{tl:TE}(hl:PE X l tl):PI X tg l (Z2 X.K tl):=by
 intro pins s σ H R I h;refine dF (hl pins s σ H _ I h) fun v s1 ⟨x,H1,I1,r1,q1⟩=>?_;obtain ⟨a,e,⟨xs,hq⟩,q⟩:=q1;subst e;cases r1;obtain ⟨its,rv,p,hz⟩:=I1.tuple hq;refine wpAny_pyIter_tuple (show s1.heap.IsTuple a its.toArray from p) ?_;refine ⟨s1.heap.objs.size,[s1.heap.objs.size],_,_,H1,rfl,I1.kept (t':=s1.toks) fun b o e=>aDf _ e,Dm a _,⟨_,aDt _ rfl,rfl,rfl⟩,fun b hb=>?_,q⟩;have e:b=s1.heap.objs.size:=by simpa using hb
 subst e;exact I1.fpOk (aDn _) (I1.hok.fresh (aDn _))
theorem Jb {pins:List (Addr×Obj)}{σ:St}{H:Hp}{s:Shared}{R:It->Hp->Prop}{E:Value->Shared->Prop}{lo hi:Int}{t u v:Tok}{tk:Nat}(I:aQ X pins σ H s)(h1:-(2^62)<=lo)(h2:lo<2^62)(h3:-(2^62)<=hi)(h4:hi<2^62)
  (q:R (Ru lo (hi-lo).toNat) H):wpAny (model X.prog X.w) X.A (pyIter (.ref s.heap.objs.size)) (YZ X pins σ tg R) E { s with heap:=s.heap.push { cls:=.type "range",data:=.fields #[.int lo t,.int hi u,.int 1 v] },toks:=tk }:=by
 refine wpAny_pyIter_range (IsRange.new ..) (small_one h1 h2 h3 h4) ?_;have I1:aQ X pins σ H { s with heap:=s.heap.push { cls:=.type "range",data:=.fields #[.int lo t,.int hi u,.int 1 v] },toks:=tk }:=I.kept fun b o e=>aDf _ e;refine ⟨(s.heap.push { cls:=.type "range",data:=.fields #[.int lo t,.int hi u,.int 1 v] }).objs.size,[(s.heap.push { cls:=.type "range",data:=.fields #[.int lo t,.int hi u,.int 1 v] }).objs.size],_,_,H,rfl,
  I1.kept (t':=tk) fun b o e=>aDf _ e,Dg _ lo (hi-lo).toNat,?_,fun b hb=>?_,q⟩
 ·have e1:lo+((0:Nat):Int)*1=lo:=by simp
  have e2:(((hi-lo).toNat:Nat):Int)-((0:Nat):Int)=Builtin.Range.rangeSize lo hi 1:=by rw [rangeSize_one]; split <;> omega
  show IsRangeIter _ _ (lo+((0:Nat):Int)*1) ((((hi-lo).toNat:Nat):Int)-((0:Nat):Int)) 1;rw [e1,e2];exact aDt _ rfl
 ·have e:b=(s.heap.push { cls:=.type "range",data:=.fields #[.int lo t,.int hi u,.int 1 v] }).objs.size:=by simpa using hb
  subst e;exact I1.fpOk (aDn _) (I1.hok.fresh (aDn _))
def XR (ta:TA):TI:=fun σ H R=>ta σ H fun vs H1=>∃ j:Int,vs=[.int j]/\-(2^62)<=j/\j<2^62/\R (Ru 0 j.toNat) H1
theorem rA {a:Expr}{ta:TA}{p pos:Pos}(hg:Gl X "range")(hm:X.mg "range" = none)(ha:PA X [a] ta)(hs:starEach [a] X.env=[(false,eval a X.env)]:=by rfl):PI X tg (.Call (.Name "range" p) [a] [] pos) (XR ta):=by
 intro pins s σ H R I h;refine Call_ (jQ I hg hm boot_range (PyProof.Rows.callWith_type1 (dF (ha pos pins s σ H _ I h) fun us s1 ⟨vs,H1,I1,r1,q1⟩=>?_) hs rfl));obtain ⟨j,e,q1,q2,q⟩:=q1;subst e;cases r1 with
 | cons r rr =>
  cases rr;obtain ⟨t,rfl⟩:=r;exact call_range_1 (Jb I1 (by omega) (by omega) q1 q2 (by simpa using q))
def Xn (wi:TI)(g:TG)(tb:TS):TS:=fun D σ H=>wi σ H fun J H1=>∃ W:Nat->Nat->St->Hp->Prop,(∃ m,W 0 m σ H1)/\∀ i m σ H,W i m σ H ->
 (J.stop i H/\D.nx σ H)∨(J.go i H/\∃ N:St->Hp->Prop,(∀ σ' H',N σ' H'->∃ m',m'<m/\W (i+1) m' σ' H')/\∀ x H',J.yld i H x H'->g x σ H' fun σ2 H2=>tb { D with nx:=N,ct:=N,bk:=D.nx } σ2 H2)
def uR (fp:List Addr)(h:Heap):List (Addr×Obj):=fp.filterMap fun b=>(h.get? b).map fun o=>(b,o)
theorem mG {fp:List Addr}{h:Heap}{b:Addr}{o:Obj}(hb:b∈fp)(e:h.get? b=some o):(b,o)∈uR fp h:=aEj.mpr ⟨b,hb,by rw [e]; rfl⟩
theorem Im {fp:List Addr}{h:Heap}{p:Addr×Obj}(hp:p∈uR fp h):p.1∈fp/\h.get? p.1=some p.2:=by
 obtain ⟨b,hb,e⟩:=aEj.mp hp;cases q:h.get? b with
 | none=>rw [q] at e; cases e
 | some o =>
  rw [q] at e;have e':(b,o)=p:=aEc.inj e;subst e';exact ⟨hb,q⟩
theorem aQ.pinned {pins:List (Addr×Obj)}{σ:St}{H:Hp}{s:Shared}{fp:List Addr}(I:aQ X pins σ H s)(hf:∀ b∈fp,jM X pins H b)(ho:∀ b∈fp,∃ o,s.heap.get? b=some o/\∀ v,o.data≠.cell v):aQ X (pins++uR fp s.heap) σ H s :=
 I.pins_of fun p hp=>(aDy.mp hp).elim (fun z=>I.pin p (aDB _ z)) fun z=>by
  obtain ⟨hb,e⟩:=Im z;obtain ⟨f0,f1,f2,_⟩:=hf p.1 hb;obtain ⟨o,e',d⟩:=ho p.1 hb;rw [e] at e'; cases e';exact ⟨e,f0,f1,f2,d⟩
theorem aQ.unpinned {pins pl:List (Addr×Obj)}{σ:St}{H:Hp}{s:Shared}(I:aQ X (pins++pl) σ H s):aQ X pins σ H s:=I.pins_of fun p hp=>I.pin p (aDB _ (aD0 _ hp))
theorem jW {iter:Expr}{body:List Stmt}{wi:TI}{g:TG}{tb:TS}{pos:Pos}(hp:PassesOwn (model X.prog X.w) X.A X.env X.xe)(hc:X.calm=true)(hi:PI X tg iter wi)(hg:PG X tg g)(hb:qR X body tb)
  (hs:∀ x,foldedSetIterable iter X.env x=pure x:=by intro _; rfl):PS X (.For tg iter body [] pos) (Xn wi g tb):=by
 intro pins s σ H D I h;refine wpAny_For (dF (hi pins s σ H _ I h) fun v s1 h1=>dF h1 fun itv s2 h2=>?_) hs;obtain ⟨it,fp,tn,J,H2,e,I2,T,st2,f2,W,⟨m0,w0⟩,turn⟩:=h2;subst e;have stat:∀ {H':Hp},(∀ b∈fp,H' b=none)->∀ b∈fp,jM X pins H' b:=fun hn b hb=>⟨hn b hb,(f2 b hb).2⟩
 refine codeAny_forLoop_any (fun n s'=>∃ i σ' H',aQ X pins σ' H' s'/\tn i s'.heap/\(∀ b∈fp,H' b=none)/\W i n σ' H') ?_ m0 ⟨0,σ,H2,I2,st2,fun b hb=>(f2 b hb).1,w0⟩;rintro n s3 ⟨i,σ3,H3,I3,st3,fr3,w3⟩;rcases turn i n σ3 H3 w3 with ⟨stop,qn⟩ | ⟨go,N,hN,step⟩
 ·refine wpAny_passesOwn hp (dF (T.done X rfl rfl rfl hc i pins s3 σ3 H3 X.xe I3 (stat fr3) st3 stop) fun r s4 ⟨hr,I4⟩=>?_);subst hr;exact wpAny_execs_nil ⟨σ3,H3,I4,qn⟩
 ·refine wpAny_passesOwn hp (dF (T.item X rfl rfl rfl hc i pins s3 σ3 H3 X.xe I3 (stat fr3) st3 go) fun r s4 ⟨u,hr,h4⟩=>?_);subst hr;refine wpAny_passesOwn hp (dF h4 fun _ s5 ⟨x,H5,I5,r5,y5,st5,fr5⟩=>?_);have I5':=I5.pinned (stat fr5) (T.obj _ _ st5);refine wpAny_passesOwn hp (dF (hg _ s5 σ3 H5 x u _ I5' r5 (step x H5 y5)) fun _ s6 ⟨σ6,H6,I6,q6⟩=>?_);refine wpAny_passesOwn hp (dF (hb _ s6 σ6 H6 _ I6 q6) fun f s7 q7=>?_);have again:∀ {σ7:St}{H7:Hp},aQ X (pins++uR fp s5.heap) σ7 H7 s7->N σ7 H7->∃ m,m<n/\∃ i σ' H',aQ X pins σ' H' s7/\tn i s7.heap/\(∀ b∈fp,H' b=none)/\W i m σ' H':=fun {σ7 H7} I7 n7=>by
   obtain ⟨m',hm,w7⟩:=hN σ7 H7 n7;refine ⟨m',hm,i+1,σ7,H7,I7.unpinned,T.keep _ _ _ st5 fun b hb o e=>(I7.pin (b,o) (aDB _ (aDB _ (mG hb e)))).1,fun b hb=>?_,w7⟩;obtain ⟨o,e,d⟩:=T.obj _ _ st5 b hb;exact (I7.pin (b,o) (aDB _ (aDB _ (mG hb e)))).2.1
  cases f with
  | next=>obtain ⟨σ7,H7,I7,n7⟩:=q7; exact again I7 n7
  | cont=>obtain ⟨σ7,H7,I7,n7⟩:=q7; exact again I7 n7
  | brk=>obtain ⟨σ7,H7,I7,q7⟩:=q7; exact ⟨σ7,H7,I7.unpinned,q7⟩
  | ret v=>obtain ⟨x7,σ7,H7,I7,r7,q7⟩:=q7; exact ⟨x7,σ7,H7,I7.unpinned,r7,q7⟩
end
theorem jP {K:PySem.W.Frag}{a:Addr}{xs:List V}{g:TG}{tb:TS}{D:Ends}{σ:St}{H:Hp}(Pv:Nat->St->Hp->Prop)(h0:Pv 0 σ H)(hl:∀ i σ H,i<=xs.length->Pv i σ H->bB K H a xs)
  (hs:∀ i x σ H,xs[i]? = some x->Pv i σ H->g x σ H fun σ2 H2=>tb { D with nx:=Pv (i+1),ct:=Pv (i+1),bk:=D.nx } σ2 H2) (hd:∀ σ H,Pv xs.length σ H->D.nx σ H) :
  ∃ W:Nat->Nat->St->Hp->Prop,(∃ m,W 0 m σ H)/\∀ i m σ H,W i m σ H ->
   ((Sh K a).stop i H/\D.nx σ H)∨((Sh K a).go i H/\∃ N:St->Hp->Prop,(∀ σ' H',N σ' H'->∃ m',m'<m/\W (i+1) m' σ' H')/\∀ x H',(Sh K a).yld i H x H'->g x σ H' fun σ2 H2=>tb { D with nx:=N,ct:=N,bk:=D.nx } σ2 H2):=by
 refine ⟨fun i m σ H=>m=xs.length-i/\i<=xs.length/\Pv i σ H,⟨xs.length,by simp,aDK _,h0⟩,?_⟩;rintro i m σ H ⟨rfl,hi,p⟩;have q:=hl i σ H hi p
 by_cases hlt:i<xs.length
 ·refine .inr ⟨⟨xs,xs[i],q,by simp [hlt]⟩,Pv (i+1),fun σ' H' p'=>⟨xs.length-(i+1),by omega,rfl,hlt,p'⟩,fun x H' y=>?_⟩;obtain ⟨e,y⟩:=y;subst e;exact hs i x σ _ (y xs q) p
 ·have e:i=xs.length:=by omega
  subst e;exact .inl ⟨⟨xs,q,aDn _⟩,hd σ H p⟩
theorem Hz {lo:Int}{n:Nat}{g:TG}{tb:TS}{D:Ends}{σ:St}{H:Hp}(Pv:Nat->St->Hp->Prop)(h0:Pv 0 σ H)
  (hs:∀ i σ H,i<n->Pv i σ H->g (.int (lo+i)) σ H fun σ2 H2=>tb { D with nx:=Pv (i+1),ct:=Pv (i+1),bk:=D.nx } σ2 H2) (hd:∀ σ H,Pv n σ H->D.nx σ H) :
  ∃ W:Nat->Nat->St->Hp->Prop,(∃ m,W 0 m σ H)/\∀ i m σ H,W i m σ H ->
   ((Ru lo n).stop i H/\D.nx σ H)∨((Ru lo n).go i H/\∃ N:St->Hp->Prop,(∀ σ' H',N σ' H'->∃ m',m'<m/\W (i+1) m' σ' H')/\∀ x H',(Ru lo n).yld i H x H'->g x σ H' fun σ2 H2=>tb { D with nx:=N,ct:=N,bk:=D.nx } σ2 H2):=by
 refine ⟨fun i m σ H=>m=n-i/\i<=n/\Pv i σ H,⟨n,by simp,aDK _,h0⟩,?_⟩;rintro i m σ H ⟨rfl,hi,p⟩
 by_cases hlt:i<n
 ·refine .inr ⟨hlt,Pv (i+1),fun σ' H' p'=>⟨n-(i+1),by omega,rfl,hlt,p'⟩,fun x H' y=>?_⟩;obtain ⟨e,y⟩:=y;subst e y;exact hs i σ _ hlt p
 ·have e:i=n:=by omega
  subst e;exact .inl ⟨aDn _,hd σ H p⟩
theorem Ma {c:TT}{tb:TS}{D:Ends}{σ:St}{H:Hp}(Pv:St->Hp->Prop)(μ:St->Hp->Nat)(h0:Pv σ H)
  (hs:∀ σ H,Pv σ H->c σ H fun b H1=>if b=true then tb { D with nx:=fun σ' H'=>Pv σ' H'/\μ σ' H' < μ σ H,ct:=fun σ' H'=>Pv σ' H'/\μ σ' H' < μ σ H,bk:=D.nx } σ H1 else D.nx σ H1)
  (mono:∀ σ H Q Q',(∀ b H1,Q b H1->Q' b H1)->c σ H Q->c σ H Q'):NK c tb D σ H:=by
 refine ⟨fun m σ H=>m = μ σ H/\Pv σ H,⟨_,rfl,h0⟩,?_⟩;rintro m σ H ⟨rfl,p⟩;refine mono σ H _ _ (fun b H1 q=>?_) (hs σ H p);cases b with
 | true=>exact ⟨_,fun σ' H' ⟨p',l⟩=>⟨_,l,rfl,p'⟩,q⟩
 | false=>exact q
abbrev R2:=V->V->Hp->VK->Prop
def pM (X:Cx)(f:Value->Value->Sem Value)(r:R2):Prop :=
 ∀ (pins:List (Addr×Obj)) (s:Shared) (σ:St) (H:Hp) (x y:V) (v u:Value) (Q:VK),aQ X pins σ H s->RelV x v->RelV y u->r x y H Q ->
  wpAny (model X.prog X.w) X.A (f v u) (EP X pins σ Q) X.xe s
def Xj (X:Cx)(f:Value->Sem Value)(r:V->Hp->VK->Prop):Prop :=
 ∀ (pins:List (Addr×Obj)) (s:Shared) (σ:St) (H:Hp) (x:V) (v:Value) (Q:VK),aQ X pins σ H s->RelV x v->r x H Q ->
  wpAny (model X.prog X.w) X.A (f v) (EP X pins σ Q) X.xe s
def fB (X:Cx)(f:Value)(r:List V->Hp->VK->Prop):Prop :=
 ∀ (pins:List (Addr×Obj)) (s:Shared) (σ:St) (H:Hp) (xs:List V) (us:List Value) (Q:VK),aQ X pins σ H s->bV xs us->r xs H Q ->
  wpAny (model X.prog X.w) X.A (call f us) (EP X pins σ Q) X.xe s
def QR (r:R2)(ta tb:TE):TE:=fun σ H Q=>ta σ H fun x H1=>tb σ H1 fun y H2=>r x y H2 Q
def tUn (r:V->Hp->VK->Prop)(ta:TE):TE:=fun σ H Q=>ta σ H fun x H1=>r x H1 Q
def rI (C:Int->Int->Prop)(g:Int->Int->V):R2:=fun x y H Q=>∃ i j,x=.int i/\y=.int j/\C i j/\Q (g i j) H
def RM (g:Int->Int->V):R2:=fun x y H Q=>∃ i j,x=.int i/\y=.int j/\Q (g i j) H
def rU (g:Int->V):V->Hp->VK->Prop:=fun x H Q=>∃ i,x=.int i/\Q (g i) H
section
variable {X:Cx}{a b c:Expr}{ta tb tc:TE}{pos:Pos}
theorem Ra (ha:PE X a ta)(hb:PE X b tb){pins:List (Addr×Obj)}{s:Shared}{σ:St}{H:Hp}{R:V->V->Hp->Prop}(I:aQ X pins σ H s)
  (h:ta σ H fun x H1=>tb σ H1 fun y H2=>R x y H2) {Q:Value->Shared->Prop}{f:Value->Value->Sem Value}
  (hf:∀ v u s2 x y H2,aQ X pins σ H2 s2->RelV x v->RelV y u->R x y H2->wpAny (model X.prog X.w) X.A (f v u) Q X.xe s2) :
  wpAny (model X.prog X.w) X.A (eval a X.env) (fun v s₁=>wpAny (model X.prog X.w) X.A (eval b X.env) (fun u s₂=>wpAny (model X.prog X.w) X.A (f v u) Q X.xe s₂) X.xe s₁) X.xe s:=by
 refine dF (ha pins s σ H _ I h) fun v s1 ⟨x,H1,I1,r1,q1⟩=>?_;refine dF (hb pins s1 σ H1 _ I1 q1) fun u s2 ⟨y,H2,I2,r2,q2⟩=>?_;exact hf v u s2 x y H2 I2 r1 r2 q2
theorem bM {op:Operator}{r:R2}(ho:pM X (binaryOp op) r)(ha:PE X a ta)(hb:PE X b tb):PE X (.BinOp a op b pos) (QR r ta tb):=by
 intro pins s σ H Q I h;exact wpAny_BinOp (Ra ha hb I h fun v u s2 x y H2 I2 rx ry q=>ho pins s2 σ H2 x y v u Q I2 rx ry q)
theorem KZ {op:UnaryOp}{r:V->Hp->VK->Prop}(ho:Xj X (unaryOp op) r)(ha:PE X a ta):PE X (.UnaryOp op a pos) (tUn r ta):=by
 intro pins s σ H Q I h;exact UnaryOp_ (dF (ha pins s σ H _ I h) fun v s1 ⟨x,H1,I1,r1,q1⟩=>ho pins s1 σ H1 x v Q I1 r1 q1)
theorem SX {f:Value->Value->Sem Value}{C:Int->Int->Prop}{g:Int->Int->Int}
  (rule:∀ (i j:Int) (t u:Tok) (s:Shared) (Q:Value->Shared->Prop) (E:Value->Shared->Prop),C i j->Q (.int (g i j) s.toks) { s with toks:=s.toks+1 }->wpAny (model X.prog X.w) X.A (f (.int i t) (.int j u)) Q E s) :
  pM X f (rI C fun i j=>.int (g i j)):=by
 intro pins s σ H x y v u Q I rx ry h;obtain ⟨i,j,rfl,rfl,hc,q⟩:=h;obtain ⟨t,rfl⟩:=rx;obtain ⟨t',rfl⟩:=ry;exact rule i j t t' s _ _ hc ⟨.int (g i j),H,I.tok _,⟨_,rfl⟩,q⟩
theorem W7 {f:Value->Value->Sem Value}{g:Int->Int->Int}
  (rule:∀ (i j:Int) (t u:Tok) (s:Shared) (Q:Value->Shared->Prop) (E:Value->Shared->Prop),Q (.int (g i j) s.toks) { s with toks:=s.toks+1 }->wpAny (model X.prog X.w) X.A (f (.int i t) (.int j u)) Q E s) :
  pM X f (RM fun i j=>.int (g i j)):=by
 intro pins s σ H x y v u Q I rx ry h;obtain ⟨i,j,rfl,rfl,q⟩:=h;obtain ⟨t,rfl⟩:=rx;obtain ⟨t',rfl⟩:=ry;exact rule i j t t' s _ _ ⟨.int (g i j),H,I.tok _,⟨_,rfl⟩,q⟩
theorem Qw {f:Value->Value->Sem Value}{g:Int->Int->Bool}
  (rule:∀ (i j:Int) (t u:Tok) (s:Shared) (Q:Value->Shared->Prop) (E:Value->Shared->Prop),Q (.bool (g i j)) s->wpAny (model X.prog X.w) X.A (f (.int i t) (.int j u)) Q E s) :
  pM X f (RM fun i j=>.bl (g i j)):=by
 intro pins s σ H x y v u Q I rx ry h;obtain ⟨i,j,rfl,rfl,q⟩:=h;obtain ⟨t,rfl⟩:=rx;obtain ⟨t',rfl⟩:=ry;exact rule i j t t' s _ _ ⟨.bl (g i j),H,I,rfl,q⟩
def Yz (i j:Int):Prop:=0<j/\j<1073741824
def Rm (i j:Int):Prop:=(-(2^64)<i/\i<2^64)∨(-(2^64)<j/\j<2^64)
theorem Rm.ok {i j:Int}(h:Rm i j):IntMulOk i j:=by
 rcases h with ⟨h1,h2⟩ | ⟨h1,h2⟩
 ·exact .of_left (intBits_le_64 h1 h2)
 ·exact .of_right (intBits_le_64 h1 h2)
theorem eQ:pM X (binaryOp .Add) (RM fun i j=>.int (i+j)):=W7 fun _ _ _ _ _ _ _ q=>add_int q
theorem rN:pM X (binaryOp .Sub) (RM fun i j=>.int (i-j)):=W7 fun _ _ _ _ _ _ _ q=>sub_int q
theorem Dq:pM X (binaryOp .Mult) (rI Rm fun i j=>.int (i*j)):=SX fun _ _ _ _ _ _ _ hc q=>mul_int q hc.ok
theorem j5:pM X (binaryOp .FloorDiv) (rI Yz fun i j=>.int (i/j)):=SX fun i j _ _ _ _ _ hc q=>by
 have h1:(0:Int)<j:=hc.1;have h2:j<1073741824:=hc.2;exact floordiv_int (by omega) (by rw [aEE i (by omega)]; exact q) (.inl (PyProof.noPylong_small (by omega)))
theorem fL:pM X (binaryOp .Mod) (rI (fun _ j=>0<j) fun i j=>.int (i%j)):=SX fun i j _ _ _ _ _ hc q=>by
 have h1:(0:Int)<j:=hc;exact mod_int' (by omega) (by rw [Int.fmod_eq_emod_of_nonneg i (by omega)]; exact q)
theorem PN:pM X (binaryOp .Mod) (rI (fun _ j=>j≠0) fun i j=>.int (i.fmod j)):=SX fun _ _ _ _ _ _ _ hc q=>mod_int' hc q
theorem unI {f:Value->Sem Value}{g:Int->Int}
  (rule:∀ (i:Int) (t:Tok) (s:Shared) (Q:Value->Shared->Prop) (E:Value->Shared->Prop),Q (.int (g i) s.toks) { s with toks:=s.toks+1 }->wpAny (model X.prog X.w) X.A (f (.int i t)) Q E s) :
  Xj X f (rU fun i=>.int (g i)):=by
 intro pins s σ H x v Q I rx h;obtain ⟨i,rfl,q⟩:=h;obtain ⟨t,rfl⟩:=rx;exact rule i t s _ _ ⟨.int (g i),H,I.tok _,⟨_,rfl⟩,q⟩
theorem Ef:Xj X (unaryOp .USub) (rU fun i=>.int (-i)):=unI fun _ _ _ _ _ q=>neg_int q
end
def TY:V->V->Bool
 | .non,.non=>true | .non,.int _=>true | .int _,.non=>true | .non,.bl _=>true | .bl _,.non=>true | .non,.str _=>true | .str _,.non=>true
 | .int _,.int _=>true | .bl _,.bl _=>true | .str _,.str _=>true | .byt _,.byt _=>true
 | .int _,.str _=>true | .str _,.int _=>true | .bl _,.str _=>true | .str _,.bl _=>true
 | _,_=>false
def rEq:R2:=fun x y H Q=>TY x y=true/\Q (.bl (decide (x=y))) H
def rNe:R2:=fun x y H Q=>TY x y=true/\Q (.bl (!decide (x=y))) H
theorem HS {i j:Int}:decide (V.int i=V.int j)=(i==j):=by
 rw [aEL];simp
theorem Km {i j:Bool}:decide (V.bl i=V.bl j)=(i==j):=by
 rw [aEL];simp
theorem Gg {i j:Str}:decide (V.str i=V.str j)=(i==j):=by
 rw [aEL];simp
theorem Fx {i j:Array UInt8}:decide (V.byt i=V.byt j)=(i.toList==j.toList):=by
 rw [aEL];cases i;cases j;simp
section
variable {X:Cx}{a b c:Expr}{ta tb tc:TE}{pos:Pos}
theorem cD {pins:List (Addr×Obj)}{σ:St}{H:Hp}{s:Shared}{Q:VK}{k k':Bool}(I:aQ X pins σ H s)(q:Q (.bl k) H)(e:k=k'):EP X pins σ Q (.bool k') s:=by
 subst e;exact ⟨.bl k,H,I,rfl,q⟩
theorem yI:pM X (compareOp .Eq) rEq:=by
 intro pins s σ H x y v u Q I rx ry h;obtain ⟨hs,q⟩:=h;cases x with
 | non =>
  cases rx;cases y with
  | non=>cases ry; exact PySem.EqNone.eq_none_none (cD I q (by simp))
  | bl j=>cases ry; exact PySem.EqNone.eq_none_bool (cD I q (by simp))
  | int j=>obtain ⟨t',rfl⟩:=ry; exact PySem.EqNone.eq_none_int (cD I q (by simp))
  | str j=>obtain ⟨t',rfl⟩:=ry; exact PySem.EqNone.eq_none_str (cD I q (by simp))
  | _=>exact absurd (show false=true from hs) aDC
 | bl i =>
  cases rx;cases y with
  | non=>cases ry; exact PySem.EqNone.eq_bool_none (cD I q (by simp))
  | bl j=>cases ry; exact eq_bool (cD I q Km)
  | str j=>obtain ⟨t',rfl⟩:=ry; exact PySem.EqMixed.eq_bool_str (cD I q (by simp))
  | _=>exact absurd (show false=true from hs) aDC
 | int i =>
  obtain ⟨t,rfl⟩:=rx;cases y with
  | non=>cases ry; exact PySem.EqNone.eq_int_none (cD I q (by simp))
  | int j=>obtain ⟨t',rfl⟩:=ry; exact eq_int (cD I q HS)
  | str j=>obtain ⟨t',rfl⟩:=ry; exact PySem.EqMixed.eq_int_str (cD I q (by simp))
  | _=>exact absurd (show false=true from hs) aDC
 | str i =>
  obtain ⟨t,rfl⟩:=rx;cases y with
  | non=>cases ry; exact PySem.EqNone.eq_str_none (cD I q (by simp))
  | bl j=>cases ry; exact PySem.EqMixed.eq_str_bool (cD I q (by simp))
  | int j=>obtain ⟨t',rfl⟩:=ry; exact PySem.EqMixed.eq_str_int (cD I q (by simp))
  | str j=>obtain ⟨t',rfl⟩:=ry; exact eq_str (cD I q Gg)
  | _=>exact absurd (show false=true from hs) aDC
 | byt i =>
  obtain ⟨t,rfl⟩:=rx;cases y with
  | byt j=>obtain ⟨t',rfl⟩:=ry; exact PySem.W.eq_bytes (cD I q Fx)
  | _=>exact absurd (show false=true from hs) aDC
 | _=>cases y <;> exact absurd (show false=true from hs) aDC
theorem Cd:pM X (compareOp .NotEq) rNe:=by
 intro pins s σ H x y v u Q I rx ry h;obtain ⟨hs,q⟩:=h;cases x with
 | non =>
  cases rx;cases y with
  | non=>cases ry; exact PySem.EqNone.ne_none_none (cD I q (by simp))
  | bl j=>cases ry; exact PySem.EqNone.ne_none_bool (cD I q (by simp))
  | int j=>obtain ⟨t',rfl⟩:=ry; exact PySem.EqNone.ne_none_int (cD I q (by simp))
  | str j=>obtain ⟨t',rfl⟩:=ry; exact PySem.EqNone.ne_none_str (cD I q (by simp))
  | _=>exact absurd (show false=true from hs) aDC
 | bl i =>
  cases rx;cases y with
  | non=>cases ry; exact PySem.EqNone.ne_bool_none (cD I q (by simp))
  | bl j=>cases ry; exact ne_bool (cD I q (congrArg not Km))
  | str j=>obtain ⟨t',rfl⟩:=ry; exact PySem.EqMixed.ne_bool_str (cD I q (by simp))
  | _=>exact absurd (show false=true from hs) aDC
 | int i =>
  obtain ⟨t,rfl⟩:=rx;cases y with
  | non=>cases ry; exact PySem.EqNone.ne_int_none (cD I q (by simp))
  | int j=>obtain ⟨t',rfl⟩:=ry; exact ne_int (cD I q (congrArg not HS))
  | str j=>obtain ⟨t',rfl⟩:=ry; exact PySem.EqMixed.ne_int_str (cD I q (by simp))
  | _=>exact absurd (show false=true from hs) aDC
 | str i =>
  obtain ⟨t,rfl⟩:=rx;cases y with
  | non=>cases ry; exact PySem.EqNone.ne_str_none (cD I q (by simp))
  | bl j=>cases ry; exact PySem.EqMixed.ne_str_bool (cD I q (by simp))
  | int j=>obtain ⟨t',rfl⟩:=ry; exact PySem.EqMixed.ne_str_int (cD I q (by simp))
  | str j=>obtain ⟨t',rfl⟩:=ry; exact ne_str (cD I q (congrArg not Gg))
  | _=>exact absurd (show false=true from hs) aDC
 | byt i =>
  obtain ⟨t,rfl⟩:=rx;cases y with
  | byt j=>obtain ⟨t',rfl⟩:=ry; exact PySem.W.ne_bytes (cD I q (congrArg not Fx))
  | _=>exact absurd (show false=true from hs) aDC
 | _=>cases y <;> exact absurd (show false=true from hs) aDC
theorem GD:pM X (compareOp .Lt) (RM fun i j=>.bl (decide (i<j))):=Qw fun _ _ _ _ _ _ _ q=>lt_int q
theorem xB:pM X (compareOp .LtE) (RM fun i j=>.bl (decide (i<=j))):=Qw fun _ _ _ _ _ _ _ q=>le_int q
theorem Tv:pM X (compareOp .Gt) (RM fun i j=>.bl (decide (j<i))):=Qw fun _ _ _ _ _ _ _ q=>gt_int q
theorem eE (b:Expr){op:CmpOp}(h:op≠.In:=by decide)(h2:op≠.NotIn:=by decide):behindInMarks op b=false:=by
 have e1:(op==CmpOp.In)=false:=by cases op <;> first | rfl | exact absurd rfl h
 have e2:(op==CmpOp.NotIn)=false:=by cases op <;> first | rfl | exact absurd rfl h2
 cases b <;> simp [behindInMarks,e1,e2]
theorem qD {op:CmpOp}{r:R2}(ho:pM X (compareOp op) r)(ha:PE X a ta)(hb:PE X b tb)(hm:behindInMarks op b=false):PE X (.Compare a [op] [b] pos) (QR r ta tb):=by
 intro pins s σ H Q I h;exact wpAny_Compare1 (Ra ha hb I h fun v u s2 x y H2 I2 rx ry q=>ho pins s2 σ H2 x y v u Q I2 rx ry q) hm
def LK (t:TE):TT:=fun σ H Q=>t σ H fun x H'=>∃ k,x=.bl k/\Q k H'
theorem gD {op:CmpOp}{r:R2}(ho:pM X (compareOp op) r)(ha:PE X a ta)(hb:PE X b tb)(hm:behindInMarks op b=false):PT X (.Compare a [op] [b] pos) (LK (QR r ta tb)):=by
 intro pins s σ H Q I h;refine wpAny_isTrue_Compare1 (dF (ha pins s σ H _ I h) fun v s1 ⟨x,H1,I1,r1,q1⟩=>dF (hb pins s1 σ H1 _ I1 q1) fun u s2 ⟨y,H2,I2,r2,q2⟩ =>
  dF (ho pins s2 σ H2 x y v u _ I2 r1 r2 q2) fun c s3 ⟨z,H3,I3,r3,k,e,q3⟩=>?_) hm
 subst e;cases r3;exact wpAny_truthy_bool ⟨H3,I3,q3⟩
def Ka (r r':R2)(ta tb tc:TE):TE:=fun σ H Q=>ta σ H fun x H1=>tb σ H1 fun y H2=>r x y H2 fun z H3=>∃ k,z=.bl k ∧
 (if k=true then tc σ H3 fun w' H4=>r' y w' H4 Q else Q (.bl false) H3)
theorem Jv {op op':CmpOp}{r r':R2}(ho:pM X (compareOp op) r)(ho':pM X (compareOp op') r')(ha:PE X a ta)(hb:PE X b tb)(hc:PE X c tc)
  (hm:lastMarks [op,op'] [b,c]=false:=by with_unfolding_all rfl):PE X (.Compare a [op,op'] [b,c] pos) (Ka r r' ta tb tc):=by
 intro pins s σ H Q I h;refine Compare_chain (dF (ha pins s σ H _ I h) fun v s1 ⟨x,H1,I1,r1,q1⟩=>chain_link (dF (hb pins s1 σ H1 _ I1 q1) fun u s2 ⟨y,H2,I2,r2,q2⟩ =>
  dF (ho pins s2 σ H2 x y v u _ I2 r1 r2 q2) fun d s3 ⟨z,H3,I3,r3,k,e,q3⟩=>?_)) hm
 subst e;cases r3;refine wpAny_truthy_bool ?_;cases k with
 | false=>exact ite_ff ⟨.bl false,H3,I3,rfl,q3⟩
 | true=>exact ite_tt (chain_last (dF (hc pins s3 σ H3 _ I3 q3) fun w' s4 ⟨z',H4,I4,r4,q4⟩=>ho' pins s4 σ H4 y z' u w' Q I4 r2 r4 q4))
theorem By {op op':CmpOp}{r r':R2}(ho:pM X (compareOp op) r)(ho':pM X (compareOp op') r')(ha:PE X a ta)(hb:PE X b tb)(hc:PE X c tc)
  (hm:lastMarks [op,op'] [b,c]=false:=by with_unfolding_all rfl):PT X (.Compare a [op,op'] [b,c] pos) (LK (Ka r r' ta tb tc)):=by
 intro pins s σ H Q I h;refine isTrue_chain (dF (ha pins s σ H _ I h) fun v s1 ⟨x,H1,I1,r1,q1⟩=>test_link (dF (hb pins s1 σ H1 _ I1 q1) fun u s2 ⟨y,H2,I2,r2,q2⟩ =>
  dF (ho pins s2 σ H2 x y v u _ I2 r1 r2 q2) fun d s3 ⟨z,H3,I3,r3,k,e,q3⟩=>?_)) hm
 subst e;cases r3;refine wpAny_truthy_bool ?_;cases k with
 | false =>
  obtain ⟨k',e',q'⟩:=q3;cases e';exact ite_ff ⟨H3,I3,q'⟩
 | true =>
  refine ite_tt (test_last (dF (hc pins s3 σ H3 _ I3 q3) fun w' s4 ⟨z',H4,I4,r4,q4⟩=>dF (ho' pins s4 σ H4 y z' u w' _ I4 r2 r4 q4) fun d' s5 ⟨z2,H5,I5,r5,k2,e2,q5⟩=>?_));subst e2;cases r5;exact wpAny_truthy_bool ⟨H5,I5,q5⟩
theorem Dz:(sizeLine:Nat)<2^63:=by rw [sizeLine_eq]; decide
theorem vals1 {x:V}{us:List Value}(r:bV [x] us):∃ u,us=[u]/\RelV x u:=by
 cases r with
 | cons r1 r2=>cases r2; exact ⟨_,rfl,r1⟩
theorem vals2 {x y:V}{us:List Value}(r:bV [x,y] us):∃ u w',us=[u,w']/\RelV x u/\RelV y w':=by
 cases r with
 | cons r1 r2 =>
  cases r2 with
  | cons r3 r4=>cases r4; exact ⟨_,_,rfl,r1,r3⟩
theorem MN:fB X (.builtin "abs") (fun xs H Q=>∃ i,xs=[.int i]/\Q (.int (if i<0 then -i else i)) H):=by
 intro pins s σ H xs us Q I r h;obtain ⟨i,rfl,q⟩:=h;obtain ⟨u,rfl,t,rfl⟩:=vals1 r;exact call_abs_int fun u tk=>⟨.int (if i<0 then -i else i),H,I.tok _,⟨_,rfl⟩,q⟩
end
structure Eo (h:Heap)(x dx C:Addr)(mA:Str->Option Value):Prop where
 obj:h.get? x=some (PySem.W.instObj C dx)
 ns:h.Ns1 dx mA
 ne:dx≠x
theorem Ia {h:Heap}{dx:Addr}{mA:Str->Option Value}(n:h.Ns1 dx mA):∃ od,h.get? dx=some od/\∀ name,PySem.W.lookIn name od=some (mA name):=by
 obtain ⟨o,es,ep,ho,hd,hk,_,hm⟩:=n;refine ⟨o,ho,fun name=>?_⟩;have e:=hm name;unfold nsFind findBy at e;rw [<- Array.find?_toList] at e;unfold PySem.W.lookIn;rw [hd];dsimp only
 split
 ·rename_i y q;rw [q] at e;exact congrArg some e
 ·rename_i q;rw [q] at e;have a:es.toList.any (·.refKey)=false:=by
   rw [List.any_eq_false];intro y hy;obtain ⟨z,t,hkey⟩:=hk y (Array.mem_toList_iff.mp hy);simp [DictEntry.refKey,hkey]
  have a':¬ es.toList.any (·.refKey)=true:=by rw [a]; exact aDC
  rw [if_neg a'];exact congrArg some e
theorem Eo.look {h:Heap}{x dx C:Addr}{mA:Str->Option Value}(I:Eo h x dx C mA):∃ od,PySem.W.InstAt h x (PySem.W.instObj C dx) C (some od)/\∀ name,PySem.W.lookIn name od=some (mA name) :=
 let ⟨od,ho,hl⟩:=Ia I.ns
 ⟨od,⟨I.obj,rfl,rfl,ho⟩,hl⟩
section
variable {prog:Program}{w:World}{A:Around}{E:Value->Shared->Prop}{s:Shared}{K:PySem.W.Frag}{x dx C f:Addr}{mA:Str->Option Value}{name:Str}{v:Value}
theorem Oc {expr:Bool}{Q:Value->Shared->Prop}(X:K.In s.heap)(I:Eo s.heap x dx C mA)(hg:PySem.W.plainGet K C name=true)(hh:PySem.W.hasDictIn K C=true)
  (ha:PySem.W.findIn K (.ref C) name=some none) (hv:mA name=some v) (hv':PySem.W.handedIn v=true) (h:Q v { s with toks:=s.toks+1 }) :
  wpAny (model prog w) A (getAttr (.ref x) name expr) Q E s:=by
 obtain ⟨od,J,hl⟩:=I.look;exact PySem.W.get_value X J (PySem.W.plainGet_of hg).1 (PySem.W.findObj_own hh ha rfl (by rw [hl,hv])) hv' h
theorem Lp {pl:Sem Bool}{Q:Value×List Value->Shared->Prop}(X:K.In s.heap)(I:Eo s.heap x dx C mA)(hg:PySem.W.plainGet K C name=true)
  (hf:PySem.W.findIn K (.ref C) name=some (some (.ref f))) (ht:PySem.W.isFn K (.ref f)=true) (hv:mA name=none) (h:Q (.ref f,[.ref x]) s) :
  wpAny (model prog w) A (getMethod (.ref x) name pl) Q E s:=by
 obtain ⟨od,J,hl⟩:=I.look;exact PySem.W.method_fn X J (PySem.W.plainGet_of hg).1 (PySem.W.plainGet_of hg).2 hf (beq_iff_eq.mp ht) (by show (PySem.W.lookIn name od).map (·.isSome)=some false; rw [hl,hv]; rfl) h
theorem Pa {ns:List Str}{Q:Unit->Shared->Prop}(X:K.In s.heap)(I:Eo s.heap x dx C mA)
  (hs:PySem.W.findIn K (.ref C) "__setattr__" = some (some (.builtin "object.__setattr__"))) (hp:PySem.W.plainOver K C=true) (ht:PySem.W.takerIn K C name=some none) (hh:PySem.W.hasDictIn K C=true)
  (hw:PySem.Within mA ns) (hsz:ns.length<=sizeLine)
  (h:∀ h',Eo h' x dx C (fun y=>if y=name then some v else mA y)->aDL dx s.heap h'->Q () { s with heap:=h',toks:=s.toks+2 }) :
  wpAny (model prog w) A (setAttr (.ref x) name v) Q E s:=by
 obtain ⟨od,J,hl⟩:=I.look;refine PySem.W.set_plain X J hs (PySem.W.osa_open (s:={ s with toks:=s.toks+1 }) (r:=none) X J hp ht fun b=>?_);obtain ⟨cd,hc,hd'⟩:=PySem.W.any_some hh;have hx:s.heap.get? x=some ⟨.ref C,some dx,.plain,#[]⟩:=I.obj;refine wpAny_bind (wpAny_pure (wpAny_bind (wpAny_bind (wpAny_loadPart hx (wpAny_bind (PySem.W.Looks.here (s:={ s with toks:=s.toks+1 }) (PySem.W.looks_clsIn X hc) ?_))))));rw [hd'];refine wpAny_pure (a:=some dx) (wpAny_bind (wpAny_pure (wpAny_bind ?_)));refine wpAny_nsSet1 (s:={ s with toks:=s.toks+1 }) I.ns fun h' hn2 hs2=>?_;obtain ⟨oD,esD,epD,hoD,hdD,hcD⟩:=hn2.count (PySem.Within.cons name v hw);refine wpAny_bind (wpAny_lookBehind hoD (by rw [hdD]; exact pastItsLine_dict (aDh hcD (by rw [aDF]; omega))) ?_);exact wpAny_pure (h _ ⟨(hs2.2 _ (Ne.symm I.ne)).trans I.obj,hn2,I.ne⟩ hs2)
theorem Ld {R:Result->Shared->Prop}{vs:List Value}{kw:List (Str×Value)}(X:K.In s.heap)(hm:PySem.W.makesIn K C=true)
  (hi:PySem.W.findIn K (.ref C) "__init__" = some (some (.ref f))) (hf:PySem.W.typeIn K (.ref f)=some (.type "function"))
  (h:codeAny (model prog w) (A.under (.builtin "type.__call__" ⟨.ref C::vs,kw⟩)) (.call (.ref f) ⟨.ref (s.heap.objs.size+1)::vs,kw⟩) (PySem.W.InitBack (s.heap.objs.size+1) R)
   { s with heap:=(s.heap.push PySem.W.emptyDict).push (PySem.W.instObj C s.heap.objs.size) }) :
  codeAny (model prog w) A (.call (.ref C) ⟨vs,kw⟩) R s:=by
 obtain ⟨hh,g,d,t,os⟩:=s;exact PySem.W.make_core (PySem.W.makes_of X hm) (PySem.W.looks_findIn X hi) (fun self=>PySem.W.bind_fn X self hf) (.inl rfl) h
end
def oK (f:Str)(v:V):List (Str×V)->List (Str×V)
 | []=>[(f,v)]
 | (g,x)::r=>if g=f then (g,v)::r else (g,x)::oK f v r
theorem sZ (f g:Str)(v:V):∀ fs:List (Str×V),(oK f v fs).lookup g=if g=f then some v else fs.lookup g
 | []=>by
  show aEF g [(f,v)]=_
  by_cases h:g=f
  ·have hb:(g==f)=true:=beq_iff_eq.mpr h;simp only [aEF,hb,if_pos h]
  ·have hb:(g==f)=false:=beq_eq_false_iff_ne.mpr h;simp only [aEF,hb,if_neg h]
 | (k,x)::r=>by
  have ih:=sZ f g v r;rw [show oK f v ((k,x)::r)=(if k=f then (k,v)::r else (k,x)::oK f v r) from rfl]
  by_cases hk:k=f
  ·rw [if_pos hk]
   by_cases h:g=k
   ·have hb:(g==k)=true:=beq_iff_eq.mpr h;simp only [aEF,hb,if_pos (h.trans hk)]
   ·have hb:(g==k)=false:=beq_eq_false_iff_ne.mpr h;simp only [aEF,hb,if_neg (fun e:g=f=>h (e.trans hk.symm))]
  ·rw [if_neg hk]
   by_cases h:g=k
   ·have hb:(g==k)=true:=beq_iff_eq.mpr h;simp only [aEF,hb,if_neg (fun e:g=f=>hk (h.symm.trans e))]
   ·have hb:(g==k)=false:=beq_eq_false_iff_ne.mpr h;simp only [aEF,hb];exact ih
theorem q8 (f:Str)(v:V):∀ fs:List (Str×V),f∈(oK f v fs).map (·.1)/\∀ g,g∈fs.map (·.1)->g∈(oK f v fs).map (·.1)
 | []=>⟨by simp [oK],fun g h=>by simp at h⟩
 | (k,x)::r=>by
  obtain ⟨i1,i2⟩:=q8 f v r;rw [show oK f v ((k,x)::r)=(if k=f then (k,v)::r else (k,x)::oK f v r) from rfl]
  by_cases hk:k=f
  ·rw [if_pos hk];subst hk;exact ⟨by simp,fun g h=>by simpa using h⟩
  ·rw [if_neg hk];refine ⟨?_,fun g h=>?_⟩
   ·rw [aDE];exact aDk _ i1
   ·rw [aDE] at h ⊢;rcases aDA.mp h with e | e
    ·exact aDA.mpr (.inl e)
    ·exact aDk _ (i2 g e)
theorem tE (f:Str)(v:V):∀ fs:List (Str×V),(oK f v fs).length<=fs.length+1
 | []=>by simp [oK]
 | (k,x)::r=>by
  have ih:=tE f v r;rw [show oK f v ((k,x)::r)=(if k=f then (k,v)::r else (k,x)::oK f v r) from rfl]
  by_cases hk:k=f
  ·rw [if_pos hk,aDF,aDF]; omega
  ·rw [if_neg hk,aDF,aDF]; omega
theorem mX.some_of {v:V}{o:Option Value}(r:mX (some v) o):∃ u,o=some u/\RelV v u:=by
 cases o with
 | none=>exact (show False from r).elim
 | some u=>exact ⟨u,rfl,r⟩
theorem mX.none_of {o:Option Value}(r:mX none o):o=none:=by
 cases o with
 | none=>rfl
 | some u=>exact (show False from r).elim
theorem Hq {v:V}{u:Value}(r:RelV v u):PySem.W.handedIn u=true:=by
 cases v with
 | non=>cases (show u=Value.none from r); rfl
 | bl b=>cases (show u=Value.bool b from r); rfl
 | int i=>obtain ⟨t,e⟩:=(show ∃ t,u=Value.int i t from r); cases e; rfl
 | str x=>obtain ⟨t,e⟩:=(show ∃ t,u=Value.str x t from r); cases e; rfl
 | byt b=>obtain ⟨t,e⟩:=(show ∃ t,u=Value.bytes b t from r); cases e; rfl
 | flt b=>obtain ⟨t,e⟩:=(show ∃ t,u=Value.float b t from r); cases e; rfl
 | ref a=>cases (show u=Value.ref a from r); rfl
 | ty n=>cases (show u=Value.type n from r); rfl
section
variable {P:Program}{w:World}{H H':Hp}{h h':Heap}{a C dx:Addr}{fs fs':List (Str×V)}
theorem tZ (hok:n6 P w H h)(e:H a=some (.ins C dx fs)):∃ mA,Eo h a dx C mA/\(∀ f,mX (fs.lookup f) (mA f))/\PySem.Within mA (fs.map (·.1))/\fs.length<=1000/\H dx=some (.own a):=by
 obtain ⟨d,z,ne,ob,mA,n,r,q⟩:=(show cH P w H h a (.ins C dx fs) from hok a _ e)
 exact ⟨mA,⟨ob,n,ne⟩,r,q,z,d⟩
end
structure Hw (K:PySem.W.Frag)(C:Addr):Prop where
 pg:PySem.W.plainGet K C Str.empty=true
 hd:PySem.W.hasDictIn K C=true
 po:PySem.W.plainOver K C=true
 sa:PySem.W.findIn K (.ref C) "__setattr__" = some (some (.builtin "object.__setattr__"))
theorem Hw.get {K:PySem.W.Frag}{C:Addr}(c:Hw K C)(f:Str):PySem.W.plainGet K C f=true:=c.pg
def kZ (K:PySem.W.Frag)(C:Addr)(f:Str):Prop:=PySem.W.findIn K (.ref C) f=some none
theorem kZ.taker {K:PySem.W.Frag}{C:Addr}{f:Str}(n:kZ K C f):PySem.W.takerIn K C f=some none:=by
 unfold PySem.W.takerIn;rw [show PySem.W.findIn K (.ref C) f=some none from n]
 rfl
structure nJ (K:PySem.W.Frag)(C:Addr)(m:Str)(f:Addr):Prop where
 at_:PySem.W.findIn K (.ref C) m=some (some (.ref f))
 fn:PySem.W.isFn K (.ref f)=true
 kp:PySem.W.keepIn K (.ref f)=true
section
variable {X:Cx}{pins:List (Addr×Obj)}{σ:St}{H:Hp}{s:Shared}{a C dx:Addr}{fs:List (Str×V)}{f:Str}{v:V}{A:Around}{E:Value->Shared->Prop}
theorem Df {b:Bool}{Q:Value->Shared->Prop}(I:aQ X pins σ H s)(e:H a=some (.ins C dx fs))(c:Hw X.K C)(n:kZ X.K C f)(l:fs.lookup f=some v)
  (h:∀ u s',aQ X pins σ H s'->RelV v u->Q u s'):wpAny (model X.prog X.w) A (getAttr (.ref a) f b) Q E s:=by
 obtain ⟨mA,O,r,_,_,_⟩:=tZ I.hok e;obtain ⟨u,hu,ru⟩:=mX.some_of (v:=v) (o:=mA f) (by rw [<- l]; exact r f);exact Oc I.kIn O (c.get f) c.hd n hu (Hq ru) (h u _ (I.tok _) ru)
theorem o8 {m:Str}{g:Addr}{pl:Sem Bool}{Q:Value×List Value->Shared->Prop}(I:aQ X pins σ H s)(e:H a=some (.ins C dx fs))(c:Hw X.K C)(k:nJ X.K C m g)(l:fs.lookup m=none)
  (h:Q (.ref g,[.ref a]) s):wpAny (model X.prog X.w) A (getMethod (.ref a) m pl) Q E s:=by
 obtain ⟨mA,O,r,_,_,_⟩:=tZ I.hok e;have hn:mA m=none:=mX.none_of (by rw [<- l]; exact r m);exact Lp I.kIn O (c.get m) k.at_ k.fn hn h
theorem Eg {y:V}{u:Value}{Q:Unit->Shared->Prop}(I:aQ X pins σ H s)(e:H a=some (.ins C dx fs))(c:Hw X.K C)(n:kZ X.K C f)(hl:fs.length<1000)(ry:RelV y u)
  (h:∀ s',aQ X pins σ (aM H a (.ins C dx (oK f y fs))) s'->Q () s'):wpAny (model X.prog X.w) A (setAttr (.ref a) f u) Q E s:=by
 obtain ⟨mA,O,r,wi,_,ho⟩:=tZ I.hok e;have hz:(fs.map (·.1)).length<=sizeLine:=by rw [aDe,sizeLine_eq]; omega
 refine Pa I.kIn O c.sa c.po n.taker c.hd wi hz fun h' O' sb=>h _ ?_;have hd:∃ o,h'.get? dx=some o:=let ⟨o,_,_,e',_⟩:=O'.ns; ⟨o,e'⟩;refine I.write (x:=a) (e:=dx) (by rw [e]; exact True.intro) (.inr ho) (fun b q hb z=>(sb.2 b hb).trans z) hd ?_;refine ⟨by rw [aH O.ne]; exact ho,?_,O.ne,O'.obj,_,O'.ns,fun g=>?_,fun g hg=>?_⟩
 ·have:=tE f y fs; omega
 ·show mX ((oK f y fs).lookup g) (if g=f then some u else mA g);rw [sZ]
  by_cases q:g=f
  ·rw [if_pos q,if_pos q]; exact ry
  ·rw [if_neg q,if_neg q]; exact r g
 ·by_cases q:g=f
  ·rw [q]; exact (q8 f y fs).1
  ·refine (q8 f y fs).2 g (wi g fun z=>hg ?_);show (if g=f then some u else mA g)=none;rw [if_neg q]; exact z
theorem aQ.made (I:aQ X pins σ H s):aQ X pins σ (aM (aM H s.heap.objs.size (.own (s.heap.objs.size+1))) (s.heap.objs.size+1) (.ins C s.heap.objs.size []))
  { s with heap:=(s.heap.push PySem.W.emptyDict).push (PySem.W.instObj C s.heap.objs.size) }:=by
 have e1:(s.heap.push PySem.W.emptyDict).get? s.heap.objs.size=some PySem.W.emptyDict:=aDt s.heap rfl;have e2:((s.heap.push PySem.W.emptyDict).push (PySem.W.instObj C s.heap.objs.size)).get? (s.heap.objs.size+1)=some (PySem.W.instObj C s.heap.objs.size):=by
  have:=aDt (s.heap.push PySem.W.emptyDict) (o:=PySem.W.instObj C s.heap.objs.size) rfl
  rwa [aEb] at this
 have e3:(s.heap.push PySem.W.emptyDict).Ns s.heap.objs.size (fun _=>none):=⟨PySem.W.emptyDict,#[],_,e1,rfl,(fun e he=>absurd he (by simp)),fun _=>rfl⟩
 have I1:=I.laid (a:=s.heap.objs.size) (o:=.own (s.heap.objs.size+1)) (h':=s.heap.push PySem.W.emptyDict) (t':=s.toks) (fun b u q=>aDf _ q) (aDn _) ⟨_,e1⟩;refine I1.laid (a:=s.heap.objs.size+1) (o:=.ins C s.heap.objs.size []) (t':=s.toks) (fun b u q=>aDf _ q) (aFO (aEb _ _)) ?_;have ne:s.heap.objs.size≠s.heap.objs.size+1:=aDI (aFj _);refine ⟨by rw [aH ne,aA],aDK _,ne,e2,fun _=>none,(Heap.Ns1.of_empty e3).at fun o q=>aDf _ q,fun _=>True.intro,fun y hy=>absurd rfl hy⟩
theorem O2 {prog:Program}{w:World}{env:Env}{e:Expr}{f:Str}{pos:Pos}{s:Shared}{Q:Value->Shared->Prop}(hb:attributeBase e f env (eval e env)=eval e env)
  (h:wpAny (model prog w) A (eval e env) (fun o s₁=>wpAny (model prog w) A (getAttr o f true) Q E s₁) E s):wpAny (model prog w) A (eval (.Attribute e f pos) env) Q E s :=
 Attribute_any_ h (by rw [arm_eval_Attribute,hb])
end
def aAc (K:PySem.W.Frag)(ta:TE)(f:Str):TE:=fun σ H Q=>ta σ H fun x H1=>∃ a C dx fs v,x=.ref a/\H1 a=some (.ins C dx fs)/\Hw K C/\kZ K C f/\fs.lookup f=some v/\Q v H1
def ZK (K:PySem.W.Frag)(ta tv:TE)(f:Str):TS:=fun D σ H=>tv σ H fun y H1=>ta σ H1 fun x H2=>∃ a C dx fs,x=.ref a/\H2 a=some (.ins C dx fs)/\Hw K C/\kZ K C f/\fs.length<1000 ∧
 D.nx σ (aM H2 a (.ins C dx (oK f y fs)))
section
variable {X:Cx}{o e value:Expr}{f:Str}{pos pos' tpos:Pos}{ta tv:TE}
theorem qZ (he:PE X e ta)(hb:attributeBase e f X.env (eval e X.env)=eval e X.env):PE X (.Attribute e f pos) (aAc X.K ta f):=by
 intro pins s σ H Q I h;refine O2 hb (dF (he pins s σ H _ I h) fun u s1 ⟨x,H1,I1,rx,a,C,dx,fs,v,ex,ea,c,n,l,q⟩=>?_);subst ex;obtain rfl:u=Value.ref a:=rx;exact Df I1 ea c n l fun u' s2 I2 ru=>⟨v,H1,I2,ru,q⟩
theorem Qj (ha:PE X o ta)(hv:PE X value tv)(hs:swapsWith value (some (.Attribute o f pos')) pos.line X.env=pure false):PS X (.Assign [.Attribute o f pos'] value pos) (ZK X.K ta tv f):=by
 intro pins s σ H D I h;refine plainObj_wpAny_Assign_Attribute (dF (hv pins s σ H _ I h) fun u s1 ⟨y,H1,I1,ry,q⟩=>dF (ha pins s1 σ H1 _ I1 q) fun ov s2 ⟨x,H2,I2,rx,a,C,dx,fs,ex,ea,c,n,l,q2⟩=>?_) hs;subst ex;obtain rfl:ov=Value.ref a:=rx;exact Eg I2 ea c n l ry fun s3 I3=>⟨σ,_,I3,q2⟩
theorem QQ {pl:Sem Bool}{m:Str}{apos:Pos}{args:List Expr}{pins:List (Addr×Obj)}{s:Shared}{σ:St}{H:Hp}{Q:Value->Shared->Prop}{te:TE}(he:PE X e te)(I:aQ X pins σ H s)
  (h:te σ H fun x H1=>∃ a C dx fs g,x=.ref a/\H1 a=some (.ins C dx fs)/\Hw X.K C/\nJ X.K C m g/\fs.lookup m=none ∧
   ∀ s1,aQ X pins σ H1 s1->wpAny (model X.prog X.w) X.A (callWith pos (.ref g) [.ref a] (backTo pos (starEach args X.env)) (backToKw pos (keywordEach [] X.env))) Q X.xe s1)
  (ht:eval (.Call (.Attribute e m apos) args [] pos) X.env=(do
   let ov <- eval e X.env
   standAt apos.atName
   let (f,first) <- holding [ov] (getMethod ov m pl)
   callWith pos f first (backTo pos (starEach args X.env)) (backToKw pos (keywordEach [] X.env)))) :
  wpAny (model X.prog X.w) X.A (eval (.Call (.Attribute e m apos) args [] pos) X.env) Q X.xe s:=by
 refine PySem.W.methodCall_KW (pl:=pl) (dF (he pins s σ H _ I h) fun u s1 ⟨x,H1,I1,rx,a,C,dx,fs,g,ex,ea,c,k,l,q⟩=>?_) ht;subst ex;obtain rfl:u=Value.ref a:=rx;exact o8 I1 ea c k l (q s1 I1)
end
section
variable {X:Cx}{pins:List (Addr×Obj)}{σ:St}{H:Hp}{s:Shared}{A:Around}{E:Value->Shared->Prop}{Q:Value->Shared->Prop}{c:Value}{b:Bool}
inductive j4 (K:PySem.W.Frag)(H:Hp):V->Value->Prop where
 | non:j4 K H .non (.type "NoneType")
 | bl (x:Bool):j4 K H (.bl x) (.type "bool")
 | int (i:Int):j4 K H (.int i) (.type "int")
 | str (x:Str):j4 K H (.str x) (.type "str")
 | flt (x:UInt64):j4 K H (.flt x) (.type "float")
 | lst {a:Addr}{xs:List V} (e:H a=some (.lst xs)):j4 K H (.ref a) (.type "list")
 | frz {a:Addr}{o:Obj}{xs:List V} (e:H a=some (.frz o (.lst xs))):j4 K H (.ref a) (.type "list")
 | tup {a:Addr}{xs:List V} (e:H a=some (.tup xs)):j4 K H (.ref a) (.type "tuple")
 | dK {a:Addr}{kvs:List (Key×V)} (e:H a=some (.dK kvs)):j4 K H (.ref a) (.type "dict")
 | dT {a:Addr}{kvs:List (List Key×V)} (e:H a=some (.dT kvs)):j4 K H (.ref a) (.type "dict")
 | ins {a C dx:Addr}{fs:List (Str×V)} (e:H a=some (.ins C dx fs)) (cl:Hw K C) (ha:PySem.W.findIn K (.ref C) "__class__" = some (some (.builtin "object.__class__")))
   (hn:PySem.W.specialIn K (.builtin "object.__class__") "__get__" = some (some (.builtin "getset_descriptor.__get__"))) (htk:PySem.W.takesIn K (.builtin "object.__class__")=some true)
   (hm:PySem.W.mroIn K C (.type "object")=some true):j4 K H (.ref a) (.ref C)
theorem JQ {x:V}{u t:Value}(I:aQ X pins σ H s)(rx:RelV x u)(ty:j4 X.K H x t)(e:PySem.W.kitOne X.K t c=some b)(h:∀ tk,Q (.bool b) { s with toks:=tk }) :
  wpAny (model X.prog X.w) A (call (.builtin "isinstance") [u,c]) Q E s:=by
 cases ty with
 | non=>cases (show u=Value.none from rx); exact PySem.W.kia_one PySem.W.kitx_none I.kIn True.intro e (fun z=>nomatch z) h
 | bl y=>cases (show u=Value.bool y from rx); exact PySem.W.kia_one PySem.W.kitx_bool I.kIn True.intro e (fun z=>nomatch z) h
 | int i=>obtain ⟨t,q⟩:=(show ∃ t,u=Value.int i t from rx); cases q; exact PySem.W.kia_one PySem.W.kitx_int I.kIn True.intro e (fun z=>nomatch z) h
 | str y=>obtain ⟨t,q⟩:=(show ∃ t,u=Value.str y t from rx); cases q; exact PySem.W.kia_one PySem.W.kitx_str I.kIn True.intro e (fun z=>nomatch z) h
 | flt y=>obtain ⟨t,q⟩:=(show ∃ t,u=Value.float y t from rx); cases q; exact PySem.W.kia_one PySem.W.kitx_float I.kIn True.intro e (fun z=>nomatch z) h
 | @lst a xs ea =>
  cases (show u=Value.ref a from rx);obtain ⟨_,_,n,_,h1⟩:=(show cH X.prog X.w H s.heap a (.lst xs) from I.hok a _ ea)
  exact PySem.W.kia_one PySem.W.kitx_list I.kIn ⟨_,h1,rfl⟩ e (fun z=>nomatch z) h
 | @frz a ob xs ea =>
  cases (show u=Value.ref a from rx);obtain ⟨_,_,_,n,_,h1⟩:=(show cH X.prog X.w H s.heap a (.frz ob (.lst xs)) from I.hok a _ ea)
  exact PySem.W.kia_one PySem.W.kitx_list I.kIn ⟨_,h1,rfl⟩ e (fun z=>nomatch z) h
 | @tup a xs ea =>
  cases (show u=Value.ref a from rx);obtain ⟨_,_,_,p⟩:=(show cH X.prog X.w H s.heap a (.tup xs) from I.hok a _ ea)
  obtain ⟨o,h1,h2,_⟩:=p;exact PySem.W.kia_one PySem.W.kitx_tuple I.kIn ⟨o,h1,h2⟩ e (fun z=>nomatch z) h
 | @dK a kvs ea =>
  cases (show u=Value.ref a from rx);obtain ⟨_,_,vs,_,p⟩:=(show cH X.prog X.w H s.heap a (.dK kvs) from I.hok a _ ea)
  obtain ⟨o,es,ep,h1,h2,_⟩:=p;exact PySem.W.kia_one PySem.W.kitx_dict I.kIn ⟨o,h1,h2.1⟩ e (fun z=>nomatch z) h
 | @dT a kvs ea =>
  cases (show u=Value.ref a from rx);obtain ⟨_,_,xs,_,o,es,ep,h1,h2,_⟩:=(show cH X.prog X.w H s.heap a (.dT kvs) from I.hok a _ ea)
  exact PySem.W.kia_one PySem.W.kitx_dict I.kIn ⟨o,h1,h2.1⟩ e (fun z=>nomatch z) h
 | @ins a C dx fs ea cl ha hn htk hm =>
  cases (show u=Value.ref a from rx);obtain ⟨mA,O,_⟩:=tZ I.hok ea;obtain ⟨od,J,_⟩:=O.look;exact PySem.W.kia_one (PySem.W.kitx_own (cl.get _) cl.hd ha hn htk hm) I.kIn J e (fun z=>nomatch z) h
end
structure d8 (k:Nat)(A:Around):Prop where
 hd:A.handled=none
 dp:A.depth+3*k+5<recursionLimit
 un:A.units+16*k+200<cLine
theorem d8.mono {j k:Nat}{A:Around}(r:d8 k A)(h:j<=k):d8 j A:=⟨r.hd,by have:=r.dp; omega,by have:=r.un; omega⟩
theorem d8.deeper {k:Nat}{A:Around}(r:d8 (k+1) A)(env:Env):d8 k (A.deeper env) :=
 ⟨r.hd,by have:=r.dp; show A.depth+1+3*k+5<_; omega,by have:=r.un; show A.units+3+16*k+200<_; omega⟩
theorem Er {A:Around}{C:Addr}{us:List Value}{kw:List (Str×Value)}:(A.under (.builtin "type.__call__" ⟨.ref C::us,kw⟩)).depth=A.depth+1:=by
 first | rfl | simp [Around.under,Code.weight,Code.isCreation,Code.isGuard,Code.isCaller,Code.frames,Code.isFrame,guardIds]
theorem FW {A:Around}{C:Addr}{us:List Value}{kw:List (Str×Value)}:(A.under (.builtin "type.__call__" ⟨.ref C::us,kw⟩)).units=A.units+1:=by
 first | rfl | simp [Around.under,Code.cUnits,Code.frames,Code.isFrame]
theorem d8.make {k:Nat}{A:Around}(r:d8 (k+1) A)(C:Addr)(us:List Value)(kw:List (Str×Value)):d8 k (A.under (.builtin "type.__call__" ⟨.ref C::us,kw⟩)) :=
 ⟨r.hd,by have:=r.dp; rw [Er]; omega,by have:=r.un; rw [FW]; omega⟩
theorem d8.depth {k:Nat}{A:Around}(r:d8 k A):A.depth<recursionLimit:=by have:=r.dp; omega
theorem d8.units {k:Nat}{A:Around}(r:d8 k A):A.units+64<cLine:=by have:=r.un; omega
def Nq:TA:=fun _ H Q=>Q [] H
def Q8 (ta:TE)(tr:TA):TA:=fun σ H Q=>ta σ H fun x H1=>tr σ H1 fun xs H2=>Q (x::xs) H2
section
variable {X:Cx}{e:Expr}{es:List Expr}{te:TE}{t:TA}{pos:Pos}
theorem aD:PA X [] Nq:=fun _ _ _ _ H Q I h=>Calls.spliced_nil ⟨[],H,I,.nil,h⟩
theorem aB (ha:PE X e te)(hr:PA X es t)(hs:starEach (e::es) X.env=(false,eval e X.env)::starEach es X.env:=by rfl):PA X (e::es) (Q8 te t):=by
 intro pos pins s σ H Q I h;rw [hs];show wpAny _ _ (spliced ((false,eval e X.env)::backTo pos (starEach es X.env))) _ _ s;refine Calls.spliced_cons (dF (ha pins s σ H _ I h) fun u s1 ⟨x,H1,I1,r1,q1⟩=>?_);exact dF (hr pos pins s1 σ H1 _ I1 q1) fun us s2 ⟨xs,H2,I2,r2,q2⟩=>⟨x::xs,H2,I2,.cons r1 r2,q2⟩
def We (t:TA):TE:=fun σ H Q=>t σ H fun xs H1=>xs.length<=sizeLine/\∀ p,H1 p=none->Q (.ref p) (aM H1 p (.tup xs))
def U5 (t:TA):TE:=fun σ H Q=>t σ H fun xs H1=>xs.length<=sizeLine/\∀ p,H1 p=none->Q (.ref p) (aM H1 p (.lst xs))
theorem gQ {x1}(h:PA X es t):PE X (.Tuple es x1 pos) (We t):=by
 intro pins s σ H Q I hq;refine wpAny_Tuple_spliced (dF (h pos pins s σ H _ I hq) fun us s1 ⟨xs,H1,I1,r,z,q⟩=>⟨by rw [<- r.length]; exact z,?_⟩);have hf:H1 s1.heap.objs.size=none:=I1.hok.fresh (aDn _);refine ⟨.ref s1.heap.objs.size,aM H1 s1.heap.objs.size (.tup xs),I1.laid (t':=s1.toks) (fun b u e=>aDf _ e) (aDn _) ?_,rfl,q _ hf⟩;exact ⟨z,us,r,⟨_,aDt _ rfl,rfl,_,rfl⟩⟩
theorem jU (h:PA X es t):PE X (.List es pos) (U5 t):=by
 intro pins s σ H Q I hq;refine wpAny_List_spliced (dF (h pos pins s σ H _ I hq) fun us s1 ⟨xs,H1,I1,r,z,q⟩=>⟨by rw [<- r.length]; exact z,?_⟩);have hf:H1 s1.heap.objs.size=none:=I1.hok.fresh (aDn _);refine ⟨.ref s1.heap.objs.size,aM H1 s1.heap.objs.size (.lst xs),I1.laid (t':=s1.toks) (fun b u e=>aDf _ e) (aDn _) ?_,rfl,q _ hf⟩;exact ⟨z,us,0,r,aDt _ rfl⟩
end
abbrev Sp:=List V->Hp->VK->XK->Prop
abbrev Al:=List Env->Hp->Shared->XK->Value->Shared->Prop
structure wD (P:Program)(w:World)(K:PySem.W.Frag)(mg:Str->Option Value)(base:Heap)(A:Around)(outer:List Env)(s:Shared)(H:Hp):Prop where
 frames:A.frames=some outer
 mod:Mod K mg base
 bs:∀ b o,base.get? b=some o->s.heap.get? b=some o/\H b=none
 bsz:base.objs.size<=s.heap.objs.size
 funs:s.heap.FunFrames base outer
 frf:∀ b∈qW outer,H b=none
 hok:n6 P w H s.heap
 bare:AllBare s.gens
def CE (outer:List Env)(P:Program)(w:World)(H:Hp)(s:Shared)(Q:VK)(u:Value)(s':Shared):Prop :=
 ∃ v H',s'.os=s.os/\AllBare s'.gens/\Un (qW outer) [] H H' s.heap s'.heap/\n6 P w H' s'.heap/\RelV v u/\Q v H'
def CR (CX:Al)(outer:List Env)(P:Program)(w:World)(H:Hp)(s:Shared)(Q:VK)(E:XK)(r:Result)(s':Shared):Prop :=
 match r with
 | .ok (.ret u)=>CE outer P w H s Q u s'
 | .ok _=>False
 | .error e=>CX outer H s E e s'
structure bH (P:Program)(w:World)(K:PySem.W.Frag)(mg:Str->Option Value)(base:Heap)(CX:Al)(k:Nat)(f:Addr)(fd:FuncData)(ps:List Str)(sp:Sp):Prop where
 len:∀ vs H Q E,sp vs H Q E->vs.length=ps.length
 run:∀ (A:Around) (outer:List Env) (s:Shared) (H:Hp) (args:Args) (us:List Value) (vs:List V) (Q:VK) (E:XK),d8 k A->wD P w K mg base A outer s H->BindsTo s fd args (ps.zip us)->bV vs us->sp vs H Q E ->
  codeAny (model P w) A (.call (.ref f) args) (CR CX outer P w H s Q E) s
theorem bH.mono {P:Program}{w:World}{K:PySem.W.Frag}{mg:Str->Option Value}{base:Heap}{CX:Al}{j k:Nat}{f:Addr}{fd:FuncData}{ps:List Str}{sp:Sp}(F:bH P w K mg base CX j f fd ps sp)(h:j<=k) :
  bH P w K mg base CX k f fd ps sp:=⟨F.len,fun A outer s H args us vs Q E hr=>F.run A outer s H args us vs Q E (hr.mono h)⟩
theorem bH.imp {P:Program}{w:World}{K:PySem.W.Frag}{mg:Str->Option Value}{base:Heap}{CX:Al}{k:Nat}{f:Addr}{fd:FuncData}{ps:List Str}{sp sp':Sp}(F:bH P w K mg base CX k f fd ps sp)
  (h:∀ vs H Q E,sp' vs H Q E->sp vs H Q E):bH P w K mg base CX k f fd ps sp' :=
 ⟨fun vs H Q E q=>F.len vs H Q E (h _ _ _ _ q),fun A outer s H args us vs Q E hr he hb hv hs=>F.run A outer s H args us vs Q E hr he hb hv (h _ _ _ _ hs)⟩
theorem wD.make {P:Program}{w:World}{K:PySem.W.Frag}{mg:Str->Option Value}{base:Heap}{A:Around}{outer:List Env}{s:Shared}{H:Hp}(e:wD P w K mg base A outer s H)(C:Addr)(us:List Value)(kw:List (Str×Value)) :
  wD P w K mg base (A.under (.builtin "type.__call__" ⟨.ref C::us,kw⟩)) outer s H:=⟨by first | exact e.frames | (simpa [Around.under,Code.envs,Code.isFrame,pushEnvs] using e.frames),e.mod,e.bs,e.bsz,e.funs,e.frf,e.hok,e.bare⟩
section
variable {X:Cx}{pins:List (Addr×Obj)}{σ:St}{H:Hp}{s s':Shared}
theorem aQ.env0 (I:aQ X pins σ H s):wD X.prog X.w X.K X.mg X.base X.A X.stack s H :=
 ⟨I.ok.frames,I.ok.mod,I.bs,aDh I.ok.bsz I.sz,I.stack,I.stkFree,I.hok,I.bare⟩
theorem aQ.after {Q:VK}{u:Value}(I:aQ X pins σ H s)(h:CE X.stack X.prog X.w H s Q u s'):EP X pins σ Q u s':=by
 obtain ⟨v,H',os,bare,un,hok,r,q⟩:=h;obtain ⟨hh,g,d,t,os'⟩:=s';obtain rfl:os'=s.os:=os;exact ⟨v,H',I.call (h':=hh) (g':=g) (d':=d) (t':=t) (ch:=[]) un hok bare (fun b z=>absurd z (by simp)),r,q⟩
end
def Fz (sp:Sp)(dvs:List V)(E:XK)(t:TA):TE:=fun σ H Q=>t σ H fun vs H1=>sp (vs++dvs) H1 Q E
def Lq (C:Addr)(m:Str)(sp:Sp)(dvs:List V)(E:XK)(ta:TE)(t:TA):TE:=fun σ H Q=>ta σ H fun x H1=>∃ a dx fs,x=.ref a/\H1 a=some (.ins C dx fs)/\fs.lookup m=none ∧
 t σ H1 fun vs H2=>sp (x::(vs++dvs)) H2 Q E
def Q5 (C:Addr)(sp:Sp)(dvs:List V)(E:XK)(t:TA):TE:=fun σ H Q=>t σ H fun vs H1=>∀ x dx,H1 x=none->H1 dx=none->dx≠x ->
 sp (.ref x::(vs++dvs)) (aM (aM H1 dx (.own x)) x (.ins C dx [])) (fun v H2=>v=.non/\Q (.ref x) H2) E
def Binds (K:PySem.W.Frag)(fd:FuncData)(ps:List Str)(ds:List Value):Prop :=
 ∀ (s:Shared) (us:List Value),K.In s.heap->(us++ds).length=ps.length->BindsTo s fd ⟨us,[]⟩ (ps.zip (us++ds))
theorem Binds.all {K:PySem.W.Frag}{fd:FuncData}{ps:List Str}(h:∀ us:List Value,us.length=ps.length->bindArgs fd ⟨us,[]⟩=pure (ps.zip us)):Binds K fd ps []:=fun s us _ hl=>by
 rw [aE8] at hl ⊢;exact .of_eq (h us hl)
def gR (CX:Al)(X:Cx)(E:XK):Prop:=∀ (pins:List (Addr×Obj)) (σ:St) (H:Hp) (s:Shared) (e:Value) (s':Shared),aQ X pins σ H s->CX X.stack H s E e s'->X.xe e s'
section
variable {X:Cx}{CX:Al}{k:Nat}{f C:Addr}{fd:FuncData}{ps:List Str}{sp:Sp}{dvs:List V}{ds:List Value}{E:XK}{x m:Str}{p pos apos:Pos}{e o:Expr}{es:List Expr}{ta:TE}{t:TA}
theorem Eu {pins:List (Addr×Obj)}{σ:St}{H:Hp}{s:Shared}{Q:VK}{us:List Value}{vs:List V}(F:bH X.prog X.w X.K X.mg X.base CX k f fd ps sp)(hr:d8 k X.A)(hb:Binds X.K fd ps ds)(hd:bV dvs ds)(hx:gR CX X E)
  (I:aQ X pins σ H s) (r:bV vs us) (h:sp (vs++dvs) H Q E):wpAny (model X.prog X.w) X.A (call (.ref f) us) (EP X pins σ Q) X.xe s:=by
 have r2:bV (vs++dvs) (us++ds):=r.append hd;have hl:(us++ds).length=ps.length:=by rw [<- r2.length]; exact F.len _ _ _ _ h
 refine wpAny_call (codeAny_mono (F.run X.A X.stack s H ⟨us,[]⟩ (us++ds) (vs++dvs) Q E hr I.env0 (hb s us I.kIn hl) r2 h) fun r s' hq=>?_);cases r with
 | error e=>exact hx pins σ H s e s' I hq
 | ok fl =>
  cases fl with
  | ret u=>exact I.after hq
  | next=>exact False.elim hq
  | brk=>exact False.elim hq
  | cont=>exact False.elim hq
theorem O4 (F:bH X.prog X.w X.K X.mg X.base CX k f fd ps sp)(hr:d8 k X.A)(hg:Gl X x)(hm:X.mg x=some (.ref f))(hk:PySem.W.keepIn X.K (.ref f)=true)(hb:Binds X.K fd ps ds)(hd:bV dvs ds)(hx:gR CX X E)
  (ha:PA X (e::es) t) (hdb:(x==("__debug__" : Str))=false:=by decide) (he:starEach (e::es) X.env=(false,eval e X.env)::starEach es X.env:=by rfl) (hpl:(backTo pos (starEach es X.env)).any (·.1)=false:=by rfl) :
  PE X (.Call (.Name x p) (e::es) [] pos) (Fz sp dvs E t):=by
 intro pins s σ H Q I h;refine wpAny_Call_Name_kw (nZ I hg hm ?_ hdb);refine PySem.W.callWith_K (h₀:=X.base) I.ok.mod.kin hk (dF (ha pos pins s σ H _ I h) fun us s1 ⟨vs,H1,I1,r,q⟩=>⟨I1.kIn,?_⟩) he hpl;exact Eu F hr hb hd hx I1 r q
theorem qN {pl:Sem Bool}(he:PE X o ta)(c:Hw X.K C)(hm:nJ X.K C m f)(F:bH X.prog X.w X.K X.mg X.base CX k f fd ps sp)(hr:d8 k X.A)(hb:Binds X.K fd ps ds)(hd:bV dvs ds)(hx:gR CX X E)(ha:PA X (e::es) t)
  (hst:starEach (e::es) X.env=(false,eval e X.env)::starEach es X.env:=by rfl) (hpl:(backTo pos (starEach es X.env)).any (·.1)=false:=by rfl)
  (ht:eval (.Call (.Attribute o m apos) (e::es) [] pos) X.env=(do
   let ov <- eval o X.env
   standAt apos.atName
   let (f,first) <- holding [ov] (getMethod ov m pl)
   callWith pos f first (backTo pos (starEach (e::es) X.env)) (backToKw pos (keywordEach [] X.env))):=by rfl) :
  PE X (.Call (.Attribute o m apos) (e::es) [] pos) (Lq C m sp dvs E ta t):=by
 intro pins s σ H Q I h;refine PySem.W.methodCall_KW (pl:=pl) (dF (he pins s σ H _ I h) fun u s1 ⟨x,H1,I1,rx,a,dx,fs,ex,ea,l,q⟩=>?_) ht;subst ex;obtain rfl:u=Value.ref a:=rx;refine o8 I1 ea c hm l ?_;refine PySem.W.callWith_K (first:=[.ref a]) (h₀:=X.base) I.ok.mod.kin hm.kp (dF (ha pos pins s1 σ H1 _ I1 q) fun us s2 ⟨vs,H2,I2,r,q2⟩=>⟨I2.kIn,?_⟩) hst hpl;exact Eu (us:=.ref a::us) (vs:=.ref a::vs) F hr hb hd hx I2 (.cons rfl r) q2
theorem qF {pl:Sem Bool}(he:PE X o ta)(c:Hw X.K C)(hm:nJ X.K C m f)(F:bH X.prog X.w X.K X.mg X.base CX k f fd ps sp)(hr:d8 k X.A)(hb:Binds X.K fd ps ds)(hd:bV dvs ds)(hx:gR CX X E)
  (ht:eval (.Call (.Attribute o m apos) [] [] pos) X.env=(do
   let ov <- eval o X.env
   standAt apos.atName
   let (f,first) <- holding [ov] (getMethod ov m pl)
   callWith pos f first (backTo pos (starEach [] X.env)) (backToKw pos (keywordEach [] X.env))):=by rfl) :
  PE X (.Call (.Attribute o m apos) [] [] pos) (Lq C m sp dvs E ta Nq):=by
 intro pins s σ H Q I h;refine PySem.W.methodCall_KW (pl:=pl) (dF (he pins s σ H _ I h) fun u s1 ⟨x,H1,I1,rx,a,dx,fs,ex,ea,l,q⟩=>?_) ht;subst ex;obtain rfl:u=Value.ref a:=rx;refine o8 I1 ea c hm l ?_;exact PySem.W.callWith_K0 (first:=[.ref a]) I1.kIn hm.kp (Eu (us:=[.ref a]) (vs:=[.ref a]) F hr hb hd hx I1 (.cons rfl .nil) q)
structure Mk (K:PySem.W.Frag)(C f:Addr):Prop where
 makes:PySem.W.makesIn K C=true
 init:PySem.W.findIn K (.ref C) "__init__" = some (some (.ref f))
 fn:PySem.W.isFn K (.ref f)=true
 kp:PySem.W.keepIn K (.ref C)=true
theorem Kw {pins:List (Addr×Obj)}{σ:St}{H:Hp}{s:Shared}{Q:VK}{us:List Value}{vs:List V}(M:Mk X.K C f)(F:bH X.prog X.w X.K X.mg X.base CX k f fd ps sp)(hr:d8 (k+1) X.A)(hb:Binds X.K fd ps ds)(hd:bV dvs ds)
  (hx:gR CX X E) (I:aQ X pins σ H s) (r:bV vs us)
  (h:∀ x dx,H x=none->H dx=none->dx≠x->sp (.ref x::(vs++dvs)) (aM (aM H dx (.own x)) x (.ins C dx [])) (fun v H2=>v=.non/\Q (.ref x) H2) E) :
  wpAny (model X.prog X.w) X.A (call (.ref C) us) (EP X pins σ Q) X.xe s:=by
 have hq:=h (s.heap.objs.size+1) s.heap.objs.size (I.hok.fresh (aE2 _)) (I.hok.fresh (aDn _)) (aDI (aFj _));have I2:=aQ.made (C:=C) I;have r2:bV (V.ref (s.heap.objs.size+1)::(vs++dvs)) (Value.ref (s.heap.objs.size+1)::(us++ds)):=.cons rfl (r.append hd);have hl:(Value.ref (s.heap.objs.size+1)::us++ds).length=ps.length:=by
  have e:=r2.length;rw [F.len _ _ _ _ hq] at e;exact e.symm
 refine wpAny_call (Ld (f:=f) I.kIn M.makes M.init (beq_iff_eq.mp M.fn) (codeAny_mono (F.run _ X.stack _ _ ⟨Value.ref (s.heap.objs.size+1)::us,[]⟩ (Value.ref (s.heap.objs.size+1)::(us++ds)) _ _ E (hr.make C us [])
  (I2.env0.make C us []) (hb _ (Value.ref (s.heap.objs.size+1)::us) I2.kIn hl) r2 hq) fun r s' hq'=>?_))
 cases r with
 | error e=>exact hx pins σ _ _ e s' I2 hq'
 | ok fl =>
  cases fl with
  | ret u =>
   obtain ⟨v,H',I3,rv,ev,q3⟩:=I2.after hq';subst ev;exact ⟨rv,⟨V.ref (s.heap.objs.size+1),H',I3,rfl,q3⟩⟩
  | next=>exact False.elim hq'
  | brk=>exact False.elim hq'
  | cont=>exact False.elim hq'
theorem Fq (M:Mk X.K C f)(F:bH X.prog X.w X.K X.mg X.base CX k f fd ps sp)(hr:d8 (k+1) X.A)(hg:Gl X x)(hm:X.mg x=some (.ref C))(hb:Binds X.K fd ps ds)(hd:bV dvs ds)(hx:gR CX X E)
  (ha:PA X (e::es) t) (hdb:(x==("__debug__" : Str))=false:=by decide) (he:starEach (e::es) X.env=(false,eval e X.env)::starEach es X.env:=by rfl) (hpl:(backTo pos (starEach es X.env)).any (·.1)=false:=by rfl) :
  PE X (.Call (.Name x p) (e::es) [] pos) (Q5 C sp dvs E t):=by
 intro pins s σ H Q I h;refine wpAny_Call_Name_kw (nZ I hg hm ?_ hdb);refine PySem.W.callWith_K (h₀:=X.base) I.ok.mod.kin M.kp (dF (ha pos pins s σ H _ I h) fun us s1 ⟨vs,H1,I1,r,q⟩=>⟨I1.kIn,?_⟩) he hpl;exact Kw M F hr hb hd hx I1 r q
end
structure aP (N P:List Str)(sc:Scope):Prop where
 kind:sc.kind=.function
 co:sc.isCoroutine=false
 gen:sc.isGenerator=false
 nd:N.Nodup
 pre:N.take P.length=P
 par:∀ x∈P,sc.names.lookup x=some .local∨sc.names.lookup x=some .cell
 nofree:∀ y∈sc.names,y.2≠.free
theorem xC {kindOf:Str->Option NameKind}{x:Str}:∀ {binds:List (Str×Value)}{m:Str->Option Value},(∀ v,(x,v)∉binds)->bindL kindOf binds m x=m x
 | [],_,_=>rfl
 | (n,v)::r,m,h=>by
  unfold bindL;rw [xC fun w hw=>h w (aDk _ hw)]
  split
  ·have:x≠n:=by rintro rfl; exact h v aDj
   simp [this]
  ·rfl
theorem yG {kindOf:Str->Option NameKind}{x:Str}:∀ {binds:List (Str×Value)}{m:Str->Option Value},(∀ v,(x,v)∉binds)->bindC kindOf binds m x=m x
 | [],_,_=>rfl
 | (n,v)::r,m,h=>by
  unfold bindC;rw [yG fun w hw=>h w (aDk _ hw)]
  split
  ·rfl
  ·have:x≠n:=by rintro rfl; exact h v aDj
   simp [this]
theorem xK {kindOf:Str->Option NameKind}{x:Str}{v:Value}:∀ {P:List Str}{vs:List Value}{i:Nat}{m:Str->Option Value},P.Nodup->P[i]? = some x->vs[i]? = some v->kindOf x=some .local ->
  bindL kindOf (P.zip vs) m x=some v
 | [],_,_,_,_,h,_,_=>by simp at h
 | _::_,[],_,_,_,_,h,_=>by simp at h
 | p::P,w::vs,0,m,nd,h1,h2,hk=>by
  simp at h1 h2; subst h1; subst h2;show bindL kindOf ((p,w)::P.zip vs) m p=_;unfold bindL;rw [xC fun v hv=>(aEe.mp nd).1 (aEM hv).1,if_pos hk];simp
 | p::P,w::vs,i+1,m,nd,h1,h2,hk=>by
  show bindL kindOf ((p,w)::P.zip vs) m x=_;unfold bindL;exact xK (i:=i) (aEe.mp nd).2 (by simpa using h1) (by simpa using h2) hk
theorem xF {kindOf:Str->Option NameKind}{x:Str}{v:Value}:∀ {P:List Str}{vs:List Value}{i:Nat}{m:Str->Option Value},P.Nodup->P[i]? = some x->vs[i]? = some v->kindOf x≠some .local ->
  bindC kindOf (P.zip vs) m x=some v
 | [],_,_,_,_,h,_,_=>by simp at h
 | _::_,[],_,_,_,_,h,_=>by simp at h
 | p::P,w::vs,0,m,nd,h1,h2,hk=>by
  simp at h1 h2; subst h1; subst h2;show bindC kindOf ((p,w)::P.zip vs) m p=_;unfold bindC;rw [yG fun v hv=>(aEe.mp nd).1 (aEM hv).1,if_neg hk];simp
 | p::P,w::vs,i+1,m,nd,h1,h2,hk=>by
  show bindC kindOf ((p,w)::P.zip vs) m x=_;unfold bindC;exact xF (i:=i) (aEe.mp nd).2 (by simpa using h1) (by simpa using h2) hk
def start (N:List Str)(vs:List V):St:=vs.map some++aDx (N.length-vs.length) none
def pN (CX:Al)(P:Program)(w:World)(K:PySem.W.Frag)(mg:Str->Option Value)(base:Heap)(N:List Str)(qual:Str)(scope:Scope)(f:Addr)(cd:Value)(A:Around)(outer:List Env)(s:Shared)(H:Hp)(E:XK):Cx where
 prog:=P
 w:=w
 K:=K
 mg:=mg
 base:=base
 A:=A.deeper (envOfC qual scope s.heap.objs.size f cd)
 N:=N
 s₀:=s
 H₀:=H
 env:=envOfC qual scope s.heap.objs.size f cd
 outer:=outer
 stack:=envOfC qual scope s.heap.objs.size f cd::outer
 ex:=[]
 calm:=true
 fn:=fun _=>true
 pn:=[]
 xe:=fun e s'=>wpAny (model P w) (A.deeper (envOfC qual scope s.heap.objs.size f cd)) (leaving (envOfC qual scope s.heap.objs.size f cd) e) (fun _ s''=>CX outer H s E e s'') (fun e' s''=>CX outer H s E e' s'') s'
theorem CT {sc:Scope}{n:Nat}{x:Str}(h:sc.names.lookup x=some .cell):∃ c,(cellsFrom n sc.names []).lookup x=some c:=by
 have q:=PySem.W.cellsFrom_some sc.names n [] (.inl h);exact aEt.mp q
theorem rP {CX:Al}{P:Program}{w:World}{K:PySem.W.Frag}{mg:Str->Option Value}{base:Heap}{N ps:List Str}{qual:Str}{scope:Scope}{f:Addr}{cd:Value}{A:Around}{outer:List Env}{s s1:Shared}{H:Hp}{E:XK}{us:List Value}{vs:List V}
  (S:aP N ps scope) (hd:A.handled=none) (e0:wD P w K mg base A outer s H) (hl:vs.length=ps.length) (r:bV vs us)
  (x:InCallC s s.heap.objs.size (bindL (envOfC qual scope s.heap.objs.size f cd).kindOf (ps.zip us) fun _=>none) (cellsFrom (s.heap.objs.size+1) scope.names []) (bindC (envOfC qual scope s.heap.objs.size f cd).kindOf (ps.zip us) fun _=>none) s1) :
  aQ (pN CX P w K mg base N qual scope f cd A outer s H E) [] (start N vs) H s1:=by
 have hpl:ps.length<=N.length:=by have:=congrArg aDP S.pre; rw [aDu] at this; omega
 obtain ⟨h1,tk,rfl,hk⟩:=x.done;have noA:∀ b:Addr,b∉(pN CX P w K mg base N qual scope f cd A outer s H E).ex:=fun b z=>absurd (show b∈([]:List Addr) from z) (by simp);refine ⟨⟨e0.mod,S.kind,rfl,rfl,aDn _,fun y z c h1 h2=>?_,fun y hy=>?_,fun y c _ h=>?_,fun _=>hd,Around.frames_deeper e0.frames,.inr ⟨rfl,rfl⟩,fun b z=>absurd z (noA b),e0.bs,e0.bsz,fun b _ _=>noA b,fun b z=>absurd z (noA b),e0.funs,e0.frf⟩,
  rfl,e0.bare,Un.kept hk,⟨_,x.toInCall.ns,fun i y v h1 h2 h3=>?_⟩,fun y c h=>⟨_,x.cell y c h⟩,e0.hok.fresh (aDn _),fun y c h=>?_,fun p hp=>absurd (show p∈([]:List (Addr×Obj)) from hp) (by simp),e0.hok.kept hk,?_⟩
 ·exact name_of_addr x.apart (PySem.mem_of_lookup h1) (PySem.mem_of_lookup h2)
 ·have hy:scope.names.lookup y=some .cell∨scope.names.lookup y=some .free:=hy;rcases hy with hy | hy
  ·exact CT hy
  ·exact absurd rfl (S.nofree _ (PySem.mem_of_lookup hy))
 ·exact aDO (x.above y c (PySem.mem_of_lookup h))
 ·have hi:i<vs.length:=by
   unfold start at h2
   by_cases hi:i<vs.length
   ·exact hi
   ·rw [aDM (by simpa using hi)] at h2;rw [aEP] at h2
    split at h2 <;> cases h2
  have ha:vs[i]? = some v:=by
   unfold start at h2;rw [aD3 (by simpa using hi),aDm] at h2;cases e:vs[i]? with
   | none=>rw [e] at h2; cases h2
   | some a=>rw [e] at h2; cases h2; rfl
  obtain ⟨u,hu,rv⟩:=r.get ha;have hp:ps[i]? = some y:=by
   rw [<- S.pre,aEJ (by omega)]; exact h1
  have ndP:ps.Nodup:=by rw [<- S.pre]; exact S.nd.sublist (List.take_sublist _ _)
  refine ⟨u,rv,?_⟩;rcases S.par y (aDi hp) with k | k
  ·exact .inl ⟨k,xK ndP hp hu k⟩
  ·obtain ⟨c,e⟩:=CT (n:=s.heap.objs.size+1) k;refine .inr ⟨.inl k,c,e,?_⟩;have q:=x.cell y c e;rw [xF ndP hp hu (by show scope.names.lookup y≠_; rw [k]; decide)] at q;exact q
 ·exact e0.hok.fresh (aDO (x.above y c (PySem.mem_of_lookup h)))
 ·unfold start;show _=N.length;rw [aDp,aDe,aDZ];omega
theorem Mi {CX:Al}{P:Program}{w:World}{K:PySem.W.Frag}{mg:Str->Option Value}{base:Heap}{k:Nat}{f:Addr}{name qual:Str}{params:Arguments}{body:List Stmt}{scope:Scope}{dV kV doc pm cdv ct oc:Value}{an od:Option Addr}
  {osl:Array (Option Value)}{N ps:List Str}{sp:Sp} (lk:K.lookup f=some ⟨oc,od,.func (PySem.W.fnOf name qual params body scope dV kV doc pm an cdv ct),osl⟩) (hcd:PySem.W.codeIn K cdv qual=true) (S:aP N ps scope)
  (len:∀ vs H Q E,sp vs H Q E->vs.length=ps.length)
  (hbody:∀ (A:Around) (outer:List Env) (s:Shared) (H:Hp) (vs:List V) (Q:VK) (E:XK),d8 k (A.deeper (envOfC qual scope s.heap.objs.size f cdv))->sp vs H Q E ->
   ∃ t,qR (pN CX P w K mg base N qual scope f cdv A outer s H E) body t/\t { nx:=fun _ H'=>Q .non H',rt:=Q } (start N vs) H) :
  bH P w K mg base CX (k+1) f (PySem.W.fnOf name qual params body scope dV kV doc pm an cdv ct) ps sp:=by
 refine ⟨len,fun A outer s H args us vs Q E hr e0 hb r hsp=>?_⟩;have hl:=len _ _ _ _ hsp;have KX:K.In s.heap:=e0.mod.kin.keeps fun b o e=>(e0.bs b o e).1;have lim:s.heap.NoLimit:=e0.mod.nolimit.keeps fun b o e=>(e0.bs b o e).1;have hkind:∀ y∈ps.zip us,scope.names.lookup y.1=some .local∨(scope.names.lookup y.1=some .cell/\((cellsFrom (s.heap.objs.size+1) scope.names []).lookup y.1).isSome=true):=fun ⟨n,v⟩ hy=>by
  rcases S.par n (aEM hy).1 with q | q
  ·exact .inl q
  ·exact .inr ⟨q,PySem.W.cellsFrom_some _ _ _ (.inl q)⟩
 refine codeAny_call_function hr.depth (KX _ _ lk) rfl S.co S.gen rfl (PySem.W.codeRec_of KX hcd) (hb _ _ _ _ ?_);refine wpAny_newFunctionEnv_cells S.kind hkind fun env he s1 x=>?_;subst he;refine ⟨lim.keeps x.toInCall.keep,codeAny_func ?_⟩;obtain ⟨t,ht,hq⟩:=hbody A outer s H vs Q E (hr.deeper _) hsp;have I:aQ (pN CX P w K mg base N qual scope f cdv A outer s H E) [] (start N vs) H s1:=rP S hr.hd e0 hl r x;refine wpAny_mono (ht [] s1 (start N vs) H _ I hq) (fun fl s' hs=>?_) fun e s' hs=>hs;have fin:∀ {σ':St}{H':Hp}{v:V}{u:Value},aQ (pN CX P w K mg base N qual scope f cdv A outer s H E) [] σ' H' s'->RelV v u->Q v H'->CE outer P w H s Q u s' :=
  fun {σ' H' v u} J rv q=>⟨v,H',J.os,J.bare,J.base,J.hok,rv,q⟩
 cases fl with
 | ret u =>
  obtain ⟨v,σ',H',J,rv,q⟩:=hs;exact fin J rv q
 | next =>
  obtain ⟨σ',H',J,q⟩:=hs;exact fin (v:=V.non) (u:=Value.none) J rfl q
 | brk =>
  obtain ⟨_,_,_,q⟩:=hs;exact False.elim q
 | cont =>
  obtain ⟨_,_,_,q⟩:=hs;exact False.elim q
section
variable {X:Cx}{x:Str}{p pos:Pos}{e:Expr}{es:List Expr}{t:TA}{id T:String}{r:List V->Hp->VK->Prop}
def Xd (r:List V->Hp->VK->Prop)(t:TA):TE:=fun σ H Q=>t σ H fun vs H1=>r vs H1 Q
theorem aY (hc:fB X (.builtin id) r)(hg:Gl X x)(hm:X.mg x=none)(hv:bootBuiltins x=some (.builtin id))(ha:PA X (e::es) t)(hn:x≠"__name__":=by decide)(hdb:(x==("__debug__" : Str))=false:=by decide)
  (he:starEach (e::es) X.env=(false,eval e X.env)::starEach es X.env:=by rfl) (hpl:(backTo pos (starEach es X.env)).any (·.1)=false:=by rfl):PE X (.Call (.Name x p) (e::es) [] pos) (Xd r t):=by
 intro pins s σ H Q I h;refine wpAny_Call_Name_kw (jQ I hg hm hv ?_ hn hdb);exact PyProof.Rows.callWith_builtin1 (dF (ha pos pins s σ H _ I h) fun us s1 ⟨vs,H1,I1,r1,q1⟩=>hc pins s1 σ H1 vs us Q I1 r1 q1) he hpl
theorem fZ (hc:fB X (.type T) r)(hg:Gl X x)(hm:X.mg x=none)(hv:bootBuiltins x=some (.type T))(ha:PA X (e::es) t)(hn:x≠"__name__":=by decide)(hdb:(x==("__debug__" : Str))=false:=by decide)
  (he:starEach (e::es) X.env=(false,eval e X.env)::starEach es X.env:=by rfl) (hpl:(backTo pos (starEach es X.env)).any (·.1)=false:=by rfl):PE X (.Call (.Name x p) (e::es) [] pos) (Xd r t):=by
 intro pins s σ H Q I h;refine wpAny_Call_Name_kw (jQ I hg hm hv ?_ hn hdb);exact PyProof.Rows.callWith_type1 (dF (ha pos pins s σ H _ I h) fun us s1 ⟨vs,H1,I1,r1,q1⟩=>hc pins s1 σ H1 vs us Q I1 r1 q1) he hpl
end
end L2
namespace HT
open PySem PyProof.Rows
section
variable {prog:Program}{w:World}{A:Around}{E:Value->Shared->Prop}{s:Shared}
def u0 (n d:Nat):Option Int->Nat
 | none=>d
 | some v=>if v<0 then (v+(n:Int)).toNat else min v.toNat n
theorem GC (n d k:Nat):u0 n d (some (k:Int))=min k n:=by
 show (if (k:Int)<0 then ((k:Int)+(n:Int)).toNat else min (k:Int).toNat n)=min k n;rw [if_neg (by omega),aEr]
end
end HT
namespace L2
open PySem PySem.Spec PyProof.Rows
abbrev TO:=St->Hp->(Option Int->Hp->Prop)->Prop
def PO (X:Cx)(e:Option Expr)(t:TO):Prop :=
 ∀ (pins:List (Addr×Obj)) (s:Shared) (σ:St) (H:Hp) (Q:Option Int->Hp->Prop),aQ X pins σ H s->t σ H Q ->
  wpAny (model X.prog X.w) X.A (evalPart e X.env) (fun u s'=>∃ o H',aQ X pins σ H' s'/\IsPart u o/\Q o H') X.xe s
def GJ:TO:=fun _ H Q=>Q none H
def Q6 (t:TE):TO:=fun σ H Q=>t σ H fun x H1=>∃ i,x=.int i/\Q (some i) H1
theorem intsAre_of {ns:List Int}:∀ {us:List Value},bV (ns.map V.int) us->IntsAre us ns:=by
 induction ns with
 | nil=>intro us r; rw [aFr] at r; cases r; exact .nil
 | cons n ns ih =>
  intro us r;rw [aDE] at r;cases r with
  | cons r1 r2 =>
   obtain ⟨t,e⟩:=r1;subst e;exact .cons n t (ih r2)
section
variable {X:Cx}{e:Expr}{te:TE}{lo hi:Option Expr}{tl th:TO}{pos p2:Pos}
theorem yP:PO X none GJ:=by
 intro pins s σ H Q I h;rw [evalPart_none];exact wpAny_pure ⟨none,H,I,.none,h⟩
theorem zE (h:PE X e te):PO X (some e) (Q6 te):=by
 intro pins s σ H Q I hw;rw [evalPart_some];refine dF (h pins s σ H _ I hw) fun u s1 ⟨x,H1,I1,r1,q1⟩=>?_;obtain ⟨i,rfl,q⟩:=q1;obtain ⟨t,rfl⟩:=r1;exact ⟨some i,H1,I1,.int i t,q⟩
def Z7 (X:Cx)(r:V->Option Int->Option Int->Hp->VK->Prop):Prop :=
 ∀ (pins:List (Addr×Obj)) (s:Shared) (σ:St) (H:Hp) (x:V) (v vl vu:Value) (lo hi:Option Int) (sl:Addr) (Q:VK),aQ X pins σ H s->RelV x v->s.heap.IsSliceOf sl vl vu .none->IsPart vl lo->IsPart vu hi->r x lo hi H Q ->
  ∃ T id,typeLookup (.type T) "__getitem__" = pure (some (.builtin id))/\s.TypeIs v T/\wpAny (model X.prog X.w) X.A (getItem v (.ref sl)) (EP X pins σ Q) X.xe s
def tSl (r:V->Option Int->Option Int->Hp->VK->Prop)(te:TE)(tl th:TO):TE:=fun σ H Q=>te σ H fun x H1=>tl σ H1 fun l H2=>th σ H2 fun u H3=>r x l u H3 Q
theorem vD {r:V->Option Int->Option Int->Hp->VK->Prop}(hr:Z7 X r)(he:PE X e te)(hl:PO X lo tl)(hu:PO X hi th):PE X (.Subscript e (.Slice lo hi none p2) pos) (tSl r te tl th):=by
 intro pins s σ H Q I h;refine Subscript_ (dF (he pins s σ H _ I h) fun v s1 ⟨x,H1,I1,r1,q1⟩=>?_);refine wpAny_Slice (dF (hl pins s1 σ H1 _ I1 q1) fun vl s2 ⟨l,H2,I2,pl,q2⟩=>dF (hu pins s2 σ H2 _ I2 q2) fun vu s3 ⟨u,H3,I3,pu,q3⟩=>?_);rw [evalPart_none];refine wpAny_pure ?_;have I4:aQ X pins σ H3 { s3 with heap:=s3.heap.push { cls:=.type "slice",data:=.fields #[vl,vu,.none] } }:=I3.kept (t':=s3.toks) fun b ob q=>aDf _ q;obtain ⟨T,id,hT,ht,hg⟩:=hr pins { s3 with heap:=s3.heap.push { cls:=.type "slice",data:=.fields #[vl,vu,.none] } } σ H3 x v vl vu l u s3.heap.objs.size Q I4 r1 (Heap.IsSliceOf.new ..) pl pu q3;show wpAny (model X.prog X.w) X.A (subscriptTail e (.Slice lo hi none p2) v (.ref s3.heap.objs.size)) (EP X pins σ Q) X.xe { s3 with heap:=s3.heap.push { cls:=.type "slice",data:=.fields #[vl,vu,.none] } };exact tail_any (ops:=[.ref s3.heap.objs.size,v]) ht hT hg (by with_unfolding_all rfl)
def aV (xs:List V)(lo hi:Option Int):List V:=(xs.drop (HT.u0 xs.length 0 lo)).take (HT.u0 xs.length xs.length hi-HT.u0 xs.length 0 lo)
theorem Br (xs:List V)(lo hi:Option Int):(aV xs lo hi).length<=xs.length:=by
 unfold aV;rw [aDu,aDN];omega
end
def PJ (n:Nat)(i:Int):Option Nat:=if 0<=i then (if i<n then some i.toNat else none) else if -(n:Int)<=i then some (i+n).toNat else none
def Em {α:Type}(xs:List α)(i:Int):Option α:=(PJ xs.length i).bind fun j=>xs[j]?
theorem Gy {n:Nat}{i:Int}{j:Nat}(h:PJ n i=some j):seqIndex? i n=some j/\j<n/\-(n:Int)<=i/\i<n:=by
 unfold PJ at h
 by_cases h0:0<=i
 ·rw [if_pos h0] at h
  by_cases h1:i<n
  ·rw [if_pos h1] at h;have e:i.toNat=j:=aEc.inj h;exact ⟨by rw [seqIndex_of h0 h1,e],by omega,by omega,h1⟩
  ·rw [if_neg h1] at h; cases h
 ·rw [if_neg h0] at h
  by_cases h1:-(n:Int)<=i
  ·rw [if_pos h1] at h;have e:(i+n).toNat=j:=aEc.inj h;exact ⟨by rw [seqIndex_neg (by omega) h1,e],by omega,h1,by omega⟩
  ·rw [if_neg h1] at h; cases h
theorem HF {α:Type}{xs:List α}{i:Int}{v:α}(h:Em xs i=some v):∃ j,seqIndex? i xs.length=some j/\xs[j]? = some v/\j<xs.length/\-(xs.length:Int)<=i/\i<xs.length:=by
 unfold Em at h;cases e:PJ xs.length i with
 | none=>rw [e] at h; cases h
 | some j =>
  rw [e] at h;obtain ⟨h1,h2,h3,h4⟩:=Gy e;exact ⟨j,h1,h,h2,h3,h4⟩
theorem lW {α:Type}{xs:List α}{j:Nat}{v:α}(h:xs[j]? = some v):Em xs (j:Int)=some v:=by
 have hj:j<xs.length:=(aDr.mp h).1;have e:PJ xs.length (j:Int)=some j:=by
  unfold PJ;rw [if_pos (by omega),if_pos (by omega)]; simp
 unfold Em; rw [e]; exact h
def Gn (b:Expr):Prop:=∀ o i,subscripted b false o i=operate [o,i] (getItem o i)
def Sq (X:Cx)(r:R2):Prop :=
 ∀ (value slice:Expr) (pins:List (Addr×Obj)) (s:Shared) (σ:St) (H:Hp) (x y:V) (v u:Value) (Q:VK),aQ X pins σ H s->RelV x v->RelV y u->r x y H Q ->
  subscripted slice false v u=operate [v,u] (getItem v u)->wpAny (model X.prog X.w) X.A (subscriptTail value slice v u) (EP X pins σ Q) X.xe s
def MtR (X:Cx)(id:String)(r:V->List V->Hp->VK->Prop):Prop :=
 ∀ (pins:List (Addr×Obj)) (s:Shared) (σ:St) (H:Hp) (x:V) (xs:List V) (v:Value) (us:List Value) (Q:VK),aQ X pins σ H s->RelV x v->bV xs us->r x xs H Q ->
  wpAny (model X.prog X.w) X.A (call (.builtin id) (v::us)) (EP X pins σ Q) X.xe s
section
variable {X:Cx}{a b:Expr}{ta tb:TE}{pos:Pos}
theorem cU {r:R2}(hr:Sq X r)(ha:PE X a ta)(hb:PE X b tb)(hs:Gn b):PE X (.Subscript a b pos) (QR r ta tb):=by
 intro pins s σ H Q I h;exact Subscript_ (Ra ha hb I h fun v u s2 x y H2 I2 rx ry q=>hr a b pins s2 σ H2 x y v u Q I2 rx ry q (hs _ _))
def V1 (K:PySem.W.Frag):R2:=fun x y H Q=>∃ p xs i v,x=.ref p/\y=.int i/\bB K H p xs/\Em xs i=some v/\Q v H
def Vv (K:PySem.W.Frag):R2:=fun x y H Q=>∃ p xs i v,x=.ref p/\y=.int i/\cW K H p xs/\Em xs i=some v/\Q v H
theorem fG:Sq X (V1 X.K):=by
 intro value slice pins s σ H x y v u Q I rx ry h hs;obtain ⟨p,xs,i,z,rfl,rfl,hq,he,q⟩:=h;cases rx;obtain ⟨t,rfl⟩:=ry;obtain ⟨its,r,pl,hz⟩:=I.list hq;obtain ⟨j,h1,h2,h3,h4,h5⟩:=HF he;obtain ⟨w,ew,rw'⟩:=r.get h2;have hl:=r.length;have hn:=Dz;have fin:EP X pins σ Q w s:=⟨z,H,I,rw',q⟩
 by_cases h0:0<=i
 ·have hj:i.toNat=j:=by
   rw [seqIndex_of h0 h5] at h1;exact aEc.inj h1
  exact item_listR pl.isList h0 (by omega) (by rw [hj]; simpa using ew) fin hs
 ·have hj:(i+(its.toArray.size:Int)).toNat=j:=by
   rw [seqIndex_neg (by omega) h4] at h1;rw [aDo,<- hl];exact aEc.inj h1
  exact subscriptTail_builtinR (x:=w) pl.isList.typeIs slot_list_getitem.lookup
   (wpAny_getItem_list_neg (Q:=fun r s'=>r=w/\EP X pins σ Q r s') pl.isList (by omega) (by rw [aDo] <;> omega) (by omega) (by rw [hj]; simpa using ew) ⟨rfl,fin⟩) hs
theorem dB:Sq X (Vv X.K):=by
 intro value slice pins s σ H x y v u Q I rx ry h hs;obtain ⟨p,xs,i,z,rfl,rfl,hq,he,q⟩:=h;cases rx;obtain ⟨t,rfl⟩:=ry;obtain ⟨its,r,pl,hz⟩:=I.tuple hq;obtain ⟨j,h1,h2,h3,h4,h5⟩:=HF he;obtain ⟨w,ew,rw'⟩:=r.get h2;have hl:=r.length;have hn:=Dz;have fin:EP X pins σ Q w s:=⟨z,H,I,rw',q⟩
 exact subscriptTail_builtinR (x:=w) pl.typeIs slot_tuple_getitem.lookup
  (getItem_tuple (j:=j) (Q:=fun r s'=>r=w/\EP X pins σ Q r s') pl (by omega) (by omega) (by rw [aDo,<- hl]; exact h1) (by simpa using ew) ⟨rfl,fin⟩) hs
theorem zW (lo hi:Option Int)(n:Nat):(sliceBounds lo hi none n).1=((HT.u0 n 0 lo:Nat):Int)/\(sliceBounds lo hi none n).2.1=((HT.u0 n n hi:Nat):Int)/\(sliceBounds lo hi none n).2.2=1:=by
 refine ⟨?_,?_,rfl⟩
 ·cases lo with
  | none=>simp [sliceBounds,HT.u0]
  | some i =>
   simp only [sliceBounds,HT.u0,aFY,show (1:Int) > 0 by decide,if_true]
   by_cases h:i<0
   ·simp only [h,if_true] <;> omega
   ·simp only [h,if_false] <;> omega
 ·cases hi with
  | none=>simp [sliceBounds,HT.u0]
  | some i =>
   simp only [sliceBounds,HT.u0,aFY,show (1:Int) > 0 by decide,if_true]
   by_cases h:i<0
   ·simp only [h,if_true] <;> omega
   ·simp only [h,if_false] <;> omega
theorem wA (its:List Value)(lo hi:Option Int):slicePick its.toArray lo hi none=((its.drop (HT.u0 its.length 0 lo)).take (HT.u0 its.length its.length hi-HT.u0 its.length 0 lo)).toArray:=by
 obtain ⟨h1,h2,h3⟩:=zW lo hi its.toArray.size;unfold slicePick;rw [h1,h2,h3];simp only [sliceRange_one,pick_run,aDo] <;> rfl
def Zd (K:PySem.W.Frag):V->Option Int->Option Int->Hp->VK->Prop:=fun x lo hi H Q=>∃ a xs,x=.ref a/\bB K H a xs/\∀ p,H p=none->Q (.ref p) (aM H p (.lst (aV xs lo hi)))
theorem cX:Z7 X (Zd X.K):=by
 intro pins s σ H x v vl vu lo hi sl Q I rx hs pl pu h;obtain ⟨a,xs,rfl,hx,q⟩:=h;cases rx;obtain ⟨its,r,ht,hz⟩:=I.list hx;have hlen:=r.length;refine ⟨"list",_,slot_list_getitem.lookup,ht.isList.typeIs,?_⟩;refine wpAny_getItem_list_slice ht.isList hs pl pu .none (by simp) ?_ (by rw [aDo] <;> omega);rw [wA,<- hlen];refine ⟨.ref s.heap.objs.size,_,I.laid (t':=s.toks) (o:=.lst (aV xs lo hi)) (fun b ob q=>aDf _ q) (aDn _) ?_,rfl,q _ (I.hok.fresh (aDn _))⟩;exact ⟨aDh (Br xs lo hi) hz,_,0,(r.drop (HT.u0 xs.length 0 lo)).take (HT.u0 xs.length xs.length hi-HT.u0 xs.length 0 lo),aDt _ rfl⟩
theorem bZ:fB X (.builtin "len") (fun xs H Q=>∃ p ys,xs=[.ref p]/\(bB X.K H p ys∨cW X.K H p ys)/\Q (.int ys.length) H):=by
 intro pins s σ H xs us Q I r h;obtain ⟨p,ys,rfl,hq,q⟩:=h;obtain ⟨u,rfl,rx⟩:=vals1 r;cases rx;have hn:=Dz;rcases hq with hq | hq
 ·obtain ⟨its,r',pl,hz⟩:=I.list hq;have hlen:=r'.length;exact Calls.call_len_list pl.isList (by simp only [aDo] <;> omega) ⟨.int ys.length,H,I.tok _,⟨s.toks+1,by rw [aDo,hlen]⟩,q⟩
 ·obtain ⟨its,r',pl,hz⟩:=I.tuple hq;have hlen:=r'.length;exact len_tuple pl (by simp only [aDo] <;> omega) ⟨.int ys.length,H,I.tok _,⟨s.toks+1,by rw [aDo,hlen]⟩,q⟩
theorem zP:fB X (.type "list") (fun xs H Q=>∃ p ys,xs=[.ref p]/\(bB X.K H p ys∨cW X.K H p ys)/\∀ l,H l=none->Q (.ref l) (aM H l (.lst ys))):=by
 intro pins s σ H xs us Q I r h;obtain ⟨p,ys,rfl,hq,q⟩:=h;obtain ⟨u,rfl,rx⟩:=vals1 r;cases rx;have fin:∀ (its:List Value),bV ys its->ys.length<=sizeLine->∀ (h':Heap) (c':Nat),(∀ b o',s.heap.get? b=some o'->h'.get? b=some o') ->
   h'.get? s.heap.objs.size=some { cls:=.type "list",dict:=none,data:=.seq its.toArray c',slots:=#[] }->EP X pins σ Q (.ref s.heap.objs.size) { s with heap:=h' }:=fun its r' hz h' c' kp e =>
  ⟨.ref s.heap.objs.size,_,I.laid (t':=s.toks) kp (aDn _) (show cH X.prog X.w _ h' _ (.lst ys) from ⟨hz,its,c',r',e⟩),rfl,q _ (I.hok.fresh (aDn _))⟩
 rcases hq with hq | hq
 ·obtain ⟨its,r',pl,hz⟩:=I.list hq;have hlen:=r'.length;obtain ⟨o,ho,hc,n,hd⟩:=pl.isList;exact call_list_seq p (.inl rfl) ho hc hd (fun h' c' kp e=>fin its r' hz h' c' kp e) (by simp only [aDo] <;> omega)
 ·obtain ⟨its,r',pl,hz⟩:=I.tuple hq;have hlen:=r'.length;obtain ⟨o,ho,hc,n,hd⟩:=pl;exact call_list_seq p (.inr rfl) ho hc hd (fun h' c' kp e=>fin its r' hz h' c' kp e) (by simp only [aDo] <;> omega)
theorem wK:fB X (.type "tuple") (fun xs H Q=>∃ p ys,xs=[.ref p]/\((bB X.K H p ys/\∀ l,H l=none->Q (.ref l) (aM H l (.tup ys)))∨(cW X.K H p ys/\Q (.ref p) H))):=by
 intro pins s σ H xs us Q I r h;obtain ⟨p,ys,rfl,h⟩:=h;obtain ⟨u,rfl,rx⟩:=vals1 r;cases rx;rcases h with ⟨hq,q⟩ | ⟨hq,q⟩
 ·obtain ⟨its,r',pl,hz⟩:=I.list hq;have hlen:=r'.length;refine call_tuple_list pl.isList (fun h' kp=>?_) (by simp only [aDo] <;> omega);have I1:aQ X pins σ H { s with heap:=h' }:=I.kept (t':=s.toks) kp;have I2:aQ X pins σ (aM H h'.objs.size (.tup ys)) { s with heap:=h'.push { cls:=.type "tuple",data:=.seq its.toArray } } :=
   I1.laid (t':=s.toks) (fun b o e=>aDf _ e) (aDn _) (show cH X.prog X.w _ _ _ (.tup ys) from ⟨hz,its,r',IsTup.new _ _⟩)
  exact ⟨.ref h'.objs.size,_,I2,rfl,q _ (I1.hok.fresh (aDn _))⟩
 ·obtain ⟨its,r',pl,hz⟩:=I.tuple hq;exact call_tuple_same pl ⟨.ref p,H,I,rfl,q⟩
def tyV (K:PySem.W.Frag)(T:String)(x:V)(H:Hp):Prop:=match x with
 | .str _=>T = "str"
 | .int _=>T = "int"
 | .ref p=>(T = "list"/\∃ xs,bB K H p xs)∨(T = "tuple"/\∃ o,K.lookup p=some o/\o.cls=.type "tuple"/\o.dict=none) ∨
   (T = "dict"/\((∃ kvs,H p=some (.dK kvs))∨∃ kvs,H p=some (.dT kvs)))∨(T = "set"/\∃ S n,H p=some (.set S n))
 | _=>False
theorem Qi {pins:List (Addr×Obj)}{σ:St}{H:Hp}{s:Shared}{T:String}{x:V}{v:Value}(I:aQ X pins σ H s)(r:RelV x v)(ty:tyV X.K T x H) :
  s.TypeIs v T/\∀ a,v=.ref a->∃ ob,s.heap.get? a=some ob/\ob.dict=none:=by
 cases x with
 | str z =>
  obtain ⟨t,rfl⟩:=r;cases (show T = "str" from ty);exact ⟨typeIs_str s z t,fun _ e=>nomatch e⟩
 | int i =>
  obtain ⟨t,rfl⟩:=r;cases (show T = "int" from ty);exact ⟨typeIs_int s i t,fun _ e=>nomatch e⟩
 | ref p =>
  cases r;rcases ty with ⟨rfl,xs,hq⟩ | ⟨rfl,o,hk,hc,hd⟩ | ⟨rfl,hk⟩ | ⟨rfl,S,n,hk⟩
  ·obtain ⟨its,_,pl,_⟩:=I.list hq;refine ⟨pl.isList.typeIs,fun a e=>?_⟩;cases e;obtain ⟨o,n,e,c,hd,_⟩:=pl;exact ⟨o,e,hd⟩
  ·refine ⟨⟨o,I.kIn p o hk,hc⟩,fun a e=>?_⟩;cases e;exact ⟨o,I.kIn _ o hk,hd⟩
  ·have z:∃ o,s.heap.get? p=some o/\o.ExactDict:=by
    rcases hk with ⟨kvs,hk⟩ | ⟨kvs,hk⟩
    ·obtain ⟨_,_,_,_,o,_,_,e,ex,_⟩:=I.hok p _ hk;exact ⟨o,e,ex⟩
    ·obtain ⟨_,_,_,_,o,_,_,e,ex,_⟩:=I.hok p _ hk;exact ⟨o,e,ex⟩
   obtain ⟨o,e,ex⟩:=z;refine ⟨⟨o,e,ex.1⟩,fun a e2=>?_⟩;cases e2;exact ⟨o,e,ex.2.1⟩
  ·obtain ⟨o,_,_,_,e,ex,_⟩:=I.hok p _ hk;refine ⟨⟨o,e,ex.1⟩,fun a e2=>?_⟩;cases e2;exact ⟨o,e,ex.2.1⟩
 | _=>exact False.elim ty
def tBM (K:PySem.W.Frag)(T:String)(r:V->List V->Hp->VK->Prop)(to:TE)(t:TA):TE:=fun σ H Q=>to σ H fun x H1=>tyV K T x H1/\t σ H1 fun xs H2=>r x xs H2 Q
variable {o e:Expr}{es:List Expr}{to:TE}{t:TA}{name:Str}{apos cpos:Pos}{T id:String}{r:V->List V->Hp->VK->Prop}
theorem GQ (pa:PlainAttrs T)(slot:Slot T name id)(hty:typeOf (.builtin id)=pure (.type "method_descriptor"))(hm:MtR X id r)(ho:PE X o to)(ha:PA X (e::es) t)
  (hbase:attributeBase o name X.env (eval o X.env)=eval o X.env:=by rfl)
  (hfew:((backTo cpos (starEach (e::es) X.env)).all (fun x=>!x.1)&&(backToKw cpos (keywordEach [] X.env)).all (fun x=>x.1.isSome)
  &&decide ((e::es).length+([]:List Keyword).length+(if ([]:List Keyword).isEmpty then 0 else 1)<30))=true:=by rfl)
  (hline:(apos.endLine==cpos.line)=true:=by rfl) (hs:starEach (e::es) X.env=(false,eval e X.env)::starEach es X.env:=by rfl) (hplain:(backTo cpos (starEach es X.env)).any (·.1)=false:=by rfl) :
  PE X (.Call (.Attribute o name apos) (e::es) [] cpos) (tBM X.K T r to t):=by
 intro pins s σ H Q I h;refine wpAny_Call_method_late hbase hfew hline rfl (dF (ho pins s σ H _ I h) fun v s1 ⟨x,H1,I1,r1,ty,q1⟩=>?_);obtain ⟨h1,h2⟩:=Qi I1 r1 ty;refine ⟨T,id,pa,slot,hty,h1,h2,?_⟩;have hA:=ha cpos pins s1 σ H1 _ I1 q1;rw [hs] at hA ⊢;refine Calls.callWith_builtin (by show (false||(backTo cpos (starEach es X.env)).any (·.1))=false; rw [hplain] <;> rfl) (Calls.evalArgs_plain ?_);exact dF hA fun us s2 ⟨vs,H2,I2,r2,q2⟩=>hm pins s2 σ H2 x vs v us Q I2 r1 r2 q2
end
def MtM (X:Cx)(id:String)(r:V->List V->Hp->VK->Prop):Prop :=
 ∀ (pins:List (Addr×Obj)) (s:Shared) (σ:St) (H:Hp) (x:V) (xs:List V) (v:Value) (us:List Value) (Q:VK),aQ X pins σ H s->RelV x v->bV xs us->r x xs H Q ->
  wpAny (model X.prog X.w) X.A (call (.builtin id) (v::us)) (EP X pins σ Q) X.xe s
theorem bV.one:∀ {x:V}{us:List Value},bV [x] us->∃ u,us=[u]/\RelV x u
 | _,_,.cons r .nil=>⟨_,rfl,r⟩
theorem bV.rep {xs:List V}{us:List Value}(h:bV xs us):∀ k:Nat,bV (aDx k xs).flatten (aDx k us).flatten
 | 0=>.nil
 | k+1=>by
  rw [aEu,aEu,aER,aER];exact bV.append h (bV.rep h k)
theorem foldl_rep (its:List Value):∀ (k:Nat) (acc:List Value),
  aF8 (fun x1 x2=>x1++x2) acc.toArray (aDx k its.toArray)=(acc++(aDx k its).flatten).toArray
 | 0,acc=>by simp
 | k+1,acc=>by
  have e:acc.toArray++its.toArray=(acc++its).toArray:=by simp
  have e2:(acc++its)++(aDx k its).flatten=acc++(aDx (k+1) its).flatten:=by
   rw [aEu,aER,aES]
  rw [<- e2,<- foldl_rep its k (acc++its),<- e,aEu,aEq]
section
variable {X:Cx}{pins:List (Addr×Obj)}{σ:St}{H:Hp}{s:Shared}{l b:Addr}{xs ys zs:List V}
theorem aQ.lset {its its':List Value}{n:Nat}{f:Array Value->Array Value}{t':Nat}(I:aQ X pins σ H s)(hH:H l=some (.lst xs))
  (e:s.heap.get? l=some { cls:=.type "list",data:=.seq its.toArray n }) (hf:f its.toArray=its'.toArray) (hv:bV ys its') (hz:ys.length<=sizeLine) :
  aQ X pins σ (aM H l (.lst ys)) { s with heap:=s.heap.update l (Obj.mapSeq f),toks:=t' }:=by
 have q:=PySem.IsL.update e f;rw [hf] at q;refine I.write (x:=l) (e:=l) (by rw [hH]; exact trivial) (.inl rfl) (fun b' u hb hu=>(aFs s.heap (Obj.mapSeq f) (Ne.symm hb)).trans hu) ⟨_,q⟩ ?_;exact ⟨hz,its',_,hv,q⟩
theorem aQ.lnew {its:List Value}{t':Nat}(I:aQ X pins σ H s)(hv:bV ys its)(hz:ys.length<=sizeLine) :
  aQ X pins σ (aM H s.heap.objs.size (.lst ys)) { s with heap:=s.heap.push { cls:=.type "list",data:=.seq its.toArray },toks:=t' } :=
 I.laid (fun _ _ q=>aDf _ q) (aDn _) ⟨hz,its,0,hv,aDt _ rfl⟩
theorem aQ.fresh (I:aQ X pins σ H s):H s.heap.objs.size=none:=I.hok.fresh (aDn _)
theorem aQ.lstM (I:aQ X pins σ H s)(hH:H l=some (.lst xs)):xs.length<=sizeLine/\∃ (its:List Value) (n:Nat),bV xs its/\xs.length=its.length/\s.heap.get? l=some { cls:=.type "list",data:=.seq its.toArray n }:=by
 obtain ⟨z,its,n,r,e⟩:=I.hok l _ hH;exact ⟨z,its,n,r,r.length,e⟩
theorem Mu {n:Nat}(h:n<=sizeLine):Builtin.List.listTooLong n=false:=by
 unfold Builtin.List.listTooLong;exact decide_eq_false (by omega)
end
section
variable {X:Cx}
def PL:V->List V->Hp->VK->Prop:=fun x vs H Q=>∃ l xs y,x=.ref l/\vs=[y]/\H l=some (.lst xs)/\xs.length<sizeLine/\Q .non (aM H l (.lst (xs++[y])))
theorem lF:MtM X "list.append" PL:=by
 intro pins s σ H x vs v us Q I rx rv h;obtain ⟨l,xs,y,rfl,rfl,hH,hz,q⟩:=h;cases rx;obtain ⟨u,rfl,ru⟩:=rv.one;obtain ⟨z,its,n,r,hl,e⟩:=I.lstM hH;refine call_meets F.slot_list_append ⟨_,e,rfl⟩ F.entry_list_append (F.args_list_append_2 _ _) (PySem.list_append l its.toArray n u (by rw [aDo]; omega)) ⟨e,?_⟩;refine ⟨.non,_,I.lset (its':=its++[u]) hH e (by simp) (r.append (.cons ru .nil)) ?_,rfl,q⟩;rw [aDp,aDs];omega
def Zg:R2:=fun x y H Q=>∃ l b xs zs,x=.ref l/\y=.ref b/\H l=some (.lst xs)/\H b=some (.lst zs)/\xs.length+zs.length<=sizeLine/\∀ p,H p=none->Q (.ref p) (aM H p (.lst (xs++zs)))
theorem cV:pM X (binaryOp .Add) Zg:=by
 intro pins s σ H x y v u Q I rx ry h;obtain ⟨l,b,xs,zs,rfl,rfl,hH,hB,hz,q⟩:=h;cases rx;cases ry;obtain ⟨z,its,n,r,hl,e⟩:=I.lstM hH;obtain ⟨z2,its2,n2,r2,hl2,e2⟩:=I.lstM hB;refine PySem.P.add_list e e2 ?_ (by rw [aDo,aDo]; omega);have ea:its.toArray++its2.toArray=(its++its2).toArray:=by simp
 rw [ea];exact ⟨.ref _,_,I.lnew (t':=s.toks) (r.append r2) (by rw [aDp]; omega),rfl,q _ I.fresh⟩
def aAk:R2:=fun x y H Q=>∃ l k xs,x=.ref l/\y=.int k/\H l=some (.lst xs)/\-(2^63)<=k/\k<2^63/\xs.length*k.toNat<=sizeLine ∧
 ∀ p,H p=none->Q (.ref p) (aM H p (.lst (aDx k.toNat xs).flatten))
theorem len_rep {α:Type}(xs:List α)(k:Nat):(aDx k xs).flatten.length=k*xs.length:=by
 induction k with
 | zero=>simp
 | succ k ih=>rw [aEu,aER,aDp,ih,aFP,Nat.add_comm]
theorem RD:pM X (binaryOp .Mult) aAk:=by
 intro pins s σ H x y v u Q I rx ry h;obtain ⟨l,k,xs,rfl,rfl,hH,h1,h2,hz,q⟩:=h;cases rx;obtain ⟨t,rfl⟩:=ry;obtain ⟨z,its,n,r,hl,e⟩:=I.lstM hH;have hlen:its.toArray.size*k.toNat<=sizeLine:=by rw [aDo,<- hl]; exact hz
 have hcap:¬ its.toArray.size*k.toNat > (2^63-1)/8:=by
  have:(sizeLine:Nat)<=(2^63-1)/8:=by decide
  omega
 have hfit:¬ (!Builtin.List.listFitsIndex k)=true:=by
  rw [fitsIndex_both h1 h2];exact aDC
 have hlong:¬ Builtin.List.listTooLong (its.toArray.size*k.toNat)=true:=by
  rw [Mu hlen];exact aDC
 have hnew:aF8 (fun x1 x2=>x1++x2) #[] (aDx (if its.toArray.isEmpty=true then 0 else k.toNat) its.toArray)=(aDx k.toNat its).flatten.toArray:=by
  have f0:∀ m:Nat,aF8 (fun x1 x2=>x1++x2) #[] (aDx m its.toArray)=(aDx m its).flatten.toArray:=fun m=>by
   have:=foldl_rep its m [];rw [List.nil_append] at this;exact this
  rw [f0];cases its with
  | nil=>simp
  | cons a r'=>rw [if_neg (by simp)]
 refine wpAny_binaryOp_repeat_ref (T:="list") (U:="int") (by decide) ⟨_,e,rfl⟩ (fun s'=>typeIs_int s' k t) noFill_list_mul F.fills_int_mul F.slot_int_rmul repeat_list F.slot_int_index.lookup
  (call_meets F.slot_int_rmul (typeIs_int s k t) F.entry_int_rmul (F.args_int_rmul_2 _ _) (int___rmul___int_list k t l its.toArray n)
   ⟨e,rfl,⟨_,e,rfl⟩,call_meets F.slot_list_mul ⟨_,e,rfl⟩ F.entry_list_mul (F.args_list_mul_2 _ _) (AutoListH.list___mul___list_int_3 l its.toArray n k t hfit hcap hlong) ⟨e,?_⟩⟩)
 rw [hnew];exact ⟨.ref _,_,I.lnew (t':=s.toks) (r.rep k.toNat) (by rw [len_rep,aFQ]; exact hz),rfl,q _ I.fresh⟩
end
end L2
namespace Att
open PySem PySem.W PySem.Calls PyProof.Rows
theorem tO {P:Params}{h:Heap}:∀ (ns:List Int) (vs:List Value),WellAll P h vs (ns.map WData.int)->IntsAre vs ns:=by
 intro ns
 induction ns with
 | nil =>
  intro vs w;rw [aFr] at w;cases w;exact .nil
 | cons n ns ih =>
  intro vs w;rw [aDE] at w;cases w with
  | cons a b =>
   cases a;exact .cons _ _ (ih _ b)
theorem Hk {l:OpenLaw}{n:Nat}(hn:l.most=some n){P:Params}{h:Heap}{args:List WData}{fM:List Value}
  (hpre:l.row.toRowW.claim.pre args=true) (hwl:WellAll P h fM args) :
  ∃ a vs ns,fM=[Value.ref a]/\args=[WData.list (ns.map WData.int)]/\h.get? a=some { cls:=.type "list",data:=.seq vs.toArray }/\IntsAre vs ns/\ns.length<=n:=by
 have hsh:WShape.hasAll [] args [.list .int]=true:=(pre_splitW hpre).1;have hc:l.pre.holds [] { args:=args }=true:=(pre_splitW hpre).2;obtain ⟨d,r,rfl,h1,h2⟩:=hasAllW_cons hsh;obtain rfl:=hasAllW_nil h2;obtain ⟨xs,rfl,h3⟩:=hasW_list h1;obtain ⟨ns,rfl⟩:=items_int h3;have hlen:ns.length<=n:=by
  unfold OpenLaw.pre at hc;have h4:(WTm.not (.lt (.lit (.int (n:Int))) (.len (.arg 0)))).holds [] { args:=[.list (ns.map .int)] }=true:=by
   have h4:=(holds_andW hc).1;rw [hn] at h4;exact h4
  have h5:=condW_of h4 (w_not (w_lt w_lit (w_len_list (w_arg rfl))));rw [aDe] at h5;refine Nat.le_of_not_lt fun q=>?_;have q':(n:Int)<((ns.length:Nat):Int):=by omega
  first
   | (rw [decide_eq_true q'] at h5; exact absurd h5 (by decide))
   | (simp at h5; omega)
 cases hwl with
 | cons w1 w2 =>
  cases w2;cases w1 with
  | list ho hall=>exact ⟨_,_,ns,rfl,rfl,ho,tO ns _ hall,hlen⟩
theorem Ie (l:OpenLaw)(args:List WData):l.row.toRowW.claim.post args (.bool true) args=true :=
 postW_of (r:=l.row.toRowW) (X:=(true==true))
  (show WShape.has [] (.bool true) .bool=true by first | rfl | decide | simp [WShape.has,WShape.arms,WShape.armsAll])
  (show (WTm.eq .res (.lit (.bool true))).value [] { args:=args,res:=some (.bool true),after:=args }=some (.bool (true==true)) from w_eq_bool (w_res rfl) w_lit) rfl
theorem DG {l:OpenLaw}{n:Nat}{q:Program}{loose:List Str}{XP:(Str->Option Value)->Heap->Prop}{YP:World->Heap->Prop}{d:DefRec}
  (hn:l.most=some n) (hdf:d.params.defaults=[])
  (call:∀ (w:World) (s₀ s₁:Shared) (mg mb:Str->Option Value) (fa:Addr) (o:Obj) (pm cd doc:Value) (a:Addr) (vs:List Value) (ns:List Int),
   Ground q loose [] XP w s₀ mg mb s₁.heap->YP w s₁.heap ->
   s₁.heap.get? fa=some o->o.data=.func (docDef d.name d.params d.body d.scope pm cd doc)->s₁.heap.CodeRec cd d.name->mg d.name=some (.ref fa) ->
   s₁.heap.get? a=some { cls:=.type "list",data:=.seq vs.toArray }->IntsAre vs ns->ns.length<=n->s₁.gens = #[] ->
   codeAny (model l.prog w) callerA (.call (.ref fa) ⟨[.ref a],[]⟩) (fun r s'=>r=.ok (.ret (.bool true))/\OldK s₁.heap s'.heap/\s'.os=s₁.os/\AllBare s'.gens) s₁) :
  WalkO q loose XP YP l.row.toRowW d [] (fun f vs=>PySem.call f vs):=by
 intro w s₀ s₁ mg mb G Y fa o pm cd doc dV kV ho hd hcd hD hmg hg args fM as hpre hlay hrd hwl hlo;obtain rfl:dV=.none:=Dflts.none hD hdf;obtain rfl:kV=.none:=Dflts.noKw hD;obtain ⟨a,vs,ns,rfl,rfl,hobj,hints,hlen⟩:=Hk hn hpre hwl;refine enter_call (codeAny_mono (call w s₀ s₁ mg mb fa o pm cd doc a vs ns G Y ho (fd_plain hd) hcd hmg hobj hints hlen hg) fun r s' hq=>?_);obtain ⟨rfl,h2,h3,h4⟩:=hq;exact ⟨.inl ⟨.bool true,.bool true,[],rfl,fun _=>rfl,.bool true,Ie l _,fun _=>⟨aFh.nil,fun _ hm=>(nomatch hm)⟩⟩,h2,h3,h4⟩
end Att
namespace L2
open PySem PySem.Spec PyProof.Rows
theorem yJ:∀ {vs:List Value}{ns:List Int},IntsAre vs ns->bV (ns.map V.int) vs
 | _,_,.nil=>.nil
 | _,_,.cons n t h=>.cons ⟨t,rfl⟩ (yJ h)
def inClass (s:Stmt)(j:Nat):Stmt:=match s with
 | .ClassDef _ _ _ body _ _ _ _ _ _ _=>body.getD j (.Pass ⟨0,0,0,0⟩)
 | _=>.Pass ⟨0,0,0,0⟩
def kI (s:Stmt):Arguments:=match s with
 | .FunctionDef _ a _ _ _ _ _ _ _ _=>a
 | _=>{ posonlyargs:=[],args:=[],vararg:=none,kwonlyargs:=[],kw_defaults:=[],kwarg:=none,defaults:=[] }
def fH (s:Stmt):List Stmt:=match s with
 | .FunctionDef _ _ b _ _ _ _ _ _ _=>b
 | _=>[]
def aG (s:Stmt):Scope:=match s with
 | .FunctionDef _ _ _ _ _ _ sc _ _ _=>sc
 | _=>{ kind:=.function,names:=[],isGenerator:=false,isCoroutine:=false }
abbrev fO:Al:=fun _ _ _ _ _ _=>False
abbrev E0:XK:=fun _ _ _=>False
theorem oO {X:Cx}:gR fO X E0:=fun _ _ _ _ _ _ _ h=>h.elim
structure fC (K:PySem.W.Frag)(x qual:Str)(st:Stmt)(f:Addr)(fd:FuncData):Prop where
 ex:∃ (oc:Value) (od:Option Addr) (kV doc pm:Value) (an:Option Addr) (cdv ct:Value) (osl:Array (Option Value)),
  fd=PySem.W.fnOf x qual (kI st) (fH st) (aG st) .none kV doc pm an cdv ct/\K.lookup f=some ⟨oc,od,.func fd,osl⟩/\PySem.W.codeIn K cdv qual=true
 kp:PySem.W.keepIn K (.ref f)=true
section
variable {P:Program}{w:World}{K:PySem.W.Frag}{mg:Str->Option Value}{base:Heap}
theorem fC.ok {x qual:Str}{st:Stmt}{f:Addr}{fd:FuncData}{N ps:List Str}{k:Nat}{sp:Sp}(F:fC K x qual st f fd)(S:aP N ps (aG st))(len:∀ vs H Q E,sp vs H Q E->vs.length=ps.length)
  (hbody:∀ (cdv:Value) (A:Around) (outer:List Env) (s:Shared) (H:Hp) (vs:List V) (Q:VK) (E:XK),d8 k (A.deeper (envOfC qual (aG st) s.heap.objs.size f cdv))->sp vs H Q E ->
   ∃ t,qR (pN fO P w K mg base N qual (aG st) f cdv A outer s H E).nox (fH st) t/\t { nx:=fun _ H'=>Q .non H',rt:=Q } (start N vs) H):bH P w K mg base fO (k+1) f fd ps sp:=by
 obtain ⟨oc,od,kV,doc,pm,an,cdv,ct,osl,rfl,lk,hcd⟩:=F.ex;refine Mi lk hcd S len fun A outer s H vs Q E hr hsp=>?_;obtain ⟨t,h,q⟩:=hbody cdv A outer s H vs Q E hr hsp;exact ⟨t,h.nox,q⟩
theorem fC.binds {x qual:Str}{st:Stmt}{f:Addr}{fd:FuncData}{ps:List Str}(F:fC K x qual st f fd)
  (h:∀ (kV doc pm:Value) (an:Option Addr) (cdv ct:Value) (us:List Value),us.length=ps.length->bindArgs (PySem.W.fnOf x qual (kI st) (fH st) (aG st) .none kV doc pm an cdv ct) ⟨us,[]⟩=pure (ps.zip us)):Binds K fd ps []:=by
 obtain ⟨oc,od,kV,doc,pm,an,cdv,ct,osl,rfl,lk,hcd⟩:=F.ex;exact .all (h kV doc pm an cdv ct)
theorem Ly {x qual:Str}{st:Stmt}{f:Addr}{oc:Value}{od an:Option Addr}{osl:Array (Option Value)}{kV doc pm cdv ct:Value}(l:K.lookup f=some ⟨oc,od,.func (PySem.W.fnOf x qual (kI st) (fH st) (aG st) .none kV doc pm an cdv ct),osl⟩)
  (c:PySem.W.codeIn K cdv qual=true) (k:PySem.W.keepIn K (.ref f)=true):fC K x qual st f (PySem.W.fnOf x qual (kI st) (fH st) (aG st) .none kV doc pm an cdv ct):=⟨⟨oc,od,kV,doc,pm,an,cdv,ct,osl,rfl,l,c⟩,k⟩
end
theorem Lr {A:Around}{k:Nat}(hr:d8 k A):A.units+1<cLine:=aEk (aEg (by decide:1<=64) _) hr.units
theorem aN {n:Nat}(h:n<=1000):n<sizeLine:=aEk h (by decide)
section
variable {X:Cx}
theorem pv (i:Nat){x:Str}{pos:Pos}(hN:X.N[i]? = some x:=by rfl)(hv:Xk X.env.scope x:=by first | exact Or.inl rfl | exact Or.inr (Or.inl rfl) | exact Or.inr (Or.inr rfl))(hd:(x==("__debug__" : Str))=false:=by decide)
  (hcd:(x==("__classdict__" : Str))=false:=by decide):PE X (.Name x pos) (Ry i):=Mj hN hv hd hcd
end
theorem jA {A B:Prop}(h:B):if false=true then A else B:=by
 rw [if_neg aDC];exact h
theorem jZ {A B:Prop}(h:A):if true=true then A else B:=by
 rw [if_pos rfl];exact h
theorem BJ {c A B:Prop}[Decidable c](h1:c->A)(h2:¬ c->B):if c then A else B:=by
 by_cases h:c
 ·rw [if_pos h];exact h1 h
 ·rw [if_neg h];exact h2 h
def aU (H H':Hp):Prop:=∀ b o,H b=some o->H' b=some o
theorem aU.refl (H:Hp):aU H H:=fun _ _ h=>h
theorem aU.trans {H H1 H2:Hp}(a:aU H H1)(b:aU H1 H2):aU H H2:=fun c o h=>b c o (a c o h)
theorem aU.free {H H':Hp}(e:aU H H'){l:Addr}(h:H' l=aF2):H l=aF2:=by
 cases q:H l with
 | none=>rfl
 | some o =>
  rw [e l o q] at h;cases h
theorem aU.seq {K:PySem.W.Frag}{H H':Hp}{a:Addr}{xs:List V}(e:aU H H')(h:bB K H a xs):bB K H' a xs:=by
 rcases h with (h | ⟨o,h⟩) | h
 ·exact .inl (.inl (e _ _ h))
 ·exact .inl (.inr ⟨o,e _ _ h⟩)
 ·exact .inr h
section
variable {κ:Type}[DecidableEq κ]
def fP (kvs:List (κ×V))(k:κ):Option V:=(kvs.find? fun kv=>decide (kv.1=k)).map (·.2)
def putK (kvs:List (κ×V))(k:κ)(v:V):List (κ×V) :=
 if (kvs.any fun kv=>decide (kv.1=k))=true then kvs.map (fun kv=>if kv.1=k then (kv.1,v) else kv) else kvs++[(k,v)]
theorem eV {p:κ×V}{r:List (κ×V)}{k:κ}(e:p.1=k):fP (p::r) k=some p.2:=by simp [fP,aEA,e]
theorem eX {p:κ×V}{r:List (κ×V)}{k:κ}(e:¬ p.1=k):fP (p::r) k=fP r k:=by simp [fP,aEA,e]
theorem m6 (k:κ):∀ kvs:List (κ×V),(kvs.any fun kv=>decide (kv.1=k))=(fP kvs k).isSome
 | []=>rfl
 | p::r=>by
  rw [aFH]
  by_cases e:p.1=k
  ·simp only [eV e,decide_eq_true e,Bool.true_or,Option.isSome_some]
  ·rw [eX e,decide_eq_false e,Bool.false_or]; exact m6 k r
theorem DN (k j:κ)(y:V):∀ kvs:List (κ×V),fP (kvs.map fun kv=>if kv.1=k then (kv.1,y) else kv) j=(fP kvs j).map fun x=>if j=k then y else x
 | []=>rfl
 | p::r=>by
  have ih:=DN k j y r;rw [aDE]
  by_cases h:p.1=k
  ·rw [if_pos h]
   by_cases e:p.1=j
   ·rw [eV (p:=(p.1,y)) e,eV e,aE9,if_pos (e.symm.trans h)]
   ·rw [eX (p:=(p.1,y)) e,eX e,ih]
  ·rw [if_neg h]
   by_cases e:p.1=j
   ·rw [eV (p:=p) e,eV e,aE9,if_neg (fun z=>h (e.trans z))]
   ·rw [eX (p:=p) e,eX e,ih]
theorem yL (k j:κ)(y:V):∀ kvs:List (κ×V),fP kvs k=none->fP (kvs++[(k,y)]) j=if j=k then some y else fP kvs j
 | [],_=>by
  by_cases e:k=j
  ·rw [if_pos e.symm]; exact eV (p:=(k,y)) e
  ·rw [if_neg (fun z=>e z.symm)]; exact eX (p:=(k,y)) e
 | p::r,hn=>by
  rw [List.cons_append];have hk:¬ p.1=k:=fun z=>by rw [eV z] at hn; cases hn
  rw [eX hk] at hn;have ih:=yL k j y r hn
  by_cases e:p.1=j
  ·rw [eV e,eV e,if_neg (fun z=>hk (e.trans z))]
  ·rw [eX e,eX e,ih]
theorem Cm (kvs:List (κ×V))(k j:κ)(y:V):fP (putK kvs k y) j=if j=k then some y else fP kvs j:=by
 unfold putK
 by_cases a:(kvs.any fun kv=>decide (kv.1=k))=true
 ·rw [if_pos a,DN];rw [m6] at a
  by_cases e:j=k
  ·obtain ⟨x,hx⟩:=aEt.mp a;rw [if_pos e,e,hx,aE9,if_pos rfl]
  ·rw [if_neg e];cases fP kvs j with
   | none=>rfl
   | some x=>rw [aE9,if_neg e]
 ·rw [if_neg a];refine yL k j y kvs ?_;rw [m6] at a;cases q:fP kvs k with
  | none=>rfl
  | some x=>rw [q] at a; exact (a rfl).elim
theorem gA (kvs:List (κ×V))(k:κ)(v:V):(putK kvs k v).length<=kvs.length+1:=by
 unfold putK
 split
 ·rw [aDe]; omega
 ·rw [aDp,aDF,List.length_nil]; omega
theorem mX.isSome_eq {o:Option V}{u:Option Value}(r:mX o u):o.isSome=u.isSome:=by
 cases o with
 | none=>cases u with
  | none=>rfl
  | some _=>exact (show False from r).elim
 | some _=>cases u with
  | none=>exact (show False from r).elim
  | some _=>rfl
theorem mX.getD {o:Option V}{u:Option Value}{d:V}{d':Value}(r:mX o u)(rd:RelV d d'):RelV (o.getD d) (u.getD d'):=by
 cases o with
 | none=>cases u with
  | none=>exact rd
  | some _=>exact (show False from r).elim
 | some _=>cases u with
  | none=>exact (show False from r).elim
  | some _=>exact r
theorem KV.val {kvs:List (κ×V)}{vs:List (κ×Value)}(r:KV kvs vs)(k:κ):mX (fP kvs k) (valueAt vs k):=by
 unfold KV at r
 induction r with
 | nil=>exact True.intro
 | @cons p q ps qs h t ih =>
  obtain ⟨h1,h2⟩:=h
  by_cases e:p.1=k
  ·have e':q.1=k:=h1.symm.trans e;have b:valueAt (q::qs) k=some q.2:=by simp [valueAt,aEA,e']
   rw [eV e,b]; exact h2
  ·have e':¬ q.1=k:=fun z=>e (h1.trans z);have b:valueAt (q::qs) k=valueAt qs k:=by simp [valueAt,aEA,e']
   rw [eX e,b]; exact ih
theorem KV.any {kvs:List (κ×V)}{vs:List (κ×Value)}(r:KV kvs vs)(k:κ):(kvs.any fun kv=>decide (kv.1=k))=vs.any fun kv=>decide (kv.1=k):=by
 unfold KV at r
 induction r with
 | nil=>rfl
 | cons h t ih=>rw [aFH,aFH,ih,h.1]
theorem KV.repl {kvs:List (κ×V)}{vs:List (κ×Value)}(r:KV kvs vs)(k:κ){y:V}{u:Value}(ry:RelV y u) :
  KV (kvs.map fun kv=>if kv.1=k then (kv.1,y) else kv) (vs.map fun kv=>if kv.1=k then (kv.1,u) else kv):=by
 unfold KV at r ⊢
 induction r with
 | nil=>exact .nil
 | @cons p q ps qs h t ih =>
  rw [aDE,aDE];refine .cons ?_ ih;obtain ⟨h1,h2⟩:=h
  by_cases e:p.1=k
  ·rw [if_pos e,if_pos (h1.symm.trans e)]; exact ⟨h1,ry⟩
  ·rw [if_neg e,if_neg (fun z=>e (h1.trans z))]; exact ⟨h1,h2⟩
theorem KV.put {kvs:List (κ×V)}{vs:List (κ×Value)}(r:KV kvs vs)(k:κ){y:V}{u:Value}(ry:RelV y u):KV (putK kvs k y) (stored vs k u):=by
 unfold putK stored;rw [r.any k]
 by_cases e:(vs.any fun kv=>decide (kv.1=k))=true
 ·rw [if_pos e,if_pos e]; exact r.repl k ry
 ·rw [if_neg e,if_neg e]; exact Paired.snoc r ⟨rfl,ry⟩
theorem KV.length {kvs:List (κ×V)}{vs:List (κ×Value)}(r:KV kvs vs):kvs.length=vs.length:=Paired.length r
end
theorem Gz {P:Program}{w:World}{k:Key}{u:Value}(r:RelV (kV k) u):(dJ P w).is k u=true:=by
 cases k with
 | inl i=>obtain ⟨t,e⟩:=(show ∃ t,u=Value.int i t from r); subst e; exact Bv P w i t
 | inr x=>obtain ⟨t,e⟩:=(show ∃ t,u=Value.str x t from r); subst e; exact Cy P w x t
theorem xD {P:Program}{w:World}:∀ {ks:List Key}{us:List Value},bV (ks.map kV) us->ItemsAre (dJ P w) ks us
 | [],_,r=>by rw [aFr] at r; cases r; exact .nil
 | k::ks,_,r=>by
  rw [aDE] at r;cases r with
  | cons h t=>exact .cons (Gz h) (xD t)
abbrev KT (H:Hp):List (List Key×V)->List (List Key×Addr×Value)->Prop:=Paired fun p q=>p.1=q.1/\H q.2.1=some (.tup (p.1.map kV))/\RelV p.2 q.2.2
theorem KT.val {H:Hp}{kvs:List (List Key×V)}{xs:List (List Key×Addr×Value)}(r:KT H kvs xs)(k:List Key):mX (fP kvs k) ((atKey xs k).map (·.2)):=by
 induction r with
 | nil=>exact True.intro
 | @cons p q ps qs h t ih =>
  obtain ⟨h1,_,h2⟩:=h
  by_cases e:p.1=k
  ·have e':q.1=k:=h1.symm.trans e;have b:atKey (q::qs) k=some q.2:=by simp [atKey,aEA,e']
   rw [eV e,b]; exact h2
  ·have e':¬ q.1=k:=fun z=>e (h1.trans z);have b:atKey (q::qs) k=atKey qs k:=by simp [atKey,aEA,e']
   rw [eX e,b]; exact ih
theorem KT.repl {H:Hp}{kvs:List (List Key×V)}{xs:List (List Key×Addr×Value)}(r:KT H kvs xs)(k:List Key){y:V}{u:Value}(ry:RelV y u) :
  KT H (kvs.map fun kv=>if kv.1=k then (kv.1,y) else kv) (xs.map (putAt k u)):=by
 induction r with
 | nil=>exact .nil
 | @cons p q ps qs h t ih =>
  rw [aDE,aDE];refine .cons ?_ ih;obtain ⟨h1,h2,h3⟩:=h;unfold putAt
  by_cases e:p.1=k
  ·rw [if_pos e,if_pos (h1.symm.trans e)]; exact ⟨h1,h2,ry⟩
  ·rw [if_neg e,if_neg (fun z=>e (h1.trans z))]; exact ⟨h1,h2,h3⟩
theorem KT.put {H:Hp}{kvs:List (List Key×V)}{xs:List (List Key×Addr×Value)}(r:KT H kvs xs)(k:List Key){b:Addr}{y:V}{u:Value}(hb:H b=some (.tup (k.map kV)))(ry:RelV y u) :
  KT H (putK kvs k y) (storedH xs k b u):=by
 have e:(kvs.any fun kv=>decide (kv.1=k))=(atKey xs k).isSome:=by
  rw [m6,(r.val k).isSome_eq,Option.isSome_map]
 unfold putK storedH;rw [e]
 by_cases q:(atKey xs k).isSome=true
 ·rw [if_pos q,if_pos q]; exact r.repl k ry
 ·rw [if_neg q,if_neg q]; exact Paired.snoc r ⟨rfl,hb,ry⟩
theorem KT.keeps {H H':Hp}{kvs:List (List Key×V)}{xs:List (List Key×Addr×Value)}(r:KT H kvs xs)(ht:∀ b ys,H b=some (.tup ys)->H' b=some (.tup ys)):KT H' kvs xs :=
 Paired.mapP r fun _ _ z=>⟨z.1,ht _ _ z.2.1,z.2.2⟩
section
variable {P:Program}{w:World}{H:Hp}{h:Heap}{a:Addr}
theorem Px {u:HO}(ok:n6 P w H h)(e:Rd H a u):cH P w H h a u:=e.ok ok
theorem Be {kvs:List (Key×V)}(ok:n6 P w H h)(e:Rd H a (.dK kvs)):kvs.length<=sizeLine/\(a==sysModules)=false/\∃ vs,KV kvs vs/\h.DictOf (dJ P w) a vs :=
 show cH P w H h a (.dK kvs) from Px ok e
theorem Tz {kvs:List (Key×V)}(ok:n6 P w H h)(e:H a=some (.dK kvs)):kvs.length<=sizeLine/\(a==sysModules)=false/\∃ vs,KV kvs vs/\h.DictOf (dJ P w) a vs:=Be ok (.inl e)
theorem uL {ks:List Key}(ok:n6 P w H h)(e:H a=some (.tup (ks.map kV))):(tupleKind (dJ P w)).is h ks a:=by
 obtain ⟨_,its,r,o,h1,h2,n,h3⟩:=(show cH P w H h a (.tup (ks.map kV)) from ok a _ e)
 exact ⟨o,its.toArray,n,h1,h2,h3,by simpa using xD r⟩
theorem BL {kvs:List (List Key×V)}(ok:n6 P w H h)(e:Rd H a (.dT kvs)):kvs.length<=sizeLine/\(a==sysModules)=false ∧
  ∃ xs,KT H kvs xs/\h.DictOfH (tupleKind (dJ P w)) a xs:=by
 obtain ⟨z,y,xs,r,o,es,ep,h1,h2,h3,h4,h5⟩:=(show cH P w H h a (.dT kvs) from Px ok e)
 refine ⟨z,y,xs,r,o,es,ep,h1,h2,h3,h4,fun x hx=>?_,h5⟩;have all:∀ {l:List (List Key×V)}{m:List (List Key×Addr×Value)},KT H l m->∀ x∈m,(tupleKind (dJ P w)).is h x.1 x.2.1:=by
  intro l m q
  induction q with
  | nil=>intro x hx; exact nomatch hx
  | @cons p q ps qs hq t ih =>
   intro x hx;rcases aDA.mp hx with e | hx
   ·subst e;exact uL ok (by rw [<- hq.1]; exact hq.2.1)
   ·exact ih x hx
 exact all r x hx
theorem QL {kvs:List (List Key×V)}(ok:n6 P w H h)(e:H a=some (.dT kvs)):kvs.length<=sizeLine/\(a==sysModules)=false ∧
  ∃ xs,KT H kvs xs/\h.DictOfH (tupleKind (dJ P w)) a xs:=BL ok (.inl e)
end
def yR (H:Hp)(a:Addr)(y:V)(r:Option V):Prop :=
 (∃ kvs k,Rd H a (.dK kvs)/\y=kV k/\r=fP kvs k)∨∃ kvs k b,Rd H a (.dT kvs)/\y=.ref b/\H b=some (.tup (k.map kV))/\r=fP kvs k
def Ht (H:Hp)(a:Addr)(y v:V)(H':Hp):Prop :=
 (∃ kvs k,H a=some (.dK kvs)/\y=kV k/\kvs.length<sizeLine/\H'=aM H a (.dK (putK kvs k v))) ∨
 ∃ kvs k b,H a=some (.dT kvs)/\y=.ref b/\H b=some (.tup (k.map kV))/\kvs.length<sizeLine/\H'=aM H a (.dT (putK kvs k v))
theorem yR.t {H:Hp}{a b:Addr}{kvs:List (List Key×V)}{k:List Key}(e:H a=some (.dT kvs))(eb:H b=some (.tup (k.map kV))):yR H a (.ref b) (fP kvs k):=.inr ⟨kvs,k,b,.inl e,rfl,eb,rfl⟩
theorem Ht.t {H:Hp}{a b:Addr}{kvs:List (List Key×V)}{k:List Key}{v:V}(e:H a=some (.dT kvs))(eb:H b=some (.tup (k.map kV)))(hl:kvs.length<sizeLine) :
  Ht H a (.ref b) v (aM H a (.dT (putK kvs k v))):=.inr ⟨kvs,k,b,e,rfl,eb,hl,rfl⟩
section
variable {X:Cx}{pins:List (Addr×Obj)}{σ:St}{H:Hp}{s:Shared}{a:Addr}{y v:V}{u r:Value}{o:Option V}{A:Around}{E:Value->Shared->Prop}
theorem aQ.big (I:aQ X pins σ H s):sysModules<s.heap.objs.size:=by
 have h:mainGlobals<s.heap.objs.size:=(I.mod.glob.keeps I.bk).lt;exact Nat.lt_trans (by decide) h
theorem Il {Q:Value->Shared->Prop}(hu:A.units+1<cLine)(I:aQ X pins σ H s)(g:yR H a y (some v))(ry:RelV y u)(h:∀ w' s',aQ X pins σ H s'->RelV v w'->Q w' s') :
  wpAny (model X.prog X.w) A (getItem (.ref a) u) Q E s:=by
 rcases g with ⟨kvs,k,e,ey,l⟩ | ⟨kvs,k,b,e,ey,eb,l⟩
 ·subst ey;obtain ⟨z,hd,vs,rel,dd⟩:=Be I.hok e;obtain ⟨w',hw,rw'⟩:=mX.some_of (v:=v) (o:=valueAt vs k) (by rw [l]; exact rel.val k);exact wpAny_getItem_of (Gz ry) dd.mapOf hw (h w' _ (I.tok _) rw')
 ·subst ey;cases (show u=Value.ref b from ry);obtain ⟨z,hd,xs,rel,dd⟩:=BL I.hok e;obtain ⟨w',hw,rw'⟩:=mX.some_of (v:=v) (o:=(atKey xs k).map (·.2)) (by rw [l]; exact rel.val k);obtain ⟨p,hp,hp2⟩:=Option.map_eq_some_iff.mp hw;refine wpAny_getItem_heap (tupleKind_room_in1 hu) (uL I.hok eb) dd hp ?_;rw [hp2];exact h w' _ (I.tok _) rw'
theorem zU {h':Heap}{t':Nat}{ob:HO}(I:aQ X pins σ H s)(mu:Wd (H a))(hs:aDL a s.heap h')(he:∃ q,h'.get? a=some q)(new:cH X.prog X.w (aM H a ob) h' a ob) :
  aQ X pins σ (aM H a ob) { s with heap:=h',toks:=t' } :=
 I.write (x:=a) (e:=a) mu (.inl rfl) (fun b q hb z=>(hs.2 b hb).trans z) he new
theorem Rf {P:Program}{w:World}{H':Hp}{h':Heap}{kvs:List (Key×V)}{vs:List (Key×Value)}(z:kvs.length<=sizeLine)(hd:(a==sysModules)=false)(rel:KV kvs vs)(dd:h'.DictOf (dJ P w) a vs) :
  cH P w H' h' a (.dK kvs):=⟨z,hd,vs,rel,dd⟩
theorem Hx {H':Hp}{Q:Unit->Shared->Prop}(hu:A.units+1<cLine)(I:aQ X pins σ H s)(g:Ht H a y v H')(ry:RelV y u)(rv:RelV v r)(h:∀ s',aQ X pins σ H' s'->Q () s') :
  wpAny (model X.prog X.w) A (setItem (.ref a) u r) Q E s:=by
 rcases g with ⟨kvs,k,e,ey,l,eH⟩ | ⟨kvs,k,b,e,ey,eb,l,eH⟩
 ·subst ey eH;obtain ⟨z,hd,vs,rel,dd⟩:=Tz I.hok e;have hz:vs.length<=sizeLine:=by rw [<- rel.length]; exact z
  have hl:(putK kvs k v).length<=sizeLine:=by have:=gA kvs k v; omega
  refine wpAny_setItem_pairs (hsz:=hz) (Gz ry) dd fun h' dd' hs=>h _ ?_;have he:∃ q,h'.get? a=some q:=let ⟨q,_,_,hq,_⟩:=dd'; ⟨q,hq⟩;exact zU I (by rw [e]; exact True.intro) hs he (Rf hl hd (rel.put k rv) dd')
 ·subst ey eH;cases (show u=Value.ref b from ry);obtain ⟨z,hd,xs,rel,dd⟩:=QL I.hok e;have hz:xs.length<=sizeLine:=by rw [<- Paired.length rel]; exact z
  have hl:(putK kvs k v).length<=sizeLine:=by have:=gA kvs k v; omega
  refine wpAny_setItem_heap (hsz:=hz) (tupleKind_room_in1 hu) (uL I.hok eb) dd fun h' dd' hs=>h _ ?_;obtain ⟨q,es,ep,hq,h2,h3,h4,_,h5⟩:=dd';refine zU I (by rw [e]; exact True.intro) hs ⟨q,hq⟩ ⟨hl,hd,_,(rel.put k eb rv).keeps fun c ys ec=>?_,q,es,ep,hq,h2,h3,h4,h5⟩;rw [aH (dG ec e (fun z=>nomatch z))];exact ec
end
def Uo (i:Expr):Prop:=∀ ov iv,subscripted i false ov iv=operate [ov,iv] (getItem ov iv)
theorem O9 {prog:Program}{w:World}{A:Around}{E:Value->Shared->Prop}{s:Shared}{env:Env}{value slice:Expr}{pos:Pos}{T id:String}{Q:Value->Shared->Prop}
  (hl:typeLookup (.type T) "__getitem__" = pure (some (.builtin id))) (hs:Uo slice)
  (h:wpAny (model prog w) A (eval value env) (fun o s₁=>wpAny (model prog w) A (eval slice env) (fun i s₂=>s₂.TypeIs o T/\wpAny (model prog w) A (getItem o i) Q E s₂) E s₁) E s) :
  wpAny (model prog w) A (eval (.Subscript value slice pos) env) Q E s:=by
 refine Subscript_ (wpAny_mono h (fun o s₁ h₁=>wpAny_mono h₁ (fun i s₂ h₂=>?_) fun _ _ x=>x) fun _ _ x=>x);obtain ⟨hT,h₂⟩:=h₂;unfold subscriptTail;refine wpAny_bind ?_;rw [getitemInPython_of_ne hT.not_modules];refine wpAny_bind (wpAny_specialOf hT hl ?_);have fin:wpAny (model prog w) A (subscripted slice false o i) (fun r s₃=>wpAny (model prog w) A (letTemporaryGo value o r >>= fun _=>pure r) Q E s₃) E s₂:=by
  rw [hs o i];exact wpAny_operating (wpAny_mono h₂ (fun r s₃ h₃=>wpAny_bind (wpAny_letTemporaryGo (wpAny_pure h₃))) fun _ _ x=>x)
 first
  | exact wpAny_pure (wpAny_bind fin)
  | exact wpAny_bind (wpAny_pure (wpAny_bind fin))
  | exact wpAny_bind fin
theorem Cz {X:Cx}{pins:List (Addr×Obj)}{σ:St}{H:Hp}{s:Shared}{a:Addr}{y:V}{o:Option V}(I:aQ X pins σ H s)(g:yR H a y o):s.TypeIs (.ref a) "dict":=by
 rcases g with ⟨kvs,k,e,_,_⟩ | ⟨kvs,k,b,e,_,_,_⟩
 ·obtain ⟨_,_,vs,_,dd⟩:=Be I.hok e;exact dd.typeIs
 ·obtain ⟨_,_,xs,_,dd⟩:=BL I.hok e;exact dd.typeIs
def Vt (td ty:TE):TE:=fun σ H Q=>td σ H fun x H1=>ty σ H1 fun y H2=>∃ a v,x=.ref a/\yR H2 a y (some v)/\Q v H2
def Vs (td ty tv:TE):TS:=fun D σ H=>tv σ H fun v H1=>td σ H1 fun x H2=>ty σ H2 fun y H3=>∃ a H4,x=.ref a/\Ht H3 a y v H4/\D.nx σ H4
section
variable {X:Cx}{o i e value:Expr}{pos pos' tpos:Pos}{td ty tv:TE}
theorem Gk (hu:X.A.units+1<cLine)(ho:PE X o td)(hi:PE X i ty)(hs:Uo i):PE X (.Subscript o i pos) (Vt td ty):=by
 intro pins s σ H Q I h;refine O9 PySem.F.slot_dict_getitem.lookup hs (dF (ho pins s σ H _ I h) fun u s1 ⟨x,H1,I1,rx,q1⟩=>dF (hi pins s1 σ H1 _ I1 q1) fun iv s2 ⟨y,H2,I2,ry,a,v,ex,g,q2⟩=>?_);subst ex;obtain rfl:u=Value.ref a:=rx;exact ⟨Cz I2 g,Il hu I2 g ry fun w' s3 I3 rw'=>⟨v,H2,I3,rw',q2⟩⟩
theorem Ga (hu:X.A.units+1<cLine)(ho:PE X o td)(hi:PE X i ty)(hv:PE X value tv)(hs:swapsWith value (some (.Subscript o i pos')) pos.line X.env=pure false) :
  PS X (.Assign [.Subscript o i pos'] value pos) (Vs td ty tv):=by
 intro pins s σ H D I h;refine wpAny_Assign_Subscript (dF (hv pins s σ H _ I h) fun r s1 ⟨v,H1,I1,rv,q1⟩=>dF (ho pins s1 σ H1 _ I1 q1) fun u s2 ⟨x,H2,I2,rx,q2⟩=>dF (hi pins s2 σ H2 _ I2 q2) fun iv s3 ⟨y,H3,I3,ry,a,H4,ex,g,q3⟩=>?_) hs;subst ex;obtain rfl:u=Value.ref a:=rx;exact Hx hu I3 g ry rv fun s4 I4=>⟨σ,H4,I4,q3⟩
end
theorem KR {P:Program}{w:World}{H:Hp}(h:Heap)(hb:sysModules<h.objs.size):cH P w H (h.push { cls:=.type "dict",data:=.dict #[] }) h.objs.size (.dK []) :=
 ⟨aDK _,beq_eq_false_iff_ne.mpr (Ne.symm (aDI hb)),[],.nil,Heap.DictOf.new h⟩
theorem DX {P:Program}{w:World}{H:Hp}(h:Heap)(hb:sysModules<h.objs.size):cH P w H (h.push { cls:=.type "dict",data:=.dict #[] }) h.objs.size (.dT []) :=
 ⟨aDK _,beq_eq_false_iff_ne.mpr (Ne.symm (aDI hb)),[],.nil,_,#[],0,aDt _ rfl,⟨rfl,rfl,rfl⟩,rfl,rfl,aET⟩
def Lb:TE:=fun _ H Q=>∀ p,H p=none->Q (.ref p) (aM H p (.dK []))
def R8:TE:=fun _ H Q=>∀ p,H p=none->Q (.ref p) (aM H p (.dT []))
section
variable {X:Cx}{pos:Pos}
theorem K9:PE X (.Dict [] [] pos) Lb:=fun pins s σ H Q I h =>
 wpAny_Dict_empty ⟨.ref s.heap.objs.size,_,I.laid (a:=s.heap.objs.size) (o:=.dK []) (t':=s.toks) (fun _ _ q=>aDf _ q) (aDn _) (KR s.heap I.big),rfl,h _ (I.hok.fresh (aDn _))⟩
theorem Cv:PE X (.Dict [] [] pos) R8:=fun pins s σ H Q I h =>
 wpAny_Dict_empty ⟨.ref s.heap.objs.size,_,I.laid (a:=s.heap.objs.size) (o:=.dT []) (t':=s.toks) (fun _ _ q=>aDf _ q) (aDn _) (DX s.heap I.big),rfl,h _ (I.hok.fresh (aDn _))⟩
end
structure M2 (X:Cx)(o:Expr)(m:Str)(apos:Pos)(e f:Expr)(cpos:Pos):Prop where
 base:attributeBase o m X.env (eval o X.env)=eval o X.env
 few:((backTo cpos (starEach [e,f] X.env)).all (fun x=>!x.1)&&(backToKw cpos (keywordEach [] X.env)).all (fun x=>x.1.isSome)
 &&decide (([e,f]:List Expr).length+([]:List Keyword).length+(if ([]:List Keyword).isEmpty then 0 else 1)<30))=true
 line:(apos.endLine==cpos.line)=true
 trees:backTo cpos (starEach [e,f] X.env)=[(false,eval e X.env),(false,eval f X.env)]
def IsD (H:Hp)(a:Addr):Prop:=(∃ kvs,Rd H a (.dK kvs))∨∃ kvs,Rd H a (.dT kvs)
theorem R0 {X:Cx}{pins:List (Addr×Obj)}{σ:St}{H:Hp}{s:Shared}{a:Addr}(I:aQ X pins σ H s)(d:IsD H a) :
  s.TypeIs (.ref a) "dict"/\(∀ b,Value.ref a=.ref b->∃ ob,s.heap.get? b=some ob/\ob.dict=none)/\(a==sysModules)=false:=by
 rcases d with ⟨kvs,e⟩ | ⟨kvs,e⟩
 ·obtain ⟨_,hd,vs,_,dd⟩:=Be I.hok e;refine ⟨dd.typeIs,fun b q=>?_,hd⟩;cases q;obtain ⟨ob,_,_,h1,h2,_⟩:=dd;exact ⟨ob,h1,h2.2.1⟩
 ·obtain ⟨_,hd,xs,_,dd⟩:=BL I.hok e;refine ⟨dd.typeIs,fun b q=>?_,hd⟩;cases q;obtain ⟨ob,_,_,h1,h2,_⟩:=dd;exact ⟨ob,h1,h2.2.1⟩
section
variable {X:Cx}{pins:List (Addr×Obj)}{σ:St}{H:Hp}{s:Shared}{a:Addr}{y d:V}{u r:Value}{o:Option V}{A:Around}{E:Value->Shared->Prop}
theorem RK {Q:Value->Shared->Prop}(hu:A.units+1<cLine)(I:aQ X pins σ H s)(g:yR H a y o)(ry:RelV y u)(rd:RelV d r)(h:∀ w' s',aQ X pins σ H s'->RelV (o.getD d) w'->Q w' s') :
  wpAny (model X.prog X.w) A (call (.builtin "dict.get") [.ref a,u,r]) Q E s:=by
 rcases g with ⟨kvs,k,e,ey,l⟩ | ⟨kvs,k,b,e,ey,eb,l⟩
 ·subst ey;obtain ⟨z,hd,vs,rel,dd⟩:=Be I.hok e;refine call_meetsIn PySem.F.slot_dict_get dd.typeIs PySem.F.entry_dict_get (PySem.F.args_dict_get_3 _ _ _) (meets_dict_get_default (dJ X.prog X.w) a (Gz ry) hd r) ⟨_,dd.mapOf,h _ _ (I.tok _) ?_⟩;rw [l];exact (rel.val k).getD rd
 ·subst ey;cases (show u=Value.ref b from ry);obtain ⟨z,hd,xs,rel,dd⟩:=BL I.hok e;refine call_meetsIn PySem.F.slot_dict_get dd.typeIs PySem.F.entry_dict_get (PySem.F.args_dict_get_3 _ _ _) (meetsH_dict_get_default (tupleKind (dJ X.prog X.w)) a b hd r) ⟨tupleKind_room_in1 hu,k,xs,uL I.hok eb,dd,h _ _ (I.tok _) ?_⟩;rw [l];exact (rel.val k).getD rd
end
def Rv (td ty tx:TE):TE:=fun σ H Q=>td σ H fun x H1=>∃ a,x=.ref a/\IsD H1 a/\ty σ H1 fun y H2=>tx σ H2 fun z H3=>∃ o,yR H3 a y o/\Q (o.getD z) H3
section
variable {X:Cx}{o e f:Expr}{apos cpos:Pos}{td ty tx:TE}
theorem CP (hu:X.A.units+1<cLine)(ho:PE X o td)(he:PE X e ty)(hf:PE X f tx)(m:M2 X o "get" apos e f cpos):PE X (.Call (.Attribute o "get" apos) [e,f] [] cpos) (Rv td ty tx):=by
 intro pins s σ H Q I h;refine wpAny_Call_method m.base m.few m.line PySem.F.plainAttrs_dict PySem.F.slot_dict_get PySem.F.type_dict_get (dF (ho pins s σ H _ I h) fun u s1 ⟨x,H1,I1,rx,a,ex,d,q1⟩=>?_);subst ex;obtain rfl:u=Value.ref a:=rx;obtain ⟨t1,t2,_⟩:=R0 I1 d;refine ⟨t1,t2,?_⟩;rw [m.trees];refine Calls.callWith_builtin rfl (Calls.evalArgs_plain (Calls.spliced_cons (dF (he pins s1 σ H1 _ I1 q1) fun iv s2 ⟨y,H2,I2,ry,q2⟩ =>
  Calls.spliced_cons (dF (hf pins s2 σ H2 _ I2 q2) fun fv s3 ⟨z,H3,I3,rz,ov,g,q3⟩=>Calls.spliced_nil ?_))))
 exact RK hu I3 g ry rz fun w' s4 I4 rw'=>⟨_,H3,I4,rw',q3⟩
end
section
variable {κ:Type}[DecidableEq κ]
theorem KQ {kvs:List (κ×V)}{k:κ}(h:fP kvs k=none):¬ k∈kvs.map (·.1):=by
 intro m;obtain ⟨p,hp,e⟩:=aDg.mp m;have q:(kvs.any fun kv=>decide (kv.1=k))=true:=aEv.mpr ⟨p,hp,decide_eq_true e⟩;rw [m6,h] at q;exact absurd q (by simp)
end
end L2
namespace PySem
section
variable {prog:Program}{w:World}{A:Around}{E:Value->Shared->Prop}{R:Result->Shared->Prop}{s:Shared}
theorem Af {elt target iter:Expr}{ifs:List Expr}{scope:Scope}{pos:Pos}{it acc:Value}{env:Env}(I:Nat->Shared->Prop)
  (turn:∀ n s,I n s->∀ E':Value->Shared->Prop,wpAny (model prog w) A (pyNext it) (fun r s₁=>match r with
   | none=>R (.ok .next) s₁
   | some v=>wpAny (model prog w) A (letOwnedTupleGo target it v) (fun _ s₁'=>wpAny (model prog w) A (assign target env v) (fun _ s₂ =>
     wpAny (model prog w) A (forIn ifs true fun c r=>if r=true then do let ok <- isTrue c env (eval c env); pure (ForInStep.yield ok) else pure (ForInStep.yield r)) (fun ok s₃ =>
      if ok=true then wpAny (model prog w) A (eval elt env) (fun x s₄ =>
       wpAny (model prog w) A (call (.builtin "list.append") [acc,x]) (fun _ s₅=>∃ m,m<n/\I m s₅) E' s₄) E' s₃
      else ∃ m,m<n/\I m s₃) E' s₂) E' s₁') E' s₁) E' s)
  (n:Nat) (h:I n s) :
  codeAny (model prog w) A (.compLoop (.ListComp elt [⟨target,iter,ifs,0⟩] scope pos) 0 it acc env) R s:=by
 refine codeAny_loop rfl I (fun n s hI=>?_) n h;show wpAny _ A ((compTurn (.ListComp elt [⟨target,iter,ifs,0⟩] scope pos) 0 it acc env).onRaise (fun x=>do noteFrame x env; theTreesLotGoes x)) _ _ s;refine wpAny_noted ?_;rw [compTurn_list];refine wpAny_bind (wpAny_standAt (wpAny_bind (wpAny_mono (turn n s hI _) (fun r s₁ h₁=>?_) fun _ _ h'=>h')));cases r with
 | none=>exact wpAny_pure h₁
 | some v =>
  refine wpAny_bind (wpAny_mono h₁ (fun _ s₁' h₁'=>?_) fun _ _ h'=>h');refine wpAny_bind (wpAny_mono h₁' (fun _ s₂ h₂=>wpAny_bind (wpAny_mono h₂ (fun ok s₃ h₃=>?_) fun _ _ h'=>h')) fun _ _ h'=>h');cases ok with
  | false=>exact wpAny_pure ⟨rfl,h₃⟩
  | true =>
   exact wpAny_bind (wpAny_bind (wpAny_mono h₃ (fun x s₄ h₄=>wpAny_bind (wpAny_mono h₄ (fun _ s₅ h₅=>wpAny_pure (wpAny_pure ⟨rfl,h₅⟩)) fun _ _ h'=>h')) fun _ _ h'=>h'))
end
def eN (env:Env):List (Str×NameKind)->List (Str×Addr)->List (Str×Addr)
 | [],cs=>cs
 | (n,k)::r,cs=>eN env r (if k==.free then (match env.cells.lookup n with | some a=>(n,a)::cs | none=>cs) else cs)
theorem rM {scope:Scope}{env:Env}(h:∀ y∈scope.names,y.2=.free->∃ c,env.cells.lookup y.1=some c):closureFor scope env=pure (eN env scope.names []):=by
 unfold closureFor;have key:∀ (l:List (Str×NameKind)) (cs:List (Str×Addr)),(∀ y∈l,y.2=.free->∃ c,env.cells.lookup y.1=some c) ->
   (forIn l cs fun x r=>(match x with
    | (name,kind)=>if (kind==NameKind.free)=true then (do let a <- cellOf env name; pure (ForInStep.yield ((name,a)::r))) else pure (ForInStep.yield r):Sem (ForInStep (List (Str×Addr)))))=(pure (eN env l cs):Sem _):=by
  intro l
  induction l with
  | nil=>intro cs _; rfl
  | cons y r ih =>
   intro cs hy;obtain ⟨n,k⟩:=y;rw [aFx]
   by_cases hk:(k==NameKind.free)=true
   ·obtain ⟨c,hc⟩:=hy (n,k) aDj (by simpa using hk);have e:cellOf env n=pure c:=by unfold cellOf; rw [hc]
    simp only [hk,if_true,e,pure_bind];rw [ih _ fun z hz=>hy z (aDk _ hz)];show _=pure (eN env r (if (k==NameKind.free)=true then (match env.cells.lookup n with | some a=>(n,a)::cs | none=>cs) else cs));rw [if_pos hk,hc]
   ·have hk2:(k==NameKind.free)=false:=by simpa using hk
    simp only [hk2,aD7,if_false,pure_bind];rw [ih _ fun z hz=>hy z (aDk _ hz)];show _=pure (eN env r (if (k==NameKind.free)=true then (match env.cells.lookup n with | some a=>(n,a)::cs | none=>cs) else cs));rw [if_neg hk]
 have k2:=key scope.names [] h;simp only [bind_pure]
 first
  | exact k2
  | (rw [<- k2]; rfl)
theorem rT {env:Env}:∀ (l:List (Str×NameKind)) (cs:List (Str×Addr)) (p:Str×Addr),p∈eN env l cs->p∈cs∨env.cells.lookup p.1=some p.2
 | [],_,_,h=>.inl h
 | (n,k)::r,cs,p,h=>by
  rcases rT r _ p h with q | q
  ·by_cases hk:(k==NameKind.free)=true
   ·rw [if_pos hk] at q;cases e:env.cells.lookup n with
    | none=>rw [e] at q; exact .inl q
    | some a =>
     rw [e] at q;rcases aDA.mp q with z | z
     ·subst z; exact .inr e
     ·exact .inl z
   ·rw [if_neg hk] at q; exact .inl q
  ·exact .inr q
theorem xN {env:Env}:∀ (l:List (Str×NameKind)) (cs:List (Str×Addr)) (p:Str×Addr),p∈cs->p∈eN env l cs
 | [],_,_,h=>h
 | (n,k)::r,cs,p,h=>by
  refine xN r _ p ?_
  by_cases hk:(k==NameKind.free)=true
  ·rw [if_pos hk];cases e:env.cells.lookup n with
   | none=>exact h
   | some a=>exact aDk _ h
  ·rw [if_neg hk]; exact h
theorem rY {env:Env}{n:Str}{c:Addr}(e:env.cells.lookup n=some c):∀ (l:List (Str×NameKind)) (cs:List (Str×Addr)),(n,NameKind.free)∈l->(n,c)∈eN env l cs
 | [],_,h=>nomatch h
 | (m,k)::r,cs,h=>by
  rcases aDA.mp h with z | z
  ·cases z;refine xN r _ _ ?_;rw [if_pos (by rfl),e];exact aDj
  ·exact rY e r _ z
theorem lA {β:Type}{n:Str}{c:β}:∀ {l:List (Str×β)},(n,c)∈l->∃ d,l.lookup n=some d
 | [],h=>nomatch h
 | (m,d)::r,h=>by
  cases q:n==m with
  | true=>exact ⟨d,by simp only [aD8,q]⟩
  | false =>
   rcases aDA.mp h with z | z
   ·cases z;simp at q
   ·obtain ⟨d',e⟩:=lA z;exact ⟨d',by simp only [aD8,q,e]⟩
theorem iK {env:Env}:∀ {names:List (Str×NameKind)}{x:Str}{k:NameKind},
  (names.map fun (n,k)=>if (k==NameKind.free&&env.scope.kind==.function&&env.kindOf n==some .cell) then (n,NameKind.cell) else (n,k)).lookup x=some k ->
  ∃ k',names.lookup x=some k'/\(k'=k∨(k'=.free/\k=.cell))
 | [],_,_,h=>by simp at h
 | (n,j)::r,x,k,h=>by
  cases hx:x==n with
  | true =>
   refine ⟨j,by simp only [aD8,hx],?_⟩
   by_cases hc:(j==NameKind.free&&env.scope.kind==.function&&env.kindOf n==some .cell)=true
   ·simp only [aDE,if_pos hc,aD8,hx] at h;cases h;refine .inr ⟨?_,rfl⟩;simp only [aD2,beq_iff_eq] at hc;exact hc.1.1
   ·simp only [aDE,if_neg hc,aD8,hx] at h;cases h;exact .inl rfl
  | false =>
   by_cases hc:(j==NameKind.free&&env.scope.kind==.function&&env.kindOf n==some .cell)=true
   ·simp only [aDE,if_pos hc,aD8,hx] at h;obtain ⟨k',e1,e2⟩:=iK h;exact ⟨k',by simp only [aD8,hx,e1],e2⟩
   ·simp only [aDE,if_neg hc,aD8,hx] at h;obtain ⟨k',e1,e2⟩:=iK h;exact ⟨k',by simp only [aD8,hx,e1],e2⟩
end PySem
namespace L2
open PySem PySem.Spec PyProof.Rows
open Builtin.Int (intBits)
section
variable {X:Cx}
def QZ (i j:Int):Prop:=intBits i+intBits j<=134217728
def Wf (i j:Int):Prop:=j≠0/\intBits j<=9000
theorem dC:pM X (binaryOp .Mult) (rI QZ fun i j=>.int (i*j)):=SX fun _ _ _ _ _ _ _ hc q=>mul_int q (IntMulOk.of_le (aDn _) (aDn _) hc)
theorem zZ {j:Int}(h0:j≠0)(h:intBits j<=9000):j.natAbs.log2<9000:=by
 unfold Builtin.Int.intBits at h;have e:(j==0)=false:=by simpa using h0
 rw [e] at h;simp only [aD7,if_false] at h;omega
theorem jJ:pM X (binaryOp .FloorDiv) (rI Wf fun i j=>.int (i.fdiv j)):=SX fun _ _ _ _ _ _ _ hc q=>floordiv_int hc.1 q (.inl (PyProof.noPylong_of_log2 (zZ hc.1 hc.2)))
theorem dH {T:String}:fB X (.builtin "isinstance") (fun xs H Q=>∃ x t b,xs=[x,.ty T]/\j4 X.K H x t/\PySem.W.kitOne X.K t (.type T)=some b/\Q (.bl b) H):=by
 intro pins s σ H xs us Q I r h;obtain ⟨x,t,b,rfl,ty,e,q⟩:=h;obtain ⟨u,w',rfl,rx,rt⟩:=vals2 r;cases (show w'=Value.type T from rt);exact JQ I rx ty e fun tk=>⟨.bl b,H,I.tok _,rfl,q⟩
theorem getD_at {α:Type}{l:List α}{d:α}{i:Nat}(h:i<l.length):l.getD i d=l[i]:=by simp [h]
end
structure bW (sc scope:Scope):Prop where
 kind:scope.kind=.function
 nocell:∀ y∈scope.names,y.2≠.cell
 loc:∀ y∈scope.names,y.2=.local->scope.names.lookup y.1=some .local
 free:∀ y∈scope.names,y.2=.free->sc.names.lookup y.1=some .cell∨sc.names.lookup y.1=some .free
def Gp (sc scope:Scope):Bool:=(scope.kind==.function)&&scope.names.all fun y=>(y.2 != .cell)&&((y.2 != .local)||(scope.names.lookup y.1==some .local))&&((y.2 != .free)||(sc.names.lookup y.1==some .cell)||(sc.names.lookup y.1==some .free))
theorem bW.of {sc scope:Scope}(h:Gp sc scope=true):bW sc scope:=by
 unfold Gp at h;rw [aD2,aEI] at h;obtain ⟨hk,h⟩:=h;refine ⟨eq_of_beq hk,fun y hy=>?_,fun y hy e=>?_,fun y hy e=>?_⟩
 ·have q:=h y hy;simp only [aD2,bne_iff_ne] at q;exact q.1.1
 ·have q:=h y hy;simp only [aD2,aFy,bne_iff_ne,beq_iff_eq] at q;exact q.1.2.resolve_left fun z=>z e
 ·have q:=h y hy;simp only [aD2,aFy,bne_iff_ne,beq_iff_eq] at q;rcases q.2 with (z | z) | z
  ·exact absurd e z
  ·exact .inl z
  ·exact .inr z
structure NL (N M:List Str)(scope:Scope):Prop where
 len:M.length=N.length
 loc:∀ (j:Nat) x,M[j]? = some x->scope.names.lookup x≠some .local
 free:∀ (j:Nat) x,M[j]? = some x->scope.names.lookup x=some .free->N[j]? = some x
def ZR (scope:Scope):List Str->List Str->Bool
 | [],[]=>true
 | x::M,y::N=>(scope.names.lookup x != some .local)&&((scope.names.lookup x != some .free)||x==y)&&ZR scope M N
 | _,_=>false
theorem NL.of {scope:Scope}:∀ {N M:List Str},ZR scope M N=true->NL N M scope
 | [],[],_=>⟨rfl,fun j x h=>by simp at h,fun j x h=>by simp at h⟩
 | [],_::_,h=>by cases h
 | _::_,[],h=>by cases h
 | y::N,x::M,h=>by
  have h':((scope.names.lookup x != some .local)&&((scope.names.lookup x != some .free)||x==y)&&ZR scope M N)=true:=h;simp only [aD2,aFy,bne_iff_ne,beq_iff_eq] at h';obtain ⟨⟨h1,h2⟩,h3⟩:=h';have q:=NL.of h3;refine ⟨by simp [q.len],fun j z e=>?_,fun j z e f=>?_⟩
  ·cases j with
   | zero=>simp at e; subst e; exact h1
   | succ j=>exact q.loc j z (by simpa using e)
  ·cases j with
   | zero =>
    simp at e; subst e;rcases h2 with w | w
    ·exact absurd f w
    ·simp [w]
   | succ j=>simpa using q.free j z (by simpa using e) f
def d7 (X:Cx)(ls M:List Str)(scope:Scope)(C:Addr)(fp:List Addr)(s:Shared)(H:Hp):Cx where
 prog:=X.prog
 w:=X.w
 K:=X.K
 mg:=X.mg
 base:=X.base
 A:=X.A
 N:=ls++M
 s₀:=s
 H₀:=H
 env:=compEnvC scope (eN X.env scope.names []) C X.env
 outer:=X.stack
 stack:=X.stack
 ex:=fp
 fn:=fun _=>false
 calm:=X.calm
 pn:=[]
 xe:=fun _ _=>False
def XF (Y:Cx)(ifs:List Expr)(c:TT):Prop :=
 ∀ (pins:List (Addr×Obj)) (s:Shared) (σ:St) (H:Hp) (Q:Bool->Hp->Prop),aQ Y pins σ H s->c σ H Q ->
  wpAny (model Y.prog Y.w) Y.A (forIn ifs true fun c r=>if r=true then do let ok <- isTrue c Y.env (eval c Y.env); pure (ForInStep.yield ok) else pure (ForInStep.yield r)) (TP Y pins σ Q) Y.xe s
def Qm:TT:=fun _ H Q=>Q true H
theorem cC {Y:Cx}:XF Y [] Qm:=fun _ _ _ H _ I h=>wpAny_tests_nil ⟨H,I,h⟩
theorem GF {Y:Cx}{e:Expr}{c:TT}(h:PT Y e c):XF Y [e] c:=fun pins s σ H Q I hw=>wpAny_tests_one (h pins s σ H Q I hw)
def vI (k:Nat)(J:It)(g:TG)(c:TT)(te:TE)(σ:St)(H1:Hp)(D:Addr)(Q:VK):Prop :=
 ∃ W:Nat->Nat->St->Hp->Prop,(∃ m,W 0 m (aDx k none++σ) (aM H1 D (.lst [])))/\∀ i m τ H,W i m τ H ->
  (J.stop i H/\Q (.ref D) H)∨(J.go i H/\∀ x H',J.yld i H x H'->g x τ H' fun τ2 H2=>c τ2 H2 fun b H3=>if b=true then te τ2 H3 fun y H4=>∃ ys m',m'<m/\H4 D=some (.lst ys)/\ys.length<sizeLine/\W (i+1) m' τ2 (aM H4 D (.lst (ys++[y]))) else ∃ m',m'<m/\W (i+1) m' τ2 H3)
def Py (k:Nat)(wi:TI)(g:TG)(c:TT)(te:TE):TE:=fun σ H Q=>wi σ H fun J H1=>∀ D,H1 D=none->vI k J g c te σ H1 D Q
structure Nz (X:Cx)(pins:List (Addr×Obj))(H:Hp)(C:Addr)(s:Shared):Prop where
 ns:∃ m,s.heap.Ns C m
 none:H C=none
 ne:C≠X.env.locals
 young:X.s₀.heap.objs.size<=C
 cells:∀ x c,X.env.cells.lookup x=some c->c≠C
 pins:∀ p∈X.pn++pins,p.1≠C
theorem aQ.gone {X:Cx}{pins:List (Addr×Obj)}{σ:St}{H:Hp}{C:Addr}{s:Shared}{h':Heap}(I:aQ X pins σ H s)(o:Nz X pins H C s)(hs:aDL C s.heap h'):aQ X pins σ H { s with heap:=h' } :=
 I.turned (t':=s.toks) (it:=C) (fun b ob hb e=>(hs.2 b hb).trans e) o.none o.ne (.inr o.young) o.cells o.pins
section
variable {X:Cx}{elt tg iter:Expr}{ifs:List Expr}{scope:Scope}{pos:Pos}{ls M:List Str}{g:TG}{c:TT}{te:TE}
theorem xO {J:It}{fp:List Addr}{tn:Nat->Heap->Prop}{it:Addr}{pins:List (Addr×Obj)}{σ:St}{H2:Hp}{s2:Shared}{Qe:VK}{RR:Value->Addr->Result->Shared->Prop}{E:Value->Shared->Prop}
  (hc:X.calm=true) (S:bW X.env.scope scope) (nl:NL X.N M scope)
  (hb:∀ C fp s H,PG (d7 X ls M scope C fp s H) tg g/\XF (d7 X ls M scope C fp s H) ifs c/\PE (d7 X ls M scope C fp s H) elt te)
  (I2:aQ X pins σ H2 s2) (T:Turn X.prog X.w X.K tg J fp it tn) (st2:tn 0 s2.heap) (f2:∀ b∈fp,jM X pins H2 b)
  (hW:∀ D,H2 D=none->vI ls.length J g c te σ H2 D Qe)
  (hRR:∀ D C H' s',aQ X pins σ H' s'->Nz X pins H' C s'->Qe (.ref D) H'->RR (.ref D) C (.ok .next) s') :
  wpAny (model X.prog X.w) X.A (newList []) (fun acc s₃=>wpAny (model X.prog X.w) X.A (newFunctionEnv scope X.env.globals (eN X.env scope.names []) [] X.env.qual none .none (some X.env)) (fun cenv s₄ =>
   codeAny (model X.prog X.w) X.A (.compStart (.ListComp elt [⟨tg,iter,ifs,0⟩] scope pos) 0 (.ref it) acc { cenv with scope:=relabel scope X.env }) (RR acc cenv.locals) s₄) E s₃) E s2:=by
 refine wpAny_newObj_type (wpAny_newFunctionEnv S.nocell (by intro y hy; simp at hy) (fun h₁ hns₁ hsb₁=>?_) S.kind);dsimp only at hns₁ hsb₁ ⊢;have I3:aQ X pins σ (aM H2 s2.heap.objs.size (.lst [])) { s2 with heap:=s2.heap.push { cls:=.type "list",dict:=none,data:=.seq ([]:List Value).toArray },toks:=s2.toks } :=
  I2.laid (fun _ _ q=>aDf _ q) (aDn _) ⟨aDK _,[],0,.nil,aDt _ rfl⟩
 have hfreshD:H2 s2.heap.objs.size=none:=I2.hok.fresh (aDn _);generalize hHH:s2.heap.push { cls:=.type "list",dict:=none,data:=.seq ([]:List Value).toArray }=HH at hns₁ hsb₁ I3 ⊢;have up:∀ b o,s2.heap.get? b=some o->HH.get? b=some o:=fun b o e=>by rw [<- hHH]; exact aDf _ e
 have old:∀ b o,HH.get? b=some o->h₁.get? b=some o:=fun b o e=>hsb₁.extBut b o (aDI (aDv e)) (aDf _ e);generalize hH3:aM H2 s2.heap.objs.size (.lst [])=H3 at I3;have f3:∀ b∈fp,jM X pins H3 b:=fun b hb=>by
  obtain ⟨f0,fr⟩:=f2 b hb;refine ⟨?_,fr⟩;obtain ⟨o,e,_⟩:=T.obj 0 _ st2 b hb;rw [<- hH3,aH (aDI (aDv e))];exact f0
 have fplt:∀ b∈fp,b<HH.objs.size:=fun b hb=>by
  obtain ⟨o,e,_⟩:=T.obj 0 _ st2 b hb;exact aDv (up b o e)
 have sub:∀ x a,(eN X.env scope.names []).lookup x=some a->X.env.cells.lookup x=some a:=fun x a e=>by
  rcases rT _ _ _ (PySem.mem_of_lookup e) with z | z
  ·exact absurd z (by simp)
  ·exact z
 have kin:∀ x,scope.names.lookup x=some .free->X.env.kindOf x=some .cell∨X.env.kindOf x=some .free:=fun x e=>S.free (x,.free) (PySem.mem_of_lookup e) rfl;have has:∀ x a,scope.names.lookup x=some .free->X.env.cells.lookup x=some a->(eN X.env scope.names []).lookup x=some a:=fun x a e ec=>by
  obtain ⟨d,hd⟩:=lA (rY ec scope.names [] (PySem.mem_of_lookup e));have:=sub x d hd;rw [ec] at this;cases this;exact hd
 have rel:∀ x k,(relabel scope X.env).names.lookup x=some k->(k=.cell∨k=.free)->scope.names.lookup x=some .free:=fun x k e hk=>by
  obtain ⟨k',e1,e2⟩:=iK (show (scope.names.map fun (n,k)=>if (k==NameKind.free&&X.env.scope.kind==.function&&X.env.kindOf n==some .cell) then (n,NameKind.cell) else (n,k)).lookup x=some k from e);rcases e2 with e2 | ⟨e2,_⟩
  ·subst e2;rcases hk with hk | hk
   ·subst hk; exact absurd rfl (S.nocell _ (PySem.mem_of_lookup e1))
   ·subst hk; exact e1
  ·subst e2; exact e1
 have okY:(d7 X ls M scope HH.objs.size fp { s2 with heap:=HH,toks:=s2.toks } H3).Ok:=by
  refine ⟨I3.ok.mod,S.kind,I3.ok.glob,I3.ok.blt,aDn _,fun x y a h1 h2=>I3.ok.inj x y a (sub x a h1) (sub y a h2),fun x hx=>?_,(fun x a h=>nomatch h),I3.ok.hd,I3.ok.frames,.inl rfl,fun b hb'=>⟨aDI (fplt b hb'),fun x a e=>(f3 b hb').2.2.2.2.1 x a (sub x a e)⟩,
   I3.bs,aDh I3.ok.bsz I3.sz,fun b o e hb'=>?_,fun b hb' hs=>?_,I3.stack,I3.stkFree⟩
  ·have hf:scope.names.lookup x=some .free:=by
    rcases hx with hx | hx
    ·exact rel x _ hx (.inl rfl)
    ·exact rel x _ hx (.inr rfl)
   obtain ⟨a,ea⟩:=I3.ok.has x (kin x hf);exact ⟨a,has x a hf ea⟩
  ·rcases (f3 b hb').2.2.2.1 with z | z
   ·exact I3.ok.noex b o e z
   ·exact absurd (aDG (aDv e) (aDh I3.ok.bsz z)) (aEi _)
  ·rcases aDA.mp (I3.stkSub b hs) with z | z
   ·exact (f3 b hb').2.1 z
   ·exact (f3 b hb').2.2.1 z
 have IY:aQ (d7 X ls M scope HH.objs.size fp { s2 with heap:=HH,toks:=s2.toks } H3) [] (aDx ls.length none++σ) H3 { s2 with heap:=h₁,toks:=s2.toks+([]:List (Str×Value)).length }:=by
  refine ⟨okY,rfl,I2.bare,Un.kept old,⟨_,hns₁,fun i x v e1 e2 e3=>?_⟩,fun x a e=>?_,I3.hok.fresh (aDn _),fun x a e=>I3.freeC x a (sub x a e),fun p hp=>absurd (show p∈([]:List (Addr×Obj)) from hp) (by simp),I3.hok.kept old,?_⟩
  ·have hi:ls.length<=i:=by
    by_cases hi:ls.length<=i
    ·exact hi
    ·rw [aD3 (by simp; omega),aEP] at e2
     split at e2 <;> cases e2
   rw [aDM (by simpa using hi),aDZ] at e2;have e0:M[i-ls.length]? = some x:=by
    have z:(ls++M)[i]? = some x:=e1;rw [aDM hi] at z;exact z
   have hnl:=nl.loc _ x e0;have hf:scope.names.lookup x=some .free:=by
    rcases e3 with e3 | e3 | e3
    ·obtain ⟨k',q1,q2⟩:=iK (show (scope.names.map fun (n,k)=>if (k==NameKind.free&&X.env.scope.kind==.function&&X.env.kindOf n==some .cell) then (n,NameKind.cell) else (n,k)).lookup x=some .local from e3);rcases q2 with q2 | ⟨_,q2⟩
     ·subst q2; exact absurd q1 hnl
     ·cases q2
    ·exact rel x _ e3 (.inl rfl)
    ·exact rel x _ e3 (.inr rfl)
   have e1':=nl.free _ x e0 hf;have hk:=kin x hf;obtain ⟨m,hn,hl⟩:=I3.loc;obtain ⟨u,ru,lk⟩:=hl (i-ls.length) x v e1' e2 (hk.elim (fun z=>.inr (.inl z)) fun z=>.inr (.inr z));refine ⟨u,ru,?_⟩;rcases lk with ⟨z,_⟩ | ⟨_,a,ea,hcell⟩
   ·rcases hk with hk | hk <;> (rw [hk] at z; cases z)
   ·obtain ⟨o,eo,hd⟩:=hcell;refine .inr ⟨?_,a,has x a hf ea,⟨o,old a o eo,hd⟩⟩;rcases e3 with e3 | e3 | e3
    ·obtain ⟨k',q1,q2⟩:=iK (show (scope.names.map fun (n,k)=>if (k==NameKind.free&&X.env.scope.kind==.function&&X.env.kindOf n==some .cell) then (n,NameKind.cell) else (n,k)).lookup x=some .local from e3);rcases q2 with q2 | ⟨_,q2⟩
     ·subst q2; exact absurd q1 hnl
     ·cases q2
    ·exact .inl e3
    ·exact .inr e3
  ·obtain ⟨v,o,eo,hd⟩:=I3.cell x a (sub x a e);exact ⟨v,o,old a o eo,hd⟩
  ·show (aDx ls.length none++σ).length=(ls++M).length;rw [aDp,aDp,aDZ,I3.len,nl.len]
 have st1:tn 0 h₁:=T.keep 0 _ _ st2 fun b _ o e=>old b o (up b o e);obtain ⟨hPG,hPT,hPE⟩:=hb HH.objs.size fp { s2 with heap:=HH,toks:=s2.toks } H3;obtain ⟨W,⟨m0,w0⟩,turn⟩:=hW s2.heap.objs.size hfreshD;rw [hH3] at w0;have back:∀ {τ:St}{H':Hp}{s':Shared},aQ (d7 X ls M scope HH.objs.size fp { s2 with heap:=HH,toks:=s2.toks } H3) [] τ H' s'->aQ X pins σ H' s'/\Nz X pins H' HH.objs.size s':=fun {τ H' s'} J=>by
  refine ⟨I3.call' (ch:=fp) J.os J.base J.hok J.bare fun b hb'=>?_,?_⟩
  ·obtain ⟨_,g1,g2,g3,g4,g5⟩:=f3 b hb';exact ⟨g3,g1,g4,g5⟩
  ·obtain ⟨m,hn,_⟩:=J.loc;refine ⟨⟨m,hn⟩,J.free,Ne.symm (aDI I3.lt),I3.sz,fun x a e=>?_,fun p hp=>aDI (aDv (I3.pin p hp).1)⟩;obtain ⟨v,q⟩:=I3.cell x a e;exact aDI q.lt
 have stat:∀ {H':Hp},(∀ b∈fp,H' b=none)->∀ b∈fp,jM (d7 X ls M scope HH.objs.size fp { s2 with heap:=HH,toks:=s2.toks } H3) [] H' b:=fun {H'} hn b hb'=>by
  obtain ⟨_,g1,g2,g3,g4,g5⟩:=f3 b hb';refine ⟨hn b hb',aDI (fplt b hb'),fun hs=>?_,.inl hb',fun x a e=>g4 x a (sub x a e),fun p hp=>absurd (show p∈([]:List (Addr×Obj)) from hp) (by simp)⟩;rcases aDA.mp (I3.stkSub b hs) with z | z
  ·exact g1 z
  ·exact g2 z
 have loop:∀ s₃:Shared,s₃ = { s2 with heap:=h₁,toks:=s2.toks+([]:List (Str×Value)).length } ->
   codeAny (model X.prog X.w) X.A (.compLoop (.ListComp elt [⟨tg,iter,ifs,0⟩] scope pos) 0 (.ref it) (.ref s2.heap.objs.size) (compEnvC scope (eN X.env scope.names []) HH.objs.size X.env)) (RR (.ref s2.heap.objs.size) HH.objs.size) s₃:=by
  rintro s₃ rfl;refine Af (fun n s'=>∃ i τ H',aQ (d7 X ls M scope HH.objs.size fp { s2 with heap:=HH,toks:=s2.toks } H3) [] τ H' s'/\tn i s'.heap/\(∀ b∈fp,H' b=none)/\W i n τ H') ?_ m0 ⟨0,_,H3,IY,st1,fun b hb'=>(f3 b hb').1,w0⟩;rintro n s3 ⟨i,τ,H',I4,st4,fr4,w4⟩ E';rcases turn i n τ H' w4 with ⟨stop,qn⟩ | ⟨go,step⟩
  ·refine dF (T.done (d7 X ls M scope HH.objs.size fp { s2 with heap:=HH,toks:=s2.toks } H3) rfl rfl rfl hc i [] s3 τ H' E' I4 (stat fr4) st4 stop) fun r s4 ⟨hr,I5⟩=>?_;subst hr;obtain ⟨b1,b2⟩:=back I5;exact hRR _ _ H' s4 b1 b2 qn
  ·refine dF (T.item (d7 X ls M scope HH.objs.size fp { s2 with heap:=HH,toks:=s2.toks } H3) rfl rfl rfl hc i [] s3 τ H' E' I4 (stat fr4) st4 go) fun r s4 ⟨u,hr,h4⟩=>?_;subst hr;refine dF h4 fun _ s5 ⟨x,H5,I5,r5,y5,st5,fr5⟩=>?_;have I5':=I5.pinned (stat fr5) (T.obj _ _ st5);refine wpAny_mono (hPG _ s5 τ H5 x u _ I5' r5 (step x H5 y5)) (fun _ s6 ⟨σ6,H6,I6,q6⟩=>?_) fun _ _ z=>z.elim;refine wpAny_mono (hPT _ s6 σ6 H6 _ I6 q6) (fun ok s7 ⟨H7,I7,q7⟩=>?_) fun _ _ z=>z.elim;have again:∀ {σ8:St}{H8:Hp}{s8:Shared}{m':Nat},aQ (d7 X ls M scope HH.objs.size fp { s2 with heap:=HH,toks:=s2.toks } H3) ([]++uR fp s5.heap) σ8 H8 s8->m'<n->W (i+1) m' σ8 H8 ->
     ∃ m,m<n/\∃ i τ H',aQ (d7 X ls M scope HH.objs.size fp { s2 with heap:=HH,toks:=s2.toks } H3) [] τ H' s8/\tn i s8.heap/\(∀ b∈fp,H' b=none)/\W i m τ H':=fun {σ8 H8 s8 m'} I8 hm w8=>by
    refine ⟨m',hm,i+1,σ8,H8,I8.unpinned,T.keep _ _ _ st5 fun b hb' o e=>(I8.pin (b,o) (aDB _ (aDB _ (mG hb' e)))).1,fun b hb'=>?_,w8⟩;obtain ⟨o,e,d⟩:=T.obj _ _ st5 b hb';exact (I8.pin (b,o) (aDB _ (aDB _ (mG hb' e)))).2.1
   cases ok with
   | false =>
    rw [if_neg aDC] at q7 ⊢;obtain ⟨m',hm,w7⟩:=q7;exact again I7 hm w7
   | true =>
    rw [if_pos rfl] at q7 ⊢;refine wpAny_mono (hPE _ s7 σ6 H7 _ I7 q7) (fun yv s8 ⟨y,H8,I8,r8,ys,m',hm,hD,hz,w8⟩=>?_) fun _ _ z=>z.elim;refine wpAny_mono (lF (X:=(d7 X ls M scope HH.objs.size fp { s2 with heap:=HH,toks:=s2.toks } H3)) _ s8 σ6 H8 (.ref s2.heap.objs.size) [y] (.ref s2.heap.objs.size) [yv] (fun _ H9=>W (i+1) m' σ6 H9) I8 rfl (.cons r8 .nil) ⟨_,ys,y,rfl,rfl,hD,hz,w8⟩) (fun _ s9 ⟨_,H9,I9,_,w9⟩=>?_) fun _ _ z=>z.elim;exact again I9 hm w9
 exact codeAny_compStart_list (loop _ rfl) (T.self _ 0 _ _ _ st1 (loop _ rfl))
theorem Fg (S:bW X.env.scope scope)(ok:X.Ok):closureFor scope X.env=pure (eN X.env scope.names []) :=
 rM fun y hy e=>ok.has y.1 (S.free y hy e)
theorem dD {wi:TI}(hc:X.calm=true)(S:bW X.env.scope scope)(nl:NL X.N M scope)(hi:PI X tg iter wi)
  (hb:∀ C fp s H,PG (d7 X ls M scope C fp s H) tg g/\XF (d7 X ls M scope C fp s H) ifs c/\PE (d7 X ls M scope C fp s H) elt te)
  (hs:∀ x,foldedSetIterable iter X.env x=pure x:=by intro _; rfl):PE X (.ListComp elt [⟨tg,iter,ifs,0⟩] scope pos) (Py ls.length wi g c te):=by
 intro pins s σ H Q I h;rw [eval_ListComp];refine wpAny_comprehension_free (use:=none) rfl hs (Fg S I.ok) S.kind S.loc (dF (hi pins s σ H _ I h) fun xv s1 h1=>dF h1 fun itv s2 h2=>?_);obtain ⟨it,fp,tn,J,H2,e,I2,T,st2,f2,hW⟩:=h2;subst e;refine xO (RR:=fun acc C=>compPost (model X.prog X.w) X.A X.xe none (EP X pins σ Q) acc C) (Qe:=Q) hc S nl hb I2 T st2 f2 hW fun D C H' s' I' o q=>?_;exact ⟨o.ns.choose,o.ns.choose_spec,fun h' hs'=>⟨.ref D,H',I'.gone o hs',rfl,q⟩⟩
theorem kW {wi:TI}{i:Nat}{y:Str}{py spos:Pos}(hc:X.calm=true)(S:bW X.env.scope scope)(nl:NL X.N M scope)(hN:X.N.Nodup)(hiy:X.N[i]? = some y)(hy:Loc X.env.scope y)
  (hi:PI X tg iter wi) (hb:∀ C fp s H,PG (d7 X ls M scope C fp s H) tg g/\XF (d7 X ls M scope C fp s H) ifs c/\PE (d7 X ls M scope C fp s H) elt te)
  (hsw:swapsWith (.ListComp elt [⟨tg,iter,ifs,0⟩] scope pos) (some (.Name y py)) spos.line X.env=pure true:=by rfl)
  (hs:∀ x,foldedSetIterable iter X.env x=pure x:=by intro _; rfl) (hf:X.fn y=true∨X.env.scope.names.lookup y=some .local:=by first | exact .inl rfl | exact .inr rfl) :
  PS X (.Assign [.Name y py] (.ListComp elt [⟨tg,iter,ifs,0⟩] scope pos) spos) (Mg (Py ls.length wi g c te) (mL i)):=by
 intro pins s σ H D I h;rw [exec_Assign_Name_used _ _ _ _ hsw];refine wpAny_bind (wpAny_standAt (wpAny_bind ?_));show wpAny _ X.A (do let _ <- comprehension (.ListComp elt [⟨tg,iter,ifs,0⟩] scope pos) scope X.env _ (newList []) false (eval iter X.env) (some (assign (.Name y py) X.env))) _ _ s;refine wpAny_bind (wpAny_mono (wpAny_comprehension_free (use:=some (assign (.Name y py) X.env)) (Q:=fun _ s'=>SP X pins D .next s') rfl hs (Fg S I.ok) S.kind S.loc (dF (hi pins s σ H _ I h) fun xv s1 h1=>dF h1 fun itv s2 h2=>?_)) (fun _ s' hq=>wpAny_pure (wpAny_pure hq)) fun _ _ e=>e);obtain ⟨it,fp,tn,J,H2,e,I2,T,st2,f2,hW⟩:=h2;subst e;refine xO (RR:=fun acc C=>compPost (model X.prog X.w) X.A X.xe (some (assign (.Name y py) X.env)) (fun _ s'=>SP X pins D .next s') acc C) hc S nl hb I2 T st2 f2 hW fun Dl C H' s' I' o q=>?_;show wpAny _ X.A (assign (.Name y py) X.env (.ref Dl)) _ _ _;refine wpAny_assign_Name (oH I' hN hiy hy (v:=.ref Dl) rfl (fun s'' I'' ⟨a,hsa,ha⟩=>?_) hf);have hCa:C≠a:=by
  rcases ha with z | z
  ·rw [z]; exact o.ne
  ·exact Ne.symm (o.cells y a z)
 obtain ⟨m,hm⟩:=o.ns;have o2:Nz X pins H' C s'':=⟨⟨m,hm.sameBut hsa hCa⟩,o.none,o.ne,o.young,o.cells,o.pins⟩
 exact ⟨m,hm.sameBut hsa hCa,fun h' hs'=>⟨_,H',I''.gone o2 hs',q⟩⟩
end
def CW (n:Nat)(Pv:Nat->St->Hp->Prop)(i m:Nat)(τ:St)(H:Hp):Prop:=m=n-i/\i<=n/\Pv i τ H
theorem aZ {n i m:Nat}{Pv:Nat->St->Hp->Prop}{τ:St}{H4:Hp}{D:Addr}{ys:List V}{y:V}(hm:m=n-i)(hi:i<n)(e1:H4 D=some (.lst ys))(e2:ys.length<sizeLine)(p:Pv (i+1) τ (aM H4 D (.lst (ys++[y])))) :
  ∃ ys m',m'<m/\H4 D=some (.lst ys)/\ys.length<sizeLine/\CW n Pv (i+1) m' τ (aM H4 D (.lst (ys++[y]))):=⟨ys,n-(i+1),by omega,e1,e2,rfl,hi,p⟩
theorem xX {n i m:Nat}{Pv:Nat->St->Hp->Prop}{τ:St}{H3:Hp}(hm:m=n-i)(hi:i<n)(p:Pv (i+1) τ H3):∃ m',m'<m/\CW n Pv (i+1) m' τ H3:=⟨n-(i+1),by omega,rfl,hi,p⟩
theorem vK {k:Nat}{lo:Int}{n:Nat}{g:TG}{c:TT}{te:TE}{σ:St}{H1:Hp}{D:Addr}{Q:VK}(Pv:Nat->St->Hp->Prop)(h0:Pv 0 (aDx k none++σ) (aM H1 D (.lst [])))
  (hs:∀ i m τ H,m=n-i->i<n->Pv i τ H->g (.int (lo+i)) τ H fun τ2 H2=>c τ2 H2 fun b H3=>if b=true then te τ2 H3 fun y H4=>∃ ys m',m'<m/\H4 D=some (.lst ys)/\ys.length<sizeLine/\CW n Pv (i+1) m' τ2 (aM H4 D (.lst (ys++[y]))) else ∃ m',m'<m/\CW n Pv (i+1) m' τ2 H3)
  (hd:∀ τ H,Pv n τ H->Q (.ref D) H):vI k (Ru lo n) g c te σ H1 D Q:=by
 refine ⟨CW n Pv,⟨n,rfl,aDK _,h0⟩,?_⟩;rintro i m τ H ⟨hm,hi,p⟩
 by_cases hlt:i<n
 ·refine .inr ⟨hlt,fun x H' y=>?_⟩;obtain ⟨e,y⟩:=y;subst e y;exact hs i m τ _ hm hlt p
 ·have e:i=n:=by omega
  subst e;exact .inl ⟨aDn _,hd τ H p⟩
theorem cA {K:PySem.W.Frag}{a:Addr}{xs:List V}{k:Nat}{g:TG}{c:TT}{te:TE}{σ:St}{H1:Hp}{D:Addr}{Q:VK}(Pv:Nat->St->Hp->Prop)(h0:Pv 0 (aDx k none++σ) (aM H1 D (.lst [])))
  (hl:∀ i τ H,i<=xs.length->Pv i τ H->bB K H a xs)
  (hs:∀ i m x τ H,m=xs.length-i->i<xs.length->xs[i]? = some x->Pv i τ H->g x τ H fun τ2 H2=>c τ2 H2 fun b H3=>if b=true then te τ2 H3 fun y H4=>∃ ys m',m'<m/\H4 D=some (.lst ys)/\ys.length<sizeLine/\CW xs.length Pv (i+1) m' τ2 (aM H4 D (.lst (ys++[y]))) else ∃ m',m'<m/\CW xs.length Pv (i+1) m' τ2 H3)
  (hd:∀ τ H,Pv xs.length τ H->Q (.ref D) H):vI k (Sh K a) g c te σ H1 D Q:=by
 refine ⟨CW xs.length Pv,⟨xs.length,rfl,aDK _,h0⟩,?_⟩;rintro i m τ H ⟨hm,hi,p⟩;have q:=hl i τ H hi p
 by_cases hlt:i<xs.length
 ·refine .inr ⟨⟨xs,xs[i],q,by simp [hlt]⟩,fun x H' y=>?_⟩;obtain ⟨e,y⟩:=y;subst e;exact hs i m x τ _ hm hlt (y xs q) p
 ·have e:i=xs.length:=by omega
  subst e;exact .inl ⟨⟨xs,q,aDn _⟩,hd τ H p⟩
theorem dU {τ:St}{H:Hp}{A B:Hp->Prop}(h:A H):Qm τ H (fun b H3=>if b=true then A H3 else B H3):=by
 show (if true=true then A H else B H);rw [if_pos rfl];exact h
theorem Ec {c:Bool}{A B:Prop}(h:c=true)(a:A):if c=true then A else B:=by
 rw [if_pos h];exact a
theorem Gd {c:Bool}{A B:Prop}(h:c=false)(b:B):if c=true then A else B:=by
 rw [if_neg (by rw [h]; exact aDC)];exact b
theorem Qp:bootBuiltins "int" = some (.type "int"):=by decide +kernel
theorem Gj:bootBuiltins "bool" = some (.type "bool"):=by decide +kernel
theorem iZ:bootBuiltins "list" = some (.type "list"):=by decide +kernel
theorem iH:bootBuiltins "tuple" = some (.type "tuple"):=by decide +kernel
theorem Nt:bootBuiltins "dict" = some (.type "dict"):=by decide +kernel
theorem fX:bootBuiltins "len" = some (.builtin "len"):=by decide +kernel
theorem Qu:bootBuiltins "abs" = some (.builtin "abs"):=by decide +kernel
theorem bQ:bootBuiltins "isinstance" = some (.builtin "isinstance"):=by decide +kernel
theorem Aj:bootBuiltins "sum" = some (.builtin "sum"):=by decide +kernel
theorem Ro:bootBuiltins "max" = some (.builtin "max"):=by decide +kernel
theorem Hf:bootBuiltins "sorted" = some (.builtin "sorted"):=by decide +kernel
theorem uP:bootBuiltins "all" = some (.builtin "all"):=by decide +kernel
def Ez:List Str->Bool
 | []=>true
 | x::r=>(r.all fun y=>x != y)&&Ez r
theorem cJ:∀ {l:List Str},Ez l=true->l.Nodup
 | [],_=>.nil
 | x::r,h=>by
  have h':((r.all fun y=>x != y)&&Ez r)=true:=h;rw [aD2,aEI] at h';refine aEe.mpr ⟨fun z=>?_,cJ h'.2⟩;have:=h'.1 x z;simp at this
structure eO (P:Program)(w:World)(K:PySem.W.Frag)(mg:Str->Option Value)(base:Heap)(n:Nat)(x:Str)(ps:List Str)(sp:Sp)(g:Addr)(gd:FuncData):Prop where
 ok:bH P w K mg base fO n g gd ps sp
 bi:Binds K gd ps []
 kp:PySem.W.keepIn K (.ref g)=true
 at_:mg x=some (.ref g)
theorem eO.up {P:Program}{w:World}{K:PySem.W.Frag}{mg:Str->Option Value}{base:Heap}{n m:Nat}{x:Str}{ps:List Str}{sp:Sp}{g:Addr}{gd:FuncData}(c:eO P w K mg base n x ps sp g gd)(h:n<=m):eO P w K mg base m x ps sp g gd:=⟨c.ok.mono h,c.bi,c.kp,c.at_⟩
theorem aJ {X:Cx}{n:Nat}{x:Str}{ps:List Str}{sp:Sp}{g:Addr}{gd:FuncData}{p pos:Pos}{e:Expr}{es:List Expr}{t:TA}(c:eO X.prog X.w X.K X.mg X.base n x ps sp g gd)(hr:d8 n X.A)(ha:PA X (e::es) t)(hg:Gl X x:=by rfl)
  (hd:(x==("__debug__" : Str))=false:=by decide) (he:starEach (e::es) X.env=(false,eval e X.env)::starEach es X.env:=by rfl) (hpl:(backTo pos (starEach es X.env)).any (·.1)=false:=by rfl) :
  PE X (.Call (.Name x p) (e::es) [] pos) (Fz sp [] E0 t):=O4 c.ok hr hg c.at_ c.kp c.bi .nil oO ha hd he hpl
theorem aC {H:Hp}{p:Addr}(h:H p=none)(o:HO):aU H (aM H p o):=fun b u q=>by rw [aH (bJ q h)]; exact q
theorem aU.upd_new {H H':Hp}{p:Addr}(s:aU H H')(h:H p=none)(o:HO):aU H (aM H' p o):=fun b u q=>by rw [aH (bJ q h)]; exact s b u q
theorem KD {L:List Int}{i:Int}(h0:0<=i)(h1:i<(L.length:Int)):Em (L.map V.int) i=some (.int (L.getD i.toNat 0)):=by
 have hi:i.toNat<L.length:=by omega
 have e:i=((i.toNat:Nat):Int):=by omega
 have q:Em (L.map V.int) ((i.toNat:Nat):Int)=some (.int (L.getD i.toNat 0)):=lW (by rw [aDm,aDl hi,getD_at hi] <;> rfl);rw [<- e] at q;exact q
end L2
namespace L2
open PySem PySem.Spec PyProof.Rows
section
variable {X:Cx}{pins:List (Addr×Obj)}{σ:St}{H:Hp}{s:Shared}
theorem aQ.track {a:Addr}{o:HO}(I:aQ X pins σ H s)(f:jM X pins H a)(hy:X.s₀.heap.objs.size<=a)(new:cH X.prog X.w (aM H a o) s.heap a o):aQ X pins σ (aM H a o) s:=by
 obtain ⟨f0,f1,f2,f3,f4,f5⟩:=f;have ne:∀ b u,H b=some u->b≠a:=fun b u e=>bJ e f0;refine ⟨I.ok,I.os,I.bare,⟨I.base.keep,I.base.slot,fun b ob e n hx=>?_,I.base.there,fun b xs e=>?_,fun b ob u e=>?_,fun b ps e=>?_⟩,I.loc,I.cell,?_,fun x c e=>?_,fun p hp=>?_,fun b u e=>?_,I.len⟩
 ·rw [aH (aDI (aDG (aDv e) hy))];exact I.base.free b ob e n hx
 ·have q:=I.base.tups b xs e;rw [aH (ne _ _ q)]; exact q
 ·have q:=I.base.frzs b ob u e;rw [aH (ne _ _ q)]; exact q
 ·obtain ⟨m,q⟩:=I.base.tbls b ps e;exact ⟨m,by rw [aH (ne _ _ q)]; exact q⟩
 ·rw [aH (Ne.symm f1)]; exact I.free
 ·rw [aH (f4 x c e)]; exact I.freeC x c e
 ·obtain ⟨g1,g2,g3,g4,g5⟩:=I.pin p hp;exact ⟨g1,by rw [aH (f5 p hp)]; exact g2,g3,g4,g5⟩
 ·by_cases hb:b=a
  ·subst hb; rw [aA] at e; cases e; exact new
  ·rw [aH hb] at e;exact (I.hok b u e).stay (fun _ _ _ q=>q) (fun c q=>by rw [aH (ne _ _ q)]; exact q) fun c xs q=>by rw [aH (ne _ _ q)]; exact q
theorem jM.pin {b:Addr}{o:Obj}(f:jM X pins H b)(e:s.heap.get? b=some o)(d:∀ v,o.data≠.cell v):s.heap.get? b=some o/\H b=none/\b≠X.env.locals/\b∉X.fs/\∀ v,o.data≠.cell v:=⟨e,f.1,f.2.1,f.2.2.1,d⟩
def Nu (X:Cx)(pins:List (Addr×Obj))(σ:St)(H:Hp)(A:Around)(f v:Value)(k:Int):Prop :=
 ∀ (more:List (Addr×Obj)) (s:Shared),aQ X (pins++more) σ H s->wpAny (model X.prog X.w) A (call f [v]) (fun r s'=>(∃ t,r=Value.int k t)/\aQ X (pins++more) σ H s') (fun _ _=>False) s
variable {A:Around}{E:Value->Shared->Prop}{P:PySem.Fin->Shared->Prop}{a kS:Addr}{b:Bool}{vs:List Value}{kz:List Int}{keys:Array Value}{e e1:Nat}{f:Value}
theorem BK {st:SortSt}(I:aQ X pins σ H s)(fk:jM X pins H kS)(fa:jM X pins H a)(hka:kS≠a)(ek:s.heap.get? kS=some (seqObj "list" keys e))(ea:s.heap.get? a=some (seqObj "list" #[] e1))
  (hk:IntsAre keys.toList kz) (hlen:kz.length=vs.length) (h64:vs.length<64) (hp:(arrOf st).Perm (keys.zip vs.toArray)) (hs:SortedTo (arrOf st) (arrOf st).size) (hfl:failedOf st=none)
  (done:∀ s' out c,aQ X pins σ H s'->s'.heap.get? a=some (seqObj "list" out c)->KskOut b kz vs out.toList->P (.done (.ret .none)) s') :
  wpAny (model X.prog X.w) A (ksk_tail a b e1 (.ref kS) st) P E s:=by
 have hsz:keys.size=vs.length:=by
  have h1:=hk.length;rw [aDR] at h1;omega
 have hsz2:(arrOf st).size=vs.length:=by
  have z:(arrOf st).size=(keys.zip vs.toArray).size:=hp.size_eq;have z2:(keys.zip vs.toArray).size=vs.length:=by rw [Array.size_zip,hsz]; simp
  exact z.trans z2
 have ko:=ksk_out (b:=b) hk hp hs;have hout:(if b=true then ((arrOf st).map (·.2)).reverse else (arrOf st).map (·.2)).size=vs.length:=by
  cases b <;> simp [hsz2]
 generalize hO:(if b=true then ((arrOf st).map (·.2)).reverse else (arrOf st).map (·.2))=out at ko hout;have I1:aQ X pins σ H { s with heap:=s.heap.update kS (Obj.mapSeq fun _=>(#[]:Array Value)) } :=
  I.turned (t':=s.toks) (fun b o hb q=>((aDL.update s.heap kS _).2 b hb).trans q) fk.1 fk.2.1 fk.2.2.2.1 fk.2.2.2.2.1 fk.2.2.2.2.2
 have ea1:(s.heap.update kS (Obj.mapSeq fun _=>(#[]:Array Value))).get? a=some (seqObj "list" #[] e1):=((aDL.update s.heap kS _).2 a (Ne.symm hka)).trans ea;have I2:aQ X pins σ H { s with heap:=(s.heap.update kS (Obj.mapSeq fun _=>(#[]:Array Value))).update a (Obj.mapSeq fun _=>out) } :=
  I1.turned (t':=s.toks) (fun b o hb q=>((aDL.update _ a _).2 b hb).trans q) fa.1 fa.2.1 fa.2.2.2.1 fa.2.2.2.2.1 fa.2.2.2.2.2
 unfold ksk_tail;dsimp only;refine wpAny_bind (listUpdate_at ek rfl ?_ (by rw [hsz]; exact aDh (aDO h64) (by decide)) (aDK _));refine wpAny_bind (wpAny_letGo ?_);refine wpAny_bind (seqEpoch_at ea1 rfl ?_);rw [hO];refine wpAny_bind (listUpdate_at ea1 rfl ?_ (aDK _) (by rw [hout]; exact aDh (aDO h64) (by decide)));rw [hfl];simp only [bne_self_eq_false,aD7,if_false];exact wpAny_pure (done _ out _ I2 (get?_update_seq ea1 fun _=>out) ko)
theorem O5 (I:aQ X pins σ H s)(fk:jM X pins H kS)(fa:jM X pins H a)(hka:kS≠a)(ek:s.heap.get? kS=some (seqObj "list" keys e))(ea:s.heap.get? a=some (seqObj "list" #[] e1))
  (hk:IntsAre keys.toList kz) (hlen:kz.length=vs.length) (h64:vs.length<64)
  (done:∀ s' out c,aQ X pins σ H s'->s'.heap.get? a=some (seqObj "list" out c)->KskOut false kz vs out.toList->P (.done (.ret .none)) s') :
  wpAny (model X.prog X.w) A (ksk_end a false vs.toArray e1 (.ref kS) keys) P E s:=by
 have hsz:keys.size=vs.length:=by
  have h1:=hk.length;rw [aDR] at h1;omega
 have hzs:(keys.zip vs.toArray).size=vs.length:=by rw [Array.size_zip,hsz,aDo]; omega
 unfold ksk_end;dsimp only;simp only [aD7,if_false]
 by_cases h2:vs.toArray.size<2
 ·rw [if_pos h2,if_pos h2];refine wpAny_bind (wpAny_pure ?_);rw [StateT.run_pure];refine wpAny_bind (wpAny_pure ?_);refine BK (st:=SortSt.mk' general' (keys.zip vs.toArray) #[] 7 none) I fk fa hka ek ea hk hlen h64 (Array.Perm.refl _) (fun i j hij hj=>?_) rfl done;have hj':j<(keys.zip vs.toArray).size:=hj;rw [hzs] at hj';rw [aDo] at h2;have z:i=j:=by omega
  rw [z];exact aFe _
 ·rw [if_neg h2,if_neg h2];rw [aDo] at h2;rw [ksk_kind hk (by omega)];refine wpAny_bind (wpAny_pure ?_);refine wpAny_bind (wpAny_mono (wpS_sortRuns (a₀:=keys.zip vs.toArray) (st:=SortSt.mk' oneType' (keys.zip vs.toArray) #[] 7 none)
   (Q:=fun _ t=>(arrOf t).Perm (keys.zip vs.toArray)/\failedOf t=none/\SortedTo (arrOf t) (keys.zip vs.toArray).size)
   (ksk_intKeys hk) ⟨Array.Perm.refl _,rfl,rfl,rfl⟩ (by omega) (by omega) fun t z1 z2 z3=>⟨z1,z2,z3⟩) ?_ fun _ _ z=>z)
  rintro ⟨⟨⟩,t⟩ s2 ⟨rfl,p1,p2,p3⟩;exact BK I fk fa hka ek ea hk hlen h64 p1 (by rw [p1.size_eq]; exact p3) p2 done
theorem Mw (I:aQ X pins σ H s)(fk:jM X pins H kS)(fa:jM X pins H a)(hka:kS≠a)(ek:s.heap.get? kS=some (seqObj "list" #[] 0))(ea:s.heap.get? a=some (seqObj "list" #[] e1))
  (hlen:kz.length=vs.length) (h64:vs.length<64) (turn:∀ (i:Nat) v k,vs[i]? = some v->kz[i]? = some k->Nu X pins σ H A f v k)
  (done:∀ s' out c,aQ X pins σ H s'->s'.heap.get? a=some (seqObj "list" out c)->KskOut false kz vs out.toList->P (.done (.ret .none)) s') :
  wpAny (model X.prog X.w) A (ksk_rest a f false vs.toArray e1 (.ref kS)) P E s:=by
 unfold ksk_rest;refine wpAny_bind (wpAny_rule ?_);rw [List.forIn_toArray];refine wpAny_bind (ksk_fold (fun i s'=>aQ X pins σ H s'/\s'.heap.get? a=some (seqObj "list" #[] e1)/\∃ kA e,s'.heap.get? kS=some (seqObj "list" kA e)/\IntsAre kA.toList (kz.take i)) vs 0 s ⟨I,ea,#[],0,ek,by simpa using IntsAre.nil⟩ ?step ?fin)
 case step =>
  rintro j x s1 hx ⟨I1,ea1,kA,e,ek1,hk⟩;rw [Nat.zero_add] at hk ⊢;have hj:j<vs.length:=(aDr.mp hx).1;have hkj:kz[j]? = some kz[j]:=aDl (by omega);have hz:kA.size<=vs.length:=by
   have h1:=hk.length;rw [aDR,aDu] at h1;omega
  have I2:aQ X (pins++[(kS,seqObj "list" kA e),(a,seqObj "list" #[] e1)]) σ H s1:=I1.pins_of fun p hp=>by
   rcases aDy.mp hp with z | z
   ·exact I1.pin p (aDB _ z)
   ·rcases aDA.mp z with z | z
    ·subst z; exact fk.pin ek1 fun v q=>nomatch q
    ·rw [aDw.mp z]; exact fa.pin ea1 fun v q=>nomatch q
  refine wpAny_bind (wpAny_attempt (wpAny_mono (turn j x _ hx hkj _ s1 I2) (fun v s2 h2=>?_) fun _ _ z=>z.elim));obtain ⟨⟨t,rfl⟩,I3⟩:=h2;have ek2:=(I3.pin (kS,seqObj "list" kA e) (aDB _ (aDB _ (.head _)))).1;have ea2:=(I3.pin (a,seqObj "list" #[] e1) (aDB _ (aDB _ (.tail _ (.head _))))).1;have I4:=I3.unpinned;refine wpAny_bind (listUpdate_at ek2 rfl ?_ (aDh hz (aDh (aDO h64) (by decide))) (aDh (aFO (Array.size_push ..)) (Nat.succ_le_succ (aDh hz (aDh (aDO h64) (by decide))))));refine wpAny_pure ⟨rfl,I4.turned (t':=s2.toks) (fun b o hb q=>((aDL.update s2.heap kS _).2 b hb).trans q) fk.1 fk.2.1 fk.2.2.2.1 fk.2.2.2.2.1 fk.2.2.2.2.2,((aDL.update s2.heap kS _).2 a (Ne.symm hka)).trans ea2,kA.push (.int kz[j] t),_,get?_update_seq ek2 (·.push (.int kz[j] t)),?_⟩;have q1:kz.take (j+1)=kz.take j++[kz[j]]:=by rw [aEU,hkj]; rfl
  rw [q1,Array.toList_push];exact ksk_snoc hk
 case fin =>
  rintro s1 ⟨I1,ea1,kA,e,ek1,hk⟩;have hk':IntsAre kA.toList kz:=by
   rw [Nat.zero_add,<- hlen,aDz] at hk;exact hk
  exact wpAny_bind (listItems_at ek1 rfl (O5 I1 fk fa hka ek1 ea1 hk' hlen h64 done))
end
section
variable {X:Cx}{pins:List (Addr×Obj)}{σ:St}{H:Hp}{s:Shared}{A:Around}{E:Value->Shared->Prop}{P:PySem.Fin->Shared->Prop}{a:Addr}{vs:List Value}{kz:List Int}{n:Nat}{f:Value}
theorem Kz (I:aQ X pins σ H s)(fa:jM X pins H a)(ea:s.heap.get? a=some (seqObj "list" vs.toArray n))(hlen:kz.length=vs.length)(h64:vs.length<64)
  (turn:∀ (i:Nat) v k,vs[i]? = some v->kz[i]? = some k->Nu X pins σ H A f v k)
  (done:∀ s' out c,aQ X pins σ H s'->s'.heap.get? a=some (seqObj "list" out c)->KskOut false kz vs out.toList->P (.done (.ret .none)) s') :
  wpAny (model X.prog X.w) A (ksk_tree a f false) P E s:=by
 have I1:aQ X pins σ H { s with heap:=s.heap.update a (Obj.mapSeq fun _=>(#[]:Array Value)) } :=
  I.turned (t':=s.toks) (fun b o hb q=>((aDL.update s.heap a _).2 b hb).trans q) fa.1 fa.2.1 fa.2.2.2.1 fa.2.2.2.2.1 fa.2.2.2.2.2
 have ea1:=get?_update_seq ea fun _=>(#[]:Array Value)
 generalize hh:s.heap.update a (Obj.mapSeq fun _=>(#[]:Array Value))=h1 at I1 ea1;have I2:aQ X pins σ H { s with heap:=(h1.push (seqObj "tuple" vs.toArray 0)).push (seqObj "list" #[] 0) } :=
  I1.kept (t':=s.toks) fun b o q=>aDf _ (aDf _ q)
 have hlt:a<h1.objs.size:=aDv ea1;have hsz:(h1.push (seqObj "tuple" vs.toArray 0)).objs.size=h1.objs.size+1:=size_push' _ _;have h64':vs.length<=sizeLine:=aDh (aDO h64) (by decide);unfold ksk_tree;refine wpAny_bind (listItems_at ea rfl ?_);refine wpAny_bind (listUpdate_at ea rfl ?_ (by rw [aDo]; exact h64') (aDK _));rw [hh];refine wpAny_bind (seqEpoch_at (s:={ s with heap:=h1 }) ea1 rfl ?_);refine wpAny_bind (wpAny_newTuple ?_ (by simpa using h64'));refine wpAny_bind (wpAny_newList ?_ (aDK _));refine wpAny_holding ?_;refine Mw (s:={ s with heap:=(h1.push (seqObj "tuple" vs.toArray 0)).push (seqObj "list" #[] 0) }) (kS:=(h1.push (seqObj "tuple" vs.toArray 0)).objs.size) I2 ?_ fa ?_ (aDt _ rfl) (aDf _ (aDf _ ea1)) hlen h64 turn done
 ·exact I1.fpOk (by rw [hsz]; exact aE2 _) (I1.hok.fresh (by rw [hsz]; exact aE2 _))
 ·rw [hsz];exact aEa (aFR hlt)
def Qc:Value->Addr
 | .ref a=>a
 | _=>0
theorem yC:∀ {qs:List Addr}{vs:List Value},bV (qs.map V.ref) vs->vs=qs.map Value.ref
 | [],_,h=>by cases h; rfl
 | q::qs,_,h=>by
  cases h with
  | cons r t=>rw [yC t,show _=Value.ref q from r]; rfl
theorem rC:∀ (qs:List Addr),bV (qs.map V.ref) (qs.map Value.ref)
 | []=>.nil
 | q::qs=>.cons rfl (rC qs)
theorem JK {kz:List Int}{qs:List Addr}{out:List Value}(h:KskOut false kz (qs.map Value.ref) out):∃ ps:List (Int×Addr),ps.Perm (kz.zip qs)/\out=ps.map (fun p=>Value.ref p.2)/\ps.Pairwise (fun p q=>p.1<=q.1):=by
 obtain ⟨ps,hp,ho,hs⟩:=h;have e0:kz.zip (qs.map Value.ref)=(kz.zip qs).map fun p=>(p.1,Value.ref p.2):=by rw [List.zip_map_right]; exact aEh fun ⟨x,y⟩ _=>rfl
 rw [e0] at hp;have mem:∀ p∈ps,p.2=Value.ref (Qc p.2):=fun p hm=>by
  obtain ⟨q,_,rfl⟩:=aDg.mp (hp.mem_iff.mp hm)
  rfl
 refine ⟨ps.map fun p=>(p.1,Qc p.2),?_,?_,?_⟩
 ·have z:=hp.map fun p=>(p.1,Qc p.2)
  rw [aDH] at z;have e1:(kz.zip qs).map ((fun p=>(p.1,Qc p.2)) ∘ fun p=>(p.1,Value.ref p.2))=kz.zip qs:=by
   conv=>rhs; rw [<- List.map_id (kz.zip qs)]
   exact aEh fun ⟨x,y⟩ _=>rfl
  rw [e1] at z;exact z
 ·rw [ho,aDH];exact aEh fun p hm=>mem p hm
 ·rw [aD4];exact hs
theorem JW {l fa:Addr}{qs:List Addr}{Q:VK}(I:aQ X pins σ H s)(hS:bB X.K H l (qs.map V.ref))(hlen:kz.length=qs.length)(h64:qs.length<64)
  (turn:∀ (i:Nat) q k,qs[i]? = some q->kz[i]? = some k->Nu X pins σ H X.A.in1.in1 (.ref fa) (.ref q) k)
  (done:∀ D (ps:List (Int×Addr)),H D=none->ps.Perm (kz.zip qs)->ps.Pairwise (fun p q=>p.1<=q.1)->Q (.ref D) (aM H D (.lst (ps.map fun p=>V.ref p.2)))) :
  wpAny (model X.prog X.w) X.A (call (.builtin "sorted") [.ref l] [(Str.ofString "key",.ref fa)]) (EP X pins σ Q) E s:=by
 obtain ⟨its,rv,pl,hz⟩:=I.list hS;have ei:=yC rv;subst ei;have hl64:(qs.map Value.ref).length<64:=by rw [aDe]; exact h64
 have h64':(qs.map Value.ref).length<=sizeLine:=aDh (aDO hl64) (by decide);refine call_function_entry_kw kind_sorted plain_sorted entry_sorted (ksk_s1 _ _) ?_;unfold Builtin.«sorted»;refine wpAny_bind (m:=checkCount "sorted" 1 1 _) (wpAny_pure ?_);refine wpAny_bind (collect_list pl.isList ?_ h64');refine wpAny_bind (wpAny_newList ?_ h64');have up:∀ b o,s.heap.get? b=some o->((s.heap.push (seqObj "list" #[] 0)).update s.heap.objs.size (Obj.mapSeq (·++(qs.map Value.ref).toArray))).get? b=some o:=fun b o q =>
  ((aDL.update (s.heap.push (seqObj "list" #[] 0)) s.heap.objs.size _).2 b (aDI (aDv q))).trans (aDf _ q)
 have hsz:((s.heap.push (seqObj "list" #[] 0)).update s.heap.objs.size (Obj.mapSeq (·++(qs.map Value.ref).toArray))).objs.size=s.heap.objs.size+1:=by rw [Heap.size_update,size_push']
 generalize (s.heap.push (seqObj "list" #[] 0)).update s.heap.objs.size (Obj.mapSeq (·++(qs.map Value.ref).toArray))=h1 at up hsz;have I1:aQ X pins σ H { s with heap:=h1.push (seqObj "list" (qs.map Value.ref).toArray 0) }:=I.kept (t':=s.toks) fun b o q=>aDf _ (up b o q);have fr:H h1.objs.size=none:=I.hok.fresh (by rw [hsz]; exact aE2 _);have fp:jM X pins H h1.objs.size:=I.fpOk (by rw [hsz]; exact aE2 _) fr;have yo:X.s₀.heap.objs.size<=h1.objs.size:=aDh I.sz (by rw [hsz]; exact aE2 _);have ea:(h1.push (seqObj "list" (qs.map Value.ref).toArray 0)).get? h1.objs.size=some (seqObj "list" (qs.map Value.ref).toArray 0):=aDt _ rfl;refine wpAny_bind (wpAny_holding (wpAny_call_entry_kw PyProof.Rows.slot_list_sort ⟨_,ea,rfl⟩ PyProof.Rows.entry_list_sort ?body (ksk_l1 _ _)))
 case body =>
  show wpAny (model X.prog X.w) X.A.in1.in1 (Builtin.«list.sort» ⟨[.ref h1.objs.size],[(Str.ofString "key",.ref fa)]⟩) _ _ _;rw [ksk_t1];refine Kz (kz:=kz) (s:={ s with heap:=h1.push (seqObj "list" (qs.map Value.ref).toArray 0) }) I1 fp ea (by rw [aDe]; exact hlen) hl64 (fun i v k hv hk=>?_) fun s2 out c I2 e2 ko=>⟨_,rfl,?_⟩
  ·rw [aDm] at hv;cases eq:qs[i]? with
   | none=>rw [eq] at hv; cases hv
   | some q =>
    rw [eq] at hv;cases hv;exact turn i q k eq hk
  ·obtain ⟨ps,hp,ho,hs⟩:=JK ko;have hpl:ps.length=qs.length:=by
    rw [hp.length_eq,List.length_zip,hlen,Nat.min_self]
   refine wpAny_pure ⟨_,rfl,.ref h1.objs.size,_,I2.track (o:=.lst (ps.map fun p=>V.ref p.2)) fp yo ⟨?_,out.toList,c,?_,?_⟩,rfl,done _ ps fr hp hs⟩
   ·rw [aDe,hpl];exact aDh (aDO h64) (by decide)
   ·rw [ho];have z:=rC (ps.map Prod.snd);rw [aDH,aDH] at z;exact z
   ·rw [aE3];exact e2
end
def HQ (X:Cx)(A:Around)(p:Str)(M:List Str)(scope:Scope)(qual:Str)(f c':Addr)(s:Shared)(H:Hp):Cx where
 prog:=X.prog
 w:=X.w
 K:=X.K
 mg:=X.mg
 base:=X.base
 A:=A.deeper (PySem.W.envX qual scope s.heap.objs.size f (.ref c') (eN X.env scope.names []))
 N:=p::M
 s₀:=s
 H₀:=H
 env:=PySem.W.envX qual scope s.heap.objs.size f (.ref c') (eN X.env scope.names [])
 outer:=X.stack
 stack:=PySem.W.envX qual scope s.heap.objs.size f (.ref c') (eN X.env scope.names [])::X.stack
 ex:=[]
 fn:=fun _=>false
 calm:=true
 pn:=[]
 xe:=fun _ _=>False
abbrev Ci (c':Addr)(qual:Str):HO:=.ext fun h=>h.CodeRec (.ref c') qual
section
variable {X:Cx}{pins:List (Addr×Obj)}{σ:St}{H:Hp}{A:Around}{p qual:Str}{M:List Str}{scope:Scope}{params:Arguments}{body:Expr}{pm ctv:Value}{c' f:Addr}{te:TE}
theorem OD (hA:A.frames=some X.stack)(hd:A.handled=none)(hdep:A.depth<recursionLimit)(S:bW X.env.scope scope)(nl:NL X.N M scope)(hp:scope.names.lookup p=some .local)
  (hco:scope.isCoroutine=false) (hgen:scope.isGenerator=false) (hbind:∀ (cl:List (Str×Addr)) (pm cdv ctv u:Value),bindArgs (PySem.W.kla_fn "<lambda>" qual params body scope cl pm cdv ctv) ⟨[u],[]⟩=pure [(p,u)])
  (hb:∀ f c' s H,PE (HQ X A p M scope qual f c' s H) body te) {x:V}{u:Value}{k:Int} (rx:RelV x u) (hf:(f,PySem.W.kla_obj "<lambda>" qual params body scope (eN X.env scope.names []) pm c' ctv)∈pins)
  (hcr:H c'=some (Ci c' qual)) (h:te (some x::σ) H fun r H'=>r=.int k/\H'=H):Nu X pins σ H A (.ref f) u k:=by
 intro more s I;have hcd:s.heap.CodeRec (.ref c') qual:=(I.hok c' _ hcr).1;have ho:=(I.pin _ (aDB _ (aD0 _ hf))).1;have sub:∀ x a,(eN X.env scope.names []).lookup x=some a->X.env.cells.lookup x=some a:=fun x a e=>by
  rcases rT _ _ _ (PySem.mem_of_lookup e) with z | z
  ·exact absurd z (by simp)
  ·exact z
 have kin:∀ x,scope.names.lookup x=some .free->X.env.kindOf x=some .cell∨X.env.kindOf x=some .free:=fun x e=>S.free (x,.free) (PySem.mem_of_lookup e) rfl;have has:∀ x a,scope.names.lookup x=some .free->X.env.cells.lookup x=some a->(eN X.env scope.names []).lookup x=some a:=fun x a e ec=>by
  obtain ⟨d,hd⟩:=lA (rY ec scope.names [] (PySem.mem_of_lookup e));have:=sub x d hd;rw [ec] at this;cases this;exact hd
 have nocell:∀ x,scope.names.lookup x≠some .cell:=fun x e=>S.nocell _ (PySem.mem_of_lookup e) rfl;refine wpAny_call (PySem.W.kla_callFunE hdep ho rfl hco hgen rfl hcd ?_);rw [hbind];refine wpAny_pure (wpAny_newFunctionEnv S.nocell (fun y hy=>?_) (fun h₁ hns hsb=>⟨?_,?_⟩) S.kind)
 ·rw [aDw.mp hy]; exact hp
 ·exact I.nolimit.keeps fun b o e=>hsb.extBut b o (aDI (aDv e)) (aDf _ e)
 have old:∀ b o,s.heap.get? b=some o->h₁.get? b=some o:=fun b o e=>hsb.extBut b o (aDI (aDv e)) (aDf _ e);have okY:(HQ X A p M scope qual f c' s H).Ok:=by
  refine ⟨I.ok.mod,S.kind,rfl,rfl,aDn _,fun x y a h1 h2=>I.ok.inj x y a (sub x a h1) (sub y a h2),fun x hx=>?_,(fun x a h=>nomatch h),fun _=>hd,Around.frames_deeper hA,.inr ⟨rfl,rfl⟩,(fun b hb'=>nomatch hb'),
   I.bs,aDh I.ok.bsz I.sz,(fun b o e hb'=>nomatch hb'),(fun b hb'=>nomatch hb'),I.stack,I.stkFree⟩
  have hf:scope.names.lookup x=some .free:=by
   rcases hx with hx | hx
   ·exact absurd hx (nocell x)
   ·exact hx
  obtain ⟨a,ea⟩:=I.ok.has x (kin x hf);exact ⟨a,has x a hf ea⟩
 have IY:aQ (HQ X A p M scope qual f c' s H) [] (some x::σ) H { s with heap:=h₁,toks:=s.toks+[(p,u)].length }:=by
  refine ⟨okY,rfl,I.bare,Un.kept old,⟨_,hns,fun i y v e1 e2 e3=>?_⟩,fun y a e=>?_,I.hok.fresh (aDn _),fun y a e=>I.freeC y a (sub y a e),(fun q hq=>nomatch hq),I.hok.kept old,?_⟩
  ·cases i with
   | zero =>
    have e1':some p=some y:=e1;have e2':some (some x)=some (some v):=e2;cases e1';cases e2';refine ⟨u,rx,.inl ⟨hp,?_⟩⟩;show aEF p [(p,u)]=some u;simp
   | succ i =>
    have e0:M[i]? = some y:=e1;have e2':σ[i]? = some (some v):=e2;have hf:scope.names.lookup y=some .free:=by
     rcases e3 with e3 | e3 | e3
     ·exact absurd e3 (nl.loc _ y e0)
     ·exact absurd e3 (nocell y)
     ·exact e3
    have hk:=kin y hf;obtain ⟨m,hn,hl⟩:=I.loc;obtain ⟨z,rz,lk⟩:=hl i y v (nl.free _ y e0 hf) e2' (hk.elim (fun z=>.inr (.inl z)) fun z=>.inr (.inr z));refine ⟨z,rz,.inr ⟨.inr hf,?_⟩⟩;rcases lk with ⟨q,_⟩ | ⟨_,a,ea,o,eo,hdd⟩
    ·rcases hk with hk | hk <;> (rw [hk] at q; cases q)
    ·exact ⟨a,has y a hf ea,o,old a o eo,hdd⟩
  ·obtain ⟨v,o,eo,hdd⟩:=I.cell y a (sub y a e);exact ⟨v,o,old a o eo,hdd⟩
  ·show σ.length+1=M.length+1;rw [I.len,nl.len]
 refine PySem.W.kla_codeExpr (wpAny_mono (hb f c' s H [] _ (some x::σ) H _ IY h) (fun r s2 h2=>?_) fun _ _ z=>z.elim);obtain ⟨v,H2,J,rv,hv,hH⟩:=h2;subst hv hH;exact ⟨rv,I.call' (ch:=[]) J.os J.base J.hok J.bare (fun b hb'=>nomatch hb')⟩
end
def RP (pos:Pos)(c':Addr):Array Value:=#[rawInt pos.line,rawInt pos.col,.ref c']
def S5 (P:Addr)(pos:Pos)(qual:Str)(c':Addr)(H:Hp):Prop:=H P=some (.tbl (RP pos c'))/\H c'=some (Ci c' qual)
def cN (P:Addr)(pos:Pos)(qual:Str)(H:Hp):Prop:=H P=some (.tbl #[])∨∃ c',S5 P pos qual c' H
def bN (P:Addr)(H H':Hp):Prop:=∀ b o,b≠P->H b=some o->H' b=some o
theorem bN.refl {P:Addr}(H:Hp):bN P H H:=fun _ _ _ e=>e
theorem bN.trans {P:Addr}{H H1 H2:Hp}(a:bN P H H1)(b:bN P H1 H2):bN P H H2:=fun c o n e=>b c o n (a c o n e)
theorem aU.toT {P:Addr}{H H':Hp}(a:aU H H'):bN P H H':=fun b o _ e=>a b o e
theorem bN.free {P:Addr}{H H':Hp}(a:bN P H H'){l:Addr}(h:H' l=none)(hP:∃ ps,H' P=some (.tbl ps)):H l=none:=by
 cases q:H l with
 | none=>rfl
 | some o =>
  by_cases e:l=P
  ·obtain ⟨ps,z⟩:=hP;rw [e,z] at h; cases h
  ·rw [a l o e q] at h; cases h
theorem bN.upd_new {P:Addr}{H H':Hp}{p:Addr}(s:bN P H H')(h:H p=none)(o:HO):bN P H (aM H' p o):=fun b u n q=>by rw [aH (bJ q h)]; exact s b u n q
theorem cN.at_ {P:Addr}{pos:Pos}{qual:Str}{H:Hp}(t:cN P pos qual H):∃ ps,H P=some (.tbl ps):=by
 rcases t with t | ⟨c,t,_⟩
 ·exact ⟨_,t⟩
 ·exact ⟨_,t⟩
theorem bN.get {P:Addr}{pos:Pos}{qual:Str}{H H':Hp}(a:bN P H H')(t:cN P pos qual H){b:Addr}{o:HO}(e:H b=some o)(n:∀ ps,o≠.tbl ps):H' b=some o:=by
 obtain ⟨ps,z⟩:=t.at_;exact a b o (dG e z (n ps)) e
theorem cN.same {P:Addr}{pos:Pos}{qual:Str}{H H':Hp}(t:cN P pos qual H)(s:aU H H'):cN P pos qual H':=by
 rcases t with t | ⟨c,t,u⟩
 ·exact .inl (s _ _ t)
 ·exact .inr ⟨c,s _ _ t,s _ _ u⟩
theorem bN.lst {K:PySem.W.Frag}{P:Addr}{pos:Pos}{qual:Str}{H H':Hp}(a:bN P H H')(t:cN P pos qual H){b:Addr}{xs:List V}(h:bB K H b xs):bB K H' b xs:=by
 rcases h with (h | ⟨o,h⟩) | h
 ·exact .inl (.inl (a.get t h fun _ z=>nomatch z))
 ·exact .inl (.inr ⟨o,a.get t h fun _ z=>nomatch z⟩)
 ·exact .inr h
theorem Hj {h h':Heap}{mg:Str->Option Value}{P:Addr}(b:h.BuiltinsAt mg P)(k:∀ a o,h.get? a=some o->h'.get? a=some o):h'.BuiltinsAt mg P:=by
 obtain ⟨bm,o,b1,b2,b3,b4,b5,b6⟩:=b;exact ⟨bm,o,b1,b2,b3,b4,k _ _ b5,b6⟩
theorem zG {c':Addr}{qual:Str}:∀ h1 h2:Heap,h1.CodeRec (.ref c') qual->(∀ o,h1.get? c'=some o->h2.get? c'=some o)->h2.CodeRec (.ref c') qual:=fun h1 h2 ⟨c,oc,vs,t,e,g,r⟩ k=>by
 cases e;exact ⟨_,oc,vs,t,rfl,k _ g,r⟩
section
variable {X:Cx}{pins:List (Addr×Obj)}{σ:St}{H:Hp}{s:Shared}{E:Value->Shared->Prop}{c P:Addr}{pos:Pos}{params:Arguments}{body:Expr}{scope:Scope}{Q:Value->Shared->Prop}
theorem Mf (I:aQ X pins σ H s)(hcode:X.env.code=.ref c)(C:PySem.W.CodeHd X.base c P)(B:X.base.BuiltinsAt X.mg P)(T:cN P pos (X.env.qual++"<lambda>") H)(S:bW X.env.scope scope)(hdef:defaultsOf params X.env=([],[]))
  (q:∀ f c' pm ctv H' s',bN P H H'->S5 P pos (X.env.qual++"<lambda>") c' H'->aQ X (pins++[(f,PySem.W.kla_obj "<lambda>" (X.env.qual++"<lambda>") params body scope (eN X.env scope.names []) pm c' ctv)]) σ H' s'->Q (.ref f) s') :
  wpAny (model X.prog X.w) X.A (eval (.Lambda params body scope pos) X.env) Q E s:=by
 have hcl:=Fg S I.ok;have hg:=I.ok.mod.glob.keeps I.bk;have hB:=Hj B I.bk;obtain ⟨ps0,hP0⟩:=T.at_;have hgP:mainGlobals≠P:=fun z=>by
  obtain ⟨o,es,ep,e,_⟩:=I.ok.mod.glob;have:=(I.bs _ o e).2;rw [z,hP0] at this;cases this
 refine PySem.W.kla_eval hdef ?_;rcases T with T | ⟨c',T,U⟩
 ·have hP:s.heap.get? P=some (PySem.W.tabObj #[]):=I.hok P _ T;refine PySem.W.kla_makeFunction (mg:=X.mg) hcl I.ok.glob hg hcode (C.keeps I.bk) hP trivial rfl hgP hB fun c' ctv h' tk hx hge hlt hrec htb=>?_;have cn:H c'=none:=I.hok.fresh hge;have cP:c'≠P:=Ne.symm (bJ T cn);have new1:∀ b o,b≠P->s.heap.get? b=some o->(h'.push (PySem.W.kla_obj "<lambda>" (X.env.qual++"<lambda>") params body scope (eN X.env scope.names []) ((X.mg "__name__").getD .none) c' ctv)).get? b=some o:=fun b o hb e=>aDf _ (hx b o hb e);have nP:∀ b,H b=none->b≠P:=fun b n z=>by rw [z,T] at n; cases n
  have ups:∀ b u,H b=some u->(∀ ps,u≠.tbl ps)->aM (aM H P (.tbl (RP pos c'))) c' (Ci c' (X.env.qual++"<lambda>")) b=some u:=fun b u e nt=>by
   rw [aH (bJ e cn),aH (dG e T (nt _))]; exact e
  have hfresh:H h'.objs.size=none:=I.hok.fresh (aDh hge (aDO hlt));have I1:aQ X pins σ (aM (aM H P (.tbl (RP pos c'))) c' (Ci c' (X.env.qual++"<lambda>"))) { s with heap:=h'.push (PySem.W.kla_obj "<lambda>" (X.env.qual++"<lambda>") params body scope (eN X.env scope.names []) ((X.mg "__name__").getD .none) c' ctv),toks:=tk }:=by
   refine I.un (t':=tk) ⟨fun b o e n _ _=>new1 b o (nP b n) e,fun b o e n _ _=>⟨o.slots,new1 b o (nP b n) e⟩,fun b o e n _=>?_,fun b o e _=>?_,fun b xs e=>ups b _ e (fun _ z=>nomatch z),fun b o u e=>ups b _ e (fun _ z=>nomatch z),fun b ps e=>?_⟩ fun b u e=>?_
   ·rw [aH (aDI (aDG (aDv e) hge)),aH (nP b n)]; exact n
   ·by_cases z:b=P
    ·rw [z]; exact ⟨_,aDf _ htb⟩
    ·exact ⟨o,new1 b o z e⟩
   ·by_cases z:b=P
    ·rw [z,T] at e;cases e;refine ⟨RP pos c',?_⟩;rw [z,aH (Ne.symm cP),aA];simp
    ·exact ⟨#[],by rw [aH (bJ e cn),aH z,e]; simp⟩
   ·by_cases z:b=c'
    ·subst z;rw [aA] at e;cases e;obtain ⟨c2,oc,vs,t,e2,g2,r2⟩:=hrec;cases e2;exact ⟨⟨_,oc,vs,t,rfl,aDf _ g2,r2⟩,⟨oc,aDf _ g2⟩,zG⟩
    ·rw [aH z] at e
     by_cases z2:b=P
     ·subst z2;rw [aA] at e;cases e;have q2:=aDf (PySem.W.kla_obj "<lambda>" (X.env.qual++"<lambda>") params body scope (eN X.env scope.names []) ((X.mg "__name__").getD .none) c' ctv) htb;rw [Array.empty_append] at q2;exact q2
     ·rw [aH z2] at e;refine (I.hok b u e).stay (fun d v hd r=>new1 d v ?_ r) (fun d r=>ups d _ r fun _ z=>nomatch z) fun d xs r=>ups d _ r fun _ z=>nomatch z
      rcases hd with z3 | z3
      ·rw [z3]; exact z2
      ·exact dG z3 T fun z=>nomatch z
  refine q _ c' ((X.mg "__name__").getD .none) ctv _ _ (fun b o n e=>?_) ⟨?_,aA⟩ (I1.pins_of fun p hp=>?_)
  ·rw [aH (bJ e cn),aH n]; exact e
  ·rw [aH (Ne.symm cP),aA]
  ·rcases aDy.mp hp with z | z
   ·exact I1.pin p (aDB _ z)
   ·rw [aDw.mp z];have fp:=I.fpOk (H':=aM (aM H P (.tbl (RP pos c'))) c' (Ci c' (X.env.qual++"<lambda>"))) (b:=h'.objs.size) (aDh hge (aDO hlt)) (by rw [aH (aEa hlt),aH (nP _ hfresh)]; exact hfresh);exact ⟨aDt _ rfl,fp.1,fp.2.1,fp.2.2.1,fun v z=>nomatch z⟩
 ·have hP:s.heap.get? P=some (PySem.W.tabObj (RP pos c')):=I.hok P _ T;have am:codeAmong pos (RP pos c').toList=some (.ref c'):=by
   show codeAmong pos [rawInt pos.line,rawInt pos.col,.ref c']=some (.ref c');simp [codeAmong,rawInt]
  refine PySem.W.kla_makeFunctionHit (mg:=X.mg) hcl I.ok.glob hg hcode (C.keeps I.bk) hP trivial am hB fun ctv h' tk hk hsz=>?_;have I1:aQ X pins σ H { s with heap:=h'.push (PySem.W.kla_obj "<lambda>" (X.env.qual++"<lambda>") params body scope (eN X.env scope.names []) ((X.mg "__name__").getD .none) c' ctv),toks:=tk }:=I.kept (t':=tk) fun b o e=>aDf _ (hk b o e);refine q _ c' ((X.mg "__name__").getD .none) ctv H _ (bN.refl H) ⟨T,U⟩ (I1.pins_of fun p hp=>?_);rcases aDy.mp hp with z | z
  ·exact I1.pin p (aDB _ z)
  ·rw [aDw.mp z];have fp:=I.fpOk (H':=H) (b:=h'.objs.size) hsz (I.hok.fresh hsz);exact ⟨aDt _ rfl,fp.1,fp.2.1,fp.2.2.1,fun v z=>nomatch z⟩
end
def Rx (K:PySem.W.Frag)(P:Addr)(pos:Pos)(qual:Str)(tl tb:TE):TE:=fun σ H Q=>tl σ H fun x H1=>∃ (l:Addr) (qs:List Addr) (kz:List Int),x=.ref l/\bB K H1 l (qs.map V.ref)/\kz.length=qs.length/\qs.length<64/\cN P pos qual H1 ∧
 ∀ H2 c',bN P H1 H2->S5 P pos qual c' H2->(∀ (i:Nat) q k,qs[i]? = some q->kz[i]? = some k->tb (some (.ref q)::σ) H2 fun r H'=>r=.int k/\H'=H2) ∧
  ∀ D (ps:List (Int×Addr)),H2 D=none->ps.Perm (kz.zip qs)->ps.Pairwise (fun p q=>p.1<=q.1)->Q (.ref D) (aM H2 D (.lst (ps.map fun p=>V.ref p.2)))
theorem Lz {X:Cx}{c P:Addr}{k:Nat}{p:Str}{M:List Str}{scope:Scope}{params:Arguments}{body e:Expr}{p0 pos lpos kpos:Pos}{tl tb:TE}(hr:d8 k X.A)(hc:X.calm=true)(hg:Gl X "sorted")(hm:X.mg "sorted" = none)
  (hcode:X.env.code=.ref c) (C:PySem.W.CodeHd X.base c P) (B:X.base.BuiltinsAt X.mg P) (S:bW X.env.scope scope) (nl:NL X.N M scope) (hp:scope.names.lookup p=some .local) (hco:scope.isCoroutine=false) (hgen:scope.isGenerator=false)
  (he:PE X e tl) (hb:∀ A f c' s H,PE (HQ X A p M scope (X.env.qual++"<lambda>") f c' s H) body tb)
  (hdef:defaultsOf params X.env=([],[]):=by rfl)
  (hbind:∀ (cl:List (Str×Addr)) (pm cdv ctv u:Value),bindArgs (PySem.W.kla_fn "<lambda>" (X.env.qual++"<lambda>") params body scope cl pm cdv ctv) ⟨[u],[]⟩=pure [(p,u)]:=by intro _ _ _ _ _; rfl)
  (hs:starEach [e] X.env=[(false,eval e X.env)]:=by rfl) :
  PE X (.Call (.Name "sorted" p0) [e] [⟨some "key",.Lambda params body scope lpos,kpos⟩] pos) (Rx X.K P lpos (X.env.qual++"<lambda>") tl tb):=by
 intro pins s σ H Q I h;refine wpAny_Call_Name_kw (jQ I hg hm Hf ?_ (by decide) (by decide));refine callWith_kw (dF (aB he aD hs pos pins s σ H (fun vs H1=>∃ x,vs=[x]/\∃ (l:Addr) (qs:List Addr) (kz:List Int),x=.ref l/\bB X.K H1 l (qs.map V.ref)/\kz.length=qs.length/\qs.length<64/\cN P lpos (X.env.qual++"<lambda>") H1 ∧
  ∀ H2 c',bN P H1 H2->S5 P lpos (X.env.qual++"<lambda>") c' H2->(∀ (i:Nat) q k,qs[i]? = some q->kz[i]? = some k->tb (some (.ref q)::σ) H2 fun r H'=>r=.int k/\H'=H2) ∧
   ∀ D (ps:List (Int×Addr)),H2 D=none->ps.Perm (kz.zip qs)->ps.Pairwise (fun p q=>p.1<=q.1)->Q (.ref D) (aM H2 D (.lst (ps.map fun p=>V.ref p.2)))) I ?_) fun us s1 ⟨vs,H1,I1,r1,x,ev,l,qs,kz,ex,hS,hlen,h64,hT,q1⟩=>?_) ?_ ?_ rfl rfl
 ·show tl σ H fun x H1=>_;have mono:=h;exact (show tl σ H fun x H1=>∃ x',[x]=[x']/\_ from by
   have e1:(fun (x:V) (H1:Hp)=>∃ x',[x]=[x']/\∃ (l:Addr) (qs:List Addr) (kz:List Int),x'=.ref l/\bB X.K H1 l (qs.map V.ref)/\kz.length=qs.length/\qs.length<64/\cN P lpos (X.env.qual++"<lambda>") H1 ∧
  ∀ H2 c',bN P H1 H2->S5 P lpos (X.env.qual++"<lambda>") c' H2->(∀ (i:Nat) q k,qs[i]? = some q->kz[i]? = some k->tb (some (.ref q)::σ) H2 fun r H'=>r=.int k/\H'=H2) ∧
   ∀ D (ps:List (Int×Addr)),H2 D=none->ps.Perm (kz.zip qs)->ps.Pairwise (fun p q=>p.1<=q.1)->Q (.ref D) (aM H2 D (.lst (ps.map fun p=>V.ref p.2))))=fun x H1=>∃ (l:Addr) (qs:List Addr) (kz:List Int),x=.ref l/\bB X.K H1 l (qs.map V.ref)/\kz.length=qs.length/\qs.length<64/\cN P lpos (X.env.qual++"<lambda>") H1 ∧
  ∀ H2 c',bN P H1 H2->S5 P lpos (X.env.qual++"<lambda>") c' H2->(∀ (i:Nat) q k,qs[i]? = some q->kz[i]? = some k->tb (some (.ref q)::σ) H2 fun r H'=>r=.int k/\H'=H2) ∧
   ∀ D (ps:List (Int×Addr)),H2 D=none->ps.Perm (kz.zip qs)->ps.Pairwise (fun p q=>p.1<=q.1)->Q (.ref D) (aM H2 D (.lst (ps.map fun p=>V.ref p.2))):=by
    funext x H1
    refine propext ⟨?_,?_⟩
    ·rintro ⟨x',z,r⟩;injection z with z
     subst z;exact r
    ·intro r;exact ⟨x,rfl,r⟩
   rw [e1];exact mono)
 ·subst ev ex;obtain ⟨u,rfl,ru⟩:=vals1 r1;cases (show u=Value.ref l from ru);show wpAny _ _ (evalAll [do let v <- eval (.Lambda params body scope lpos) X.env; standAt pos; pure v]) _ _ s1;refine wpAny_evalAll_cons (wpAny_bind (Mf I1 hcode C B hT S hdef fun f c' pm ctv H2 s2 st hit I2=>wpAny_bind (wpAny_standAt (wpAny_pure (wpAny_evalAll_nil ?_)))));obtain ⟨q2,q3⟩:=q1 H2 c' st hit;have fin:=JW (E:=X.xe) (Q:=Q) (fa:=f) (kz:=kz) I2 (bN.lst st hT hS) hlen h64 (fun i q k eq ek=>OD (A:=X.A.in1.in1) I2.ok.frames (I2.ok.hd hc) hr.depth S nl hp hco hgen hbind (hb X.A.in1.in1) (x:=.ref q) rfl (aDB _ (.head _)) hit.2 (q2 i q k eq ek)) fun D ps hD hp hs=>q3 D ps hD hp hs;exact dF fin fun r s3 ⟨v,H3,I3,rv,qv⟩=>⟨v,H3,I3.unpinned,rv,qv⟩
 ·show backTo pos (starEach [e] X.env)=(false,eval e X.env)::_;rw [hs]
  rfl
 ·rw [hs]
  rfl
theorem fC.okc {P:Program}{w:World}{K:PySem.W.Frag}{mg:Str->Option Value}{base:Heap}{x qual:Str}{st:Stmt}{f c:Addr}{fd:FuncData}{N ps:List Str}{k:Nat}{sp:Sp}(F:fC K x qual st f fd)(hc:fd.code=.ref c)(S:aP N ps (aG st))(len:∀ vs H Q E,sp vs H Q E->vs.length=ps.length)
  (hbody:∀ (A:Around) (outer:List Env) (s:Shared) (H:Hp) (vs:List V) (Q:VK) (E:XK),d8 k (A.deeper (envOfC qual (aG st) s.heap.objs.size f (.ref c)))->sp vs H Q E ->
   ∃ t,qR (pN fO P w K mg base N qual (aG st) f (.ref c) A outer s H E).nox (fH st) t/\t { nx:=fun _ H'=>Q .non H',rt:=Q } (start N vs) H):bH P w K mg base fO (k+1) f fd ps sp:=by
 obtain ⟨oc,od,kV,doc,pm,an,cdv,ct,osl,rfl,lk,hcd⟩:=F.ex;cases (show cdv=Value.ref c from hc);refine Mi lk hcd S len fun A outer s H vs Q E hr hsp=>?_;obtain ⟨t,h,q⟩:=hbody A outer s H vs Q E hr hsp;exact ⟨t,h.nox,q⟩
end L2
namespace L2
open PySem PySem.W
def ev {α:Type}:List α->List α
 | []=>[]
 | [a]=>[a]
 | a::_::r=>a::ev r
def od {α:Type}:List α->List α
 | []=>[]
 | [_]=>[]
 | _::b::r=>b::od r
def bt:Nat->List Obj->BT
 | 0,_=>.nil
 | _+1,[]=>.nil
 | n+1,o::r=>.node o (bt n (ev r)) (bt n (od r))
def sets (l:List Obj):List (Nat×Obj)->List Obj
 | []=>l
 | p::r=>sets (l.set p.1 p.2) r
noncomputable def Dc (T:BT)(n k:Nat)(os:OsState):SharedT:=⟨T,n,{},aFk [],boot_drawn,k,os⟩
theorem yZ {tb:String->Option Builtin}{p:Program}{w:World}{m0:Nat}{ann:Option Value}{env:Env}{q:Pos}{n N:Nat}{s s':SharedT}{r:Shared}{l rest:List Stmt}{c:Code}{pos p':Pos}
  (h:segRunT tb p w m0 ann 1 n s (piecesOf l env c pos [topFrame q])=some (.next,s',c,p')) (k:topRun tb p w m0 ann N s'.abs (restOf rest env c p' [topFrame q])=some r):topRun tb p w m0 ann (n+N) s.abs (restOf (l++rest) env c pos [topFrame q])=some r :=
 piece_app (segRun_of h) k
theorem K4 {p q:Program}{loose:List Str}{Xt:Shared->Bool}{α:Type}{Yf:Shared->α}{Ya:World->α}{N:Nat}{Tb Tf:Params->BT}{nb nf ka kf:Nat}{env:Env}{C:Code}{gs:List Stmt}{posA posB qp:Pos}{m0:Nat}{ann:Option Value}{a b c:Nat}
  (e1:opening p=plainProg p.main.scope.names) (h6:Nat.ble 600 N=true) (e2:∀ s,fenceModules? p s=some s)
  (size:∀ w:World,((boot_heap w.params).isNs mainGlobals&&(aFk []:Array GenState).size==0,(boot_heap w.params).objs.size,(boot_heap w.params).nsMap mainGlobals "__annotations__")=(true,m0,ann))
  (pre:∀ (w:World) (os:OsState),topGo treeTable p w m0 ann a ⟨boot_heap w.params,aFk [],boot_drawn,boot_toks,os⟩ (topStub p)=some ((Dc (Tb w.params) nb ka os).abs,⟨denote treeTable (.body gs env),C,posA,[topFrame qp]⟩))
  (blk:∀ (w:World) (os:OsState),segRun treeTable p w m0 ann 1 b (Dc (Tb w.params) nb ka os).abs (blockOf gs env C posA [topFrame qp])=some (.next,(Dc (Tb w.params) nb ka os).abs,C,posB))
  (run:∀ (w:World) (os:OsState),topRun treeTable p w m0 ann c (Dc (Tb w.params) nb ka os).abs (restOf gs env C posB [topFrame qp])=some (Dc (Tf w.params) nf kf os).abs)
  (le:Nat.ble (a+(b+c)) N=true)
  (looks:∀ w:World,(fun os=>((staticsOk (importedModules p.main.body) (boot_heap w.params) (absHeap (Tf w.params) nf {})&&namesBound p (absHeap (Tf w.params) nf {})&&gensDone ⟨absHeap (Tf w.params) nf {},aFk [],boot_drawn,kf,os⟩&&laidKept (boot_heap w.params) (absHeap (Tf w.params) nf {})),
    openSeen q loose (importedModules p.main.body) Xt true ⟨absHeap (Tf w.params) nf {},aFk [],boot_drawn,kf,os⟩,Yf ⟨absHeap (Tf w.params) nf {},aFk [],boot_drawn,kf,os⟩))=fun _=>(true,openGood q loose,Ya w)):LeftO p q loose Xt Yf Ya N :=
 LeftO.of_pieces (H₁:=fun P=>absHeap (Tf P) nf {}) (boot_open e1 h6 e2) size (fun w os=>go_top (pre w os) (piece_block (blk w os) (run w os))) le looks
end L2
namespace L2
open PySem PySem.Spec PyProof.Rows
inductive DE (K:PySem.W.Frag)(H:Hp):Nat->V->V->Bool->Prop
 | int (n:Nat) (i j:Int):DE K H n (.int i) (.int j) (i==j)
 | bl (n:Nat) (i j:Bool):DE K H n (.bl i) (.bl j) (i==j)
 | str (n:Nat) (i j:Str):DE K H n (.str i) (.str j) (i==j)
 | tup {n:Nat}{a b:Addr}{xs ys:List V} (e:Nat->Bool) (ha:cW K H a xs) (hb:cW K H b ys) (h:∀ (j:Nat) x y,xs[j]? = some x->ys[j]? = some y->DE K H n x y (e j)) :
   DE K H (n+1) (.ref a) (.ref b) ((aEs (min xs.length ys.length)).all e&&xs.length==ys.length)
 | lst {n:Nat}{a b:Addr}{xs ys:List V} (e:Nat->Bool) (ha:bB K H a xs) (hb:bB K H b ys) (hl:xs.length=ys.length) (h:∀ (j:Nat) x y,xs[j]? = some x->ys[j]? = some y->DE K H n x y (e j)) :
   DE K H (n+1) (.ref a) (.ref b) ((aEs xs.length).all e)
 | lstN {n:Nat}{a b:Addr}{xs ys:List V} (ha:bB K H a xs) (hb:bB K H b ys) (hl:xs.length≠ys.length):DE K H (n+1) (.ref a) (.ref b) false
section
variable {X:Cx}{pins:List (Addr×Obj)}{σ:St}{H:Hp}{s:Shared}
theorem DE.self (I:aQ X pins σ H s){n:Nat}{x y:V}{k:Bool}(d:DE X.K H n x y k):x=y->k=true:=by
 induction d with
 | int n i j=>intro e; cases e; simp
 | bl n i j=>intro e; cases e; simp
 | str n i j=>intro e; cases e; simp
 | @tup n a b xs ys e ha hb h ih =>
  intro z;cases z;have q:=I.tuple_inj ha hb;subst q;rw [aD2];refine ⟨aEI.mpr fun j hj=>?_,by simp⟩;rw [aEd,Nat.min_self] at hj;exact ih j _ _ (aDl hj) (aDl hj) rfl
 | @lst n a b xs ys e ha hb hl h ih =>
  intro z;cases z;have q:=I.list_inj ha hb;subst q;refine aEI.mpr fun j hj=>?_;rw [aEd] at hj;exact ih j _ _ (aDl hj) (aDl hj) rfl
 | @lstN n a b xs ys ha hb hl =>
  intro z;cases z;exact absurd (congrArg aDP (I.list_inj ha hb)) hl
theorem eG {xs:List V}{its:List Value}(r:bV xs its){j:Nat}(hj:j<its.length):∃ x,xs[j]? = some x/\RelV x its[j]:=by
 have hl:=r.length;obtain ⟨u,hu,ru⟩:=r.get (aDl (l:=xs) (i:=j) (by omega));rw [aDl hj] at hu;cases hu;exact ⟨_,aDl (by omega),ru⟩
theorem in1_units (A:Around):A.in1.units=A.units+1:=rfl
theorem DE.eqAt (I:aQ X pins σ H s){n:Nat}{x y:V}{k:Bool}(d:DE X.K H n x y k):∀ (A:Around) (u v:Value),A.units+n<cLine->RelV x u->RelV y v->PySem.SeqAt.EqAt A s u v k:=by
 induction d with
 | int n i j =>
  intro A u v _ ru rv;obtain ⟨t,rfl⟩:=ru;obtain ⟨t',rfl⟩:=rv;exact PySem.SeqAt.EqAt.int_int _ _ _ _
 | bl n i j =>
  intro A u v _ ru rv;cases (show u=Value.bool i from ru);cases (show v=Value.bool j from rv);exact PySem.SeqAt.EqAt.bool_bool _ _
 | str n i j =>
  intro A u v _ ru rv;obtain ⟨t,rfl⟩:=ru;obtain ⟨t',rfl⟩:=rv;exact PySem.SeqAt.EqAt.str_str _ _ _ _
 | @tup n a b xs ys e ha hb h ih =>
  intro A u v hu ru rv;cases (show u=Value.ref a from ru);cases (show v=Value.ref b from rv)
  by_cases hab:a=b
  ·have q:=(DE.tup e ha hb h).self I (by rw [hab]);rw [q];subst hab;exact PySem.SeqAt.EqAt.same _
  ·obtain ⟨its,r1,p1,_⟩:=I.tuple ha;obtain ⟨its2,r2,p2,_⟩:=I.tuple hb;refine PySem.SeqAt.EqAt.of_refs hab ?_;have q:=PySem.SeqAt.RcAt.tuples (A:=A) (e:=e) (show s.heap.IsTuple a its.toArray from p1) (show s.heap.IsTuple b its2.toArray from p2) (by omega) (fun j h1 h2=>by
    obtain ⟨x,ex,rx⟩:=eG r1 (j:=j) (by simpa using h1);obtain ⟨y,ey,ry⟩:=eG r2 (j:=j) (by simpa using h2);rw [aDQ,aDQ];exact ih j x y ex ey A.in1 _ _ (by rw [in1_units]; omega) rx ry)
   rw [aDo,aDo,<- r1.length,<- r2.length] at q;exact q
 | @lst n a b xs ys e ha hb hl h ih =>
  intro A u v hu ru rv;cases (show u=Value.ref a from ru);cases (show v=Value.ref b from rv)
  by_cases hab:a=b
  ·have q:=(DE.lst e ha hb hl h).self I (by rw [hab]);rw [q];subst hab;exact PySem.SeqAt.EqAt.same _
  ·obtain ⟨its,r1,p1,_⟩:=I.list ha;obtain ⟨its2,r2,p2,_⟩:=I.list hb;refine PySem.SeqAt.EqAt.of_refs hab ?_;have q:=PySem.SeqAt.RcAt.lists (A:=A) (e:=e) p1.isList p2.isList (by rw [aDo,aDo,<- r1.length,<- r2.length]; exact hl) (by omega) (fun j h1 h2=>by
    obtain ⟨x,ex,rx⟩:=eG r1 (j:=j) (by simpa using h1);obtain ⟨y,ey,ry⟩:=eG r2 (j:=j) (by simpa using h2);rw [aDQ,aDQ];exact ih j x y ex ey A.in1 _ _ (by rw [in1_units]; omega) rx ry)
   rw [aDo,<- r1.length] at q;exact q
 | @lstN n a b xs ys ha hb hl =>
  intro A u v hu ru rv;cases (show u=Value.ref a from ru);cases (show v=Value.ref b from rv);have hab:a≠b:=fun z=>by subst z; exact hl (congrArg aDP (I.list_inj ha hb))
  obtain ⟨its,r1,p1,_⟩:=I.list ha;obtain ⟨its2,r2,p2,_⟩:=I.list hb;refine PySem.SeqAt.EqAt.of_refs hab (PySem.SeqAt.RcAt.lists_lengths p1.isList p2.isList ?_ (by omega));rw [aDo,aDo,<- r1.length,<- r2.length]
  simpa using hl
def Zx (K:PySem.W.Frag)(n:Nat):R2:=fun x y H Q=>∃ a b k,x=.ref a/\y=.ref b/\DE K H (n+1) x y k/\Q (.bl k) H
def Yy (K:PySem.W.Frag)(n:Nat):R2:=fun x y H Q=>∃ a b k,x=.ref a/\y=.ref b/\DE K H (n+1) x y k/\Q (.bl (!k)) H
theorem Mx {n:Nat}(hu:X.A.units+n+1<cLine):pM X (compareOp .Eq) (Zx X.K n):=by
 intro pins s σ H x y v u Q I rx ry h;obtain ⟨a,b,k,rfl,rfl,d,q⟩:=h;cases (show v=Value.ref a from rx);cases (show u=Value.ref b from ry);cases d with
 | @tup n a b xs ys e ha hb h =>
  obtain ⟨its,r1,p1,_⟩:=I.tuple ha;obtain ⟨its2,r2,p2,_⟩:=I.tuple hb;refine PySem.SeqAt.eq_tupleAt (e:=e) (show s.heap.IsTuple a its.toArray from p1) (show s.heap.IsTuple b its2.toArray from p2) (by omega) (fun j h1 h2=>by
    obtain ⟨x,ex,rx⟩:=eG r1 (j:=j) (by simpa using h1);obtain ⟨y,ey,ry⟩:=eG r2 (j:=j) (by simpa using h2);rw [aDQ,aDQ];exact (h j x y ex ey).eqAt I X.A.in1 _ _ (by rw [in1_units]; omega) rx ry) ?_
  rw [aDo,aDo,<- r1.length,<- r2.length];exact ⟨.bl _,H,I,rfl,q⟩
 | @lst n a b xs ys e ha hb hl h =>
  obtain ⟨its,r1,p1,_⟩:=I.list ha;obtain ⟨its2,r2,p2,_⟩:=I.list hb;refine PySem.SeqAt.eq_listAt (e:=e) p1.isList p2.isList (by rw [aDo,aDo,<- r1.length,<- r2.length]; exact hl) (by omega) (fun j h1 h2=>by
    obtain ⟨x,ex,rx⟩:=eG r1 (j:=j) (by simpa using h1);obtain ⟨y,ey,ry⟩:=eG r2 (j:=j) (by simpa using h2);rw [aDQ,aDQ];exact (h j x y ex ey).eqAt I X.A.in1 _ _ (by rw [in1_units]; omega) rx ry) ?_
  rw [aDo,<- r1.length];exact ⟨.bl _,H,I,rfl,q⟩
 | @lstN n a b xs ys ha hb hl =>
  obtain ⟨its,r1,p1,_⟩:=I.list ha;obtain ⟨its2,r2,p2,_⟩:=I.list hb;exact PySem.SeqAt.eq_list_lengthsAt p1.isList p2.isList (by rw [aDo,aDo,<- r1.length,<- r2.length]; simpa using hl) (by omega) ⟨.bl _,H,I,rfl,q⟩
theorem Qz {n:Nat}(hu:X.A.units+n+1<cLine):pM X (compareOp .NotEq) (Yy X.K n):=by
 intro pins s σ H x y v u Q I rx ry h;obtain ⟨a,b,k,rfl,rfl,d,q⟩:=h;cases (show v=Value.ref a from rx);cases (show u=Value.ref b from ry);cases d with
 | @tup n a b xs ys e ha hb h =>
  obtain ⟨its,r1,p1,_⟩:=I.tuple ha;obtain ⟨its2,r2,p2,_⟩:=I.tuple hb;refine PySem.SeqAt.RcNeAt.tuples (e:=e) (show s.heap.IsTuple a its.toArray from p1) (show s.heap.IsTuple b its2.toArray from p2) (by omega) (fun j h1 h2=>by
    obtain ⟨x,ex,rx⟩:=eG r1 (j:=j) (by simpa using h1);obtain ⟨y,ey,ry⟩:=eG r2 (j:=j) (by simpa using h2);rw [aDQ,aDQ];exact (h j x y ex ey).eqAt I X.A.in1 _ _ (by rw [in1_units]; omega) rx ry) X.prog X.w _ _ ?_
  rw [aDo,aDo,<- r1.length,<- r2.length];exact ⟨.bl _,H,I,rfl,q⟩
 | @lst n a b xs ys e ha hb hl h =>
  obtain ⟨its,r1,p1,_⟩:=I.list ha;obtain ⟨its2,r2,p2,_⟩:=I.list hb;refine PySem.SeqAt.RcNeAt.lists (e:=e) p1.isList p2.isList (by rw [aDo,aDo,<- r1.length,<- r2.length]; exact hl) (by omega) (fun j h1 h2=>by
    obtain ⟨x,ex,rx⟩:=eG r1 (j:=j) (by simpa using h1);obtain ⟨y,ey,ry⟩:=eG r2 (j:=j) (by simpa using h2);rw [aDQ,aDQ];exact (h j x y ex ey).eqAt I X.A.in1 _ _ (by rw [in1_units]; omega) rx ry) X.prog X.w _ _ ?_
  rw [aDo,<- r1.length];exact ⟨.bl _,H,I,rfl,q⟩
 | @lstN n a b xs ys ha hb hl =>
  obtain ⟨its,r1,p1,_⟩:=I.list ha;obtain ⟨its2,r2,p2,_⟩:=I.list hb;exact PySem.SeqAt.RcNeAt.lists_lengths p1.isList p2.isList (by rw [aDo,aDo,<- r1.length,<- r2.length]; simpa using hl) (by omega) X.prog X.w _ _ ⟨.bl _,H,I,rfl,q⟩
end
section
variable {X:Cx}
theorem qO (hc:X.calm=true):fB X (.builtin "sum") (fun xs H Q=>∃ (a:Addr) (ns:List Int),xs=[.ref a]/\bB X.K H a (ns.map V.int)/\Q (.int ns.sum) H):=by
 intro pins s σ H xs us Q I r h;obtain ⟨a,ns,rfl,hS,q⟩:=h;obtain ⟨u,rfl,ru⟩:=vals1 r;cases (show u=Value.ref a from ru);obtain ⟨its,rv,p,hz⟩:=I.list hS;have hi:=intsAre_of rv;obtain ⟨zs,e⟩:=(IntsAre.allInts hi).items;have hl:=p.isList;rw [e] at hl;refine sum_intListG (I.ok.hd hc) hl fun h' tk t' hk=>⟨.int ns.sum,H,I.kept hk,⟨t',?_⟩,q⟩
 have n1:=nums_intItems (xs:=zs);rw [<- e,show its.toArray.toList=its from rfl,IntsAre.numsOf hi] at n1;rw [preSum_eq,aEV (by simp),<- n1]
section
variable {prog:Program}{w:World}{A:Around}{E:Value->Shared->Prop}{s:Shared}{d it:Addr}{od:Obj}{es:Array DictEntry}{ep i:Nat}
theorem wX {Q:Value->Shared->Prop}(hd:(d==sysModules)=false)(ho:s.heap.get? d=some od)(hx:od.ExactDict)(hdat:od.data=.dict es ep)
  (hQ:Q (.ref s.heap.objs.size) { s with heap:=s.heap.push { cls:=.type "dict_keyiterator",data:=.fields #[.ref d,.int 0 0,.int es.size 0,.int ep 0] } }) :
  wpAny (model prog w) A (pyIter (.ref d)) Q E s:=by
 have ty:s.TypeIs (.ref d) "dict":=⟨od,ho,hx.1⟩
 apply wpAny_pyIter_slot ty F.slot_dict_iter;refine wpAny_call_entry F.slot_dict_iter ty F.entry_dict_iter ?body (F.args_dict_iter_1 _)
 case body =>
  unfold Builtin.«dict.__iter__»;apply wpAny_bind;unfold Builtin.Dict.dictSlotNone;refine wpAny_bind (wpAny_notOrdered_dict ty (wpAny_pure (a:=Value.ref d) ?_));show wpAny _ _ (Builtin.Dict.showsAll d >>= fun _=>_) _ _ s;unfold Builtin.Dict.showsAll;rw [hd,if_neg aDC];refine wpAny_bind (wpAny_pure (wpAny_bind (wpAny_dictEntries ho hdat (wpAny_bind (wpAny_dictEpoch ho hdat ?_)))));refine wpAny_bind (wpAny_newObj_type (wpAny_pure ⟨_,rfl,"dict_keyiterator",_,⟨_,aDt _ rfl,rfl⟩,F.slot_dict_keyiterator_next.lookup,?_⟩))
  simpa only [rawInt] using hQ
theorem yK {e:DictEntry}{Q:Option Value->Shared->Prop}(hit:s.heap.IsKeyIter it d i es.size ep)(ho:s.heap.get? d=some od)(hdat:od.data=.dict es ep)(hx:es[i]? = some e)
  (hQ:∀ h',h'.IsKeyIter it d (i+1) es.size ep->aDL it s.heap h'->Q (some e.key) { s with heap:=h' }):wpAny (model prog w) A (pyNext (.ref it)) Q E s:=by
 obtain ⟨oi,hoi,hci,hdi⟩:=id hit;have ty:=hit.typeIs;have own:Builtin.Dict_items.ownsTuple "dict_keyiterator" = false:=by decide
 unfold pyNext;apply wpAny_bind;apply wpAny_attempt;refine wpAny_callSpecial?_slot (name:=Str.ofString "__next__") ty F.slot_dict_keyiterator_next ?call
 case call =>
  refine wpAny_call_entry F.slot_dict_keyiterator_next ty F.entry_dict_keyiterator_next ?body (F.args_dict_keyiterator_next_1 _)
  case body =>
   refine wpAny_bind (wpAny_pure (wpAny_bind (wpAny_bind ?_)));refine wpAny_bind (wpAny_typeNameOfWhole_keyiter ty (wpAny_pure (wpAny_bind (wpAny_fieldsOf hoi hdi ?_))));simp only [own,aD7,if_false];show wpAny _ _ (if (Value.ref d==Value.none)=true then _ else _) _ _ s;rw [if_neg (fun z:(Value.ref d==Value.none)=true=>aDC z)];refine wpAny_bind (wpAny_pure (wpAny_bind (wpAny_dictEntries ho hdat ?_)));rw [if_neg (by simp)];refine wpAny_bind (wpAny_pure (wpAny_bind (wpAny_dictEpoch ho hdat ?_)));rw [if_neg (by simp)];apply wpAny_pure;have neg:¬ ((i:Int)<0):=by omega
   simp only [neg,if_false,aEr,hx];refine wpAny_bind (wpAny_bind (wpAny_typeNameOfWhole_keyiter ty (wpAny_pure (wpAny_bind (wpAny_isOneOf_keyiter ty ?_)))));show wpAny _ _ (setField (.ref it) 1 (rawInt ((i:Int)+1)) >>= fun _=>_) _ _ s;refine wpAny_bind (wpAny_setField hoi hdi (by simp) ?_);have nx:(s.heap.update it (Obj.mapFields (·.setIfInBounds 1 (rawInt ((i:Int)+1))))).IsKeyIter it d (i+1) es.size ep :=
    ⟨_,aEn _ hoi (Obj.isFreed_of_fields (Obj.data_mapFields hdi _)),(Obj.cls_mapFields ..).trans hci,by rw [Obj.data_mapFields hdi]; simp [rawInt]⟩
   refine wpAny_bind (wpAny_holding (wpAny_bind (wpAny_isOneOf_keyiter (s:={ s with heap:=s.heap.update it (Obj.mapFields (·.setIfInBounds 1 (rawInt ((i:Int)+1)))) }) nx.typeIs ?_)));show wpAny _ _ (pure e.key) _ _ _;exact wpAny_pure (wpAny_pure ⟨_,rfl,wpAny_pure (hQ _ nx (aDL.update ..))⟩)
theorem CV {Q:Option Value->Shared->Prop}(hh:A.handled=none)(hit:s.heap.IsKeyIter it d i es.size ep)(ho:s.heap.get? d=some od)(hdat:od.data=.dict es ep)(hx:es.size<=i)
  (hQ:∀ h',aF3 it s.heap h'->Q none { s with heap:=h' }):wpAny (model prog w) A (pyNext (.ref it)) Q E s:=by
 obtain ⟨oi,hoi,hci,hdi⟩:=id hit;have ty:=hit.typeIs;have own:Builtin.Dict_items.ownsTuple "dict_keyiterator" = false:=by decide
 unfold pyNext;apply wpAny_bind;apply wpAny_attempt;refine wpAny_callSpecial?_slot (name:=Str.ofString "__next__") ty F.slot_dict_keyiterator_next ?call
 case call =>
  refine wpAny_call_entry F.slot_dict_keyiterator_next ty F.entry_dict_keyiterator_next ?body (F.args_dict_keyiterator_next_1 _)
  case body =>
   refine wpAny_bind (wpAny_pure (wpAny_bind (wpAny_bind ?_)));refine wpAny_bind (wpAny_typeNameOfWhole_keyiter ty (wpAny_pure (wpAny_bind (wpAny_fieldsOf hoi hdi ?_))));simp only [own,aD7,if_false];show wpAny _ _ (if (Value.ref d==Value.none)=true then _ else _) _ _ s;rw [if_neg (fun z:(Value.ref d==Value.none)=true=>aDC z)];refine wpAny_bind (wpAny_pure (wpAny_bind (wpAny_dictEntries ho hdat ?_)));rw [if_neg (by simp)];refine wpAny_bind (wpAny_pure (wpAny_bind (wpAny_dictEpoch ho hdat ?_)));rw [if_neg (by simp)];apply wpAny_pure;have neg:¬ ((i:Int)<0):=by omega
   simp only [neg,if_false,aEr,aFt hx];refine wpAny_bind (wpAny_bind (wpAny_typeNameOfWhole_keyiter ty (wpAny_pure ?_)));show wpAny _ _ (setField (.ref it) 0 .none >>= fun _=>_) _ _ s;refine wpAny_bind (wpAny_setField hoi hdi (by simp) ?_);show wpAny _ _ (newExc (.type "StopIteration") [] >>= fun _=>_) _ _ _;apply wpAny_bind;simp only [newExc,newTuple];refine wpAny_bind (wpAny_newObj_type (wpAny_bind (m:=firstArgMember _ _) (wpAny_of_eq (a:=Value.none) (by first | rfl | (simp only [firstArgMember]; rfl)) (wpAny_newObj_type ?_ (by size_fits)))) (by size_fits));simp only [raiseNew];refine wpAny_bind (wpAny_handled ?_);rw [show A.in1.handled=aF2 from hh];refine wpAny_bind (wpAny_pure (wpAny_throw ?thr));apply wpAny_bind;refine wpAny_isInstance (T:="StopIteration") (b:=true) ⟨_,aDt _ rfl,rfl⟩ isSubtype_stop ?ends;exact wpAny_pure (hQ _ (((aDL.update ..).extBut.push _).push _))
end
def Qv (a:Addr)(o:Obj)(kvs:List (List Key×V)):It :=
 ⟨fun i H=>H a=some (.frz o (.dT kvs))/\i<kvs.length,fun i H x H'=>H'=H/\∃ k v q,kvs[i]? = some (k,v)/\x=.ref q/\H q=some (.tup (k.map kV)),fun i H=>H a=some (.frz o (.dT kvs))/\kvs.length<=i⟩
theorem FZ {P:Program}{w:World}{H:Hp}{h:Heap}{a:Addr}{o:Obj}{kvs:List (List Key×V)}(ok:n6 P w H h)(e:H a=some (.frz o (.dT kvs))) :
  h.get? a=some o/\o.ExactDict/\∃ es ep,o.data=.dict es ep/\es.size=kvs.length/\∀ (i:Nat) k v,kvs[i]? = some (k,v)->∃ q ent,es[i]? = some ent/\ent.key=.ref q/\H q=some (.tup (k.map kV)):=by
 obtain ⟨e1,z,y,xs,r,ob,es,ep,e2,ex,hd,he,nd⟩:=ok a _ e;rw [e1] at e2;cases e2;have hl:kvs.length=xs.length:=Paired.length r;refine ⟨e1,ex,es,ep,hd,?_,fun i k v hk=>?_⟩
 ·rw [<- aDR,he,aDe,hl]
 ·have get:∀ {l1:List (List Key×V)}{l2:List (List Key×Addr×Value)}{i:Nat}{k:List Key}{v:V},Paired (fun (p:List Key×V) (q:List Key×Addr×Value)=>p.1=q.1/\H q.2.1=some (.tup (p.1.map kV))/\RelV p.2 q.2.2) l1 l2->l1[i]? = some (k,v) ->
    ∃ q:List Key×Addr×Value,l2[i]? = some q/\H q.2.1=some (.tup (k.map kV)):=by
   intro l1 l2 i k v r
   induction r generalizing i with
   | nil=>intro z; simp at z
   | cons h t ih =>
    intro z;cases i with
    | zero=>simp at z; subst z; exact ⟨_,rfl,h.2.1⟩
    | succ j=>exact ih (by simpa using z)
  obtain ⟨q,hq,ht⟩:=get r hk;refine ⟨q.2.1,entryOfKey (tupleKind (dJ P w)) q,?_,rfl,ht⟩;rw [<- aEB,he,aDm,hq]
  rfl
theorem JF {P:Program}{w:World}{K:PySem.W.Frag}{tg:Expr}(a it:Addr)(o:Obj)(kvs:List (List Key×V))(es:Array DictEntry)(ep:Nat)(hd:o.data=.dict es ep) :
  Turn P w K tg (Qv a o kvs) [it] it (fun i h=>h.IsKeyIter it a i es.size ep) where
 mem:=by simp
 obj:=fun i h st b hb=>by
  have e:b=it:=by simpa using hb
  subst e;obtain ⟨o,e,c,d⟩:=st;exact ⟨o,e,fun v z=>by rw [d] at z; cases z⟩
 keep:=fun i h h' st k=>st.at fun o e=>k it (by simp) o e
 item:=by
  intro X hP hw hK hc i pins s σ H E I hf st hg;subst hP hw hK;obtain ⟨hH,hi⟩:=hg;obtain ⟨e1,ex,es',ep',hd',hsz,get⟩:=FZ I.hok hH;rw [hd] at hd';cases hd';obtain ⟨q,ent,hent,hkey,ht⟩:=get i _ _ (aDl hi);obtain ⟨f0,f1,f2,f3,f4,f5⟩:=hf it (by simp);refine yK st e1 hd hent fun h' st' sb=>?_;have I1:aQ X pins σ H { s with heap:=h' }:=I.turned (t':=s.toks) (fun b o hb e=>(sb.2 b hb).trans e) f0 f1 f3 f4 f5;obtain ⟨oo,e,c,d⟩:=id st';exact ⟨_,rfl,CN (s:={ s with heap:=h' }) e c d (by decide) ⟨.ref q,H,I1,hkey,⟨rfl,_,_,q,aDl hi,rfl,ht⟩,st',fun b hb=>(hf b hb).1⟩⟩
 done:=by
  intro X hP hw hK hc i pins s σ H E I hf st hg;subst hP hw hK;obtain ⟨hH,hi⟩:=hg;obtain ⟨e1,ex,es',ep',hd',hsz,get⟩:=FZ I.hok hH;rw [hd] at hd';cases hd';obtain ⟨f0,f1,f2,f3,f4,f5⟩:=hf it (by simp);exact CV (I.ok.hd hc) st e1 hd (by omega) fun h' eb=>⟨rfl,I.turned (t':=s.toks) (fun b o hb e=>eb b o hb e) f0 f1 f3 f4 f5⟩
 self:=fun _ _ _ _ _ st h=>wpAny_pyIter_keyiter st h
theorem aQ.freeze {pins:List (Addr×Obj)}{σ:St}{H:Hp}{s:Shared}{a:Addr}{kvs:List (List Key×V)}(I:aQ X pins σ H s)(e:H a=some (.dT kvs)):∃ o,s.heap.get? a=some o/\aQ X pins σ (aM H a (.frz o (.dT kvs))) s:=by
 have ok:=I.hok a _ e;obtain ⟨z,y,xs,r,ob,es,ep,e2,c⟩:=id ok;refine ⟨ob,e2,?_⟩;refine I.write (x:=a) (e:=a) (h':=s.heap) (t':=s.toks) (by rw [e]; exact trivial) (.inl rfl) (fun _ _ _ q=>q) ⟨_,e2⟩ ⟨e2,?_⟩;refine ok.stay (fun _ _ _ q=>q) (fun b q=>?_) fun b ys q=>?_
 ·rw [aH (fun w=>by rw [w,e] at q; cases q)]; exact q
 ·rw [aH (fun w=>by rw [w,e] at q; cases q)]; exact q
def VL (tl:TE):TI:=fun σ H R=>tl σ H fun x H1=>∃ a kvs,x=.ref a/\((H1 a=some (.dT kvs)/\∀ o,R (Qv a o kvs) (aM H1 a (.frz o (.dT kvs))))∨∃ o,H1 a=some (.frz o (.dT kvs))/\R (Qv a o kvs) H1)
theorem HR {pins:List (Addr×Obj)}{σ:St}{H:Hp}{s:Shared}{tg:Expr}{a:Addr}{o:Obj}{kvs:List (List Key×V)}{R:It->Hp->Prop}(I:aQ X pins σ H s)(e:H a=some (.frz o (.dT kvs)))(q:R (Qv a o kvs) H) :
  wpAny (model X.prog X.w) X.A (pyIter (.ref a)) (YZ X pins σ tg R) X.xe s:=by
 obtain ⟨e1,ex,es,ep,hd,hsz,get⟩:=FZ I.hok e;obtain ⟨_,_,y,_⟩:=I.hok a _ e;refine wX y e1 ex hd ?_;refine ⟨s.heap.objs.size,[s.heap.objs.size],_,_,H,rfl,I.kept (t':=s.toks) fun b o e=>aDf _ e,JF a _ o kvs es ep hd,⟨_,aDt _ rfl,rfl,rfl⟩,fun b hb=>?_,q⟩;have e:b=s.heap.objs.size:=by simpa using hb
 subst e;exact I.fpOk (aDn _) (I.hok.fresh (aDn _))
theorem Ny {tg l:Expr}{tl:TE}(hl:PE X l tl):PI X tg l (VL tl):=by
 intro pins s σ H R I h;refine dF (hl pins s σ H _ I h) fun v s1 ⟨x,H1,I1,r1,q1⟩=>?_;obtain ⟨a,kvs,rfl,q1⟩:=q1;cases (show v=Value.ref a from r1);rcases q1 with ⟨e,q⟩ | ⟨o,e,q⟩
 ·obtain ⟨o,_,I2⟩:=I1.freeze e;exact HR I2 aA (q o)
 ·exact HR I1 e q
theorem Ax:bootBuiltins "reversed" = some (.type "reversed"):=by decide +kernel
end
theorem jB {X:Cx}{K:PySem.W.Frag}(h:X.K=K):Sq X (Vv K):=by subst h; exact dB
theorem NB {X:Cx}{K:PySem.W.Frag}(h:X.K=K):Sq X (V1 K):=by subst h; exact fG
theorem iC {X:Cx}{K:PySem.W.Frag}(hK:X.K=K){pos:Pos}{es:List Expr}{k:Nat}{t:QK}{n:Nat}(hc:X.calm=true)(h:Ur X es t)
  (hn:(assignEach es X.env).length=n:=by rfl) (hst:(assignEach es X.env).findIdx? (·.1)=none:=by rfl):PG X (.Tuple es k pos) (Ti K n t):=by
 subst hK;exact vN hc h hn hst
theorem Ko {a:Addr}{o:Obj}{kvs:List (List Key×V)}{g:TG}{tb:TS}{D:Ends}{σ:St}{H:Hp}(Pv:Nat->St->Hp->Prop)(h0:Pv 0 σ H)(hl:∀ i σ H,i<=kvs.length->Pv i σ H->H a=some (.frz o (.dT kvs)))
  (hs:∀ i k v q σ H,kvs[i]? = some (k,v)->H q=some (.tup (k.map kV))->Pv i σ H->g (.ref q) σ H fun σ2 H2=>tb { D with nx:=Pv (i+1),ct:=Pv (i+1),bk:=D.nx } σ2 H2) (hd:∀ σ H,Pv kvs.length σ H->D.nx σ H) :
  ∃ W:Nat->Nat->St->Hp->Prop,(∃ m,W 0 m σ H)/\∀ i m σ H,W i m σ H ->
   ((Qv a o kvs).stop i H/\D.nx σ H)∨((Qv a o kvs).go i H/\∃ N:St->Hp->Prop,(∀ σ' H',N σ' H'->∃ m',m'<m/\W (i+1) m' σ' H')/\∀ x H',(Qv a o kvs).yld i H x H'->g x σ H' fun σ2 H2=>tb { D with nx:=N,ct:=N,bk:=D.nx } σ2 H2):=by
 refine ⟨fun i m σ H=>m=kvs.length-i/\i<=kvs.length/\Pv i σ H,⟨kvs.length,by simp,aDK _,h0⟩,?_⟩;rintro i m σ H ⟨rfl,hi,p⟩;have q:=hl i σ H hi p
 by_cases hlt:i<kvs.length
 ·refine .inr ⟨⟨q,hlt⟩,Pv (i+1),fun σ' H' p'=>⟨kvs.length-(i+1),by omega,rfl,hlt,p'⟩,fun x H' y=>?_⟩;obtain ⟨e,k,v,z,hk,ex,ht⟩:=y;subst e ex;exact hs i k v z σ _ hk ht p
 ·have e:i=kvs.length:=by omega
  subst e;exact .inl ⟨⟨q,aDn _⟩,hd σ H p⟩
theorem Hm {Pg:Program}{w:World}{K:PySem.W.Frag}{mg mb:Str->Option Value}{CX:Al}{k:Nat}{fa a P c:Addr}{fd:FuncData}{x:Str}{sp:Sp}{s₁:Shared}{vs:List Value}{ns:List Int}
  (KX:K.In s₁.heap) (hns:s₁.heap.Ns mainGlobals mg) (hb:s₁.heap.Ns builtinsNs mb) (hbb:∀ x:Str,x≠"__name__" -> mb x=bootBuiltins x) (hlim:s₁.heap.NoLimit) (hg:s₁.gens = #[])
  (ha:s₁.heap.get? a=some { cls:=.type "list",data:=.seq vs.toArray }) (hi:IntsAre vs ns) (hl:ns.length<=sizeLine) (hr:d8 k callerA)
  (hP:s₁.heap.get? P=some (PySem.W.tabObj #[])) (hC:PySem.W.CodeHd s₁.heap c P) (hB:∃ bm ob,mg "__builtins__" = some (.ref bm)/\bm≠builtinsNs/\s₁.heap.get? bm=some ob/\ob.cls=.type "module"/\ob.dict=some builtinsNs/\ob.data=.plain)
  (hKP:K.lookup P=none) (hCK:∀ h,K.In h->PySem.W.CodeHd h c P)
  (F:∀ base:Heap,K.In base->base.Ns mainGlobals mg->PySem.W.CodeHd base c P->base.BuiltinsAt mg P->bH Pg w K mg base CX k fa fd [x] sp) (hbind:∀ (s:Shared) (u:Value),BindsTo s fd ⟨[u],[]⟩ [(x,u)])
  (hsp:∀ H:Hp,H P=some (.tbl #[])->bB K H a (ns.map V.int)->sp [.ref a] H (fun v _=>v=.bl true) fun _ _ _=>False)
  (hCX:∀ H e s',CX [] H s₁ (fun _ _ _=>False) e s'->False) :
  codeAny (model Pg w) callerA (.call (.ref fa) ⟨[.ref a],[]⟩) (fun r s'=>r=.ok (.ret (.bool true))/\OldK s₁.heap s'.heap/\s'.os=s₁.os/\AllBare s'.gens) s₁:=by
 have rv:=yJ hi;have lenV:=hi.length;have haP:a≠P:=fun z=>by rw [z,hP] at ha; cases ha
 have core:∀ H:Hp,H P=some (.tbl #[])->(∀ b,b≠P->H b=none∨∃ xs,b=a/\H b=some (.frz { cls:=.type "list",data:=.seq vs.toArray } (.lst xs)))->bB K H a (ns.map V.int)->n6 Pg w H s₁.heap->(H a≠none->K.lookup a=none) ->
   codeAny (model Pg w) callerA (.call (.ref fa) ⟨[.ref a],[]⟩) (fun r s'=>r=.ok (.ret (.bool true))/\OldK s₁.heap s'.heap/\s'.os=s₁.os/\AllBare s'.gens) s₁:=by
  intro H hHP hO hS hok hK;have base_of:∀ {b:Addr}{o:Obj},s₁.heap.get? b=some o->H b=none->(wQ s₁.heap H).get? b=some o:=fun e n=>M4 e n;have free:∀ {b:Addr}{o:Obj},s₁.heap.get? b=some o->(∀ xs n,o.data≠.seq xs n)->b≠P->H b=none:=fun {b o} e d nP=>by
   rcases hO b nP with z | ⟨xs,z,_⟩
   ·exact z
   ·rw [z,ha] at e;cases e;exact absurd rfl (d _ _)
  have ndP:∀ {b:Addr}{o:Obj}{es:Array DictEntry}{ep:Nat},s₁.heap.get? b=some o->o.data=.dict es ep->b≠P:=fun {b o es ep} e d z=>by
   rw [z,hP] at e;cases e;have d':Data.fields #[]=Data.dict es ep:=d;cases d'
  have nsK:∀ {b:Addr}{m:Str->Option Value},s₁.heap.Ns b m->(wQ s₁.heap H).Ns b m:=fun {b m} ⟨o,es,ep,e,d,r⟩=>⟨o,es,ep,base_of e (free e (fun xs n z=>by rw [d] at z; cases z) (ndP e d)),d,r⟩
  have hKb:K.In (wQ s₁.heap H):=fun b o e=>base_of (KX b o e) (by
   by_cases z:b=P
   ·rw [z,hKP] at e; cases e
   ·rcases hO b z with q | ⟨xs,q,r⟩
    ·exact q
    ·subst q;rw [hK (by rw [r]; simp)] at e; cases e)
  have hM:Mod K mg (wQ s₁.heap H):=⟨hKb,nsK hns,⟨mb,nsK hb,hbb⟩,let ⟨mc,h1,h2⟩:=hlim; ⟨mc,nsK h1,h2⟩⟩
  have e0:wD Pg w K mg (wQ s₁.heap H) callerA [] s₁ H:=⟨rfl,hM,fun b o e=>Ou e,aFO (Ho _ _),trivial,fun b hb=>absurd (show b∈([]:List Addr) from hb) (by simp),hok,.of_eq hg⟩
  have hBA:(wQ s₁.heap H).BuiltinsAt mg P:=by
   obtain ⟨bm,ob,b1,b2,b3,b4,b5,b6⟩:=hB;have nP:bm≠P:=fun z=>by rw [z,hP] at b3; cases b3; cases b4
   have nG:bm≠mainGlobals:=fun z=>by
    obtain ⟨o,es,ep,e,d,_⟩:=hns;rw [z,e] at b3;cases b3;rw [d] at b6;cases b6
   exact ⟨bm,ob,b1,b2,nG,nP,base_of b3 (free b3 (fun xs n z=>by rw [b6] at z; cases z) nP),b4,b5,b6⟩
  refine codeAny_mono ((F _ hKb (nsK hns) (hCK _ hKb) hBA).run callerA [] s₁ H ⟨[.ref a],[]⟩ [.ref a] [.ref a] _ _ hr e0 (hbind s₁ (.ref a)) (.cons rfl .nil) (hsp H hHP hS)) fun r s' h=>?_;cases r with
  | error e=>exact (hCX H e s' h).elim
  | ok fl =>
   cases fl with
   | next=>exact False.elim h
   | brk=>exact False.elim h
   | cont=>exact False.elim h
   | ret u =>
    obtain ⟨v,H',os,bare,un,hok',r',q⟩:=h;have q':v=.bl true:=q;subst q';obtain rfl:u=Value.bool true:=r';have keep:∀ b o,b≠P->s₁.heap.get? b=some o->s'.heap.get? b=some o:=fun b o nP e=>by
     rcases hO b nP with z | ⟨xs,z1,z⟩
     ·exact un.keep b o e z (by intro z; exact absurd (show b∈([]:List Addr) from z) (by simp)) (by simp)
     ·obtain ⟨e1,_⟩:=hok b _ z;obtain ⟨e2,_⟩:=hok' b _ (un.frzs b _ _ z);rw [e] at e1; cases e1;exact e2
    obtain ⟨more,hm⟩:=un.tbls P #[] hHP;have hP':s'.heap.get? P=some { cls:=.none,data:=.fields (#[]++more) }:=hok' P _ hm;refine ⟨rfl,⟨fun b o e=>?_,fun b o e=>?_⟩,os,bare⟩
    ·by_cases z:b=P
     ·subst z;rw [hP] at e;cases e;exact .inr (.inl ⟨(hC.tab hP).isCodeTable,rfl,#[],more,rfl,hP'⟩)
     ·exact .inl (keep b o z e)
    ·by_cases z:b=P
     ·subst z; exact ⟨_,hP'⟩
     ·exact ⟨o,keep b o z e⟩
 cases hk:K.lookup a with
 | some o =>
  have e:=KX a o hk;rw [ha] at e;cases e;refine core (fun b=>if b=P then some (.tbl #[]) else none) (if_pos rfl) (fun b z=>.inl (if_neg z)) (.inr ⟨_,vs.toArray,_,hk,rfl,rfl,rfl,by rw [aDo,lenV]; exact hl,by simpa using rv⟩) (fun b u z=>?_) fun z=>absurd (if_neg haP) z
  by_cases hb:b=P
  ·have z':=(if_pos hb).symm.trans z;cases z';subst hb;exact hP
  ·have z':=(if_neg hb).symm.trans z;cases z'
 | none =>
  refine core (fun b=>if b=P then some (.tbl #[]) else if b=a then some (.frz { cls:=.type "list",data:=.seq vs.toArray } (.lst (ns.map V.int))) else none) (if_pos rfl) (fun b z=>?_) (.inl (.inr ⟨{ cls:=.type "list",data:=.seq vs.toArray },(if_neg haP).trans (if_pos rfl)⟩)) (fun b u z=>?_) fun _=>hk
  ·by_cases hb:b=a
   ·exact .inr ⟨_,hb,(if_neg z).trans (if_pos hb)⟩
   ·exact .inl ((if_neg z).trans (if_neg hb))
  ·by_cases hb:b=P
   ·have z':=(if_pos hb).symm.trans z;cases z';subst hb;exact hP
   ·have z1:=(if_neg hb).symm.trans z
    by_cases hb2:b=a
    ·have z':=(if_pos hb2).symm.trans z1;cases z';subst hb2;exact ⟨ha,by rw [aDe]; exact hl,vs,_,rv,ha⟩
    ·have z':=(if_neg hb2).symm.trans z1;cases z'
theorem K7 {l:PySem.W.OpenLaw}{n k:Nat}{q:Program}{loose:List Str}{XP:(Str->Option Value)->Heap->Prop}{YP:World->Heap->Prop}{d d0:DefRec}{K:Params->PySem.W.Frag}{CX:World->Al}{sp:World->Addr->Sp}{x x0:Str}
  (hn:l.most=some n) (hn2:n<=sizeLine) (hdf:d.params.defaults=[]) (hr:d8 k callerA)
  (h0:(recsOf q).find? (fun e=>e.name==x0)=some d0)
  (hY:∀ (w:World) (h:Heap),YP w h->(K w.params).In h)
  (F:∀ (w:World) (mg:Str->Option Value) (fa:Addr) (h:Heap),(K w.params).In h->h.Ns mainGlobals mg->mg d.name=some (.ref fa) ->
   ∃ (fd:FuncData) (c P:Addr),(∀ (s:Shared) (u:Value),BindsTo s fd ⟨[u],[]⟩ [(x,u)])/\PySem.W.tabIn (K w.params) x0=some (c,P)/\PySem.W.codeHdIn (K w.params) c P=true/\(K w.params).lookup P=none ∧
    ∀ base:Heap,(K w.params).In base->base.Ns mainGlobals mg->PySem.W.CodeHd base c P->base.BuiltinsAt mg P->bH l.prog w (K w.params) mg base (CX w) k fa fd [x] (sp w P))
  (hsp:∀ (w:World) (H:Hp) (a P:Addr) (ns:List Int),ns.length<=n->H P=some (.tbl #[])->bB (K w.params) H a (ns.map V.int)->sp w P [.ref a] H (fun v _=>v=.bl true) fun _ _ _=>False)
  (hCX:∀ (w:World) (H:Hp) (s:Shared) (e:Value) (s':Shared),CX w [] H s (fun _ _ _=>False) e s'->False) :
  PySem.W.WalkO q loose XP YP l.row.toRowW d [] (fun f vs=>PySem.call f vs):=by
 refine Att.DG hn hdf fun w s₀ s₁ mg mb fa o pm cd doc a vs ns G Y ho hd hcd hmg hobj hints hlen hg=>?_;have KX:=hY w _ Y;obtain ⟨fd,c,P,hb,ht,hcd,hkp,hF⟩:=F w mg fa _ KX G.T.g hmg;obtain ⟨hC,hP⟩:=PySem.W.tab_of G.T KX h0 ht;exact Hm KX G.T.g G.T.b G.T.builtins G.T.nolimit hg hobj hints (aDh hlen hn2) hr hP hC G.T.bmain hkp (fun h X=>PySem.W.codeHd_of_K X hcd) hF hb (fun H hO hS=>hsp w H a P ns hlen hO hS) fun H e s'=>hCX w H s₁ e s'
theorem Ii {X:Cx}(hc:X.calm=true):fB X (.builtin "max") (fun xs H Q=>∃ (a:Addr) (ns:List Int),xs=[.ref a]/\bB X.K H a (ns.map V.int)/\ns≠[]/\∀ M,M∈ns->(∀ n∈ns,n<=M)->Q (.int M) H):=by
 intro pins s σ H xs us Q I r h;obtain ⟨a,ns,rfl,hS,hne,q⟩:=h;obtain ⟨u,rfl,ru⟩:=vals1 r;cases (show u=Value.ref a from ru);obtain ⟨its,rv,p,hz⟩:=I.list hS;have hi:=intsAre_of rv;obtain ⟨zs,e⟩:=(IntsAre.allInts hi).items;have hl:=p.isList;rw [e] at hl;have hns:ns=zs.toList.map (·.1):=by
  have n1:=nums_intItems (xs:=zs);rw [<- e,show its.toArray.toList=its from rfl,IntsAre.numsOf hi] at n1;exact n1
 have hsz:0<zs.size:=by
  rcases Nat.eq_zero_or_pos zs.size with z | z
  ·exfalso;apply hne;rw [hns];have:zs = #[]:=Array.eq_empty_of_size_eq_zero z;rw [this]
   rfl
  ·exact z
 refine max_intList (I.ok.hd hc) hl hsz fun v h' tk hv hk=>?_;obtain ⟨t,rfl⟩:=intItems_at hv;obtain ⟨h1,h2⟩:=argBest_gt (numAt zs) (zs.size-1);refine ⟨.int _,H,I.kept hk,⟨t,rfl⟩,q _ ?_ fun n hn=>?_⟩
 ·rw [hns,numAt_eq]; exact getD_mem (by rw [aDe,aDR]; omega)
 ·rw [hns] at hn;obtain ⟨j,hj,rfl⟩:=mem_getD hn;rw [aDe,aDR] at hj;rw [<- numAt_eq]; exact h2 j (by omega)
theorem Qx {P:Program}{w:World}{H:Hp}{h:Heap}{a:Addr}{kvs:List (List Key×V)}(ok:cH P w H h a (.dT kvs)) :
  (a==sysModules)=false/\∃ o,h.get? a=some o/\o.ExactDict/\∃ es ep,o.data=.dict es ep/\es.size=kvs.length/\∀ (i:Nat) k v,kvs[i]? = some (k,v)->∃ q ent,es[i]? = some ent/\ent.key=.ref q/\H q=some (.tup (k.map kV)):=by
 obtain ⟨z,y,xs,r,ob,es,ep,e2,ex,hd,he,nd⟩:=ok;have hl:kvs.length=xs.length:=Paired.length r;refine ⟨y,ob,e2,ex,es,ep,hd,?_,fun i k v hk=>?_⟩
 ·rw [<- aDR,he,aDe,hl]
 ·have get:∀ {l1:List (List Key×V)}{l2:List (List Key×Addr×Value)}{i:Nat}{k:List Key}{v:V},Paired (fun (p:List Key×V) (q:List Key×Addr×Value)=>p.1=q.1/\H q.2.1=some (.tup (p.1.map kV))/\RelV p.2 q.2.2) l1 l2->l1[i]? = some (k,v) ->
    ∃ q:List Key×Addr×Value,l2[i]? = some q/\H q.2.1=some (.tup (k.map kV)):=by
   intro l1 l2 i k v r
   induction r generalizing i with
   | nil=>intro z; simp at z
   | cons h t ih =>
    intro z;cases i with
    | zero=>simp at z; subst z; exact ⟨_,rfl,h.2.1⟩
    | succ j=>exact ih (by simpa using z)
  obtain ⟨q,hq,ht⟩:=get r hk;refine ⟨q.2.1,entryOfKey (tupleKind (dJ P w)) q,?_,rfl,ht⟩;rw [<- aEB,he,aDm,hq]
  rfl
theorem Hg {P:Program}{w:World}{A:Around}(hh:A.handled=none)(it d:Addr)(hne:it≠d)(o:Obj)(es:Array DictEntry)(ep:Nat)(hd:o.data=.dict es ep) :
  Walks P w A it [it,d] [it] es.size (fun i v=>∃ ent,es[i]? = some ent/\ent.key=v) (fun i h=>h.IsKeyIter it d i es.size ep/\h.get? d=some o) where
 sub:=fun b hb=>by rw [aDw.mp hb]; exact .head _
 frame:=fun i h h' st k=>⟨st.1.at fun o e=>k it (.head _) o e,k d (.tail _ (.head _)) _ st.2⟩
 item:=fun i s Q E hi st hQ=>by
  refine yK st.1 st.2 hd (aEp hi) fun h' st' sb=>?_;exact hQ _ h' s.toks ⟨_,aEp hi,rfl⟩ ⟨st',(sb.2 d (Ne.symm hne)).trans st.2⟩ fun b o hb e=>(sb.2 b (fun z=>hb (by rw [z]; exact .head _))).trans e
 done:=fun s Q E st hQ=>by
  refine CV hh st.1 st.2 hd (aDn _) fun h' eb=>?_;exact hQ h' s.toks fun b o hb e=>eb b o (fun z=>hb (by rw [z]; exact .head _)) e
 self:=fun i s Q E st hQ=>wpAny_pyIter_keyiter st.1 hQ
theorem M7 {P:Program}{w:World}(d:Addr)(lo:(d==sysModules)=false)(o:Obj)(ex:o.ExactDict)(es:Array DictEntry)(ep:Nat)(hd:o.data=.dict es ep) :
  PySem.W.KdlSrc P w "dict" d d es.size (fun i v=>∃ ent,es[i]? = some ent/\ent.key=v) (fun h=>h.get? d=some o) where
 type:=fun s e=>⟨o,e,ex.1⟩
 there:=fun h e=>⟨aDv e,aDv e⟩
 keep:=fun h h' e k=>k d (.inl rfl) o e
 notList:=by decide
 notTuple:=by decide
 hint:=fun A E s Q e hq=>PySem.W.kdl_hint_dict ⟨o,e,ex.1⟩ hq
 iter:=fun A s hh e=>⟨_,_,(fun E Q hq=>wX lo e ex hd hq),Hg hh _ d (aEa (aDv e)) o es ep hd,⟨⟨_,aDt _ rfl,rfl,rfl⟩,aDf _ e⟩⟩
theorem vC {X:Cx}(hc:X.calm=true):fB X (.type "list") (fun xs H Q=>∃ (d:Addr) (kvs:List (List Key×V)),xs=[.ref d]/\(H d=some (.dT kvs)∨∃ o,H d=some (.frz o (.dT kvs))) ∧
  ∀ (l:Addr) (qs:List Addr),H l=none->qs.length=kvs.length->(∀ (i:Nat) k v,kvs[i]? = some (k,v)->∃ q,qs[i]? = some q/\H q=some (.tup (k.map kV)))->Q (.ref l) (aM H l (.lst (qs.map V.ref)))):=by
 intro pins s σ H xs us Q I r h;obtain ⟨d,kvs,rfl,hD,q⟩:=h;obtain ⟨u,rfl,ru⟩:=vals1 r;cases (show u=Value.ref d from ru);have ok:cH X.prog X.w H s.heap d (.dT kvs):=by
  rcases hD with e | ⟨o,e⟩
  ·exact I.hok d _ e
  ·exact (I.hok d _ e).2
 have hz:kvs.length<=sizeLine:=ok.1;obtain ⟨lo,o,e,ex,es,ep,hd,hsz,get⟩:=Qx ok;refine PySem.W.kdl_call (M7 d lo o ex es ep hd) (I.ok.hd hc) e (by rw [hsz]; exact hz) fun h' tk acc c hk hl hacc=>?_;have key:∀ (i:Nat),i<kvs.length->∃ q,acc.toList[i]? = some (Value.ref q)/\∀ k v,kvs[i]? = some (k,v)->H q=some (.tup (k.map kV)):=fun i hi=>by
  have hia:i<acc.size:=by rw [hacc.1,hsz]; exact hi
  obtain ⟨ent,e1,e2⟩:=hacc.2 i _ (aEp hia);obtain ⟨q,ent',e3,e4,e5⟩:=get i _ _ (aDl hi);rw [e1] at e3;cases e3;refine ⟨q,?_,fun k v ek=>?_⟩
  ·rw [aEB,aEp hia,<- e2,e4]
  ·rw [aDl hi] at ek;have ek:=aEc.inj ek;have:kvs[i].1=k:=by rw [ek]
   rw [<- this];exact e5
 have hla:acc.toList.length=kvs.length:=by rw [aDR,hacc.1,hsz]
 have eacc:acc.toList=(acc.toList.map Qc).map Value.ref:=by
  refine aFS fun i=>?_;rw [aDm,aDm]
  by_cases hi:i<kvs.length
  ·obtain ⟨q,e1,_⟩:=key i hi;rw [e1]
   rfl
  ·rw [aEZ (by omega)]
   rfl
 refine ⟨.ref s.heap.objs.size,_,I.laid (t':=tk) hk (aDn _) (show cH X.prog X.w _ h' _ (.lst ((acc.toList.map Qc).map V.ref)) from ⟨?_,acc.toList,c,?_,?_⟩),rfl,q _ (acc.toList.map Qc) (I.hok.fresh (aDn _)) (by rw [aDe,hla]) fun i k v ek=>?_⟩
 ·rw [aDe,aDe,hla]; exact hz
 ·have z:=rC (acc.toList.map Qc);rw [<- eacc] at z;exact z
 ·rw [aE3]; exact hl
 ·have hi:=(aDr.mp ek).1;obtain ⟨q2,e1,e2⟩:=key i hi;exact ⟨q2,by rw [aDm,e1]; rfl,e2 k v ek⟩
end L2
namespace Fr
theorem K5 (a b:Int):aDW b (a.fmod b)=aDW a b:=by
 rw [aFT,Int.gcd_sub_mul_left_right,Int.gcd_comm]
theorem Ij {a b:Int}(hb:b≠0):(a.fmod b).natAbs<b.natAbs:=by
 rcases aFL hb with h | h
 ·have e:a.fmod b = -((-a).fmod (-b)):=by
   rw [aFT,aFT,Int.neg_fdiv_neg,Int.neg_mul];omega
  have h1:=aFu (-a) (show (0:Int) < -b by omega);have h2:=aFM (-a) (show (0:Int) < -b by omega);omega
 ·have h1:=aFu a h;have h2:=aFM a h;omega
def dv (t b:Int):Int:=if b<0 then -(aDW t b:Int) else (aDW t b:Int)
def sh (t b:Int):Int×Int:=(t.fdiv (dv t b),b.fdiv (dv t b))
structure lQ (t b:Int):Prop where
 pos:0<b
 red:aDW t b=1
theorem rD (t b:Int):(dv t b).natAbs=aDW t b:=by unfold dv; split <;> omega
theorem Gb {t b:Int}(hb:b≠0):dv t b≠0:=by
 have:=aD5 t hb;have e:=rD t b;omega
theorem DY (t b:Int):dv t b∣t:=by
 have h:=aFl t b;unfold dv
 split
 ·exact Int.neg_dvd.mpr h
 ·exact h
theorem yN (t b:Int):dv t b∣b:=by
 have h:=aFf t b;unfold dv
 split
 ·exact Int.neg_dvd.mpr h
 ·exact h
theorem Ac (t b:Int):(sh t b).1*dv t b=t:=aFE (DY t b)
theorem uN (t b:Int):(sh t b).2*dv t b=b:=aFE (yN t b)
theorem J2 (t b:Int):(sh t b).1*b=t*(sh t b).2:=by
 have h1:=Ac t b;have h2:=uN t b;generalize (sh t b).1=x at *;generalize (sh t b).2=y at *;generalize dv t b=d at *;rw [<- h1,<- h2];rw [Int.mul_assoc x d y,aFb d y]
theorem lX {t b:Int}(hb:b≠0):0<(sh t b).2:=by
 have h2:=uN t b;have g:=aD5 t hb;rcases aFL hb with h | h
 ·have e:dv t b<0:=by unfold dv; rw [if_pos h]; omega
  rcases (by omega:0<(sh t b).2∨(sh t b).2<=0) with q | q
  ·exact q
  ·have:=Int.mul_nonneg_of_nonpos_of_nonpos q (aD6 e);omega
 ·have e:0<dv t b:=by unfold dv; rw [if_neg (by omega)]; omega
  rcases (by omega:0<(sh t b).2∨(sh t b).2<=0) with q | q
  ·exact q
  ·have:=Int.mul_nonpos_of_nonpos_of_nonneg q (aD6 e);omega
theorem Qt {t b:Int}(hb:b≠0):aDW (sh t b).1 (sh t b).2=1:=by
 have h:=Int.gcd_mul_right (sh t b).1 (dv t b) (sh t b).2;rw [Ac,uN,rD] at h;have g:=aD5 t hb;have:1*aDW t b=aDW (sh t b).1 (sh t b).2*aDW t b:=by omega
 exact (Nat.eq_of_mul_eq_mul_right g this).symm
theorem M3 {t b:Int}(hb:b≠0):lQ (sh t b).1 (sh t b).2:=⟨lX hb,Qt hb⟩
theorem u6 {x d z:Int}(e:x*d=z)(hd:d≠0):x.natAbs<=z.natAbs:=by
 rw [<- e,Int.natAbs_mul];have:1<=d.natAbs:=by omega
 calc x.natAbs=x.natAbs*1:=by omega
  _<=x.natAbs*d.natAbs:=aFa _ this
theorem Qk {t b:Int}(hb:b≠0):(sh t b).1.natAbs<=t.natAbs:=u6 (Ac t b) (Gb hb)
theorem Rj {t b:Int}(hb:b≠0):(sh t b).2.natAbs<=b.natAbs:=u6 (uN t b) (Gb hb)
theorem Xl {a b d:Int}(g:aDW a b=1)(h:b∣a*d):b∣d:=by
 have h1:=aE0.mpr h;rw [Int.natAbs_mul] at h1;have h2:Nat.Coprime b.natAbs a.natAbs:=by
  show Nat.gcd b.natAbs a.natAbs=1;rw [Nat.gcd_comm];exact g
 exact aE0.mp (h2.dvd_of_dvd_mul_left h1)
theorem unique {a b c d:Int}(p:lQ a b)(q:lQ c d)(e:a*d=c*b):a=c/\b=d:=by
 have pp:=p.pos;have qp:=q.pos;have h1:b∣d:=by
  have:b∣a*d:=⟨c,by rw [e,aFb]⟩
  exact Xl p.red this
 have h2:d∣b:=by
  have:d∣c*b:=⟨a,by rw [<- e,aFb]⟩
  exact Xl q.red this
 have hbd:b=d:=Int.dvd_antisymm (aD6 pp) (aD6 qp) h1 h2;subst hbd;exact ⟨Int.eq_of_mul_eq_mul_right (by omega) e,rfl⟩
end Fr
namespace Tb
structure Rw where
 t:Int
 b:Int
 w:Int
def T (B:Int)(r:Rw):Int:=r.t*(B/r.b)
def mx (x:Int):Int:=if 0<x then x else 0
def S (B l0 l1:Int)(rs:List Rw):Int:=(rs.map fun r=>r.w*mx (T B r*l1-l0*B)).sum
def W (rs:List Rw):Int:=(rs.map (·.w)).sum
theorem Ey (r:Rw)(rs:List Rw):W (r::rs)=r.w+W rs:=by simp [W]
def Wt (ps:List Rw)(t b:Int):Int:=(ps.map fun r=>if r.t=t/\r.b=b then r.w else 0).sum
def j9 (ps:List Rw)(t b:Int):Prop:=∃ p∈ps,p.t=t/\p.b=b
def Lt (x y:Rw):Prop:=x.t*y.b<y.t*x.b
structure Gi (ps ys:List Rw):Prop where
 lt:ys.Pairwise Lt
 fr:∀ y∈ys,Fr.lQ y.t y.b
 has:∀ t b,j9 ys t b↔j9 ps t b
 d:∃ d,0<d/\∀ y∈ys,Wt ps y.t y.b=y.w*d
 one:∀ e:Int,(∀ y∈ys,e∣y.w)->e∣1
theorem uO (t b:Int):Wt [] t b=0:=rfl
theorem gF (r:Rw)(ps:List Rw)(t b:Int):Wt (r::ps) t b=(if r.t=t/\r.b=b then r.w else 0)+Wt ps t b:=by simp [Wt]
theorem rH (ps qs:List Rw)(t b:Int):Wt (ps++qs) t b=Wt ps t b+Wt qs t b:=by simp [Wt]
theorem pA {ps qs:List Rw}{t b:Int}:j9 (ps++qs) t b↔j9 ps t b∨j9 qs t b:=by
 constructor
 ·rintro ⟨p,hp,e⟩;rcases aDy.mp hp with z | z
  ·exact .inl ⟨p,z,e⟩
  ·exact .inr ⟨p,z,e⟩
 ·rintro (⟨p,hp,e⟩ | ⟨p,hp,e⟩)
  ·exact ⟨p,aD0 _ hp,e⟩
  ·exact ⟨p,aDB _ hp,e⟩
theorem cL {r:Rw}{ps:List Rw}{t b:Int}:j9 (r::ps) t b↔(r.t=t/\r.b=b)∨j9 ps t b:=by
 constructor
 ·rintro ⟨p,hp,e⟩;rcases aDA.mp hp with z | z
  ·subst z; exact .inl e
  ·exact .inr ⟨p,z,e⟩
 ·rintro (e | ⟨p,hp,e⟩)
  ·exact ⟨r,aDj,e⟩
  ·exact ⟨p,aDk _ hp,e⟩
theorem kE {t b:Int}:¬ j9 [] t b:=by rintro ⟨p,hp,_⟩; cases hp
theorem jC:∀ {ps:List Rw}{t b:Int},¬ j9 ps t b->Wt ps t b=0
 | [],_,_,_=>rfl
 | r::ps,t,b,h=>by
  rw [gF,if_neg fun e=>h (cL.mpr (.inl e)),jC fun e=>h (cL.mpr (.inr e))]
  rfl
theorem Fp:∀ {ps:List Rw} (t b:Int),(∀ r∈ps,1<=r.w)->0<=Wt ps t b
 | [],_,_,_=>aFe 0
 | r::ps,t,b,h=>by
  have:=Fp t b fun x hx=>h x (aDk _ hx);have hr:=h r aDj;rw [gF]
  split <;> omega
theorem vM:∀ {ps:List Rw}{t b:Int},(∀ r∈ps,1<=r.w)->j9 ps t b->1<=Wt ps t b
 | [],_,_,_,h=>absurd h kE
 | r::ps,t,b,h,q=>by
  have hr:=h r aDj;have hn:=Fp t b fun x hx=>h x (aDk _ hx);rw [gF]
  split
  ·omega
  ·rename_i ne;rcases cL.mp q with z | z
   ·exact absurd z ne
   ·have:=vM (fun x hx=>h x (aDk _ hx)) z;omega
theorem HJ:∀ {ps:List Rw} (t b:Int),(∀ r∈ps,1<=r.w)->Wt ps t b<=W ps
 | [],_,_,_=>aFe 0
 | r::ps,t,b,h=>by
  have hr:=h r aDj;have:=HJ t b fun x hx=>h x (aDk _ hx);rw [gF,Ey]
  split <;> omega
theorem En {x y:Rw}(h:Lt x y)(e1:x.t=y.t)(e2:x.b=y.b):False:=by
 unfold Lt at h;rw [e1,e2] at h;omega
theorem xM:∀ {xs ys:List Rw},xs.Pairwise Lt->ys.Pairwise Lt->(∀ t b,j9 xs t b↔j9 ys t b)->xs.map (fun r=>(r.t,r.b))=ys.map fun r=>(r.t,r.b)
 | [],[],_,_,_=>rfl
 | [],y::ys,_,_,h=>absurd ((h y.t y.b).mpr (cL.mpr (.inl ⟨rfl,rfl⟩))) kE
 | x::xs,[],_,_,h=>absurd ((h x.t x.b).mp (cL.mpr (.inl ⟨rfl,rfl⟩))) kE
 | x::xs,y::ys,hx,hy,h=>by
  obtain ⟨x1,x2⟩:=aEm.mp hx;obtain ⟨y1,y2⟩:=aEm.mp hy;have e:y.t=x.t/\y.b=x.b:=by
   rcases cL.mp ((h x.t x.b).mp (cL.mpr (.inl ⟨rfl,rfl⟩))) with z | ⟨p,hp,p1,p2⟩
   ·exact z
   ·rcases cL.mp ((h y.t y.b).mpr (cL.mpr (.inl ⟨rfl,rfl⟩))) with z | ⟨q,hq,q1,q2⟩
    ·exact ⟨z.1.symm,z.2.symm⟩
    ·have a:=y1 p hp;have b:=x1 q hq;unfold Lt at a b;rw [p1,p2] at a;rw [q1,q2] at b;omega
  have tl:∀ t b,j9 xs t b↔j9 ys t b:=fun t b=>by
   constructor
   ·rintro ⟨p,hp,p1,p2⟩;rcases cL.mp ((h t b).mp (cL.mpr (.inr ⟨p,hp,p1,p2⟩))) with z | z
    ·exact (En (x1 p hp) (by rw [p1,<- z.1,e.1]) (by rw [p2,<- z.2,e.2])).elim
    ·exact z
   ·rintro ⟨p,hp,p1,p2⟩;rcases cL.mp ((h t b).mpr (cL.mpr (.inr ⟨p,hp,p1,p2⟩))) with z | z
    ·exact (En (y1 p hp) (by rw [p1,<- z.1,e.1]) (by rw [p2,<- z.2,e.2])).elim
    ·exact z
  rw [aDE,aDE,xM x2 y2 tl,e.1,e.2]
theorem P0 {α:Type}{l:List α}{u v:α->Int}{A B:Int}(hA:0<A)(hB:0<B)(e:∀ x∈l,A*u x=B*v x)(hu:∀ d:Int,(∀ x∈l,d∣u x)->d∣1)(hv:∀ d:Int,(∀ x∈l,d∣v x)->d∣1):∀ x∈l,u x=v x:=by
 have ok:=Fr.M3 (t:=A) (aDD hB);have f1:=Fr.Ac A B;have f2:=Fr.uN A B;have dn:=Fr.Gb (t:=A) (aDD hB);generalize (Fr.sh A B).1=a at *;generalize (Fr.sh A B).2=b at *;generalize Fr.dv A B=g at *;have e2:∀ x∈l,a*u x=b*v x:=fun x hx=>by
  have:=e x hx;rw [<- f1,<- f2] at this;have:g*(a*u x)=g*(b*v x):=by grind
  exact Int.eq_of_mul_eq_mul_left dn this
 have hb:b∣1:=hu b fun x hx=>Fr.Xl ok.red ⟨v x,e2 x hx⟩;have ha:a∣1:=hv a fun x hx=>Fr.Xl (a:=b) (by rw [Int.gcd_comm]; exact ok.red) ⟨u x,(e2 x hx).symm⟩;have b1:b=1:=by
  have:=Int.le_of_dvd (by decide) hb;have:=ok.pos;omega
 have a1:a=1:=by
  have z:a=1∨a = -1:=by
   have:=aE0.mpr ha;have:=Nat.dvd_one.mp this;omega
  rcases z with z | z
  ·exact z
  ·exfalso;rw [z] at f1;rw [b1] at f2;omega
 intro x hx;have:=e2 x hx;rw [a1,b1] at this;omega
theorem Dt {ps ps' ys ys':List Rw}{c c':Int}(h:Gi ps ys)(h':Gi ps' ys')(hc:0<c)(hc':0<c')(hh:∀ t b,j9 ps t b↔j9 ps' t b)(e:∀ t b,c*Wt ps t b=c'*Wt ps' t b):ys=ys':=by
 have ek:=xM h.lt h'.lt fun t b=>(h.has t b).trans ((hh t b).trans (h'.has t b).symm);have hl:ys.length=ys'.length:=by simpa using congrArg aDP ek
 obtain ⟨d,d0,dd⟩:=h.d;obtain ⟨d',d0',dd'⟩:=h'.d;have kk:∀ (i:Nat) (h1:i<ys.length) (h2:i<ys'.length),ys[i].t=ys'[i].t/\ys[i].b=ys'[i].b:=fun i h1 h2=>by
  have q:(ys.map fun r=>(r.t,r.b))[i]? = (ys'.map fun r=>(r.t,r.b))[i]?:=by rw [ek]
  rw [aDm,aDm,aDl h1,aDl h2] at q;injection q with q
  injection q with q1 q2
  exact ⟨q1,q2⟩
 have ww:=P0 (l:=aEs ys.length) (u:=fun i=>(ys.getD i ⟨0,0,0⟩).w) (v:=fun i=>(ys'.getD i ⟨0,0,0⟩).w) (A:=c*d) (B:=c'*d') (aD1 hc d0) (aD1 hc' d0') (fun i hi=>by
  have h1:=aEd.mp hi;have h2:i<ys'.length:=by omega
  have g1:ys.getD i ⟨0,0,0⟩=ys[i]:=by simp [h1]
  have g2:ys'.getD i ⟨0,0,0⟩=ys'[i]:=by simp [h2]
  show c*d*(ys.getD i ⟨0,0,0⟩).w=c'*d'*(ys'.getD i ⟨0,0,0⟩).w;rw [g1,g2];have a1:=dd ys[i] (aDU h1);have a2:=dd' ys'[i] (aDU h2);have a3:=e ys[i].t ys[i].b;rw [a1] at a3;rw [(kk i h1 h2).1,(kk i h1 h2).2,a2] at a3
  grind) (fun k hk=>h.one k fun y hy=>by
  obtain ⟨i,hi,ei⟩:=aE4.mp hy;have:=hk i (aEd.mpr hi);have g1:ys.getD i ⟨0,0,0⟩=ys[i]:=by simp [hi]
  rw [g1,ei] at this;exact this) (fun k hk=>h'.one k fun y hy=>by
  obtain ⟨i,hi,ei⟩:=aE4.mp hy;have:=hk i (aEd.mpr (by omega));have g1:ys'.getD i ⟨0,0,0⟩=ys'[i]:=by simp [hi]
  rw [g1,ei] at this;exact this)
 refine aFZ hl fun i h1 h2=>?_;have q:=ww i (aEd.mpr h1);have g1:ys.getD i ⟨0,0,0⟩=ys[i]:=by simp [h1]
 have g2:ys'.getD i ⟨0,0,0⟩=ys'[i]:=by simp [h2]
 simp only [g1,g2] at q;have k:=kk i h1 h2;cases e1:ys[i];cases e2:ys'[i];rw [e1,e2] at q k
 simp_all
theorem JX {t b u c m:Int}(hb:0<b)(hc:0<c)(bm:b<=m)(cm:c<=m)(lt:t*c<u*b):(t*(m*m)).fdiv b<(u*(m*m)).fdiv c:=by
 have hm:0<m:=by omega
 rw [aEE _ (aD6 hb),aEE _ (aD6 hc)];have k1:(t*(m*m))/b*b<=t*(m*m):=Int.ediv_mul_le _ (aDD hb);have hbc:b*c<=m*m:=Int.mul_le_mul bm cm (aD6 hc) (aD6 hm);have h1:(t*c+1)*(m*m)<=u*b*(m*m):=aEw (by omega) (aD6 (aD1 hm hm))
 suffices h:(t*(m*m))/b+1<=(u*(m*m))/c by omega
 refine (Int.le_ediv_iff_mul_le hc).mpr ?_;have h2:b*(((t*(m*m))/b+1)*c)<=b*(u*(m*m)):=by
  have e1:b*(((t*(m*m))/b+1)*c)=c*((t*(m*m))/b*b)+b*c:=by grind
  have e2:b*(u*(m*m))=u*b*(m*m):=by grind
  have e3:(t*c+1)*(m*m)=c*(t*(m*m))+m*m:=by grind
  have h3:=aEx k1 (aD6 hc);omega
 exact Int.le_of_mul_le_mul_left h2 hb
def vY (ns:List Int):Int:=ns.foldl (fun d n=>((aDW d n:Nat):Int)) 0
theorem Iw (ns:List Int)(n:Int):vY (ns++[n])=((aDW (vY ns) n:Nat):Int):=by unfold vY; rw [aEC]; rfl
theorem vB:∀ (ns:List Int) (d:Int),(ns.foldl (fun d n=>((aDW d n:Nat):Int)) d∣d)/\(∀ n∈ns,ns.foldl (fun d n=>((aDW d n:Nat):Int)) d∣n)/\∀ e:Int,e∣d->(∀ n∈ns,e∣n)->e∣ns.foldl (fun d n=>((aDW d n:Nat):Int)) d
 | [],d=>⟨Int.dvd_refl d,(fun _ h=>nomatch h),fun e h _=>h⟩
 | n::ns,d=>by
  obtain ⟨a,b,c⟩:=vB ns ((aDW d n:Nat):Int);refine ⟨aFi a (aFl d n),fun k hk=>?_,fun e he hn=>c e (Int.dvd_coe_gcd he (hn n aDj)) fun k hk=>hn k (aDk _ hk)⟩;rcases aDA.mp hk with z | z
  ·subst z; exact aFi a (aFf d k)
  ·exact b k z
theorem vP {ns:List Int}{n:Int}(h:n∈ns):vY ns∣n:=(vB ns 0).2.1 n h
theorem Ff {ns:List Int}{e:Int}(h:∀ n∈ns,e∣n):e∣vY ns:=(vB ns 0).2.2 e (Int.dvd_zero e) h
theorem Fo:∀ (ns:List Int) (d:Int),0<=d->0<=ns.foldl (fun d n=>((aDW d n:Nat):Int)) d
 | [],_,h=>h
 | n::ns,d,_=>Fo ns _ (aFN _)
theorem LQ {ns:List Int}{n:Int}(h:n∈ns)(hn:1<=n):0<vY ns:=by
 have h0:0<=vY ns:=Fo ns 0 (aFe 0);rcases (by omega:0<vY ns∨vY ns=0) with z | z
 ·exact z
 ·have:=vP h;rw [z] at this;have:=Int.zero_dvd.mp this;omega
end Tb
set_option maxHeartbeats 4000000
namespace TD
open PySem L2
open Builtin.Int (intBits)
structure Row where
 p:Addr
 q:Addr
 t:Int
 b:Int
 w:Int
def Row.r (x:Row):Tb.Rw:=⟨x.t,x.b,x.w⟩
def iU (H:Hp)(x:Row):Prop:=H x.p=some (.tup [.ref x.q,.int x.w])/\H x.q=some (.tup [.int x.t,.int x.b])
def refs (xs:List Row):List V:=xs.map fun x=>V.ref x.p
structure TabAt (H:Hp)(a:Addr)(xs:List Row):Prop where
 lst:H a=some (.lst (refs xs))
 rows:∀ x∈xs,iU H x
def dW (xs:List Row):List Tb.Rw:=xs.map Row.r
theorem iU.same {H H':Hp}{x:Row}(s:aU H H')(h:iU H x):iU H' x:=⟨s _ _ h.1,s _ _ h.2⟩
theorem TabAt.same {H H':Hp}{a:Addr}{xs:List Row}(s:aU H H')(h:TabAt H a xs):TabAt H' a xs:=⟨s _ _ h.lst,fun x hx=>(h.rows x hx).same s⟩
theorem iU.sameT {H H':Hp}{P:Addr}{pos:Pos}{qual:Str}{x:Row}(s:bN P H H')(t:cN P pos qual H)(h:iU H x):iU H' x:=⟨s.get t h.1 (fun _ z=>nomatch z),s.get t h.2 (fun _ z=>nomatch z)⟩
theorem TabAt.sameT {H H':Hp}{P:Addr}{pos:Pos}{qual:Str}{a:Addr}{xs:List Row}(s:bN P H H')(t:cN P pos qual H)(h:TabAt H a xs):TabAt H' a xs:=⟨s.get t h.lst (fun _ z=>nomatch z),fun x hx=>(h.rows x hx).sameT s t⟩
theorem refs_length (xs:List Row):(refs xs).length=xs.length:=aDe _
theorem jR (xs:List Row):(dW xs).length=xs.length:=aDe _
theorem gC {xs:List Row}{i:Nat}{v:V}(h:(refs xs)[i]? = some v):∃ x,xs[i]? = some x/\v=.ref x.p:=by
 unfold refs at h;rw [aDm] at h;cases e:xs[i]? with
 | none=>rw [e] at h; cases h
 | some x=>rw [e] at h; cases h; exact ⟨x,rfl,rfl⟩
theorem jF (xs:List Row)(y:Row):refs (xs++[y])=refs xs++[V.ref y.p]:=by unfold refs; rw [aDq]; rfl
theorem uV (xs:List Row)(y:Row):dW (xs++[y])=dW xs++[y.r]:=by unfold dW; rw [aDq]; rfl
theorem take_snoc {α:Type}{xs:List α}{i:Nat}{x:α}(h:xs[i]? = some x):xs.take (i+1)=xs.take i++[x]:=by
 rw [aEU,h]
 rfl
theorem iU.over {H:Hp}{a:Addr}{xs zs:List V}{x:Row}(h:iU H x)(e:H a=some (.lst xs)):iU (aM H a (.lst zs)) x :=
 ⟨by rw [aH (dG h.1 e fun z=>nomatch z)]; exact h.1,by rw [aH (dG h.2 e fun z=>nomatch z)]; exact h.2⟩
theorem wJ:1<=sizeLine:=aDO (aN (by decide))
theorem Bp:2<=sizeLine:=aDO (aN (by decide))
theorem gM {m n:Nat}{x y:Int}(hx:intBits x<=m)(hy:intBits y<=n)(h:m+n<=134217728):QZ x y:=aDh (Nat.add_le_add hx hy) h
theorem c7 {K:PySem.W.Frag}(T:String):PySem.W.kitOne K (.type T) (.type T)=some true:=by
 unfold PySem.W.kitOne;rw [if_pos (beq_self_eq_true _)]
theorem yX {K:PySem.W.Frag}:PySem.W.kitOne K (.type "int") (.type "bool")=some false:=by rfl
structure Rs where
 q:Addr
 t:Int
 b:Int
def cF (rs:List Rs):List V:=rs.map fun r=>V.ref r.q
def Nj (x y:Rs):Prop:=x.t*y.b<y.t*x.b
def Zk (x y:Rs):Prop:=x.t*y.b<=y.t*x.b
def jY (r:Rs):List Key:=[.inl r.t,.inl r.b]
def tX (H:Hp)(r:Rs):Prop:=H r.q=some (.tup [.int r.t,.int r.b])
theorem bO (rs:List Rs):(cF rs).length=rs.length:=aDe _
theorem PQ (rs:List Rs):cF rs=(rs.map (·.q)).map V.ref:=by unfold cF; rw [aDH]; rfl
theorem iM {rs:List Rs}{i:Nat}{v:V}(h:(cF rs)[i]? = some v):∃ x,rs[i]? = some x/\v=.ref x.q:=by
 unfold cF at h;rw [aDm] at h;cases e:rs[i]? with
 | none=>rw [e] at h; cases h
 | some x=>rw [e] at h; cases h; exact ⟨x,rfl,rfl⟩
theorem oE {x:Rs}{t b:Int}:jY x=[.inl t,.inl b]↔x.t=t/\x.b=b:=by
 unfold jY;constructor
 ·intro h;injection h with h1 h2
  injection h2 with h2 _
  injection h1 with h1
  injection h2 with h2
  exact ⟨h1,h2⟩
 ·rintro ⟨rfl,rfl⟩; rfl
theorem VJ {x y:Rs}(fx:Fr.lQ x.t x.b)(fy:Fr.lQ y.t y.b)(h:Zk x y)(ne:jY x≠jY y):Nj x y:=by
 unfold Zk at h;unfold Nj;rcases (by omega:x.t*y.b<y.t*x.b∨x.t*y.b=y.t*x.b) with z | z
 ·exact z
 ·obtain ⟨e1,e2⟩:=Fr.unique fx fy z;exact absurd (oE.mpr ⟨e1,e2⟩) ne
structure Dk (ps:List Tb.Rw)(kvs:List (List Key×V)):Prop where
 nd:(kvs.map (·.1)).Nodup
 en:∀ kv∈kvs,∃ t b,kv=([.inl t,.inl b],.int (Tb.Wt ps t b))/\Tb.j9 ps t b
 all:∀ t b,Tb.j9 ps t b->([Sum.inl t,Sum.inl b]:List Key)∈kvs.map (·.1)
theorem Dk.nil:Dk [] []:=⟨aET,(fun _ h=>nomatch h),fun t b h=>absurd h Tb.kE⟩
theorem uT {kvs:List (List Key×V)}{k:List Key}{v:V}(h:fP kvs k=some v):(k,v)∈kvs:=by
 unfold fP at h;cases e:kvs.find? fun kv=>decide (kv.1=k) with
 | none=>rw [e] at h; cases h
 | some kv =>
  rw [e] at h;have h1:kv.2=v:=aEc.inj h;have h2:=List.find?_some e;have h3:kv.1=k:=of_decide_eq_true h2;rw [<- h1,<- h3];exact List.mem_of_find?_eq_some e
theorem zJ {t b t' b':Int}(h:([Sum.inl t,Sum.inl b]:List Key)=[.inl t',.inl b']):t=t'/\b=b':=by
 injection h with h1 h2
 injection h2 with h2 _
 injection h1 with h1
 injection h2 with h2
 exact ⟨h1,h2⟩
theorem Dk.val {ps:List Tb.Rw}{kvs:List (List Key×V)}(d:Dk ps kvs){t b:Int}(h:Tb.j9 ps t b):fP kvs [.inl t,.inl b]=some (.int (Tb.Wt ps t b)):=by
 cases e:fP kvs [.inl t,.inl b] with
 | none=>exact absurd (d.all t b h) (KQ e)
 | some v =>
  obtain ⟨t',b',e2,_⟩:=d.en _ (uT e);injection e2 with e3 e4
  obtain ⟨rfl,rfl⟩:=zJ e3;rw [e4]
theorem Dk.get {ps:List Tb.Rw}{kvs:List (List Key×V)}(d:Dk ps kvs)(t b:Int):(fP kvs [.inl t,.inl b]).getD (.int 0)=.int (Tb.Wt ps t b):=by
 by_cases h:Tb.j9 ps t b
 ·rw [d.val h]; rfl
 ·cases e:fP kvs [.inl t,.inl b] with
  | none=>rw [Tb.jC h]; rfl
  | some v =>
   obtain ⟨t',b',e2,h2⟩:=d.en _ (uT e);injection e2 with e3 e4
   obtain ⟨rfl,rfl⟩:=zJ e3;exact absurd h2 h
theorem BX {kvs:List (List Key×V)}{k:List Key}{v:V}{kv:List Key×V}(h:kv∈putK kvs k v):kv=(k,v)∨(kv∈kvs/\kv.1≠k):=by
 unfold putK at h
 split at h
 ·obtain ⟨x,hx,e⟩:=aDg.mp h
  split at e
  ·rename_i ek
   left
   rw [<- e,ek]
  ·rename_i ek
   right
   rw [<- e];exact ⟨hx,ek⟩
 ·rename_i na;rcases aDy.mp h with z | z
  ·right
   refine ⟨z,fun ek=>na ?_⟩;exact aEv.mpr ⟨kv,z,decide_eq_true ek⟩
  ·exact .inl (by simpa using z)
theorem oG {kvs:List (List Key×V)}{k:List Key}{v:V}:(putK kvs k v).map (·.1)=if (kvs.any fun kv=>decide (kv.1=k))=true then kvs.map (·.1) else kvs.map (·.1)++[k]:=by
 unfold putK
 split
 ·rw [aDH];refine aEh fun x _=>?_;show (if x.1=k then (x.1,v) else x).1=x.1
  split <;> rfl
 ·rw [aDq]; rfl
theorem Dk.put {ps:List Tb.Rw}{kvs:List (List Key×V)}(d:Dk ps kvs)(x:Tb.Rw):Dk (ps++[x]) (putK kvs [.inl x.t,.inl x.b] (.int (Tb.Wt ps x.t x.b+x.w))):=by
 have hx:∀ t b,Tb.Wt [x] t b=if x.t=t/\x.b=b then x.w else 0:=fun t b=>by rw [Tb.gF,Tb.uO,aFU]
 refine ⟨?_,fun kv hkv=>?_,fun t b h=>?_⟩
 ·rw [oG]
  split
  ·exact d.nd
  ·rename_i na;refine aFV.mpr ⟨d.nd,aEe.mpr ⟨aDJ,aET⟩,fun y hy z hz=>?_⟩;rw [aDw.mp hz];rintro rfl;obtain ⟨kv,hkv,e⟩:=aDg.mp hy;exact na (aEv.mpr ⟨kv,hkv,decide_eq_true e⟩)
 ·rcases BX hkv with z | ⟨z,ne⟩
  ·refine ⟨x.t,x.b,?_,Tb.pA.mpr (.inr ⟨x,aDj,rfl,rfl⟩)⟩;rw [z,Tb.rH,hx,if_pos ⟨rfl,rfl⟩]
  ·obtain ⟨t,b,e,h⟩:=d.en kv z;refine ⟨t,b,?_,Tb.pA.mpr (.inl h)⟩;rw [Tb.rH,hx,if_neg ?_,aFU]
   ·exact e
   ·rintro ⟨rfl,rfl⟩;exact ne (by rw [e])
 ·rw [oG];have key:([Sum.inl t,Sum.inl b]:List Key)∈kvs.map (·.1)∨([Sum.inl t,Sum.inl b]:List Key)=[.inl x.t,.inl x.b]:=by
   rcases Tb.pA.mp h with z | ⟨p,hp,e1,e2⟩
   ·exact .inl (d.all t b z)
   ·right
    rw [aDw.mp hp] at e1 e2;rw [e1,e2]
  split
  ·rename_i ya;rcases key with z | z
   ·exact z
   ·obtain ⟨kv,hkv,e⟩:=aEv.mp ya;rw [z,<- of_decide_eq_true e];exact aDg.mpr ⟨kv,hkv,rfl⟩
  ·rcases key with z | z
   ·exact aD0 _ z
   ·rw [z]; exact aDB _ (.head _)
def wOf (kv:List Key×V):Int:=match kv.2 with | .int w=>w | _=>0
def iY (kvs:List (List Key×V)):Int:=Tb.vY (kvs.map wOf)
theorem Dk.wOf {ps:List Tb.Rw}{kvs:List (List Key×V)}(d:Dk ps kvs){t b:Int}(h:Tb.j9 ps t b):Tb.Wt ps t b∈kvs.map TD.wOf:=by
 have m:=uT (d.val h);exact aDg.mpr ⟨_,m,rfl⟩
theorem Dk.ne {ps:List Tb.Rw}{kvs:List (List Key×V)}(d:Dk ps kvs)(h:ps≠[]):kvs≠[]:=by
 cases ps with
 | nil=>exact absurd rfl h
 | cons p ps =>
  intro e;have:=d.all p.t p.b (Tb.cL.mpr (.inl ⟨rfl,rfl⟩));rw [e] at this;cases this
theorem Dk.div_pos {ps:List Tb.Rw}{kvs:List (List Key×V)}(d:Dk ps kvs)(h:ps≠[])(hw:∀ p∈ps,1<=p.w):0<iY kvs:=by
 cases ps with
 | nil=>exact absurd rfl h
 | cons p ps =>
  have hp:Tb.j9 (p::ps) p.t p.b:=Tb.cL.mpr (.inl ⟨rfl,rfl⟩);exact Tb.LQ (d.wOf hp) (Tb.vM hw hp)
theorem Ot {w d:Int}(hd:0<d)(hw:1<=w)(h:d∣w):w=w.fdiv d*d/\1<=w.fdiv d/\w.fdiv d<=w:=by
 obtain ⟨c,e⟩:=h;have ec:w.fdiv d=c:=by
  have h:=aEK (a:=d) c (aDD hd);rw [<- e] at h;exact h
 rw [ec];have cp:0<c:=by
  rcases (by omega:0<c∨c<=0) with z | z
  ·exact z
  ·have:=aEN (aD6 hd) z;omega
 have:=aEw (show (1:Int)<=d by omega) (aD6 cp);refine ⟨by rw [e,aFb],by omega,by omega⟩
theorem RX {ps:List Tb.Rw}{kvs:List (List Key×V)}{rs:List Rs}{ys:List Row}(d:Dk ps kvs)(hw:∀ p∈ps,1<=p.w)(hf:∀ p∈ps,Fr.lQ p.t p.b)(hne:ps≠[])(pr:(rs.map jY).Perm (kvs.map (·.1)))(so:rs.Pairwise Nj)
  (ey:ys.map (fun y=>Rs.mk y.q y.t y.b)=rs) (yw:∀ y∈ys,y.w=(Tb.Wt ps y.t y.b).fdiv (iY kvs)):Tb.Gi ps (dW ys)/\∀ y∈ys,1<=y.w/\y.w<=Tb.Wt ps y.t y.b:=by
 have dp:=d.div_pos hne hw;have yk:∀ y∈ys,Tb.j9 ps y.t y.b:=fun y hy=>by
  have h1:jY (Rs.mk y.q y.t y.b)∈rs.map jY:=by
   rw [<- ey];exact aDg.mpr ⟨_,aDg.mpr ⟨y,hy,rfl⟩,rfl⟩
  obtain ⟨kv,hkv,e⟩:=aDg.mp (pr.mem_iff.mp h1);obtain ⟨t,b,e2,h⟩:=d.en kv hkv;rw [e2] at e;obtain ⟨e3,e4⟩:=oE.mp e.symm;have e3:y.t=t:=e3;have e4:y.b=b:=e4;rw [e3,e4];exact h
 have pb:∀ y∈ys,Tb.Wt ps y.t y.b=y.w*iY kvs/\1<=y.w/\y.w<=Tb.Wt ps y.t y.b:=fun y hy=>by
  rw [yw y hy];exact Ot dp (Tb.vM hw (yk y hy)) (Tb.vP (d.wOf (yk y hy)))
 have back:∀ t b,Tb.j9 ps t b->∃ y∈ys,y.t=t/\y.b=b:=fun t b h=>by
  obtain ⟨r,hr,e⟩:=aDg.mp (pr.mem_iff.mpr (d.all t b h));rw [<- ey] at hr;obtain ⟨y,hy,rfl⟩:=aDg.mp hr;exact ⟨y,hy,oE.mp e⟩
 refine ⟨⟨?_,fun y hy=>?_,fun t b=>?_,⟨iY kvs,dp,fun y hy=>?_⟩,fun e he=>?_⟩,fun y hy=>(pb y hy).2⟩
 ·have h:(ys.map fun y=>Rs.mk y.q y.t y.b).Pairwise Nj:=by rw [ey]; exact so
  unfold dW;rw [aD4] at h ⊢;exact h
 ·obtain ⟨z,hz,rfl⟩:=aDg.mp hy;obtain ⟨p,hp,e1,e2⟩:=yk z hz;have:=hf p hp;rw [e1,e2] at this;exact this
 ·constructor
  ·rintro ⟨y,hy,rfl,rfl⟩;obtain ⟨z,hz,rfl⟩:=aDg.mp hy;exact yk z hz
  ·intro h;obtain ⟨y,hy,e1,e2⟩:=back t b h;exact ⟨y.r,aDg.mpr ⟨y,hy,rfl⟩,e1,e2⟩
 ·obtain ⟨z,hz,rfl⟩:=aDg.mp hy;exact (pb z hz).1
 ·have g:e*iY kvs∣iY kvs:=by
   refine Tb.Ff fun n hn=>?_;obtain ⟨kv,hkv,rfl⟩:=aDg.mp hn;obtain ⟨t,b,e2,h⟩:=d.en kv hkv;obtain ⟨y,hy,rfl,rfl⟩:=back t b h;have q:=(pb y hy).1;have q2:=he y.r (aDg.mpr ⟨y,hy,rfl⟩);rw [e2];show e*iY kvs∣Tb.Wt ps y.t y.b;rw [q];exact Int.mul_dvd_mul_right _ q2
  have g2:e*iY kvs∣1*iY kvs:=by rw [aF4]; exact g
  exact Int.dvd_of_mul_dvd_mul_right (aDD dp) g2
theorem Hl {α β:Type}{f:α->β}:∀ {x m:List β},x.Perm m->∀ l:List α,x=l.map f->∃ l':List α,l'.Perm l/\m=l'.map f:=by
 intro x m h
 induction h with
 | nil=>intro l e; exact ⟨l,.refl _,e⟩
 | cons a p ih =>
  intro l e;cases l with
  | nil=>cases e
  | cons b l =>
   injection e with e1 e2
   obtain ⟨l',p',e'⟩:=ih l e2;exact ⟨b::l',p'.cons b,by rw [aDE,<- e1,<- e']⟩
 | swap a b t =>
  intro l e
  match l,e with
  | c::d::l,e =>
   injection e with e1 e2
   injection e2 with e2 e3
   exact ⟨d::c::l,.swap ..,by rw [aDE,aDE,<- e1,<- e2,<- e3]⟩
 | trans p q ih1 ih2 =>
  intro l e;obtain ⟨l1,p1,e1⟩:=ih1 l e;obtain ⟨l2,p2,e2⟩:=ih2 l1 e1;exact ⟨l2,p2.trans p1,e2⟩
def Jf (m:Int)(r:Rs):Int:=(r.t*(m*m)).fdiv r.b
theorem DR {β:Type}(f:Rs->β)(g:Rs->Addr):∀ rs:List Rs,(rs.map f).zip (rs.map g)=rs.map fun r=>(f r,g r)
 | []=>rfl
 | r::rs=>by simp [DR f g rs]
theorem OJ {m:Int}{rs:List Rs}{ps:List (Int×Addr)}(hp:ps.Perm ((rs.map (Jf m)).zip (rs.map (·.q))))(hs:ps.Pairwise fun p q=>p.1<=q.1)(nd:(rs.map jY).Nodup)(fr:∀ r∈rs,Fr.lQ r.t r.b)(hm:∀ r∈rs,r.b<=m) :
  ∃ rs':List Rs,rs'.Perm rs/\ps.map (fun p=>V.ref p.2)=cF rs'/\rs'.Pairwise Nj:=by
 rw [DR] at hp;obtain ⟨rs',p',e⟩:=Hl hp.symm rs rfl;refine ⟨rs',p',?_,?_⟩
 ·rw [e,aDH]; rfl
 ·have nd':(rs'.map jY).Nodup:=(p'.map jY).nodup_iff.mpr nd;rw [e,aD4] at hs;have nd2:rs'.Pairwise fun x y=>jY x≠jY y:=aD4.mp nd';refine (hs.and nd2).imp_of_mem fun {x y} hx hy h=>?_;have fx:=fr x (p'.mem_iff.mp hx);have fy:=fr y (p'.mem_iff.mp hy);refine VJ fx fy ?_ h.2;unfold Zk;rcases (by omega:x.t*y.b<=y.t*x.b∨y.t*x.b<x.t*y.b) with z | z
  ·exact z
  ·have:=Tb.JX fy.pos fx.pos (hm y (p'.mem_iff.mp hy)) (hm x (p'.mem_iff.mp hx)) z;have h1:Jf m x<=Jf m y:=h.1;unfold Jf at h1;omega
end TD
namespace L2
open PySem PySem.Spec PyProof.Rows
theorem wL {X:Cx}{K:PySem.W.Frag}(h:X.K=K):fB X (.type "list") (fun xs H Q=>∃ p ys,xs=[.ref p]/\(bB K H p ys∨cW K H p ys)/\∀ l,H l=none->Q (.ref l) (aM H l (.lst ys))):=by subst h; exact zP
end L2
namespace TD
open PySem L2
open Builtin.Int (intBits)
def dZ (m n:Int):Int:=m*(n.fdiv ((aDW m n:Nat):Int))
def jK (ns:List Int):Int:=ns.foldl dZ 1
theorem Ew {m n:Int}(hm:0<m)(hn:0<n):0<dZ m n/\m∣dZ m n/\n∣dZ m n:=by
 have hg:0<((aDW m n:Nat):Int):=by have:=aD5 m (aDD hn); omega
 obtain ⟨c,hc⟩:=aFf m n;obtain ⟨d,hd⟩:=aFl m n;have e:n.fdiv ((aDW m n:Nat):Int)=c:=by
  have h:=aEK (a:=((aDW m n:Nat):Int)) c (by omega);rw [<- hc] at h;exact h
 have cp:0<c:=by
  rcases (by omega:0<c∨c<=0) with z | z
  ·exact z
  ·have:=aEN (aD6 hg) z;omega
 unfold dZ;rw [e];refine ⟨aD1 hm cp,⟨c,rfl⟩,⟨d,?_⟩⟩;generalize ((aDW m n:Nat):Int)=g at *;rw [hc,hd]
 grind
theorem Cu:∀ (ns:List Int) (m:Int),0<m->(∀ n∈ns,0<n)->0<ns.foldl dZ m/\m∣ns.foldl dZ m/\∀ n∈ns,n∣ns.foldl dZ m
 | [],m,hm,_=>⟨hm,Int.dvd_refl m,fun _ h=>nomatch h⟩
 | n::ns,m,hm,h=>by
  obtain ⟨a,b,c⟩:=Ew hm (h n aDj);obtain ⟨x,y,z⟩:=Cu ns (dZ m n) a fun k hk=>h k (aDk _ hk);refine ⟨x,aFi b y,fun k hk=>?_⟩;rcases aDA.mp hk with e | e
  ·subst e; exact aFi c y
  ·exact z k e
theorem pW {ns:List Int}(h:∀ n∈ns,0<n):0<jK ns/\∀ n∈ns,n∣jK ns:=by
 obtain ⟨a,_,c⟩:=Cu ns 1 (by decide) h;exact ⟨a,c⟩
theorem Cj:∀ (ns:List Int) (m:Int) (k:Nat),intBits m<=k->intBits (ns.foldl dZ m)<=k+(ns.map intBits).sum
 | [],m,k,h=>by simpa using h
 | n::ns,m,k,h=>by
  have h1:intBits (dZ m n)<=k+intBits n:=PySem.intBits_mul_le h (PySem.intBits_fdiv_le (aDn _));have:=Cj ns (dZ m n) _ h1;simp only [aDE,aD9];show intBits (ns.foldl dZ (dZ m n))<=_;omega
theorem lK (ns:List Int):intBits (jK ns)<=1+(ns.map intBits).sum:=Cj ns 1 1 (by decide)
theorem HX (ns:List Int)(n:Int):jK (ns++[n])=dZ (jK ns) n:=by unfold jK; rw [aEC]; rfl
theorem sH (ns:List Int)(i:Nat):((ns.take i).map intBits).sum<=(ns.map intBits).sum:=by
 have e:ns.map intBits=(ns.take i).map intBits++(ns.drop i).map intBits:=by rw [<- aDq,aEo]
 rw [e,aFz];omega
theorem pJ {ns:List Int}{n:Int}(h:n∈ns):intBits n<=(ns.map intBits).sum:=by
 induction ns with
 | nil=>cases h
 | cons m r ih =>
  simp only [aDE,aD9];rcases aDA.mp h with e | e
  ·subst e; omega
  ·have:=ih e; omega
theorem eZ {k:Nat}:∀ {l:List Nat},(∀ n∈l,n<=k)->l.sum<=k*l.length
 | [],_=>by simp
 | n::l,h=>by
  have a:=eZ (l:=l) fun m hm=>h m (aDk _ hm);have b:=h n aDj;simp only [aD9,aDF];rw [Nat.mul_add,Nat.mul_one];omega
def O7:Sp:=fun vs H Q _=>∃ a b:Int,vs=[.int a,.int b]/\Q (.int ((aDW a b:Nat):Int)) H
def j7:Sp:=fun vs H Q _=>∃ t b:Int,vs=[.int t,.int b]/\b≠0/\intBits b<=9000/\∀ p H',aU H H'->H' p=some (.tup [.int (Fr.sh t b).1,.int (Fr.sh t b).2])->Q (.ref p) H'
structure Sz (a b c d:Int):Prop where
 a:intBits a<=10000
 b:intBits b<=10000
 c:intBits c<=10000
 d:intBits d<=10000
def uE (K:PySem.W.Frag):Sp:=fun vs H Q _=>∃ p q a b c d,vs=[.ref p,.ref q]/\cW K H p [.int a,.int b]/\cW K H q [.int c,.int d]/\Sz a b c d/\Q (.bl (decide (a*d<c*b))) H
def pR (ns:List Int)(k:Int):Int:=if k<(ns.length:Int) then ns.getD k.toNat 0 else 7919*k+13
def Dy (K:PySem.W.Frag):Sp:=fun vs H Q _=>∃ (a:Addr) (ns:List Int) (k:Int),vs=[.ref a,.int k]/\bB K H a (ns.map V.int)/\0<=k/\Q (.int (pR ns k)) H
def Ri (K:PySem.W.Frag):Sp:=fun vs H Q _=>∃ (a:Addr) (ns:List Int),vs=[.ref a]/\bB K H a (ns.map V.int)/\(∀ n∈ns,0<n)/\(ns.map intBits).sum<=4200/\Q (.int (jK ns)) H
def wsum (xs:List Row):Int:=(xs.map Row.w).sum
def jN:Str:=("rising" : Str)++".<locals>."++"<lambda>"
def Ds (K:PySem.W.Frag)(P:Addr)(lp:Pos):Sp:=fun vs H Q _=>∃ (a:Addr) (rs:List Rs),vs=[.ref a]/\bB K H a (cF rs)/\rs≠[]/\rs.length<64/\(∀ r∈rs,tX H r/\Fr.lQ r.t r.b/\intBits r.t<=300/\intBits r.b<=300)/\(rs.map jY).Nodup/\cN P lp jN H ∧
 ∀ (D:Addr) (H':Hp) (rs':List Rs),bN P H H'->cN P lp jN H'->H' D=some (.lst (cF rs'))->rs'.Perm rs->rs'.Pairwise Nj->Q (.ref D) H'
def Cp:Int:=2^300
def PB (xs:List Row):Prop:=∀ x∈xs,Fr.lQ x.t x.b/\intBits x.t<=300/\intBits x.b<=300/\1<=x.w/\x.w<=Cp
structure Out (ps:List Tb.Rw)(ys:List Row):Prop where
 tab:Tb.Gi ps (dW ys)
 w:∀ y∈ys,1<=y.w/\y.w<=Tb.Wt ps y.t y.b
def Do (P:Addr)(lp:Pos):Sp:=fun vs H Q _=>∃ (a:Addr) (xs:List Row),vs=[.ref a]/\TabAt H a xs/\xs≠[]/\xs.length<64/\PB xs/\cN P lp jN H ∧
 ∀ (r:Addr) (H':Hp) (ys:List Row),bN P H H'->cN P lp jN H'->H r=none->TabAt H' r ys->Out (dW xs) ys->ys.length<=xs.length->Q (.ref r) H'
theorem PB.ps {xs:List Row}(h:PB xs):(∀ p∈dW xs,1<=p.w)/\∀ p∈dW xs,Fr.lQ p.t p.b:=by
 refine ⟨fun p hp=>?_,fun p hp=>?_⟩ <;>
 ·obtain ⟨x,hx,rfl⟩:=aDg.mp hp
  first | exact (h x hx).2.2.2.1 | exact (h x hx).1
theorem Kd {m:Int}(hm:0<=m):∀ {ps:List Tb.Rw},(∀ p∈ps,1<=p.w/\p.w<=m)->0<=Tb.W ps/\Tb.W ps<=m*(ps.length:Int)
 | [],_=>by simp [Tb.W]
 | p::ps,h=>by
  obtain ⟨a,b⟩:=Kd hm (ps:=ps) fun y hy=>h y (aDk _ hy);obtain ⟨c,d⟩:=h p aDj;have f:m*((p::ps).length:Int)=m+m*(ps.length:Int):=by rw [aDF]; grind
  rw [Tb.Ey];omega
theorem Out.key {ps:List Tb.Rw}{ys:List Row}(o:Out ps ys){y:Row}(hy:y∈ys):∃ p∈ps,p.t=y.t/\p.b=y.b:=(o.tab.has y.t y.b).mp ⟨y.r,aDg.mpr ⟨y,hy,rfl⟩,rfl,rfl⟩
theorem Out.ne {ps:List Tb.Rw}{ys:List Row}(o:Out ps ys)(h:ps≠[]):ys≠[]:=by
 rintro rfl;cases ps with
 | nil=>exact h rfl
 | cons p ps=>exact Tb.kE ((o.tab.has p.t p.b).mpr (Tb.cL.mpr (.inl ⟨rfl,rfl⟩)))
theorem K6 {ps:List Tb.Rw}{kvs:List (List Key×V)}(d:Dk ps kvs)(hne:ps≠[])(hw:∀ p∈ps,1<=p.w/\p.w<=Cp)(hl:ps.length<=1000):intBits (iY kvs)<=9000:=by
 have dp:=d.div_pos hne fun p hp=>(hw p hp).1;cases ps with
 | nil=>exact absurd rfl hne
 | cons p ps =>
  have hp:Tb.j9 (p::ps) p.t p.b:=Tb.cL.mpr (.inl ⟨rfl,rfl⟩);have w1:=Tb.vM (fun p hp=>(hw p hp).1) hp;have w2:=Tb.HJ p.t p.b (ps:=p::ps) fun p hp=>(hw p hp).1;have w3:=(Kd (by decide) hw).2;have dv:=Int.le_of_dvd (by omega) (Tb.vP (d.wOf hp));have dv:iY kvs<=Tb.Wt (p::ps) p.t p.b:=dv;refine PySem.intBits_le_iff.mpr ?_;have e:Cp*(((p::ps).length:Nat):Int)<=Cp*1000:=aEx (by omega) (by decide);have e2:Cp*1000<((2^9000:Nat):Int):=by decide +kernel
  omega
theorem Rn {K:PySem.W.Frag}{H:Hp}{a b:Addr}{ys zs:List Row}(h1:TabAt H a ys)(h2:TabAt H b zs)(e:dW ys=dW zs):DE K H 3 (.ref a) (.ref b) true:=by
 have hl:ys.length=zs.length:=by simpa [dW] using congrArg aDP e
 have d:=DE.lst (K:=K) (n:=2) (fun _=>true) (bB.of h1.lst) (bB.of h2.lst) (by rw [refs_length,refs_length,hl]) (fun j x y hx hy=>?_)
 ·have e:(aEs (refs ys).length).all (fun _=>true)=true:=by simp
  rw [e] at d;exact d
 ·obtain ⟨r,hr,rfl⟩:=gC hx;obtain ⟨z,hz,rfl⟩:=gC hy;have er:r.r=z.r:=by
   have q:(dW ys)[j]? = (dW zs)[j]?:=by rw [e]
   unfold dW at q;rw [aDm,aDm,hr,hz] at q;exact aEc.inj q
  have et:r.t=z.t:=congrArg Tb.Rw.t er;have eb:r.b=z.b:=congrArg Tb.Rw.b er;have ew:r.w=z.w:=congrArg Tb.Rw.w er;have row:=h1.rows r (aDi hr);have row2:=h2.rows z (aDi hz);have d2:=DE.tup (K:=K) (n:=1) (fun _=>true) (cW.of row.1) (cW.of row2.1) (fun j x y hx hy=>?_)
  ·exact d2
  ·match j,hx,hy with
   | 0,hx,hy =>
    cases hx;cases hy;have d3:=DE.tup (K:=K) (n:=0) (fun _=>true) (cW.of row.2) (cW.of row2.2) (fun j x y hx hy=>?_)
    ·exact d3
    ·match j,hx,hy with
     | 0,hx,hy=>cases hx; cases hy; have d4:=DE.int (K:=K) (H:=H) 0 r.t z.t; rw [et] at d4 ⊢; simpa using d4
     | 1,hx,hy=>cases hx; cases hy; have d4:=DE.int (K:=K) (H:=H) 0 r.b z.b; rw [eb] at d4 ⊢; simpa using d4
     | j+2,hx,hy=>simp at hx
   | 1,hx,hy=>cases hx; cases hy; have d4:=DE.int (K:=K) (H:=H) 1 r.w z.w; rw [ew] at d4 ⊢; simpa using d4
   | j+2,hx,hy=>simp at hx
end TD
namespace L2
open PySem PySem.Spec PyProof.Rows
section
variable {X:Cx}
theorem aQ.turnedLaid {pins:List (Addr×Obj)}{σ:St}{H:Hp}{s:Shared}{h':Heap}{t':Nat}{ch:List Addr}{a:Addr}{o:HO}(I:aQ X pins σ H s)(hf:∀ b∈ch,jM X pins H b)
  (k:∀ b u,b∉ch->s.heap.get? b=some u->h'.get? b=some u) (hp:s.heap.objs.size<=a) (new:cH X.prog X.w (aM H a o) h' a o):aQ X pins σ (aM H a o) { s with heap:=h',toks:=t' }:=by
 have hn:=I.hok.fresh hp;have nit:∀ b u,H b=some u->b∉ch:=fun b u e z=>by rw [(hf b z).1] at e; cases e
 refine I.step (g':=s.gens) (d':=s.drawn) (ch:=ch) (fun b hb=>?_) (fun b o _ _ hc e _=>k b o hc e) (fun b o _ _ hc e _=>⟨o.slots,k b o hc e⟩) (fun b u hc e n=>?_) (fun b o hc e=>⟨o,k b o hc e⟩)
  (fun b xs e=>by rw [aH (bJ e hn)]; exact e) (fun b o u e=>by rw [aH (bJ e hn)]; exact e) (fun b ps e=>⟨#[],by rw [aH (bJ e hn),e]; simp⟩) (fun m hm=>?_) (fun b u e=>?_) I.bare
 ·obtain ⟨_,f1,f2,f3,f4,f5⟩:=hf b hb;exact ⟨f3,f1,f4,f5⟩
 ·rw [aH (aDI (aDG (aDv e) hp))];exact n
 ·obtain ⟨o,es,ep,ho,r⟩:=hm;exact ⟨o,es,ep,k _ o (fun z=>(hf _ z).2.1 rfl) ho,r⟩
 ·by_cases hb:b=a
  ·subst hb;rw [aA] at e;cases e;exact new
  ·rw [aH hb] at e;refine (I.hok b u e).stay (fun c v hc q=>k c v ?_ q) (fun c q=>by rw [aH (bJ q hn)]; exact q) fun c xs q=>by rw [aH (bJ q hn)]; exact q
   rcases hc with z | z
   ·rw [z]; exact nit b u e
   ·exact nit c _ z
theorem aQ.turnedN {pins:List (Addr×Obj)}{σ:St}{H:Hp}{s:Shared}{h':Heap}{t':Nat}{ch:List Addr}(I:aQ X pins σ H s)(hf:∀ b∈ch,jM X pins H b)
  (k:∀ b u,b∉ch->s.heap.get? b=some u->h'.get? b=some u):aQ X pins σ H { s with heap:=h',toks:=t' }:=by
 have nit:∀ b u,H b=some u->b∉ch:=fun b u e z=>by rw [(hf b z).1] at e; cases e
 refine I.step (g':=s.gens) (d':=s.drawn) (ch:=ch) (fun b hb=>?_) (fun b o _ _ hc e _=>k b o hc e) (fun b o _ _ hc e _=>⟨o.slots,k b o hc e⟩) (fun _ _ _ _ n=>n) (fun b o hc e=>⟨o,k b o hc e⟩)
  (fun _ _ e=>e) (fun _ _ _ e=>e) (fun b ps e=>⟨#[],by rw [e]; simp⟩) (fun m hm=>?_) (fun b u e=>?_) I.bare
 ·obtain ⟨_,f1,f2,f3,f4,f5⟩:=hf b hb;exact ⟨f3,f1,f4,f5⟩
 ·obtain ⟨o,es,ep,ho,r⟩:=hm;exact ⟨o,es,ep,k _ o (fun z=>(hf _ z).2.1 rfl) ho,r⟩
 ·refine (I.hok b u e).stay (fun c v hc q=>k c v ?_ q) (fun _ q=>q) fun _ _ q=>q;rcases hc with z | z
  ·rw [z]; exact nit b u e
  ·exact nit c _ z
def YS (K:PySem.W.Frag)(a b:Addr):It :=
 ⟨fun i H=>∃ xs ys x y,bB K H a xs/\bB K H b ys/\xs[i]? = some x/\ys[i]? = some y,
  fun i H v H'=>∃ x y T,H T=none/\v=.ref T/\H'=aM H T (.tup [x,y])/\(∀ xs,bB K H a xs->xs[i]? = some x)/\∀ ys,bB K H b ys->ys[i]? = some y,
  fun i H=>∃ xs ys,bB K H a xs/\bB K H b ys/\(xs.length<=i∨ys.length<=i)⟩
theorem Jc {P:Program}{w:World}{K:PySem.W.Frag}{elts:List Expr}{kk:Nat}{tpos:Pos}{z TI TO i1 i2 a b:Addr}(D:ZipApart z TI TO i1 i2 a b) :
  Turn P w K (.Tuple elts kk tpos) (YS K a b) [z,TI,TO,i1,i2] z (fun i h=>IsZip h z TI TO .none/\IsPair h TI (.ref i1) (.ref i2)/\(∃ x y,IsPair h TO x y)/\h.IsListIter i1 a i/\h.IsListIter i2 b i) where
 mem:=by simp
 obj:=fun i h st c hc=>by
  obtain ⟨hz,hTI,⟨x,y,hTO⟩,⟨o1,e1,c1,d1⟩,⟨o2,e2,c2,d2⟩⟩:=st;simp only [aDA,aDJ,or_false] at hc;rcases hc with rfl | rfl | rfl | rfl | rfl
  ·exact ⟨_,hz,fun v z=>nomatch z⟩
  ·exact ⟨_,hTI,fun v z=>nomatch z⟩
  ·exact ⟨_,hTO,fun v z=>nomatch z⟩
  ·exact ⟨_,e1,fun v z=>by rw [d1] at z; cases z⟩
  ·exact ⟨_,e2,fun v z=>by rw [d2] at z; cases z⟩
 keep:=fun i h h' st k=>by
  obtain ⟨hz,hTI,⟨x,y,hTO⟩,h1,h2⟩:=st;exact ⟨k z (by simp) _ hz,k TI (by simp) _ hTI,⟨x,y,k TO (by simp) _ hTO⟩,h1.at fun o e=>k i1 (by simp) o e,h2.at fun o e=>k i2 (by simp) o e⟩
 item:=by
  intro X hP hw hK hc i pins s σ H E I hf st hg;subst hP hw hK;obtain ⟨xs,ys,x,y,ha,hb,hx,hy⟩:=hg;obtain ⟨hz,hTI,⟨p,q,hTO⟩,h1,h2⟩:=st;obtain ⟨its,rv,pl,_⟩:=I.list ha;obtain ⟨its2,rv2,pl2,_⟩:=I.list hb;obtain ⟨u,hu,ru⟩:=rv.get hx;obtain ⟨u2,hu2,ru2⟩:=rv2.get hy;refine wpAny_pyNext_zip_item (x:=u) (y:=u2) D hz hTI hTO h1 h2 pl.isList pl2.isList (by simpa using hu) (by simpa using hu2) fun h' a1 a2 a3 a4 a5 a6 hk=>?_;refine ⟨_,rfl,?_⟩;refine wpAny_letOwnedTupleGo_zip (s:={ s with heap:=h' }) a1 fun h'' hz'' hs''=>?_;have ne:∀ {c o},s.heap.get? c=some o->s.heap.objs.size≠c:=fun e=>aEa (aDv e);have hT:IsPair h'' s.heap.objs.size u u2:=hs''.extBut _ _ (ne hz) a5;have fr:H s.heap.objs.size=none:=I.hok.fresh (aDn _);refine ⟨.ref s.heap.objs.size,aM H s.heap.objs.size (.tup [x,y]),?_,rfl,⟨x,y,_,fr,rfl,rfl,fun zs h=>by rw [I.list_inj h ha]; exact hx,fun zs h=>by rw [I.list_inj h hb]; exact hy⟩,⟨hz'',?_,?_,?_,?_⟩,fun c hc=>?_⟩
  ·refine I.turnedLaid (t':=s.toks) (ch:=[z,TO,i1,i2]) (fun c hc=>hf c ?_) (fun c o hc e=>?_) (aDn _) ⟨aDO (aN (show 2<=1000 by decide)),[u,u2],.cons ru (.cons ru2 .nil),_,hT,rfl,_,rfl⟩
   ·simp only [aDA,aDJ,or_false] at hc ⊢;rcases hc with z | z | z | z
    ·exact .inl z
    ·exact .inr (.inr (.inl z))
    ·exact .inr (.inr (.inr (.inl z)))
    ·exact .inr (.inr (.inr (.inr z)))
   ·simp only [aDA,aDJ,or_false,not_or] at hc;exact hs''.extBut _ _ hc.1 (hk c o hc.1 hc.2.1 hc.2.2.1 hc.2.2.2 e)
  ·exact hs''.extBut _ _ D.TIz (hk _ _ D.TIz D.TITO D.TIi1 D.TIi2 hTI)
  ·exact ⟨u,u2,hs''.extBut _ _ D.TOz a2⟩
  ·exact a3.extBut hs''.extBut D.i1z
  ·exact a4.extBut hs''.extBut D.i2z
  ·have lt:∀ {c},c∈[z,TI,TO,i1,i2]->c≠s.heap.objs.size:=fun {c} hc e=>by
    obtain ⟨o1,e1,_⟩:=h1;obtain ⟨o2,e2,_⟩:=h2;simp only [aDA,aDJ,or_false] at hc;rcases hc with rfl | rfl | rfl | rfl | rfl
    ·exact ne hz e.symm
    ·exact ne hTI e.symm
    ·exact ne hTO e.symm
    ·exact ne e1 e.symm
    ·exact ne e2 e.symm
   rw [aH (lt hc)];exact (hf c hc).1
 done:=by
  intro X hP hw hK hc i pins s σ H E I hf st hg;subst hP hw hK;obtain ⟨xs,ys,ha,hb,hx⟩:=hg;obtain ⟨hz,hTI,⟨p,q,hTO⟩,h1,h2⟩:=st;obtain ⟨its,rv,pl,_⟩:=I.list ha;obtain ⟨its2,rv2,pl2,_⟩:=I.list hb;have l1:=rv.length;have l2:=rv2.length;refine wpAny_pyNext_zip_end (I.ok.hd hc) D hz hTI hTO h1 h2 pl.isList pl2.isList ?_ fun h' hk=>⟨rfl,I.turnedN (t':=s.toks) (ch:=[z,TO,i1,i2]) (fun c hc=>hf c ?_) fun c o hc e=>?_⟩
  ·rcases hx with hx | hx
   ·exact .inl (by simp; omega)
   ·exact .inr (by simp; omega)
  ·simp only [aDA,aDJ,or_false] at hc ⊢;rcases hc with z | z | z | z
   ·exact .inl z
   ·exact .inr (.inr (.inl z))
   ·exact .inr (.inr (.inr (.inl z)))
   ·exact .inr (.inr (.inr (.inr z)))
  ·simp only [aDA,aDJ,or_false,not_or] at hc;exact hk c o hc.1 hc.2.1 hc.2.2.1 hc.2.2.2 e
 self:=fun _ _ _ _ _ st h=>wpAny_pyIter_zip st.1 h
def ZW (K:PySem.W.Frag)(ta:TA):TI:=fun σ H R=>ta σ H fun vs H1=>∃ a b xs ys,vs=[.ref a,.ref b]/\bB K H1 a xs/\bB K H1 b ys/\R (YS K a b) H1
theorem J4:bootBuiltins "zip" = some (.type "zip"):=by decide +kernel
theorem IV (I l1 l2:Nat)(h1:l1<I)(h2:l2<I):ZipApart (I+4) (I+2) (I+3) I (I+1) l1 l2:=by
 constructor <;> (show (_:Nat)≠_; omega)
theorem R7 {a b:Expr}{ta:TA}{p pos tpos:Pos}{elts:List Expr}{kk:Nat}(hg:Gl X "zip")(hm:X.mg "zip" = none)(ha:PA X [a,b] ta)(hs:starEach [a,b] X.env=[(false,eval a X.env),(false,eval b X.env)]:=by rfl)(hs2:starEach [b] X.env=[(false,eval b X.env)]:=by rfl) :
  PI X (.Tuple elts kk tpos) (.Call (.Name "zip" p) [a,b] [] pos) (ZW X.K ta):=by
 intro pins s σ H R I h;refine Call_ (jQ I hg hm J4 (PyProof.Rows.callWith_type1 (dF (ha pos pins s σ H _ I h) fun us s1 ⟨vs,H1,I1,r1,q1⟩=>?_) (by rw [hs,hs2]) (by rw [hs2]; rfl)));obtain ⟨l1,l2,xs,ys,e,h1,h2,q⟩:=q1;subst e;obtain ⟨u,w',rfl,ru,rw'⟩:=vals2 r1;cases (show u=Value.ref l1 from ru);cases (show w'=Value.ref l2 from rw');obtain ⟨its,rv,pl,_⟩:=I1.list h1;obtain ⟨its2,rv2,pl2,_⟩:=I1.list h2;have lt1:l1<s1.heap.objs.size:=by obtain ⟨o,e,_⟩:=pl.isList; exact aDv e
 have lt2:l2<s1.heap.objs.size:=by obtain ⟨o,e,_⟩:=pl2.isList; exact aDv e
 refine call_zip_2 pl.isList pl2.isList fun h' hz hTI hTO hi1 hi2 hsz hk=>?_;refine wpAny_pyIter_zip hz ?_;refine ⟨_,_,_,_,H1,rfl,I1.kept (t':=s1.toks) hk,Jc (IV s1.heap.objs.size l1 l2 lt1 lt2),⟨hz,hTI,⟨_,_,hTO⟩,hi1,hi2⟩,fun c hc=>?_,q⟩;have le:s1.heap.objs.size<=c:=by
  simp only [aDA,aDJ,or_false] at hc;rcases hc with rfl | rfl | rfl | rfl | rfl <;> first | exact aFm _ _ | exact aDn _
 exact I1.fpOk le (I1.hok.fresh le)
theorem Jt {K:PySem.W.Frag}{a b:Addr}{xs ys:List V}{k:Nat}{g:TG}{c:TT}{te:TE}{σ:St}{H1:Hp}{D:Addr}{Q:VK}(Pv:Nat->St->Hp->Prop)(hn:xs.length=ys.length)(h0:Pv 0 (aDx k none++σ) (aM H1 D (.lst [])))
  (hl:∀ i τ H,i<=xs.length->Pv i τ H->bB K H a xs/\bB K H b ys)
  (hs:∀ i m x y T τ H,m=xs.length-i->i<xs.length->xs[i]? = some x->ys[i]? = some y->H T=none->Pv i τ H->g (.ref T) τ (aM H T (.tup [x,y])) fun τ2 H2=>c τ2 H2 fun b H3=>if b=true then te τ2 H3 fun y H4=>∃ ys m',m'<m/\H4 D=some (.lst ys)/\ys.length<sizeLine/\CW xs.length Pv (i+1) m' τ2 (aM H4 D (.lst (ys++[y]))) else ∃ m',m'<m/\CW xs.length Pv (i+1) m' τ2 H3)
  (hd:∀ τ H,Pv xs.length τ H->Q (.ref D) H):vI k (YS K a b) g c te σ H1 D Q:=by
 refine ⟨CW xs.length Pv,⟨xs.length,rfl,aDK _,h0⟩,?_⟩;rintro i m τ H ⟨hm,hi,p⟩;obtain ⟨q1,q2⟩:=hl i τ H hi p
 by_cases hlt:i<xs.length
 ·refine .inr ⟨⟨xs,ys,xs[i],ys[i]'(by omega),q1,q2,by simp [hlt],aDl (by omega)⟩,fun v H' y=>?_⟩;obtain ⟨x,y,T,hT,rfl,rfl,e1,e2⟩:=y;exact hs i m x y T τ _ hm hlt (e1 xs q1) (e2 ys q2) hT p
 ·have e:i=xs.length:=by omega
  subst e;exact .inl ⟨⟨xs,ys,q1,q2,.inl (aDn _)⟩,hd τ H p⟩
end
end L2
namespace Rk
abbrev Fc:=Int×Int
def hd (l:List Fc):Fc:=match l with | []=>(0,1) | p::_=>p
def tk (many place:Int)(p:Fc):Fc:=if p.1*many > place*p.2 then p else (place,many)
def turns (f:Nat->Fc->Fc):Nat->List Fc
 | 0=>[(0,1)]
 | i+1=>(fun l=>f i (hd l)::l) (turns f i)
def pl (x y:Fc):Fc:=Fr.sh (x.1*y.2+y.1*x.2) (x.2*y.2)
def mi (x y:Fc):Fc:=Fr.sh (x.1*y.2-y.1*x.2) (x.2*y.2)
def ti (x y:Fc):Fc:=Fr.sh (x.1*y.1) (x.2*y.2)
def ov (x y:Fc):Fc:=Fr.sh (x.1*y.2) (x.2*y.1)
def lt (x y:Fc):Bool:=decide (x.1*y.2<y.1*x.2)
def gr (x y:Fc):Fc:=if lt x y then y else x
def fbT (gone:Int):Nat->List Fc:=turns fun i p=>pl p (Fr.sh 1 (gone+i))
def fb (many gone:Int):Fc:=if gone=0 then Fr.sh 1 many else ti (Fr.sh gone many) (hd (fbT gone (many-gone).toNat))
end Rk
namespace TD
open PySem L2
open Builtin.Int (intBits)
def fM (rs:List Rs):List Rk.Fc:=rs.map fun r=>(r.t,r.b)
structure iJ (H:Hp)(a:Addr)(rs:List Rs):Prop where
 lst:H a=some (.lst (cF rs))
 at_:∀ r∈rs,tX H r
theorem iJ.same {H H':Hp}{a:Addr}{rs:List Rs}(s:aU H H')(h:iJ H a rs):iJ H' a rs:=⟨s _ _ h.lst,fun r hr=>s _ _ (h.at_ r hr)⟩
theorem cT (rs:List Rs):(fM rs).length=rs.length:=aDe _
theorem Eh (xs:List Rs)(y:Rs):cF (xs++[y])=cF xs++[V.ref y.q]:=by unfold cF; rw [aDq]; rfl
theorem iJ.push {H:Hp}{D:Addr}{rs:List Rs}{r:Rs}(h:iJ H D rs)(hr:tX H r):iJ (aM H D (.lst (cF rs++[.ref r.q]))) D (rs++[r]):=by
 have one:∀ x:Rs,tX H x->tX (aM H D (.lst (cF rs++[.ref r.q]))) x:=fun x hx=>by
  unfold tX at hx ⊢;rw [aH (dG hx h.lst fun z=>nomatch z)];exact hx
 refine ⟨by rw [aA,Eh],fun x hx=>?_⟩;rcases aDy.mp hx with z | z
 ·exact one x (h.at_ x z)
 ·rw [aDw.mp z]; exact one r hr
def fU (H:Hp)(p:Addr)(f:Rk.Fc):Prop:=H p=some (.tup [.int f.1,.int f.2])
structure SzS (a b c d:Int):Prop where
 a:intBits a<=4400
 b:intBits b<=4400
 c:intBits c<=4400
 d:intBits d<=4400
def pT (a b c d:Int):Int:=a*d+c*b
def mT (a b c d:Int):Int:=a*d-c*b
def tT (a _b c _d:Int):Int:=a*c
def pB (_a b _c d:Int):Int:=b*d
def Ag (K:PySem.W.Frag)(tp bt:Int->Int->Int->Int->Int):Sp:=fun vs H Q _=>∃ p q a b c d,vs=[.ref p,.ref q]/\cW K H p [.int a,.int b]/\cW K H q [.int c,.int d]/\SzS a b c d/\bt a b c d≠0 ∧
 ∀ r H',aU H H'->fU H' r (Fr.sh (tp a b c d) (bt a b c d))->Q (.ref r) H'
def Vc (K:PySem.W.Frag):Sp:=fun vs H Q _=>∃ p q a b c d,vs=[.ref p,.ref q]/\cW K H p [.int a,.int b]/\cW K H q [.int c,.int d]/\Sz a b c d/\(a*d<c*b->Q (.ref q) H)/\(¬ a*d<c*b->Q (.ref p) H)
def Ik:Sp:=fun vs H Q _=>∃ i:Int,vs=[.int i]/\∀ p H',aU H H'->fU H' p (i,1)->Q (.ref p) H'
theorem iR {K:PySem.W.Frag}{H:Hp}{p:Addr}{f:Rk.Fc}(h:fU H p f):cW K H p [.int f.1,.int f.2]:=cW.of h
end TD
namespace Rk
def v (p:Fc):Rat:=(p.1:Rat)/(p.2:Rat)
theorem gZ {b:Int}(h:b≠0):(b:Rat)≠0:=by exact_mod_cast h
theorem MJ {a b c d:Int}(hb:b≠0)(hd:d≠0):(a:Rat)/b=(c:Rat)/d↔a*d=c*b:=by
 have hb':=gZ hb;have hd':=gZ hd;constructor
 ·intro h;have h':(a:Rat)*d=c*b:=by grind
  exact_mod_cast h'
 ·intro h;have h':(a:Rat)*d=c*b:=by exact_mod_cast h
  grind
theorem WY {t b:Int}(hb:b≠0):v (Fr.sh t b)=(t:Rat)/b :=
 (MJ (aDD (Fr.lX hb)) hb).mpr (Fr.J2 t b)
theorem Vf {p q:Fc}(hp:Fr.lQ p.1 p.2)(hq:Fr.lQ q.1 q.2)(e:v p=v q):p=q:=by
 obtain ⟨a,b⟩:=Fr.unique hp hq ((MJ (aDD hp.pos) (aDD hq.pos)).mp e);exact Prod.ext a b
theorem Ln (i:Int):v (i,1)=(i:Rat):=by
 unfold v;have:((1:Int):Rat)=1:=by norm_cast
 grind
end Rk
namespace TD
open PySem L2
open Builtin.Int (intBits)
theorem vX {i:Nat}{v:V}{τ:St}{H:Hp}{A B:St->Hp->Prop}(h:A (τ.set i (some v)) H):mL i v τ H (fun τ2 H2=>Qm τ2 H2 (fun b H3=>if b=true then A τ2 H3 else B τ2 H3)):=dU (τ:=τ.set i (some v)) (A:=A (τ.set i (some v))) (B:=B (τ.set i (some v))) h
theorem Ox {m b:Int}(hb:0<b)(h:b∣m):((m.fdiv b:Int):Rat)=(m:Rat)/(b:Rat):=by
 obtain ⟨c,rfl⟩:=h;rw [aEK c (aDD hb)];have hb':=Rk.gZ (aDD hb)
 push_cast
 grind
end TD
namespace Lg
open Rk TD
open PySem.Builtin.Int (intBits)
theorem lU {t b:Int}{x y:Nat}(hb:b≠0)(h1:intBits t<=x)(h2:intBits b<=y):intBits (Fr.sh t b).1<=x/\intBits (Fr.sh t b).2<=y :=
 ⟨PySem.intBits_le_of_natAbs (Fr.Qk hb) h1,PySem.intBits_le_of_natAbs (Fr.Rj hb) h2⟩
structure Fb (f:Fc)(x y:Nat):Prop where
 pos:0<f.2
 t:intBits f.1<=x
 b:intBits f.2<=y
theorem Fb.le {f:Fc}{x y x' y':Nat}(h:Fb f x y)(h1:x<=x')(h2:y<=y'):Fb f x' y':=⟨h.pos,aDh h.t h1,aDh h.b h2⟩
theorem Fb.ti {f g:Fc}{x y z w:Nat}(h:Fb f x y)(k:Fb g z w):Fb (ti f g) (x+z) (y+w):=by
 have hb:f.2*g.2≠0:=aDD (aD1 h.pos k.pos);have z2:=lU hb (PySem.intBits_mul_le h.t k.t) (PySem.intBits_mul_le h.b k.b);exact ⟨Fr.lX hb,z2.1,z2.2⟩
theorem xU:Fb ((1:Int),(1:Int)) 1 1:=⟨by decide,by decide,by decide⟩
theorem Jy:Fb ((0:Int),(1:Int)) 1 1:=⟨by decide,by decide,by decide⟩
theorem v0:v (0,1)=0:=by rw [Ln]; rfl
theorem v1:v (1,1)=1:=by rw [Ln]; rfl
end Lg
namespace Of
open Rk TD
open PySem.Builtin.Int (intBits)
abbrev Tab:=List (Int×Int)
structure GT (T:Tab):Prop where
 ne:T≠[]
 len:T.length<=8
 v:∀ r∈T,0<=r.1/\r.1<=1000000000
 w:∀ r∈T,1<=r.2/\r.2<=8000
def W (T:Tab):Int:=(T.map (·.2)).sum
def yD (T:Tab)(f:Fc):Int:=(T.map fun r=>r.2*(if f.1 > r.1*f.2 then f.1 else r.1*f.2)).sum
def lV (T:Tab)(f:Fc):Fc:=Fr.sh (yD T f) (W T*f.2)
def JV:List Tab->List Fc
 | []=>[(0,1)]
 | T::Ts=>lV T (hd (JV Ts))::JV Ts
def Et (rs:List (Fc×Int)):Int:=jK (rs.map fun r=>r.1.2)
def Ek (rs:List (Fc×Int))(w:Int):Fc:=Fr.sh ((rs.map fun r=>r.2*r.1.1*(Et rs).fdiv r.1.2).sum) (Et rs*w)
def lY (T:Tab)(f:Fc):List (Fc×Int):=T.map fun r=>(gr (r.1,1) f,r.2)
theorem Uw {T:Tab}(h:∀ r∈T,1<=r.2):(T.length:Int)<=W T:=by
 unfold W
 induction T with
 | nil=>simp
 | cons r T ih =>
  have a:=ih fun x hx=>h x (aDk _ hx);have b:=h r aDj;simp only [aDE,aD9,aDF];omega
theorem Kd {T:Tab}(h:∀ r∈T,r.2<=8000):W T<=8000*(T.length:Int):=by
 unfold W
 induction T with
 | nil=>simp
 | cons r T ih =>
  have a:=ih fun x hx=>h x (aDk _ hx);have b:=h r aDj;simp only [aDE,aD9,aDF];omega
theorem GT.W1 {T:Tab}(g:GT T):1<=W T/\W T<=64000:=by
 have a:=Uw fun r hr=>(g.w r hr).1;have b:=Kd fun r hr=>(g.w r hr).2;have c:=g.len;have d:0<T.length:=aDT.mpr g.ne;omega
theorem NT {m:Int}(hm:0<m):∀ rs:List (Fc×Int),(∀ r∈rs,0<r.1.2/\r.1.2∣m)->(((rs.map fun r=>r.2*r.1.1*m.fdiv r.1.2).sum:Int):Rat)/(m:Rat)=(rs.map fun r=>(r.2:Rat)*v r.1).sum
 | [],_=>by simp; grind
 | r::rs,h=>by
  have ih:=NT hm rs fun g hg=>h g (aDk _ hg);obtain ⟨a,b⟩:=h r aDj;simp only [aDE,aD9];rw [<- ih];have hm':=gZ (aDD hm);have hf':=gZ (aDD a);unfold v
  push_cast
  rw [Ox a b]
  grind
theorem GR {rs:List (Fc×Int)}(h:∀ r∈rs,0<r.1.2):0<Et rs/\∀ r∈rs,r.1.2∣Et rs:=by
 obtain ⟨a,b⟩:=pW (ns:=rs.map fun r=>r.1.2) fun n hn=>by
  obtain ⟨f,hf,rfl⟩:=aDg.mp hn;exact h f hf
 exact ⟨a,fun f hf=>b _ (aDg.mpr ⟨f,hf,rfl⟩)⟩
theorem V8 {rs:List (Fc×Int)}{w:Int}(h:∀ r∈rs,0<r.1.2)(hw:0<w):v (Ek rs w)=(rs.map fun r=>(r.2:Rat)*v r.1).sum/(w:Rat):=by
 obtain ⟨a,b⟩:=GR h;unfold Ek;rw [WY (aDD (aD1 a hw)),<- NT a rs fun r hr=>⟨h r hr,b r hr⟩];have ha':=gZ (aDD a);have hw':=gZ (aDD hw)
 push_cast
 grind
theorem R9 {rs:List (Fc×Int)}{w:Int}(h:∀ r∈rs,0<r.1.2)(hw:0<w):Fr.lQ (Ek rs w).1 (Ek rs w).2:=Fr.M3 (aDD (aD1 (GR h).1 hw))
theorem La {f:Fc}(hf:0<f.2):∀ T:Tab,((yD T f:Int):Rat)/(f.2:Rat)=((lY T f).map fun r=>(r.2:Rat)*v r.1).sum
 | []=>by unfold yD lY; simp; grind
 | r::T=>by
  have ih:=La hf T;have hf':=gZ (aDD hf);unfold yD lY at ih ⊢;simp only [aDE,aD9];rw [<- ih]
  by_cases c:f.1 > r.1*f.2
  ·have e:gr (r.1,1) f=f:=if_pos (show lt (r.1,1) f=true from decide_eq_true (show r.1*f.2<f.1*1 by omega));rw [if_pos c,e];unfold v
   push_cast
   grind
  ·have e:gr (r.1,1) f=(r.1,1):=if_neg (show ¬ lt (r.1,1) f=true by unfold lt; rw [decide_eq_false (show ¬ r.1*f.2<f.1*1 by omega)]; exact aDC);rw [if_neg c,e,Ln]
   push_cast
   grind
theorem V5 {T:Tab}{f:Fc}(g:GT T)(hf:0<f.2):Ek (lY T f) (W T)=lV T f:=by
 have hw:0<W T:=by have:=g.W1; omega
 have hp:∀ r∈lY T f,0<r.1.2:=fun r hr=>by
  obtain ⟨x,hx,rfl⟩:=aDg.mp hr;show 0<(gr (x.1,1) f).2;unfold gr
  split
  ·exact hf
  ·show (0:Int)<1; decide
 refine Vf (R9 hp hw) (Fr.M3 (aDD (aD1 hw hf))) ?_;unfold lV;rw [V8 hp hw,WY (aDD (aD1 hw hf)),<- La hf];have hf':=gZ (aDD hf);have hw':=gZ (aDD hw)
 push_cast
 grind
open Lg (Fb)
theorem Gh {k:Nat}:∀ l:List Int,(∀ x∈l,intBits x<=k)->l.sum.natAbs<=l.length*2^k
 | [],_=>by simp
 | x::l,h=>by
  have a:=Gh l fun y hy=>h y (aDk _ hy);have b:=PySem.intBits_le_iff.mp (h x aDj);simp only [aD9,aDF];have c:=Int.natAbs_add_le x l.sum;rw [Nat.add_mul,Nat.one_mul];omega
theorem YL {k:Nat}{l:List Int}(hl:l.length<=8)(h:∀ x∈l,intBits x<=k):intBits l.sum<=k+4:=by
 refine PySem.intBits_le_iff.mpr ?_;have a:=Gh l h;have b:l.length*2^k<=8*2^k:=Nat.mul_le_mul_right _ hl;have c:8*2^k<2^(k+4):=by
  rw [Nat.pow_add];have:0<2^k:=aF5 k;omega
 omega
theorem uH {x:Int}{k:Nat}(h1:-(2^k:Int)<x)(h2:x<2^k):intBits x<=k:=by
 refine PySem.intBits_le_iff.mpr ?_;have:((x.natAbs:Nat):Int)<((2^k:Nat):Int):=by push_cast; omega
 omega
theorem GT.wb {T:Tab}(g:GT T):intBits (W T)<=16:=by
 have:=g.W1;exact uH (by omega) (by omega)
theorem GT.vb {T:Tab}(g:GT T){r:Int×Int}(hr:r∈T):intBits r.1<=30/\intBits r.2<=13:=by
 have a:=g.v r hr;have b:=g.w r hr;exact ⟨uH (by omega) (by omega),uH (by omega) (by omega)⟩
theorem PX {T:Tab}{f:Fc}{x y:Nat}(g:GT T)(h:Fb f x y):intBits (yD T f)<=max x (30+y)+17:=by
 unfold yD;refine aDh (YL (k:=13+max x (30+y)) (by rw [aDe]; exact g.len) fun z hz=>?_) (by omega);obtain ⟨r,hr,rfl⟩:=aDg.mp hz;obtain ⟨a,b⟩:=g.vb hr;refine PySem.intBits_mul_le b ?_
 split
 ·exact aDh h.t (by omega)
 ·exact aDh (PySem.intBits_mul_le a h.b) (by omega)
theorem Jo {T:Tab}{f:Fc}{x y:Nat}(g:GT T)(h:Fb f x y):Fb (lV T f) (max x (30+y)+17) (16+y):=by
 have hw:0<W T:=by have:=g.W1; omega
 have hb:W T*f.2≠0:=aDD (aD1 hw h.pos);have z:=Lg.lU hb (PX g h) (PySem.intBits_mul_le g.wb h.b);exact ⟨Fr.lX hb,z.1,z.2⟩
theorem Pr:∀ Ts:List Tab,(∀ T∈Ts,GT T)->Fb (hd (JV Ts)) (17*Ts.length+48) (16*Ts.length+1)
 | [],_=>Lg.Jy.le (by omega) (by omega)
 | T::Ts,h=>by
  have a:=Pr Ts fun y hy=>h y (aDk _ hy);have b:=Jo (h T aDj) a;simp only [aDF];exact b.le (by omega) (by omega)
end Of
namespace Of
open Rk TD
open Lg (Fb)
open PySem.Builtin.Int (intBits)
theorem Fb.mi1 {f:Fc}{x y n:Nat}(h:Fb f x y)(h1:y+2<=n)(h2:x+2<=n):Fb (mi (1,1) f) n (y+1):=by
 have hb:(1:Int)*f.2≠0:=aDD (aD1 (by decide) h.pos);have e:(1:Int)*f.2-f.1*1=f.2 + -f.1:=by omega
 have z:=Lg.lU (t:=1*f.2-f.1*1) (x:=n) (y:=y+1) hb (by
  rw [e];have a:=h.b;have b:=h.t;have c:intBits (-f.1)<=x:=PySem.intBits_le_iff.mpr (by rw [Int.natAbs_neg]; exact PySem.intBits_le_iff.mp b);have d:=PySem.intBits_add_le (aDh a (by omega:y<=n-1)) (aDh c (by omega:x<=n-1));omega) (by
  rw [aF4];exact aDh h.b (by omega))
 exact ⟨Fr.lX hb,z.1,z.2⟩
end Of
namespace L2
open PySem PySem.Spec PyProof.Rows
def cSq (tp:Bool):String:=if tp then "tuple" else "list"
def Xg (tp:Bool):String:=if tp then "tuple_iterator" else "list_iterator"
def fJ (tp:Bool)(h:Heap)(l:Addr)(its:Array Value):Prop:=∃ o,h.get? l=some o/\o.cls=.type (cSq tp)/\∃ n,o.data=.seq its n
def lJ (tp:Bool)(h:Heap)(it l:Addr)(i:Nat):Prop:=∃ o,h.get? it=some o/\o.cls=.type (Xg tp)/\o.data=.fields #[.ref l,.int i 0]
theorem fJ.keep {tp:Bool}{h h':Heap}{l:Addr}{its:Array Value}(x:fJ tp h l its)(k:∀ o,h.get? l=some o->h'.get? l=some o):fJ tp h' l its:=let ⟨o,e,r⟩:=x; ⟨o,k o e,r⟩
theorem lJ.keep {tp:Bool}{h h':Heap}{it l:Addr}{i:Nat}(x:lJ tp h it l i)(k:∀ o,h.get? it=some o->h'.get? it=some o):lJ tp h' it l i:=let ⟨o,e,r⟩:=x; ⟨o,k o e,r⟩
theorem fJ.lt {tp:Bool}{h:Heap}{l:Addr}{its:Array Value}(x:fJ tp h l its):l<h.objs.size:=let ⟨_,e,_⟩:=x; aDv e
def Hy (tp:Bool)(K:PySem.W.Frag)(H:Hp)(a:Addr)(xs:List V):Prop:=match tp with | true=>cW K H a xs | false=>bB K H a xs
section
variable {X:Cx}{pins:List (Addr×Obj)}{σ:St}{H:Hp}{s:Shared}
theorem aQ.sqk {tp:Bool}{a:Addr}{xs:List V}(I:aQ X pins σ H s)(h:Hy tp X.K H a xs):∃ its:List Value,bV xs its/\fJ tp s.heap a its.toArray/\xs.length<=sizeLine:=by
 cases tp
 ·obtain ⟨its,r,pl,z⟩:=I.list h;exact ⟨its,r,pl.isList,z⟩
 ·obtain ⟨its,r,pl,z⟩:=I.tuple h;exact ⟨its,r,pl,z⟩
theorem aQ.sqk_inj {tp:Bool}{a:Addr}{xs ys:List V}(I:aQ X pins σ H s)(h:Hy tp X.K H a xs)(g:Hy tp X.K H a ys):xs=ys:=by
 cases tp
 ·exact I.list_inj h g
 ·exact I.tuple_inj h g
end
section
variable {prog:Program}{w:World}{A:Around}{E:Value->Shared->Prop}{s:Shared}
theorem uB {tp:Bool}{l:Addr}{its:Array Value}{Q:Value->Shared->Prop}(x:fJ tp s.heap l its)
  (q:Q (.ref s.heap.objs.size) { s with heap:=s.heap.push { cls:=.type (Xg tp),data:=.fields #[.ref l,.int 0 0] } }):wpAny (model prog w) A (pyIter (.ref l)) Q E s:=by
 cases tp
 ·exact wpAny_pyIter_list (items:=its) x q
 ·exact iter_tuple (items:=its) x q
theorem uF {tp:Bool}{it l:Addr}{i:Nat}{its:Array Value}{v:Value}{Q:Value->Shared->Prop}(hi:lJ tp s.heap it l i)(hl:fJ tp s.heap l its)(hv:its[i]? = some v)
  (q:∀ h',lJ tp h' it l (i+1)->aDL it s.heap h'->Q v { s with heap:=h' }):wpAny (model prog w) A (Builtin.SmallTypes.nextOf (.ref it)) Q E s:=by
 cases tp
 ·exact wpAny_nextOf_list_item (l:=l) (items:=its) hi hl hv q
 ·have ti:s.TypeIs (.ref it) "tuple_iterator":=IsTupIter.typeIs (t:=l) (i:=i) hi;obtain ⟨o,ho,hc,hd⟩:=id hi;obtain ⟨p,hp,_,m,hm⟩:=hl;unfold Builtin.SmallTypes.nextOf;refine wpAny_bind (wpAny_callSpecial?_slot (name:=Str.ofString "__next__") ti slot_tupleiter_next (wpAny_call_entry slot_tupleiter_next ti entry_tupleiter_next ?_ (args_tupleiter_next _)));show wpAny _ _ (field (.ref it) 0 >>= _) _ _ s;refine wpAny_bind (wpAny_field ho hd (x:=.ref l) rfl ?_);show wpAny _ _ (if (Value.ref l==Value.none)=true then _ else _) _ _ s;rw [if_neg (show ¬ ((Value.ref l==Value.none)=true) from aDC)];show wpAny _ _ (field (.ref it) 1 >>= _) _ _ s;refine wpAny_bind (wpAny_field ho hd (x:=.int i 0) rfl ?_);show wpAny _ _ (seqItems? (.ref l) >>= _) _ _ s;refine wpAny_bind (wpAny_seqItems hp hm ?_);simp only [aEr,hv];refine wpAny_bind (wpAny_setField ho hd (by simp) (wpAny_pure ⟨v,rfl,wpAny_pure (q _ ?_ (aDL.update ..))⟩));exact ⟨_,aEn _ ho (Obj.isFreed_of_fields (Obj.data_mapFields hd _)),(Obj.cls_mapFields ..).trans hc,by rw [Obj.data_mapFields hd]; simp [rawInt]⟩
theorem zY {tp:Bool}{it l:Addr}{i:Nat}{its:Array Value}{Q:Value->Shared->Prop}(hh:A.handled=none)(hi:lJ tp s.heap it l i)(hl:fJ tp s.heap l its)(hv:its[i]? = none)
  (q:∀ h' e,aF3 it s.heap h'->(∃ o,h'.get? e=some o/\o.cls=.type "StopIteration")->E (.ref e) { s with heap:=h' }):wpAny (model prog w) A (Builtin.SmallTypes.nextOf (.ref it)) Q E s:=by
 cases tp
 ·exact wpAny_nextOf_list_end (l:=l) (items:=its) hh hi hl hv q
 ·have ti:s.TypeIs (.ref it) "tuple_iterator":=IsTupIter.typeIs (t:=l) (i:=i) hi;obtain ⟨o,ho,hc,hd⟩:=id hi;obtain ⟨p,hp,_,m,hm⟩:=hl;unfold Builtin.SmallTypes.nextOf;refine wpAny_bind (wpAny_callSpecial?_slot (name:=Str.ofString "__next__") ti slot_tupleiter_next (wpAny_call_entry slot_tupleiter_next ti entry_tupleiter_next ?_ (args_tupleiter_next _)));show wpAny _ _ (field (.ref it) 0 >>= _) _ _ s;refine wpAny_bind (wpAny_field ho hd (x:=.ref l) rfl ?_);show wpAny _ _ (if (Value.ref l==Value.none)=true then _ else _) _ _ s;rw [if_neg (show ¬ ((Value.ref l==Value.none)=true) from aDC)];show wpAny _ _ (field (.ref it) 1 >>= _) _ _ s;refine wpAny_bind (wpAny_field ho hd (x:=.int i 0) rfl ?_);show wpAny _ _ (seqItems? (.ref l) >>= _) _ _ s;refine wpAny_bind (wpAny_seqItems hp hm ?_);simp only [aEr,hv];refine wpAny_bind (wpAny_rule (wpAny_bind (wpAny_setField ho hd (by simp) ?_)));show wpAny _ _ (newExc (.type "StopIteration") [] >>= _) _ _ _;refine wpAny_bind ?_;simp only [newExc,newTuple];refine wpAny_bind (wpAny_newObj_type ?_ (by size_fits));refine wpAny_bind (m:=firstArgMember _ _) (wpAny_of_eq (a:=Value.none) (by first | rfl | (simp only [firstArgMember]; rfl)) ?_);refine wpAny_newObj_type ?_ (by size_fits);simp only [raiseNew];refine wpAny_bind (wpAny_handled ?_)
  first | rw [show A.in1.handled=none from hh] | rw [hh]
  refine wpAny_bind (wpAny_pure (wpAny_throw ?_));exact q _ _ (((aDL.update ..).extBut.push _).push _) ⟨_,aDt _ rfl,rfl⟩
end
structure S9 (p q:Bool)(h:Heap)(z ti to a b l m:Addr)(i:Nat):Prop where
 zip:IsZip h z ti to .none
 its:IsPair h ti (.ref a) (.ref b)
 own:∃ x y,IsPair h to x y
 one:lJ p h a l i
 two:lJ q h b m i
structure S7 (z ti to a b l m:Addr):Prop where
 tz:ti≠z
 oz:to≠z
 az:a≠z
 bz:b≠z
 ot:to≠ti
 ta:ti≠a
 tb:ti≠b
 oa:to≠a
 ob:to≠b
 ab:a≠b
 lz:l≠z
 lo:l≠to
 la:l≠a
 lb:l≠b
 mz:m≠z
 mo:m≠to
 ma:m≠a
 mb:m≠b
section
variable {prog:Program}{w:World}{A:Around}{E:Value->Shared->Prop}{s:Shared}{p q:Bool}{z ti to a b l m:Addr}{i:Nat}{xs ys:Array Value}
def CG (z to a b:Addr)(h h':Heap):Prop:=∀ c o,c≠z->c≠to->c≠a->c≠b->h.get? c=some o->h'.get? c=some o
theorem vA {x y v:Value}{k:Nat}{Q:Unit->Shared->Prop}(hT:IsPair s.heap to x y)
  (h:∀ h',h'.get? to=some { cls:=.type "tuple",data:=.seq ((#[x,y]:Array Value).setIfInBounds k v) }->aDL to s.heap h'->Q () { s with heap:=h' }) :
  wpAny (model prog w) A (updateSeq to (·.setIfInBounds k v)) Q E s:=wpAny_updateSeq_pair hT h
theorem Nr {x y:Value}{Q:Value->Shared->Prop}(N:S7 z ti to a b l m)(Z:S9 p q s.heap z ti to a b l m i)(hl:fJ p s.heap l xs)(hm:fJ q s.heap m ys)(hx:xs[i]? = some x)(hy:ys[i]? = some y)
  (k:∀ h',IsZip h' z ti to (rawInt s.heap.objs.size)->(∃ u v,IsPair h' to u v)->lJ p h' a l (i+1)->lJ q h' b m (i+1)->IsPair h' s.heap.objs.size x y->CG z to a b s.heap h'->Q (.ref s.heap.objs.size) { s with heap:=h' }) :
  wpAny (model prog w) A (Builtin.«zip.__next__» ⟨[.ref z],[]⟩) (fun fin s'=>∃ v,fin=.done (.ret v)/\Q v s') E s:=by
 obtain ⟨hz,ht,⟨u,v,ho⟩,h1,h2⟩:=Z;show wpAny _ _ (field (.ref z) 2 >>= _) _ _ _;refine wpAny_bind (wpAny_field hz rfl (x:=.bool false) rfl (show wpAny _ _ (field (.ref z) 3 >>= _) _ _ _ from wpAny_bind (wpAny_field hz rfl (x:=.ref ti) rfl (wpAny_bind (wpAny_seqItems ht rfl ?_)))));show wpAny _ _ (Builtin.SmallTypes.ownedTupleIsFree (.ref z) >>= _) _ _ _;unfold Builtin.SmallTypes.ownedTupleIsFree;refine wpAny_bind (wpAny_bind (wpAny_field hz rfl (x:=.none) rfl (wpAny_pure ?_)));rw [if_pos rfl];refine wpAny_bind (wpAny_rule (wpAny_bind (wpAny_field hz rfl (x:=.ref to) rfl (wpAny_bind (wpAny_setField_rec hz (by simp) fun k1 z1 e1=>?_)))));have z1:IsZip k1 z ti to .ellipsis:=z1;simp only [aF0,aF6,aFx,List.forIn_nil];refine wpAny_bind (wpAny_bind (wpAny_bind (wpAny_onRaise (show wpAny _ _ (Builtin.SmallTypes.nextOf (.ref a) >>= _) _ _ _ from wpAny_bind (uF (h1.keep fun o e=>e1.extBut _ _ N.az e) (hl.keep fun o e=>e1.extBut _ _ N.lz e) hx fun k2 a2 e2=>wpAny_pure ?_)))));have o2:IsPair k2 to u v:=e2.extBut _ _ N.oa (e1.extBut _ _ N.oz ho);refine wpAny_bind (wpAny_seqItems o2 rfl (wpAny_bind (vA o2 fun k3 o3 e3=>wpAny_bind (wpAny_letGo (wpAny_pure ?_)))));have o3:IsPair k3 to x v:=o3;have b3:lJ q k3 b m i:=h2.keep fun o e=>e3.extBut _ _ N.ob.symm (e2.extBut _ _ N.ab.symm (e1.extBut _ _ N.bz e));have m3:fJ q k3 m ys:=hm.keep fun o e=>e3.extBut _ _ N.mo (e2.extBut _ _ N.ma (e1.extBut _ _ N.mz e));refine wpAny_bind (wpAny_bind (wpAny_onRaise (show wpAny _ _ (Builtin.SmallTypes.nextOf (.ref b) >>= _) _ _ _ from wpAny_bind (uF b3 m3 hy fun k4 b4 e4=>wpAny_pure ?_))));have o4:IsPair k4 to x v:=e4.extBut _ _ N.ob o3;refine wpAny_bind (wpAny_seqItems o4 rfl (wpAny_bind (vA o4 fun k5 o5 e5=>wpAny_bind (wpAny_letGo (wpAny_pure (wpAny_pure ?_))))));have o5:IsPair k5 to x y:=o5;have sz:k5.objs.size=s.heap.objs.size:=by rw [e5.1,e4.1,e3.1,e2.1,e1.1]
 have z5:IsZip k5 z ti to .ellipsis:=e5.extBut _ _ N.oz.symm (e4.extBut _ _ N.bz.symm (e3.extBut _ _ N.oz.symm (e2.extBut _ _ N.az.symm z1)));have a5:lJ p k5 a l (i+1):=a2.keep fun o e=>e5.extBut _ _ N.oa.symm (e4.extBut _ _ N.ab (e3.extBut _ _ N.oa.symm e));have b5:lJ q k5 b m (i+1):=b4.keep fun o e=>e5.extBut _ _ N.ob.symm e;have zl:z<k5.objs.size:=aDv z5;refine wpAny_bind (wpAny_seqItems o5 rfl (wpAny_bind (wpAny_newTuple ?_)));show wpAny _ _ (Builtin.SmallTypes.ownedTupleHandOut (.ref z) (.ref k5.objs.size) >>= _) _ _ _;unfold Builtin.SmallTypes.ownedTupleHandOut;have z6:IsZip (k5.push { cls:=.type "tuple",data:=.seq #[x,y] }) z ti to .ellipsis:=aDf _ z5;refine wpAny_bind (wpAny_bind (wpAny_setField_rec z6 (by simp) fun k7 z7 e7=>?_));have z7:IsZip k7 z ti to (rawInt k5.objs.size):=z7;refine wpAny_setField_rec z7 (by simp) fun k8 z8 e8=>wpAny_pure ⟨_,rfl,?_⟩;have z8:IsZip k8 z ti to (rawInt k5.objs.size):=z8;have up:∀ c o,c≠z->k5.get? c=some o->k8.get? c=some o:=fun c o n e=>e8.extBut _ _ n (e7.extBut _ _ n (aDf _ e));have t8:IsPair k8 k5.objs.size x y:=e8.extBut _ _ (aEa zl) (e7.extBut _ _ (aEa zl) (aDt _ rfl));rw [sz] at z8 t8;show Q (.ref k5.objs.size) _;rw [sz];exact k k8 z8 ⟨_,_,up _ _ N.oz o5⟩ (a5.keep fun o e=>up _ o N.az e) (b5.keep fun o e=>up _ o N.bz e) t8 fun c o n1 n2 n3 n4 e=>up c o n1 (e5.extBut _ _ n2 (e4.extBut _ _ n4 (e3.extBut _ _ n2 (e2.extBut _ _ n3 (e1.extBut _ _ n1 e)))))
theorem RV {Q:Fin->Shared->Prop}(hh:A.handled=none)(N:S7 z ti to a b l m)(Z:S9 p q s.heap z ti to a b l m i)(hl:fJ p s.heap l xs)(hm:fJ q s.heap m ys)(hn:xs[i]? = none∨ys[i]? = none)
  (k:∀ h' e,CG z to a b s.heap h'->(∃ o,h'.get? e=some o/\o.cls=.type "StopIteration")->E (.ref e) { s with heap:=h' }):wpAny (model prog w) A (Builtin.«zip.__next__» ⟨[.ref z],[]⟩) Q E s:=by
 obtain ⟨hz,ht,⟨u,v,ho⟩,h1,h2⟩:=Z;show wpAny _ _ (field (.ref z) 2 >>= _) _ _ _;refine wpAny_bind (wpAny_field hz rfl (x:=.bool false) rfl (show wpAny _ _ (field (.ref z) 3 >>= _) _ _ _ from wpAny_bind (wpAny_field hz rfl (x:=.ref ti) rfl (wpAny_bind (wpAny_seqItems ht rfl ?_)))));show wpAny _ _ (Builtin.SmallTypes.ownedTupleIsFree (.ref z) >>= _) _ _ _;unfold Builtin.SmallTypes.ownedTupleIsFree;refine wpAny_bind (wpAny_bind (wpAny_field hz rfl (x:=.none) rfl (wpAny_pure ?_)));rw [if_pos rfl];refine wpAny_bind (wpAny_rule (wpAny_bind (wpAny_field hz rfl (x:=.ref to) rfl (wpAny_bind (wpAny_setField_rec hz (by simp) fun k1 z1 e1=>?_)))));have z1:IsZip k1 z ti to .ellipsis:=z1;simp only [aF0,aF6,aFx,List.forIn_nil];have a1:lJ p k1 a l i:=h1.keep fun o e=>e1.extBut _ _ N.az e;have l1:fJ p k1 l xs:=hl.keep fun o e=>e1.extBut _ _ N.lz e;have fin:∀ (k2:Heap) (e:Addr),IsZip k2 z ti to .ellipsis->CG z to a b s.heap k2->(∃ o,k2.get? e=some o/\o.cls=.type "StopIteration")->wpAny (model prog w) A (setField (.ref z) 0 .none) (fun _ s'=>E (.ref e) s') E { s with heap:=k2 }:=fun k2 e z2 kk he=>by
  obtain ⟨o,eo,co⟩:=he;have ne:e≠z:=fun x=>by subst x; rw [z2] at eo; cases eo; simp at co
  exact wpAny_setField_rec z2 (by simp) fun k3 _ e3=>k k3 e (fun c o n1 n2 n3 n4 x=>e3.extBut _ _ n1 (kk c o n1 n2 n3 n4 x)) ⟨o,e3.extBut _ _ ne eo,co⟩
 refine wpAny_bind (wpAny_bind (wpAny_bind (wpAny_onRaise ?_)));show wpAny _ _ (Builtin.SmallTypes.nextOf (.ref a) >>= _) _ _ _;cases hx:xs[i]? with
 | none=>exact wpAny_bind (zY hh a1 l1 hx fun k2 e e2 he=>fin k2 e (e2 _ _ N.az.symm z1) (fun c o n1 _ n3 _ x=>e2 _ _ n3 (e1.extBut _ _ n1 x)) he)
 | some x =>
  have hy:ys[i]? = none:=by rcases hn with h | h; rw [hx] at h; cases h; exact h
  refine wpAny_bind (uF a1 l1 hx fun k2 a2 e2=>wpAny_pure ?_);have o2:IsPair k2 to u v:=e2.extBut _ _ N.oa (e1.extBut _ _ N.oz ho);refine wpAny_bind (wpAny_seqItems o2 rfl (wpAny_bind (vA o2 fun k3 o3 e3=>wpAny_bind (wpAny_letGo (wpAny_pure ?_)))));have b3:lJ q k3 b m i:=h2.keep fun o e=>e3.extBut _ _ N.ob.symm (e2.extBut _ _ N.ab.symm (e1.extBut _ _ N.bz e));have m3:fJ q k3 m ys:=hm.keep fun o e=>e3.extBut _ _ N.mo (e2.extBut _ _ N.ma (e1.extBut _ _ N.mz e));refine wpAny_bind (wpAny_bind (wpAny_onRaise ?_));show wpAny _ _ (Builtin.SmallTypes.nextOf (.ref b) >>= _) _ _ _;exact wpAny_bind (zY hh b3 m3 hy fun k4 e e4 he=>fin k4 e (e4 _ _ N.bz.symm (e3.extBut _ _ N.oz.symm (e2.extBut _ _ N.az.symm z1))) (fun c o n1 n2 n3 n4 x=>e4 _ _ n4 (e3.extBut _ _ n2 (e2.extBut _ _ n3 (e1.extBut _ _ n1 x)))) he)
theorem Jx {x y:Value}{Q:Option Value->Shared->Prop}(N:S7 z ti to a b l m)(Z:S9 p q s.heap z ti to a b l m i)(hl:fJ p s.heap l xs)(hm:fJ q s.heap m ys)(hx:xs[i]? = some x)(hy:ys[i]? = some y)
  (k:∀ h',IsZip h' z ti to (rawInt s.heap.objs.size)->(∃ u v,IsPair h' to u v)->lJ p h' a l (i+1)->lJ q h' b m (i+1)->IsPair h' s.heap.objs.size x y->CG z to a b s.heap h'->Q (some (.ref s.heap.objs.size)) { s with heap:=h' }) :
  wpAny (model prog w) A (pyNext (.ref z)) Q E s:=by
 have t:s.TypeIs (.ref z) "zip":=⟨_,Z.zip,rfl⟩
 unfold pyNext;refine wpAny_bind (wpAny_attempt (wpAny_callSpecial?_slot (name:=Str.ofString "__next__") t F.slot_zip_next (wpAny_call_entry F.slot_zip_next t F.entry_zip_next ?_ (F.args_zip_next_1 _))));exact Nr N Z hl hm hx hy fun h' c1 c2 c3 c4 c5 c6=>wpAny_pure (k h' c1 c2 c3 c4 c5 c6)
theorem Lh {Q:Option Value->Shared->Prop}(hh:A.handled=none)(N:S7 z ti to a b l m)(Z:S9 p q s.heap z ti to a b l m i)(hl:fJ p s.heap l xs)(hm:fJ q s.heap m ys)(hn:xs[i]? = none∨ys[i]? = none)
  (k:∀ h',CG z to a b s.heap h'->Q none { s with heap:=h' }):wpAny (model prog w) A (pyNext (.ref z)) Q E s:=by
 have t:s.TypeIs (.ref z) "zip":=⟨_,Z.zip,rfl⟩
 unfold pyNext;refine wpAny_bind (wpAny_attempt (wpAny_callSpecial?_slot (name:=Str.ofString "__next__") t F.slot_zip_next (wpAny_call_entry F.slot_zip_next t F.entry_zip_next ?_ (F.args_zip_next_1 _))));refine RV hh N Z hl hm hn fun h' e kk he=>?_;obtain ⟨o,eo,co⟩:=he;exact wpAny_bind (wpAny_isInstance (T:="StopIteration") (b:=true) ⟨o,eo,co⟩ isSubtype_stop (wpAny_pure (k _ kk)))
end
def qG (tp:Bool)(l:Addr):Obj:={ cls:=.type (Xg tp),data:=.fields #[.ref l,.int 0 0] }
def zA (p q:Bool)(h:Heap)(l m:Addr):Heap:=(h.push (qG p l)).push (qG q m)
def zB (p q:Bool)(h:Heap)(l m:Addr):Heap:=((zA p q h l m).push { cls:=.type "tuple",data:=.seq #[.ref h.objs.size,.ref (h.push (qG p l)).objs.size] }).push { cls:=.type "tuple",data:=.seq #[.none,.none] }
def zC (p q:Bool)(h:Heap)(l m:Addr):Heap:=(zB p q h l m).push { cls:=.type "zip",data:=.fields #[.none,.bool false,.bool false,.ref (zA p q h l m).objs.size,.ref ((zA p q h l m).push { cls:=.type "tuple",data:=.seq #[.ref h.objs.size,.ref (h.push (qG p l)).objs.size] }).objs.size] }
theorem fJ.push {tp:Bool}{h:Heap}{l:Addr}{its:Array Value}(x:fJ tp h l its)(o:Obj):fJ tp (h.push o) l its:=x.keep fun _ e=>aDf _ e
theorem Kf (p q:Bool)(l m:Addr)(xs ys:Array Value) :
  Meets (Builtin.«zip.__new__» ⟨[.type "zip",.ref l,.ref m],[]⟩) (fun _ R s=>fJ p s.heap l xs/\fJ q s.heap m ys/\R (.ok (.ret (.ref (zB p q s.heap l m).objs.size))) { s with heap:=zC p q s.heap l m }) :=
 .of_wp fun prog w A R s h=>by
  obtain ⟨hp,g,d,tk,os⟩:=s;obtain ⟨h1,h2,h⟩:=h;have hsub:=sub_zip;have k1:fJ p (Shared.heap ⟨hp,g,d,tk,os⟩) l xs:=h1;have k2:fJ q (Shared.heap ⟨hp.push { cls:=.type (Xg p),data:=.fields #[.ref l,.int 0 0] },g,d,tk,os⟩) m ys:=fJ.push h2 _
  wp_walk using uB k1,uB k2
  exact ⟨_,rfl,h⟩
section
variable {prog:Program}{w:World}{A:Around}{E:Value->Shared->Prop}{s:Shared}{p q:Bool}{l m:Addr}{xs ys:Array Value}
theorem Je {Q:Value->Shared->Prop}(h1:fJ p s.heap l xs)(h2:fJ q s.heap m ys)
  (k:∀ h',S9 p q h' (s.heap.objs.size+4) (s.heap.objs.size+2) (s.heap.objs.size+3) s.heap.objs.size (s.heap.objs.size+1) l m 0->(∀ c o,s.heap.get? c=some o->h'.get? c=some o)->Q (.ref (s.heap.objs.size+4)) { s with heap:=h' }) :
  wpAny (model prog w) A (call (.type "zip") [.ref l,.ref m]) Q E s:=by
 refine callType_new F.called_zip (by decide) (F.typeCall_zip_2 _ _) (F.newCall_zip_2 _ _) (fun obj=>F.args_object_init_3 obj _ _) F.entry_zip_new (Kf p q l m xs ys) ⟨h1,h2,?_⟩;have n1:(s.heap.push (qG p l)).objs.size=s.heap.objs.size+1:=aEb ..;have n2:(zA p q s.heap l m).objs.size=s.heap.objs.size+2:=by unfold zA; rw [aEb,n1]
 have n4:(zB p q s.heap l m).objs.size=s.heap.objs.size+4:=by unfold zB; rw [aEb,aEb,n2]
 have e5:(zC p q s.heap l m).get? (zB p q s.heap l m).objs.size=some _:=aDt _ rfl;have e4:(zC p q s.heap l m).get? ((zA p q s.heap l m).push { cls:=.type "tuple",data:=.seq #[.ref s.heap.objs.size,.ref (s.heap.push (qG p l)).objs.size] }).objs.size=some _:=aDf _ (aDt _ rfl);have e3:(zC p q s.heap l m).get? (zA p q s.heap l m).objs.size=some _:=aDf _ (aDf _ (aDt _ rfl));have e2:(zC p q s.heap l m).get? (s.heap.push (qG p l)).objs.size=some (qG q m):=aDf _ (aDf _ (aDf _ (aDt _ rfl)));have e1:(zC p q s.heap l m).get? s.heap.objs.size=some (qG p l):=aDf _ (aDf _ (aDf _ (aDf _ (aDt _ rfl))));rw [aEb,n2] at e4;rw [n2,n1] at e3;rw [n1] at e2;rw [aEb,n4,n2] at e5;show _/\_;rw [n4];exact ⟨⟨_,e5,rfl⟩,k _ ⟨e5,e3,⟨_,_,e4⟩,⟨_,e1,rfl,rfl⟩,⟨_,e2,rfl,rfl⟩⟩ fun c o e=>aDf _ (aDf _ (aDf _ (aDf _ (aDf _ e))))⟩
end
section
variable {X:Cx}
def Qo (p q:Bool)(K:PySem.W.Frag)(l m:Addr):It :=
 ⟨fun i H=>∃ xs ys x y,Hy p K H l xs/\Hy q K H m ys/\xs[i]? = some x/\ys[i]? = some y,
  fun i H v H'=>∃ x y T,H T=none/\v=.ref T/\H'=aM H T (.tup [x,y])/\(∀ xs,Hy p K H l xs->xs[i]? = some x)/\∀ ys,Hy q K H m ys->ys[i]? = some y,
  fun i H=>∃ xs ys,Hy p K H l xs/\Hy q K H m ys/\(xs.length<=i∨ys.length<=i)⟩
theorem VM {z ti to a b c:Addr}(hc:c∈[z,to,a,b]):c∈[z,ti,to,a,b]:=by
 simp only [aDA,aDJ,or_false] at hc ⊢;rcases hc with e | e | e | e
 ·exact .inl e
 ·exact .inr (.inr (.inl e))
 ·exact .inr (.inr (.inr (.inl e)))
 ·exact .inr (.inr (.inr (.inr e)))
theorem PP {P:Program}{w:World}{K:PySem.W.Frag}{p q:Bool}{elts:List Expr}{kk:Nat}{tpos:Pos}{z ti to a b l m:Addr}(N:S7 z ti to a b l m) :
  Turn P w K (.Tuple elts kk tpos) (Qo p q K l m) [z,ti,to,a,b] z (fun i h=>S9 p q h z ti to a b l m i) where
 mem:=by simp
 obj:=fun i h Z c hc=>by
  obtain ⟨hz,ht,⟨x,y,ho⟩,⟨o1,e1,c1,d1⟩,⟨o2,e2,c2,d2⟩⟩:=Z;simp only [aDA,aDJ,or_false] at hc;rcases hc with rfl | rfl | rfl | rfl | rfl
  ·exact ⟨_,hz,fun v z=>nomatch z⟩
  ·exact ⟨_,ht,fun v z=>nomatch z⟩
  ·exact ⟨_,ho,fun v z=>nomatch z⟩
  ·exact ⟨_,e1,fun v z=>by rw [d1] at z; cases z⟩
  ·exact ⟨_,e2,fun v z=>by rw [d2] at z; cases z⟩
 keep:=fun i h h' Z k=>by
  obtain ⟨hz,ht,⟨x,y,ho⟩,h1,h2⟩:=Z;exact ⟨k z (by simp) _ hz,k ti (by simp) _ ht,⟨x,y,k to (by simp) _ ho⟩,h1.keep fun o e=>k a (by simp) o e,h2.keep fun o e=>k b (by simp) o e⟩
 item:=by
  intro X hP hw hK hc i pins s σ H E I hf Z hg;subst hP hw hK;obtain ⟨xs,ys,x,y,hl,hm,hx,hy⟩:=hg;obtain ⟨its,rv,pl,_⟩:=I.sqk hl;obtain ⟨its2,rv2,pl2,_⟩:=I.sqk hm;obtain ⟨u,hu,ru⟩:=rv.get hx;obtain ⟨u2,hu2,ru2⟩:=rv2.get hy;refine Jx (x:=u) (y:=u2) N Z pl pl2 (by simpa using hu) (by simpa using hu2) fun h' g1 g2 g3 g4 g5 g6=>?_;refine ⟨_,rfl,?_⟩;refine wpAny_letOwnedTupleGo_zip (s:={ s with heap:=h' }) g1 fun h2 z2 e2=>?_;have ne:∀ {c o},s.heap.get? c=some o->s.heap.objs.size≠c:=fun e=>aEa (aDv e);have hT:IsPair h2 s.heap.objs.size u u2:=e2.extBut _ _ (ne Z.zip) g5;have fr:H s.heap.objs.size=none:=I.hok.fresh (aDn _);obtain ⟨x',y',g2⟩:=g2;refine ⟨.ref s.heap.objs.size,aM H s.heap.objs.size (.tup [x,y]),?_,rfl,⟨x,y,_,fr,rfl,rfl,fun zs h=>by rw [I.sqk_inj h hl]; exact hx,fun zs h=>by rw [I.sqk_inj h hm]; exact hy⟩,⟨z2,?_,⟨x',y',e2.extBut _ _ N.oz g2⟩,?_,?_⟩,fun c hc=>?_⟩
  ·refine I.turnedLaid (t':=s.toks) (ch:=[z,to,a,b]) (fun c hc=>hf c (VM hc)) (fun c o hc e=>?_) (aDn _) ⟨aDO (aN (show 2<=1000 by decide)),[u,u2],.cons ru (.cons ru2 .nil),_,hT,rfl,_,rfl⟩;simp only [aDA,aDJ,or_false,not_or] at hc;exact e2.extBut _ _ hc.1 (g6 c o hc.1 hc.2.1 hc.2.2.1 hc.2.2.2 e)
  ·exact e2.extBut _ _ N.tz (g6 _ _ N.tz N.ot.symm N.ta N.tb Z.its)
  ·exact g3.keep fun o e=>e2.extBut _ _ N.az e
  ·exact g4.keep fun o e=>e2.extBut _ _ N.bz e
  ·have lt:c≠s.heap.objs.size:=fun e=>by
    obtain ⟨hz,ht,⟨x,y,ho⟩,⟨o1,e1,_⟩,⟨o2,e3,_⟩⟩:=Z;simp only [aDA,aDJ,or_false] at hc;rcases hc with rfl | rfl | rfl | rfl | rfl
    ·exact ne hz e.symm
    ·exact ne ht e.symm
    ·exact ne ho e.symm
    ·exact ne e1 e.symm
    ·exact ne e3 e.symm
   rw [aH lt];exact (hf c hc).1
 done:=by
  intro X hP hw hK hc i pins s σ H E I hf Z hg;subst hP hw hK;obtain ⟨xs,ys,hl,hm,hx⟩:=hg;obtain ⟨its,rv,pl,_⟩:=I.sqk hl;obtain ⟨its2,rv2,pl2,_⟩:=I.sqk hm;have l1:=rv.length;have l2:=rv2.length;refine Lh (I.ok.hd hc) N Z pl pl2 ?_ fun h' g=>⟨rfl,I.turnedN (t':=s.toks) (ch:=[z,to,a,b]) (fun c hc=>hf c (VM hc)) fun c o hc e=>?_⟩
  ·rcases hx with hx | hx
   ·exact .inl (by simp; omega)
   ·exact .inr (by simp; omega)
  ·simp only [aDA,aDJ,or_false,not_or] at hc;exact g c o hc.1 hc.2.1 hc.2.2.1 hc.2.2.2 e
 self:=fun _ _ _ _ _ Z h=>wpAny_pyIter_zip Z.zip h
def Uz (p q:Bool)(K:PySem.W.Frag)(ta:TA):TI:=fun σ H R=>ta σ H fun vs H1=>∃ l m xs ys,vs=[.ref l,.ref m]/\Hy p K H1 l xs/\Hy q K H1 m ys/\R (Qo p q K l m) H1
theorem Od (n l m:Nat)(h1:l<n)(h2:m<n):S7 (n+4) (n+2) (n+3) n (n+1) l m:=by constructor <;> (show (_:Nat)≠_; omega)
theorem Nx {a b:Expr}{ta:TA}{p q:Bool}{pp pos tpos:Pos}{elts:List Expr}{kk:Nat}(hg:Gl X "zip")(hm:X.mg "zip" = none)(ha:PA X [a,b] ta)(hs:starEach [a,b] X.env=[(false,eval a X.env),(false,eval b X.env)]:=by rfl)(hs2:starEach [b] X.env=[(false,eval b X.env)]:=by rfl) :
  PI X (.Tuple elts kk tpos) (.Call (.Name "zip" pp) [a,b] [] pos) (Uz p q X.K ta):=by
 intro pins s σ H R I h;refine Call_ (jQ I hg hm J4 (PyProof.Rows.callWith_type1 (dF (ha pos pins s σ H _ I h) fun us s1 ⟨vs,H1,I1,r1,q1⟩=>?_) (by rw [hs,hs2]) (by rw [hs2]; rfl)));obtain ⟨l1,l2,xs,ys,e,h1,h2,k⟩:=q1;subst e;obtain ⟨u,w',rfl,ru,rw'⟩:=vals2 r1;cases (show u=Value.ref l1 from ru);cases (show w'=Value.ref l2 from rw');obtain ⟨its,rv,pl,_⟩:=I1.sqk h1;obtain ⟨its2,rv2,pl2,_⟩:=I1.sqk h2;refine Je pl pl2 fun h' Z hk=>?_;refine wpAny_pyIter_zip Z.zip ?_;refine ⟨_,_,_,_,H1,rfl,I1.kept (t':=s1.toks) hk,PP (Od s1.heap.objs.size l1 l2 pl.lt pl2.lt),Z,fun c hc=>?_,k⟩;have le:s1.heap.objs.size<=c:=by
  simp only [aDA,aDJ,or_false] at hc;rcases hc with rfl | rfl | rfl | rfl | rfl <;> first | exact aFm _ _ | exact aDn _
 exact I1.fpOk le (I1.hok.fresh le)
theorem Ip {K:PySem.W.Frag}{p q:Bool}{a b:Addr}{xs ys:List V}{k:Nat}{g:TG}{c:TT}{te:TE}{σ:St}{H1:Hp}{D:Addr}{Q:VK}(Pv:Nat->St->Hp->Prop)(hn:xs.length=ys.length)(h0:Pv 0 (aDx k none++σ) (aM H1 D (.lst [])))
  (hl:∀ i τ H,i<=xs.length->Pv i τ H->Hy p K H a xs/\Hy q K H b ys)
  (hs:∀ i m x y T τ H,m=xs.length-i->i<xs.length->xs[i]? = some x->ys[i]? = some y->H T=none->Pv i τ H->g (.ref T) τ (aM H T (.tup [x,y])) fun τ2 H2=>c τ2 H2 fun b H3=>if b=true then te τ2 H3 fun y H4=>∃ ys m',m'<m/\H4 D=some (.lst ys)/\ys.length<sizeLine/\CW xs.length Pv (i+1) m' τ2 (aM H4 D (.lst (ys++[y]))) else ∃ m',m'<m/\CW xs.length Pv (i+1) m' τ2 H3)
  (hd:∀ τ H,Pv xs.length τ H->Q (.ref D) H):vI k (Qo p q K a b) g c te σ H1 D Q:=by
 refine ⟨CW xs.length Pv,⟨xs.length,rfl,aDK _,h0⟩,?_⟩;rintro i m τ H ⟨hm,hi,pv⟩;obtain ⟨q1,q2⟩:=hl i τ H hi pv
 by_cases hlt:i<xs.length
 ·refine .inr ⟨⟨xs,ys,xs[i],ys[i]'(by omega),q1,q2,by simp [hlt],aDl (by omega)⟩,fun v H' y=>?_⟩;obtain ⟨x,y,T,hT,rfl,rfl,e1,e2⟩:=y;exact hs i m x y T τ _ hm hlt (e1 xs q1) (e2 ys q2) hT pv
 ·have e:i=xs.length:=by omega
  subst e;exact .inl ⟨⟨xs,ys,q1,q2,.inl (aDn _)⟩,hd τ H pv⟩
end
theorem Jw:Manifest.owners.lookup (String.ofList ['d','e','s','r','e','v','e','r'].reverse)=some Manifest.sig_reversed:=by kernel_rfl
theorem iG:Slot "reversed" "__next__" "reversed.__next__" :=
 .of (owner:="reversed") (n:="__next__") (by rw [typeLookup_type,builtinLookup_eq_fast]; kernel_rfl) (by decide +kernel) (by decide +kernel) (by decide +kernel) (by first | exact .inl (by decide +kernel) | exact .inr (by decide +kernel)) (by rw [isSubtype_type]; kernel_rfl)
theorem sV:entryFor table "reversed.__next__" = some Builtin.«reversed.__next__»:=entryFor_of_tree (by kernel_rfl)
theorem sJ (a:Value):argsOk "reversed.__next__" ⟨[a],[]⟩:=by
 unfold argsOk; rw [signature?_of (id:="reversed.__next__") (n:=['_','_','t','x','e','n','_','_']) (o:=['d','e','s','r','e','v','e','r']) (by kernel_rfl) Jw]; kernel_rfl
theorem sX:Slot "reversed" "__iter__" "reversed.__iter__" :=
 .of (owner:="reversed") (n:="__iter__") (by rw [typeLookup_type,builtinLookup_eq_fast]; kernel_rfl) (by decide +kernel) (by decide +kernel) (by decide +kernel) (by first | exact .inl (by decide +kernel) | exact .inr (by decide +kernel)) (by rw [isSubtype_type]; kernel_rfl)
theorem Ar (a:Value):argsOk "reversed.__iter__" ⟨[a],[]⟩:=by
 unfold argsOk; rw [signature?_of (id:="reversed.__iter__") (n:=['_','_','r','e','t','i','_','_']) (o:=['d','e','s','r','e','v','e','r']) (by kernel_rfl) Jw]; kernel_rfl
theorem CQ:entryFor table "reversed.__iter__" = some Builtin.«dict_keyiterator.__iter__» :=
 entryFor_alias (id':="dict_keyiterator.__iter__") (by kernel_rfl) (by first | rfl | decide +kernel | (unfold String.splitOn; simp +decide [String.splitOnAux])) (by decide +kernel) (by kernel_rfl)
theorem CK:Slot "reversed" "__init__" "object.__init__" :=
 .of (owner:="object") (n:="__init__") (by rw [typeLookup_type,builtinLookup_eq_fast]; kernel_rfl) (by decide +kernel) (by decide +kernel) (by decide +kernel) (by first | exact .inl (by decide +kernel) | exact .inr (by decide +kernel)) (by rw [isSubtype_type]; kernel_rfl)
theorem Rt:TypeCalled "reversed" "reversed.__new__" "object.__init__":=⟨by decide +kernel,F.create_reversed,⟨_,_,F.mro_reversed⟩,F.made_reversed,F.plain_reversed_new,F.sub_reversed_self,CK⟩
theorem Fi:typeLookup (.type "tuple") "__reversed__" = pure none:=by rw [typeLookup_type,builtinLookup_eq_fast]; kernel_rfl
theorem Ad:isSubtype (.type "tuple") (.type "dict")=pure false:=by rw [isSubtype_type]; kernel_rfl
def Mm (t:Addr)(i:Int):Obj:={ cls:=.type "reversed",data:=.fields #[.ref t,.int i 0] }
theorem Jj (t:Addr)(xs:Array Value)(hz:(xs.size:Int)<2^63) :
  Meets (Builtin.«reversed.__new__» ⟨[.type "reversed",.ref t],[]⟩) (fun _ R s=>IsTup s.heap t xs/\R (.ok (.ret (.ref s.heap.objs.size))) { s with heap:=s.heap.push (Mm t ((xs.size:Int)-1)),toks:=s.toks+2 }) :=
 .of_wp fun prog w A R s h=>by
  obtain ⟨ht,h⟩:=h;unfold Builtin.«reversed.__new__»;refine wpAny_bind (wpAny_of_eq (newClass_reversed _) ?_);refine wpAny_bind (m:=Builtin.SmallTypes.refuseKeywords _ _ _) (wpAny_pure ?_);refine wpAny_bind (m:=checkCount _ _ _ _) (wpAny_pure ?_);refine wpAny_bind (wpAny_specialOf ht.typeIs Fi ?_);refine wpAny_bind (wpAny_bind (wpAny_isInstance ht.typeIs Ad ?_));simp only [aD7,if_false];refine wpAny_bind (wpAny_specialOf ht.typeIs slot_tuple_getitem.lookup ?_);refine wpAny_pure (a:=true) ?_;refine wpAny_bind (len_tuple ht hz ?_);refine wpAny_bind (m:=asInt? _) (wpAny_pure ?_);show wpAny _ _ (newObj (.type "reversed") (.fields #[.ref t,rawInt ((xs.size:Int)-1)]) >>= _) _ _ _;exact wpAny_bind (wpAny_newObj_type (wpAny_pure ⟨_,rfl,h⟩))
def JP (h:Heap)(r t:Addr)(i:Int):Prop:=∃ o,h.get? r=some o/\o.cls=.type "reversed"/\o.data=.fields #[.ref t,.int i 0]
section
variable {prog:Program}{w:World}{A:Around}{E:Value->Shared->Prop}{s:Shared}{r t:Addr}{xs:Array Value}
theorem Nm {i:Nat}{x:Value}{Q:Option Value->Shared->Prop}(hr:JP s.heap r t i)(ht:IsTup s.heap t xs)(hx:xs[i]? = some x)(hz:(xs.size:Int)<2^63)
  (k:∀ h',JP h' r t ((i:Int)-1)->aDL r s.heap h'->Q (some x) { s with heap:=h',toks:=s.toks+1 }):wpAny (model prog w) A (pyNext (.ref r)) Q E s:=by
 obtain ⟨o,ho,hc,hd⟩:=id hr;have il:i<xs.size:=by
  rcases Nat.lt_or_ge i xs.size with z | z
  ·exact z
  ·rw [aFt z] at hx; cases hx
 have ty:s.TypeIs (.ref r) "reversed":=⟨o,ho,hc⟩
 unfold pyNext;refine wpAny_bind (wpAny_attempt (wpAny_callSpecial?_slot (name:=Str.ofString "__next__") ty iG (wpAny_call_entry iG ty sV ?_ (sJ _))));show wpAny _ _ (field (.ref r) 0 >>= _) _ _ s;refine wpAny_bind (wpAny_field ho hd (x:=.ref t) rfl ?_);show wpAny _ _ (field (.ref r) 1 >>= _) _ _ s;refine wpAny_bind (wpAny_field ho hd (x:=.int i 0) rfl ?_);dsimp only;rw [if_neg (show ¬ (i:Int)<0 by omega)];refine wpAny_bind (wpAny_specialOf ht.typeIs slot_tuple_getitem.lookup ?_);simp only [Option.isNone_some,aD7,if_false];refine wpAny_bind (wpAny_mkInt ?_);refine wpAny_bind (wpAny_attempt (getItem_tuple (s:={ s with toks:=s.toks+1 }) ht (by omega) (by omega) (j:=i) ?_ hx ?_))
 ·have e:PJ xs.size (i:Int)=some i:=by
   unfold PJ;rw [if_pos (aFN i),if_pos (by omega),aEr]
  exact (Gy e).1
 dsimp only;refine wpAny_bind (wpAny_field (s:={ s with toks:=s.toks+1 }) ho hd (x:=.int i 0) rfl ?_);dsimp only;refine wpAny_bind (wpAny_setField (s:={ s with toks:=s.toks+1 }) ho hd (by simp) (wpAny_pure ⟨x,rfl,wpAny_pure (k _ ?_ (aDL.update ..))⟩));exact ⟨_,aEn _ ho (Obj.isFreed_of_fields (Obj.data_mapFields hd _)),(Obj.cls_mapFields ..).trans hc,by rw [Obj.data_mapFields hd]; simp [rawInt]⟩
theorem RW {i:Int}{Q:Option Value->Shared->Prop}(hh:A.handled=none)(hr:JP s.heap r t i)(hi:i<0)(k:∀ h',aF3 r s.heap h'->Q none { s with heap:=h' }):wpAny (model prog w) A (pyNext (.ref r)) Q E s:=by
 obtain ⟨o,ho,hc,hd⟩:=id hr;have ty:s.TypeIs (.ref r) "reversed":=⟨o,ho,hc⟩
 unfold pyNext;refine wpAny_bind (wpAny_attempt (wpAny_callSpecial?_slot (name:=Str.ofString "__next__") ty iG (wpAny_call_entry iG ty sV ?_ (sJ _))));show wpAny _ _ (field (.ref r) 0 >>= _) _ _ s;refine wpAny_bind (wpAny_field ho hd (x:=.ref t) rfl ?_);show wpAny _ _ (field (.ref r) 1 >>= _) _ _ s;refine wpAny_bind (wpAny_field ho hd (x:=.int i 0) rfl ?_);dsimp only;rw [if_pos hi];refine wpAny_bind (wpAny_rule (wpAny_bind ?_));show wpAny _ _ (setField (.ref r) 1 (rawInt (-1)) >>= _) _ _ _;refine wpAny_bind (wpAny_setField ho hd (by simp) ?_);have ho2:=aEn (Obj.mapFields (fun a=>a.setIfInBounds 1 (rawInt (-1)))) ho (Obj.isFreed_of_fields (Obj.data_mapFields hd _));have hd2:=Obj.data_mapFields hd (fun a=>a.setIfInBounds 1 (rawInt (-1)));refine wpAny_setField (s:={ s with heap:=s.heap.update r (Obj.mapFields (fun a=>a.setIfInBounds 1 (rawInt (-1)))) }) ho2 hd2 (by simp) ?_;refine wpAny_bind ?_;unfold Builtin.SmallTypes.stopIteration;refine wpAny_bind ?_;simp only [newExc,newTuple];refine wpAny_bind (wpAny_newObj_type ?_ (by size_fits));refine wpAny_bind (m:=firstArgMember _ _) (wpAny_of_eq (a:=Value.none) (by first | rfl | (simp only [firstArgMember]; rfl)) ?_);refine wpAny_newObj_type ?_ (by size_fits);simp only [raiseNew];refine wpAny_bind (wpAny_handled ?_)
 first | rw [show A.in1.handled=none from hh] | rw [hh]
 refine wpAny_bind (wpAny_pure (wpAny_throw ?_));refine wpAny_bind (wpAny_isInstance (T:="StopIteration") (b:=true) ⟨_,aDt _ rfl,rfl⟩ isSubtype_stop ?_);refine wpAny_pure (k _ fun b o' n e=>?_);exact aDf _ (aDf _ ((aDL.update ..).extBut _ _ n ((aDL.update ..).extBut _ _ n e)))
theorem Fw {i:Int}{Q:Value->Shared->Prop}(hr:JP s.heap r t i)(h:Q (.ref r) s):wpAny (model prog w) A (pyIter (.ref r)) Q E s:=by
 obtain ⟨o,ho,hc,hd⟩:=hr;have ty:s.TypeIs (.ref r) "reversed":=⟨o,ho,hc⟩
 refine wpAny_pyIter_slot ty sX (wpAny_call_entry sX ty CQ ?_ (Ar _));show wpAny _ _ (ret (.ref r)) _ _ s;exact wpAny_pure ⟨_,rfl,"reversed",_,ty,iG.lookup,h⟩
theorem Nh {Q:Value->Shared->Prop}(ht:IsTup s.heap t xs)(hz:(xs.size:Int)<2^63)(h:Q (.ref s.heap.objs.size) { s with heap:=s.heap.push (Mm t ((xs.size:Int)-1)),toks:=s.toks+2 }):wpAny (model prog w) A (call (.type "reversed") [.ref t]) Q E s:=by
 refine callType_new Rt (by decide) (F.typeCall_reversed_1 _) (F.newCall_reversed_1 _) (fun obj=>F.args_object_init_2 obj _) F.entry_reversed_new (Jj t xs hz) ⟨ht,?_⟩;exact ⟨⟨_,aDt _ rfl,rfl⟩,h⟩
end
section
variable {X:Cx}
def N5 (K:PySem.W.Frag)(a:Addr)(xs:List V):It :=
 ⟨fun i H=>i<xs.length/\cW K H a xs,fun i H x H'=>H'=H/\xs[xs.length-1-i]? = some x,fun i H=>xs.length<=i⟩
theorem JH {P:Program}{w:World}{K:PySem.W.Frag}{tg:Expr}(a it:Addr)(xs:List V):Turn P w K tg (N5 K a xs) [it] it (fun i h=>i<=xs.length/\JP h it a ((xs.length:Int)-1-(i:Int))) where
 mem:=by simp
 obj:=fun i h st b hb=>by
  have e:b=it:=by simpa using hb
  subst e;obtain ⟨_,o,e,c,d⟩:=st;exact ⟨o,e,fun v z=>by rw [d] at z; cases z⟩
 keep:=fun i h h' st k=>by
  obtain ⟨l,o,e,r⟩:=st;exact ⟨l,o,k it (by simp) o e,r⟩
 item:=by
  intro X hP hw hK hc i pins s σ H E I hf st hg;subst hP hw hK;obtain ⟨hi,hS⟩:=hg;obtain ⟨_,st⟩:=st;obtain ⟨its,rv,p,hz⟩:=I.tuple hS;have hix:xs.length-1-i<xs.length:=by omega
  obtain ⟨u,hu,ru⟩:=rv.get (aDl hix);have ei:(xs.length:Int)-1-(i:Int)=((xs.length-1-i:Nat):Int):=by omega
  rw [ei] at st;obtain ⟨f0,f1,f2,f3,f4,f5⟩:=hf it (by simp);have lz:(its.toArray.size:Int)<2^63:=by
   have:=rv.length;have z2:sizeLine<2^62:=by decide
   rw [aDo];omega
  refine Nm st p (x:=u) (by simpa using hu) lz fun h' st' sb=>?_;have I1:aQ X pins σ H { s with heap:=h',toks:=s.toks+1 }:=I.turned (t':=s.toks+1) (fun b o hb e=>(sb.2 b hb).trans e) f0 f1 f3 f4 f5;obtain ⟨o,e,c,d⟩:=id st';refine ⟨u,rfl,CN (s:={ s with heap:=h',toks:=s.toks+1 }) e c d (by decide) ⟨_,H,I1,ru,⟨rfl,aDl hix⟩,⟨hi,?_⟩,fun b hb=>(hf b hb).1⟩⟩;have ej:(xs.length:Int)-1-((i+1:Nat):Int)=((xs.length-1-i:Nat):Int)-1:=by omega
  rw [ej];exact st'
 done:=by
  intro X hP hw hK hc i pins s σ H E I hf st hg;subst hP hw hK;obtain ⟨hi,st⟩:=st;have hg:xs.length<=i:=hg;obtain ⟨f0,f1,f2,f3,f4,f5⟩:=hf it (by simp);exact RW (I.ok.hd hc) st (by omega) fun h' eb=>⟨rfl,I.turned (t':=s.toks) (fun b o hb e=>eb b o hb e) f0 f1 f3 f4 f5⟩
 self:=fun _ _ _ _ _ st h=>Fw st.2 h
def V3 (K:PySem.W.Frag)(ta:TA):TI:=fun σ H R=>ta σ H fun vs H1=>∃ a xs,vs=[.ref a]/\cW K H1 a xs/\R (N5 K a xs) H1
theorem Om {tg a:Expr}{ta:TA}{p pos:Pos}(hg:Gl X "reversed")(hm:X.mg "reversed" = none)(ha:PA X [a] ta)(hs:starEach [a] X.env=[(false,eval a X.env)]:=by rfl):PI X tg (.Call (.Name "reversed" p) [a] [] pos) (V3 X.K ta):=by
 intro pins s σ H R I h;refine Call_ (jQ I hg hm Ax (PyProof.Rows.callWith_type1 (dF (ha pos pins s σ H _ I h) fun us s1 ⟨vs,H1,I1,r1,q1⟩=>?_) hs rfl));obtain ⟨b,xs,e,hS,q⟩:=q1;subst e;obtain ⟨u,rfl,ru⟩:=vals1 r1;cases (show u=Value.ref b from ru);obtain ⟨its,rv,pl,hz⟩:=I1.tuple hS;have hsz:its.toArray.size=xs.length:=by rw [aDo]; exact rv.length.symm
 have lz:(its.toArray.size:Int)<2^63:=by
  have z2:sizeLine<2^62:=by decide
  rw [hsz];omega
 refine Nh pl lz ?_;rw [hsz];have st:JP (s1.heap.push (Mm b ((xs.length:Int)-1))) s1.heap.objs.size b ((xs.length:Int)-1-((0:Nat):Int)):=by
  rw [show (xs.length:Int)-1-((0:Nat):Int)=(xs.length:Int)-1 by omega];exact ⟨_,aDt _ rfl,rfl,rfl⟩
 have I2:aQ X pins σ H1 { s1 with heap:=s1.heap.push (Mm b ((xs.length:Int)-1)),toks:=s1.toks+2 }:=I1.kept (t':=s1.toks+2) fun b o e=>aDf _ e;refine Fw (s:={ s1 with heap:=s1.heap.push (Mm b ((xs.length:Int)-1)),toks:=s1.toks+2 }) st ?_;refine ⟨s1.heap.objs.size,[s1.heap.objs.size],_,_,H1,rfl,I2,JH b _ xs,⟨aDK _,st⟩,fun c hc=>?_,q⟩;have e:c=s1.heap.objs.size:=by simpa using hc
 subst e;exact I1.fpOk (aDn _) (I1.hok.fresh (aDn _))
theorem Ah:bootBuiltins "enumerate" = some (.type "enumerate"):=by decide +kernel
end
theorem range_all (bs:List Bool):(aEs bs.length).all (fun i=>bs.getD i false)=bs.all id:=by
 rw [aEL];simp only [aEI,aEd];constructor
 ·intro h b hb;obtain ⟨i,hi,e⟩:=aE4.mp hb;have q:=h i hi;rw [getD_at hi,e] at q;exact q
 ·intro h i hi;rw [getD_at hi];exact h _ (aDU hi)
section
variable {X:Cx}{K:PySem.W.Frag}
theorem R5 {us:List Value}{bs:List Bool}(h:bV (bs.map V.bl) us){i:Nat}{v:Value}(e:us[i]? = some v):v=.bool (bs.getD i false):=by
 have hl:=h.length;rw [aDe] at hl;have hi:i<us.length:=(aDr.mp e).1;have e2:(bs.map V.bl)[i]? = some (.bl (bs.getD i false)):=by
  rw [aDm,aDl (by omega),getD_at (by omega)]
  rfl
 obtain ⟨u,hu,r⟩:=h.get e2;rw [e] at hu;cases hu;exact r
theorem lD (hK:X.K=K)(hc:X.calm=true):fB X (.builtin "all") (fun xs H Q=>∃ (a:Addr) (bs:List Bool),xs=[.ref a]/\bB K H a (bs.map V.bl)/\Q (.bl (bs.all id)) H):=by
 subst hK;intro pins s σ H xs us Q I r h;obtain ⟨a,bs,rfl,hS,q⟩:=h;obtain ⟨u,rfl,ru⟩:=vals1 r;cases (show u=Value.ref a from ru);obtain ⟨its,rv,pl,hz⟩:=I.list hS;have lt:a<s.heap.objs.size:=by obtain ⟨o,e,_⟩:=pl.isList; exact aDv e
 have hl:=rv.length;rw [aDe] at hl;refine call_all_walk (wpAny_pyIter_list pl.isList ⟨s.heap.objs.size,_,_,_,_,_,fun i=>bs.getD i false,rfl,Walks.list (A:=X.A.in1) (I.ok.hd hc) s.heap.objs.size a (aDI lt) its.toArray,⟨⟨_,aDt _ rfl,rfl,rfl⟩,pl.isList.push _⟩,?_,fun h' tk hk=>?_⟩)
 ·intro i v s' Q' E' hv hQ;have e:=R5 rv (i:=i) (v:=v) (by simpa using hv);rw [e];exact wpAny_truthy_bool hQ
 ·refine ⟨.bl (bs.all id),H,I.kept (t':=tk) fun b o e=>hk b o (fun z=>?_) (aDf _ e),?_,q⟩
  ·rw [aDw.mp z] at e;exact absurd (aDv e) (aEi _)
  ·show Value.bool _=Value.bool _;rw [aDo,<- hl,range_all]
end
theorem cZ {X:Cx}{K:PySem.W.Frag}(h:X.K=K):fB X (.type "tuple") (fun xs H Q=>∃ p ys,xs=[.ref p]/\((bB K H p ys/\∀ l,H l=none->Q (.ref l) (aM H l (.tup ys)))∨(cW K H p ys/\Q (.ref p) H))):=by subst h; exact wK
theorem Ig {X:Cx}{tg e:Expr}{a b:TI}(h1:PI X tg e a)(h2:PI X tg e b):PI X tg e (fun σ H R=>a σ H R∨b σ H R):=fun pins s σ H R I h=>h.elim (h1 pins s σ H R I) (h2 pins s σ H R I)
theorem lG {K:PySem.W.Frag}{a:Addr}{xs:List V}{k:Nat}{g:TG}{c:TT}{te:TE}{σ:St}{H1:Hp}{D:Addr}{Q:VK}(Pv:Nat->St->Hp->Prop)(h0:Pv 0 (aDx k none++σ) (aM H1 D (.lst [])))
  (hl:∀ i τ H,i<=xs.length->Pv i τ H->cW K H a xs)
  (hs:∀ i m x τ H,m=xs.length-i->i<xs.length->xs[i]? = some x->Pv i τ H->g x τ H fun τ2 H2=>c τ2 H2 fun b H3=>if b=true then te τ2 H3 fun y H4=>∃ ys m',m'<m/\H4 D=some (.lst ys)/\ys.length<sizeLine/\CW xs.length Pv (i+1) m' τ2 (aM H4 D (.lst (ys++[y]))) else ∃ m',m'<m/\CW xs.length Pv (i+1) m' τ2 H3)
  (hd:∀ τ H,Pv xs.length τ H->Q (.ref D) H):vI k (Zu K a) g c te σ H1 D Q:=by
 refine ⟨CW xs.length Pv,⟨xs.length,rfl,aDK _,h0⟩,?_⟩;rintro i m τ H ⟨hm,hi,p⟩;have q:=hl i τ H hi p
 by_cases hlt:i<xs.length
 ·refine .inr ⟨⟨xs,xs[i],q,by simp [hlt]⟩,fun x H' y=>?_⟩;obtain ⟨e,y⟩:=y;subst e;exact hs i m x τ _ hm hlt (y xs q) p
 ·have e:i=xs.length:=by omega
  subst e;exact .inl ⟨⟨xs,q,aDn _⟩,hd τ H p⟩
theorem KH {K:PySem.W.Frag}{a:Addr}{xs:List V}{g:TG}{tb:TS}{D:Ends}{σ:St}{H:Hp}(Pv:Nat->St->Hp->Prop)(h0:Pv 0 σ H)(hl:∀ i σ H,i<=xs.length->Pv i σ H->cW K H a xs)
  (hs:∀ i x σ H,i<xs.length->xs[xs.length-1-i]? = some x->Pv i σ H->g x σ H fun σ2 H2=>tb { D with nx:=Pv (i+1),ct:=Pv (i+1),bk:=D.nx } σ2 H2) (hd:∀ σ H,Pv xs.length σ H->D.nx σ H) :
  ∃ W:Nat->Nat->St->Hp->Prop,(∃ m,W 0 m σ H)/\∀ i m σ H,W i m σ H ->
   ((N5 K a xs).stop i H/\D.nx σ H)∨((N5 K a xs).go i H/\∃ N:St->Hp->Prop,(∀ σ' H',N σ' H'->∃ m',m'<m/\W (i+1) m' σ' H')/\∀ x H',(N5 K a xs).yld i H x H'->g x σ H' fun σ2 H2=>tb { D with nx:=N,ct:=N,bk:=D.nx } σ2 H2):=by
 refine ⟨fun i m σ H=>m=xs.length-i/\i<=xs.length/\Pv i σ H,⟨xs.length,by simp,aDK _,h0⟩,?_⟩;rintro i m σ H ⟨rfl,hi,p⟩;have q:=hl i σ H hi p
 by_cases hlt:i<xs.length
 ·refine .inr ⟨⟨hlt,q⟩,Pv (i+1),fun σ' H' p'=>⟨xs.length-(i+1),by omega,rfl,hlt,p'⟩,fun x H' y=>?_⟩;obtain ⟨e,y⟩:=y;subst e;exact hs i x σ _ hlt y p
 ·have e:i=xs.length:=by omega
  subst e;exact .inl ⟨aDn _,hd σ H p⟩
end L2
namespace TD
open PySem L2
open Builtin.Int (intBits)
structure Ir where
 p:Addr
 v:Int
 w:Int
def Cq (H:Hp)(x:Ir):Prop:=H x.p=some (.tup [.int x.v,.int x.w])
def cY (xs:List Ir):List V:=xs.map fun x=>V.ref x.p
structure gK (H:Hp)(a:Addr)(xs:List Ir):Prop where
 lst:H a=some (.lst (cY xs))
 rows:∀ x∈xs,Cq H x
def Bu (xs:List Ir):List Tb.Rw:=xs.map fun x=>⟨x.v,1,x.w⟩
def tab (xs:List Ir):Of.Tab:=xs.map fun x=>(x.v,x.w)
theorem gK.same {H H':Hp}{a:Addr}{xs:List Ir}(s:aU H H')(h:gK H a xs):gK H' a xs:=⟨s _ _ h.lst,fun x hx=>s _ _ (h.rows x hx)⟩
theorem dI (xs:List Ir):(cY xs).length=xs.length:=aDe _
theorem vV (xs:List Ir):(Bu xs).length=xs.length:=aDe _
theorem uM {xs:List Ir}{i:Nat}{v:V}(h:(cY xs)[i]? = some v):∃ x,xs[i]? = some x/\v=.ref x.p:=by
 unfold cY at h;rw [aDm] at h;cases e:xs[i]? with
 | none=>rw [e] at h; cases h
 | some x=>rw [e] at h; cases h; exact ⟨x,rfl,rfl⟩
theorem Dj (xs:List Ir)(y:Ir):cY (xs++[y])=cY xs++[V.ref y.p]:=by unfold cY; rw [aDq]; rfl
theorem Kc (xs:List Ir)(y:Ir):Bu (xs++[y])=Bu xs++[⟨y.v,1,y.w⟩]:=by unfold Bu; rw [aDq]; rfl
theorem gK.push {H:Hp}{a:Addr}{xs:List Ir}{y:Ir}(h:gK H a xs)(hy:Cq H y):gK (aM H a (.lst (cY xs++[.ref y.p]))) a (xs++[y]):=by
 have one:∀ x:Ir,Cq H x->Cq (aM H a (.lst (cY xs++[.ref y.p]))) x:=fun x hx=>by unfold Cq at hx ⊢; rw [aH (dG hx h.lst fun z=>nomatch z)]; exact hx
 refine ⟨by rw [aA,Dj],fun x hx=>?_⟩;rcases aDy.mp hx with z | z
 ·exact one x (h.rows x z)
 ·rw [aDw.mp z]; exact one y hy
structure GI (xs:List Ir):Prop where
 ne:xs≠[]
 len:xs.length<=8
 v:∀ x∈xs,0<=x.v/\x.v<=1000000000
 w:∀ x∈xs,1<=x.w/\x.w<=1000
structure Ls where
 a:Addr
 xs:List Ir
def bG (ls:List Ls):List V:=ls.map fun l=>V.ref l.a
structure pD (H:Hp)(a:Addr)(ls:List Ls):Prop where
 lst:H a=some (.lst (bG ls))
 each:∀ l∈ls,gK H l.a l.xs
theorem pD.same {H H':Hp}{a:Addr}{ls:List Ls}(s:aU H H')(h:pD H a ls):pD H' a ls:=⟨s _ _ h.lst,fun l hl=>(h.each l hl).same s⟩
theorem cG (ls:List Ls):(bG ls).length=ls.length:=aDe _
theorem nW {ls:List Ls}{i:Nat}{v:V}(h:(bG ls)[i]? = some v):∃ x,ls[i]? = some x/\v=.ref x.a:=by
 unfold bG at h;rw [aDm] at h;cases e:ls[i]? with
 | none=>rw [e] at h; cases h
 | some x=>rw [e] at h; cases h; exact ⟨x,rfl,rfl⟩
theorem Aw (ls:List Ls)(y:Ls):bG (ls++[y])=bG ls++[V.ref y.a]:=by unfold bG; rw [aDq]; rfl
structure Tn where
 a:Addr
 ys:List Row
def fV (ts:List Tn):List V:=ts.map fun t=>V.ref t.a
structure oN (H:Hp)(a:Addr)(ys:List Row):Prop where
 tp:H a=some (.tup (refs ys))
 rows:∀ y∈ys,iU H y
structure N7 (H:Hp)(k:Addr)(ts:List Tn):Prop where
 tp:H k=some (.tup (fV ts))
 each:∀ t∈ts,oN H t.a t.ys
theorem oN.same {H H':Hp}{a:Addr}{ys:List Row}(s:aU H H')(h:oN H a ys):oN H' a ys:=⟨s _ _ h.tp,fun y hy=>(h.rows y hy).same s⟩
theorem N7.same {H H':Hp}{k:Addr}{ts:List Tn}(s:aU H H')(h:N7 H k ts):N7 H' k ts:=⟨s _ _ h.tp,fun t ht=>(h.each t ht).same s⟩
theorem cI (ts:List Tn):(fV ts).length=ts.length:=aDe _
theorem fQ {ts:List Tn}{i:Nat}{v:V}(h:(fV ts)[i]? = some v):∃ x,ts[i]? = some x/\v=.ref x.a:=by
 unfold fV at h;rw [aDm] at h;cases e:ts[i]? with
 | none=>rw [e] at h; cases h
 | some x=>rw [e] at h; cases h; exact ⟨x,rfl,rfl⟩
theorem u5 (xs:List Tn)(y:Tn):fV (xs++[y])=fV xs++[V.ref y.a]:=by unfold fV; rw [aDq]; rfl
def qC (ys:List Row):Of.Tab:=ys.map fun y=>(y.t,y.w)
structure GY (ys:List Row):Prop where
 g:Of.GT (qC ys)
 one:∀ y∈ys,y.b=1
structure Bj (xs:List Row):Prop where
 len:xs.length<=1000
 b:∀ x∈xs,0<x.b
 t:∀ x∈xs,intBits x.t<=2500
 w:∀ x∈xs,intBits x.w<=64
 z:((xs.map Row.b).map intBits).sum<=4200
def nH (xs:List Row):List (Rk.Fc×Int):=xs.map fun x=>((x.t,x.b),x.w)
def Bc:Sp:=fun vs H Q _=>∃ (a:Addr) (xs:List Row),vs=[.ref a]/\(TabAt H a xs∨oN H a xs)/\xs.length<=1000/\∀ H',aU H H'->Q (.int (wsum xs)) H'
def Ft:Sp:=fun vs H Q _=>∃ (a:Addr) (xs:List Row) (W:Int),vs=[.ref a,.int W]/\TabAt H a xs/\Bj xs/\0<W/\intBits W<=64/\∀ p H',aU H H'->fU H' p (Of.Ek (nH xs) W)->Q (.ref p) H'
def GZ:Sp:=fun vs H Q _=>∃ (a:Addr) (xs:List Ir),vs=[.ref a]/\gK H a xs/\GI xs/\∀ H',aU H H'->Q (.bl true) H'
def Vp (P:Addr)(lp:Pos):Sp:=fun vs H Q _=>∃ (a:Addr) (xs:List Ir),vs=[.ref a]/\gK H a xs/\GI xs/\cN P lp jN H ∧
 ∀ (r:Addr) (H':Hp) (ys:List Row),bN P H H'->cN P lp jN H'->H r=none->TabAt H' r ys->Out (Bu xs) ys->ys.length<=xs.length->Q (.ref r) H'
end TD
namespace L2
open PySem
theorem Ak {X:Cx}{K:PySem.W.Frag}{T:String}(h:X.K=K):fB X (.builtin "isinstance") (fun xs H Q=>∃ x t b,xs=[x,.ty T]/\j4 K H x t/\PySem.W.kitOne K t (.type T)=some b/\Q (.bl b) H):=by subst h; exact dH
theorem oW {X:Cx}{K:PySem.W.Frag}(h:X.K=K):fB X (.builtin "len") (fun xs H Q=>∃ p ys,xs=[.ref p]/\(bB K H p ys∨cW K H p ys)/\Q (.int ys.length) H):=by subst h; exact bZ
end L2
namespace TD
open PySem L2
open Builtin.Int (intBits)
theorem HJ {ps:List Tb.Rw}(t b:Int)(h:∀ p∈ps,1<=p.w/\p.w<=1000):Tb.Wt ps t b<=1000*(ps.length:Int)/\0<=Tb.Wt ps t b:=by
 induction ps with
 | nil=>simp [Tb.Wt]
 | cons p ps ih =>
  obtain ⟨a1,a2⟩:=ih fun x hx=>h x (aDk _ hx);obtain ⟨b1,b2⟩:=h p aDj;have e:1000*((p::ps).length:Int)=1000+1000*(ps.length:Int):=by rw [aDF]; grind
  rw [Tb.gF]
  split <;> omega
theorem Wm {xs:List Ir}{ys:List Row}(g:GI xs)(o:Out (Bu xs) ys)(l:ys.length<=xs.length):GY ys:=by
 have key:∀ y∈ys,∃ x∈xs,y.t=x.v/\y.b=1:=fun y hy=>by
  obtain ⟨p,hp,e1,e2⟩:=o.key hy;obtain ⟨x,hx,rfl⟩:=aDg.mp hp;exact ⟨x,hx,e1.symm,e2.symm⟩
 have pw:∀ p∈Bu xs,1<=p.w/\p.w<=1000:=fun p hp=>by
  obtain ⟨x,hx,rfl⟩:=aDg.mp hp;exact g.w x hx
 have gl:=g.len;refine ⟨⟨?_,?_,fun r hr=>?_,fun r hr=>?_⟩,fun y hy=>(key y hy).elim fun _ h=>h.2.2⟩
 ·intro e;exact o.ne (fun e=>g.ne (aDX.mp e)) (aDX.mp e)
 ·unfold qC;rw [aDe];omega
 ·obtain ⟨y,hy,rfl⟩:=aDg.mp hr;obtain ⟨x,hx,e,_⟩:=key y hy;show 0<=y.t/\y.t<=1000000000;rw [e];exact g.v x hx
 ·obtain ⟨y,hy,rfl⟩:=aDg.mp hr;obtain ⟨a,b⟩:=o.w y hy;have c:=(HJ y.t y.b pw).1;rw [vV] at c;exact ⟨a,by show y.w<=8000; omega⟩
theorem Am (ys:List Row):(qC ys).length=ys.length:=aDe _
theorem rF (ys:List Row):wsum ys=Of.W (qC ys):=by unfold wsum Of.W qC; rw [aDH]; rfl
structure OF (K:PySem.W.Frag)(C:Addr):Prop where
 cl:Hw K C
 nk:kZ K C "kinds"
def GP (C:Addr)(H:Hp)(x:Addr)(ts:List Tn):Prop:=∃ dx k,H x=some (.ins C dx [("kinds",.ref k)])/\N7 H k ts
theorem GP.same {C:Addr}{H H':Hp}{x:Addr}{ts:List Tn}(s:aU H H')(h:GP C H x ts):GP C H' x ts:=by
 obtain ⟨dx,k,a,b⟩:=h;exact ⟨dx,k,s _ _ a,b.same s⟩
structure GK (ts:List Tn):Prop where
 len:ts.length<=8
 each:∀ t∈ts,GY t.ys
def tabs (ts:List Tn):List Of.Tab:=ts.map fun t=>qC t.ys
structure Oq (ls:List Ls)(ts:List Tn):Prop where
 len:ls.length=ts.length
 each:∀ (i:Nat) l t,ls[i]? = some l->ts[i]? = some t->Out (Bu l.xs) t.ys/\t.ys.length<=l.xs.length
def QG (C:Addr):Sp:=fun vs H Q _=>∃ (x:Addr) (ts:List Tn),vs=[.ref x]/\GP C H x ts/\GK ts/\∀ (r:Addr) (H':Hp) (rs:List Rs),aU H H'->H r=none->iJ H' r rs->fM rs=Of.JV (tabs ts)->Q (.ref r) H'
structure Rl where
 a:Addr
 bs:List Bool
def bF (rs:List Rl):List V:=rs.map fun r=>V.ref r.a
structure IW (H:Hp)(a:Addr)(rs:List Rl):Prop where
 lst:H a=some (.lst (bF rs))
 each:∀ r∈rs,H r.a=some (.lst (r.bs.map V.bl))
theorem IW.same {H H':Hp}{a:Addr}{rs:List Rl}(s:aU H H')(h:IW H a rs):IW H' a rs:=⟨s _ _ h.lst,fun r hr=>s _ _ (h.each r hr)⟩
theorem lB (rs:List Rl):(bF rs).length=rs.length:=aDe _
theorem JM {rs:List Rl}{i:Nat}{v:V}(h:(bF rs)[i]? = some v):∃ x,rs[i]? = some x/\v=.ref x.a:=by
 unfold bF at h;rw [aDm] at h;cases e:rs[i]? with
 | none=>rw [e] at h; cases h
 | some x=>rw [e] at h; cases h; exact ⟨x,rfl,rfl⟩
theorem Bt (xs:List Rl)(y:Rl):bF (xs++[y])=bF xs++[V.ref y.a]:=by unfold bF; rw [aDq]; rfl
end TD
namespace TD
open PySem L2
theorem JC {P:Addr}{pos:Pos}{qual:Str}{H:Hp}{a:Addr}{xs zs:List V}(t:cN P pos qual H)(e:H a=some (.lst xs)):cN P pos qual (aM H a (.lst zs)):=by
 rcases t with z | ⟨c',z1,z2⟩
 ·exact .inl (by rw [aH (dG z e fun h=>nomatch h)]; exact z)
 ·exact .inr ⟨c',by rw [aH (dG z1 e fun h=>nomatch h)]; exact z1,by rw [aH (dG z2 e fun h=>nomatch h)]; exact z2⟩
theorem KN {P:Addr}{pos:Pos}{qual:Str}{H:Hp}{a C dx:Addr}{fs gs:List (Str×V)}(t:cN P pos qual H)(e:H a=some (.ins C dx fs)):cN P pos qual (aM H a (.ins C dx gs)):=by
 rcases t with z | ⟨c',z1,z2⟩
 ·exact .inl (by rw [aH (dG z e fun h=>nomatch h)]; exact z)
 ·exact .inr ⟨c',by rw [aH (dG z1 e fun h=>nomatch h)]; exact z1,by rw [aH (dG z2 e fun h=>nomatch h)]; exact z2⟩
theorem oN.sameT {H H':Hp}{P:Addr}{pos:Pos}{qual:Str}{a:Addr}{ys:List Row}(s:bN P H H')(t:cN P pos qual H)(h:oN H a ys):oN H' a ys:=⟨s.get t h.tp (fun _ z=>nomatch z),fun y hy=>(h.rows y hy).sameT s t⟩
theorem oN.over {H:Hp}{D a:Addr}{ys:List Row}{xs zs:List V}(h:oN H a ys)(e:H D=some (.lst xs)):oN (aM H D (.lst zs)) a ys:=⟨by rw [aH (dG h.tp e fun z=>nomatch z)]; exact h.tp,fun y hy=>(h.rows y hy).over e⟩
theorem gK.sameT {H H':Hp}{P:Addr}{pos:Pos}{qual:Str}{a:Addr}{xs:List Ir}(s:bN P H H')(t:cN P pos qual H)(h:gK H a xs):gK H' a xs:=⟨s.get t h.lst (fun _ z=>nomatch z),fun y hy=>s.get t (h.rows y hy) (fun _ z=>nomatch z)⟩
theorem pD.sameT {H H':Hp}{P:Addr}{pos:Pos}{qual:Str}{a:Addr}{ls:List Ls}(s:bN P H H')(t:cN P pos qual H)(h:pD H a ls):pD H' a ls:=⟨s.get t h.lst (fun _ z=>nomatch z),fun l hl=>(h.each l hl).sameT s t⟩
theorem N7.over_ins {H:Hp}{k x C dx:Addr}{ts:List Tn}{fs gs:List (Str×V)}(h:N7 H k ts)(e:H x=some (.ins C dx fs)):N7 (aM H x (.ins C dx gs)) k ts:=by
 refine ⟨by rw [aH (dG h.tp e fun z=>nomatch z)]; exact h.tp,fun t ht=>⟨by rw [aH (dG (h.each t ht).tp e fun z=>nomatch z)]; exact (h.each t ht).tp,fun y hy=>⟨?_,?_⟩⟩⟩
 ·have a:=((h.each t ht).rows y hy).1;rw [aH (dG a e fun z=>nomatch z)]; exact a
 ·have a:=((h.each t ht).rows y hy).2;rw [aH (dG a e fun z=>nomatch z)]; exact a
theorem gK.over {H:Hp}{D a:Addr}{xs:List Ir}{us zs:List V}(h:gK H a xs)(e:H D=some (.lst us))(n:a≠D):gK (aM H D (.lst zs)) a xs:=⟨by rw [aH n]; exact h.lst,fun x hx=>by have z:=h.rows x hx; unfold Cq at z ⊢; rw [aH (dG z e fun w=>nomatch w)]; exact z⟩
theorem pD.push {H:Hp}{D:Addr}{ls:List Ls}{l:Ls}(h:pD H D ls)(hl:gK H l.a l.xs)(hn:∀ x∈ls,x.a≠D)(n:l.a≠D):pD (aM H D (.lst (bG ls++[.ref l.a]))) D (ls++[l]):=by
 refine ⟨by rw [aA,Aw],fun x hx=>?_⟩;rcases aDy.mp hx with z | z
 ·exact (h.each x z).over h.lst (hn x z)
 ·rw [aDw.mp z]; exact hl.over h.lst n
theorem xG {α β:Type}{f:α->β}{xs ys:List α}(h:xs.map f=ys.map f){i:Nat}{y:α}(hy:ys[i]? = some y):∃ x,xs[i]? = some x/\f x=f y:=by
 have e:=congrArg (fun l=>l[i]?) h;simp only [aDm] at e;rw [hy] at e;cases hx:xs[i]? with
 | none=>rw [hx] at e; cases e
 | some x =>
  rw [hx] at e;exact ⟨x,rfl,by injection e⟩
theorem nM (n:Nat):(aEs n).all (fun _=>true)=true:=by simp
theorem yQ {K:PySem.W.Frag}{H:Hp}{a b:Addr}{bs:List Bool}{n:Nat}(h1:H a=some (.lst (bs.map V.bl)))(h2:H b=some (.lst (bs.map V.bl))):DE K H (n+1) (.ref a) (.ref b) true:=by
 have z:=DE.lst (K:=K) (H:=H) (n:=n) (fun _=>true) (bB.of h1) (bB.of h2) rfl fun j x y hx hy=>by
  rw [hx] at hy;cases hy;rw [aDm] at hx;cases e:bs[j]? with
  | none=>rw [e] at hx; cases hx
  | some c =>
   rw [e] at hx;cases hx;have:=DE.bl (K:=K) (H:=H) n c c;rw [beq_self_eq_true] at this;exact this
 rw [nM] at z;exact z
theorem yF {K:PySem.W.Frag}{H:Hp}{a b:Addr}{t u:Int}{n:Nat}(h1:H a=some (.tup [.int t,.int u]))(h2:H b=some (.tup [.int t,.int u])):DE K H (n+1) (.ref a) (.ref b) true:=by
 have z:=DE.tup (K:=K) (H:=H) (n:=n) (fun _=>true) (cW.of h1) (cW.of h2) fun j x y hx hy=>by
  rw [hx] at hy;cases hy;have:x=.int t∨x=.int u:=by
   have m:=aDi hx
   simpa using m
  rcases this with rfl | rfl
  ·have:=DE.int (K:=K) (H:=H) n t t;rw [beq_self_eq_true] at this;exact this
  ·have:=DE.int (K:=K) (H:=H) n u u;rw [beq_self_eq_true] at this;exact this
 rw [nM] at z;exact z
theorem Qy {K:PySem.W.Frag}{H:Hp}{a b:Addr}{rs zs:List Rs}(h1:iJ H a rs)(h2:iJ H b zs)(e:fM rs=fM zs):DE K H 2 (.ref a) (.ref b) true:=by
 have el:rs.length=zs.length:=by have:=congrArg aDP e; rwa [cT,cT] at this
 have z:=DE.lst (K:=K) (H:=H) (n:=1) (fun _=>true) (bB.of h1.lst) (bB.of h2.lst) (by rw [bO,bO,el]) fun j x y hx hy=>by
  obtain ⟨u,hu,rfl⟩:=iM hx;obtain ⟨v,hv,rfl⟩:=iM hy;obtain ⟨u',hu',eb⟩:=xG (f:=fun r:Rs=>(r.t,r.b)) e hv;rw [hu] at hu';cases hu';have a1:=h1.at_ u (aDi hu);have a2:=h2.at_ v (aDi hv);unfold tX at a1 a2;have e1:u.t=v.t:=congrArg Prod.fst eb;have e2:u.b=v.b:=congrArg Prod.snd eb;rw [<- e1,<- e2] at a2;exact yF a1 a2
 rw [nM] at z;exact z
theorem wU {α β:Type}{f:α->β}{xs ys:List α}{x y:α}{i:Nat}(e:xs.map f=(ys.take i).map f)(h:ys[i]? = some y)(hf:f x=f y):(xs++[x]).map f=(ys.take (i+1)).map f:=by
 rw [aDq,e,take_snoc h,aDq];show _++[f x]=_++[f y]
 rw [hf]
end TD
namespace L2
open PySem
def DK (h h':Heap):Prop:=∀ b o,h.get? b=some o->∃ o',h'.get? b=some o'/\o'.dict=o.dict
theorem DK.refl (h:Heap):DK h h:=fun _ o e=>⟨o,e,rfl⟩
theorem DK.trans {h1 h2 h3:Heap}(a:DK h1 h2)(b:DK h2 h3):DK h1 h3:=fun c o e =>
 let ⟨o1,e1,d1⟩:=a c o e
 let ⟨o2,e2,d2⟩:=b c o1 e1
 ⟨o2,e2,d2.trans d1⟩
def Tame {α:Type}(t:Sem α):Prop:=∀ (M:Model) (Γ:Ctx) (Q:α->Pos->Shared->Prop) (E:Value->Pos->Shared->Prop) (p:Pos) (s:Shared),Sem.wp M Γ t Q E p s->Sem.wp M Γ t (fun a p' s'=>Q a p' s'/\DK s.heap s'.heap) E p s
section
variable {α β:Type}
theorem bY (a:α):Tame (pure a:Sem α):=fun M Γ Q E p s h=>⟨h,.refl _⟩
theorem gW (w:String):Tame (unsupported w:Sem α):=fun M Γ Q E p s h=>h
theorem bI {m:Sem α}{f:α->Sem β}(hm:Tame m)(hf:∀ a,Tame (f a)):Tame (m >>= f):=by
 intro M Γ Q E p s h;rw [Sem.wp_bind'] at h ⊢;refine Sem.wp_mono M Γ m (fun a p' s' z=>?_) (fun _ _ _ z=>z) p s (hm M Γ _ E p s h);exact Sem.wp_mono M Γ (f a) (fun b p2 s2 y=>⟨y.1,z.2.trans y.2⟩) (fun _ _ _ y=>y) p' s' (hf a M Γ _ E p' s' z.1)
theorem sE (a:Addr):Tame (load a):=fun M Γ Q E p s ⟨o,e,h⟩=>⟨o,e,h,.refl _⟩
theorem pF:Tame stack:=fun M Γ Q E p s h=>⟨h,.refl _⟩
theorem Ep (o:Obj):Tame (alloc o):=fun M Γ Q E p s h=>⟨h,fun b o' e=>⟨o',aDf _ e,rfl⟩⟩
theorem tG {a:Addr}{f:Obj->Obj}(hf:∀ o,(f o).dict=o.dict/\(f o).isFreed=o.isFreed):Tame (update a f):=by
 rintro M Γ Q E p s ⟨hi,h⟩;refine ⟨hi,h,fun b o e=>?_⟩
 by_cases z:a=b
 ·subst z;obtain ⟨e1,e2⟩:=Heap.get?_some_iff.mp e;exact ⟨f o,aEn f e ((hf o).2.trans e2),(hf o).1⟩
 ·exact ⟨o,(aFs _ f z).trans e,rfl⟩
theorem gB {c:Prop}[Decidable c]{a b:Sem α}(ha:Tame a)(hb:Tame b):Tame (if c then a else b):=by split <;> assumption
theorem wF (v:Value):Tame (fieldsOf v):=by
 unfold fieldsOf
 split
 ·refine bI (sE _) fun o=>?_
  split
  ·exact bY _
  ·exact gW _
 ·exact gW _
theorem lZ (v:Value)(i:Nat):Tame (field v i):=by
 unfold field;refine bI (wF v) fun vs=>?_
 split
 ·exact bY _
 ·exact gW _
theorem tW (g:Array Value->Array Value)(o:Obj):(Obj.mapFields g o).dict=o.dict/\(Obj.mapFields g o).isFreed=o.isFreed:=by
 obtain ⟨c,d,da,sl⟩:=o;cases da <;> exact ⟨rfl,rfl⟩
theorem kY (v:Value)(i:Nat)(x:Value):Tame (setField v i x):=by
 unfold setField
 split
 ·unfold updateField;refine bI (sE _) fun o=>?_
  split
  ·exact gB (tG (tW _)) (gW _)
  ·exact gW _
 ·exact gW _
theorem jO (e:Value)(f:Option Addr):Tame (setFlight e f):=by
 unfold setFlight;exact bI (lZ e 1) fun tb=>gB (kY _ _ _) (bY _)
theorem uQ:∀ l:List Env,Tame (readyFrames l)
 | []=>bY _
 | env::outer=>by
  unfold readyFrames
  split
  ·refine bI (sE _) fun o=>gB (bY _) (bI ?_ fun b=>bI ?_ fun back=>bI (tG fun o=>⟨rfl,by obtain ⟨_,_,d,_⟩:=o; cases d <;> rfl⟩) fun _=>uQ outer)
   ·unfold behindIsImport;refine gB (bY _) (gB (bY _) (bI (lZ _ _) fun _=>bY _))
   ·unfold keptBack
    split
    ·refine gB (bY _) (bI ?_ fun b=>bY _);exact bI pF fun _=>bY _
    ·exact bY _
  ·exact gW _
theorem zH (env:Env):Tame (frameOf env):=by
 unfold frameOf;refine bI (bI pF fun _=>bY _) fun l=>bI ?_ fun f=>?_
 ·unfold frameObject
  split
  ·exact bY _
  ·exact bI (uQ _) fun _=>bY _
 ·split
  ·exact bY _
  ·exact gW _
theorem Ea (f:Addr)(b:Bool):Tame (entryPlaceOf f b):=by
 unfold entryPlaceOf;refine bI pF fun acts=>?_
 split
 ·exact bY _
 ·exact bY _
theorem xP (T:String)(d:Data):Tame (newObjAsIs (.type T) d):=bI (Ep _) fun _=>bY _
theorem Fl (a b c d e:Value)(pl:List Value):Tame (EntryCells.newEntry a b c d e pl):=by
 unfold EntryCells.newEntry newFields newObj;generalize ([a,b,c,d,e]++if pl.isEmpty=true then aDx 6 Value.none else pl)=l;exact gB (bI (gW _) fun _=>xP _ _) (xP _ _)
theorem xQ (e:Value)(env:Env):Tame (noteFrame e env):=by
 unfold noteFrame
 split
 ·refine bI (lZ e 1) fun head=>?_;have rest:∀ f:Addr,Tame (do setField e 1 (<- EntryCells.newEntry head (<- frameOf env) .none (rawInt f) .none (<- entryPlaceOf f (head != .none)))):=fun f =>
   bI (zH env) fun a=>bI (Ea _ _) fun pl=>bI (Fl _ _ _ _ _ _) fun b=>kY _ _ _
  refine gB (bI (lZ _ _) fun x=>gB (bY _) (bI (kY _ _ _) fun _=>rest _)) (rest _)
 ·exact gW _
theorem zO (env:Env)(e:Value):Tame (leaving env e):=bI (xQ e env) fun _=>jO e none
theorem mC {t:Sem α}(ht:Tame t){M:Model}{A:Around}{Q:α->Shared->Prop}{E:Value->Shared->Prop}{s:Shared}(h:wpAny M A t Q E s):wpAny M A t (fun a s'=>Q a s'/\DK s.heap s'.heap) E s :=
 fun Γ p hΓ=>ht M Γ _ _ p s (h Γ p hΓ)
end
end L2
namespace L2
open PySem PySem.Spec PyProof.Rows
def dk (od:Option Addr)(a:Addr)(h:Heap):Prop:=∀ d,od=some d->∃ o,h.get? a=some o/\o.dict=some d
theorem dk.step {od:Option Addr}{a:Addr}{h h':Heap}(x:dk od a h)(k:DK h h'):dk od a h':=fun d e =>
 let ⟨o,g,q⟩:=x d e
 let ⟨o',g',q'⟩:=k a o g
 ⟨o',g',q'.trans q⟩
theorem dk.none {a:Addr}{h:Heap}:dk none a h:=fun _ z=>nomatch z
def xR (P:Program)(w:World):Al:=fun outer H s E e s' =>
 ∃ (a:Addr) (cls a0:Value) (H':Hp) (B:Heap) (od:Option Addr),e=.ref a/\s'.os=s.os/\AllBare s'.gens/\Un (qW outer) [] H H' s.heap s'.heap/\n6 P w H' s'.heap/\aEW B outer a cls a0 s'.heap ∧
  (∀ b o,s.heap.get? b=some o->b∉qW outer->∃ o',B.get? b=some o')/\(∀ b u,H' b=some u->∃ o',B.get? b=some o')/\dk od a s'.heap/\E cls od H'
section
variable {P:Program}{w:World}{H H':Hp}{B h0 h1 h2:Heap}{fs:List Addr}
theorem Gf (b1:B.StaysIn h1)(b2:B.StaysIn h2){b:Addr}{o:Obj}(q:h1.get? b=some o)(x:∃ o',B.get? b=some o'):h2.get? b=some o:=by
 obtain ⟨o',e⟩:=x;have:=b1 b o' e;rw [q] at this;cases this;exact b2 b _ e
theorem FP (u:Un fs [] H H' h0 h1)(b1:B.StaysIn h1)(b2:B.StaysIn h2)(up:h1.UpToSlots h2)(nf:∀ b∈fs,∃ o,h1.get? b=some o/\∀ vs,o.data≠.fields vs)
  (hB:∀ b o,h0.get? b=some o->b∉fs->∃ o',B.get? b=some o'):Un fs [] H H' h0 h2:=by
 refine ⟨fun b o q n hb hx=>Gf b1 b2 (u.keep b o q n hb hx) (hB b o q hb),fun b o q n hb hx=>?_,u.free,fun b o q hx=>?_,u.tups,u.frzs,u.tbls⟩
 ·obtain ⟨sl,e⟩:=u.slot b o q n hb hx;obtain ⟨o1,e1,d1⟩:=nf b hb;rw [e] at e1;cases e1;obtain ⟨sl2,e2⟩:=up b _ e d1;exact ⟨sl2,e2⟩
 ·by_cases hb:b∈fs
  ·obtain ⟨o1,e1,d1⟩:=nf b hb;obtain ⟨sl2,e2⟩:=up b _ e1 d1;exact ⟨_,e2⟩
  ·obtain ⟨o1,e1⟩:=hB b o q hb;exact ⟨_,b2 b _ e1⟩
theorem yW (x:n6 P w H h1)(b1:B.StaysIn h1)(b2:B.StaysIn h2)(hH:∀ b u,H b=some u->∃ o',B.get? b=some o'):n6 P w H h2:=fun a o e =>
 (x a o e).stay (fun b u hb q=>Gf b1 b2 q (by
  rcases hb with rfl | hb
  ·exact hH _ _ e
  ·exact hH _ _ hb)) (fun _ q=>q) fun _ _ q=>q
end
theorem obj_some {P:Program}{w:World}{H:Hp}{h:Heap}{b:Addr}{u:HO}(x:cH P w H h b u)(z:h.get? b=none):False:=by
 cases u with
 | lst xs=>obtain ⟨_,_,_,_,e⟩:=x; rw [z] at e; cases e
 | tup xs=>obtain ⟨_,_,_,_,e,_⟩:=x; rw [z] at e; cases e
 | dK kvs=>obtain ⟨_,_,_,_,o,_,_,e,_⟩:=x; rw [z] at e; cases e
 | dT kvs=>obtain ⟨_,_,_,_,o,_,_,e,_⟩:=x; rw [z] at e; cases e
 | set S n=>obtain ⟨o,_,_,_,e,_⟩:=x; rw [z] at e; cases e
 | ins C dx fs=>obtain ⟨_,_,_,e,_⟩:=x; rw [z] at e; cases e
 | own y=>obtain ⟨_,e⟩:=x; rw [z] at e; cases e
 | xd fs=>obtain ⟨_,⟨_,_,_,e,_⟩,_⟩:=x; rw [z] at e; cases e
 | rng lo hi=>obtain ⟨_,_,_,e⟩:=x; rw [z] at e; cases e
 | frz ob v=>obtain ⟨e,_⟩:=x; rw [z] at e; cases e
 | tbl ps=>have e:=(show h.get? b=some _ from x); rw [z] at e; cases e
 | met f y=>have e:=(show h.get? b=some _ from x); rw [z] at e; cases e
 | ext φ=>obtain ⟨_,⟨_,e⟩,_⟩:=x; rw [z] at e; cases e
theorem yV {env:Env}{outer:List Env}{L b:Addr}(hf:env.frame=some L):b∈qW (env::outer)↔b=L∨b∈qW outer:=by
 unfold qW;rw [aEf,hf];exact aDA
structure Bb (K:PySem.W.Frag)(C:Addr):Prop where
 isx:PySem.W.excIn K C ([.type "ValueError",.type "Exception",.type "BaseException",.type "object"]) "ValueError.__new__" = true
section
variable {X:Cx}
def Throws (X:Cx)(E:XK):Prop:=∀ (pins:List (Addr×Obj)) (σ:St) (H:Hp) (s:Shared) (h':Heap) (e:Addr) (cls:Value) (args:List Value),aQ X pins σ H s->Heap.MadeExcOf s.heap h' e cls args->E cls none H ->
 X.xe (.ref e) { s with heap:=h' }
end
section
variable {P:Program}{w:World}{K:PySem.W.Frag}{mg:Str->Option Value}{base:Heap}{N:List Str}{qual:Str}{scope:Scope}{f:Addr}{cd:Value}{A:Around}{outer:List Env}{s:Shared}{H:Hp}{E:XK}
theorem q9:Throws (pN (xR P w) P w K mg base N qual scope f cd A outer s H E) E:=by
 intro pins σ H1 s1 h' e cls args I mk hE;have hfr:=I.ok.frames;have hst:=I.stack;have nsz:∀ b o,s.heap.get? b=some o->b≠s.heap.objs.size:=fun b o q z=>absurd (aDv q) (by rw [z]; exact aEi _);have hide:∀ b o,s1.heap.get? b=some o->b∉qW (envOfC qual scope s.heap.objs.size f cd::outer)->(PySem.W.hideAll s1.heap (qW (envOfC qual scope s.heap.objs.size f cd::outer))).get? b=some o:=fun b o q hb=>PySem.W.hideAll_get _ q hb;have inS:∀ b o,s.heap.get? b=some o->b∉qW outer->∃ o',(PySem.W.hideAll s1.heap (qW (envOfC qual scope s.heap.objs.size f cd::outer))).get? b=some o':=fun b o q hb=>by
  obtain ⟨o',e'⟩:=I.base.there b o q (by show b∉([]:List Addr); simp);exact ⟨o',hide b o' e' fun z=>((yV rfl).mp z).elim (nsz b o q) hb⟩
 have inH:∀ b u,H1 b=some u->∃ o',(PySem.W.hideAll s1.heap (qW (envOfC qual scope s.heap.objs.size f cd::outer))).get? b=some o':=fun b u q=>by
  have lt:=I.hok.lt q;obtain ⟨o',e'⟩:∃ o',s1.heap.get? b=some o':=by
   have:=I.hok b u q;cases z:s1.heap.get? b with
   | some o'=>exact ⟨o',rfl⟩
   | none=>exact (obj_some this z).elim
  refine ⟨o',hide b o' e' fun z=>?_⟩;have:=I.stkFree b z;rw [q] at this;cases this
 show wpAny (model P w) (A.deeper (envOfC qual scope s.heap.objs.size f cd)) (leaving (envOfC qual scope s.heap.objs.size f cd) (.ref e)) _ _ _;refine wpAny_leaves_madeW (h:=s1.heap) (base:=PySem.W.hideAll s1.heap (qW (envOfC qual scope s.heap.objs.size f cd::outer))) hfr rfl (fun b o q=>PySem.W.of_hideAll _ q)
  (PySem.W.funFrames_hide hst fun env he b hb=>aEj.mpr ⟨env,he,hb⟩) mk fun h'' t fl _ _ up=>?_
 have b1:Heap.StaysIn (PySem.W.hideAll s1.heap (qW (envOfC qual scope s.heap.objs.size f cd::outer))) h':=fun b o q=>mk.keeps _ _ (PySem.W.of_hideAll _ q);refine ⟨e,cls,.ref t,H1,_,none,rfl,I.os,I.bare,?_,yW (I.hok.kept mk.keeps) b1 fl.1 inH,fl,inS,inH,dk.none,hE⟩;have u1:Un (qW outer) [] H H1 s.heap h':=Un.trans (show Un (qW outer) [] H H1 s.heap s1.heap from I.base) (Un.kept mk.keeps);refine FP u1 b1 fl.1 up (fun b hb=>?_) inS;obtain ⟨_,o,ho,hd⟩:=I.funs.mem hb;exact ⟨o,mk.keeps _ _ ho,hd⟩
theorem yH:gR (xR P w) (pN (xR P w) P w K mg base N qual scope f cd A outer s H E) E:=by
 rintro pins σ H1 s1 e s' I ⟨a,cls,a0,H',B,od,rfl,hos,hg,un,hok,fl,inB,inH,hdk,hE⟩;have nsz:∀ b o,s.heap.get? b=some o->b≠s.heap.objs.size:=fun b o q z=>absurd (aDv q) (by rw [z]; exact aEi _);have J:=I.call' (s':=s') (H':=H') (ch:=[]) hos un hok hg (fun b z=>absurd z (by simp));have inS:∀ b o,s.heap.get? b=some o->b∉qW outer->∃ o',B.get? b=some o':=fun b o q hb=>by
  obtain ⟨o',e'⟩:=I.base.there b o q (by show b∉([]:List Addr); simp);exact inB b o' e' fun z=>((yV rfl).mp z).elim (nsz b o q) hb
 show wpAny (model P w) (A.deeper (envOfC qual scope s.heap.objs.size f cd)) (leaving (envOfC qual scope s.heap.objs.size f cd) (.ref a)) _ _ _;refine wpAny_mono (mC (zO _ _) (wpAny_leaves_onW (Q:=fun _ s2=>∃ h2,s2 = { s' with heap:=h2 }/\aEW B outer a cls a0 h2/\s'.heap.UpToSlots h2) I.ok.frames rfl fl fun h'' fl' up=>⟨h'',rfl,fl',up⟩)) (fun _ s2 hq=>?_) fun _ _ z=>z;obtain ⟨⟨h'',rfl,fl',up⟩,kd⟩:=hq;refine ⟨a,cls,a0,H',B,od,rfl,J.os,hg,?_,yW hok fl.1 fl'.1 inH,fl',inS,inH,hdk.step kd,hE⟩;refine FP (show Un (qW outer) [] H H' s.heap s'.heap from J.base) fl.1 fl'.1 up (fun b hb=>?_) inS;obtain ⟨_,o,ho,hd⟩:=fl.2.2.1.mem (aEj.mpr (by
  obtain ⟨env,he,z⟩:=aEj.mp hb;exact ⟨env,aDk _ he,z⟩))
 exact ⟨o,ho,hd⟩
end
abbrev V4:List Value:=[.type "ValueError",.type "Exception",.type "BaseException",.type "object"]
theorem Bb.obj {K:PySem.W.Frag}{h:Heap}{C:Addr}(x:Bb K C)(k:K.In h):∃ (bm:List Value) (N:Addr) (nm q:Str) (bs:List Value) (hdct:Bool) (sn:List Str) (sub:List Value) (ab:Bool) (col:Option Bool) (dd:Option Addr) (k0 k1 k2 k3 k5:Option Value) (mN:Str->Option Value),
  h.get? C=some (excClassObj nm q C N bs bm hdct sn sub ab col dd k0 k1 k2 k3 k5 "ValueError.__new__")/\h.Ns N mN/\mN "__init__" = none/\OwnTail h V4 bm:=by
 have z:=x.isx;unfold PySem.W.excIn at z
 split at z
 case h_2=>cases z
 case h_1 dd cd sl ho =>
  split at z
  case h_2=>cases z
  case h_1 C' bm k0 k1 k2 k3 n k5 hm hs =>
   simp only [aD2,beq_iff_eq,Bool.not_eq_true'] at z;obtain ⟨⟨⟨⟨⟨e1,e2⟩,hdel⟩,ht⟩,hok⟩,hni⟩:=z;subst e1;subst e2;obtain ⟨nm,bs,mro,ns,qn,hd,sn,sub,ab,col,del⟩:=cd;dsimp only at hm hdel hok hni;subst hm;subst hdel;obtain ⟨l⟩:=sl;obtain rfl:l=[k0,k1,k2,k3,some (.builtin "ValueError.__new__"),k5]:=hs;have g:=k _ _ ho;have nn:=PySem.W.isNs_of_in k hok;exact ⟨bm,ns,nm,qn,bs,hd,sn,sub,ab,col,dd,k0,k1,k2,k3,k5,_,g,.of_isNs nn,PySem.W.nsMap_none_of_in k hok hni,PySem.W.tail_of_in k ht⟩
theorem uK {X:Cx}{x:Str}{C:Addr}{E:XK}{np cpos pos:Pos}(T:Throws X E)(hc:X.calm=true)(hg:Gl X x)(hm:X.mg x=some (.ref C))(xc:Bb X.K C)(hd:(x==("__debug__" : Str))=false:=by decide) :
  PS X (.Raise (some (.Call (.Name x np) [] [] cpos)) none pos) (fun _ _ H=>E (.ref C) none H):=by
 intro pins s σ H D I h;obtain ⟨bm,N,nm,q,bs,hdct,sn,sub,ab,col,dd,k0,k1,k2,k3,k5,mN,hC,hN,hni,TL⟩:=xc.obj I.kIn;refine wpAny_Raise_call_subT (C:=C) (nm:=nm) (q:=q) (N:=N) (bs:=bs) (bm:=bm) (hdct:=hdct) (sn:=sn) (sub:=sub) (ab:=ab) (col:=col) (dd:=dd) (k0:=k0) (k1:=k1) (k2:=k2) (k3:=k3) (k5:=k5) PySem.F.excBase_ValueError (mN:=mN)
  (TL.hasType PySem.F.excBase_ValueError.hasBase) (I.ok.hd hc) rfl hni (nZ I hg hm ⟨rfl,?_⟩ hd)
 exact evalArgs_empty ⟨rfl,aDK _,hC,hN,TL,fun h' e mk=>T pins σ H s h' e _ _ I mk h⟩
section
variable {P:Program}{w:World}{K:PySem.W.Frag}{mg:Str->Option Value}{base:Heap}
theorem fC.okX {x qual:Str}{st:Stmt}{f:Addr}{fd:FuncData}{N ps:List Str}{k:Nat}{sp:Sp}(F:fC K x qual st f fd)(S:aP N ps (aG st))(len:∀ vs H Q E,sp vs H Q E->vs.length=ps.length)
  (hbody:∀ (cdv:Value) (A:Around) (outer:List Env) (s:Shared) (H:Hp) (vs:List V) (Q:VK) (E:XK),d8 k (A.deeper (envOfC qual (aG st) s.heap.objs.size f cdv))->sp vs H Q E ->
   ∃ t,qR (pN (xR P w) P w K mg base N qual (aG st) f cdv A outer s H E) (fH st) t/\t { nx:=fun _ H'=>Q .non H',rt:=Q } (start N vs) H):bH P w K mg base (xR P w) (k+1) f fd ps sp:=by
 obtain ⟨oc,od,kV,doc,pm,an,cdv,ct,osl,rfl,lk,hcd⟩:=F.ex;exact Mi lk hcd S len fun A outer s H vs Q E hr hsp=>hbody cdv A outer s H vs Q E hr hsp
def Xi (X:Cx)(st:Stmt)(t:TS):Prop :=
 ∀ (s:Shared) (σ:St) (H:Hp) (D:Ends),aQ X [] σ H s->t D σ H->wpAny (model X.prog X.w) X.A (exec st X.env) (SP X [] D) X.xe s
def Oz (X:Cx)(st:List Stmt)(t:TS):Prop :=
 ∀ (s:Shared) (σ:St) (H:Hp) (D:Ends),aQ X [] σ H s->t D σ H->wpAny (model X.prog X.w) X.A (execs st X.env) (SP X [] D) X.xe s
theorem qR.zero {X:Cx}{st:List Stmt}{t:TS}(h:qR X st t):Oz X st t:=fun s σ H D I q=>h [] s σ H D I q
theorem PS.zero {X:Cx}{st:Stmt}{t:TS}(h:PS X st t):Xi X st t:=fun s σ H D I q=>h [] s σ H D I q
theorem fC.ok0 {x qual:Str}{st:Stmt}{f:Addr}{fd:FuncData}{N ps:List Str}{k:Nat}{sp:Sp}(F:fC K x qual st f fd)(S:aP N ps (aG st))(len:∀ vs H Q E,sp vs H Q E->vs.length=ps.length)
  (hbody:∀ (cdv:Value) (A:Around) (outer:List Env) (s:Shared) (H:Hp) (vs:List V) (Q:VK) (E:XK),d8 k (A.deeper (envOfC qual (aG st) s.heap.objs.size f cdv))->sp vs H Q E ->
   ∃ t,Oz (pN fO P w K mg base N qual (aG st) f cdv A outer s H E).nox (fH st) t/\t { nx:=fun _ H'=>Q .non H',rt:=Q } (start N vs) H):bH P w K mg base fO (k+1) f fd ps sp:=by
 obtain ⟨oc,od,kV,doc,pm,an,cdv,ct,osl,rfl,lk,hcd⟩:=F.ex;refine ⟨len,fun A outer s H args us vs Q E hr e0 hb r hsp=>?_⟩;have hl:=len _ _ _ _ hsp;have KX:K.In s.heap:=e0.mod.kin.keeps fun b o e=>(e0.bs b o e).1;have lim:s.heap.NoLimit:=e0.mod.nolimit.keeps fun b o e=>(e0.bs b o e).1;have hkind:∀ y∈ps.zip us,(aG st).names.lookup y.1=some .local∨((aG st).names.lookup y.1=some .cell/\((cellsFrom (s.heap.objs.size+1) (aG st).names []).lookup y.1).isSome=true):=fun ⟨n,v⟩ hy=>by
  rcases S.par n (aEM hy).1 with q | q
  ·exact .inl q
  ·exact .inr ⟨q,PySem.W.cellsFrom_some _ _ _ (.inl q)⟩
 refine codeAny_call_function hr.depth (KX _ _ lk) rfl S.co S.gen rfl (PySem.W.codeRec_of KX hcd) (hb _ _ _ _ ?_);refine wpAny_newFunctionEnv_cells S.kind hkind fun env he s1 x=>?_;subst he;refine ⟨lim.keeps x.toInCall.keep,codeAny_func ?_⟩;obtain ⟨t,ht,hq⟩:=hbody cdv A outer s H vs Q E (hr.deeper _) hsp;have I:aQ (pN fO P w K mg base N qual (aG st) f cdv A outer s H E) [] (start N vs) H s1:=rP S hr.hd e0 hl r x;refine wpAny_mono (ht s1 (start N vs) H _ (I.wish _) hq) (fun fl s' hs=>?_) fun e s' hs=>False.elim hs;have hs:=SP.unwish hs;have fin:∀ {σ':St}{H':Hp}{v:V}{u:Value},aQ (pN fO P w K mg base N qual (aG st) f cdv A outer s H E) [] σ' H' s'->RelV v u->Q v H'->CE outer P w H s Q u s' :=
  fun {σ' H' v u} J rv q=>⟨v,H',J.os,J.bare,J.base,J.hok,rv,q⟩
 cases fl with
 | ret u =>
  obtain ⟨v,σ',H',J,rv,q⟩:=hs;exact fin J rv q
 | next =>
  obtain ⟨σ',H',J,q⟩:=hs;exact fin (v:=V.non) (u:=Value.none) J rfl q
 | brk =>
  obtain ⟨_,_,_,q⟩:=hs;exact False.elim q
 | cont =>
  obtain ⟨_,_,_,q⟩:=hs;exact False.elim q
end
end L2
namespace L2
open PySem PySem.Spec PySem.Calls PyProof.Rows PySem.W Builtin Builtin.ObjectAttr Builtin.Getset_descriptor
def qI (a:Addr)(cls:Value)(h:Heap):Prop:=∃ o,h.get? a=some o/\o.cls=cls
theorem qI.ty {a:Addr}{cls:Value}{h:Heap}{M:Model}(x:qI a cls h):Looks M h (typeOf (.ref a)) cls:=by
 obtain ⟨o,e,rfl⟩:=x;exact (Looks.ld e).andThen .now
structure Lf (K:Frag)(D:Addr):Prop where
 ga:findIn K (.ref D) "__getattribute__" = some (some (.builtin "BaseException.__getattribute__"))
 gt:findIn K (.ref D) "__getattr__" = some none
 mb:mroIn K D (.type "BaseException")=some true
 cl:(clsIn K D).isSome=true
 fi:findIn K (.ref D) "__class__" = some (some (.builtin "object.__class__"))
 sp:specialIn K (.builtin "object.__class__") "__get__" = some (some (.builtin "getset_descriptor.__get__"))
 tk:takesIn K (.builtin "object.__class__")=some true
 mr:mroIn K D (.type "object")=some true
section
variable {prog:Program}{w:World}{A:Around}{E:Value->Shared->Prop}{s:Shared}{K:Frag}{a D:Addr}
theorem Bo {M:Model}{h:Heap}(k:K.In h)(x:Lf K D):Looks M h (find (.ref a) (.ref D) "__class__") (.bind (.builtin "getset_descriptor.__get__") (.builtin "object.__class__")):=by
 have l3:Looks M h (dataDescriptor? (some (.builtin "object.__class__")) (some (.builtin "getset_descriptor.__get__"))) (some (.builtin "getset_descriptor.__get__",.builtin "object.__class__")):=(looks_takesIn (M:=M) k x.tk).andThen .now;exact (looks_findIn (M:=M) k x.fi).andThen ((looks_specialIn (M:=M) k x.sp).andThen (l3.andThen (Looks.tag .now)))
theorem rW {R:Result->Shared->Prop}(k:K.In s.heap)(i:qI a (.ref D) s.heap)(hm:mroIn K D (.type "object")=some true)(h:R (.ok (.ret (.ref D))) s) :
  codeAny (model prog w) A (.call (.builtin "getset_descriptor.__get__") ⟨[.builtin "object.__class__",.ref a,.ref D],[]⟩) R s:=by
 obtain ⟨hh,gg,dr,tt,os⟩:=s;have ly:=i.ty (M:=model prog w);have lm:=looks_mroIn (M:=model prog w) k hm;refine codeAny_call_builtin KF.slot_gs.plain KF.entry_gs (KF.slot_gs.check _ _ _ _ _ _ _ _ KF.type_class (KF.args_gs _ _ _) ?_);unfold Builtin.«getset_descriptor.__get__»;unfold descrGet;rw [dga_obj];refine wpAny_bind (wpAny_pure ?_);unfold descrGetter;unfold descrCheckInstance descrNameAndClass;unfold isInstance;simp only [KF.owner_class]
 repeat lk
 refine ⟨Code.quiet_builtin _ (by decide +kernel),codeAny_builtin KF.entry_class ?_⟩;unfold Builtin.«object.__class__»;unfold shownTypeOf
 repeat lk
 exact h
theorem MT {tk:Tok}{Q:Fin->Shared->Prop}(k:K.In s.heap)(i:qI a (.ref D) s.heap)(x:Lf K D)(h:Q (.done (.ret (.ref D))) s) :
  wpAny (model prog w) A (Builtin.«object.__getattribute__» ⟨[.ref a,.str "__class__" tk],[]⟩) Q E s:=by
 obtain ⟨hh,gg,dr,tt,os⟩:=s;have ly:=i.ty (M:=model prog w);have lf:=Bo (M:=model prog w) (a:=a) k x;have e1:slotArgs "__getattribute__" 1 ⟨[.ref a,.str "__class__" tk],[]⟩=pure (.ref a,[.str "__class__" tk]):=rfl;unfold Builtin.«object.__getattribute__»;rw [e1];refine wpAny_bind (wpAny_pure ?_);refine wpAny_bind (wpAny_pure (wpAny_bind (ly.at (wpAny_bind (lf.at ?_)))));show wpAny _ _ (bindTo (.builtin "getset_descriptor.__get__") (.builtin "object.__class__") (.ref a) (.ref D)) _ _ _;unfold bindTo
 first
  | exact wpAny_bind (wpAny_holding (wpAny_call (rW k i x.mr (wpAny_pure h))))
  | exact wpAny_bind (wpAny_call (rW k i x.mr (wpAny_pure h)))
  | exact wpAny_pure ⟨Code.quiet_call _ _,rW k i x.mr h⟩
theorem JB {nameV:Value}{Q:Unit->Shared->Prop}{M:Model}(k:K.In s.heap)(i:qI a (.ref D) s.heap)(x:Lf K D)(hq:Q () s):wpAny M A (checkBuiltinCall "BaseException.__getattribute__" ⟨[.ref a,nameV],[]⟩) Q E s:=by
 obtain ⟨hh,gg,dr,tt,os⟩:=s;have ly:=i.ty (M:=M);have lm:=looks_mroIn (M:=M) k x.mb;have hki:builtinKind "BaseException.__getattribute__" = some .slot:=by decide +kernel
 have hsp:splitId "BaseException.__getattribute__" = some ("BaseException","__getattribute__"):=by decide +kernel
 have ha:=PySem.F.args_bexc_ga (.ref a) nameV;simp only [checkBuiltinCall,hki,hsp];unfold isInstance;refine wpAny_bind (wpAny_bind (ly.at (lm.at ?_)))
 repeat (any_goals (first | assumption | wp_step))
theorem Av {Q:Option Value->Shared->Prop}(k:K.In s.heap)(i:qI a (.ref D) s.heap)(x:Lf K D)(h:Q (some (.ref D)) { s with toks:=s.toks+1 }):wpAny (model prog w) A (getAttr? (.ref a) "__class__") Q E s:=by
 obtain ⟨hh,gg,dr,tt,os⟩:=s;have ly:=i.ty (M:=model prog w);have lga:=looks_findIn (M:=model prog w) k x.ga;have lgt:=looks_findIn (M:=model prog w) k x.gt;unfold getAttr? getAttrBy?;unfold getAttrBy;refine wpAny_bind (wpAny_mkText (wpAny_bind (wpAny_attempt (wpAny_holding (wpAny_bind (ly.at (wpAny_bind (lga.at ?_))))))));show wpAny _ _ (getAttrByItsOwn _ _ _ _ _ _) _ _ _;unfold getAttrByItsOwn;refine wpAny_bind (lgt.at ?_);refine wpAny_bind (wpAny_attempt (wpAny_holding ?_));show wpAny _ _ (boundAndCalled _ _ _) _ _ _;unfold boundAndCalled;rw [PySem.F.attr_ValueError.ga.bind (.ref a)];refine wpAny_bind (wpAny_pure (wpAny_call (codeAny_call_builtin PySem.F.attr_ValueError.ga.plain PySem.F.entry_bexc_ga (JB (s:=⟨hh,gg,dr,tt+1,os⟩) k i x (MT (s:=⟨hh,gg,dr,tt+1,os⟩) k i x ?_)))));refine handed_on rfl ?_;exact wpAny_pure h
theorem Mv (x:Lf K D):KitX K (.ref a) (.ref D) (qI a (.ref D)) where
 ty:=fun _ _ _ i=>i.ty
 it:=fun M h k _=>by
  obtain ⟨cd,hc⟩:=aEt.mp x.cl;unfold clsIn at hc
  split at hc
  case h_2=>cases hc
  case h_1 c' d' cd' sl' ho =>
   intro A' Q' E' s' k' q;unfold isType;unfold loadHead;exact wpAny_bind (wpAny_loadPart (k' _ _ (k _ _ ho)) (wpAny_pure q))
 ne:=fun h tp dd its n sl k htp=>by
  obtain ⟨cd,hc⟩:=aEt.mp x.cl;refine aEX.mpr fun q=>?_;obtain rfl:D=tp:=Value.ref.inj (beq_iff_eq.mp q);unfold clsIn at hc
  split at hc
  case h_2=>cases hc
  case h_1 c' d' cd' sl' ho =>
   have z:=(k _ _ ho).symm.trans htp;cases z
 ca:=fun k i q=>Av k i x q
end
section
variable {X:Cx}
theorem pU {K:Frag}(hK:X.K=K):fB X (.builtin "isinstance") (fun xs H Q=>∃ (a D:Addr) (c:V) (u:Value) (b:Bool),xs=[.ref a,c]/\(∀ u',RelV c u'->u'=u)/\H a=some (.ext (qI a (.ref D)))/\Lf K D/\kitOne K (.ref D) u=some b/\Q (.bl b) H):=by
 subst hK;rintro pins s σ H vs us Q I r ⟨a,D,c,u,b,rfl,hu,ha,xt,e,q⟩;obtain ⟨u1,u2,rfl,r1,r2⟩:=vals2 r;obtain rfl:u1=Value.ref a:=r1;obtain rfl:=hu u2 r2;obtain ⟨i,_⟩:=(show cH X.prog X.w H s.heap a (.ext (qI a (.ref D))) from I.hok a _ ha)
 exact kia_one (Mv xt) I.kIn i e (fun z=>nomatch z) fun tk=>⟨.bl b,H,I.tok _,rfl,q⟩
end
end L2
namespace L2
open PySem PySem.Spec PyProof.Rows
abbrev Cx.marked (X:Cx)(a:Addr):Cx:={ X with A:=X.A.mark (some (.ref a)),calm:=false,xe:=fun _ _=>False }
def Yc (X:Cx)(G:XK)(e:Value)(s':Shared):Prop :=
 ∃ (a:Addr) (cls a0:Value) (σ':St) (H':Hp) (B:Heap) (od:Option Addr),e=.ref a/\aQ X [] σ' H' s'/\aEW B X.stack a cls a0 s'.heap/\(∀ b o,X.s₀.heap.get? b=some o->b∉X.fs->∃ o',B.get? b=some o') ∧
  (∀ b u,H' b=some u->∃ o',B.get? b=some o')/\dk od a s'.heap/\G cls od H'
abbrev XeT (X:Cx)(G:Value->Hp->Prop):Value->Shared->Prop:=Yc X fun cls _ H'=>G cls H'
section
variable {X:Cx}{σ:St}{H:Hp}{s:Shared}{a:Addr}{h':Heap}{B:Heap}
theorem aQ.mark (I:aQ X [] σ H s)(a:Addr):aQ (X.marked a) [] σ H s :=
 ⟨⟨I.ok.mod,I.ok.kind,I.ok.glob,I.ok.blt,I.ok.above,I.ok.inj,I.ok.has,I.ok.cab,fun z=>aF1 (show false=true from z),I.ok.frames,I.ok.stk,I.ok.exf,I.ok.bs,I.ok.bsz,I.ok.noex,I.ok.exfs,I.ok.funs,I.ok.frf⟩,I.os,I.bare,I.base,I.loc,I.cell,I.free,I.freeC,I.pin,I.hok,I.len⟩
theorem aQ.unmark (ok:X.Ok)(I:aQ (X.marked a) [] σ H s):aQ X [] σ H s:=⟨ok,I.os,I.bare,I.base,I.loc,I.cell,I.free,I.freeC,I.pin,I.hok,I.len⟩
theorem aQ.fly (hex:X.ex=[])(hpn:X.pn=[])(I:aQ X [] σ H s)(b1:B.StaysIn s.heap)(b2:B.StaysIn h')(up:s.heap.UpToSlots h')(hB:∀ b o,X.s₀.heap.get? b=some o->b∉X.fs->∃ o',B.get? b=some o')
  (hH:∀ b u,H b=some u->∃ o',B.get? b=some o'):aQ X [] σ H { s with heap:=h' }:=by
 have cellK:∀ c v,s.heap.IsCell c v->h'.IsCell c v:=fun c v ⟨o,ho,hd⟩=>by
  obtain ⟨sl,e⟩:=up c o ho (fun vs z=>by rw [hd] at z; cases z);exact ⟨_,e,hd⟩
 refine ⟨I.ok,I.os,I.bare,?_,?_,fun x c e=>let ⟨v,z⟩:=I.cell x c e; ⟨v,cellK c v z⟩,I.free,I.freeC,fun p hp=>?_,yW I.hok b1 b2 hH,I.len⟩
 ·rw [hex];refine FP (by have:=I.base; rw [hex] at this; exact this) b1 b2 up (fun b hb=>?_) hB;obtain ⟨_,o,ho,hd⟩:=I.funs.mem hb;exact ⟨o,ho,hd⟩
 ·obtain ⟨m,hn,hl⟩:=I.loc;refine ⟨m,up.ns hn,fun i x v e1 e2 e3=>?_⟩;obtain ⟨u,r,l⟩:=hl i x v e1 e2 e3;refine ⟨u,r,?_⟩;rcases l with l | ⟨k,c,e,z⟩
  ·exact .inl l
  ·exact .inr ⟨k,c,e,cellK _ _ z⟩
 ·rw [hpn] at hp;exact absurd hp (by simp)
theorem aQ.trackX {o:HO}(hex:X.ex=[])(hpn:X.pn=[])(I:aQ X [] σ H s)(n:H a=none)(n0:X.s₀.heap.get? a=none)(nL:a≠X.env.locals)(nC:∀ x c,X.env.cells.lookup x=some c->c≠a)(new:cH X.prog X.w (aM H a o) s.heap a o) :
  aQ X [] σ (aM H a o) s:=by
 have ne:∀ b u,H b=some u->b≠a:=fun b u q z=>by rw [z,n] at q; cases q
 have ne0:∀ b u,X.s₀.heap.get? b=some u->b≠a:=fun b u q z=>by rw [z,n0] at q; cases q
 refine ⟨I.ok,I.os,I.bare,⟨I.base.keep,I.base.slot,fun b u q nb hx=>?_,I.base.there,fun b xs q=>?_,fun b ob u q=>?_,fun b ps q=>?_⟩,I.loc,I.cell,?_,fun x c e=>?_,fun p hp=>?_,fun b u q=>?_,I.len⟩
 ·rw [aH (ne0 b u q)]; exact I.base.free b u q nb hx
 ·have z:=I.base.tups b xs q; rw [aH (ne b _ z)]; exact z
 ·have z:=I.base.frzs b ob u q; rw [aH (ne b _ z)]; exact z
 ·obtain ⟨more,z⟩:=I.base.tbls b ps q; exact ⟨more,by rw [aH (ne b _ z)]; exact z⟩
 ·rw [aH (Ne.symm nL)]; exact I.free
 ·rw [aH (nC x c e)]; exact I.freeC x c e
 ·rw [hpn] at hp;exact absurd hp (by simp)
 ·by_cases z:b=a
  ·subst z; rw [aA] at q; cases q; exact new
  ·rw [aH z] at q;exact (I.hok b u q).stay (fun _ _ _ r=>r) (fun c r=>by rw [aH (ne c _ r)]; exact r) fun c xs r=>by rw [aH (ne c _ r)]; exact r
theorem aQ.unbind {i:Nat}{n:Str}{pins:List (Addr×Obj)}{M:Model}{A:Around}{E:Value->Shared->Prop}{pos:Pos}{Q:Unit->Shared->Prop}(I:aQ X pins σ H s)(hN:X.N.Nodup)(hi:X.N[i]? = some n)(hk:X.env.scope.names.lookup n=some .local)(hf:X.fn n=true)
  (h:∀ s',aQ X pins (σ.set i none) H s'->Q () s'):wpAny M A (do bindName X.env n .none; unbindBehindTheSuite X.env n pos) Q E s:=by
 have hcls:(X.env.scope.kind==.class||(X.env.scope.kind==.module&&X.env.locals != X.env.globals))=false:=by rw [I.ok.kind]; rfl
 refine wpAny_bind (wpAny_bindName (oH (v:=V.non) I hN hi (.inl hk) rfl (fun s1 I1 _=>?_) (.inl hf)));unfold unbindBehindTheSuite;refine wpAny_onRaise ?_;obtain ⟨m,hn,hl⟩:=id I1.loc;have hiσ:i < σ.length:=by rw [I.len]; exact (aDr.mp hi).1
 obtain ⟨u,ru,lk⟩:=hl i n .non hi (by rw [aEy hiσ]) (.inl hk);have hm:m n=some u:=by
  rcases lk with ⟨_,e⟩ | ⟨k,_⟩
  ·exact e
  ·have hk':X.env.kindOf n=some .local:=hk;rw [hk'] at k;rcases k with k | k <;> cases k
 refine wpAny_unbindName_local hk hn hm hcls fun h2 u2 hn2 hs2=>?_;obtain ⟨oL,_,_,hoL,_⟩:=id hn;have other:∀ b o,s1.heap.get? b=some o->b≠X.env.locals->h2.get? b=some o:=fun b o q nb=>(hs2.2 b nb).trans q;have gt:∀ b o,X.s₀.heap.get? b=some o->b≠X.env.locals:=fun b o q=>aDI (aDG (aDv q) I.ok.above);refine h _ ⟨I1.ok,I1.os,I1.bare,⟨fun b o q nb hb hx=>other b o (I1.base.keep b o q nb hb hx) (gt b o q),fun b o q nb hb hx=>?_,I1.base.free,fun b o q hx=>?_,I1.base.tups,I1.base.frzs,I1.base.tbls⟩,⟨_,hn2,fun j y v e1 e2 e3=>?_⟩,fun y c e=>?_,I1.free,I1.freeC,fun p hp=>?_,fun b ob e=>?_,by simpa using I.len⟩
 ·obtain ⟨sl,e⟩:=I1.base.slot b o q nb hb hx;exact ⟨sl,other b _ e (gt b o q)⟩
 ·obtain ⟨o',e⟩:=I1.base.there b o q hx;exact ⟨o',other b _ e (gt b o q)⟩
 ·have hj:j≠i:=by
   rintro rfl;rw [aEy hiσ] at e2;cases e2
  rw [aED (Ne.symm hj)] at e2;obtain ⟨u',r',q⟩:=hl j y v e1 (by rw [aED (Ne.symm hj)]; exact e2) e3;refine ⟨u',r',?_⟩;rcases q with ⟨k,e⟩ | ⟨k,c,e,o,ho,hd⟩
  ·refine .inl ⟨k,?_⟩;have:y≠n:=fun e=>hj (vL hN e1 (e ▸ hi));show (if y=n then u2 else m y)=some u';rw [if_neg this];exact e
  ·exact .inr ⟨k,c,e,o,other c o ho (I1.cne y c e),hd⟩
 ·obtain ⟨v,o,ho,hd⟩:=I1.cell y c e;exact ⟨v,o,other c o ho (I1.cne y c e),hd⟩
 ·obtain ⟨e,n',ne,nf,d⟩:=I1.pin p hp;exact ⟨other _ _ e ne,n',ne,nf,d⟩
 ·refine (I1.hok b ob e).stay (fun c w' hc q=>other c w' q ?_) (fun _ q=>q) fun _ _ q=>q;rintro rfl;rcases hc with rfl | hc
  ·rw [I1.free] at e; cases e
  ·rw [I1.free] at hc; cases hc
end
section
variable {X:Cx}
theorem Cw {G:XK}(hst:X.stack=X.env::X.outer)(hf:X.env.frame=some X.env.locals)(hex:X.ex=[])(hpn:X.pn=[]):gR (xR X.prog X.w) (X.wish (Yc X G)) G:=by
 rintro pins σ H s e s' I ⟨a,cls,a0,H',B,od,rfl,hos,hg,un,hok,fl,inB,inH,hdk,hE⟩;have J:=(I.unwish.pins_of (pins':=[]) (fun p hp=>absurd hp (by simp))).call' (s':=s') (H':=H') (ch:=[]) hos un hok hg (fun b z=>absurd z (by simp));refine ⟨a,cls,a0,σ,H',B,od,rfl,J,fl,fun b o q hb=>?_,inH,hdk,hE⟩;obtain ⟨o',e'⟩:=I.base.there b o q (by show b∉X.ex; rw [hex]; simp);refine inB b o' e' fun z=>?_;have z':b∈qW X.stack:=z;rw [hst] at z';rcases (yV hf).mp z' with z' | z'
 ·exact absurd z' (aDI (aDG (aDv q) I.ok.above))
 ·exact hb z'
theorem mD {G:Value->Hp->Prop}(hst:X.stack=X.env::X.outer)(hf:X.env.frame=some X.env.locals)(hex:X.ex=[])(hpn:X.pn=[]):gR (xR X.prog X.w) (X.wish (XeT X G)) (fun cls _ H'=>G cls H'):=Cw hst hf hex hpn
def Ends.back (D:Ends)(i:Nat):Ends:={ nx:=fun σ' H''=>D.nx (σ'.set i none) H'',rt:=D.rt,bk:=fun σ' H''=>D.bk (σ'.set i none) H'',ct:=fun σ' H''=>D.ct (σ'.set i none) H'' }
def RZ (φ:Addr->Value->Option Addr->Heap->Prop)(K:PySem.W.Frag)(C:Addr)(len i:Nat)(ts:Addr->TS)(D:Ends):XK:=fun cls od H'=>PySem.W.exmOne K cls (.ref C)=some true/\∀ a,H' a=none->ts a (D.back i) ((aDx len none).set i (some (.ref a))) (aM H' a (.ext (φ a cls od)))
def Wz (φ:Addr->Value->Option Addr->Heap->Prop)(K:PySem.W.Frag)(C:Addr)(len i:Nat)(tb:XK->TS)(ts:Addr->TS):TS:=fun D σ H=>tb (RZ φ K C len i ts D) D σ H
def Zn (K:PySem.W.Frag)(C:Addr)(len i:Nat)(tb:(Value->Hp->Prop)->TS)(ts:Addr->TS):TS:=fun D σ H =>
 tb (fun cls H'=>PySem.W.exmOne K cls (.ref C)=some true/\∀ a,H' a=none->ts a { nx:=fun σ' H''=>D.nx (σ'.set i none) H'',rt:=D.rt,bk:=fun σ' H''=>D.bk (σ'.set i none) H'',ct:=fun σ' H''=>D.ct (σ'.set i none) H'' }
  ((aDx len none).set i (some (.ref a))) (aM H' a (.ext (qI a cls)))) D σ H
def Wh (X:Cx)(φ:Addr->Value->Option Addr->Heap->Prop)(C:Addr)(i:Nat)(ts:Addr->TS)(D:Ends)(e:Value)(s1:Shared):Prop :=
 ∃ (a:Addr) (cls a0:Value) (σ':St) (H':Hp) (B:Heap) (od:Option Addr),e=.ref a/\aQ X [] σ' H' s1/\aEW B X.stack a cls a0 s1.heap/\(∀ b o,X.s₀.heap.get? b=some o->b∉X.fs->∃ o',B.get? b=some o') ∧
  (∀ b u,H' b=some u->∃ o',B.get? b=some o')/\dk od a s1.heap/\PySem.W.exmOne X.K cls (.ref C)=some true/\∀ a,H' a=none->ts a (D.back i) (σ'.set i (some (.ref a))) (aM H' a (.ext (φ a cls od)))
theorem Lw {φ:Addr->Value->Option Addr->Heap->Prop}{body suite:List Stmt}{b0:Stmt}{x n:Str}{np hpos pos:Pos}{C:Addr}{i:Nat}{ts:Addr->TS}{s:Shared}{σ:St}{H:Hp}{D:Ends}(hst:X.stack=X.env::X.outer)(hf:X.env.frame=some X.env.locals)(hex:X.ex=[])(hpn:X.pn=[])
  (hN:X.N.Nodup) (hi:X.N[i]? = some n) (hk:X.env.scope.names.lookup n=some .local) (hfn:X.fn n=true) (hg:Gl X x) (hm:X.mg x=some (.ref C))
  (hφ:∀ a od h o vs,h.get? a=some o->o.data=.fields vs->dk od a h->φ a o.cls od h) (hφ2:∀ a cls od (h1 h2:Heap),φ a cls od h1->(∀ o,h1.get? a=some o->h2.get? a=some o)->φ a cls od h2)
  (I:aQ X [] σ H s) (hb:wpAny (model X.prog X.w) X.A (execs body X.env) (SP X [] D) (Wh X φ C i ts D) s) (hs:∀ a,qR (X.marked a) (b0::suite) (ts a)) (hd:(x==("__debug__" : Str))=false:=by decide) :
  wpAny (model X.prog X.w) X.A (exec (.Try body [.ExceptHandler (some (.Name x np)) (some n) (b0::suite) hpos] [] [] pos) X.env) (SP X [] D) X.xe s:=by
 refine wpAny_Try_except (wpAny_mono hb (fun fl s1 hq=>?_) fun e s1 hx=>?_)
 ·cases fl with
  | next =>
   obtain ⟨σ',H',J,q⟩:=hq;exact eF [] s1 σ' H' D J q
  | brk=>exact hq
  | cont=>exact hq
  | ret u=>exact hq
 ·obtain ⟨a,cls,a0,σ',H',B,od,rfl,J,fl,inB,inH,hdk,hc,hG⟩:=hx;rw [hst] at fl;refine wpAny_mono (mC (xQ _ _) (wpAny_looks_onW (Q:=fun _ s2=>∃ h2,s2 = { s1 with heap:=h2 }/\Heap.HeldW B (X.env::X.outer) a cls a0 X.env.locals h2/\s1.heap.UpToSlots h2) (by rw [J.ok.frames,hst]) hf fl fun h4 held up4=>⟨h4,rfl,held,up4⟩)) (fun _ s2 hq=>?_) fun _ _ z=>z;obtain ⟨⟨h4,rfl,held,up4⟩,kd4⟩:=hq;refine wpAny_mono (mC (jO _ _) (wpAny_landsW (s:={ s1 with heap:=h4 }) (Q:=fun _ s2=>∃ h2,s2 = { s1 with heap:=h2 }/\aEW B (X.env::X.outer) a cls a0 h2/\h4.UpToSlots h2) held fun h5 fl5 up5'=>⟨h5,rfl,fl5,up5'⟩)) (fun _ s2 hq=>?_) fun _ _ z=>z;obtain ⟨⟨h5,rfl,fl5,up5'⟩,kd5⟩:=hq;have up5:=up4.trans up5';have J5:aQ X [] σ' H' { s1 with heap:=h5 }:=J.fly hex hpn fl.1 fl5.1 up5 inB inH;refine wpAny_handleBy_cons (codeAny_handlers_test (nZ (X:=X.marked a) (J5.mark a) hg hm ?_ hd)) (by intro q; cases q);have kin:X.K.In h5:=J5.kIn;obtain ⟨ob,hob,hobc⟩:=fl5.there;have isx:qI a cls h5:=⟨ob,hob,hobc⟩
  refine (PySem.W.exm_one kin isx.ty hc).here ?_;refine codeAny_handlers_suite_as ?_;refine wpAny_mono (mC (jO _ _) (lands_againW (s:={ s1 with heap:=h5 }) (Q:=fun _ s2=>∃ h2,s2 = { s1 with heap:=h2 }/\aEW B (X.env::X.outer) a cls a0 h2/\h5.UpToSlots h2) fl5 fun h6 fl6 up6=>⟨h6,rfl,fl6,up6⟩)) (fun _ s2 hq=>?_) fun _ _ z=>z;obtain ⟨⟨h6,rfl,fl6,up6⟩,kd6⟩:=hq;have J6:aQ X [] σ' H' { s1 with heap:=h6 }:=J.fly hex hpn fl.1 fl6.1 (up5.trans up6) inB inH;obtain ⟨oe,ws,hoe,hoec,hoed,_⟩:=fl6.first
  have na:H' a=none:=by
   cases z:H' a with
   | none=>rfl
   | some u =>
    obtain ⟨o',e'⟩:=inH a u z;have:=fl6.2.1;rw [e'] at this;cases this
  have nL:a≠X.env.locals:=fun z=>by
   obtain ⟨m,⟨o,es,ep,ho,hd',_⟩,_⟩:=J6.loc;have ho:h6.get? X.env.locals=some o:=ho;rw [<- z,hoe] at ho;cases ho;rw [hoed] at hd';cases hd'
  have n0:X.s₀.heap.get? a=none:=by
   cases z:X.s₀.heap.get? a with
   | none=>rfl
   | some u =>
    by_cases ha:a∈X.fs
    ·obtain ⟨_,o,ho,hd'⟩:=J6.funs.mem ha;have ho:h6.get? a=some o:=ho;rw [hoe] at ho;cases ho;exact absurd hoed (hd' _)
    ·obtain ⟨o',e'⟩:=inB a u z ha;have:=fl6.2.1;rw [e'] at this;cases this
  have nC:∀ x c,X.env.cells.lookup x=some c->c≠a:=fun x c e z=>by
   obtain ⟨v,o,ho,hd'⟩:=J6.cell x c e;have ho:h6.get? c=some o:=ho;rw [z,hoe] at ho;cases ho;rw [hoed] at hd';cases hd'
  have isx6:φ a cls od h6:=by
   have:=hφ a od h6 oe ws hoe hoed (((hdk.step kd4).step kd5).step kd6);rw [hoec] at this;exact this
  have J7:aQ X [] σ' (aM H' a (.ext (φ a cls od))) { s1 with heap:=h6 }:=J6.trackX hex hpn na n0 nL nC ⟨isx6,⟨oe,hoe⟩,hφ2 a cls od⟩;refine oH (X:=X.marked a) (v:=V.ref a) (J7.mark a) hN hi (.inl hk) rfl (fun s9 J9 _=>?_) (.inl hfn);refine wpAny_mono (hs a [] s9 _ _ _ J9 (hG a na)) (fun fl' Nf hq=>?_) fun _ _ z=>False.elim z;show wpAny _ X.A (do bindName X.env n .none; unbindBehindTheSuite X.env n hpos) _ _ Nf;cases fl' with
  | next =>
   obtain ⟨σ2,H2,K2,q⟩:=hq;exact (K2.unmark I.ok).unbind hN hi hk hfn fun s' K3=>⟨_,H2,K3,q⟩
  | brk =>
   obtain ⟨σ2,H2,K2,q⟩:=hq;exact (K2.unmark I.ok).unbind hN hi hk hfn fun s' K3=>⟨_,H2,K3,q⟩
  | cont =>
   obtain ⟨σ2,H2,K2,q⟩:=hq;exact (K2.unmark I.ok).unbind hN hi hk hfn fun s' K3=>⟨_,H2,K3,q⟩
  | ret u =>
   obtain ⟨v,σ2,H2,K2,r,q⟩:=hq;exact (K2.unmark I.ok).unbind hN hi hk hfn fun s' K3=>⟨v,_,H2,K3,r,q⟩
theorem Jh {φ:Addr->Value->Option Addr->Heap->Prop}{body suite:List Stmt}{b0:Stmt}{x n:Str}{np hpos pos:Pos}{C:Addr}{i:Nat}{tb:XK->TS}{ts:Addr->TS}(hst:X.stack=X.env::X.outer)(hf:X.env.frame=some X.env.locals)(hex:X.ex=[])(hpn:X.pn=[])
  (hN:X.N.Nodup) (hi:X.N[i]? = some n) (hk:X.env.scope.names.lookup n=some .local) (hfn:X.fn n=true) (hg:Gl X x) (hm:X.mg x=some (.ref C))
  (hφ:∀ a od h o vs,h.get? a=some o->o.data=.fields vs->dk od a h->φ a o.cls od h) (hφ2:∀ a cls od (h1 h2:Heap),φ a cls od h1->(∀ o,h1.get? a=some o->h2.get? a=some o)->φ a cls od h2)
  (hb:∀ D,qR (X.wish (Yc X (RZ φ X.K C X.N.length i ts D))) body (tb (RZ φ X.K C X.N.length i ts D))) (hs:∀ a,qR (X.marked a) (b0::suite) (ts a)) (hd:(x==("__debug__" : Str))=false:=by decide) :
  Xi X (.Try body [.ExceptHandler (some (.Name x np)) (some n) (b0::suite) hpos] [] [] pos) (Wz φ X.K C X.N.length i tb ts):=by
 intro s σ H D I h;refine Lw hst hf hex hpn hN hi hk hfn hg hm hφ hφ2 I (wpAny_mono (hb D [] s σ H D (I.wish _) h) (fun fl s1 hq=>SP.unwish hq) fun e s1 hx=>?_) hs hd;obtain ⟨a,cls,a0,σ',H',B,od,rfl,J,fl,inB,inH,hdk,hc,hG⟩:=hx;exact ⟨a,cls,a0,aDx X.N.length none,H',B,od,rfl,J.weak (by rw [aDZ,J.len]) (fun j v e=>by
   rw [aEP] at e
   split at e <;> cases e),fl,inB,inH,hdk,hc,hG⟩
theorem Fv {body suite:List Stmt}{b0:Stmt}{x n:Str}{np hpos pos:Pos}{C:Addr}{i:Nat}{tb:(Value->Hp->Prop)->TS}{ts:Addr->TS}(hst:X.stack=X.env::X.outer)(hf:X.env.frame=some X.env.locals)(hex:X.ex=[])(hpn:X.pn=[])
  (hN:X.N.Nodup) (hi:X.N[i]? = some n) (hk:X.env.scope.names.lookup n=some .local) (hfn:X.fn n=true) (hg:Gl X x) (hm:X.mg x=some (.ref C)) (hb:∀ G,qR (X.wish (XeT X G)) body (tb G)) (hs:∀ a,qR (X.marked a) (b0::suite) (ts a)) (hd:(x==("__debug__" : Str))=false:=by decide) :
  Xi X (.Try body [.ExceptHandler (some (.Name x np)) (some n) (b0::suite) hpos] [] [] pos) (Zn X.K C X.N.length i tb ts) :=
 Jh (φ:=fun a cls _=>qI a cls) (tb:=fun G=>tb fun cls H'=>G cls none H') hst hf hex hpn hN hi hk hfn hg hm (fun a od h o vs g e k=>⟨o,g,rfl⟩) (fun a cls od h1 h2 ⟨o,g,c⟩ k=>⟨o,k o g,c⟩) (fun D=>hb _) hs hd
end
theorem Sy {X:Cx}:gR (xR X.prog X.w) X E0:=fun _ _ _ _ _ _ _ ⟨_,_,_,_,_,_,_,_,_,_,_,_,_,_,_,h⟩=>False.elim h
theorem oA {X:Cx}{st:Stmt}{rest:List Stmt}{t u:TS}(hs:Xi X st t)(hr:Oz X rest u):Oz X (st::rest) (Qn t u):=by
 intro s σ H D I h;refine wpAny_execs_cons (dF (hs s σ H _ I h) fun fl s1 hq=>?_);cases fl with
 | next =>
  obtain ⟨σ',H',J,q⟩:=hq;exact hr s1 σ' H' D J q
 | brk=>exact hq
 | cont=>exact hq
 | ret u=>exact hq
theorem Ov {c:Addr}:∀ u',RelV (.ref c) u'->u'=Value.ref c:=fun _ h=>h
end L2
namespace TD
open PySem L2
open Builtin.Int (intBits)
theorem j4.same {K:PySem.W.Frag}{H H':Hp}{v:V}{t:Value}(s:aU H H')(h:j4 K H v t):j4 K H' v t:=by
 cases h with
 | non=>exact .non
 | bl x=>exact .bl x
 | int i=>exact .int i
 | str x=>exact .str x
 | flt x=>exact .flt x
 | lst e=>exact .lst (s _ _ e)
 | frz e=>exact .frz (s _ _ e)
 | tup e=>exact .tup (s _ _ e)
 | dK e=>exact .dK (s _ _ e)
 | dT e=>exact .dT (s _ _ e)
 | ins e a b c d f=>exact .ins (s _ _ e) a b c d f
def Js (H:Hp)(T:String)(v:V):Prop:=∀ K:PySem.W.Frag,∃ t,j4 K H v t/\PySem.W.kitOne K t (.type T)=some false
theorem Js.same {H H':Hp}{T:String}{v:V}(s:aU H H')(h:Js H T v):Js H' T v:=fun K=>let ⟨t,a,b⟩:=h K; ⟨t,j4.same s a,b⟩
theorem zN {K:PySem.W.Frag}:PySem.W.kitOne K (.type "bool") (.type "int")=some true:=by rfl
inductive qU (H:Hp)(lo hi:Int):V->Bool->Prop where
 | no {v:V} (h:Js H "int" v):qU H lo hi v false
 | bl (c:Bool):qU H lo hi (.bl c) false
 | int (i:Int):qU H lo hi (.int i) (decide (lo<=i)&&decide (i<=hi))
theorem qU.same {H H':Hp}{lo hi:Int}{v:V}{b:Bool}(s:aU H H')(h:qU H lo hi v b):qU H' lo hi v b:=by
 cases h with
 | no h=>exact .no (h.same s)
 | bl c=>exact .bl c
 | int i=>exact .int i
theorem qU.yes {H:Hp}{lo hi i:Int}(h1:lo<=i)(h2:i<=hi):qU H lo hi (.int i) true:=by
 have h:=qU.int (H:=H) (lo:=lo) (hi:=hi) i;rw [decide_eq_true h1,decide_eq_true h2] at h;exact h
theorem qU.not {H:Hp}{lo hi i:Int}(h1:i<lo∨hi<i):qU H lo hi (.int i) false:=by
 have h:=qU.int (H:=H) (lo:=lo) (hi:=hi) i;have e:(decide (lo<=i)&&decide (i<=hi))=false:=by
  rcases h1 with h1 | h1
  ·rw [decide_eq_false (by omega)]; rfl
  ·rw [decide_eq_false (p:=i<=hi) (by omega),Bool.and_false]
 rw [e] at h;exact h
inductive kJ (H:Hp):V->Bool->Prop where
 | no {v:V} (h:Js H "tuple" v):kJ H v false
 | len {a:Addr}{xs:List V} (e:H a=some (.tup xs)) (hl:xs.length≠2):kJ H (.ref a) false
 | two {a:Addr}{x y:V}{b c:Bool} (e:H a=some (.tup [x,y])) (hx:qU H 0 1000000000 x b) (hy:qU H 1 1000 y c):kJ H (.ref a) (b&&c)
theorem kJ.same {H H':Hp}{v:V}{b:Bool}(s:aU H H')(h:kJ H v b):kJ H' v b:=by
 cases h with
 | no h=>exact .no (h.same s)
 | len e hl=>exact .len (s _ _ e) hl
 | two e hx hy=>exact .two (s _ _ e) (hx.same s) (hy.same s)
inductive dX (H:Hp):V->Bool->Prop where
 | no {v:V} (h:Js H "list" v):dX H v false
 | len {a:Addr}{xs:List V} (e:H a=some (.lst xs)) (hl:¬ (1<=xs.length/\xs.length<=8)):dX H (.ref a) false
 | all {a:Addr}{xs:List V}{bs:List Bool} (e:H a=some (.lst xs)) (h1:1<=xs.length) (h8:xs.length<=8) (hb:bs.length=xs.length) (h:∀ (i:Nat) x,xs[i]? = some x->kJ H x (bs.getD i false)):dX H (.ref a) (bs.all id)
theorem dX.same {H H':Hp}{v:V}{b:Bool}(s:aU H H')(h:dX H v b):dX H' v b:=by
 cases h with
 | no h=>exact .no (h.same s)
 | len e hl=>exact .len (s _ _ e) hl
 | all e h1 h8 hb h=>exact .all (s _ _ e) h1 h8 hb fun i x hx=>(h i x hx).same s
theorem dX.good {H:Hp}{a:Addr}{xs:List Ir}(hL:gK H a xs)(g:GI xs):dX H (.ref a) true:=by
 have h:=dX.all (bs:=aDx xs.length true) hL.lst (by rw [dI]; exact aDT.mpr g.ne) (by rw [dI]; exact g.len) (by rw [aDZ,dI]) fun i v hv=>by
  obtain ⟨x,hx,rfl⟩:=uM hv;have hm:=aDi hx;have hi:=(aDr.mp hx).1;have e:(aDx xs.length true).getD i false=true:=by simp [aF9,hi]
  rw [e];exact kJ.two (hL.rows x hm) (qU.yes (g.v x hm).1 (g.v x hm).2) (qU.yes (g.w x hm).1 (g.w x hm).2)
 have e:(aDx xs.length true).all id=true:=by simp
 rw [e] at h;exact h
def Fj:Sp:=fun vs H Q _=>∃ (v:V) (lo hi:Int) (b:Bool),vs=[v,.int lo,.int hi]/\qU H lo hi v b/\Q (.bl b) H
def LR:Sp:=fun vs H Q _=>∃ (v:V) (b:Bool),vs=[v]/\kJ H v b/\Q (.bl b) H
def yM:Sp:=fun vs H Q _=>∃ (v:V) (b:Bool),vs=[v]/\dX H v b/\∀ H',aU H H'->Q (.bl b) H'
end TD
namespace Tb
abbrev Kp:=Int×Int
def kp (r:Rw):Kp:=(r.t,r.b)
def Sm (ps:List Rw)(pre:List Kp):Int:=(ps.map fun r=>if kp r∈pre then r.w else 0).sum
def Ss (x y:Kp):Prop:=x.1*y.2<y.1*x.2
def big (p q:Rw):Rw:=if p.t*q.b<q.t*p.b then ⟨q.t,q.b,p.w*q.w⟩ else ⟨p.t,p.b,p.w*q.w⟩
def fK (ps qs:List Rw):List Rw:=ps.flatMap fun p=>qs.map (big p)
theorem mH (r:Rw)(ps:List Rw)(pre:List Kp):Sm (r::ps) pre=(if kp r∈pre then r.w else 0)+Sm ps pre:=by simp [Sm]
theorem JS (ps qs:List Rw)(pre:List Kp):Sm (ps++qs) pre=Sm ps pre+Sm qs pre:=by simp [Sm]
theorem zV:∀ ps:List Rw,Sm ps []=0
 | []=>rfl
 | r::ps=>by rw [mH,zV ps]; simp
theorem zQ {pre:List Kp}{k:Kp}(h:k∉pre):∀ ps:List Rw,Sm ps (pre++[k])=Sm ps pre+Wt ps k.1 k.2
 | []=>rfl
 | r::ps=>by
  rw [mH,mH,gF,zQ h ps]
  by_cases e:kp r=k
  ·have h1:kp r∉pre:=by rw [e]; exact h
   have h2:kp r∈pre++[k]:=by rw [e]; simp
   have h3:r.t=k.1/\r.b=k.2:=by rw [<- e]; exact ⟨rfl,rfl⟩
   rw [if_pos h2,if_neg h1,if_pos h3];omega
  ·have h3:¬ (r.t=k.1/\r.b=k.2):=fun z=>e (Prod.ext z.1 z.2);rw [if_neg h3]
   by_cases h1:kp r∈pre
   ·rw [if_pos h1,if_pos (aD0 _ h1)];omega
   ·have h2:kp r∉pre++[k]:=by simp [h1,e]
    rw [if_neg h1,if_neg h2];omega
theorem Qg (p q:Rw):kp (big p q)=kp p∨kp (big p q)=kp q:=by
 unfold big
 split
 ·exact .inr rfl
 ·exact .inl rfl
theorem Jg (p q:Rw):(big p q).w=p.w*q.w:=by
 unfold big
 split <;> rfl
def Ha (all pre:List Kp):Prop:=∀ x∈all,∀ y∈pre,¬ Ss y x->x∈pre
theorem Ob {all pre:List Kp}(hd:Ha all pre){p q:Rw}(hp:kp p∈all)(hq:kp q∈all):kp (big p q)∈pre↔kp p∈pre/\kp q∈pre:=by
 unfold big
 split
 ·rename_i lt;show kp q∈pre↔_;refine ⟨fun h=>⟨hd _ hp _ h fun z=>?_,h⟩,fun h=>h.2⟩;have z:q.t*p.b<p.t*q.b:=z;omega
 ·rename_i lt;show kp p∈pre↔_;refine ⟨fun h=>⟨h,hd _ hq _ h fun z=>?_⟩,fun h=>h.1⟩;have z:p.t*q.b<q.t*p.b:=z;omega
theorem Ks {all pre:List Kp}(hd:Ha all pre){p:Rw}(hp:kp p∈all):∀ qs:List Rw,(∀ q∈qs,kp q∈all)->Sm (qs.map (big p)) pre=(if kp p∈pre then p.w else 0)*Sm qs pre
 | [],_=>by simp [Sm]
 | q::qs,h=>by
  rw [aDE,mH,mH,Ks hd hp qs fun x hx=>h x (aDk _ hx),Jg];have e:=Ob hd hp (h q aDj)
  by_cases h1:kp p∈pre
  ·by_cases h2:kp q∈pre
   ·rw [if_pos (e.mpr ⟨h1,h2⟩),if_pos h1,if_pos h2,Int.mul_add]
   ·rw [if_neg fun z=>h2 (e.mp z).2,if_pos h1,if_neg h2,aFv,aFv]
  ·rw [if_neg fun z=>h1 (e.mp z).1,if_neg h1];simp
theorem CZ {all pre:List Kp}(hd:Ha all pre):∀ ps qs:List Rw,(∀ p∈ps,kp p∈all)->(∀ q∈qs,kp q∈all)->Sm (fK ps qs) pre=Sm ps pre*Sm qs pre
 | [],qs,_,_=>by simp [fK,Sm]
 | p::ps,qs,hp,hq=>by
  have e:fK (p::ps) qs=qs.map (big p)++fK ps qs:=by unfold fK; rw [aFg]
  rw [e,JS,mH,Ks hd (hp p aDj) qs hq,CZ hd ps qs (fun x hx=>hp x (aDk _ hx)) hq,Int.add_mul]
theorem rK {ps qs:List Rw}{r:Rw}(h:r∈fK ps qs):∃ p∈ps,∃ q∈qs,r=big p q:=by
 unfold fK at h;obtain ⟨p,hp,h⟩:=aFn.mp h;obtain ⟨q,hq,h⟩:=aDg.mp h;exact ⟨p,hp,q,hq,h.symm⟩
theorem pQ (ps qs:List Rw):(fK ps qs).length=ps.length*qs.length:=by
 unfold fK
 induction ps with
 | nil=>simp
 | cons p ps ih=>rw [aFg,aDp,ih,aDe,aDF,aFP,Nat.add_comm]
def uC:List (List Rw)->List Rw
 | []=>[]
 | t::ts=>ts.foldl fK t
theorem oV {all pre:List Kp}(hd:Ha all pre):∀ (ts:List (List Rw)) (ps:List Rw),(∀ p∈ps,kp p∈all)->(∀ t∈ts,∀ q∈t,kp q∈all)->(∀ p∈ts.foldl fK ps,kp p∈all)/\Sm (ts.foldl fK ps) pre=(ts.map fun t=>Sm t pre).foldl (· * ·) (Sm ps pre)
 | [],ps,hp,_=>⟨hp,rfl⟩
 | t::ts,ps,hp,ht=>by
  have hc:∀ p∈fK ps t,kp p∈all:=fun r hr=>by
   obtain ⟨p,h1,q,h2,rfl⟩:=rK hr;rcases Qg p q with e | e
   ·rw [e]; exact hp p h1
   ·rw [e]; exact ht t aDj q h2
  obtain ⟨a,b⟩:=oV hd ts (fK ps t) hc fun u hu=>ht u (aDk _ hu);refine ⟨a,?_⟩;rw [aEq,b,CZ hd ps t hp (ht t aDj),aDE,aEq]
def pP (ns:List Int):Int:=ns.foldl (· * ·) 1
theorem Ex (ns:List Int)(n:Int):pP (ns++[n])=pP ns*n:=by unfold pP; rw [aEC]; rfl
theorem Du {all pre:List Kp}(hd:Ha all pre){ts:List (List Rw)}(hn:ts≠[])(ht:∀ t∈ts,∀ q∈t,kp q∈all):(∀ p∈uC ts,kp p∈all)/\Sm (uC ts) pre=pP (ts.map fun t=>Sm t pre):=by
 cases ts with
 | nil=>exact absurd rfl hn
 | cons t ts =>
  obtain ⟨a,b⟩:=oV hd ts t (ht t aDj) fun u hu=>ht u (aDk _ hu);refine ⟨a,?_⟩;show Sm (ts.foldl fK t) pre=_;rw [b];unfold pP;rw [aDE,aEq,aF4]
theorem wZ {all:List Kp}(so:all.Pairwise Ss)(i:Nat):Ha all (all.take i):=by
 intro x hx y hy nl;rw [<- aEo i all] at hx;rcases aDy.mp hx with z | z
 ·exact z
 ·rw [<- aEo i all] at so;exact absurd ((aE5.mp so).2.2 y hy x z) nl
theorem GX {x:Kp}(h:Ss x x):False:=by
 unfold Ss at h;omega
theorem KC {all:List Kp}(so:all.Pairwise Ss){i:Nat}{k:Kp}(h:all[i]? = some k):k∉all.take i:=fun z=>by
 have hi:=(aDr.mp h).1;have e:=(aDr.mp h).2;have hd:k∈all.drop i:=by rw [aFd hi,e]; exact aDj
 rw [<- aEo i all] at so;exact GX ((aE5.mp so).2.2 k z k hd)
def rowsOf (ps:List Rw)(pre:List Kp):List Rw:=pre.filterMap fun k=>if 0<Wt ps k.1 k.2 then some ⟨k.1,k.2,Wt ps k.1 k.2⟩ else none
theorem tM (ps:List Rw)(pre:List Kp)(k:Kp):rowsOf ps (pre++[k])=rowsOf ps pre++(if 0<Wt ps k.1 k.2 then [⟨k.1,k.2,Wt ps k.1 k.2⟩] else []):=by
 unfold rowsOf;rw [List.filterMap_append]
 congr 1
 rw [aEf]
 split
 ·rename_i h
  split at h
  ·cases h
  ·rename_i h2; rw [if_neg h2]; rfl
 ·rename_i b h
  split at h
  ·rename_i h2; rw [if_pos h2]; cases h; rfl
  ·cases h
theorem vQ {ps:List Rw}{pre:List Kp}{r:Rw}(h:r∈rowsOf ps pre):kp r∈pre/\0<r.w/\r.w=Wt ps r.t r.b:=by
 unfold rowsOf at h;obtain ⟨k,hk,e⟩:=aEj.mp h
 split at e
 ·rename_i hp;cases e;exact ⟨hk,hp,rfl⟩
 ·cases e
theorem yE {ps:List Rw}:∀ {pre:List Kp},pre.Nodup->∀ k∈pre,0<=Wt ps k.1 k.2->Wt (rowsOf ps pre) k.1 k.2=Wt ps k.1 k.2
 | [],_,_,h,_=>nomatch h
 | j::pre,nd,k,hk,h0=>by
  obtain ⟨n1,n2⟩:=aEe.mp nd;have tail0:∀ m:Kp,m∉pre->Wt (rowsOf ps pre) m.1 m.2=0:=fun m hm=>by
   refine jC ?_;rintro ⟨r,hr,e1,e2⟩;obtain ⟨a,_,_⟩:=vQ hr;exact hm (by rw [show m=kp r from Prod.ext e1.symm e2.symm]; exact a)
  have split_:rowsOf ps (j::pre)=(if 0<Wt ps j.1 j.2 then [⟨j.1,j.2,Wt ps j.1 j.2⟩] else [])++rowsOf ps pre:=by
   unfold rowsOf;rw [aEf]
   by_cases hp:0<Wt ps j.1 j.2
   ·simp [hp]
   ·simp [hp]
  rw [split_,rH];rcases aDA.mp hk with e | e
  ·subst e;rw [tail0 k n1]
   by_cases hp:0<Wt ps k.1 k.2
   ·rw [if_pos hp,gF,uO,if_pos ⟨rfl,rfl⟩];show Wt ps k.1 k.2+0+0=_;omega
   ·rw [if_neg hp,uO];omega
  ·have ne:j≠k:=fun z=>n1 (by rw [z]; exact e);rw [yE n2 k e h0]
   by_cases hp:0<Wt ps j.1 j.2
   ·rw [if_pos hp,gF,uO,if_neg (fun z=>ne (Prod.ext z.1 z.2))];omega
   ·rw [if_neg hp,uO];omega
theorem Hu {ps:List Rw}{all:List Kp}(nd:all.Nodup)(hk:∀ p∈ps,kp p∈all)(hw:∀ p∈ps,1<=p.w):(∀ t b,j9 (rowsOf ps all) t b↔j9 ps t b)/\∀ t b,Wt (rowsOf ps all) t b=Wt ps t b:=by
 have one:∀ t b,j9 ps t b->Wt (rowsOf ps all) t b=Wt ps t b:=fun t b h=>by
  obtain ⟨p,hp,rfl,rfl⟩:=h;exact yE nd (kp p) (hk p hp) (Fp _ _ hw)
 have two:∀ t b,j9 (rowsOf ps all) t b->j9 ps t b:=fun t b h=>by
  obtain ⟨r,hr,rfl,rfl⟩:=h;obtain ⟨_,a,e⟩:=vQ hr;rcases Classical.em (j9 ps r.t r.b) with z | z
  ·exact z
  ·have:=jC z;omega
 have three:∀ t b,j9 ps t b->j9 (rowsOf ps all) t b:=fun t b h=>by
  have e:=one t b h;rcases Classical.em (j9 (rowsOf ps all) t b) with z | z
  ·exact z
  ·have h0:=jC z;have:=vM hw h;omega
 refine ⟨fun t b=>⟨two t b,three t b⟩,fun t b=>?_⟩;rcases Classical.em (j9 ps t b) with z | z
 ·exact one t b z
 ·rw [jC z,jC fun y=>z (two t b y)]
theorem Fy:∀ {ts:List (List Rw)}{ps:List Rw},(∀ p∈ps,1<=p.w)->(∀ t∈ts,∀ q∈t,1<=q.w)->∀ p∈ts.foldl fK ps,1<=p.w
 | [],_,h,_=>h
 | t::ts,ps,h,ht=>by
  refine Fy (ts:=ts) (ps:=fK ps t) (fun r hr=>?_) fun u hu=>ht u (aDk _ hu);obtain ⟨p,h1,q,h2,rfl⟩:=rK hr;rw [Jg];have a:=h p h1;have b:=ht t aDj q h2;have:=aD1 (show 0<p.w by omega) (show 0<q.w by omega);omega
end Tb
namespace TD
open PySem L2
open Builtin.Int (intBits)
theorem RJ (t:Int):Fr.lQ t 1:=⟨by decide,aFW t⟩
def Kv:Sp:=fun vs H Q _=>∃ (a:Addr) (xs:List Row),vs=[.ref a]/\TabAt H a xs/\Bj xs/\xs.length<=1000/\0<wsum xs/\intBits (wsum xs)<=64/\∀ p H',aU H H'->fU H' p (Of.Ek (nH xs) (wsum xs))->Q (.ref p) H'
structure qM (H:Hp)(a:Addr)(ts:List Tn):Prop where
 lst:H a=some (.lst (fV ts))
 tabs:∀ t∈ts,TabAt H t.a t.ys
def LC (C:Addr):Sp:=fun vs H Q _=>∃ (x:Addr) (ts:List Tn),vs=[.ref x]/\GP C H x ts/\ts.length<=8/\∀ (r:Addr) (H':Hp) (us:List Tn),aU H H'->qM H' r us->us.map Tn.ys=ts.map Tn.ys->Q (.ref r) H'
end TD
namespace L2
open PySem PySem.Spec PyProof.Rows
section
variable {X:Cx}
def JZ (ns:List Int):List Int:=ns.foldl step_dedup []
theorem Ay (ns:List Int):firstMet (fun i=>ns.getD i 0) ns.length=JZ ns:=by
 unfold firstMet JZ
 congr 1
 apply aFZ
 ·simp
 ·intro i h1 h2;simp [h2]
theorem Iv (hc:X.calm=true):fB X (.type "set") (fun xs H Q=>∃ (a:Addr) (ns:List Int),xs=[.ref a]/\bB X.K H a (ns.map V.int)/\ns.length+1<scanBound ∧
  ∀ r,H r=none->Q (.ref r) (aM H r (.set (fun k=>(JZ ns).any (·==k)) (JZ ns).length))):=by
 intro pins s σ H xs us Q I r h;obtain ⟨a,ns,rfl,hS,hb,q⟩:=h;obtain ⟨u,rfl,ru⟩:=vals1 r;cases (show u=Value.ref a from ru);obtain ⟨its,rv,p,hz⟩:=I.list hS;have hi:=intsAre_of rv;have hl:its.toArray.size=ns.length:=by
  have h:=rv.length;rw [aDe] at h
  simpa using h.symm
 refine call_set_list (items:=its.toArray) (ns:=ns) (I.ok.hd hc) p.isList hi (by rw [hl]; exact hb) fun h' tk hSO kp=>?_;rw [hl,Ay] at hSO;refine ⟨.ref s.heap.objs.size,_,I.laid (t':=tk) (fun b o e=>kp b o (aDv e) e) (aDn _) (show cH X.prog X.w _ h' _ (.set _ _) from hSO),rfl,q _ (I.hok.fresh (aDn _))⟩
theorem wM:fB X (.builtin "len") (fun xs H Q=>∃ (a:Addr) (S:Int->Bool) (n:Nat),xs=[.ref a]/\H a=some (.set S n)/\Q (.int n) H):=by
 intro pins s σ H xs us Q I r h;obtain ⟨a,S,n,rfl,ha,q⟩:=h;obtain ⟨u,rfl,ru⟩:=vals1 r;cases (show u=Value.ref a from ru);obtain ⟨o,es,ep,t,ho,hex,hd,_,_,hsb,hf,hn⟩:=(show cH X.prog X.w H s.heap a (.set S n) from I.hok a _ ha)
 subst hn;refine call_len_set ho hex hd hf ?_ ⟨.int es.size,H,I.kept (h':=s.heap) (fun _ _ e=>e),⟨_,rfl⟩,q⟩;have:(es.size:Int)<4096:=by unfold scanBound at hsb; omega
 exact Int.lt_trans this (by decide)
end
theorem Dp {X:Cx}{K:PySem.W.Frag}(hK:X.K=K)(hc:X.calm=true):fB X (.type "set") (fun xs H Q=>∃ (a:Addr) (ns:List Int),xs=[.ref a]/\bB K H a (ns.map V.int)/\ns.length+1<scanBound ∧
  ∀ r,H r=none->Q (.ref r) (aM H r (.set (fun k=>(JZ ns).any (·==k)) (JZ ns).length))):=by subst hK; exact Iv hc
theorem SQ:bootBuiltins "set" = some (.type "set"):=by decide +kernel
structure QE (X:Cx)(e:Expr)(t:TE):Prop where
 h:PE X e t
structure QT (X:Cx)(e:Expr)(t:TT):Prop where
 h:PT X e t
structure QA (X:Cx)(es:List Expr)(t:TA):Prop where
 h:PA X es t
structure QO (X:Cx)(e:Option Expr)(t:TO):Prop where
 h:PO X e t
structure QS (X:Cx)(st:Stmt)(t:TS):Prop where
 h:PS X st t
structure N6 (X:Cx)(st:List Stmt)(t:TS):Prop where
 h:qR X st t
section
variable {X:Cx}{pos pos' p p2:Pos}{e a b:Expr}{es:List Expr}{te ta tb:TE}{t:TA}{x:Str}{st:Stmt}{rest:List Stmt}{ts us:TS}
theorem qv (i:Nat){x:Str}{pos:Pos}(hN:X.N[i]? = some x:=by rfl)(hv:Xk X.env.scope x:=by first | exact Or.inl rfl | exact Or.inr (Or.inl rfl) | exact Or.inr (Or.inr rfl))(hd:(x==("__debug__" : Str))=false:=by decide)
  (hcd:(x==("__classdict__" : Str))=false:=by decide):QE X (.Name x pos) (Ry i):=⟨Mj hN hv hd hcd⟩
theorem bD {i:Int}{j:Nat}:QE X (.Constant (.int i) j pos) (tC (.int i)):=⟨aO⟩
theorem m8 {c:Bool}{j:Nat}:QE X (.Constant (.bool c) j pos) (tC (.bl c)):=⟨mR⟩
theorem qY {j:Nat}:QE X (.Constant .none j pos) (tC .non):=⟨Rb⟩
theorem rR {y:Str}{j:Nat}:QE X (.Constant (.str y) j pos) (tC (.str y)):=⟨FJ⟩
theorem bR {op:Operator}{r:R2}(ho:pM X (binaryOp op) r)(ha:QE X a ta)(hb:QE X b tb):QE X (.BinOp a op b pos) (QR r ta tb):=⟨bM ho ha.h hb.h⟩
theorem Vx {op:UnaryOp}{r:V->Hp->VK->Prop}(ho:Xj X (unaryOp op) r)(ha:QE X a ta):QE X (.UnaryOp op a pos) (tUn r ta):=⟨KZ ho ha.h⟩
theorem nA {r:R2}(hr:Sq X r)(ha:QE X a ta)(hb:QE X b tb)(hs:Gn b):QE X (.Subscript a b pos) (QR r ta tb):=⟨cU hr ha.h hb.h hs⟩
theorem b7 (h:QA X es t):QE X (.List es pos) (U5 t):=⟨jU h.h⟩
theorem J0 {k:Nat}(h:QA X es t):QE X (.Tuple es k pos) (We t):=⟨gQ h.h⟩
theorem aX:QA X [] Nq:=⟨aD⟩
theorem aF (ha:QE X e te)(hr:QA X es t)(hs:starEach (e::es) X.env=(false,eval e X.env)::starEach es X.env:=by rfl):QA X (e::es) (Q8 te t):=⟨aB ha.h hr.h hs⟩
theorem cQ {lo hi:Option Expr}{tl th:TO}{r:V->Option Int->Option Int->Hp->VK->Prop}(hr:Z7 X r)(he:QE X e te)(hl:QO X lo tl)(hu:QO X hi th):QE X (.Subscript e (.Slice lo hi none p2) pos) (tSl r te tl th):=⟨vD hr he.h hl.h hu.h⟩
theorem dN:QO X none GJ:=⟨yP⟩
theorem dO (h:QE X e te):QO X (some e) (Q6 te):=⟨zE h.h⟩
theorem lM {T:String}{r:List V->Hp->VK->Prop}(hc:fB X (.type T) r)(hg:Gl X x)(hm:X.mg x=none)(hv:bootBuiltins x=some (.type T))(ha:QA X (e::es) t)(hn:x≠"__name__":=by decide)(hdb:(x==("__debug__" : Str))=false:=by decide)
  (he:starEach (e::es) X.env=(false,eval e X.env)::starEach es X.env:=by rfl) (hpl:(backTo pos (starEach es X.env)).any (·.1)=false:=by rfl):QE X (.Call (.Name x p) (e::es) [] pos) (Xd r t):=⟨fZ hc hg hm hv ha.h hn hdb he hpl⟩
theorem uZ {id:String}{r:List V->Hp->VK->Prop}(hc:fB X (.builtin id) r)(hg:Gl X x)(hm:X.mg x=none)(hv:bootBuiltins x=some (.builtin id))(ha:QA X (e::es) t)(hn:x≠"__name__":=by decide)(hdb:(x==("__debug__" : Str))=false:=by decide)
  (he:starEach (e::es) X.env=(false,eval e X.env)::starEach es X.env:=by rfl) (hpl:(backTo pos (starEach es X.env)).any (·.1)=false:=by rfl):QE X (.Call (.Name x p) (e::es) [] pos) (Xd r t):=⟨aY hc hg hm hv ha.h hn hdb he hpl⟩
theorem Ku:QE X (.Dict [] [] pos) Lb:=⟨K9⟩
theorem uD {op:CmpOp}{r:R2}(ho:pM X (compareOp op) r)(ha:QE X a ta)(hb:QE X b tb)(hm:behindInMarks op b=false):QT X (.Compare a [op] [b] pos) (LK (QR r ta tb)):=⟨gD ho ha.h hb.h hm⟩
theorem dY {i:Nat}(hN:X.N.Nodup)(hi:X.N[i]? = some x)(hx:Loc X.env.scope x)(he:QE X e te)(hs:swapsWith e (some (.Name x pos')) pos.line X.env=pure false:=by rfl)(hf:X.fn x=true∨X.env.scope.names.lookup x=some .local:=by first | exact .inl rfl | exact .inr rfl | assumption) :
  QS X (.Assign [.Name x pos'] e pos) (Mg te (mL i)):=⟨bU hN hi hx he.h hs hf⟩
theorem R4 {tg:Expr}{g:TG}(he:QE X e te)(hg:PG X tg g)(hs:swapsWithSole [tg] e pos.line X.env=pure false:=by rfl)(hw:swappedStores [tg] e X.env=pure none:=by rfl)
  (h1:(assignEach [tg] X.env).map (·.2)=[assign tg X.env]:=by rfl):QS X (.Assign [tg] e pos) (Mg te g):=⟨RC he.h hg hs hw h1⟩
theorem xH {c:Expr}{l m:List Stmt}{tc:TT}(hc:QT X c tc)(ha:N6 X l ts)(hb:N6 X m us):QS X (.If c l m pos) (Wq tc ts us):=⟨iW hc.h ha.h hb.h⟩
theorem lR (he:QE X e te):QS X (.Return (some e) pos) (Wy te):=⟨bC he.h⟩
theorem n8:N6 X [] QM:=⟨eF⟩
theorem gU (h1:QS X st ts):N6 X [st] ts:=⟨aK h1.h⟩
theorem bL (h1:QS X st ts)(h2:N6 X rest us):N6 X (st::rest) (Qn ts us):=⟨aL h1.h h2.h⟩
end
structure QW (X:Cx)(e:Expr)(t:TT):Prop where
 h:PW X e t
section
variable {X:Cx}{CX:Al}{k n:Nat}{f C:Addr}{fd:FuncData}{ps:List Str}{sp:Sp}{dvs:List V}{ds:List Value}{E:XK}{x m name:Str}{p pos apos cpos:Pos}{a b e o:Expr}{es rest:List Expr}{ta tb te to:TE}{t:TA}{tA tB':TT}{T id:String}{r:V->List V->Hp->VK->Prop}
theorem eY {g:Addr}{gd:FuncData}(c:eO X.prog X.w X.K X.mg X.base n x ps sp g gd)(hr:d8 n X.A)(ha:QA X (e::es) t)(hg:Gl X x:=by rfl)
  (hd:(x==("__debug__" : Str))=false:=by decide) (he:starEach (e::es) X.env=(false,eval e X.env)::starEach es X.env:=by rfl) (hpl:(backTo pos (starEach es X.env)).any (·.1)=false:=by rfl) :
  QE X (.Call (.Name x p) (e::es) [] pos) (Fz sp [] E0 t):=⟨aJ c hr ha.h hg hd he hpl⟩
theorem O8 (M:Mk X.K C f)(F:bH X.prog X.w X.K X.mg X.base CX k f fd ps sp)(hr:d8 (k+1) X.A)(hg:Gl X x)(hm:X.mg x=some (.ref C))(hb:Binds X.K fd ps ds)(hd:bV dvs ds)(hx:gR CX X E)
  (ha:QA X (e::es) t) (hdb:(x==("__debug__" : Str))=false:=by decide) (he:starEach (e::es) X.env=(false,eval e X.env)::starEach es X.env:=by rfl) (hpl:(backTo pos (starEach es X.env)).any (·.1)=false:=by rfl) :
  QE X (.Call (.Name x p) (e::es) [] pos) (Q5 C sp dvs E t):=⟨Fq M F hr hg hm hb hd hx ha.h hdb he hpl⟩
theorem lC {pl:Sem Bool}(he:QE X o ta)(c:Hw X.K C)(hm:nJ X.K C m f)(F:bH X.prog X.w X.K X.mg X.base CX k f fd ps sp)(hr:d8 k X.A)(hb:Binds X.K fd ps ds)(hd:bV dvs ds)(hx:gR CX X E)
  (ht:eval (.Call (.Attribute o m apos) [] [] pos) X.env=(do
   let ov <- eval o X.env
   standAt apos.atName
   let (f,first) <- holding [ov] (getMethod ov m pl)
   callWith pos f first (backTo pos (starEach [] X.env)) (backToKw pos (keywordEach [] X.env))):=by rfl) :
  QE X (.Call (.Attribute o m apos) [] [] pos) (Lq C m sp dvs E ta Nq):=⟨qF he.h c hm F hr hb hd hx ht⟩
theorem Ei (ha:QT X a tA):QT X (.UnaryOp .Not a pos) (W5 tA):=⟨gJ ha.h⟩
theorem Eb (h:QE X e te)(he:∀ whole,isTrue e X.env whole=(do let v <- whole; standAt e.pos; holding [v] (truthy v)):=by intro _; rfl):QT X e (tB te):=⟨gH h.h he⟩
theorem WP (ha:QT X a tA)(hb:QW X (.BoolOp .Or (b::rest) pos) tB'):QW X (.BoolOp .Or (a::b::rest) pos) (tOr tA tB'):=⟨uY ha.h hb.h⟩
theorem RG (ha:QT X a tA):QW X (.BoolOp .Or [a] pos) tA:=⟨pC ha.h⟩
theorem QW.qt (h:QW X e tA):QT X e tA:=⟨PW.pt h.h⟩
theorem Ni {op:CmpOp}{r:R2}(ho:pM X (compareOp op) r)(ha:QE X a ta)(hb:QE X b tb)(hm:behindInMarks op b=false):QE X (.Compare a [op] [b] pos) (QR r ta tb):=⟨qD ho ha.h hb.h hm⟩
theorem Oo (he:QE X e te)(hs:swapsWith e none pos.line X.env=pure false:=by rfl):QS X (.Expr e pos) (Q7 te):=⟨gY he.h hs⟩
end
def Vl (a:Addr):Obj:={ cls:=.type "enumerate",data:=.fields #[.none,.bool false,.ref a,rawInt 0,.none,.none] }
def eC (tp:Bool)(h:Heap)(l:Addr):Heap:=(h.push (qG tp l)).push (Vl h.objs.size)
theorem Hc (tp:Bool)(l:Addr)(xs:Array Value) :
  Meets (Builtin.«enumerate.__new__» ⟨[.type "enumerate",.ref l],[]⟩) (fun _ R s=>fJ tp s.heap l xs/\R (.ok (.ret (.ref (s.heap.push (qG tp l)).objs.size))) { s with heap:=eC tp s.heap l }) :=
 .of_wp fun prog w A R s h=>by
  obtain ⟨hp,g,d,tk,os⟩:=s;obtain ⟨h1,h⟩:=h;have hsub:=sub_enumerate;have k1:fJ tp (Shared.heap ⟨hp,g,d,tk,os⟩) l xs:=h1
  wp_walk
  refine wpAny_stack_any fun st=>wpAny_pure ?_
  split
  ·rename_i c _ _ _ _ _;cases (c==Value.type "enumerate") <;> (wp_walk using uB k1; exact ⟨_,rfl,h⟩)
  ·(wp_walk using uB k1; exact ⟨_,rfl,h⟩)
section
variable {prog:Program}{w:World}{A:Around}{E:Value->Shared->Prop}{s:Shared}{tp:Bool}{l:Addr}{xs:Array Value}
theorem JD {Q:Value->Shared->Prop}(h1:fJ tp s.heap l xs)
  (k:∀ h',IsEnum h' (s.heap.objs.size+1) s.heap.objs.size 0 .none->lJ tp h' s.heap.objs.size l 0->(∀ c o,s.heap.get? c=some o->h'.get? c=some o)->Q (.ref (s.heap.objs.size+1)) { s with heap:=h' }) :
  wpAny (model prog w) A (call (.type "enumerate") [.ref l]) Q E s:=by
 refine callType_new F.called_enumerate (by decide) (F.typeCall_enumerate_1 _) (F.newCall_enumerate_1 _) (fun obj=>F.args_object_init_2 obj _) F.entry_enumerate_new (Hc tp l xs) ⟨h1,?_⟩;have n1:(s.heap.push (qG tp l)).objs.size=s.heap.objs.size+1:=aEb ..;have e2:(eC tp s.heap l).get? (s.heap.push (qG tp l)).objs.size=some (Vl s.heap.objs.size):=aDt _ rfl;have e1:(eC tp s.heap l).get? s.heap.objs.size=some (qG tp l):=aDf _ (aDt _ rfl);rw [n1] at e2;show _/\_;rw [n1];exact ⟨⟨_,e2,rfl⟩,k _ e2 ⟨_,e1,rfl,rfl⟩ fun c o e=>aDf _ (aDf _ e)⟩
end
theorem Bf {prog:Program}{w:World}{A:Around}{tp:Bool}(hh:A.handled=none)(it l:Addr)(hne:l≠it)(its:Array Value) :
  Draws prog w A it [it,l] its.size (fun i v=>its[i]? = some v) (fun i h=>lJ tp h it l i/\fJ tp h l its) where
 live:=fun _ _ st=>by
  obtain ⟨⟨o,ho,_⟩,_⟩:=st;exact ⟨o,ho⟩
 frame:=fun _ _ _ st hk=>⟨st.1.keep fun o e=>hk it aDj o e,st.2.keep fun o e=>hk l (aDk _ aDj) o e⟩
 item:=fun i s Q E hi st hQ=>uF st.1 st.2 (v:=its[i]) (by simp [hi]) fun h' a b=>hQ _ h' s.toks (by simp [hi]) ⟨a,st.2.keep fun o e=>b.extBut _ _ hne e⟩ b
 done:=fun s Q E st hE=>zY hh st.1 st.2 (by simp) hE
section
variable {X:Cx}
def Jq (K:PySem.W.Frag)(a:Addr):It :=
 ⟨fun i H=>∃ xs x,cW K H a xs/\xs[i]? = some x,
  fun i H v H'=>∃ x T,H T=none/\v=.ref T/\H'=aM H T (.tup [.int i,x])/\∀ xs,cW K H a xs->xs[i]? = some x,
  fun i H=>∃ xs,cW K H a xs/\xs.length=i⟩
theorem PK {P:Program}{w:World}{K:PySem.W.Frag}{elts:List Expr}{kk:Nat}{tpos:Pos}{e it a:Addr}(n1:e≠it)(n2:a≠it)(n3:e≠a) :
  Turn P w K (.Tuple elts kk tpos) (Jq K a) [e,it] e (fun i h=>∃ old,IsEnum h e it i old/\lJ true h it a i) where
 mem:=by simp
 obj:=fun i h st c hc=>by
  obtain ⟨old,he,⟨o1,e1,c1,d1⟩⟩:=st;simp only [aDA,aDJ,or_false] at hc;rcases hc with rfl | rfl
  ·exact ⟨_,he,fun v z=>nomatch z⟩
  ·exact ⟨_,e1,fun v z=>by rw [d1] at z; cases z⟩
 keep:=fun i h h' st k=>by
  obtain ⟨old,he,h1⟩:=st;exact ⟨old,k e (by simp) _ he,h1.keep fun o e=>k it (by simp) o e⟩
 item:=by
  intro X hP hw hK hc i pins s σ H E I hf st hg;subst hP hw hK;obtain ⟨xs,x,ha,hx⟩:=hg;obtain ⟨old,he,h1⟩:=st;obtain ⟨its,rv,pl,_⟩:=I.sqk (tp:=true) ha;obtain ⟨u,hu,ru⟩:=rv.get hx;have il:i<its.toArray.size:=by
   have:=(aDr.mp hu).1
   simpa using this
  refine wpAny_pyNext_enum_itemD (Bf (tp:=true) (by rw [show X.A.in1.handled=X.A.handled from rfl]; exact I.ok.hd hc) it a n2 its.toArray) he ⟨h1,pl⟩ il n1 (by simp [n1,n3]) fun y h' tk hy g1 g2 g3 g4 g5=>?_;have ey:y=u:=by
   have hy:its.toArray[i]? = some y:=hy;rw [List.getElem?_toArray,hu] at hy;cases hy
   rfl
  subst ey;refine ⟨_,rfl,?_⟩;refine wpAny_letOwnedTupleGo_enum (s:={ s with heap:=h',toks:=tk+1 }) g1 fun h2 e2 k2=>?_;have lt:∀ {c o},s.heap.get? c=some o->s.heap.objs.size≠c:=fun q=>aEa (aDv q);have fr:H s.heap.objs.size=none:=I.hok.fresh (aDn _);have hT:h2.get? s.heap.objs.size=some { cls:=.type "tuple",data:=.seq #[.int i tk,y] }:=k2.extBut _ _ (lt he) g3;obtain ⟨o1,e1,r1⟩:=id h1;refine ⟨.ref s.heap.objs.size,aM H s.heap.objs.size (.tup [.int i,x]),?_,rfl,⟨x,_,fr,rfl,rfl,fun zs h=>by rw [I.sqk_inj (tp:=true) h ha]; exact hx⟩,⟨y,by simpa using e2,g2.1.keep fun o e=>k2.extBut _ _ n1.symm e⟩,fun c hc=>?_⟩
  ·refine I.turnedLaid (t':=tk+1) (ch:=[e,it]) hf (fun c o hc q=>?_) (aDn _) ⟨aDO (aN (show 2<=1000 by decide)),[.int i tk,y],.cons ⟨_,rfl⟩ (.cons ru .nil),_,hT,rfl,_,rfl⟩;simp only [aDA,aDJ,or_false,not_or] at hc;exact k2.extBut _ _ hc.1 (g5 c o hc.1 hc.2 q)
  ·have ne:c≠s.heap.objs.size:=fun z=>by
    simp only [aDA,aDJ,or_false] at hc;rcases hc with rfl | rfl
    ·exact lt he z.symm
    ·exact lt e1 z.symm
   rw [aH ne];exact (hf c hc).1
 done:=by
  intro X hP hw hK hc i pins s σ H E I hf st hg;subst hP hw hK;obtain ⟨xs,ha,hx⟩:=hg;obtain ⟨old,he,h1⟩:=st;obtain ⟨its,rv,pl,_⟩:=I.sqk (tp:=true) ha;have li:its.toArray.size=i:=by
   have:=rv.length;rw [aDo];omega
  subst li;refine wpAny_pyNext_enum_endD (Bf (tp:=true) (by rw [show X.A.in1.handled=X.A.handled from rfl]; exact I.ok.hd hc) it a n2 its.toArray) he ⟨h1,pl⟩ fun h' g=>⟨rfl,I.turnedN (t':=s.toks) (ch:=[e,it]) hf fun c o hc q=>?_⟩
  simp only [aDA,aDJ,or_false,not_or] at hc;exact g c o hc.2 q
 self:=fun _ _ _ _ _ st h=>by
  obtain ⟨old,he,_⟩:=st;exact wpAny_pyIter_enum he h
def iEt (K:PySem.W.Frag)(ta:TA):TI:=fun σ H R=>ta σ H fun vs H1=>∃ a xs,vs=[.ref a]/\cW K H1 a xs/\R (Jq K a) H1
theorem My {K:PySem.W.Frag}{a:Expr}{ta:TA}{p pos tpos:Pos}{elts:List Expr}{kk:Nat}(hK:X.K=K)(hg:Gl X "enumerate")(hm:X.mg "enumerate" = none)(ha:PA X [a] ta)(hs:starEach [a] X.env=[(false,eval a X.env)]:=by rfl):PI X (.Tuple elts kk tpos) (.Call (.Name "enumerate" p) [a] [] pos) (iEt K ta):=by
 subst hK;intro pins s σ H R I h;refine Call_ (jQ I hg hm Ah (PyProof.Rows.callWith_type1 (dF (ha pos pins s σ H _ I h) fun us s1 ⟨vs,H1,I1,r1,q1⟩=>?_) hs rfl));obtain ⟨b,xs,e,hS,q⟩:=q1;subst e;obtain ⟨u,rfl,ru⟩:=vals1 r1;cases (show u=Value.ref b from ru);obtain ⟨its,rv,pl,_⟩:=I1.sqk (tp:=true) hS;have lb:b<s1.heap.objs.size:=pl.lt;refine JD pl fun h' g1 g2 g4=>?_;refine wpAny_pyIter_enum g1 ?_;refine ⟨s1.heap.objs.size+1,[s1.heap.objs.size+1,s1.heap.objs.size],_,_,H1,rfl,I1.kept (t':=s1.toks) g4,PK (by show (_:Nat)≠_; omega) (by show (_:Nat)≠_; exact aDI lb) (by show (_:Nat)≠_; exact aEa (aFR lb)),⟨_,g1,g2⟩,fun c hc=>?_,q⟩;have le:s1.heap.objs.size<=c:=by
  simp only [aDA,aDJ,or_false] at hc;rcases hc with rfl | rfl <;> first | exact aFm _ _ | exact aDn _
 exact I1.fpOk le (I1.hok.fresh le)
theorem Ih {K:PySem.W.Frag}{a:Addr}{xs:List V}{g:TG}{tb:TS}{D:Ends}{σ:St}{H:Hp}(Pv:Nat->St->Hp->Prop)(h0:Pv 0 σ H)(hl:∀ i σ H,i<=xs.length->Pv i σ H->cW K H a xs)
  (hs:∀ i x T σ H,xs[i]? = some x->H T=none->Pv i σ H->g (.ref T) σ (aM H T (.tup [.int (i:Int),x])) fun σ2 H2=>tb { D with nx:=Pv (i+1),ct:=Pv (i+1),bk:=D.nx } σ2 H2) (hd:∀ σ H,Pv xs.length σ H->D.nx σ H) :
  ∃ W:Nat->Nat->St->Hp->Prop,(∃ m,W 0 m σ H)/\∀ i m σ H,W i m σ H ->
   ((Jq K a).stop i H/\D.nx σ H)∨((Jq K a).go i H/\∃ N:St->Hp->Prop,(∀ σ' H',N σ' H'->∃ m',m'<m/\W (i+1) m' σ' H')/\∀ x H',(Jq K a).yld i H x H'->g x σ H' fun σ2 H2=>tb { D with nx:=N,ct:=N,bk:=D.nx } σ2 H2):=by
 refine ⟨fun i m σ H=>m=xs.length-i/\i<=xs.length/\Pv i σ H,⟨xs.length,by simp,aDK _,h0⟩,?_⟩;rintro i m σ H ⟨rfl,hi,pv⟩;have q1:=hl i σ H hi pv
 by_cases hlt:i<xs.length
 ·refine .inr ⟨⟨xs,xs[i],q1,by simp [hlt]⟩,Pv (i+1),fun σ' H' p'=>⟨xs.length-(i+1),by omega,rfl,hlt,p'⟩,fun x H' y=>?_⟩;obtain ⟨x,T,hT,rfl,rfl,e1⟩:=y;exact hs i x T σ _ (e1 xs q1) hT pv
 ·have e:i=xs.length:=by omega
  subst e;exact .inl ⟨⟨xs,q1,rfl⟩,hd σ H pv⟩
end
end L2
namespace TD
open PySem L2
open Builtin.Int (intBits)
inductive d9 (H:Hp):V->Bool->Prop where
 | no {v:V} (h:Js H "list" v):d9 H v false
 | len {a:Addr}{xs:List V} (e:H a=some (.lst xs)) (hl:¬ (1<=xs.length/\xs.length<=8)):d9 H (.ref a) false
 | all {a:Addr}{xs:List V}{bs:List Bool} (e:H a=some (.lst xs)) (h1:1<=xs.length) (h8:xs.length<=8) (hb:bs.length=xs.length) (h:∀ (i:Nat) x,xs[i]? = some x->dX H x (bs.getD i false)):d9 H (.ref a) (bs.all id)
theorem d9.same {H H':Hp}{v:V}{b:Bool}(s:aU H H')(h:d9 H v b):d9 H' v b:=by
 cases h with
 | no h=>exact .no (h.same s)
 | len e hl=>exact .len (s _ _ e) hl
 | all e h1 h8 hb h=>exact .all (s _ _ e) h1 h8 hb fun i x hx=>(h i x hx).same s
theorem EY {H:Hp}{a:Addr}{ls:List Ls}(hL:pD H a ls)(ne:ls≠[])(l8:ls.length<=8)(g:∀ l∈ls,GI l.xs):d9 H (.ref a) true:=by
 have h:=d9.all (bs:=aDx ls.length true) hL.lst (by rw [cG]; exact aDT.mpr ne) (by rw [cG]; exact l8) (by rw [aDZ,cG]) fun i v hv=>by
  obtain ⟨x,hx,rfl⟩:=nW hv;have hm:=aDi hx;have hi:=(aDr.mp hx).1;have e:(aDx ls.length true).getD i false=true:=by simp [aF9,hi]
  rw [e];exact dX.good (hL.each x hm) (g x hm)
 have e:(aDx ls.length true).all id=true:=by simp
 rw [e] at h;exact h
def Bq:Sp:=fun vs H Q _=>∃ (v:V) (b:Bool),vs=[v]/\d9 H v b/\∀ H',aU H H'->Q (.bl b) H'
def KJ (C N P:Addr)(lp:Pos):Sp:=fun vs H Q E=>∃ (x dx:Addr) (v:V),vs=[.ref x,v]/\H x=some (.ins C dx [])/\((∃ (a:Addr) (ls:List Ls),v=.ref a/\pD H a ls/\ls≠[]/\ls.length<=8/\(∀ l∈ls,GI l.xs)/\cN P lp jN H ∧
 ∀ (k:Addr) (H':Hp) (ts:List Tn),bN P H H'->cN P lp jN H'->H' x=some (.ins C dx [])->N7 H' k ts->Oq ls ts->Q .non (aM H' x (.ins C dx [("kinds",.ref k)])))∨(d9 H v false/\∀ H',aU H H'->E (.ref N) none H'))
inductive fY (H:Hp)(m:Int):V->Prop where
 | no {v:V} (h:Js H "list" v):fY H m v
 | len {a:Addr}{xs:List V} (e:H a=some (.lst xs)) (hl:(xs.length:Int)≠m):fY H m (.ref a)
 | all {a:Addr}{xs:List V}{bs:List Bool} (e:H a=some (.lst xs)) (hl:(xs.length:Int)=m) (hn:xs.length<=100) (hb:bs.length=xs.length) (h:∀ (i:Nat) x,xs[i]? = some x->qU H 0 (m-1) x (bs.getD i false)) (hf:bs.all id=false):fY H m (.ref a)
 | dup {a:Addr}{ns:List Int} (e:H a=some (.lst (ns.map V.int))) (hl:(ns.length:Int)=m) (hn:ns.length<=100) (h:∀ n∈ns,0<=n/\n<=m-1) (hd:(JZ ns).length≠ns.length):fY H m (.ref a)
theorem fY.same {H H':Hp}{m:Int}{v:V}(s:aU H H')(h:fY H m v):fY H' m v:=by
 cases h with
 | no h=>exact .no (h.same s)
 | len e hl=>exact .len (s _ _ e) hl
 | all e hl hn hb h hf=>exact .all (s _ _ e) hl hn hb (fun i x hx=>(h i x hx).same s) hf
 | dup e hl hn h hd=>exact .dup (s _ _ e) hl hn h hd
def Li:Sp:=fun vs H Q _=>∃ (v:V) (m:Int),vs=[v,.int m]/\fY H m v/\∀ H',aU H H'->Q (.bl false) H'
def SJ (H:Hp)(v:V)(b:Bool):Prop:=∀ K:PySem.W.Frag,∃ t,j4 K H v t/\PySem.W.kitOne K t (.type "bool")=some b
theorem SJ.same {H H':Hp}{v:V}{b:Bool}(s:aU H H')(h:SJ H v b):SJ H' v b:=fun K=>let ⟨t,a,c⟩:=h K; ⟨t,j4.same s a,c⟩
inductive jT (H:Hp)(m:Int):V->Bool->Prop where
 | no {v:V} (h:Js H "list" v):jT H m v false
 | len {a:Addr}{xs:List V} (e:H a=some (.lst xs)) (hl:(xs.length:Int)≠m):jT H m (.ref a) false
 | all {a:Addr}{xs:List V}{bs:List Bool} (e:H a=some (.lst xs)) (hl:(xs.length:Int)=m) (hn:xs.length<=100) (hb:bs.length=xs.length) (h:∀ (i:Nat) x,xs[i]? = some x->SJ H x (bs.getD i false)):jT H m (.ref a) (bs.all id)
theorem jT.same {H H':Hp}{m:Int}{v:V}{b:Bool}(s:aU H H')(h:jT H m v b):jT H' m v b:=by
 cases h with
 | no h=>exact .no (h.same s)
 | len e hl=>exact .len (s _ _ e) hl
 | all e hl hn hb h=>exact .all (s _ _ e) hl hn hb fun i x hx=>(h i x hx).same s
def Mh:Sp:=fun vs H Q _=>∃ (v:V) (m:Int) (b:Bool),vs=[v,.int m]/\jT H m v b/\∀ H',aU H H'->Q (.bl b) H'
inductive fD (H:Hp)(ms:List Int):V->Prop where
 | no {v:V} (h:Js H "list" v):fD H ms v
 | len {a:Addr}{xs:List V} (e:H a=some (.lst xs)) (hl:xs.length≠ms.length):fD H ms (.ref a)
 | all {a:Addr}{xs:List V}{bs:List Bool} (e:H a=some (.lst xs)) (hl:xs.length=ms.length) (hn:xs.length<=100) (hb:bs.length=xs.length) (h:∀ (i:Nat) x m,xs[i]? = some x->ms[i]? = some m->jT H m x (bs.getD i false)) (hf:bs.all id=false):fD H ms (.ref a)
theorem fD.same {H H':Hp}{ms:List Int}{v:V}(s:aU H H')(h:fD H ms v):fD H' ms v:=by
 cases h with
 | no h=>exact .no (h.same s)
 | len e hl=>exact .len (s _ _ e) hl
 | all e hl hn hb h hf=>exact .all (s _ _ e) hl hn hb (fun i x m hx hm=>(h i x m hx hm).same s) hf
def qJ (ts:List Tn):List Int:=ts.map fun t=>((t.ys.length:Nat):Int)
def Mt:Sp:=fun vs H Q _=>∃ (v:V) (k:Addr) (ts:List Tn),vs=[v,.ref k]/\N7 H k ts/\ts.length<=8/\fD H (qJ ts) v/\∀ H',aU H H'->Q (.bl false) H'
def vJ (C N:Addr):Sp:=fun vs H Q E=>∃ (x:Addr) (v:V) (ts:List Tn),vs=[.ref x,v]/\GP C H x ts/\ts.length<=8/\fD H (qJ ts) v/\∀ H',aU H H'->E (.ref N) none H'
def QF (C N:Addr):Sp:=fun vs H Q E=>∃ (x:Addr) (v u:V) (ts:List Tn),vs=[.ref x,v,u]/\GP C H x ts/\ts.length<=8/\fY H (ts.length:Int) v/\∀ H',aU H H'->E (.ref N) none H'
end TD
namespace L2
open PySem PySem.Spec PyProof.Rows
structure mJ (k:Nat)(A:Around):Prop where
 dp:A.depth+3*k+5<recursionLimit
 un:A.units+16*k+200<cLine
theorem d8.mark {k:Nat}{A:Around}(r:d8 k A)(v:Option Value):mJ k (A.mark v):=⟨r.dp,r.un⟩
theorem mJ.mono {j k:Nat}{A:Around}(r:mJ k A)(h:j<=k):mJ j A:=⟨by have:=r.dp; omega,by have:=r.un; omega⟩
theorem mJ.deeper {k:Nat}{A:Around}(r:mJ (k+1) A)(env:Env):mJ k (A.deeper env) :=
 ⟨by have:=r.dp; show A.depth+1+3*k+5<_; omega,by have:=r.un; show A.units+3+16*k+200<_; omega⟩
theorem mJ.depth {k:Nat}{A:Around}(r:mJ k A):A.depth<recursionLimit:=by have:=r.dp; omega
structure S6 (P:Program)(w:World)(K:PySem.W.Frag)(mg:Str->Option Value)(base:Heap)(k:Nat)(f:Addr)(fd:FuncData)(ps:List Str)(sp:Sp):Prop where
 len:∀ vs H Q E,sp vs H Q E->vs.length=ps.length
 run:∀ (A:Around) (outer:List Env) (s:Shared) (H:Hp) (args:Args) (us:List Value) (vs:List V) (Q:VK) (E:XK),mJ k A->wD P w K mg base A outer s H->BindsTo s fd args (ps.zip us)->bV vs us->sp vs H Q E ->
  codeAny (model P w) A (.call (.ref f) args) (CR fO outer P w H s Q E) s
def Xf (P:Program)(w:World)(K:PySem.W.Frag)(mg:Str->Option Value)(base:Heap)(N:List Str)(qual:Str)(scope:Scope)(f:Addr)(cd:Value)(A:Around)(outer:List Env)(s:Shared)(H:Hp)(E:XK):Cx :=
 { pN fO P w K mg base N qual scope f cd A outer s H E with calm:=false,xe:=fun _ _=>False }
theorem FT {P:Program}{w:World}{K:PySem.W.Frag}{mg:Str->Option Value}{base:Heap}{N ps:List Str}{qual:Str}{scope:Scope}{f:Addr}{cd:Value}{A:Around}{outer:List Env}{s s1:Shared}{H:Hp}{E:XK}{us:List Value}{vs:List V}
  (S:aP N ps scope) (e0:wD P w K mg base A outer s H) (hl:vs.length=ps.length) (r:bV vs us)
  (x:InCallC s s.heap.objs.size (bindL (envOfC qual scope s.heap.objs.size f cd).kindOf (ps.zip us) fun _=>none) (cellsFrom (s.heap.objs.size+1) scope.names []) (bindC (envOfC qual scope s.heap.objs.size f cd).kindOf (ps.zip us) fun _=>none) s1) :
  aQ (Xf P w K mg base N qual scope f cd A outer s H E) [] (start N vs) H s1:=by
 have e1:wD P w K mg base { A with handled:=none } outer s H:=⟨e0.frames,e0.mod,e0.bs,e0.bsz,e0.funs,e0.frf,e0.hok,e0.bare⟩
 have I:=rP (CX:=fO) (E:=E) S (A:={ A with handled:=none }) rfl e1 hl r x;exact ⟨⟨I.ok.mod,I.ok.kind,I.ok.glob,I.ok.blt,I.ok.above,I.ok.inj,I.ok.has,I.ok.cab,fun z=>aF1 (show false=true from z),Around.frames_deeper e0.frames,I.ok.stk,I.ok.exf,I.ok.bs,I.ok.bsz,I.ok.noex,I.ok.exfs,I.ok.funs,I.ok.frf⟩,I.os,I.bare,I.base,I.loc,I.cell,I.free,I.freeC,I.pin,I.hok,I.len⟩
theorem fC.okH {P:Program}{w:World}{K:PySem.W.Frag}{mg:Str->Option Value}{base:Heap}{x qual:Str}{st:Stmt}{f:Addr}{fd:FuncData}{N ps:List Str}{k:Nat}{sp:Sp}(F:fC K x qual st f fd)(S:aP N ps (aG st))(len:∀ vs H Q E,sp vs H Q E->vs.length=ps.length)
  (hbody:∀ (cdv:Value) (A:Around) (outer:List Env) (s:Shared) (H:Hp) (vs:List V) (Q:VK) (E:XK),mJ k (A.deeper (envOfC qual (aG st) s.heap.objs.size f cdv))->sp vs H Q E ->
   ∃ t,qR (Xf P w K mg base N qual (aG st) f cdv A outer s H E) (fH st) t/\t { nx:=fun _ H'=>Q .non H',rt:=Q } (start N vs) H):S6 P w K mg base (k+1) f fd ps sp:=by
 obtain ⟨oc,od,kV,doc,pm,an,cdv,ct,osl,rfl,lk,hcd⟩:=F.ex;refine ⟨len,fun A outer s H args us vs Q E hr e0 hb r hsp=>?_⟩;have hl:=len _ _ _ _ hsp;have KX:K.In s.heap:=e0.mod.kin.keeps fun b o e=>(e0.bs b o e).1;have lim:s.heap.NoLimit:=e0.mod.nolimit.keeps fun b o e=>(e0.bs b o e).1;have hkind:∀ y∈ps.zip us,(aG st).names.lookup y.1=some .local∨((aG st).names.lookup y.1=some .cell/\((cellsFrom (s.heap.objs.size+1) (aG st).names []).lookup y.1).isSome=true):=fun ⟨n,v⟩ hy=>by
  rcases S.par n (aEM hy).1 with q | q
  ·exact .inl q
  ·exact .inr ⟨q,PySem.W.cellsFrom_some _ _ _ (.inl q)⟩
 refine codeAny_call_function hr.depth (KX _ _ lk) rfl S.co S.gen rfl (PySem.W.codeRec_of KX hcd) (hb _ _ _ _ ?_);refine wpAny_newFunctionEnv_cells S.kind hkind fun env he s1 x=>?_;subst he;refine ⟨lim.keeps x.toInCall.keep,codeAny_func ?_⟩;obtain ⟨t,ht,hq⟩:=hbody cdv A outer s H vs Q E (hr.deeper _) hsp;have I:aQ (Xf P w K mg base N qual (aG st) f cdv A outer s H E) [] (start N vs) H s1:=FT S e0 hl r x;refine wpAny_mono (ht [] s1 (start N vs) H _ I hq) (fun fl s' hs=>?_) fun e s' hs=>hs.elim;have fin:∀ {σ':St}{H':Hp}{v:V}{u:Value},aQ (Xf P w K mg base N qual (aG st) f cdv A outer s H E) [] σ' H' s'->RelV v u->Q v H'->CE outer P w H s Q u s' :=
  fun {σ' H' v u} J rv q=>⟨v,H',J.os,J.bare,J.base,J.hok,rv,q⟩
 cases fl with
 | ret u =>
  obtain ⟨v,σ',H',J,rv,q⟩:=hs;exact fin J rv q
 | next =>
  obtain ⟨σ',H',J,q⟩:=hs;exact fin (v:=V.non) (u:=Value.none) J rfl q
 | brk =>
  obtain ⟨_,_,_,q⟩:=hs;exact False.elim q
 | cont =>
  obtain ⟨_,_,_,q⟩:=hs;exact False.elim q
theorem S6.mono {P:Program}{w:World}{K:PySem.W.Frag}{mg:Str->Option Value}{base:Heap}{j k:Nat}{f:Addr}{fd:FuncData}{ps:List Str}{sp:Sp}(F:S6 P w K mg base j f fd ps sp)(h:j<=k) :
  S6 P w K mg base k f fd ps sp:=⟨F.len,fun A outer s H args us vs Q E hr=>F.run A outer s H args us vs Q E (hr.mono h)⟩
structure Fd (P:Program)(w:World)(K:PySem.W.Frag)(mg:Str->Option Value)(base:Heap)(n:Nat)(x:Str)(ps:List Str)(sp:Sp)(g:Addr)(gd:FuncData):Prop where
 ok:S6 P w K mg base n g gd ps sp
 bi:Binds K gd ps []
 kp:PySem.W.keepIn K (.ref g)=true
 at_:mg x=some (.ref g)
theorem Fd.up {P:Program}{w:World}{K:PySem.W.Frag}{mg:Str->Option Value}{base:Heap}{n m:Nat}{x:Str}{ps:List Str}{sp:Sp}{g:Addr}{gd:FuncData}(c:Fd P w K mg base n x ps sp g gd)(h:n<=m):Fd P w K mg base m x ps sp g gd:=⟨c.ok.mono h,c.bi,c.kp,c.at_⟩
theorem Cr {X:Cx}{n:Nat}{x:Str}{ps:List Str}{sp:Sp}{g:Addr}{gd:FuncData}{p pos:Pos}{e:Expr}{es:List Expr}{t:TA}(c:Fd X.prog X.w X.K X.mg X.base n x ps sp g gd)(hr:mJ n X.A)(ha:PA X (e::es) t)(hg:Gl X x:=by rfl)
  (hd:(x==("__debug__" : Str))=false:=by decide) (he:starEach (e::es) X.env=(false,eval e X.env)::starEach es X.env:=by rfl) (hpl:(backTo pos (starEach es X.env)).any (·.1)=false:=by rfl) :
  PE X (.Call (.Name x p) (e::es) [] pos) (Fz sp [] E0 t):=by
 intro pins s σ H Q I h;refine wpAny_Call_Name_kw (nZ I hg c.at_ ?_ hd);refine PySem.W.callWith_K (h₀:=X.base) I.ok.mod.kin c.kp (dF (ha pos pins s σ H _ I h) fun us s1 ⟨vs,H1,I1,r,q⟩=>⟨I1.kIn,?_⟩) he hpl;have r2:bV (vs++[]) (us++[]):=r.append .nil;have hl:(us++[]).length=ps.length:=by rw [<- r2.length]; exact c.ok.len _ _ _ _ q
 refine wpAny_call (codeAny_mono (c.ok.run X.A X.stack s1 H1 ⟨us,[]⟩ (us++[]) (vs++[]) Q E0 hr I1.env0 (c.bi s1 us I1.kIn hl) r2 q) fun r s' hq=>?_);cases r with
 | error e=>exact False.elim hq
 | ok fl =>
  cases fl with
  | ret u=>exact I1.after hq
  | next=>exact False.elim hq
  | brk=>exact False.elim hq
  | cont=>exact False.elim hq
section
variable {X:Cx}
def aW (i:Int)(n:Nat):List Int:=(aEs n).map fun (k:Nat)=>i+(k:Int)
def Hv (ta:TA):TE:=fun σ H Q=>ta σ H fun vs H1=>∃ j:Int,vs=[.int j]/\(0<=j/\j<=1000000)/\∀ l,H1 l=none->Q (.ref l) (aM H1 l (.lst ((aW 0 j.toNat).map V.int)))
theorem Bw {a:Expr}{ta:TA}{p p2 pos pos2:Pos}(hc:X.calm=true)(hg:Gl X "list")(hm:X.mg "list" = none)(hg2:Gl X "range")(hm2:X.mg "range" = none)(ha:PA X [a] ta)
  (hs:starEach [a] X.env=[(false,eval a X.env)]:=by rfl)
  (hs2:starEach [.Call (.Name "range" p2) [a] [] pos2] X.env=[(false,eval (.Call (.Name "range" p2) [a] [] pos2) X.env)]:=by rfl) :
  PE X (.Call (.Name "list" p) [.Call (.Name "range" p2) [a] [] pos2] [] pos) (Hv ta):=by
 intro pins s σ H Q I h;refine wpAny_Call_Name_kw (jQ I hg hm iZ ?_);refine PyProof.Rows.callWith_type1 ?_ hs2 rfl;rw [hs2];show wpAny _ _ (spliced [(false,eval (.Call (.Name "range" p2) [a] [] pos2) X.env)]) _ _ _;refine Calls.spliced_cons ?_;refine Call_ (jQ I hg2 hm2 boot_range (PyProof.Rows.callWith_type1 (dF (ha pos2 pins s σ H _ I h) fun us s1 ⟨vs,H1,I1,r1,q1⟩=>?_) hs rfl));obtain ⟨j,e,⟨j0,j1⟩,q⟩:=q1;subst e;cases r1 with
 | cons r rr =>
 cases rr;obtain ⟨t,rfl⟩:=r;refine call_range_1 (Calls.spliced_nil ?_);have sz:Builtin.Range.rangeSize 0 j 1=((j.toNat:Nat):Int):=by rw [rangeSize_one]; split <;> omega
 refine call_list_range (I1.ok.hd hc) (IsRange.new ..) (small_one (by omega) (by omega) (by omega) (by omega)) sz (by omega) fun h' tk acc c hk hD hacc=>?_;have I2:∀ (ob:Obj),aQ X pins σ H1 { s1 with heap:=s1.heap.push ob }:=fun ob=>I1.kept (t':=s1.toks) fun b o e=>aDf _ e;have vv:bV ((aW 0 j.toNat).map V.int) acc.toList:=by
  have gen:∀ (n:Nat) (k:Int) (ws:List Value),ws.length=n->(∀ (x:Nat) v,ws[x]? = some v->∃ t,v=Value.int (k+(x:Int)) t)->bV ((aW k n).map V.int) ws:=by
   intro n
   induction n with
   | zero =>
    intro k ws hl _;have e:ws=[]:=aEQ.mp hl;rw [e];show bV [] [];exact .nil
   | succ n ih =>
    intro k ws hl hw;cases ws with
    | nil=>simp at hl
    | cons v ws =>
     have e:aW k (n+1)=k::aW (k+1) n:=by
      unfold aW;rw [List.range_succ_eq_map,aDE,aDH];have e0:k+((0:Nat):Int)=k:=by omega
      rw [e0]
      congr 1
      refine aEh fun x _=>?_;show k+((x+1:Nat):Int)=k+1+(x:Int)
      omega
     rw [e];obtain ⟨t0,h0⟩:=hw 0 v rfl;refine .cons ⟨t0,by rw [h0]; congr 1; omega⟩ (ih (k+1) ws (by simpa using hl) fun x w' hx=>?_);obtain ⟨t1,h1⟩:=hw (x+1) w' (by simpa using hx);exact ⟨t1,by rw [h1]; congr 1; omega⟩
  refine gen _ 0 _ (by rw [aDR]; exact hacc.1) fun x v hx=>?_;obtain ⟨t0,h0⟩:=hacc.2 x v (by rw [<- aEB]; exact hx);exact ⟨t0,by rw [h0,Int.mul_one]⟩
 refine ⟨.ref _,aM H1 _ (.lst ((aW 0 j.toNat).map V.int)),(I2 _).laid (t':=tk) hk (aDn _) ⟨?_,acc.toList,c,vv,?_⟩,rfl,q _ (I1.hok.fresh ?_)⟩
 ·unfold aW;rw [aDe,aDe,aEY,sizeLine_eq];omega
 ·rw [aE3];exact hD
 ·exact aDO (by rw [aEb]; exact aFj _)
end
end L2
namespace PySem
open Sem (wp)
namespace F
theorem wB:typeLookup (.type "list") "keys" = pure none:=by rw [typeLookup_type,builtinLookup_eq_fast]; kernel_rfl
theorem iB:plainId "dict.update.loop" = true:=by decide +kernel
theorem oY:entryFor table "dict.update.loop" = some Builtin.«dict.update.loop»:=entryFor_of_fast (by kernel_rfl)
end F
theorem Mr {prog:Program}{w:World}{A:Around}{E:Value->Shared->Prop}{s:Shared}{l:Addr}{ob:Obj}{zs:Array Value}{n:Nat}{x:Str}{Q:Option Value->Shared->Prop}
  (at_:s.heap.get? l=some ob) (ty:ob.cls=.type "list") (da:ob.data=.seq zs n) (nd:ob.dict=none) (miss:typeLookup (.type "list") x=pure none) (usual:(["__module__","__name__","__qualname__","__doc__","__annotations__"]:List Str).contains x=false) (calm:A.handled=none) (short:x.length+100<=sizeLine)
  (go:∀ h' tk,(∀ b o,s.heap.get? b=some o->h'.get? b=some o)->Q none { s with heap:=h',toks:=tk }):wpAny (model prog w) A (getAttr? (.ref l) x) Q E s:=by
 cases ob with
 | mk cl di dt st =>
 cases (show cl=_ from ty);cases (show dt=_ from da);cases (show di=_ from nd);cases s with
 | mk hp gs dr tks ost =>
 have isL:∀ t,(⟨hp,gs,dr,t,ost⟩:Shared).TypeIs (.ref l) "list":=fun _=>⟨_,at_,rfl⟩
 have lk:=F.slot_list_getattribute.lookup;have bd:=F.slot_list_getattribute.bind (.ref l);have hk:=am_list_getattr_none;have sb:=sub_AttributeError;unfold getAttr? getAttrBy? getAttrBy
 repeat (any_goals (first
  | exact isL _
  | assumption
  | ((with_reducible show wpAny _ _ (call (Value.builtin "list.__getattribute__") _ _) _ _ _); refine call_meets F.slot_list_getattribute (isL _) am_entry_list_getattribute (F.args_list_getattribute_2 _ _) (meets_getattribute_miss_list l zs n st x _ miss usual short) ⟨at_,calm,fun h2 t2 ea new=>?_⟩)
  | wp_step))
 have old:=new.keeps;obtain ⟨ta,ua,there⟩:=new.there;show wpAny _ _ (getattributeRaised _ _ _ (.ref ea) _ _ _) _ _ _;unfold getattributeRaised
 repeat (any_goals (first | assumption | wp_step))
 exact go _ _ old
end PySem
namespace L2
open PySem PySem.Spec PyProof.Rows
structure Dr where
 p:Addr
 q:Addr
 k:List Key
 v:V
def Nk (H:Hp)(d:Dr):Prop:=H d.p=some (.tup [.ref d.q,d.v])/\H d.q=some (.tup (d.k.map kV))
def gG (ds:List Dr):List (List Key×V):=ds.foldl (fun kvs d=>putK kvs d.k d.v) []
theorem Dh (ds:List Dr)(d:Dr):gG (ds++[d])=putK (gG ds) d.k d.v:=by unfold gG; rw [aEC]; rfl
theorem xV:∀ (ds:List Dr) (kvs:List (List Key×V)),(ds.foldl (fun kvs d=>putK kvs d.k d.v) kvs).length<=kvs.length+ds.length
 | [],kvs=>aDn _
 | d::ds,kvs=>by
  have h1:=xV ds (putK kvs d.k d.v);have h2:=gA kvs d.k d.v;simp only [aEq,aDF];omega
theorem zM (ds:List Dr):(gG ds).length<=ds.length:=by
 have:=xV ds []
 simpa [gG] using this
theorem JN {X:Cx}{pins:List (Addr×Obj)}{σ:St}{H:Hp}{s:Shared}{a b:Addr}{kvs:List (List Key×V)}{k:List Key}{v:V}{r:Value}{A:Around}{E:Value->Shared->Prop}{Q:Unit->Shared->Prop}(hu:A.units<cLine)(I:aQ X pins σ H s)
  (e:H a=some (.dT kvs)) (eb:H b=some (.tup (k.map kV))) (l:kvs.length<sizeLine) (rv:RelV v r)
  (h:∀ s',aQ X pins σ (aM H a (.dT (putK kvs k v))) s'->aDL a s.heap s'.heap->Q () s'):wpAny (model X.prog X.w) A (dictSet a (.ref b) r) Q E s:=by
 obtain ⟨z,hd,xs,rel,dd⟩:=QL I.hok e;have hz:xs.length<=sizeLine:=by rw [<- Paired.length rel]; exact z
 have hl:(putK kvs k v).length<=sizeLine:=by have:=gA kvs k v; omega
 refine wpAny_dictSet_heap (hsz:=hz) hu (uL I.hok eb) dd fun h' dd' hs=>h _ ?_ hs;obtain ⟨q,es,ep,hq,h2,h3,h4,_,h5⟩:=dd';refine zU I (by rw [e]; exact True.intro) hs ⟨q,hq⟩ ⟨hl,hd,_,(rel.put k eb rv).keeps fun c ys ec=>?_,q,es,ep,hq,h2,h3,h4,h5⟩;rw [aH (dG ec e (fun z=>nomatch z))];exact ec
theorem Ky {X:Cx}{pins:List (Addr×Obj)}{σ:St}{H:Hp}{A:Around}{R:Result->Shared->Prop}{l it d:Addr}{ds:List Dr}(hu:A.units+1<cLine)(hh:A.handled=none)
  (hf:jM X pins H it) (hne:it≠d) (hd:H d=none) (hS:bB X.K H l (ds.map fun x=>V.ref x.p)) (hD:∀ x∈ds,Nk H x) (hz:ds.length<sizeLine)
  (hR:∀ s',aQ X pins σ (aM H d (.dT (gG ds))) s'->R (.ok (.ret .none)) s') :
  ∀ (k i:Nat) (j:Int) (s:Shared),ds.length-i=k->i<=ds.length->aQ X pins σ (aM H d (.dT (gG (ds.take i)))) s->s.heap.IsListIter it l i ->
   codeAny (model X.prog X.w) A (.builtin "dict.update.loop" ⟨[.ref d,.ref it,rawInt j,.none],[]⟩) R s:=by
 obtain ⟨f0,f1,f2,f3,f4,f5⟩:=hf;intro k
 induction k with
 | zero =>
  intro i j s hk hi I st;have e:i=ds.length:=by omega
  subst e;rw [aDz] at I;obtain ⟨its,rv,pl,_⟩:=I.list ((aC hd _).seq hS);have hl:=rv.length;refine codeAny_builtin F.oY ?_;rw [Around.under_plainId F.iB _];show wpAny _ A.in1 (pyNext (.ref it) >>= _) _ _ s;refine wpAny_bind (wpAny_pyNext_list_end hh st pl.isList (by simp at hl ⊢; omega) fun h' eb=>?_);have I1:aQ X pins σ (aM H d (.dT (gG ds))) { s with heap:=h' }:=I.turned (t':=s.toks) (fun b o hb e=>eb b o hb e) (by rw [aH hne]; exact f0) f1 f3 f4 f5;show wpAny _ A.in1 (Builtin.Dict.addKeywords d [] >>= _) _ _ _;exact wpAny_bind (wpAny_pure (wpAny_pure (hR _ I1)))
 | succ k ih =>
  intro i j s hk hi I st;have hlt:i<ds.length:=by omega
  have hx:ds[i]? = some ds[i]:=aDl hlt;have hxm:ds[i]∈ds:=aDU hlt;generalize ds[i]=x at hx hxm;have sN:=aC hd (.dT (gG (ds.take i)));obtain ⟨its,rv,pl,_⟩:=I.list (sN.seq hS);obtain ⟨u,hu1,ru⟩:=rv.get (i:=i) (x:=.ref x.p) (by rw [aDm,hx]; rfl);cases (show u=Value.ref x.p from ru);refine codeAny_builtin F.oY ?_;rw [Around.under_plainId F.iB _];show wpAny _ A.in1 (pyNext (.ref it) >>= _) _ _ s;refine wpAny_bind (wpAny_pyNext_list_item st pl.isList (x:=.ref x.p) (by simpa using hu1) fun h' st' sb=>?_);have I1:aQ X pins σ (aM H d (.dT (gG (ds.take i)))) { s with heap:=h' }:=I.turned (t':=s.toks) (fun b o hb e=>(sb.2 b hb).trans e) (by rw [aH hne]; exact f0) f1 f3 f4 f5;obtain ⟨hp,hq⟩:=hD x hxm;obtain ⟨_,its2,rv2,o,e1,e2,n,e3⟩:=(show cH X.prog X.w _ h' x.p (.tup [.ref x.q,x.v]) from I1.hok x.p _ (sN _ _ hp))
  obtain ⟨w1,w2,rfl,r1,r2⟩:=vals2 rv2;cases (show w1=Value.ref x.q from r1);refine wpAny_bind (wpAny_holding ?_);refine wpAny_bind (wpAny_tryCatch ?_);unfold Builtin.Dict.pairItems;refine wpAny_bind (wpAny_typeOf (T:="tuple") ⟨o,e1,e2⟩ ?_);rw [if_pos (by decide)];refine wpAny_bind (wpAny_seqItems e1 e3 (wpAny_pure ?_));show wpAny _ A.in1 (holding [.ref x.q,w2] (dictSet d (.ref x.q) w2)) _ _ _;refine wpAny_holding (JN (show A.in1.units<cLine from hu) I1 aA (sN _ _ hq) ?_ r2 fun s' I2 sm=>?_)
  ·have:=zM (ds.take i);rw [aDu] at this;omega
  ·refine wpAny_pure ⟨plainId_quiet F.iB _,?_⟩;refine ih (i+1) (j+1) s' (by omega) hlt ?_ (st'.at fun o e=>(sm.2 it hne).trans e);have et:ds.take (i+1)=ds.take i++[x]:=by rw [aEU,hx]; rfl
   rw [et,Dh];rw [Oa] at I2;exact I2
theorem El {X:Cx}(hc:X.calm=true)(hu:X.A.units+2<cLine):fB X (.type "dict") (fun xs H Q=>∃ (a:Addr) (ds:List Dr),xs=[.ref a]/\bB X.K H a (ds.map fun x=>V.ref x.p)/\(∀ x∈ds,Nk H x)/\ds.length<sizeLine/\∀ r,H r=none->Q (.ref r) (aM H r (.dT (gG ds)))):=by
 intro pins s σ H xs us Q I r h;obtain ⟨a,ds,rfl,hS,hD,hz,q⟩:=h;obtain ⟨u,rfl,ru⟩:=vals1 r;cases (show u=Value.ref a from ru);have hA:=I.ok.hd hc;refine callType_codes (Q₁:=fun obj s₁=>obj=.ref s.heap.objs.size/\s₁ = { s with heap:=s.heap.push { cls:=.type "dict",data:=.dict #[] } }) F.kt_called_dict (F.kt_typeCall_dict_1 _) F.entry_dict_init (kt_code_dict_new _ ⟨rfl,rfl⟩) ?_;rintro obj s₁ ⟨rfl,rfl⟩;have hd:H s.heap.objs.size=none:=I.hok.fresh (aDn _);have I1:aQ X pins σ (aM H s.heap.objs.size (.dT [])) { s with heap:=s.heap.push { cls:=.type "dict",data:=.dict #[] } }:=I.laid (a:=s.heap.objs.size) (o:=.dT []) (t':=s.toks) (fun _ _ q=>aDf _ q) (aDn _) (DX s.heap I.big);have tyD:({ s with heap:=s.heap.push { cls:=.type "dict",data:=.dict #[] } }:Shared).TypeIs (.ref s.heap.objs.size) "dict":=⟨_,aDt _ rfl,rfl⟩
 refine ⟨tyD,F.args_dict_init_2 _ _,?_⟩;obtain ⟨its,rv,pl,_⟩:=I1.list ((aC hd _).seq hS);obtain ⟨o,n,e1,e2,e3,e4⟩:=id pl;unfold Builtin.«dict.__init__»;refine wpAny_bind ?_;unfold Builtin.Dict.selfAndRest;refine wpAny_bind (wpAny_notOrdered_dict tyD ?_);show wpAny _ _ (pure (s.heap.objs.size,[Value.ref a])) _ _ _;refine wpAny_pure ?_;show wpAny _ _ (Builtin.Dict.updateFrom "dict.__init__" s.heap.objs.size (.ref a) [] .none) _ _ _;unfold Builtin.Dict.updateFrom;refine wpAny_bind (wpAny_typeOf (T:="list") ⟨o,e1,e2⟩ ?_);rw [if_pos (by decide)];refine wpAny_bind (Mr e1 e2 e4 e3 F.wB (by decide +kernel) hA (by decide) fun h1 tk1 k1=>?_);rw [if_pos (show (none:Option Value).isNone=true from rfl)];refine wpAny_bind (wpAny_rule ?_);have I2:aQ X pins σ (aM H s.heap.objs.size (.dT [])) { s with heap:=h1,toks:=tk1 }:=I1.kept (t':=tk1) k1;obtain ⟨its2,rv2,pl2,_⟩:=I2.list ((aC hd _).seq hS);refine wpAny_bind (wpAny_pyIter_list pl2.isList ?_);have I3:=I2.kept (t':=tk1) (h':=h1.push { cls:=.type "list_iterator",data:=.fields #[.ref a,.int 0 0] }) fun _ _ q=>aDf _ q;have dlt:s.heap.objs.size<h1.objs.size:=aDv (k1 _ _ (aDt _ rfl));refine wpAny_pure ⟨plainId_quiet F.iB _,?_⟩;have fr:H h1.objs.size=none:=by
  have z:=I2.hok.fresh (aDn h1.objs.size);rw [aH (aEa dlt)] at z;exact z
 refine Ky (A:=X.A.in1) (ds:=ds) (d:=s.heap.objs.size) (show X.A.units+1+1<cLine from hu) hA (I2.fpOk (aDn _) fr) (aEa dlt) hd hS hD hz (fun s' I'=>?_) ds.length 0 0 _ (by omega) (aDK _) I3 ⟨_,aDt _ rfl,rfl,rfl⟩;exact ⟨rfl,.ref s.heap.objs.size,_,I',rfl,q _ hd⟩
theorem Ba {X:Cx}{K:PySem.W.Frag}(hK:X.K=K)(hc:X.calm=true)(hu:X.A.units+2<cLine):fB X (.type "dict") (fun xs H Q=>∃ (a:Addr) (ds:List Dr),xs=[.ref a]/\bB K H a (ds.map fun x=>V.ref x.p)/\(∀ x∈ds,Nk H x)/\ds.length<sizeLine/\∀ r,H r=none->Q (.ref r) (aM H r (.dT (gG ds)))):=by
 subst hK;exact El hc hu
end L2
namespace K77
open PySem L2 TD
def top (i:Nat):Stmt:=PySem.Challenge.pw_lidprice_k77_offers_refused.main.body.getD i (.Pass ⟨0,0,0,0⟩)
def iQ:Pos:=⟨64,30,64,72⟩
theorem tD:aP ["thing","least","most"] ["thing","least","most"] (aG (top 8)):=⟨rfl,rfl,rfl,by decide +kernel,rfl,by decide +kernel,by decide +kernel⟩
theorem j6:aP ["one","other","rest"] ["one","other"] (aG (top 9)):=⟨rfl,rfl,rfl,by decide +kernel,rfl,by decide +kernel,by decide +kernel⟩
theorem jL:aP ["numbers","multiple","number"] ["numbers"] (aG (top 10)):=⟨rfl,rfl,rfl,by decide +kernel,rfl,by decide +kernel,by decide +kernel⟩
theorem Bd:aP ["top","bottom","divisor"] ["top","bottom"] (aG (top 11)):=⟨rfl,rfl,rfl,by decide +kernel,rfl,by decide +kernel,by decide +kernel⟩
theorem Ce:aP ["number"] ["number"] (aG (top 12)):=⟨rfl,rfl,rfl,by decide +kernel,rfl,by decide +kernel,by decide +kernel⟩
theorem HN:aP ["one","other"] ["one","other"] (aG (top 13)):=⟨rfl,rfl,rfl,by decide +kernel,rfl,by decide +kernel,by decide +kernel⟩
theorem Ao:aP ["one","other"] ["one","other"] (aG (top 14)):=⟨rfl,rfl,rfl,by decide +kernel,rfl,by decide +kernel,by decide +kernel⟩
theorem Aq:aP ["fractions","bottom"] ["fractions"] (aG (top 15)):=⟨rfl,rfl,rfl,by decide +kernel,rfl,by decide +kernel,by decide +kernel⟩
theorem Ck:aP ["one","other"] ["one","other"] (aG (top 16)):=⟨rfl,rfl,rfl,by decide +kernel,rfl,by decide +kernel,by decide +kernel⟩
theorem An:aP ["one","other"] ["one","other"] (aG (top 17)):=⟨rfl,rfl,rfl,by decide +kernel,rfl,by decide +kernel,by decide +kernel⟩
theorem uU:aP ["one","other"] ["one","other"] (aG (top 18)):=⟨rfl,rfl,rfl,by decide +kernel,rfl,by decide +kernel,by decide +kernel⟩
theorem wY:aP ["row"] ["row"] (aG (top 23)):=⟨rfl,rfl,rfl,by decide +kernel,rfl,by decide +kernel,by decide +kernel⟩
theorem vR:aP ["rows"] ["rows"] (aG (top 24)):=⟨rfl,rfl,rfl,by decide +kernel,rfl,by decide +kernel,by decide +kernel⟩
theorem xJ:aP ["worths","most","scale"] ["worths"] (aG (top 25)):=⟨rfl,rfl,rfl,by decide +kernel,rfl,by decide +kernel,by decide +kernel⟩
theorem v9:aP ["rows","weights","worth","weight","divisor"] ["rows"] (aG (top 26)):=⟨rfl,rfl,rfl,by decide +kernel,rfl,by decide +kernel,by decide +kernel⟩
theorem sY:aP ["rows"] ["rows"] (aG (top 27)):=⟨rfl,rfl,rfl,by decide +kernel,rfl,by decide +kernel,by decide +kernel⟩
theorem mZ:aP ["table"] ["table"] (aG (top 28)):=⟨rfl,rfl,rfl,by decide +kernel,rfl,by decide +kernel,by decide +kernel⟩
theorem oU:aP ["rows","weights","bottom","top"] ["rows","weights"] (aG (top 29)):=⟨rfl,rfl,rfl,by decide +kernel,rfl,by decide +kernel,by decide +kernel⟩
theorem Gu:aP ["table"] ["table"] (aG (top 30)):=⟨rfl,rfl,rfl,by decide +kernel,rfl,by decide +kernel,by decide +kernel⟩
theorem Bx:aP ["table","level","higher"] ["table","level"] (aG (top 31)):=⟨rfl,rfl,rfl,by decide +kernel,rfl,by decide +kernel,by decide +kernel⟩
theorem oR:aP ["table","level","reached"] ["table","level"] (aG (top 32)):=⟨rfl,rfl,rfl,by decide +kernel,rfl,by decide +kernel,by decide +kernel⟩
theorem qL:aP ["tables","worths","table","worth","weight"] ["tables"] (aG (top 33)):=⟨rfl,rfl,rfl,by decide +kernel,rfl,by decide +kernel,by decide +kernel⟩
theorem v7:aP ["numbers","result","number"] ["numbers"] (aG (top 34)):=⟨rfl,rfl,rfl,by decide +kernel,rfl,by decide +kernel,by decide +kernel⟩
theorem tL:aP ["tables","weights","reached","behind","rows","worth","together"] ["tables"] (aG (top 35)):=⟨rfl,rfl,rfl,by decide +kernel,rfl,by decide +kernel,by decide +kernel⟩
theorem sW:aP ["lists"] ["lists"] (aG (top 38)):=⟨rfl,rfl,rfl,by decide +kernel,rfl,by decide +kernel,by decide +kernel⟩
theorem tH:aP ["order","many"] ["order","many"] (aG (top 39)):=⟨rfl,rfl,rfl,by decide +kernel,rfl,by decide +kernel,by decide +kernel⟩
theorem qH:aP ["truths","many"] ["truths","many"] (aG (top 40)):=⟨rfl,rfl,rfl,by decide +kernel,rfl,by decide +kernel,by decide +kernel⟩
theorem vZ:aP ["rule","tables"] ["rule","tables"] (aG (top 41)):=⟨rfl,rfl,rfl,by decide +kernel,rfl,by decide +kernel,by decide +kernel⟩
theorem mY:aP ["table","level"] ["table","level"] (aG (top 42)):=⟨rfl,rfl,rfl,by decide +kernel,rfl,by decide +kernel,by decide +kernel⟩
theorem mQ:aP ["shares","found","part"] ["shares"] (aG (top 43)):=⟨rfl,rfl,rfl,by decide +kernel,rfl,by decide +kernel,by decide +kernel⟩
theorem p8:aP ["_law_script","_law_k"] ["_law_script","_law_k"] (aG (top 51)):=⟨rfl,rfl,rfl,by decide +kernel,rfl,by decide +kernel,by decide +kernel⟩
theorem oX:aP ["_law_script","_law_lists_here","_law_k","_law_cell_here"] ["_law_script"] (aG (top 53)):=⟨rfl,rfl,rfl,by decide +kernel,rfl,by decide +kernel,by decide +kernel⟩
theorem lL:aP ["_law_lists_here","_law_cell_here","_law_at","_law_row","_law_value","_law_weight","_law_some","_law_bad"] ["_law_lists_here","_law_cell_here"] (aG (top 54)):=⟨rfl,rfl,rfl,by decide +kernel,rfl,by decide +kernel,by decide +kernel⟩
theorem lO:aP ["_law_many","_law_cell_here","_law_order","_law_at","_law_twice","_law_some","_law_odd"] ["_law_many","_law_cell_here"] (aG (top 55)):=⟨rfl,rfl,rfl,by decide +kernel,rfl,by decide +kernel,by decide +kernel⟩
theorem mO:aP ["_law_lists_here","_law_cell_here","_law_rule","_law_at","_law_row","_law_some","_law_odd","_law_bad"] ["_law_lists_here","_law_cell_here"] (aG (top 56)):=⟨rfl,rfl,rfl,by decide +kernel,rfl,by decide +kernel,by decide +kernel⟩
theorem o6:aP ["_law_e"] ["_law_e"] (aG (top 57)):=⟨rfl,rfl,rfl,by decide +kernel,rfl,by decide +kernel,by decide +kernel⟩
theorem MP:aP ["_law_script","_law_lists_here","_law_offers","_law_kept","_law_rule"] ["_law_script"] (aG (top 60)):=⟨rfl,rfl,rfl,by decide +kernel,rfl,by decide +kernel,by decide +kernel⟩
theorem jV:aP ["self","lists"] ["self","lists"] (aG (inClass (top 49) 0)):=⟨rfl,rfl,rfl,by decide +kernel,rfl,by decide +kernel,by decide +kernel⟩
theorem lH:aP ["self"] ["self"] (aG (inClass (top 49) 1)):=⟨rfl,rfl,rfl,by decide +kernel,rfl,by decide +kernel,by decide +kernel⟩
theorem jX:aP ["self"] ["self"] (aG (inClass (top 49) 2)):=⟨rfl,rfl,rfl,by decide +kernel,rfl,by decide +kernel,by decide +kernel⟩
theorem m7:aP ["self"] ["self"] (aG (inClass (top 49) 3)):=⟨rfl,rfl,rfl,by decide +kernel,rfl,by decide +kernel,by decide +kernel⟩
theorem gP:aP ["self","order","level","tables"] ["self","order","level"] (aG (inClass (top 49) 4)):=⟨rfl,rfl,rfl,by decide +kernel,rfl,by decide +kernel,by decide +kernel⟩
theorem iI:aP ["self","level","shares","none","rows","offer","table","sums"] ["self"] (aG (inClass (top 49) 6)):=⟨rfl,rfl,rfl,by decide +kernel,rfl,by decide +kernel,by decide +kernel⟩
theorem iV:aP ["self","found","table","rows"] ["self"] (aG (inClass (top 49) 7)):=⟨rfl,rfl,rfl,by decide +kernel,rfl,by decide +kernel,by decide +kernel⟩
theorem iT:aP ["self","rule"] ["self","rule"] (aG (inClass (top 49) 8)):=⟨rfl,rfl,rfl,by decide +kernel,rfl,by decide +kernel,by decide +kernel⟩
theorem jG:aP ["self","rule"] ["self","rule"] (aG (inClass (top 49) 9)):=⟨rfl,rfl,rfl,by decide +kernel,rfl,by decide +kernel,by decide +kernel⟩
theorem gO:aP ["self","rule","worths","reached","found","offer","table"] ["self","rule"] (aG (inClass (top 49) 10)):=⟨rfl,rfl,rfl,by decide +kernel,rfl,by decide +kernel,by decide +kernel⟩
end K77
namespace K77
open PySem L2 TD
open Builtin.Int (intBits)
section
variable {P:Program}{w:World}{K:PySem.W.Frag}{mg:Str->Option Value}{base:Heap}{Pt:Addr}
theorem qQ {n:Nat}{f:Addr}{fd:FuncData}(F:fC K "common_divisor" "common_divisor" (top 9) f fd)(aCf:mg "abs" = none):bH P w K mg base fO (n+1) f fd ["one","other"] O7:=by
 refine F.ok j6 (fun vs H Q E h=>?_) (fun cdv A outer s H vs Q E hr h=>?_)
 ·obtain ⟨a,b,rfl,_⟩:=h
  rfl
 obtain ⟨a,b,rfl,q⟩:=h;have nd:=j6.nd;refine ⟨_,(aL (Jd PassesOwn.never (gD Cd (pv 1) aO (eE _)) (aL (bU (i:=2) nd rfl (Or.inl rfl) (bM PN (pv 0) (pv 1))) (aL (bU (i:=0) nd rfl (Or.inl rfl) (pv 1)) (aK (bU (i:=1) nd rfl (Or.inl rfl) (pv 2)))))) (aK (bC (aY MN rfl aCf Qu (aB (pv 0) aD))))),?_⟩;refine Ma (fun σ H'=>∃ x y r,σ = [some (.int x),some (.int y),r]/\aDW x y=aDW a b/\H'=H) (fun σ _=>match σ with | [_,some (.int y),_]=>y.natAbs | _=>0) ⟨a,b,none,rfl,rfl,rfl⟩ (fun σ H' ⟨x,y,r,e,hg,eH⟩=>?_) (fun σ H Q Q' hQ ⟨v,e,hs,k,ek,q⟩=>⟨v,e,hs,k,ek,hQ _ _ q⟩);subst e eH;refine ⟨_,rfl,rfl,_,rfl,?_⟩
 by_cases hy:y=0
 ·subst hy;refine Gd (by simp) ?_;refine ⟨_,rfl,_,rfl,?_⟩;have e:(if x<0 then -x else x)=((aDW a b:Nat):Int):=by
   rw [<- hg,Int.gcd_zero]
   split <;> omega
  rw [e];exact q
 ·refine Ec (by simp [hy]) ?_;refine ⟨_,rfl,_,rfl,x,y,rfl,rfl,hy,?_⟩;refine ⟨_,rfl,?_⟩;refine ⟨_,rfl,?_⟩;exact ⟨⟨y,x.fmod y,_,rfl,(Fr.K5 x y).trans hg,rfl⟩,Fr.Ij hy⟩
theorem Mq {n:Nat}{f:Addr}{fd:FuncData}(F:fC K "share" "share" (top 11) f fd){n_:Addr}{l_:FuncData}(o_:eO P w K mg base n "common_divisor" ["one","other"] O7 n_ l_):bH P w K mg base fO (n+1) f fd ["top","bottom"] j7:=by
 refine F.ok Bd (fun vs H Q E h=>?_) (fun cdv A outer s H vs Q E hr h=>?_)
 ·obtain ⟨t,b,rfl,_⟩:=h
  rfl
 obtain ⟨t,b,rfl,hb,hz,q⟩:=h;have nd:=Bd.nd;refine ⟨_,(aL (bU (i:=2) nd rfl (Or.inl rfl) (aJ o_ hr (aB (pv 0) (aB (pv 1) aD)))) (aL (iW (gD GD (pv 1) aO (eE _)) (aK (bU (i:=2) nd rfl (Or.inl rfl) (KZ Ef (pv 2)))) eF) (aK (bC (gQ (aB (bM jJ (pv 0) (pv 2)) (aB (bM jJ (pv 1) (pv 2)) aD))))))),?_⟩;have hdz:intBits (Fr.dv t b)<=9000:=PySem.intBits_le_of_natAbs (by rw [Fr.rD]; exact aFo t hb) hz;have hdn:=Fr.Gb (t:=t) hb;refine ⟨_,rfl,_,rfl,t,b,rfl,?_⟩;refine ⟨_,rfl,_,_,rfl,rfl,_,rfl,?_⟩;refine BJ (fun c=>?_) (fun c=>?_)
 ·have e:-((aDW t b:Nat):Int)=Fr.dv t b:=by unfold Fr.dv; rw [if_pos (of_decide_eq_true c)]
  unfold Fr.sh at q;rw [<- e] at q hdz hdn;refine ⟨_,rfl,_,rfl,?_⟩;refine ⟨_,rfl,_,rfl,_,_,rfl,rfl,⟨hdn,hdz⟩,_,rfl,_,rfl,_,_,rfl,rfl,⟨hdn,hdz⟩,Bp,fun p hp=>?_⟩;exact q p _ (aC hp _) aA
 ·have e:((aDW t b:Nat):Int)=Fr.dv t b:=by unfold Fr.dv; rw [if_neg (of_decide_eq_false (aEX.mpr c))]
  unfold Fr.sh at q;rw [<- e] at q hdz hdn;refine ⟨_,rfl,_,rfl,_,_,rfl,rfl,⟨hdn,hdz⟩,_,rfl,_,rfl,_,_,rfl,rfl,⟨hdn,hdz⟩,Bp,fun p hp=>?_⟩;exact q p _ (aC hp _) aA
theorem Jz {n:Nat}{f:Addr}{fd:FuncData}(F:fC K "below" "below" (top 17) f fd):bH P w K mg base fO (n+1) f fd ["one","other"] (uE K):=by
 refine F.ok An (fun vs H Q E h=>?_) (fun cdv A outer s H vs Q E hr h=>?_)
 ·obtain ⟨p,q,a,b,c,d,rfl,_⟩:=h
  rfl
 obtain ⟨p,q,a,b,c,d,rfl,hp,hq,z,k⟩:=h;have nd:=An.nd;refine ⟨_,(aK (bC (qD GD (bM dC (cU dB (pv 0) aO (fun _ _=>rfl)) (cU dB (pv 1) aO (fun _ _=>rfl))) (bM dC (cU dB (pv 1) aO (fun _ _=>rfl)) (cU dB (pv 0) aO (fun _ _=>rfl))) (eE _)))),?_⟩;exact ⟨_,rfl,p,_,_,_,rfl,rfl,hp,rfl,_,rfl,q,_,_,_,rfl,rfl,hq,rfl,_,_,rfl,rfl,gM z.a z.d (by decide),_,rfl,q,_,_,_,rfl,rfl,hq,rfl,_,rfl,p,_,_,_,rfl,rfl,hp,rfl,_,_,rfl,rfl,gM z.c z.b (by decide),_,_,rfl,rfl,k⟩
theorem yO {n:Nat}{f:Addr}{fd:FuncData}(F:fC K "_law_cell" "_law_cell" (top 51) f fd)(e_:mg "len" = none):bH P w K mg base fO (n+1) f fd ["_law_script","_law_k"] (Dy K):=by
 refine F.ok p8 (fun vs H Q E h=>?_) (fun cdv A outer s H vs Q E hr h=>?_)
 ·obtain ⟨a,ns,k,rfl,_⟩:=h
  rfl
 obtain ⟨a,ns,k,rfl,hS,h0,q⟩:=h;have nd:=p8.nd;refine ⟨_,(aL (iW (gD GD (pv 1) (aY bZ rfl e_ fX (aB (pv 0) aD)) (eE _)) (aK (bC (cU fG (pv 0) (pv 1) (fun _ _=>rfl)))) eF) (aK (bC (bM eQ (bM Dq aO (pv 1)) aO)))),?_⟩;have hl:(ns.map V.int).length=ns.length:=aDe _;refine ⟨_,rfl,_,rfl,a,_,rfl,.inl hS,_,_,rfl,rfl,_,rfl,?_⟩;refine BJ (fun c=>?_) (fun c=>?_)
 ·have c':k<(((ns.map V.int).length:Nat):Int):=of_decide_eq_true c;rw [hl] at c';refine ⟨_,rfl,_,rfl,a,_,_,_,rfl,rfl,hS,KD h0 c',?_⟩;unfold pR at q;rw [if_pos c'] at q;exact q
 ·have c':¬ k<(((ns.map V.int).length:Nat):Int):=of_decide_eq_false (aEX.mpr c);rw [hl] at c';unfold pR at q;rw [if_neg c'] at q;exact ⟨_,rfl,_,_,rfl,rfl,.inl ⟨by decide,by decide⟩,_,_,rfl,rfl,q⟩
theorem pH {n:Nat}{f:Addr}{fd:FuncData}(F:fC K "common_multiple" "common_multiple" (top 10) f fd){n_:Addr}{l_:FuncData}(o_:eO P w K mg base n "common_divisor" ["one","other"] O7 n_ l_):bH P w K mg base fO (n+1) f fd ["numbers"] (Ri K):=by
 refine F.ok jL (fun vs H Q E h=>?_) (fun cdv A outer s H vs Q E hr h=>?_)
 ·obtain ⟨a,ns,rfl,_⟩:=h
  rfl
 obtain ⟨a,ns,rfl,hS,hp,hz,q⟩:=h;have nd:=jL.nd;refine ⟨_,(aL (bU (i:=1) nd rfl (Or.inl rfl) aO) (aL (jW PassesOwn.never rfl (cB (pv 0)) (aR (i:=2) nd rfl (Or.inl rfl)) (aK (bU (i:=1) nd rfl (Or.inl rfl) (bM dC (pv 1) (bM jJ (pv 2) (aJ o_ hr (aB (pv 1) (aB (pv 2) aD)))))))) (aK (bC (pv 1))))),?_⟩;have hl:(ns.map V.int).length=ns.length:=aDe _;refine ⟨_,rfl,a,rfl,⟨_,hS⟩,?_⟩;refine jP (xs:=ns.map V.int) (fun i σ H'=>∃ r,σ = [some (.ref a),some (.int (jK (ns.take i))),r]/\H'=H) ⟨none,rfl,rfl⟩ (fun i σ H' _ ⟨r,_,e⟩=>by subst e; exact hS) ?turn ?done
 case turn =>
  rintro i x σ H' hx ⟨r,rfl,rfl⟩;rw [aDm] at hx;cases e:ns[i]? with
  | none=>rw [e] at hx; cases hx
  | some n =>
   rw [e] at hx;cases hx;have hm:=aDi e;have hn:=hp n hm;have nz:=pJ hm;have gz:intBits ((aDW (jK (ns.take i)) n:Nat):Int)<=9000:=aDh (PySem.intBits_le_of_natAbs (y:=n) (by have:=aFo (jK (ns.take i)) (aDD hn); omega) (aDn _)) (by omega);have gn:((aDW (jK (ns.take i)) n:Nat):Int)≠0:=by have:=aD5 (jK (ns.take i)) (aDD hn); omega
   have lz:=lK (ns.take i);have lt:=sH ns i;refine ⟨_,rfl,_,rfl,_,rfl,_,rfl,_,_,rfl,_,_,rfl,rfl,⟨gn,gz⟩,_,_,rfl,rfl,gM (m:=4201) (n:=4200) (by omega) (aDh (PySem.intBits_fdiv_le (aDn _)) (by omega)) (by decide),?_⟩;refine ⟨some (V.int n),?_,rfl⟩;rw [aEU,e];show _=[some (V.ref a),some (V.int (jK (ns.take i++[n]))),some (V.int n)]
   rw [HX]
   rfl
 case done =>
  rintro σ H' ⟨r,rfl,rfl⟩;refine ⟨_,rfl,?_⟩;rw [hl,aDz];exact q
theorem Mp {n:Nat}{f:Addr}{fd:FuncData}(F:fC K "whole" "whole" (top 12) f fd):bH P w K mg base fO (n+1) f fd ["number"] Ik:=by
 refine F.ok Ce (fun vs H Q E h=>?_) (fun cdv A outer s H vs Q E hr h=>?_)
 ·obtain ⟨t,rfl,_⟩:=h
  rfl
 obtain ⟨t,rfl,q⟩:=h;have nd:=Ce.nd;refine ⟨_,(aK (bC (gQ (aB (pv 0) (aB aO aD))))),?_⟩;refine ⟨_,rfl,Bp,fun p hp=>?_⟩;exact q p _ (aC hp _) aA
theorem FQ {n:Nat}{f:Addr}{fd:FuncData}(F:fC K "greater" "greater" (top 18) f fd){aAK:Addr}{aAb:FuncData}(aAL:eO P w K mg base n "below" ["one","other"] (uE K) aAK aAb):bH P w K mg base fO (n+1) f fd ["one","other"] (Vc K):=by
 refine F.ok uU (fun vs H Q E h=>?_) (fun cdv A outer s H vs Q E hr h=>?_)
 ·obtain ⟨p,q,a,b,c,d,rfl,_⟩:=h
  rfl
 obtain ⟨p,q,a,b,c,d,rfl,hp,hq,z,k1,k2⟩:=h;have nd:=uU.nd;refine ⟨_,(aK (bC (K8 (gH (aJ aAL hr (aB (pv 0) (aB (pv 1) aD)))) (pv 1) (pv 0)))),?_⟩;refine ⟨_,rfl,_,rfl,p,q,a,b,c,d,rfl,hp,hq,z,_,rfl,?_⟩;exact BJ (fun e=>⟨_,rfl,k1 (of_decide_eq_true e)⟩) (fun e=>⟨_,rfl,k2 (of_decide_eq_false (aEX.mpr e))⟩)
theorem Bm {n:Nat}{f:Addr}{fd:FuncData}(F:fC K "is_whole" "is_whole" (top 8) f fd)(b_:mg "isinstance" = none)(aAP:mg "bool" = none)(aCg:mg "int" = none):bH P w K mg base fO (n+1) f fd ["thing","least","most"] Fj:=by
 refine F.ok tD (fun vs H Q E h=>?_) (fun cdv A outer s H vs Q E hr h=>?_)
 ·obtain ⟨v,lo,hi,b,rfl,_⟩:=h
  rfl
 obtain ⟨v,lo,hi,b,rfl,h,q⟩:=h;have nd:=tD.nd;refine ⟨_,(aK (bC (Aa (aY (dH (T:="int")) rfl b_ bQ (aB (pv 0) (aB (jE (v:=.ty "int") rfl aCg Qp rfl) aD))) (Aa (SM (aY (dH (T:="bool")) rfl b_ bQ (aB (pv 0) (aB (jE (v:=.ty "bool") rfl aAP Gj rfl) aD)))) (Es (Jv xB xB (pv 1) (pv 0) (pv 2))))))),?_⟩;cases h with
 | no h =>
  obtain ⟨t,ht,hk⟩:=h K;refine ⟨_,rfl,_,_,_,rfl,ht,hk,_,rfl,?_⟩;exact jA q
 | bl c =>
  refine ⟨_,rfl,_,_,_,rfl,.bl c,zN,_,rfl,?_⟩;refine jZ ?_;refine ⟨_,rfl,_,_,_,rfl,.bl c,c7 _,_,rfl,?_⟩;refine ⟨_,rfl,?_⟩;exact jA q
 | int i =>
  refine ⟨_,rfl,_,_,_,rfl,.int i,c7 _,_,rfl,?_⟩;refine jZ ?_;refine ⟨_,rfl,_,_,_,rfl,.int i,yX,_,rfl,?_⟩;refine ⟨_,rfl,?_⟩;refine jZ ?_;refine ⟨_,rfl,_,rfl,_,_,rfl,rfl,_,rfl,?_⟩
  by_cases h1:lo<=i
  ·refine Ec (decide_eq_true h1) ?_;refine ⟨_,rfl,_,_,rfl,rfl,?_⟩;rw [decide_eq_true h1] at q;exact q
  ·refine Gd (decide_eq_false h1) ?_;rw [decide_eq_false h1] at q;exact q
theorem Oe {n:Nat}{f:Addr}{fd:FuncData}(F:fC K "plus" "plus" (top 13) f fd){t_:Addr}{p_:FuncData}(u_:eO P w K mg base n "share" ["top","bottom"] j7 t_ p_):bH P w K mg base fO (n+1) f fd ["one","other"] (Ag K pT pB):=by
 refine F.ok HN (fun vs H Q E h=>?_) (fun cdv A outer s H vs Q E hr h=>?_)
 ·obtain ⟨p,q,a,b,c,d,rfl,_⟩:=h
  rfl
 obtain ⟨p,q,a,b,c,d,rfl,hp,hq,z,hb,k⟩:=h;have nd:=HN.nd;refine ⟨_,(aK (bC (aJ u_ hr (aB (bM eQ (bM dC (cU dB (pv 0) aO (fun _ _=>rfl)) (cU dB (pv 1) aO (fun _ _=>rfl))) (bM dC (cU dB (pv 1) aO (fun _ _=>rfl)) (cU dB (pv 0) aO (fun _ _=>rfl)))) (aB (bM dC (cU dB (pv 0) aO (fun _ _=>rfl)) (cU dB (pv 1) aO (fun _ _=>rfl))) aD))))),?_⟩;refine ⟨_,rfl,p,_,_,_,rfl,rfl,hp,rfl,_,rfl,q,_,_,_,rfl,rfl,hq,rfl,_,_,rfl,rfl,gM z.a z.d (by decide),_,rfl,q,_,_,_,rfl,rfl,hq,rfl,_,rfl,p,_,_,_,rfl,rfl,hp,rfl,_,_,rfl,rfl,gM z.c z.b (by decide),_,_,rfl,rfl,_,rfl,p,_,_,_,rfl,rfl,hp,rfl,_,rfl,q,_,_,_,rfl,rfl,hq,rfl,_,_,rfl,rfl,gM z.b z.d (by decide),_,_,rfl,hb,aDh (PySem.intBits_mul_le z.b z.d) (by decide),k⟩
theorem Ju {n:Nat}{f:Addr}{fd:FuncData}(F:fC K "minus" "minus" (top 14) f fd){t_:Addr}{p_:FuncData}(u_:eO P w K mg base n "share" ["top","bottom"] j7 t_ p_):bH P w K mg base fO (n+1) f fd ["one","other"] (Ag K mT pB):=by
 refine F.ok Ao (fun vs H Q E h=>?_) (fun cdv A outer s H vs Q E hr h=>?_)
 ·obtain ⟨p,q,a,b,c,d,rfl,_⟩:=h
  rfl
 obtain ⟨p,q,a,b,c,d,rfl,hp,hq,z,hb,k⟩:=h;have nd:=Ao.nd;refine ⟨_,(aK (bC (aJ u_ hr (aB (bM rN (bM dC (cU dB (pv 0) aO (fun _ _=>rfl)) (cU dB (pv 1) aO (fun _ _=>rfl))) (bM dC (cU dB (pv 1) aO (fun _ _=>rfl)) (cU dB (pv 0) aO (fun _ _=>rfl)))) (aB (bM dC (cU dB (pv 0) aO (fun _ _=>rfl)) (cU dB (pv 1) aO (fun _ _=>rfl))) aD))))),?_⟩;refine ⟨_,rfl,p,_,_,_,rfl,rfl,hp,rfl,_,rfl,q,_,_,_,rfl,rfl,hq,rfl,_,_,rfl,rfl,gM z.a z.d (by decide),_,rfl,q,_,_,_,rfl,rfl,hq,rfl,_,rfl,p,_,_,_,rfl,rfl,hp,rfl,_,_,rfl,rfl,gM z.c z.b (by decide),_,_,rfl,rfl,_,rfl,p,_,_,_,rfl,rfl,hp,rfl,_,rfl,q,_,_,_,rfl,rfl,hq,rfl,_,_,rfl,rfl,gM z.b z.d (by decide),_,_,rfl,hb,aDh (PySem.intBits_mul_le z.b z.d) (by decide),k⟩
theorem Le {n:Nat}{f:Addr}{fd:FuncData}(F:fC K "times" "times" (top 16) f fd){t_:Addr}{p_:FuncData}(u_:eO P w K mg base n "share" ["top","bottom"] j7 t_ p_):bH P w K mg base fO (n+1) f fd ["one","other"] (Ag K tT pB):=by
 refine F.ok Ck (fun vs H Q E h=>?_) (fun cdv A outer s H vs Q E hr h=>?_)
 ·obtain ⟨p,q,a,b,c,d,rfl,_⟩:=h
  rfl
 obtain ⟨p,q,a,b,c,d,rfl,hp,hq,z,hb,k⟩:=h;have nd:=Ck.nd;refine ⟨_,(aK (bC (aJ u_ hr (aB (bM dC (cU dB (pv 0) aO (fun _ _=>rfl)) (cU dB (pv 1) aO (fun _ _=>rfl))) (aB (bM dC (cU dB (pv 0) aO (fun _ _=>rfl)) (cU dB (pv 1) aO (fun _ _=>rfl))) aD))))),?_⟩;refine ⟨_,rfl,p,_,_,_,rfl,rfl,hp,rfl,_,rfl,q,_,_,_,rfl,rfl,hq,rfl,_,_,rfl,rfl,gM z.a z.c (by decide),_,rfl,p,_,_,_,rfl,rfl,hp,rfl,_,rfl,q,_,_,_,rfl,rfl,hq,rfl,_,_,rfl,rfl,gM z.b z.d (by decide),_,_,rfl,hb,aDh (PySem.intBits_mul_le z.b z.d) (by decide),k⟩
theorem JR {n:Nat}{f c:Addr}{fd:FuncData}(F:fC K "rising" "rising" (top 25) f fd)(hc:fd.code=.ref c)(hC:PySem.W.CodeHd base c Pt)(hB:base.BuiltinsAt mg Pt)(aA6:mg "sorted" = none)(aCh:mg "max" = none):bH P w K mg base fO (n+1) f fd ["worths"] (Ds K Pt iQ):=by
 refine F.okc hc xJ (fun vs H Q E h=>?_) (fun A outer s H vs Q E hr h=>?_)
 ·obtain ⟨a,rs,rfl,_⟩:=h
  rfl
 obtain ⟨a,rs,rfl,hS,hne,h64,hrs,nd0,hT,q⟩:=h;have nd:=xJ.nd;refine ⟨_,(aL (bU (i:=1) nd rfl (Or.inl rfl) (aY (Ii rfl) rfl aCh Ro (aB (dD (ls:=["worth"]) (M:=["worths","most","scale"]) rfl (bW.of (by rfl)) (NL.of (by rfl)) (cB (pv 0)) (fun _ _ _ _=>⟨(aR (i:=0) (cJ (by rfl)) rfl (Or.inl rfl)),cC,(cU (jB (K:=K) rfl) (pv 0) aO (fun _ _=>rfl))⟩)) aD))) (aL (bU (i:=2) nd rfl (Or.inr rfl) (bM dC (pv 1) (pv 1))) (aK (bC (Lz (p:="worth") (M:=["worths","most","scale"]) hr rfl rfl aA6 rfl hC hB (bW.of (by rfl)) (NL.of (by rfl)) rfl rfl rfl (pv 0) (fun _ _ _ _ _=>(bM jJ (bM dC (cU (jB (K:=K) rfl) (pv 0) aO (fun _ _=>rfl)) (pv 3)) (cU (jB (K:=K) rfl) (pv 0) aO (fun _ _=>rfl))))))))),?_⟩;have hlr:=bO rs;refine ⟨_,rfl,a,rfl,⟨_,hS⟩,fun D hD=>?_⟩;refine cA (xs:=cF rs) (fun i τ H'=>∃ v0,τ = [v0,some (.ref a),none,none]/\aU H H'/\H' D=some (.lst ((rs.take i).map fun r=>V.int r.b))) ⟨none,rfl,aC hD _,aA⟩ ?keep ?turn ?done
 case keep =>
  rintro i τ H' hi ⟨v0,rfl,hs,_⟩;exact hs.seq hS
 case turn =>
  rintro i m v τ H' hm hi hv ⟨v0,rfl,hs,hD'⟩;obtain ⟨x,hx,rfl⟩:=iM hv;have hr2:=hs _ _ (hrs x (aDi hx)).1;unfold mL;refine dU ?_;refine ⟨_,rfl,x.q,_,_,_,rfl,rfl,cW.of hr2,rfl,?_⟩;refine aZ hm hi hD' (by rw [aDe]; exact aN (aDh (aDY _ _) (by omega))) ⟨_,rfl,hs.upd_new hD _,?_⟩;rw [aA,take_snoc hx,aDq]
  rfl
 case done =>
 rintro τ H1 ⟨v0,rfl,s1,hD1⟩;rw [hlr,aDz] at hD1;refine ⟨D,rs.map Rs.b,rfl,bB.of (by rw [hD1,aDH]; rfl),fun e=>hne (aDX.mp e),fun mx hmx hmax=>?_⟩;obtain ⟨r0,hr0,rfl⟩:=aDg.mp hmx;have z0:=(hrs r0 hr0).2.2.2;refine ⟨_,rfl,_,rfl,_,_,rfl,rfl,gM z0 z0 (by decide),?_⟩;have zz:intBits (r0.b*r0.b)<=600:=PySem.intBits_mul_le z0 z0;refine ⟨_,rfl,a,rs.map Rs.q,rs.map (Jf r0.b),rfl,by rw [<- PQ]; exact s1.seq hS,by rw [aDe,aDe],by rw [aDe]; exact h64,hT.same s1,fun H2 c' st hit=>⟨fun i qa kk eq ek=>?_,fun D2 ps hD2 hp hs=>?_⟩⟩
 ·rw [aDm] at eq ek;cases er:rs[i]? with
  | none=>rw [er] at eq; cases eq
  | some r =>
   rw [er] at eq ek;cases eq;cases ek;obtain ⟨ra,rf,rt,rb⟩:=hrs r (aDi er);have ra2:H2 r.q=some (.tup [.int r.t,.int r.b]):=st.get (hT.same s1) (s1 _ _ ra) fun _ z=>nomatch z
   exact ⟨_,rfl,r.q,_,_,_,rfl,rfl,(cW.of ra2),rfl,_,rfl,_,_,rfl,rfl,gM rt zz (by decide),_,rfl,r.q,_,_,_,rfl,rfl,(cW.of ra2),rfl,_,_,rfl,rfl,⟨aDD rf.pos,aDh rb (by decide)⟩,rfl,rfl⟩
 ·obtain ⟨rs',pm,e,so⟩:=OJ hp hs nd0 (fun r hr=>(hrs r hr).2.1) (fun r hr=>hmax _ (aDg.mpr ⟨r,hr,rfl⟩));rw [e];have tb2:cN Pt iQ jN H2:=.inr ⟨c',hit⟩;exact q D2 _ rs' (((s1.toT).trans st).trans (aU.toT (aC hD2 _))) (tb2.same (aC hD2 _)) aA pm so
theorem M5 {H:Hp}:∀ {kvs:List (List Key×V)}{qs:List Addr},qs.length=kvs.length->(∀ kv∈kvs,∃ t b:Int,kv.1=[.inl t,.inl b])->(∀ (i:Nat) k v,kvs[i]? = some (k,v)->∃ q,qs[i]? = some q/\H q=some (.tup (k.map kV))) ->
  ∃ rs:List Rs,cF rs=qs.map V.ref/\rs.map jY=kvs.map (·.1)/\∀ r∈rs,tX H r
 | [],[],_,_,_=>⟨[],rfl,rfl,fun _ h=>nomatch h⟩
 | [],_::_,h,_,_=>by simp at h
 | _::_,[],h,_,_=>by simp at h
 | kv::kvs,q::qs,hl,hk,hq=>by
  obtain ⟨rs,e1,e2,e3⟩:=M5 (kvs:=kvs) (qs:=qs) (by simpa using hl) (fun x hx=>hk x (aDk _ hx)) fun i k v e=>by
   obtain ⟨z,z1,z2⟩:=hq (i+1) k v (by simpa using e);exact ⟨z,by simpa using z1,z2⟩
  obtain ⟨t,b,ek⟩:=hk kv aDj;obtain ⟨z,z1,z2⟩:=hq 0 kv.1 kv.2 rfl;have z1:q=z:=by simpa using z1
  subst z1;refine ⟨⟨q,t,b⟩::rs,?_,?_,fun r hr=>?_⟩
  ·show V.ref q::cF rs=V.ref q::qs.map V.ref;rw [e1]
  ·show jY ⟨q,t,b⟩::rs.map jY=kv.1::kvs.map (·.1);rw [e2,ek]
   rfl
  ·rcases aDA.mp hr with e | e
   ·subst e;rw [ek] at z2;exact z2
   ·exact e3 r e
theorem DW {xs:List Row}{kvs:List (List Key×V)}(pb:PB xs)(d:Dk (dW xs) kvs){r:Rs}(h:jY r∈kvs.map (·.1)):Tb.j9 (dW xs) r.t r.b/\Fr.lQ r.t r.b/\intBits r.t<=300/\intBits r.b<=300:=by
 obtain ⟨kv,hkv,e⟩:=aDg.mp h;obtain ⟨t,b,e2,hh⟩:=d.en kv hkv;rw [e2] at e;obtain ⟨e3,e4⟩:=oE.mp e.symm;rw [e3,e4];refine ⟨hh,?_⟩;obtain ⟨p,hp,e5,e6⟩:=hh;obtain ⟨x,hx,rfl⟩:=aDg.mp hp;have g:=pb x hx;have e5:x.t=t:=e5;have e6:x.b=b:=e6;rw [<- e5,<- e6];exact ⟨g.1,g.2.1,g.2.2.1⟩
theorem De {n:Nat}{f:Addr}{fd:FuncData}(F:fC K "in_form" "in_form" (top 26) f fd){aA7:Addr}{aAQ:FuncData}(aA8:eO P w K mg base n "rising" ["worths"] (Ds K Pt iQ) aA7 aAQ){n_:Addr}{l_:FuncData}(o_:eO P w K mg base n "common_divisor" ["one","other"] O7 n_ l_)(gV:mg "list" = none):bH P w K mg base fO (n+1) f fd ["rows"] (Do Pt iQ):=by
 refine F.ok v9 (fun vs H Q E h=>?_) (fun cdv A outer s H vs Q E hr h=>?_)
 ·obtain ⟨a,xs,rfl,_⟩:=h
  rfl
 obtain ⟨a,xs,rfl,hT,xne,xlen,pb,hTb,q⟩:=h;have nd:=v9.nd;have hu:=Lr hr;refine ⟨_,(aL (bU (i:=1) nd rfl (Or.inr rfl) Cv) (aL (jW PassesOwn.never rfl (cB (pv 0)) (vN rfl (bK (aR (i:=2) nd rfl (Or.inl rfl)) (bK (aR (i:=3) nd rfl (Or.inl rfl)) eU))) (aK (Ga hu (pv 1) (pv 2) (bM eQ (CP hu (pv 1) (pv 2) aO ⟨rfl,rfl,rfl,rfl⟩) (pv 3)) rfl))) (aL (bU (i:=4) nd rfl (Or.inr rfl) aO) (aL (jW PassesOwn.never rfl (Ny (pv 1)) (aR (i:=2) nd rfl (Or.inl rfl)) (aK (bU (i:=4) nd rfl (Or.inr rfl) (aJ o_ hr (aB (pv 4) (aB (Gk hu (pv 1) (pv 2) (fun _ _=>rfl)) aD)))))) (aK (bC (dD (ls:=["worth"]) (M:=["rows","weights","worth#","weight","divisor"]) rfl (bW.of (by rfl)) (NL.of (by rfl)) (cB (aJ aA8 hr (aB (fZ (vC rfl) rfl gV iZ (aB (pv 1) aD)) aD))) (fun _ _ _ _=>⟨(aR (i:=0) (cJ (by rfl)) rfl (Or.inl rfl)),cC,(gQ (aB (pv 0) (aB (bM jJ (Gk hu (pv 2) (pv 0) (fun _ _=>rfl)) (pv 5)) aD)))⟩)))))))),?_⟩;have hlr:=refs_length xs;intro Dd hDd;have n0:=aC hDd (.dT []);refine ⟨_,rfl,a,rfl,⟨_,bB.of (hT.same n0).lst⟩,?_⟩;refine jP (xs:=refs xs) (fun i σ H'=>∃ kvs v2 v3,σ = [some (.ref a),some (.ref Dd),v2,v3,none]/\aU H H'/\H' Dd=some (.dT kvs)/\Dk (dW (xs.take i)) kvs/\kvs.length<=i) ⟨[],none,none,rfl,n0,aA,Dk.nil,aDn _⟩ ?keep ?turn ?done
 case keep =>
  rintro i σ H' hi ⟨kvs,v2,v3,rfl,hs,_⟩;exact bB.of (hT.same hs).lst
 case turn =>
  rintro i v σ H' hv ⟨kvs,v2,v3,rfl,hs,hd,dk,kl⟩;obtain ⟨x,hx,rfl⟩:=gC hv;have hmem:=aDi hx;have hi:=(aDr.mp hx).1;have hr:=(hT.same hs).rows x hmem;have hq:H' x.q=some (.tup (([.inl x.t,.inl x.b]:List Key).map kV)):=hr.2;refine ⟨x.p,_,rfl,cW.of hr.1,rfl,_,_,rfl,_,_,rfl,rfl,?_⟩;refine ⟨_,rfl,Dd,rfl,.inr ⟨_,.inl hd⟩,_,rfl,_,yR.t hd hq,_,rfl,Tb.Wt (dW (xs.take i)) x.t x.b,x.w,dk.get x.t x.b,rfl,?_⟩;refine ⟨_,rfl,_,rfl,Dd,_,rfl,Ht.t hd hq (aN (by omega)),?_⟩;refine ⟨_,_,_,rfl,hs.upd_new hDd _,aA,?_,?_⟩
  ·rw [take_snoc hx,uV];exact dk.put x.r
  ·have:=gA kvs [.inl x.t,.inl x.b] (.int (Tb.Wt (dW (xs.take i)) x.t x.b+x.w));exact aDh this (by omega)
 case done =>
 rintro σ H1 ⟨kvs,v2,v3,rfl,s1,hd1,dk,kl⟩;rw [hlr,aDz] at dk;rw [hlr] at kl;obtain ⟨hw1,hf1⟩:=pb.ps;have pne:dW xs≠[]:=fun e=>xne (aDX.mp e);have plen:(dW xs).length<=1000:=by rw [jR]; omega
 have dpos:=dk.div_pos pne hw1;have dbits:=K6 dk pne (fun p hp=>by obtain ⟨x,hx,rfl⟩:=aDg.mp hp; exact ⟨(pb x hx).2.2.2.1,(pb x hx).2.2.2.2⟩) plen;refine ⟨_,rfl,Dd,kvs,rfl,.inl ⟨hd1,fun o=>?_⟩⟩;have s2:aU H (aM H1 Dd (.frz o (.dT kvs))):=s1.upd_new hDd _;have hfz:aM H1 Dd (.frz o (.dT kvs)) Dd=some (.frz o (.dT kvs)):=aA;generalize aM H1 Dd (.frz o (.dT kvs))=H2 at s2 hfz ⊢;refine Ko (fun i σ H'=>∃ d v2,σ = [some (.ref a),some (.ref Dd),v2,v3,some (.int d)]/\H'=H2/\d=Tb.vY ((kvs.take i).map wOf)) ⟨0,_,rfl,rfl,rfl⟩ (fun i σ H' _ ⟨_,_,_,e,_⟩=>by rw [e]; exact hfz) ?turn3 ?done3
 case turn3 =>
  rintro i k v kq σ H' hk hkt ⟨d,v2,rfl,rfl,ed⟩;obtain ⟨t,b,ekv,hh⟩:=dk.en _ (aDi hk);injection ekv with ek1 ek2
  subst ek1 ek2;refine ⟨_,rfl,_,rfl,_,rfl,Dd,.int (Tb.Wt (dW xs) t b),rfl,.inr ⟨kvs,[.inl t,.inl b],kq,.inr ⟨o,hfz⟩,rfl,hkt,(dk.val hh).symm⟩,d,Tb.Wt (dW xs) t b,rfl,?_⟩;refine ⟨_,_,rfl,rfl,?_⟩;rw [take_snoc hk,aDq,ed];exact (Tb.Iw _ _).symm
 case done3 =>
 rintro σ H3 ⟨d,v2,rfl,rfl,ed⟩;rw [aDz] at ed;have ed:d=iY kvs:=ed;subst ed;have kb:∀ kv∈kvs,∃ t b:Int,kv.1=[.inl t,.inl b]:=fun kv hkv=>by
  obtain ⟨t,b,e,_⟩:=dk.en kv hkv;exact ⟨t,b,by rw [e]⟩
 refine ⟨_,rfl,Dd,kvs,rfl,.inr ⟨o,hfz⟩,fun l qs hl hql hqs=>?_⟩;obtain ⟨rs0,er1,er2,er3⟩:=M5 hql kb hqs;have n3:=aC hl (.lst (qs.map V.ref));have s3:=s2.trans n3;have rl0:rs0.length=kvs.length:=by simpa using congrArg aDP er2
 have kin0:∀ r∈rs0,jY r∈kvs.map (·.1):=fun r hr=>by rw [<- er2]; exact aDg.mpr ⟨r,hr,rfl⟩
 refine ⟨l,rs0,rfl,bB.of (by rw [er1]; exact aA),?_,by omega,fun r hr=>⟨n3 _ _ (er3 r hr),(DW pb dk (kin0 r hr)).2⟩,by rw [er2]; exact dk.nd,hTb.same s3,fun R H4 rs st4 tb4 hR pm so=>?_⟩
 ·rintro rfl;exact dk.ne pne (aEQ.mp rl0.symm)
 have tb3:=hTb.same s3;have hfz4:H4 Dd=some (.frz o (.dT kvs)):=st4.get tb3 (n3 _ _ hfz) fun _ z=>nomatch z
 have pmk:(rs.map jY).Perm (kvs.map (·.1)):=by rw [<- er2]; exact pm.map jY
 have kin:∀ r∈rs,jY r∈kvs.map (·.1):=fun r hr=>pmk.mem_iff.mp (aDg.mpr ⟨r,hr,rfl⟩);have rat:∀ r∈rs,tX H4 r:=fun r hr=>st4.get tb3 (n3 _ _ (er3 r (pm.mem_iff.mp hr))) fun _ z=>nomatch z
 have rlen:rs.length=kvs.length:=by rw [pm.length_eq,rl0]
 have sT:bN Pt H H4:=(s3.toT).trans st4;refine ⟨R,rfl,⟨_,bB.of hR⟩,fun D hD=>?_⟩;refine cA (xs:=cF rs) (fun i τ H'=>∃ v0 ys,τ = [v0,some (.ref a),some (.ref Dd),v2,v3,some (.int (iY kvs))]/\aU H4 H'/\TabAt H' D ys/\ys.map (fun y=>Rs.mk y.q y.t y.b)=rs.take i/\∀ y∈ys,y.w=(Tb.Wt (dW xs) y.t y.b).fdiv (iY kvs)) ⟨none,[],rfl,aC hD _,⟨aA,fun _ h=>nomatch h⟩,rfl,(fun _ h=>nomatch h)⟩ ?keep4 ?turn4 ?done4
 case keep4 =>
  rintro i τ H' hi ⟨v0,ys,rfl,hs,_⟩;exact bB.of (hs _ _ hR)
 case turn4 =>
  rintro i m v τ H' hm hi hv ⟨v0,ys,rfl,hs,hY,ey,yw⟩;obtain ⟨r,hr,rfl⟩:=iM hv;have hmem:=aDi hr;have hh:=(DW pb dk (kin r hmem)).1;have rq:H' r.q=some (.tup [.int r.t,.int r.b]):=hs _ _ (rat r hmem);have ylen:ys.length<=1000:=by
   have h:=congrArg aDP ey;rw [aDe,aDu] at h;omega
  unfold mL;refine dU ?_;refine ⟨_,rfl,_,rfl,_,rfl,Dd,.int (Tb.Wt (dW xs) r.t r.b),rfl,.inr ⟨kvs,[.inl r.t,.inl r.b],r.q,.inr ⟨o,hs _ _ hfz4⟩,rfl,rq,(dk.val hh).symm⟩,_,rfl,_,_,rfl,rfl,⟨aDD dpos,dbits⟩,Bp,fun p hp=>?_⟩;have n1:=aC hp (.tup [.ref r.q,.int ((Tb.Wt (dW xs) r.t r.b).fdiv (iY kvs))]);have hY1:=hY.same n1;refine aZ hm hi hY1.lst (by rw [refs_length]; exact aN ylen) ⟨_,ys++[⟨p,r.q,r.t,r.b,(Tb.Wt (dW xs) r.t r.b).fdiv (iY kvs)⟩],rfl,(hs.trans n1).upd_new hD _,⟨?_,?_⟩,?_,?_⟩
  ·rw [aA,jF]
  ·intro y hy;rcases aDy.mp hy with z | z
   ·exact (hY1.rows y z).over hY1.lst
   ·rw [aDw.mp z];exact iU.over ⟨aA,n1 _ _ rq⟩ hY1.lst
  ·rw [aDq,ey,take_snoc hr]
   rfl
  ·intro y hy;rcases aDy.mp hy with z | z
   ·exact yw y z
   ·rw [aDw.mp z]
 case done4 =>
  rintro τ H5 ⟨v0,ys,rfl,s5,hY,ey,yw⟩;rw [bO,aDz] at ey;obtain ⟨tab,wok⟩:=RX dk hw1 hf1 pne pmk so ey yw;have yl:ys.length=rs.length:=by rw [<- ey,aDe]
  refine q D H5 ys (sT.trans (s5.toT)) (tb4.same s5) (sT.free hD tb4.at_) hY ⟨tab,wok⟩ (by omega)
theorem Hs {n:Nat}{f:Addr}{fd:FuncData}(F:fC K "is_row" "is_row" (top 23) f fd){aAG:Addr}{aAi:FuncData}(S_:eO P w K mg base n "is_whole" ["thing","least","most"] Fj aAG aAi)(e_:mg "len" = none)(b_:mg "isinstance" = none)(k_:mg "tuple" = none){aAD:Value}(M_:mg "MOST_WEIGHT" = some aAD)(N_:RelV (.int 1000) aAD){aAM:Value}(T_:mg "MOST_WORTH" = some aAM)(U_:RelV (.int 1000000000) aAM):bH P w K mg base fO (n+1) f fd ["row"] LR:=by
 refine F.ok wY (fun vs H Q E h=>?_) (fun cdv A outer s H vs Q E hr h=>?_)
 ·obtain ⟨v,b,rfl,_⟩:=h
  rfl
 obtain ⟨v,b,rfl,h,q⟩:=h;have nd:=wY.nd;refine ⟨_,(aL (iW (PW.pt (uY (gJ (gH (aY (dH (T:="tuple")) rfl b_ bQ (aB (pv 0) (aB (jE (v:=.ty "tuple") rfl k_ iH rfl) aD))))) (pC (gD Cd (aY bZ rfl e_ fX (aB (pv 0) aD)) aO (eE _))))) (aK (bC mR)) eF) (aK (bC (Aa (aJ S_ hr (aB (cU dB (pv 0) aO (fun _ _=>rfl)) (aB aO (aB (j8 (v:=.int 1000000000) rfl T_ U_) aD)))) (Es (aJ S_ hr (aB (cU dB (pv 0) aO (fun _ _=>rfl)) (aB aO (aB (j8 (v:=.int 1000) rfl M_ N_) aD))))))))),?_⟩;cases h with
 | no h =>
  obtain ⟨t,ht,hk⟩:=h K;refine ⟨_,rfl,_,_,_,rfl,ht,hk,_,rfl,?_⟩;exact jZ (jZ q)
 | @len a xs e hl =>
  refine ⟨_,rfl,_,_,_,rfl,.tup e,c7 _,_,rfl,?_⟩;refine jA ?_;refine ⟨_,rfl,a,_,rfl,.inr (cW.of e),rfl,_,rfl,?_⟩;refine Ec ?_ q;rw [decide_eq_false (fun z=>hl (by injection z with z; omega))]
  rfl
 | @two a x y b c e hx hy =>
  refine ⟨_,rfl,_,_,_,rfl,.tup e,c7 _,_,rfl,?_⟩;refine jA ?_;refine ⟨_,rfl,a,_,rfl,.inr (cW.of e),rfl,_,rfl,?_⟩;refine jA ?_;refine ⟨_,rfl,a,_,_,_,rfl,rfl,cW.of e,rfl,x,0,1000000000,b,rfl,hx,_,rfl,?_⟩;cases b with
  | false=>exact jA q
  | true =>
   refine jZ ?_;exact ⟨_,rfl,a,_,_,_,rfl,rfl,cW.of e,rfl,y,1,1000,c,rfl,hy,q⟩
theorem Di {n:Nat}{f:Addr}{fd:FuncData}(F:fC K "is_rows" "is_rows" (top 24) f fd){aCi:Addr}{aB5:FuncData}(aCj:eO P w K mg base n "is_row" ["row"] LR aCi aB5)(L_:mg "all" = none)(e_:mg "len" = none)(b_:mg "isinstance" = none)(gV:mg "list" = none){aAZ:Value}(aAl:mg "MOST_ROWS" = some aAZ)(aAv:RelV (.int 8) aAZ):bH P w K mg base fO (n+1) f fd ["rows"] yM:=by
 refine F.ok vR (fun vs H Q E h=>?_) (fun cdv A outer s H vs Q E hr h=>?_)
 ·obtain ⟨v,b,rfl,_⟩:=h
  rfl
 obtain ⟨v,b,rfl,h,q⟩:=h;have nd:=vR.nd;refine ⟨_,(aL (iW (PW.pt (uY (gJ (gH (aY (dH (T:="list")) rfl b_ bQ (aB (pv 0) (aB (jE (v:=.ty "list") rfl gV iZ rfl) aD))))) (pC (gJ (By xB xB aO (aY bZ rfl e_ fX (aB (pv 0) aD)) (j8 (v:=.int 8) rfl aAl aAv)))))) (aK (bC mR)) eF) (aK (bC (aY (lD rfl rfl) rfl L_ uP (aB (dD (ls:=["row"]) (M:=["rows"]) rfl (bW.of (by rfl)) (NL.of (by rfl)) (cB (pv 0)) (fun _ _ _ _=>⟨(aR (i:=0) (cJ (by rfl)) rfl (Or.inl rfl)),cC,(aJ aCj hr (aB (pv 0) aD))⟩)) aD))))),?_⟩;cases h with
 | no h =>
  obtain ⟨t,ht,hk⟩:=h K;refine ⟨_,rfl,_,_,_,rfl,ht,hk,_,rfl,?_⟩;exact jZ (jZ (q H (aU.refl _)))
 | @len a xs e hl =>
  refine ⟨_,rfl,_,_,_,rfl,.lst e,c7 _,_,rfl,?_⟩;refine jA ?_;refine ⟨_,rfl,a,_,rfl,.inl (bB.of e),_,_,rfl,rfl,_,rfl,?_⟩
  by_cases h1:1<=xs.length
  ·refine Ec (decide_eq_true (show (1:Int)<=_ by omega)) ?_;refine ⟨_,_,rfl,rfl,_,rfl,?_⟩;refine Ec ?_ (q H (aU.refl _));rw [decide_eq_false (show ¬ (xs.length:Int)<=8 by omega)]
   rfl
  ·refine Gd (decide_eq_false (show ¬ (1:Int)<=_ by omega)) ?_;refine ⟨_,rfl,?_⟩;exact jZ (q H (aU.refl _))
 | @all a xs bs e h1 h8 hb h =>
  refine ⟨_,rfl,_,_,_,rfl,.lst e,c7 _,_,rfl,?_⟩;refine jA ?_;refine ⟨_,rfl,a,_,rfl,.inl (bB.of e),_,_,rfl,rfl,_,rfl,?_⟩;refine Ec (decide_eq_true (show (1:Int)<=_ by omega)) ?_;refine ⟨_,_,rfl,rfl,_,rfl,?_⟩;refine Gd (by rw [decide_eq_true (show (xs.length:Int)<=8 by omega)]; rfl) ?_;refine ⟨_,rfl,a,rfl,⟨_,bB.of e⟩,fun D hD=>?_⟩;refine cA (xs:=xs) (fun i τ H'=>∃ v0,τ = [v0,some (.ref a)]/\aU H H'/\H' D=some (.lst ((bs.take i).map V.bl))) ⟨none,rfl,aC hD _,aA⟩ ?keep ?turn ?done
  case keep =>
   rintro i τ H' hi ⟨v0,rfl,hs,_⟩;exact bB.of (hs _ _ e)
  case turn =>
   rintro i m v τ H' hm hi hv ⟨v0,rfl,hs,hD'⟩;have hib:i<bs.length:=by omega
   have eb:bs[i]? = some (bs.getD i false):=by rw [aDl hib,getD_at hib]
   refine vX ?_;refine ⟨_,rfl,v,bs.getD i false,rfl,(h i v hv).same hs,?_⟩;refine aZ hm hi hD' (by rw [aDe,aDu]; exact aN (by omega)) ⟨_,rfl,hs.upd_new hD _,?_⟩;rw [aA,take_snoc eb,aDq]
   rfl
  case done =>
   rintro τ H' ⟨v0,rfl,hs,hD'⟩;rw [<- hb,aDz] at hD';exact ⟨D,_,rfl,bB.of hD',q H' hs⟩
theorem XX {xs:List Ir}{ys:List Row}(g:GI xs)(e:dW ys=Bu xs):PB ys:=fun y hy=>by
 have h1:y.r∈Bu xs:=by rw [<- e]; exact aDg.mpr ⟨y,hy,rfl⟩
 obtain ⟨x,hx,ex⟩:=aDg.mp h1;have et:y.t=x.v:=(congrArg Tb.Rw.t ex).symm;have eb:y.b=1:=(congrArg Tb.Rw.b ex).symm;have ew:y.w=x.w:=(congrArg Tb.Rw.w ex).symm;have v:=g.v x hx;have w:=g.w x hx;rw [et,eb,ew];refine ⟨⟨by decide,?_⟩,aDh (Of.uH (k:=30) (by omega) (by omega)) (by decide),by decide,w.1,aFw w.2 (by decide)⟩
 first | exact aFW _ | simp
theorem Az {n:Nat}{f:Addr}{fd:FuncData}(F:fC K "table_of" "table_of" (top 27) f fd){aAR:Addr}{aAH:FuncData}(aAS:eO P w K mg base n "in_form" ["rows"] (Do Pt iQ) aAR aAH){J_:Addr}{A_:FuncData}(K_:eO P w K mg base n "whole" ["number"] Ik J_ A_){aAT:Addr}{aAI:FuncData}(aAU:eO P w K mg base n "is_rows" ["rows"] GZ aAT aAI):bH P w K mg base fO (n+1) f fd ["rows"] (Vp Pt iQ):=by
 refine F.ok sY (fun vs H Q E h=>?_) (fun cdv A outer s H vs Q E hr h=>?_)
 ·obtain ⟨a,xs,rfl,_⟩:=h
  rfl
 obtain ⟨a,xs,rfl,hL,g,hT,q⟩:=h;have nd:=sY.nd;refine ⟨_,(aL (iW (gJ (gH (aJ aAU hr (aB (pv 0) aD)))) (aK Jp) eF) (aK (bC (aJ aAS hr (aB (dD (ls:=["worth","weight"]) (M:=["rows"]) rfl (bW.of (by rfl)) (NL.of (by rfl)) (cB (pv 0)) (fun _ _ _ _=>⟨(iC (K:=K) (n:=2) rfl rfl (bK (aR (i:=0) (cJ (by rfl)) rfl (Or.inl rfl)) (bK (aR (i:=1) (cJ (by rfl)) rfl (Or.inl rfl)) eU))),cC,(gQ (aB (aJ K_ hr (aB (pv 0) aD)) (aB (pv 1) aD)))⟩)) aD))))),?_⟩;have hlr:=dI xs;have hlen:=g.len;refine ⟨_,rfl,a,xs,rfl,hL,g,fun H0 s0=>?_⟩;refine ⟨_,rfl,?_⟩;refine jA ?_;have hL0:=hL.same s0;refine ⟨_,rfl,a,rfl,⟨_,bB.of hL0.lst⟩,fun D hD=>?_⟩;refine cA (xs:=cY xs) (fun i τ H'=>∃ v0 v1 ys,τ = [v0,v1,some (.ref a)]/\aU H0 H'/\TabAt H' D ys/\dW ys=Bu (xs.take i)) ⟨none,none,[],rfl,aC hD _,⟨aA,fun _ h=>nomatch h⟩,rfl⟩ ?keep ?turn ?done
 case keep =>
  rintro i τ H' hi ⟨v0,v1,ys,rfl,hs,_⟩;exact bB.of (hL0.same hs).lst
 case turn =>
  rintro i m v τ H' hm hi hv ⟨v0,v1,ys,rfl,hs,hY,ey⟩;obtain ⟨x,hx,rfl⟩:=uM hv;have hmem:=aDi hx;have hr2:H' x.p=some (.tup [.int x.v,.int x.w]):=hs _ _ (hL0.rows x hmem);have ylen:ys.length<=1000:=by
   have h:=congrArg aDP ey;unfold dW Bu at h;rw [aDe,aDe,aDu] at h;omega
  refine ⟨x.p,_,rfl,cW.of hr2,rfl,_,_,rfl,_,_,rfl,rfl,?_⟩;refine dU ?_;refine ⟨_,rfl,_,rfl,fun pq H1 s1 hpq=>?_⟩;refine ⟨_,rfl,Bp,fun p hp=>?_⟩;have n1:=aC hp (.tup [.ref pq,.int x.w]);have hY1:=hY.same (s1.trans n1);refine aZ hm hi hY1.lst (by rw [refs_length]; exact aN ylen) ⟨_,_,ys++[⟨p,pq,x.v,1,x.w⟩],rfl,((hs.trans s1).trans n1).upd_new hD _,⟨?_,?_⟩,?_⟩
  ·rw [aA,jF]
  ·intro y hy;rcases aDy.mp hy with z | z
   ·exact (hY1.rows y z).over hY1.lst
   ·rw [aDw.mp z];exact iU.over ⟨aA,n1 _ _ hpq⟩ hY1.lst
  ·rw [uV,ey,take_snoc hx,Kc]
   rfl
 case done =>
 rintro τ H1 ⟨v0,v1,ys,rfl,s1,hY,ey⟩;rw [hlr,aDz] at ey;have yl:ys.length=xs.length:=by
  have h:=congrArg aDP ey;unfold dW Bu at h;rw [aDe,aDe] at h;exact h
 refine ⟨D,ys,rfl,hY,?_,by omega,XX g ey,hT.same (s0.trans s1),fun r H2 zs st tb hf hz out zl=>?_⟩
 ·rintro rfl;exact g.ne (aEQ.mp yl.symm)
 ·rw [ey] at out;exact q r H2 zs (((s0.trans s1).toT).trans st) tb ((s0.trans s1).free hf) hz out (by omega)
theorem u9 {n:Nat}{f:Addr}{fd:FuncData}(F:fC K "all_weights" "all_weights" (top 28) f fd)(Z_:mg "sum" = none):bH P w K mg base fO (n+1) f fd ["table"] Bc:=by
 refine F.ok mZ (fun vs H Q E h=>?_) (fun cdv A outer s H vs Q E hr h=>?_)
 ·obtain ⟨a,xs,rfl,_⟩:=h
  rfl
 obtain ⟨a,xs,rfl,hT,hl,q⟩:=h;have nd:=mZ.nd;refine ⟨_,(aK (bC (aY (qO rfl) rfl Z_ Aj (aB (dD (ls:=["worth","weight"]) (M:=["table"]) rfl (bW.of (by rfl)) (NL.of (by rfl)) (Ig (cB (pv 0)) (rE (pv 0))) (fun _ _ _ _=>⟨(iC (K:=K) (n:=2) rfl rfl (bK (aR (i:=0) (cJ (by rfl)) rfl (Or.inl rfl)) (bK (aR (i:=1) (cJ (by rfl)) rfl (Or.inl rfl)) eU))),cC,(pv 1)⟩)) aD)))),?_⟩;have hlr:=refs_length xs;rcases hT with hT | hT
 ·refine .inl ⟨_,rfl,a,rfl,⟨_,bB.of hT.lst⟩,fun D hD=>?_⟩;refine cA (xs:=refs xs) (fun i τ H'=>∃ v0 v1,τ = [v0,v1,some (.ref a)]/\aU H H'/\H' D=some (.lst ((xs.take i).map fun x=>V.int x.w))) ⟨none,none,rfl,aC hD _,aA⟩ ?keep1 ?turn1 ?done1
  case keep1 =>
   rintro i τ H' hi ⟨v0,v1,rfl,hs,_⟩;exact bB.of (hT.same hs).lst
  case turn1 =>
   rintro i m v τ H' hm hi hv ⟨v0,v1,rfl,hs,hD'⟩;obtain ⟨x,hx,rfl⟩:=gC hv;have hr:=(hT.same hs).rows x (aDi hx);refine ⟨x.p,_,rfl,cW.of hr.1,rfl,_,_,rfl,_,_,rfl,rfl,?_⟩;refine dU ?_;refine ⟨_,rfl,?_⟩;refine aZ hm hi hD' (by rw [aDe]; exact aN (aDh (aDY _ _) (by omega))) ⟨_,_,rfl,hs.upd_new hD _,?_⟩;rw [aA,take_snoc hx,aDq]
   rfl
  case done1 =>
   rintro τ H' ⟨v0,v1,rfl,hs,hD'⟩;rw [hlr,aDz] at hD';refine ⟨D,xs.map Row.w,rfl,bB.of (by rw [hD',aDH]; rfl),?_⟩;exact q H' hs
 ·refine .inr ⟨_,rfl,a,rfl,⟨_,cW.of hT.tp⟩,fun D hD=>?_⟩;refine lG (xs:=refs xs) (fun i τ H'=>∃ v0 v1,τ = [v0,v1,some (.ref a)]/\aU H H'/\H' D=some (.lst ((xs.take i).map fun x=>V.int x.w))) ⟨none,none,rfl,aC hD _,aA⟩ ?keep2 ?turn2 ?done2
  case keep2 =>
   rintro i τ H' hi ⟨v0,v1,rfl,hs,_⟩;exact cW.of (hT.same hs).tp
  case turn2 =>
   rintro i m v τ H' hm hi hv ⟨v0,v1,rfl,hs,hD'⟩;obtain ⟨x,hx,rfl⟩:=gC hv;have hr:=(hT.same hs).rows x (aDi hx);refine ⟨x.p,_,rfl,cW.of hr.1,rfl,_,_,rfl,_,_,rfl,rfl,?_⟩;refine dU ?_;refine ⟨_,rfl,?_⟩;refine aZ hm hi hD' (by rw [aDe]; exact aN (aDh (aDY _ _) (by omega))) ⟨_,_,rfl,hs.upd_new hD _,?_⟩;rw [aA,take_snoc hx,aDq]
   rfl
  case done2 =>
   rintro τ H' ⟨v0,v1,rfl,hs,hD'⟩;rw [hlr,aDz] at hD';refine ⟨D,xs.map Row.w,rfl,bB.of (by rw [hD',aDH]; rfl),?_⟩;exact q H' hs
def Ed (xs:List Row):Int:=jK (xs.map Row.b)
theorem Wo (xs:List Row)(W:Int):Of.Ek (nH xs) W=Fr.sh ((xs.map fun x=>x.w*x.t*(Ed xs).fdiv x.b).sum) (Ed xs*W):=by
 unfold Of.Ek Of.Et nH Ed;rw [aDH,aDH]
 rfl
theorem wI {n:Nat}{f:Addr}{fd:FuncData}(F:fC K "by_weights" "by_weights" (top 29) f fd){t_:Addr}{p_:FuncData}(u_:eO P w K mg base n "share" ["top","bottom"] j7 t_ p_){B_:Addr}{x_:FuncData}(C_:eO P w K mg base n "common_multiple" ["numbers"] (Ri K) B_ x_)(Z_:mg "sum" = none):bH P w K mg base fO (n+1) f fd ["rows","weights"] Ft:=by
 refine F.ok oU (fun vs H Q E h=>?_) (fun cdv A outer s H vs Q E hr h=>?_)
 ·obtain ⟨a,xs,W,rfl,_⟩:=h
  rfl
 obtain ⟨a,xs,W,rfl,hT,hb,hW,hWz,q⟩:=h;have nd:=oU.nd;refine ⟨_,(aL (bU (i:=2) nd rfl (Or.inr rfl) (aJ C_ hr (aB (dD (ls:=["worth","weight"]) (M:=["rows","weights","bottom","top"]) rfl (bW.of (by rfl)) (NL.of (by rfl)) (cB (pv 0)) (fun _ _ _ _=>⟨(iC (K:=K) (n:=2) rfl rfl (bK (aR (i:=0) (cJ (by rfl)) rfl (Or.inl rfl)) (bK (aR (i:=1) (cJ (by rfl)) rfl (Or.inl rfl)) eU))),cC,(cU (jB (K:=K) rfl) (pv 0) aO (fun _ _=>rfl))⟩)) aD))) (aL (bU (i:=3) nd rfl (Or.inl rfl) (aY (qO rfl) rfl Z_ Aj (aB (dD (ls:=["worth","weight"]) (M:=["rows","weights","bottom","top"]) rfl (bW.of (by rfl)) (NL.of (by rfl)) (cB (pv 0)) (fun _ _ _ _=>⟨(iC (K:=K) (n:=2) rfl rfl (bK (aR (i:=0) (cJ (by rfl)) rfl (Or.inl rfl)) (bK (aR (i:=1) (cJ (by rfl)) rfl (Or.inl rfl)) eU))),cC,(bM dC (bM dC (pv 1) (cU (jB (K:=K) rfl) (pv 0) aO (fun _ _=>rfl))) (bM jJ (pv 4) (cU (jB (K:=K) rfl) (pv 0) aO (fun _ _=>rfl))))⟩)) aD))) (aK (bC (aJ u_ hr (aB (pv 3) (aB (bM dC (pv 2) (pv 1)) aD))))))),?_⟩;have hlr:=refs_length xs;have hlen:=hb.len;have bpos:∀ n∈xs.map Row.b,0<n:=fun n hn=>by
  obtain ⟨x,hx,rfl⟩:=aDg.mp hn;exact hb.b x hx
 obtain ⟨lp,ld⟩:=pW bpos;have lz:=lK (xs.map Row.b);have bz:=hb.z;refine ⟨_,rfl,a,rfl,⟨_,bB.of hT.lst⟩,fun D hD=>?_⟩;refine cA (xs:=refs xs) (fun i τ H'=>∃ v0 v1,τ = [v0,v1,some (.ref a),some (.int W),none,none]/\aU H H'/\H' D=some (.lst ((xs.take i).map fun x=>V.int x.b))) ⟨none,none,rfl,aC hD _,aA⟩ ?keep ?turn ?done
 case keep =>
  rintro i τ H' hi ⟨v0,v1,rfl,hs,_⟩;exact bB.of (hT.same hs).lst
 case turn =>
  rintro i m v τ H' hm hi hv ⟨v0,v1,rfl,hs,hD'⟩;obtain ⟨x,hx,rfl⟩:=gC hv;have hr:=(hT.same hs).rows x (aDi hx);refine ⟨x.p,_,rfl,cW.of hr.1,rfl,_,_,rfl,_,_,rfl,rfl,?_⟩;refine dU ?_;refine ⟨_,rfl,x.q,_,_,_,rfl,rfl,cW.of hr.2,rfl,?_⟩;refine aZ hm hi hD' (by rw [aDe]; exact aN (aDh (aDY _ _) (by omega))) ⟨_,_,rfl,hs.upd_new hD _,?_⟩;rw [aA,take_snoc hx,aDq]
  rfl
 case done =>
 rintro τ H1 ⟨v0,v1,rfl,s1,hD1⟩;rw [hlr,aDz] at hD1;refine ⟨D,xs.map Row.b,rfl,bB.of (by rw [hD1,aDH]; rfl),bpos,bz,?_⟩;have hT1:=hT.same s1;refine ⟨_,rfl,a,rfl,⟨_,bB.of hT1.lst⟩,fun E2 hE=>?_⟩;refine cA (xs:=refs xs) (fun i τ H'=>∃ v0 v1,τ = [v0,v1,some (.ref a),some (.int W),some (.int (Ed xs)),none]/\aU H1 H'/\H' E2=some (.lst ((xs.take i).map fun x=>V.int (x.w*x.t*(Ed xs).fdiv x.b)))) ⟨none,none,rfl,aC hE _,aA⟩ ?keep2 ?turn2 ?done2
 case keep2 =>
  rintro i τ H' hi ⟨v0,v1,rfl,hs,_⟩;exact bB.of (hT1.same hs).lst
 case turn2 =>
  rintro i m v τ H' hm hi hv ⟨v0,v1,rfl,hs,hD'⟩;obtain ⟨x,hx,rfl⟩:=gC hv;have hmem:=aDi hx;have hr:=(hT1.same hs).rows x hmem;have xb:=hb.b x hmem;have xt:=hb.t x hmem;have xw:=hb.w x hmem;have xz:=pJ (aDg.mpr ⟨x,hmem,rfl⟩:x.b∈xs.map Row.b);refine ⟨x.p,_,rfl,cW.of hr.1,rfl,_,_,rfl,_,_,rfl,rfl,?_⟩;refine dU ?_;refine ⟨_,rfl,_,rfl,x.q,_,_,_,rfl,rfl,cW.of hr.2,rfl,_,_,rfl,rfl,gM xw xt (by decide),_,rfl,_,rfl,x.q,_,_,_,rfl,rfl,cW.of hr.2,rfl,_,_,rfl,rfl,⟨aDD xb,by omega⟩,_,_,rfl,rfl,gM (m:=2564) (n:=4201) (PySem.intBits_mul_le xw xt) (PySem.intBits_fdiv_le (aDh lz (by omega))) (by decide),?_⟩;refine aZ hm hi hD' (by rw [aDe]; exact aN (aDh (aDY _ _) (by omega))) ⟨_,_,rfl,hs.upd_new hE _,?_⟩;rw [aA,take_snoc hx,aDq]
  rfl
 case done2 =>
 rintro τ H2 ⟨v0,v1,rfl,s2,hE2⟩;rw [hlr,aDz] at hE2;refine ⟨E2,xs.map fun x=>x.w*x.t*(Ed xs).fdiv x.b,rfl,bB.of (by rw [hE2,aDH]; rfl),?_⟩;have zz:intBits (Ed xs)<=4201:=aDh lz (by omega);refine ⟨_,rfl,_,rfl,_,rfl,_,_,rfl,rfl,gM zz hWz (by decide),?_⟩;refine ⟨_,_,rfl,aDD (aD1 lp hW),aDh (PySem.intBits_mul_le zz hWz) (by decide),fun p H' s' hp=>?_⟩;exact q p H' ((s1.trans s2).trans s') (by rw [Wo]; exact hp)
theorem Ow {n:Nat}{f:Addr}{fd:FuncData}(F:fC K "mean" "mean" (top 30) f fd){D_:Addr}{v_:FuncData}(E_:eO P w K mg base n "by_weights" ["rows","weights"] Ft D_ v_){m_:Addr}{i_:FuncData}(h_:eO P w K mg base n "all_weights" ["table"] Bc m_ i_):bH P w K mg base fO (n+1) f fd ["table"] Kv:=by
 refine F.ok Gu (fun vs H Q E h=>?_) (fun cdv A outer s H vs Q E hr h=>?_)
 ·obtain ⟨a,xs,rfl,_⟩:=h
  rfl
 obtain ⟨a,xs,rfl,hT,hb,hl,hw,hz,q⟩:=h;have nd:=Gu.nd;refine ⟨_,(aK (bC (aJ E_ hr (aB (pv 0) (aB (aJ h_ hr (aB (pv 0) aD)) aD))))),?_⟩;refine ⟨_,rfl,_,rfl,a,xs,rfl,.inl hT,hl,fun H1 s1=>?_⟩;exact ⟨a,xs,_,rfl,hT.same s1,hb,hw,hz,fun p H2 s2 hp=>q p H2 (s1.trans s2) hp⟩
theorem vO:∀ Ts:List Of.Tab,(Of.JV Ts).length=Ts.length+1
 | []=>rfl
 | T::Ts=>by
  show (Of.JV Ts).length+1=_;rw [vO Ts]
  rfl
theorem Pj {ys:List Row}{f:Rk.Fc}{zs:List Row}(one:∀ y∈ys,y.b=1)(e:nH zs=ys.map fun y=>(Rk.gr (y.t,y.b) f,y.w)):nH zs=Of.lY (qC ys) f:=by
 rw [e];unfold Of.lY qC;rw [aDH];refine aEh fun y hy=>?_;rw [one y hy]
 rfl
theorem Lk (xs:List Row)(y:Row):nH (xs++[y])=nH xs++[((y.t,y.b),y.w)]:=by unfold nH; rw [aDq]; rfl
theorem vG (xs:List Row):(nH xs).length=xs.length:=aDe _
theorem Ph {xs:List Row}{y:Row}(h:y∈xs):((y.t,y.b),y.w)∈nH xs:=aDg.mpr ⟨y,h,rfl⟩
theorem KY {T:Of.Tab}{f:Rk.Fc}{zs:List Row}(g:Of.GT T)(hf:Lg.Fb f 200 200)(e:nH zs=Of.lY T f):Bj zs:=by
 have hl:zs.length<=8:=by
  have:=congrArg aDP e;rw [vG] at this;unfold Of.lY at this;rw [aDe] at this;have:=g.len;omega
 have key:∀ z∈zs,0<z.b/\intBits z.t<=200/\intBits z.b<=200/\intBits z.w<=13:=fun z hz=>by
  have h1:=Ph hz;rw [e] at h1;obtain ⟨r,hr,er⟩:=aDg.mp h1;have e1:Rk.gr (r.1,1) f=(z.t,z.b):=congrArg Prod.fst er;have e2:r.2=z.w:=congrArg Prod.snd er;obtain ⟨a,b⟩:=g.vb hr;rw [<- e2];unfold Rk.gr at e1
  split at e1
  ·have h2:f.2=z.b:=congrArg Prod.snd e1;have h1:f.1=z.t:=congrArg Prod.fst e1;rw [<- h1,<- h2];exact ⟨hf.pos,hf.t,hf.b,b⟩
  ·have h2:(1:Int)=z.b:=congrArg Prod.snd e1;have h1:r.1=z.t:=congrArg Prod.fst e1;rw [<- h1,<- h2];exact ⟨by decide,aDh a (by decide),by decide,b⟩
 refine ⟨by omega,fun z hz=>(key z hz).1,fun z hz=>aDh (key z hz).2.1 (by decide),fun z hz=>aDh (key z hz).2.2.2 (by decide),?_⟩;have:=eZ (k:=200) (l:=(zs.map Row.b).map intBits) fun n hn=>by
  obtain ⟨b,hb,rfl⟩:=aDg.mp hn;obtain ⟨z,hz,rfl⟩:=aDg.mp hb;exact (key z hz).2.2.1
 rw [aDe,aDe] at this;omega
theorem JG {α:Type}{xs:List α}{n i:Nat}{x:α}(hn:n=xs.length)(hi:i<n)(h:xs[n-1-i]? = some x):xs.drop (n-(i+1))=x::xs.drop (n-i):=by
 have e:n-(i+1)=n-1-i:=by omega
 have l:=(aDr.mp h).1;have v:=(aDr.mp h).2;rw [e,aFd l,v,show n-1-i+1=n-i by omega]
theorem oM {n:Nat}{f:Addr}{fd:FuncData}(F:fC K "worths_on" "Offers.worths_on" (inClass (top 49) 7) f fd){C:Addr}(cf:OF K C){D_:Addr}{v_:FuncData}(E_:eO P w K mg base n "by_weights" ["rows","weights"] Ft D_ v_){m_:Addr}{i_:FuncData}(h_:eO P w K mg base n "all_weights" ["table"] Bc m_ i_){aB6:Addr}{aBR:FuncData}(aB7:eO P w K mg base n "greater" ["one","other"] (Vc K) aB6 aBR){J_:Addr}{A_:FuncData}(K_:eO P w K mg base n "whole" ["number"] Ik J_ A_)(aAJ:mg "reversed" = none):bH P w K mg base fO (n+1) f fd ["self"] (QG C):=by
 refine F.ok iV (fun vs H Q E h=>?_) (fun cdv A outer s H vs Q E hr h=>?_)
 ·obtain ⟨x,ts,rfl,_⟩:=h
  rfl
 obtain ⟨x,ts,rfl,hO,g,q⟩:=h;have nd:=iV.nd;refine ⟨_,(aL (bU (i:=1) nd rfl (Or.inr rfl) (jU (aB (aJ K_ hr (aB aO aD)) aD))) (aL (jW PassesOwn.never rfl (Om rfl aAJ (aB (qZ (pv 0) rfl) aD)) (aR (i:=2) nd rfl (Or.inl rfl)) (aL (kW (i:=3) (ls:=["worth","weight"]) (M:=["self","found","table","rows"]) rfl (bW.of (by rfl)) (NL.of (by rfl)) nd rfl (Or.inl rfl) (rE (pv 2)) (fun _ _ _ _=>⟨(iC (K:=K) (n:=2) rfl rfl (bK (aR (i:=0) (cJ (by rfl)) rfl (Or.inl rfl)) (bK (aR (i:=1) (cJ (by rfl)) rfl (Or.inl rfl)) eU))),cC,(gQ (aB (aJ aB7 hr (aB (pv 0) (aB (cU (NB (K:=K) rfl) (pv 3) aO (fun _ _=>rfl)) aD))) (aB (pv 1) aD)))⟩)) (aK (bU (i:=1) nd rfl (Or.inr rfl) (bM cV (jU (aB (aJ E_ hr (aB (pv 3) (aB (aJ h_ hr (aB (pv 2) aD)) aD))) aD)) (pv 1)))))) (aK (bC (pv 1))))),?_⟩;have htl:=cI ts;have hlen:=g.len;refine ⟨_,rfl,fun p0 H0 s0 h0=>?_⟩;refine ⟨aDh wJ (aDn _),fun F0 hF0=>?_⟩;have n0:=aC hF0 (.lst [.ref p0]);have sA:=s0.trans n0;obtain ⟨dx,k,hx,hK⟩:=hO;refine ⟨_,rfl,x,C,dx,_,_,rfl,sA _ _ hx,cf.cl,cf.nk,rfl,k,_,rfl,cW.of (hK.same sA).tp,?_⟩;refine KH (xs:=fV ts) (fun i σ H'=>∃ F rs v2 v3,σ = [some (.ref x),some (.ref F),v2,v3]/\aU H H'/\H F=none/\iJ H' F rs/\fM rs=Of.JV (tabs (ts.drop (ts.length-i)))) ⟨F0,[⟨p0,0,1⟩],none,none,rfl,sA,s0.free hF0,⟨aA,fun r hr=>by rw [aDw.mp hr]; exact n0 _ _ h0⟩,by rw [aFX,List.drop_length]; rfl⟩ ?keep ?turn ?done
 case keep =>
  rintro i σ H' hi ⟨F,rs,v2,v3,rfl,hs,_⟩;exact cW.of (hK.same hs).tp
 case turn =>
  rintro i v σ H' hi hv ⟨F,rs,v2,v3,rfl,hs,hFn,hF,ev⟩;obtain ⟨t,ht,rfl⟩:=fQ hv;rw [htl] at hi ht;have hmem:=aDi ht;have gy:=g.each t hmem;have hTp:=(hK.each t hmem).same hs;have yl:t.ys.length<=8:=by have:=gy.g.len; rw [Am] at this; exact this
  obtain ⟨r0,rs',er⟩:∃ r0 rs',rs=r0::rs':=by
   cases rs with
   | nil =>
    exfalso;cases hz:tabs (ts.drop (ts.length-i)) with
    | nil=>rw [hz] at ev; cases ev
    | cons T Ts=>rw [hz] at ev; cases ev
   | cons r0 rs'=>exact ⟨r0,rs',rfl⟩
  subst er;have efd:Rk.hd (Of.JV (tabs (ts.drop (ts.length-i))))=(r0.t,r0.b):=by rw [<- ev]; rfl
  have gd:∀ T∈tabs (ts.drop (ts.length-i)),Of.GT T:=fun T hT=>by
   obtain ⟨u,hu,rfl⟩:=aDg.mp hT;exact (g.each u (aEG hu)).g
  have fb:Lg.Fb (r0.t,r0.b) 200 200:=by
   rw [<- efd];refine (Of.Pr _ gd).le ?_ ?_ <;>
   ·unfold tabs;rw [aDe,aDN];omega
  have hr0:H' r0.q=some (.tup [.int r0.t,.int r0.b]):=hF.at_ r0 aDj;refine ⟨_,rfl,t.a,rfl,⟨_,cW.of hTp.tp⟩,fun D hD=>?_⟩;refine lG (xs:=refs t.ys) (fun j τ H2=>∃ w0 w1 zs,τ = [w0,w1,some (.ref x),some (.ref F),some (.ref t.a),v3]/\aU H' H2/\TabAt H2 D zs/\nH zs=(t.ys.take j).map fun y=>(Rk.gr (y.t,y.b) (r0.t,r0.b),y.w)) ⟨none,none,[],rfl,aC hD _,⟨aA,fun _ h=>nomatch h⟩,rfl⟩ ?keep2 ?turn2 ?done2
  case keep2 =>
   rintro j τ H2 hj ⟨w0,w1,zs,rfl,s2,_⟩;exact cW.of (hTp.same s2).tp
  case turn2 =>
   rintro j m v τ H2 hm hj hv ⟨w0,w1,zs,rfl,s2,hZ,ez⟩;obtain ⟨y,hy,rfl⟩:=gC hv;have ymem:=aDi hy;have hr2:=(hTp.same s2).rows y ymem;have gv:=gy.g.vb (aDg.mpr ⟨y,ymem,rfl⟩:(y.t,y.w)∈qC t.ys);have y1:=gy.one y ymem;have zl:zs.length<=1000:=by
    have h:=congrArg aDP ez;rw [vG,aDe,aDu] at h;omega
   have go:∀ (pq:Addr) (a b:Int),H2 pq=some (.tup [.int a,.int b])->Rk.gr (y.t,y.b) (r0.t,r0.b)=(a,b)->∀ p,H2 p=none->∃ ys m',m'<m/\aM H2 p (.tup [.ref pq,.int y.w]) D=some (.lst ys)/\ys.length<sizeLine/\CW (refs t.ys).length (fun j τ H2=>∃ w0 w1 zs,τ = [w0,w1,some (.ref x),some (.ref F),some (.ref t.a),v3]/\aU H' H2/\TabAt H2 D zs/\nH zs=(t.ys.take j).map fun y=>(Rk.gr (y.t,y.b) (r0.t,r0.b),y.w)) (j+1) m' [some (.ref y.q),some (.int y.w),some (.ref x),some (.ref F),some (.ref t.a),v3] (aM (aM H2 p (.tup [.ref pq,.int y.w])) D (.lst (ys++[.ref p]))):=fun pq a b hpq eg p hp=>by
    have n1:=aC hp (.tup [.ref pq,.int y.w]);have hZ1:=hZ.same n1;refine aZ hm hj hZ1.lst (by rw [refs_length]; exact aN zl) ⟨_,_,zs++[⟨p,pq,a,b,y.w⟩],rfl,(s2.trans n1).upd_new hD _,⟨?_,?_⟩,?_⟩
    ·rw [aA,jF]
    ·intro z hz;rcases aDy.mp hz with u | u
     ·exact (hZ1.rows z u).over hZ1.lst
     ·rw [aDw.mp u];exact iU.over ⟨aA,n1 _ _ hpq⟩ hZ1.lst
    ·rw [Lk,ez,take_snoc hy,aDq];show _=_++[(Rk.gr (y.t,y.b) (r0.t,r0.b),y.w)]
     rw [eg]
   refine ⟨y.p,_,rfl,cW.of hr2.1,rfl,_,_,rfl,_,_,rfl,rfl,?_⟩;refine dU ?_;refine ⟨_,rfl,_,rfl,F,_,_,_,rfl,rfl,bB.of (hF.same s2).lst,lW (j:=0) rfl,y.q,r0.q,y.t,y.b,r0.t,r0.b,rfl,cW.of hr2.2,cW.of (s2 _ _ hr0),⟨aDh gv.1 (by decide),by rw [y1]; decide,aDh fb.t (by decide),aDh fb.b (by decide)⟩,fun hlt=>?_,fun hnl=>?_⟩
   ·refine ⟨_,rfl,Bp,fun p hp=>go r0.q r0.t r0.b (s2 _ _ hr0) ?_ p hp⟩;unfold Rk.gr;exact if_pos (decide_eq_true hlt)
   ·refine ⟨_,rfl,Bp,fun p hp=>go y.q y.t y.b hr2.2 ?_ p hp⟩;unfold Rk.gr;refine if_neg ?_;unfold Rk.lt;rw [decide_eq_false hnl];exact aDC
  case done2 =>
  rintro τ H2 ⟨w0,w1,zs,rfl,s2,hZ,ez⟩;rw [refs_length,aDz] at ez;have ez2:=Pj gy.one ez;have hw1:=gy.g.W1;refine ⟨_,rfl,_,rfl,t.a,t.ys,rfl,.inr (hTp.same s2),by omega,fun H3 s3=>?_⟩;refine ⟨D,zs,_,rfl,hZ.same s3,KY gy.g fb ez2,by rw [rF]; omega,by rw [rF]; exact aDh gy.g.wb (by decide),fun p H4 s4 hp4=>?_⟩;have eon:Of.Ek (nH zs) (wsum t.ys)=Of.lV (qC t.ys) (r0.t,r0.b):=by rw [ez2,rF]; exact Of.V5 gy.g fb.pos
  rw [eon] at hp4;refine ⟨wJ,fun G1 hG1=>?_⟩;have n1:=aC hG1 (.lst [.ref p]);have s5:=((s2.trans s3).trans s4).trans n1;have hF5:=hF.same s5;refine ⟨_,rfl,G1,F,_,_,rfl,rfl,aA,hF5.lst,?_,fun G2 hG2=>?_⟩
  ·refine aDO (aN ?_);have h:=congrArg aDP ev;rw [cT] at h;have h2:(Of.JV (tabs (ts.drop (ts.length-i)))).length=(tabs (ts.drop (ts.length-i))).length+1:=vO _;unfold tabs at h2;rw [aDe,aDN] at h2;rw [bO];show 1+_<=1000;rw [h,show (Of.JV (tabs (ts.drop (ts.length-i)))).length=ts.length-(ts.length-i)+1 from h2];omega
  ·have n2:=aC hG2 (.lst ([.ref p]++cF (r0::rs')));have hF6:=hF5.same n2;refine ⟨G2,⟨p,(Of.lV (qC t.ys) (r0.t,r0.b)).1,(Of.lV (qC t.ys) (r0.t,r0.b)).2⟩::r0::rs',_,_,rfl,(hs.trans s5).trans n2,(hs.trans s5).free hG2,⟨aA,fun r hr=>?_⟩,?_⟩
   ·rcases aDA.mp hr with z | z
    ·rw [z];exact n2 _ _ (n1 _ _ hp4)
    ·exact hF6.at_ r z
   ·rw [JG (xs:=ts) rfl hi ht];show Of.lV (qC t.ys) (r0.t,r0.b)::fM (r0::rs')=Of.lV (qC t.ys) (Rk.hd (Of.JV (tabs (ts.drop (ts.length-i)))))::Of.JV (tabs (ts.drop (ts.length-i)));rw [efd,ev]
 case done =>
  rintro σ H' ⟨F,rs,v2,v3,rfl,hs,hFn,hF,ev⟩;rw [htl,aEz,aFA] at ev;exact ⟨_,rfl,q F H' rs hs hFn hF ev⟩
theorem dR {H H':Hp}{a:Addr}{ts:List Tn}(s:aU H H')(h:qM H a ts):qM H' a ts:=⟨s _ _ h.lst,fun e he=>(h.tabs e he).same s⟩
theorem rJ {H H':Hp}{pos:Pos}{qual:Str}{a:Addr}{ts:List Tn}(s:bN Pt H H')(t:cN Pt pos qual H)(h:qM H a ts):qM H' a ts :=
 ⟨s.get t h.lst (fun _ z=>nomatch z),fun e he=>(h.tabs e he).sameT s t⟩
structure GT (t:Tn):Prop where
 ne:t.ys≠[]
 len:t.ys.length<=4
 lt:(dW t.ys).Pairwise Tb.Lt
 fr:∀ y∈t.ys,Fr.lQ y.t y.b
 zt:∀ y∈t.ys,intBits y.t<=101
 zb:∀ y∈t.ys,intBits y.b<=41
 w:∀ y∈t.ys,1<=y.w/\y.w<=4000
structure Gs (ts:List Tn):Prop where
 ne:ts≠[]
 len:ts.length<=5
 few:ts.length<=4∨∀ t∈ts,t.ys.length<=3
 all:∀ t∈ts,GT t
def mU (ts:List Tn):List (List Tb.Rw):=ts.map fun t=>dW t.ys
def keysOf (ts:List Tn):List Tb.Kp:=ts.flatMap fun t=>t.ys.map fun y=>(y.t,y.b)
theorem m9 (ts:List Tn)(t:Tn):keysOf (ts++[t])=keysOf ts++t.ys.map fun y=>(y.t,y.b):=by
 unfold keysOf;rw [aFF];simp
theorem wO (ts us:List Tn):keysOf (ts++us)=keysOf ts++keysOf us:=by
 unfold keysOf;rw [aFF]
theorem pK {m:Nat}:∀ {ts:List Tn},(∀ t∈ts,t.ys.length<=m)->(keysOf ts).length<=m*ts.length
 | [],_=>by simp [keysOf]
 | t::ts,h=>by
  have a:=pK (ts:=ts) fun x hx=>h x (aDk _ hx);have b:=h t aDj;have e:keysOf (t::ts)=(t.ys.map fun y=>(y.t,y.b))++keysOf ts:=by unfold keysOf; rw [aFg]
  rw [e,aDp,aDe,aDF,Nat.mul_add,Nat.mul_one];omega
theorem Gs.keys {ts:List Tn}(g:Gs ts):(keysOf ts).length<=16:=by
 have l:=g.len;rcases g.few with h | h
 ·have:=pK (m:=4) (ts:=ts) fun t ht=>(g.all t ht).len;omega
 ·have:=pK (m:=3) (ts:=ts) h;omega
theorem Hi (ts:List Tn)(i:Nat):(keysOf (ts.take i)).length<=(keysOf ts).length:=by
 have e:keysOf ts=keysOf (ts.take i)++keysOf (ts.drop i):=by rw [<- wO,aEo]
 rw [e,aDp];omega
theorem pG {ts:List Tn}{k:Tb.Kp}(h:k∈keysOf ts):∃ t∈ts,∃ y∈t.ys,(y.t,y.b)=k:=by
 unfold keysOf at h;obtain ⟨t,ht,h⟩:=aFn.mp h;obtain ⟨y,hy,h⟩:=aDg.mp h;exact ⟨t,ht,y,hy,h⟩
theorem mF {ts:List Tn}{t:Tn}{y:Row}(ht:t∈ts)(hy:y∈t.ys):(y.t,y.b)∈keysOf ts:=aFn.mpr ⟨t,ht,aDg.mpr ⟨y,hy,rfl⟩⟩
def tU (y:Row):Dr:=⟨y.p,y.q,[.inl y.t,.inl y.b],.int y.w⟩
theorem Nv (ys:List Row):(ys.map tU).map (fun x=>V.ref x.p)=refs ys:=by unfold refs; rw [aDH]; rfl
theorem Uj {H:Hp}{a:Addr}{ys:List Row}(h:TabAt H a ys):∀ x∈ys.map tU,Nk H x:=fun x hx=>by
 obtain ⟨y,hy,rfl⟩:=aDg.mp hx;exact h.rows y hy
theorem xA {t b:Int}:∀ (ys:List Row) (kvs:List (List Key×V)),(dW ys).Pairwise Tb.Lt ->
  (Tb.j9 (dW ys) t b->(fP ((ys.map tU).foldl (fun kvs d=>putK kvs d.k d.v) kvs) [.inl t,.inl b]).getD (.int 0)=.int (Tb.Wt (dW ys) t b)) ∧
  (¬ Tb.j9 (dW ys) t b->fP ((ys.map tU).foldl (fun kvs d=>putK kvs d.k d.v) kvs) [.inl t,.inl b]=fP kvs [.inl t,.inl b])
 | [],kvs,_=>⟨fun h=>absurd h Tb.kE,fun _=>rfl⟩
 | y::ys,kvs,hp=>by
  obtain ⟨p1,p2⟩:=aEm.mp (show (y.r::dW ys).Pairwise Tb.Lt from hp);obtain ⟨i1,i2⟩:=xA (t:=t) (b:=b) ys (putK kvs [.inl y.t,.inl y.b] (.int y.w)) p2;have eW:Tb.Wt (dW (y::ys)) t b=(if y.t=t/\y.b=b then y.w else 0)+Tb.Wt (dW ys) t b:=Tb.gF y.r (dW ys) t b;have eH:Tb.j9 (dW (y::ys)) t b↔(y.t=t/\y.b=b)∨Tb.j9 (dW ys) t b:=Tb.cL (r:=y.r)
  by_cases hk:y.t=t/\y.b=b
  ·have nh:¬ Tb.j9 (dW ys) t b:=by
    rintro ⟨z,hz,z1,z2⟩;exact Tb.En (p1 z hz) (show y.t=z.t by rw [z1]; exact hk.1) (show y.b=z.b by rw [z2]; exact hk.2)
   refine ⟨fun _=>?_,fun h=>absurd (eH.mpr (.inl hk)) h⟩;have q:=i2 nh;show (fP ((ys.map tU).foldl (fun kvs d=>putK kvs d.k d.v) (putK kvs [.inl y.t,.inl y.b] (.int y.w))) [.inl t,.inl b]).getD (.int 0)=_;rw [q,Cm,if_pos (by rw [hk.1,hk.2]),eW,if_pos hk,Tb.jC nh,aFU]
   rfl
  ·have ne:¬ (([.inl t,.inl b]:List Key)=[.inl y.t,.inl y.b]):=fun z=>by
    obtain ⟨z1,z2⟩:=zJ z;exact hk ⟨z1.symm,z2.symm⟩
   refine ⟨fun h=>?_,fun h=>?_⟩
   ·rcases eH.mp h with z | z
    ·exact absurd z hk
    ·rw [eW,if_neg hk,aFv];exact i1 z
   ·have q:=i2 fun z=>h (eH.mpr (.inr z));rw [Cm,if_neg ne] at q;exact q
theorem aAe {ys:List Row}(hp:(dW ys).Pairwise Tb.Lt)(t b:Int):(fP (gG (ys.map tU)) [.inl t,.inl b]).getD (.int 0)=.int (Tb.Wt (dW ys) t b):=by
 obtain ⟨i1,i2⟩:=xA (t:=t) (b:=b) ys [] hp;rcases Classical.em (Tb.j9 (dW ys) t b) with z | z
 ·exact i1 z
 ·have q:=i2 z;unfold gG;rw [q,Tb.jC z]
  rfl
structure Dw (ks:List Tb.Kp)(kvs:List (List Key×V)):Prop where
 nd:(kvs.map (·.1)).Nodup
 en:∀ kv∈kvs,∃ t b:Int,kv.1=[.inl t,.inl b]/\(t,b)∈ks
 all:∀ k∈ks,([Sum.inl k.1,Sum.inl k.2]:List Key)∈kvs.map (·.1)
theorem Dw.nil:Dw [] []:=⟨aET,(fun _ h=>nomatch h),fun _ h=>nomatch h⟩
theorem Dw.put {ks:List Tb.Kp}{kvs:List (List Key×V)}(d:Dw ks kvs)(t b:Int)(v:V):Dw (ks++[(t,b)]) (putK kvs [.inl t,.inl b] v):=by
 refine ⟨?_,fun kv hkv=>?_,fun k hk=>?_⟩
 ·rw [oG]
  split
  ·exact d.nd
  ·rename_i na;refine aFV.mpr ⟨d.nd,aEe.mpr ⟨aDJ,aET⟩,fun y hy z hz=>?_⟩;rw [aDw.mp hz];rintro rfl;obtain ⟨kv,hkv,e⟩:=aDg.mp hy;exact na (aEv.mpr ⟨kv,hkv,decide_eq_true e⟩)
 ·rcases BX hkv with z | ⟨z,ne⟩
  ·exact ⟨t,b,by rw [z],aDB _ (.head _)⟩
  ·obtain ⟨t',b',e,h⟩:=d.en kv z;exact ⟨t',b',e,aD0 _ h⟩
 ·rw [oG]
  split
  ·rename_i ya;rcases aDy.mp hk with z | z
   ·exact d.all k z
   ·rw [aDw.mp z];obtain ⟨kv,hkv,e⟩:=aEv.mp ya;exact aDg.mpr ⟨kv,hkv,of_decide_eq_true e⟩
  ·rcases aDy.mp hk with z | z
   ·exact aD0 _ (d.all k z)
   ·rw [aDw.mp z];exact aDB _ (.head _)
theorem Pz:∀ (ns:List Int) (m:Int) (k:Nat),intBits m<=k->intBits (ns.foldl (· * ·) m)<=k+(ns.map intBits).sum
 | [],m,k,h=>by simpa using h
 | n::ns,m,k,h=>by
  have h1:intBits (m*n)<=k+intBits n:=PySem.intBits_mul_le h (aDn _);have:=Pz ns (m*n) _ h1;simp only [aDE,aD9];show intBits (ns.foldl (· * ·) (m*n))<=_;omega
theorem uJ (ns:List Int):intBits (Tb.pP ns)<=1+(ns.map intBits).sum:=Pz ns 1 1 (by decide)
theorem J8 (pre:List Tb.Kp):∀ {ps:List Tb.Rw},(∀ p∈ps,1<=p.w)->0<=Tb.Sm ps pre/\Tb.Sm ps pre<=Tb.W ps
 | [],_=>by simp [Tb.Sm,Tb.W]
 | p::ps,h=>by
  obtain ⟨a,b⟩:=J8 pre (ps:=ps) fun x hx=>h x (aDk _ hx);have c:=h p aDj;rw [Tb.mH,Tb.Ey]
  split <;> omega
theorem GT.ws {t:Tn}(g:GT t):∀ p∈dW t.ys,1<=p.w/\p.w<=4000:=fun p hp=>by
 obtain ⟨x,hx,rfl⟩:=aDg.mp hp;exact g.w x hx
theorem GT.sm {t:Tn}(g:GT t)(pre:List Tb.Kp):0<=Tb.Sm (dW t.ys) pre/\intBits (Tb.Sm (dW t.ys) pre)<=14:=by
 have l:=g.len;obtain ⟨a,b⟩:=J8 pre (ps:=dW t.ys) fun p hp=>(g.ws p hp).1;have c:=(Kd (m:=4000) (by decide) g.ws).2;rw [jR] at c;exact ⟨a,PySem.intBits_le_iff.mpr (by rw [show (2:Nat)^14=16384 from by decide]; omega)⟩
def xY (ts:List Tn)(pre:List Tb.Kp):List Int:=ts.map fun t=>Tb.Sm (dW t.ys) pre
theorem MK {ts:List Tn}(g:Gs ts)(pre:List Tb.Kp):((xY ts pre).map intBits).sum<=112:=by
 have l:=g.len;have h:=eZ (k:=14) (l:=(xY ts pre).map intBits) fun n hn=>by
  obtain ⟨z,hz,rfl⟩:=aDg.mp hn;obtain ⟨e,he,rfl⟩:=aDg.mp hz;exact ((g.all e he).sm pre).2
 rw [aDe] at h;have:(xY ts pre).length=ts.length:=aDe _;omega
theorem V0 {x:Int}(h1:1<=x)(h:intBits x<=160):x<=Cp:=by
 have h2:=PySem.intBits_le_iff.mp h;have e:((2^160:Nat):Int)<=Cp:=by decide +kernel
 omega
theorem zL {ts:List Tn}{t:List Tb.Rw}(h:t∈mU ts):∃ u∈ts,t=dW u.ys:=by
 obtain ⟨u,hu,rfl⟩:=aDg.mp h;exact ⟨u,hu,rfl⟩
theorem uX {ts:List Tn}{all:List Tb.Kp}(h:∀ t∈ts,∀ y∈t.ys,(y.t,y.b)∈all):∀ t∈mU ts,∀ q∈t,Tb.kp q∈all:=fun t ht q hq=>by
 obtain ⟨u,hu,rfl⟩:=zL ht;obtain ⟨y,hy,rfl⟩:=aDg.mp hq;exact h u hu y hy
theorem Vz {ts:List Tn}(g:∀ t∈ts,GT t):∀ t∈mU ts,∀ q∈t,1<=q.w:=fun t ht q hq=>by
 obtain ⟨u,hu,rfl⟩:=zL ht;exact ((g u hu).ws q hq).1
theorem Fy {ts:List Tn}(g:Gs ts):∀ p∈Tb.uC (mU ts),1<=p.w:=by
 have h:=Vz g.all;cases e:mU ts with
 | nil=>exact fun _ h=>nomatch h
 | cons t us =>
  rw [e] at h;exact Tb.Fy (h t aDj) fun u hu=>h u (aDk _ hu)
theorem HW:∀ (us:List (List Tb.Rw)) (ps:List Tb.Rw),ps≠[]->(∀ u∈us,u≠[])->us.foldl Tb.fK ps≠[]
 | [],_,h,_=>h
 | u::us,ps,h,hu=>by
  refine HW us (Tb.fK ps u) ?_ fun x hx=>hu x (aDk _ hx);intro z;have l:=Tb.pQ ps u;rw [z] at l;have h1:0<ps.length:=aDT.mpr h;have h2:0<u.length:=aDT.mpr (hu u aDj);have:=Nat.mul_pos h1 h2;simp at l;omega
theorem Ja {ys:List Row}(h:ys≠[]):dW ys≠[]:=fun z=>h (aDX.mp z)
theorem NZ {ts:List Tn}(g:Gs ts):Tb.uC (mU ts)≠[]:=by
 cases e:ts with
 | nil=>exact absurd e g.ne
 | cons t us =>
  have hn:∀ u∈ts,u.ys≠[]:=fun u hu=>(g.all u hu).ne;rw [e] at hn;refine HW (mU us) (dW t.ys) (Ja (hn t aDj)) fun u hu=>?_;obtain ⟨x,hx,rfl⟩:=zL hu;exact Ja (hn x (aDk _ hx))
def qT (rs:List Rs):List Tb.Kp:=rs.map fun r=>(r.t,r.b)
theorem M6 {rs:List Rs}(h:rs.Pairwise Nj):(qT rs).Pairwise Tb.Ss:=aD4.mpr h
theorem Qq {rs:List Rs}(h:rs.Pairwise Nj):(qT rs).Nodup:=(M6 h).imp fun {x y} hxy e=>by
 subst e;exact Tb.GX hxy
def wo (H:Hp)(a:Addr):Hp:=fun b=>if b=a then none else H b
theorem Gx (H:Hp)(a:Addr):wo H a a=none:=if_pos rfl
theorem uW {H:Hp}{a b:Addr}(h:b≠a):wo H a b=H b:=if_neg h
theorem Oj (H:Hp)(a:Addr):aU (wo H a) H:=fun b o e=>by
 by_cases h:b=a
 ·rw [h,Gx] at e; cases e
 ·rw [uW h] at e; exact e
theorem bN.wo {H H':Hp}{a:Addr}(s:bN Pt H H')(h:H a=none):bN Pt H (wo H' a):=fun b o n e=>by
 rw [uW (bJ e h)];exact s b o n e
theorem cN.wo {pos:Pos}{qual:Str}{H:Hp}{a:Addr}{xs:List V}(t:cN Pt pos qual H)(e:H a=some (.lst xs)):cN Pt pos qual (wo H a):=by
 rcases t with t | ⟨c,t,u⟩
 ·exact .inl (by rw [uW (dG t e fun z=>nomatch z)]; exact t)
 ·exact .inr ⟨c,by rw [uW (dG t e fun z=>nomatch z)]; exact t,by rw [uW (dG u e fun z=>nomatch z)]; exact u⟩
def Kl (K:PySem.W.Frag):Sp:=fun vs H Q _=>∃ (a:Addr) (ns:List Int),vs=[.ref a]/\bB K H a (ns.map V.int)/\(ns.map intBits).sum<=4200/\Q (.int (Tb.pP ns)) H
def Bh (Pt:Addr):Sp:=fun vs H Q _=>∃ (a:Addr) (ts:List Tn),vs=[.ref a]/\qM H a ts/\Gs ts/\cN Pt iQ jN H ∧
 ∀ (D:Addr) (H':Hp) (rs:List Rs),bN Pt H H'->cN Pt iQ jN H'->H' D=some (.lst (cF rs))->(∀ r∈rs,tX H' r)->rs.Pairwise Nj->rs.length<=16->(∀ r∈rs,(r.t,r.b)∈keysOf ts)->(∀ k∈keysOf ts,k∈qT rs)->Q (.ref D) H'
structure Gr (ts:List Tn)(ys:List Row):Prop where
 ex:∃ rows,(∀ t b,Tb.j9 rows t b↔Tb.j9 (Tb.uC (mU ts)) t b)/\(∀ t b,Tb.Wt rows t b=Tb.Wt (Tb.uC (mU ts)) t b)/\Out rows ys
def Gq (Pt:Addr):Sp:=fun vs H Q _=>∃ (a:Addr) (ts:List Tn),vs=[.ref a]/\qM H a ts/\Gs ts/\cN Pt iQ jN H ∧
 ∀ (r:Addr) (H':Hp) (ys:List Row),bN Pt H H'->cN Pt iQ jN H'->H r=none->TabAt H' r ys->Gr ts ys->Q (.ref r) H'
theorem FN {n:Nat}{f:Addr}{fd:FuncData}(F:fC K "product" "product" (top 34) f fd):bH P w K mg base fO (n+1) f fd ["numbers"] (Kl K):=by
 refine F.ok v7 (fun vs H Q E h=>?_) (fun cdv A outer s H vs Q E hr h=>?_)
 ·obtain ⟨a,ns,rfl,_⟩:=h
  rfl
 obtain ⟨a,ns,rfl,hS,hz,q⟩:=h;have nd:=v7.nd;refine ⟨_,(aL (bU (i:=1) nd rfl (Or.inl rfl) aO) (aL (jW PassesOwn.never rfl (cB (pv 0)) (aR (i:=2) nd rfl (Or.inl rfl)) (aK (bU (i:=1) nd rfl (Or.inl rfl) (bM dC (pv 1) (pv 2))))) (aK (bC (pv 1))))),?_⟩;refine ⟨_,rfl,a,rfl,⟨_,hS⟩,?_⟩;refine jP (xs:=ns.map V.int) (fun i σ H'=>∃ v2 B,σ = [some (.ref a),some (.int B),v2]/\B=Tb.pP (ns.take i)/\H'=H) ⟨none,1,rfl,rfl,rfl⟩ (fun i σ H' _ ⟨_,_,_,_,e⟩=>by rw [e]; exact hS) ?turn ?done
 case turn =>
  rintro i v σ H' hv ⟨v2,B,rfl,eB,rfl⟩;rw [aDm] at hv;cases en:ns[i]? with
  | none=>rw [en] at hv; cases hv
  | some n =>
   rw [en] at hv;cases hv;have bz:=uJ (ns.take i);have sl:=sH ns i;rw [<- eB] at bz;refine ⟨_,rfl,_,rfl,_,_,rfl,rfl,gM (m:=4300) (n:=4300) (by omega) (aDh (pJ (aDi en)) (by omega)) (by decide),?_⟩;refine ⟨_,_,rfl,?_,rfl⟩;rw [take_snoc en,Tb.Ex,eB]
 case done =>
  rintro σ H' ⟨v2,B,rfl,eB,rfl⟩;rw [aDe,aDz] at eB;subst eB;exact ⟨_,rfl,q⟩
theorem z9 {n:Nat}{f:Addr}{fd:FuncData}(F:fC K "worths_of" "worths_of" (top 33) f fd){aA7:Addr}{aAQ:FuncData}(aA8:eO P w K mg base n "rising" ["worths"] (Ds K Pt iQ) aA7 aAQ)(gV:mg "list" = none):bH P w K mg base fO (n+1) f fd ["tables"] (Bh Pt):=by
 refine F.ok qL (fun vs H Q E h=>?_) (fun cdv A outer s H vs Q E hr h=>?_)
 ·obtain ⟨a,ts,rfl,_⟩:=h
  rfl
 obtain ⟨a,ts,rfl,hE,g,hTb,q⟩:=h;have nd:=qL.nd;have hu:=Lr hr;refine ⟨_,(aL (bU (i:=1) nd rfl (Or.inl rfl) Cv) (aL (jW PassesOwn.never rfl (cB (pv 0)) (aR (i:=2) nd rfl (Or.inl rfl)) (aK (jW PassesOwn.never rfl (cB (pv 2)) (vN rfl (bK (aR (i:=3) nd rfl (Or.inl rfl)) (bK (aR (i:=4) nd rfl (Or.inl rfl)) eU))) (aK (Ga hu (pv 1) (pv 3) mR rfl))))) (aK (bC (aJ aA8 hr (aB (fZ (vC rfl) rfl gV iZ (aB (pv 1) aD)) aD)))))),?_⟩;have hlr:=cI ts;have gk:=g.keys;intro Dd hDd;have n0:=aC hDd (.dT []);refine ⟨_,rfl,a,rfl,⟨_,bB.of (dR n0 hE).lst⟩,?_⟩;refine jP (xs:=fV ts) (fun i σ H'=>∃ kvs v2 v3 v4,σ = [some (.ref a),some (.ref Dd),v2,v3,v4]/\aU H H'/\H' Dd=some (.dT kvs)/\Dw (keysOf (ts.take i)) kvs/\kvs.length<=(keysOf (ts.take i)).length) ⟨[],none,none,none,rfl,n0,aA,Dw.nil,aDn _⟩ ?keep ?turn ?done
 case keep =>
  rintro i σ H' hi ⟨kvs,v2,v3,v4,rfl,hs,_⟩;exact bB.of (dR hs hE).lst
 case turn =>
  rintro i v σ H' hv ⟨kvs,v2,v3,v4,rfl,hs,hd,dk,kl⟩;obtain ⟨t,ht,rfl⟩:=fQ hv;have hmem:=aDi ht;have kt:=Hi ts (i+1);rw [take_snoc ht,m9,aDp,aDe] at kt;refine ⟨_,rfl,t.a,rfl,⟨_,bB.of ((dR hs hE).tabs t hmem).lst⟩,?_⟩;refine jP (xs:=refs t.ys) (fun j σ H''=>∃ kvs v3 v4,σ = [some (.ref a),some (.ref Dd),some (.ref t.a),v3,v4]/\aU H H''/\H'' Dd=some (.dT kvs)/\Dw (keysOf (ts.take i)++(t.ys.take j).map fun y=>(y.t,y.b)) kvs/\kvs.length<=(keysOf (ts.take i)).length+j) ⟨kvs,v3,v4,rfl,hs,hd,by simpa using dk,by omega⟩ ?keep2 ?turn2 ?done2
  case keep2 =>
   rintro j σ H'' hj ⟨kvs,v3,v4,rfl,hs2,_⟩;exact bB.of ((dR hs2 hE).tabs t hmem).lst
  case turn2 =>
   rintro j v σ H'' hv ⟨kvs,v3,v4,rfl,hs2,hd2,dk2,kl2⟩;obtain ⟨y,hy,rfl⟩:=gC hv;have hj:=(aDr.mp hy).1;have hr:=((dR hs2 hE).tabs t hmem).rows y (aDi hy);have hq:H'' y.q=some (.tup (([.inl y.t,.inl y.b]:List Key).map kV)):=hr.2;refine ⟨y.p,_,rfl,cW.of hr.1,rfl,_,_,rfl,_,_,rfl,rfl,?_⟩;refine ⟨_,rfl,_,rfl,Dd,_,rfl,Ht.t hd2 hq (aN (by omega)),?_⟩;refine ⟨_,_,_,rfl,hs2.upd_new hDd _,aA,?_,?_⟩
   ·rw [take_snoc hy,aDq,<- aES];exact dk2.put y.t y.b _
   ·have:=gA kvs [.inl y.t,.inl y.b] (.bl true);exact aDh this (by omega)
  case done2 =>
   rintro σ H'' ⟨kvs,v3,v4,rfl,hs2,hd2,dk2,kl2⟩;rw [refs_length,aDz] at dk2;rw [refs_length] at kl2;refine ⟨_,_,_,_,rfl,hs2,hd2,?_,?_⟩
   ·rw [take_snoc ht,m9];exact dk2
   ·rw [take_snoc ht,m9,aDp,aDe];exact kl2
 case done =>
 rintro σ H1 ⟨kvs,v2,v3,v4,rfl,s1,hd1,dk,kl⟩;rw [hlr,aDz] at dk kl;have kb:∀ kv∈kvs,∃ t b:Int,kv.1=[.inl t,.inl b]:=fun kv hkv=>by
  obtain ⟨t,b,e,_⟩:=dk.en kv hkv;exact ⟨t,b,e⟩
 refine ⟨_,rfl,Dd,kvs,rfl,.inl hd1,fun l qs hl hql hqs=>?_⟩;obtain ⟨rs0,er1,er2,er3⟩:=M5 hql kb hqs;have n3:=aC hl (.lst (qs.map V.ref));have s3:=s1.trans n3;have rl0:rs0.length=kvs.length:=by simpa using congrArg aDP er2
 have kin0:∀ r∈rs0,(r.t,r.b)∈keysOf ts:=fun r hr=>by
  have m:jY r∈kvs.map (·.1):=by rw [<- er2]; exact aDg.mpr ⟨r,hr,rfl⟩
  obtain ⟨kv,hkv,e⟩:=aDg.mp m;obtain ⟨t,b,e2,h⟩:=dk.en kv hkv;rw [e2] at e;obtain ⟨e3,e4⟩:=oE.mp e.symm;rw [e3,e4];exact h
 have good:∀ r∈rs0,Fr.lQ r.t r.b/\intBits r.t<=300/\intBits r.b<=300:=fun r hr=>by
  obtain ⟨t,ht,y,hy,e⟩:=pG (kin0 r hr);injection e with e1 e2
  have gt:=g.all t ht;rw [<- e1,<- e2];exact ⟨gt.fr y hy,aDh (gt.zt y hy) (by decide),aDh (gt.zb y hy) (by decide)⟩
 have hk0:∀ k∈keysOf ts,∃ r∈rs0,(r.t,r.b)=k:=fun k hk=>by
  have m:=dk.all k hk;rw [<- er2] at m;obtain ⟨r,hr,e⟩:=aDg.mp m;obtain ⟨e1,e2⟩:=oE.mp e;exact ⟨r,hr,Prod.ext e1 e2⟩
 refine ⟨l,rs0,rfl,bB.of (by rw [er1]; exact aA),?_,by omega,fun r hr=>⟨n3 _ _ (er3 r hr),good r hr⟩,by rw [er2]; exact dk.nd,hTb.same s3,fun R H4 rs st4 tb4 hR pm so=>?_⟩
 ·rintro rfl;cases ets:ts with
  | nil=>exact g.ne ets
  | cons t us =>
   have tm:t∈ts:=by rw [ets]; exact aDj
   cases eys:t.ys with
   | nil=>exact (g.all t tm).ne eys
   | cons y ys =>
    obtain ⟨r,hr,_⟩:=hk0 _ (mF tm (y:=y) (by rw [eys]; exact aDj));cases hr
 have tb3:=hTb.same s3;refine q R H4 rs ((s3.toT).trans st4) tb4 hR (fun r hr=>st4.get tb3 (n3 _ _ (er3 r (pm.mem_iff.mp hr))) fun _ z=>nomatch z) so (by rw [pm.length_eq]; omega) (fun r hr=>kin0 r (pm.mem_iff.mp hr)) fun k hk=>?_;obtain ⟨r,hr,e⟩:=hk0 k hk;exact aDg.mpr ⟨r,pm.mem_iff.mpr hr,e⟩
theorem Bs {n:Nat}{f:Addr}{fd:FuncData}(F:fC K "greatest" "greatest" (top 35) f fd){aAR:Addr}{aAH:FuncData}(aAS:eO P w K mg base n "in_form" ["rows"] (Do Pt iQ) aAR aAH){aBD:Addr}{aBs:FuncData}(aBE:eO P w K mg base n "worths_of" ["tables"] (Bh Pt) aBD aBs){aB8:Addr}{aBS:FuncData}(aB9:eO P w K mg base n "product" ["numbers"] (Kl K) aB8 aBS)(aBr:mg "zip" = none)(aBT:mg "dict" = none):bH P w K mg base fO (n+1) f fd ["tables"] (Gq Pt):=by
 refine F.ok tL (fun vs H Q E h=>?_) (fun cdv A outer s H vs Q E hr h=>?_)
 ·obtain ⟨a,ts,rfl,_⟩:=h
  rfl
 obtain ⟨a,ts,rfl,hE,g,hTb,q⟩:=h;have nd:=tL.nd;have hu:=Lr hr;have hu2:_+2<cLine:=aEk (aEg (by decide:2<=64) _) (d8.units hr);refine ⟨_,(aL (kW (i:=1) (ls:=["table"]) (M:=["tables","weights","reached","behind","rows","worth","together"]) rfl (bW.of (by rfl)) (NL.of (by rfl)) nd rfl (Or.inl rfl) (cB (pv 0)) (fun _ _ _ _=>⟨(aR (i:=0) (cJ (by rfl)) rfl (Or.inl rfl)),cC,(fZ (Ba (K:=K) rfl rfl hu2) rfl aBT Nt (aB (pv 0) aD))⟩)) (aL (kW (i:=2) (ls:=["table"]) (M:=["tables","weights","reached","behind","rows","worth","together"]) rfl (bW.of (by rfl)) (NL.of (by rfl)) nd rfl (Or.inl rfl) (cB (pv 0)) (fun _ _ _ _=>⟨(aR (i:=0) (cJ (by rfl)) rfl (Or.inl rfl)),cC,aO⟩)) (aL (bU (i:=3) nd rfl (Or.inl rfl) aO) (aL (bU (i:=4) nd rfl (Or.inl rfl) (jU aD)) (aL (jW PassesOwn.never rfl (cB (aJ aBE hr (aB (pv 0) aD))) (aR (i:=5) nd rfl (Or.inr rfl)) (aL (kW (i:=2) (ls:=["so_far","own"]) (M:=["tables","weights","reached","behind","rows","worth","together"]) rfl (bW.of (by rfl)) (NL.of (by rfl)) nd rfl (Or.inl rfl) (R7 rfl aBr (aB (pv 2) (aB (pv 1) aD))) (fun _ _ _ _=>⟨(iC (K:=K) (n:=2) rfl rfl (bK (aR (i:=0) (cJ (by rfl)) rfl (Or.inl rfl)) (bK (aR (i:=1) (cJ (by rfl)) rfl (Or.inl rfl)) eU))),cC,(bM eQ (pv 0) (CP hu (pv 1) (pv 7) aO ⟨rfl,rfl,rfl,rfl⟩))⟩)) (aL (bU (i:=6) nd rfl (Or.inl rfl) (aJ aB9 hr (aB (pv 2) aD))) (aL (iW (gD Tv (pv 6) (pv 3) (eE _)) (aK (gY (GQ PySem.F.plainAttrs_list PySem.F.slot_list_append PySem.F.type_list_append lF (pv 4) (aB (gQ (aB (pv 5) (aB (bM rN (pv 6) (pv 3)) aD))) aD)))) eF) (aK (bU (i:=3) nd rfl (Or.inl rfl) (pv 6))))))) (aK (bC (aJ aAS hr (aB (pv 4) aD))))))))),?_⟩;have hlr:=cI ts;have glen:=g.len;refine ⟨_,rfl,a,rfl,⟨_,bB.of hE.lst⟩,fun D1 hD1=>?_⟩;refine cA (xs:=fV ts) (fun i τ H'=>∃ v0 ds,τ = [v0,some (.ref a),none,none,none,none,none,none]/\aU H H'/\H' D1=some (.lst (ds.map V.ref))/\ds.length=i/\∀ (j:Nat) (t:Tn) (d:Addr),ts[j]? = some t->ds[j]? = some d->H' d=some (.dT (gG (t.ys.map tU)))) ⟨none,[],rfl,aC hD1 _,aA,rfl,fun j t d _ h=>by simp at h⟩ ?keep1 ?turn1 ?done1
 case keep1 =>
  rintro i τ H' hi ⟨v0,ds,rfl,hs,_⟩;exact bB.of (dR hs hE).lst
 case turn1 =>
  rintro i m v τ H' hm hi hv ⟨v0,ds,rfl,hs,hD',dl,hds⟩;obtain ⟨t,ht,rfl⟩:=fQ hv;have hmem:=aDi ht;have hT:=(dR hs hE).tabs t hmem;have gt:=g.all t hmem;have gl:=gt.len;unfold mL;refine dU ?_;refine ⟨_,rfl,t.a,t.ys.map tU,rfl,bB.of (by rw [Nv]; exact hT.lst),Uj hT,by rw [aDe]; exact aN (by omega),fun r hr=>?_⟩;have n1:=aC hr (.dT (gG (t.ys.map tU)));have hD2:=n1 _ _ hD';refine aZ hm hi hD2 (by rw [aDe]; exact aN (by omega)) ⟨_,ds++[r],rfl,(hs.trans n1).upd_new hD1 _,?_,?_,fun j u d hu1 hd1=>?_⟩
  ·rw [aA,aDq]
   rfl
  ·rw [aDp,dl]
   rfl
  ·rw [List.getElem?_append] at hd1
   split at hd1
   ·have e:=n1 _ _ (hds j u d hu1 hd1);rw [aH (dG e hD2 fun z=>nomatch z)];exact e
   ·rename_i hj;have ej:j=i:=by
     cases hk:j-ds.length with
     | zero=>omega
     | succ k=>rw [hk] at hd1; simp at hd1
    subst ej;rw [dl,aEz] at hd1;have ed:r=d:=by simpa using hd1
    subst ed;rw [ht] at hu1;cases hu1;have e:aM H' r (.dT (gG (t.ys.map tU))) r=some (.dT (gG (t.ys.map tU))):=aA;rw [aH (dG e hD2 fun z=>nomatch z)];exact e
 case done1 =>
 rintro τ H1 ⟨v0,ds,rfl,s1,hW1,dl,hds⟩;rw [hlr] at dl;refine ⟨_,rfl,a,rfl,⟨_,bB.of (dR s1 hE).lst⟩,fun D2 hD2=>?_⟩;refine cA (xs:=fV ts) (fun i τ H'=>∃ v0,τ = [v0,some (.ref a),some (.ref D1),none,none,none,none,none]/\aU H1 H'/\H' D2=some (.lst ((xY (ts.take i) []).map V.int))) ⟨none,rfl,aC hD2 _,aA⟩ ?keep2 ?turn2 ?done2
 case keep2 =>
  rintro i τ H' hi ⟨v0,rfl,hs,_⟩;exact bB.of (dR (s1.trans hs) hE).lst
 case turn2 =>
  rintro i m v τ H' hm hi hv ⟨v0,rfl,hs,hD'⟩;obtain ⟨t,ht,rfl⟩:=fQ hv;unfold mL;refine dU ?_;refine aZ hm hi hD' (by rw [aDe]; unfold xY; rw [aDe]; exact aN (aDh (aDY _ _) (by omega))) ⟨_,rfl,hs.upd_new hD2 _,?_⟩;rw [aA,take_snoc ht];unfold xY;rw [aDq,aDq];show _=some (HO.lst (_++[V.int (Tb.Sm (dW t.ys) [])]));rw [Tb.zV]
 case done2 =>
 rintro τ H2 ⟨v1,rfl,s2,hR2⟩;rw [hlr,aDz] at hR2;refine ⟨aDK _,fun Rp hRp=>?_⟩;have O1:=s1.trans s2;have n3:=aC hRp (.lst []);have hRn:H Rp=none:=O1.free hRp;have s3:aU H (aM H2 Rp (.lst [])):=O1.trans n3;have tb3:=hTb.same s3;refine ⟨_,rfl,a,ts,rfl,dR s3 hE,g,tb3,fun W Hb rs sB tbB hW rat so rl rin rall=>?_⟩;have hRb:Hb Rp=some (.lst []):=sB.get tb3 aA fun _ z=>nomatch z
 have hWne:W≠Rp:=fun z=>by
  rw [z,hRb] at hW;injection hW with hW
  injection hW with hW
  cases rs with
  | nil =>
   cases ets:ts with
   | nil=>exact g.ne ets
   | cons t us =>
    have tm:t∈ts:=by rw [ets]; exact aDj
    cases eys:t.ys with
    | nil=>exact (g.all t tm).ne eys
    | cons y ys =>
     have:=rall _ (mF tm (y:=y) (by rw [eys]; exact aDj));cases this
  | cons r rs=>cases hW
 have sd:bN Pt H2 (wo Hb Rp):=bN.wo ((n3.toT).trans sB) hRp;have tb2:=hTb.same O1;have tbd:cN Pt iQ jN (wo Hb Rp):=cN.wo tbB hRb;have wR:wo Hb Rp Rp=none:=Gx _ _;have wW:wo Hb Rp W=some (.lst (cF rs)):=by rw [uW hWne]; exact hW
 have wrat:∀ r∈rs,tX (wo Hb Rp) r:=fun r hr=>by
  have e:=rat r hr;unfold tX at e ⊢;rw [uW (dG e hRb fun z=>nomatch z)];exact e
 have wD1:wo Hb Rp D1=some (.lst (ds.map V.ref)):=sd.get tb2 (s2 _ _ hW1) fun _ z=>nomatch z
 have wds:∀ (j:Nat) (t:Tn) (d:Addr),ts[j]? = some t->ds[j]? = some d->wo Hb Rp d=some (.dT (gG (t.ys.map tU))):=fun j t d h1 h2=>sd.get tb2 (s2 _ _ (hds j t d h1 h2)) fun _ z=>nomatch z
 have wD2:wo Hb Rp D2=some (.lst ((xY ts []).map V.int)):=sd.get tb2 hR2 fun _ z=>nomatch z
 have ht0:bN Pt H (wo Hb Rp):=(O1.toT).trans sd;have kso:=M6 so;have kmem:∀ t∈ts,∀ y∈t.ys,(y.t,y.b)∈qT rs:=fun t ht y hy=>rall _ (mF ht hy);have tne:mU ts≠[]:=fun z=>g.ne (aDX.mp z);have prod:∀ i,Tb.pP (xY ts ((qT rs).take i))=Tb.Sm (Tb.uC (mU ts)) ((qT rs).take i):=fun i=>by
  have e:=(Tb.Du (Tb.wZ kso i) tne (uX kmem)).2;rw [e];unfold mU xY;rw [aDH]
  rfl
 have chw:=Fy g;generalize hHd:wo Hb Rp=Hd at *;have sHb:aU Hd Hb:=by rw [<- hHd]; exact Oj _ _
 refine ⟨W,rfl,⟨_,bB.of hW⟩,?_⟩;refine jP (xs:=cF rs) (fun i σ H'=>∃ Rc v5 v6 xs beh,σ = [some (.ref a),some (.ref D1),some (.ref Rc),some (.int beh),some (.ref Rp),v5,v6]/\aU Hd H'/\H' Rc=some (.lst ((xY ts ((qT rs).take i)).map V.int))/\Rc≠Rp/\TabAt H' Rp xs/\dW xs=Tb.rowsOf (Tb.uC (mU ts)) ((qT rs).take i)/\PB xs/\xs.length<=i/\beh=Tb.Sm (Tb.uC (mU ts)) ((qT rs).take i)) ⟨D2,none,none,[],0,rfl,sHb,sHb _ _ wD2,bJ wD2 wR,⟨hRb,fun _ h=>nomatch h⟩,rfl,(fun _ h=>nomatch h),aDn _,(Tb.zV _).symm⟩ ?keep3 ?turn3 ?done3
 case keep3 =>
  rintro i σ H' hi ⟨Rc,v5,v6,xs,beh,rfl,hs,_⟩;exact bB.of (hs _ _ wW)
 case turn3 =>
  rintro i v σ H' hv ⟨Rc,v5,v6,xs,beh,rfl,hs,hRc,cne,hX,ex,pb,xl,eb⟩;obtain ⟨x,hx,rfl⟩:=iM hv;have hxm:=aDi hx;have hi:=(aDr.mp hx).1;have ki:(qT rs)[i]? = some (x.t,x.b):=by unfold qT; rw [aDm,hx]; rfl
  have kt:(qT rs).take (i+1)=(qT rs).take i++[(x.t,x.b)]:=take_snoc ki;have kn:=Tb.KC kso ki;unfold mL;refine ⟨_,rfl,_,rfl,Rc,D1,_,_,rfl,bB.of hRc,bB.of (hs _ _ wD1),fun Dn hDn=>?_⟩;refine Jt (xs:=(xY ts ((qT rs).take i)).map V.int) (ys:=ds.map V.ref) (fun j τ H''=>∃ v0 v1,τ = [v0,v1,some (.ref a),some (.ref D1),some (.ref Rc),some (.int beh),some (.ref Rp),some (.ref x.q),v6]/\aU H' H''/\H'' Dn=some (.lst ((xY (ts.take j) ((qT rs).take (i+1))).map V.int))) (by unfold xY; rw [aDe,aDe,aDe,dl]) ⟨none,none,rfl,aC hDn _,aA⟩ ?keep4 ?turn4 ?done4
  case keep4 =>
   rintro j τ H'' hj ⟨v0,v1,rfl,hs4,_⟩;exact ⟨bB.of (hs4 _ _ hRc),bB.of (hs4 _ _ (hs _ _ wD1))⟩
  case turn4 =>
   rintro j m u w T τ H'' hm hj hu1 hw1 hT ⟨v0,v1,rfl,hs4,hD4⟩;unfold xY at hu1;rw [aDH,aDm] at hu1;rw [aDm] at hw1;cases et:ts[j]? with
   | none=>rw [et] at hu1; cases hu1
   | some t =>
    rw [et] at hu1;cases hu1;cases ed:ds[j]? with
    | none=>rw [ed] at hw1; cases hw1
    | some d =>
     rw [ed] at hw1;cases hw1;have gt:=g.all t (aDi et);have nT:=aC hT (.tup [.int (Tb.Sm (dW t.ys) ((qT rs).take i)),.ref d]);have hd4:=nT _ _ (hs4 _ _ (hs _ _ (wds j t d et ed)));have hq4:aM H'' T (.tup [.int (Tb.Sm (dW t.ys) ((qT rs).take i)),.ref d]) x.q=some (.tup (([.inl x.t,.inl x.b]:List Key).map kV)):=nT _ _ (hs4 _ _ (hs _ _ (wrat x hxm)));refine ⟨T,_,rfl,cW.of aA,rfl,_,_,rfl,_,_,rfl,rfl,?_⟩;refine dU ?_;refine ⟨_,rfl,_,rfl,d,rfl,.inr ⟨_,.inl hd4⟩,_,rfl,_,yR.t hd4 hq4,Tb.Sm (dW t.ys) ((qT rs).take i),Tb.Wt (dW t.ys) x.t x.b,rfl,aAe gt.lt x.t x.b,?_⟩;refine aZ hm hj (nT _ _ hD4) (by unfold xY; rw [aDe,aDe,aDu]; exact aN (by omega)) ⟨_,_,rfl,(hs4.trans nT).upd_new hDn _,?_⟩;rw [aA,take_snoc et];unfold xY;rw [aDq,aDq,kt];show _=some (HO.lst (_++[V.int (Tb.Sm (dW t.ys) ((qT rs).take i++[(x.t,x.b)]))]));rw [Tb.zQ kn]
  case done4 =>
  rintro τ H4 ⟨v0,w0,rfl,hs4,hD4⟩;have el:((xY ts ((qT rs).take i)).map V.int).length=ts.length:=by unfold xY; rw [aDe,aDe]
  rw [el,aDz] at hD4;have sb:=MK g ((qT rs).take (i+1));refine ⟨_,rfl,Dn,xY ts ((qT rs).take (i+1)),rfl,bB.of hD4,by omega,?_⟩;rw [prod (i+1)];have pbt:=uJ (xY ts ((qT rs).take (i+1)));rw [prod (i+1)] at pbt;have eS:Tb.Sm (Tb.uC (mU ts)) ((qT rs).take (i+1))=beh+Tb.Wt (Tb.uC (mU ts)) x.t x.b:=by rw [kt,Tb.zQ kn,eb]
  have b0:0<=beh:=by rw [eb]; exact (J8 _ chw).1
  generalize hto:Tb.Sm (Tb.uC (mU ts)) ((qT rs).take (i+1))=tog at *;have hs5:=hs.trans hs4;have hX4:=hX.same hs4;have dne:Dn≠Rp:=Ne.symm (bJ hX.lst hDn);refine ⟨_,rfl,_,rfl,_,_,rfl,rfl,_,rfl,?_⟩
  by_cases hgt:beh<tog
  ·refine Ec (decide_eq_true hgt) ?_;refine ⟨_,rfl,.inl ⟨rfl,_,bB.of hX4.lst⟩,_,rfl,_,rfl,_,rfl,_,_,rfl,rfl,Bp,fun p hp=>?_⟩;have n5:=aC hp (.tup [.ref x.q,.int (tog-beh)]);have hX5:=hX4.same n5;refine ⟨Rp,refs xs,.ref p,rfl,rfl,hX5.lst,by rw [refs_length]; exact aN (by omega),?_⟩;refine ⟨_,rfl,Dn,_,_,xs++[⟨p,x.q,x.t,x.b,tog-beh⟩],tog,rfl,(hs5.trans n5).upd_new wR _,?_,dne,⟨?_,?_⟩,?_,?_,?_,?_⟩
   ·rw [aH dne];exact n5 _ _ hD4
   ·rw [aA,jF]
   ·intro y hy;rcases aDy.mp hy with z | z
    ·exact (hX5.rows y z).over hX5.lst
    ·rw [aDw.mp z];exact iU.over ⟨aA,n5 _ _ (hs5 _ _ (wrat x hxm))⟩ hX5.lst
   ·rw [uV,ex,kt,Tb.tM,if_pos (show 0<Tb.Wt (Tb.uC (mU ts)) x.t x.b by omega)];show _++[Tb.Rw.mk x.t x.b (tog-beh)]=_;rw [show tog-beh=Tb.Wt (Tb.uC (mU ts)) x.t x.b by omega]
   ·intro y hy;rcases aDy.mp hy with z | z
    ·exact pb y z
    ·rw [aDw.mp z];obtain ⟨t,ht,w,hw,e⟩:=pG (rin x hxm);injection e with e1 e2
     have gt:=g.all t ht;refine ⟨?_,?_,?_,?_,?_⟩
     ·show Fr.lQ x.t x.b;rw [<- e1,<- e2];exact gt.fr w hw
     ·show intBits x.t<=300;rw [<- e1];exact aDh (gt.zt w hw) (by decide)
     ·show intBits x.b<=300;rw [<- e2];exact aDh (gt.zb w hw) (by decide)
     ·show 1<=tog-beh;omega
     ·show tog-beh<=Cp;have:=V0 (x:=tog) (by omega) (by omega);omega
   ·rw [aDp];show xs.length+1<=_;omega
   ·rfl
  ·refine Gd (decide_eq_false hgt) ?_;have w0:0<=Tb.Wt (Tb.uC (mU ts)) x.t x.b:=Tb.Fp _ _ chw;refine ⟨_,rfl,Dn,_,_,xs,tog,rfl,hs5,hD4,dne,hX4,?_,pb,by omega,rfl⟩;rw [ex,kt,Tb.tM,if_neg (show ¬ 0<Tb.Wt (Tb.uC (mU ts)) x.t x.b by omega),aE8]
 case done3 =>
  rintro σ H5 ⟨Rc,v5,v6,xs,beh,rfl,hs,hRc,cne,hX,ex,pb,xl,eb⟩;have kl:(qT rs).length=rs.length:=aDe _;rw [bO,<- kl,aDz] at ex;rw [bO] at xl;have hall:=(Tb.Du (Tb.wZ kso (qT rs).length) tne (uX kmem)).1;obtain ⟨r1,r2⟩:=Tb.Hu (Qq so) hall chw;refine ⟨_,rfl,Rp,xs,rfl,hX,?_,by omega,pb,tbd.same hs,fun r H6 ys s6 tb6 hr6 hY o _=>?_⟩
  ·rintro rfl;have ex:([]:List Tb.Rw)=Tb.rowsOf (Tb.uC (mU ts)) (qT rs):=ex;have cn:=NZ g;cases ec:Tb.uC (mU ts) with
   | nil=>exact cn ec
   | cons c cs =>
    have z:=(r1 c.t c.b).mpr ⟨c,by rw [ec]; exact aDj,rfl,rfl⟩;rw [<- ex] at z;exact Tb.kE z
  ·rw [ex] at o;exact q r H6 ys ((ht0.trans (hs.toT)).trans s6) tb6 ((ht0.trans (hs.toT)).free hr6 (tbd.same hs).at_) hY ⟨_,r1,r2,o⟩
theorem CJ {H:Hp}{r h:Addr}{xs:List Row}{ws zs:List V}(hI:TabAt H r xs)(e:H h=some (.lst ws))(ne:r≠h):TabAt (aM H h (.lst zs)) r xs :=
 ⟨by rw [aH ne]; exact hI.lst,fun x hx=>(hI.rows x hx).over e⟩
theorem uG (xs:List Row):nH xs=(dW xs).map fun r=>((r.t,r.b),r.w):=by unfold nH dW; rw [aDH]; rfl
theorem pO (xs:List Row):wsum xs=((dW xs).map Tb.Rw.w).sum:=by unfold wsum dW; rw [aDH]; rfl
theorem rB {n:Nat}{f:Addr}{fd:FuncData}(F:fC K "tables" "Offers.tables" (inClass (top 49) 1) f fd){C:Addr}(cf:OF K C)(gV:mg "list" = none):bH P w K mg base fO (n+1) f fd ["self"] (LC C):=by
 refine F.ok lH (fun vs H Q E h=>?_) (fun cdv A outer s H vs Q E hr h=>?_)
 ·obtain ⟨x,ts,rfl,_⟩:=h
  rfl
 obtain ⟨x,ts,rfl,hO,l8,q⟩:=h;have nd:=lH.nd;refine ⟨_,(aK (bC (dD (ls:=["table"]) (M:=["self"]) rfl (bW.of (by rfl)) (NL.of (by rfl)) (rE (qZ (pv 0) rfl)) (fun _ _ _ _=>⟨(aR (i:=0) (cJ (by rfl)) rfl (Or.inl rfl)),cC,(fZ (wL (K:=K) rfl) rfl gV iZ (aB (pv 0) aD))⟩)))),?_⟩;have htl:=cI ts;obtain ⟨dx,k,hx,hK⟩:=hO;refine ⟨_,rfl,x,C,dx,_,_,rfl,hx,cf.cl,cf.nk,rfl,k,rfl,⟨_,cW.of hK.tp⟩,fun D hD=>?_⟩;refine lG (xs:=fV ts) (fun i τ H'=>∃ v0 us,τ = [v0,some (.ref x)]/\aU H H'/\H' D=some (.lst (fV us))/\(∀ u∈us,TabAt H' u.a u.ys)/\us.map Tn.ys=(ts.take i).map Tn.ys/\∀ u∈us,u.a≠D) ⟨none,[],rfl,aC hD _,aA,(fun _ h=>nomatch h),rfl,fun _ h=>nomatch h⟩ ?keep ?turn ?done
 case keep =>
  rintro i τ H' hi ⟨v0,us,rfl,hs,_⟩;exact cW.of (hK.same hs).tp
 case turn =>
  rintro i m v τ H' hm hi hv ⟨v0,us,rfl,hs,hD',hU,eu,nn⟩;obtain ⟨t,ht,rfl⟩:=fQ hv;have hTp:=(hK.same hs).each t (aDi ht);have ul:us.length<=1000:=by
   have h:=congrArg aDP eu;rw [aDe,aDe,aDu] at h;omega
  refine vX ?_;refine ⟨_,rfl,t.a,_,rfl,.inr (cW.of hTp.tp),fun r hr0=>?_⟩;have n1:=aC hr0 (.lst (refs t.ys));have hD2:=n1 _ _ hD';have nrD:r≠D:=fun e=>by rw [e,hD'] at hr0; cases hr0
  refine aZ hm hi hD2 (by rw [cI]; exact aN ul) ⟨_,us++[⟨r,t.ys⟩],rfl,(hs.trans n1).upd_new hD _,?_,?_,wU eu ht rfl,?_⟩
  ·rw [aA,u5]
  ·intro u hu;rcases aDy.mp hu with z | z
   ·exact CJ ((hU u z).same n1) hD2 (nn u z)
   ·rw [aDw.mp z];exact CJ ⟨aA,fun y hy=>(hTp.rows y hy).same n1⟩ hD2 nrD
  ·intro u hu;rcases aDy.mp hu with z | z
   ·exact nn u z
   ·rw [aDw.mp z];exact nrD
 case done =>
  rintro τ H' ⟨v0,us,rfl,hs,hD',hU,eu,_⟩;rw [htl,aDz] at eu;exact q D H' us hs ⟨hD',hU⟩ eu
theorem pX {l:List Bool}{i:Nat}(h:i<l.length):l[i]? = some (l.getD i false):=by rw [aFc,aDl h]; rfl
theorem Ca {n:Nat}{f:Addr}{fd:FuncData}(F:fC K "is_lists" "is_lists" (top 38) f fd){aAT:Addr}{aAI:FuncData}(aAU:eO P w K mg base n "is_rows" ["rows"] yM aAT aAI)(L_:mg "all" = none)(e_:mg "len" = none)(b_:mg "isinstance" = none)(gV:mg "list" = none){aAE:Value}(O_:mg "MOST_OFFERS" = some aAE)(P_:RelV (.int 8) aAE):bH P w K mg base fO (n+1) f fd ["lists"] Bq:=by
 refine F.ok sW (fun vs H Q E h=>?_) (fun cdv A outer s H vs Q E hr h=>?_)
 ·obtain ⟨v,b,rfl,_⟩:=h
  rfl
 obtain ⟨v,b,rfl,h,q⟩:=h;have nd:=sW.nd;refine ⟨_,(aL (iW (PW.pt (uY (gJ (gH (aY (dH (T:="list")) rfl b_ bQ (aB (pv 0) (aB (jE (v:=.ty "list") rfl gV iZ rfl) aD))))) (pC (gJ (By xB xB aO (aY bZ rfl e_ fX (aB (pv 0) aD)) (j8 (v:=.int 8) rfl O_ P_)))))) (aK (bC mR)) eF) (aK (bC (aY (lD rfl rfl) rfl L_ uP (aB (dD (ls:=["rows"]) (M:=["lists"]) rfl (bW.of (by rfl)) (NL.of (by rfl)) (cB (pv 0)) (fun _ _ _ _=>⟨(aR (i:=0) (cJ (by rfl)) rfl (Or.inl rfl)),cC,(aJ aAU hr (aB (pv 0) aD))⟩)) aD))))),?_⟩;cases h with
 | no h =>
  obtain ⟨t,ht,hk⟩:=h K;refine ⟨_,rfl,_,_,_,rfl,ht,hk,_,rfl,?_⟩;exact jZ (jZ (q H (aU.refl _)))
 | @len a xs e hl =>
  refine ⟨_,rfl,_,_,_,rfl,.lst e,c7 _,_,rfl,?_⟩;refine jA ?_;refine ⟨_,rfl,a,_,rfl,.inl (bB.of e),_,_,rfl,rfl,_,rfl,?_⟩
  by_cases h1:1<=xs.length
  ·refine Ec (decide_eq_true (show (1:Int)<=_ by omega)) ?_;refine ⟨_,_,rfl,rfl,_,rfl,?_⟩;refine Ec ?_ (q H (aU.refl _));rw [decide_eq_false (show ¬ (xs.length:Int)<=8 by omega)]
   rfl
  ·refine Gd (decide_eq_false (show ¬ (1:Int)<=_ by omega)) ?_;refine ⟨_,rfl,?_⟩;exact jZ (q H (aU.refl _))
 | @all a xs bs e h1 h8 hb h =>
  refine ⟨_,rfl,_,_,_,rfl,.lst e,c7 _,_,rfl,?_⟩;refine jA ?_;refine ⟨_,rfl,a,_,rfl,.inl (bB.of e),_,_,rfl,rfl,_,rfl,?_⟩;refine Ec (decide_eq_true (show (1:Int)<=_ by omega)) ?_;refine ⟨_,_,rfl,rfl,_,rfl,?_⟩;refine Gd (by rw [decide_eq_true (show (xs.length:Int)<=8 by omega)]; rfl) ?_;refine ⟨_,rfl,a,rfl,⟨_,bB.of e⟩,fun D hD=>?_⟩;refine cA (xs:=xs) (fun i τ H'=>∃ v0,τ = [v0,some (.ref a)]/\aU H H'/\H' D=some (.lst ((bs.take i).map V.bl))) ⟨none,rfl,aC hD _,aA⟩ ?keep ?turn ?done
  case keep =>
   rintro i τ H' hi ⟨v0,rfl,hs,_⟩;exact bB.of (hs _ _ e)
  case turn =>
   rintro i mm v τ H' hm hi ev ⟨v0,rfl,hs,hD'⟩;have hib:i<bs.length:=by omega
   refine vX ?_;refine ⟨_,rfl,v,bs.getD i false,rfl,(h i v ev).same hs,fun H2 s2=>?_⟩;refine aZ hm hi (s2 _ _ hD') (by rw [aDe,aDu]; exact aN (by omega)) ⟨_,rfl,(hs.trans s2).upd_new hD _,?_⟩;rw [aA,take_snoc (pX hib),aDq]
   rfl
  case done =>
   rintro τ H' ⟨v0,rfl,hs,hD'⟩;rw [<- hb,aDz] at hD';exact ⟨D,_,rfl,bB.of hD',q H' hs⟩
theorem DQ {n:Nat}{f:Addr}{fd:FuncData}(F:fC K "is_order" "is_order" (top 39) f fd){aAG:Addr}{aAi:FuncData}(S_:eO P w K mg base n "is_whole" ["thing","least","most"] Fj aAG aAi)(e_:mg "len" = none)(L_:mg "all" = none)(b_:mg "isinstance" = none)(gV:mg "list" = none)(aCk:mg "set" = none):bH P w K mg base fO (n+1) f fd ["order","many"] Li:=by
 refine F.ok tH (fun vs H Q E h=>?_) (fun cdv A outer s H vs Q E hr h=>?_)
 ·obtain ⟨v,m,rfl,_⟩:=h
  rfl
 obtain ⟨v,m,rfl,h,q⟩:=h;have nd:=tH.nd;refine ⟨_,(aL (iW (PW.pt (uY (gJ (gH (aY (dH (T:="list")) rfl b_ bQ (aB (pv 0) (aB (jE (v:=.ty "list") rfl gV iZ rfl) aD))))) (pC (gD Cd (aY bZ rfl e_ fX (aB (pv 0) aD)) (pv 1) (eE _))))) (aK (bC mR)) eF) (aK (bC (Aa (aY (lD rfl rfl) rfl L_ uP (aB (dD (ls:=["offer"]) (M:=["order","many"]) rfl (bW.of (by rfl)) (NL.of (by rfl)) (cB (pv 0)) (fun _ _ _ _=>⟨(aR (i:=0) (cJ (by rfl)) rfl (Or.inl rfl)),cC,(aJ S_ hr (aB (pv 0) (aB aO (aB (bM rN (pv 2) aO) aD))))⟩)) aD)) (Es (qD yI (aY wM rfl e_ fX (aB (fZ (Dp (K:=K) rfl rfl) rfl aCk SQ (aB (pv 0) aD)) aD)) (pv 1) (eE _))))))),?_⟩;cases h with
 | no h =>
  obtain ⟨t,ht,hk⟩:=h K;refine ⟨_,rfl,_,_,_,rfl,ht,hk,_,rfl,?_⟩;exact jZ (jZ (q H (aU.refl _)))
 | @len a xs e hl =>
  refine ⟨_,rfl,_,_,_,rfl,.lst e,c7 _,_,rfl,?_⟩;refine jA ?_;refine ⟨_,rfl,a,_,rfl,.inl (bB.of e),_,rfl,rfl,_,rfl,?_⟩;refine Ec ?_ (q H (aU.refl _));rw [decide_eq_false (fun z=>hl (by injection z))]
  rfl
 | @all a xs bs e hl hn hb h hf =>
  refine ⟨_,rfl,_,_,_,rfl,.lst e,c7 _,_,rfl,?_⟩;refine jA ?_;refine ⟨_,rfl,a,_,rfl,.inl (bB.of e),_,rfl,rfl,_,rfl,?_⟩;refine Gd (by rw [hl]; simp) ?_;refine ⟨_,rfl,a,rfl,⟨_,bB.of e⟩,fun D hD=>?_⟩;refine cA (xs:=xs) (fun i τ H'=>∃ v0,τ = [v0,some (.ref a),some (.int m)]/\aU H H'/\H' D=some (.lst ((bs.take i).map V.bl))) ⟨none,rfl,aC hD _,aA⟩ ?keep ?turn ?done
  case keep =>
   rintro i τ H' hi ⟨v0,rfl,hs,_⟩;exact bB.of (hs _ _ e)
  case turn =>
   rintro i mm v τ H' hm hi ev ⟨v0,rfl,hs,hD'⟩;have hib:i<bs.length:=by omega
   refine vX ?_;refine ⟨_,rfl,_,rfl,_,_,rfl,rfl,v,0,m-1,bs.getD i false,rfl,(h i v ev).same hs,?_⟩;refine aZ hm hi hD' (by rw [aDe,aDu]; exact aN (by omega)) ⟨_,rfl,hs.upd_new hD _,?_⟩;rw [aA,take_snoc (pX hib),aDq]
   rfl
  case done =>
   rintro τ H' ⟨v0,rfl,hs,hD'⟩;rw [<- hb,aDz] at hD';refine ⟨D,_,rfl,bB.of hD',_,rfl,?_⟩;rw [hf];exact jA (q H' hs)
 | @dup a ns e hl hn h hd =>
  refine ⟨_,rfl,_,_,_,rfl,.lst e,c7 _,_,rfl,?_⟩;refine jA ?_;have ln:(ns.map V.int).length=ns.length:=aDe _;refine ⟨_,rfl,a,_,rfl,.inl (bB.of e),_,rfl,rfl,_,rfl,?_⟩;refine Gd (by rw [ln,hl]; simp) ?_;refine ⟨_,rfl,a,rfl,⟨_,bB.of e⟩,fun D hD=>?_⟩;refine cA (xs:=ns.map V.int) (fun i τ H'=>∃ v0,τ = [v0,some (.ref a),some (.int m)]/\aU H H'/\H' D=some (.lst ((aDx i true).map V.bl))) ⟨none,rfl,aC hD _,aA⟩ ?keep2 ?turn2 ?done2
  case keep2 =>
   rintro i τ H' hi ⟨v0,rfl,hs,_⟩;exact bB.of (hs _ _ e)
  case turn2 =>
   rintro i mm v τ H' hm hi ev ⟨v0,rfl,hs,hD'⟩;rw [aDm] at ev;obtain ⟨n,hn1,rfl⟩:∃ n,ns[i]? = some n/\v=.int n:=by
    cases z:ns[i]? with
    | none=>rw [z] at ev; cases ev
    | some n=>rw [z] at ev; cases ev; exact ⟨n,rfl,rfl⟩
   have hb:=h n (aDi hn1);refine vX ?_;refine ⟨_,rfl,_,rfl,_,_,rfl,rfl,.int n,0,m-1,true,rfl,qU.yes hb.1 hb.2,?_⟩;refine aZ hm hi hD' (by rw [aDe,aDZ]; exact aN (by omega)) ⟨_,rfl,hs.upd_new hD _,?_⟩;rw [aA,List.replicate_succ',aDq]
   rfl
  case done2 =>
   rintro τ H' ⟨v0,rfl,hs,hD'⟩;refine ⟨D,_,rfl,bB.of hD',_,rfl,?_⟩;have e1:(aDx (ns.map V.int).length true).all id=true:=by simp
   rw [e1];refine jZ ?_;refine ⟨_,rfl,a,ns,rfl,bB.of (hs _ _ e),(by show ns.length+1<4096; omega),fun r hr0=>?_⟩;have n1:=aC hr0 (.set (fun k=>(JZ ns).any (·==k)) (JZ ns).length);refine ⟨r,_,_,rfl,aA,_,rfl,rfl,?_⟩;have z:(decide (V.int ((JZ ns).length:Nat)=V.int m))=false:=decide_eq_false fun z=>hd (by injection z with z; omega);have q':=q _ (hs.trans n1);rw [<- z] at q';exact q'
theorem zF {n:Nat}{f:Addr}{fd:FuncData}(F:fC K "is_truths" "is_truths" (top 40) f fd)(L_:mg "all" = none)(b_:mg "isinstance" = none)(aAP:mg "bool" = none)(e_:mg "len" = none)(gV:mg "list" = none):bH P w K mg base fO (n+1) f fd ["truths","many"] Mh:=by
 refine F.ok qH (fun vs H Q E h=>?_) (fun cdv A outer s H vs Q E hr h=>?_)
 ·obtain ⟨v,m,b,rfl,_⟩:=h
  rfl
 obtain ⟨v,m,b,rfl,h,q⟩:=h;have nd:=qH.nd;refine ⟨_,(aL (iW (PW.pt (uY (gJ (gH (aY (dH (T:="list")) rfl b_ bQ (aB (pv 0) (aB (jE (v:=.ty "list") rfl gV iZ rfl) aD))))) (pC (gD Cd (aY bZ rfl e_ fX (aB (pv 0) aD)) (pv 1) (eE _))))) (aK (bC mR)) eF) (aK (bC (aY (lD rfl rfl) rfl L_ uP (aB (dD (ls:=["truth"]) (M:=["truths","many"]) rfl (bW.of (by rfl)) (NL.of (by rfl)) (cB (pv 0)) (fun _ _ _ _=>⟨(aR (i:=0) (cJ (by rfl)) rfl (Or.inl rfl)),cC,(aY (Ak (K:=K) (T:="bool") rfl) rfl b_ bQ (aB (pv 0) (aB (jE (v:=.ty "bool") rfl aAP Gj rfl) aD)))⟩)) aD))))),?_⟩;cases h with
 | no h =>
  obtain ⟨t,ht,hk⟩:=h K;refine ⟨_,rfl,_,_,_,rfl,ht,hk,_,rfl,?_⟩;exact jZ (jZ (q H (aU.refl _)))
 | @len a xs e hl =>
  refine ⟨_,rfl,_,_,_,rfl,.lst e,c7 _,_,rfl,?_⟩;refine jA ?_;refine ⟨_,rfl,a,_,rfl,.inl (bB.of e),_,rfl,rfl,_,rfl,?_⟩;refine Ec ?_ (q H (aU.refl _));rw [decide_eq_false (fun z=>hl (by injection z))]
  rfl
 | @all a xs bs e hl hn hb h =>
  refine ⟨_,rfl,_,_,_,rfl,.lst e,c7 _,_,rfl,?_⟩;refine jA ?_;refine ⟨_,rfl,a,_,rfl,.inl (bB.of e),_,rfl,rfl,_,rfl,?_⟩;refine Gd (by rw [hl]; simp) ?_;refine ⟨_,rfl,a,rfl,⟨_,bB.of e⟩,fun D hD=>?_⟩;refine cA (xs:=xs) (fun i τ H'=>∃ v0,τ = [v0,some (.ref a),some (.int m)]/\aU H H'/\H' D=some (.lst ((bs.take i).map V.bl))) ⟨none,rfl,aC hD _,aA⟩ ?keep ?turn ?done
  case keep =>
   rintro i τ H' hi ⟨v0,rfl,hs,_⟩;exact bB.of (hs _ _ e)
  case turn =>
   rintro i mm v τ H' hm hi ev ⟨v0,rfl,hs,hD'⟩;have hib:i<bs.length:=by omega
   refine vX ?_;obtain ⟨t,ht,hk⟩:=(h i v ev).same hs K;refine ⟨_,rfl,v,t,_,rfl,ht,hk,?_⟩;refine aZ hm hi hD' (by rw [aDe,aDu]; exact aN (by omega)) ⟨_,rfl,hs.upd_new hD _,?_⟩;rw [aA,take_snoc (pX hib),aDq]
   rfl
  case done =>
   rintro τ H' ⟨v0,rfl,hs,hD'⟩;rw [<- hb,aDz] at hD';exact ⟨D,_,rfl,bB.of hD',q H' hs⟩
theorem Fe {n:Nat}{f:Addr}{fd:FuncData}(F:fC K "is_rule" "is_rule" (top 41) f fd){aBF:Addr}{aBt:FuncData}(aBG:eO P w K mg base n "is_truths" ["truths","many"] Mh aBF aBt)(L_:mg "all" = none)(aBr:mg "zip" = none)(e_:mg "len" = none)(b_:mg "isinstance" = none)(gV:mg "list" = none):bH P w K mg base fO (n+1) f fd ["rule","tables"] Mt:=by
 refine F.ok vZ (fun vs H Q E h=>?_) (fun cdv A outer s H vs Q E hr h=>?_)
 ·obtain ⟨v,k,ts,rfl,_⟩:=h
  rfl
 obtain ⟨v,k,ts,rfl,hK,t8,h,q⟩:=h;have nd:=vZ.nd;refine ⟨_,(aL (iW (PW.pt (uY (gJ (gH (aY (dH (T:="list")) rfl b_ bQ (aB (pv 0) (aB (jE (v:=.ty "list") rfl gV iZ rfl) aD))))) (pC (gD Cd (aY bZ rfl e_ fX (aB (pv 0) aD)) (aY bZ rfl e_ fX (aB (pv 1) aD)) (eE _))))) (aK (bC mR)) eF) (aK (bC (aY (lD rfl rfl) rfl L_ uP (aB (dD (ls:=["truths","table"]) (M:=["rule","tables"]) rfl (bW.of (by rfl)) (NL.of (by rfl)) (Nx (p:=false) (q:=true) rfl aBr (aB (pv 0) (aB (pv 1) aD))) (fun _ _ _ _=>⟨(iC (K:=K) (n:=2) rfl rfl (bK (aR (i:=0) (cJ (by rfl)) rfl (Or.inl rfl)) (bK (aR (i:=1) (cJ (by rfl)) rfl (Or.inl rfl)) eU))),cC,(aJ aBG hr (aB (pv 0) (aB (aY (oW (K:=K) rfl) rfl e_ fX (aB (pv 1) aD)) aD)))⟩)) aD))))),?_⟩;have hlt:=cI ts;have hrn:(qJ ts).length=ts.length:=aDe _;cases h with
 | no h =>
  obtain ⟨t,ht,hk⟩:=h K;refine ⟨_,rfl,_,_,_,rfl,ht,hk,_,rfl,?_⟩;exact jZ (jZ (q H (aU.refl _)))
 | @len a xs e hl =>
  refine ⟨_,rfl,_,_,_,rfl,.lst e,c7 _,_,rfl,?_⟩;refine jA ?_;refine ⟨_,rfl,a,_,rfl,.inl (bB.of e),_,rfl,k,_,rfl,.inr (cW.of hK.tp),rfl,_,rfl,?_⟩;refine Ec ?_ (q H (aU.refl _));rw [decide_eq_false (fun z=>hl (by injection z with z; omega))]
  rfl
 | @all a xs bs e hl hn hb h hf =>
  refine ⟨_,rfl,_,_,_,rfl,.lst e,c7 _,_,rfl,?_⟩;refine jA ?_;refine ⟨_,rfl,a,_,rfl,.inl (bB.of e),_,rfl,k,_,rfl,.inr (cW.of hK.tp),rfl,_,rfl,?_⟩;have hll:xs.length=(fV ts).length:=by rw [hl,hlt,hrn]
  refine Gd (by rw [hll]; simp) ?_;refine ⟨_,rfl,_,rfl,a,k,_,_,rfl,bB.of e,cW.of hK.tp,fun D hD=>?_⟩;refine Ip (xs:=xs) (ys:=fV ts) (fun i τ H'=>∃ v0 v1,τ = [v0,v1,some (.ref a),some (.ref k)]/\aU H H'/\H' D=some (.lst ((bs.take i).map V.bl))) hll ⟨none,none,rfl,aC hD _,aA⟩ ?keep ?turn ?done
  case keep =>
   rintro i τ H' hi ⟨v0,v1,rfl,hs,_⟩;exact ⟨bB.of (hs _ _ e),cW.of (hK.same hs).tp⟩
  case turn =>
   rintro i m x y T τ H' hm hi hx hy hT ⟨v0,v1,rfl,hs,hD'⟩;obtain ⟨t,ht1,rfl⟩:=fQ hy;have n1:=aC hT (.tup [x,.ref t.a]);have s1:=hs.trans n1;have ht:=(hK.same s1).each t (aDi ht1);have hib:i<bs.length:=by omega
   have hm1:(qJ ts)[i]? = some ((t.ys.length:Nat):Int):=by unfold qJ; rw [aDm,ht1]; rfl
   refine ⟨T,_,rfl,cW.of aA,rfl,_,_,rfl,_,_,rfl,rfl,?_⟩;refine dU ?_;refine ⟨_,rfl,_,rfl,t.a,_,rfl,.inr (cW.of ht.tp),x,_,bs.getD i false,rfl,by rw [refs_length]; exact (h i x _ hx hm1).same s1,fun H2 s2=>?_⟩;refine aZ hm hi (s2 _ _ (n1 _ _ hD')) (by rw [aDe,aDu]; exact aN (by omega)) ⟨_,_,rfl,(s1.trans s2).upd_new hD _,?_⟩;rw [aA,take_snoc (pX hib),aDq]
   rfl
  case done =>
   rintro τ H' ⟨v0,v1,rfl,hs,hD'⟩;rw [<- hb,aDz] at hD';have q':=q H' hs;rw [<- hf] at q';exact ⟨D,_,rfl,bB.of hD',q'⟩
theorem oJ {n:Nat}{f:Addr}{fd:FuncData}(F:fC K "need_rule" "Offers.need_rule" (inClass (top 49) 8) f fd){C:Addr}(cf:OF K C){a_:Addr}(F_:mg "NoRule" = some (.ref a_))(aA9:Bb K a_){aCa:Addr}{aBU:FuncData}(aCb:eO P w K mg base n "is_rule" ["rule","tables"] Mt aCa aBU):bH P w K mg base (xR P w) (n+1) f fd ["self","rule"] (vJ C a_):=by
 refine F.okX iT (fun vs H Q E h=>?_) (fun cdv A outer s H vs Q E hr h=>?_)
 ·obtain ⟨x,v,ts,rfl,_⟩:=h
  rfl
 obtain ⟨x,v,ts,rfl,hO,t8,h,q⟩:=h;have nd:=iT.nd;refine ⟨_,(aK (iW (PT.nox (gJ (gH (aJ aCb hr (aB (pv 1) (aB (qZ (pv 0) rfl) aD)))))) (aK (uK q9 rfl rfl F_ aA9)) eF)),?_⟩;obtain ⟨dx,k,hx,hK⟩:=hO;refine ⟨_,rfl,_,rfl,x,C,dx,_,_,rfl,hx,cf.cl,cf.nk,rfl,v,k,ts,rfl,hK,t8,h,fun H1 s1=>?_⟩;refine ⟨_,rfl,?_⟩;exact jZ (q H1 s1)
theorem pI {n:Nat}{f:Addr}{fd:FuncData}(F:fC K "taken_by" "Offers.taken_by" (inClass (top 49) 9) f fd){C:Addr}(cf:OF K C){a_:Addr}{aCl:Addr}{aBH:FuncData}(aCF:nJ K C "need_rule" aCl)(aCG:bH P w K mg base (xR P w) n aCl aBH ["self","rule"] (vJ C a_))(aCH:Binds K aBH ["self","rule"] []):bH P w K mg base (xR P w) (n+1) f fd ["self","rule"] (vJ C a_):=by
 refine F.okX jG (fun vs H Q E h=>?_) (fun cdv A outer s H vs Q E hr h=>?_)
 ·obtain ⟨x,v,ts,rfl,_⟩:=h
  rfl
 obtain ⟨x,v,ts,rfl,hO,t8,h,q⟩:=h;have nd:=jG.nd;refine ⟨_,(aL (gY (qN (pv 0) cf.cl aCF aCG hr aCH .nil yH (aB (pv 1) aD))) rG),?_⟩;have hO':=hO;obtain ⟨dx,k,hx,hK⟩:=hO';exact ⟨_,rfl,x,dx,_,rfl,hx,rfl,_,rfl,x,v,ts,rfl,hO,t8,h,q⟩
theorem mW {n:Nat}{f:Addr}{fd:FuncData}(F:fC K "rule_losses" "Offers.rule_losses" (inClass (top 49) 10) f fd){C:Addr}(cf:OF K C){a_:Addr}{aCl:Addr}{aBH:FuncData}(aCF:nJ K C "need_rule" aCl)(aCG:bH P w K mg base (xR P w) n aCl aBH ["self","rule"] (vJ C a_))(aCH:Binds K aBH ["self","rule"] []):bH P w K mg base (xR P w) (n+1) f fd ["self","rule"] (vJ C a_):=by
 refine F.okX gO (fun vs H Q E h=>?_) (fun cdv A outer s H vs Q E hr h=>?_)
 ·obtain ⟨x,v,ts,rfl,_⟩:=h
  rfl
 obtain ⟨x,v,ts,rfl,hO,t8,h,q⟩:=h;have nd:=gO.nd;refine ⟨_,(aL (gY (qN (pv 0) cf.cl aCF aCG hr aCH .nil yH (aB (pv 1) aD))) rG),?_⟩;have hO':=hO;obtain ⟨dx,k,hx,hK⟩:=hO';exact ⟨_,rfl,x,dx,_,rfl,hx,rfl,_,rfl,x,v,ts,rfl,hO,t8,h,q⟩
theorem mV {n:Nat}{f:Addr}{fd:FuncData}(F:fC K "first_taken" "Offers.first_taken" (inClass (top 49) 4) f fd){C:Addr}(cf:OF K C){a_:Addr}(F_:mg "NoRule" = some (.ref a_))(aA9:Bb K a_){aBV:Addr}{aBI:FuncData}(aBW:eO P w K mg base n "is_order" ["order","many"] Li aBV aBI)(e_:mg "len" = none):bH P w K mg base (xR P w) (n+1) f fd ["self","order","level"] (QF C a_):=by
 refine F.okX gP (fun vs H Q E h=>?_) (fun cdv A outer s H vs Q E hr h=>?_)
 ·obtain ⟨x,v,u,ts,rfl,_⟩:=h
  rfl
 obtain ⟨x,v,u,ts,rfl,hO,t8,h,q⟩:=h;have nd:=gP.nd;refine ⟨_,(aL (iW (PT.nox (gJ (gH (aJ aBW hr (aB (pv 1) (aB (aY bZ rfl e_ fX (aB (qZ (pv 0) rfl) aD)) aD)))))) (aK (uK q9 rfl rfl F_ aA9)) eF) rG),?_⟩;obtain ⟨dx,k,hx,hK⟩:=hO;have hlt:=cI ts;refine ⟨_,rfl,_,rfl,x,C,dx,_,_,rfl,hx,cf.cl,cf.nk,rfl,k,_,rfl,.inr (cW.of hK.tp),v,_,rfl,by rw [hlt]; exact h,fun H1 s1=>?_⟩;refine ⟨_,rfl,?_⟩;exact jZ (q H1 s1)
theorem o9 {n:Nat}{f:Addr}{fd:FuncData}(F:fC K "__init__" "Offers.__init__" (inClass (top 49) 0) f fd){C:Addr}(cf:OF K C){d_:Addr}(G_:mg "NoOffers" = some (.ref d_))(aBX:Bb K d_){aBY:Addr}{aBJ:FuncData}(aBZ:eO P w K mg base n "table_of" ["rows"] (Vp Pt iQ) aBY aBJ){aB0:Addr}{aBK:FuncData}(aB1:eO P w K mg base n "is_lists" ["lists"] Bq aB0 aBK)(k_:mg "tuple" = none):bH P w K mg base (xR P w) (n+1) f fd ["self","lists"] (KJ C d_ Pt iQ):=by
 refine F.okX jV (fun vs H Q E h=>?_) (fun cdv A outer s H vs Q E hr h=>?_)
 ·obtain ⟨x,dx,v,rfl,_⟩:=h
  rfl
 obtain ⟨x,dx,v,rfl,hx,h⟩:=h;have nd:=jV.nd;refine ⟨_,(aL (iW (PT.nox (gJ (gH (aJ aB1 hr (aB (pv 1) aD))))) (aK (uK q9 rfl rfl G_ aBX)) eF) (qR.nox (aK (Qj (pv 0) (fZ (cZ (K:=K) rfl) rfl k_ iH (aB (dD (ls:=["rows"]) (M:=["self","lists"]) rfl (bW.of (by rfl)) (NL.of (by rfl)) (cB (pv 1)) (fun _ _ _ _=>⟨(aR (i:=0) (cJ (by rfl)) rfl (Or.inl rfl)),cC,(fZ (cZ (K:=K) rfl) rfl k_ iH (aB (aJ aBZ hr (aB (pv 0) aD)) aD))⟩)) aD)) rfl)))),?_⟩;rcases h with ⟨a,ls,rfl,hL,lne,l2,gs,hT,q⟩ | ⟨h,q⟩
 rotate_left
 ·refine ⟨_,rfl,v,false,rfl,h,fun H1 s1=>?_⟩;refine ⟨_,rfl,?_⟩;exact jZ (q H1 s1)
 have hlr:=cG ls;refine ⟨_,rfl,.ref a,true,rfl,EY hL lne l2 gs,fun H0 s0=>?_⟩;refine ⟨_,rfl,?_⟩;refine jA ?_;have hL0:=hL.same s0;have hT0:=hT.same s0;refine ⟨_,rfl,a,rfl,⟨_,bB.of hL0.lst⟩,fun D hD=>?_⟩;refine cA (xs:=bG ls) (fun i τ H'=>∃ v0 ts,τ = [v0,some (.ref x),some (.ref a)]/\bN Pt H0 H'/\cN Pt iQ jN H'/\H' D=some (.lst (fV ts))/\(∀ t∈ts,oN H' t.a t.ys)/\ts.length=i/\(∀ (j:Nat) l t,ls[j]? = some l->ts[j]? = some t->Out (Bu l.xs) t.ys/\t.ys.length<=l.xs.length)) ⟨none,[],rfl,(aC hD _).toT,hT0.same (aC hD _),aA,(fun _ h=>nomatch h),rfl,fun j l t _ h=>by simp at h⟩ ?keep ?turn ?done
 case keep =>
  rintro i τ H' hi ⟨v0,ts,rfl,hs,_⟩;exact bB.of (hL0.sameT hs hT0).lst
 case turn =>
  rintro i m v τ H' hm hi hv ⟨v0,ts,rfl,hs,tb,hD',hY,tl,to⟩;obtain ⟨l,hl,rfl⟩:=nW hv;have hmem:=aDi hl;refine vX ?_;refine ⟨_,rfl,l.a,l.xs,rfl,(hL0.sameT hs hT0).each l hmem,gs l hmem,tb,fun r H1 ys st tb1 hr0 hy out yl=>?_⟩;refine ⟨r,_,rfl,.inl ⟨bB.of hy.lst,fun u hu=>?_⟩⟩;have hD1:H1 D=some (.lst (fV ts)):=st.get tb hD' fun _ z=>nomatch z
  have n1:=aC hu (.tup (refs ys));have hD2:=n1 _ _ hD1;refine aZ hm hi hD2 (by rw [cI]; exact aN (by omega)) ⟨_,ts++[⟨u,ys⟩],rfl,((hs.trans st).trans n1.toT).upd_new hD _,JC (tb1.same n1) hD2,?_,?_,?_,?_⟩
  ·rw [aA,u5]
  ·intro t ht;rcases aDy.mp ht with z | z
   ·exact (((hY t z).sameT st tb).same n1).over hD2
   ·rw [aDw.mp z];exact oN.over ⟨aA,fun y hy'=>(hy.rows y hy').same n1⟩ hD2
  ·rw [aDp,tl]; rfl
  ·intro j l' t' h1 h2
   by_cases hj:j<ts.length
   ·rw [aD3 hj] at h2;exact to j l' t' h1 h2
   ·have hj2:=(aDr.mp h2).1;rw [aDp,aDs] at hj2;have ej:j=i:=by omega
    subst ej;rw [aDM (by omega),tl,aEz] at h2;rw [hl] at h1;cases h1;cases h2;exact ⟨out,yl⟩
 case done =>
 rintro τ H1 ⟨v0,ts,rfl,s1,tb,hD',hY,tl,to⟩;rw [hlr] at tl;refine ⟨D,_,rfl,.inl ⟨bB.of hD',fun u hu=>?_⟩⟩;have n1:=aC hu (.tup (fV ts));have hx1:=n1 _ _ (s1.get hT0 (s0 _ _ hx) fun _ z=>nomatch z);refine ⟨_,rfl,x,C,dx,[],rfl,hx1,cf.cl,cf.nk,(by show 0<1000; decide),?_⟩;exact q u _ ts ((s0.toT.trans s1).trans n1.toT) (tb.same n1) hx1 ⟨aA,fun t ht=>(hY t ht).same n1⟩ ⟨tl.symm,to⟩
theorem ZZ {m:Int}(t b:Int):∀ {ps:List Tb.Rw},(∀ p∈ps,1<=p.w/\p.w<=m)->Tb.Wt ps t b<=m*(ps.length:Int)/\0<=Tb.Wt ps t b
 | [],_=>by simp [Tb.Wt]
 | p::ps,h=>by
  obtain ⟨a1,a2⟩:=ZZ t b (ps:=ps) fun x hx=>h x (aDk _ hx);obtain ⟨b1,b2⟩:=h p aDj;have e:m*((p::ps).length:Int)=m+m*(ps.length:Int):=by rw [aDF]; grind
  rw [Tb.gF]
  split <;> omega
structure GL (ls:List Ls):Prop where
 ne:ls≠[]
 len:ls.length<=5
 r:∀ l∈ls,l.xs≠[]/\l.xs.length<=3
 v:∀ l∈ls,∀ x∈l.xs,(0<=x.v/\x.v<=100)/\1<=x.w/\x.w<=3
 nd:∀ l∈ls,(l.xs.map Ir.v).Pairwise (· < ·)
theorem GL.gi {ls:List Ls}(g:GL ls):∀ l∈ls,GI l.xs:=fun l hl=>⟨(g.r l hl).1,by have:=(g.r l hl).2; omega,fun x hx=>by have:=(g.v l hl x hx).1; omega,fun x hx=>by have:=(g.v l hl x hx).2; omega⟩
structure JT (ys:List Row):Prop where
 ne:ys≠[]
 len:ys.length<=3
 lt:(dW ys).Pairwise Tb.Lt
 b:∀ y∈ys,y.b=1
 t:∀ y∈ys,0<=y.t/\y.t<=100
 w:∀ y∈ys,1<=y.w/\y.w<=9
structure GM (ts:List Tn):Prop where
 ne:ts≠[]
 len:ts.length<=5
 each:∀ t∈ts,JT t.ys
theorem Gw {ls:List Ls}{ts:List Tn}(o:Oq ls ts){t:Tn}(ht:t∈ts):∃ l∈ls,Out (Bu l.xs) t.ys/\t.ys.length<=l.xs.length:=by
 obtain ⟨i,hi⟩:=aFB ht;have h:=(aDr.mp hi).1;have h2:i<ls.length:=by rw [o.len]; exact h
 exact ⟨ls[i],aDU h2,o.each i _ t (aDl h2) hi⟩
theorem Q0 {ls:List Ls}{ts:List Tn}(g:GL ls)(o:Oq ls ts):GM ts/\GK ts:=by
 have gl:=g.len;have ol:=o.len;refine ⟨⟨fun e=>g.ne (aE6 (by rw [ol,e]; rfl)),by omega,fun t ht=>?_⟩,by omega,fun t ht=>?_⟩
 ·obtain ⟨l,hl,o1,o2⟩:=Gw o ht;have gr:=g.r l hl;have key:∀ y∈t.ys,∃ x∈l.xs,y.t=x.v/\y.b=1:=fun y hy=>by
   obtain ⟨p,hp,e1,e2⟩:=o1.key hy;obtain ⟨x,hx,rfl⟩:=aDg.mp hp;exact ⟨x,hx,e1.symm,e2.symm⟩
  refine ⟨o1.ne (fun e=>gr.1 (aDX.mp e)),by omega,o1.tab.lt,fun y hy=>(key y hy).elim fun _ h=>h.2.2,fun y hy=>?_,fun y hy=>?_⟩
  ·obtain ⟨x,hx,e,_⟩:=key y hy;rw [e];exact (g.v l hl x hx).1
  ·obtain ⟨a,b⟩:=o1.w y hy;have c:=(ZZ (m:=3) y.t y.b (ps:=Bu l.xs) fun p hp=>by
    obtain ⟨x,hx,rfl⟩:=aDg.mp hp;exact (g.v l hl x hx).2).1
   rw [vV] at c;exact ⟨a,by omega⟩
 ·obtain ⟨l,hl,o1,o2⟩:=Gw o ht;exact Wm (g.gi l hl) o1 o2
theorem sub_len:∀ {l m:List Int},l.Pairwise (· < ·)->m.Pairwise (· < ·)->(∀ x∈l,x∈m)->l.length<=m.length
 | [],m,_,_,_=>aDK _
 | x::l,[],_,_,h=>nomatch h x aDj
 | x::l,y::m,hl,hm,h=>by
  obtain ⟨l1,l2⟩:=aEm.mp hl;obtain ⟨m1,m2⟩:=aEm.mp hm;have i:=sub_len (l:=l) (m:=m) l2 m2 fun z hz=>by
   rcases aDA.mp (h z (aDk _ hz)) with e | e
   ·have a:=l1 z hz;rcases aDA.mp (h x aDj) with f | f
    ·omega
    ·have:=m1 x f;omega
   ·exact e
  rw [aDF,aDF];omega
theorem O3 {xs:List Ir}{ys:List Row}(o:Out (Bu xs) ys)(b:∀ y∈ys,y.b=1)(nd:(xs.map Ir.v).Pairwise (· < ·)):xs.length<=ys.length:=by
 have r:=sub_len (l:=xs.map Ir.v) (m:=ys.map Row.t) nd (by
  have lt:=o.tab.lt;rw [dW,aD4] at lt;rw [aD4];refine aFh.imp_of_mem (fun {x y} hx hy h=>?_) lt;have h:x.t*y.b<y.t*x.b:=h;rw [b x hx,b y hy] at h;omega) fun z hz=>by
  obtain ⟨x,hx,rfl⟩:=aDg.mp hz;obtain ⟨r,hr,e1,_⟩:=(o.tab.has x.v 1).mpr ⟨⟨x.v,1,x.w⟩,aDg.mpr ⟨x,hx,rfl⟩,rfl,rfl⟩;obtain ⟨y,hy,rfl⟩:=aDg.mp hr;exact aDg.mpr ⟨y,hy,e1⟩
 rw [aDe,aDe] at r;exact r
def p7 (ls:List Ls):List Int:=ls.map fun l=>((l.xs.length:Nat):Int)
theorem Iz {ls:List Ls}{ts:List Tn}(g:GL ls)(o:Oq ls ts):qJ ts=p7 ls:=by
 have gm:=(Q0 g o).1;refine aFS fun i=>?_;unfold qJ p7;rw [aDm,aDm]
 by_cases hi:i<ts.length
 ·have hj:i<ls.length:=by rw [o.len]; exact hi
  rw [aDl hi,aDl hj];obtain ⟨a,b⟩:=o.each i _ _ (aDl hj) (aDl hi);have c:=O3 a (gm.each _ (aDU hi)).b (g.nd _ (aDU hj));have e:ts[i].ys.length=ls[i].xs.length:=by omega
  show some ((ts[i].ys.length:Nat):Int)=some ((ls[i].xs.length:Nat):Int);rw [e]
 ·rw [aEZ (by omega),aEZ (by have:=o.len; omega)]
  rfl
theorem sI {x:Int}(h1:-100<=x)(h2:x<=100):intBits x<=7:=PySem.intBits_le_iff.mpr (by rw [show (2:Nat)^7=128 from by decide]; omega)
theorem JT.gt {t:Tn}(g:JT t.ys):GT t:=by
 have l:=g.len;exact ⟨g.ne,by omega,g.lt,fun y hy=>by rw [g.b y hy]; exact RJ _,fun y hy=>aDh (sI (by have:=g.t y hy; omega) (g.t y hy).2) (by decide),fun y hy=>by rw [g.b y hy]; decide,fun y hy=>by have:=g.w y hy; omega⟩
theorem U6 {us ts:List Tn}(e:us.map Tn.ys=ts.map Tn.ys){u:Tn}(hu:u∈us):∃ t∈ts,t.ys=u.ys:=by
 have h:u.ys∈ts.map Tn.ys:=by rw [<- e]; exact aDg.mpr ⟨u,hu,rfl⟩
 obtain ⟨t,ht,h⟩:=aDg.mp h;exact ⟨t,ht,h⟩
theorem GM.of {us ts:List Tn}(g:GM ts)(e:us.map Tn.ys=ts.map Tn.ys):GM us:=by
 have hl:us.length=ts.length:=by simpa using congrArg aDP e
 have gl:=g.len;refine ⟨fun z=>g.ne (aE6 (by rw [<- hl,z]; rfl)),by omega,fun u hu=>?_⟩;obtain ⟨t,ht,h⟩:=U6 e hu;rw [<- h];exact g.each t ht
theorem GM.gs {us:List Tn}(g:GM us):Gs us:=⟨g.ne,g.len,.inr fun t ht=>(g.each t ht).len,fun t ht=>(g.each t ht).gt⟩
theorem DP:∀ {l:List Int}{lo hi:Int},l.Pairwise (· < ·)->(∀ x∈l,lo<=x/\x<=hi)->l=[]∨(l.length:Int)<=hi+1-lo
 | [],_,_,_,_=>.inl rfl
 | x::l,lo,hi,hp,h=>by
  obtain ⟨p1,p2⟩:=aEm.mp hp;have hx:=h x aDj
  right
  rcases DP (l:=l) (lo:=x+1) (hi:=hi) p2 (fun y hy=>⟨by have:=p1 y hy; omega,(h y (aDk _ hy)).2⟩) with e | e
  ·rw [e];show (1:Int)<=_;omega
  ·rw [aDF];omega
theorem Jm:∀ {ts:List (List Tb.Rw)}{ps:List Tb.Rw}{a:Int}{c:Nat},(∀ p∈ps,1<=p.w/\p.w<=a)->ps.length<=c->(∀ t∈ts,t.length<=3/\∀ q∈t,1<=q.w/\q.w<=9)->(ts.foldl Tb.fK ps).length<=c*3^ts.length/\∀ p∈ts.foldl Tb.fK ps,1<=p.w/\p.w<=a*9^ts.length
 | [],ps,a,c,h,hc,_=>⟨by simpa using hc,by simpa using h⟩
 | t::ts,ps,a,c,h,hc,ht=>by
  obtain ⟨t1,t2⟩:=ht t aDj;have i:=Jm (ts:=ts) (ps:=Tb.fK ps t) (a:=a*9) (c:=c*3) (fun r hr=>by
   obtain ⟨p,h1,q,h2,rfl⟩:=Tb.rK hr;rw [Tb.Jg];have x:=h p h1;have y:=t2 q h2;have z:=aD1 (show 0<p.w by omega) (show 0<q.w by omega);refine ⟨by omega,aFw (aEw x.2 (by omega)) (aEx y.2 (by omega))⟩) (by rw [Tb.pQ]; exact Nat.mul_le_mul hc t1) fun u hu=>ht u (aDk _ hu)
  rw [aEq,aDF];refine ⟨aDh i.1 (by rw [Nat.mul_assoc,Nat.pow_succ,aFQ 3]; exact aDn _),fun p hp=>⟨(i.2 p hp).1,aFw (i.2 p hp).2 (by rw [Int.mul_assoc,Int.pow_succ,aFb 9]; exact aFe _)⟩⟩
theorem Vj {k:Nat}:∀ {zs:List Int},(∀ z∈zs,intBits z<=k)->zs.sum.natAbs<=zs.length*2^k
 | [],_=>by simp
 | z::zs,h=>by
  have a:=PySem.intBits_le_iff.mp (h z aDj);have b:=Vj (k:=k) (zs:=zs) fun m hm=>h m (aDk _ hm);rw [aD9,aDF,aFP];omega
theorem nY {k:Nat}{zs:List Int}(h:∀ z∈zs,intBits z<=k)(hl:zs.length<1024):intBits zs.sum<=k+10:=by
 have a:=Vj h;refine PySem.intBits_le_iff.mpr ?_;rw [Nat.pow_add];have p:=aF5 k;have e:(2:Nat)^10=1024:=by decide
 rw [e,aFQ (2^k)];have:=Nat.mul_lt_mul_of_pos_right hl p;omega
theorem Kg {rs:List (Rk.Fc×Int)}{W:Int}{x y z q:Nat}(hl:rs.length<1024)(ht:∀ r∈rs,intBits r.1.1<=x)(hw:∀ r∈rs,intBits r.2<=y)(hb:∀ r∈rs,0<r.1.2)(hz:((rs.map fun r=>r.1.2).map intBits).sum<=z)(W0:0<W)(hW:intBits W<=q):Lg.Fb (Of.Ek rs W) (y+x+(1+z)+10) (1+z+q):=by
 have lz:=aDh (lK (rs.map fun r=>r.1.2)) (aEg hz 1);have lp:=(pW (ns:=rs.map fun r=>r.1.2) fun n hn=>by
  obtain ⟨r,hr,rfl⟩:=aDg.mp hn;exact hb r hr).1
 have hb0:Of.Et rs*W≠0:=aDD (aD1 lp W0);have s:=Lg.lU (t:=(rs.map fun r=>r.2*r.1.1*(Of.Et rs).fdiv r.1.2).sum) hb0 (nY (k:=y+x+(1+z)) (fun v hv=>by
  obtain ⟨r,hr,rfl⟩:=aDg.mp hv;exact PySem.intBits_mul_le (PySem.intBits_mul_le (hw r hr) (ht r hr)) (PySem.intBits_fdiv_le lz)) (by rw [aDe]; exact hl)) (PySem.intBits_mul_le lz hW)
 exact ⟨Fr.lX hb0,s.1,s.2⟩
structure TB (ys:List Row):Prop where
 len:ys.length<=101
 b:∀ y∈ys,y.b=1
 t:∀ y∈ys,0<=y.t/\y.t<=100
 w:∀ y∈ys,1<=y.w/\y.w<=59049*243
 ne:ys≠[]
theorem WF {us:List Tn}{ys:List Row}(g:GM us)(h:Gr us ys):TB ys:=by
 obtain ⟨rows,h1,h2,o⟩:=h.ex;have tn:mU us≠[]:=fun e=>g.ne (aDX.mp e);have ka:∀ r∈Tb.uC (mU us),r.b=1/\0<=r.t/\r.t<=100:=fun r hr=>by
  have m:=(Tb.Du (all:=keysOf us) (pre:=[]) (fun _ _ _ hy=>nomatch hy) tn (uX fun t ht y hy=>mF ht hy)).1 r hr;obtain ⟨t,ht,y,hy,e⟩:=pG m;have e1:y.t=r.t:=congrArg Prod.fst e;have e2:y.b=r.b:=congrArg Prod.snd e;rw [<- e1,<- e2];exact ⟨(g.each t ht).b y hy,(g.each t ht).t y hy⟩
 have key:∀ y∈ys,y.b=1/\0<=y.t/\y.t<=100:=fun y hy=>by
  obtain ⟨p,hp,e1,e2⟩:=o.key hy;obtain ⟨r,hr,f1,f2⟩:=(h1 y.t y.b).mp ⟨p,hp,e1,e2⟩;have:=ka r hr;rw [f1,f2] at this;exact this
 have bd:(Tb.uC (mU us)).length<=243/\∀ p∈Tb.uC (mU us),1<=p.w/\p.w<=59049:=by
  have one:∀ u∈us,(dW u.ys).length<=3/\∀ q∈dW u.ys,1<=q.w/\q.w<=9:=fun u hu=>by
   refine ⟨by rw [jR]; exact (g.each u hu).len,fun q hq=>?_⟩;obtain ⟨y,hy,rfl⟩:=aDg.mp hq;exact (g.each u hu).w y hy
  have gl:=g.len;cases us with
  | nil=>exact absurd rfl g.ne
  | cons u us =>
   have o1:=one u aDj;have c:=Jm (ts:=mU us) (ps:=dW u.ys) (a:=9) (c:=3) o1.2 o1.1 fun t ht=>by
    obtain ⟨v,hv,rfl⟩:=aDg.mp ht;exact one v (aDk _ hv)
   have l4:(mU us).length<=4:=by
    unfold mU;rw [aDe];rw [aDF] at gl;omega
   refine ⟨aDh c.1 ?_,fun p hp=>⟨(c.2 p hp).1,aFw (c.2 p hp).2 ?_⟩⟩
   ·exact aDh (aFa 3 (aFC (by decide) l4)) (by decide)
   ·have:(9:Nat)^(mU us).length<=9^4:=aFC (by decide) l4;have e:((9^(mU us).length:Nat):Int)=9^(mU us).length:=by push_cast; rfl
    rw [<- e];have:(9:Nat)^4=6561:=by decide
    omega
 refine ⟨?_,fun y hy=>(key y hy).1,fun y hy=>(key y hy).2,fun y hy=>?_,?_⟩
 ·have r:=DP (l:=ys.map Row.t) (lo:=0) (hi:=100) ?_ ?_
  ·rw [aDe] at r;rcases r with e | e
   ·rw [aDX.mp e]; decide
   ·omega
  ·have lt:=o.tab.lt;rw [dW,aD4] at lt;rw [aD4];refine aFh.imp_of_mem (fun {a b} ha hb h=>?_) lt;have h:a.t*b.b<b.t*a.b:=h;rw [(key a ha).1,(key b hb).1] at h;omega
  ·intro x hx;obtain ⟨y,hy,rfl⟩:=aDg.mp hx;exact (key y hy).2
 ·obtain ⟨a,b⟩:=o.w y hy;have c:=(ZZ (m:=59049) y.t y.b (ps:=Tb.uC (mU us)) bd.2).1;rw [h2] at b;have:=bd.1;exact ⟨a,by omega⟩
 ·refine o.ne fun e=>?_;have ne:Tb.uC (mU us)≠[]:=NZ g.gs;cases hc:Tb.uC (mU us) with
  | nil=>exact ne hc
  | cons p ps =>
   have hh:=(h1 p.t p.b).mpr (by rw [hc]; exact ⟨p,aDj,rfl,rfl⟩);rw [e] at hh;exact Tb.kE hh
theorem TB.w26 {ys:List Row}(h:TB ys):∀ y∈ys,intBits y.w<=24:=fun y hy=>PySem.intBits_le_iff.mpr (by have:=h.w y hy; rw [show (2:Nat)^24=16777216 from by decide]; omega)
theorem TB.z {ys:List Row}(h:TB ys):((ys.map Row.b).map intBits).sum<=101:=by
 have:=eZ (k:=1) (l:=(ys.map Row.b).map intBits) fun n hn=>by
  obtain ⟨b,hb,rfl⟩:=aDg.mp hn;obtain ⟨z,hz,rfl⟩:=aDg.mp hb;rw [h.b z hz]
  decide
 rw [aDe,aDe] at this;have:=h.len;omega
theorem TB.br {ys:List Row}(h:TB ys):Bj ys:=by
 have l:=h.len;have z:=h.z;exact ⟨by omega,fun y hy=>by rw [h.b y hy]; decide,fun y hy=>aDh (sI (by have:=h.t y hy; omega) (h.t y hy).2) (by decide),fun y hy=>aDh (h.w26 y hy) (by decide),by omega⟩
theorem Cg {ys:List Row}(ne:ys≠[])(h:∀ y∈ys,1<=y.w):0<wsum ys:=by
 have aux:∀ zs:List Row,(∀ y∈zs,1<=y.w)->0<=wsum zs:=fun zs=>by
  induction zs with
  | nil=>intro _; decide
  | cons z zs ih =>
   intro h;have a:=ih fun y hy=>h y (aDk _ hy);have b:=h z aDj;show 0<=z.w+wsum zs;omega
 cases ys with
 | nil=>exact absurd rfl ne
 | cons z zs =>
  have a:=aux zs fun y hy=>h y (aDk _ hy);have b:=h z aDj;show 0<z.w+wsum zs;omega
theorem TB.ws {ys:List Row}(h:TB ys):0<wsum ys/\intBits (wsum ys)<=34:=by
 have l:=h.len;refine ⟨Cg h.ne fun y hy=>(h.w y hy).1,nY (k:=24) (fun z hz=>?_) (by rw [aDe]; omega)⟩;obtain ⟨y,hy,rfl⟩:=aDg.mp hz;exact h.w26 y hy
theorem TB.fb {ys:List Row}(h:TB ys):Lg.Fb (Of.Ek (nH ys) (wsum ys)) 150 140:=by
 have l:=h.len;have r:=Kg (rs:=nH ys) (W:=wsum ys) (x:=7) (y:=24) (z:=101) (q:=34) (by unfold nH; rw [aDe]; omega) (fun r hr=>by
  obtain ⟨y,hy,rfl⟩:=aDg.mp hr;exact sI (x:=y.t) (by have:=h.t y hy; omega) (h.t y hy).2) (fun r hr=>by
  obtain ⟨y,hy,rfl⟩:=aDg.mp hr;exact h.w26 y hy) (fun r hr=>by
  obtain ⟨y,hy,rfl⟩:=aDg.mp hr;show 0<y.b;rw [h.b y hy]
  decide) (by
  have e:(nH ys).map (fun r=>r.1.2)=ys.map Row.b:=by unfold nH; rw [aDH]; rfl
  rw [e];exact h.z) h.ws.1 h.ws.2
 exact r.le (by decide) (by decide)
theorem RL {us us':List Tn}{ys zs:List Row}(e:us.map Tn.ys=us'.map Tn.ys)(h:Gr us ys)(h':Gr us' zs):dW ys=dW zs:=by
 obtain ⟨rows,h1,h2,h3⟩:=h.ex;obtain ⟨rows',g1,g2,g3⟩:=h'.ex;have et:mU us=mU us':=by
  have:=congrArg (List.map dW) e;rw [aDH,aDH] at this;exact this
 exact Tb.Dt h3.tab g3.tab (c:=1) (c':=1) (by decide) (by decide) (fun t b=>by rw [h1,et,g1]) fun t b=>by rw [h2,et,g2]
noncomputable def Kq (ts:List Tn):Rk.Fc:=by
 classical exact if h:∃ us ys,us.map Tn.ys=ts.map Tn.ys/\Gr us ys then Of.Ek (nH h.choose_spec.choose) (wsum h.choose_spec.choose) else (0,1)
theorem Ol {us ts:List Tn}{ys:List Row}(e:us.map Tn.ys=ts.map Tn.ys)(h:Gr us ys):Of.Ek (nH ys) (wsum ys)=Kq ts:=by
 have hx:∃ us ys,us.map Tn.ys=ts.map Tn.ys/\Gr us ys:=⟨us,ys,e,h⟩
 unfold Kq;rw [dif_pos hx];have s:=hx.choose_spec.choose_spec;have k:=RL (e.trans s.1.symm) h s.2;rw [uG ys,pO ys,k,<- uG,<- pO]
def BW (fs:List Rk.Fc):Int:=jK (fs.map fun f=>f.2)
def J3 (fs:List Rk.Fc):Rk.Fc:=Fr.sh ((fs.map fun f=>f.1*(BW fs).fdiv f.2).sum) (BW fs)
def Z4 (ys:List Row)(l:Rk.Fc):Rk.Fc:=Fr.sh (((ys.filter fun x=>!decide (x.t*l.2<l.1*x.b)).map Row.w).sum) (wsum ys)
def QX (ys:List Row)(l:Rk.Fc):Rk.Fc:=Rk.mi (1,1) (Z4 ys l)
def cM (ys:List Row)(l:Rk.Fc):List Row:=ys.filter fun x=>decide (l.1*x.b<x.t*l.2)
def abF (ys:List Row)(l:Rk.Fc):Rk.Fc:=Of.Ek (nH (cM ys l)++[(l,-(wsum (cM ys l)))]) (wsum ys)
def O6 (fs:List Rk.Fc):Rk.Fc:=fs.foldl Rk.ti (1,1)
theorem Jl (fs:List Rk.Fc)(f:Rk.Fc):O6 (fs++[f])=Rk.ti (O6 fs) f:=by unfold O6; rw [aEC]; rfl
def Ms:Sp:=fun vs H Q _=>∃ (a:Addr) (rs:List Rs),vs=[.ref a]/\iJ H a rs/\rs.length<=8/\(∀ r∈rs,0<r.b/\intBits r.t<=600/\intBits r.b<=330)/\∀ p H',aU H H'->fU H' p (J3 (fM rs))->Q (.ref p) H'
def QC:Sp:=fun vs H Q _=>∃ (a l:Addr) (ys:List Row) (f:Rk.Fc),vs=[.ref a,.ref l]/\oN H a ys/\JT ys/\fU H l f/\Lg.Fb f 152 143/\∀ p H',aU H H'->fU H' p (Z4 ys f)->Q (.ref p) H'
def QV:Sp:=fun vs H Q _=>∃ (a l:Addr) (ys:List Row) (f:Rk.Fc),vs=[.ref a,.ref l]/\oN H a ys/\JT ys/\fU H l f/\Lg.Fb f 152 143/\∀ p H',aU H H'->fU H' p (QX ys f)->Q (.ref p) H'
def Q9:Sp:=fun vs H Q _=>∃ (a l:Addr) (ys:List Row) (f:Rk.Fc),vs=[.ref a,.ref l]/\oN H a ys/\JT ys/\fU H l f/\Lg.Fb f 152 143/\∀ p H',aU H H'->fU H' p (abF ys f)->Q (.ref p) H'
def Pq:Sp:=fun vs H Q _=>∃ (a:Addr) (rs:List Rs),vs=[.ref a]/\iJ H a rs/\rs.length<=5/\(∀ r∈rs,Lg.Fb (r.t,r.b) 40 30)/\∀ p H',aU H H'->fU H' p (O6 (fM rs))->Q (.ref p) H'
def Pu (C Pt:Addr):Sp:=fun vs H Q _=>∃ (x:Addr) (ts:List Tn),vs=[.ref x]/\GP C H x ts/\GM ts/\cN Pt iQ jN H/\∀ (p:Addr) (H':Hp),bN Pt H H'->cN Pt iQ jN H'->Lg.Fb (Kq ts) 150 140->fU H' p (Kq ts)->Q (.ref p) H'
noncomputable def vH (ts:List Tn):Rk.Fc:=Rk.ti (Kq ts) (Fr.sh 1 2)
def QH (C Pt:Addr):Sp:=fun vs H Q _=>∃ (x:Addr) (ts:List Tn),vs=[.ref x]/\GP C H x ts/\GM ts/\cN Pt iQ jN H/\∀ (p:Addr) (H':Hp),bN Pt H H'->cN Pt iQ jN H'->Lg.Fb (vH ts) 152 143->fU H' p (vH ts)->Q (.ref p) H'
theorem JT.ws {ys:List Row}(g:JT ys):0<wsum ys/\intBits (wsum ys)<=14:=by
 have l:=g.len;refine ⟨Cg g.ne fun y hy=>(g.w y hy).1,nY (k:=4) (fun z hz=>?_) (by rw [aDe]; omega)⟩;obtain ⟨y,hy,rfl⟩:=aDg.mp hz;exact PySem.intBits_le_iff.mpr (by have:=g.w y hy; rw [show (2:Nat)^4=16 from by decide]; omega)
theorem zX:Lg.Fb (Fr.sh 1 2) 1 2:=by
 have s:=Lg.lU (t:=1) (b:=2) (x:=1) (y:=2) (by decide) (by decide) (by decide);exact ⟨Fr.lX (by decide),s.1,s.2⟩
theorem Lj {ys:List Row}{l:Rk.Fc}(g:JT ys):Lg.Fb (Z4 ys l) 14 14:=by
 have l3:=g.len;have w:=g.ws;have s:=Lg.lU (t:=((ys.filter fun x=>!decide (x.t*l.2<l.1*x.b)).map Row.w).sum) (b:=wsum ys) (x:=14) (y:=14) (aDD w.1) (nY (k:=4) (fun z hz=>by
  obtain ⟨y,hy,rfl⟩:=aDg.mp hz;have:=g.w y (aE7.mp hy).1;exact PySem.intBits_le_iff.mpr (by rw [show (2:Nat)^4=16 from by decide]; omega)) (by have:=aE1 (fun x:Row=>!decide (x.t*l.2<l.1*x.b)) ys; rw [aDe]; omega)) w.2
 exact ⟨Fr.lX (aDD w.1),s.1,s.2⟩
theorem Uq {ys:List Row}{l:Rk.Fc}(g:JT ys):Lg.Fb (QX ys l) 16 15:=Of.Fb.mi1 (Lj g) (by decide) (by decide)
theorem M9:∀ {fs:List Rk.Fc}{g:Rk.Fc}{x y:Nat},(∀ f∈fs,Lg.Fb f 40 30)->Lg.Fb g x y->Lg.Fb (fs.foldl Rk.ti g) (x+40*fs.length) (y+30*fs.length)
 | [],g,x,y,_,h=>h
 | f::fs,g,x,y,hf,h=>by
  have i:=M9 (fs:=fs) (fun k hk=>hf k (aDk _ hk)) (h.ti (hf f aDj));rw [aEq,aDF];exact i.le (by omega) (by omega)
theorem pY {ys:List Row}{l:Rk.Fc}{y:Row}(h:y∈cM ys l):y∈ys:=(aE7.mp h).1
theorem Ej (ys:List Row)(l:Rk.Fc):(cM ys l).length<=ys.length:=aE1 _ _
theorem Q3 {ys:List Row}{l:Rk.Fc}(g:JT ys):intBits (wsum (cM ys l))<=14/\intBits (-(wsum (cM ys l)))<=14:=by
 have h:=Ej ys l;have l3:=g.len;have a:intBits (wsum (cM ys l))<=14:=nY (k:=4) (fun z hz=>by
  obtain ⟨y,hy,rfl⟩:=aDg.mp hz;have:=g.w y (pY hy);exact PySem.intBits_le_iff.mpr (by rw [show (2:Nat)^4=16 from by decide]; omega)) (by rw [aDe]; omega)
 exact ⟨a,PySem.intBits_le_iff.mpr (by rw [Int.natAbs_neg]; exact PySem.intBits_le_iff.mp a)⟩
theorem XM {ys:List Row}{l:Rk.Fc}(g:JT ys)(hl:Lg.Fb l 152 143):Lg.Fb (abF ys l) 330 170:=by
 have h:=Ej ys l;have l3:=g.len;have hw:=Q3 (l:=l) g;have all:∀ (R:Rk.Fc×Int->Prop),(∀ y∈cM ys l,R ((y.t,y.b),y.w))->R (l,-(wsum (cM ys l)))->∀ r∈nH (cM ys l)++[(l,-(wsum (cM ys l)))],R r:=fun R h1 h2 r hr=>by
  rcases aDy.mp hr with z | z
  ·obtain ⟨y,hy,rfl⟩:=aDg.mp z;exact h1 y hy
  ·rw [aDw.mp z];exact h2
 have r:=Kg (rs:=nH (cM ys l)++[(l,-(wsum (cM ys l)))]) (W:=wsum ys) (x:=152) (y:=14) (z:=146) (q:=14) (by rw [aDp]; unfold nH; rw [aDe,aDs]; omega)
  (all _ (fun y hy=>aDh (sI (x:=y.t) (by have:=g.t y (pY hy); omega) (g.t y (pY hy)).2) (by decide)) hl.t)
  (all _ (fun y hy=>PySem.intBits_le_iff.mpr (by have:=g.w y (pY hy); show y.w.natAbs<_; rw [show (2:Nat)^14=16384 from by decide]; omega)) hw.2)
  (all _ (fun y hy=>by show 0<y.b; rw [g.b y (pY hy)]; decide) hl.pos) (by
   rw [aDq,aDq,aFz];have e:(nH (cM ys l)).map (fun r=>r.1.2)=(cM ys l).map Row.b:=by unfold nH; rw [aDH]; rfl
   rw [e];have s:=eZ (k:=1) (l:=((cM ys l).map Row.b).map intBits) fun n hn=>by
    obtain ⟨b,hb,rfl⟩:=aDg.mp hn;obtain ⟨z,hz,rfl⟩:=aDg.mp hb;rw [g.b z (pY hz)]
    decide
   rw [aDe,aDe] at s;have t:(([(l,-(wsum (cM ys l)))].map fun r:Rk.Fc×Int=>r.1.2).map intBits).sum<=143:=by
    show intBits l.2+0<=143;exact hl.b
   omega) g.ws.1 g.ws.2
 exact r.le (by decide) (by decide)
theorem Qf {fs:List Rk.Fc}{x y:Nat}(hl:fs.length<=5)(h:∀ f∈fs,Lg.Fb f x y):Lg.Fb (J3 fs) (x+(1+y*5)+10) (1+y*5):=by
 have lz:intBits (BW fs)<=1+y*5:=by
  have s:=eZ (k:=y) (l:=(fs.map fun f=>f.2).map intBits) fun n hn=>by
   obtain ⟨b,hb,rfl⟩:=aDg.mp hn;obtain ⟨z,hz,rfl⟩:=aDg.mp hb;exact (h z hz).b
  rw [aDe,aDe] at s;have m:=aFa y hl;have:=lK (fs.map fun f=>f.2);unfold BW;omega
 have lp:0<BW fs:=(pW (ns:=fs.map fun f:Rk.Fc=>f.2) fun n hn=>by
  obtain ⟨r,hr,rfl⟩:=aDg.mp hn;exact (h r hr).pos).1
 have s:=Lg.lU (t:=(fs.map fun f=>f.1*(BW fs).fdiv f.2).sum) (aDD lp) (nY (k:=x+(1+y*5)) (fun v hv=>by
  obtain ⟨r,hr,rfl⟩:=aDg.mp hv;exact PySem.intBits_mul_le (h r hr).t (PySem.intBits_fdiv_le lz)) (by rw [aDe]; omega)) lz
 exact ⟨Fr.lX (aDD lp),s.1,s.2⟩
theorem R1 {f g:Rk.Fc}{x y z w:Nat}(h:Lg.Fb f x y)(k:Lg.Fb g z w)(h1:x<=4400:=by decide)(h2:y<=4400:=by decide)(h3:z<=4400:=by decide)(h4:w<=4400:=by decide):SzS f.1 f.2 g.1 g.2:=⟨aDh h.t h1,aDh h.b h2,aDh k.t h3,aDh k.b h4⟩
theorem RB {f g:Rk.Fc}{x y z w:Nat}(h:Lg.Fb f x y)(k:Lg.Fb g z w):pB f.1 f.2 g.1 g.2≠0:=aDD (aD1 h.pos k.pos)
theorem Jk {n:Nat}{f:Addr}{fd:FuncData}(F:fC K "total" "total" (top 15) f fd){t_:Addr}{p_:FuncData}(u_:eO P w K mg base n "share" ["top","bottom"] j7 t_ p_){B_:Addr}{x_:FuncData}(C_:eO P w K mg base n "common_multiple" ["numbers"] (Ri K) B_ x_)(Z_:mg "sum" = none):bH P w K mg base fO (n+1) f fd ["fractions"] Ms:=by
 refine F.ok Aq (fun vs H Q E h=>?_) (fun cdv A outer s H vs Q E hr h=>?_)
 ·obtain ⟨a,rs,rfl,_⟩:=h
  rfl
 obtain ⟨a,rs,rfl,hF,hl5,hz,q⟩:=h;have nd:=Aq.nd;refine ⟨_,(aL (bU (i:=1) nd rfl (Or.inr rfl) (aJ C_ hr (aB (dD (ls:=["fraction"]) (M:=["fractions","bottom"]) rfl (bW.of (by rfl)) (NL.of (by rfl)) (cB (pv 0)) (fun _ _ _ _=>⟨(aR (i:=0) (cJ (by rfl)) rfl (Or.inl rfl)),cC,(cU (jB (K:=K) rfl) (pv 0) aO (fun _ _=>rfl))⟩)) aD))) (aK (bC (aJ u_ hr (aB (aY (qO rfl) rfl Z_ Aj (aB (dD (ls:=["fraction"]) (M:=["fractions","bottom"]) rfl (bW.of (by rfl)) (NL.of (by rfl)) (cB (pv 0)) (fun _ _ _ _=>⟨(aR (i:=0) (cJ (by rfl)) rfl (Or.inl rfl)),cC,(bM dC (cU (jB (K:=K) rfl) (pv 0) aO (fun _ _=>rfl)) (bM jJ (pv 2) (cU (jB (K:=K) rfl) (pv 0) aO (fun _ _=>rfl))))⟩)) aD)) (aB (pv 1) aD)))))),?_⟩;have hlr:=bO rs;have hlen:=hl5;have fb:∀ r∈rs,intBits r.t<=600/\intBits r.b<=330:=fun r hr=>(hz r hr).2;have bpos:∀ n∈rs.map Rs.b,0<n:=fun n hn=>by
  obtain ⟨x,hx,rfl⟩:=aDg.mp hn;exact (hz x hx).1
 obtain ⟨lp,ld⟩:=pW bpos;have bz:((rs.map Rs.b).map intBits).sum<=2640:=by
  have:=eZ (k:=330) (l:=(rs.map Rs.b).map intBits) fun n hn=>by
   obtain ⟨z,hz,rfl⟩:=aDg.mp hn;obtain ⟨e,he,rfl⟩:=aDg.mp hz;exact (fb e he).2
  rw [aDe,aDe] at this;omega
 have lz:intBits (jK (rs.map Rs.b))<=2641:=by have:=lK (rs.map Rs.b); omega
 refine ⟨_,rfl,a,rfl,⟨_,bB.of hF.lst⟩,fun D hD=>?_⟩;refine cA (xs:=cF rs) (fun i τ H'=>∃ v0,τ = [v0,some (.ref a),none]/\aU H H'/\H' D=some (.lst ((rs.take i).map fun x=>V.int x.b))) ⟨none,rfl,aC hD _,aA⟩ ?keep ?turn ?done
 case keep =>
  rintro i τ H' hi ⟨v0,rfl,hs,_⟩;exact bB.of (hF.same hs).lst
 case turn =>
  rintro i m v τ H' hm hi hv ⟨v0,rfl,hs,hD'⟩;obtain ⟨x,hx,rfl⟩:=iM hv;have hr:=(hF.same hs).at_ x (aDi hx);refine vX ?_;refine ⟨_,rfl,x.q,_,_,_,rfl,rfl,cW.of hr,rfl,?_⟩;refine aZ hm hi hD' (by rw [aDe]; exact aN (aDh (aDY _ _) (by omega))) ⟨_,rfl,hs.upd_new hD _,?_⟩;rw [aA,take_snoc hx,aDq]
  rfl
 case done =>
 rintro τ H1 ⟨v0,rfl,s1,hD1⟩;rw [hlr,aDz] at hD1;refine ⟨D,rs.map Rs.b,rfl,bB.of (by rw [hD1,aDH]; rfl),bpos,aDh bz (by decide),?_⟩;have hF1:=hF.same s1;refine ⟨_,rfl,a,rfl,⟨_,bB.of hF1.lst⟩,fun E2 hE=>?_⟩;refine cA (xs:=cF rs) (fun i τ H'=>∃ v0,τ = [v0,some (.ref a),some (.int (jK (rs.map Rs.b)))]/\aU H1 H'/\H' E2=some (.lst ((rs.take i).map fun x=>V.int (x.t*(jK (rs.map Rs.b)).fdiv x.b)))) ⟨none,rfl,aC hE _,aA⟩ ?keep2 ?turn2 ?done2
 case keep2 =>
  rintro i τ H' hi ⟨v0,rfl,hs,_⟩;exact bB.of (hF1.same hs).lst
 case turn2 =>
  rintro i m v τ H' hm hi hv ⟨v0,rfl,hs,hD'⟩;obtain ⟨x,hx,rfl⟩:=iM hv;have hmem:=aDi hx;have hr:=(hF1.same hs).at_ x hmem;have xb:=(hz x hmem).1;have xz:=fb x hmem;refine vX ?_;refine ⟨_,rfl,x.q,_,_,_,rfl,rfl,cW.of hr,rfl,_,rfl,_,rfl,x.q,_,_,_,rfl,rfl,cW.of hr,rfl,_,_,rfl,rfl,⟨aDD xb,by omega⟩,_,_,rfl,rfl,gM (m:=600) (n:=2641) xz.1 (PySem.intBits_fdiv_le lz) (by decide),?_⟩;refine aZ hm hi hD' (by rw [aDe]; exact aN (aDh (aDY _ _) (by omega))) ⟨_,rfl,hs.upd_new hE _,?_⟩;rw [aA,take_snoc hx,aDq]
  rfl
 case done2 =>
 rintro τ H2 ⟨v0,rfl,s2,hE2⟩;rw [hlr,aDz] at hE2;refine ⟨E2,rs.map fun x=>x.t*(jK (rs.map Rs.b)).fdiv x.b,rfl,bB.of (by rw [hE2,aDH]; rfl),?_⟩;refine ⟨_,rfl,?_⟩;refine ⟨_,_,rfl,aDD lp,aDh lz (by decide),fun p0 H' s' hp=>?_⟩;have e1:BW (fM rs)=jK (rs.map Rs.b):=by unfold BW fM; rw [aDH]; rfl
 have e2:J3 (fM rs)=Fr.sh ((rs.map fun x=>x.t*(jK (rs.map Rs.b)).fdiv x.b).sum) (jK (rs.map Rs.b)):=by
  unfold J3;rw [e1];unfold fM;rw [aDH]
  rfl
 have q':=q p0 H' ((s1.trans s2).trans s');unfold fU at q';rw [e2] at q';exact q' hp
theorem wG {n:Nat}{f:Addr}{fd:FuncData}(F:fC K "share_from" "share_from" (top 32) f fd){t_:Addr}{p_:FuncData}(u_:eO P w K mg base n "share" ["top","bottom"] j7 t_ p_){m_:Addr}{i_:FuncData}(h_:eO P w K mg base n "all_weights" ["table"] Bc m_ i_){aAK:Addr}{aAb:FuncData}(aAL:eO P w K mg base n "below" ["one","other"] (uE K) aAK aAb)(Z_:mg "sum" = none):bH P w K mg base fO (n+1) f fd ["table","level"] QC:=by
 refine F.ok oR (fun vs H Q E h=>?_) (fun cdv A outer s H vs Q E hr h=>?_)
 ·obtain ⟨a,l,xs,f,rfl,_⟩:=h
  rfl
 obtain ⟨a,l,xs,f,rfl,hT,g,hl,hb,q⟩:=h;have nd:=oR.nd;refine ⟨_,(aL (bU (i:=2) nd rfl (Or.inl rfl) (aY (qO rfl) rfl Z_ Aj (aB (dD (ls:=["worth","weight"]) (M:=["table","level","reached"]) rfl (bW.of (by rfl)) (NL.of (by rfl)) (rE (pv 0)) (fun _ _ _ _=>⟨(iC (K:=K) (n:=2) rfl rfl (bK (aR (i:=0) (cJ (by rfl)) rfl (Or.inl rfl)) (bK (aR (i:=1) (cJ (by rfl)) rfl (Or.inl rfl)) eU))),(GF (gJ (gH (aJ aAL hr (aB (pv 0) (aB (pv 3) aD)))))),(pv 1)⟩)) aD))) (aK (bC (aJ u_ hr (aB (pv 2) (aB (aJ h_ hr (aB (pv 0) aD)) aD)))))),?_⟩;have hlr:=refs_length xs;have glen:=g.len;refine ⟨_,rfl,a,rfl,⟨_,cW.of hT.tp⟩,fun D hD=>?_⟩;refine lG (xs:=refs xs) (fun i τ H'=>∃ v0 v1,τ = [v0,v1,some (.ref a),some (.ref l),none]/\aU H H'/\H' D=some (.lst (((xs.take i).filter fun x=>!decide (x.t*f.2<f.1*x.b)).map fun x=>V.int x.w))) ⟨none,none,rfl,aC hD _,aA⟩ ?keep ?turn ?done
 case keep =>
  rintro i τ H' hi ⟨v0,v1,rfl,hs,_⟩;exact cW.of (hT.same hs).tp
 case turn =>
  rintro i m v τ H' hm hi hv ⟨v0,v1,rfl,hs,hD'⟩;obtain ⟨x,hx,rfl⟩:=gC hv;have hmem:=aDi hx;have hr:=(hT.same hs).rows x hmem;have xt:=sI (x:=x.t) (by have:=g.t x hmem; omega) (g.t x hmem).2;have xb:intBits x.b<=1:=by rw [g.b x hmem]; decide
  refine ⟨x.p,_,rfl,cW.of hr.1,rfl,_,_,rfl,_,_,rfl,rfl,?_⟩;refine ⟨_,rfl,_,rfl,x.q,l,x.t,x.b,f.1,f.2,rfl,cW.of hr.2,iR (hs _ _ hl),⟨by omega,by omega,aDh hb.t (by decide),aDh hb.b (by decide)⟩,_,rfl,?_⟩;refine BJ (fun c=>?_) (fun c=>?_)
  ·refine ⟨_,rfl,?_⟩;refine aZ hm hi hD' (by rw [aDe]; exact aN (aDh (aE1 _ _) (aDh (aDY _ _) (by omega)))) ⟨_,_,rfl,hs.upd_new hD _,?_⟩;rw [aA,take_snoc hx,aEO,aFp (by simpa using c),aDq]
   rfl
  ·refine xX hm hi ⟨_,_,rfl,hs,?_⟩;rw [take_snoc hx,aEO,aFq (by simpa using c),aF7,aE8];exact hD'
 case done =>
 rintro τ H1 ⟨v0,v1,rfl,s1,hD1⟩;rw [hlr,aDz] at hD1;refine ⟨D,(xs.filter fun x=>!decide (x.t*f.2<f.1*x.b)).map Row.w,rfl,bB.of (by rw [hD1,aDH]; rfl),?_⟩;refine ⟨_,rfl,_,rfl,a,xs,rfl,.inr (hT.same s1),by omega,fun H2 s2=>?_⟩;exact ⟨_,_,rfl,aDD g.ws.1,aDh g.ws.2 (by decide),fun p H' s' hp=>q p H' ((s1.trans s2).trans s') hp⟩
theorem v8 {n:Nat}{f:Addr}{fd:FuncData}(F:fC K "share_below" "share_below" (top 42) f fd){aBu:Addr}{aBa:FuncData}(aBv:eO P w K mg base n "minus" ["one","other"] (Ag K mT pB) aBu aBa){aBw:Addr}{aBl:FuncData}(aBx:eO P w K mg base n "share_from" ["table","level"] QC aBw aBl){J_:Addr}{A_:FuncData}(K_:eO P w K mg base n "whole" ["number"] Ik J_ A_):bH P w K mg base fO (n+1) f fd ["table","level"] QV:=by
 refine F.ok mY (fun vs H Q E h=>?_) (fun cdv A outer s H vs Q E hr h=>?_)
 ·obtain ⟨a,l,xs,f,rfl,_⟩:=h
  rfl
 obtain ⟨a,l,xs,f,rfl,hT,g,hl,hb,q⟩:=h;have nd:=mY.nd;refine ⟨_,(aK (bC (aJ aBv hr (aB (aJ K_ hr (aB aO aD)) (aB (aJ aBx hr (aB (pv 0) (aB (pv 1) aD))) aD))))),?_⟩;refine ⟨1,rfl,fun p1 H1 s1 h1=>?_⟩;refine ⟨_,rfl,_,rfl,a,l,xs,f,rfl,hT.same s1,g,s1 _ _ hl,hb,fun p2 H2 s2 h2=>?_⟩;refine ⟨p1,p2,_,_,_,_,rfl,iR (s2 _ _ h1),iR h2,R1 Lg.xU (Lj g),RB Lg.xU (Lj g),fun p3 H3 s3 h3=>?_⟩;exact q p3 H3 ((s1.trans s2).trans s3) h3
theorem tV {n:Nat}{f:Addr}{fd:FuncData}(F:fC K "all_together" "all_together" (top 43) f fd){aAN:Addr}{aAw:FuncData}(aAC:eO P w K mg base n "times" ["one","other"] (Ag K tT pB) aAN aAw){J_:Addr}{A_:FuncData}(K_:eO P w K mg base n "whole" ["number"] Ik J_ A_):bH P w K mg base fO (n+1) f fd ["shares"] Pq:=by
 refine F.ok mQ (fun vs H Q E h=>?_) (fun cdv A outer s H vs Q E hr h=>?_)
 ·obtain ⟨a,rs,rfl,_⟩:=h
  rfl
 obtain ⟨a,rs,rfl,hF,l5,hz,q⟩:=h;have nd:=mQ.nd;refine ⟨_,(aL (bU (i:=1) nd rfl (Or.inl rfl) (aJ K_ hr (aB aO aD))) (aL (jW PassesOwn.never rfl (cB (pv 0)) (aR (i:=2) nd rfl (Or.inl rfl)) (aK (bU (i:=1) nd rfl (Or.inl rfl) (aJ aAC hr (aB (pv 1) (aB (pv 2) aD)))))) (aK (bC (pv 1))))),?_⟩;have hlr:=bO rs;refine ⟨_,rfl,fun p1 H1 s1 h1=>?_⟩;refine ⟨_,rfl,a,rfl,⟨_,bB.of (hF.same s1).lst⟩,?_⟩;refine jP (xs:=cF rs) (fun i σ H'=>∃ pf v2,σ = [some (.ref a),some (.ref pf),v2]/\aU H1 H'/\fU H' pf (O6 ((fM rs).take i))) ⟨p1,none,rfl,aU.refl _,h1⟩ ?keep ?turn ?done
 case keep =>
  rintro i σ H' hi ⟨pf,v2,rfl,hs,_⟩;exact bB.of (hF.same (s1.trans hs)).lst
 case turn =>
  rintro i v σ H' hv ⟨pf,v2,rfl,hs,hp⟩;obtain ⟨r,hr,rfl⟩:=iM hv;have hm:=aDi hr;have hR:=(hF.same (s1.trans hs)).at_ r hm;have ev:(fM rs)[i]? = some (r.t,r.b):=by unfold fM; rw [aDm,hr]; rfl
  have fb:=M9 (fs:=(fM rs).take i) (g:=(1,1)) (fun f hf=>by
   obtain ⟨z,hz1,rfl⟩:=aDg.mp (aEH hf);exact hz z hz1) Lg.xU
  have fb2:Lg.Fb (O6 ((fM rs).take i)) 201 151:=fb.le (by rw [aDu,cT]; omega) (by rw [aDu,cT]; omega);refine ⟨_,rfl,_,rfl,pf,r.q,_,_,_,_,rfl,iR hp,iR (f:=(r.t,r.b)) hR,R1 fb2 (hz r hm),RB fb2 (hz r hm),fun p2 H2 s2 h2=>?_⟩;refine ⟨p2,_,rfl,hs.trans s2,?_⟩;rw [take_snoc ev,Jl];exact h2
 case done =>
  rintro σ H' ⟨pf,v2,rfl,hs,hp⟩;rw [hlr,<- cT rs,aDz] at hp;exact ⟨_,rfl,q pf H' (s1.trans hs) hp⟩
theorem pL {n:Nat}{f:Addr}{fd:FuncData}(F:fC K "top_mean" "Offers.top_mean" (inClass (top 49) 2) f fd){C:Addr}(cf:OF K C){aCm:Addr}{aBL:FuncData}(aCp:nJ K C "tables" aCm)(aCq:bH P w K mg base fO n aCm aBL ["self"] (LC C))(aCr:Binds K aBL ["self"] []){aCI:Addr}{aCs:FuncData}(aCJ:eO P w K mg base n "mean" ["table"] Kv aCI aCs){aB2:Addr}{aBM:FuncData}(aB3:eO P w K mg base n "greatest" ["tables"] (Gq Pt) aB2 aBM):bH P w K mg base fO (n+1) f fd ["self"] (Pu C Pt):=by
 refine F.ok jX (fun vs H Q E h=>?_) (fun cdv A outer s H vs Q E hr h=>?_)
 ·obtain ⟨x,ts,rfl,_⟩:=h
  rfl
 obtain ⟨x,ts,rfl,hO,g,hTb,q⟩:=h;have nd:=jX.nd;refine ⟨_,(aK (bC (aJ aCJ hr (aB (aJ aB3 hr (aB (qF (pv 0) cf.cl aCp aCq hr aCr .nil oO) aD)) aD)))),?_⟩;have hO':=hO;obtain ⟨dx,k,hx,_⟩:=hO';have gl:=g.len;refine ⟨_,rfl,x,dx,_,rfl,hx,rfl,x,ts,rfl,hO,by omega,fun r H1 us s1 hU eu=>?_⟩;have gu:=g.of eu;refine ⟨r,us,rfl,hU,gu.gs,hTb.same s1,fun r2 H2 ys sT tb2 hn hY gr=>?_⟩;have tb:=WF gu gr;have br:=tb.br;have e:=Ol eu gr;have fb:=tb.fb;refine ⟨r2,ys,rfl,hY,br,br.len,tb.ws.1,aDh tb.ws.2 (by decide),fun p H3 s3 hp=>?_⟩;rw [e] at hp fb;exact q p H3 ((s1.toT.trans sT).trans s3.toT) (tb2.same s3) fb hp
theorem vU {n:Nat}{f:Addr}{fd:FuncData}(F:fC K "half" "Offers.half" (inClass (top 49) 3) f fd){C:Addr}(cf:OF K C){aCM:Addr}{aCy:FuncData}(aCZ:nJ K C "top_mean" aCM)(aC0:bH P w K mg base fO n aCM aCy ["self"] (Pu C Pt))(aC1:Binds K aCy ["self"] []){aAN:Addr}{aAw:FuncData}(aAC:eO P w K mg base n "times" ["one","other"] (Ag K tT pB) aAN aAw){t_:Addr}{p_:FuncData}(u_:eO P w K mg base n "share" ["top","bottom"] j7 t_ p_):bH P w K mg base fO (n+1) f fd ["self"] (QH C Pt):=by
 refine F.ok m7 (fun vs H Q E h=>?_) (fun cdv A outer s H vs Q E hr h=>?_)
 ·obtain ⟨x,ts,rfl,_⟩:=h
  rfl
 obtain ⟨x,ts,rfl,hO,g,hTb,q⟩:=h;have nd:=m7.nd;refine ⟨_,(aK (bC (aJ aAC hr (aB (qF (pv 0) cf.cl aCZ aC0 hr aC1 .nil oO) (aB (aJ u_ hr (aB aO (aB aO aD))) aD))))),?_⟩;have hO':=hO;obtain ⟨dx,k,hx,_⟩:=hO';refine ⟨_,rfl,x,dx,_,rfl,hx,rfl,x,ts,rfl,hO,g,hTb,fun p1 H1 s1 tb1 fb h1=>?_⟩;refine ⟨1,2,rfl,by decide,by decide,fun p2 H2 s2 h2=>?_⟩;refine ⟨p1,p2,_,_,_,_,rfl,iR (s2 _ _ h1),iR (f:=Fr.sh 1 2) h2,R1 fb zX,RB fb zX,fun p3 H3 s3 h3=>?_⟩;have ff:=(fb.ti zX).le (x':=152) (y':=143) (by decide) (by decide);exact q p3 H3 (s1.trans (s2.trans s3).toT) (tb1.same (s2.trans s3)) ff h3
theorem lN (xs:List V)(n:Nat)(h:n<=xs.length):aV xs none (some (n:Int))=xs.take n:=by
 unfold aV;have e1:HT.u0 xs.length 0 none=0:=rfl;have e2:HT.u0 xs.length xs.length (some (n:Int))=n:=by rw [HT.GC]; omega
 rw [e1,e2,aFA,aFX]
theorem jH (xs:List V)(n:Nat)(h:n<=xs.length):aV xs (some (n:Int)) none=xs.drop n:=by
 unfold aV;have e1:HT.u0 xs.length xs.length none=xs.length:=rfl;have e2:HT.u0 xs.length 0 (some (n:Int))=n:=by rw [HT.GC]; omega
 rw [e1,e2,aEV (by rw [aDN]; omega)]
theorem Jr {n:Nat}{f:Addr}{fd:FuncData}(F:fC K "above" "above" (top 31) f fd){D_:Addr}{v_:FuncData}(E_:eO P w K mg base n "by_weights" ["rows","weights"] Ft D_ v_){m_:Addr}{i_:FuncData}(h_:eO P w K mg base n "all_weights" ["table"] Bc m_ i_){aAK:Addr}{aAb:FuncData}(aAL:eO P w K mg base n "below" ["one","other"] (uE K) aAK aAb):bH P w K mg base fO (n+1) f fd ["table","level"] Q9:=by
 refine F.ok Bx (fun vs H Q E h=>?_) (fun cdv A outer s H vs Q E hr h=>?_)
 ·obtain ⟨a,l,xs,f,rfl,_⟩:=h
  rfl
 obtain ⟨a,l,xs,f,rfl,hT,g,hl,hb,q⟩:=h;have nd:=Bx.nd;refine ⟨_,(aL (kW (i:=2) (ls:=["worth","weight"]) (M:=["table","level","higher"]) rfl (bW.of (by rfl)) (NL.of (by rfl)) nd rfl (Or.inl rfl) (rE (pv 0)) (fun _ _ _ _=>⟨(iC (K:=K) (n:=2) rfl rfl (bK (aR (i:=0) (cJ (by rfl)) rfl (Or.inl rfl)) (bK (aR (i:=1) (cJ (by rfl)) rfl (Or.inl rfl)) eU))),(GF (gH (aJ aAL hr (aB (pv 3) (aB (pv 0) aD))))),(gQ (aB (pv 0) (aB (pv 1) aD)))⟩)) (aK (bC (aJ E_ hr (aB (bM cV (pv 2) (jU (aB (gQ (aB (pv 1) (aB (KZ Ef (aJ h_ hr (aB (pv 2) aD))) aD))) aD))) (aB (aJ h_ hr (aB (pv 0) aD)) aD)))))),?_⟩;have hlr:=refs_length xs;have glen:=g.len;have ylen:∀ {i:Nat}{ys:List Row},dW ys=dW (cM (xs.take i) f)->ys.length<=3:=fun {i ys} e=>by
  have h1:ys.length=(cM (xs.take i) f).length:=by rw [<- jR,e,jR]
  have h2:=Ej (xs.take i) f;have h4:(xs.take i).length<=xs.length:=by rw [aDu]; omega
  omega
 refine ⟨_,rfl,a,rfl,⟨_,cW.of hT.tp⟩,fun D hD=>?_⟩;refine lG (xs:=refs xs) (fun i τ H'=>∃ v0 v1 ys,τ = [v0,v1,some (.ref a),some (.ref l),none]/\aU H H'/\TabAt H' D ys/\dW ys=dW (cM (xs.take i) f)) ⟨none,none,[],rfl,aC hD _,⟨aA,fun _ h=>nomatch h⟩,rfl⟩ ?keep ?turn ?done
 case keep =>
  rintro i τ H' hi ⟨v0,v1,ys,rfl,hs,_⟩;exact cW.of (hT.same hs).tp
 case turn =>
  rintro i m v τ H' hm hi hv ⟨v0,v1,ys,rfl,hs,hY,hf⟩;obtain ⟨x,hx,rfl⟩:=gC hv;have hmem:=aDi hx;have hr:=(hT.same hs).rows x hmem;have xt:=sI (x:=x.t) (by have:=g.t x hmem; omega) (g.t x hmem).2;have xb:intBits x.b<=1:=by rw [g.b x hmem]; decide
  refine ⟨x.p,_,rfl,cW.of hr.1,rfl,_,_,rfl,_,_,rfl,rfl,?_⟩;refine ⟨_,rfl,_,rfl,l,x.q,f.1,f.2,x.t,x.b,rfl,iR (hs _ _ hl),cW.of hr.2,⟨aDh hb.t (by decide),aDh hb.b (by decide),by omega,by omega⟩,_,rfl,?_⟩;refine BJ (fun c=>?_) (fun c=>?_)
  ·refine ⟨_,rfl,_,rfl,Bp,fun p hp=>?_⟩;have n1:=aC hp (.tup [.ref x.q,.int x.w]);have hY1:=hY.same n1;refine aZ hm hi hY1.lst (by rw [refs_length]; exact aN (aDh (ylen hf) (by decide))) ⟨_,_,ys++[⟨p,x.q,x.t,x.b,x.w⟩],rfl,(hs.trans n1).upd_new hD _,⟨?_,?_⟩,?_⟩
   ·rw [aA,jF]
   ·intro y hy;rcases aDy.mp hy with z | z
    ·exact (hY1.rows y z).over hY1.lst
    ·have e:y=⟨p,x.q,x.t,x.b,x.w⟩:=by simpa using z
     subst e;exact iU.over ⟨aA,n1 _ _ hr.2⟩ hY1.lst
   ·unfold cM at hf ⊢;rw [take_snoc hx,aEO,aFp (by simpa using c)];unfold dW at hf ⊢;rw [aDq,aDq,hf]
    rfl
  ·refine xX hm hi ⟨_,_,ys,rfl,hs,hY,?_⟩;unfold cM at hf ⊢;rw [take_snoc hx,aEO,aFq (by simpa using c),aF7,aE8];exact hf
 case done =>
 rintro τ H1 ⟨v0,v1,ys,rfl,s1,hY,hf⟩;have yl:=ylen hf;rw [hlr,aDz] at hf;have ew:wsum ys=wsum (cM xs f):=by rw [pO,hf,<- pO]
 have er:nH ys=nH (cM xs f):=by rw [uG,hf,<- uG]
 have hw:=Q3 (l:=f) g;have yok:∀ y∈ys,y.b=1/\(0<=y.t/\y.t<=100)/\1<=y.w/\y.w<=9:=fun y hy=>by
  have h:y.r∈dW (cM xs f):=by rw [<- hf]; exact aDg.mpr ⟨y,hy,rfl⟩
  obtain ⟨z,hz,ez⟩:=aDg.mp h;have e1:z.t=y.t:=congrArg Tb.Rw.t ez;have e2:z.b=y.b:=congrArg Tb.Rw.b ez;have e3:z.w=y.w:=congrArg Tb.Rw.w ez;rw [<- e1,<- e2,<- e3];exact ⟨g.b z (pY hz),g.t z (pY hz),g.w z (pY hz)⟩
 refine ⟨_,rfl,_,rfl,_,rfl,D,ys,rfl,.inl hY,by omega,fun H2 s2=>⟨_,rfl,Bp,fun p3 hp3=>⟨wJ,fun l4 hl4=>?_⟩⟩⟩;have n3:=aC hp3 (.tup [.ref l,.int (-(wsum ys))]);have n4:=aC hl4 (.lst [.ref p3]);have s4:=s2.trans (n3.trans n4);have hY4:=hY.same s4;refine ⟨D,l4,_,_,rfl,rfl,hY4.lst,aA,by rw [refs_length]; exact aDO (aN (by show ys.length+1<=1000; omega)),fun c5 hc5=>?_⟩;have n5:=aC hc5 (.lst (refs ys++[.ref p3]));have s5:=s4.trans n5;have hv3:=n4 _ _ (aA (H:=H2) (a:=p3) (o:=.tup [.ref l,.int (-(wsum ys))]));refine ⟨_,rfl,a,xs,rfl,.inr (hT.same (s1.trans s5)),by omega,fun H6 s6=>?_⟩;have hT6:TabAt H6 c5 (ys++[(Row.mk p3 l f.1 f.2 (-(wsum ys)))]):=by
  refine ⟨s6 _ _ (by rw [jF]; exact aA),fun y hy=>?_⟩;rcases aDy.mp hy with z | z
  ·exact (hY.rows y z).same (s5.trans s6)
  ·have e:y=(Row.mk p3 l f.1 f.2 (-(wsum ys))):=by simpa using z
   subst e;exact ⟨s6 _ _ (n5 _ _ hv3),s6 _ _ (s5 _ _ (s1 _ _ hl))⟩
 have all:∀ (P':Row->Prop),(∀ y∈ys,P' y)->P' (Row.mk p3 l f.1 f.2 (-(wsum ys)))->∀ y∈ys++[(Row.mk p3 l f.1 f.2 (-(wsum ys)))],P' y:=fun P' h1 h2 y hy=>by
  rcases aDy.mp hy with z | z
  ·exact h1 y z
  ·have e:y=(Row.mk p3 l f.1 f.2 (-(wsum ys))):=by simpa using z
   subst e;exact h2
 have hsum:(((ys++[(Row.mk p3 l f.1 f.2 (-(wsum ys)))]).map Row.b).map intBits).sum<=4200:=by
  have h:=eZ (k:=1) (l:=(ys.map Row.b).map intBits) fun n hn=>by
   obtain ⟨z,hz,rfl⟩:=aDg.mp hn;obtain ⟨x,hx,rfl⟩:=aDg.mp hz;rw [(yok x hx).1]
   decide
  rw [aDe,aDe] at h;have:=hb.b;simp only [aDq,aFz,aDE,aFr,aD9,List.sum_nil];omega
 have br:Bj (ys++[(Row.mk p3 l f.1 f.2 (-(wsum ys)))]):=⟨by rw [aDp]; simp; omega,all _ (fun y hy=>by rw [(yok y hy).1]; decide) hb.pos,all _ (fun y hy=>aDh (sI (x:=y.t) (by have:=yok y hy; omega) (yok y hy).2.1.2) (by decide)) (aDh hb.t (by decide)),
  all _ (fun y hy=>aDh (sI (x:=y.w) (by have:=yok y hy; omega) (by have:=yok y hy; omega)) (by decide)) (by show intBits (-(wsum ys))<=64; rw [ew]; exact aDh hw.2 (by decide)),hsum⟩
 refine ⟨c5,ys++[(Row.mk p3 l f.1 f.2 (-(wsum ys)))],wsum xs,rfl,hT6,br,g.ws.1,aDh g.ws.2 (by decide),fun p H' s' hp=>?_⟩;refine q p H' ((s1.trans s5).trans (s6.trans s')) ?_;have e:nH (ys++[(Row.mk p3 l f.1 f.2 (-(wsum ys)))])=nH (cM xs f)++[(f,-(wsum (cM xs f)))]:=by
  rw [<- er,<- ew];unfold nH;rw [aDq]
  rfl
 rw [e] at hp;exact hp
structure Hr where
 u:Addr
 p:Addr
 q:Addr
 f:Rk.Fc
 g:Rk.Fc
def sG (us:List Hr):List V:=us.map fun u=>V.ref u.u
def Bk (H:Hp)(u:Hr):Prop:=H u.u=some (.tup [.ref u.p,.ref u.q])/\fU H u.p u.f/\fU H u.q u.g
structure o7 (H:Hp)(a:Addr)(us:List Hr):Prop where
 lst:H a=some (.lst (sG us))
 at_:∀ u∈us,Bk H u
theorem Bk.same {H H':Hp}{u:Hr}(s:aU H H')(h:Bk H u):Bk H' u:=⟨s _ _ h.1,s _ _ h.2.1,s _ _ h.2.2⟩
theorem o7.same {H H':Hp}{a:Addr}{us:List Hr}(s:aU H H')(h:o7 H a us):o7 H' a us:=⟨s _ _ h.lst,fun u hu=>(h.at_ u hu).same s⟩
theorem Bk.over {H:Hp}{D:Addr}{u:Hr}{vs zs:List V}(h:Bk H u)(e:H D=some (.lst vs)):Bk (aM H D (.lst zs)) u:=by
 refine ⟨?_,?_,?_⟩
 ·rw [aH (dG h.1 e fun z=>nomatch z)]; exact h.1
 ·unfold fU; rw [aH (dG h.2.1 e fun z=>nomatch z)]; exact h.2.1
 ·unfold fU; rw [aH (dG h.2.2 e fun z=>nomatch z)]; exact h.2.2
theorem jD (us:List Hr):(sG us).length=us.length:=aDe _
theorem uI {us:List Hr}{i:Nat}{v:V}(h:(sG us)[i]? = some v):∃ x,us[i]? = some x/\v=.ref x.u:=by
 unfold sG at h;rw [aDm] at h;cases e:us[i]? with
 | none=>rw [e] at h; cases h
 | some x=>rw [e] at h; cases h; exact ⟨x,rfl,rfl⟩
theorem o7.push {H:Hp}{D:Addr}{us:List Hr}{u:Hr}(h:o7 H D us)(hu:Bk H u):o7 (aM H D (.lst (sG us++[.ref u.u]))) D (us++[u]):=by
 refine ⟨by rw [aA]; unfold sG; rw [aDq]; rfl,fun x hx=>?_⟩;rcases aDy.mp hx with z | z
 ·exact (h.at_ x z).over h.lst
 ·rw [aDw.mp z]; exact hu.over h.lst
def N8 (ts:List Tn)(l:Rk.Fc):List Rk.Fc:=ts.map fun t=>QX t.ys l
def JL (ts:List Tn)(l:Rk.Fc)(i:Nat)(t:Tn):Rk.Fc×Rk.Fc:=(abF t.ys l,O6 ((N8 ts l).take i++(N8 ts l).drop (i+1)))
def sO (ts:List Tn)(l:Rk.Fc):List (Rk.Fc×Rk.Fc):=ts.mapIdx (JL ts l)
def tK (ts:List Tn)(l:Rk.Fc):Rk.Fc:=O6 (N8 ts l)
def Qa (ts:List Tn)(l:Rk.Fc):Rk.Fc:=Rk.pl (Rk.ti l (Rk.mi (1,1) (tK ts l))) (J3 ((sO ts l).map fun r=>Rk.ti r.1 r.2))
structure Ai (H:Hp)(p:Addr)(l n:Rk.Fc)(rs:List (Rk.Fc×Rk.Fc))(s:Rk.Fc):Prop where
 ex:∃ (a b c d:Addr) (us:List Hr),H p=some (.tup [.ref a,.ref b,.ref c,.ref d])/\fU H a l/\fU H b n/\o7 H c us/\us.map (fun u=>(u.f,u.g))=rs/\fU H d s
def QJ (C Pt:Addr):Sp:=fun vs H Q _=>∃ (x:Addr) (ts:List Tn),vs=[.ref x]/\GP C H x ts/\GM ts/\cN Pt iQ jN H/\∀ (p:Addr) (H':Hp),bN Pt H H'->cN Pt iQ jN H'->Ai H' p (vH ts) (tK ts (vH ts)) (sO ts (vH ts)) (Qa ts (vH ts))->Q (.ref p) H'
theorem RT {ts:List Tn}{l:Rk.Fc}{i:Nat}{t:Tn}(h:ts[i]? = some t):(N8 ts l)[i]? = some (QX t.ys l):=by unfold N8; rw [aDm,h]; rfl
theorem qP (ts:List Tn)(l:Rk.Fc):(N8 ts l).length=ts.length:=aDe _
theorem Ab {ts:List Tn}{l:Rk.Fc}(g:GM ts):∀ f∈N8 ts l,Lg.Fb f 40 30:=fun f hf=>by
 obtain ⟨t,ht,rfl⟩:=aDg.mp hf;exact (Uq (g.each t ht)).le (by decide) (by decide)
theorem eG {rs:List Rs}{fs:List Rk.Fc}(e:fM rs=fs){R:Rk.Fc->Prop}(h:∀ f∈fs,R f):∀ r∈rs,R (r.t,r.b):=fun r hr=>h _ (by rw [<- e]; exact aDg.mpr ⟨r,hr,rfl⟩)
theorem xT (rs:List Rs)(r:Rs):fM (rs++[r])=fM rs++[(r.t,r.b)]:=by unfold fM; rw [aDq]; rfl
theorem Ml {fs:List Rk.Fc}(hl:fs.length<=5)(h:∀ f∈fs,Lg.Fb f 40 30):Lg.Fb (O6 fs) 201 151:=(M9 h Lg.xU).le (by omega) (by omega)
theorem BP {ts:List Tn}{l:Rk.Fc}{i:Nat}{t:Tn}(h:ts[i]? = some t):(sO ts l)[i]? = some (JL ts l i t):=by unfold sO; rw [List.getElem?_mapIdx,h]; rfl
theorem oF (ts:List Tn)(l:Rk.Fc):(sO ts l).length=ts.length:=List.length_mapIdx
theorem RN {ts:List Tn}{l:Rk.Fc}(g:GM ts)(hl:Lg.Fb l 152 143):∀ r∈sO ts l,Lg.Fb r.1 330 170/\Lg.Fb r.2 201 151:=fun r hr=>by
 obtain ⟨i,hi⟩:=aFB hr;have h1:=(aDr.mp hi).1;rw [oF] at h1;have e:=BP (l:=l) (aDl h1);rw [hi] at e;cases e;have gl:=g.len;have sl:=qP ts l;refine ⟨XM (g.each _ (aDU h1)) hl,Ml ?_ fun f hf=>?_⟩
 ·rw [aDp,aDu,aDN];omega
 ·rcases aDy.mp hf with z | z
  ·exact Ab g f (aEH z)
  ·exact Ab g f (aEG z)
theorem nU {n:Nat}{f:Addr}{fd:FuncData}(F:fC K "half_paper" "Offers.half_paper" (inClass (top 49) 6) f fd){C:Addr}(cf:OF K C){aCN:Addr}{aCz:FuncData}(aC2:nJ K C "half" aCN)(aC3:bH P w K mg base fO n aCN aCz ["self"] (QH C Pt))(aC4:Binds K aCz ["self"] []){aCK:Addr}{aCt:FuncData}(aCL:eO P w K mg base n "plus" ["one","other"] (Ag K pT pB) aCK aCt){aCu:Addr}{aCn:FuncData}(aCv:eO P w K mg base n "total" ["fractions"] Ms aCu aCn){aAN:Addr}{aAw:FuncData}(aAC:eO P w K mg base n "times" ["one","other"] (Ag K tT pB) aAN aAw){aBu:Addr}{aBa:FuncData}(aBv:eO P w K mg base n "minus" ["one","other"] (Ag K mT pB) aBu aBa){J_:Addr}{A_:FuncData}(K_:eO P w K mg base n "whole" ["number"] Ik J_ A_){aBb:Addr}{aA0:FuncData}(aAx:eO P w K mg base n "all_together" ["shares"] Pq aBb aA0){aCw:Addr}{aCo:FuncData}(aCx:eO P w K mg base n "above" ["table","level"] Q9 aCw aCo){aBm:Addr}{aBc:FuncData}(aBn:eO P w K mg base n "share_below" ["table","level"] QV aBm aBc)(aAy:mg "enumerate" = none):bH P w K mg base fO (n+1) f fd ["self"] (QJ C Pt):=by
 refine F.ok iI (fun vs H Q E h=>?_) (fun cdv A outer s H vs Q E hr h=>?_)
 ·obtain ⟨x,ts,rfl,_⟩:=h
  rfl
 obtain ⟨x,ts,rfl,hO,g,hTb,q⟩:=h;have nd:=iI.nd;refine ⟨_,(aL (bU (i:=1) nd rfl (Or.inr rfl) (qF (pv 0) cf.cl aC2 aC3 hr aC4 .nil oO)) (aL (kW (i:=2) (ls:=["table"]) (M:=["self","level","shares","none","rows","offer","table#","sums"]) rfl (bW.of (by rfl)) (NL.of (by rfl)) nd rfl (Or.inl rfl) (rE (qZ (pv 0) rfl)) (fun _ _ _ _=>⟨(aR (i:=0) (cJ (by rfl)) rfl (Or.inl rfl)),cC,(aJ aBn hr (aB (pv 0) (aB (pv 2) aD)))⟩)) (aL (bU (i:=3) nd rfl (Or.inl rfl) (aJ aAx hr (aB (pv 2) aD))) (aL (bU (i:=4) nd rfl (Or.inl rfl) (jU aD)) (aL (jW PassesOwn.never rfl (My (K:=K) rfl rfl aAy (aB (qZ (pv 0) rfl) aD)) (vN rfl (bK (aR (i:=5) nd rfl (Or.inl rfl)) (bK (aR (i:=6) nd rfl (Or.inl rfl)) eU))) (aK (gY (GQ PySem.F.plainAttrs_list PySem.F.slot_list_append PySem.F.type_list_append lF (pv 4) (aB (gQ (aB (aJ aCx hr (aB (pv 6) (aB (pv 1) aD))) (aB (aJ aAx hr (aB (bM cV (vD cX (pv 2) yP (zE (pv 5))) (vD cX (pv 2) (zE (bM eQ (pv 5) aO)) yP)) aD)) aD))) aD))))) (aL (kW (i:=7) (ls:=["higher","alone"]) (M:=["self","level","shares","none","rows","offer","table","sums"]) rfl (bW.of (by rfl)) (NL.of (by rfl)) nd rfl (Or.inl rfl) (cB (pv 4)) (fun _ _ _ _=>⟨(iC (K:=K) (n:=2) rfl rfl (bK (aR (i:=0) (cJ (by rfl)) rfl (Or.inl rfl)) (bK (aR (i:=1) (cJ (by rfl)) rfl (Or.inl rfl)) eU))),cC,(aJ aAC hr (aB (pv 0) (aB (pv 1) aD)))⟩)) (aK (bC (gQ (aB (pv 1) (aB (pv 3) (aB (pv 4) (aB (aJ aCL hr (aB (aJ aAC hr (aB (pv 1) (aB (aJ aBv hr (aB (aJ K_ hr (aB aO aD)) (aB (pv 3) aD))) aD))) (aB (aJ aCv hr (aB (pv 7) aD)) aD))) aD))))))))))))),?_⟩;have hO':=hO;obtain ⟨dx,k,hx,hK⟩:=hO';have hlt:=cI ts;have gl:=g.len;refine ⟨_,rfl,x,dx,_,rfl,hx,rfl,x,ts,rfl,hO,g,hTb,fun pl H1 s1 tb1 fl h1=>?_⟩;have nx:x≠Pt:=fun e=>by rw [e] at hx; rcases hTb with z | ⟨c,z,_⟩ <;> rw [z] at hx <;> cases hx
 have hx1:H1 x=some (.ins C dx [("kinds",.ref k)]):=s1.get hTb hx (fun _ z=>nomatch z);have hK1:N7 H1 k ts:=⟨s1.get hTb hK.tp (fun _ z=>nomatch z),fun t ht=>⟨s1.get hTb (hK.each t ht).tp (fun _ z=>nomatch z),fun y hy=>⟨s1.get hTb ((hK.each t ht).rows y hy).1 (fun _ z=>nomatch z),s1.get hTb ((hK.each t ht).rows y hy).2 (fun _ z=>nomatch z)⟩⟩⟩
 have qq:=q;generalize vH ts=l at fl h1 q;refine ⟨_,rfl,x,C,dx,_,_,rfl,hx1,cf.cl,cf.nk,rfl,k,rfl,⟨_,cW.of hK1.tp⟩,fun S hS=>?_⟩;refine lG (xs:=fV ts) (fun i τ H'=>∃ v0 rs,τ = [v0,some (.ref x),some (.ref pl),none,none,none,none,none,none]/\aU H1 H'/\iJ H' S rs/\fM rs=(N8 ts l).take i) ⟨none,[],rfl,aC hS _,⟨aA,fun _ h=>nomatch h⟩,rfl⟩ ?keep ?turn ?done
 case keep =>
  rintro i τ H' hi ⟨v0,rs,rfl,hs,_⟩;exact cW.of (hK1.same hs).tp
 case turn =>
  rintro i m v τ H' hm hi hv ⟨v0,rs,rfl,hs,hR,ev⟩;obtain ⟨t,ht,rfl⟩:=fQ hv;have tm:=aDi ht;have rl:rs.length<=5:=by
   have:=congrArg aDP ev;rw [cT,aDu,qP] at this;omega
  refine vX ?_;refine ⟨_,rfl,_,rfl,t.a,pl,t.ys,l,rfl,(hK1.same hs).each t tm,g.each t tm,hs _ _ h1,fl,fun p2 H2 s2 h2=>?_⟩;have hR2:=hR.same s2;refine aZ hm hi hR2.lst (by rw [bO]; exact aN (by omega)) ⟨_,rs++[⟨p2,(QX t.ys l).1,(QX t.ys l).2⟩],rfl,(hs.trans s2).upd_new hS _,hR2.push (r:=⟨p2,(QX t.ys l).1,(QX t.ys l).2⟩) h2,?_⟩;rw [xT,ev,take_snoc (RT ht)]
 case done =>
 rintro τ H2 ⟨v0,rs,rfl,s2,hR,ev⟩;rw [hlt,<- qP ts l,aDz] at ev;have rl:rs.length=ts.length:=by rw [<- cT,ev,qP]
 have rfb:∀ r∈rs,Lg.Fb (r.t,r.b) 40 30:=eG ev (Ab g);refine ⟨_,rfl,S,rs,rfl,hR,by omega,rfb,fun pn H3 s3 h3=>?_⟩;rw [ev] at h3;refine ⟨aDK _,fun D hD=>?_⟩;have nD:=aC hD (.lst []);have sA:=(s2.trans s3)
 have hK3:=hK1.same sA;refine ⟨_,rfl,x,C,dx,_,_,rfl,nD _ _ (sA _ _ hx1),cf.cl,cf.nk,rfl,k,_,rfl,cW.of (hK3.same nD).tp,?_⟩;have hR3:=hR.same s3;refine Ih (xs:=fV ts) (fun i σ H'=>∃ us v5 v6,σ = [some (.ref x),some (.ref pl),some (.ref S),some (.ref pn),some (.ref D),v5,v6,none]/\aU H3 H'/\o7 H' D us/\us.map (fun u=>(u.f,u.g))=(sO ts l).take i) ⟨[],none,none,rfl,nD,⟨aA,fun _ h=>nomatch h⟩,rfl⟩ ?keepE ?turnE ?doneE
 case keepE =>
  rintro i σ H' hi ⟨us,v5,v6,rfl,hs,_⟩;exact cW.of (hK3.same hs).tp
 case turnE =>
  rintro i v T σ H' hv hTn ⟨us,v5,v6,rfl,hs,hU,eu⟩;obtain ⟨t,ht1,rfl⟩:=fQ hv;have tm:=aDi ht1;have hi:=(aDr.mp ht1).1;have ul:us.length<=5:=by
   have:=congrArg aDP eu;rw [aDe,aDu,oF] at this;omega
  have n1:=aC hTn (.tup [.int (i:Int),.ref t.a]);have s4:=hs.trans n1;refine ⟨T,_,rfl,cW.of aA,rfl,_,_,rfl,_,_,rfl,rfl,?_⟩;generalize aM H' T (.tup [.int (i:Int),.ref t.a])=H4 at n1 s4 ⊢;have hU4:=hU.same n1;refine ⟨_,rfl,.inl ⟨rfl,_,bB.of hU4.lst⟩,_,rfl,_,rfl,t.a,pl,t.ys,l,rfl,(hK3.same s4).each t tm,g.each t tm,(sA.trans s4) _ _ h1,fl,fun pa H5 s5 h5=>?_⟩;have s45:=s4.trans s5;have hR5:=hR3.same s45;refine ⟨_,rfl,_,rfl,_,rfl,S,_,rfl,bB.of hR5.lst,fun c1 hc1=>?_⟩;have m1:=aC hc1 (.lst (aV (cF rs) none (some (i:Int))));refine ⟨_,rfl,_,rfl,_,_,rfl,rfl,_,rfl,S,_,rfl,bB.of (m1 _ _ hR5.lst),fun c2 hc2=>?_⟩;have m2:=aC hc2 (.lst (aV (cF rs) (some ((i:Int)+1)) none));have e1:aV (cF rs) none (some (i:Int))=cF (rs.take i):=by rw [lN _ i (by rw [bO]; omega)]; unfold cF; rw [aFI]
  have e2:aV (cF rs) (some ((i:Int)+1)) none=cF (rs.drop (i+1)):=by rw [show ((i:Int)+1)=((i+1:Nat):Int) by omega,jH _ (i+1) (by rw [bO]; omega)]; unfold cF; rw [aFJ]
  refine ⟨c1,c2,_,_,rfl,rfl,m2 _ _ aA,aA,aDO (aN (by rw [e1,e2,bO,bO,aDu,aDN]; omega)),fun c3 hc3=>?_⟩;have m3:=aC hc3 (.lst (aV (cF rs) none (some (i:Int))++aV (cF rs) (some ((i:Int)+1)) none));have m13:=m1.trans (m2.trans m3);have hF:iJ (aM (aM (aM H5 c1 (.lst (aV (cF rs) none (some (i:Int))))) c2 (.lst (aV (cF rs) (some ((i:Int)+1)) none))) c3 (.lst (aV (cF rs) none (some (i:Int))++aV (cF rs) (some ((i:Int)+1)) none))) c3 (rs.take i++rs.drop (i+1)):=by
   refine ⟨by rw [aA,e1,e2]; unfold cF; rw [aDq],fun r hr=>m13 _ _ (hR5.at_ r ?_)⟩;rcases aDy.mp hr with z | z
   ·exact aEH z
   ·exact aEG z
  have e4:fM (rs.take i++rs.drop (i+1))=(N8 ts l).take i++(N8 ts l).drop (i+1):=by
   rw [<- ev];unfold fM;rw [aDq,aFI,aFJ]
  refine ⟨c3,_,rfl,hF,(by rw [aDp,aDu,aDN]; omega),(fun r hr=>rfb r ((aDy.mp hr).elim aEH aEG)),fun pb H6 s6 h6=>?_⟩;rw [e4] at h6;refine ⟨Bp,fun u hu=>?_⟩;have n2:=aC hu (.tup [.ref pa,.ref pb]);have s56:=m13.trans s6;have hU6:=hU4.same ((s5.trans s56).trans n2);refine ⟨D,sG us,.ref u,rfl,rfl,hU6.lst,by rw [jD]; exact aN (by omega),?_⟩;refine ⟨us++[⟨u,pa,pb,(JL ts l i t).1,(JL ts l i t).2⟩],_,_,rfl,((s45.trans s56).trans n2).upd_new hD _,hU6.push (u:=⟨u,pa,pb,(JL ts l i t).1,(JL ts l i t).2⟩) ⟨aA,(s56.trans n2) _ _ h5,n2 _ _ h6⟩,?_⟩;rw [aDq,eu,take_snoc (BP ht1)]
  rfl
 case doneE =>
 rintro σ H4 ⟨us,v5,v6,rfl,s4,hU,eu⟩;rw [hlt,<- oF ts l,aDz] at eu;have ul:us.length=ts.length:=by
  have:=congrArg aDP eu;rw [aDe,oF] at this;exact this
 have rowb:=RN g fl;have ub:∀ u∈us,Lg.Fb u.f 330 170/\Lg.Fb u.g 201 151:=fun u hu=>rowb (u.f,u.g) (by rw [<- eu]; exact aDg.mpr ⟨u,hu,rfl⟩);have hul:=jD us;refine ⟨_,rfl,D,rfl,⟨_,bB.of hU.lst⟩,fun S2 hS2=>?_⟩;refine cA (xs:=sG us) (fun i τ H'=>∃ v0 v1 zs,τ = [v0,v1,some (.ref x),some (.ref pl),some (.ref S),some (.ref pn),some (.ref D),v5,v6,none]/\aU H4 H'/\iJ H' S2 zs/\fM zs=((us.map fun u=>Rk.ti u.f u.g)).take i) ⟨none,none,[],rfl,aC hS2 _,⟨aA,fun _ h=>nomatch h⟩,rfl⟩ ?keepC ?turnC ?doneC
 case keepC =>
  rintro i τ H' hi ⟨v0,v1,zs,rfl,hs,_⟩;exact bB.of (hU.same hs).lst
 case turnC =>
  rintro i m v τ H' hm hi hv ⟨v0,v1,zs,rfl,hs,hZ,ez⟩;obtain ⟨u,hu1,rfl⟩:=uI hv;have um:=aDi hu1;obtain ⟨a1,a2,a3⟩:=(hU.same hs).at_ u um;have zl:zs.length<=5:=by
   have:=congrArg aDP ez;rw [cT,aDu,aDe] at this;omega
  refine ⟨u.u,_,rfl,cW.of a1,rfl,_,_,rfl,_,_,rfl,rfl,?_⟩;refine dU ?_;refine ⟨_,rfl,_,rfl,u.p,u.q,_,_,_,_,rfl,iR a2,iR a3,R1 (ub u um).1 (ub u um).2,RB (ub u um).1 (ub u um).2,fun p2 H2 s2 h2=>?_⟩;have hZ2:=hZ.same s2;refine aZ hm hi hZ2.lst (by rw [bO]; exact aN (by omega)) ⟨_,_,zs++[⟨p2,(Rk.ti u.f u.g).1,(Rk.ti u.f u.g).2⟩],rfl,(hs.trans s2).upd_new hS2 _,hZ2.push (r:=⟨p2,(Rk.ti u.f u.g).1,(Rk.ti u.f u.g).2⟩) h2,?_⟩;rw [xT,ez,take_snoc (show (us.map fun u=>Rk.ti u.f u.g)[i]? = some (Rk.ti u.f u.g) by rw [aDm,hu1]; rfl)]
 case doneC =>
 rintro τ H5 ⟨v0,v1,zs,rfl,s5,hZ,ez⟩;rw [hul] at ez;have ez:fM zs=us.map fun u=>Rk.ti u.f u.g:=by rw [ez]; exact aEV (by rw [aDe]; exact aDn _)
 have zl:zs.length=us.length:=by rw [<- cT,ez,aDe]
 have zb:∀ f∈fM zs,Lg.Fb f 531 321:=fun f hf=>by
  rw [ez] at hf;obtain ⟨u,hu,rfl⟩:=aDg.mp hf;exact (ub u hu).1.ti (ub u hu).2
 have nb:Lg.Fb (tK ts l) 201 151:=Ml (by rw [qP]; omega) (Ab g);have mb:Lg.Fb (Rk.mi (1,1) (tK ts l)) 203 152:=Of.Fb.mi1 nb (by decide) (by decide);have tb:Lg.Fb (Rk.ti l (Rk.mi (1,1) (tK ts l))) 355 295:=fl.ti mb;have s35:=s4.trans s5;refine ⟨_,rfl,_,rfl,_,rfl,_,rfl,1,rfl,fun p1 H6 s6 h6=>?_⟩;refine ⟨_,rfl,p1,pn,_,_,_,_,rfl,iR h6,iR (f:=tK ts l) ((s35.trans s6) _ _ h3),R1 Lg.xU nb,RB Lg.xU nb,fun p2 H7 s7 h7=>?_⟩;have s37:=(s35.trans s6).trans s7;refine ⟨pl,p2,_,_,_,_,rfl,iR ((sA.trans s37) _ _ h1),iR (f:=Rk.mi (1,1) (tK ts l)) h7,R1 fl mb,RB fl mb,fun p4 H8 s8 h8=>?_⟩;have s58:=(s6.trans s7).trans s8;refine ⟨_,rfl,S2,zs,rfl,hZ.same s58,by omega,(fun r hr=>by
  have h:=eG rfl zb r hr;exact ⟨h.pos,aDh h.t (by decide),aDh h.b (by decide)⟩),fun p5 H9 s9 h9=>?_⟩
 have tf:=Qf (fs:=fM zs) (by rw [cT]; omega) zb;refine ⟨p4,p5,_,_,_,_,rfl,iR (f:=Rk.ti l (Rk.mi (1,1) (tK ts l))) (s9 _ _ h8),iR h9,R1 tb tf,RB tb tf,fun p6 H10 Nf h10=>?_⟩;refine ⟨aDO (aN (show 4<=1000 by decide)),fun T hT=>?_⟩;have nT:=aC hT (.tup [.ref pl,.ref pn,.ref D,.ref p6]);have s5T:=(s58.trans s9).trans (Nf.trans nT);have s3T:=s35.trans s5T;refine q T _ (s1.trans (sA.trans s3T).toT) (tb1.same (sA.trans s3T)) ⟨pl,pn,D,p6,us,aA,(sA.trans s3T) _ _ h1,s3T _ _ h3,hU.same (s5.trans s5T),eu,nT _ _ ?_⟩;have ee:(sO ts l).map (fun r=>Rk.ti r.1 r.2)=fM zs:=by rw [ez,<- eu,aDH]; rfl
 unfold Qa;rw [ee];exact h10
theorem tR {H:Hp}{T:String}{v:V}{t:Value}(h1:∀ K:PySem.W.Frag,j4 K H v t)(h2:∀ K:PySem.W.Frag,PySem.W.kitOne K t (.type T)=some false):Js H T v:=fun K=>⟨t,h1 K,h2 K⟩
theorem mK {n:Nat}(h:n<=1000):n<=sizeLine:=aDO (aN h)
def M8 (R:V->Prop):List V->Prop
 | []=>True
 | v::vs=>R v/\M8 R vs
theorem M8.mem {R:V->Prop}:∀ {vs:List V},M8 R vs->∀ v∈vs,R v
 | [],_,_,h=>nomatch h
 | x::vs,h,v,hv=>by
  rcases aDA.mp hv with e | e
  ·rw [e]; exact h.1
  ·exact M8.mem h.2 v e
theorem vW {R:V->Prop}{xs:List V}(h:M8 R xs){i:Int}(h0:0<=i)(h1:i<xs.length):∃ v,Em xs i=some v/\R v:=by
 have hn:i.toNat<xs.length:=by omega
 have e:=lW (aDl hn);rw [show ((i.toNat:Nat):Int)=i by omega] at e;exact ⟨_,e,h.mem _ (aDU hn)⟩
theorem qK {Pb:Nat->V->Bool->Prop}{xs:List V}{j:Nat}{v:V}(hx:∀ (i:Nat) x,xs[i]? = some x->∃ b,Pb i x b)(hj:xs[j]? = some v)(hv:Pb j v false):∃ bs:List Bool,bs.length=xs.length/\(∀ (i:Nat) x,xs[i]? = some x->Pb i x (bs.getD i false))/\bs.all id=false:=by
 classical
 let f:Nat->Bool:=fun i=>if i=j then false else if h:∃ b x,xs[i]? = some x/\Pb i x b then h.choose else false
 have hl:j<xs.length:=(aDr.mp hj).1;have gd:∀ i,i<xs.length->((aEs xs.length).map f).getD i false=f i:=fun i hi=>by
  rw [aFc,aDm,aFG hi]
  rfl
 refine ⟨(aEs xs.length).map f,by rw [aDe,aEY],fun i x hi=>?_,?_⟩
 ·rw [gd i (aDr.mp hi).1]
  by_cases e:i=j
  ·subst e;rw [hi] at hj;cases hj;show Pb i _ (if i=i then false else _);rw [if_pos rfl];exact hv
  ·have h:∃ b x,xs[i]? = some x/\Pb i x b:=by
    obtain ⟨b,hb⟩:=hx i x hi;exact ⟨b,x,hi,hb⟩
   show Pb i x (if i=j then false else if h:∃ b x,xs[i]? = some x/\Pb i x b then h.choose else false);rw [if_neg e,dif_pos h];obtain ⟨y,hy,hp⟩:=h.choose_spec;rw [hi] at hy;cases hy;exact hp
 ·rw [List.all_eq_false];refine ⟨f j,aDg.mpr ⟨j,aEd.mpr hl,rfl⟩,?_⟩;show ¬ (if j=j then false else _)=true;rw [if_pos rfl]
  decide
theorem lE {xs:List V}{n:Nat}{v:V}(hn:n<xs.length):(xs.take n++[v]++xs.drop (n+1)).length=xs.length:=by
 rw [aDp,aDp,aDu,aDN,aDs];omega
theorem zT {xs:List V}{n:Nat}{v:V}(hn:n<xs.length):(xs.take n++[v]++xs.drop (n+1))[n]? = some v:=by
 have lt:(xs.take n).length=n:=by rw [aDu]; omega
 rw [aES,aDM (by omega),lt,aEz]
 rfl
theorem zR {xs:List V}{n i:Nat}{v x:V}(hn:n<xs.length)(h:(xs.take n++[v]++xs.drop (n+1))[i]? = some x):(i=n/\x=v)∨(i≠n/\xs[i]? = some x):=by
 have lt:(xs.take n).length=n:=by rw [aDu]; omega
 by_cases e:i=n
 ·subst e;rw [zT hn] at h;cases h;exact .inl ⟨rfl,rfl⟩
 ·refine .inr ⟨e,?_⟩
  by_cases hlt:i<n
  ·rw [aES,aD3 (by omega),aEJ hlt] at h;exact h
  ·rw [aDM (by rw [aDp,lt,aDs]; omega),aDp,lt,aDs,List.getElem?_drop] at h;rw [show n+1+(i-(n+1))=i by omega] at h;exact h
theorem R6 {H:Hp}{x:Ir}(h:Cq H x):∃ b,kJ H (.ref x.p) b:=⟨_,.two h (.int _) (.int _)⟩
theorem Bl {H:Hp}{a:Addr}{xs:List V}(e:H a=some (.lst xs))(h1:1<=xs.length)(h8:xs.length<=8)(hx:∀ (i:Nat) x,xs[i]? = some x->∃ b,kJ H x b){j:Nat}{v:V}(hj:xs[j]? = some v)(hv:kJ H v false):dX H (.ref a) false:=by
 obtain ⟨bs,hb,hh,hf⟩:=qK (Pb:=fun _=>kJ H) hx hj hv;have r:=dX.all e h1 h8 hb hh;rw [hf] at r;exact r
theorem rQ {H:Hp}{a:Addr}{xs:List Ir}{v:V}(e:H a=some (.lst (cY xs++[v])))(h8:xs.length<=7)(hx:∀ x∈xs,Cq H x)(hv:kJ H v false):dX H (.ref a) false:=by
 have hl:=dI xs;refine Bl e (by rw [aDp,aDs]; omega) (by rw [aDp,aDs]; omega) (fun i x hi=>?_) (j:=xs.length) (by rw [aDM (by omega),hl,aEz]; rfl) hv
 by_cases h:i<(cY xs).length
 ·rw [aD3 h] at hi;obtain ⟨z,hz,rfl⟩:=uM hi;exact R6 (hx z (aDi hz))
 ·have h2:=(aDr.mp hi).1;rw [aDp,aDs] at h2;have e:i=(cY xs).length:=by omega
  rw [e,aDM (aDn _),aEz] at hi;cases hi;exact ⟨false,hv⟩
theorem HY {H:Hp}{a:Addr}{ls:List Ls}{n:Nat}{v:V}(g:GL ls)(hL:∀ l∈ls,gK H l.a l.xs)(hn:n<ls.length)(e:H a=some (.lst ((bG ls).take n++[v]++(bG ls).drop (n+1))))(hv:dX H v false):d9 H (.ref a) false:=by
 have hl:=cG ls;have gl:=g.len;have hn':n<(bG ls).length:=by omega
 obtain ⟨bs,hb,hh,hf⟩:=qK (Pb:=fun _=>dX H) (fun i x hi=>by
  rcases zR hn' hi with ⟨_,z⟩ | ⟨_,z⟩
  ·rw [z]; exact ⟨false,hv⟩
  ·obtain ⟨l,hl1,rfl⟩:=nW z;have hm:=aDi hl1;exact ⟨true,dX.good (hL l hm) (g.gi l hm)⟩) (zT hn') hv
 have r:=d9.all e (by rw [lE hn']; omega) (by rw [lE hn']; omega) hb hh;rw [hf] at r;exact r
def Pn (K:PySem.W.Frag):Sp:=fun vs H Q _=>∃ (a:Addr) (ns:List Int),vs=[.ref a]/\bB K H a (ns.map V.int)/\∀ (D:Addr) (H':Hp) (ls:List Ls),aU H H'->pD H' D ls->GL ls->Q (.ref D) H'
def Q4:Sp:=fun vs H Q _=>∃ (a:Addr) (ls:List Ls) (c:Int),vs=[.ref a,.int c]/\pD H a ls/\GL ls/\∀ (v:V) (H':Hp),aU H H'->d9 H' v false->Q v H'
def Qd:Sp:=fun vs H Q _=>∃ (m c:Int),vs=[.int m,.int c]/\1<=m/\m<=5/\∀ (v:V) (H':Hp),aU H H'->fY H' m v->Q v H'
def Pk:Sp:=fun vs H Q _=>∃ (a:Addr) (ls:List Ls) (c:Int),vs=[.ref a,.int c]/\pD H a ls/\GL ls/\∀ (v:V) (H':Hp),aU H H'->fD H' (p7 ls) v->Q v H'
theorem wH {n:Nat}{f:Addr}{fd:FuncData}(F:fC K "_law_lists" "_law_lists" (top 53) f fd){aAz:Addr}{V_:FuncData}(z_:eO P w K mg base n "_law_cell" ["_law_script","_law_k"] (Dy K) aAz V_)(I_:mg "range" = none):bH P w K mg base fO (n+1) f fd ["_law_script"] (Pn K):=by
 refine F.ok oX (fun vs H Q E h=>?_) (fun cdv A outer s H vs Q E hr h=>?_)
 ·obtain ⟨a,ns,rfl,_⟩:=h
  rfl
 obtain ⟨a,ns,rfl,hS,q⟩:=h;have nd:=oX.nd;refine ⟨_,(aL (bU (i:=1) nd rfl (Or.inl rfl) (jU aD)) (aL (jW PassesOwn.never rfl (rA rfl I_ (aB (bM eQ aO (bM fL (aJ z_ hr (aB (pv 0) (aB aO aD))) aO)) aD)) (aR (i:=2) nd rfl (Or.inr rfl)) (aL (bU (i:=3) nd rfl (Or.inr rfl) (aJ z_ hr (aB (pv 0) (aB (bM eQ aO (pv 2)) aD)))) (aK (gY (GQ PySem.F.plainAttrs_list PySem.F.slot_list_append PySem.F.type_list_append lF (pv 1) (aB (dD (ls:=["_law_j"]) (M:=["_law_script","_law_lists_here","_law_k","_law_cell_here"]) rfl (bW.of (by rfl)) (NL.of (by rfl)) (rA rfl I_ (aB (bM eQ aO (bM fL (pv 3) aO)) aD)) (fun _ _ _ _=>⟨(aR (i:=0) (cJ (by rfl)) rfl (Or.inl rfl)),cC,(gQ (aB (bM eQ (bM eQ (bM Dq aO (pv 3)) (bM Dq aO (pv 0))) (bM fL (bM j5 (pv 4) aO) aO)) (aB (bM eQ aO (pv 0)) aD)))⟩)) aD)))))) (aK (bC (pv 1))))),?_⟩;have d1:=aDV (pR ns 0) (show (5:Int)≠0 by decide);have d2:=aDS (pR ns 0) (show (0:Int)<5 by decide);refine ⟨aDK _,fun D hD=>?_⟩;have nD:=aC hD (.lst []);refine ⟨_,rfl,a,ns,0,rfl,nD.seq hS,by decide,_,_,rfl,rfl,(by show (0:Int)<5; decide),_,_,rfl,rfl,(1+pR ns 0%5),rfl,by omega,by omega,?_⟩;refine Hz (n:=(1+pR ns 0%5).toNat) (fun i σ H'=>∃ ls v2 v3,σ = [some (.ref a),some (.ref D),v2,v3]/\aU H H'/\pD H' D ls/\ls.length=i/\(∀ l∈ls,(l.xs≠[]/\l.xs.length<=3)/\(∀ x∈l.xs,(0<=x.v/\x.v<=100)/\1<=x.w/\x.w<=3)/\(l.xs.map Ir.v).Pairwise (· < ·))/\(∀ l∈ls,l.a≠D)) ⟨[],none,none,rfl,nD,⟨aA,fun _ h=>nomatch h⟩,rfl,(fun _ h=>nomatch h),fun _ h=>nomatch h⟩ ?_ ?_
 ·rintro i σ H' hi ⟨ls,v2,v3,rfl,hs,hE,hl,ge,nn⟩;refine ⟨_,rfl,_,rfl,_,_,rfl,rfl,a,ns,1+(0+(i:Int)),rfl,hs.seq hS,by omega,?_⟩;generalize pR ns (1+(0+(i:Int)))=c;have c1:=aDV c (show (3:Int)≠0 by decide);have c2:=aDS c (show (0:Int)<3 by decide);have b1:=aDV (c/3) (show (5:Int)≠0 by decide);have b2:=aDS (c/3) (show (0:Int)<5 by decide);refine ⟨_,rfl,.inl ⟨rfl,_,bB.of hE.lst⟩,_,rfl,_,_,rfl,rfl,(by show (0:Int)<3; decide),_,_,rfl,rfl,(1+c%3),rfl,by omega,by omega,fun R hR=>?_⟩;have nR:=aC hR (.lst []);refine vK (n:=(1+c%3).toNat) (fun j τ H''=>∃ v0 xs,τ = [v0,some (.ref a),some (.ref D),some (.int (0+(i:Int))),some (.int c)]/\aU H' H''/\gK H'' R xs/\xs.length=j/\(∀ x∈xs,(0<=x.v/\x.v<=100)/\1<=x.w/\x.w<=3)/\(xs.map Ir.v).Pairwise (· < ·)/\∀ x∈xs,x.v<7*(0+(i:Int))+3*(0+(j:Int))+c/3%5) ⟨none,[],rfl,nR,⟨aA,fun _ h=>nomatch h⟩,rfl,(fun _ h=>nomatch h),aFh.nil,fun _ h=>nomatch h⟩ ?turn ?done
  case turn =>
   rintro j m τ H'' hm hj ⟨v0,xs,rfl,hs2,hT,hl2,pr,pw,up⟩;unfold mL;refine dU ?_;refine ⟨_,rfl,_,_,rfl,rfl,.inl ⟨by decide,by decide⟩,_,rfl,_,_,rfl,rfl,.inl ⟨by decide,by decide⟩,_,_,rfl,rfl,_,rfl,_,_,rfl,rfl,⟨by decide,by decide⟩,_,_,rfl,rfl,(by show (0:Int)<5; decide),_,_,rfl,rfl,_,rfl,_,_,rfl,rfl,Bp,fun p2 hp2=>?_⟩;have n2:=aC hp2 (.tup [.int (7*(0+(i:Int))+3*(0+(j:Int))+c/3%5),.int (1+(0+(j:Int)))]);have hT2:=hT.same n2;refine aZ hm hj hT2.lst (by rw [dI]; exact aN (by omega)) ⟨_,xs++[⟨p2,7*(0+(i:Int))+3*(0+(j:Int))+c/3%5,1+(0+(j:Int))⟩],rfl,(hs2.trans n2).upd_new hR _,hT2.push (y:=⟨p2,7*(0+(i:Int))+3*(0+(j:Int))+c/3%5,1+(0+(j:Int))⟩) aA,?_,?_,?_,?_⟩
   ·rw [aDp,hl2]
    rfl
   ·intro y hy;rcases aDy.mp hy with z | z
    ·exact pr y z
    ·rw [aDw.mp z];exact ⟨⟨by show (0:Int)<=7*(0+(i:Int))+3*(0+(j:Int))+c/3%5; omega,by show 7*(0+(i:Int))+3*(0+(j:Int))+c/3%5<=100; omega⟩,by show 1<=1+(0+(j:Int)); omega,by show 1+(0+(j:Int))<=3; omega⟩
   ·rw [aDq];refine aE5.mpr ⟨pw,List.pairwise_singleton _ _,fun u hu z hz=>?_⟩;obtain ⟨y,hy,rfl⟩:=aDg.mp hu;rw [aDw.mp hz];exact up y hy
   ·intro y hy;rcases aDy.mp hy with z | z
    ·have:=up y z;omega
    ·rw [aDw.mp z];show 7*(0+(i:Int))+3*(0+(j:Int))+c/3%5<_;omega
  case done =>
   rintro τ H'' ⟨v0,xs,rfl,hs2,hT,hl2,pr,pw,up⟩;have hE2:=hE.same hs2;refine ⟨D,bG ls,.ref R,rfl,rfl,hE2.lst,by rw [cG]; exact aN (by omega),?_⟩;have nRD:R≠D:=fun e=>by rw [e,hE.lst] at hR; cases hR
   refine ⟨ls++[⟨R,xs⟩],_,_,rfl,(hs.trans hs2).upd_new hD _,hE2.push (l:=⟨R,xs⟩) hT nn nRD,?_,fun x hx=>?_,fun x hx=>?_⟩
   ·rw [aDp,hl]
    rfl
   ·rcases aDy.mp hx with z | z
    ·exact ge x z
    ·rw [aDw.mp z];refine ⟨⟨fun e=>?_,by show xs.length<=3; omega⟩,pr,pw⟩;have e:xs=[]:=e;rw [e] at hl2;have:(1+c%3).toNat=0:=hl2.symm;omega
   ·rcases aDy.mp hx with z | z
    ·exact nn x z
    ·rw [aDw.mp z];exact nRD
 ·rintro σ H' ⟨ls,v2,v3,rfl,hs,hE,hl,ge,nn⟩;refine ⟨_,rfl,q D H' ls hs hE ⟨fun e=>?_,by omega,fun l hl=>(ge l hl).1,fun l hl=>(ge l hl).2.1,fun l hl=>(ge l hl).2.2⟩⟩;rw [e] at hl;have:(1+pR ns 0%5).toNat=0:=hl.symm;omega
theorem rZ {n:Nat}{f:Addr}{fd:FuncData}(F:fC K "_law_no_lists" "_law_no_lists" (top 54) f fd)(k_:mg "tuple" = none)(e_:mg "len" = none):bH P w K mg base fO (n+1) f fd ["_law_lists_here","_law_cell_here"] Q4:=by
 refine F.ok lL (fun vs H Q E h=>?_) (fun cdv A outer s H vs Q E hr h=>?_)
 ·obtain ⟨a,ls,c,rfl,_⟩:=h
  rfl
 obtain ⟨a,ls,c,rfl,hL,g,q⟩:=h;have nd:=lL.nd;refine ⟨_,N6.h (bL (dY (i:=2) nd rfl (Or.inl rfl) (bR fL (bR j5 (qv 1) bD) (uZ bZ rfl e_ fX (aF (qv 0) aX)))) (bL (dY (i:=3) nd rfl (Or.inl rfl) (nA fG (qv 0) (qv 2) (fun _ _=>rfl))) (bL (R4 (nA fG (qv 3) bD (fun _ _=>rfl)) (vN rfl (bK (aR (i:=4) nd rfl (Or.inl rfl)) (bK (aR (i:=5) nd rfl (Or.inl rfl)) eU)))) (bL (dY (i:=6) nd rfl (Or.inl rfl) (b7 (aF (b7 aX) (aF (cQ cX (bR cV (qv 0) (bR RD (b7 (aF (qv 3) aX)) bD)) dN (dO bD)) (aF (lM (cZ (K:=K) rfl) rfl k_ iH (aF (qv 0) aX)) (aF qY (aF bD (aF m8 (aF rR (aF Ku aX)))))))))) (bL (xH (uD GD (bR fL (qv 1) bD) bD (eE _)) (gU (lR (nA fG (qv 6) (bR fL (qv 1) bD) (fun _ _=>rfl)))) n8) (bL (dY (i:=7) nd rfl (Or.inl rfl) (b7 (aF (b7 aX) (aF (lM (cZ (K:=K) rfl) rfl k_ iH (aF (qv 3) aX)) (aF qY (aF bD (aF (bR cV (qv 3) (b7 (aF (J0 (aF (qv 4) (aF bD aX))) aX))) (aF (bR cV (qv 3) (b7 (aF (J0 (aF (bR rN bD bD) (aF (qv 5) aX))) aX))) (aF (bR cV (qv 3) (b7 (aF (b7 (aF (qv 4) (aF (qv 5) aX))) aX))) (aF (b7 (aF (qv 3) aX)) aX)))))))))) (gU (lR (bR cV (bR cV (cQ cX (qv 0) dN (dO (qv 2))) (b7 (aF (nA fG (qv 7) (bR fL (qv 1) bD) (fun _ _=>rfl)) aX))) (cQ cX (qv 0) (dO (bR eQ (qv 2) bD)) dN)))))))))),?_⟩;have hlr:=cG ls;have gl:=g.len;have hpos:1<=ls.length:=aDT.mpr g.ne;obtain ⟨n,hn,en⟩:∃ n:Nat,n<ls.length/\c/16%(ls.length:Int)=(n:Int):=by
  have a1:=aDV (c/16) (show (ls.length:Int)≠0 by omega);have a2:=aDS (c/16) (show (0:Int)<(ls.length:Int) by omega);exact ⟨(c/16%(ls.length:Int)).toNat,by omega,by omega⟩
 have ex:ls[n]? = some ls[n]:=aDl hn;have hm:=aDU hn;generalize ls[n]=l at ex hm;have hl:=hL.each l hm;have gr:=g.r l hm;have lp:0<l.xs.length:=aDT.mpr gr.1;have hil:=dI l.xs;have ex0:l.xs[0]? = some l.xs[0]:=aDl lp;have hm0:=aDU lp;generalize l.xs[0]=x at ex0 hm0;have hx:H x.p=some (.tup [.int x.v,.int x.w]):=hl.rows x hm0;have gx:=g.v l hm x hm0;have e1:aV (bG ls) none (some (c/16%((bG ls).length:Int)))=(bG ls).take n:=by rw [hlr,en]; exact lN _ n (by omega)
 have e2:aV (bG ls) (some (c/16%((bG ls).length:Int)+1)) none=(bG ls).drop (n+1):=by rw [hlr,en,show ((n:Int)+1)=((n+1:Nat):Int) by omega]; exact jH _ (n+1) (by omega)
 refine ⟨_,rfl,_,_,rfl,rfl,⟨by decide,by decide⟩,_,rfl,a,_,rfl,.inl (bB.of hL.lst),_,_,rfl,rfl,(by rw [hlr]; omega),?_⟩;have hat:Em (bG ls) (c/16%((bG ls).length:Int))=some (.ref l.a):=by
  rw [hlr,en];exact lW (by unfold bG; rw [aDm,ex]; rfl)
 have hat0:Em (cY l.xs) 0=some (.ref x.p):=lW (j:=0) (by unfold cY; rw [aDm,ex0]; rfl);refine ⟨_,rfl,_,rfl,a,_,_,_,rfl,rfl,bB.of hL.lst,hat,?_⟩;refine ⟨_,rfl,l.a,_,_,_,rfl,rfl,bB.of hl.lst,hat0,x.p,_,rfl,cW.of hx,rfl,_,_,rfl,_,_,rfl,rfl,?_⟩;refine ⟨aDK _,fun l1 h1=>?_⟩;have t1:=aC h1 (.lst []);refine ⟨_,rfl,_,rfl,wJ,fun l2 h2=>?_⟩;have t2:=aC h2 (.lst [V.ref l.a]);refine ⟨l2,9,_,rfl,rfl,aA,by decide,by decide,mK (by show 1*9<=1000; decide),fun l3 h3=>?_⟩;have t3:=aC h3 (.lst (aDx (9:Int).toNat [V.ref l.a]).flatten);have t13:=t1.trans (t2.trans t3);refine ⟨a,l3,_,_,rfl,rfl,t13 _ _ hL.lst,aA,mK (by rw [hlr,len_rep]; show ls.length+9*1<=1000; omega),fun l4 h4=>?_⟩;have t4:=aC h4 (.lst (bG ls++(aDx (9:Int).toNat [V.ref l.a]).flatten));refine ⟨_,rfl,l4,_,rfl,bB.of aA,fun l5 h5=>?_⟩;have len9:(aV (bG ls++(aDx (9:Int).toNat [V.ref l.a]).flatten) none (some 9)).length=9:=by
  rw [show (9:Int)=((9:Nat):Int) from rfl,lN _ 9 (by rw [aDp,hlr,len_rep]; show 9<=ls.length+9*1; omega),aDu,aDp,hlr,len_rep];show min 9 (ls.length+9*1)=9;omega
 generalize aV (bG ls++(aDx (9:Int).toNat [V.ref l.a]).flatten) none (some 9)=zs at len9;have t5:=aC h5 (.lst zs);have t15:=t13.trans (t4.trans t5);refine ⟨_,rfl,a,_,rfl,.inl ⟨bB.of (t15 _ _ hL.lst),fun l6 h6=>?_⟩⟩;have t6:=aC h6 (.tup (bG ls));intro l7 h7;have t7:=aC h7 (.dK []);refine ⟨mK (show 8<=1000 by decide),fun S hS=>?_⟩;have tS:=aC hS (.lst [V.ref l1,V.ref l5,V.ref l6,V.non,V.int 5,V.bl true,V.str "ab",V.ref l7]);have w7:=t7.trans tS;have w6:=t6.trans w7;have w5:=t5.trans w6;have f1:=((t2.trans t3).trans (t4.trans w5)) _ _ (aA (o:=.lst []));have f5:=w6 _ _ (aA (o:=.lst zs));have f6:=w7 _ _ (aA (o:=.tup (bG ls)));have f7:=tS _ _ (aA (o:=.dK []));have sS:=t15.trans w6;have hS1:(aM (aM (aM (aM (aM (aM (aM (aM H l1 (.lst [])) l2 (.lst [V.ref l.a])) l3 (.lst (aDx (9:Int).toNat [V.ref l.a]).flatten)) l4 (.lst (bG ls++(aDx (9:Int).toNat [V.ref l.a]).flatten))) l5 (.lst zs)) l6 (.tup (bG ls))) l7 (.dK [])) S (.lst [V.ref l1,V.ref l5,V.ref l6,V.non,V.int 5,V.bl true,V.str "ab",V.ref l7])) S=some (.lst [V.ref l1,V.ref l5,V.ref l6,V.non,V.int 5,V.bl true,V.str "ab",V.ref l7]):=aA;generalize (aM (aM (aM (aM (aM (aM (aM (aM H l1 (.lst [])) l2 (.lst [V.ref l.a])) l3 (.lst (aDx (9:Int).toNat [V.ref l.a]).flatten)) l4 (.lst (bG ls++(aDx (9:Int).toNat [V.ref l.a]).flatten))) l5 (.lst zs)) l6 (.tup (bG ls))) l7 (.dK [])) S (.lst [V.ref l1,V.ref l5,V.ref l6,V.non,V.int 5,V.bl true,V.str "ab",V.ref l7]))=H1 at sS f1 f5 f6 f7 hS1 ⊢;clear tS w7 w6 w5 t7 t6 t5 t15 t4 t13 t3 t2 t1 hS h7 h6 h5 h4 h3 h2 h1;have m0:=aDV c (show (16:Int)≠0 by decide);have k0:=aDV c (show (8:Int)≠0 by decide);have k1:=aDS c (show (0:Int)<8 by decide);refine ⟨_,rfl,_,_,rfl,rfl,(by show (0:Int)<16; decide),_,_,rfl,rfl,_,rfl,?_⟩;refine BJ (fun z=>?_) (fun _=>?_)
 ·have z1:c%16<8:=of_decide_eq_true z;obtain ⟨v,hv,hr⟩:=vW (R:=fun v=>d9 H1 v false) (xs:=[V.ref l1,V.ref l5,V.ref l6,V.non,V.int 5,V.bl true,V.str "ab",V.ref l7])
   ⟨.len f1 (by simp),.len f5 (by omega),.no (tR (fun K=>.tup f6) fun K=>rfl),.no (tR (fun K=>.non) fun K=>rfl),.no (tR (fun K=>.int 5) fun K=>rfl),.no (tR (fun K=>.bl true) fun K=>rfl),.no (tR (fun K=>.str "ab") fun K=>rfl),.no (tR (fun K=>.dK f7) fun K=>rfl),trivial⟩ m0 z1
  exact ⟨_,rfl,_,rfl,_,_,rfl,rfl,(by show (0:Int)<16; decide),S,_,_,_,rfl,rfl,bB.of hS1,hv,q v H1 sS hr⟩
 ·have hL1:=hL.same sS;have hl1:=hL1.each l hm;refine ⟨aDK _,fun l1 h1=>?_⟩;have t1:=aC h1 (.lst []);refine ⟨_,rfl,l.a,_,rfl,.inl ⟨bB.of (t1 _ _ hl1.lst),fun l2 h2=>?_⟩⟩;have t2:=aC h2 (.tup (cY l.xs));have t12:=t1.trans t2;refine ⟨_,rfl,_,rfl,Bp,fun p3 h3=>?_⟩;have t3:=aC h3 (.tup [V.int x.v,V.int 0]);refine ⟨wJ,fun l4 h4=>?_⟩;have t4:=aC h4 (.lst [V.ref p3]);have t14:=t12.trans (t3.trans t4);refine ⟨l.a,l4,_,_,rfl,rfl,t14 _ _ hl1.lst,aA,mK (by rw [hil,aDs]; omega),fun l5 h5=>?_⟩;have t5:=aC h5 (.lst (cY l.xs++[V.ref p3]));have t15:=t14.trans t5;refine ⟨_,rfl,_,_,rfl,rfl,_,rfl,Bp,fun p6 h6=>?_⟩;have t6:=aC h6 (.tup [V.int (0-1),V.int x.w]);refine ⟨wJ,fun l7 h7=>?_⟩;have t7:=aC h7 (.lst [V.ref p6]);have t17:=t15.trans (t6.trans t7);refine ⟨l.a,l7,_,_,rfl,rfl,t17 _ _ hl1.lst,aA,mK (by rw [hil,aDs]; omega),fun l8 h8=>?_⟩;have t8:=aC h8 (.lst (cY l.xs++[V.ref p6]));have t18:=t17.trans t8;refine ⟨_,rfl,_,rfl,_,rfl,Bp,fun p9 h9=>?_⟩;have t9:=aC h9 (.lst [V.int x.v,V.int x.w]);refine ⟨wJ,fun l10 h10=>?_⟩;have t10:=aC h10 (.lst [V.ref p9]);have t110:=t18.trans (t9.trans t10);refine ⟨l.a,l10,_,_,rfl,rfl,t110 _ _ hl1.lst,aA,mK (by rw [hil,aDs]; omega),fun l11 h11=>?_⟩;have t11:=aC h11 (.lst (cY l.xs++[V.ref p9]));have t111:=t110.trans t11;refine ⟨_,rfl,wJ,fun l12 h12=>?_⟩;have t12':=aC h12 (.lst [V.ref l.a]);refine ⟨mK (show 8<=1000 by decide),fun S2 hS2=>?_⟩;have tS:=aC hS2 (.lst [V.ref l1,V.ref l2,V.non,V.int 5,V.ref l5,V.ref l8,V.ref l11,V.ref l12]);have w12:=t12'.trans tS;have w11:=t11.trans w12;have w10:=t10.trans w11;have w9:=t9.trans w10;have w8:=t8.trans w9;have w7:=t7.trans w8;have w6:=t6.trans w7;have w5:=t5.trans w6;have w3:=t3.trans (t4.trans w5);have g1:=(t2.trans w3) _ _ (aA (o:=.lst []));have g2:=w3 _ _ (aA (o:=.tup (cY l.xs)));have g3:=(t4.trans w5) _ _ (aA (o:=.tup [V.int x.v,V.int 0]));have g5:=w6 _ _ (aA (o:=.lst (cY l.xs++[V.ref p3])));have g6:=w7 _ _ (aA (o:=.tup [V.int (0-1),V.int x.w]));have g8:=w9 _ _ (aA (o:=.lst (cY l.xs++[V.ref p6])));have g9:=w10 _ _ (aA (o:=.lst [V.int x.v,V.int x.w]));have g11:=w12 _ _ (aA (o:=.lst (cY l.xs++[V.ref p9])));have g12:=tS _ _ (aA (o:=.lst [V.ref l.a]));have s2:=t111.trans w12;have gS:(aM (aM (aM (aM (aM (aM (aM (aM (aM (aM (aM (aM (aM H1 l1 (.lst [])) l2 (.tup (cY l.xs))) p3 (.tup [V.int x.v,V.int 0])) l4 (.lst [V.ref p3])) l5 (.lst (cY l.xs++[V.ref p3]))) p6 (.tup [V.int (0-1),V.int x.w])) l7 (.lst [V.ref p6])) l8 (.lst (cY l.xs++[V.ref p6]))) p9 (.lst [V.int x.v,V.int x.w])) l10 (.lst [V.ref p9])) l11 (.lst (cY l.xs++[V.ref p9]))) l12 (.lst [V.ref l.a])) S2 (.lst [V.ref l1,V.ref l2,V.non,V.int 5,V.ref l5,V.ref l8,V.ref l11,V.ref l12])) S2=some (.lst [V.ref l1,V.ref l2,V.non,V.int 5,V.ref l5,V.ref l8,V.ref l11,V.ref l12]):=aA;generalize (aM (aM (aM (aM (aM (aM (aM (aM (aM (aM (aM (aM (aM H1 l1 (.lst [])) l2 (.tup (cY l.xs))) p3 (.tup [V.int x.v,V.int 0])) l4 (.lst [V.ref p3])) l5 (.lst (cY l.xs++[V.ref p3]))) p6 (.tup [V.int (0-1),V.int x.w])) l7 (.lst [V.ref p6])) l8 (.lst (cY l.xs++[V.ref p6]))) p9 (.lst [V.int x.v,V.int x.w])) l10 (.lst [V.ref p9])) l11 (.lst (cY l.xs++[V.ref p9]))) l12 (.lst [V.ref l.a])) S2 (.lst [V.ref l1,V.ref l2,V.non,V.int 5,V.ref l5,V.ref l8,V.ref l11,V.ref l12]))=H2 at gS g1 g2 g3 g5 g6 g8 g9 g11 g12 s2 ⊢;clear tS w12 w11 w10 w9 w8 w7 w6 w5 w3 t12' t111 t11 t110 t10 t9 t18 t8 t17 t7 t6 t15 t5 t14 t4 t3 t12 t2 t1 hS2 h12 h11 h10 h9 h8 h7 h6 h5 h4 h3 h2 h1;have hl2:=hl1.same s2;have l7:l.xs.length<=7:=by omega
  obtain ⟨v,hv,hr⟩:=vW (R:=fun v=>dX H2 v false) (xs:=[V.ref l1,V.ref l2,V.non,V.int 5,V.ref l5,V.ref l8,V.ref l11,V.ref l12])
   ⟨.len g1 (by simp),.no (tR (fun K=>.tup g2) fun K=>rfl),.no (tR (fun K=>.non) fun K=>rfl),.no (tR (fun K=>.int 5) fun K=>rfl),rQ g5 l7 hl2.rows (.two (b:=true) g3 (qU.yes (by omega) (by omega)) (qU.not (by omega))),rQ g8 l7 hl2.rows (.two (c:=true) g6 (qU.not (by omega)) (qU.yes (by omega) (by omega))),rQ g11 l7 hl2.rows (.no (tR (fun K=>.lst g9) fun K=>rfl)),Bl g12 (aDn 1) (by show 1<=8; decide) (fun i y hy=>by
    cases i with
    | zero=>cases hy; exact ⟨false,.no (tR (fun K=>.lst hl2.lst) fun K=>rfl)⟩
    | succ i=>simp at hy) (j:=0) rfl (.no (tR (fun K=>.lst hl2.lst) fun K=>rfl)),trivial⟩ k0 k1
  have hL2:=hL1.same s2;refine ⟨_,rfl,_,rfl,_,rfl,a,_,rfl,bB.of hL2.lst,fun p1 hp1=>?_⟩;have m1:=aC hp1 (.lst (aV (bG ls) none (some (c/16%((bG ls).length:Int)))));refine ⟨_,rfl,_,rfl,_,_,rfl,rfl,(by show (0:Int)<8; decide),S2,_,_,_,rfl,rfl,bB.of (m1 _ _ gS),hv,wJ,fun p2 hp2=>?_⟩;have m2:=aC hp2 (.lst [v]);refine ⟨p1,p2,_,_,rfl,rfl,m2 _ _ aA,aA,mK (by rw [e1,aDu,aDs]; omega),fun p3 hp3=>?_⟩;have m3:=aC hp3 (.lst (aV (bG ls) none (some (c/16%((bG ls).length:Int)))++[v]));have m13:=m1.trans (m2.trans m3);refine ⟨_,rfl,_,rfl,_,_,rfl,rfl,_,rfl,a,_,rfl,bB.of (m13 _ _ hL2.lst),fun p4 hp4=>?_⟩;have m4:=aC hp4 (.lst (aV (bG ls) (some (c/16%((bG ls).length:Int)+1)) none));refine ⟨p3,p4,_,_,rfl,rfl,m4 _ _ aA,aA,mK (by rw [e1,e2,aDp,aDu,aDs,aDN,cG]; omega),fun p5 hp5=>?_⟩;have m5:=aC hp5 (.lst (aV (bG ls) none (some (c/16%((bG ls).length:Int)))++[v]++aV (bG ls) (some (c/16%((bG ls).length:Int)+1)) none));have m15:=m13.trans (m4.trans m5);exact q _ _ (sS.trans (s2.trans m15)) (HY g (fun l hl=>(hL2.same m15).each l hl) hn (by rw [aA,e1,e2]) (hr.same m15))
theorem Wl {α β:Type}{G:α->β->Prop}{A:Prop}(Cond:α->β->Prop)(main:(∀ a b,Cond a b->G a b)->A)(rest:∀ a b,Cond a b->G a b):A:=main rest
theorem Mz {m i:Nat}{x:V}(h:((aW 0 m).map V.int)[i]? = some x):i<m/\x=.int (i:Int):=by
 have hi:=(aDr.mp h).1;unfold aW at h hi;rw [aDe,aDe,aEY] at hi;rw [aDm,aDm,aFG hi] at h;have h:some (V.int (0+(i:Int)))=some x:=h;rw [aFv] at h;injection h with h
 exact ⟨hi,h.symm⟩
theorem fW (m:Nat):((aW 0 m).map V.int).length=m:=by unfold aW; rw [aDe,aDe,aEY]
theorem Gv {m i:Nat}(h:i<m):((aW 0 m).map V.int)[i]? = some (.int (i:Int)):=by
 have hh:i<((aW 0 m).map V.int).length:=by rw [fW]; exact h
 have e:=aDl hh;rw [e];exact congrArg some (Mz e).2
theorem zK {H:Hp}{a:Addr}{m n:Nat}{v:V}(m5:m<=5)(hn:n<m)(e:H a=some (.lst (((aW 0 m).map V.int).take n++[v]++((aW 0 m).map V.int).drop (n+1))))(hv:qU H 0 ((m:Int)-1) v false):fY H (m:Int) (.ref a):=by
 have hl:=fW m;have hn':n<((aW 0 m).map V.int).length:=by omega
 obtain ⟨bs,hb,hh,hf⟩:=qK (Pb:=fun _=>qU H 0 ((m:Int)-1)) (fun i x hi=>by
  rcases zR hn' hi with ⟨_,z⟩ | ⟨_,z⟩
  ·rw [z]; exact ⟨false,hv⟩
  ·obtain ⟨_,rfl⟩:=Mz z;exact ⟨_,.int _⟩) (zT hn') hv
 exact .all e (by rw [lE hn',hl]) (by rw [lE hn']; omega) hb hh hf
def S8 (m n:Nat):List Int:=(aW 0 m).take n++[if n=0 then (m:Int)-1 else (n:Int)-1]++(aW 0 m).drop (n+1)
theorem R3:∀ m<6,∀ n<m,2<=m->((JZ (S8 m n)).length≠m/\(S8 m n).length=m/\∀ x∈S8 m n,0<=x/\x<=(m:Int)-1):=by decide +kernel
theorem Rr (m n:Nat):(S8 m n).map V.int=((aW 0 m).map V.int).take n++[.int (if n=0 then (m:Int)-1 else (n:Int)-1)]++((aW 0 m).map V.int).drop (n+1):=by
 unfold S8;rw [aDq,aDq,aFI,aFJ]
 rfl
theorem Rq {H:Hp}{a:Addr}{m n:Nat}(m5:m<=5)(m2:2<=m)(hn:n<m)(e:H a=some (.lst ((S8 m n).map V.int))):fY H (m:Int) (.ref a):=by
 obtain ⟨h1,h2,h3⟩:=R3 m (by omega) n hn m2;exact .dup e (by rw [h2]) (by omega) h3 (by rw [h2]; exact h1)
theorem Uh {m n:Nat}(hn:n<m):Em ((aW 0 m).map V.int) ((n:Int)-1)=some (.int (if n=0 then (m:Int)-1 else (n:Int)-1)):=by
 cases n with
 | zero =>
  have e:Em ((aW 0 m).map V.int) (((0:Nat):Int)-1)=((aW 0 m).map V.int)[m-1]?:=by
   unfold Em PJ;rw [fW,if_neg (by omega),if_pos (by omega)];show ((aW 0 m).map V.int)[_]? = _
   congr 1
   omega
  rw [e,Gv (by omega)]
  congr 2
  rw [if_pos rfl];omega
 | succ n =>
  rw [if_neg (by omega),show (((n+1:Nat):Int)-1)=((n:Nat):Int) by omega];exact lW (Gv (by omega))
theorem rO {n:Nat}{f:Addr}{fd:FuncData}(F:fC K "_law_no_order" "_law_no_order" (top 55) f fd)(k_:mg "tuple" = none)(gV:mg "list" = none)(I_:mg "range" = none):bH P w K mg base fO (n+1) f fd ["_law_many","_law_cell_here"] Qd:=by
 refine F.ok lO (fun vs H Q E h=>?_) (fun cdv A outer s H vs Q E hr h=>?_)
 ·obtain ⟨mi,c,rfl,_⟩:=h
  rfl
 obtain ⟨mi,c,rfl,h1,h5,q⟩:=h;have nd:=lO.nd;refine ⟨_,N6.h (bL (dY (i:=2) nd rfl (Or.inl rfl) (⟨Bw rfl rfl gV rfl I_ (aB (pv 0) aD)⟩)) (bL (dY (i:=3) nd rfl (Or.inl rfl) (bR fL (bR j5 (qv 1) bD) (qv 0))) (bL (dY (i:=4) nd rfl (Or.inl rfl) (bR cV (bR cV (cQ cX (qv 2) dN (dO (qv 3))) (b7 (aF (nA fG (qv 2) (bR rN (qv 3) bD) (fun _ _=>rfl)) aX))) (cQ cX (qv 2) (dO (bR eQ (qv 3) bD)) dN))) (bL (xH (uD yI (qv 0) bD (eE _)) (gU (dY (i:=4) nd rfl (Or.inl rfl) (b7 (aF bD (aF bD aX))))) n8) (bL (dY (i:=5) nd rfl (Or.inl rfl) (b7 (aF (qv 4) (aF (cQ cX (qv 2) (dO bD) dN) (aF (bR cV (qv 2) (b7 (aF (qv 0) aX))) (aF (bR cV (bR cV (cQ cX (qv 2) dN (dO (qv 3))) (b7 (aF (qv 0) aX))) (cQ cX (qv 2) (dO (bR eQ (qv 3) bD)) dN)) aX)))))) (bL (Oo (⟨GQ PySem.F.plainAttrs_list PySem.F.slot_list_append PySem.F.type_list_append lF (QE.h (qv 5)) (QA.h (aF (bR cV (bR cV (cQ cX (qv 2) dN (dO (qv 3))) (b7 (aF (bR rN bD bD) aX))) (cQ cX (qv 2) (dO (bR eQ (qv 3) bD)) dN)) aX))⟩)) (bL (dY (i:=6) nd rfl (Or.inl rfl) (nA fG (b7 (aF m8 (aF qY (aF rR (aF (b7 (aF bD aX)) aX))))) (bR fL (bR j5 (qv 1) bD) bD) (fun _ _=>rfl))) (bL (dY (i:=5) nd rfl (Or.inl rfl) (bR cV (qv 5) (b7 (aF (bR cV (qv 2) (b7 (aF (qv 3) aX))) (aF (lM (cZ (K:=K) rfl) rfl k_ iH (aF (qv 2) aX)) (aF qY (aF (bR cV (bR cV (cQ cX (qv 2) dN (dO (qv 3))) (b7 (aF (qv 6) aX))) (cQ cX (qv 2) (dO (bR eQ (qv 3) bD)) dN)) aX))))))) (gU (lR (nA fG (qv 5) (bR fL (qv 1) bD) (fun _ _=>rfl)))))))))))),?_⟩;obtain ⟨m,rfl⟩:∃ m:Nat,mi=(m:Int):=⟨mi.toNat,by omega⟩
 have m1:1<=m:=by omega
 have m5:m<=5:=by omega
 have hol:=fW m;refine ⟨_,rfl,(m:Int),rfl,⟨by omega,by omega⟩,fun O hO0=>?_⟩;have s0:=aC hO0 (.lst ((aW 0 ((m:Nat):Int).toNat).map V.int));have hO:aM H O (.lst ((aW 0 ((m:Nat):Int).toNat).map V.int)) O=some (.lst ((aW 0 m).map V.int)):=aA;generalize aM H O (.lst ((aW 0 ((m:Nat):Int).toNat).map V.int))=H1 at s0 hO ⊢;refine ⟨_,rfl,_,_,rfl,rfl,⟨by decide,by decide⟩,_,rfl,_,_,rfl,rfl,(by omega:(0:Int)<(m:Int)),?_⟩;have a1:=aDV (c/9) (show (m:Int)≠0 by omega);have a2:=aDS (c/9) (show (0:Int)<(m:Int) by omega);dsimp only;generalize c/9%(m:Int)=z at a1 a2 ⊢;obtain ⟨n,rfl⟩:∃ n:Nat,z=(n:Int):=⟨z.toNat,by omega⟩
 have hn:n<m:=by omega
 have e1:aV ((aW 0 m).map V.int) none (some (n:Int))=((aW 0 m).map V.int).take n:=lN _ n (by omega);have e2:aV ((aW 0 m).map V.int) (some ((n:Int)+1)) none=((aW 0 m).map V.int).drop (n+1):=by rw [show ((n:Int)+1)=((n+1:Nat):Int) by omega]; exact jH _ (n+1) (by omega)
 refine ⟨_,rfl,_,rfl,_,rfl,O,_,rfl,bB.of hO,fun p0 hp0=>?_⟩;have ma0:=aC hp0 (.lst (aV ((aW 0 m).map V.int) none (some (n:Int))));refine ⟨_,rfl,_,rfl,_,_,rfl,rfl,O,_,_,_,rfl,rfl,bB.of (ma0 _ _ hO),Uh hn,wJ,fun q0 hq0=>?_⟩;have mb0:=aC hq0 (.lst [V.int (if n=0 then (m:Int)-1 else (n:Int)-1)]);refine ⟨p0,q0,_,_,rfl,rfl,mb0 _ _ aA,aA,mK (by rw [e1,aDu,aDs,fW]; omega),fun r0 hr0=>?_⟩;have mc0:=aC hr0 (.lst (aV ((aW 0 m).map V.int) none (some (n:Int))++[V.int (if n=0 then (m:Int)-1 else (n:Int)-1)]));have ms0:=ma0.trans (mb0.trans mc0);refine ⟨_,rfl,_,rfl,_,_,rfl,rfl,_,rfl,O,_,rfl,bB.of (ms0 _ _ hO),fun t0 ht0=>?_⟩;have md0:=aC ht0 (.lst (aV ((aW 0 m).map V.int) (some ((n:Int)+1)) none));refine ⟨r0,t0,_,_,rfl,rfl,md0 _ _ aA,aA,mK (by rw [e1,e2,aDp,aDu,aDs,aDN,fW]; omega),fun L0 hL0=>?_⟩;have z0:=(ms0.trans md0).free hL0;have d0:=(ms0.trans md0).trans (aC hL0 (.lst (aV ((aW 0 m).map V.int) none (some (n:Int))++[V.int (if n=0 then (m:Int)-1 else (n:Int)-1)]++aV ((aW 0 m).map V.int) (some ((n:Int)+1)) none)));have f0:aM (aM (aM (aM (aM H1 p0 (.lst (aV ((aW 0 m).map V.int) none (some (n:Int))))) q0 (.lst [V.int (if n=0 then (m:Int)-1 else (n:Int)-1)])) r0 (.lst (aV ((aW 0 m).map V.int) none (some (n:Int))++[V.int (if n=0 then (m:Int)-1 else (n:Int)-1)]))) t0 (.lst (aV ((aW 0 m).map V.int) (some ((n:Int)+1)) none))) L0 (.lst (aV ((aW 0 m).map V.int) none (some (n:Int))++[V.int (if n=0 then (m:Int)-1 else (n:Int)-1)]++aV ((aW 0 m).map V.int) (some ((n:Int)+1)) none)) L0=some (.lst (((aW 0 m).map V.int).take n++[V.int (if n=0 then (m:Int)-1 else (n:Int)-1)]++((aW 0 m).map V.int).drop (n+1))):=by rw [aA,e1,e2]
 generalize aM (aM (aM (aM (aM H1 p0 (.lst (aV ((aW 0 m).map V.int) none (some (n:Int))))) q0 (.lst [V.int (if n=0 then (m:Int)-1 else (n:Int)-1)])) r0 (.lst (aV ((aW 0 m).map V.int) none (some (n:Int))++[V.int (if n=0 then (m:Int)-1 else (n:Int)-1)]))) t0 (.lst (aV ((aW 0 m).map V.int) (some ((n:Int)+1)) none))) L0 (.lst (aV ((aW 0 m).map V.int) none (some (n:Int))++[V.int (if n=0 then (m:Int)-1 else (n:Int)-1)]++aV ((aW 0 m).map V.int) (some ((n:Int)+1)) none))=H2 at d0 f0 ⊢;clear hL0 md0 ht0 ms0 mc0 hr0 mb0 hq0 ma0 hp0;have hO2:=d0 _ _ hO
 refine' Wl (fun (T:Addr) (H3:Hp)=>aU H2 H3/\fY H3 (m:Int) (.ref T)) (fun rest=>?main) ?rst
 case main =>
  refine ⟨_,rfl,rfl,_,rfl,?_⟩;refine BJ (fun z=>?_) (fun z=>?_)
  ·have z1:(m:Int)=1:=by injection of_decide_eq_true z
   refine ⟨Bp,fun T hT=>?_⟩;have nT:=aC hT (.lst [V.int 0,V.int 0]);have fT:aM H2 T (.lst [V.int 0,V.int 0]) T=some (.lst [V.int 0,V.int 0]):=aA;generalize aM H2 T (.lst [V.int 0,V.int 0])=H3 at nT fT ⊢;exact rest T H3 ⟨nT,.len fT (by show (2:Int)≠(m:Int); omega)⟩
  ·have z1:¬ (m=1):=fun e=>z (by rw [e]; rfl);exact rest L0 H2 ⟨aU.refl _,Rq m5 (by omega) hn (by rw [Rr]; exact f0)⟩
 case rst =>
 rintro T H3 ⟨d1,bT⟩;have hO3:=d1 _ _ hO2;refine ⟨_,rfl,_,rfl,_,rfl,O,_,rfl,bB.of hO3,fun A1 hA1=>?_⟩;have x1:=aC hA1 (.lst (aV ((aW 0 m).map V.int) (some 1) none));have y1:aM H3 A1 (.lst (aV ((aW 0 m).map V.int) (some 1) none)) A1=some (.lst (((aW 0 m).map V.int).drop 1)):=by rw [aA,show (1:Int)=((1:Nat):Int) from rfl,jH _ 1 (by omega)]
 generalize aM H3 A1 (.lst (aV ((aW 0 m).map V.int) (some 1) none))=H4 at x1 y1 ⊢;have hO4:=x1 _ _ hO3;refine ⟨_,rfl,_,rfl,wJ,fun B1 hB1=>?_⟩;have x2:=aC hB1 (.lst [V.int (m:Int)]);refine ⟨O,B1,_,_,rfl,rfl,x2 _ _ hO4,aA,mK (by rw [hol,aDs]; omega),fun A2 hA2=>?_⟩;have x3:=x2.trans (aC hA2 (.lst (((aW 0 m).map V.int)++[V.int (m:Int)])));have y2:aM (aM H4 B1 (.lst [V.int (m:Int)])) A2 (.lst (((aW 0 m).map V.int)++[V.int (m:Int)])) A2=some (.lst (((aW 0 m).map V.int)++[V.int (m:Int)])):=aA;generalize aM (aM H4 B1 (.lst [V.int (m:Int)])) A2 (.lst (((aW 0 m).map V.int)++[V.int (m:Int)]))=H5 at x3 y2 ⊢;have hO5:=x3 _ _ hO4;refine ⟨_,rfl,_,rfl,_,rfl,O,_,rfl,bB.of hO5,fun p2 hp2=>?_⟩;have ma2:=aC hp2 (.lst (aV ((aW 0 m).map V.int) none (some (n:Int))));refine ⟨_,rfl,wJ,fun q2 hq2=>?_⟩;have mb2:=aC hq2 (.lst [V.int (m:Int)]);refine ⟨p2,q2,_,_,rfl,rfl,mb2 _ _ aA,aA,mK (by rw [e1,aDu,aDs,fW]; omega),fun r2 hr2=>?_⟩;have mc2:=aC hr2 (.lst (aV ((aW 0 m).map V.int) none (some (n:Int))++[V.int (m:Int)]));have ms2:=ma2.trans (mb2.trans mc2);refine ⟨_,rfl,_,rfl,_,_,rfl,rfl,_,rfl,O,_,rfl,bB.of (ms2 _ _ hO5),fun t2 ht2=>?_⟩;have md2:=aC ht2 (.lst (aV ((aW 0 m).map V.int) (some ((n:Int)+1)) none));refine ⟨r2,t2,_,_,rfl,rfl,md2 _ _ aA,aA,mK (by rw [e1,e2,aDp,aDu,aDs,aDN,fW]; omega),fun L2 hL2=>?_⟩;have z2:=(ms2.trans md2).free hL2;have d2:=(ms2.trans md2).trans (aC hL2 (.lst (aV ((aW 0 m).map V.int) none (some (n:Int))++[V.int (m:Int)]++aV ((aW 0 m).map V.int) (some ((n:Int)+1)) none)));have f2:aM (aM (aM (aM (aM H5 p2 (.lst (aV ((aW 0 m).map V.int) none (some (n:Int))))) q2 (.lst [V.int (m:Int)])) r2 (.lst (aV ((aW 0 m).map V.int) none (some (n:Int))++[V.int (m:Int)]))) t2 (.lst (aV ((aW 0 m).map V.int) (some ((n:Int)+1)) none))) L2 (.lst (aV ((aW 0 m).map V.int) none (some (n:Int))++[V.int (m:Int)]++aV ((aW 0 m).map V.int) (some ((n:Int)+1)) none)) L2=some (.lst (((aW 0 m).map V.int).take n++[V.int (m:Int)]++((aW 0 m).map V.int).drop (n+1))):=by rw [aA,e1,e2]
 generalize aM (aM (aM (aM (aM H5 p2 (.lst (aV ((aW 0 m).map V.int) none (some (n:Int))))) q2 (.lst [V.int (m:Int)])) r2 (.lst (aV ((aW 0 m).map V.int) none (some (n:Int))++[V.int (m:Int)]))) t2 (.lst (aV ((aW 0 m).map V.int) (some ((n:Int)+1)) none))) L2 (.lst (aV ((aW 0 m).map V.int) none (some (n:Int))++[V.int (m:Int)]++aV ((aW 0 m).map V.int) (some ((n:Int)+1)) none))=H6 at d2 f2 ⊢;clear hL2 md2 ht2 ms2 mc2 hr2 mb2 hq2 ma2 hp2;have hO6:=d2 _ _ hO5;refine ⟨mK (show 4<=1000 by decide),fun S hS=>?_⟩;have xS:=aC hS (.lst [V.ref T,V.ref A1,V.ref A2,V.ref L2]);have yS:aM H6 S (.lst [V.ref T,V.ref A1,V.ref A2,V.ref L2]) S=some (.lst [V.ref T,V.ref A1,V.ref A2,V.ref L2]):=aA;generalize aM H6 S (.lst [V.ref T,V.ref A1,V.ref A2,V.ref L2])=H7 at xS yS ⊢;have hO7:=xS _ _ hO6;refine ⟨_,rfl,.inl ⟨rfl,_,bB.of yS⟩,?_⟩;refine ⟨_,rfl,_,rfl,_,rfl,O,_,rfl,bB.of hO7,fun p3 hp3=>?_⟩;have ma3:=aC hp3 (.lst (aV ((aW 0 m).map V.int) none (some (n:Int))));refine ⟨_,_,rfl,rfl,wJ,fun q3 hq3=>?_⟩;have mb3:=aC hq3 (.lst [V.int (0-1)]);refine ⟨p3,q3,_,_,rfl,rfl,mb3 _ _ aA,aA,mK (by rw [e1,aDu,aDs,fW]; omega),fun r3 hr3=>?_⟩;have mc3:=aC hr3 (.lst (aV ((aW 0 m).map V.int) none (some (n:Int))++[V.int (0-1)]));have ms3:=ma3.trans (mb3.trans mc3);refine ⟨_,rfl,_,rfl,_,_,rfl,rfl,_,rfl,O,_,rfl,bB.of (ms3 _ _ hO7),fun t3 ht3=>?_⟩;have md3:=aC ht3 (.lst (aV ((aW 0 m).map V.int) (some ((n:Int)+1)) none));refine ⟨r3,t3,_,_,rfl,rfl,md3 _ _ aA,aA,mK (by rw [e1,e2,aDp,aDu,aDs,aDN,fW]; omega),fun L3 hL3=>?_⟩;have z3:=(ms3.trans md3).free hL3;have d3:=(ms3.trans md3).trans (aC hL3 (.lst (aV ((aW 0 m).map V.int) none (some (n:Int))++[V.int (0-1)]++aV ((aW 0 m).map V.int) (some ((n:Int)+1)) none)));have f3:aM (aM (aM (aM (aM H7 p3 (.lst (aV ((aW 0 m).map V.int) none (some (n:Int))))) q3 (.lst [V.int (0-1)])) r3 (.lst (aV ((aW 0 m).map V.int) none (some (n:Int))++[V.int (0-1)]))) t3 (.lst (aV ((aW 0 m).map V.int) (some ((n:Int)+1)) none))) L3 (.lst (aV ((aW 0 m).map V.int) none (some (n:Int))++[V.int (0-1)]++aV ((aW 0 m).map V.int) (some ((n:Int)+1)) none)) L3=some (.lst (((aW 0 m).map V.int).take n++[V.int (0-1)]++((aW 0 m).map V.int).drop (n+1))):=by rw [aA,e1,e2]
 generalize aM (aM (aM (aM (aM H7 p3 (.lst (aV ((aW 0 m).map V.int) none (some (n:Int))))) q3 (.lst [V.int (0-1)])) r3 (.lst (aV ((aW 0 m).map V.int) none (some (n:Int))++[V.int (0-1)]))) t3 (.lst (aV ((aW 0 m).map V.int) (some ((n:Int)+1)) none))) L3 (.lst (aV ((aW 0 m).map V.int) none (some (n:Int))++[V.int (0-1)]++aV ((aW 0 m).map V.int) (some ((n:Int)+1)) none))=H8 at d3 f3 ⊢;clear hL3 md3 ht3 ms3 mc3 hr3 mb3 hq3 ma3 hp3;have yS8:=d3 _ _ yS;refine ⟨S,_,_,rfl,rfl,yS8,aN (show 4<=1000 by decide),?_⟩;have s68:=xS.trans d3;have s69:aU H6 (aM H8 S (.lst ([V.ref T,V.ref A1,V.ref A2,V.ref L2]++[V.ref L3]))):=s68.upd_new hS _;have f39:aM H8 S (.lst ([V.ref T,V.ref A1,V.ref A2,V.ref L2]++[V.ref L3])) L3=some (.lst (((aW 0 m).map V.int).take n++[V.int (0-1)]++((aW 0 m).map V.int).drop (n+1))):=by
  rw [aH (fun e=>by rw [e,yS] at z3; cases z3)];exact f3
 have yS9:aM H8 S (.lst ([V.ref T,V.ref A1,V.ref A2,V.ref L2]++[V.ref L3])) S=some (.lst [V.ref T,V.ref A1,V.ref A2,V.ref L2,V.ref L3]):=aA;generalize aM H8 S (.lst ([V.ref T,V.ref A1,V.ref A2,V.ref L2]++[V.ref L3]))=H9 at s69 f39 yS9 ⊢;have hO9:=s69 _ _ hO6;refine ⟨wJ,fun Z hZ=>?_⟩;have xZ:=aC hZ (.lst [V.int 0]);refine ⟨mK (show 4<=1000 by decide),fun W hW=>?_⟩;have xW:=aC hW (.lst [V.bl true,V.non,V.str "0",V.ref Z]);have k0:=aDV (c/72) (show (4:Int)≠0 by decide);have k1:=aDS (c/72) (show (0:Int)<4 by decide);obtain ⟨v,hv,iv⟩:=vW (R:=fun v=>qU (aM (aM H9 Z (.lst [V.int 0])) W (.lst [V.bl true,V.non,V.str "0",V.ref Z])) 0 ((m:Int)-1) v false) (xs:=[V.bl true,V.non,V.str "0",V.ref Z]) ⟨.bl true,.no (tR (fun K=>.non) fun K=>rfl),.no (tR (fun K=>.str "0") fun K=>rfl),.no (tR (fun K=>.lst (xW _ _ aA)) fun K=>rfl),trivial⟩ k0 k1;refine ⟨_,rfl,_,_,rfl,rfl,⟨by decide,by decide⟩,_,_,rfl,rfl,(by show (0:Int)<4; decide),W,_,_,_,rfl,rfl,bB.of aA,hv,?_⟩;have xZW:=xZ.trans xW;generalize aM (aM H9 Z (.lst [V.int 0])) W (.lst [V.bl true,V.non,V.str "0",V.ref Z])=H10 at xZW iv ⊢;have hO10:=xZW _ _ hO9;refine ⟨_,rfl,_,rfl,_,rfl,wJ,fun B2 hB2=>?_⟩;have x4:=aC hB2 (.lst [V.int (n:Int)]);refine ⟨O,B2,_,_,rfl,rfl,x4 _ _ hO10,aA,mK (by rw [hol,aDs]; omega),fun A3 hA3=>?_⟩;have x5:=x4.trans (aC hA3 (.lst (((aW 0 m).map V.int)++[V.int (n:Int)])));have y3:aM (aM H10 B2 (.lst [V.int (n:Int)])) A3 (.lst (((aW 0 m).map V.int)++[V.int (n:Int)])) A3=some (.lst (((aW 0 m).map V.int)++[V.int (n:Int)])):=aA;generalize aM (aM H10 B2 (.lst [V.int (n:Int)])) A3 (.lst (((aW 0 m).map V.int)++[V.int (n:Int)]))=H11 at x5 y3 ⊢;have hO11:=x5 _ _ hO10;refine ⟨_,rfl,O,_,rfl,.inl ⟨bB.of hO11,fun U hU=>?_⟩⟩;have x6:=aC hU (.tup ((aW 0 m).map V.int));have yU:aM H11 U (.tup ((aW 0 m).map V.int)) U=some (.tup ((aW 0 m).map V.int)):=aA;generalize aM H11 U (.tup ((aW 0 m).map V.int))=H12 at x6 yU ⊢;have hO12:=x6 _ _ hO11;refine ⟨_,rfl,_,rfl,_,rfl,O,_,rfl,bB.of hO12,fun p4 hp4=>?_⟩;have ma4:=aC hp4 (.lst (aV ((aW 0 m).map V.int) none (some (n:Int))));refine ⟨_,rfl,wJ,fun q4 hq4=>?_⟩;have mb4:=aC hq4 (.lst [v]);refine ⟨p4,q4,_,_,rfl,rfl,mb4 _ _ aA,aA,mK (by rw [e1,aDu,aDs,fW]; omega),fun r4 hr4=>?_⟩;have mc4:=aC hr4 (.lst (aV ((aW 0 m).map V.int) none (some (n:Int))++[v]));have ms4:=ma4.trans (mb4.trans mc4);refine ⟨_,rfl,_,rfl,_,_,rfl,rfl,_,rfl,O,_,rfl,bB.of (ms4 _ _ hO12),fun t4 ht4=>?_⟩;have md4:=aC ht4 (.lst (aV ((aW 0 m).map V.int) (some ((n:Int)+1)) none));refine ⟨r4,t4,_,_,rfl,rfl,md4 _ _ aA,aA,mK (by rw [e1,e2,aDp,aDu,aDs,aDN,fW]; omega),fun L4 hL4=>?_⟩;have z4:=(ms4.trans md4).free hL4;have d4:=(ms4.trans md4).trans (aC hL4 (.lst (aV ((aW 0 m).map V.int) none (some (n:Int))++[v]++aV ((aW 0 m).map V.int) (some ((n:Int)+1)) none)));have f4:aM (aM (aM (aM (aM H12 p4 (.lst (aV ((aW 0 m).map V.int) none (some (n:Int))))) q4 (.lst [v])) r4 (.lst (aV ((aW 0 m).map V.int) none (some (n:Int))++[v]))) t4 (.lst (aV ((aW 0 m).map V.int) (some ((n:Int)+1)) none))) L4 (.lst (aV ((aW 0 m).map V.int) none (some (n:Int))++[v]++aV ((aW 0 m).map V.int) (some ((n:Int)+1)) none)) L4=some (.lst (((aW 0 m).map V.int).take n++[v]++((aW 0 m).map V.int).drop (n+1))):=by rw [aA,e1,e2]
 generalize aM (aM (aM (aM (aM H12 p4 (.lst (aV ((aW 0 m).map V.int) none (some (n:Int))))) q4 (.lst [v])) r4 (.lst (aV ((aW 0 m).map V.int) none (some (n:Int))++[v]))) t4 (.lst (aV ((aW 0 m).map V.int) (some ((n:Int)+1)) none))) L4 (.lst (aV ((aW 0 m).map V.int) none (some (n:Int))++[v]++aV ((aW 0 m).map V.int) (some ((n:Int)+1)) none))=H13 at d4 f4 ⊢;clear hL4 md4 ht4 ms4 mc4 hr4 mb4 hq4 ma4 hp4;refine ⟨mK (show 4<=1000 by decide),fun S2 hS2=>?_⟩;have xS2:=aC hS2 (.lst [V.ref A3,V.ref U,V.non,V.ref L4]);have s913:=(xZW.trans (x5.trans x6)).trans d4;refine ⟨S,S2,_,_,rfl,rfl,(s913.trans xS2) _ _ yS9,aA,mK (show 5+4<=1000 by decide),fun S3 hS3=>?_⟩;have xS3:=aC hS3 (.lst ([V.ref T,V.ref A1,V.ref A2,V.ref L2,V.ref L3]++[V.ref A3,V.ref U,V.non,V.ref L4]));have x23:=xS2.trans xS3;have yS3:aM (aM H13 S2 (.lst [V.ref A3,V.ref U,V.non,V.ref L4])) S3 (.lst ([V.ref T,V.ref A1,V.ref A2,V.ref L2,V.ref L3]++[V.ref A3,V.ref U,V.non,V.ref L4])) S3=some (.lst [V.ref T,V.ref A1,V.ref A2,V.ref L2,V.ref L3,V.ref A3,V.ref U,V.non,V.ref L4]):=aA;generalize aM (aM H13 S2 (.lst [V.ref A3,V.ref U,V.non,V.ref L4])) S3 (.lst ([V.ref T,V.ref A1,V.ref A2,V.ref L2,V.ref L3]++[V.ref A3,V.ref U,V.non,V.ref L4]))=H14 at x23 yS3 ⊢;have s914:=s913.trans x23;have s614:=s69.trans s914;have i0:=aDV c (show (9:Int)≠0 by decide);have i1:=aDS c (show (0:Int)<9 by decide);have nm:((n:Nat):Int)<(m:Int):=by omega
 obtain ⟨o,ho,bo⟩:=vW (R:=fun v=>fY H14 (m:Int) v) (xs:=[V.ref T,V.ref A1,V.ref A2,V.ref L2,V.ref L3,V.ref A3,V.ref U,V.non,V.ref L4])
  ⟨bT.same ((x1.trans (x3.trans d2)).trans s614),.len ((x3.trans (d2.trans s614)) _ _ y1) (by rw [aDN,hol]; omega),.len ((d2.trans s614) _ _ y2) (by rw [aDp,hol,aDs]; omega),
   zK m5 hn (s614 _ _ f2) (qU.not (by omega)),zK m5 hn (s914 _ _ f39) (qU.not (by omega)),.len ((x6.trans (d4.trans x23)) _ _ y3) (by rw [aDp,hol,aDs]; omega),.no (tR (fun K=>.tup ((d4.trans x23) _ _ yU)) fun K=>rfl),.no (tR (fun K=>.non) fun K=>rfl),
   zK m5 hn (x23 _ _ f4) (iv.same ((x5.trans x6).trans (d4.trans x23))),trivial⟩ i0 i1
 refine ⟨_,rfl,_,rfl,_,_,rfl,rfl,(by show (0:Int)<9; decide),S3,_,_,_,rfl,rfl,bB.of yS3,ho,?_⟩;exact q o H14 ((s0.trans (d0.trans (d1.trans (x1.trans (x3.trans d2))))).trans s614) bo
theorem BV {xs:List V}(h:1<=xs.length):aV xs none (some (-1))=xs.take (xs.length-1):=by
 unfold aV;have e1:HT.u0 xs.length 0 none=0:=rfl;have e2:HT.u0 xs.length xs.length (some (-1))=xs.length-1:=by
  unfold HT.u0;simp <;> omega
 rw [e1,e2,aFA,aFX]
theorem Kr {H:Hp}{a:Addr}{bs:List Bool}(e:H a=some (.lst (bs.map V.bl)))(h:bs.length<=100):jT H (bs.length:Int) (.ref a) true:=by
 have r:=jT.all (m:=(bs.length:Int)) (bs:=aDx bs.length true) e (by rw [aDe]) (by rw [aDe]; exact h) (by rw [aDZ,aDe]) fun i x hx=>by
  rw [aDm] at hx;cases z:bs[i]? with
  | none=>rw [z] at hx; cases hx
  | some b =>
   rw [z] at hx;cases hx;have hi:=(aDr.mp z).1;have e2:(aDx bs.length true).getD i false=true:=by simp [aF9,hi]
   rw [e2];exact fun K=>⟨_,.bl b,rfl⟩
 have e3:(aDx bs.length true).all id=true:=by simp
 rw [e3] at r;exact r
theorem Kh {H:Hp}{a:Addr}{bs:List Bool}{v:V}(h1:1<=bs.length)(h:bs.length<=100)(e:H a=some (.lst ((bs.map V.bl).take ((bs.map V.bl).length-1)++[v])))(hv:SJ H v false):jT H (bs.length:Int) (.ref a) false:=by
 have ln:((bs.map V.bl).take ((bs.map V.bl).length-1)).length=bs.length-1:=by rw [aDu,aDe]; omega
 have le:((bs.map V.bl).take ((bs.map V.bl).length-1)++[v]).length=bs.length:=by rw [aDp,ln,aDs]; omega
 obtain ⟨cs,hb,hh,hf⟩:=qK (Pb:=fun _=>SJ H) (xs:=(bs.map V.bl).take ((bs.map V.bl).length-1)++[v]) (j:=bs.length-1) (v:=v) (fun i x hi=>by
  by_cases h:i<bs.length-1
  ·rw [aD3 (by omega),aEJ (by rw [aDe]; exact h),aDm] at hi;cases z:bs[i]? with
   | none=>rw [z] at hi; cases hi
   | some b=>rw [z] at hi; cases hi; exact ⟨true,fun K=>⟨_,.bl b,rfl⟩⟩
  ·have h2:=(aDr.mp hi).1;rw [le] at h2;have e:i=bs.length-1:=by omega
   rw [e,aDM (by omega),ln,aEz] at hi;cases hi;exact ⟨false,hv⟩) (by rw [aDM (by omega),ln,aEz]; rfl) hv
 have r:=jT.all (m:=(bs.length:Int)) e (by rw [le]) (by rw [le]; exact h) hb hh;rw [hf] at r;exact r
theorem NQ {H:Hp}{a:Addr}{rs:List Rl}{ms:List Int}{n:Nat}{r:Rl}{v:V}(hl:rs.map (fun r=>((r.bs.length:Nat):Int))=ms)(h5:rs.length<=5)(h3:∀ r∈rs,r.bs.length<=100)(hr:∀ r∈rs,H r.a=some (.lst (r.bs.map V.bl)))(hn:rs[n]? = some r)(e:H a=some (.lst ((bF rs).take n++[v]++(bF rs).drop (n+1))))(hv:jT H (r.bs.length:Int) v false):fD H ms (.ref a):=by
 have ll:=lB rs;have hn1:=(aDr.mp hn).1;have hn':n<(bF rs).length:=by omega
 have lm:ms.length=rs.length:=by rw [<- hl,aDe]
 have ma:∀ (i:Nat) r m,rs[i]? = some r->ms[i]? = some m->m=(r.bs.length:Int):=fun i r m h1 h2=>by
  rw [<- hl,aDm,h1] at h2;injection h2 with h2
  exact h2.symm
 obtain ⟨cs,hb,hh,hf⟩:=qK (Pb:=fun i x b=>∀ m,ms[i]? = some m->jT H m x b) (fun i x hi=>by
  rcases zR hn' hi with ⟨z0,z⟩ | ⟨_,z⟩
  ·rw [z,z0];exact ⟨false,fun m hm=>by rw [ma n r m hn hm]; exact hv⟩
  ·obtain ⟨s,hs,rfl⟩:=JM z;have hm1:=aDi hs;exact ⟨true,fun m hm=>by rw [ma i s m hs hm]; exact Kr (hr s hm1) (h3 s hm1)⟩) (zT hn') (fun m hm=>by rw [ma n r m hn hm]; exact hv)
 exact .all e (by rw [lE hn',ll,lm]) (by rw [lE hn',ll]; omega) hb (fun i x m hx hm=>hh i x hx m hm) hf
theorem Oi {H:Hp}{D:Addr}{rs:List Rl}{r:Rl}(h:IW H D rs)(hr:H r.a=some (.lst (r.bs.map V.bl)))(nn:∀ x∈rs,x.a≠D)(n:r.a≠D):IW (aM H D (.lst (bF rs++[.ref r.a]))) D (rs++[r]):=by
 refine ⟨by rw [aA,Bt],fun x hx=>?_⟩;rcases aDy.mp hx with z | z
 ·rw [aH (nn x z)]; exact h.each x z
 ·rw [aDw.mp z,aH n]; exact hr
theorem tQ {n:Nat}{f:Addr}{fd:FuncData}(F:fC K "_law_no_rule" "_law_no_rule" (top 56) f fd)(k_:mg "tuple" = none)(e_:mg "len" = none)(I_:mg "range" = none):bH P w K mg base fO (n+1) f fd ["_law_lists_here","_law_cell_here"] Pk:=by
 refine F.ok mO (fun vs H Q E h=>?_) (fun cdv A outer s H vs Q E hr h=>?_)
 ·obtain ⟨a,ls,c,rfl,_⟩:=h
  rfl
 obtain ⟨a,ls,c,rfl,hL,g,q⟩:=h;have nd:=mO.nd;refine ⟨_,(aL (kW (i:=2) (ls:=["_law_rows"]) (M:=["_law_lists_here","_law_cell_here","_law_rule","_law_at","_law_row","_law_some","_law_odd","_law_bad"]) rfl (bW.of (by rfl)) (NL.of (by rfl)) nd rfl (Or.inl rfl) (cB (pv 0)) (fun _ _ _ _=>⟨(aR (i:=0) (cJ (by rfl)) rfl (Or.inl rfl)),cC,(dD (ls:=["_law_j"]) (M:=["_law_rows","_law_lists_here","_law_cell_here","_law_rule","_law_at","_law_row","_law_some","_law_odd","_law_bad"]) rfl (bW.of (by rfl)) (NL.of (by rfl)) (rA rfl I_ (aB (aY (oW (K:=K) rfl) rfl e_ fX (aB (pv 0) aD)) aD)) (fun _ _ _ _=>⟨(aR (i:=0) (cJ (by rfl)) rfl (Or.inl rfl)),cC,(qD yI (bM fL (bM eQ (bM j5 (pv 3) aO) (pv 0)) aO) aO (eE _))⟩))⟩)) (N6.h (bL (dY (i:=3) nd rfl (Or.inl rfl) (bR fL (bR j5 (qv 1) bD) (uZ bZ rfl e_ fX (aF (qv 0) aX)))) (bL (dY (i:=4) nd rfl (Or.inl rfl) (nA fG (qv 2) (qv 3) (fun _ _=>rfl))) (bL (dY (i:=5) nd rfl (Or.inl rfl) (b7 (aF (cQ cX (qv 2) (dO bD) dN) (aF (bR cV (qv 2) (b7 (aF (b7 (aF m8 aX)) aX))) (aF (lM (cZ (K:=K) rfl) rfl k_ iH (aF (qv 2) aX)) (aF qY aX)))))) (bL (dY (i:=6) nd rfl (Or.inl rfl) (nA fG (b7 (aF bD (aF bD (aF qY (aF rR (aF (b7 aX) aX)))))) (bR fL (bR j5 (qv 1) bD) bD) (fun _ _=>rfl))) (bL (dY (i:=7) nd rfl (Or.inl rfl) (nA fG (b7 (aF (cQ cX (qv 4) (dO bD) dN) (aF (bR cV (qv 4) (b7 (aF m8 aX))) (aF (bR cV (cQ cX (qv 4) dN (dO (Vx Ef bD))) (b7 (aF (qv 6) aX))) (aF (lM (cZ (K:=K) rfl) rfl k_ iH (aF (qv 4) aX)) aX))))) (bR fL (qv 1) bD) (fun _ _=>rfl))) (bL (xH (uD yI (bR fL (bR j5 (qv 1) bD) bD) bD (eE _)) (gU (lR (nA fG (qv 5) (bR fL (qv 1) bD) (fun _ _=>rfl)))) n8) (gU (lR (bR cV (bR cV (cQ cX (qv 2) dN (dO (qv 3))) (b7 (aF (qv 7) aX))) (cQ cX (qv 2) (dO (bR eQ (qv 3) bD)) dN)))))))))))),?_⟩;have hlr:=cG ls;have gl:=g.len;have hpos:1<=ls.length:=aDT.mpr g.ne;refine ⟨_,rfl,a,rfl,⟨_,bB.of hL.lst⟩,fun D hD=>?_⟩;refine cA (xs:=bG ls) (fun i τ H'=>∃ v0 rs,τ = [v0,some (.ref a),some (.int c),none,none,none,none,none,none]/\aU H H'/\IW H' D rs/\rs.map (fun r=>((r.bs.length:Nat):Int))=(p7 ls).take i/\(∀ r∈rs,r.a≠D)/\∀ r∈rs,1<=r.bs.length/\r.bs.length<=3) ⟨none,[],rfl,aC hD _,⟨aA,fun _ h=>nomatch h⟩,rfl,(fun _ h=>nomatch h),fun _ h=>nomatch h⟩ ?keep ?turn ?done
 case keep =>
  rintro i τ H' hi ⟨v0,rs,rfl,hs,_⟩;exact bB.of (hL.same hs).lst
 case turn =>
  rintro i m v τ H' hm hi hv ⟨v0,rs,rfl,hs,hR,el,nn,lb⟩;obtain ⟨l,hl,rfl⟩:=nW hv;have lm:=aDi hl;have gr:=g.r l lm;have lp:0<l.xs.length:=aDT.mpr gr.1;have hil:=dI l.xs;have rl:rs.length<=5:=by
   have:=congrArg aDP el;unfold p7 at this;rw [aDe,aDu,aDe] at this;omega
  refine vX ?_;refine ⟨_,rfl,l.a,_,rfl,.inl (bB.of ((hL.same hs).each l lm).lst),_,rfl,by rw [hil]; omega,by rw [hil]; omega,fun R hR0=>?_⟩;have hn2:(((cY l.xs).length:Int)).toNat=l.xs.length:=by rw [hil]; omega
  rw [hn2];refine vK (n:=l.xs.length) (fun j τ H''=>∃ v1 bs,τ = [v1,some (.ref l.a),some (.ref a),some (.int c),none,none,none,none,none,none]/\aU H' H''/\H'' R=some (.lst (bs.map V.bl))/\bs.length=j) ⟨none,[],rfl,aC hR0 _,aA,rfl⟩ ?turn2 ?done2
  case turn2 =>
   rintro j m2 τ H'' hm2 hj ⟨v1,bs,rfl,hs2,hb,bl⟩;unfold mL;refine dU ?_;refine ⟨_,rfl,_,_,rfl,rfl,⟨by decide,by decide⟩,_,rfl,_,_,rfl,rfl,_,_,rfl,rfl,(by show (0:Int)<2; decide),rfl,?_⟩;refine aZ hm2 hj hb (by rw [aDe]; exact aN (by omega)) ⟨_,bs++[_],rfl,hs2.upd_new hR0 _,by rw [aA,aDq]; rfl,by rw [aDp,bl]; rfl⟩
  case done2 =>
   rintro τ H'' ⟨v1,bs,rfl,hs2,hb,bl⟩;have hR2:=hR.same hs2;have nRD:R≠D:=fun e=>by rw [e,hR.lst] at hR0; cases hR0
   refine aZ hm hi hR2.lst (by rw [lB]; exact aN (by omega)) ⟨_,rs++[⟨R,bs⟩],rfl,(hs.trans hs2).upd_new hD _,Oi (r:=⟨R,bs⟩) hR2 hb nn nRD,?_,fun r hr=>?_,fun r hr=>?_⟩
   ·rw [aDq,el,take_snoc (show (p7 ls)[i]? = some ((l.xs.length:Nat):Int) by unfold p7; rw [aDm,hl]; rfl)];show _++[((bs.length:Nat):Int)]=_;rw [bl]
   ·rcases aDy.mp hr with z | z
    ·exact nn r z
    ·rw [aDw.mp z]; exact nRD
   ·rcases aDy.mp hr with z | z
    ·exact lb r z
    ·rw [aDw.mp z];show 1<=bs.length/\bs.length<=3;omega
 case done =>
 rintro τ H1 ⟨v0,rs,rfl,s1,hR,el,nn,lb⟩;have lnl:(p7 ls).length=ls.length:=aDe _;rw [hlr,<- lnl,aDz] at el;have rl:rs.length=ls.length:=by
  have:=congrArg aDP el;rw [aDe,lnl] at this;exact this
 have hrl:=lB rs;refine ⟨_,rfl,_,_,rfl,rfl,⟨by decide,by decide⟩,_,rfl,a,_,rfl,.inl (bB.of (hL.same s1).lst),_,_,rfl,rfl,(by rw [hlr]; omega),?_⟩;have a1:=aDV (c/8) (show ((bG ls).length:Int)≠0 by omega);have a2:=aDS (c/8) (show (0:Int)<((bG ls).length:Int) by omega);dsimp only;generalize c/8%((bG ls).length:Int)=z at a1 a2 ⊢;obtain ⟨n,rfl⟩:∃ n:Nat,z=(n:Int):=⟨z.toNat,by omega⟩
 have hn:n<rs.length:=by omega
 have e1:aV (bF rs) none (some (n:Int))=(bF rs).take n:=lN _ n (by omega);have e2:aV (bF rs) (some ((n:Int)+1)) none=(bF rs).drop (n+1):=by rw [show ((n:Int)+1)=((n+1:Nat):Int) by omega]; exact jH _ (n+1) (by omega)
 have er:rs[n]? = some rs[n]:=aDl hn;have hm:=aDU hn;generalize rs[n]=r at er hm;have hr:=hR.each r hm;have lr:=lb r hm;have lbl:(r.bs.map V.bl).length=r.bs.length:=aDe _;have hO:=hR.lst;have hat:Em (bF rs) (n:Int)=some (.ref r.a):=lW (by unfold bF; rw [aDm,er]; rfl);refine ⟨_,rfl,_,rfl,D,_,_,_,rfl,rfl,bB.of hO,hat,?_⟩;refine ⟨_,rfl,_,rfl,D,_,rfl,bB.of hO,fun A1 hA1=>?_⟩;have x1:=aC hA1 (.lst (aV (bF rs) (some 1) none));have y1:aM H1 A1 (.lst (aV (bF rs) (some 1) none)) A1=some (.lst ((bF rs).drop 1)):=by rw [aA,show (1:Int)=((1:Nat):Int) from rfl,jH _ 1 (by omega)]
 generalize aM H1 A1 (.lst (aV (bF rs) (some 1) none))=H2 at x1 y1 ⊢;have hO2:=x1 _ _ hO;refine ⟨_,rfl,wJ,fun B1 hB1=>?_⟩;have x2:=aC hB1 (.lst [V.bl true]);refine ⟨wJ,fun B2 hB2=>?_⟩;have x3:=x2.trans (aC hB2 (.lst [V.ref B1]));refine ⟨D,B2,_,_,rfl,rfl,x3 _ _ hO2,aA,mK (by rw [hrl,aDs]; omega),fun A2 hA2=>?_⟩;have x4:=x3.trans (aC hA2 (.lst (bF rs++[V.ref B2]))) |> fun _=>x3.trans (aC hA2 (.lst (bF rs++[V.ref B1])))
 have y2:aM (aM (aM H2 B1 (.lst [V.bl true])) B2 (.lst [V.ref B1])) A2 (.lst (bF rs++[V.ref B1])) A2=some (.lst (bF rs++[V.ref B1])):=aA;generalize aM (aM (aM H2 B1 (.lst [V.bl true])) B2 (.lst [V.ref B1])) A2 (.lst (bF rs++[V.ref B1]))=H3 at x4 y2 ⊢;have hO3:=x4 _ _ hO2;refine ⟨_,rfl,D,_,rfl,.inl ⟨bB.of hO3,fun U hU=>?_⟩⟩;have x5:=aC hU (.tup (bF rs));have yU:aM H3 U (.tup (bF rs)) U=some (.tup (bF rs)):=aA;generalize aM H3 U (.tup (bF rs))=H4 at x5 yU ⊢;refine ⟨mK (show 4<=1000 by decide),fun S hS=>?_⟩;have xS:=aC hS (.lst [V.ref A1,V.ref A2,V.ref U,V.non]);have yS:aM H4 S (.lst [V.ref A1,V.ref A2,V.ref U,V.non]) S=some (.lst [V.ref A1,V.ref A2,V.ref U,V.non]):=aA;generalize aM H4 S (.lst [V.ref A1,V.ref A2,V.ref U,V.non])=H5 at xS yS ⊢;have Iu:=((x1.trans x4).trans x5).trans xS;have hO5:=Iu _ _ hO;have hr5:=Iu _ _ hr;refine ⟨aDK _,fun Z hZ=>?_⟩;have xZ:=aC hZ (.lst []);refine ⟨mK (show 5<=1000 by decide),fun W hW=>?_⟩;have xW:=aC hW (.lst [V.int 0,V.int 1,V.non,V.str "True",V.ref Z]);have k0:=aDV (c/64) (show (5:Int)≠0 by decide);have k1:=aDS (c/64) (show (0:Int)<5 by decide);obtain ⟨v,hv,iv⟩:=vW (R:=fun v=>SJ (aM (aM H5 Z (.lst [])) W (.lst [V.int 0,V.int 1,V.non,V.str "True",V.ref Z])) v false) (xs:=[V.int 0,V.int 1,V.non,V.str "True",V.ref Z]) ⟨tR (fun K=>.int 0) fun K=>rfl,tR (fun K=>.int 1) fun K=>rfl,tR (fun K=>.non) fun K=>rfl,tR (fun K=>.str "True") fun K=>rfl,tR (fun K=>.lst (xW _ _ aA)) fun K=>rfl,trivial⟩ k0 k1;refine ⟨_,rfl,_,_,rfl,rfl,⟨by decide,by decide⟩,_,_,rfl,rfl,(by show (0:Int)<5; decide),W,_,_,_,rfl,rfl,bB.of aA,hv,?_⟩;have xZW:=xZ.trans xW;generalize aM (aM H5 Z (.lst [])) W (.lst [V.int 0,V.int 1,V.non,V.str "True",V.ref Z])=H6 at xZW iv ⊢;have hO6:=xZW _ _ hO5;have hr6:=xZW _ _ hr5;refine ⟨_,rfl,_,rfl,r.a,_,rfl,bB.of hr6,fun E1 hE1=>?_⟩;have w1:=aC hE1 (.lst (aV (r.bs.map V.bl) (some 1) none));have j1:aM H6 E1 (.lst (aV (r.bs.map V.bl) (some 1) none)) E1=some (.lst ((r.bs.map V.bl).drop 1)):=by rw [aA,show (1:Int)=((1:Nat):Int) from rfl,jH _ 1 (by omega)]
 generalize aM H6 E1 (.lst (aV (r.bs.map V.bl) (some 1) none))=H7 at w1 j1 ⊢;have hr7:=w1 _ _ hr6;refine ⟨_,rfl,wJ,fun F1 hF1=>?_⟩;have w2:=aC hF1 (.lst [V.bl false]);refine ⟨r.a,F1,_,_,rfl,rfl,w2 _ _ hr7,aA,mK (by rw [lbl,aDs]; omega),fun E2 hE2=>?_⟩;have w3:=w2.trans (aC hE2 (.lst (r.bs.map V.bl++[V.bl false])));have j2:aM (aM H7 F1 (.lst [V.bl false])) E2 (.lst (r.bs.map V.bl++[V.bl false])) E2=some (.lst (r.bs.map V.bl++[V.bl false])):=aA;generalize aM (aM H7 F1 (.lst [V.bl false])) E2 (.lst (r.bs.map V.bl++[V.bl false]))=H8 at w3 j2 ⊢;have hr8:=w3 _ _ hr7;refine ⟨_,rfl,_,rfl,_,rfl,r.a,_,rfl,bB.of hr8,fun G1 hG1=>?_⟩;have w4:=aC hG1 (.lst (aV (r.bs.map V.bl) none (some (-1))));refine ⟨_,rfl,wJ,fun F2 hF2=>?_⟩;have w5:=aC hF2 (.lst [v]);refine ⟨G1,F2,_,_,rfl,rfl,w5 _ _ aA,aA,mK (by rw [BV (by omega),aDu,aDs]; omega),fun E3 hE3=>?_⟩;have w6:=(w4.trans w5).trans (aC hE3 (.lst (aV (r.bs.map V.bl) none (some (-1))++[v])));have j3:aM (aM (aM H8 G1 (.lst (aV (r.bs.map V.bl) none (some (-1))))) F2 (.lst [v])) E3 (.lst (aV (r.bs.map V.bl) none (some (-1))++[v])) E3=some (.lst ((r.bs.map V.bl).take ((r.bs.map V.bl).length-1)++[v])):=by rw [aA,BV (by omega)]
 generalize aM (aM (aM H8 G1 (.lst (aV (r.bs.map V.bl) none (some (-1))))) F2 (.lst [v])) E3 (.lst (aV (r.bs.map V.bl) none (some (-1))++[v]))=H9 at w6 j3 ⊢;have hr9:=w6 _ _ hr8;refine ⟨_,rfl,r.a,_,rfl,.inl ⟨bB.of hr9,fun U2 hU2=>?_⟩⟩;have w7:=aC hU2 (.tup (r.bs.map V.bl));refine ⟨mK (show 4<=1000 by decide),fun X2 hX2=>?_⟩;have w8:=aC hX2 (.lst [V.ref E1,V.ref E2,V.ref E3,V.ref U2]);have b0:=aDV c (show (4:Int)≠0 by decide);have b1:=aDS c (show (0:Int)<4 by decide);have w78:=w7.trans w8;obtain ⟨bd,hbd,ibd⟩:=vW (R:=fun v=>jT (aM (aM H9 U2 (.tup (r.bs.map V.bl))) X2 (.lst [V.ref E1,V.ref E2,V.ref E3,V.ref U2])) (r.bs.length:Int) v false) (xs:=[V.ref E1,V.ref E2,V.ref E3,V.ref U2])
  ⟨.len ((w3.trans (w6.trans w78)) _ _ j1) (by rw [aDN,lbl]; omega),.len ((w6.trans w78) _ _ j2) (by rw [aDp,lbl,aDs]; omega),Kh (by omega) (by omega) (w78 _ _ j3) (iv.same ((w1.trans (w3.trans w6)).trans w78)),.no (tR (fun K=>.tup (w8 _ _ aA)) fun K=>rfl),trivial⟩ b0 b1
 refine ⟨_,rfl,_,_,rfl,rfl,(by show (0:Int)<4; decide),X2,_,_,_,rfl,rfl,bB.of aA,hbd,?_⟩;generalize aM (aM H9 U2 (.tup (r.bs.map V.bl))) X2 (.lst [V.ref E1,V.ref E2,V.ref E3,V.ref U2])=H10 at w78 ibd ⊢;have s610:=(w1.trans (w3.trans w6)).trans w78;have s510:=xZW.trans s610;refine ⟨_,rfl,_,_,rfl,rfl,⟨by decide,by decide⟩,_,_,rfl,rfl,(by show (0:Int)<2; decide),rfl,_,rfl,?_⟩;refine BJ (fun _=>?_) (fun _=>?_)
 ·obtain ⟨o,ho,bo⟩:=vW (R:=fun v=>fD H10 (p7 ls) v) (xs:=[V.ref A1,V.ref A2,V.ref U,V.non]) ⟨.len (((x4.trans x5).trans (xS.trans s510)) _ _ y1) (by rw [aDN,hrl,lnl]; omega),.len ((x5.trans (xS.trans s510)) _ _ y2) (by rw [aDp,hrl,aDs,lnl]; omega),.no (tR (fun K=>.tup ((xS.trans s510) _ _ yU)) fun K=>rfl),.no (tR (fun K=>.non) fun K=>rfl),trivial⟩ b0 b1;refine ⟨_,rfl,_,rfl,_,_,rfl,rfl,(by show (0:Int)<4; decide),S,_,_,_,rfl,rfl,bB.of (s510 _ _ yS),ho,?_⟩;exact q o H10 (s1.trans (Iu.trans s510)) bo
 ·have hO10:=s610 _ _ hO6;refine ⟨_,rfl,_,rfl,_,rfl,D,_,rfl,bB.of hO10,fun p1 hp1=>?_⟩;have ma1:=aC hp1 (.lst (aV (bF rs) none (some (n:Int))));refine ⟨_,rfl,wJ,fun q1 hq1=>?_⟩;have mb1:=aC hq1 (.lst [bd]);refine ⟨p1,q1,_,_,rfl,rfl,mb1 _ _ aA,aA,mK (by rw [e1,aDu,aDs,hrl]; omega),fun r1 hr1=>?_⟩;have mc1:=aC hr1 (.lst (aV (bF rs) none (some (n:Int))++[bd]));have ms1:=ma1.trans (mb1.trans mc1);refine ⟨_,rfl,_,rfl,_,_,rfl,rfl,_,rfl,D,_,rfl,bB.of (ms1 _ _ hO10),fun t1 ht1=>?_⟩;have md1:=aC ht1 (.lst (aV (bF rs) (some ((n:Int)+1)) none));refine ⟨r1,t1,_,_,rfl,rfl,md1 _ _ aA,aA,mK (by rw [e1,e2,aDp,aDu,aDs,aDN,hrl]; omega),fun L1 hL1=>?_⟩;have z1:=(ms1.trans md1).free hL1;have d1:=(ms1.trans md1).trans (aC hL1 (.lst (aV (bF rs) none (some (n:Int))++[bd]++aV (bF rs) (some ((n:Int)+1)) none)));have f1:aM (aM (aM (aM (aM H10 p1 (.lst (aV (bF rs) none (some (n:Int))))) q1 (.lst [bd])) r1 (.lst (aV (bF rs) none (some (n:Int))++[bd]))) t1 (.lst (aV (bF rs) (some ((n:Int)+1)) none))) L1 (.lst (aV (bF rs) none (some (n:Int))++[bd]++aV (bF rs) (some ((n:Int)+1)) none)) L1=some (.lst ((bF rs).take n++[bd]++(bF rs).drop (n+1))):=by rw [aA,e1,e2]
  generalize aM (aM (aM (aM (aM H10 p1 (.lst (aV (bF rs) none (some (n:Int))))) q1 (.lst [bd])) r1 (.lst (aV (bF rs) none (some (n:Int))++[bd]))) t1 (.lst (aV (bF rs) (some ((n:Int)+1)) none))) L1 (.lst (aV (bF rs) none (some (n:Int))++[bd]++aV (bF rs) (some ((n:Int)+1)) none))=H11 at d1 f1 ⊢;clear hL1 md1 ht1 ms1 mc1 hr1 mb1 hq1 ma1 hp1;have s111:=(Iu.trans s510).trans d1;exact q _ H11 (s1.trans s111) (NQ el (by omega) (fun r hr=>by have:=lb r hr; omega) (fun r hr=>s111 _ _ (hR.each r hr)) er f1 (ibd.same d1))
theorem pZ (v:Value):PySem.W.kitOne K v v=some true:=by
 unfold PySem.W.kitOne;rw [if_pos (beq_self_eq_true _)]
def Gm (K:PySem.W.Frag)(o r t d:Addr):Sp:=fun vs H Q _=>∃ (a D:Addr) (b1 b2 b3 b4:Bool),vs=[.ref a]/\H a=some (.ext (qI a (.ref D)))/\Lf K D/\PySem.W.kitOne K (.ref D) (.ref o)=some b1/\PySem.W.kitOne K (.ref D) (.ref r)=some b2/\PySem.W.kitOne K (.ref D) (.ref t)=some b3/\PySem.W.kitOne K (.ref D) (.ref d)=some b4/\∀ (L:Addr) (H':Hp),aU H H'->H' L=some (.lst [V.bl b1,V.bl b2,V.bl b3,V.bl b4])->Q (.ref L) H'
def Ge:Sp:=fun vs H Q _=>∃ v:V,vs=[v]/\d9 H v false/\∀ (L:Addr) (H':Hp),aU H H'->H' L=some (.lst [V.bl true,V.bl false,V.bl false,V.bl false])->Q (.ref L) H'
inductive Dv (H:Hp)(ts:List Tn)(v:V):Str->Prop where
 | ord (h:fY H (ts.length:Int) v):Dv H ts v "order"
 | tak (h:fD H (qJ ts) v):Dv H ts v "taken"
 | los (h:fD H (qJ ts) v):Dv H ts v "losses"
theorem Dv.same {H H':Hp}{ts:List Tn}{v:V}{z:Str}(s:aU H H')(h:Dv H ts v z):Dv H' ts v z:=by
 cases h with
 | ord h=>exact .ord (h.same s)
 | tak h=>exact .tak (h.same s)
 | los h=>exact .los (h.same s)
def Ji (C:Addr):Sp:=fun vs H Q _=>∃ (x:Addr) (z:Str) (v:V) (ts:List Tn),vs=[.ref x,.str z,v]/\GP C H x ts/\ts.length<=8/\Dv H ts v z/\∀ H',aU H H'->Q (.bl true) H'
theorem oZ:aP ["_law_thing","_law_kinds_here","_law_e"] ["_law_thing"] (aG (top 58)):=⟨rfl,rfl,rfl,by decide +kernel,rfl,by decide +kernel,by decide +kernel⟩
theorem nF:aP ["_law_offers","_law_word","_law_thing","_law_kinds_here","_law_e"] ["_law_offers","_law_word","_law_thing"] (aG (top 59)):=⟨rfl,rfl,rfl,by decide +kernel,rfl,by decide +kernel,by decide +kernel⟩
theorem wN {n:Nat}{f:Addr}{fd:FuncData}(F:fC K "_law_kinds" "_law_kinds" (top 57) f fd){d_ a_ g_ j_:Addr}(G_:mg "NoOffers" = some (.ref d_))(F_:mg "NoRule" = some (.ref a_))(aAV:mg "NoTable" = some (.ref g_))(aBd:mg "NoDeed" = some (.ref j_))(b_:mg "isinstance" = none):S6 P w K mg base (n+1) f fd ["_law_e"] (Gm K d_ a_ g_ j_):=by
 refine F.okH o6 (fun vs H Q E h=>?_) (fun cdv A outer s H vs Q E hr h=>?_)
 ·obtain ⟨a,D,b1,b2,b3,b4,rfl,_⟩:=h
  rfl
 obtain ⟨a,D,b1,b2,b3,b4,rfl,ha,xt,k1,k2,k3,k4,q⟩:=h;have nd:=o6.nd;refine ⟨_,(aK (bC (jU (aB (aY (pU (K:=K) rfl) rfl b_ bQ (aB (pv 0) (aB (j8 (v:=.ref d_) rfl G_ rfl) aD))) (aB (aY (pU (K:=K) rfl) rfl b_ bQ (aB (pv 0) (aB (j8 (v:=.ref a_) rfl F_ rfl) aD))) (aB (aY (pU (K:=K) rfl) rfl b_ bQ (aB (pv 0) (aB (j8 (v:=.ref g_) rfl aAV rfl) aD))) (aB (aY (pU (K:=K) rfl) rfl b_ bQ (aB (pv 0) (aB (j8 (v:=.ref j_) rfl aBd rfl) aD))) aD))))))),?_⟩;refine ⟨_,rfl,a,D,.ref d_,_,b1,rfl,Ov,ha,xt,k1,?_⟩;refine ⟨_,rfl,a,D,.ref a_,_,b2,rfl,Ov,ha,xt,k2,?_⟩;refine ⟨_,rfl,a,D,.ref g_,_,b3,rfl,Ov,ha,xt,k3,?_⟩;refine ⟨_,rfl,a,D,.ref j_,_,b4,rfl,Ov,ha,xt,k4,?_⟩;refine ⟨mK (show 4<=1000 by decide),fun L hL=>?_⟩;exact q L _ (aC hL _) aA
theorem Ae {n:Nat}{f:Addr}{fd:FuncData}(F:fC K "_law_made" "_law_made" (top 58) f fd){C:Addr}{d_ a_ g_ j_:Addr}{iO:Addr}{iD:FuncData}{kO:Nat}(aBe:Mk K C iO)(aBf:bH P w K mg base (xR P w) kO iO iD ["self","lists"] (KJ C d_ Pt iQ))(aBg:Binds K iD ["self","lists"] [])(R_:mg "Offers" = some (.ref C))(aAW:kO+1<=n){q_:Addr}(H_:mg "LidError" = some (.ref q_))(xt_NoOffers:Lf K d_)(ex_NoOffers:PySem.W.exmOne K (.ref d_) (.ref q_)=some true)(k1_NoOffers:PySem.W.kitOne K (.ref d_) (.ref a_)=some false)(k2_NoOffers:PySem.W.kitOne K (.ref d_) (.ref g_)=some false)(k3_NoOffers:PySem.W.kitOne K (.ref d_) (.ref j_)=some false){W_:Addr}{Q_:FuncData}(X_:Fd P w K mg base n "_law_kinds" ["_law_e"] (Gm K d_ a_ g_ j_) W_ Q_):bH P w K mg base fO (n+1) f fd ["_law_thing"] Ge:=by
 refine F.ok0 oZ (fun vs H Q E h=>?_) (fun cdv A outer s H vs Q E hr h=>?_)
 ·obtain ⟨v,rfl,_⟩:=h
  rfl
 obtain ⟨v,rfl,h,q⟩:=h;have nd:=oZ.nd;refine ⟨_,(oA (PS.zero (bU (i:=1) nd rfl (Or.inl rfl) (jU aD))) (oA (Fv (i:=2) rfl rfl rfl rfl nd rfl rfl rfl rfl H_ (fun G=>aK (gY (Fq aBe aBf (hr.mono aAW) rfl R_ aBg .nil (mD rfl rfl rfl rfl) (aB (pv 0) aD)))) (fun a=>(aK (bU (i:=1) nd rfl (Or.inl rfl) (Cr X_ (hr.mark _) (aB (pv 2) aD)))))) (qR.zero (aK (bC (pv 1)))))),?_⟩;refine ⟨aDK _,fun l0 h0=>?_⟩;have s0:=aC h0 (.lst []);generalize aM H l0 (.lst [])=H1 at s0 ⊢;refine ⟨_,rfl,?_⟩;intro x dx hx hdx ndx;have nO:aU H1 (aM (aM H1 dx (.own x)) x (.ins C dx [])):=(aC hdx (.own x)).trans (aC (by rw [aH (Ne.symm ndx)]; exact hx) _);refine ⟨x,dx,v,rfl,aA,.inr ⟨(h.same s0).same nO,fun H3 s3=>?_⟩⟩;refine ⟨ex_NoOffers,fun a na=>?_⟩;have s4:=aC na (.ext (qI a (.ref d_)));have ha:aM H3 a (.ext (qI a (.ref d_))) a=some (.ext (qI a (.ref d_))):=aA;generalize aM H3 a (.ext (qI a (.ref d_)))=H4 at s4 ha ⊢;refine ⟨_,rfl,a,d_,true,false,false,false,rfl,ha,xt_NoOffers,pZ _,k1_NoOffers,k2_NoOffers,k3_NoOffers,fun L H5 s5 hL=>?_⟩;exact ⟨_,rfl,q L H5 (s0.trans (nO.trans (s3.trans (s4.trans s5)))) hL⟩
theorem wC {n:Nat}{f:Addr}{fd:FuncData}(F:fC K "_law_asked" "_law_asked" (top 59) f fd){C:Addr}(cf:OF K C){d_ a_ g_ j_:Addr}{aCO:Addr}{aCA:FuncData}(aC5:nJ K C "first_taken" aCO)(aC6:bH P w K mg base (xR P w) n aCO aCA ["self","order","level"] (QF C a_))(aC7:Binds K aCA ["self","order","level"] []){aCP:Addr}{aCB:FuncData}(aC8:nJ K C "taken_by" aCP)(aC9:bH P w K mg base (xR P w) n aCP aCB ["self","rule"] (vJ C a_))(aDa:Binds K aCB ["self","rule"] []){aCQ:Addr}{aCC:FuncData}(aDb:nJ K C "rule_losses" aCQ)(aDc:bH P w K mg base (xR P w) n aCQ aCC ["self","rule"] (vJ C a_))(aDd:Binds K aCC ["self","rule"] []){q_:Addr}(H_:mg "LidError" = some (.ref q_))(xt_NoRule:Lf K a_)(ex_NoRule:PySem.W.exmOne K (.ref a_) (.ref q_)=some true)(k1_NoRule:PySem.W.kitOne K (.ref a_) (.ref d_)=some false)(k2_NoRule:PySem.W.kitOne K (.ref a_) (.ref g_)=some false)(k3_NoRule:PySem.W.kitOne K (.ref a_) (.ref j_)=some false){W_:Addr}{Q_:FuncData}(X_:Fd P w K mg base n "_law_kinds" ["_law_e"] (Gm K d_ a_ g_ j_) W_ Q_):bH P w K mg base fO (n+1) f fd ["_law_offers","_law_word","_law_thing"] (Ji C):=by
 refine F.ok0 nF (fun vs H Q E h=>?_) (fun cdv A outer s H vs Q E hr h=>?_)
 ·obtain ⟨x,z,v,ts,rfl,_⟩:=h
  rfl
 obtain ⟨x,z,v,ts,rfl,hO,t8,h,q⟩:=h;have nd:=nF.nd;have hu1:_+0+1<cLine:=aEk (aEg (by decide:1<=64) _) (d8.units hr);refine ⟨_,(oA (PS.zero (bU (i:=3) nd rfl (Or.inl rfl) (jU aD))) (oA (Fv (i:=4) rfl rfl rfl rfl nd rfl rfl rfl rfl H_ (fun G=>(aK (iW (gD yI (pv 1) FJ (eE _)) (aK (gY (qN (pv 0) cf.cl aC5 aC6 hr aC7 .nil (mD rfl rfl rfl rfl) (aB (pv 2) (aB (gQ (aB aO (aB aO aD))) aD))))) (aK (iW (gD yI (pv 1) FJ (eE _)) (aK (gY (qN (pv 0) cf.cl aC8 aC9 hr aDa .nil (mD rfl rfl rfl rfl) (aB (pv 2) aD)))) (aK (gY (qN (pv 0) cf.cl aDb aDc hr aDd .nil (mD rfl rfl rfl rfl) (aB (pv 2) aD))))))))) (fun a=>(aK (bU (i:=3) nd rfl (Or.inl rfl) (Cr X_ (hr.mark _) (aB (pv 4) aD)))))) (qR.zero (aK (bC (qD (Mx (n:=0) hu1) (pv 3) (jU (aB mR (aB mR (aB mR (aB mR aD))))) (eE _))))))),?_⟩;refine ⟨aDK _,fun l0 h0=>?_⟩;have s0:=aC h0 (.lst []);generalize aM H l0 (.lst [])=H1 at s0 ⊢;have hO1:=hO.same s0;have hO1':=hO1;obtain ⟨dx,k,hx,_⟩:=hO1';have h1:=h.same s0;clear h;cases h1 with
 | ord h =>
  refine ⟨_,rfl,rfl,_,rfl,Ec rfl ?_⟩;refine ⟨_,rfl,x,dx,_,rfl,hx,rfl,_,rfl,Bp,fun u hu=>?_⟩;have sU:=aC hu (.tup [V.int 1,V.int 1]);refine ⟨x,v,.ref u,ts,rfl,hO1.same sU,t8,h.same sU,fun H3 s3=>?_⟩;refine ⟨ex_NoRule,fun a na=>?_⟩;have s4:=aC na (.ext (qI a (.ref a_)));have ha:aM H3 a (.ext (qI a (.ref a_))) a=some (.ext (qI a (.ref a_))):=aA;generalize aM H3 a (.ext (qI a (.ref a_)))=H4 at s4 ha ⊢;refine ⟨_,rfl,a,a_,false,true,false,false,rfl,ha,xt_NoRule,k1_NoRule,pZ _,k2_NoRule,k3_NoRule,fun L H5 s5 hL=>?_⟩;refine ⟨_,rfl,mK (show 4<=1000 by decide),fun M hM=>?_⟩;have s6:=aC hM (.lst [V.bl false,V.bl true,V.bl false,V.bl false]);exact ⟨L,M,true,rfl,rfl,yQ (n:=0) (bs:=[false,true,false,false]) (s6 _ _ hL) aA,q _ ((s0.trans sU).trans (s3.trans (s4.trans (s5.trans s6))))⟩
 | tak h =>
  refine ⟨_,rfl,rfl,_,rfl,Gd rfl ?_⟩;refine ⟨_,rfl,rfl,_,rfl,Ec rfl ?_⟩;refine ⟨_,rfl,x,dx,_,rfl,hx,rfl,_,rfl,x,v,ts,rfl,hO1,t8,h,fun H3 s3=>?_⟩;refine ⟨ex_NoRule,fun a na=>?_⟩;have s4:=aC na (.ext (qI a (.ref a_)));have ha:aM H3 a (.ext (qI a (.ref a_))) a=some (.ext (qI a (.ref a_))):=aA;generalize aM H3 a (.ext (qI a (.ref a_)))=H4 at s4 ha ⊢;refine ⟨_,rfl,a,a_,false,true,false,false,rfl,ha,xt_NoRule,k1_NoRule,pZ _,k2_NoRule,k3_NoRule,fun L H5 s5 hL=>?_⟩;refine ⟨_,rfl,mK (show 4<=1000 by decide),fun M hM=>?_⟩;have s6:=aC hM (.lst [V.bl false,V.bl true,V.bl false,V.bl false]);exact ⟨L,M,true,rfl,rfl,yQ (n:=0) (bs:=[false,true,false,false]) (s6 _ _ hL) aA,q _ (s0.trans (s3.trans (s4.trans (s5.trans s6))))⟩
 | los h =>
  refine ⟨_,rfl,rfl,_,rfl,Gd rfl ?_⟩;refine ⟨_,rfl,rfl,_,rfl,Gd rfl ?_⟩;refine ⟨_,rfl,x,dx,_,rfl,hx,rfl,_,rfl,x,v,ts,rfl,hO1,t8,h,fun H3 s3=>?_⟩;refine ⟨ex_NoRule,fun a na=>?_⟩;have s4:=aC na (.ext (qI a (.ref a_)));have ha:aM H3 a (.ext (qI a (.ref a_))) a=some (.ext (qI a (.ref a_))):=aA;generalize aM H3 a (.ext (qI a (.ref a_)))=H4 at s4 ha ⊢;refine ⟨_,rfl,a,a_,false,true,false,false,rfl,ha,xt_NoRule,k1_NoRule,pZ _,k2_NoRule,k3_NoRule,fun L H5 s5 hL=>?_⟩;refine ⟨_,rfl,mK (show 4<=1000 by decide),fun M hM=>?_⟩;have s6:=aC hM (.lst [V.bl false,V.bl true,V.bl false,V.bl false]);exact ⟨L,M,true,rfl,rfl,yQ (n:=0) (bs:=[false,true,false,false]) (s6 _ _ hL) aA,q _ (s0.trans (s3.trans (s4.trans (s5.trans s6))))⟩
def uA (K:PySem.W.Frag)(P:Addr):Sp:=fun vs H Q _=>∃ (a:Addr) (ns:List Int),vs=[.ref a]/\bB K H a (ns.map V.int)/\ns.length<=63/\H P=some (.tbl #[])/\∀ H',Q (.bl true) H'
theorem QD {K:PySem.W.Frag}{H:Hp}{n:Nat}{x y:V}{b:Bool}(d:DE K H n x y b):DE K H (n+1) x y b:=by
 induction d with
 | int n i j=>exact .int _ i j
 | bl n i j=>exact .bl _ i j
 | str n i j=>exact .str _ i j
 | tup e ha hb h ih=>exact .tup e ha hb ih
 | lst e ha hb hl h ih=>exact .lst e ha hb hl ih
 | lstN ha hb hl=>exact .lstN ha hb hl
theorem Oh {K:PySem.W.Frag}{H:Hp}{a b:Addr}{ts ts':List Tn}(h1:qM H a ts)(h2:qM H b ts')(e:ts.map Tn.ys=ts'.map Tn.ys):DE K H 4 (.ref a) (.ref b) true:=by
 have hl:ts.length=ts'.length:=by simpa using congrArg aDP e
 have d:=DE.lst (K:=K) (n:=3) (fun _=>true) (bB.of h1.lst) (bB.of h2.lst) (by rw [cI,cI,hl]) (fun j x y hx hy=>?_)
 ·rw [nM] at d;exact d
 ·obtain ⟨r,hr,rfl⟩:=fQ hx;obtain ⟨z,hz,rfl⟩:=fQ hy;have er:r.ys=z.ys:=by
   have q:(ts.map Tn.ys)[j]? = (ts'.map Tn.ys)[j]?:=by rw [e]
   rw [aDm,aDm,hr,hz] at q;exact aEc.inj q
  exact Rn (h1.tabs r (aDi hr)) (h2.tabs z (aDi hz)) (by rw [er])
theorem Np {K:PySem.W.Frag}{H:Hp}{n:Nat}{a b p q r s:Addr}(h1:H a=some (.tup [.ref p,.ref q]))(h2:H b=some (.tup [.ref r,.ref s]))(e1:DE K H n (.ref p) (.ref r) true)(e2:DE K H n (.ref q) (.ref s) true):DE K H (n+1) (.ref a) (.ref b) true:=by
 have z:=DE.tup (K:=K) (H:=H) (n:=n) (fun _=>true) (cW.of h1) (cW.of h2) fun j x y hx hy=>by
  rcases j with _ | _ | j
  ·cases hx; cases hy; exact e1
  ·cases hx; cases hy; exact e2
  ·simp at hx
 exact z
theorem Rz {K:PySem.W.Frag}{H:Hp}{a b:Addr}{us vs:List Hr}(h1:o7 H a us)(h2:o7 H b vs)(e:us.map (fun u=>(u.f,u.g))=vs.map fun u=>(u.f,u.g)):DE K H 3 (.ref a) (.ref b) true:=by
 have el:us.length=vs.length:=by simpa using congrArg aDP e
 have z:=DE.lst (K:=K) (H:=H) (n:=2) (fun _=>true) (bB.of h1.lst) (bB.of h2.lst) (by rw [jD,jD,el]) fun j x y hx hy=>by
  obtain ⟨u,hu,rfl⟩:=uI hx;obtain ⟨v,hv,rfl⟩:=uI hy;obtain ⟨u',hu',eb⟩:=xG (f:=fun r:Hr=>(r.f,r.g)) e hv;rw [hu] at hu';cases hu';have a1:=h1.at_ u (aDi hu);have a2:=h2.at_ v (aDi hv);have e1:u.f=v.f:=congrArg Prod.fst eb;have e2:u.g=v.g:=congrArg Prod.snd eb;refine Np a1.1 a2.1 (yF a1.2.1 ?_) (yF a1.2.2 ?_)
  ·rw [e1]; exact a2.2.1
  ·rw [e2]; exact a2.2.2
 rw [nM] at z;exact z
theorem W3 {K:PySem.W.Frag}{H:Hp}{p q:Addr}{l n s:Rk.Fc}{rs:List (Rk.Fc×Rk.Fc)}(h1:Ai H p l n rs s)(h2:Ai H q l n rs s):DE K H 4 (.ref p) (.ref q) true:=by
 obtain ⟨a,b,c,d,us,e1,e2,e3,e4,e5,e6⟩:=h1.ex;obtain ⟨a',b',c',d',us',f1,f2,f3,f4,f5,f6⟩:=h2.ex;have z:=DE.tup (K:=K) (H:=H) (n:=3) (fun _=>true) (cW.of e1) (cW.of f1) fun j x y hx hy=>by
  rcases j with _ | _ | _ | _ | j
  ·cases hx; cases hy; exact yF e2 f2
  ·cases hx; cases hy; exact yF e3 f3
  ·cases hx; cases hy; exact Rz e4 f4 (e5.trans f5.symm)
  ·cases hx; cases hy; exact yF e6 f6
  ·simp at hx
 exact z
theorem fU.sameT {H H':Hp}{P:Addr}{pos:Pos}{qual:Str}{p:Addr}{f:Rk.Fc}(s:bN P H H')(t:cN P pos qual H)(h:fU H p f):fU H' p f:=s.get t h (fun _ z=>nomatch z)
theorem Ai.sameT {H H':Hp}{P:Addr}{pos:Pos}{qual:Str}{p:Addr}{l n s:Rk.Fc}{rs:List (Rk.Fc×Rk.Fc)}(st:bN P H H')(t:cN P pos qual H)(h:Ai H p l n rs s):Ai H' p l n rs s:=by
 obtain ⟨a,b,c,d,us,e1,e2,e3,e4,e5,e6⟩:=h.ex;exact ⟨a,b,c,d,us,st.get t e1 (fun _ z=>nomatch z),fU.sameT st t e2,fU.sameT st t e3,⟨st.get t e4.lst (fun _ z=>nomatch z),fun u hu=>⟨st.get t (e4.at_ u hu).1 (fun _ z=>nomatch z),fU.sameT st t (e4.at_ u hu).2.1,fU.sameT st t (e4.at_ u hu).2.2⟩⟩,e5,fU.sameT st t e6⟩
theorem qX {H H':Hp}{P:Addr}{pos:Pos}{qual:Str}{a:Addr}{rs:List Rs}(s:bN P H H')(t:cN P pos qual H)(h:iJ H a rs):iJ H' a rs:=⟨s.get t h.lst (fun _ z=>nomatch z),fun r hr=>s.get t (h.at_ r hr) (fun _ z=>nomatch z)⟩
theorem Hh {C:Addr}{H H':Hp}{P:Addr}{pos:Pos}{qual:Str}{x:Addr}{ts:List Tn}(s:bN P H H')(t:cN P pos qual H)(h:GP C H x ts):GP C H' x ts:=by
 obtain ⟨dx,k,hx,hK⟩:=h;exact ⟨dx,k,s.get t hx (fun _ z=>nomatch z),⟨s.get t hK.tp (fun _ z=>nomatch z),fun u hu=>(hK.each u hu).sameT s t⟩⟩
theorem Ke {K:PySem.W.Frag}{H:Hp}{a b p q r s t u:Addr}(h1:H a=some (.lst [.ref p,.ref q,.ref r]))(h2:H b=some (.lst [.ref s,.ref t,.ref u]))(e1:DE K H 4 (.ref p) (.ref s) true)(e2:DE K H 4 (.ref q) (.ref t) true)(e3:DE K H 4 (.ref r) (.ref u) true):DE K H 5 (.ref a) (.ref b) true:=by
 have z:=DE.lst (K:=K) (H:=H) (n:=4) (fun _=>true) (bB.of h1) (bB.of h2) rfl fun j x y hx hy=>by
  rcases j with _ | _ | _ | j
  ·cases hx; cases hy; exact e1
  ·cases hx; cases hy; exact e2
  ·cases hx; cases hy; exact e3
  ·simp at hx
 exact z
theorem Qs {n:Nat}{f:Addr}{fd:FuncData}(F:fC K "law" "law" (top 60) f fd){C:Addr}(cf:OF K C){d_:Addr}{iO:Addr}{iD:FuncData}{kO:Nat}(aBe:Mk K C iO)(aBf:bH P w K mg base (xR P w) kO iO iD ["self","lists"] (KJ C d_ Pt iQ))(aBg:Binds K iD ["self","lists"] [])(R_:mg "Offers" = some (.ref C))(aAW:kO+1<=n){aCm:Addr}{aBL:FuncData}(aCp:nJ K C "tables" aCm)(aCq:bH P w K mg base fO n aCm aBL ["self"] (LC C))(aCr:Binds K aBL ["self"] []){aCR:Addr}{aCD:FuncData}(aCS:nJ K C "worths_on" aCR)(aCT:bH P w K mg base fO n aCR aCD ["self"] (QG C))(aCU:Binds K aCD ["self"] []){aCV:Addr}{aCE:FuncData}(aCW:nJ K C "half_paper" aCV)(aCX:bH P w K mg base fO n aCV aCE ["self"] (QJ C Pt))(aCY:Binds K aCE ["self"] []){aBy:Addr}{aBo:FuncData}(Y_:eO P w K mg base n "_law_asked" ["_law_offers","_law_word","_law_thing"] (Ji C) aBy aBo){aBh:Addr}{aA1:FuncData}(aBi:eO P w K mg base n "_law_no_rule" ["_law_lists_here","_law_cell_here"] Pk aBh aA1){aAz:Addr}{V_:FuncData}(z_:eO P w K mg base n "_law_cell" ["_law_script","_law_k"] (Dy K) aAz V_){aA2:Addr}{aAX:FuncData}(aA3:eO P w K mg base n "_law_no_order" ["_law_many","_law_cell_here"] Qd aA2 aAX){aBN:Addr}{aBz:FuncData}(aBO:eO P w K mg base n "_law_made" ["_law_thing"] Ge aBN aBz){aA4:Addr}{aAY:FuncData}(aA5:eO P w K mg base n "_law_no_lists" ["_law_lists_here","_law_cell_here"] Q4 aA4 aAY){aBA:Addr}{aBp:FuncData}(aBB:eO P w K mg base n "_law_lists" ["_law_script"] (Pn K) aBA aBp)(e_:mg "len" = none):bH P w K mg base fO (n+1) f fd ["_law_script"] (uA K Pt):=by
 refine F.ok MP (fun vs H Q E h=>?_) (fun cdv A outer s H vs Q E hr h=>?_)
 ·obtain ⟨a,ns,rfl,_⟩:=h
  rfl
 obtain ⟨a,ns,rfl,hS,h63,hT0,q⟩:=h;have nd:=MP.nd;have hu1:_+0+1<cLine:=aEk (aEg (by decide:1<=64) _) (d8.units hr);have hu5:_+4+1<cLine:=aEk (aEg (by decide:5<=64) _) (d8.units hr);refine ⟨_,N6.h (bL (dY (i:=1) nd rfl (Or.inl rfl) (eY aBB hr (aF (qv 0) aX))) (bL (xH (uD (Qz (n:=0) hu1) (eY aBO hr (aF (eY aA5 hr (aF (qv 1) (aF (eY z_ hr (aF (qv 0) (aF bD aX))) aX))) aX)) (b7 (aF m8 (aF m8 (aF m8 (aF m8 aX))))) (eE _)) (gU (lR m8)) n8) (bL (dY (i:=2) nd rfl (Or.inl rfl) (O8 aBe aBf (hr.mono aAW) rfl R_ aBg .nil Sy (aF (qv 1) aX))) (bL (dY (i:=3) nd rfl (Or.inl rfl) (b7 (aF (lC (qv 2) cf.cl aCp aCq hr aCr .nil oO) (aF (lC (qv 2) cf.cl aCS aCT hr aCU .nil oO) (aF (lC (qv 2) cf.cl aCW aCX hr aCY .nil oO) aX))))) (bL (xH (Ei (Eb (eY Y_ hr (aF (qv 2) (aF rR (aF (eY aA3 hr (aF (uZ bZ rfl e_ fX (aF (qv 1) aX)) (aF (eY z_ hr (aF (qv 0) (aF bD aX))) aX))) aX)))))) (gU (lR m8)) n8) (bL (dY (i:=4) nd rfl (Or.inl rfl) (eY aBi hr (aF (qv 1) (aF (eY z_ hr (aF (qv 0) (aF bD aX))) aX)))) (bL (xH (QW.qt (WP (Ei (Eb (eY Y_ hr (aF (qv 2) (aF rR (aF (qv 4) aX)))))) (RG (Ei (Eb (eY Y_ hr (aF (qv 2) (aF rR (aF (qv 4) aX))))))))) (gU (lR m8)) n8) (gU (lR (Ni (Mx (n:=4) hu5) (b7 (aF (lC (qv 2) cf.cl aCp aCq hr aCr .nil oO) (aF (lC (qv 2) cf.cl aCS aCT hr aCU .nil oO) (aF (lC (qv 2) cf.cl aCW aCX hr aCY .nil oO) aX)))) (qv 3) (eE _))))))))))),?_⟩;refine ⟨_,rfl,a,ns,rfl,hS,fun Lx H1 ls s1 hL gl=>?_⟩;have g5:=gl.len;have hll:=cG ls;have gpos:1<=ls.length:=aDT.mpr gl.ne;refine ⟨_,rfl,_,rfl,a,ns,6,rfl,s1.seq hS,by decide,Lx,ls,_,rfl,hL,gl,fun v H2 s2 bv=>?_⟩;refine ⟨v,rfl,bv,fun M H3 s3 hM=>?_⟩;refine ⟨mK (show 4<=1000 by decide),fun N hN=>?_⟩;have s4:=aC hN (.lst [V.bl true,V.bl false,V.bl false,V.bl false]);refine ⟨M,N,true,rfl,rfl,yQ (n:=0) (bs:=[true,false,false,false]) (s4 _ _ hM) aA,_,rfl,?_⟩;refine jA ?_;have QB:=s2.trans (s3.trans s4);generalize aM H3 N (.lst [V.bl true,V.bl false,V.bl false,V.bl false])=H4 at QB ⊢;have hL4:=hL.same QB;have s04:=s1.trans QB;refine ⟨_,rfl,fun x dx0 hx hdx ndx=>?_⟩;have nO:aU H4 (aM (aM H4 dx0 (.own x)) x (.ins C dx0 [])):=(aC hdx (.own x)).trans (aC (by rw [aH (Ne.symm ndx)]; exact hx) _);have tb4:cN Pt iQ jN H4:=.inl (s04 _ _ hT0);refine ⟨x,dx0,.ref Lx,rfl,aA,.inl ⟨Lx,ls,rfl,hL4.same nO,gl.ne,by omega,gl.gi,tb4.same nO,fun k H5 ts st tb5 hx5 hK ko=>⟨rfl,?_⟩⟩⟩;have sT6:bN Pt H4 (aM H5 x (.ins C dx0 [("kinds",.ref k)])):=((nO.toT).trans st).upd_new hx _;have tb_I:cN Pt iQ jN (aM H5 x (.ins C dx0 [("kinds",.ref k)])):=KN tb5 hx5;have hO_I:GP C (aM H5 x (.ins C dx0 [("kinds",.ref k)])) x ts:=⟨dx0,k,aA,hK.over_ins hx5⟩
 have hx_I:aM H5 x (.ins C dx0 [("kinds",.ref k)]) x=some (.ins C dx0 [("kinds",.ref k)]):=aA;have hL_I:=hL4.sameT sT6 tb4;have hS_I:bB K (aM H5 x (.ins C dx0 [("kinds",.ref k)])) a (ns.map V.int):=sT6.lst tb4 (s04.seq hS);generalize aM H5 x (.ins C dx0 [("kinds",.ref k)])=H_I at tb_I hO_I hx_I hL_I hS_I ⊢;obtain ⟨gm,gk⟩:=Q0 gl ko;have rn:=Iz gl ko;have tl:ts.length=ls.length:=ko.len.symm;refine ⟨_,rfl,x,dx0,_,rfl,hx_I,rfl,x,ts,rfl,hO_I,by omega,fun ta1 Ha1 us1 sa1 hU1 eu1=>?_⟩;have hOa1:=hO_I.same sa1;refine ⟨_,rfl,x,dx0,_,rfl,sa1 _ _ hx_I,rfl,x,ts,rfl,hOa1,gk,fun wo1 Hb1 rs1 sb1 hwn1 hF1 ev1=>?_⟩;have sab1:=sa1.trans sb1;have hOb1:=hO_I.same sab1;have tbb1:=tb_I.same sab1;refine ⟨_,rfl,x,dx0,_,rfl,sab1 _ _ hx_I,rfl,x,ts,rfl,hOb1,gm,tbb1,fun hp1 Hc1 sc1 tbc1 hH1=>?_⟩;have hUc1:=rJ sc1 tbb1 (dR sb1 hU1);have hFc1:=qX sc1 tbb1 hF1;refine ⟨mK (show 3<=1000 by decide),fun K1 hK1=>?_⟩;have nK1:=aC hK1 (.lst [V.ref ta1,V.ref wo1,V.ref hp1]);have yK1:aM Hc1 K1 (.lst [V.ref ta1,V.ref wo1,V.ref hp1]) K1=some (.lst [V.ref ta1,V.ref wo1,V.ref hp1]):=aA;have sI1:bN Pt H_I (aM Hc1 K1 (.lst [V.ref ta1,V.ref wo1,V.ref hp1])):=(sab1.toT.trans sc1).trans nK1.toT;have tbK1:=tbc1.same nK1;have hUk1:=dR nK1 hUc1;have hFk1:=hFc1.same nK1;have hHk1:=Ai.sameT (P:=Pt) nK1.toT tbc1 hH1;generalize aM Hc1 K1 (.lst [V.ref ta1,V.ref wo1,V.ref hp1])=H7 at yK1 sI1 tbK1 hUk1 hFk1 hHk1 ⊢;have hx7:=sI1.get tb_I hx_I (fun _ z=>nomatch z);have hO7:=Hh sI1 tb_I hO_I;have hL7:=hL_I.sameT sI1 tb_I;have hS7:bB K H7 a (ns.map V.int):=sI1.lst tb_I hS_I;clear hK1 nK1;refine ⟨_,rfl,_,rfl,Lx,_,rfl,.inl (bB.of hL7.lst),_,rfl,a,ns,7,rfl,hS7,by decide,((bG ls).length:Int),_,rfl,by omega,by omega,fun v2 H8 s8 b8=>?_⟩;rw [hll,<- tl] at b8;refine ⟨x,_,v2,ts,rfl,hO7.same s8,by omega,.ord b8,fun H9 s9=>?_⟩;refine ⟨_,rfl,?_⟩;refine jA ?_;have s79:=s8.trans s9;refine ⟨_,rfl,_,rfl,a,ns,8,rfl,s79.seq hS7,by decide,Lx,ls,_,rfl,hL7.same s79,gl,fun v3 HA sA bA=>?_⟩;rw [<- rn] at bA;have s7A:=s79.trans sA;refine ⟨_,rfl,_,rfl,x,_,v3,ts,rfl,hO7.same s7A,by omega,.tak bA,fun HB sB=>?_⟩;refine ⟨_,rfl,?_⟩;refine jA ?_;refine ⟨_,rfl,_,rfl,x,_,v3,ts,rfl,hO7.same (s7A.trans sB),by omega,.los (bA.same sB),fun HC sC=>?_⟩;refine ⟨_,rfl,?_⟩;refine jA ?_;have s7C:=(s7A.trans sB).trans sC;have hx_J:=s7C _ _ hx7;have hO_J:=hO7.same s7C;have tb_J:=tbK1.same s7C;refine ⟨_,rfl,x,dx0,_,rfl,hx_J,rfl,x,ts,rfl,hO_J,by omega,fun ta2 Ha2 us2 sa2 hU2 eu2=>?_⟩;have hOa2:=hO_J.same sa2;refine ⟨_,rfl,x,dx0,_,rfl,sa2 _ _ hx_J,rfl,x,ts,rfl,hOa2,gk,fun wo2 Hb2 rs2 sb2 hwn2 hF2 ev2=>?_⟩;have sab2:=sa2.trans sb2;have hOb2:=hO_J.same sab2;have tbb2:=tb_J.same sab2;refine ⟨_,rfl,x,dx0,_,rfl,sab2 _ _ hx_J,rfl,x,ts,rfl,hOb2,gm,tbb2,fun hp2 Hc2 sc2 tbc2 hH2=>?_⟩;have hUc2:=rJ sc2 tbb2 (dR sb2 hU2);have hFc2:=qX sc2 tbb2 hF2;refine ⟨mK (show 3<=1000 by decide),fun K2 hK2=>?_⟩;have nK2:=aC hK2 (.lst [V.ref ta2,V.ref wo2,V.ref hp2]);have yK2:aM Hc2 K2 (.lst [V.ref ta2,V.ref wo2,V.ref hp2]) K2=some (.lst [V.ref ta2,V.ref wo2,V.ref hp2]):=aA;have sJ2:bN Pt HC (aM Hc2 K2 (.lst [V.ref ta2,V.ref wo2,V.ref hp2])):=(sab2.toT.trans sc2).trans nK2.toT;have tbK2:=tbc2.same nK2;have hUk2:=dR nK2 hUc2;have hFk2:=hFc2.same nK2;have hHk2:=Ai.sameT (P:=Pt) nK2.toT tbc2 hH2;generalize aM Hc2 K2 (.lst [V.ref ta2,V.ref wo2,V.ref hp2])=HD at yK2 sJ2 tbK2 hUk2 hFk2 hHk2 ⊢;have tT:=s7C.toT (P:=Pt) |> fun z=>z.trans sJ2
 have e1:=Oh (K:=K) hUk2 (rJ tT tbK1 hUk1) (eu2.trans eu1.symm);have e2:=QD (QD (Qy (K:=K) hFk2 (qX tT tbK1 hFk1) (ev2.trans ev1.symm)));have e3:=W3 (K:=K) hHk2 (Ai.sameT tT tbK1 hHk1);refine ⟨_,rfl,K2,K1,true,rfl,rfl,Ke yK2 (tT.get tbK1 yK1 (fun _ z=>nomatch z)) e1 e2 e3,?_⟩;exact q HD
end
end K77
namespace L2
open PySem PySem.Spec PyProof.Rows
structure Yh (K:PySem.W.Frag)(dT:Addr)(x qual:Str)(st:Stmt)(f:Addr)(fd:FuncData):Prop where
 ex:∃ (oc:Value) (od:Option Addr) (kV doc pm:Value) (an:Option Addr) (cdv ct:Value) (osl:Array (Option Value)),
  fd=PySem.W.fnOf x qual (kI st) (fH st) (aG st) (.ref dT) kV doc pm an cdv ct/\K.lookup f=some ⟨oc,od,.func fd,osl⟩/\PySem.W.codeIn K cdv qual=true
 kp:PySem.W.keepIn K (.ref f)=true
structure TF (K:PySem.W.Frag)(x:Str)(st:Stmt)(f:Addr)(fd:FuncData):Prop where
 a:PySem.W.nsIn K mainGlobals x=some (some (.ref f))
 F:fC K x x st f fd
structure MF (K:PySem.W.Frag)(C:Addr)(m q:Str)(st:Stmt)(f:Addr)(fd:FuncData):Prop where
 a:PySem.W.findIn K (.ref C) m=some (some (.ref f))
 i:PySem.W.isFn K (.ref f)=true
 F:fC K m q st f fd
structure TD (K:PySem.W.Frag)(x:Str)(st:Stmt)(dT f:Addr)(fd:FuncData):Prop where
 a:PySem.W.nsIn K mainGlobals x=some (some (.ref f))
 F:Yh K dT x x st f fd
def SN (K:PySem.W.Frag)(l:List Str):Bool:=l.all fun x=>match PySem.W.nsIn K mainGlobals x with | some none=>true | _=>false
def Ug (mg:Str->Option Value):List Str->Prop
 | []=>True
 | x::r=>mg x=none/\Ug mg r
section
variable {P:Program}{w:World}{K:PySem.W.Frag}{mg:Str->Option Value}{base h:Heap}{x m q:Str}{st:Stmt}{f C:Addr}{fd:FuncData}{ps:List Str}{sp:Sp}{n:Nat}
theorem Uk (X:K.In h)(G:h.Ns mainGlobals mg):∀ {l:List Str},SN K l=true->Ug mg l
 | [],_=>trivial
 | y::r,e=>by
  have e':((match PySem.W.nsIn K mainGlobals y with | some none=>true | _=>false)&&SN K r)=true:=e;rw [aD2] at e';refine ⟨PySem.W.mg_none_of X G ?_,Uk X G e'.2⟩;have e1:=e'.1;revert e1;cases PySem.W.nsIn K mainGlobals y with
  | none=>intro z; cases z
  | some o=>cases o with
   | none=>intro _; rfl
   | some v=>intro z; cases z
theorem MF.mt (T:MF K C m q st f fd):nJ K C m f:=⟨T.a,T.i,T.F.kp⟩
theorem TF.cal (T:TF K x st f fd)(X:K.In h)(G:h.Ns mainGlobals mg)(g:bH P w K mg base fO n f fd ps sp)(b:Binds K fd ps []):eO P w K mg base n x ps sp f fd:=⟨g,b,T.F.kp,PySem.W.mg_of X G T.a⟩
theorem eO.u {m:Nat}(c:eO P w K mg base n x ps sp f fd)(h:n<=m:=by omega):eO P w K mg base m x ps sp f fd:=c.up h
theorem bH.u {CX:Al}{m:Nat}(g:bH P w K mg base CX n f fd ps sp)(h:n<=m:=by omega):bH P w K mg base CX m f fd ps sp:=g.mono h
theorem Ng {CX:Al}(_:bH P w K mg base CX n f fd ps sp)(b:Binds K fd ps []):Binds K fd ps []:=b
abbrev bnd (x q:Str)(st:Stmt)(us:List Value)(r:List (Str×Value)):Prop:=∀ (kV doc pm:Value) (an:Option Addr) (cdv ct:Value),bindArgs (PySem.W.fnOf x q (kI st) (fH st) (aG st) .none kV doc pm an cdv ct) ⟨us,[]⟩=pure r
theorem fC.bd1 {a:Str}(F:fC K x q st f fd)(h:∀ u,bnd x q st [u] [(a,u)]:=by intros; exact fun _ _ _ _ _ _=>rfl):Binds K fd [a] []:=F.binds fun _ _ _ _ _ _ us hl=>match us,hl with | [_],_=>h _ _ _ _ _ _ _
theorem fC.bd2 {a b:Str}(F:fC K x q st f fd)(h:∀ u v,bnd x q st [u,v] [(a,u),(b,v)]:=by intros; exact fun _ _ _ _ _ _=>rfl):Binds K fd [a,b] []:=F.binds fun _ _ _ _ _ _ us hl=>match us,hl with | [_,_],_=>h _ _ _ _ _ _ _ _
theorem fC.bd3 {a b c:Str}(F:fC K x q st f fd)(h:∀ u v y,bnd x q st [u,v,y] [(a,u),(b,v),(c,y)]:=by intros; exact fun _ _ _ _ _ _=>rfl):Binds K fd [a,b,c] []:=F.binds fun _ _ _ _ _ _ us hl=>match us,hl with | [_,_,_],_=>h _ _ _ _ _ _ _ _ _
end
end L2
namespace K77
open PySem L2 TD PyProof.Rows
theorem VF {P:Program}{w:World}{K:W.Frag}{mg:Str->Option Value}{base:Heap}{n:Nat}{g:Addr}{gd:FuncData}(c:eO P w K mg base n "is_rows" ["rows"] yM g gd):eO P w K mg base n "is_rows" ["rows"] GZ g gd :=
 ⟨c.ok.imp fun vs H Q E ⟨a,xs,e,hL,gx,q⟩=>⟨.ref a,true,e,dX.good hL gx,q⟩,c.bi,c.kp,c.at_⟩
theorem RQ {l:W.OpenLaw}{w:World}{K:W.Frag}{h:Heap}{mg:Str->Option Value}{fa cR Pt f1 f2 f3 f4 f5 f6 f7 f8 f9 f10 f11 f12 f13 f14 f15 f16 f17 f18 f19 f20 f21 f22 f23 f24 f25 f26 f27 f28 f29 f30 f31 f32 f33 f34 f35 f36 f37 f38 f39 f40 f41 f42 f43 f44 f45 f46 f47 f48 f49 cO q_ d_ a_ g_ j_:Addr}{g1 g2 g3 g4 g5 g6 g7 g8 g9 g10 g11 g12 g13 g14 g15 g16 g17 g18 g19 g20 g21 g22 g23 g24 g25 g26 g27 g28 g29 g30 g31 g32 g33 g34 g35 g36 g37 g38 g39 g40 g41 g42 g43 g44 g45 g46 g47 g48 g49:FuncData}(X:K.In h)(G:h.Ns mainGlobals mg)(hfa:mg "law" = some (.ref fa))
  (aCc:W.nsIn K mainGlobals "Offers" = some (some (.ref cO)))
  (aBP:W.nsIn K mainGlobals "LidError" = some (some (.ref q_)))
  (aBQ:W.nsIn K mainGlobals "NoOffers" = some (some (.ref d_)))
  (aCd:W.nsIn K mainGlobals "NoRule" = some (some (.ref a_)))
  (aB4:W.nsIn K mainGlobals "NoTable" = some (some (.ref g_)))
  (aCe:W.nsIn K mainGlobals "NoDeed" = some (some (.ref j_)))
  (T1:TF K "is_whole" (top 8) f1 g1)
  (T2:TF K "common_divisor" (top 9) f2 g2)
  (T3:TF K "common_multiple" (top 10) f3 g3)
  (T4:TF K "share" (top 11) f4 g4)
  (T5:TF K "whole" (top 12) f5 g5)
  (T6:TF K "plus" (top 13) f6 g6)
  (T7:TF K "minus" (top 14) f7 g7)
  (T8:TF K "total" (top 15) f8 g8)
  (T9:TF K "times" (top 16) f9 g9)
  (T10:TF K "below" (top 17) f10 g10)
  (T11:TF K "greater" (top 18) f11 g11)
  (T12:TF K "is_row" (top 23) f12 g12)
  (T13:TF K "is_rows" (top 24) f13 g13)
  (T14:TF K "rising" (top 25) f14 g14)
  (T15:TF K "in_form" (top 26) f15 g15)
  (T16:TF K "table_of" (top 27) f16 g16)
  (T17:TF K "all_weights" (top 28) f17 g17)
  (T18:TF K "by_weights" (top 29) f18 g18)
  (T19:TF K "mean" (top 30) f19 g19)
  (T20:TF K "above" (top 31) f20 g20)
  (T21:TF K "share_from" (top 32) f21 g21)
  (T22:TF K "worths_of" (top 33) f22 g22)
  (T23:TF K "product" (top 34) f23 g23)
  (T24:TF K "greatest" (top 35) f24 g24)
  (T25:TF K "is_lists" (top 38) f25 g25)
  (T26:TF K "is_order" (top 39) f26 g26)
  (T27:TF K "is_truths" (top 40) f27 g27)
  (T28:TF K "is_rule" (top 41) f28 g28)
  (T29:TF K "share_below" (top 42) f29 g29)
  (T30:TF K "all_together" (top 43) f30 g30)
  (T31:TF K "_law_cell" (top 51) f31 g31)
  (T32:TF K "_law_lists" (top 53) f32 g32)
  (T33:TF K "_law_no_lists" (top 54) f33 g33)
  (T34:TF K "_law_no_order" (top 55) f34 g34)
  (T35:TF K "_law_no_rule" (top 56) f35 g35)
  (T36:TF K "_law_kinds" (top 57) f36 g36)
  (T37:TF K "_law_made" (top 58) f37 g37)
  (T38:TF K "_law_asked" (top 59) f38 g38)
  (T39:TF K "law" (top 60) f39 g39)
  (T40:MF K cO "__init__" "Offers.__init__" (inClass (top 49) 0) f40 g40)
  (T41:MF K cO "tables" "Offers.tables" (inClass (top 49) 1) f41 g41)
  (T42:MF K cO "top_mean" "Offers.top_mean" (inClass (top 49) 2) f42 g42)
  (T43:MF K cO "half" "Offers.half" (inClass (top 49) 3) f43 g43)
  (T44:MF K cO "first_taken" "Offers.first_taken" (inClass (top 49) 4) f44 g44)
  (T45:MF K cO "half_paper" "Offers.half_paper" (inClass (top 49) 6) f45 g45)
  (T46:MF K cO "worths_on" "Offers.worths_on" (inClass (top 49) 7) f46 g46)
  (T47:MF K cO "need_rule" "Offers.need_rule" (inClass (top 49) 8) f47 g47)
  (T48:MF K cO "taken_by" "Offers.taken_by" (inClass (top 49) 9) f48 g48)
  (T49:MF K cO "rule_losses" "Offers.rule_losses" (inClass (top 49) 10) f49 g49)
  (cf:OF K cO)
  (mkO:W.makesIn K cO=true)
  (kcO:W.keepIn K (.ref cO)=true)
  (xcO:Bb K d_)
  (xcR:Bb K a_)
  (xtO:Lf K d_)
  (xtR:Lf K a_)
  (exO:W.exmOne K (.ref d_) (.ref q_)=some true)
  (exR:W.exmOne K (.ref a_) (.ref q_)=some true)
  (kO1:W.kitOne K (.ref d_) (.ref a_)=some false)
  (kO2:W.kitOne K (.ref d_) (.ref g_)=some false)
  (kO3:W.kitOne K (.ref d_) (.ref j_)=some false)
  (kR1:W.kitOne K (.ref a_) (.ref d_)=some false)
  (kR2:W.kitOne K (.ref a_) (.ref g_)=some false)
  (kR3:W.kitOne K (.ref a_) (.ref j_)=some false)
  (y_:SN K ["abs","all","bool","dict","enumerate","int","isinstance","len","list","max","range","reversed","set","sorted","sum","tuple","zip"]=true)
  {aAA:Tok} (aBj:W.nsIn K mainGlobals "MOST_WEIGHT" = some (some (.int 1000 aAA)))
  {aAF:Tok} (aBq:W.nsIn K mainGlobals "MOST_WORTH" = some (some (.int 1000000000 aAF)))
  {aAO:Tok} (aBC:W.nsIn K mainGlobals "MOST_ROWS" = some (some (.int 8 aAO)))
  {aAB:Tok} (aBk:W.nsIn K mainGlobals "MOST_OFFERS" = some (some (.int 8 aAB)))
  (gcR:g14.code=.ref cR)
  (tb:W.tabIn K "rising" = some (cR,Pt)) (ch:W.codeHdIn K cR Pt=true) (np:K.lookup Pt=none)
  : ∃ (fd:FuncData) (c P:Addr),(∀ (s:Shared) (v:Value),BindsTo s fd ⟨[v],[]⟩ [("_law_script",v)])/\W.tabIn K "rising" = some (c,P)/\W.codeHdIn K c P=true/\K.lookup P=none/\∀ base:Heap,K.In base->base.Ns mainGlobals mg->W.CodeHd base c P->base.BuiltinsAt mg P->bH l.prog w K mg base fO 8 fa fd ["_law_script"] (uA K P):=by
 cases hfa.symm.trans (W.mg_of X G T39.a);have ⟨aCf,L_,aAP,aBT,aAy,aCg,b_,e_,gV,aCh,I_,aAJ,aCk,aA6,Z_,k_,aBr,_⟩:=Uk X G y_;have R_:=W.mg_of X G aCc;have H_:=W.mg_of X G aBP;have G_:=W.mg_of X G aBQ;have F_:=W.mg_of X G aCd;have aAV:=W.mg_of X G aB4;have aBd:=W.mg_of X G aCe;have M_:=W.mg_of X G aBj;have N_:RelV (.int 1000) (.int 1000 aAA):=⟨_,rfl⟩
 have T_:=W.mg_of X G aBq;have U_:RelV (.int 1000000000) (.int 1000000000 aAF):=⟨_,rfl⟩
 have aAl:=W.mg_of X G aBC;have aAv:RelV (.int 8) (.int 8 aAO):=⟨_,rfl⟩
 have O_:=W.mg_of X G aBk;have P_:RelV (.int 8) (.int 8 aAB):=⟨_,rfl⟩
 refine ⟨g39,cR,Pt,fun s v=>?_,tb,ch,np,fun base _ _ hC hB=>?_⟩
 ·obtain ⟨_,_,_,_,_,_,_,_,_,rfl,_⟩:=T39.F.ex;exact .of_eq rfl
 have R {CX n f g ps sp} (z:bH l.prog w K mg base CX n f g ps sp):=z;have MO:Mk K cO f40:=⟨mkO,T40.a,T40.i,kcO⟩
 have mt41:=T41.mt;have mt42:=T42.mt;have mt43:=T43.mt;have mt44:=T44.mt;have mt45:=T45.mt;have mt46:=T46.mt;have mt47:=T47.mt;have mt48:=T48.mt;have mt49:=T49.mt;have G1:=R (Bm (n:=0) T1.F b_ aAP aCg);have C1:=T1.cal X G G1 T1.F.bd3;have G2:=R (qQ (n:=0) T2.F aCf);have C2:=T2.cal X G G2 T2.F.bd2;have G3:=R (pH (n:=1) T3.F C2.u);have C3:=T3.cal X G G3 T3.F.bd1;have G4:=R (Mq (n:=1) T4.F C2.u);have C4:=T4.cal X G G4 T4.F.bd2;have G5:=R (Mp (n:=0) T5.F );have C5:=T5.cal X G G5 T5.F.bd1;have G6:=R (Oe (n:=2) T6.F C4.u);have C6:=T6.cal X G G6 T6.F.bd2;have G7:=R (Ju (n:=2) T7.F C4.u);have C7:=T7.cal X G G7 T7.F.bd2;have G8:=R (Jk (n:=2) T8.F C4.u C3.u Z_);have C8:=T8.cal X G G8 T8.F.bd1;have G9:=R (Le (n:=2) T9.F C4.u);have C9:=T9.cal X G G9 T9.F.bd2;have G10:=R (Jz (n:=0) T10.F );have C10:=T10.cal X G G10 T10.F.bd2;have G11:=R (FQ (n:=1) T11.F C10.u);have C11:=T11.cal X G G11 T11.F.bd2;have G12:=R (Hs (n:=1) T12.F C1.u e_ b_ k_ M_ N_ T_ U_);have C12:=T12.cal X G G12 T12.F.bd1;have G13:=R (Di (n:=2) T13.F C12.u L_ e_ b_ gV aAl aAv);have C13:=T13.cal X G G13 T13.F.bd1;have G14:=R (JR (n:=0) T14.F gcR hC hB aA6 aCh);have C14:=T14.cal X G G14 T14.F.bd1;have G15:=R (De (n:=1) T15.F C14.u C2.u gV);have C15:=T15.cal X G G15 T15.F.bd1;have G16:=R (Az (n:=3) T16.F C15.u C5.u (VF C13).u);have C16:=T16.cal X G G16 T16.F.bd1;have G17:=R (u9 (n:=0) T17.F Z_);have C17:=T17.cal X G G17 T17.F.bd1;have G18:=R (wI (n:=2) T18.F C4.u C3.u Z_);have C18:=T18.cal X G G18 T18.F.bd2;have G19:=R (Ow (n:=3) T19.F C18.u C17.u);have C19:=T19.cal X G G19 T19.F.bd1;have G20:=R (Jr (n:=3) T20.F C18.u C17.u C10.u);have C20:=T20.cal X G G20 T20.F.bd2;have G21:=R (wG (n:=2) T21.F C4.u C17.u C10.u Z_);have C21:=T21.cal X G G21 T21.F.bd2;have G22:=R (z9 (n:=1) T22.F C14.u gV);have C22:=T22.cal X G G22 T22.F.bd1;have G23:=R (FN (n:=0) T23.F );have C23:=T23.cal X G G23 T23.F.bd1;have G24:=R (Bs (n:=2) T24.F C15.u C22.u C23.u aBr aBT);have C24:=T24.cal X G G24 T24.F.bd1;have G25:=R (Ca (n:=3) T25.F C13.u L_ e_ b_ gV O_ P_);have C25:=T25.cal X G G25 T25.F.bd1;have G26:=R (DQ (n:=1) T26.F C1.u e_ L_ b_ gV aCk);have C26:=T26.cal X G G26 T26.F.bd2;have G27:=R (zF (n:=0) T27.F L_ b_ aAP e_ gV);have C27:=T27.cal X G G27 T27.F.bd2;have G28:=R (Fe (n:=1) T28.F C27.u L_ aBr e_ b_ gV);have C28:=T28.cal X G G28 T28.F.bd2;have G29:=R (v8 (n:=3) T29.F C7.u C21.u C5.u);have C29:=T29.cal X G G29 T29.F.bd2;have G30:=R (tV (n:=3) T30.F C9.u C5.u);have C30:=T30.cal X G G30 T30.F.bd1;have G31:=R (yO (n:=0) T31.F e_);have C31:=T31.cal X G G31 T31.F.bd2;have G32:=R (wH (n:=1) T32.F C31.u I_);have C32:=T32.cal X G G32 T32.F.bd1;have G33:=R (rZ (n:=0) T33.F k_ e_);have C33:=T33.cal X G G33 T33.F.bd2;have G34:=R (rO (n:=0) T34.F k_ gV I_);have C34:=T34.cal X G G34 T34.F.bd2;have G35:=R (tQ (n:=0) T35.F k_ e_ I_);have C35:=T35.cal X G G35 T35.F.bd2;have C36:Fd l.prog w K mg base 1 "_law_kinds" ["_law_e"] (Gm K d_ a_ g_ j_) f36 g36:=⟨wN (n:=0) T36.F G_ F_ aAV aBd b_,T36.F.bd1,T36.F.kp,W.mg_of X G T36.a⟩
 have G40:=R (o9 (n:=4) T40.F cf G_ xcO C16.u C25.u k_);have b40:=Ng G40 T40.F.bd2;have G37:=R (Ae (n:=6) T37.F MO G40 b40 R_ (by omega) H_ xtO exO kO1 kO2 kO3 (C36.up (by omega)));have C37:=T37.cal X G G37 T37.F.bd1;have G44:=R (mV (n:=2) T44.F cf F_ xcR C26.u e_);have b44:=Ng G44 T44.F.bd3;have G47:=R (oJ (n:=2) T47.F cf F_ xcR C28.u);have b47:=Ng G47 T47.F.bd2;have G48:=R (pI (n:=3) T48.F cf mt47 G47.u b47);have b48:=Ng G48 T48.F.bd2;have G49:=R (mW (n:=3) T49.F cf mt47 G47.u b47);have b49:=Ng G49 T49.F.bd2;have G38:=R (wC (n:=4) T38.F cf mt44 G44.u b44 mt48 G48.u b48 mt49 G49.u b49 H_ xtR exR kR1 kR2 kR3 (C36.up (by omega)));have C38:=T38.cal X G G38 T38.F.bd3;have G41:=R (rB (n:=0) T41.F cf gV);have b41:=Ng G41 T41.F.bd1;have G42:=R (pL (n:=4) T42.F cf mt41 G41.u b41 C19.u C24.u);have b42:=Ng G42 T42.F.bd1;have G43:=R (vU (n:=5) T43.F cf mt42 G42.u b42 C9.u C4.u);have b43:=Ng G43 T43.F.bd1;have G45:=R (nU (n:=6) T45.F cf mt43 G43.u b43 C6.u C8.u C9.u C7.u C5.u C30.u C20.u C29.u aAy);have b45:=Ng G45 T45.F.bd1;have G46:=R (oM (n:=3) T46.F cf C18.u C17.u C11.u C5.u aAJ);have b46:=Ng G46 T46.F.bd1;exact Qs (n:=7) T39.F cf MO G40 b40 R_ (by omega) mt41 G41.u b41 mt46 G46.u b46 mt45 G45.u b45 C38.u C35.u C31.u C34.u C37.u C33.u C32.u e_
theorem walk {l:W.OpenLaw}{q:Program}{loose:List Str}{XP:(Str->Option Value)->Heap->Prop}{YP:World->Heap->Prop}{d d0:DefRec}{K:Params->W.Frag}(hn:l.most=some 63)(hdf:d.params.defaults=[])
  (h0:(recsOf q).find? (fun e=>e.name==("rising" : Str))=some d0)
  (hY:∀ (w:World) (h:Heap),YP w h->(K w.params).In h)
  (F:∀ (w:World) (mg:Str->Option Value) (fa:Addr) (h:Heap),(K w.params).In h->h.Ns mainGlobals mg->mg d.name=some (.ref fa) ->
   ∃ (fd:FuncData) (c P:Addr),(∀ (s:Shared) (u:Value),BindsTo s fd ⟨[u],[]⟩ [("_law_script",u)])/\W.tabIn (K w.params) "rising" = some (c,P)/\W.codeHdIn (K w.params) c P=true/\(K w.params).lookup P=none/\∀ base:Heap,(K w.params).In base->base.Ns mainGlobals mg->W.CodeHd base c P->base.BuiltinsAt mg P->bH l.prog w (K w.params) mg base fO 8 fa fd ["_law_script"] (uA (K w.params) P)) :
  W.WalkO q loose XP YP l.row.toRowW d [] (fun f vs=>PySem.call f vs) :=
 L2.K7 (n:=63) (k:=8) (x:="_law_script") (x0:="rising") (CX:=fun _=>fO) (sp:=fun w P=>uA (K w.params) P) hn (by decide) hdf ⟨rfl,by decide,by decide⟩ h0 hY F (fun _ _ a P ns hl hP hS=>⟨a,ns,rfl,hS,hl,hP,fun _=>rfl⟩) fun _ _ _ _ _ z=>z
noncomputable section
abbrev OO:=Params->Obj
def E (P:Params)(x:Str)(t:Tok)(v:Value):DictEntry:=⟨PyData.keyHash P x,.str x t,v⟩
abbrev fnO (n q:Str)(st:Stmt)(dV kV doc pm:Value)(an:Option Addr)(cdv ct:Value):FuncData:=W.fnOf n q (kI st) (fH st) (aG st) dV kV doc pm an cdv ct
def fnT (n q:Str)(st:Stmt):FuncData:={ name:=n,qualname:=q,params:=kI st,body:=.stmts (fH st),scope:=aG st,globals:=0,closure:=[],defaults:=.none,kwdefaults:=.none }
def s0  : Obj:=⟨(.type "tuple"),none,(.seq #[] 0),#[]⟩
def s1  : Obj:=⟨.none,none,(.fields #[]),#[]⟩
def s2 (x0:Str)(x1:Nat)(x3:Nat)(x5:Nat)(x6:Int)(x16:Nat)(x19:Nat)(x20:Int)(x25:Nat):Obj:=⟨(.type "code"),none,(.fields #[(.str x0 x1),(.str x0 x3),(.str "/claim/cut.py" x5),(.int x6 0),(.int 0 0),(.int 0 0),(.int 0 0),(.int 0 0),(.ref x16),(.bool false),(.int 181 0),(.ref x19),.none,.none,.none,.none,(.int x20 0),(.int x6 0),(.str "/claim/cut.py" x25)]),#[]⟩
def s3 (x0:Nat)(x2:Nat)(x3:Str)(x4:Nat):Obj:=⟨(.type "frame"),none,.plain,#[(some (.ref x0)),(some (.ref 3)),(some (.ref x2)),none,(some (.str x3 x4)),none,(some (.ref 0))]⟩
def s4 (x0:Str)(x1:Nat):Obj:=⟨(.type "tuple"),none,(.seq #[(.str x0 x1)] 0),#[]⟩
def s5 (x0:Str)(x1:Str)(x2:Stmt):Obj:=⟨.none,none,(.func (fnT x0 x1 x2)),#[]⟩
def s6 (x0:Str)(x1:Nat)(x2:Str)(x3:Nat)(x5:Nat)(x6:Int)(x8:Int)(x16:Nat)(x19:Nat)(x20:Nat)(x21:Nat)(x22:Nat)(x23:Int)(x28:Nat):Obj:=⟨(.type "code"),none,(.fields #[(.str x0 x1),(.str x2 x3),(.str "/claim/cut.py" x5),(.int x6 0),(.int x8 0),(.int 0 0),(.int 0 0),(.int 3 0),(.ref x16),(.bool true),(.int 181 0),(.ref x19),.none,(.ref x20),(.ref x21),(.ref x22),(.int x23 0),(.int x6 0),(.str "/claim/cut.py" x28)]),#[]⟩
def s7 (x0:Str)(x1:Str)(x2:Stmt)(x3:Str)(x4:Nat)(x5:Nat):Obj:=⟨(.type "function"),none,(.func (fnO x0 x1 x2 .none .none .none (.str x3 x4) none (.ref x5) .none)),#[]⟩
def s8  : Obj:=⟨(.type "builtin_function_or_method"),none,(.fields #[(.builtin "type.__prepare__"),(.type "type")]),#[]⟩
def s9 (P:Params)(x1:Nat)(x5:Nat)(x6:Str)(x7:Nat)(x9:Nat)(x10:Int)(x11:Nat)(x13:Nat)(x14:Nat):Obj:=⟨(.type "dict"),none,(.dict #[E P "__module__" x1 (.str "lidprice.errors" 194),E P "__qualname__" x5 (.str x6 x7),E P "__firstlineno__" x9 (.int x10 x11),E P "__static_attributes__" x13 (.ref x14)] 4),#[]⟩
def Nf (x0:Nat):Obj:=⟨(.type "super"),none,(.fields #[(.ref x0),(.ref x0),(.ref x0)]),#[]⟩
def Sd (x0:Nat):Obj:=⟨(.type "builtin_function_or_method"),none,(.fields #[(.builtin "object.__init_subclass__"),(.ref x0)]),#[]⟩
def O1  : Obj:=⟨(.type "tuple"),none,(.seq #[(.ref 31)] 0),#[]⟩
def Xe (P:Params)(x1:Nat)(x5:Nat)(x6:Int)(x7:Nat)(x9:Nat)(x10:Nat)(x12:Nat):Obj:=⟨(.type "dict"),none,(.dict #[E P "__module__" x1 (.str "lidprice.errors" 194),E P "__firstlineno__" x5 (.int x6 x7),E P "__static_attributes__" x9 (.ref x10),E P "__doc__" x12 .none] 2),#[]⟩
def QB (x0:Str)(x2:Nat)(x4:Nat)(x6:Nat)(x8:Nat)(x10:Nat):Obj:=⟨(.type "type"),none,(.cls ⟨x0,[(.ref 31)],[(.ref x2),(.ref 31),(.type "ValueError"),(.type "Exception"),(.type "BaseException"),(.type "object")],x4,x0,true,[],[],false,none,false⟩),#[(some (.ref x6)),none,(some (.str x0 x8)),(some (.str x0 x10)),(some (.builtin "ValueError.__new__")),(some (.bool true))]⟩
def Iu (x0:Str)(x1:Nat)(x2:Str)(x3:Nat)(x4:Str)(x5:Nat):Obj:=⟨(.type "tuple"),none,(.seq #[(.str x0 x1),(.str x2 x3),(.str x4 x5)] 0),#[]⟩
def Nb (x0:Str)(x1:Nat)(x2:Str)(x3:Nat):Obj:=⟨(.type "tuple"),none,(.seq #[(.str x0 x1),(.str x2 x3)] 0),#[]⟩
def tY (x0:Str)(x1:Nat)(x2:Str)(x3:Nat)(x5:Nat)(x6:Int)(x8:Int)(x16:Nat)(x19:Nat)(x20:Nat)(x21:Int)(x26:Nat):Obj:=⟨(.type "code"),none,(.fields #[(.str x0 x1),(.str x2 x3),(.str "/claim/cut.py" x5),(.int x6 0),(.int x8 0),(.int 0 0),(.int 0 0),(.int 3 0),(.ref x16),(.bool true),(.int 181 0),(.ref x19),.none,.none,.none,(.ref x20),(.int x21 0),(.int x6 0),(.str "/claim/cut.py" x26)]),#[]⟩
def o13:OO:=fun _=>s2 "<module>" 182 183 184 1 11 12 185 186
def o14:OO:=fun _=>s3 13 3 "__main__" 164
def o3:OO:=fun P=>⟨(.type "dict"),none,(.dict #[E P "__name__" 165 (.str "lidprice.shares" 278),E P "__doc__" 166 .none,E P "__package__" 167 .none,E P "__loader__" 168 (.builtin "__main__.__loader__#opaque"),E P "__spec__" 169 .none,E P "__annotations__" 170 (.ref 6),E P "__builtins__" 171 (.ref 4),E P "__file__" 173 (.str "/claim/cut.py" 172),E P "__cached__" 174 .none,E P "_wall" 193 (.ref 21),E P "LidError" 213 (.ref 31),E P "NoTable" 229 (.ref 44),E P "NoDeed" 245 (.ref 56),E P "NoOffers" 261 (.ref 68),E P "NoRule" 277 (.ref 80),E P "is_whole" 288 (.ref 89),E P "common_divisor" 297 (.ref 96),E P "common_multiple" 306 (.ref 103),E P "share" 315 (.ref 110)] 19),#[]⟩
def WT:OO:=fun _=>⟨.none,none,(.fields #[(.int 1 0),(.int 0 0),(.ref 20),(.int 5 0),(.int 0 0),(.ref 27),(.int 7 0),(.int 0 0),(.ref 40),(.int 9 0),(.int 0 0),(.ref 52),(.int 11 0),(.int 0 0),(.ref 64),(.int 13 0),(.int 0 0),(.ref 76),(.int 16 0),(.int 0 0),(.ref 88),(.int 18 0),(.int 0 0),(.ref 95),(.int 24 0),(.int 0 0),(.ref 102),(.int 29 0),(.int 0 0),(.ref 109)]),#[]⟩
def o17:OO:=fun _=>s4 "k" 190
def o19:OO:=fun _=>s5 "_wall" "_wall" (top 0)
def o20:OO:=fun _=>s6 "_wall" 187 "_wall" 188 189 1 1 15 16 17 18 19 191 192
def o21:OO:=fun _=>s7 "_wall" "_wall" (top 0) "__main__" 164 20
def o22:OO:=fun _=>⟨(.type "tuple"),none,(.seq #[(.type "ValueError")] 0),#[]⟩
def o24:OO:=fun P=>s9 P 203 205 "LidError" 204 207 5 206 208 29
def o27:OO:=fun _=>s2 "LidError" 198 199 200 5 25 26 201 202
def o28:OO:=fun _=>s3 27 24 "lidprice.errors" 194
def o30:OO:=fun P=>⟨(.type "dict"),none,(.dict #[E P "__module__" 203 (.str "lidprice.errors" 194),E P "__firstlineno__" 207 (.int 5 206),E P "__static_attributes__" 208 (.ref 29),E P "__weakref__" 210 (.ref 32),E P "__doc__" 211 .none] 3),#[]⟩
def o31:OO:=fun _=>⟨(.type "type"),none,(.cls ⟨"LidError",[(.type "ValueError")],[(.ref 31),(.type "ValueError"),(.type "Exception"),(.type "BaseException"),(.type "object")],30,"LidError",true,[],[(.ref 44),(.ref 56),(.ref 68),(.ref 80)],false,none,false⟩),#[(some (.ref 22)),none,(some (.str "LidError" 196)),(some (.str "LidError" 204)),(some (.builtin "ValueError.__new__")),(some (.bool true))]⟩
def o32:OO:=fun _=>⟨(.type "getset_descriptor"),none,(.fields #[(.str "__weakref__" 209),(.ref 31),(.builtin "ExceptionGroup.__weakref__"),.none]),#[]⟩
def o33:OO:=fun _=>Nf 31
def o34:OO:=fun _=>Sd 31
def o37:OO:=fun P=>s9 P 221 223 "NoTable" 222 225 7 224 226 42
def o40:OO:=fun _=>s2 "NoTable" 216 217 218 7 38 39 219 220
def o41:OO:=fun _=>s3 40 37 "lidprice.errors" 194
def o43:OO:=fun P=>Xe P 221 225 7 224 226 42 227
def o44:OO:=fun _=>QB "NoTable" 44 43 35 214 222
def o45:OO:=fun _=>Nf 44
def o46:OO:=fun _=>Sd 44
def o49:OO:=fun P=>s9 P 237 239 "NoDeed" 238 241 9 240 242 54
def o52:OO:=fun _=>s2 "NoDeed" 232 233 234 9 50 51 235 236
def o53:OO:=fun _=>s3 52 49 "lidprice.errors" 194
def o55:OO:=fun P=>Xe P 237 241 9 240 242 54 243
def o56:OO:=fun _=>QB "NoDeed" 56 55 47 230 238
def o57:OO:=fun _=>Nf 56
def o58:OO:=fun _=>Sd 56
def o61:OO:=fun P=>s9 P 253 255 "NoOffers" 254 257 11 256 258 66
def o64:OO:=fun _=>s2 "NoOffers" 248 249 250 11 62 63 251 252
def o65:OO:=fun _=>s3 64 61 "lidprice.errors" 194
def o67:OO:=fun P=>Xe P 253 257 11 256 258 66 259
def o68:OO:=fun _=>QB "NoOffers" 68 67 59 246 254
def o69:OO:=fun _=>Nf 68
def o70:OO:=fun _=>Sd 68
def o73:OO:=fun P=>s9 P 269 271 "NoRule" 270 273 13 272 274 78
def o76:OO:=fun _=>s2 "NoRule" 264 265 266 13 74 75 267 268
def o77:OO:=fun _=>s3 76 73 "lidprice.errors" 194
def o79:OO:=fun P=>Xe P 269 273 13 272 274 78 275
def o80:OO:=fun _=>QB "NoRule" 80 79 71 262 270
def o81:OO:=fun _=>Nf 80
def o82:OO:=fun _=>Sd 80
def o85:OO:=fun _=>Iu "thing" 283 "least" 284 "most" 285
def o87:OO:=fun _=>s5 "is_whole" "is_whole" (top 8)
def o88:OO:=fun _=>s6 "is_whole" 280 "is_whole" 281 282 16 3 83 84 85 86 87 286 287
def o89:OO:=fun _=>s7 "is_whole" "is_whole" (top 8) "lidprice.shares" 278 88
def o92:OO:=fun _=>Iu "one" 292 "other" 293 "rest" 294
def o94:OO:=fun _=>s5 "common_divisor" "common_divisor" (top 9)
def o95:OO:=fun _=>s6 "common_divisor" 289 "common_divisor" 290 291 18 2 90 91 92 93 94 295 296
def o96:OO:=fun _=>s7 "common_divisor" "common_divisor" (top 9) "lidprice.shares" 278 95
def o99:OO:=fun _=>Iu "numbers" 301 "multiple" 302 "number" 303
def Y9:OO:=fun _=>s5 "common_multiple" "common_multiple" (top 10)
def U4:OO:=fun _=>s6 "common_multiple" 298 "common_multiple" 299 300 24 1 97 98 99 100 101 304 305
def Tg:OO:=fun _=>s7 "common_multiple" "common_multiple" (top 10) "lidprice.shares" 278 102
def Za:OO:=fun _=>Iu "top" 310 "bottom" 311 "divisor" 312
def Xu:OO:=fun _=>s5 "share" "share" (top 11)
def Tc:OO:=fun _=>s6 "share" 307 "share" 308 309 29 2 104 105 106 107 108 313 314
def Tp:OO:=fun _=>s7 "share" "share" (top 11) "lidprice.shares" 278 109
def Yx:OO:=fun P=>⟨(.type "dict"),none,(.dict #[E P "__name__" 165 (.str "lidprice.offers" 465),E P "__doc__" 166 .none,E P "__package__" 167 .none,E P "__loader__" 168 (.builtin "__main__.__loader__#opaque"),E P "__spec__" 169 .none,E P "__annotations__" 170 (.ref 6),E P "__builtins__" 171 (.ref 4),E P "__file__" 173 (.str "/claim/cut.py" 172),E P "__cached__" 174 .none,E P "_wall" 193 (.ref 21),E P "LidError" 213 (.ref 31),E P "NoTable" 229 (.ref 44),E P "NoDeed" 245 (.ref 56),E P "NoOffers" 261 (.ref 68),E P "NoRule" 277 (.ref 80),E P "is_whole" 288 (.ref 89),E P "common_divisor" 297 (.ref 96),E P "common_multiple" 306 (.ref 103),E P "share" 315 (.ref 110),E P "whole" 322 (.ref 117),E P "plus" 330 (.ref 124),E P "minus" 338 (.ref 131),E P "total" 344 (.ref 136),E P "times" 352 (.ref 143),E P "below" 360 (.ref 150),E P "greater" 368 (.ref 157),E P "MOST_ROWS" 372 (.int 8 371),E P "MOST_WORTH" 374 (.int 1000000000 373),E P "MOST_WEIGHT" 376 (.int 1000 375),E P "is_row" 383 (.ref 164),E P "is_rows" 389 (.ref 169),E P "rising" 395 (.ref 174),E P "in_form" 401 (.ref 179),E P "table_of" 407 (.ref 184),E P "all_weights" 413 (.ref 189),E P "by_weights" 419 (.ref 194),E P "mean" 426 (.ref 201),E P "above" 432 (.ref 206),E P "share_from" 438 (.ref 211),E P "worths_of" 449 (.ref 218),E P "product" 458 (.ref 225),E P "greatest" 464 (.ref 230),E P "MOST_OFFERS" 468 (.int 8 467),E P "is_lists" 474 (.ref 235),E P "is_order" 480 (.ref 240),E P "is_truths" 486 (.ref 245),E P "is_rule" 492 (.ref 250),E P "share_below" 500 (.ref 257),E P "all_together" 509 (.ref 264),E P "mean_of_some" 515 (.ref 269),E P "share_of_some" 521 (.ref 274),E P "mean_by" 533 (.ref 281),E P "truths_from" 539 (.ref 286),E P "moment_loss" 545 (.ref 291),E P "Offers" 647 (.ref 368)] 55),#[]⟩
def UW:OO:=fun _=>⟨.none,none,(.fields #[(.int 1 0),(.int 0 0),(.ref 20),(.int 5 0),(.int 0 0),(.ref 27),(.int 7 0),(.int 0 0),(.ref 40),(.int 9 0),(.int 0 0),(.ref 52),(.int 11 0),(.int 0 0),(.ref 64),(.int 13 0),(.int 0 0),(.ref 76),(.int 16 0),(.int 0 0),(.ref 88),(.int 18 0),(.int 0 0),(.ref 95),(.int 24 0),(.int 0 0),(.ref 102),(.int 29 0),(.int 0 0),(.ref 109),(.int 34 0),(.int 0 0),(.ref 116),(.int 36 0),(.int 0 0),(.ref 123),(.int 38 0),(.int 0 0),(.ref 130),(.int 40 0),(.int 0 0),(.ref 135),(.int 43 0),(.int 0 0),(.ref 142),(.int 45 0),(.int 0 0),(.ref 149),(.int 47 0),(.int 0 0),(.ref 156),(.int 53 0),(.int 0 0),(.ref 163),(.int 57 0),(.int 0 0),(.ref 168),(.int 61 0),(.int 0 0),(.ref 173),(.int 65 0),(.int 0 0),(.ref 178),(.int 73 0),(.int 0 0),(.ref 183),(.int 77 0),(.int 0 0),(.ref 188),(.int 79 0),(.int 0 0),(.ref 193),(.int 83 0),(.int 0 0),(.ref 200),(.int 85 0),(.int 0 0),(.ref 205),(.int 88 0),(.int 0 0),(.ref 210),(.int 91 0),(.int 0 0),(.ref 217),(.int 97 0),(.int 0 0),(.ref 224),(.int 102 0),(.int 0 0),(.ref 229),(.int 116 0),(.int 0 0),(.ref 234),(.int 120 0),(.int 0 0),(.ref 239),(.int 124 0),(.int 0 0),(.ref 244),(.int 128 0),(.int 0 0),(.ref 249),(.int 132 0),(.int 0 0),(.ref 256),(.int 134 0),(.int 0 0),(.ref 263),(.int 139 0),(.int 0 0),(.ref 268),(.int 142 0),(.int 0 0),(.ref 273),(.int 145 0),(.int 0 0),(.ref 280),(.int 152 0),(.int 0 0),(.ref 285),(.int 154 0),(.int 0 0),(.ref 290),(.int 159 0),(.int 0 0),(.ref 297)]),#[]⟩
def Yr:OO:=fun _=>s4 "number" 319
def YB:OO:=fun _=>s5 "whole" "whole" (top 12)
def XC:OO:=fun _=>s6 "whole" 316 "whole" 317 318 34 1 111 112 113 114 115 320 321
def VN:OO:=fun _=>s7 "whole" "whole" (top 12) "lidprice.shares" 278 116
def aAn:OO:=fun _=>Nb "one" 326 "other" 327
def YW:OO:=fun _=>s5 "plus" "plus" (top 13)
def WN:OO:=fun _=>s6 "plus" 323 "plus" 324 325 36 2 118 119 120 121 122 328 329
def VR:OO:=fun _=>s7 "plus" "plus" (top 13) "lidprice.shares" 278 123
def Yk:OO:=fun _=>Nb "one" 334 "other" 335
def Ze:OO:=fun _=>s5 "minus" "minus" (top 14)
def UT:OO:=fun _=>s6 "minus" 331 "minus" 332 333 38 2 125 126 127 128 129 336 337
def XJ:OO:=fun _=>s7 "minus" "minus" (top 14) "lidprice.shares" 278 130
def aAh:OO:=fun _=>s5 "total" "total" (top 15)
def Wg:OO:=fun _=>tY "total" 339 "total" 340 341 40 1 132 133 134 342 343
def U7:OO:=fun _=>s7 "total" "total" (top 15) "lidprice.shares" 278 135
def Zc:OO:=fun _=>Nb "one" 348 "other" 349
def Z1:OO:=fun _=>s5 "times" "times" (top 16)
def TQ:OO:=fun _=>s6 "times" 345 "times" 346 347 43 2 137 138 139 140 141 350 351
def Ww:OO:=fun _=>s7 "times" "times" (top 16) "lidprice.shares" 278 142
def Xp:OO:=fun _=>Nb "one" 356 "other" 357
def Ym:OO:=fun _=>s5 "below" "below" (top 17)
def UJ:OO:=fun _=>s6 "below" 353 "below" 354 355 45 2 144 145 146 147 148 358 359
def X6:OO:=fun _=>s7 "below" "below" (top 17) "lidprice.shares" 278 149
def Z6:OO:=fun _=>Nb "one" 364 "other" 365
def YT:OO:=fun _=>s5 "greater" "greater" (top 18)
def Up:OO:=fun _=>s6 "greater" 361 "greater" 362 363 47 2 151 152 153 154 155 366 367
def V2:OO:=fun _=>s7 "greater" "greater" (top 18) "lidprice.shares" 278 156
def YX:OO:=fun _=>s4 "row" 380
def ZM:OO:=fun _=>s5 "is_row" "is_row" (top 23)
def Va:OO:=fun _=>s6 "is_row" 377 "is_row" 378 379 53 1 158 159 160 161 162 381 382
def Vu:OO:=fun _=>s7 "is_row" "is_row" (top 23) "lidprice.tables" 369 163
def Z0:OO:=fun _=>s5 "is_rows" "is_rows" (top 24)
def XD:OO:=fun _=>tY "is_rows" 384 "is_rows" 385 386 57 1 165 166 167 387 388
def Tu:OO:=fun _=>s7 "is_rows" "is_rows" (top 24) "lidprice.tables" 369 168
def Zy:OO:=fun _=>s5 "rising" "rising" (top 25)
def Wu:OO:=fun _=>tY "rising" 390 "rising" 391 392 61 1 170 171 172 393 394
def Vo:OO:=fun _=>s7 "rising" "rising" (top 25) "lidprice.tables" 369 173
def ZF:OO:=fun _=>s5 "in_form" "in_form" (top 26)
def Vn:OO:=fun _=>tY "in_form" 396 "in_form" 397 398 65 1 175 176 177 399 400
def Vd:OO:=fun _=>s7 "in_form" "in_form" (top 26) "lidprice.tables" 369 178
def Zr:OO:=fun _=>s5 "table_of" "table_of" (top 27)
def Sv:OO:=fun _=>tY "table_of" 402 "table_of" 403 404 73 1 180 181 182 405 406
def XH:OO:=fun _=>s7 "table_of" "table_of" (top 27) "lidprice.tables" 369 183
def Ys:OO:=fun _=>s5 "all_weights" "all_weights" (top 28)
def Tw:OO:=fun _=>tY "all_weights" 408 "all_weights" 409 410 77 1 185 186 187 411 412
def Wr:OO:=fun _=>s7 "all_weights" "all_weights" (top 28) "lidprice.tables" 369 188
def Y6:OO:=fun _=>s5 "by_weights" "by_weights" (top 29)
def XQ:OO:=fun _=>tY "by_weights" 414 "by_weights" 415 416 79 2 190 191 192 417 418
def V6:OO:=fun _=>s7 "by_weights" "by_weights" (top 29) "lidprice.tables" 369 193
def Z3:OO:=fun _=>s4 "table" 423
def Xx:OO:=fun _=>s5 "mean" "mean" (top 30)
def Ux:OO:=fun _=>s6 "mean" 420 "mean" 421 422 83 1 195 196 197 198 199 424 425
def VH:OO:=fun _=>s7 "mean" "mean" (top 30) "lidprice.tables" 369 200
def Y0:OO:=fun _=>s5 "above" "above" (top 31)
def Uc:OO:=fun _=>tY "above" 427 "above" 428 429 85 2 202 203 204 430 431
def WM:OO:=fun _=>s7 "above" "above" (top 31) "lidprice.tables" 369 205
def Yi:OO:=fun _=>s5 "share_from" "share_from" (top 32)
def Sx:OO:=fun _=>tY "share_from" 433 "share_from" 434 435 88 2 207 208 209 436 437
def X3:OO:=fun _=>s7 "share_from" "share_from" (top 32) "lidprice.tables" 369 210
def Yt:OO:=fun _=>⟨(.type "tuple"),none,(.seq #[(.str "tables" 442),(.str "worths" 443),(.str "table" 444),(.str "worth" 445),(.str "weight" 446)] 0),#[]⟩
def Zv:OO:=fun _=>s5 "worths_of" "worths_of" (top 33)
def UG:OO:=fun _=>s6 "worths_of" 439 "worths_of" 440 441 91 1 212 213 214 215 216 447 448
def VD:OO:=fun _=>s7 "worths_of" "worths_of" (top 33) "lidprice.tables" 369 217
def Zj:OO:=fun _=>Iu "numbers" 453 "result" 454 "number" 455
def ZQ:OO:=fun _=>s5 "product" "product" (top 34)
def V7:OO:=fun _=>s6 "product" 450 "product" 451 452 97 1 219 220 221 222 223 456 457
def Vg:OO:=fun _=>s7 "product" "product" (top 34) "lidprice.tables" 369 224
def aAt:OO:=fun _=>s5 "greatest" "greatest" (top 35)
def Ws:OO:=fun _=>tY "greatest" 459 "greatest" 460 461 102 1 226 227 228 462 463
def WR:OO:=fun _=>s7 "greatest" "greatest" (top 35) "lidprice.tables" 369 229
def Z5:OO:=fun _=>s5 "is_lists" "is_lists" (top 38)
def Th:OO:=fun _=>tY "is_lists" 469 "is_lists" 470 471 116 1 231 232 233 472 473
def Vr:OO:=fun _=>s7 "is_lists" "is_lists" (top 38) "lidprice.offers" 465 234
def YF:OO:=fun _=>s5 "is_order" "is_order" (top 39)
def Wb:OO:=fun _=>tY "is_order" 475 "is_order" 476 477 120 2 236 237 238 478 479
def W4:OO:=fun _=>s7 "is_order" "is_order" (top 39) "lidprice.offers" 465 239
def Yq:OO:=fun _=>s5 "is_truths" "is_truths" (top 40)
def X5:OO:=fun _=>tY "is_truths" 481 "is_truths" 482 483 124 2 241 242 243 484 485
def W2:OO:=fun _=>s7 "is_truths" "is_truths" (top 40) "lidprice.offers" 465 244
def Y7:OO:=fun _=>s5 "is_rule" "is_rule" (top 41)
def Wx:OO:=fun _=>tY "is_rule" 487 "is_rule" 488 489 128 2 246 247 248 490 491
def Su:OO:=fun _=>s7 "is_rule" "is_rule" (top 41) "lidprice.offers" 465 249
def aAd:OO:=fun _=>Nb "table" 496 "level" 497
def aAa:OO:=fun _=>s5 "share_below" "share_below" (top 42)
def Ua:OO:=fun _=>s6 "share_below" 493 "share_below" 494 495 132 2 251 252 253 254 255 498 499
def W9:OO:=fun _=>s7 "share_below" "share_below" (top 42) "lidprice.offers" 465 256
def Zw:OO:=fun _=>Iu "shares" 504 "found" 505 "part" 506
def ZL:OO:=fun _=>s5 "all_together" "all_together" (top 43)
def Wi:OO:=fun _=>s6 "all_together" 501 "all_together" 502 503 134 1 258 259 260 261 262 507 508
def TJ:OO:=fun _=>s7 "all_together" "all_together" (top 43) "lidprice.offers" 465 263
def ZS:OO:=fun _=>s5 "mean_of_some" "mean_of_some" (top 44)
def U8:OO:=fun _=>tY "mean_of_some" 510 "mean_of_some" 511 512 139 2 265 266 267 513 514
def Tj:OO:=fun _=>s7 "mean_of_some" "mean_of_some" (top 44) "lidprice.offers" 465 268
def Zi:OO:=fun _=>s5 "share_of_some" "share_of_some" (top 45)
def Wk:OO:=fun _=>tY "share_of_some" 516 "share_of_some" 517 518 142 2 270 271 272 519 520
def WL:OO:=fun _=>s7 "share_of_some" "share_of_some" (top 45) "lidprice.offers" 465 273
def Y4:OO:=fun _=>⟨(.type "tuple"),none,(.seq #[(.str "tables" 525),(.str "rule" 526),(.str "found" 527),(.str "reached" 528),(.str "table" 529),(.str "truths" 530)] 0),#[]⟩
def ZJ:OO:=fun _=>s5 "mean_by" "mean_by" (top 46)
def UL:OO:=fun _=>s6 "mean_by" 522 "mean_by" 523 524 145 2 275 276 277 278 279 531 532
def WD:OO:=fun _=>s7 "mean_by" "mean_by" (top 46) "lidprice.offers" 465 280
def Ye:OO:=fun _=>s5 "truths_from" "truths_from" (top 47)
def VP:OO:=fun _=>tY "truths_from" 534 "truths_from" 535 536 152 2 282 283 284 537 538
def Wn:OO:=fun _=>s7 "truths_from" "truths_from" (top 47) "lidprice.offers" 465 285
def YK:OO:=fun _=>s5 "moment_loss" "moment_loss" (top 48)
def WX:OO:=fun _=>tY "moment_loss" 540 "moment_loss" 541 542 154 3 287 288 289 543 544
def Wc:OO:=fun _=>s7 "moment_loss" "moment_loss" (top 48) "lidprice.offers" 465 290
def aAf:OO:=fun P=>⟨(.type "dict"),none,(.dict #[E P "__module__" 553 (.str "lidprice.offers" 465),E P "__qualname__" 555 (.str "Offers" 554),E P "__firstlineno__" 557 (.int 159 556),E P "__init__" 563 (.ref 303),E P "tables" 569 (.ref 308),E P "top_mean" 576 (.ref 315),E P "half" 583 (.ref 322),E P "first_taken" 589 (.ref 327),E P "least_taken" 597 (.ref 334),E P "half_paper" 603 (.ref 339),E P "worths_on" 609 (.ref 344),E P "need_rule" 617 (.ref 351),E P "taken_by" 625 (.ref 358),E P "rule_losses" 638 (.ref 365),E P "__static_attributes__" 640 (.ref 366)] 15),#[]⟩
def Xq:OO:=fun _=>⟨.none,none,(.fields #[(.int 161 0),(.int 4 0),(.ref 302),(.int 166 0),(.int 4 0),(.ref 307),(.int 169 0),(.int 4 0),(.ref 314),(.int 172 0),(.int 4 0),(.ref 321),(.int 175 0),(.int 4 0),(.ref 326),(.int 181 0),(.int 4 0),(.ref 333),(.int 184 0),(.int 4 0),(.ref 338),(.int 194 0),(.int 4 0),(.ref 343),(.int 201 0),(.int 4 0),(.ref 350),(.int 205 0),(.int 4 0),(.ref 357),(.int 209 0),(.int 4 0),(.ref 364)]),#[]⟩
def Xw:OO:=fun _=>s2 "Offers" 548 549 550 159 295 296 551 552
def aAm:OO:=fun _=>s3 297 294 "lidprice.offers" 465
def Xm:OO:=fun _=>s5 "__init__" "Offers.__init__" (inClass (top 49) 0)
def Vh:OO:=fun _=>tY "__init__" 558 "Offers.__init__" 559 560 161 2 299 300 301 561 562
def Wa:OO:=fun _=>s7 "__init__" "Offers.__init__" (inClass (top 49) 0) "lidprice.offers" 465 302
def Z8:OO:=fun _=>s5 "tables" "Offers.tables" (inClass (top 49) 1)
def Tr:OO:=fun _=>tY "tables" 564 "Offers.tables" 565 566 166 1 304 305 306 567 568
def Uy:OO:=fun _=>s7 "tables" "Offers.tables" (inClass (top 49) 1) "lidprice.offers" 465 307
def Yg:OO:=fun _=>s4 "self" 573
def YJ:OO:=fun _=>s5 "top_mean" "Offers.top_mean" (inClass (top 49) 2)
def Vy:OO:=fun _=>s6 "top_mean" 570 "Offers.top_mean" 571 572 169 1 309 310 311 312 313 574 575
def VB:OO:=fun _=>s7 "top_mean" "Offers.top_mean" (inClass (top 49) 2) "lidprice.offers" 465 314
def aAg:OO:=fun _=>s4 "self" 580
def Xy:OO:=fun _=>s5 "half" "Offers.half" (inClass (top 49) 3)
def Us:OO:=fun _=>s6 "half" 577 "Offers.half" 578 579 172 1 316 317 318 319 320 581 582
def Te:OO:=fun _=>s7 "half" "Offers.half" (inClass (top 49) 3) "lidprice.offers" 465 321
def aAu:OO:=fun _=>s5 "first_taken" "Offers.first_taken" (inClass (top 49) 4)
def Wv:OO:=fun _=>tY "first_taken" 584 "Offers.first_taken" 585 586 175 3 323 324 325 587 588
def XS:OO:=fun _=>s7 "first_taken" "Offers.first_taken" (inClass (top 49) 4) "lidprice.offers" 465 326
def aAo:OO:=fun _=>Nb "self" 593 "level" 594
def Zo:OO:=fun _=>s5 "least_taken" "Offers.least_taken" (inClass (top 49) 5)
def U3:OO:=fun _=>s6 "least_taken" 590 "Offers.least_taken" 591 592 181 2 328 329 330 331 332 595 596
def Vq:OO:=fun _=>s7 "least_taken" "Offers.least_taken" (inClass (top 49) 5) "lidprice.offers" 465 333
def Yp:OO:=fun _=>s5 "half_paper" "Offers.half_paper" (inClass (top 49) 6)
def Vw:OO:=fun _=>tY "half_paper" 598 "Offers.half_paper" 599 600 184 1 335 336 337 601 602
def X8:OO:=fun _=>s7 "half_paper" "Offers.half_paper" (inClass (top 49) 6) "lidprice.offers" 465 338
def Zq:OO:=fun _=>s5 "worths_on" "Offers.worths_on" (inClass (top 49) 7)
def VG:OO:=fun _=>tY "worths_on" 604 "Offers.worths_on" 605 606 194 1 340 341 342 607 608
def TV:OO:=fun _=>s7 "worths_on" "Offers.worths_on" (inClass (top 49) 7) "lidprice.offers" 465 343
def Xv:OO:=fun _=>Nb "self" 613 "rule" 614
def YD:OO:=fun _=>s5 "need_rule" "Offers.need_rule" (inClass (top 49) 8)
def W8:OO:=fun _=>s6 "need_rule" 610 "Offers.need_rule" 611 612 201 2 345 346 347 348 349 615 616
def Vi:OO:=fun _=>s7 "need_rule" "Offers.need_rule" (inClass (top 49) 8) "lidprice.offers" 465 350
def ZX:OO:=fun _=>Nb "self" 621 "rule" 622
def Zf:OO:=fun _=>s5 "taken_by" "Offers.taken_by" (inClass (top 49) 9)
def Xb:OO:=fun _=>s6 "taken_by" 618 "Offers.taken_by" 619 620 205 2 352 353 354 355 356 623 624
def U0:OO:=fun _=>s7 "taken_by" "Offers.taken_by" (inClass (top 49) 9) "lidprice.offers" 465 357
def Y5:OO:=fun _=>⟨(.type "tuple"),none,(.seq #[(.str "self" 629),(.str "rule" 630),(.str "worths" 631),(.str "reached" 632),(.str "found" 633),(.str "offer" 634),(.str "table" 635)] 0),#[]⟩
def Yn:OO:=fun _=>s5 "rule_losses" "Offers.rule_losses" (inClass (top 49) 10)
def Tt:OO:=fun _=>s6 "rule_losses" 626 "Offers.rule_losses" 627 628 209 2 359 360 361 362 363 636 637
def Ue:OO:=fun _=>s7 "rule_losses" "Offers.rule_losses" (inClass (top 49) 10) "lidprice.offers" 465 364
def YQ:OO:=fun _=>s4 "kinds" 639
def Um:OO:=fun P=>⟨(.type "dict"),none,(.dict #[E P "__module__" 553 (.str "lidprice.offers" 465),E P "__firstlineno__" 557 (.int 159 556),E P "__init__" 563 (.ref 303),E P "tables" 569 (.ref 308),E P "top_mean" 576 (.ref 315),E P "half" 583 (.ref 322),E P "first_taken" 589 (.ref 327),E P "least_taken" 597 (.ref 334),E P "half_paper" 603 (.ref 339),E P "worths_on" 609 (.ref 344),E P "need_rule" 617 (.ref 351),E P "taken_by" 625 (.ref 358),E P "rule_losses" 638 (.ref 365),E P "__static_attributes__" 640 (.ref 366),E P "__dict__" 642 (.ref 369),E P "__weakref__" 644 (.ref 370),E P "__doc__" 645 .none] 4),#[]⟩
def Uu:OO:=fun _=>⟨(.type "type"),none,(.cls ⟨"Offers",[(.type "object")],[(.ref 368),(.type "object")],367,"Offers",true,[],[],false,none,false⟩),#[none,none,(some (.str "Offers" 546)),(some (.str "Offers" 554)),(some (.builtin "object.__new__")),(some (.bool true))]⟩
def Ui:OO:=fun _=>⟨(.type "getset_descriptor"),none,(.fields #[(.str "__dict__" 641),(.ref 368),(.builtin "function.__dict__"),(.builtin "function.__dict__#set")]),#[]⟩
def WK:OO:=fun _=>⟨(.type "getset_descriptor"),none,(.fields #[(.str "__weakref__" 643),(.ref 368),(.builtin "ExceptionGroup.__weakref__"),.none]),#[]⟩
def YG:OO:=fun _=>Nf 368
def Xo:OO:=fun _=>Sd 368
def TX:OO:=fun P=>⟨(.type "dict"),none,(.dict #[E P "__name__" 165 (.str "law_lidprice_k77_offers_refused" 648),E P "__doc__" 166 .none,E P "__package__" 167 .none,E P "__loader__" 168 (.builtin "__main__.__loader__#opaque"),E P "__spec__" 169 .none,E P "__annotations__" 170 (.ref 6),E P "__builtins__" 171 (.ref 4),E P "__file__" 173 (.str "/claim/cut.py" 172),E P "__cached__" 174 .none,E P "_wall" 193 (.ref 21),E P "LidError" 213 (.ref 31),E P "NoTable" 229 (.ref 44),E P "NoDeed" 245 (.ref 56),E P "NoOffers" 261 (.ref 68),E P "NoRule" 277 (.ref 80),E P "is_whole" 288 (.ref 89),E P "common_divisor" 297 (.ref 96),E P "common_multiple" 306 (.ref 103),E P "share" 315 (.ref 110),E P "whole" 322 (.ref 117),E P "plus" 330 (.ref 124),E P "minus" 338 (.ref 131),E P "total" 344 (.ref 136),E P "times" 352 (.ref 143),E P "below" 360 (.ref 150),E P "greater" 368 (.ref 157),E P "MOST_ROWS" 372 (.int 8 371),E P "MOST_WORTH" 374 (.int 1000000000 373),E P "MOST_WEIGHT" 376 (.int 1000 375),E P "is_row" 383 (.ref 164),E P "is_rows" 389 (.ref 169),E P "rising" 395 (.ref 174),E P "in_form" 401 (.ref 179),E P "table_of" 407 (.ref 184),E P "all_weights" 413 (.ref 189),E P "by_weights" 419 (.ref 194),E P "mean" 426 (.ref 201),E P "above" 432 (.ref 206),E P "share_from" 438 (.ref 211),E P "worths_of" 449 (.ref 218),E P "product" 458 (.ref 225),E P "greatest" 464 (.ref 230),E P "MOST_OFFERS" 468 (.int 8 467),E P "is_lists" 474 (.ref 235),E P "is_order" 480 (.ref 240),E P "is_truths" 486 (.ref 245),E P "is_rule" 492 (.ref 250),E P "share_below" 500 (.ref 257),E P "all_together" 509 (.ref 264),E P "mean_of_some" 515 (.ref 269),E P "share_of_some" 521 (.ref 274),E P "mean_by" 533 (.ref 281),E P "truths_from" 539 (.ref 286),E P "moment_loss" 545 (.ref 291),E P "Offers" 647 (.ref 368),E P "_law_cell" 657 (.ref 379),E P "_law_mix" 666 (.ref 386),E P "_law_lists" 672 (.ref 391),E P "_law_no_lists" 686 (.ref 398),E P "_law_no_order" 699 (.ref 405),E P "_law_no_rule" 705 (.ref 410),E P "_law_kinds" 712 (.ref 417),E P "_law_made" 721 (.ref 424),E P "_law_asked" 732 (.ref 431),E P "law" 743 (.ref 438)] 65),#[]⟩
def Ve:OO:=fun _=>⟨.none,none,(.fields #[(.int 1 0),(.int 0 0),(.ref 20),(.int 5 0),(.int 0 0),(.ref 27),(.int 7 0),(.int 0 0),(.ref 40),(.int 9 0),(.int 0 0),(.ref 52),(.int 11 0),(.int 0 0),(.ref 64),(.int 13 0),(.int 0 0),(.ref 76),(.int 16 0),(.int 0 0),(.ref 88),(.int 18 0),(.int 0 0),(.ref 95),(.int 24 0),(.int 0 0),(.ref 102),(.int 29 0),(.int 0 0),(.ref 109),(.int 34 0),(.int 0 0),(.ref 116),(.int 36 0),(.int 0 0),(.ref 123),(.int 38 0),(.int 0 0),(.ref 130),(.int 40 0),(.int 0 0),(.ref 135),(.int 43 0),(.int 0 0),(.ref 142),(.int 45 0),(.int 0 0),(.ref 149),(.int 47 0),(.int 0 0),(.ref 156),(.int 53 0),(.int 0 0),(.ref 163),(.int 57 0),(.int 0 0),(.ref 168),(.int 61 0),(.int 0 0),(.ref 173),(.int 65 0),(.int 0 0),(.ref 178),(.int 73 0),(.int 0 0),(.ref 183),(.int 77 0),(.int 0 0),(.ref 188),(.int 79 0),(.int 0 0),(.ref 193),(.int 83 0),(.int 0 0),(.ref 200),(.int 85 0),(.int 0 0),(.ref 205),(.int 88 0),(.int 0 0),(.ref 210),(.int 91 0),(.int 0 0),(.ref 217),(.int 97 0),(.int 0 0),(.ref 224),(.int 102 0),(.int 0 0),(.ref 229),(.int 116 0),(.int 0 0),(.ref 234),(.int 120 0),(.int 0 0),(.ref 239),(.int 124 0),(.int 0 0),(.ref 244),(.int 128 0),(.int 0 0),(.ref 249),(.int 132 0),(.int 0 0),(.ref 256),(.int 134 0),(.int 0 0),(.ref 263),(.int 139 0),(.int 0 0),(.ref 268),(.int 142 0),(.int 0 0),(.ref 273),(.int 145 0),(.int 0 0),(.ref 280),(.int 152 0),(.int 0 0),(.ref 285),(.int 154 0),(.int 0 0),(.ref 290),(.int 159 0),(.int 0 0),(.ref 297),(.int 219 0),(.int 0 0),(.ref 378),(.int 223 0),(.int 0 0),(.ref 385),(.int 227 0),(.int 0 0),(.ref 390),(.int 233 0),(.int 0 0),(.ref 397),(.int 242 0),(.int 0 0),(.ref 404),(.int 253 0),(.int 0 0),(.ref 409),(.int 263 0),(.int 0 0),(.ref 416),(.int 265 0),(.int 0 0),(.ref 423),(.int 272 0),(.int 0 0),(.ref 430),(.int 284 0),(.int 0 0),(.ref 437)]),#[]⟩
def ZV:OO:=fun _=>Nb "_law_script" 653 "_law_k" 654
def Y8:OO:=fun _=>s5 "_law_cell" "_law_cell" (top 51)
def Ub:OO:=fun _=>s6 "_law_cell" 650 "_law_cell" 651 652 219 2 373 374 375 376 377 655 656
def Ud:OO:=fun _=>s7 "_law_cell" "_law_cell" (top 51) "law_lidprice_k77_offers_refused" 648 378
def aAr:OO:=fun _=>Iu "_law_cell_here" 661 "_law_k" 662 "_law_number" 663
def aAj:OO:=fun _=>s5 "_law_mix" "_law_mix" (top 52)
def Xz:OO:=fun _=>s6 "_law_mix" 658 "_law_mix" 659 660 223 2 380 381 382 383 384 664 665
def YH:OO:=fun _=>s7 "_law_mix" "_law_mix" (top 52) "law_lidprice_k77_offers_refused" 648 385
def Zt:OO:=fun _=>s5 "_law_lists" "_law_lists" (top 53)
def Td:OO:=fun _=>tY "_law_lists" 667 "_law_lists" 668 669 227 1 387 388 389 670 671
def X7:OO:=fun _=>s7 "_law_lists" "_law_lists" (top 53) "law_lidprice_k77_offers_refused" 648 390
def ZG:OO:=fun _=>⟨(.type "tuple"),none,(.seq #[(.str "_law_lists_here" 676),(.str "_law_cell_here" 677),(.str "_law_at" 678),(.str "_law_row" 679),(.str "_law_value" 680),(.str "_law_weight" 681),(.str "_law_some" 682),(.str "_law_bad" 683)] 0),#[]⟩
def aAq:OO:=fun _=>s5 "_law_no_lists" "_law_no_lists" (top 54)
def WQ:OO:=fun _=>s6 "_law_no_lists" 673 "_law_no_lists" 674 675 233 2 392 393 394 395 396 684 685
def Vb:OO:=fun _=>s7 "_law_no_lists" "_law_no_lists" (top 54) "law_lidprice_k77_offers_refused" 648 397
def Xr:OO:=fun _=>⟨(.type "tuple"),none,(.seq #[(.str "_law_many" 690),(.str "_law_cell_here" 691),(.str "_law_order" 692),(.str "_law_at" 693),(.str "_law_twice" 694),(.str "_law_some" 695),(.str "_law_odd" 696)] 0),#[]⟩
def Yb:OO:=fun _=>s5 "_law_no_order" "_law_no_order" (top 55)
def Uv:OO:=fun _=>s6 "_law_no_order" 687 "_law_no_order" 688 689 242 2 399 400 401 402 403 697 698
def WW:OO:=fun _=>s7 "_law_no_order" "_law_no_order" (top 55) "law_lidprice_k77_offers_refused" 648 404
def ZP:OO:=fun _=>s5 "_law_no_rule" "_law_no_rule" (top 56)
def Wj:OO:=fun _=>tY "_law_no_rule" 700 "_law_no_rule" 701 702 253 2 406 407 408 703 704
def X4:OO:=fun _=>s7 "_law_no_rule" "_law_no_rule" (top 56) "law_lidprice_k77_offers_refused" 648 409
def aAs:OO:=fun _=>s4 "_law_e" 709
def Zh:OO:=fun _=>s5 "_law_kinds" "_law_kinds" (top 57)
def XN:OO:=fun _=>s6 "_law_kinds" 706 "_law_kinds" 707 708 263 1 411 412 413 414 415 710 711
def UV:OO:=fun _=>s7 "_law_kinds" "_law_kinds" (top 57) "law_lidprice_k77_offers_refused" 648 416
def Yu:OO:=fun _=>Iu "_law_thing" 716 "_law_kinds_here" 717 "_law_e" 718
def Zm:OO:=fun _=>s5 "_law_made" "_law_made" (top 58)
def Ul:OO:=fun _=>s6 "_law_made" 713 "_law_made" 714 715 265 1 418 419 420 421 422 719 720
def U9:OO:=fun _=>s7 "_law_made" "_law_made" (top 58) "law_lidprice_k77_offers_refused" 648 423
def Yw:OO:=fun _=>⟨(.type "tuple"),none,(.seq #[(.str "_law_offers" 725),(.str "_law_word" 726),(.str "_law_thing" 727),(.str "_law_kinds_here" 728),(.str "_law_e" 729)] 0),#[]⟩
def Yj:OO:=fun _=>s5 "_law_asked" "_law_asked" (top 59)
def V9:OO:=fun _=>s6 "_law_asked" 722 "_law_asked" 723 724 272 3 425 426 427 428 429 730 731
def Xc:OO:=fun _=>s7 "_law_asked" "_law_asked" (top 59) "law_lidprice_k77_offers_refused" 648 430
def YC:OO:=fun _=>⟨(.type "tuple"),none,(.seq #[(.str "_law_script" 736),(.str "_law_lists_here" 737),(.str "_law_offers" 738),(.str "_law_kept" 739),(.str "_law_rule" 740)] 0),#[]⟩
def Zb:OO:=fun _=>s5 "law" "law" (top 60)
def Sw:OO:=fun _=>s6 "law" 733 "law" 734 735 284 1 432 433 434 435 436 741 742
def Vm:OO:=fun _=>s7 "law" "law" (top 60) "law_lidprice_k77_offers_refused" 648 437
def l0 (P:Params):List Obj:=W.boot_o_0 P::W.boot_o_1 P::W.boot_o_2 P::W.boot_o_3 P::W.boot_o_4 P::W.boot_o_5 P::W.boot_o_6 P::W.boot_o_7 P::W.boot_o_8 P::W.boot_o_9 P::W.boot_o_10 P::s0::s1::o13 P::o14 P::[]
def t0 (P:Params):W.BT:=L2.bt 14 (l0 P)
def l1 (P:Params):List Obj:=L2.sets (l0 P) [(3,o3 P),(12,WT P)]++(s0::s1::o17 P::s0::o19 P::o20 P::o21 P::o22 P::s8::o24 P::s0::s1::o27 P::o28 P::s0::o30 P::o31 P::o32 P::o33 P::o34 P::O1::s8::o37 P::s0::s1::o40 P::o41 P::s0::o43 P::o44 P::o45 P::o46 P::O1::s8::o49 P::s0::s1::o52 P::o53 P::s0::o55 P::o56 P::o57 P::o58 P::O1::s8::o61 P::s0::s1::o64 P::o65 P::s0::o67 P::o68 P::o69 P::o70 P::O1::s8::o73 P::s0::s1::o76 P::o77 P::s0::o79 P::o80 P::o81 P::o82 P::s0::s1::o85 P::s0::o87 P::o88 P::o89 P::s0::s1::o92 P::s0::o94 P::o95 P::o96 P::s0::s1::o99 P::s0::Y9 P::U4 P::Tg P::s0::s1::Za P::s0::Xu P::Tc P::Tp P::[])
def t1 (P:Params):W.BT:=L2.bt 14 (l1 P)
def l2 (P:Params):List Obj:=L2.sets (l1 P) [(3,Yx P),(12,UW P)]++(s0::s1::Yr P::s0::YB P::XC P::VN P::s0::s1::aAn P::s0::YW P::WN P::VR P::s0::s1::Yk P::s0::Ze P::UT P::XJ P::s0::s1::aAh P::Wg P::U7 P::s0::s1::Zc P::s0::Z1 P::TQ P::Ww P::s0::s1::Xp P::s0::Ym P::UJ P::X6 P::s0::s1::Z6 P::s0::YT P::Up P::V2 P::s0::s1::YX P::s0::ZM P::Va P::Vu P::s0::s1::Z0 P::XD P::Tu P::s0::s1::Zy P::Wu P::Vo P::s0::s1::ZF P::Vn P::Vd P::s0::s1::Zr P::Sv P::XH P::s0::s1::Ys P::Tw P::Wr P::s0::s1::Y6 P::XQ P::V6 P::s0::s1::Z3 P::s0::Xx P::Ux P::VH P::s0::s1::Y0 P::Uc P::WM P::s0::s1::Yi P::Sx P::X3 P::s0::s1::Yt P::s0::Zv P::UG P::VD P::s0::s1::Zj P::s0::ZQ P::V7 P::Vg P::s0::s1::aAt P::Ws P::WR P::s0::s1::Z5 P::Th P::Vr P::s0::s1::YF P::Wb P::W4 P::s0::s1::Yq P::X5 P::W2 P::s0::s1::Y7 P::Wx P::Su P::s0::s1::aAd P::s0::aAa P::Ua P::W9 P::s0::s1::Zw P::s0::ZL P::Wi P::TJ P::s0::s1::ZS P::U8 P::Tj P::s0::s1::Zi P::Wk P::WL P::s0::s1::Y4 P::s0::ZJ P::UL P::WD P::s0::s1::Ye P::VP P::Wn P::s0::s1::YK P::WX P::Wc P::s0::s8::aAf P::s0::Xq P::Xw P::aAm P::s0::s1::Xm P::Vh P::Wa P::s0::s1::Z8 P::Tr P::Uy P::s0::s1::Yg P::s0::YJ P::Vy P::VB P::s0::s1::aAg P::s0::Xy P::Us P::Te P::s0::s1::aAu P::Wv P::XS P::s0::s1::aAo P::s0::Zo P::U3 P::Vq P::s0::s1::Yp P::Vw P::X8 P::s0::s1::Zq P::VG P::TV P::s0::s1::Xv P::s0::YD P::W8 P::Vi P::s0::s1::ZX P::s0::Zf P::Xb P::U0 P::s0::s1::Y5 P::s0::Yn P::Tt P::Ue P::YQ P::Um P::Uu P::Ui P::WK P::YG P::Xo P::[])
def t2 (P:Params):W.BT:=L2.bt 14 (l2 P)
def l3 (P:Params):List Obj:=L2.sets (l2 P) [(3,TX P),(12,Ve P)]++(s0::s1::ZV P::s0::Y8 P::Ub P::Ud P::s0::s1::aAr P::s0::aAj P::Xz P::YH P::s0::s1::Zt P::Td P::X7 P::s0::s1::ZG P::s0::aAq P::WQ P::Vb P::s0::s1::Xr P::s0::Yb P::Uv P::WW P::s0::s1::ZP P::Wj P::X4 P::s0::s1::aAs P::s0::Zh P::XN P::UV P::s0::s1::Yu P::s0::Zm P::Ul P::U9 P::s0::s1::Yw P::s0::Yj P::V9 P::Xc P::s0::s1::YC P::s0::Zb P::Sw P::Vm P::[])
def t3 (P:Params):W.BT:=L2.bt 14 (l3 P)
def BZ:Env:={ scope:=PySem.Challenge.pw_lidprice_k77_offers_refused.main.scope,locals:=mainNs,globals:=mainNs,cells:=[],code:=(.ref 13),frame:=some 14 }
def g1:List Stmt:=[top 0,top 1,top 2,top 3,top 4,top 5,top 6,top 7,top 8,top 9,top 10,top 11]
def g2:List Stmt:=[top 12,top 13,top 14,top 15,top 16,top 17,top 18,top 19,top 20,top 21,top 22,top 23,top 24,top 25,top 26,top 27,top 28,top 29,top 30,top 31,top 32,top 33,top 34,top 35,top 36,top 37,top 38,top 39,top 40,top 41,top 42,top 43,top 44,top 45,top 46,top 47,top 48,top 49]
def g3:List Stmt:=[top 50,top 51,top 52,top 53,top 54,top 55,top 56,top 57,top 58,top 59,top 60]
def gs:List Stmt:=g1++(g2++(g3++[]))
def nQ:Code:=.body gs BZ
theorem aAp (w:World)(os:OsState):W.segRunT PySem.treeTable PySem.Challenge.pw_lidprice_k77_offers_refused w 11 (some (.ref 6)) 1 1210 (Dc (t0 w.params) 15 187 os) (W.piecesOf g1 BZ nQ ⟨0,0,0,0⟩ [W.topFrame ⟨0,0,0,0⟩])=some (.next,Dc (t1 w.params) 111 316 os,nQ,⟨29,0,33,46⟩):=by kernel_rfl
theorem YM (w:World)(os:OsState):W.segRunT PySem.treeTable PySem.Challenge.pw_lidprice_k77_offers_refused w 11 (some (.ref 6)) 1 1444 (Dc (t1 w.params) 111 316 os) (W.piecesOf g2 BZ nQ ⟨29,0,33,46⟩ [W.topFrame ⟨0,0,0,0⟩])=some (.next,Dc (t2 w.params) 373 648 os,nQ,⟨159,0,217,20⟩):=by kernel_rfl
theorem Zz (w:World)(os:OsState):W.segRunT PySem.treeTable PySem.Challenge.pw_lidprice_k77_offers_refused w 11 (some (.ref 6)) 1 320 (Dc (t2 w.params) 373 648 os) (W.piecesOf g3 BZ nQ ⟨159,0,217,20⟩ [W.topFrame ⟨0,0,0,0⟩])=some (.next,Dc (t3 w.params) 439 744 os,nQ,⟨284,0,295,97⟩):=by kernel_rfl
theorem ZD (w:World)(os:OsState):W.topRun PySem.treeTable PySem.Challenge.pw_lidprice_k77_offers_refused w 11 (some (.ref 6)) 2 (Dc (t3 w.params) 439 744 os).abs (W.restOf [] BZ nQ ⟨284,0,295,97⟩ [W.topFrame ⟨0,0,0,0⟩])=some (Dc (t3 w.params) 439 744 os).abs:=by kernel_rfl
theorem Yo (w:World)(os:OsState):W.topGo PySem.treeTable PySem.Challenge.pw_lidprice_k77_offers_refused w 11 (some (.ref 6)) 12 ⟨W.boot_heap w.params,aFk [],W.boot_drawn,W.boot_toks,os⟩ (W.topStub PySem.Challenge.pw_lidprice_k77_offers_refused)=some ((Dc (t0 w.params) 15 187 os).abs,⟨denote PySem.treeTable (.body gs BZ),nQ,⟨0,0,0,0⟩,[W.topFrame ⟨0,0,0,0⟩]⟩):=by kernel_rfl
theorem ZC (w:World)(os:OsState):W.segRun PySem.treeTable PySem.Challenge.pw_lidprice_k77_offers_refused w 11 (some (.ref 6)) 1 1 (Dc (t0 w.params) 15 187 os).abs (W.blockOf gs BZ nQ ⟨0,0,0,0⟩ [W.topFrame ⟨0,0,0,0⟩])=some (.next,(Dc (t0 w.params) 15 187 os).abs,nQ,⟨0,0,0,0⟩):=by kernel_rfl
def wV (P:Params):W.Frag :=
(nat_lit 2,W.boot_o_2 P) ::
(nat_lit 3,TX P) ::
(nat_lit 20,o20 P) ::
(nat_lit 21,o21 P) ::
(nat_lit 30,o30 P) ::
(nat_lit 31,o31 P) ::
(nat_lit 32,o32 P) ::
(nat_lit 43,o43 P) ::
(nat_lit 44,o44 P) ::
(nat_lit 55,o55 P) ::
(nat_lit 56,o56 P) ::
(nat_lit 67,o67 P) ::
(nat_lit 68,o68 P) ::
(nat_lit 79,o79 P) ::
(nat_lit 80,o80 P) ::
(nat_lit 88,o88 P) ::
(nat_lit 89,o89 P) ::
(nat_lit 95,o95 P) ::
(nat_lit 96,o96 P) ::
(nat_lit 102,U4 P) ::
(nat_lit 103,Tg P) ::
(nat_lit 109,Tc P) ::
(nat_lit 110,Tp P) ::
(nat_lit 116,XC P) ::
(nat_lit 117,VN P) ::
(nat_lit 123,WN P) ::
(nat_lit 124,VR P) ::
(nat_lit 130,UT P) ::
(nat_lit 131,XJ P) ::
(nat_lit 135,Wg P) ::
(nat_lit 136,U7 P) ::
(nat_lit 142,TQ P) ::
(nat_lit 143,Ww P) ::
(nat_lit 149,UJ P) ::
(nat_lit 150,X6 P) ::
(nat_lit 156,Up P) ::
(nat_lit 157,V2 P) ::
(nat_lit 163,Va P) ::
(nat_lit 164,Vu P) ::
(nat_lit 168,XD P) ::
(nat_lit 169,Tu P) ::
(nat_lit 173,Wu P) ::
(nat_lit 174,Vo P) ::
(nat_lit 178,Vn P) ::
(nat_lit 179,Vd P) ::
(nat_lit 183,Sv P) ::
(nat_lit 184,XH P) ::
(nat_lit 188,Tw P) ::
(nat_lit 189,Wr P) ::
(nat_lit 193,XQ P) ::
(nat_lit 194,V6 P) ::
(nat_lit 200,Ux P) ::
(nat_lit 201,VH P) ::
(nat_lit 205,Uc P) ::
(nat_lit 206,WM P) ::
(nat_lit 210,Sx P) ::
(nat_lit 211,X3 P) ::
(nat_lit 217,UG P) ::
(nat_lit 218,VD P) ::
(nat_lit 224,V7 P) ::
(nat_lit 225,Vg P) ::
(nat_lit 229,Ws P) ::
(nat_lit 230,WR P) ::
(nat_lit 234,Th P) ::
(nat_lit 235,Vr P) ::
(nat_lit 239,Wb P) ::
(nat_lit 240,W4 P) ::
(nat_lit 244,X5 P) ::
(nat_lit 245,W2 P) ::
(nat_lit 249,Wx P) ::
(nat_lit 250,Su P) ::
(nat_lit 256,Ua P) ::
(nat_lit 257,W9 P) ::
(nat_lit 263,Wi P) ::
(nat_lit 264,TJ P) ::
(nat_lit 268,U8 P) ::
(nat_lit 269,Tj P) ::
(nat_lit 273,Wk P) ::
(nat_lit 274,WL P) ::
(nat_lit 280,UL P) ::
(nat_lit 281,WD P) ::
(nat_lit 285,VP P) ::
(nat_lit 286,Wn P) ::
(nat_lit 290,WX P) ::
(nat_lit 291,Wc P) ::
(nat_lit 302,Vh P) ::
(nat_lit 303,Wa P) ::
(nat_lit 307,Tr P) ::
(nat_lit 308,Uy P) ::
(nat_lit 314,Vy P) ::
(nat_lit 315,VB P) ::
(nat_lit 321,Us P) ::
(nat_lit 322,Te P) ::
(nat_lit 326,Wv P) ::
(nat_lit 327,XS P) ::
(nat_lit 333,U3 P) ::
(nat_lit 334,Vq P) ::
(nat_lit 338,Vw P) ::
(nat_lit 339,X8 P) ::
(nat_lit 343,VG P) ::
(nat_lit 344,TV P) ::
(nat_lit 350,W8 P) ::
(nat_lit 351,Vi P) ::
(nat_lit 357,Xb P) ::
(nat_lit 358,U0 P) ::
(nat_lit 364,Tt P) ::
(nat_lit 365,Ue P) ::
(nat_lit 367,Um P) ::
(nat_lit 368,Uu P) ::
(nat_lit 369,Ui P) ::
(nat_lit 370,WK P) ::
(nat_lit 378,Ub P) ::
(nat_lit 379,Ud P) ::
(nat_lit 390,Td P) ::
(nat_lit 391,X7 P) ::
(nat_lit 397,WQ P) ::
(nat_lit 398,Vb P) ::
(nat_lit 404,Uv P) ::
(nat_lit 405,WW P) ::
(nat_lit 409,Wj P) ::
(nat_lit 410,X4 P) ::
(nat_lit 416,XN P) ::
(nat_lit 417,UV P) ::
(nat_lit 423,Ul P) ::
(nat_lit 424,U9 P) ::
(nat_lit 430,V9 P) ::
(nat_lit 431,Xc P) ::
(nat_lit 437,Sw P) ::
(nat_lit 438,Vm P)::[]
def Sg:List Addr:=2::3::20::21::30::31::32::43::44::55::56::67::68::79::80::88::89::95::96::102::103::109::110::116::117::123::124::130::131::135::136::142::143::149::150::156::157::163::164::168::169::173::174::178::179::183::184::188::189::193::194::200::201::205::206::210::211::217::218::224::225::229::230::234::235::239::240::244::245::249::250::256::257::263::264::268::269::273::274::280::281::285::286::290::291::302::303::307::308::314::315::321::322::326::327::333::334::338::339::343::344::350::351::357::358::364::365::367::368::369::370::378::379::390::391::397::398::404::405::409::410::416::417::423::424::430::431::437::438::[]
theorem Bg:∀ P,Sg=(wV P).map (·.1):=fun _=>by kernel_rfl
def vw:Program:={ PySem.Challenge.pw_lidprice_k77_offers_refused with main:={ (PySem.Challenge.pw_lidprice_k77_offers_refused).main with body:=[top 0,top 2,top 3,top 4,top 5,top 6,top 8,top 9,top 10,top 11,top 12,top 13,top 14,top 15,top 16,top 17,top 18,top 20,top 21,top 22,top 23,top 24,top 25,top 26,top 27,top 28,top 29,top 30,top 31,top 32,top 33,top 34,top 35,top 37,top 38,top 39,top 40,top 41,top 42,top 43,top 44,top 45,top 46,top 47,top 48,top 49,top 51,top 52,top 53,top 54,top 55,top 56,top 57,top 58,top 59,top 60] } }
def xtK (s:Shared):Bool:=W.xlAt vw [] s&&W.recOk (W.RowW.records (W.OpenRow.toRowW (W.OpenLaw.row PySem.Challenge.rw_lidprice_k77_offers_refused))) s
theorem Ut:W.LeftO PySem.Challenge.pw_lidprice_k77_offers_refused vw [] xtK (W.Hook.obs (W.kHook wV Sg Bg)) (W.Hook.val (W.kHook wV Sg Bg)) 6668 :=
 L2.K4 (Tb:=t0) (Tf:=t3) (nf:=439) (kf:=744) (env:=BZ) (C:=nQ) (gs:=gs) (m0:=11) (ann:=(some (.ref 6))) (by kernel_rfl) (by decide) (fun _=>by kernel_rfl) (fun _=>by kernel_rfl) Yo ZC (c:=1210+(1444+(320+(2)))) (fun w os=>L2.yZ (aAp w os) (L2.yZ (YM w os) (L2.yZ (Zz w os) (ZD w os)))) (by decide) (fun _=>by kernel_rfl)
end
end K77
open PySem PySem.W PyProof.Rows
set_option maxRecDepth 100000 in
set_option maxHeartbeats 0 in
theorem PySem.Challenge.cw_lidprice_k77_offers_refused_holds : PySem.Challenge.rw_lidprice_k77_offers_refused.Holds := by
 w_on
 refine PySem.W.holds_law K77.VV fun said=>?_;refine PySem.W.holds_open (N:=6668) (q:=K77.vw) (loose:=[]) (Xt:=K77.xtK) (XP:=PySem.W.XL K77.vw [])
  (Yf:=PySem.W.Hook.obs (PySem.W.kHook K77.wV K77.Sg K77.Bg)) (Ya:=PySem.W.Hook.val (PySem.W.kHook K77.wV K77.Sg K77.Bg))
  (YP:=PySem.W.Hook.says (PySem.W.kHook K77.wV K77.Sg K77.Bg)) K77.Ut
  (PySem.W.Hook.of _) (PySem.W.Hook.keeps _) (fun s e=>PySem.W.xl_of s (aFD.mp e).1) PySem.W.XL.keeps
  (by rfl) (by rfl) (by rfl) (fun s e=>PySem.W.recFacts_of (aFD.mp e).2)
  (by rfl) (by first | assumption | decide +kernel) (by decide +kernel)
  ⟨rfl,rfl,rfl,rfl,rfl,by decide +kernel⟩ ?hw ?hc
 case hw=>w_witness2
 k_fill
 refine K77.walk (l:=PySem.Challenge.rw_lidprice_k77_offers_refused) rfl rfl rfl (fun w h Y=>by first | exact PySem.W.kIn_of Y | exact PySem.W.km_in_of Y) ?F
 case F =>
  intro w mg fa h KX G hmg;apply K77.RQ (cR:=173) (Pt:=171) KX G hmg
  all_goals first | k_is | kit_is | exact ⟨by k_is,L2.Ly (by k_is) (by k_is) (by k_is)⟩ | exact ⟨by k_is,by k_is,L2.Ly (by k_is) (by k_is) (by k_is)⟩ | (refine ⟨⟨?_,?_,?_,?_⟩,?_⟩ <;> first | k_is | kit_is | kernel_rfl | (unfold L2.kZ; kernel_rfl) | decide) | (refine ⟨?_⟩ <;> first | k_is | kit_is | kernel_rfl | (unfold L2.kZ; kernel_rfl) | decide) | (refine ⟨?_,?_,?_,?_,?_,?_,?_,?_⟩ <;> first | k_is | kit_is | kernel_rfl | (unfold L2.kZ; kernel_rfl) | decide) | kernel_rfl | exact rfl | decide
