import PyProof.Rows.All
import Wide.All
import OpenK.AllK
import Wide.FinOn
import Lean
import PyProof.EqAt
import PyProof.EqKinds
import PyProof.TupleCall
import PyProof.NeKinds
import KE.IntBitsLaws
import KE.KRevIter
import KE.KSortKey
import KE.KLam
import KE.KNestM
import KE.KDictList
import PyProof.ConsumeWalk
import PyProof.ZipIter
import PyProof.Rows.Range3
import PyProof.CollectWalk
import PyProof.ListNew
import KE.KDictOf
import KE.KUnpack
import PyProof.Rows.TupIter
import KE.KxAdd
import PyProof.Rows.StrJoin2
import PyProof.CallStr
import PyProof.FactsAll.str_5
import PyProof.Rows.StrSplitJoin
import PyProof.Rows.StrDigitsNeg
import PyProof.Rows.StrJoinMade
import PyProof.Rows.ReprOcc
import PyProof.Rows.SetFrom
import PyProof.IsRules
import PySem.Challenge.RW_lidprice_k85_written
open List renaming length_map → aFF, mem_cons_of_mem → aFG, mem_cons_self → aFI, getElem?_eq_getElem → aFK, mem_map → aFL, map_append → aFN, getElem?_eq_some_iff → aFO, map_cons → aFP, mem_singleton → aFR, size_toArray → aFW, mem_append_right → aFX, getElem?_map → aFY, length_append → aFZ, sum_cons → aF0, mem_of_getElem? → aF1, take_length → aF3, mem_append → aF4, mem_cons → aF7, getElem?_append_right → aF9, getElem?_append_left → aGd, length_take → aGe, length_cons → aGf, replicate → aGo, length_singleton → aGq, getElem_mem → aGt, map_congr_left → aGu, mem_append_left → aGw, lookup_cons → aGx, map_map → aGz, map_eq_nil_iff → aGF, length_take_le → aGG, length_replicate → aGK, length_reverse → aGM, pairwise_cons → aGR, nodup_cons → aGS, find?_cons → aGT, lookup → aGV, length → aGW, mem_of_mem_drop → aGZ, filterMap_cons → aG2, length_pos_iff → aG4, length_eq_zero_iff → aHc, pairwise_map → aHe, take_append_drop → aHi, any_eq_true → aHk, range → aHp, mem_filterMap → aHq, pairwise_iff_getElem → aHv, take_add_one → aHw, getElem?_replicate → aHz, all_eq_true → aHA, pairwise_singleton → aHD, getElem?_set_self → aHE, map_nil → aHG, of_mem_zip → aHJ, sum_append → aHL, getElem?_eq_none → aHM, lookup_cons_self → aHO, pairwise_reverse → aHQ, mem_range → aHR, getElem?_set_ne → aHS, nodup_nil → aHT, mem_iff_getElem → aHU, any_cons → aHZ, any_eq_false → aH5, ext_getElem? → aH8, drop_sublist → aIa, foldl_append → aIb, nodup_append → aIc, append_assoc → aIg, reverse_cons → aIh, not_mem_nil → aIj, mem_flatMap → aIk, mem_filter → aIn, length_nil → aIo, foldl_cons → aIp
open PySem.Heap renaming get?_push_of_some → aFH, lt_size → aFQ, get?_push_size → aFV, SameBut → aGi, get?_update_self → aGB, get?_update_other → aGQ, size_push → aHd
open Nat renaming le_trans → aFJ, le_refl → aFM, lt_of_lt_of_le → aF5, ne_of_lt → aF6, zero_le → aGa, mul_le_mul_left → aGg, le_of_lt → aGm, mul_le_mul_right → aGy, ne_of_gt → aGC, lt_irrefl → aGI, le_succ → aGO, div_le_self → aGU, pow_le_pow_right → aG1, add_le_add_left → aG3, mul_add → aG9, add_mul → aHa, lt_succ_self → aHj, not_lt_zero → aHn, lt_of_le_of_lt → aHr, eq_zero_or_pos → aHs, le_of_eq → aHF, le_div_iff_mul_le → aHP, mul_le_mul → aHW, zero_add → aH6, lt_succ_of_lt → aH7, succ_mul → aIe, succ_le_succ → aIi
open Int renaming le_of_lt → aFS, mul_le_mul_of_nonneg_right → aFT, mul_le_mul_of_nonneg_left → aFU, ne_of_gt → aF8, le_trans → aGb, emod_lt_of_pos → aGc, emod_nonneg → aGh, gcd → aGj, mul_nonpos_of_nonneg_of_nonpos → aGn, le_refl → aGp, gcd_pos_of_ne_zero_right → aGv, pow_succ → aGA, mul_pos → aGD, mul_nonneg → aGE, fdiv_eq_ediv_of_nonneg → aGJ, eq_of_mul_eq_mul_right → aGY, pow_add → aG0, dvd_trans → aG5, mul_fdiv_cancel_left → aG6, mul_nonpos_of_nonpos_of_nonneg → aG8, gcd_le_natAbs_right → aHb, fmod_nonneg_of_pos → aHg, mul_comm → aHh, le_of_dvd → aHl, gcd_eq_natAbs_gcd_natAbs → aHm, le_of_mul_le_mul_right → aHt, le_of_mul_le_mul_left → aHu, toNat_natCast → aHx, gcd_dvd_right → aHy, gcd_dvd_left → aHC, dvd_refl → aHH, natAbs_dvd_natAbs → aHN, one_mul → aHV, fdiv_mul_cancel → aHY, lt_or_gt_of_ne → aH2, fmod_lt_of_pos → aH3, natCast_nonneg → aH4, fmod_def → aH9, lt_trans → aIf, natCast_ediv → aIl
open Bool renaming false_ne_true → aF2, false_eq_true → aGr, and_eq_true → aGs, eq_iff_iff → aG7, or_eq_true → aHK, and_eq_true_iff → aHX
open Array renaming length_toList → aGk, getElem?_eq_getElem → aGl, getElem?_toList → aGL, toArray_toList → aGX, getElem?_eq_none → aHf, mk → aHB, append_assoc → aH0, empty_append → aH1, Perm → aIq
open Option renaming some → aGH, none → aIm
open Rat renaming mul_le_mul_of_nonneg_right → aGN, mul_le_mul_of_nonneg_left → aGP, mul_lt_mul_of_pos_right → aHo, not_lt → aHI
set_option Elab.async false
set_option linter.all false
set_option maxRecDepth 100000
namespace K85
open PySem PySem.W
abbrev sdr:=PySem.Challenge.rw_lidprice_k85_written
abbrev Ey:Program:=sdr.row.toRowW.prog
theorem sdA:sreFenced Ey.main=true:=by kernel_rfl
theorem sdB:((moduleNames Ey.main.body).isEmpty||lookedIntoSs (moduleNames Ey.main.body) Ey.main.body)=true:=by kernel_rfl
theorem sdC:namesResolve Ey=true:=by kernel_rfl
theorem sdD:(Ey.boundNames.all fun n=>!worldNames.contains n)=true:=by kernel_rfl
theorem sdE:noRoadLSs { strict:=!(importedModules Ey.main.body).all cThrough.contains,foot:=none,bare:=(["vars","dir","locals"]:List Str).filter (readsOut Ey Ey.main.body) } Ey.main.body=true:=by kernel_rfl
theorem sdF:(namesMeet Ey Ey.main.body fun _ n=>attrL n)=true:=by kernel_rfl
theorem sdG:looksOpen Ey=true:=by
 unfold looksOpen;exact look_both (look_both (look_both (look_both (look_both sdA sdB) sdC) sdD) sdE) sdF
theorem sdH:sdr.row.wellSaid=true:=by
 unfold OpenRow.wellSaid OpenRow.partSaid;rw [sdG]
 kernel_rfl
theorem Tt:sdr.wellSaid=true:=by
 unfold OpenLaw.wellSaid;rw [sdH]
 kernel_rfl
end K85
namespace L2
open PySem PySem.Spec PyProof.Rows
abbrev Key:=Sum Int Str
def vJ:Key->Value->Bool
 | .inl k,v=>Value.isInt k v
 | .inr x,v=>Value.isStrOf x v
def aBn (w:World):Key->Int
 | .inl k=>hashInt k
 | .inr x=>hashStr w x
theorem dB:∀ {k:Key}{v:Value},vJ k v=true->(∃ i t,k=Sum.inl i/\v=Value.int i t)∨(∃ x t,k=Sum.inr x/\v=Value.str x t)
 | .inl i,v,h=>by
  obtain ⟨t,e⟩:=Value.isInt_shape (k:=i) (v:=v) h;exact .inl ⟨i,t,rfl,e⟩
 | .inr x,v,h=>by
  obtain ⟨t,e⟩:=Value.isStrOf_shape (x:=x) (v:=v) h;exact .inr ⟨x,t,rfl,e⟩
theorem GP (i:Int)(t:Tok):vJ (.inl i) (.int i t)=true:=by simp [vJ,Value.isInt]
theorem Fj (x:Str)(t:Tok):vJ (.inr x) (.str x t)=true:=by simp [vJ,Value.isStrOf]
theorem Om (a b:Int):decide ((Sum.inl a:Key)=Sum.inl b)=(a==b):=by
 by_cases e:a=b
 ·subst e; simp
 ·have h:¬ (Sum.inl a:Key)=Sum.inl b:=fun q=>e (Sum.inl.inj q);rw [decide_eq_false h];exact (beq_eq_false_iff_ne.mpr e).symm
theorem NP (a b:Str):decide ((Sum.inr a:Key)=Sum.inr b)=decide (a=b):=by
 by_cases e:a=b
 ·subst e; simp
 ·have h:¬ (Sum.inr a:Key)=Sum.inr b:=fun q=>e (Sum.inr.inj q);rw [decide_eq_false h,decide_eq_false e]
theorem Nr (a:Int)(b:Str):decide ((Sum.inl a:Key)=Sum.inr b)=false:=decide_eq_false (fun q=>nomatch q)
theorem Mf (a:Str)(b:Int):decide ((Sum.inr a:Key)=Sum.inl b)=false:=decide_eq_false (fun q=>nomatch q)
def c7 (prog:Program)(w:World):PySem.KeyKind prog w Key where
 is:=vJ
 hash:=aBn w
 inj:=fun v a b ha hb=>by
  rcases dB ha with ⟨i,t,rfl,rfl⟩ | ⟨x,t,rfl,rfl⟩
  ·rcases dB hb with ⟨j,u,rfl,e⟩ | ⟨y,u,rfl,e⟩
   ·injection e with e1 _; rw [e1]
   ·exact nomatch e
  ·rcases dB hb with ⟨j,u,rfl,e⟩ | ⟨y,u,rfl,e⟩
   ·exact nomatch e
   ·injection e with e1 _; rw [e1]
 byValue:=fun k v h=>by
  rcases dB h with ⟨i,t,rfl,rfl⟩ | ⟨x,t,rfl,rfl⟩ <;> rfl
 pyHash:=fun hv h=>by
  rcases dB hv with ⟨i,t,rfl,rfl⟩ | ⟨x,t,rfl,rfl⟩
  ·exact wpAny_pyHash_int h
  ·exact wpAny_pyHash_str h
 eqBool:=fun hu hv h=>by
  rcases dB hu with ⟨i,t,rfl,rfl⟩ | ⟨x,t,rfl,rfl⟩
  ·rcases dB hv with ⟨j,u,rfl,rfl⟩ | ⟨y,u,rfl,rfl⟩
   ·rw [Om] at h; exact wpAny_eqBool_int h
   ·rw [Nr] at h; exact SeqAt.EqAt.int_str i t y u _ _ _ _ h
  ·rcases dB hv with ⟨j,u,rfl,rfl⟩ | ⟨y,u,rfl,rfl⟩
   ·rw [Mf] at h; exact SeqAt.EqAt.str_int x t j u _ _ _ _ h
   ·rw [NP] at h; exact wpAny_eqBool_str h
 «strs»:=fun k x t v h=>by
  rcases dB h with ⟨i,u,rfl,e⟩ | ⟨y,u,rfl,e⟩
  ·exact nomatch e
  ·injection e with e1 _
   subst e1;cases v <;> rfl
theorem An (prog:Program)(w:World)(i:Int)(t:Tok):(c7 prog w).is (.inl i) (.int i t)=true:=GP i t
theorem yV (prog:Program)(w:World)(x:Str)(t:Tok):(c7 prog w).is (.inr x) (.str x t)=true:=Fj x t
inductive V where
 | non | bl (b:Bool) | int (i:Int) | str (x:Str) | byt (b:Array UInt8) | flt (b:UInt64) | ref (a:Addr) | ty (n:String)
 deriving DecidableEq
def RelV:V->Value->Prop
 | .non,u=>u=Value.none
 | .bl b,u=>u=Value.bool b
 | .int i,u=>∃ t,u=Value.int i t
 | .str x,u=>∃ t,u=Value.str x t
 | .byt b,u=>∃ t,u=Value.bytes b t
 | .flt b,u=>∃ t,u=Value.float b t
 | .ref a,u=>u=Value.ref a
 | .ty n,u=>u=Value.type n
abbrev bZ:List V->List Value->Prop:=Paired RelV
theorem bZ.length {xs:List V}{us:List Value}(r:bZ xs us):xs.length=us.length:=Paired.length r
theorem bZ.get:∀ {xs:List V}{us:List Value}{i:Nat}{x:V},bZ xs us->xs[i]? = some x->∃ u,us[i]? = some u/\RelV x u
 | _,_,_,_,.nil,e=>by simp at e
 | _,_,0,_,.cons r _,e=>by simp at e; subst e; exact ⟨_,rfl,r⟩
 | _,_,i+1,x,.cons _ t,e=>by
  obtain ⟨u,h1,h2⟩:=bZ.get (i:=i) (x:=x) t (by simpa using e);exact ⟨u,by simpa using h1,h2⟩
theorem bZ.set {x:V}{u:Value}(r:RelV x u):∀ {xs:List V}{us:List Value} (i:Nat),bZ xs us->bZ (xs.set i x) (us.set i u)
 | _,_,_,.nil=>.nil
 | _,_,0,.cons _ t=>.cons r t
 | _,_,i+1,.cons q t=>.cons q (bZ.set r i t)
theorem bZ.append:∀ {xs ys:List V}{us ws:List Value},bZ xs us->bZ ys ws->bZ (xs++ys) (us++ws)
 | _,_,_,_,.nil,s=>s
 | _,_,_,_,.cons r t,s=>.cons r (bZ.append t s)
def lB:Option V->Option Value->Prop
 | some v,some u=>RelV v u
 | none,none=>True
 | _,_=>False
def KV {κ:Type}:List (κ×V)->List (κ×Value)->Prop:=Paired fun (p:κ×V) (q:κ×Value)=>p.1=q.1/\RelV p.2 q.2
def kV:Key->V
 | .inl i=>.int i
 | .inr x=>.str x
inductive HO where
 | lst (xs:List V)
 | tup (xs:List V)
 | dK (kvs:List (Key×V)) | dT (kvs:List (List Key×V))
 | set (S:Int->Bool) (n:Nat)
 | ins (C dx:Addr) (fs:List (Str×V))
 | own (x:Addr)
 | xd (fs:List (Str×V))
 | met (f x:Addr)
 | rng (lo hi:Int)
 | frz (o:Obj) (u:HO)
 | tbl (ps:Array Value)
 | ext (φ:Heap->Prop)
abbrev Hp:=Addr->Option HO
def bG (H:Hp)(a:Addr)(o:HO):Hp:=fun b=>if b=a then some o else H b
theorem aB {H:Hp}{a:Addr}{o:HO}:bG H a o a=some o:=by unfold bG; rw [if_pos rfl]
theorem aK {H:Hp}{a b:Addr}{o:HO}(h:b≠a):bG H a o b=H b:=by unfold bG; rw [if_neg h]
theorem cH {H:Hp}{a b:Addr}{o u:HO}(h:H a=some o)(h':H b=some u)(d:o≠u):a≠b:=by
 intro e; subst e; rw [h] at h'; exact d (aGH.inj h')
theorem aV {H:Hp}{a b:Addr}{o:HO}(h:H a=some o)(h':H b=none):a≠b:=by
 intro e; subst e; rw [h] at h'; cases h'
section
variable (P:Program)(w:World)
def b7 (H:Hp)(h:Heap)(a:Addr):HO->Prop
 | .lst xs=>xs.length<=sizeLine/\∃ (its:List Value) (n:Nat),bZ xs its/\h.get? a=some { cls:=.type "list",data:=.seq its.toArray n }
 | .tup xs=>xs.length<=sizeLine/\∃ its:List Value,bZ xs its/\IsTup h a its.toArray
 | .dK kvs=>kvs.length<=sizeLine/\(a==sysModules)=false/\∃ vs,KV kvs vs/\h.DictOf (c7 P w) a vs
 | .dT kvs=>kvs.length<=sizeLine/\(a==sysModules)=false/\∃ xs:List (List Key×Addr×Value),
   Paired (fun (p:List Key×V) (q:List Key×Addr×Value)=>p.1=q.1/\H q.2.1=some (.tup (p.1.map kV))/\RelV p.2 q.2.2) kvs xs ∧
   ∃ o es ep,h.get? a=some o/\o.ExactDict/\o.data=.dict es ep/\es.toList=xs.map (entryOfKey (tupleKind (c7 P w)))/\(xs.map (·.1)).Nodup
 | .set S n=>h.SetOf (intKind P w) a S n
 | .ins C dx fs=>H dx=some (.own a)/\fs.length<=1000/\dx≠a/\h.get? a=some (PySem.W.instObj C dx) ∧
   ∃ mA,h.Ns1 dx mA/\(∀ f,lB (fs.lookup f) (mA f))/\PySem.Within mA (fs.map (·.1))
 | .own _=>∃ o,h.get? a=some o
 | .xd fs=>∃ mA,h.Ns1 a mA/\∀ f,lB (fs.lookup f) (mA f)
 | .rng lo hi=>∃ t u v,h.get? a=some { cls:=.type "range",data:=.fields #[.int lo t,.int hi u,.int 1 v] }
 | .frz o u=>h.get? a=some o/\b7 H h a u
 | .tbl ps=>h.get? a=some { cls:=.none,data:=.fields ps }
 | .met f x=>h.get? a=some (PySem.W.methodObj (.ref f) (.ref x))
 | .ext φ=>φ h/\(∃ o,h.get? a=some o)/\∀ h1 h2:Heap,φ h1->(∀ o,h1.get? a=some o->h2.get? a=some o)->φ h2
def mC (H:Hp)(h:Heap):Prop:=∀ a o,H a=some o->b7 P w H h a o
end
section
variable {P:Program}{w:World}{H H':Hp}{h h':Heap}{a:Addr}{o:HO}
theorem b7.lt (x:b7 P w H h a o):a<h.objs.size:=by
 cases o with
 | lst xs=>obtain ⟨_,_,_,_,e⟩:=x; exact aFQ e
 | tup xs=>obtain ⟨_,_,_,p⟩:=x; exact p.lt
 | dK kvs=>obtain ⟨_,_,_,_,o,_,_,e,_⟩:=x; exact aFQ e
 | dT kvs=>obtain ⟨_,_,_,_,o,_,_,e,_⟩:=x; exact aFQ e
 | set S n=>obtain ⟨o,_,_,_,e,_⟩:=x; exact aFQ e
 | ins C dx fs=>obtain ⟨_,_,_,e,_⟩:=x; exact aFQ e
 | own y=>obtain ⟨_,e⟩:=x; exact aFQ e
 | xd fs=>obtain ⟨_,⟨_,_,_,e,_⟩,_⟩:=x; exact aFQ e
 | rng lo hi=>obtain ⟨_,_,_,e⟩:=x; exact aFQ e
 | frz ob u=>obtain ⟨e,_⟩:=x; exact aFQ e
 | tbl ps=>exact aFQ (show h.get? a=some _ from x)
 | met f y=>exact aFQ (show h.get? a=some _ from x)
 | ext φ=>obtain ⟨_,⟨_,e⟩,_⟩:=x; exact aFQ e
theorem Paired.mapP {α β:Type}{F G:α->β->Prop}:∀ {l₁:List α}{l₂:List β},Paired F l₁ l₂->(∀ a b,F a b->G a b)->Paired G l₁ l₂
 | _,_,.nil,_=>.nil
 | _,_,.cons r t,f=>.cons (f _ _ r) (Paired.mapP t f)
theorem b7.stay (x:b7 P w H h a o)(k:∀ b u,(b=a∨H b=some (.own a))->h.get? b=some u->h'.get? b=some u)
  (ho:∀ b,H b=some (.own a)->H' b=some (.own a)) (ht:∀ b xs,H b=some (.tup xs)->H' b=some (.tup xs)):b7 P w H' h' a o:=by
 induction o with
 | lst xs=>obtain ⟨z,its,n,r,e⟩:=x; exact ⟨z,its,n,r,k _ _ (.inl rfl) e⟩
 | tup xs=>obtain ⟨z,its,r,ob,e,c⟩:=x; exact ⟨z,its,r,ob,k _ _ (.inl rfl) e,c⟩
 | dK kvs=>obtain ⟨z,y,vs,r,ob,es,ep,e,c⟩:=x; exact ⟨z,y,vs,r,ob,es,ep,k _ _ (.inl rfl) e,c⟩
 | dT kvs =>
  obtain ⟨z,y,xs,r,ob,es,ep,e,c⟩:=x;exact ⟨z,y,xs,Paired.mapP r fun p q z=>⟨z.1,ht _ _ z.2.1,z.2.2⟩,ob,es,ep,k _ _ (.inl rfl) e,c⟩
 | set S n=>obtain ⟨ob,es,ep,t,e,c⟩:=x; exact ⟨ob,es,ep,t,k _ _ (.inl rfl) e,c⟩
 | ins C dx fs =>
  obtain ⟨d,z,ne,e,mA,⟨od,es,ep,e2,c⟩,r⟩:=x;exact ⟨ho _ d,z,ne,k _ _ (.inl rfl) e,mA,⟨od,es,ep,k _ _ (.inr d) e2,c⟩,r⟩
 | own y=>obtain ⟨ob,e⟩:=x; exact ⟨ob,k _ _ (.inl rfl) e⟩
 | xd fs=>obtain ⟨mA,⟨od,es,ep,e,c⟩,r⟩:=x; exact ⟨mA,⟨od,es,ep,k _ _ (.inl rfl) e,c⟩,r⟩
 | rng lo hi=>obtain ⟨t,u,v,e⟩:=x; exact ⟨t,u,v,k _ _ (.inl rfl) e⟩
 | frz ob u ih=>obtain ⟨e,q⟩:=x; exact ⟨k _ _ (.inl rfl) e,ih q⟩
 | tbl ps =>
  have e:h.get? a=some { cls:=.none,data:=.fields ps }:=x;show h'.get? a=some { cls:=.none,data:=.fields ps };exact k a _ (.inl rfl) e
 | met f y =>
  have e:h.get? a=some (PySem.W.methodObj (.ref f) (.ref y)):=x;show h'.get? a=some (PySem.W.methodObj (.ref f) (.ref y));exact k a _ (.inl rfl) e
 | ext φ=>obtain ⟨p,⟨o,e⟩,st⟩:=x; exact ⟨st _ _ p fun o q=>k _ _ (.inl rfl) q,⟨o,k _ _ (.inl rfl) e⟩,st⟩
theorem mC.lt (x:mC P w H h)(e:H a=some o):a<h.objs.size:=(x a o e).lt
theorem mC.fresh (x:mC P w H h)(e:h.objs.size<=a):H a=none:=by
 cases q:H a with
 | none=>rfl
 | some u=>exact absurd (aF5 (x.lt q) e) (aGI _)
theorem mC.kept (x:mC P w H h)(k:∀ b u,h.get? b=some u->h'.get? b=some u):mC P w H h':=fun a o e =>
 (x a o e).stay (fun b u _ q=>k b u q) (fun _ q=>q) fun _ _ q=>q
theorem mC.laid (x:mC P w H h)(k:∀ b u,h.get? b=some u->h'.get? b=some u)(hp:h.objs.size<=a)(new:b7 P w (bG H a o) h' a o):mC P w (bG H a o) h':=fun b u e=>by
 have hn:=x.fresh hp
 by_cases hb:b=a
 ·subst hb; rw [aB] at e; cases e; exact new
 ·rw [aK hb] at e;exact (x b u e).stay (fun c v _ q=>k c v q) (fun c q=>by rw [aK (aV q hn)]; exact q) fun c xs q=>by rw [aK (aV q hn)]; exact q
end
def Rd (H:Hp)(a:Addr)(u:HO):Prop:=H a=some u∨∃ o,H a=some (.frz o u)
theorem Rd.ok {P:Program}{w:World}{H:Hp}{h:Heap}{a:Addr}{u:HO}(r:Rd H a u)(x:mC P w H h):b7 P w H h a u:=by
 rcases r with r | ⟨o,r⟩
 ·exact x a u r
 ·obtain ⟨_,q⟩:=x a _ r;exact q
def QD:Option HO->Prop
 | some (.lst _)=>True
 | some (.dK _)=>True
 | some (.dT _)=>True
 | some (.set _ _)=>True
 | some (.ins _ _ _)=>True
 | some (.ext _)=>True
 | _=>False
section
variable {P:Program}{w:World}{H:Hp}{h h':Heap}{x e:Addr}{o':HO}
theorem mC.write (ok:mC P w H h)(mu:QD (H x))(he:e=x∨H e=some (.own x))(k:∀ b u,b≠e->h.get? b=some u->h'.get? b=some u)(heo:∃ u,h'.get? e=some u)
  (new:b7 P w (bG H x o') h' x o'):mC P w (bG H x o') h':=fun b u q=>by
 have nown:∀ c y,H c=some (.own y)->c≠x:=fun c y r z=>by subst z; rw [r] at mu; exact mu
 have ntup:∀ c xs,H c=some (.tup xs)->c≠x:=fun c xs r z=>by subst z; rw [r] at mu; exact mu
 by_cases hb:b=x
 ·subst hb; rw [aB] at q; cases q; exact new
 ·rw [aK hb] at q
  by_cases hbe:b=e
  ·have q':H b=some (.own x):=by
    rcases he with z | z
    ·exact absurd (hbe.trans z) hb
    ·rw [hbe]; exact z
   rw [q] at q'; cases q';obtain ⟨v,hv⟩:=heo;exact ⟨v,by rw [hbe]; exact hv⟩
  ·refine (ok b u q).stay (fun c v hc r=>k c v ?_ r) (fun c r=>by rw [aK (nown c b r)]; exact r) fun c xs r=>by rw [aK (ntup c xs r)]; exact r
   rcases hc with rfl | hc
   ·exact hbe
   ·rintro rfl;rcases he with z | z
    ·exact nown c b hc z
    ·rw [hc] at z; cases z; exact hb rfl
end
structure Un (fs ex:List Addr)(H H':Hp)(h h':Heap):Prop where
 keep:∀ b o,h.get? b=some o->H b=none->b∉fs->b∉ex->h'.get? b=some o
 slot:∀ b o,h.get? b=some o->H b=none->b∈fs->b∉ex->∃ sl,h'.get? b=some { o with slots:=sl }
 free:∀ b o,h.get? b=some o->H b=none->b∉ex->H' b=none
 there:∀ b o,h.get? b=some o->b∉ex->∃ o',h'.get? b=some o'
 tups:∀ b xs,H b=some (.tup xs)->H' b=some (.tup xs)
 frzs:∀ b o u,H b=some (.frz o u)->H' b=some (.frz o u)
 tbls:∀ b ps,H b=some (.tbl ps)->∃ more,H' b=some (.tbl (ps++more))
section
variable {fs fs' ex ex':List Addr}{H H1 H2:Hp}{h h1 h2 h':Heap}{a x e:Addr}{o:HO}
theorem Un.any (u:Un fs ex H H1 h h1){b:Addr}{ob:Obj}(q:h.get? b=some ob)(n:H b=none)(hx:b∉ex):∃ sl,h1.get? b=some { ob with slots:=sl }:=by
 by_cases hb:b∈fs
 ·exact u.slot b ob q n hb hx
 ·exact ⟨ob.slots,u.keep b ob q n hb hx⟩
theorem Un.trans (a:Un fs ex H H1 h h1)(b:Un fs ex H1 H2 h1 h2):Un fs ex H H2 h h2 where
 keep:=fun c ob q n hc hx=>b.keep c ob (a.keep c ob q n hc hx) (a.free c ob q n hx) hc hx
 slot:=fun c ob q n hc hx=>by
  obtain ⟨sl,e1⟩:=a.slot c ob q n hc hx;obtain ⟨sl',e2⟩:=b.slot c _ e1 (a.free c ob q n hx) hc hx;exact ⟨sl',e2⟩
 free:=fun c ob q n hx=>by
  obtain ⟨o',e1⟩:=a.there c ob q hx;exact b.free c o' e1 (a.free c ob q n hx) hx
 there:=fun c ob q hx=>by
  obtain ⟨o',e1⟩:=a.there c ob q hx;exact b.there c o' e1 hx
 tups:=fun c xs q=>b.tups c xs (a.tups c xs q)
 frzs:=fun c ob xs q=>b.frzs c ob xs (a.frzs c ob xs q)
 tbls:=fun c ps q=>by
  obtain ⟨m1,e1⟩:=a.tbls c ps q;obtain ⟨m2,e2⟩:=b.tbls c _ e1;exact ⟨m1++m2,by rw [e2,aH0]⟩
theorem Un.kept (k:∀ b u,h.get? b=some u->h'.get? b=some u):Un fs ex H H h h' :=
 ⟨fun b ob q _ _ _=>k b ob q,fun b ob q _ _ _=>⟨ob.slots,k b ob q⟩,fun _ _ _ n _=>n,fun b ob q _=>⟨ob,k b ob q⟩,fun _ _ q=>q,fun _ _ _ q=>q,fun _ ps q=>⟨#[],by rw [q]; simp⟩⟩
theorem Un.refl:Un fs ex H H h h:=Un.kept fun _ _ q=>q
theorem Un.laid (k:∀ b u,h.get? b=some u->h'.get? b=some u)(hp:h.objs.size<=a)(hn:H a=none):Un fs ex H (bG H a o) h h' where
 keep:=fun b u q _ _ _=>k b u q
 slot:=fun b u q _ _ _=>⟨u.slots,k b u q⟩
 free:=fun b u q n _=>by rw [aK (aF6 (aF5 (aFQ q) hp))]; exact n
 there:=fun b u q _=>⟨u,k b u q⟩
 tups:=fun b xs q=>by rw [aK (aV q hn)]; exact q
 frzs:=fun b u xs q=>by rw [aK (aV q hn)]; exact q
 tbls:=fun b ps q=>⟨#[],by rw [aK (aV q hn),q]; simp⟩
theorem Un.write (mu:QD (H x))(he:e=x∨H e=some (.own x))(k:∀ b u,b≠e->h.get? b=some u->h'.get? b=some u)(heo:∃ u,h'.get? e=some u):Un fs ex H (bG H x o) h h':=by
 have hx:∀ b,H b=none->b≠x:=fun b n z=>by subst z; rw [n] at mu; exact mu
 have hb:∀ b,H b=none->b≠e:=fun b n z=>by
  subst z;rcases he with r | r
  ·exact hx b n r
  ·rw [n] at r; cases r
 have hm:∀ b u,H b=some u->¬ QD (some u)->b≠x:=fun b u q nm z=>by subst z; rw [q] at mu; exact nm mu
 refine ⟨fun b u q n _ _=>k b u (hb b n) q,fun b u q n _ _=>⟨u.slots,k b u (hb b n) q⟩,fun b u q n _=>by rw [aK (hx b n)]; exact n,fun b u q _=>?_,
  fun b xs q=>by rw [aK (hm b _ q fun z=>z)]; exact q,fun b u xs q=>by rw [aK (hm b _ q fun z=>z)]; exact q,fun b ps q=>⟨#[],by rw [aK (hm b _ q fun z=>z),q]; simp⟩⟩
 by_cases hbe:b=e
 ·subst hbe; exact heo
 ·exact ⟨u,k b u hbe q⟩
end
def Wd (h:Heap)(H:Hp):List Addr:=(aHp h.objs.size).filter fun a=>(H a).isSome
def uX (h:Heap)(H:Hp):Heap:=PySem.W.hideAll h (Wd h H)
theorem Fy (h:Heap)(H:Hp):(uX h H).objs.size=h.objs.size:=PySem.W.hideAll_size _ _
theorem JW {h:Heap}{H:Hp}{b:Addr}{o:Obj}(e:h.get? b=some o)(n:H b=none):(uX h H).get? b=some o :=
 PySem.W.hideAll_get _ e fun hm=>by
  have q:(H b).isSome=true:=(aIn.mp hm).2;rw [n] at q; simp at q
theorem KJ {h:Heap}{H:Hp}{b:Addr}{o:Obj}(e:(uX h H).get? b=some o):h.get? b=some o/\H b=none:=by
 have e':h.get? b=some o:=PySem.W.of_hideAll (Wd h H) e;refine ⟨e',?_⟩;cases q:H b with
 | none=>rfl
 | some x =>
  have hm:b∈Wd h H:=aIn.mpr ⟨aHR.mpr (aFQ e'),by simp [q]⟩;have z:(uX h H).get? b=none:=PySem.W.hideAll_none (Wd h H) hm;rw [z] at e; cases e
def Jo (g h:Heap)(L:Addr):List (Addr×Obj):=(aHp h.objs.size).filterMap fun a=>if a=L∨(g.get? a).isSome=true then none else (h.get? a).map fun o=>(a,o)
def rest (g h:Heap)(L d:Addr):List (Addr×Obj):=(Jo g h L).filter fun p=>decide (p.1≠d)
structure Mod (K:PySem.W.Frag)(mg:Str->Option Value)(base:Heap):Prop where
 kin:K.In base
 glob:base.Ns mainGlobals mg
 blt:∃ mb,base.Ns builtinsNs mb/\∀ x:Str,x≠"__name__" -> mb x=bootBuiltins x
 nolimit:base.NoLimit
structure Cx where
 prog:Program
 w:World
 K:PySem.W.Frag
 mg:Str->Option Value
 base:Heap
 A:Around
 N:List Str
 s₀:Shared
 H₀:Hp
 env:Env
 outer:List Env
 stack:List Env
 ex:List Addr
 fn:Str->Bool
 calm:Bool
 pn:List (Addr×Obj)
 xe:Value->Shared->Prop
def qZ (l:List Env):List Addr:=l.filterMap (·.frame)
abbrev Cx.fs (X:Cx):List Addr:=qZ X.outer
def W7 (sc:Scope)(x:Str):Prop:=sc.names.lookup x=some .local∨sc.names.lookup x=some .cell∨sc.names.lookup x=some .free
def Loc (sc:Scope)(x:Str):Prop:=sc.names.lookup x=some .local∨sc.names.lookup x=some .cell
def Look (env:Env)(h:Heap)(m:Str->Option Value)(x:Str)(u:Value):Prop :=
 (env.kindOf x=some .local/\m x=some u)∨((env.kindOf x=some .cell∨env.kindOf x=some .free)/\∃ c,env.cells.lookup x=some c/\h.IsCell c (some u))
structure Cx.Ok (X:Cx):Prop where
 mod:Mod X.K X.mg X.base
 kind:X.env.scope.kind=.function
 glob:X.env.globals=mainGlobals
 blt:X.env.builtins=builtinsNs
 above:X.s₀.heap.objs.size<=X.env.locals
 inj:∀ x y c,X.env.cells.lookup x=some c->X.env.cells.lookup y=some c->x=y
 has:∀ x,(X.env.kindOf x=some .cell∨X.env.kindOf x=some .free)->∃ c,X.env.cells.lookup x=some c
 cab:∀ x c,X.fn x=true->X.env.cells.lookup x=some c->X.s₀.heap.objs.size<=c
 hd:X.calm=true->X.A.handled=none
 frames:X.A.frames=some X.stack
 stk:X.stack=X.outer∨(X.stack=X.env::X.outer/\X.env.frame=some X.env.locals)
 exf:∀ b∈X.ex,b≠X.env.locals/\∀ x c,X.env.cells.lookup x=some c->c≠b
 bs:∀ b o,X.base.get? b=some o->X.s₀.heap.get? b=some o/\X.H₀ b=none
 bsz:X.base.objs.size<=X.s₀.heap.objs.size
 noex:∀ b o,X.base.get? b=some o->b∉X.ex
 exfs:∀ b∈X.ex,b∉X.fs
 funs:X.s₀.heap.FunFrames X.base X.outer
 frf:∀ b∈X.fs,X.H₀ b=none
structure aW (X:Cx)(pins:List (Addr×Obj))(σ:List (Option V))(H:Hp)(s:Shared):Prop where
 ok:X.Ok
 os:s.os=X.s₀.os
 bare:AllBare s.gens
 base:Un X.fs X.ex X.H₀ H X.s₀.heap s.heap
 loc:∃ m,s.heap.Ns X.env.locals m/\∀ (i:Nat) (x:Str) (v:V),X.N[i]? = some x->σ[i]? = some (some v)->W7 X.env.scope x->∃ u,RelV v u/\Look X.env s.heap m x u
 cell:∀ x c,X.env.cells.lookup x=some c->∃ v,s.heap.IsCell c v
 free:H X.env.locals=none
 freeC:∀ x c,X.env.cells.lookup x=some c->H c=none
 pin:∀ p∈X.pn++pins,s.heap.get? p.1=some p.2/\H p.1=none/\p.1≠X.env.locals/\p.1∉X.fs/\∀ v,p.2.data≠.cell v
 hok:mC X.prog X.w H s.heap
 len:σ.length=X.N.length
section
variable {X:Cx}{pins:List (Addr×Obj)}{σ:List (Option V)}{H H':Hp}{s:Shared}{h':Heap}
theorem Cx.Ok.nofr (ok:X.Ok){b:Addr}{o:Obj}(e:X.base.get? b=some o):b∉X.fs:=fun hb=>by
 have:=(ok.funs.mem hb).1;rw [e] at this; cases this
theorem aW.bs (I:aW X pins σ H s):∀ b o,X.base.get? b=some o->s.heap.get? b=some o/\H b=none:=fun b o e =>
 ⟨I.base.keep b o (I.ok.bs b o e).1 (I.ok.bs b o e).2 (I.ok.nofr e) (I.ok.noex b o e),I.base.free b o (I.ok.bs b o e).1 (I.ok.bs b o e).2 (I.ok.noex b o e)⟩
theorem aW.bk (I:aW X pins σ H s):∀ b o,X.base.get? b=some o->s.heap.get? b=some o:=fun b o e=>(I.bs b o e).1
theorem aW.mod (I:aW X pins σ H s):Mod X.K X.mg X.base:=I.ok.mod
theorem aW.kIn (I:aW X pins σ H s):X.K.In s.heap:=I.ok.mod.kin.keeps I.bk
theorem aW.nolimit (I:aW X pins σ H s):s.heap.NoLimit:=I.ok.mod.nolimit.keeps I.bk
theorem aW.lt (I:aW X pins σ H s):X.env.locals<s.heap.objs.size:=let ⟨_,hn,_⟩:=I.loc; hn.lt
theorem aW.sz (I:aW X pins σ H s):X.s₀.heap.objs.size<=s.heap.objs.size:=aFJ I.ok.above (aGm I.lt)
theorem aW.nofs (I:aW X pins σ H s){a:Addr}(h:s.heap.objs.size<=a):a∉X.fs:=fun hb=>by
 obtain ⟨_,o,ho,_⟩:=I.ok.funs.mem hb;exact absurd (aF5 (aFQ ho) (aFJ I.sz h)) (aGI _)
theorem aW.cne (I:aW X pins σ H s):∀ x c,X.env.cells.lookup x=some c->c≠X.env.locals:=fun x c e z=>by
 obtain ⟨v,o,ho,hd⟩:=I.cell x c e;obtain ⟨m,⟨o',es,ep,ho',hd',_⟩,_⟩:=I.loc;rw [z,ho'] at ho; cases ho; rw [hd'] at hd; cases hd
theorem aW.funs (I:aW X pins σ H s):s.heap.FunFrames X.base X.outer:=by
 have all:∀ (l:List Env),(∀ b∈qZ l,b∈X.fs)->X.s₀.heap.FunFrames X.base l->s.heap.FunFrames X.base l:=by
  intro l
  induction l with
  | nil=>intro _ _; trivial
  | cons env r ih =>
   intro hs hl;obtain ⟨hk,⟨L,o,hf,hn,ho,hd⟩,hr⟩:=hl;have hL:L∈X.fs:=hs L (by unfold qZ; rw [aG2,hf]; exact aFI);obtain ⟨sl,e⟩:=I.base.slot L o ho (I.ok.frf L hL) hL fun z=>I.ok.exfs L z hL;exact ⟨hk,⟨L,_,hf,hn,e,hd⟩,ih (fun b hb=>hs b (by unfold qZ; rw [aG2,hf]; exact aFG _ hb)) hr⟩
 exact all X.outer (fun _ hb=>hb) I.ok.funs
theorem aW.stack (I:aW X pins σ H s):s.heap.FunFrames X.base X.stack:=by
 rcases I.ok.stk with e | ⟨e,hf⟩
 ·rw [e]; exact I.funs
 ·rw [e];obtain ⟨m,hn,_⟩:=I.loc;refine .cons (by rw [I.ok.kind]; decide) hf hn ?_ I.funs;exact Heap.get?_none_of_le (aFJ I.ok.bsz I.ok.above)
theorem aW.stkSub (I:aW X pins σ H s):∀ b∈qZ X.stack,b∈X.env.locals::X.fs:=fun b hb=>by
 rcases I.ok.stk with e | ⟨e,hf⟩
 ·rw [e] at hb; exact aFG _ hb
 ·rw [e] at hb;unfold qZ at hb;rw [aG2,hf] at hb;exact hb
theorem aW.stkFree (I:aW X pins σ H s):∀ b∈qZ X.stack,H b=none:=fun b hb=>by
 rcases aF7.mp (I.stkSub b hb) with e | hb
 ·rw [e]; exact I.free
 ·obtain ⟨_,o,ho,_⟩:=I.ok.funs.mem hb;exact I.base.free b o ho (I.ok.frf b hb) fun z=>I.ok.exfs b z hb
theorem aW.step {g':Array GenState}{t':Nat}{d':Drawn}{ch:List Addr}(I:aW X pins σ H s)
  (hch:∀ b∈ch,(b∈X.ex∨X.s₀.heap.objs.size<=b)/\b≠X.env.locals/\(∀ x c,X.env.cells.lookup x=some c->c≠b)/\∀ p∈X.pn++pins,p.1≠b)
  (keep:∀ b o,b≠X.env.locals->b∉X.fs->b∉ch->s.heap.get? b=some o->H b=none->h'.get? b=some o)
  (slot:∀ b o,b≠X.env.locals->b∈X.fs->b∉ch->s.heap.get? b=some o->H b=none->∃ sl,h'.get? b=some { o with slots:=sl }) (free:∀ b o,b∉ch->s.heap.get? b=some o->H b=none->H' b=none)
  (there:∀ b o,b∉ch->s.heap.get? b=some o->∃ o',h'.get? b=some o')
  (tups:∀ b xs,H b=some (.tup xs)->H' b=some (.tup xs)) (frzs:∀ b o u,H b=some (.frz o u)->H' b=some (.frz o u)) (tbls:∀ b ps,H b=some (.tbl ps)->∃ more,H' b=some (.tbl (ps++more)))
  (ns:∀ m,s.heap.Ns X.env.locals m->h'.Ns X.env.locals m) (hok:mC X.prog X.w H' h') (hg:AllBare g') :
  aW X pins σ H' { s with heap:=h',gens:=g',drawn:=d',toks:=t' }:=by
 have neL:∀ b o,X.s₀.heap.get? b=some o->b≠X.env.locals:=fun b o e=>aF6 (aF5 (aFQ e) I.ok.above);have neC:∀ b o,X.s₀.heap.get? b=some o->b∉X.ex->b∉ch:=fun b o e hx hb=>by
  rcases (hch b hb).1 with z | z
  ·exact hx z
  ·exact absurd (aF5 (aFQ e) z) (aGI _)
 have cellK:∀ x c,X.env.cells.lookup x=some c->∀ v,s.heap.IsCell c v->h'.IsCell c v:=fun x c e v ⟨o,ho,hd⟩=>by
  have nch:c∉ch:=fun z=>(hch c z).2.2.1 x c e rfl
  by_cases hc:c∈X.fs
  ·obtain ⟨sl,q⟩:=slot c o (I.cne x c e) hc nch ho (I.freeC x c e);exact ⟨_,q,hd⟩
  ·exact ⟨o,keep c o (I.cne x c e) hc nch ho (I.freeC x c e),hd⟩
 refine ⟨I.ok,I.os,hg,⟨fun b o e n hb hx=>?_,fun b o e n hb hx=>?_,fun b o e n hx=>?_,fun b o e hx=>?_,fun b xs e=>tups b xs (I.base.tups b xs e),fun b o xs e=>frzs b o xs (I.base.frzs b o xs e),fun b ps e=>?_⟩,?_,fun x c e=>?_,?_,fun x c e=>?_,fun p hp=>?_,hok,I.len⟩
 ·exact keep b o (neL b o e) hb (neC b o e hx) (I.base.keep b o e n hb hx) (I.base.free b o e n hx)
 ·obtain ⟨sl,e1⟩:=I.base.slot b o e n hb hx;obtain ⟨sl',e2⟩:=slot b _ (neL b o e) hb (neC b o e hx) e1 (I.base.free b o e n hx);exact ⟨sl',e2⟩
 ·obtain ⟨o',e1⟩:=I.base.there b o e hx;exact free b o' (neC b o e hx) e1 (I.base.free b o e n hx)
 ·obtain ⟨o',e1⟩:=I.base.there b o e hx;exact there b o' (neC b o e hx) e1
 ·obtain ⟨m1,e1⟩:=I.base.tbls b ps e;obtain ⟨m2,e2⟩:=tbls b _ e1;exact ⟨m1++m2,by rw [e2,aH0]⟩
 ·obtain ⟨m,hn,hl⟩:=I.loc;refine ⟨m,ns m hn,fun i x v e1 e2 e3=>?_⟩;obtain ⟨u,r,l⟩:=hl i x v e1 e2 e3;refine ⟨u,r,?_⟩;rcases l with l | ⟨k,c,e,z⟩
  ·exact .inl l
  ·exact .inr ⟨k,c,e,cellK x c e _ z⟩
 ·obtain ⟨v,z⟩:=I.cell x c e;exact ⟨v,cellK x c e v z⟩
 ·obtain ⟨m,⟨o,_,_,ho,_⟩,_⟩:=I.loc;exact free _ o (fun z=>(hch _ z).2.1 rfl) ho I.free
 ·obtain ⟨v,o,ho,hd⟩:=I.cell x c e;exact free c o (fun z=>(hch c z).2.2.1 x c e rfl) ho (I.freeC x c e)
 ·obtain ⟨e,n,ne,nf,d⟩:=I.pin p hp;have nch:p.1∉ch:=fun z=>(hch p.1 z).2.2.2 p hp rfl;exact ⟨keep p.1 p.2 ne nf nch e n,free p.1 p.2 nch e n,ne,nf,d⟩
theorem aW.un {t':Nat}(I:aW X pins σ H s)(u:Un X.fs [] H H' s.heap h')(hok:mC X.prog X.w H' h'):aW X pins σ H' { s with heap:=h',toks:=t' }:=by
 obtain ⟨m,⟨o,es,ep,ho,r⟩,_⟩:=id I.loc;obtain ⟨sl,hL⟩:=u.any ho I.free (by simp);exact I.step (g':=s.gens) (d':=s.drawn) (ch:=[]) (fun _ z=>nomatch z) (fun b o _ hb _ e n=>u.keep b o e n hb (by simp)) (fun b o _ hb _ e n=>u.slot b o e n hb (by simp)) (fun b o _ e n=>u.free b o e n (by simp)) (fun b o _ e=>u.there b o e (by simp)) u.tups u.frzs u.tbls (fun m' hm=>by
  obtain ⟨o',es',ep',ho',r'⟩:=hm;rw [ho] at ho'; cases ho';exact ⟨_,es',ep',hL,r'⟩) hok I.bare
theorem aW.call {g':Array GenState}{t':Nat}{d':Drawn}{ch:List Addr}(I:aW X pins σ H s)(u:Un (qZ X.stack) ch H H' s.heap h')(hok:mC X.prog X.w H' h')(hg:AllBare g')
  (hch:∀ b∈ch,(b∈X.ex∨X.s₀.heap.objs.size<=b)/\b≠X.env.locals/\(∀ x c,X.env.cells.lookup x=some c->c≠b)/\∀ p∈X.pn++pins,p.1≠b) :
  aW X pins σ H' { s with heap:=h',gens:=g',drawn:=d',toks:=t' }:=by
 obtain ⟨m,⟨o,es,ep,ho,r⟩,_⟩:=id I.loc;obtain ⟨sl,hL⟩:=u.any ho I.free fun z=>(hch _ z).2.1 rfl;exact I.step (ch:=ch) hch (fun b o hL hb hc e n=>u.keep b o e n (fun z=>(aF7.mp (I.stkSub b z)).elim hL hb) hc) (fun b o _ _ hc e n=>u.any e n hc) (fun b o hc e n=>u.free b o e n hc) (fun b o hc e=>u.there b o e hc) u.tups u.frzs u.tbls (fun m' hm=>by
  obtain ⟨o',es',ep',ho',r'⟩:=hm;rw [ho] at ho'; cases ho';exact ⟨_,es',ep',hL,r'⟩) hok hg
theorem aW.turned {t':Nat}{it:Addr}(I:aW X pins σ H s)(k:∀ b o,b≠it->s.heap.get? b=some o->h'.get? b=some o)(hn:H it=none)(hL:it≠X.env.locals)
  (h1:it∈X.ex∨X.s₀.heap.objs.size<=it) (h2:∀ x c,X.env.cells.lookup x=some c->c≠it) (h3:∀ p∈X.pn++pins,p.1≠it):aW X pins σ H { s with heap:=h',toks:=t' }:=by
 have nit:∀ b u,H b=some u->b≠it:=fun b u e z=>by rw [z,hn] at e; cases e
 refine I.step (g':=s.gens) (d':=s.drawn) (ch:=[it]) (fun b hb=>?_) (fun b o _ _ hc e _=>k b o (fun z=>hc (by simp [z])) e) (fun b o _ _ hc e _=>⟨o.slots,k b o (fun z=>hc (by simp [z])) e⟩) (fun _ _ _ _ n=>n)
  (fun b o hc e=>⟨o,k b o (fun z=>hc (by simp [z])) e⟩) (fun _ _ e=>e) (fun _ _ _ e=>e) (fun b ps e=>⟨#[],by rw [e]; simp⟩) (fun m hm=>?_) (fun b u e=>?_) I.bare
 ·have e:b=it:=by simpa using hb
  subst e;exact ⟨h1,hL,h2,h3⟩
 ·obtain ⟨o,es,ep,ho,r⟩:=hm;exact ⟨o,es,ep,k _ o (Ne.symm hL) ho,r⟩
 ·refine (I.hok b u e).stay (fun c v hc q=>k c v ?_ q) (fun _ q=>q) fun _ _ q=>q;rcases hc with z | z
  ·rw [z]; exact nit b u e
  ·exact nit c _ z
theorem aW.tok (I:aW X pins σ H s)(t:Nat):aW X pins σ H { s with toks:=t }:=I.un (h':=s.heap) (t':=t) Un.refl I.hok
theorem aW.kept {t':Nat}(I:aW X pins σ H s)(k:∀ b u,s.heap.get? b=some u->h'.get? b=some u):aW X pins σ H { s with heap:=h',toks:=t' }:=I.un (Un.kept k) (I.hok.kept k)
theorem aW.laid {a:Addr}{o:HO}{t':Nat}(I:aW X pins σ H s)(k:∀ b u,s.heap.get? b=some u->h'.get? b=some u)(hp:s.heap.objs.size<=a)(new:b7 X.prog X.w (bG H a o) h' a o) :
  aW X pins σ (bG H a o) { s with heap:=h',toks:=t' }:=I.un (Un.laid k hp (I.hok.fresh hp)) (I.hok.laid k hp new)
theorem aW.write {x e:Addr}{o:HO}{t':Nat}(I:aW X pins σ H s)(mu:QD (H x))(he:e=x∨H e=some (.own x))(k:∀ b u,b≠e->s.heap.get? b=some u->h'.get? b=some u)(heo:∃ u,h'.get? e=some u)
  (new:b7 X.prog X.w (bG H x o) h' x o):aW X pins σ (bG H x o) { s with heap:=h',toks:=t' }:=I.un (Un.write mu he k heo) (I.hok.write mu he k heo new)
theorem aW.pins_of {pins':List (Addr×Obj)}(I:aW X pins σ H s)(h:∀ p∈pins',s.heap.get? p.1=some p.2/\H p.1=none/\p.1≠X.env.locals/\p.1∉X.fs/\∀ v,p.2.data≠.cell v):aW X pins' σ H s :=
 ⟨I.ok,I.os,I.bare,I.base,I.loc,I.cell,I.free,I.freeC,fun p hp=>(aF4.mp hp).elim (fun z=>I.pin p (aGw _ z)) (h p),I.hok,I.len⟩
theorem BV {N:List Str}(hN:N.Nodup){i j:Nat}{x:Str}(a:N[i]? = some x)(b:N[j]? = some x):i=j:=by
 obtain ⟨h1,e1⟩:=aFO.mp a;obtain ⟨h2,e2⟩:=aFO.mp b;exact (List.getElem_inj hN).mp (e1.trans e2.symm)
theorem vX {M:Model}{A:Around}{E:Value->Shared->Prop}{i:Nat}{x:Str}{v:V}{u:Value}{Q:Unit->Shared->Prop}(I:aW X pins σ H s)(hN:X.N.Nodup)(hi:X.N[i]? = some x)(hx:Loc X.env.scope x)(r:RelV v u)
  (h:∀ s',aW X pins (σ.set i (some v)) H s'->(∃ a,aGi a s.heap s'.heap/\(a=X.env.locals∨X.env.cells.lookup x=some a))->Q () s') (hf:X.fn x=true∨X.env.scope.names.lookup x=some .local:=by first | exact .inl rfl | exact .inr rfl | assumption):wpAny M A (storeName X.env x u) Q E s:=by
 obtain ⟨m,hn,hl⟩:=id I.loc;have hcls:(X.env.scope.kind==.class||(X.env.scope.kind==.module&&X.env.locals != X.env.globals))=false:=by rw [I.ok.kind]; rfl
 have hiσ:i < σ.length:=by rw [I.len]; exact (aFO.mp hi).1
 have cne:=I.cne;have tracked:∀ {a:Addr}{h':Heap},(∃ o,s.heap.get? a=some o/\H a=none)->aGi a s.heap h'->mC X.prog X.w H h':=fun {a h'} ha hs b ob e=>by
  obtain ⟨_,_,hfree⟩:=ha;refine (I.hok b ob e).stay (fun c w' hc q=>(hs.2 c ?_).trans q) (fun _ q=>q) fun _ _ q=>q;rintro rfl;rcases hc with rfl | hc
  ·rw [hfree] at e; cases e
  ·rw [hfree] at hc; cases hc
 rcases hx with hk | hk
 ·refine wpAny_storeName_local hk hn (fun h' hn' hs=>?_) hcls;obtain ⟨oL,_,_,hoL,_⟩:=id hn;refine h _ ⟨I.ok,I.os,I.bare,⟨fun b o e n hb hx=>?_,fun b o e n hb hx=>?_,I.base.free,fun b o e hx=>?_,I.base.tups,I.base.frzs,I.base.tbls⟩,⟨_,hn',fun j y v' e1 e2 e3=>?_⟩,fun y c e=>?_,I.free,I.freeC,fun p hp=>?_,tracked ⟨oL,hoL,I.free⟩ hs,by simpa using I.len⟩ ⟨_,hs,.inl rfl⟩
  ·exact (hs.2 b (aF6 (aF5 (aFQ e) I.ok.above))).trans (I.base.keep b o e n hb hx)
  ·obtain ⟨sl,e1⟩:=I.base.slot b o e n hb hx;exact ⟨sl,(hs.2 b (aF6 (aF5 (aFQ e) I.ok.above))).trans e1⟩
  ·obtain ⟨o',e1⟩:=I.base.there b o e hx;exact ⟨o',(hs.2 b (aF6 (aF5 (aFQ e) I.ok.above))).trans e1⟩
  ·by_cases hj:j=i
   ·subst hj;rw [hi] at e1; cases e1;rw [aHE hiσ] at e2;cases e2;exact ⟨u,r,.inl ⟨hk,by simp⟩⟩
   ·rw [aHS (Ne.symm hj)] at e2;obtain ⟨u',r',q⟩:=hl j y v' e1 e2 e3;refine ⟨u',r',?_⟩;rcases q with ⟨k,e⟩ | ⟨k,c,e,z⟩
    ·refine .inl ⟨k,?_⟩;have:y≠x:=fun e=>hj (BV hN e1 (e ▸ hi));simp [this,e]
    ·exact .inr ⟨k,c,e,z.sameBut hs (cne y c e)⟩
  ·obtain ⟨w',z⟩:=I.cell y c e;exact ⟨w',z.sameBut hs (cne y c e)⟩
  ·obtain ⟨e,n,ne,nf,d⟩:=I.pin p hp;exact ⟨(hs.2 p.1 ne).trans e,n,ne,nf,d⟩
 ·have hfn:X.fn x=true:=by
   rcases hf with z | z
   ·exact z
   ·rw [z] at hk; cases hk
  obtain ⟨c,hc⟩:=I.ok.has x (.inl hk);obtain ⟨w',z⟩:=I.cell x c hc;refine wpAny_storeName_cell I.ok.kind hk hc z (fun h' hc' hs=>?_);obtain ⟨oc,hoc,hocd⟩:=id z;refine h { s with heap:=h' } ⟨I.ok,I.os,I.bare,⟨fun b o e n hb hx=>?_,fun b o e n hb hx=>?_,I.base.free,fun b o e hx=>?_,I.base.tups,I.base.frzs,I.base.tbls⟩,⟨m,hn.sameBut hs (Ne.symm (cne x c hc)),fun j y v' e1 e2 e3=>?_⟩,fun y c' e=>?_,I.free,I.freeC,fun p hp=>?_,tracked ⟨oc,hoc,I.freeC x c hc⟩ hs,by simpa using I.len⟩ ⟨c,hs,.inr hc⟩
  ·exact (hs.2 b (aF6 (aF5 (aFQ e) (I.ok.cab x c hfn hc)))).trans (I.base.keep b o e n hb hx)
  ·obtain ⟨sl,e1⟩:=I.base.slot b o e n hb hx;exact ⟨sl,(hs.2 b (aF6 (aF5 (aFQ e) (I.ok.cab x c hfn hc)))).trans e1⟩
  ·obtain ⟨o',e1⟩:=I.base.there b o e hx;exact ⟨o',(hs.2 b (aF6 (aF5 (aFQ e) (I.ok.cab x c hfn hc)))).trans e1⟩
  ·by_cases hj:j=i
   ·subst hj;rw [hi] at e1; cases e1;rw [aHE hiσ] at e2;cases e2;exact ⟨u,r,.inr ⟨.inl hk,c,hc,hc'⟩⟩
   ·rw [aHS (Ne.symm hj)] at e2;obtain ⟨u',r',q⟩:=hl j y v' e1 e2 e3;refine ⟨u',r',?_⟩;rcases q with q | ⟨k,c',e,z'⟩
    ·exact .inl q
    ·refine .inr ⟨k,c',e,z'.sameBut hs ?_⟩;rintro rfl;exact hj (BV hN e1 (I.ok.inj _ _ _ e hc ▸ hi))
  ·by_cases hcc:c'=c
   ·subst hcc; exact ⟨_,hc'⟩
   ·obtain ⟨w2,z2⟩:=I.cell y c' e;exact ⟨w2,z2.sameBut hs hcc⟩
  ·obtain ⟨e,n,ne,nf,d⟩:=I.pin p hp;refine ⟨(hs.2 p.1 ?_).trans e,n,ne,nf,d⟩;intro q;rw [q,hoc] at e;have q':oc=p.2:=aGH.inj e;exact d w' (by rw [<- q']; exact hocd)
theorem o8 {M:Model}{A:Around}{E:Value->Shared->Prop}{i:Nat}{x:Str}{v:V}{u:Value}{Q:Unit->Shared->Prop}(I:aW X pins σ H s)(hN:X.N.Nodup)(hi:X.N[i]? = some x)(hx:Loc X.env.scope x)(r:RelV v u)
  (h:∀ s',aW X pins (σ.set i (some v)) H s'->Q () s') (hf:X.fn x=true∨X.env.scope.names.lookup x=some .local:=by first | exact .inl rfl | exact .inr rfl | assumption):wpAny M A (storeName X.env x u) Q E s :=
 vX I hN hi hx r (fun s' I' _=>h s' I') hf
theorem aW.call' {s':Shared}{ch:List Addr}(I:aW X pins σ H s)(ho:s'.os=s.os)(u:Un (qZ X.stack) ch H H' s.heap s'.heap)(hok:mC X.prog X.w H' s'.heap)(hg:AllBare s'.gens)
  (hch:∀ b∈ch,(b∈X.ex∨X.s₀.heap.objs.size<=b)/\b≠X.env.locals/\(∀ x c,X.env.cells.lookup x=some c->c≠b)/\∀ p∈X.pn++pins,p.1≠b):aW X pins σ H' s':=by
 obtain ⟨h',g',d',t',o'⟩:=s';have e:o'=s.os:=ho;subst e;exact I.call (g':=g') (t':=t') (d':=d') u hok hg hch
end
abbrev XK:=Value->Option Addr->Hp->Prop
abbrev St:=List (Option V)
abbrev VK:=V->Hp->Prop
abbrev TE:=St->Hp->VK->Prop
abbrev TT:=St->Hp->(Bool->Hp->Prop)->Prop
abbrev TA:=St->Hp->(List V->Hp->Prop)->Prop
structure Ends where
 nx:St->Hp->Prop
 rt:VK
 bk:St->Hp->Prop:=fun _ _=>False
 ct:St->Hp->Prop:=fun _ _=>False
abbrev TS:=Ends->St->Hp->Prop
def EP (X:Cx)(pins:List (Addr×Obj))(σ:St)(Q:VK)(u:Value)(s':Shared):Prop:=∃ v H',aW X pins σ H' s'/\RelV v u/\Q v H'
def TP (X:Cx)(pins:List (Addr×Obj))(σ:St)(Q:Bool->Hp->Prop)(b:Bool)(s':Shared):Prop:=∃ H',aW X pins σ H' s'/\Q b H'
def AP (X:Cx)(pins:List (Addr×Obj))(σ:St)(Q:List V->Hp->Prop)(us:List Value)(s':Shared):Prop:=∃ vs H',aW X pins σ H' s'/\bZ vs us/\Q vs H'
def SP (X:Cx)(pins:List (Addr×Obj))(D:Ends)(f:Flow)(s':Shared):Prop :=
 match f with
 | .next=>∃ σ' H',aW X pins σ' H' s'/\D.nx σ' H'
 | .brk=>∃ σ' H',aW X pins σ' H' s'/\D.bk σ' H'
 | .cont=>∃ σ' H',aW X pins σ' H' s'/\D.ct σ' H'
 | .ret u=>∃ v σ' H',aW X pins σ' H' s'/\RelV v u/\D.rt v H'
def PE (X:Cx)(e:Expr)(t:TE):Prop :=
 ∀ (pins:List (Addr×Obj)) (s:Shared) (σ:St) (H:Hp) (Q:VK),aW X pins σ H s->t σ H Q->wpAny (model X.prog X.w) X.A (eval e X.env) (EP X pins σ Q) X.xe s
def PT (X:Cx)(e:Expr)(t:TT):Prop :=
 ∀ (pins:List (Addr×Obj)) (s:Shared) (σ:St) (H:Hp) (Q:Bool->Hp->Prop),aW X pins σ H s->t σ H Q->wpAny (model X.prog X.w) X.A (isTrue e X.env (eval e X.env)) (TP X pins σ Q) X.xe s
def PW (X:Cx)(e:Expr)(t:TT):Prop :=
 ∀ (whole:Sem Value) (pins:List (Addr×Obj)) (s:Shared) (σ:St) (H:Hp) (Q:Bool->Hp->Prop),aW X pins σ H s->t σ H Q->wpAny (model X.prog X.w) X.A (isTrue e X.env whole) (TP X pins σ Q) X.xe s
theorem PW.pt {X:Cx}{e:Expr}{t:TT}(h:PW X e t):PT X e t:=h _
def PA (X:Cx)(es:List Expr)(t:TA):Prop :=
 ∀ (pos:Pos) (pins:List (Addr×Obj)) (s:Shared) (σ:St) (H:Hp) (Q:List V->Hp->Prop),aW X pins σ H s->t σ H Q->wpAny (model X.prog X.w) X.A (spliced (backTo pos (starEach es X.env))) (AP X pins σ Q) X.xe s
def PS (X:Cx)(st:Stmt)(t:TS):Prop :=
 ∀ (pins:List (Addr×Obj)) (s:Shared) (σ:St) (H:Hp) (D:Ends),aW X pins σ H s->t D σ H->wpAny (model X.prog X.w) X.A (exec st X.env) (SP X pins D) X.xe s
def xD (X:Cx)(st:List Stmt)(t:TS):Prop :=
 ∀ (pins:List (Addr×Obj)) (s:Shared) (σ:St) (H:Hp) (D:Ends),aW X pins σ H s->t D σ H->wpAny (model X.prog X.w) X.A (execs st X.env) (SP X pins D) X.xe s
theorem dD {α:Type}{t:Sem α}{Q Q':α->Shared->Prop}{M:Model}{A:Around}{E:Value->Shared->Prop}{s:Shared}(h:wpAny M A t Q E s)(hQ:∀ a s,Q a s->Q' a s):wpAny M A t Q' E s:=wpAny_mono h hQ fun _ _ x=>x
section
variable {X:Cx}
theorem bin {a b:Expr}{ta tb:TE}(ha:PE X a ta)(hb:PE X b tb){pins:List (Addr×Obj)}{s:Shared}{σ:St}{H:Hp}{R:V->V->Hp->Prop}(I:aW X pins σ H s)(h:ta σ H fun x H1=>tb σ H1 fun y H2=>R x y H2)
  {α:Type}{Q:α->Shared->Prop}{f:Value->Value->Sem α}
  (hf:∀ v u s2 x y H2,aW X pins σ H2 s2->RelV x v->RelV y u->R x y H2->wpAny (model X.prog X.w) X.A (f v u) Q X.xe s2) :
  wpAny (model X.prog X.w) X.A (eval a X.env) (fun v s₁=>wpAny (model X.prog X.w) X.A (eval b X.env) (fun u s₂=>wpAny (model X.prog X.w) X.A (f v u) Q X.xe s₂) X.xe s₁) X.xe s:=by
 refine dD (ha pins s σ H _ I h) fun v s1 ⟨x,H1,I1,r1,q1⟩=>?_;refine dD (hb pins s1 σ H1 _ I1 q1) fun u s2 ⟨y,H2,I2,r2,q2⟩=>?_;exact hf v u s2 x y H2 I2 r1 r2 q2
def uE (i:Nat):TE:=fun σ H Q=>∃ v,σ[i]? = some (some v)/\Q v H
def tC (v:V):TE:=fun _ H Q=>Q v H
theorem HQ {i:Nat}{x:Str}{pos:Pos}(hN:X.N[i]? = some x)(hv:W7 X.env.scope x)(hd:(x==("__debug__" : Str))=false:=by decide)(hcd:(x==("__classdict__" : Str))=false:=by decide):PE X (.Name x pos) (uE i):=by
 intro pins s σ H Q I h;obtain ⟨v,e,h⟩:=h;obtain ⟨m,hn,hl⟩:=I.loc;obtain ⟨u,r,l⟩:=hl i x v hN e hv;have fin:EP X pins σ Q u s:=⟨v,H,I,r,h⟩
 rcases l with ⟨hk,hm⟩ | ⟨hk,c,hc,hcell⟩
 ·exact wpAny_Name (wpAny_loadName_local I.ok.kind hk hn hm fin) hd
 ·rcases hk with hk | hk
  ·exact wpAny_Name (wpAny_loadName_cell I.ok.kind hk hc hcell fin) hd
  ·exact wpAny_Name (wpAny_loadName_free I.ok.kind hk hc hcell fin hcd) hd
theorem aD {i j pos}:PE X (.Constant (.int i) j pos) (tC (.int i)):=fun _ _ _ H _ I h=>wpAny_Constant_int ⟨.int i,H,I.tok _,⟨_,rfl⟩,h⟩
theorem kW {b j pos}:PE X (.Constant (.bool b) j pos) (tC (.bl b)):=fun _ _ _ H _ I h=>Constant_bool ⟨.bl b,H,I,rfl,h⟩
theorem O5 {j pos}:PE X (.Constant .none j pos) (tC .non):=fun _ _ _ H _ I h=>Constant_none ⟨.non,H,I,rfl,h⟩
theorem aU {x j pos}:PE X (.Constant (.str x) j pos) (tC (.str x)):=fun _ _ _ H _ I h=>Calls.Constant_str ⟨.str x,H,I.tok _,⟨_,rfl⟩,h⟩
def Gl (X:Cx)(x:Str):Prop:=X.env.kindOf x=some .globalImplicit
theorem mG {E:Value->Shared->Prop}{pins:List (Addr×Obj)}{s:Shared}{σ:St}{H:Hp}{x:Str}{u:Value}{pos:Pos}{Q:Value->Shared->Prop}(I:aW X pins σ H s)(hg:Gl X x)(hm:X.mg x=some u)(h:Q u s)
  (hd:(x==("__debug__" : Str))=false:=by decide):wpAny (model X.prog X.w) X.A (eval (.Name x pos) X.env) Q E s :=
 Calls.Name_function_global I.ok.kind hg (Calls.loadGlobal_global (by rw [I.ok.glob]; exact I.mod.glob.keeps I.bk) hm h) hd
theorem lQ {E:Value->Shared->Prop}{pins:List (Addr×Obj)}{s:Shared}{σ:St}{H:Hp}{x:Str}{u:Value}{pos:Pos}{Q:Value->Shared->Prop}(I:aW X pins σ H s)(hg:Gl X x)(hm:X.mg x=none)(hv:bootBuiltins x=some u)(h:Q u s)
  (hn:x≠"__name__":=by decide) (hd:(x==("__debug__" : Str))=false:=by decide):wpAny (model X.prog X.w) X.A (eval (.Name x pos) X.env) Q E s:=by
 obtain ⟨mb,h1,h2⟩:=I.mod.blt;exact Calls.Name_function_global I.ok.kind hg (Calls.loadGlobal_builtin (by rw [I.ok.glob]; exact I.mod.glob.keeps I.bk) hm (by rw [I.ok.blt]; exact h1.keeps I.bk) ((h2 x hn).trans hv) h) hd
theorem cY {x:Str}{v:V}{u:Value}{pos:Pos}(hg:Gl X x)(hm:X.mg x=some u)(r:RelV v u)(hd:(x==("__debug__" : Str))=false:=by decide):PE X (.Name x pos) (tC v) :=
 fun _ _ _ H _ I h=>mG I hg hm ⟨v,H,I,r,h⟩ hd
theorem fX {x:Str}{v:V}{u:Value}{pos:Pos}(hg:Gl X x)(hm:X.mg x=none)(hv:bootBuiltins x=some u)(r:RelV v u)(hn:x≠"__name__":=by decide)(hd:(x==("__debug__" : Str))=false:=by decide):PE X (.Name x pos) (tC v) :=
 fun _ _ _ H _ I h=>lQ I hg hm hv ⟨v,H,I,r,h⟩ hn hd
variable {a b:Expr}{ta tb:TE}{pos:Pos}
def PC (X:Cx)(op:CmpOp)(a b:Expr)(t:TE):Prop :=
 ∀ (pins:List (Addr×Obj)) (s:Shared) (σ:St) (H:Hp) (Q:VK),aW X pins σ H s->t σ H Q ->
  wpAny (model X.prog X.w) X.A (eval a X.env) (fun v s₁=>wpAny (model X.prog X.w) X.A (eval b X.env) (fun u s₂=>wpAny (model X.prog X.w) X.A (compareOp op v u) (EP X pins σ Q) X.xe s₂) X.xe s₁) X.xe s
theorem Hj (b:Expr){op:CmpOp}(h:op≠.In)(h2:op≠.NotIn):behindInMarks op b=false:=by
 have e1:(op==CmpOp.In)=false:=by cases op <;> first | rfl | exact absurd rfl h
 have e2:(op==CmpOp.NotIn)=false:=by cases op <;> first | rfl | exact absurd rfl h2
 cases b <;> simp [behindInMarks,e1,e2]
def tB (t:TE):TT:=fun σ H Q=>t σ H fun x H1=>∃ c,x=.bl c/\Q c H1
theorem Zb {op:CmpOp}{t:TE}(h:PC X op a b t)(h1:behindInMarks op b=false:=by first | exact Hj _ (by decide) (by decide) | rfl):PT X (.Compare a [op] [b] pos) (tB t):=by
 intro pins s σ H Q I hw;refine wpAny_isTrue_Compare1 (dD (h pins s σ H _ I hw) fun v s1 h1=>dD h1 fun u s2 h2=>dD h2 fun c s3 ⟨x,H1,I1,r1,q1⟩=>?_) h1;obtain ⟨d,rfl,q⟩:=q1;cases r1;exact wpAny_truthy_bool ⟨H1,I1,q⟩
theorem dC {e:Expr}{t:TE}(h:PE X e t)(he:∀ whole,isTrue e X.env whole=(do let v <- whole; standAt e.pos; holding [v] (truthy v)):=by intro _; rfl):PT X e (tB t):=by
 intro pins s σ H Q I hw;refine isTrue_plain (dD (h pins s σ H _ I hw) fun v s1 ⟨x,H1,I1,r1,q1⟩=>?_) (he _);obtain ⟨d,rfl,q⟩:=q1;cases r1;exact wpAny_truthy_bool ⟨H1,I1,q⟩
variable {tA tB':TT}{rest:List Expr}
def Yx (t u:TT):TT:=fun σ H Q=>t σ H fun c H1=>if c=true then u σ H1 Q else Q false H1
def tOr (t u:TT):TT:=fun σ H Q=>t σ H fun c H1=>if c=true then Q true H1 else u σ H1 Q
def Wj (t:TT):TT:=fun σ H Q=>t σ H fun c H1=>Q (!c) H1
theorem xE (ha:PT X a tA):PW X (.BoolOp .And [a] pos) tA:=by
 intro wh pins s σ H Q I h;refine isTrue_and (dD (ha pins s σ H Q I h) fun c s1 e=>?_);cases c with
 | true=>exact isTrue_and_nil e
 | false=>exact e
theorem gK (ha:PT X a tA):PW X (.BoolOp .Or [a] pos) tA:=by
 intro wh pins s σ H Q I h;refine isTrue_or (dD (ha pins s σ H Q I h) fun c s1 e=>?_);cases c with
 | false=>exact isTrue_or_nil e
 | true=>exact e
theorem Cr (ha:PT X a tA)(hb:PW X (.BoolOp .And (b::rest) pos) tB'):PW X (.BoolOp .And (a::b::rest) pos) (Yx tA tB'):=by
 intro wh pins s σ H Q I h;refine isTrue_and (dD (ha pins s σ H _ I h) fun c s1 ⟨H1,I1,q1⟩=>?_);cases c with
 | true=>exact hb wh pins s1 σ H1 Q I1 q1
 | false=>exact ⟨H1,I1,q1⟩
theorem jM (ha:PT X a tA)(hb:PW X (.BoolOp .Or (b::rest) pos) tB'):PW X (.BoolOp .Or (a::b::rest) pos) (tOr tA tB'):=by
 intro wh pins s σ H Q I h;refine isTrue_or (dD (ha pins s σ H _ I h) fun c s1 ⟨H1,I1,q1⟩=>?_);cases c with
 | true=>exact ⟨H1,I1,q1⟩
 | false=>exact hb wh pins s1 σ H1 Q I1 q1
theorem d9 (ha:PT X a tA):PT X (.UnaryOp .Not a pos) (Wj tA):=by
 intro pins s σ H Q I h;exact isTrue_not (ha pins s σ H (fun c H1=>Q (!c) H1) I h)
def QL (ta tb:TE):TE:=fun σ H Q=>ta σ H fun x H1=>∃ c,x=.bl c/\if c=true then tb σ H1 Q else Q (.bl false) H1
def Zm (ta tb:TE):TE:=fun σ H Q=>ta σ H fun x H1=>∃ c,x=.bl c/\if c=true then Q (.bl true) H1 else tb σ H1 Q
def QM (ta:TE):TE:=fun σ H Q=>ta σ H fun x H1=>∃ c,x=.bl c/\Q (.bl (!c)) H1
theorem pJ {op}{t:TE}(h:PE X a t):PE X (.BoolOp op [a] pos) t:=fun pins s σ H Q I hw=>BoolOp_one (h pins s σ H Q I hw)
theorem pM (ha:PE X a ta)(hb:PE X (.BoolOp .And (b::rest) pos) tb):PE X (.BoolOp .And (a::b::rest) pos) (QL ta tb):=by
 intro pins s σ H Q I h;refine BoolOp_and (dD (ha pins s σ H _ I h) fun v s1 ⟨x,H1,I1,r1,q1⟩=>?_);obtain ⟨c,rfl,q1⟩:=q1;cases r1;refine wpAny_truthy_bool ?_;cases c with
 | true=>exact hb pins s1 σ H1 Q I1 q1
 | false=>exact ⟨.bl false,H1,I1,rfl,q1⟩
theorem Ry (ha:PE X a ta)(hb:PE X (.BoolOp .Or (b::rest) pos) tb):PE X (.BoolOp .Or (a::b::rest) pos) (Zm ta tb):=by
 intro pins s σ H Q I h;refine BoolOp_or (dD (ha pins s σ H _ I h) fun v s1 ⟨x,H1,I1,r1,q1⟩=>?_);obtain ⟨c,rfl,q1⟩:=q1;cases r1;refine wpAny_truthy_bool ?_;cases c with
 | false=>exact hb pins s1 σ H1 Q I1 q1
 | true=>exact ⟨.bl true,H1,I1,rfl,q1⟩
theorem Iv (ha:PE X a ta):PE X (.UnaryOp .Not a pos) (QM ta):=by
 intro pins s σ H Q I h;refine UnaryOp_ (dD (ha pins s σ H _ I h) fun v s1 ⟨x,H1,I1,r1,q1⟩=>?_);obtain ⟨c,rfl,q1⟩:=q1;cases r1;exact not_of (wpAny_truthy_bool ⟨.bl (!c),H1,I1,rfl,q1⟩)
def tIf (t:TT)(ta tb:TE):TE:=fun σ H Q=>t σ H fun c H1=>if c=true then ta σ H1 Q else tb σ H1 Q
theorem uJ {c:Expr}(hc:PT X c tA)(ha:PE X a ta)(hb:PE X b tb):PE X (.IfExp c a b pos) (tIf tA ta tb):=by
 intro pins s σ H Q I h;refine wpAny_IfExp (dD (hc pins s σ H _ I h) fun d s1 ⟨H1,I1,q1⟩=>?_);cases d with
 | true=>exact ha pins s1 σ H1 Q I1 q1
 | false=>exact hb pins s1 σ H1 Q I1 q1
end
def bV (K:PySem.W.Frag)(H:Hp)(a:Addr)(xs:List V):Prop :=
 Rd H a (.lst xs) ∨
  ∃ (o:Obj) (its:Array Value) (n:Nat),K.lookup a=some o/\o.cls=.type "list"/\o.dict=none/\o.data=.seq its n/\its.size<=sizeLine/\bZ xs its.toList
def bW (K:PySem.W.Frag)(H:Hp)(a:Addr)(xs:List V):Prop :=
 Rd H a (.tup xs) ∨
  ∃ (o:Obj) (its:Array Value) (n:Nat),K.lookup a=some o/\o.cls=.type "tuple"/\o.data=.seq its n/\its.size<=sizeLine/\bZ xs its.toList
def Xd:Value->Option V
 | .none=>some .non
 | .bool b=>some (.bl b)
 | .int i _=>some (.int i)
 | .str x _=>some (.str x)
 | .bytes b _=>some (.byt b)
 | .float b _=>some (.flt b)
 | .ref a=>some (.ref a)
 | .type n=>some (.ty n)
 | _=>none
theorem RelV.abs {x:V}{u:Value}(r:RelV x u):Xd u=some x:=by
 cases x with
 | non=>cases r; rfl
 | bl _=>cases r; rfl
 | int _=>obtain ⟨t,rfl⟩:=r; rfl
 | str _=>obtain ⟨t,rfl⟩:=r; rfl
 | byt _=>obtain ⟨t,rfl⟩:=r; rfl
 | flt _=>obtain ⟨t,rfl⟩:=r; rfl
 | ref _=>cases r; rfl
 | ty _=>cases r; rfl
theorem RelV.inj {x y:V}{u:Value}(r:RelV x u)(q:RelV y u):x=y:=aGH.inj (r.abs.symm.trans q.abs)
theorem bZ.inj:∀ {xs ys:List V}{us:List Value},bZ xs us->bZ ys us->xs=ys
 | _,_,_,.nil,.nil=>rfl
 | _,_,_,.cons r t,.cons r' t'=>by rw [r.inj r',bZ.inj t t']
section
variable {X:Cx}{pins:List (Addr×Obj)}{σ:St}{H:Hp}{s:Shared}{a:Addr}{xs ys:List V}
theorem bV.of {K:PySem.W.Frag}(h:H a=some (.lst xs)):bV K H a xs:=.inl (.inl h)
theorem bW.of {K:PySem.W.Frag}(h:H a=some (.tup xs)):bW K H a xs:=.inl (.inl h)
theorem aW.list (I:aW X pins σ H s)(h:bV X.K H a xs):∃ its:List Value,bZ xs its/\PlainL s.heap a its.toArray/\xs.length<=sizeLine:=by
 rcases h with h | ⟨o,its,n,hk,hc,hd,hs,hz,r⟩
 ·obtain ⟨z,its,n,r,e⟩:=h.ok I.hok;exact ⟨its,r,⟨_,n,e,rfl,rfl,rfl⟩,z⟩
 ·refine ⟨its.toList,r,⟨o,n,I.kIn a o hk,hc,hd,by simpa using hs⟩,?_⟩;have e:=r.length;simp only [aGk] at e;omega
theorem aW.tuple (I:aW X pins σ H s)(h:bW X.K H a xs):∃ its:List Value,bZ xs its/\IsTup s.heap a its.toArray/\xs.length<=sizeLine:=by
 rcases h with h | ⟨o,its,n,hk,hc,hs,hz,r⟩
 ·obtain ⟨z,its,r,p⟩:=h.ok I.hok;exact ⟨its,r,p,z⟩
 ·refine ⟨its.toList,r,⟨o,I.kIn a o hk,hc,n,by simpa using hs⟩,?_⟩;have e:=r.length;simp only [aGk] at e;omega
theorem aW.list_inj (I:aW X pins σ H s)(h:bV X.K H a xs)(h':bV X.K H a ys):xs=ys:=by
 obtain ⟨its,r,⟨o,n,e,_,_,d⟩,_⟩:=I.list h;obtain ⟨its',r',⟨o',n',e',_,_,d'⟩,_⟩:=I.list h';rw [e] at e'; cases e';rw [d] at d';injection d' with d1 _
 have:its=its':=by simpa using congrArg Array.toList d1
 subst this;exact r.inj r'
theorem aW.tuple_inj (I:aW X pins σ H s)(h:bW X.K H a xs)(h':bW X.K H a ys):xs=ys:=by
 obtain ⟨its,r,⟨o,e,_,n,d⟩,_⟩:=I.tuple h;obtain ⟨its',r',⟨o',e',_,n',d'⟩,_⟩:=I.tuple h';rw [e] at e'; cases e';rw [d] at d';injection d' with d1 _
 have:its=its':=by simpa using congrArg Array.toList d1
 subst this;exact r.inj r'
end
abbrev Cx.wish (X:Cx)(E:Value->Shared->Prop):Cx:={ X with xe:=E }
abbrev Cx.nox (X:Cx):Cx:=X.wish fun _ _=>False
theorem Cx.Ok.wish {X:Cx}(ok:X.Ok)(E:Value->Shared->Prop):(X.wish E).Ok :=
 ⟨ok.mod,ok.kind,ok.glob,ok.blt,ok.above,ok.inj,ok.has,ok.cab,ok.hd,ok.frames,ok.stk,ok.exf,ok.bs,ok.bsz,ok.noex,ok.exfs,ok.funs,ok.frf⟩
theorem Cx.Ok.unwish {X:Cx}{E:Value->Shared->Prop}(ok:(X.wish E).Ok):X.Ok :=
 ⟨ok.mod,ok.kind,ok.glob,ok.blt,ok.above,ok.inj,ok.has,ok.cab,ok.hd,ok.frames,ok.stk,ok.exf,ok.bs,ok.bsz,ok.noex,ok.exfs,ok.funs,ok.frf⟩
section
variable {X:Cx}{pins:List (Addr×Obj)}{σ:St}{H:Hp}{s:Shared}{E:Value->Shared->Prop}
theorem aW.wish (I:aW X pins σ H s)(E:Value->Shared->Prop):aW (X.wish E) pins σ H s:=⟨I.ok.wish E,I.os,I.bare,I.base,I.loc,I.cell,I.free,I.freeC,I.pin,I.hok,I.len⟩
theorem aW.unwish (I:aW (X.wish E) pins σ H s):aW X pins σ H s:=⟨I.ok.unwish,I.os,I.bare,I.base,I.loc,I.cell,I.free,I.freeC,I.pin,I.hok,I.len⟩
theorem SP.unwish {D:Ends}{f:Flow}{s':Shared}(h:SP (X.wish E) pins D f s'):SP X pins D f s':=by
 cases f with
 | next=>obtain ⟨σ',H',I,q⟩:=h; exact ⟨σ',H',I.unwish,q⟩
 | brk=>obtain ⟨σ',H',I,q⟩:=h; exact ⟨σ',H',I.unwish,q⟩
 | cont=>obtain ⟨σ',H',I,q⟩:=h; exact ⟨σ',H',I.unwish,q⟩
 | ret u=>obtain ⟨v,σ',H',I,r,q⟩:=h; exact ⟨v,σ',H',I.unwish,r,q⟩
theorem PT.nox {e:Expr}{t:TT}(h:PT X.nox e t):PT X e t:=fun pins s σ H Q I hw =>
 wpAny_mono (h pins s σ H Q (I.wish _) hw) (fun _ _ ⟨H',I',q⟩=>⟨H',I'.unwish,q⟩) fun _ _ z=>False.elim z
theorem xD.nox {st:List Stmt}{t:TS}(h:xD X.nox st t):xD X st t:=fun pins s σ H D I hw =>
 wpAny_mono (h pins s σ H D (I.wish _) hw) (fun _ _ q=>q.unwish) fun _ _ z=>False.elim z
end
section
variable {X:Cx}{st:Stmt}{rest:List Stmt}{t u:TS}{e:Expr}{te:TE}{pos:Pos}
def Kr:TS:=fun D σ H=>D.nx σ H
def QR (t u:TS):TS:=fun D σ H=>t { D with nx:=u D } σ H
theorem bB:xD X [] Kr:=fun _ _ σ H _ I h=>wpAny_execs_nil ⟨σ,H,I,h⟩
theorem aF (h1:PS X st t)(h2:xD X rest u):xD X (st::rest) (QR t u):=by
 intro pins s σ H D I h;refine wpAny_execs_cons (dD (h1 pins s σ H { D with nx:=u D } I h) fun f s1 q=>?_);cases f with
 | next =>
  obtain ⟨σ',H',I',q⟩:=q;exact h2 pins s1 σ' H' D I' q
 | ret v=>exact q
 | brk=>exact q
 | cont=>exact q
theorem aJ (h1:PS X st t):xD X [st] t:=by
 intro pins s σ H D I h;refine wpAny_execs_cons (dD (h1 pins s σ H D I h) fun f s1 q=>?_);cases f with
 | next=>exact wpAny_execs_nil q
 | ret v=>exact q
 | brk=>exact q
 | cont=>exact q
def Ma:TS:=fun D σ H=>D.bk σ H
theorem J2:PS X (.Break pos) Ma:=fun _ _ σ H _ I h=>wpAny_Break ⟨σ,H,I,h⟩
theorem aW.quiet {pins:List (Addr×Obj)}{σ:St}{H:Hp}{s:Shared}(I:aW X pins σ H s):interactive X.env=false:=by simp [interactive,I.ok.kind]
def U6 (te:TE):TS:=fun D σ H=>te σ H fun _ H1=>D.nx σ H1
theorem mD (he:PE X e te)(hs:swapsWith e none pos.line X.env=pure false:=by rfl):PS X (.Expr e pos) (U6 te):=by
 intro pins s σ H D I h;exact wpAny_Expr_any (dD (he pins s σ H _ I h) fun v s1 ⟨x,H1,I1,r1,q1⟩=>⟨σ,H1,I1,q1⟩) I.quiet hs
def K5 (te:TE):TS:=fun D σ H=>te σ H D.rt
theorem aN (he:PE X e te):PS X (.Return (some e) pos) (K5 te):=by
 intro pins s σ H D I h;exact wpAny_Return_some (dD (he pins s σ H _ I h) fun v s1 ⟨x,H1,I1,r1,q1⟩=>⟨x,σ,H1,I1,r1,q1⟩)
def Ue (c:TT)(t u:TS):TS:=fun D σ H=>c σ H fun b H1=>if b=true then t D σ H1 else u D σ H1
theorem b8 {c:Expr}{a b:List Stmt}{tc:TT}(hc:PT X c tc)(ha:xD X a t)(hb:xD X b u):PS X (.If c a b pos) (Ue tc t u):=by
 intro pins s σ H D I h;refine wpAny_If (dD (hc pins s σ H _ I h) fun d s1 ⟨H1,I1,q1⟩=>?_);cases d with
 | true=>exact ha pins s1 σ H1 D I1 q1
 | false=>exact hb pins s1 σ H1 D I1 q1
def JK:TS:=fun _ _ _=>False
theorem nU:PS X st JK:=fun _ _ _ _ _ _ h=>h.elim
theorem FZ {sts:List Stmt}:xD X sts JK:=fun _ _ _ _ _ _ h=>h.elim
end
abbrev TG:=V->St->Hp->(St->Hp->Prop)->Prop
abbrev Ln:=List V->St->Hp->(St->Hp->Prop)->Prop
def PG (X:Cx)(target:Expr)(t:TG):Prop :=
 ∀ (pins:List (Addr×Obj)) (s:Shared) (σ:St) (H:Hp) (v:V) (u:Value) (Q:St->Hp->Prop),aW X pins σ H s->RelV v u->t v σ H Q ->
  wpAny (model X.prog X.w) X.A (assign target X.env u) (fun _ s'=>∃ σ' H',aW X pins σ' H' s'/\Q σ' H') X.xe s
def R4 (X:Cx)(ts:List Expr)(t:Ln):Prop :=
 ∀ (pins:List (Addr×Obj)) (s:Shared) (σ:St) (H:Hp) (vs:List V) (us:List Value) (Q:St->Hp->Prop),aW X pins σ H s->bZ vs us->t vs σ H Q ->
  wpAny (model X.prog X.w) X.A (assignInOrder ((assignEach ts X.env).map (·.2)) us) (fun _ s'=>∃ σ' H',aW X pins σ' H' s'/\Q σ' H') X.xe s
section
variable {X:Cx}{pos:Pos}
def kZ (i:Nat):TG:=fun v σ H Q=>Q (σ.set i (some v)) H
theorem aP {i:Nat}{x:Str}(hN:X.N.Nodup)(hi:X.N[i]? = some x)(hx:Loc X.env.scope x)(hf:X.fn x=true∨X.env.scope.names.lookup x=some .local:=by first | exact .inl rfl | exact .inr rfl | assumption):PG X (.Name x pos) (kZ i):=by
 intro pins s σ H v u Q I r h;exact wpAny_assign_Name (o8 I hN hi hx r (fun s' I'=>⟨_,H,I',h⟩) hf)
def Z7:Ln:=fun vs σ H Q=>vs=[]/\Q σ H
def Vh (t:TG)(u:Ln):Ln:=fun vs σ H Q=>∃ v r,vs=v::r/\t v σ H fun σ' H'=>u r σ' H' Q
theorem dU:R4 X [] Z7:=by
 intro pins s σ H vs us Q I r h;obtain ⟨e,h⟩:=h;subst e;cases r;exact assignInOrder_nil ⟨σ,H,I,h⟩
theorem bH {e:Expr}{es:List Expr}{t:TG}{u:Ln}(h1:PG X e t)(h2:R4 X es u)
  (hs:(assignEach (e::es) X.env).map (·.2)=assign e X.env::(assignEach es X.env).map (·.2):=by rfl):R4 X (e::es) (Vh t u):=by
 intro pins s σ H vs us Q I r h;obtain ⟨v,vr,e1,h⟩:=h;subst e1;cases r with
 | cons r rr =>
  rw [hs];refine assignInOrder_cons (dD (h1 pins s σ H _ _ _ I r h) fun _ s1 ⟨σ1,H1,I1,q1⟩=>?_);exact h2 pins s1 σ1 H1 _ _ Q I1 rr q1
def Uv (K:PySem.W.Frag)(n:Nat)(t:Ln):TG:=fun v σ H Q=>∃ a xs,v=.ref a/\bW K H a xs/\xs.length=n/\t xs σ H Q
theorem uF {es:List Expr}{k:Nat}{t:Ln}{n:Nat}(hc:X.calm=true)(h:R4 X es t)
  (hn:(assignEach es X.env).length=n:=by rfl) (hst:(assignEach es X.env).findIdx? (·.1)=none:=by rfl):PG X (.Tuple es k pos) (Uv X.K n t):=by
 intro pins s σ H v u Q I r hw;obtain ⟨a,xs,e1,hq,hl,hw⟩:=hw;subst e1;cases r;obtain ⟨its,rv,ht,hz⟩:=I.tuple hq;refine assign_Tuple_tuple (I.ok.hd hc) ht (by simp [hn,<- hl,rv.length]) hst fun h' hx=>?_;have I1:aW X pins σ H { s with heap:=h' }:=I.kept (t':=s.toks) fun b o e=>hx b o (aF6 (aFQ e)) e;exact h pins _ σ H xs _ Q I1 (by simpa using rv) hw
def Hs (te:TE)(g:TG):TS:=fun D σ H=>te σ H fun x H1=>g x σ H1 D.nx
theorem Mh {tg e:Expr}{te:TE}{g:TG}(he:PE X e te)(hg:PG X tg g)(hs:swapsWithSole [tg] e pos.line X.env=pure false:=by rfl)(hw:swappedStores [tg] e X.env=pure none:=by rfl)
  (h1:(assignEach [tg] X.env).map (·.2)=[assign tg X.env]:=by rfl):PS X (.Assign [tg] e pos) (Hs te g):=by
 intro pins s σ H D I h;refine wpAny_Assign_stores (dD (he pins s σ H _ I h) fun v s1 ⟨x,H1,I1,r1,q1⟩=>?_) hs hw;rw [h1];exact dD (hg pins s1 σ H1 x v _ I1 r1 q1) fun _ s2 q=>q
theorem aY {i:Nat}{x:Str}{e:Expr}{te:TE}{pos':Pos}(hN:X.N.Nodup)(hi:X.N[i]? = some x)(hx:Loc X.env.scope x)(he:PE X e te)(hs:swapsWith e (some (.Name x pos')) pos.line X.env=pure false:=by rfl)(hf:X.fn x=true∨X.env.scope.names.lookup x=some .local:=by first | exact .inl rfl | exact .inr rfl | assumption) :
  PS X (.Assign [.Name x pos'] e pos) (Hs te (kZ i)):=by
 intro pins s σ H D I h;refine wpAny_Assign_Name (dD (he pins s σ H _ I h) fun v s1 ⟨y,H1,I1,r1,q1⟩=>?_) hs;exact o8 I1 hN hi hx r1 (fun s2 I2=>⟨_,H1,I2,q1⟩) hf
def aAN (i j:Nat)(ta:TA):TS:=fun D σ H=>ta σ H fun vs H1=>∃ v w,vs=[v,w]/\D.nx ((σ.set i (some v)).set j (some w)) H1
theorem Mr {i j:Nat}{x y:Str}{a b:Expr}{ta:TA}{px py pt:Pos}{kt k2 pt2}(hc:X.calm=true)(hN:X.N.Nodup)(hi:X.N[i]? = some x)(hj:X.N[j]? = some y)(hij:i≠j)
  (hx:X.env.scope.names.lookup x=some .local) (hy:X.env.scope.names.lookup y=some .local) (ha:PA X [a,b] ta)
  (hw:swappedStores [.Tuple [.Name x px,.Name y py] kt pt] (.Tuple [a,b] k2 pt2) X.env=pure (some [x,y]))
  (hs:swapsWithSole [.Tuple [.Name x px,.Name y py] kt pt] (.Tuple [a,b] k2 pt2) pos.line X.env=pure false:=by rfl) :
  PS X (.Assign [.Tuple [.Name x px,.Name y py] kt pt] (.Tuple [a,b] k2 pt2) pos) (aAN i j ta):=by
 intro pins s σ H D I h;rw [exec_Assign_arm];refine wpAny_bind (wpAny_standAt ?_);rw [hs];refine wpAny_bind (wpAny_pure ?_);rw [if_neg (by decide)];refine wpAny_bind (Tuple_ (dD (ha _ pins s σ H _ I h) fun us s1 ⟨vs,H1,I1,r1,q1⟩=>?_));obtain ⟨v,w,e1,q1⟩:=q1;subst e1;obtain ⟨u1,u2,rfl,rv,rw'⟩:∃ u1 u2,us=[u1,u2]/\RelV v u1/\RelV w u2:=by
  cases r1 with
  | cons p q =>
   cases q with
   | cons p' q' =>
    cases q';exact ⟨_,_,rfl,p,p'⟩
 refine wpAny_newObj_type ?_ (by show 2<=sizeLine; decide);have I2:aW X pins σ H1 { s1 with heap:=s1.heap.push { cls:=.type "tuple",data:=.seq [u1,u2].toArray } }:=I1.kept (t':=s1.toks) fun b o e=>aFH _ e;rw [hw];refine wpAny_bind (wpAny_pure ?_);show wpAny (model X.prog X.w) X.A (do rule "assign.swapped-stores"; let items <- unpackItems (.ref s1.heap.objs.size) 2 none; assignInOrder [fun v=>bindName X.env y v,fun v=>bindName X.env x v] items.reverse; pure Flow.next) _ _ _;refine wpAny_bind (wpAny_rule (wpAny_bind (unpackItems_tuple (items:=#[u1,u2]) (I.ok.hd hc) (IsTup.new s1.heap _) fun h' hx'=>?_)));have I3:=I2.kept (h':=h') (t':=s1.toks) fun b o e=>hx' b o (aF6 (aFQ e)) e;show wpAny _ _ (assignInOrder [fun v=>bindName X.env y v,fun v=>bindName X.env x v] [u2,u1] >>= fun _=>pure Flow.next) _ _ _;refine wpAny_bind (assignInOrder_cons (wpAny_bindName (o8 I3 hN hj (.inl hy) rw' (fun s2 I4=>?_) (.inr hy))));refine assignInOrder_cons (wpAny_bindName (o8 I4 hN hi (.inl hx) rv (fun s3 I5=>assignInOrder_nil (wpAny_pure ?_)) (.inr hx)));rw [List.set_comm _ _ (Ne.symm hij)] at I5;exact ⟨_,H1,I5,q1⟩
def Gq (c:TT)(tb:TS):TS:=fun D σ H=>∃ W:Nat->St->Hp->Prop,(∃ m,W m σ H)/\∀ m σ H,W m σ H ->
 c σ H fun b H1=>if b=true then ∃ N:St->Hp->Prop,(∀ σ' H',N σ' H'->∃ m',m'<m/\W m' σ' H')/\tb { D with nx:=N,ct:=N,bk:=D.nx } σ H1 else D.nx σ H1
theorem tU {c:Expr}{body:List Stmt}{tc:TT}{tb:TS}(hp:PassesOwn (model X.prog X.w) X.A X.env X.xe)(hc:PT X c tc)(hb:xD X body tb):PS X (.While c body [] pos) (Gq tc tb):=by
 intro pins s σ H D I h;obtain ⟨W,⟨m0,w0⟩,turn⟩:=h;refine wpAny_While (codeAny_whileLoop (fun n s'=>∃ σ' H',aW X pins σ' H' s'/\W n σ' H') ?_ m0 ⟨σ,H,I,w0⟩);rintro n s1 ⟨σ1,H1,I1,w1⟩;refine wpAny_passesOwn hp (dD (hc pins s1 σ1 H1 _ I1 (turn n σ1 H1 w1)) fun b s2 ⟨H2,I2,q2⟩=>?_);cases b with
 | true =>
  obtain ⟨N,hN,q2⟩:=q2;rw [if_pos rfl];refine wpAny_passesOwn hp (dD (hb pins s2 σ1 H2 _ I2 q2) fun f s3 q3=>?_);cases f with
  | next =>
   obtain ⟨σ3,H3,I3,n3⟩:=q3;obtain ⟨m',hm,w3⟩:=hN σ3 H3 n3;exact ⟨m',hm,σ3,H3,I3,w3⟩
  | cont =>
   obtain ⟨σ3,H3,I3,n3⟩:=q3;obtain ⟨m',hm,w3⟩:=hN σ3 H3 n3;exact ⟨m',hm,σ3,H3,I3,w3⟩
  | brk=>exact q3
  | ret v=>exact q3
 | false =>
  rw [if_neg aF2];exact wpAny_execs_nil ⟨σ1,H2,I2,q2⟩
end
structure It where
 go:Nat->Hp->Prop
 yld:Nat->Hp->V->Hp->Prop
 stop:Nat->Hp->Prop
def jD (X:Cx)(pins:List (Addr×Obj))(H:Hp)(b:Addr):Prop :=
 H b=none/\b≠X.env.locals/\b∉X.fs/\(b∈X.ex∨X.s₀.heap.objs.size<=b)/\(∀ x c,X.env.cells.lookup x=some c->c≠b)/\∀ p∈X.pn++pins,p.1≠b
theorem aW.fpOk {X:Cx}{pins:List (Addr×Obj)}{σ:St}{H H':Hp}{s:Shared}{b:Addr}(I:aW X pins σ H s)(hb:s.heap.objs.size<=b)(hn:H' b=none):jD X pins H' b:=by
 refine ⟨hn,aGC (aF5 I.lt hb),I.nofs hb,.inr (aFJ I.sz hb),fun x c e z=>?_,fun p hp z=>?_⟩
 ·obtain ⟨v,q⟩:=I.cell x c e;exact absurd (aF5 q.lt (by rw [z]; exact hb)) (aGI _)
 ·exact absurd (aF5 (aFQ (I.pin p hp).1) (by rw [z]; exact hb)) (aGI _)
structure Turn (P:Program)(w:World)(K:PySem.W.Frag)(tg:Expr)(J:It)(fp:List Addr)(it:Addr)(tn:Nat->Heap->Prop):Prop where
 mem:it∈fp
 obj:∀ i h,tn i h->∀ b∈fp,∃ o,h.get? b=some o/\∀ v,o.data≠.cell v
 keep:∀ i h h',tn i h->(∀ b∈fp,∀ o,h.get? b=some o->h'.get? b=some o)->tn i h'
 item:∀ (X:Cx),X.prog=P->X.w=w->X.K=K->X.calm=true->∀ (i:Nat) (pins:List (Addr×Obj)) (s:Shared) (σ:St) (H:Hp) (E:Value->Shared->Prop),aW X pins σ H s->(∀ b∈fp,jD X pins H b)->tn i s.heap->J.go i H ->
  wpAny (model P w) X.A (pyNext (.ref it)) (fun r s1=>∃ u,r=some u ∧
   wpAny (model P w) X.A (letOwnedTupleGo tg (.ref it) u) (fun _ s2=>∃ x H',aW X pins σ H' s2/\RelV x u/\J.yld i H x H'/\tn (i+1) s2.heap/\∀ b∈fp,H' b=none) E s1) E s
 done:∀ (X:Cx),X.prog=P->X.w=w->X.K=K->X.calm=true->∀ (i:Nat) (pins:List (Addr×Obj)) (s:Shared) (σ:St) (H:Hp) (E:Value->Shared->Prop),aW X pins σ H s->(∀ b∈fp,jD X pins H b)->tn i s.heap->J.stop i H ->
  wpAny (model P w) X.A (pyNext (.ref it)) (fun r s1=>r=none/\aW X pins σ H s1) E s
 self:∀ (A:Around) (i:Nat) (s:Shared) (Q:Value->Shared->Prop) (E:Value->Shared->Prop),tn i s.heap->Q (.ref it) s->wpAny (model P w) A (pyIter (.ref it)) Q E s
abbrev TI:=St->Hp->(It->Hp->Prop)->Prop
def XM (X:Cx)(pins:List (Addr×Obj))(σ:St)(tg:Expr)(R:It->Hp->Prop)(itv:Value)(s2:Shared):Prop :=
 ∃ (it:Addr) (fp:List Addr) (tn:Nat->Heap->Prop) (J:It) (H':Hp),itv=.ref it/\aW X pins σ H' s2/\Turn X.prog X.w X.K tg J fp it tn/\tn 0 s2.heap/\(∀ b∈fp,jD X pins H' b)/\R J H'
def PI (X:Cx)(tg iter:Expr)(wi:TI):Prop :=
 ∀ (pins:List (Addr×Obj)) (s:Shared) (σ:St) (H:Hp) (R:It->Hp->Prop),aW X pins σ H s->wi σ H R ->
  wpAny (model X.prog X.w) X.A (eval iter X.env) (fun v s1=>wpAny (model X.prog X.w) X.A (pyIter v) (XM X pins σ tg R) X.xe s1) X.xe s
theorem zF {M:Model}{A:Around}{E:Value->Shared->Prop}{s:Shared}{tg:Expr}{it:Addr}{u:Value}{o:Obj}{n:String}{vs:Array Value}{Q:Unit->Shared->Prop}(ho:s.heap.get? it=some o)(hc:o.cls=.type n)(hd:o.data=.fields vs)
  (hn:["enumerate","zip","dict_itemiterator","dict_reverseitemiterator","odict_iterator","itertools.zip_longest","itertools.pairwise"].contains n=false) (hQ:Q () s):wpAny M A (letOwnedTupleGo tg (.ref it) u) Q E s:=by
 unfold letOwnedTupleGo;cases tg <;> first
  | exact wpAny_pure hQ
  | (cases u <;> first
    | exact wpAny_pure hQ
    | (refine wpAny_bind (wpAny_load ho ?_); rw [hc,hd]; show wpAny M A (if (["enumerate","zip","dict_itemiterator","dict_reverseitemiterator","odict_iterator","itertools.zip_longest","itertools.pairwise"].contains n&&vs[0]?==some (rawInt _))=true then _ else _) Q E s; rw [if_neg (by intro h; rw [hn,Bool.false_and] at h; cases h)]; exact wpAny_pure hQ))
def PP (K:PySem.W.Frag)(a:Addr):It :=
 ⟨fun i H=>∃ xs x,bV K H a xs/\xs[i]? = some x,fun i H x H'=>H'=H/\∀ xs,bV K H a xs->xs[i]? = some x,fun i H=>∃ xs,bV K H a xs/\xs.length<=i⟩
def Xf (K:PySem.W.Frag)(a:Addr):It :=
 ⟨fun i H=>∃ xs x,bW K H a xs/\xs[i]? = some x,fun i H x H'=>H'=H/\∀ xs,bW K H a xs->xs[i]? = some x,fun i H=>∃ xs,bW K H a xs/\xs.length<=i⟩
def Nb (lo:Int)(n:Nat):It:=⟨fun i _=>i<n,fun i H x H'=>H'=H/\x=.int (lo+i),fun i _=>n<=i⟩
theorem Eu {P:Program}{w:World}{K:PySem.W.Frag}{tg:Expr}(a it:Addr):Turn P w K tg (PP K a) [it] it (fun i h=>h.IsListIter it a i) where
 mem:=by simp
 obj:=fun i h st b hb=>by
  have e:b=it:=by simpa using hb
  subst e;obtain ⟨o,e,c,d⟩:=st;exact ⟨o,e,fun v z=>by rw [d] at z; cases z⟩
 keep:=fun i h h' st k=>st.at fun o e=>k it (by simp) o e
 item:=by
  intro X hP hw hK hc i pins s σ H E I hf st hg;subst hP hw hK;obtain ⟨xs,x,hq,hx⟩:=hg;obtain ⟨its,rv,p,hz⟩:=I.list hq;obtain ⟨u,hu,ru⟩:=rv.get hx;obtain ⟨f0,f1,f2,f3,f4,f5⟩:=hf it (by simp);refine wpAny_pyNext_list_item st p.isList (x:=u) (by simpa using hu) fun h' st' sb=>?_;have I1:aW X pins σ H { s with heap:=h' }:=I.turned (t':=s.toks) (fun b o hb e=>(sb.2 b hb).trans e) f0 f1 f3 f4 f5;obtain ⟨o,e,c,d⟩:=id st';exact ⟨u,rfl,zF (s:={ s with heap:=h' }) e c d (by decide) ⟨x,H,I1,ru,⟨rfl,fun ys hy=>by rw [I.list_inj hy hq]; exact hx⟩,st',fun b hb=>(hf b hb).1⟩⟩
 done:=by
  intro X hP hw hK hc i pins s σ H E I hf st hg;subst hP hw hK;obtain ⟨xs,hq,hx⟩:=hg;obtain ⟨its,rv,p,hz⟩:=I.list hq;obtain ⟨f0,f1,f2,f3,f4,f5⟩:=hf it (by simp);have hl:=rv.length;exact wpAny_pyNext_list_end (I.ok.hd hc) st p.isList (by simp; omega) fun h' eb=>⟨rfl,I.turned (t':=s.toks) (fun b o hb e=>eb b o hb e) f0 f1 f3 f4 f5⟩
 self:=fun _ _ _ _ _ st h=>wpAny_pyIter_listiter st h
theorem Cv {P:Program}{w:World}{K:PySem.W.Frag}{tg:Expr}(a it:Addr):Turn P w K tg (Xf K a) [it] it (fun i h=>h.IsTupleIter it a i) where
 mem:=by simp
 obj:=fun i h st b hb=>by
  have e:b=it:=by simpa using hb
  subst e;obtain ⟨o,e,c,d⟩:=st;exact ⟨o,e,fun v z=>by rw [d] at z; cases z⟩
 keep:=fun i h h' st k=>st.at fun o e=>k it (by simp) o e
 item:=by
  intro X hP hw hK hc i pins s σ H E I hf st hg;subst hP hw hK;obtain ⟨xs,x,hq,hx⟩:=hg;obtain ⟨its,rv,p,hz⟩:=I.tuple hq;obtain ⟨u,hu,ru⟩:=rv.get hx;obtain ⟨f0,f1,f2,f3,f4,f5⟩:=hf it (by simp);refine wpAny_pyNext_tuple_item st (show s.heap.IsTuple a its.toArray from p) (x:=u) (by simpa using hu) fun h' st' sb=>?_;have I1:aW X pins σ H { s with heap:=h' }:=I.turned (t':=s.toks) (fun b o hb e=>(sb.2 b hb).trans e) f0 f1 f3 f4 f5;obtain ⟨o,e,c,d⟩:=id st';exact ⟨u,rfl,zF (s:={ s with heap:=h' }) e c d (by decide) ⟨x,H,I1,ru,⟨rfl,fun ys hy=>by rw [I.tuple_inj hy hq]; exact hx⟩,st',fun b hb=>(hf b hb).1⟩⟩
 done:=by
  intro X hP hw hK hc i pins s σ H E I hf st hg;subst hP hw hK;obtain ⟨xs,hq,hx⟩:=hg;obtain ⟨its,rv,p,hz⟩:=I.tuple hq;obtain ⟨f0,f1,f2,f3,f4,f5⟩:=hf it (by simp);have hl:=rv.length;exact wpAny_pyNext_tuple_end (I.ok.hd hc) st (show s.heap.IsTuple a its.toArray from p) (by simp; omega) fun h' eb=>⟨rfl,I.turned (t':=s.toks) (fun b o hb e=>eb b o hb e) f0 f1 f3 f4 f5⟩
 self:=fun _ _ _ _ _ st h=>wpAny_pyIter_tupleiter st h
theorem Ck {P:Program}{w:World}{K:PySem.W.Frag}{tg:Expr}(it:Addr)(lo:Int)(n:Nat):Turn P w K tg (Nb lo n) [it] it (fun i h=>IsRangeIter h it (lo+(i:Nat)*1) ((n:Int)-(i:Nat)) 1) where
 mem:=by simp
 obj:=fun i h st b hb=>by
  have e:b=it:=by simpa using hb
  subst e;exact ⟨_,st,fun v z=>by
   have z':Data.fields _=Data.cell v:=z;cases z'⟩
 keep:=fun i h h' st k=>k it (by simp) _ st
 item:=by
  intro X hP hw hK hc i pins s σ H E I hf st hg;subst hP hw hK;obtain ⟨f0,f1,f2,f3,f4,f5⟩:=hf it (by simp);have W:=Walks.range (prog:=X.prog) (w:=X.w) (I.ok.hd hc) it lo 1 n;refine W.item i s _ _ hg st fun v h' tk hv st' kk=>?_;obtain ⟨t,rfl⟩:=hv;have I1:aW X pins σ H { s with heap:=h',toks:=tk }:=I.turned (fun b o hb e=>kk b o (by simpa using hb) e) f0 f1 f3 f4 f5;refine ⟨_,rfl,zF (s:={ s with heap:=h',toks:=tk }) (n:="range_iterator") st' rfl rfl (by decide) ⟨.int (lo+i),H,I1,⟨t,?_⟩,⟨rfl,rfl⟩,st',fun b hb=>(hf b hb).1⟩⟩;rw [Int.mul_one]
 done:=by
  intro X hP hw hK hc i pins s σ H E I hf st hg;subst hP hw hK;obtain ⟨f0,f1,f2,f3,f4,f5⟩:=hf it (by simp);exact wpAny_pyNext_range_end (I.ok.hd hc) st (by have:n<=i:=hg; omega) fun h' eb=>⟨rfl,I.turned (t':=s.toks) (fun b o hb e=>eb b o hb e) f0 f1 f3 f4 f5⟩
 self:=fun _ _ _ _ _ st h=>wpAny_pyIter_rangeiter st h
section
variable {X:Cx}{tg:Expr}
def RT (K:PySem.W.Frag)(tl:TE):TI:=fun σ H R=>tl σ H fun x H1=>∃ a,x=.ref a/\(∃ xs,bV K H1 a xs)/\R (PP K a) H1
def XS (K:PySem.W.Frag)(tl:TE):TI:=fun σ H R=>tl σ H fun x H1=>∃ a,x=.ref a/\(∃ xs,bW K H1 a xs)/\R (Xf K a) H1
theorem cX {l:Expr}{tl:TE}(hl:PE X l tl):PI X tg l (RT X.K tl):=by
 intro pins s σ H R I h;refine dD (hl pins s σ H _ I h) fun v s1 ⟨x,H1,I1,r1,q1⟩=>?_;obtain ⟨a,e,⟨xs,hq⟩,q⟩:=q1;subst e;cases r1;obtain ⟨its,rv,p,hz⟩:=I1.list hq;refine wpAny_pyIter_list p.isList ?_;refine ⟨s1.heap.objs.size,[s1.heap.objs.size],_,_,H1,rfl,I1.kept (t':=s1.toks) fun b o e=>aFH _ e,Eu a _,⟨_,aFV _ rfl,rfl,rfl⟩,fun b hb=>?_,q⟩;have e:b=s1.heap.objs.size:=by simpa using hb
 subst e;exact I1.fpOk (aFM _) (I1.hok.fresh (aFM _))
theorem jV {l:Expr}{tl:TE}(hl:PE X l tl):PI X tg l (XS X.K tl):=by
 intro pins s σ H R I h;refine dD (hl pins s σ H _ I h) fun v s1 ⟨x,H1,I1,r1,q1⟩=>?_;obtain ⟨a,e,⟨xs,hq⟩,q⟩:=q1;subst e;cases r1;obtain ⟨its,rv,p,hz⟩:=I1.tuple hq;refine wpAny_pyIter_tuple (show s1.heap.IsTuple a its.toArray from p) ?_;refine ⟨s1.heap.objs.size,[s1.heap.objs.size],_,_,H1,rfl,I1.kept (t':=s1.toks) fun b o e=>aFH _ e,Cv a _,⟨_,aFV _ rfl,rfl,rfl⟩,fun b hb=>?_,q⟩;have e:b=s1.heap.objs.size:=by simpa using hb
 subst e;exact I1.fpOk (aFM _) (I1.hok.fresh (aFM _))
theorem Ha {pins:List (Addr×Obj)}{σ:St}{H:Hp}{s:Shared}{R:It->Hp->Prop}{E:Value->Shared->Prop}{lo hi:Int}{t u v:Tok}{tk:Nat}(I:aW X pins σ H s)(h1:-(2^62)<=lo)(h2:lo<2^62)(h3:-(2^62)<=hi)(h4:hi<2^62)
  (q:R (Nb lo (hi-lo).toNat) H):wpAny (model X.prog X.w) X.A (pyIter (.ref s.heap.objs.size)) (XM X pins σ tg R) E { s with heap:=s.heap.push { cls:=.type "range",data:=.fields #[.int lo t,.int hi u,.int 1 v] },toks:=tk }:=by
 refine wpAny_pyIter_range (IsRange.new ..) (small_one h1 h2 h3 h4) ?_;have I1:aW X pins σ H { s with heap:=s.heap.push { cls:=.type "range",data:=.fields #[.int lo t,.int hi u,.int 1 v] },toks:=tk }:=I.kept fun b o e=>aFH _ e;refine ⟨(s.heap.push { cls:=.type "range",data:=.fields #[.int lo t,.int hi u,.int 1 v] }).objs.size,[(s.heap.push { cls:=.type "range",data:=.fields #[.int lo t,.int hi u,.int 1 v] }).objs.size],_,_,H,rfl,
  I1.kept (t':=tk) fun b o e=>aFH _ e,Ck _ lo (hi-lo).toNat,?_,fun b hb=>?_,q⟩
 ·have e1:lo+((0:Nat):Int)*1=lo:=by simp
  have e2:(((hi-lo).toNat:Nat):Int)-((0:Nat):Int)=Builtin.Range.rangeSize lo hi 1:=by rw [rangeSize_one]; split <;> omega
  show IsRangeIter _ _ (lo+((0:Nat):Int)*1) ((((hi-lo).toNat:Nat):Int)-((0:Nat):Int)) 1;rw [e1,e2];exact aFV _ rfl
 ·have e:b=(s.heap.push { cls:=.type "range",data:=.fields #[.int lo t,.int hi u,.int 1 v] }).objs.size:=by simpa using hb
  subst e;exact I1.fpOk (aFM _) (I1.hok.fresh (aFM _))
def Qp (ta:TA):TI:=fun σ H R=>ta σ H fun vs H1=>∃ j:Int,vs=[.int j]/\-(2^62)<=j/\j<2^62/\R (Nb 0 j.toNat) H1
theorem eZ {a:Expr}{ta:TA}{p pos:Pos}(hg:Gl X "range")(hm:X.mg "range" = none)(ha:PA X [a] ta)(hs:starEach [a] X.env=[(false,eval a X.env)]:=by rfl):PI X tg (.Call (.Name "range" p) [a] [] pos) (Qp ta):=by
 intro pins s σ H R I h;refine Call_ (lQ I hg hm boot_range (PyProof.Rows.callWith_type1 (dD (ha pos pins s σ H _ I h) fun us s1 ⟨vs,H1,I1,r1,q1⟩=>?_) hs rfl));obtain ⟨j,e,q1,q2,q⟩:=q1;subst e;cases r1 with
 | cons r rr =>
  cases rr;obtain ⟨t,rfl⟩:=r;exact call_range_1 (Ha I1 (by omega) (by omega) q1 q2 (by simpa using q))
def aAR (wi:TI)(g:TG)(tb:TS):TS:=fun D σ H=>wi σ H fun J H1=>∃ W:Nat->Nat->St->Hp->Prop,(∃ m,W 0 m σ H1)/\∀ i m σ H,W i m σ H ->
 (J.stop i H/\D.nx σ H)∨(J.go i H/\∃ N:St->Hp->Prop,(∀ σ' H',N σ' H'->∃ m',m'<m/\W (i+1) m' σ' H')/\∀ x H',J.yld i H x H'->g x σ H' fun σ2 H2=>tb { D with nx:=N,ct:=N,bk:=D.nx } σ2 H2)
def sV (fp:List Addr)(h:Heap):List (Addr×Obj):=fp.filterMap fun b=>(h.get? b).map fun o=>(b,o)
theorem jW {fp:List Addr}{h:Heap}{b:Addr}{o:Obj}(hb:b∈fp)(e:h.get? b=some o):(b,o)∈sV fp h:=aHq.mpr ⟨b,hb,by rw [e]; rfl⟩
theorem Et {fp:List Addr}{h:Heap}{p:Addr×Obj}(hp:p∈sV fp h):p.1∈fp/\h.get? p.1=some p.2:=by
 obtain ⟨b,hb,e⟩:=aHq.mp hp;cases q:h.get? b with
 | none=>rw [q] at e; cases e
 | some o =>
  rw [q] at e;have e':(b,o)=p:=aGH.inj e;subst e';exact ⟨hb,q⟩
theorem aW.pinned {pins:List (Addr×Obj)}{σ:St}{H:Hp}{s:Shared}{fp:List Addr}(I:aW X pins σ H s)(hf:∀ b∈fp,jD X pins H b)(ho:∀ b∈fp,∃ o,s.heap.get? b=some o/\∀ v,o.data≠.cell v):aW X (pins++sV fp s.heap) σ H s :=
 I.pins_of fun p hp=>(aF4.mp hp).elim (fun z=>I.pin p (aFX _ z)) fun z=>by
  obtain ⟨hb,e⟩:=Et z;obtain ⟨f0,f1,f2,_⟩:=hf p.1 hb;obtain ⟨o,e',d⟩:=ho p.1 hb;rw [e] at e'; cases e';exact ⟨e,f0,f1,f2,d⟩
theorem aW.unpinned {pins pl:List (Addr×Obj)}{σ:St}{H:Hp}{s:Shared}(I:aW X (pins++pl) σ H s):aW X pins σ H s:=I.pins_of fun p hp=>I.pin p (aFX _ (aGw _ hp))
theorem jQ {iter:Expr}{body:List Stmt}{wi:TI}{g:TG}{tb:TS}{pos:Pos}(hp:PassesOwn (model X.prog X.w) X.A X.env X.xe)(hc:X.calm=true)(hi:PI X tg iter wi)(hg:PG X tg g)(hb:xD X body tb)
  (hs:∀ x,foldedSetIterable iter X.env x=pure x:=by intro _; rfl):PS X (.For tg iter body [] pos) (aAR wi g tb):=by
 intro pins s σ H D I h;refine wpAny_For (dD (hi pins s σ H _ I h) fun v s1 h1=>dD h1 fun itv s2 h2=>?_) hs;obtain ⟨it,fp,tn,J,H2,e,I2,T,st2,f2,W,⟨m0,w0⟩,turn⟩:=h2;subst e;have stat:∀ {H':Hp},(∀ b∈fp,H' b=none)->∀ b∈fp,jD X pins H' b:=fun hn b hb=>⟨hn b hb,(f2 b hb).2⟩
 refine codeAny_forLoop_any (fun n s'=>∃ i σ' H',aW X pins σ' H' s'/\tn i s'.heap/\(∀ b∈fp,H' b=none)/\W i n σ' H') ?_ m0 ⟨0,σ,H2,I2,st2,fun b hb=>(f2 b hb).1,w0⟩;rintro n s3 ⟨i,σ3,H3,I3,st3,fr3,w3⟩;rcases turn i n σ3 H3 w3 with ⟨stop,qn⟩ | ⟨go,N,hN,step⟩
 ·refine wpAny_passesOwn hp (dD (T.done X rfl rfl rfl hc i pins s3 σ3 H3 X.xe I3 (stat fr3) st3 stop) fun r s4 ⟨hr,I4⟩=>?_);subst hr;exact wpAny_execs_nil ⟨σ3,H3,I4,qn⟩
 ·refine wpAny_passesOwn hp (dD (T.item X rfl rfl rfl hc i pins s3 σ3 H3 X.xe I3 (stat fr3) st3 go) fun r s4 ⟨u,hr,h4⟩=>?_);subst hr;refine wpAny_passesOwn hp (dD h4 fun _ s5 ⟨x,H5,I5,r5,y5,st5,fr5⟩=>?_);have I5':=I5.pinned (stat fr5) (T.obj _ _ st5);refine wpAny_passesOwn hp (dD (hg _ s5 σ3 H5 x u _ I5' r5 (step x H5 y5)) fun _ s6 ⟨σ6,H6,I6,q6⟩=>?_);refine wpAny_passesOwn hp (dD (hb _ s6 σ6 H6 _ I6 q6) fun f s7 q7=>?_);have again:∀ {σ7:St}{H7:Hp},aW X (pins++sV fp s5.heap) σ7 H7 s7->N σ7 H7->∃ m,m<n/\∃ i σ' H',aW X pins σ' H' s7/\tn i s7.heap/\(∀ b∈fp,H' b=none)/\W i m σ' H':=fun {σ7 H7} I7 n7=>by
   obtain ⟨m',hm,w7⟩:=hN σ7 H7 n7;refine ⟨m',hm,i+1,σ7,H7,I7.unpinned,T.keep _ _ _ st5 fun b hb o e=>(I7.pin (b,o) (aFX _ (aFX _ (jW hb e)))).1,fun b hb=>?_,w7⟩;obtain ⟨o,e,d⟩:=T.obj _ _ st5 b hb;exact (I7.pin (b,o) (aFX _ (aFX _ (jW hb e)))).2.1
  cases f with
  | next=>obtain ⟨σ7,H7,I7,n7⟩:=q7; exact again I7 n7
  | cont=>obtain ⟨σ7,H7,I7,n7⟩:=q7; exact again I7 n7
  | brk=>obtain ⟨σ7,H7,I7,q7⟩:=q7; exact ⟨σ7,H7,I7.unpinned,q7⟩
  | ret v=>obtain ⟨x7,σ7,H7,I7,r7,q7⟩:=q7; exact ⟨x7,σ7,H7,I7.unpinned,r7,q7⟩
end
theorem sU {K:PySem.W.Frag}{a:Addr}{xs:List V}{g:TG}{tb:TS}{D:Ends}{σ:St}{H:Hp}(Pv:Nat->St->Hp->Prop)(h0:Pv 0 σ H)(hl:∀ i σ H,i<=xs.length->Pv i σ H->bV K H a xs)
  (hs:∀ i x σ H,xs[i]? = some x->Pv i σ H->g x σ H fun σ2 H2=>tb { D with nx:=Pv (i+1),ct:=Pv (i+1),bk:=D.nx } σ2 H2) (hd:∀ σ H,Pv xs.length σ H->D.nx σ H) :
  ∃ W:Nat->Nat->St->Hp->Prop,(∃ m,W 0 m σ H)/\∀ i m σ H,W i m σ H ->
   ((PP K a).stop i H/\D.nx σ H)∨((PP K a).go i H/\∃ N:St->Hp->Prop,(∀ σ' H',N σ' H'->∃ m',m'<m/\W (i+1) m' σ' H')/\∀ x H',(PP K a).yld i H x H'->g x σ H' fun σ2 H2=>tb { D with nx:=N,ct:=N,bk:=D.nx } σ2 H2):=by
 refine ⟨fun i m σ H=>m=xs.length-i/\i<=xs.length/\Pv i σ H,⟨xs.length,by simp,aGa _,h0⟩,?_⟩;rintro i m σ H ⟨rfl,hi,p⟩;have q:=hl i σ H hi p
 by_cases hlt:i<xs.length
 ·refine .inr ⟨⟨xs,xs[i],q,by simp [hlt]⟩,Pv (i+1),fun σ' H' p'=>⟨xs.length-(i+1),by omega,rfl,hlt,p'⟩,fun x H' y=>?_⟩;obtain ⟨e,y⟩:=y;subst e;exact hs i x σ _ (y xs q) p
 ·have e:i=xs.length:=by omega
  subst e;exact .inl ⟨⟨xs,q,aFM _⟩,hd σ H p⟩
theorem pZ {lo:Int}{n:Nat}{g:TG}{tb:TS}{D:Ends}{σ:St}{H:Hp}(Pv:Nat->St->Hp->Prop)(h0:Pv 0 σ H)
  (hs:∀ i σ H,i<n->Pv i σ H->g (.int (lo+i)) σ H fun σ2 H2=>tb { D with nx:=Pv (i+1),ct:=Pv (i+1),bk:=D.nx } σ2 H2) (hd:∀ σ H,Pv n σ H->D.nx σ H) :
  ∃ W:Nat->Nat->St->Hp->Prop,(∃ m,W 0 m σ H)/\∀ i m σ H,W i m σ H ->
   ((Nb lo n).stop i H/\D.nx σ H)∨((Nb lo n).go i H/\∃ N:St->Hp->Prop,(∀ σ' H',N σ' H'->∃ m',m'<m/\W (i+1) m' σ' H')/\∀ x H',(Nb lo n).yld i H x H'->g x σ H' fun σ2 H2=>tb { D with nx:=N,ct:=N,bk:=D.nx } σ2 H2):=by
 refine ⟨fun i m σ H=>m=n-i/\i<=n/\Pv i σ H,⟨n,by simp,aGa _,h0⟩,?_⟩;rintro i m σ H ⟨rfl,hi,p⟩
 by_cases hlt:i<n
 ·refine .inr ⟨hlt,Pv (i+1),fun σ' H' p'=>⟨n-(i+1),by omega,rfl,hlt,p'⟩,fun x H' y=>?_⟩;obtain ⟨e,y⟩:=y;subst e y;exact hs i σ _ hlt p
 ·have e:i=n:=by omega
  subst e;exact .inl ⟨aFM _,hd σ H p⟩
theorem BP {c:TT}{tb:TS}{D:Ends}{σ:St}{H:Hp}(Pv:St->Hp->Prop)(μ:St->Hp->Nat)(h0:Pv σ H)
  (hs:∀ σ H,Pv σ H->c σ H fun b H1=>if b=true then tb { D with nx:=fun σ' H'=>Pv σ' H'/\μ σ' H' < μ σ H,ct:=fun σ' H'=>Pv σ' H'/\μ σ' H' < μ σ H,bk:=D.nx } σ H1 else D.nx σ H1)
  (mono:∀ σ H Q Q',(∀ b H1,Q b H1->Q' b H1)->c σ H Q->c σ H Q'):Gq c tb D σ H:=by
 refine ⟨fun m σ H=>m = μ σ H/\Pv σ H,⟨_,rfl,h0⟩,?_⟩;rintro m σ H ⟨rfl,p⟩;refine mono σ H _ _ (fun b H1 q=>?_) (hs σ H p);cases b with
 | true=>exact ⟨_,fun σ' H' ⟨p',l⟩=>⟨_,l,rfl,p'⟩,q⟩
 | false=>exact q
abbrev R2:=V->V->Hp->VK->Prop
def oA (X:Cx)(f:Value->Value->Sem Value)(r:R2):Prop :=
 ∀ (pins:List (Addr×Obj)) (s:Shared) (σ:St) (H:Hp) (x y:V) (v u:Value) (Q:VK),aW X pins σ H s->RelV x v->RelV y u->r x y H Q ->
  wpAny (model X.prog X.w) X.A (f v u) (EP X pins σ Q) X.xe s
def Wk (X:Cx)(f:Value->Sem Value)(r:V->Hp->VK->Prop):Prop :=
 ∀ (pins:List (Addr×Obj)) (s:Shared) (σ:St) (H:Hp) (x:V) (v:Value) (Q:VK),aW X pins σ H s->RelV x v->r x H Q ->
  wpAny (model X.prog X.w) X.A (f v) (EP X pins σ Q) X.xe s
def d8 (X:Cx)(f:Value)(r:List V->Hp->VK->Prop):Prop :=
 ∀ (pins:List (Addr×Obj)) (s:Shared) (σ:St) (H:Hp) (xs:List V) (us:List Value) (Q:VK),aW X pins σ H s->bZ xs us->r xs H Q ->
  wpAny (model X.prog X.w) X.A (call f us) (EP X pins σ Q) X.xe s
def J4 (r:R2)(ta tb:TE):TE:=fun σ H Q=>ta σ H fun x H1=>tb σ H1 fun y H2=>r x y H2 Q
def tUn (r:V->Hp->VK->Prop)(ta:TE):TE:=fun σ H Q=>ta σ H fun x H1=>r x H1 Q
def rI (C:Int->Int->Prop)(g:Int->Int->V):R2:=fun x y H Q=>∃ i j,x=.int i/\y=.int j/\C i j/\Q (g i j) H
def J6 (g:Int->Int->V):R2:=fun x y H Q=>∃ i j,x=.int i/\y=.int j/\Q (g i j) H
def rU (g:Int->V):V->Hp->VK->Prop:=fun x H Q=>∃ i,x=.int i/\Q (g i) H
section
variable {X:Cx}{a b c:Expr}{ta tb tc:TE}{pos:Pos}
theorem OJ (ha:PE X a ta)(hb:PE X b tb){pins:List (Addr×Obj)}{s:Shared}{σ:St}{H:Hp}{R:V->V->Hp->Prop}(I:aW X pins σ H s)
  (h:ta σ H fun x H1=>tb σ H1 fun y H2=>R x y H2) {Q:Value->Shared->Prop}{f:Value->Value->Sem Value}
  (hf:∀ v u s2 x y H2,aW X pins σ H2 s2->RelV x v->RelV y u->R x y H2->wpAny (model X.prog X.w) X.A (f v u) Q X.xe s2) :
  wpAny (model X.prog X.w) X.A (eval a X.env) (fun v s₁=>wpAny (model X.prog X.w) X.A (eval b X.env) (fun u s₂=>wpAny (model X.prog X.w) X.A (f v u) Q X.xe s₂) X.xe s₁) X.xe s:=by
 refine dD (ha pins s σ H _ I h) fun v s1 ⟨x,H1,I1,r1,q1⟩=>?_;refine dD (hb pins s1 σ H1 _ I1 q1) fun u s2 ⟨y,H2,I2,r2,q2⟩=>?_;exact hf v u s2 x y H2 I2 r1 r2 q2
theorem aM {op:Operator}{r:R2}(ho:oA X (binaryOp op) r)(ha:PE X a ta)(hb:PE X b tb):PE X (.BinOp a op b pos) (J4 r ta tb):=by
 intro pins s σ H Q I h;exact wpAny_BinOp (OJ ha hb I h fun v u s2 x y H2 I2 rx ry q=>ho pins s2 σ H2 x y v u Q I2 rx ry q)
theorem M3 {op:UnaryOp}{r:V->Hp->VK->Prop}(ho:Wk X (unaryOp op) r)(ha:PE X a ta):PE X (.UnaryOp op a pos) (tUn r ta):=by
 intro pins s σ H Q I h;exact UnaryOp_ (dD (ha pins s σ H _ I h) fun v s1 ⟨x,H1,I1,r1,q1⟩=>ho pins s1 σ H1 x v Q I1 r1 q1)
theorem O9 {f:Value->Value->Sem Value}{C:Int->Int->Prop}{g:Int->Int->Int}
  (rule:∀ (i j:Int) (t u:Tok) (s:Shared) (Q:Value->Shared->Prop) (E:Value->Shared->Prop),C i j->Q (.int (g i j) s.toks) { s with toks:=s.toks+1 }->wpAny (model X.prog X.w) X.A (f (.int i t) (.int j u)) Q E s) :
  oA X f (rI C fun i j=>.int (g i j)):=by
 intro pins s σ H x y v u Q I rx ry h;obtain ⟨i,j,rfl,rfl,hc,q⟩:=h;obtain ⟨t,rfl⟩:=rx;obtain ⟨t',rfl⟩:=ry;exact rule i j t t' s _ _ hc ⟨.int (g i j),H,I.tok _,⟨_,rfl⟩,q⟩
theorem Pa {f:Value->Value->Sem Value}{g:Int->Int->Int}
  (rule:∀ (i j:Int) (t u:Tok) (s:Shared) (Q:Value->Shared->Prop) (E:Value->Shared->Prop),Q (.int (g i j) s.toks) { s with toks:=s.toks+1 }->wpAny (model X.prog X.w) X.A (f (.int i t) (.int j u)) Q E s) :
  oA X f (J6 fun i j=>.int (g i j)):=by
 intro pins s σ H x y v u Q I rx ry h;obtain ⟨i,j,rfl,rfl,q⟩:=h;obtain ⟨t,rfl⟩:=rx;obtain ⟨t',rfl⟩:=ry;exact rule i j t t' s _ _ ⟨.int (g i j),H,I.tok _,⟨_,rfl⟩,q⟩
theorem Jd {f:Value->Value->Sem Value}{g:Int->Int->Bool}
  (rule:∀ (i j:Int) (t u:Tok) (s:Shared) (Q:Value->Shared->Prop) (E:Value->Shared->Prop),Q (.bool (g i j)) s->wpAny (model X.prog X.w) X.A (f (.int i t) (.int j u)) Q E s) :
  oA X f (J6 fun i j=>.bl (g i j)):=by
 intro pins s σ H x y v u Q I rx ry h;obtain ⟨i,j,rfl,rfl,q⟩:=h;obtain ⟨t,rfl⟩:=rx;obtain ⟨t',rfl⟩:=ry;exact rule i j t t' s _ _ ⟨.bl (g i j),H,I,rfl,q⟩
def YJ (i j:Int):Prop:=0<j/\j<1073741824
def Te (i j:Int):Prop:=0<=j/\j<=1000000/\i.natAbs<2^64
def K7 (i j:Int):Prop:=(-(2^64)<i/\i<2^64)∨(-(2^64)<j/\j<2^64)
theorem K7.ok {i j:Int}(h:K7 i j):IntMulOk i j:=by
 rcases h with ⟨h1,h2⟩ | ⟨h1,h2⟩
 ·exact .of_left (intBits_le_64 h1 h2)
 ·exact .of_right (intBits_le_64 h1 h2)
theorem cL:oA X (binaryOp .Add) (J6 fun i j=>.int (i+j)):=Pa fun _ _ _ _ _ _ _ q=>add_int q
theorem pC:oA X (binaryOp .Sub) (J6 fun i j=>.int (i-j)):=Pa fun _ _ _ _ _ _ _ q=>sub_int q
theorem yC:oA X (binaryOp .Mult) (rI K7 fun i j=>.int (i*j)):=O9 fun _ _ _ _ _ _ _ hc q=>mul_int q hc.ok
theorem gO:oA X (binaryOp .FloorDiv) (rI YJ fun i j=>.int (i/j)):=O9 fun i j _ _ _ _ _ hc q=>by
 have h1:(0:Int)<j:=hc.1;have h2:j<1073741824:=hc.2;exact floordiv_int (by omega) (by rw [aGJ i (by omega)]; exact q) (.inl (PyProof.noPylong_small (by omega)))
theorem bU:oA X (binaryOp .Mod) (rI (fun _ j=>0<j) fun i j=>.int (i%j)):=O9 fun i j _ _ _ _ _ hc q=>by
 have h1:(0:Int)<j:=hc;exact mod_int' (by omega) (by rw [Int.fmod_eq_emod_of_nonneg i (by omega)]; exact q)
theorem Em:oA X (binaryOp .Mod) (rI (fun _ j=>j≠0) fun i j=>.int (i.fmod j)):=O9 fun _ _ _ _ _ _ _ hc q=>mod_int' hc q
theorem nA:oA X (binaryOp .Pow) (rI Te fun i j=>.int (i^j.toNat)):=O9 fun _ _ _ _ _ _ _ hc q=>pow_int_small hc.1 hc.2.1 hc.2.2 q
theorem unI {f:Value->Sem Value}{g:Int->Int}
  (rule:∀ (i:Int) (t:Tok) (s:Shared) (Q:Value->Shared->Prop) (E:Value->Shared->Prop),Q (.int (g i) s.toks) { s with toks:=s.toks+1 }->wpAny (model X.prog X.w) X.A (f (.int i t)) Q E s) :
  Wk X f (rU fun i=>.int (g i)):=by
 intro pins s σ H x v Q I rx h;obtain ⟨i,rfl,q⟩:=h;obtain ⟨t,rfl⟩:=rx;exact rule i t s _ _ ⟨.int (g i),H,I.tok _,⟨_,rfl⟩,q⟩
theorem Hv:Wk X (unaryOp .USub) (rU fun i=>.int (-i)):=unI fun _ _ _ _ _ q=>neg_int q
end
def S5:V->V->Bool
 | .non,.non=>true | .non,.int _=>true | .int _,.non=>true | .non,.bl _=>true | .bl _,.non=>true | .non,.str _=>true | .str _,.non=>true
 | .int _,.int _=>true | .bl _,.bl _=>true | .str _,.str _=>true | .byt _,.byt _=>true
 | .int _,.str _=>true | .str _,.int _=>true | .bl _,.str _=>true | .str _,.bl _=>true
 | _,_=>false
def rEq:R2:=fun x y H Q=>S5 x y=true/\Q (.bl (decide (x=y))) H
def rNe:R2:=fun x y H Q=>S5 x y=true/\Q (.bl (!decide (x=y))) H
theorem Ea {i j:Int}:decide (V.int i=V.int j)=(i==j):=by
 rw [aG7];simp
theorem Hl {i j:Bool}:decide (V.bl i=V.bl j)=(i==j):=by
 rw [aG7];simp
theorem Dj {i j:Str}:decide (V.str i=V.str j)=(i==j):=by
 rw [aG7];simp
theorem Dn {i j:Array UInt8}:decide (V.byt i=V.byt j)=(i.toList==j.toList):=by
 rw [aG7];cases i;cases j;simp
section
variable {X:Cx}{a b c:Expr}{ta tb tc:TE}{pos:Pos}
theorem bY {pins:List (Addr×Obj)}{σ:St}{H:Hp}{s:Shared}{Q:VK}{k k':Bool}(I:aW X pins σ H s)(q:Q (.bl k) H)(e:k=k'):EP X pins σ Q (.bool k') s:=by
 subst e;exact ⟨.bl k,H,I,rfl,q⟩
theorem dM:oA X (compareOp .Eq) rEq:=by
 intro pins s σ H x y v u Q I rx ry h;obtain ⟨hs,q⟩:=h;cases x with
 | non =>
  cases rx;cases y with
  | non=>cases ry; exact PySem.EqNone.eq_none_none (bY I q (by simp))
  | bl j=>cases ry; exact PySem.EqNone.eq_none_bool (bY I q (by simp))
  | int j=>obtain ⟨t',rfl⟩:=ry; exact PySem.EqNone.eq_none_int (bY I q (by simp))
  | str j=>obtain ⟨t',rfl⟩:=ry; exact PySem.EqNone.eq_none_str (bY I q (by simp))
  | _=>exact absurd (show false=true from hs) aF2
 | bl i =>
  cases rx;cases y with
  | non=>cases ry; exact PySem.EqNone.eq_bool_none (bY I q (by simp))
  | bl j=>cases ry; exact eq_bool (bY I q Hl)
  | str j=>obtain ⟨t',rfl⟩:=ry; exact PySem.EqMixed.eq_bool_str (bY I q (by simp))
  | _=>exact absurd (show false=true from hs) aF2
 | int i =>
  obtain ⟨t,rfl⟩:=rx;cases y with
  | non=>cases ry; exact PySem.EqNone.eq_int_none (bY I q (by simp))
  | int j=>obtain ⟨t',rfl⟩:=ry; exact eq_int (bY I q Ea)
  | str j=>obtain ⟨t',rfl⟩:=ry; exact PySem.EqMixed.eq_int_str (bY I q (by simp))
  | _=>exact absurd (show false=true from hs) aF2
 | str i =>
  obtain ⟨t,rfl⟩:=rx;cases y with
  | non=>cases ry; exact PySem.EqNone.eq_str_none (bY I q (by simp))
  | bl j=>cases ry; exact PySem.EqMixed.eq_str_bool (bY I q (by simp))
  | int j=>obtain ⟨t',rfl⟩:=ry; exact PySem.EqMixed.eq_str_int (bY I q (by simp))
  | str j=>obtain ⟨t',rfl⟩:=ry; exact eq_str (bY I q Dj)
  | _=>exact absurd (show false=true from hs) aF2
 | byt i =>
  obtain ⟨t,rfl⟩:=rx;cases y with
  | byt j=>obtain ⟨t',rfl⟩:=ry; exact PySem.W.eq_bytes (bY I q Dn)
  | _=>exact absurd (show false=true from hs) aF2
 | _=>cases y <;> exact absurd (show false=true from hs) aF2
theorem Gj:oA X (compareOp .NotEq) rNe:=by
 intro pins s σ H x y v u Q I rx ry h;obtain ⟨hs,q⟩:=h;cases x with
 | non =>
  cases rx;cases y with
  | non=>cases ry; exact PySem.EqNone.ne_none_none (bY I q (by simp))
  | bl j=>cases ry; exact PySem.EqNone.ne_none_bool (bY I q (by simp))
  | int j=>obtain ⟨t',rfl⟩:=ry; exact PySem.EqNone.ne_none_int (bY I q (by simp))
  | str j=>obtain ⟨t',rfl⟩:=ry; exact PySem.EqNone.ne_none_str (bY I q (by simp))
  | _=>exact absurd (show false=true from hs) aF2
 | bl i =>
  cases rx;cases y with
  | non=>cases ry; exact PySem.EqNone.ne_bool_none (bY I q (by simp))
  | bl j=>cases ry; exact ne_bool (bY I q (congrArg not Hl))
  | str j=>obtain ⟨t',rfl⟩:=ry; exact PySem.EqMixed.ne_bool_str (bY I q (by simp))
  | _=>exact absurd (show false=true from hs) aF2
 | int i =>
  obtain ⟨t,rfl⟩:=rx;cases y with
  | non=>cases ry; exact PySem.EqNone.ne_int_none (bY I q (by simp))
  | int j=>obtain ⟨t',rfl⟩:=ry; exact ne_int (bY I q (congrArg not Ea))
  | str j=>obtain ⟨t',rfl⟩:=ry; exact PySem.EqMixed.ne_int_str (bY I q (by simp))
  | _=>exact absurd (show false=true from hs) aF2
 | str i =>
  obtain ⟨t,rfl⟩:=rx;cases y with
  | non=>cases ry; exact PySem.EqNone.ne_str_none (bY I q (by simp))
  | bl j=>cases ry; exact PySem.EqMixed.ne_str_bool (bY I q (by simp))
  | int j=>obtain ⟨t',rfl⟩:=ry; exact PySem.EqMixed.ne_str_int (bY I q (by simp))
  | str j=>obtain ⟨t',rfl⟩:=ry; exact ne_str (bY I q (congrArg not Dj))
  | _=>exact absurd (show false=true from hs) aF2
 | byt i =>
  obtain ⟨t,rfl⟩:=rx;cases y with
  | byt j=>obtain ⟨t',rfl⟩:=ry; exact PySem.W.ne_bytes (bY I q (congrArg not Dn))
  | _=>exact absurd (show false=true from hs) aF2
 | _=>cases y <;> exact absurd (show false=true from hs) aF2
theorem zJ:oA X (compareOp .Lt) (J6 fun i j=>.bl (decide (i<j))):=Jd fun _ _ _ _ _ _ _ q=>lt_int q
theorem uD:oA X (compareOp .LtE) (J6 fun i j=>.bl (decide (i<=j))):=Jd fun _ _ _ _ _ _ _ q=>le_int q
theorem uC:oA X (compareOp .Gt) (J6 fun i j=>.bl (decide (j<i))):=Jd fun _ _ _ _ _ _ _ q=>gt_int q
theorem Ru:oA X (compareOp .GtE) (J6 fun i j=>.bl (decide (j<=i))):=Jd fun _ _ _ _ _ _ _ q=>ge_int q
theorem Oi:oA X (compareOp .Is) (fun x y H Q=>y=.non/\Q (.bl (decide (x=.non))) H):=by
 intro pins s σ H x y v u Q I rx ry h;obtain ⟨rfl,q⟩:=h;cases ry;refine is_none_gen (bY I q ?_);cases x <;> first
  | (cases rx; rfl)
  | (obtain ⟨t,rfl⟩:=rx; rfl)
theorem bK (b:Expr){op:CmpOp}(h:op≠.In:=by decide)(h2:op≠.NotIn:=by decide):behindInMarks op b=false:=by
 have e1:(op==CmpOp.In)=false:=by cases op <;> first | rfl | exact absurd rfl h
 have e2:(op==CmpOp.NotIn)=false:=by cases op <;> first | rfl | exact absurd rfl h2
 cases b <;> simp [behindInMarks,e1,e2]
theorem Eh {op:CmpOp}{r:R2}(ho:oA X (compareOp op) r)(ha:PE X a ta)(hb:PE X b tb)(hm:behindInMarks op b=false):PE X (.Compare a [op] [b] pos) (J4 r ta tb):=by
 intro pins s σ H Q I h;exact wpAny_Compare1 (OJ ha hb I h fun v u s2 x y H2 I2 rx ry q=>ho pins s2 σ H2 x y v u Q I2 rx ry q) hm
def Gz (t:TE):TT:=fun σ H Q=>t σ H fun x H'=>∃ k,x=.bl k/\Q k H'
theorem aZ {op:CmpOp}{r:R2}(ho:oA X (compareOp op) r)(ha:PE X a ta)(hb:PE X b tb)(hm:behindInMarks op b=false):PT X (.Compare a [op] [b] pos) (Gz (J4 r ta tb)):=by
 intro pins s σ H Q I h;refine wpAny_isTrue_Compare1 (dD (ha pins s σ H _ I h) fun v s1 ⟨x,H1,I1,r1,q1⟩=>dD (hb pins s1 σ H1 _ I1 q1) fun u s2 ⟨y,H2,I2,r2,q2⟩ =>
  dD (ho pins s2 σ H2 x y v u _ I2 r1 r2 q2) fun c s3 ⟨z,H3,I3,r3,k,e,q3⟩=>?_) hm
 subst e;cases r3;exact wpAny_truthy_bool ⟨H3,I3,q3⟩
def IV (r r':R2)(ta tb tc:TE):TE:=fun σ H Q=>ta σ H fun x H1=>tb σ H1 fun y H2=>r x y H2 fun z H3=>∃ k,z=.bl k ∧
 (if k=true then tc σ H3 fun w' H4=>r' y w' H4 Q else Q (.bl false) H3)
theorem Gg {op op':CmpOp}{r r':R2}(ho:oA X (compareOp op) r)(ho':oA X (compareOp op') r')(ha:PE X a ta)(hb:PE X b tb)(hc:PE X c tc)
  (hm:lastMarks [op,op'] [b,c]=false:=by with_unfolding_all rfl):PE X (.Compare a [op,op'] [b,c] pos) (IV r r' ta tb tc):=by
 intro pins s σ H Q I h;refine Compare_chain (dD (ha pins s σ H _ I h) fun v s1 ⟨x,H1,I1,r1,q1⟩=>chain_link (dD (hb pins s1 σ H1 _ I1 q1) fun u s2 ⟨y,H2,I2,r2,q2⟩ =>
  dD (ho pins s2 σ H2 x y v u _ I2 r1 r2 q2) fun d s3 ⟨z,H3,I3,r3,k,e,q3⟩=>?_)) hm
 subst e;cases r3;refine wpAny_truthy_bool ?_;cases k with
 | false=>exact ite_ff ⟨.bl false,H3,I3,rfl,q3⟩
 | true=>exact ite_tt (chain_last (dD (hc pins s3 σ H3 _ I3 q3) fun w' s4 ⟨z',H4,I4,r4,q4⟩=>ho' pins s4 σ H4 y z' u w' Q I4 r2 r4 q4))
theorem Av {op op':CmpOp}{r r':R2}(ho:oA X (compareOp op) r)(ho':oA X (compareOp op') r')(ha:PE X a ta)(hb:PE X b tb)(hc:PE X c tc)
  (hm:lastMarks [op,op'] [b,c]=false:=by with_unfolding_all rfl):PT X (.Compare a [op,op'] [b,c] pos) (Gz (IV r r' ta tb tc)):=by
 intro pins s σ H Q I h;refine isTrue_chain (dD (ha pins s σ H _ I h) fun v s1 ⟨x,H1,I1,r1,q1⟩=>test_link (dD (hb pins s1 σ H1 _ I1 q1) fun u s2 ⟨y,H2,I2,r2,q2⟩ =>
  dD (ho pins s2 σ H2 x y v u _ I2 r1 r2 q2) fun d s3 ⟨z,H3,I3,r3,k,e,q3⟩=>?_)) hm
 subst e;cases r3;refine wpAny_truthy_bool ?_;cases k with
 | false =>
  obtain ⟨k',e',q'⟩:=q3;cases e';exact ite_ff ⟨H3,I3,q'⟩
 | true =>
  refine ite_tt (test_last (dD (hc pins s3 σ H3 _ I3 q3) fun w' s4 ⟨z',H4,I4,r4,q4⟩=>dD (ho' pins s4 σ H4 y z' u w' _ I4 r2 r4 q4) fun d' s5 ⟨z2,H5,I5,r5,k2,e2,q5⟩=>?_));subst e2;cases r5;exact wpAny_truthy_bool ⟨H5,I5,q5⟩
theorem Ci:(sizeLine:Nat)<2^63:=by rw [sizeLine_eq]; decide
theorem vals1 {x:V}{us:List Value}(r:bZ [x] us):∃ u,us=[u]/\RelV x u:=by
 cases r with
 | cons r1 r2=>cases r2; exact ⟨_,rfl,r1⟩
theorem vals2 {x y:V}{us:List Value}(r:bZ [x,y] us):∃ u w',us=[u,w']/\RelV x u/\RelV y w':=by
 cases r with
 | cons r1 r2 =>
  cases r2 with
  | cons r3 r4=>cases r4; exact ⟨_,_,rfl,r1,r3⟩
theorem tX:d8 X (.builtin "abs") (fun xs H Q=>∃ i,xs=[.int i]/\Q (.int (if i<0 then -i else i)) H):=by
 intro pins s σ H xs us Q I r h;obtain ⟨i,rfl,q⟩:=h;obtain ⟨u,rfl,t,rfl⟩:=vals1 r;exact call_abs_int fun u tk=>⟨.int (if i<0 then -i else i),H,I.tok _,⟨_,rfl⟩,q⟩
theorem GQ (hc:X.calm=true):d8 X (.builtin "max") (fun xs H Q=>∃ i j,xs=[.int i,.int j]/\Q (.int (if j > i then j else i)) H):=by
 intro pins s σ H xs us Q I r h;obtain ⟨i,j,rfl,q⟩:=h;obtain ⟨u,w',rfl,⟨t,rfl⟩,⟨t',rfl⟩⟩:=vals2 r;refine max_two_ints (I.ok.hd hc) fun h' tk k=>⟨_,H,I.kept k,?_,q⟩
 by_cases hj:j > i
 ·rw [if_pos hj,if_pos hj]; exact ⟨_,rfl⟩
 ·rw [if_neg hj,if_neg hj]; exact ⟨_,rfl⟩
theorem vK (hc:X.calm=true):d8 X (.builtin "min") (fun xs H Q=>∃ i j,xs=[.int i,.int j]/\Q (.int (if j<i then j else i)) H):=by
 intro pins s σ H xs us Q I r h;obtain ⟨i,j,rfl,q⟩:=h;obtain ⟨u,w',rfl,⟨t,rfl⟩,⟨t',rfl⟩⟩:=vals2 r;refine min_two_ints (I.ok.hd hc) fun h' tk k=>⟨_,H,I.kept k,?_,q⟩
 by_cases hj:j<i
 ·rw [if_pos hj,if_pos hj]; exact ⟨_,rfl⟩
 ·rw [if_neg hj,if_neg hj]; exact ⟨_,rfl⟩
end
structure Be (h:Heap)(x dx C:Addr)(mA:Str->Option Value):Prop where
 obj:h.get? x=some (PySem.W.instObj C dx)
 ns:h.Ns1 dx mA
 ne:dx≠x
theorem GR {h:Heap}{dx:Addr}{mA:Str->Option Value}(n:h.Ns1 dx mA):∃ od,h.get? dx=some od/\∀ name,PySem.W.lookIn name od=some (mA name):=by
 obtain ⟨o,es,ep,ho,hd,hk,_,hm⟩:=n;refine ⟨o,ho,fun name=>?_⟩;have e:=hm name;unfold nsFind findBy at e;rw [<- Array.find?_toList] at e;unfold PySem.W.lookIn;rw [hd];dsimp only
 split
 ·rename_i y q;rw [q] at e;exact congrArg some e
 ·rename_i q;rw [q] at e;have a:es.toList.any (·.refKey)=false:=by
   rw [aH5];intro y hy;obtain ⟨z,t,hkey⟩:=hk y (Array.mem_toList_iff.mp hy);simp [DictEntry.refKey,hkey]
  have a':¬ es.toList.any (·.refKey)=true:=by rw [a]; exact aF2
  rw [if_neg a'];exact congrArg some e
theorem Be.look {h:Heap}{x dx C:Addr}{mA:Str->Option Value}(I:Be h x dx C mA):∃ od,PySem.W.InstAt h x (PySem.W.instObj C dx) C (some od)/\∀ name,PySem.W.lookIn name od=some (mA name) :=
 let ⟨od,ho,hl⟩:=GR I.ns
 ⟨od,⟨I.obj,rfl,rfl,ho⟩,hl⟩
section
variable {prog:Program}{w:World}{A:Around}{E:Value->Shared->Prop}{s:Shared}{K:PySem.W.Frag}{x dx C f:Addr}{mA:Str->Option Value}{name:Str}{v:Value}
theorem Jz {expr:Bool}{Q:Value->Shared->Prop}(X:K.In s.heap)(I:Be s.heap x dx C mA)(hg:PySem.W.plainGet K C name=true)(hh:PySem.W.hasDictIn K C=true)
  (ha:PySem.W.findIn K (.ref C) name=some none) (hv:mA name=some v) (hv':PySem.W.handedIn v=true) (h:Q v { s with toks:=s.toks+1 }) :
  wpAny (model prog w) A (getAttr (.ref x) name expr) Q E s:=by
 obtain ⟨od,J,hl⟩:=I.look;exact PySem.W.get_value X J (PySem.W.plainGet_of hg).1 (PySem.W.findObj_own hh ha rfl (by rw [hl,hv])) hv' h
theorem Gf {pl:Sem Bool}{Q:Value×List Value->Shared->Prop}(X:K.In s.heap)(I:Be s.heap x dx C mA)(hg:PySem.W.plainGet K C name=true)
  (hf:PySem.W.findIn K (.ref C) name=some (some (.ref f))) (ht:PySem.W.isFn K (.ref f)=true) (hv:mA name=none) (h:Q (.ref f,[.ref x]) s) :
  wpAny (model prog w) A (getMethod (.ref x) name pl) Q E s:=by
 obtain ⟨od,J,hl⟩:=I.look;exact PySem.W.method_fn X J (PySem.W.plainGet_of hg).1 (PySem.W.plainGet_of hg).2 hf (beq_iff_eq.mp ht) (by show (PySem.W.lookIn name od).map (·.isSome)=some false; rw [hl,hv]; rfl) h
theorem K3 {ns:List Str}{Q:Unit->Shared->Prop}(X:K.In s.heap)(I:Be s.heap x dx C mA)
  (hs:PySem.W.findIn K (.ref C) "__setattr__" = some (some (.builtin "object.__setattr__"))) (hp:PySem.W.plainOver K C=true) (ht:PySem.W.takerIn K C name=some none) (hh:PySem.W.hasDictIn K C=true)
  (hw:PySem.Within mA ns) (hsz:ns.length<=sizeLine)
  (h:∀ h',Be h' x dx C (fun y=>if y=name then some v else mA y)->aGi dx s.heap h'->Q () { s with heap:=h',toks:=s.toks+2 }) :
  wpAny (model prog w) A (setAttr (.ref x) name v) Q E s:=by
 obtain ⟨od,J,hl⟩:=I.look;refine PySem.W.set_plain X J hs (PySem.W.osa_open (s:={ s with toks:=s.toks+1 }) (r:=none) X J hp ht fun b=>?_);obtain ⟨cd,hc,hd'⟩:=PySem.W.any_some hh;have hx:s.heap.get? x=some ⟨.ref C,some dx,.plain,#[]⟩:=I.obj;refine wpAny_bind (wpAny_pure (wpAny_bind (wpAny_bind (wpAny_loadPart hx (wpAny_bind (PySem.W.Looks.here (s:={ s with toks:=s.toks+1 }) (PySem.W.looks_clsIn X hc) ?_))))));rw [hd'];refine wpAny_pure (a:=some dx) (wpAny_bind (wpAny_pure (wpAny_bind ?_)));refine wpAny_nsSet1 (s:={ s with toks:=s.toks+1 }) I.ns fun h' hn2 hs2=>?_;obtain ⟨oD,esD,epD,hoD,hdD,hcD⟩:=hn2.count (PySem.Within.cons name v hw);refine wpAny_bind (wpAny_lookBehind hoD (by rw [hdD]; exact pastItsLine_dict (aFJ hcD (by rw [aGf]; omega))) ?_);exact wpAny_pure (h _ ⟨(hs2.2 _ (Ne.symm I.ne)).trans I.obj,hn2,I.ne⟩ hs2)
theorem Gw {R:Result->Shared->Prop}{vs:List Value}{kw:List (Str×Value)}(X:K.In s.heap)(hm:PySem.W.makesIn K C=true)
  (hi:PySem.W.findIn K (.ref C) "__init__" = some (some (.ref f))) (hf:PySem.W.typeIn K (.ref f)=some (.type "function"))
  (h:codeAny (model prog w) (A.under (.builtin "type.__call__" ⟨.ref C::vs,kw⟩)) (.call (.ref f) ⟨.ref (s.heap.objs.size+1)::vs,kw⟩) (PySem.W.InitBack (s.heap.objs.size+1) R)
   { s with heap:=(s.heap.push PySem.W.emptyDict).push (PySem.W.instObj C s.heap.objs.size) }) :
  codeAny (model prog w) A (.call (.ref C) ⟨vs,kw⟩) R s:=by
 obtain ⟨hh,g,d,t,os⟩:=s;exact PySem.W.make_core (PySem.W.makes_of X hm) (PySem.W.looks_findIn X hi) (fun self=>PySem.W.bind_fn X self hf) (.inl rfl) h
theorem FW {R:Result->Shared->Prop}(X:K.In s.heap)(hm:PySem.W.makesIn K C=true)
  (hi:PySem.W.findIn K (.ref C) "__init__" = some (some (.builtin "object.__init__")))
  (hb:∀ self,PySem.W.Looks (model prog w) s.heap (bindSpecial (.builtin "object.__init__") self) (.builtin "object.__init__",[self]))
  (h:codeAny (model prog w) (A.under (.builtin "type.__call__" ⟨[.ref C],[]⟩)) (.call (.builtin "object.__init__") ⟨[.ref (s.heap.objs.size+1)],[]⟩) (PySem.W.InitBack (s.heap.objs.size+1) R)
   { s with heap:=(s.heap.push PySem.W.emptyDict).push (PySem.W.instObj C s.heap.objs.size) }) :
  codeAny (model prog w) A (.call (.ref C) ⟨[],[]⟩) R s:=by
 obtain ⟨hh,g,d,t,os⟩:=s;exact PySem.W.make_core (PySem.W.makes_of X hm) (PySem.W.looks_findIn X hi) hb (.inr ⟨rfl,rfl⟩) h
end
def fU (f:Str)(v:V):List (Str×V)->List (Str×V)
 | []=>[(f,v)]
 | (g,x)::r=>if g=f then (g,v)::r else (g,x)::fU f v r
theorem iZ (f g:Str)(v:V):∀ fs:List (Str×V),(fU f v fs).lookup g=if g=f then some v else fs.lookup g
 | []=>by
  show aGV g [(f,v)]=_
  by_cases h:g=f
  ·have hb:(g==f)=true:=beq_iff_eq.mpr h;simp only [aGV,hb,if_pos h]
  ·have hb:(g==f)=false:=beq_eq_false_iff_ne.mpr h;simp only [aGV,hb,if_neg h]
 | (k,x)::r=>by
  have ih:=iZ f g v r;rw [show fU f v ((k,x)::r)=(if k=f then (k,v)::r else (k,x)::fU f v r) from rfl]
  by_cases hk:k=f
  ·rw [if_pos hk]
   by_cases h:g=k
   ·have hb:(g==k)=true:=beq_iff_eq.mpr h;simp only [aGV,hb,if_pos (h.trans hk)]
   ·have hb:(g==k)=false:=beq_eq_false_iff_ne.mpr h;simp only [aGV,hb,if_neg (fun e:g=f=>h (e.trans hk.symm))]
  ·rw [if_neg hk]
   by_cases h:g=k
   ·have hb:(g==k)=true:=beq_iff_eq.mpr h;simp only [aGV,hb,if_neg (fun e:g=f=>hk (h.symm.trans e))]
   ·have hb:(g==k)=false:=beq_eq_false_iff_ne.mpr h;simp only [aGV,hb];exact ih
theorem pK (f:Str)(v:V):∀ fs:List (Str×V),f∈(fU f v fs).map (·.1)/\∀ g,g∈fs.map (·.1)->g∈(fU f v fs).map (·.1)
 | []=>⟨by simp [fU],fun g h=>by simp at h⟩
 | (k,x)::r=>by
  obtain ⟨i1,i2⟩:=pK f v r;rw [show fU f v ((k,x)::r)=(if k=f then (k,v)::r else (k,x)::fU f v r) from rfl]
  by_cases hk:k=f
  ·rw [if_pos hk];subst hk;exact ⟨by simp,fun g h=>by simpa using h⟩
  ·rw [if_neg hk];refine ⟨?_,fun g h=>?_⟩
   ·rw [aFP];exact aFG _ i1
   ·rw [aFP] at h ⊢;rcases aF7.mp h with e | e
    ·exact aF7.mpr (.inl e)
    ·exact aFG _ (i2 g e)
theorem qH (f:Str)(v:V):∀ fs:List (Str×V),(fU f v fs).length<=fs.length+1
 | []=>by simp [fU]
 | (k,x)::r=>by
  have ih:=qH f v r;rw [show fU f v ((k,x)::r)=(if k=f then (k,v)::r else (k,x)::fU f v r) from rfl]
  by_cases hk:k=f
  ·rw [if_pos hk,aGf,aGf]; omega
  ·rw [if_neg hk,aGf,aGf]; omega
theorem lB.some_of {v:V}{o:Option Value}(r:lB (some v) o):∃ u,o=some u/\RelV v u:=by
 cases o with
 | none=>exact (show False from r).elim
 | some u=>exact ⟨u,rfl,r⟩
theorem lB.none_of {o:Option Value}(r:lB none o):o=none:=by
 cases o with
 | none=>rfl
 | some u=>exact (show False from r).elim
theorem GX {v:V}{u:Value}(r:RelV v u):PySem.W.handedIn u=true:=by
 cases v with
 | non=>cases (show u=Value.none from r); rfl
 | bl b=>cases (show u=Value.bool b from r); rfl
 | int i=>obtain ⟨t,e⟩:=(show ∃ t,u=Value.int i t from r); cases e; rfl
 | str x=>obtain ⟨t,e⟩:=(show ∃ t,u=Value.str x t from r); cases e; rfl
 | byt b=>obtain ⟨t,e⟩:=(show ∃ t,u=Value.bytes b t from r); cases e; rfl
 | flt b=>obtain ⟨t,e⟩:=(show ∃ t,u=Value.float b t from r); cases e; rfl
 | ref a=>cases (show u=Value.ref a from r); rfl
 | ty n=>cases (show u=Value.type n from r); rfl
section
variable {P:Program}{w:World}{H H':Hp}{h h':Heap}{a C dx:Addr}{fs fs':List (Str×V)}
theorem oX (hok:mC P w H h)(e:H a=some (.ins C dx fs)):∃ mA,Be h a dx C mA/\(∀ f,lB (fs.lookup f) (mA f))/\PySem.Within mA (fs.map (·.1))/\fs.length<=1000/\H dx=some (.own a):=by
 obtain ⟨d,z,ne,ob,mA,n,r,q⟩:=(show b7 P w H h a (.ins C dx fs) from hok a _ e)
 exact ⟨mA,⟨ob,n,ne⟩,r,q,z,d⟩
end
structure qX (K:PySem.W.Frag)(C:Addr):Prop where
 pg:PySem.W.plainGet K C Str.empty=true
 hd:PySem.W.hasDictIn K C=true
 po:PySem.W.plainOver K C=true
 sa:PySem.W.findIn K (.ref C) "__setattr__" = some (some (.builtin "object.__setattr__"))
theorem qX.get {K:PySem.W.Frag}{C:Addr}(c:qX K C)(f:Str):PySem.W.plainGet K C f=true:=c.pg
def bT (K:PySem.W.Frag)(C:Addr)(f:Str):Prop:=PySem.W.findIn K (.ref C) f=some none
theorem bT.taker {K:PySem.W.Frag}{C:Addr}{f:Str}(n:bT K C f):PySem.W.takerIn K C f=some none:=by
 unfold PySem.W.takerIn;rw [show PySem.W.findIn K (.ref C) f=some none from n]
 rfl
structure jF (K:PySem.W.Frag)(C:Addr)(m:Str)(f:Addr):Prop where
 at_:PySem.W.findIn K (.ref C) m=some (some (.ref f))
 fn:PySem.W.isFn K (.ref f)=true
 kp:PySem.W.keepIn K (.ref f)=true
section
variable {X:Cx}{pins:List (Addr×Obj)}{σ:St}{H:Hp}{s:Shared}{a C dx:Addr}{fs:List (Str×V)}{f:Str}{v:V}{A:Around}{E:Value->Shared->Prop}
theorem Bf {b:Bool}{Q:Value->Shared->Prop}(I:aW X pins σ H s)(e:H a=some (.ins C dx fs))(c:qX X.K C)(n:bT X.K C f)(l:fs.lookup f=some v)
  (h:∀ u s',aW X pins σ H s'->RelV v u->Q u s'):wpAny (model X.prog X.w) A (getAttr (.ref a) f b) Q E s:=by
 obtain ⟨mA,O,r,_,_,_⟩:=oX I.hok e;obtain ⟨u,hu,ru⟩:=lB.some_of (v:=v) (o:=mA f) (by rw [<- l]; exact r f);exact Jz I.kIn O (c.get f) c.hd n hu (GX ru) (h u _ (I.tok _) ru)
theorem tM {m:Str}{g:Addr}{pl:Sem Bool}{Q:Value×List Value->Shared->Prop}(I:aW X pins σ H s)(e:H a=some (.ins C dx fs))(c:qX X.K C)(k:jF X.K C m g)(l:fs.lookup m=none)
  (h:Q (.ref g,[.ref a]) s):wpAny (model X.prog X.w) A (getMethod (.ref a) m pl) Q E s:=by
 obtain ⟨mA,O,r,_,_,_⟩:=oX I.hok e;have hn:mA m=none:=lB.none_of (by rw [<- l]; exact r m);exact Gf I.kIn O (c.get m) k.at_ k.fn hn h
theorem Bx {y:V}{u:Value}{Q:Unit->Shared->Prop}(I:aW X pins σ H s)(e:H a=some (.ins C dx fs))(c:qX X.K C)(n:bT X.K C f)(hl:fs.length<1000)(ry:RelV y u)
  (h:∀ s',aW X pins σ (bG H a (.ins C dx (fU f y fs))) s'->Q () s'):wpAny (model X.prog X.w) A (setAttr (.ref a) f u) Q E s:=by
 obtain ⟨mA,O,r,wi,_,ho⟩:=oX I.hok e;have hz:(fs.map (·.1)).length<=sizeLine:=by rw [aFF,sizeLine_eq]; omega
 refine K3 I.kIn O c.sa c.po n.taker c.hd wi hz fun h' O' sb=>h _ ?_;have hd:∃ o,h'.get? dx=some o:=let ⟨o,_,_,e',_⟩:=O'.ns; ⟨o,e'⟩;refine I.write (x:=a) (e:=dx) (by rw [e]; exact True.intro) (.inr ho) (fun b q hb z=>(sb.2 b hb).trans z) hd ?_;refine ⟨by rw [aK O.ne]; exact ho,?_,O.ne,O'.obj,_,O'.ns,fun g=>?_,fun g hg=>?_⟩
 ·have:=qH f y fs; omega
 ·show lB ((fU f y fs).lookup g) (if g=f then some u else mA g);rw [iZ]
  by_cases q:g=f
  ·rw [if_pos q,if_pos q]; exact ry
  ·rw [if_neg q,if_neg q]; exact r g
 ·by_cases q:g=f
  ·rw [q]; exact (pK f y fs).1
  ·refine (pK f y fs).2 g (wi g fun z=>hg ?_);show (if g=f then some u else mA g)=none;rw [if_neg q]; exact z
theorem aW.made (I:aW X pins σ H s):aW X pins σ (bG (bG H s.heap.objs.size (.own (s.heap.objs.size+1))) (s.heap.objs.size+1) (.ins C s.heap.objs.size []))
  { s with heap:=(s.heap.push PySem.W.emptyDict).push (PySem.W.instObj C s.heap.objs.size) }:=by
 have e1:(s.heap.push PySem.W.emptyDict).get? s.heap.objs.size=some PySem.W.emptyDict:=aFV s.heap rfl;have e2:((s.heap.push PySem.W.emptyDict).push (PySem.W.instObj C s.heap.objs.size)).get? (s.heap.objs.size+1)=some (PySem.W.instObj C s.heap.objs.size):=by
  have:=aFV (s.heap.push PySem.W.emptyDict) (o:=PySem.W.instObj C s.heap.objs.size) rfl
  rwa [aHd] at this
 have e3:(s.heap.push PySem.W.emptyDict).Ns s.heap.objs.size (fun _=>none):=⟨PySem.W.emptyDict,#[],_,e1,rfl,(fun e he=>absurd he (by simp)),fun _=>rfl⟩
 have I1:=I.laid (a:=s.heap.objs.size) (o:=.own (s.heap.objs.size+1)) (h':=s.heap.push PySem.W.emptyDict) (t':=s.toks) (fun b u q=>aFH _ q) (aFM _) ⟨_,e1⟩;refine I1.laid (a:=s.heap.objs.size+1) (o:=.ins C s.heap.objs.size []) (t':=s.toks) (fun b u q=>aFH _ q) (aHF (aHd _ _)) ?_;have ne:s.heap.objs.size≠s.heap.objs.size+1:=aF6 (aHj _);refine ⟨by rw [aK ne,aB],aGa _,ne,e2,fun _=>none,(Heap.Ns1.of_empty e3).at fun o q=>aFH _ q,fun _=>True.intro,fun y hy=>absurd rfl hy⟩
theorem KR {prog:Program}{w:World}{env:Env}{e:Expr}{f:Str}{pos:Pos}{s:Shared}{Q:Value->Shared->Prop}(hb:attributeBase e f env (eval e env)=eval e env)
  (h:wpAny (model prog w) A (eval e env) (fun o s₁=>wpAny (model prog w) A (getAttr o f true) Q E s₁) E s):wpAny (model prog w) A (eval (.Attribute e f pos) env) Q E s :=
 Attribute_any_ h (by rw [arm_eval_Attribute,hb])
end
def aAf (K:PySem.W.Frag)(ta:TE)(f:Str):TE:=fun σ H Q=>ta σ H fun x H1=>∃ a C dx fs v,x=.ref a/\H1 a=some (.ins C dx fs)/\qX K C/\bT K C f/\fs.lookup f=some v/\Q v H1
def XH (K:PySem.W.Frag)(ta tv:TE)(f:Str):TS:=fun D σ H=>tv σ H fun y H1=>ta σ H1 fun x H2=>∃ a C dx fs,x=.ref a/\H2 a=some (.ins C dx fs)/\qX K C/\bT K C f/\fs.length<1000 ∧
 D.nx σ (bG H2 a (.ins C dx (fU f y fs)))
section
variable {X:Cx}{o e value:Expr}{f:Str}{pos pos' tpos:Pos}{ta tv:TE}
theorem fQ (he:PE X e ta)(hb:attributeBase e f X.env (eval e X.env)=eval e X.env):PE X (.Attribute e f pos) (aAf X.K ta f):=by
 intro pins s σ H Q I h;refine KR hb (dD (he pins s σ H _ I h) fun u s1 ⟨x,H1,I1,rx,a,C,dx,fs,v,ex,ea,c,n,l,q⟩=>?_);subst ex;obtain rfl:u=Value.ref a:=rx;exact Bf I1 ea c n l fun u' s2 I2 ru=>⟨v,H1,I2,ru,q⟩
theorem eV (ha:PE X o ta)(hv:PE X value tv)(hs:swapsWith value (some (.Attribute o f pos')) pos.line X.env=pure false):PS X (.Assign [.Attribute o f pos'] value pos) (XH X.K ta tv f):=by
 intro pins s σ H D I h;refine plainObj_wpAny_Assign_Attribute (dD (hv pins s σ H _ I h) fun u s1 ⟨y,H1,I1,ry,q⟩=>dD (ha pins s1 σ H1 _ I1 q) fun ov s2 ⟨x,H2,I2,rx,a,C,dx,fs,ex,ea,c,n,l,q2⟩=>?_) hs;subst ex;obtain rfl:ov=Value.ref a:=rx;exact Bx I2 ea c n l ry fun s3 I3=>⟨σ,_,I3,q2⟩
theorem Lb {pl:Sem Bool}{m:Str}{apos:Pos}{args:List Expr}{pins:List (Addr×Obj)}{s:Shared}{σ:St}{H:Hp}{Q:Value->Shared->Prop}{te:TE}(he:PE X e te)(I:aW X pins σ H s)
  (h:te σ H fun x H1=>∃ a C dx fs g,x=.ref a/\H1 a=some (.ins C dx fs)/\qX X.K C/\jF X.K C m g/\fs.lookup m=none ∧
   ∀ s1,aW X pins σ H1 s1->wpAny (model X.prog X.w) X.A (callWith pos (.ref g) [.ref a] (backTo pos (starEach args X.env)) (backToKw pos (keywordEach [] X.env))) Q X.xe s1)
  (ht:eval (.Call (.Attribute e m apos) args [] pos) X.env=(do
   let ov <- eval e X.env
   standAt apos.atName
   let (f,first) <- holding [ov] (getMethod ov m pl)
   callWith pos f first (backTo pos (starEach args X.env)) (backToKw pos (keywordEach [] X.env)))) :
  wpAny (model X.prog X.w) X.A (eval (.Call (.Attribute e m apos) args [] pos) X.env) Q X.xe s:=by
 refine PySem.W.methodCall_KW (pl:=pl) (dD (he pins s σ H _ I h) fun u s1 ⟨x,H1,I1,rx,a,C,dx,fs,g,ex,ea,c,k,l,q⟩=>?_) ht;subst ex;obtain rfl:u=Value.ref a:=rx;exact tM I1 ea c k l (q s1 I1)
end
section
variable {X:Cx}{pins:List (Addr×Obj)}{σ:St}{H:Hp}{s:Shared}{A:Around}{E:Value->Shared->Prop}{Q:Value->Shared->Prop}{c:Value}{b:Bool}
inductive fL (K:PySem.W.Frag)(H:Hp):V->Value->Prop where
 | non:fL K H .non (.type "NoneType")
 | bl (x:Bool):fL K H (.bl x) (.type "bool")
 | int (i:Int):fL K H (.int i) (.type "int")
 | str (x:Str):fL K H (.str x) (.type "str")
 | flt (x:UInt64):fL K H (.flt x) (.type "float")
 | lst {a:Addr}{xs:List V} (e:H a=some (.lst xs)):fL K H (.ref a) (.type "list")
 | frz {a:Addr}{o:Obj}{xs:List V} (e:H a=some (.frz o (.lst xs))):fL K H (.ref a) (.type "list")
 | tup {a:Addr}{xs:List V} (e:H a=some (.tup xs)):fL K H (.ref a) (.type "tuple")
 | dK {a:Addr}{kvs:List (Key×V)} (e:H a=some (.dK kvs)):fL K H (.ref a) (.type "dict")
 | dT {a:Addr}{kvs:List (List Key×V)} (e:H a=some (.dT kvs)):fL K H (.ref a) (.type "dict")
 | ins {a C dx:Addr}{fs:List (Str×V)} (e:H a=some (.ins C dx fs)) (cl:qX K C) (ha:PySem.W.findIn K (.ref C) "__class__" = some (some (.builtin "object.__class__")))
   (hn:PySem.W.specialIn K (.builtin "object.__class__") "__get__" = some (some (.builtin "getset_descriptor.__get__"))) (htk:PySem.W.takesIn K (.builtin "object.__class__")=some true)
   (hm:PySem.W.mroIn K C (.type "object")=some true):fL K H (.ref a) (.ref C)
theorem vD {x:V}{u t:Value}(I:aW X pins σ H s)(rx:RelV x u)(ty:fL X.K H x t)(e:PySem.W.kitOne X.K t c=some b)(h:∀ tk,Q (.bool b) { s with toks:=tk }) :
  wpAny (model X.prog X.w) A (call (.builtin "isinstance") [u,c]) Q E s:=by
 cases ty with
 | non=>cases (show u=Value.none from rx); exact PySem.W.kia_one PySem.W.kitx_none I.kIn True.intro e (fun z=>nomatch z) h
 | bl y=>cases (show u=Value.bool y from rx); exact PySem.W.kia_one PySem.W.kitx_bool I.kIn True.intro e (fun z=>nomatch z) h
 | int i=>obtain ⟨t,q⟩:=(show ∃ t,u=Value.int i t from rx); cases q; exact PySem.W.kia_one PySem.W.kitx_int I.kIn True.intro e (fun z=>nomatch z) h
 | str y=>obtain ⟨t,q⟩:=(show ∃ t,u=Value.str y t from rx); cases q; exact PySem.W.kia_one PySem.W.kitx_str I.kIn True.intro e (fun z=>nomatch z) h
 | flt y=>obtain ⟨t,q⟩:=(show ∃ t,u=Value.float y t from rx); cases q; exact PySem.W.kia_one PySem.W.kitx_float I.kIn True.intro e (fun z=>nomatch z) h
 | @lst a xs ea =>
  cases (show u=Value.ref a from rx);obtain ⟨_,_,n,_,h1⟩:=(show b7 X.prog X.w H s.heap a (.lst xs) from I.hok a _ ea)
  exact PySem.W.kia_one PySem.W.kitx_list I.kIn ⟨_,h1,rfl⟩ e (fun z=>nomatch z) h
 | @frz a ob xs ea =>
  cases (show u=Value.ref a from rx);obtain ⟨_,_,_,n,_,h1⟩:=(show b7 X.prog X.w H s.heap a (.frz ob (.lst xs)) from I.hok a _ ea)
  exact PySem.W.kia_one PySem.W.kitx_list I.kIn ⟨_,h1,rfl⟩ e (fun z=>nomatch z) h
 | @tup a xs ea =>
  cases (show u=Value.ref a from rx);obtain ⟨_,_,_,p⟩:=(show b7 X.prog X.w H s.heap a (.tup xs) from I.hok a _ ea)
  obtain ⟨o,h1,h2,_⟩:=p;exact PySem.W.kia_one PySem.W.kitx_tuple I.kIn ⟨o,h1,h2⟩ e (fun z=>nomatch z) h
 | @dK a kvs ea =>
  cases (show u=Value.ref a from rx);obtain ⟨_,_,vs,_,p⟩:=(show b7 X.prog X.w H s.heap a (.dK kvs) from I.hok a _ ea)
  obtain ⟨o,es,ep,h1,h2,_⟩:=p;exact PySem.W.kia_one PySem.W.kitx_dict I.kIn ⟨o,h1,h2.1⟩ e (fun z=>nomatch z) h
 | @dT a kvs ea =>
  cases (show u=Value.ref a from rx);obtain ⟨_,_,xs,_,o,es,ep,h1,h2,_⟩:=(show b7 X.prog X.w H s.heap a (.dT kvs) from I.hok a _ ea)
  exact PySem.W.kia_one PySem.W.kitx_dict I.kIn ⟨o,h1,h2.1⟩ e (fun z=>nomatch z) h
 | @ins a C dx fs ea cl ha hn htk hm =>
  cases (show u=Value.ref a from rx);obtain ⟨mA,O,_⟩:=oX I.hok ea;obtain ⟨od,J,_⟩:=O.look;exact PySem.W.kia_one (PySem.W.kitx_own (cl.get _) cl.hd ha hn htk hm) I.kIn J e (fun z=>nomatch z) h
end
structure fD (k:Nat)(A:Around):Prop where
 hd:A.handled=none
 dp:A.depth+3*k+5<recursionLimit
 un:A.units+16*k+200<cLine
theorem fD.mono {j k:Nat}{A:Around}(r:fD k A)(h:j<=k):fD j A:=⟨r.hd,by have:=r.dp; omega,by have:=r.un; omega⟩
theorem fD.deeper {k:Nat}{A:Around}(r:fD (k+1) A)(env:Env):fD k (A.deeper env) :=
 ⟨r.hd,by have:=r.dp; show A.depth+1+3*k+5<_; omega,by have:=r.un; show A.units+3+16*k+200<_; omega⟩
theorem Bk {A:Around}{C:Addr}{us:List Value}{kw:List (Str×Value)}:(A.under (.builtin "type.__call__" ⟨.ref C::us,kw⟩)).depth=A.depth+1:=by
 first | rfl | simp [Around.under,Code.weight,Code.isCreation,Code.isGuard,Code.isCaller,Code.frames,Code.isFrame,guardIds]
theorem Bt {A:Around}{C:Addr}{us:List Value}{kw:List (Str×Value)}:(A.under (.builtin "type.__call__" ⟨.ref C::us,kw⟩)).units=A.units+1:=by
 first | rfl | simp [Around.under,Code.cUnits,Code.frames,Code.isFrame]
theorem fD.make {k:Nat}{A:Around}(r:fD (k+1) A)(C:Addr)(us:List Value)(kw:List (Str×Value)):fD k (A.under (.builtin "type.__call__" ⟨.ref C::us,kw⟩)) :=
 ⟨r.hd,by have:=r.dp; rw [Bk]; omega,by have:=r.un; rw [Bt]; omega⟩
theorem fD.depth {k:Nat}{A:Around}(r:fD k A):A.depth<recursionLimit:=by have:=r.dp; omega
theorem fD.units {k:Nat}{A:Around}(r:fD k A):A.units+64<cLine:=by have:=r.un; omega
def uK:TA:=fun _ H Q=>Q [] H
def lL (ta:TE)(tr:TA):TA:=fun σ H Q=>ta σ H fun x H1=>tr σ H1 fun xs H2=>Q (x::xs) H2
section
variable {X:Cx}{e:Expr}{es:List Expr}{te:TE}{t:TA}{pos:Pos}
theorem aC:PA X [] uK:=fun _ _ _ _ H Q I h=>Calls.spliced_nil ⟨[],H,I,.nil,h⟩
theorem aA (ha:PE X e te)(hr:PA X es t)(hs:starEach (e::es) X.env=(false,eval e X.env)::starEach es X.env:=by rfl):PA X (e::es) (lL te t):=by
 intro pos pins s σ H Q I h;rw [hs];show wpAny _ _ (spliced ((false,eval e X.env)::backTo pos (starEach es X.env))) _ _ s;refine Calls.spliced_cons (dD (ha pins s σ H _ I h) fun u s1 ⟨x,H1,I1,r1,q1⟩=>?_);exact dD (hr pos pins s1 σ H1 _ I1 q1) fun us s2 ⟨xs,H2,I2,r2,q2⟩=>⟨x::xs,H2,I2,.cons r1 r2,q2⟩
def M9 (t:TA):TE:=fun σ H Q=>t σ H fun xs H1=>xs.length<=sizeLine/\∀ p,H1 p=none->Q (.ref p) (bG H1 p (.tup xs))
def Vw (t:TA):TE:=fun σ H Q=>t σ H fun xs H1=>xs.length<=sizeLine/\∀ p,H1 p=none->Q (.ref p) (bG H1 p (.lst xs))
theorem cU {x1}(h:PA X es t):PE X (.Tuple es x1 pos) (M9 t):=by
 intro pins s σ H Q I hq;refine wpAny_Tuple_spliced (dD (h pos pins s σ H _ I hq) fun us s1 ⟨xs,H1,I1,r,z,q⟩=>⟨by rw [<- r.length]; exact z,?_⟩);have hf:H1 s1.heap.objs.size=none:=I1.hok.fresh (aFM _);refine ⟨.ref s1.heap.objs.size,bG H1 s1.heap.objs.size (.tup xs),I1.laid (t':=s1.toks) (fun b u e=>aFH _ e) (aFM _) ?_,rfl,q _ hf⟩;exact ⟨z,us,r,⟨_,aFV _ rfl,rfl,_,rfl⟩⟩
theorem nH (h:PA X es t):PE X (.List es pos) (Vw t):=by
 intro pins s σ H Q I hq;refine wpAny_List_spliced (dD (h pos pins s σ H _ I hq) fun us s1 ⟨xs,H1,I1,r,z,q⟩=>⟨by rw [<- r.length]; exact z,?_⟩);have hf:H1 s1.heap.objs.size=none:=I1.hok.fresh (aFM _);refine ⟨.ref s1.heap.objs.size,bG H1 s1.heap.objs.size (.lst xs),I1.laid (t':=s1.toks) (fun b u e=>aFH _ e) (aFM _) ?_,rfl,q _ hf⟩;exact ⟨z,us,0,r,aFV _ rfl⟩
end
abbrev Sp:=List V->Hp->VK->XK->Prop
abbrev yG:=List Env->Hp->Shared->XK->Value->Shared->Prop
structure Bs (P:Program)(w:World)(K:PySem.W.Frag)(mg:Str->Option Value)(base:Heap)(A:Around)(outer:List Env)(s:Shared)(H:Hp):Prop where
 frames:A.frames=some outer
 mod:Mod K mg base
 bs:∀ b o,base.get? b=some o->s.heap.get? b=some o/\H b=none
 bsz:base.objs.size<=s.heap.objs.size
 funs:s.heap.FunFrames base outer
 frf:∀ b∈qZ outer,H b=none
 hok:mC P w H s.heap
 bare:AllBare s.gens
def CE (outer:List Env)(P:Program)(w:World)(H:Hp)(s:Shared)(Q:VK)(u:Value)(s':Shared):Prop :=
 ∃ v H',s'.os=s.os/\AllBare s'.gens/\Un (qZ outer) [] H H' s.heap s'.heap/\mC P w H' s'.heap/\RelV v u/\Q v H'
def CR (CX:yG)(outer:List Env)(P:Program)(w:World)(H:Hp)(s:Shared)(Q:VK)(E:XK)(r:Result)(s':Shared):Prop :=
 match r with
 | .ok (.ret u)=>CE outer P w H s Q u s'
 | .ok _=>False
 | .error e=>CX outer H s E e s'
structure aX (P:Program)(w:World)(K:PySem.W.Frag)(mg:Str->Option Value)(base:Heap)(CX:yG)(k:Nat)(f:Addr)(fd:FuncData)(ps:List Str)(sp:Sp):Prop where
 len:∀ vs H Q E,sp vs H Q E->vs.length=ps.length
 run:∀ (A:Around) (outer:List Env) (s:Shared) (H:Hp) (args:Args) (us:List Value) (vs:List V) (Q:VK) (E:XK),fD k A->Bs P w K mg base A outer s H->BindsTo s fd args (ps.zip us)->bZ vs us->sp vs H Q E ->
  codeAny (model P w) A (.call (.ref f) args) (CR CX outer P w H s Q E) s
theorem aX.mono {P:Program}{w:World}{K:PySem.W.Frag}{mg:Str->Option Value}{base:Heap}{CX:yG}{j k:Nat}{f:Addr}{fd:FuncData}{ps:List Str}{sp:Sp}(F:aX P w K mg base CX j f fd ps sp)(h:j<=k) :
  aX P w K mg base CX k f fd ps sp:=⟨F.len,fun A outer s H args us vs Q E hr=>F.run A outer s H args us vs Q E (hr.mono h)⟩
theorem aX.imp {P:Program}{w:World}{K:PySem.W.Frag}{mg:Str->Option Value}{base:Heap}{CX:yG}{k:Nat}{f:Addr}{fd:FuncData}{ps:List Str}{sp sp':Sp}(F:aX P w K mg base CX k f fd ps sp)
  (h:∀ vs H Q E,sp' vs H Q E->sp vs H Q E):aX P w K mg base CX k f fd ps sp' :=
 ⟨fun vs H Q E q=>F.len vs H Q E (h _ _ _ _ q),fun A outer s H args us vs Q E hr he hb hv hs=>F.run A outer s H args us vs Q E hr he hb hv (h _ _ _ _ hs)⟩
theorem Bs.make {P:Program}{w:World}{K:PySem.W.Frag}{mg:Str->Option Value}{base:Heap}{A:Around}{outer:List Env}{s:Shared}{H:Hp}(e:Bs P w K mg base A outer s H)(C:Addr)(us:List Value)(kw:List (Str×Value)) :
  Bs P w K mg base (A.under (.builtin "type.__call__" ⟨.ref C::us,kw⟩)) outer s H:=⟨by first | exact e.frames | (simpa [Around.under,Code.envs,Code.isFrame,pushEnvs] using e.frames),e.mod,e.bs,e.bsz,e.funs,e.frf,e.hok,e.bare⟩
section
variable {X:Cx}{pins:List (Addr×Obj)}{σ:St}{H:Hp}{s s':Shared}
theorem aW.env0 (I:aW X pins σ H s):Bs X.prog X.w X.K X.mg X.base X.A X.stack s H :=
 ⟨I.ok.frames,I.ok.mod,I.bs,aFJ I.ok.bsz I.sz,I.stack,I.stkFree,I.hok,I.bare⟩
theorem aW.after {Q:VK}{u:Value}(I:aW X pins σ H s)(h:CE X.stack X.prog X.w H s Q u s'):EP X pins σ Q u s':=by
 obtain ⟨v,H',os,bare,un,hok,r,q⟩:=h;obtain ⟨hh,g,d,t,os'⟩:=s';obtain rfl:os'=s.os:=os;exact ⟨v,H',I.call (h':=hh) (g':=g) (d':=d) (t':=t) (ch:=[]) un hok bare (fun b z=>absurd z (by simp)),r,q⟩
end
def wH (sp:Sp)(dvs:List V)(E:XK)(t:TA):TE:=fun σ H Q=>t σ H fun vs H1=>sp (vs++dvs) H1 Q E
def yX (C:Addr)(m:Str)(sp:Sp)(dvs:List V)(E:XK)(ta:TE)(t:TA):TE:=fun σ H Q=>ta σ H fun x H1=>∃ a dx fs,x=.ref a/\H1 a=some (.ins C dx fs)/\fs.lookup m=none ∧
 t σ H1 fun vs H2=>sp (x::(vs++dvs)) H2 Q E
def Qt (C:Addr)(sp:Sp)(dvs:List V)(E:XK)(t:TA):TE:=fun σ H Q=>t σ H fun vs H1=>∀ x dx,H1 x=none->H1 dx=none->dx≠x ->
 sp (.ref x::(vs++dvs)) (bG (bG H1 dx (.own x)) x (.ins C dx [])) (fun v H2=>v=.non/\Q (.ref x) H2) E
def Binds (K:PySem.W.Frag)(fd:FuncData)(ps:List Str)(ds:List Value):Prop :=
 ∀ (s:Shared) (us:List Value),K.In s.heap->(us++ds).length=ps.length->BindsTo s fd ⟨us,[]⟩ (ps.zip (us++ds))
theorem Binds.all {K:PySem.W.Frag}{fd:FuncData}{ps:List Str}(h:∀ us:List Value,us.length=ps.length->bindArgs fd ⟨us,[]⟩=pure (ps.zip us)):Binds K fd ps []:=fun s us _ hl=>by
 rw [List.append_nil] at hl ⊢;exact .of_eq (h us hl)
def lD (CX:yG)(X:Cx)(E:XK):Prop:=∀ (pins:List (Addr×Obj)) (σ:St) (H:Hp) (s:Shared) (e:Value) (s':Shared),aW X pins σ H s->CX X.stack H s E e s'->X.xe e s'
section
variable {X:Cx}{CX:yG}{k:Nat}{f C:Addr}{fd:FuncData}{ps:List Str}{sp:Sp}{dvs:List V}{ds:List Value}{E:XK}{x m:Str}{p pos apos:Pos}{e o:Expr}{es:List Expr}{ta:TE}{t:TA}
theorem Cm {pins:List (Addr×Obj)}{σ:St}{H:Hp}{s:Shared}{Q:VK}{us:List Value}{vs:List V}(F:aX X.prog X.w X.K X.mg X.base CX k f fd ps sp)(hr:fD k X.A)(hb:Binds X.K fd ps ds)(hd:bZ dvs ds)(hx:lD CX X E)
  (I:aW X pins σ H s) (r:bZ vs us) (h:sp (vs++dvs) H Q E):wpAny (model X.prog X.w) X.A (call (.ref f) us) (EP X pins σ Q) X.xe s:=by
 have r2:bZ (vs++dvs) (us++ds):=r.append hd;have hl:(us++ds).length=ps.length:=by rw [<- r2.length]; exact F.len _ _ _ _ h
 refine wpAny_call (codeAny_mono (F.run X.A X.stack s H ⟨us,[]⟩ (us++ds) (vs++dvs) Q E hr I.env0 (hb s us I.kIn hl) r2 h) fun r s' hq=>?_);cases r with
 | error e=>exact hx pins σ H s e s' I hq
 | ok fl =>
  cases fl with
  | ret u=>exact I.after hq
  | next=>exact False.elim hq
  | brk=>exact False.elim hq
  | cont=>exact False.elim hq
theorem KY (F:aX X.prog X.w X.K X.mg X.base CX k f fd ps sp)(hr:fD k X.A)(hg:Gl X x)(hm:X.mg x=some (.ref f))(hk:PySem.W.keepIn X.K (.ref f)=true)(hb:Binds X.K fd ps ds)(hd:bZ dvs ds)(hx:lD CX X E)
  (ha:PA X (e::es) t) (hdb:(x==("__debug__" : Str))=false:=by decide) (he:starEach (e::es) X.env=(false,eval e X.env)::starEach es X.env:=by rfl) (hpl:(backTo pos (starEach es X.env)).any (·.1)=false:=by rfl) :
  PE X (.Call (.Name x p) (e::es) [] pos) (wH sp dvs E t):=by
 intro pins s σ H Q I h;refine wpAny_Call_Name_kw (mG I hg hm ?_ hdb);refine PySem.W.callWith_K (h₀:=X.base) I.ok.mod.kin hk (dD (ha pos pins s σ H _ I h) fun us s1 ⟨vs,H1,I1,r,q⟩=>⟨I1.kIn,?_⟩) he hpl;exact Cm F hr hb hd hx I1 r q
theorem eE {pl:Sem Bool}(he:PE X o ta)(c:qX X.K C)(hm:jF X.K C m f)(F:aX X.prog X.w X.K X.mg X.base CX k f fd ps sp)(hr:fD k X.A)(hb:Binds X.K fd ps ds)(hd:bZ dvs ds)(hx:lD CX X E)
  (ht:eval (.Call (.Attribute o m apos) [] [] pos) X.env=(do
   let ov <- eval o X.env
   standAt apos.atName
   let (f,first) <- holding [ov] (getMethod ov m pl)
   callWith pos f first (backTo pos (starEach [] X.env)) (backToKw pos (keywordEach [] X.env))):=by rfl) :
  PE X (.Call (.Attribute o m apos) [] [] pos) (yX C m sp dvs E ta uK):=by
 intro pins s σ H Q I h;refine PySem.W.methodCall_KW (pl:=pl) (dD (he pins s σ H _ I h) fun u s1 ⟨x,H1,I1,rx,a,dx,fs,ex,ea,l,q⟩=>?_) ht;subst ex;obtain rfl:u=Value.ref a:=rx;refine tM I1 ea c hm l ?_;exact PySem.W.callWith_K0 (first:=[.ref a]) I1.kIn hm.kp (Cm (us:=[.ref a]) (vs:=[.ref a]) F hr hb hd hx I1 (.cons rfl .nil) q)
structure Mk (K:PySem.W.Frag)(C f:Addr):Prop where
 makes:PySem.W.makesIn K C=true
 init:PySem.W.findIn K (.ref C) "__init__" = some (some (.ref f))
 fn:PySem.W.isFn K (.ref f)=true
 kp:PySem.W.keepIn K (.ref C)=true
theorem Gn {pins:List (Addr×Obj)}{σ:St}{H:Hp}{s:Shared}{Q:VK}{us:List Value}{vs:List V}(M:Mk X.K C f)(F:aX X.prog X.w X.K X.mg X.base CX k f fd ps sp)(hr:fD (k+1) X.A)(hb:Binds X.K fd ps ds)(hd:bZ dvs ds)
  (hx:lD CX X E) (I:aW X pins σ H s) (r:bZ vs us)
  (h:∀ x dx,H x=none->H dx=none->dx≠x->sp (.ref x::(vs++dvs)) (bG (bG H dx (.own x)) x (.ins C dx [])) (fun v H2=>v=.non/\Q (.ref x) H2) E) :
  wpAny (model X.prog X.w) X.A (call (.ref C) us) (EP X pins σ Q) X.xe s:=by
 have hq:=h (s.heap.objs.size+1) s.heap.objs.size (I.hok.fresh (aGO _)) (I.hok.fresh (aFM _)) (aF6 (aHj _));have I2:=aW.made (C:=C) I;have r2:bZ (V.ref (s.heap.objs.size+1)::(vs++dvs)) (Value.ref (s.heap.objs.size+1)::(us++ds)):=.cons rfl (r.append hd);have hl:(Value.ref (s.heap.objs.size+1)::us++ds).length=ps.length:=by
  have e:=r2.length;rw [F.len _ _ _ _ hq] at e;exact e.symm
 refine wpAny_call (Gw (f:=f) I.kIn M.makes M.init (beq_iff_eq.mp M.fn) (codeAny_mono (F.run _ X.stack _ _ ⟨Value.ref (s.heap.objs.size+1)::us,[]⟩ (Value.ref (s.heap.objs.size+1)::(us++ds)) _ _ E (hr.make C us [])
  (I2.env0.make C us []) (hb _ (Value.ref (s.heap.objs.size+1)::us) I2.kIn hl) r2 hq) fun r s' hq'=>?_))
 cases r with
 | error e=>exact hx pins σ _ _ e s' I2 hq'
 | ok fl =>
  cases fl with
  | ret u =>
   obtain ⟨v,H',I3,rv,ev,q3⟩:=I2.after hq';subst ev;exact ⟨rv,⟨V.ref (s.heap.objs.size+1),H',I3,rfl,q3⟩⟩
  | next=>exact False.elim hq'
  | brk=>exact False.elim hq'
  | cont=>exact False.elim hq'
theorem jR (M:Mk X.K C f)(F:aX X.prog X.w X.K X.mg X.base CX k f fd ps sp)(hr:fD (k+1) X.A)(hg:Gl X x)(hm:X.mg x=some (.ref C))(hb:Binds X.K fd ps ds)(hd:bZ dvs ds)(hx:lD CX X E)
  (ha:PA X (e::es) t) (hdb:(x==("__debug__" : Str))=false:=by decide) (he:starEach (e::es) X.env=(false,eval e X.env)::starEach es X.env:=by rfl) (hpl:(backTo pos (starEach es X.env)).any (·.1)=false:=by rfl) :
  PE X (.Call (.Name x p) (e::es) [] pos) (Qt C sp dvs E t):=by
 intro pins s σ H Q I h;refine wpAny_Call_Name_kw (mG I hg hm ?_ hdb);refine PySem.W.callWith_K (h₀:=X.base) I.ok.mod.kin M.kp (dD (ha pos pins s σ H _ I h) fun us s1 ⟨vs,H1,I1,r,q⟩=>⟨I1.kIn,?_⟩) he hpl;exact Gn M F hr hb hd hx I1 r q
end
structure aO (N P:List Str)(sc:Scope):Prop where
 kind:sc.kind=.function
 co:sc.isCoroutine=false
 gen:sc.isGenerator=false
 nd:N.Nodup
 pre:N.take P.length=P
 par:∀ x∈P,sc.names.lookup x=some .local∨sc.names.lookup x=some .cell
 nofree:∀ y∈sc.names,y.2≠.free
theorem wI {kindOf:Str->Option NameKind}{x:Str}:∀ {binds:List (Str×Value)}{m:Str->Option Value},(∀ v,(x,v)∉binds)->bindL kindOf binds m x=m x
 | [],_,_=>rfl
 | (n,v)::r,m,h=>by
  unfold bindL;rw [wI fun w hw=>h w (aFG _ hw)]
  split
  ·have:x≠n:=by rintro rfl; exact h v aFI
   simp [this]
  ·rfl
theorem wA {kindOf:Str->Option NameKind}{x:Str}:∀ {binds:List (Str×Value)}{m:Str->Option Value},(∀ v,(x,v)∉binds)->bindC kindOf binds m x=m x
 | [],_,_=>rfl
 | (n,v)::r,m,h=>by
  unfold bindC;rw [wA fun w hw=>h w (aFG _ hw)]
  split
  ·rfl
  ·have:x≠n:=by rintro rfl; exact h v aFI
   simp [this]
theorem vO {kindOf:Str->Option NameKind}{x:Str}{v:Value}:∀ {P:List Str}{vs:List Value}{i:Nat}{m:Str->Option Value},P.Nodup->P[i]? = some x->vs[i]? = some v->kindOf x=some .local ->
  bindL kindOf (P.zip vs) m x=some v
 | [],_,_,_,_,h,_,_=>by simp at h
 | _::_,[],_,_,_,_,h,_=>by simp at h
 | p::P,w::vs,0,m,nd,h1,h2,hk=>by
  simp at h1 h2; subst h1; subst h2;show bindL kindOf ((p,w)::P.zip vs) m p=_;unfold bindL;rw [wI fun v hv=>(aGS.mp nd).1 (aHJ hv).1,if_pos hk];simp
 | p::P,w::vs,i+1,m,nd,h1,h2,hk=>by
  show bindL kindOf ((p,w)::P.zip vs) m x=_;unfold bindL;exact vO (i:=i) (aGS.mp nd).2 (by simpa using h1) (by simpa using h2) hk
theorem vC {kindOf:Str->Option NameKind}{x:Str}{v:Value}:∀ {P:List Str}{vs:List Value}{i:Nat}{m:Str->Option Value},P.Nodup->P[i]? = some x->vs[i]? = some v->kindOf x≠some .local ->
  bindC kindOf (P.zip vs) m x=some v
 | [],_,_,_,_,h,_,_=>by simp at h
 | _::_,[],_,_,_,_,h,_=>by simp at h
 | p::P,w::vs,0,m,nd,h1,h2,hk=>by
  simp at h1 h2; subst h1; subst h2;show bindC kindOf ((p,w)::P.zip vs) m p=_;unfold bindC;rw [wA fun v hv=>(aGS.mp nd).1 (aHJ hv).1,if_neg hk];simp
 | p::P,w::vs,i+1,m,nd,h1,h2,hk=>by
  show bindC kindOf ((p,w)::P.zip vs) m x=_;unfold bindC;exact vC (i:=i) (aGS.mp nd).2 (by simpa using h1) (by simpa using h2) hk
def start (N:List Str)(vs:List V):St:=vs.map some++aGo (N.length-vs.length) none
def xP (CX:yG)(P:Program)(w:World)(K:PySem.W.Frag)(mg:Str->Option Value)(base:Heap)(N:List Str)(qual:Str)(scope:Scope)(f:Addr)(cd:Value)(A:Around)(outer:List Env)(s:Shared)(H:Hp)(E:XK):Cx where
 prog:=P
 w:=w
 K:=K
 mg:=mg
 base:=base
 A:=A.deeper (envOfC qual scope s.heap.objs.size f cd)
 N:=N
 s₀:=s
 H₀:=H
 env:=envOfC qual scope s.heap.objs.size f cd
 outer:=outer
 stack:=envOfC qual scope s.heap.objs.size f cd::outer
 ex:=[]
 calm:=true
 fn:=fun _=>true
 pn:=[]
 xe:=fun e s'=>wpAny (model P w) (A.deeper (envOfC qual scope s.heap.objs.size f cd)) (leaving (envOfC qual scope s.heap.objs.size f cd) e) (fun _ s''=>CX outer H s E e s'') (fun e' s''=>CX outer H s E e' s'') s'
theorem z9 {sc:Scope}{n:Nat}{x:Str}(h:sc.names.lookup x=some .cell):∃ c,(cellsFrom n sc.names []).lookup x=some c:=by
 have q:=PySem.W.cellsFrom_some sc.names n [] (.inl h);exact Option.isSome_iff_exists.mp q
theorem Fp {CX:yG}{P:Program}{w:World}{K:PySem.W.Frag}{mg:Str->Option Value}{base:Heap}{N ps:List Str}{qual:Str}{scope:Scope}{f:Addr}{cd:Value}{A:Around}{outer:List Env}{s s1:Shared}{H:Hp}{E:XK}{us:List Value}{vs:List V}
  (S:aO N ps scope) (hd:A.handled=none) (e0:Bs P w K mg base A outer s H) (hl:vs.length=ps.length) (r:bZ vs us)
  (x:InCallC s s.heap.objs.size (bindL (envOfC qual scope s.heap.objs.size f cd).kindOf (ps.zip us) fun _=>none) (cellsFrom (s.heap.objs.size+1) scope.names []) (bindC (envOfC qual scope s.heap.objs.size f cd).kindOf (ps.zip us) fun _=>none) s1) :
  aW (xP CX P w K mg base N qual scope f cd A outer s H E) [] (start N vs) H s1:=by
 have hpl:ps.length<=N.length:=by have:=congrArg aGW S.pre; rw [aGe] at this; omega
 obtain ⟨h1,tk,rfl,hk⟩:=x.done;have noA:∀ b:Addr,b∉(xP CX P w K mg base N qual scope f cd A outer s H E).ex:=fun b z=>absurd (show b∈([]:List Addr) from z) (by simp);refine ⟨⟨e0.mod,S.kind,rfl,rfl,aFM _,fun y z c h1 h2=>?_,fun y hy=>?_,fun y c _ h=>?_,fun _=>hd,Around.frames_deeper e0.frames,.inr ⟨rfl,rfl⟩,fun b z=>absurd z (noA b),e0.bs,e0.bsz,fun b _ _=>noA b,fun b z=>absurd z (noA b),e0.funs,e0.frf⟩,
  rfl,e0.bare,Un.kept hk,⟨_,x.toInCall.ns,fun i y v h1 h2 h3=>?_⟩,fun y c h=>⟨_,x.cell y c h⟩,e0.hok.fresh (aFM _),fun y c h=>?_,fun p hp=>absurd (show p∈([]:List (Addr×Obj)) from hp) (by simp),e0.hok.kept hk,?_⟩
 ·exact name_of_addr x.apart (PySem.mem_of_lookup h1) (PySem.mem_of_lookup h2)
 ·have hy:scope.names.lookup y=some .cell∨scope.names.lookup y=some .free:=hy;rcases hy with hy | hy
  ·exact z9 hy
  ·exact absurd rfl (S.nofree _ (PySem.mem_of_lookup hy))
 ·exact aGm (x.above y c (PySem.mem_of_lookup h))
 ·have hi:i<vs.length:=by
   unfold start at h2
   by_cases hi:i<vs.length
   ·exact hi
   ·rw [aF9 (by simpa using hi)] at h2;rw [aHz] at h2
    split at h2 <;> cases h2
  have ha:vs[i]? = some v:=by
   unfold start at h2;rw [aGd (by simpa using hi),aFY] at h2;cases e:vs[i]? with
   | none=>rw [e] at h2; cases h2
   | some a=>rw [e] at h2; cases h2; rfl
  obtain ⟨u,hu,rv⟩:=r.get ha;have hp:ps[i]? = some y:=by
   rw [<- S.pre,List.getElem?_take_of_lt (by omega)]; exact h1
  have ndP:ps.Nodup:=by rw [<- S.pre]; exact S.nd.sublist (List.take_sublist _ _)
  refine ⟨u,rv,?_⟩;rcases S.par y (aF1 hp) with k | k
  ·exact .inl ⟨k,vO ndP hp hu k⟩
  ·obtain ⟨c,e⟩:=z9 (n:=s.heap.objs.size+1) k;refine .inr ⟨.inl k,c,e,?_⟩;have q:=x.cell y c e;rw [vC ndP hp hu (by show scope.names.lookup y≠_; rw [k]; decide)] at q;exact q
 ·exact e0.hok.fresh (aGm (x.above y c (PySem.mem_of_lookup h)))
 ·unfold start;show _=N.length;rw [aFZ,aFF,aGK];omega
theorem J5 {CX:yG}{P:Program}{w:World}{K:PySem.W.Frag}{mg:Str->Option Value}{base:Heap}{k:Nat}{f:Addr}{name qual:Str}{params:Arguments}{body:List Stmt}{scope:Scope}{dV kV doc pm cdv ct oc:Value}{an od:Option Addr}
  {osl:Array (Option Value)}{N ps:List Str}{sp:Sp} (lk:K.lookup f=some ⟨oc,od,.func (PySem.W.fnOf name qual params body scope dV kV doc pm an cdv ct),osl⟩) (hcd:PySem.W.codeIn K cdv qual=true) (S:aO N ps scope)
  (len:∀ vs H Q E,sp vs H Q E->vs.length=ps.length)
  (hbody:∀ (A:Around) (outer:List Env) (s:Shared) (H:Hp) (vs:List V) (Q:VK) (E:XK),fD k (A.deeper (envOfC qual scope s.heap.objs.size f cdv))->sp vs H Q E ->
   ∃ t,xD (xP CX P w K mg base N qual scope f cdv A outer s H E) body t/\t { nx:=fun _ H'=>Q .non H',rt:=Q } (start N vs) H) :
  aX P w K mg base CX (k+1) f (PySem.W.fnOf name qual params body scope dV kV doc pm an cdv ct) ps sp:=by
 refine ⟨len,fun A outer s H args us vs Q E hr e0 hb r hsp=>?_⟩;have hl:=len _ _ _ _ hsp;have KX:K.In s.heap:=e0.mod.kin.keeps fun b o e=>(e0.bs b o e).1;have lim:s.heap.NoLimit:=e0.mod.nolimit.keeps fun b o e=>(e0.bs b o e).1;have hkind:∀ y∈ps.zip us,scope.names.lookup y.1=some .local∨(scope.names.lookup y.1=some .cell/\((cellsFrom (s.heap.objs.size+1) scope.names []).lookup y.1).isSome=true):=fun ⟨n,v⟩ hy=>by
  rcases S.par n (aHJ hy).1 with q | q
  ·exact .inl q
  ·exact .inr ⟨q,PySem.W.cellsFrom_some _ _ _ (.inl q)⟩
 refine codeAny_call_function hr.depth (KX _ _ lk) rfl S.co S.gen rfl (PySem.W.codeRec_of KX hcd) (hb _ _ _ _ ?_);refine wpAny_newFunctionEnv_cells S.kind hkind fun env he s1 x=>?_;subst he;refine ⟨lim.keeps x.toInCall.keep,codeAny_func ?_⟩;obtain ⟨t,ht,hq⟩:=hbody A outer s H vs Q E (hr.deeper _) hsp;have I:aW (xP CX P w K mg base N qual scope f cdv A outer s H E) [] (start N vs) H s1:=Fp S hr.hd e0 hl r x;refine wpAny_mono (ht [] s1 (start N vs) H _ I hq) (fun fl s' hs=>?_) fun e s' hs=>hs;have fin:∀ {σ':St}{H':Hp}{v:V}{u:Value},aW (xP CX P w K mg base N qual scope f cdv A outer s H E) [] σ' H' s'->RelV v u->Q v H'->CE outer P w H s Q u s' :=
  fun {σ' H' v u} J rv q=>⟨v,H',J.os,J.bare,J.base,J.hok,rv,q⟩
 cases fl with
 | ret u =>
  obtain ⟨v,σ',H',J,rv,q⟩:=hs;exact fin J rv q
 | next =>
  obtain ⟨σ',H',J,q⟩:=hs;exact fin (v:=V.non) (u:=Value.none) J rfl q
 | brk =>
  obtain ⟨_,_,_,q⟩:=hs;exact False.elim q
 | cont =>
  obtain ⟨_,_,_,q⟩:=hs;exact False.elim q
section
variable {X:Cx}{x:Str}{p pos:Pos}{e:Expr}{es:List Expr}{t:TA}{id T:String}{r:List V->Hp->VK->Prop}
def XC (r:List V->Hp->VK->Prop)(t:TA):TE:=fun σ H Q=>t σ H fun vs H1=>r vs H1 Q
theorem bD (hc:d8 X (.builtin id) r)(hg:Gl X x)(hm:X.mg x=none)(hv:bootBuiltins x=some (.builtin id))(ha:PA X (e::es) t)(hn:x≠"__name__":=by decide)(hdb:(x==("__debug__" : Str))=false:=by decide)
  (he:starEach (e::es) X.env=(false,eval e X.env)::starEach es X.env:=by rfl) (hpl:(backTo pos (starEach es X.env)).any (·.1)=false:=by rfl):PE X (.Call (.Name x p) (e::es) [] pos) (XC r t):=by
 intro pins s σ H Q I h;refine wpAny_Call_Name_kw (lQ I hg hm hv ?_ hn hdb);exact PyProof.Rows.callWith_builtin1 (dD (ha pos pins s σ H _ I h) fun us s1 ⟨vs,H1,I1,r1,q1⟩=>hc pins s1 σ H1 vs us Q I1 r1 q1) he hpl
theorem bJ (hc:d8 X (.type T) r)(hg:Gl X x)(hm:X.mg x=none)(hv:bootBuiltins x=some (.type T))(ha:PA X (e::es) t)(hn:x≠"__name__":=by decide)(hdb:(x==("__debug__" : Str))=false:=by decide)
  (he:starEach (e::es) X.env=(false,eval e X.env)::starEach es X.env:=by rfl) (hpl:(backTo pos (starEach es X.env)).any (·.1)=false:=by rfl):PE X (.Call (.Name x p) (e::es) [] pos) (XC r t):=by
 intro pins s σ H Q I h;refine wpAny_Call_Name_kw (lQ I hg hm hv ?_ hn hdb);exact PyProof.Rows.callWith_type1 (dD (ha pos pins s σ H _ I h) fun us s1 ⟨vs,H1,I1,r1,q1⟩=>hc pins s1 σ H1 vs us Q I1 r1 q1) he hpl
end
abbrev TO:=St->Hp->(Option Int->Hp->Prop)->Prop
theorem intsAre_of {ns:List Int}:∀ {us:List Value},bZ (ns.map V.int) us->IntsAre us ns:=by
 induction ns with
 | nil=>intro us r; rw [aHG] at r; cases r; exact .nil
 | cons n ns ih =>
  intro us r;rw [aFP] at r;cases r with
  | cons r1 r2 =>
   obtain ⟨t,e⟩:=r1;subst e;exact .cons n t (ih r2)
def J7 (n:Nat)(i:Int):Option Nat:=if 0<=i then (if i<n then some i.toNat else none) else if -(n:Int)<=i then some (i+n).toNat else none
def FT {α:Type}(xs:List α)(i:Int):Option α:=(J7 xs.length i).bind fun j=>xs[j]?
theorem xF {n:Nat}{i:Int}{j:Nat}(h:J7 n i=some j):seqIndex? i n=some j/\j<n/\-(n:Int)<=i/\i<n:=by
 unfold J7 at h
 by_cases h0:0<=i
 ·rw [if_pos h0] at h
  by_cases h1:i<n
  ·rw [if_pos h1] at h;have e:i.toNat=j:=aGH.inj h;exact ⟨by rw [seqIndex_of h0 h1,e],by omega,by omega,h1⟩
  ·rw [if_neg h1] at h; cases h
 ·rw [if_neg h0] at h
  by_cases h1:-(n:Int)<=i
  ·rw [if_pos h1] at h;have e:(i+n).toNat=j:=aGH.inj h;exact ⟨by rw [seqIndex_neg (by omega) h1,e],by omega,h1,by omega⟩
  ·rw [if_neg h1] at h; cases h
theorem DN {α:Type}{xs:List α}{i:Int}{v:α}(h:FT xs i=some v):∃ j,seqIndex? i xs.length=some j/\xs[j]? = some v/\j<xs.length/\-(xs.length:Int)<=i/\i<xs.length:=by
 unfold FT at h;cases e:J7 xs.length i with
 | none=>rw [e] at h; cases h
 | some j =>
  rw [e] at h;obtain ⟨h1,h2,h3,h4⟩:=xF e;exact ⟨j,h1,h,h2,h3,h4⟩
theorem oY {α:Type}{xs:List α}{j:Nat}{v:α}(h:xs[j]? = some v):FT xs (j:Int)=some v:=by
 have hj:j<xs.length:=(aFO.mp h).1;have e:J7 xs.length (j:Int)=some j:=by
  unfold J7;rw [if_pos (by omega),if_pos (by omega)]; simp
 unfold FT; rw [e]; exact h
def Ek (b:Expr):Prop:=∀ o i,subscripted b false o i=operate [o,i] (getItem o i)
def PQ (X:Cx)(r:R2):Prop :=
 ∀ (value slice:Expr) (pins:List (Addr×Obj)) (s:Shared) (σ:St) (H:Hp) (x y:V) (v u:Value) (Q:VK),aW X pins σ H s->RelV x v->RelV y u->r x y H Q ->
  subscripted slice false v u=operate [v,u] (getItem v u)->wpAny (model X.prog X.w) X.A (subscriptTail value slice v u) (EP X pins σ Q) X.xe s
def MtR (X:Cx)(id:String)(r:V->List V->Hp->VK->Prop):Prop :=
 ∀ (pins:List (Addr×Obj)) (s:Shared) (σ:St) (H:Hp) (x:V) (xs:List V) (v:Value) (us:List Value) (Q:VK),aW X pins σ H s->RelV x v->bZ xs us->r x xs H Q ->
  wpAny (model X.prog X.w) X.A (call (.builtin id) (v::us)) (EP X pins σ Q) X.xe s
section
variable {X:Cx}{a b:Expr}{ta tb:TE}{pos:Pos}
theorem bI {r:R2}(hr:PQ X r)(ha:PE X a ta)(hb:PE X b tb)(hs:Ek b):PE X (.Subscript a b pos) (J4 r ta tb):=by
 intro pins s σ H Q I h;exact Subscript_ (OJ ha hb I h fun v u s2 x y H2 I2 rx ry q=>hr a b pins s2 σ H2 x y v u Q I2 rx ry q (hs _ _))
def Qa (K:PySem.W.Frag):R2:=fun x y H Q=>∃ p xs i v,x=.ref p/\y=.int i/\bV K H p xs/\FT xs i=some v/\Q v H
def Qm (K:PySem.W.Frag):R2:=fun x y H Q=>∃ p xs i v,x=.ref p/\y=.int i/\bW K H p xs/\FT xs i=some v/\Q v H
theorem iY:PQ X (Qa X.K):=by
 intro value slice pins s σ H x y v u Q I rx ry h hs;obtain ⟨p,xs,i,z,rfl,rfl,hq,he,q⟩:=h;cases rx;obtain ⟨t,rfl⟩:=ry;obtain ⟨its,r,pl,hz⟩:=I.list hq;obtain ⟨j,h1,h2,h3,h4,h5⟩:=DN he;obtain ⟨w,ew,rw'⟩:=r.get h2;have hl:=r.length;have hn:=Ci;have fin:EP X pins σ Q w s:=⟨z,H,I,rw',q⟩
 by_cases h0:0<=i
 ·have hj:i.toNat=j:=by
   rw [seqIndex_of h0 h5] at h1;exact aGH.inj h1
  exact item_listR pl.isList h0 (by omega) (by rw [hj]; simpa using ew) fin hs
 ·have hj:(i+(its.toArray.size:Int)).toNat=j:=by
   rw [seqIndex_neg (by omega) h4] at h1;rw [aFW,<- hl];exact aGH.inj h1
  exact subscriptTail_builtinR (x:=w) pl.isList.typeIs slot_list_getitem.lookup
   (wpAny_getItem_list_neg (Q:=fun r s'=>r=w/\EP X pins σ Q r s') pl.isList (by omega) (by rw [aFW] <;> omega) (by omega) (by rw [hj]; simpa using ew) ⟨rfl,fin⟩) hs
theorem bF:PQ X (Qm X.K):=by
 intro value slice pins s σ H x y v u Q I rx ry h hs;obtain ⟨p,xs,i,z,rfl,rfl,hq,he,q⟩:=h;cases rx;obtain ⟨t,rfl⟩:=ry;obtain ⟨its,r,pl,hz⟩:=I.tuple hq;obtain ⟨j,h1,h2,h3,h4,h5⟩:=DN he;obtain ⟨w,ew,rw'⟩:=r.get h2;have hl:=r.length;have hn:=Ci;have fin:EP X pins σ Q w s:=⟨z,H,I,rw',q⟩
 exact subscriptTail_builtinR (x:=w) pl.typeIs slot_tuple_getitem.lookup
  (getItem_tuple (j:=j) (Q:=fun r s'=>r=w/\EP X pins σ Q r s') pl (by omega) (by omega) (by rw [aFW,<- hl]; exact h1) (by simpa using ew) ⟨rfl,fin⟩) hs
def eqV:V->V->Bool
 | .non,.non=>true
 | .bl a,.bl b=>a==b
 | .bl a,.int b=>(if a then 1 else 0)==b
 | .int a,.bl b=>a==(if b then 1 else 0)
 | .int a,.int b=>a==b
 | .str a,.str b=>a==b
 | _,_=>false
def inV (x:V)(xs:List V):Bool:=xs.any fun y=>eqV y x
theorem eN:d8 X (.builtin "len") (fun xs H Q=>∃ p ys,xs=[.ref p]/\(bV X.K H p ys∨bW X.K H p ys)/\Q (.int ys.length) H):=by
 intro pins s σ H xs us Q I r h;obtain ⟨p,ys,rfl,hq,q⟩:=h;obtain ⟨u,rfl,rx⟩:=vals1 r;cases rx;have hn:=Ci;rcases hq with hq | hq
 ·obtain ⟨its,r',pl,hz⟩:=I.list hq;have hlen:=r'.length;exact Calls.call_len_list pl.isList (by simp only [aFW] <;> omega) ⟨.int ys.length,H,I.tok _,⟨s.toks+1,by rw [aFW,hlen]⟩,q⟩
 ·obtain ⟨its,r',pl,hz⟩:=I.tuple hq;have hlen:=r'.length;exact len_tuple pl (by simp only [aFW] <;> omega) ⟨.int ys.length,H,I.tok _,⟨s.toks+1,by rw [aFW,hlen]⟩,q⟩
theorem oW:d8 X (.type "list") (fun xs H Q=>∃ p ys,xs=[.ref p]/\(bV X.K H p ys∨bW X.K H p ys)/\∀ l,H l=none->Q (.ref l) (bG H l (.lst ys))):=by
 intro pins s σ H xs us Q I r h;obtain ⟨p,ys,rfl,hq,q⟩:=h;obtain ⟨u,rfl,rx⟩:=vals1 r;cases rx;have fin:∀ (its:List Value),bZ ys its->ys.length<=sizeLine->∀ (h':Heap) (c':Nat),(∀ b o',s.heap.get? b=some o'->h'.get? b=some o') ->
   h'.get? s.heap.objs.size=some { cls:=.type "list",dict:=none,data:=.seq its.toArray c',slots:=#[] }->EP X pins σ Q (.ref s.heap.objs.size) { s with heap:=h' }:=fun its r' hz h' c' kp e =>
  ⟨.ref s.heap.objs.size,_,I.laid (t':=s.toks) kp (aFM _) (show b7 X.prog X.w _ h' _ (.lst ys) from ⟨hz,its,c',r',e⟩),rfl,q _ (I.hok.fresh (aFM _))⟩
 rcases hq with hq | hq
 ·obtain ⟨its,r',pl,hz⟩:=I.list hq;have hlen:=r'.length;obtain ⟨o,ho,hc,n,hd⟩:=pl.isList;exact call_list_seq p (.inl rfl) ho hc hd (fun h' c' kp e=>fin its r' hz h' c' kp e) (by simp only [aFW] <;> omega)
 ·obtain ⟨its,r',pl,hz⟩:=I.tuple hq;have hlen:=r'.length;obtain ⟨o,ho,hc,n,hd⟩:=pl;exact call_list_seq p (.inr rfl) ho hc hd (fun h' c' kp e=>fin its r' hz h' c' kp e) (by simp only [aFW] <;> omega)
theorem uO:d8 X (.type "tuple") (fun xs H Q=>∃ p ys,xs=[.ref p]/\((bV X.K H p ys/\∀ l,H l=none->Q (.ref l) (bG H l (.tup ys)))∨(bW X.K H p ys/\Q (.ref p) H))):=by
 intro pins s σ H xs us Q I r h;obtain ⟨p,ys,rfl,h⟩:=h;obtain ⟨u,rfl,rx⟩:=vals1 r;cases rx;rcases h with ⟨hq,q⟩ | ⟨hq,q⟩
 ·obtain ⟨its,r',pl,hz⟩:=I.list hq;have hlen:=r'.length;refine call_tuple_list pl.isList (fun h' kp=>?_) (by simp only [aFW] <;> omega);have I1:aW X pins σ H { s with heap:=h' }:=I.kept (t':=s.toks) kp;have I2:aW X pins σ (bG H h'.objs.size (.tup ys)) { s with heap:=h'.push { cls:=.type "tuple",data:=.seq its.toArray } } :=
   I1.laid (t':=s.toks) (fun b o e=>aFH _ e) (aFM _) (show b7 X.prog X.w _ _ _ (.tup ys) from ⟨hz,its,r',IsTup.new _ _⟩)
  exact ⟨.ref h'.objs.size,_,I2,rfl,q _ (I1.hok.fresh (aFM _))⟩
 ·obtain ⟨its,r',pl,hz⟩:=I.tuple hq;exact call_tuple_same pl ⟨.ref p,H,I,rfl,q⟩
def tyV (K:PySem.W.Frag)(T:String)(x:V)(H:Hp):Prop:=match x with
 | .str _=>T = "str"
 | .int _=>T = "int"
 | .ref p=>(T = "list"/\∃ xs,bV K H p xs)∨(T = "tuple"/\∃ o,K.lookup p=some o/\o.cls=.type "tuple"/\o.dict=none) ∨
   (T = "dict"/\((∃ kvs,H p=some (.dK kvs))∨∃ kvs,H p=some (.dT kvs)))∨(T = "set"/\∃ S n,H p=some (.set S n))
 | _=>False
theorem Oa {pins:List (Addr×Obj)}{σ:St}{H:Hp}{s:Shared}{T:String}{x:V}{v:Value}(I:aW X pins σ H s)(r:RelV x v)(ty:tyV X.K T x H) :
  s.TypeIs v T/\∀ a,v=.ref a->∃ ob,s.heap.get? a=some ob/\ob.dict=none:=by
 cases x with
 | str z =>
  obtain ⟨t,rfl⟩:=r;cases (show T = "str" from ty);exact ⟨typeIs_str s z t,fun _ e=>nomatch e⟩
 | int i =>
  obtain ⟨t,rfl⟩:=r;cases (show T = "int" from ty);exact ⟨typeIs_int s i t,fun _ e=>nomatch e⟩
 | ref p =>
  cases r;rcases ty with ⟨rfl,xs,hq⟩ | ⟨rfl,o,hk,hc,hd⟩ | ⟨rfl,hk⟩ | ⟨rfl,S,n,hk⟩
  ·obtain ⟨its,_,pl,_⟩:=I.list hq;refine ⟨pl.isList.typeIs,fun a e=>?_⟩;cases e;obtain ⟨o,n,e,c,hd,_⟩:=pl;exact ⟨o,e,hd⟩
  ·refine ⟨⟨o,I.kIn p o hk,hc⟩,fun a e=>?_⟩;cases e;exact ⟨o,I.kIn _ o hk,hd⟩
  ·have z:∃ o,s.heap.get? p=some o/\o.ExactDict:=by
    rcases hk with ⟨kvs,hk⟩ | ⟨kvs,hk⟩
    ·obtain ⟨_,_,_,_,o,_,_,e,ex,_⟩:=I.hok p _ hk;exact ⟨o,e,ex⟩
    ·obtain ⟨_,_,_,_,o,_,_,e,ex,_⟩:=I.hok p _ hk;exact ⟨o,e,ex⟩
   obtain ⟨o,e,ex⟩:=z;refine ⟨⟨o,e,ex.1⟩,fun a e2=>?_⟩;cases e2;exact ⟨o,e,ex.2.1⟩
  ·obtain ⟨o,_,_,_,e,ex,_⟩:=I.hok p _ hk;refine ⟨⟨o,e,ex.1⟩,fun a e2=>?_⟩;cases e2;exact ⟨o,e,ex.2.1⟩
 | _=>exact False.elim ty
def tBM (K:PySem.W.Frag)(T:String)(r:V->List V->Hp->VK->Prop)(to:TE)(t:TA):TE:=fun σ H Q=>to σ H fun x H1=>tyV K T x H1/\t σ H1 fun xs H2=>r x xs H2 Q
variable {o e:Expr}{es:List Expr}{to:TE}{t:TA}{name:Str}{apos cpos:Pos}{T id:String}{r:V->List V->Hp->VK->Prop}
theorem gG (pa:PlainAttrs T)(slot:Slot T name id)(hty:typeOf (.builtin id)=pure (.type "method_descriptor"))(hm:MtR X id r)(ho:PE X o to)(ha:PA X (e::es) t)
  (hbase:attributeBase o name X.env (eval o X.env)=eval o X.env:=by rfl)
  (hfew:((backTo cpos (starEach (e::es) X.env)).all (fun x=>!x.1)&&(backToKw cpos (keywordEach [] X.env)).all (fun x=>x.1.isSome)
  &&decide ((e::es).length+([]:List Keyword).length+(if ([]:List Keyword).isEmpty then 0 else 1)<30))=true:=by rfl)
  (hline:(apos.endLine==cpos.line)=true:=by rfl) (hs:starEach (e::es) X.env=(false,eval e X.env)::starEach es X.env:=by rfl) (hplain:(backTo cpos (starEach es X.env)).any (·.1)=false:=by rfl) :
  PE X (.Call (.Attribute o name apos) (e::es) [] cpos) (tBM X.K T r to t):=by
 intro pins s σ H Q I h;refine wpAny_Call_method_late hbase hfew hline rfl (dD (ho pins s σ H _ I h) fun v s1 ⟨x,H1,I1,r1,ty,q1⟩=>?_);obtain ⟨h1,h2⟩:=Oa I1 r1 ty;refine ⟨T,id,pa,slot,hty,h1,h2,?_⟩;have hA:=ha cpos pins s1 σ H1 _ I1 q1;rw [hs] at hA ⊢;refine Calls.callWith_builtin (by show (false||(backTo cpos (starEach es X.env)).any (·.1))=false; rw [hplain] <;> rfl) (Calls.evalArgs_plain ?_);exact dD hA fun us s2 ⟨vs,H2,I2,r2,q2⟩=>hm pins s2 σ H2 x vs v us Q I2 r1 r2 q2
end
def MtM (X:Cx)(id:String)(r:V->List V->Hp->VK->Prop):Prop :=
 ∀ (pins:List (Addr×Obj)) (s:Shared) (σ:St) (H:Hp) (x:V) (xs:List V) (v:Value) (us:List Value) (Q:VK),aW X pins σ H s->RelV x v->bZ xs us->r x xs H Q ->
  wpAny (model X.prog X.w) X.A (call (.builtin id) (v::us)) (EP X pins σ Q) X.xe s
theorem bZ.one:∀ {x:V}{us:List Value},bZ [x] us->∃ u,us=[u]/\RelV x u
 | _,_,.cons r .nil=>⟨_,rfl,r⟩
theorem bZ.eraseIdx:∀ {xs:List V}{us:List Value} (i:Nat),bZ xs us->bZ (xs.eraseIdx i) (us.eraseIdx i)
 | _,_,_,.nil=>.nil
 | _,_,0,.cons _ t=>t
 | _,_,i+1,.cons r t=>.cons r (bZ.eraseIdx i t)
theorem wG {α:Type}:∀ (l:List α) (i:Nat),(l.eraseIdx i).length<=l.length
 | [],_=>aFM _
 | _::_,0=>aGO _
 | _::r,i+1=>aIi (wG r i)
section
variable {X:Cx}{pins:List (Addr×Obj)}{σ:St}{H:Hp}{s:Shared}{l b:Addr}{xs ys zs:List V}
theorem aW.lset {its its':List Value}{n:Nat}{f:Array Value->Array Value}{t':Nat}(I:aW X pins σ H s)(hH:H l=some (.lst xs))
  (e:s.heap.get? l=some { cls:=.type "list",data:=.seq its.toArray n }) (hf:f its.toArray=its'.toArray) (hv:bZ ys its') (hz:ys.length<=sizeLine) :
  aW X pins σ (bG H l (.lst ys)) { s with heap:=s.heap.update l (Obj.mapSeq f),toks:=t' }:=by
 have q:=PySem.IsL.update e f;rw [hf] at q;refine I.write (x:=l) (e:=l) (by rw [hH]; exact trivial) (.inl rfl) (fun b' u hb hu=>(aGQ s.heap (Obj.mapSeq f) (Ne.symm hb)).trans hu) ⟨_,q⟩ ?_;exact ⟨hz,its',_,hv,q⟩
theorem aW.lstM (I:aW X pins σ H s)(hH:H l=some (.lst xs)):xs.length<=sizeLine/\∃ (its:List Value) (n:Nat),bZ xs its/\xs.length=its.length/\s.heap.get? l=some { cls:=.type "list",data:=.seq its.toArray n }:=by
 obtain ⟨z,its,n,r,e⟩:=I.hok l _ hH;exact ⟨z,its,n,r,r.length,e⟩
theorem Hr {n:Nat}(h:n<=sizeLine):Builtin.List.listTooLong n=false:=by
 unfold Builtin.List.listTooLong;exact decide_eq_false (by omega)
end
section
variable {X:Cx}
def KZ:V->List V->Hp->VK->Prop:=fun x vs H Q=>∃ l xs y,x=.ref l/\vs=[y]/\H l=some (.lst xs)/\xs.length<sizeLine/\Q .non (bG H l (.lst (xs++[y])))
theorem mQ:MtM X "list.append" KZ:=by
 intro pins s σ H x vs v us Q I rx rv h;obtain ⟨l,xs,y,rfl,rfl,hH,hz,q⟩:=h;cases rx;obtain ⟨u,rfl,ru⟩:=rv.one;obtain ⟨z,its,n,r,hl,e⟩:=I.lstM hH;refine call_meets F.slot_list_append ⟨_,e,rfl⟩ F.entry_list_append (F.args_list_append_2 _ _) (PySem.list_append l its.toArray n u (by rw [aFW]; omega)) ⟨e,?_⟩;refine ⟨.non,_,I.lset (its':=its++[u]) hH e (by simp) (r.append (.cons ru .nil)) ?_,rfl,q⟩;rw [aFZ,aGq];omega
def Kd:V->List V->Hp->VK->Prop:=fun x vs H Q=>∃ l b xs zs,x=.ref l/\vs=[.ref b]/\H l=some (.lst xs)/\H b=some (.lst zs)/\xs.length+zs.length<=sizeLine/\Q .non (bG H l (.lst (xs++zs)))
theorem Fb:MtM X "list.extend" Kd:=by
 intro pins s σ H x vs v us Q I rx rv h;obtain ⟨l,b,xs,zs,rfl,rfl,hH,hB,hz,q⟩:=h;cases rx;obtain ⟨u,rfl,ru⟩:=rv.one;cases ru;obtain ⟨z,its,n,r,hl,e⟩:=I.lstM hH;obtain ⟨z2,its2,n2,r2,hl2,e2⟩:=I.lstM hB;have hsz:its.toArray.size+its2.toArray.size<=sizeLine:=by rw [aFW,aFW]; omega
 have hlong:¬ (!its.toArray.isEmpty&&Builtin.List.listTooLong (its.toArray.size+its2.toArray.size))=true:=by
  rw [Hr hsz,Bool.and_false];exact aF2
 refine call_meets F.slot_list_extend ⟨_,e,rfl⟩ F.entry_list_extend (F.args_list_extend_2 _ _)
  (AutoSeq1.list_extend_list_list_0 l its.toArray n b its2.toArray n2 hlong (by rw [aFW]; omega) (by omega)) ⟨e,e2,?_⟩
 refine ⟨.non,_,I.lset (its':=its++its2) hH e (by simp) (r.append r2) ?_,rfl,q⟩;rw [aFZ];omega
def Oc:V->List V->Hp->VK->Prop:=fun x vs H Q=>∃ l xs i k y,x=.ref l/\vs=[.int i]/\H l=some (.lst xs)/\-(2^63)<=i/\i<2^63/\seqIndex? i xs.length=some k/\xs[k]? = some y/\Q y (bG H l (.lst (xs.eraseIdx k)))
theorem lV:MtM X "list.pop" Oc:=by
 intro pins s σ H x vs v us Q I rx rv h;obtain ⟨l,xs,i,k,y,rfl,rfl,hH,h1,h2,hk,hy,q⟩:=h;cases rx;obtain ⟨u,rfl,ru⟩:=rv.one;obtain ⟨t,rfl⟩:=ru;obtain ⟨z,its,n,r,hl,e⟩:=I.lstM hH;obtain ⟨w,hw,rw'⟩:=r.get hy;refine call_meets F.slot_list_pop ⟨_,e,rfl⟩ F.entry_list_pop (F.args_list_pop_2 _ _)
  (MeetsSeq.list_pop_at l its.toArray n i t k w (fitsIndex_both h1 h2) (by rw [aFW,<- hl]; exact hk) (by rw [<- aGL]; exact hw) (by rw [aFW]; omega)) ⟨e,?_⟩
 refine ⟨y,_,I.lset (its':=its.eraseIdx k) hH e ?_ (r.eraseIdx k) ?_,rw',q⟩
 ·show its.toArray.eraseIdxIfInBounds k=(its.eraseIdx k).toArray;rw [List.eraseIdxIfInBounds_toArray]
 ·have:=wG xs k;omega
end
end L2
namespace Att
open PySem PySem.W PySem.Calls PyProof.Rows
theorem qU {P:Params}{h:Heap}:∀ (ns:List Int) (vs:List Value),WellAll P h vs (ns.map WData.int)->IntsAre vs ns:=by
 intro ns
 induction ns with
 | nil =>
  intro vs w;rw [aHG] at w;cases w;exact .nil
 | cons n ns ih =>
  intro vs w;rw [aFP] at w;cases w with
  | cons a b =>
   cases a;exact .cons _ _ (ih _ b)
theorem Fz {l:OpenLaw}{n:Nat}(hn:l.most=some n){P:Params}{h:Heap}{args:List WData}{vals:List Value}
  (hpre:l.row.toRowW.claim.pre args=true) (hwl:WellAll P h vals args) :
  ∃ a vs ns,vals=[Value.ref a]/\args=[WData.list (ns.map WData.int)]/\h.get? a=some { cls:=.type "list",data:=.seq vs.toArray }/\IntsAre vs ns/\ns.length<=n:=by
 have hsh:WShape.hasAll [] args [.list .int]=true:=(pre_splitW hpre).1;have hc:l.pre.holds [] { args:=args }=true:=(pre_splitW hpre).2;obtain ⟨d,r,rfl,h1,h2⟩:=hasAllW_cons hsh;obtain rfl:=hasAllW_nil h2;obtain ⟨xs,rfl,h3⟩:=hasW_list h1;obtain ⟨ns,rfl⟩:=items_int h3;have hlen:ns.length<=n:=by
  unfold OpenLaw.pre at hc;have h4:(WTm.not (.lt (.lit (.int (n:Int))) (.len (.arg 0)))).holds [] { args:=[.list (ns.map .int)] }=true:=by
   have h4:=(holds_andW hc).1;rw [hn] at h4;exact h4
  have h5:=condW_of h4 (w_not (w_lt w_lit (w_len_list (w_arg rfl))));rw [aFF] at h5;refine Nat.le_of_not_lt fun q=>?_;have q':(n:Int)<((ns.length:Nat):Int):=by omega
  first
   | (rw [decide_eq_true q'] at h5; exact absurd h5 (by decide))
   | (simp at h5; omega)
 cases hwl with
 | cons w1 w2 =>
  cases w2;cases w1 with
  | list ho hall=>exact ⟨_,_,ns,rfl,rfl,ho,qU ns _ hall,hlen⟩
theorem Ft (l:OpenLaw)(args:List WData):l.row.toRowW.claim.post args (.bool true) args=true :=
 postW_of (r:=l.row.toRowW) (X:=(true==true))
  (show WShape.has [] (.bool true) .bool=true by first | rfl | decide | simp [WShape.has,WShape.arms,WShape.armsAll])
  (show (WTm.eq .res (.lit (.bool true))).value [] { args:=args,res:=some (.bool true),after:=args }=some (.bool (true==true)) from w_eq_bool (w_res rfl) w_lit) rfl
theorem yO {l:OpenLaw}{n:Nat}{q:Program}{loose:List Str}{XP:(Str->Option Value)->Heap->Prop}{YP:World->Heap->Prop}{d:DefRec}
  (hn:l.most=some n) (hdf:d.params.defaults=[])
  (call:∀ (w:World) (s₀ s₁:Shared) (mg mb:Str->Option Value) (fa:Addr) (o:Obj) (pm cd doc:Value) (a:Addr) (vs:List Value) (ns:List Int),
   Ground q loose [] XP w s₀ mg mb s₁.heap->YP w s₁.heap ->
   s₁.heap.get? fa=some o->o.data=.func (docDef d.name d.params d.body d.scope pm cd doc)->s₁.heap.CodeRec cd d.name->mg d.name=some (.ref fa) ->
   s₁.heap.get? a=some { cls:=.type "list",data:=.seq vs.toArray }->IntsAre vs ns->ns.length<=n->s₁.gens = #[] ->
   codeAny (model l.prog w) callerA (.call (.ref fa) ⟨[.ref a],[]⟩) (fun r s'=>r=.ok (.ret (.bool true))/\OldK s₁.heap s'.heap/\s'.os=s₁.os/\AllBare s'.gens) s₁) :
  WalkO q loose XP YP l.row.toRowW d [] (fun f vs=>PySem.call f vs):=by
 intro w s₀ s₁ mg mb G Y fa o pm cd doc dV kV ho hd hcd hD hmg hg args vals as hpre hlay hrd hwl hlo;obtain rfl:dV=.none:=Dflts.none hD hdf;obtain rfl:kV=.none:=Dflts.noKw hD;obtain ⟨a,vs,ns,rfl,rfl,hobj,hints,hlen⟩:=Fz hn hpre hwl;refine enter_call (codeAny_mono (call w s₀ s₁ mg mb fa o pm cd doc a vs ns G Y ho (fd_plain hd) hcd hmg hobj hints hlen hg) fun r s' hq=>?_);obtain ⟨rfl,h2,h3,h4⟩:=hq;exact ⟨.inl ⟨.bool true,.bool true,[],rfl,fun _=>rfl,.bool true,Ft l _,fun _=>⟨List.Pairwise.nil,fun _ hm=>(nomatch hm)⟩⟩,h2,h3,h4⟩
end Att
namespace L2
open PySem PySem.Spec PyProof.Rows
theorem pB:∀ {vs:List Value}{ns:List Int},IntsAre vs ns->bZ (ns.map V.int) vs
 | _,_,.nil=>.nil
 | _,_,.cons n t h=>.cons ⟨t,rfl⟩ (pB h)
def inClass (s:Stmt)(j:Nat):Stmt:=match s with
 | .ClassDef _ _ _ body _ _ _ _ _ _ _=>body.getD j (.Pass ⟨0,0,0,0⟩)
 | _=>.Pass ⟨0,0,0,0⟩
def iV (s:Stmt):Arguments:=match s with
 | .FunctionDef _ a _ _ _ _ _ _ _ _=>a
 | _=>{ posonlyargs:=[],args:=[],vararg:=none,kwonlyargs:=[],kw_defaults:=[],kwarg:=none,defaults:=[] }
def fJ (s:Stmt):List Stmt:=match s with
 | .FunctionDef _ _ b _ _ _ _ _ _ _=>b
 | _=>[]
def aL (s:Stmt):Scope:=match s with
 | .FunctionDef _ _ _ _ _ _ sc _ _ _=>sc
 | _=>{ kind:=.function,names:=[],isGenerator:=false,isCoroutine:=false }
abbrev dG:yG:=fun _ _ _ _ _ _=>False
abbrev E0:XK:=fun _ _ _=>False
theorem fG {X:Cx}:lD dG X E0:=fun _ _ _ _ _ _ _ h=>h.elim
structure dJ (K:PySem.W.Frag)(x qual:Str)(st:Stmt)(f:Addr)(fd:FuncData):Prop where
 ex:∃ (oc:Value) (od:Option Addr) (kV doc pm:Value) (an:Option Addr) (cdv ct:Value) (osl:Array (Option Value)),
  fd=PySem.W.fnOf x qual (iV st) (fJ st) (aL st) .none kV doc pm an cdv ct/\K.lookup f=some ⟨oc,od,.func fd,osl⟩/\PySem.W.codeIn K cdv qual=true
 kp:PySem.W.keepIn K (.ref f)=true
section
variable {P:Program}{w:World}{K:PySem.W.Frag}{mg:Str->Option Value}{base:Heap}
theorem dJ.ok {x qual:Str}{st:Stmt}{f:Addr}{fd:FuncData}{N ps:List Str}{k:Nat}{sp:Sp}(F:dJ K x qual st f fd)(S:aO N ps (aL st))(len:∀ vs H Q E,sp vs H Q E->vs.length=ps.length)
  (hbody:∀ (cdv:Value) (A:Around) (outer:List Env) (s:Shared) (H:Hp) (vs:List V) (Q:VK) (E:XK),fD k (A.deeper (envOfC qual (aL st) s.heap.objs.size f cdv))->sp vs H Q E ->
   ∃ t,xD (xP dG P w K mg base N qual (aL st) f cdv A outer s H E).nox (fJ st) t/\t { nx:=fun _ H'=>Q .non H',rt:=Q } (start N vs) H):aX P w K mg base dG (k+1) f fd ps sp:=by
 obtain ⟨oc,od,kV,doc,pm,an,cdv,ct,osl,rfl,lk,hcd⟩:=F.ex;refine J5 lk hcd S len fun A outer s H vs Q E hr hsp=>?_;obtain ⟨t,h,q⟩:=hbody cdv A outer s H vs Q E hr hsp;exact ⟨t,h.nox,q⟩
theorem dJ.binds {x qual:Str}{st:Stmt}{f:Addr}{fd:FuncData}{ps:List Str}(F:dJ K x qual st f fd)
  (h:∀ (kV doc pm:Value) (an:Option Addr) (cdv ct:Value) (us:List Value),us.length=ps.length->bindArgs (PySem.W.fnOf x qual (iV st) (fJ st) (aL st) .none kV doc pm an cdv ct) ⟨us,[]⟩=pure (ps.zip us)):Binds K fd ps []:=by
 obtain ⟨oc,od,kV,doc,pm,an,cdv,ct,osl,rfl,lk,hcd⟩:=F.ex;exact .all (h kV doc pm an cdv ct)
theorem Hx {x qual:Str}{st:Stmt}{f:Addr}{oc:Value}{od an:Option Addr}{osl:Array (Option Value)}{kV doc pm cdv ct:Value}(l:K.lookup f=some ⟨oc,od,.func (PySem.W.fnOf x qual (iV st) (fJ st) (aL st) .none kV doc pm an cdv ct),osl⟩)
  (c:PySem.W.codeIn K cdv qual=true) (k:PySem.W.keepIn K (.ref f)=true):dJ K x qual st f (PySem.W.fnOf x qual (iV st) (fJ st) (aL st) .none kV doc pm an cdv ct):=⟨⟨oc,od,kV,doc,pm,an,cdv,ct,osl,rfl,l,c⟩,k⟩
end
theorem W5 {A:Around}{k:Nat}(hr:fD k A):A.units+1<cLine:=aHr (aG3 (by decide:1<=64) _) hr.units
theorem aQ {n:Nat}(h:n<=1000):n<sizeLine:=aHr h (by decide)
section
variable {X:Cx}
theorem pv (i:Nat){x:Str}{pos:Pos}(hN:X.N[i]? = some x:=by rfl)(hv:W7 X.env.scope x:=by first | exact Or.inl rfl | exact Or.inr (Or.inl rfl) | exact Or.inr (Or.inr rfl))(hd:(x==("__debug__" : Str))=false:=by decide)
  (hcd:(x==("__classdict__" : Str))=false:=by decide):PE X (.Name x pos) (uE i):=HQ hN hv hd hcd
end
theorem eX {A B:Prop}(h:B):if false=true then A else B:=by
 rw [if_neg aF2];exact h
theorem iR {A B:Prop}(h:A):if true=true then A else B:=by
 rw [if_pos rfl];exact h
theorem lG {c A B:Prop}[Decidable c](h1:c->A)(h2:¬ c->B):if c then A else B:=by
 by_cases h:c
 ·rw [if_pos h];exact h1 h
 ·rw [if_neg h];exact h2 h
def aR (H H':Hp):Prop:=∀ b o,H b=some o->H' b=some o
theorem aR.refl (H:Hp):aR H H:=fun _ _ h=>h
theorem aR.trans {H H1 H2:Hp}(a:aR H H1)(b:aR H1 H2):aR H H2:=fun c o h=>b c o (a c o h)
theorem aR.free {H H':Hp}(e:aR H H'){l:Addr}(h:H' l=aIm):H l=aIm:=by
 cases q:H l with
 | none=>rfl
 | some o =>
  rw [e l o q] at h;cases h
theorem aR.seq {K:PySem.W.Frag}{H H':Hp}{a:Addr}{xs:List V}(e:aR H H')(h:bV K H a xs):bV K H' a xs:=by
 rcases h with (h | ⟨o,h⟩) | h
 ·exact .inl (.inl (e _ _ h))
 ·exact .inl (.inr ⟨o,e _ _ h⟩)
 ·exact .inr h
section
variable {κ:Type}[DecidableEq κ]
def lA (kvs:List (κ×V))(k:κ):Option V:=(kvs.find? fun kv=>decide (kv.1=k)).map (·.2)
def putK (kvs:List (κ×V))(k:κ)(v:V):List (κ×V) :=
 if (kvs.any fun kv=>decide (kv.1=k))=true then kvs.map (fun kv=>if kv.1=k then (kv.1,v) else kv) else kvs++[(k,v)]
theorem rR {p:κ×V}{r:List (κ×V)}{k:κ}(e:p.1=k):lA (p::r) k=some p.2:=by simp [lA,aGT,e]
theorem sY {p:κ×V}{r:List (κ×V)}{k:κ}(e:¬ p.1=k):lA (p::r) k=lA r k:=by simp [lA,aGT,e]
theorem uB (k:κ):∀ kvs:List (κ×V),(kvs.any fun kv=>decide (kv.1=k))=(lA kvs k).isSome
 | []=>rfl
 | p::r=>by
  rw [aHZ]
  by_cases e:p.1=k
  ·simp only [rR e,decide_eq_true e,Bool.true_or,Option.isSome_some]
  ·rw [sY e,decide_eq_false e,Bool.false_or]; exact uB k r
theorem lM (kvs:List (κ×V))(k:κ)(v:V):(putK kvs k v).length<=kvs.length+1:=by
 unfold putK
 split
 ·rw [aFF]; omega
 ·rw [aFZ,aGf,aIo]; omega
theorem lB.isSome_eq {o:Option V}{u:Option Value}(r:lB o u):o.isSome=u.isSome:=by
 cases o with
 | none=>cases u with
  | none=>rfl
  | some _=>exact (show False from r).elim
 | some _=>cases u with
  | none=>exact (show False from r).elim
  | some _=>rfl
theorem lB.getD {o:Option V}{u:Option Value}{d:V}{d':Value}(r:lB o u)(rd:RelV d d'):RelV (o.getD d) (u.getD d'):=by
 cases o with
 | none=>cases u with
  | none=>exact rd
  | some _=>exact (show False from r).elim
 | some _=>cases u with
  | none=>exact (show False from r).elim
  | some _=>exact r
theorem KV.val {kvs:List (κ×V)}{vs:List (κ×Value)}(r:KV kvs vs)(k:κ):lB (lA kvs k) (valueAt vs k):=by
 unfold KV at r
 induction r with
 | nil=>exact True.intro
 | @cons p q ps qs h t ih =>
  obtain ⟨h1,h2⟩:=h
  by_cases e:p.1=k
  ·have e':q.1=k:=h1.symm.trans e;have b:valueAt (q::qs) k=some q.2:=by simp [valueAt,aGT,e']
   rw [rR e,b]; exact h2
  ·have e':¬ q.1=k:=fun z=>e (h1.trans z);have b:valueAt (q::qs) k=valueAt qs k:=by simp [valueAt,aGT,e']
   rw [sY e,b]; exact ih
theorem KV.any {kvs:List (κ×V)}{vs:List (κ×Value)}(r:KV kvs vs)(k:κ):(kvs.any fun kv=>decide (kv.1=k))=vs.any fun kv=>decide (kv.1=k):=by
 unfold KV at r
 induction r with
 | nil=>rfl
 | cons h t ih=>rw [aHZ,aHZ,ih,h.1]
theorem KV.repl {kvs:List (κ×V)}{vs:List (κ×Value)}(r:KV kvs vs)(k:κ){y:V}{u:Value}(ry:RelV y u) :
  KV (kvs.map fun kv=>if kv.1=k then (kv.1,y) else kv) (vs.map fun kv=>if kv.1=k then (kv.1,u) else kv):=by
 unfold KV at r ⊢
 induction r with
 | nil=>exact .nil
 | @cons p q ps qs h t ih =>
  rw [aFP,aFP];refine .cons ?_ ih;obtain ⟨h1,h2⟩:=h
  by_cases e:p.1=k
  ·rw [if_pos e,if_pos (h1.symm.trans e)]; exact ⟨h1,ry⟩
  ·rw [if_neg e,if_neg (fun z=>e (h1.trans z))]; exact ⟨h1,h2⟩
theorem KV.put {kvs:List (κ×V)}{vs:List (κ×Value)}(r:KV kvs vs)(k:κ){y:V}{u:Value}(ry:RelV y u):KV (putK kvs k y) (stored vs k u):=by
 unfold putK stored;rw [r.any k]
 by_cases e:(vs.any fun kv=>decide (kv.1=k))=true
 ·rw [if_pos e,if_pos e]; exact r.repl k ry
 ·rw [if_neg e,if_neg e]; exact Paired.snoc r ⟨rfl,ry⟩
theorem KV.length {kvs:List (κ×V)}{vs:List (κ×Value)}(r:KV kvs vs):kvs.length=vs.length:=Paired.length r
end
theorem Cz {P:Program}{w:World}{k:Key}{u:Value}(r:RelV (kV k) u):(c7 P w).is k u=true:=by
 cases k with
 | inl i=>obtain ⟨t,e⟩:=(show ∃ t,u=Value.int i t from r); subst e; exact An P w i t
 | inr x=>obtain ⟨t,e⟩:=(show ∃ t,u=Value.str x t from r); subst e; exact yV P w x t
theorem wN {P:Program}{w:World}:∀ {ks:List Key}{us:List Value},bZ (ks.map kV) us->ItemsAre (c7 P w) ks us
 | [],_,r=>by rw [aHG] at r; cases r; exact .nil
 | k::ks,_,r=>by
  rw [aFP] at r;cases r with
  | cons h t=>exact .cons (Cz h) (wN t)
abbrev KT (H:Hp):List (List Key×V)->List (List Key×Addr×Value)->Prop:=Paired fun p q=>p.1=q.1/\H q.2.1=some (.tup (p.1.map kV))/\RelV p.2 q.2.2
theorem KT.val {H:Hp}{kvs:List (List Key×V)}{xs:List (List Key×Addr×Value)}(r:KT H kvs xs)(k:List Key):lB (lA kvs k) ((atKey xs k).map (·.2)):=by
 induction r with
 | nil=>exact True.intro
 | @cons p q ps qs h t ih =>
  obtain ⟨h1,_,h2⟩:=h
  by_cases e:p.1=k
  ·have e':q.1=k:=h1.symm.trans e;have b:atKey (q::qs) k=some q.2:=by simp [atKey,aGT,e']
   rw [rR e,b]; exact h2
  ·have e':¬ q.1=k:=fun z=>e (h1.trans z);have b:atKey (q::qs) k=atKey qs k:=by simp [atKey,aGT,e']
   rw [sY e,b]; exact ih
theorem KT.repl {H:Hp}{kvs:List (List Key×V)}{xs:List (List Key×Addr×Value)}(r:KT H kvs xs)(k:List Key){y:V}{u:Value}(ry:RelV y u) :
  KT H (kvs.map fun kv=>if kv.1=k then (kv.1,y) else kv) (xs.map (putAt k u)):=by
 induction r with
 | nil=>exact .nil
 | @cons p q ps qs h t ih =>
  rw [aFP,aFP];refine .cons ?_ ih;obtain ⟨h1,h2,h3⟩:=h;unfold putAt
  by_cases e:p.1=k
  ·rw [if_pos e,if_pos (h1.symm.trans e)]; exact ⟨h1,h2,ry⟩
  ·rw [if_neg e,if_neg (fun z=>e (h1.trans z))]; exact ⟨h1,h2,h3⟩
theorem KT.put {H:Hp}{kvs:List (List Key×V)}{xs:List (List Key×Addr×Value)}(r:KT H kvs xs)(k:List Key){b:Addr}{y:V}{u:Value}(hb:H b=some (.tup (k.map kV)))(ry:RelV y u) :
  KT H (putK kvs k y) (storedH xs k b u):=by
 have e:(kvs.any fun kv=>decide (kv.1=k))=(atKey xs k).isSome:=by
  rw [uB,(r.val k).isSome_eq,Option.isSome_map]
 unfold putK storedH;rw [e]
 by_cases q:(atKey xs k).isSome=true
 ·rw [if_pos q,if_pos q]; exact r.repl k ry
 ·rw [if_neg q,if_neg q]; exact Paired.snoc r ⟨rfl,hb,ry⟩
theorem KT.keeps {H H':Hp}{kvs:List (List Key×V)}{xs:List (List Key×Addr×Value)}(r:KT H kvs xs)(ht:∀ b ys,H b=some (.tup ys)->H' b=some (.tup ys)):KT H' kvs xs :=
 Paired.mapP r fun _ _ z=>⟨z.1,ht _ _ z.2.1,z.2.2⟩
section
variable {P:Program}{w:World}{H:Hp}{h:Heap}{a:Addr}
theorem Kv {u:HO}(ok:mC P w H h)(e:Rd H a u):b7 P w H h a u:=e.ok ok
theorem yS {kvs:List (Key×V)}(ok:mC P w H h)(e:Rd H a (.dK kvs)):kvs.length<=sizeLine/\(a==sysModules)=false/\∃ vs,KV kvs vs/\h.DictOf (c7 P w) a vs :=
 show b7 P w H h a (.dK kvs) from Kv ok e
theorem Ro {kvs:List (Key×V)}(ok:mC P w H h)(e:H a=some (.dK kvs)):kvs.length<=sizeLine/\(a==sysModules)=false/\∃ vs,KV kvs vs/\h.DictOf (c7 P w) a vs:=yS ok (.inl e)
theorem xR {ks:List Key}(ok:mC P w H h)(e:H a=some (.tup (ks.map kV))):(tupleKind (c7 P w)).is h ks a:=by
 obtain ⟨_,its,r,o,h1,h2,n,h3⟩:=(show b7 P w H h a (.tup (ks.map kV)) from ok a _ e)
 exact ⟨o,its.toArray,n,h1,h2,h3,by simpa using wN r⟩
theorem BX {kvs:List (List Key×V)}(ok:mC P w H h)(e:Rd H a (.dT kvs)):kvs.length<=sizeLine/\(a==sysModules)=false ∧
  ∃ xs,KT H kvs xs/\h.DictOfH (tupleKind (c7 P w)) a xs:=by
 obtain ⟨z,y,xs,r,o,es,ep,h1,h2,h3,h4,h5⟩:=(show b7 P w H h a (.dT kvs) from Kv ok e)
 refine ⟨z,y,xs,r,o,es,ep,h1,h2,h3,h4,fun x hx=>?_,h5⟩;have all:∀ {l:List (List Key×V)}{m:List (List Key×Addr×Value)},KT H l m->∀ x∈m,(tupleKind (c7 P w)).is h x.1 x.2.1:=by
  intro l m q
  induction q with
  | nil=>intro x hx; exact nomatch hx
  | @cons p q ps qs hq t ih =>
   intro x hx;rcases aF7.mp hx with e | hx
   ·subst e;exact xR ok (by rw [<- hq.1]; exact hq.2.1)
   ·exact ih x hx
 exact all r x hx
theorem Rn {kvs:List (List Key×V)}(ok:mC P w H h)(e:H a=some (.dT kvs)):kvs.length<=sizeLine/\(a==sysModules)=false ∧
  ∃ xs,KT H kvs xs/\h.DictOfH (tupleKind (c7 P w)) a xs:=BX ok (.inl e)
end
def Aj (H:Hp)(a:Addr)(y:V)(r:Option V):Prop :=
 (∃ kvs k,Rd H a (.dK kvs)/\y=kV k/\r=lA kvs k)∨∃ kvs k b,Rd H a (.dT kvs)/\y=.ref b/\H b=some (.tup (k.map kV))/\r=lA kvs k
def JV (H:Hp)(a:Addr)(y v:V)(H':Hp):Prop :=
 (∃ kvs k,H a=some (.dK kvs)/\y=kV k/\kvs.length<sizeLine/\H'=bG H a (.dK (putK kvs k v))) ∨
 ∃ kvs k b,H a=some (.dT kvs)/\y=.ref b/\H b=some (.tup (k.map kV))/\kvs.length<sizeLine/\H'=bG H a (.dT (putK kvs k v))
theorem Aj.t {H:Hp}{a b:Addr}{kvs:List (List Key×V)}{k:List Key}(e:H a=some (.dT kvs))(eb:H b=some (.tup (k.map kV))):Aj H a (.ref b) (lA kvs k):=.inr ⟨kvs,k,b,.inl e,rfl,eb,rfl⟩
theorem JV.t {H:Hp}{a b:Addr}{kvs:List (List Key×V)}{k:List Key}{v:V}(e:H a=some (.dT kvs))(eb:H b=some (.tup (k.map kV)))(hl:kvs.length<sizeLine) :
  JV H a (.ref b) v (bG H a (.dT (putK kvs k v))):=.inr ⟨kvs,k,b,e,rfl,eb,hl,rfl⟩
section
variable {X:Cx}{pins:List (Addr×Obj)}{σ:St}{H:Hp}{s:Shared}{a:Addr}{y v:V}{u r:Value}{o:Option V}{A:Around}{E:Value->Shared->Prop}
theorem aW.big (I:aW X pins σ H s):sysModules<s.heap.objs.size:=by
 have h:mainGlobals<s.heap.objs.size:=(I.mod.glob.keeps I.bk).lt;exact Nat.lt_trans (by decide) h
theorem Ez {Q:Value->Shared->Prop}(hu:A.units+1<cLine)(I:aW X pins σ H s)(g:Aj H a y (some v))(ry:RelV y u)(h:∀ w' s',aW X pins σ H s'->RelV v w'->Q w' s') :
  wpAny (model X.prog X.w) A (getItem (.ref a) u) Q E s:=by
 rcases g with ⟨kvs,k,e,ey,l⟩ | ⟨kvs,k,b,e,ey,eb,l⟩
 ·subst ey;obtain ⟨z,hd,vs,rel,dd⟩:=yS I.hok e;obtain ⟨w',hw,rw'⟩:=lB.some_of (v:=v) (o:=valueAt vs k) (by rw [l]; exact rel.val k);exact wpAny_getItem_of (Cz ry) dd.mapOf hw (h w' _ (I.tok _) rw')
 ·subst ey;cases (show u=Value.ref b from ry);obtain ⟨z,hd,xs,rel,dd⟩:=BX I.hok e;obtain ⟨w',hw,rw'⟩:=lB.some_of (v:=v) (o:=(atKey xs k).map (·.2)) (by rw [l]; exact rel.val k);obtain ⟨p,hp,hp2⟩:=Option.map_eq_some_iff.mp hw;refine wpAny_getItem_heap (tupleKind_room_in1 hu) (xR I.hok eb) dd hp ?_;rw [hp2];exact h w' _ (I.tok _) rw'
theorem Ep {h':Heap}{t':Nat}{ob:HO}(I:aW X pins σ H s)(mu:QD (H a))(hs:aGi a s.heap h')(he:∃ q,h'.get? a=some q)(new:b7 X.prog X.w (bG H a ob) h' a ob) :
  aW X pins σ (bG H a ob) { s with heap:=h',toks:=t' } :=
 I.write (x:=a) (e:=a) mu (.inl rfl) (fun b q hb z=>(hs.2 b hb).trans z) he new
theorem Nu {P:Program}{w:World}{H':Hp}{h':Heap}{kvs:List (Key×V)}{vs:List (Key×Value)}(z:kvs.length<=sizeLine)(hd:(a==sysModules)=false)(rel:KV kvs vs)(dd:h'.DictOf (c7 P w) a vs) :
  b7 P w H' h' a (.dK kvs):=⟨z,hd,vs,rel,dd⟩
theorem Fw {H':Hp}{Q:Unit->Shared->Prop}(hu:A.units+1<cLine)(I:aW X pins σ H s)(g:JV H a y v H')(ry:RelV y u)(rv:RelV v r)(h:∀ s',aW X pins σ H' s'->Q () s') :
  wpAny (model X.prog X.w) A (setItem (.ref a) u r) Q E s:=by
 rcases g with ⟨kvs,k,e,ey,l,eH⟩ | ⟨kvs,k,b,e,ey,eb,l,eH⟩
 ·subst ey eH;obtain ⟨z,hd,vs,rel,dd⟩:=Ro I.hok e;have hz:vs.length<=sizeLine:=by rw [<- rel.length]; exact z
  have hl:(putK kvs k v).length<=sizeLine:=by have:=lM kvs k v; omega
  refine wpAny_setItem_pairs (hsz:=hz) (Cz ry) dd fun h' dd' hs=>h _ ?_;have he:∃ q,h'.get? a=some q:=let ⟨q,_,_,hq,_⟩:=dd'; ⟨q,hq⟩;exact Ep I (by rw [e]; exact True.intro) hs he (Nu hl hd (rel.put k rv) dd')
 ·subst ey eH;cases (show u=Value.ref b from ry);obtain ⟨z,hd,xs,rel,dd⟩:=Rn I.hok e;have hz:xs.length<=sizeLine:=by rw [<- Paired.length rel]; exact z
  have hl:(putK kvs k v).length<=sizeLine:=by have:=lM kvs k v; omega
  refine wpAny_setItem_heap (hsz:=hz) (tupleKind_room_in1 hu) (xR I.hok eb) dd fun h' dd' hs=>h _ ?_;obtain ⟨q,es,ep,hq,h2,h3,h4,_,h5⟩:=dd';refine Ep I (by rw [e]; exact True.intro) hs ⟨q,hq⟩ ⟨hl,hd,_,(rel.put k eb rv).keeps fun c ys ec=>?_,q,es,ep,hq,h2,h3,h4,h5⟩;rw [aK (cH ec e (fun z=>nomatch z))];exact ec
end
def Tg (i:Expr):Prop:=∀ ov iv,subscripted i false ov iv=operate [ov,iv] (getItem ov iv)
theorem KQ {prog:Program}{w:World}{A:Around}{E:Value->Shared->Prop}{s:Shared}{env:Env}{value slice:Expr}{pos:Pos}{T id:String}{Q:Value->Shared->Prop}
  (hl:typeLookup (.type T) "__getitem__" = pure (some (.builtin id))) (hs:Tg slice)
  (h:wpAny (model prog w) A (eval value env) (fun o s₁=>wpAny (model prog w) A (eval slice env) (fun i s₂=>s₂.TypeIs o T/\wpAny (model prog w) A (getItem o i) Q E s₂) E s₁) E s) :
  wpAny (model prog w) A (eval (.Subscript value slice pos) env) Q E s:=by
 refine Subscript_ (wpAny_mono h (fun o s₁ h₁=>wpAny_mono h₁ (fun i s₂ h₂=>?_) fun _ _ x=>x) fun _ _ x=>x);obtain ⟨hT,h₂⟩:=h₂;unfold subscriptTail;refine wpAny_bind ?_;rw [getitemInPython_of_ne hT.not_modules];refine wpAny_bind (wpAny_specialOf hT hl ?_);have fin:wpAny (model prog w) A (subscripted slice false o i) (fun r s₃=>wpAny (model prog w) A (letTemporaryGo value o r >>= fun _=>pure r) Q E s₃) E s₂:=by
  rw [hs o i];exact wpAny_operating (wpAny_mono h₂ (fun r s₃ h₃=>wpAny_bind (wpAny_letTemporaryGo (wpAny_pure h₃))) fun _ _ x=>x)
 first
  | exact wpAny_pure (wpAny_bind fin)
  | exact wpAny_bind (wpAny_pure (wpAny_bind fin))
  | exact wpAny_bind fin
theorem zP {X:Cx}{pins:List (Addr×Obj)}{σ:St}{H:Hp}{s:Shared}{a:Addr}{y:V}{o:Option V}(I:aW X pins σ H s)(g:Aj H a y o):s.TypeIs (.ref a) "dict":=by
 rcases g with ⟨kvs,k,e,_,_⟩ | ⟨kvs,k,b,e,_,_,_⟩
 ·obtain ⟨_,_,vs,_,dd⟩:=yS I.hok e;exact dd.typeIs
 ·obtain ⟨_,_,xs,_,dd⟩:=BX I.hok e;exact dd.typeIs
def V4 (td ty:TE):TE:=fun σ H Q=>td σ H fun x H1=>ty σ H1 fun y H2=>∃ a v,x=.ref a/\Aj H2 a y (some v)/\Q v H2
def Qd (td ty tv:TE):TS:=fun D σ H=>tv σ H fun v H1=>td σ H1 fun x H2=>ty σ H2 fun y H3=>∃ a H4,x=.ref a/\JV H3 a y v H4/\D.nx σ H4
section
variable {X:Cx}{o i e value:Expr}{pos pos' tpos:Pos}{td ty tv:TE}
theorem Dg (hu:X.A.units+1<cLine)(ho:PE X o td)(hi:PE X i ty)(hs:Tg i):PE X (.Subscript o i pos) (V4 td ty):=by
 intro pins s σ H Q I h;refine KQ PySem.F.slot_dict_getitem.lookup hs (dD (ho pins s σ H _ I h) fun u s1 ⟨x,H1,I1,rx,q1⟩=>dD (hi pins s1 σ H1 _ I1 q1) fun iv s2 ⟨y,H2,I2,ry,a,v,ex,g,q2⟩=>?_);subst ex;obtain rfl:u=Value.ref a:=rx;exact ⟨zP I2 g,Ez hu I2 g ry fun w' s3 I3 rw'=>⟨v,H2,I3,rw',q2⟩⟩
theorem Jt (hu:X.A.units+1<cLine)(ho:PE X o td)(hi:PE X i ty)(hv:PE X value tv)(hs:swapsWith value (some (.Subscript o i pos')) pos.line X.env=pure false) :
  PS X (.Assign [.Subscript o i pos'] value pos) (Qd td ty tv):=by
 intro pins s σ H D I h;refine wpAny_Assign_Subscript (dD (hv pins s σ H _ I h) fun r s1 ⟨v,H1,I1,rv,q1⟩=>dD (ho pins s1 σ H1 _ I1 q1) fun u s2 ⟨x,H2,I2,rx,q2⟩=>dD (hi pins s2 σ H2 _ I2 q2) fun iv s3 ⟨y,H3,I3,ry,a,H4,ex,g,q3⟩=>?_) hs;subst ex;obtain rfl:u=Value.ref a:=rx;exact Fw hu I3 g ry rv fun s4 I4=>⟨σ,H4,I4,q3⟩
end
theorem Iu {P:Program}{w:World}{H:Hp}(h:Heap)(hb:sysModules<h.objs.size):b7 P w H (h.push { cls:=.type "dict",data:=.dict #[] }) h.objs.size (.dT []) :=
 ⟨aGa _,beq_eq_false_iff_ne.mpr (Ne.symm (aF6 hb)),[],.nil,_,#[],0,aFV _ rfl,⟨rfl,rfl,rfl⟩,rfl,rfl,aHT⟩
def Ow:TE:=fun _ H Q=>∀ p,H p=none->Q (.ref p) (bG H p (.dT []))
section
variable {X:Cx}{pos:Pos}
theorem Ig:PE X (.Dict [] [] pos) Ow:=fun pins s σ H Q I h =>
 wpAny_Dict_empty ⟨.ref s.heap.objs.size,_,I.laid (a:=s.heap.objs.size) (o:=.dT []) (t':=s.toks) (fun _ _ q=>aFH _ q) (aFM _) (Iu s.heap I.big),rfl,h _ (I.hok.fresh (aFM _))⟩
end
structure M1 (X:Cx)(o:Expr)(m:Str)(apos:Pos)(e:Expr)(cpos:Pos):Prop where
 base:attributeBase o m X.env (eval o X.env)=eval o X.env
 few:((backTo cpos (starEach [e] X.env)).all (fun x=>!x.1)&&(backToKw cpos (keywordEach [] X.env)).all (fun x=>x.1.isSome)
 &&decide (([e]:List Expr).length+([]:List Keyword).length+(if ([]:List Keyword).isEmpty then 0 else 1)<30))=true
 line:(apos.endLine==cpos.line)=true
 trees:backTo cpos (starEach [e] X.env)=[(false,eval e X.env)]
structure M2 (X:Cx)(o:Expr)(m:Str)(apos:Pos)(e f:Expr)(cpos:Pos):Prop where
 base:attributeBase o m X.env (eval o X.env)=eval o X.env
 few:((backTo cpos (starEach [e,f] X.env)).all (fun x=>!x.1)&&(backToKw cpos (keywordEach [] X.env)).all (fun x=>x.1.isSome)
 &&decide (([e,f]:List Expr).length+([]:List Keyword).length+(if ([]:List Keyword).isEmpty then 0 else 1)<30))=true
 line:(apos.endLine==cpos.line)=true
 trees:backTo cpos (starEach [e,f] X.env)=[(false,eval e X.env),(false,eval f X.env)]
def IsD (H:Hp)(a:Addr):Prop:=(∃ kvs,Rd H a (.dK kvs))∨∃ kvs,Rd H a (.dT kvs)
theorem Oz {X:Cx}{pins:List (Addr×Obj)}{σ:St}{H:Hp}{s:Shared}{a:Addr}(I:aW X pins σ H s)(d:IsD H a) :
  s.TypeIs (.ref a) "dict"/\(∀ b,Value.ref a=.ref b->∃ ob,s.heap.get? b=some ob/\ob.dict=none)/\(a==sysModules)=false:=by
 rcases d with ⟨kvs,e⟩ | ⟨kvs,e⟩
 ·obtain ⟨_,hd,vs,_,dd⟩:=yS I.hok e;refine ⟨dd.typeIs,fun b q=>?_,hd⟩;cases q;obtain ⟨ob,_,_,h1,h2,_⟩:=dd;exact ⟨ob,h1,h2.2.1⟩
 ·obtain ⟨_,hd,xs,_,dd⟩:=BX I.hok e;refine ⟨dd.typeIs,fun b q=>?_,hd⟩;cases q;obtain ⟨ob,_,_,h1,h2,_⟩:=dd;exact ⟨ob,h1,h2.2.1⟩
section
variable {X:Cx}{pins:List (Addr×Obj)}{σ:St}{H:Hp}{s:Shared}{a:Addr}{y d:V}{u r:Value}{o:Option V}{A:Around}{E:Value->Shared->Prop}
theorem O3 {Q:Value->Shared->Prop}(hu:A.units+1<cLine)(I:aW X pins σ H s)(g:Aj H a y o)(ry:RelV y u)(rd:RelV d r)(h:∀ w' s',aW X pins σ H s'->RelV (o.getD d) w'->Q w' s') :
  wpAny (model X.prog X.w) A (call (.builtin "dict.get") [.ref a,u,r]) Q E s:=by
 rcases g with ⟨kvs,k,e,ey,l⟩ | ⟨kvs,k,b,e,ey,eb,l⟩
 ·subst ey;obtain ⟨z,hd,vs,rel,dd⟩:=yS I.hok e;refine call_meetsIn PySem.F.slot_dict_get dd.typeIs PySem.F.entry_dict_get (PySem.F.args_dict_get_3 _ _ _) (meets_dict_get_default (c7 X.prog X.w) a (Cz ry) hd r) ⟨_,dd.mapOf,h _ _ (I.tok _) ?_⟩;rw [l];exact (rel.val k).getD rd
 ·subst ey;cases (show u=Value.ref b from ry);obtain ⟨z,hd,xs,rel,dd⟩:=BX I.hok e;refine call_meetsIn PySem.F.slot_dict_get dd.typeIs PySem.F.entry_dict_get (PySem.F.args_dict_get_3 _ _ _) (meetsH_dict_get_default (tupleKind (c7 X.prog X.w)) a b hd r) ⟨tupleKind_room_in1 hu,k,xs,xR I.hok eb,dd,h _ _ (I.tok _) ?_⟩;rw [l];exact (rel.val k).getD rd
end
def NK (td ty tx:TE):TE:=fun σ H Q=>td σ H fun x H1=>∃ a,x=.ref a/\IsD H1 a/\ty σ H1 fun y H2=>tx σ H2 fun z H3=>∃ o,Aj H3 a y o/\Q (o.getD z) H3
section
variable {X:Cx}{o e f:Expr}{apos cpos:Pos}{td ty tx:TE}
theorem Iw (hu:X.A.units+1<cLine)(ho:PE X o td)(he:PE X e ty)(hf:PE X f tx)(m:M2 X o "get" apos e f cpos):PE X (.Call (.Attribute o "get" apos) [e,f] [] cpos) (NK td ty tx):=by
 intro pins s σ H Q I h;refine wpAny_Call_method m.base m.few m.line PySem.F.plainAttrs_dict PySem.F.slot_dict_get PySem.F.type_dict_get (dD (ho pins s σ H _ I h) fun u s1 ⟨x,H1,I1,rx,a,ex,d,q1⟩=>?_);subst ex;obtain rfl:u=Value.ref a:=rx;obtain ⟨t1,t2,_⟩:=Oz I1 d;refine ⟨t1,t2,?_⟩;rw [m.trees];refine Calls.callWith_builtin rfl (Calls.evalArgs_plain (Calls.spliced_cons (dD (he pins s1 σ H1 _ I1 q1) fun iv s2 ⟨y,H2,I2,ry,q2⟩ =>
  Calls.spliced_cons (dD (hf pins s2 σ H2 _ I2 q2) fun fv s3 ⟨z,H3,I3,rz,ov,g,q3⟩=>Calls.spliced_nil ?_))))
 exact O3 hu I3 g ry rz fun w' s4 I4 rw'=>⟨_,H3,I4,rw',q3⟩
end
section
variable {κ:Type}[DecidableEq κ]
theorem Gx {kvs:List (κ×V)}{k:κ}(h:lA kvs k=none):¬ k∈kvs.map (·.1):=by
 intro m;obtain ⟨p,hp,e⟩:=aFL.mp m;have q:(kvs.any fun kv=>decide (kv.1=k))=true:=aHk.mpr ⟨p,hp,decide_eq_true e⟩;rw [uB,h] at q;exact absurd q (by simp)
end
end L2
namespace PySem
section
variable {prog:Program}{w:World}{A:Around}{E:Value->Shared->Prop}{R:Result->Shared->Prop}{s:Shared}
theorem w5 {elt target iter:Expr}{ifs:List Expr}{scope:Scope}{pos:Pos}{it acc:Value}{env:Env}(I:Nat->Shared->Prop)
  (turn:∀ n s,I n s->∀ E':Value->Shared->Prop,wpAny (model prog w) A (pyNext it) (fun r s₁=>match r with
   | none=>R (.ok .next) s₁
   | some v=>wpAny (model prog w) A (letOwnedTupleGo target it v) (fun _ s₁'=>wpAny (model prog w) A (assign target env v) (fun _ s₂ =>
     wpAny (model prog w) A (forIn ifs true fun c r=>if r=true then do let ok <- isTrue c env (eval c env); pure (ForInStep.yield ok) else pure (ForInStep.yield r)) (fun ok s₃ =>
      if ok=true then wpAny (model prog w) A (eval elt env) (fun x s₄ =>
       wpAny (model prog w) A (call (.builtin "list.append") [acc,x]) (fun _ s₅=>∃ m,m<n/\I m s₅) E' s₄) E' s₃
      else ∃ m,m<n/\I m s₃) E' s₂) E' s₁') E' s₁) E' s)
  (n:Nat) (h:I n s) :
  codeAny (model prog w) A (.compLoop (.ListComp elt [⟨target,iter,ifs,0⟩] scope pos) 0 it acc env) R s:=by
 refine codeAny_loop rfl I (fun n s hI=>?_) n h;show wpAny _ A ((compTurn (.ListComp elt [⟨target,iter,ifs,0⟩] scope pos) 0 it acc env).onRaise (fun x=>do noteFrame x env; theTreesLotGoes x)) _ _ s;refine wpAny_noted ?_;rw [compTurn_list];refine wpAny_bind (wpAny_standAt (wpAny_bind (wpAny_mono (turn n s hI _) (fun r s₁ h₁=>?_) fun _ _ h'=>h')));cases r with
 | none=>exact wpAny_pure h₁
 | some v =>
  refine wpAny_bind (wpAny_mono h₁ (fun _ s₁' h₁'=>?_) fun _ _ h'=>h');refine wpAny_bind (wpAny_mono h₁' (fun _ s₂ h₂=>wpAny_bind (wpAny_mono h₂ (fun ok s₃ h₃=>?_) fun _ _ h'=>h')) fun _ _ h'=>h');cases ok with
  | false=>exact wpAny_pure ⟨rfl,h₃⟩
  | true =>
   exact wpAny_bind (wpAny_bind (wpAny_mono h₃ (fun x s₄ h₄=>wpAny_bind (wpAny_mono h₄ (fun _ s₅ h₅=>wpAny_pure (wpAny_pure ⟨rfl,h₅⟩)) fun _ _ h'=>h')) fun _ _ h'=>h'))
end
def dY (env:Env):List (Str×NameKind)->List (Str×Addr)->List (Str×Addr)
 | [],cs=>cs
 | (n,k)::r,cs=>dY env r (if k==.free then (match env.cells.lookup n with | some a=>(n,a)::cs | none=>cs) else cs)
theorem pD {scope:Scope}{env:Env}(h:∀ y∈scope.names,y.2=.free->∃ c,env.cells.lookup y.1=some c):closureFor scope env=pure (dY env scope.names []):=by
 unfold closureFor;have key:∀ (l:List (Str×NameKind)) (cs:List (Str×Addr)),(∀ y∈l,y.2=.free->∃ c,env.cells.lookup y.1=some c) ->
   (forIn l cs fun x r=>(match x with
    | (name,kind)=>if (kind==NameKind.free)=true then (do let a <- cellOf env name; pure (ForInStep.yield ((name,a)::r))) else pure (ForInStep.yield r):Sem (ForInStep (List (Str×Addr)))))=(pure (dY env l cs):Sem _):=by
  intro l
  induction l with
  | nil=>intro cs _; rfl
  | cons y r ih =>
   intro cs hy;obtain ⟨n,k⟩:=y;rw [List.forIn_cons]
   by_cases hk:(k==NameKind.free)=true
   ·obtain ⟨c,hc⟩:=hy (n,k) aFI (by simpa using hk);have e:cellOf env n=pure c:=by unfold cellOf; rw [hc]
    simp only [hk,if_true,e,pure_bind];rw [ih _ fun z hz=>hy z (aFG _ hz)];show _=pure (dY env r (if (k==NameKind.free)=true then (match env.cells.lookup n with | some a=>(n,a)::cs | none=>cs) else cs));rw [if_pos hk,hc]
   ·have hk2:(k==NameKind.free)=false:=by simpa using hk
    simp only [hk2,aGr,if_false,pure_bind];rw [ih _ fun z hz=>hy z (aFG _ hz)];show _=pure (dY env r (if (k==NameKind.free)=true then (match env.cells.lookup n with | some a=>(n,a)::cs | none=>cs) else cs));rw [if_neg hk]
 have k2:=key scope.names [] h;simp only [bind_pure]
 first
  | exact k2
  | (rw [<- k2]; rfl)
theorem pH {env:Env}:∀ (l:List (Str×NameKind)) (cs:List (Str×Addr)) (p:Str×Addr),p∈dY env l cs->p∈cs∨env.cells.lookup p.1=some p.2
 | [],_,_,h=>.inl h
 | (n,k)::r,cs,p,h=>by
  rcases pH r _ p h with q | q
  ·by_cases hk:(k==NameKind.free)=true
   ·rw [if_pos hk] at q;cases e:env.cells.lookup n with
    | none=>rw [e] at q; exact .inl q
    | some a =>
     rw [e] at q;rcases aF7.mp q with z | z
     ·subst z; exact .inr e
     ·exact .inl z
   ·rw [if_neg hk] at q; exact .inl q
  ·exact .inr q
theorem vP {env:Env}:∀ (l:List (Str×NameKind)) (cs:List (Str×Addr)) (p:Str×Addr),p∈cs->p∈dY env l cs
 | [],_,_,h=>h
 | (n,k)::r,cs,p,h=>by
  refine vP r _ p ?_
  by_cases hk:(k==NameKind.free)=true
  ·rw [if_pos hk];cases e:env.cells.lookup n with
   | none=>exact h
   | some a=>exact aFG _ h
  ·rw [if_neg hk]; exact h
theorem pN {env:Env}{n:Str}{c:Addr}(e:env.cells.lookup n=some c):∀ (l:List (Str×NameKind)) (cs:List (Str×Addr)),(n,NameKind.free)∈l->(n,c)∈dY env l cs
 | [],_,h=>nomatch h
 | (m,k)::r,cs,h=>by
  rcases aF7.mp h with z | z
  ·cases z;refine vP r _ _ ?_;rw [if_pos (by rfl),e];exact aFI
  ·exact pN e r _ z
theorem jE {β:Type}{n:Str}{c:β}:∀ {l:List (Str×β)},(n,c)∈l->∃ d,l.lookup n=some d
 | [],h=>nomatch h
 | (m,d)::r,h=>by
  cases q:n==m with
  | true=>exact ⟨d,by simp only [aGx,q]⟩
  | false =>
   rcases aF7.mp h with z | z
   ·cases z;simp at q
   ·obtain ⟨d',e⟩:=jE z;exact ⟨d',by simp only [aGx,q,e]⟩
theorem gH {env:Env}:∀ {names:List (Str×NameKind)}{x:Str}{k:NameKind},
  (names.map fun (n,k)=>if (k==NameKind.free&&env.scope.kind==.function&&env.kindOf n==some .cell) then (n,NameKind.cell) else (n,k)).lookup x=some k ->
  ∃ k',names.lookup x=some k'/\(k'=k∨(k'=.free/\k=.cell))
 | [],_,_,h=>by simp at h
 | (n,j)::r,x,k,h=>by
  cases hx:x==n with
  | true =>
   refine ⟨j,by simp only [aGx,hx],?_⟩
   by_cases hc:(j==NameKind.free&&env.scope.kind==.function&&env.kindOf n==some .cell)=true
   ·simp only [aFP,if_pos hc,aGx,hx] at h;cases h;refine .inr ⟨?_,rfl⟩;simp only [aGs,beq_iff_eq] at hc;exact hc.1.1
   ·simp only [aFP,if_neg hc,aGx,hx] at h;cases h;exact .inl rfl
  | false =>
   by_cases hc:(j==NameKind.free&&env.scope.kind==.function&&env.kindOf n==some .cell)=true
   ·simp only [aFP,if_pos hc,aGx,hx] at h;obtain ⟨k',e1,e2⟩:=gH h;exact ⟨k',by simp only [aGx,hx,e1],e2⟩
   ·simp only [aFP,if_neg hc,aGx,hx] at h;obtain ⟨k',e1,e2⟩:=gH h;exact ⟨k',by simp only [aGx,hx,e1],e2⟩
end PySem
namespace L2
open PySem PySem.Spec PyProof.Rows
open Builtin.Int (intBits)
section
variable {X:Cx}
def HN (i j:Int):Prop:=intBits i+intBits j<=134217728
def QX (i j:Int):Prop:=j≠0/\intBits j<=9000
theorem cV:oA X (binaryOp .Mult) (rI HN fun i j=>.int (i*j)):=O9 fun _ _ _ _ _ _ _ hc q=>mul_int q (IntMulOk.of_le (aFM _) (aFM _) hc)
theorem xZ {j:Int}(h0:j≠0)(h:intBits j<=9000):j.natAbs.log2<9000:=by
 unfold Builtin.Int.intBits at h;have e:(j==0)=false:=by simpa using h0
 rw [e] at h;simp only [aGr,if_false] at h;omega
theorem eQ:oA X (binaryOp .FloorDiv) (rI QX fun i j=>.int (i.fdiv j)):=O9 fun _ _ _ _ _ _ _ hc q=>floordiv_int hc.1 q (.inl (PyProof.noPylong_of_log2 (xZ hc.1 hc.2)))
theorem dN {T:String}:d8 X (.builtin "isinstance") (fun xs H Q=>∃ x t b,xs=[x,.ty T]/\fL X.K H x t/\PySem.W.kitOne X.K t (.type T)=some b/\Q (.bl b) H):=by
 intro pins s σ H xs us Q I r h;obtain ⟨x,t,b,rfl,ty,e,q⟩:=h;obtain ⟨u,w',rfl,rx,rt⟩:=vals2 r;cases (show w'=Value.type T from rt);exact vD I rx ty e fun tk=>⟨.bl b,H,I.tok _,rfl,q⟩
theorem getD_at {α:Type}{l:List α}{d:α}{i:Nat}(h:i<l.length):l.getD i d=l[i]:=by simp [h]
end
structure bL (sc scope:Scope):Prop where
 kind:scope.kind=.function
 nocell:∀ y∈scope.names,y.2≠.cell
 loc:∀ y∈scope.names,y.2=.local->scope.names.lookup y.1=some .local
 free:∀ y∈scope.names,y.2=.free->sc.names.lookup y.1=some .cell∨sc.names.lookup y.1=some .free
def Dv (sc scope:Scope):Bool:=(scope.kind==.function)&&scope.names.all fun y=>(y.2 != .cell)&&((y.2 != .local)||(scope.names.lookup y.1==some .local))&&((y.2 != .free)||(sc.names.lookup y.1==some .cell)||(sc.names.lookup y.1==some .free))
theorem bL.of {sc scope:Scope}(h:Dv sc scope=true):bL sc scope:=by
 unfold Dv at h;rw [aGs,aHA] at h;obtain ⟨hk,h⟩:=h;refine ⟨eq_of_beq hk,fun y hy=>?_,fun y hy e=>?_,fun y hy e=>?_⟩
 ·have q:=h y hy;simp only [aGs,bne_iff_ne] at q;exact q.1.1
 ·have q:=h y hy;simp only [aGs,aHK,bne_iff_ne,beq_iff_eq] at q;exact q.1.2.resolve_left fun z=>z e
 ·have q:=h y hy;simp only [aGs,aHK,bne_iff_ne,beq_iff_eq] at q;rcases q.2 with (z | z) | z
  ·exact absurd e z
  ·exact .inl z
  ·exact .inr z
structure NL (N M:List Str)(scope:Scope):Prop where
 len:M.length=N.length
 loc:∀ (j:Nat) x,M[j]? = some x->scope.names.lookup x≠some .local
 free:∀ (j:Nat) x,M[j]? = some x->scope.names.lookup x=some .free->N[j]? = some x
def Wh (scope:Scope):List Str->List Str->Bool
 | [],[]=>true
 | x::M,y::N=>(scope.names.lookup x != some .local)&&((scope.names.lookup x != some .free)||x==y)&&Wh scope M N
 | _,_=>false
theorem NL.of {scope:Scope}:∀ {N M:List Str},Wh scope M N=true->NL N M scope
 | [],[],_=>⟨rfl,fun j x h=>by simp at h,fun j x h=>by simp at h⟩
 | [],_::_,h=>by cases h
 | _::_,[],h=>by cases h
 | y::N,x::M,h=>by
  have h':((scope.names.lookup x != some .local)&&((scope.names.lookup x != some .free)||x==y)&&Wh scope M N)=true:=h;simp only [aGs,aHK,bne_iff_ne,beq_iff_eq] at h';obtain ⟨⟨h1,h2⟩,h3⟩:=h';have q:=NL.of h3;refine ⟨by simp [q.len],fun j z e=>?_,fun j z e f=>?_⟩
  ·cases j with
   | zero=>simp at e; subst e; exact h1
   | succ j=>exact q.loc j z (by simpa using e)
  ·cases j with
   | zero =>
    simp at e; subst e;rcases h2 with w | w
    ·exact absurd f w
    ·simp [w]
   | succ j=>simpa using q.free j z (by simpa using e) f
def dX (X:Cx)(ls M:List Str)(scope:Scope)(C:Addr)(fp:List Addr)(s:Shared)(H:Hp):Cx where
 prog:=X.prog
 w:=X.w
 K:=X.K
 mg:=X.mg
 base:=X.base
 A:=X.A
 N:=ls++M
 s₀:=s
 H₀:=H
 env:=compEnvC scope (dY X.env scope.names []) C X.env
 outer:=X.stack
 stack:=X.stack
 ex:=fp
 fn:=fun _=>false
 calm:=X.calm
 pn:=[]
 xe:=fun _ _=>False
def Pk (Y:Cx)(ifs:List Expr)(c:TT):Prop :=
 ∀ (pins:List (Addr×Obj)) (s:Shared) (σ:St) (H:Hp) (Q:Bool->Hp->Prop),aW Y pins σ H s->c σ H Q ->
  wpAny (model Y.prog Y.w) Y.A (forIn ifs true fun c r=>if r=true then do let ok <- isTrue c Y.env (eval c Y.env); pure (ForInStep.yield ok) else pure (ForInStep.yield r)) (TP Y pins σ Q) Y.xe s
def Mw:TT:=fun _ H Q=>Q true H
theorem bR {Y:Cx}:Pk Y [] Mw:=fun _ _ _ H _ I h=>wpAny_tests_nil ⟨H,I,h⟩
theorem J8 {Y:Cx}{e:Expr}{c:TT}(h:PT Y e c):Pk Y [e] c:=fun pins s σ H Q I hw=>wpAny_tests_one (h pins s σ H Q I hw)
def zK (k:Nat)(J:It)(g:TG)(c:TT)(te:TE)(σ:St)(H1:Hp)(D:Addr)(Q:VK):Prop :=
 ∃ W:Nat->Nat->St->Hp->Prop,(∃ m,W 0 m (aGo k none++σ) (bG H1 D (.lst [])))/\∀ i m τ H,W i m τ H ->
  (J.stop i H/\Q (.ref D) H)∨(J.go i H/\∀ x H',J.yld i H x H'->g x τ H' fun τ2 H2=>c τ2 H2 fun b H3=>if b=true then te τ2 H3 fun y H4=>∃ ys m',m'<m/\H4 D=some (.lst ys)/\ys.length<sizeLine/\W (i+1) m' τ2 (bG H4 D (.lst (ys++[y]))) else ∃ m',m'<m/\W (i+1) m' τ2 H3)
def Lq (k:Nat)(wi:TI)(g:TG)(c:TT)(te:TE):TE:=fun σ H Q=>wi σ H fun J H1=>∀ D,H1 D=none->zK k J g c te σ H1 D Q
structure Je (X:Cx)(pins:List (Addr×Obj))(H:Hp)(C:Addr)(s:Shared):Prop where
 ns:∃ m,s.heap.Ns C m
 none:H C=none
 ne:C≠X.env.locals
 young:X.s₀.heap.objs.size<=C
 cells:∀ x c,X.env.cells.lookup x=some c->c≠C
 pins:∀ p∈X.pn++pins,p.1≠C
theorem aW.gone {X:Cx}{pins:List (Addr×Obj)}{σ:St}{H:Hp}{C:Addr}{s:Shared}{h':Heap}(I:aW X pins σ H s)(o:Je X pins H C s)(hs:aGi C s.heap h'):aW X pins σ H { s with heap:=h' } :=
 I.turned (t':=s.toks) (it:=C) (fun b ob hb e=>(hs.2 b hb).trans e) o.none o.ne (.inr o.young) o.cells o.pins
section
variable {X:Cx}{elt tg iter:Expr}{ifs:List Expr}{scope:Scope}{pos:Pos}{ls M:List Str}{g:TG}{c:TT}{te:TE}
theorem vL {J:It}{fp:List Addr}{tn:Nat->Heap->Prop}{it:Addr}{pins:List (Addr×Obj)}{σ:St}{H2:Hp}{s2:Shared}{Qe:VK}{RR:Value->Addr->Result->Shared->Prop}{E:Value->Shared->Prop}
  (hc:X.calm=true) (S:bL X.env.scope scope) (nl:NL X.N M scope)
  (hb:∀ C fp s H,PG (dX X ls M scope C fp s H) tg g/\Pk (dX X ls M scope C fp s H) ifs c/\PE (dX X ls M scope C fp s H) elt te)
  (I2:aW X pins σ H2 s2) (T:Turn X.prog X.w X.K tg J fp it tn) (st2:tn 0 s2.heap) (f2:∀ b∈fp,jD X pins H2 b)
  (hW:∀ D,H2 D=none->zK ls.length J g c te σ H2 D Qe)
  (hRR:∀ D C H' s',aW X pins σ H' s'->Je X pins H' C s'->Qe (.ref D) H'->RR (.ref D) C (.ok .next) s') :
  wpAny (model X.prog X.w) X.A (newList []) (fun acc s₃=>wpAny (model X.prog X.w) X.A (newFunctionEnv scope X.env.globals (dY X.env scope.names []) [] X.env.qual none .none (some X.env)) (fun cenv s₄ =>
   codeAny (model X.prog X.w) X.A (.compStart (.ListComp elt [⟨tg,iter,ifs,0⟩] scope pos) 0 (.ref it) acc { cenv with scope:=relabel scope X.env }) (RR acc cenv.locals) s₄) E s₃) E s2:=by
 refine wpAny_newObj_type (wpAny_newFunctionEnv S.nocell (by intro y hy; simp at hy) (fun h₁ hns₁ hsb₁=>?_) S.kind);dsimp only at hns₁ hsb₁ ⊢;have I3:aW X pins σ (bG H2 s2.heap.objs.size (.lst [])) { s2 with heap:=s2.heap.push { cls:=.type "list",dict:=none,data:=.seq ([]:List Value).toArray },toks:=s2.toks } :=
  I2.laid (fun _ _ q=>aFH _ q) (aFM _) ⟨aGa _,[],0,.nil,aFV _ rfl⟩
 have hfreshD:H2 s2.heap.objs.size=none:=I2.hok.fresh (aFM _);generalize hHH:s2.heap.push { cls:=.type "list",dict:=none,data:=.seq ([]:List Value).toArray }=HH at hns₁ hsb₁ I3 ⊢;have up:∀ b o,s2.heap.get? b=some o->HH.get? b=some o:=fun b o e=>by rw [<- hHH]; exact aFH _ e
 have old:∀ b o,HH.get? b=some o->h₁.get? b=some o:=fun b o e=>hsb₁.extBut b o (aF6 (aFQ e)) (aFH _ e);generalize hH3:bG H2 s2.heap.objs.size (.lst [])=H3 at I3;have f3:∀ b∈fp,jD X pins H3 b:=fun b hb=>by
  obtain ⟨f0,fr⟩:=f2 b hb;refine ⟨?_,fr⟩;obtain ⟨o,e,_⟩:=T.obj 0 _ st2 b hb;rw [<- hH3,aK (aF6 (aFQ e))];exact f0
 have fplt:∀ b∈fp,b<HH.objs.size:=fun b hb=>by
  obtain ⟨o,e,_⟩:=T.obj 0 _ st2 b hb;exact aFQ (up b o e)
 have sub:∀ x a,(dY X.env scope.names []).lookup x=some a->X.env.cells.lookup x=some a:=fun x a e=>by
  rcases pH _ _ _ (PySem.mem_of_lookup e) with z | z
  ·exact absurd z (by simp)
  ·exact z
 have kin:∀ x,scope.names.lookup x=some .free->X.env.kindOf x=some .cell∨X.env.kindOf x=some .free:=fun x e=>S.free (x,.free) (PySem.mem_of_lookup e) rfl;have has:∀ x a,scope.names.lookup x=some .free->X.env.cells.lookup x=some a->(dY X.env scope.names []).lookup x=some a:=fun x a e ec=>by
  obtain ⟨d,hd⟩:=jE (pN ec scope.names [] (PySem.mem_of_lookup e));have:=sub x d hd;rw [ec] at this;cases this;exact hd
 have rel:∀ x k,(relabel scope X.env).names.lookup x=some k->(k=.cell∨k=.free)->scope.names.lookup x=some .free:=fun x k e hk=>by
  obtain ⟨k',e1,e2⟩:=gH (show (scope.names.map fun (n,k)=>if (k==NameKind.free&&X.env.scope.kind==.function&&X.env.kindOf n==some .cell) then (n,NameKind.cell) else (n,k)).lookup x=some k from e);rcases e2 with e2 | ⟨e2,_⟩
  ·subst e2;rcases hk with hk | hk
   ·subst hk; exact absurd rfl (S.nocell _ (PySem.mem_of_lookup e1))
   ·subst hk; exact e1
  ·subst e2; exact e1
 have okY:(dX X ls M scope HH.objs.size fp { s2 with heap:=HH,toks:=s2.toks } H3).Ok:=by
  refine ⟨I3.ok.mod,S.kind,I3.ok.glob,I3.ok.blt,aFM _,fun x y a h1 h2=>I3.ok.inj x y a (sub x a h1) (sub y a h2),fun x hx=>?_,(fun x a h=>nomatch h),I3.ok.hd,I3.ok.frames,.inl rfl,fun b hb'=>⟨aF6 (fplt b hb'),fun x a e=>(f3 b hb').2.2.2.2.1 x a (sub x a e)⟩,
   I3.bs,aFJ I3.ok.bsz I3.sz,fun b o e hb'=>?_,fun b hb' hs=>?_,I3.stack,I3.stkFree⟩
  ·have hf:scope.names.lookup x=some .free:=by
    rcases hx with hx | hx
    ·exact rel x _ hx (.inl rfl)
    ·exact rel x _ hx (.inr rfl)
   obtain ⟨a,ea⟩:=I3.ok.has x (kin x hf);exact ⟨a,has x a hf ea⟩
  ·rcases (f3 b hb').2.2.2.1 with z | z
   ·exact I3.ok.noex b o e z
   ·exact absurd (aF5 (aFQ e) (aFJ I3.ok.bsz z)) (aGI _)
  ·rcases aF7.mp (I3.stkSub b hs) with z | z
   ·exact (f3 b hb').2.1 z
   ·exact (f3 b hb').2.2.1 z
 have IY:aW (dX X ls M scope HH.objs.size fp { s2 with heap:=HH,toks:=s2.toks } H3) [] (aGo ls.length none++σ) H3 { s2 with heap:=h₁,toks:=s2.toks+([]:List (Str×Value)).length }:=by
  refine ⟨okY,rfl,I2.bare,Un.kept old,⟨_,hns₁,fun i x v e1 e2 e3=>?_⟩,fun x a e=>?_,I3.hok.fresh (aFM _),fun x a e=>I3.freeC x a (sub x a e),fun p hp=>absurd (show p∈([]:List (Addr×Obj)) from hp) (by simp),I3.hok.kept old,?_⟩
  ·have hi:ls.length<=i:=by
    by_cases hi:ls.length<=i
    ·exact hi
    ·rw [aGd (by simp; omega),aHz] at e2
     split at e2 <;> cases e2
   rw [aF9 (by simpa using hi),aGK] at e2;have e0:M[i-ls.length]? = some x:=by
    have z:(ls++M)[i]? = some x:=e1;rw [aF9 hi] at z;exact z
   have hnl:=nl.loc _ x e0;have hf:scope.names.lookup x=some .free:=by
    rcases e3 with e3 | e3 | e3
    ·obtain ⟨k',q1,q2⟩:=gH (show (scope.names.map fun (n,k)=>if (k==NameKind.free&&X.env.scope.kind==.function&&X.env.kindOf n==some .cell) then (n,NameKind.cell) else (n,k)).lookup x=some .local from e3);rcases q2 with q2 | ⟨_,q2⟩
     ·subst q2; exact absurd q1 hnl
     ·cases q2
    ·exact rel x _ e3 (.inl rfl)
    ·exact rel x _ e3 (.inr rfl)
   have e1':=nl.free _ x e0 hf;have hk:=kin x hf;obtain ⟨m,hn,hl⟩:=I3.loc;obtain ⟨u,ru,lk⟩:=hl (i-ls.length) x v e1' e2 (hk.elim (fun z=>.inr (.inl z)) fun z=>.inr (.inr z));refine ⟨u,ru,?_⟩;rcases lk with ⟨z,_⟩ | ⟨_,a,ea,hcell⟩
   ·rcases hk with hk | hk <;> (rw [hk] at z; cases z)
   ·obtain ⟨o,eo,hd⟩:=hcell;refine .inr ⟨?_,a,has x a hf ea,⟨o,old a o eo,hd⟩⟩;rcases e3 with e3 | e3 | e3
    ·obtain ⟨k',q1,q2⟩:=gH (show (scope.names.map fun (n,k)=>if (k==NameKind.free&&X.env.scope.kind==.function&&X.env.kindOf n==some .cell) then (n,NameKind.cell) else (n,k)).lookup x=some .local from e3);rcases q2 with q2 | ⟨_,q2⟩
     ·subst q2; exact absurd q1 hnl
     ·cases q2
    ·exact .inl e3
    ·exact .inr e3
  ·obtain ⟨v,o,eo,hd⟩:=I3.cell x a (sub x a e);exact ⟨v,o,old a o eo,hd⟩
  ·show (aGo ls.length none++σ).length=(ls++M).length;rw [aFZ,aFZ,aGK,I3.len,nl.len]
 have st1:tn 0 h₁:=T.keep 0 _ _ st2 fun b _ o e=>old b o (up b o e);obtain ⟨hPG,hPT,hPE⟩:=hb HH.objs.size fp { s2 with heap:=HH,toks:=s2.toks } H3;obtain ⟨W,⟨m0,w0⟩,turn⟩:=hW s2.heap.objs.size hfreshD;rw [hH3] at w0;have back:∀ {τ:St}{H':Hp}{s':Shared},aW (dX X ls M scope HH.objs.size fp { s2 with heap:=HH,toks:=s2.toks } H3) [] τ H' s'->aW X pins σ H' s'/\Je X pins H' HH.objs.size s':=fun {τ H' s'} J=>by
  refine ⟨I3.call' (ch:=fp) J.os J.base J.hok J.bare fun b hb'=>?_,?_⟩
  ·obtain ⟨_,g1,g2,g3,g4,g5⟩:=f3 b hb';exact ⟨g3,g1,g4,g5⟩
  ·obtain ⟨m,hn,_⟩:=J.loc;refine ⟨⟨m,hn⟩,J.free,Ne.symm (aF6 I3.lt),I3.sz,fun x a e=>?_,fun p hp=>aF6 (aFQ (I3.pin p hp).1)⟩;obtain ⟨v,q⟩:=I3.cell x a e;exact aF6 q.lt
 have stat:∀ {H':Hp},(∀ b∈fp,H' b=none)->∀ b∈fp,jD (dX X ls M scope HH.objs.size fp { s2 with heap:=HH,toks:=s2.toks } H3) [] H' b:=fun {H'} hn b hb'=>by
  obtain ⟨_,g1,g2,g3,g4,g5⟩:=f3 b hb';refine ⟨hn b hb',aF6 (fplt b hb'),fun hs=>?_,.inl hb',fun x a e=>g4 x a (sub x a e),fun p hp=>absurd (show p∈([]:List (Addr×Obj)) from hp) (by simp)⟩;rcases aF7.mp (I3.stkSub b hs) with z | z
  ·exact g1 z
  ·exact g2 z
 have loop:∀ s₃:Shared,s₃ = { s2 with heap:=h₁,toks:=s2.toks+([]:List (Str×Value)).length } ->
   codeAny (model X.prog X.w) X.A (.compLoop (.ListComp elt [⟨tg,iter,ifs,0⟩] scope pos) 0 (.ref it) (.ref s2.heap.objs.size) (compEnvC scope (dY X.env scope.names []) HH.objs.size X.env)) (RR (.ref s2.heap.objs.size) HH.objs.size) s₃:=by
  rintro s₃ rfl;refine w5 (fun n s'=>∃ i τ H',aW (dX X ls M scope HH.objs.size fp { s2 with heap:=HH,toks:=s2.toks } H3) [] τ H' s'/\tn i s'.heap/\(∀ b∈fp,H' b=none)/\W i n τ H') ?_ m0 ⟨0,_,H3,IY,st1,fun b hb'=>(f3 b hb').1,w0⟩;rintro n s3 ⟨i,τ,H',I4,st4,fr4,w4⟩ E';rcases turn i n τ H' w4 with ⟨stop,qn⟩ | ⟨go,step⟩
  ·refine dD (T.done (dX X ls M scope HH.objs.size fp { s2 with heap:=HH,toks:=s2.toks } H3) rfl rfl rfl hc i [] s3 τ H' E' I4 (stat fr4) st4 stop) fun r s4 ⟨hr,I5⟩=>?_;subst hr;obtain ⟨b1,b2⟩:=back I5;exact hRR _ _ H' s4 b1 b2 qn
  ·refine dD (T.item (dX X ls M scope HH.objs.size fp { s2 with heap:=HH,toks:=s2.toks } H3) rfl rfl rfl hc i [] s3 τ H' E' I4 (stat fr4) st4 go) fun r s4 ⟨u,hr,h4⟩=>?_;subst hr;refine dD h4 fun _ s5 ⟨x,H5,I5,r5,y5,st5,fr5⟩=>?_;have I5':=I5.pinned (stat fr5) (T.obj _ _ st5);refine wpAny_mono (hPG _ s5 τ H5 x u _ I5' r5 (step x H5 y5)) (fun _ s6 ⟨σ6,H6,I6,q6⟩=>?_) fun _ _ z=>z.elim;refine wpAny_mono (hPT _ s6 σ6 H6 _ I6 q6) (fun ok s7 ⟨H7,I7,q7⟩=>?_) fun _ _ z=>z.elim;have again:∀ {σ8:St}{H8:Hp}{s8:Shared}{m':Nat},aW (dX X ls M scope HH.objs.size fp { s2 with heap:=HH,toks:=s2.toks } H3) ([]++sV fp s5.heap) σ8 H8 s8->m'<n->W (i+1) m' σ8 H8 ->
     ∃ m,m<n/\∃ i τ H',aW (dX X ls M scope HH.objs.size fp { s2 with heap:=HH,toks:=s2.toks } H3) [] τ H' s8/\tn i s8.heap/\(∀ b∈fp,H' b=none)/\W i m τ H':=fun {σ8 H8 s8 m'} I8 hm w8=>by
    refine ⟨m',hm,i+1,σ8,H8,I8.unpinned,T.keep _ _ _ st5 fun b hb' o e=>(I8.pin (b,o) (aFX _ (aFX _ (jW hb' e)))).1,fun b hb'=>?_,w8⟩;obtain ⟨o,e,d⟩:=T.obj _ _ st5 b hb';exact (I8.pin (b,o) (aFX _ (aFX _ (jW hb' e)))).2.1
   cases ok with
   | false =>
    rw [if_neg aF2] at q7 ⊢;obtain ⟨m',hm,w7⟩:=q7;exact again I7 hm w7
   | true =>
    rw [if_pos rfl] at q7 ⊢;refine wpAny_mono (hPE _ s7 σ6 H7 _ I7 q7) (fun yv s8 ⟨y,H8,I8,r8,ys,m',hm,hD,hz,w8⟩=>?_) fun _ _ z=>z.elim;refine wpAny_mono (mQ (X:=(dX X ls M scope HH.objs.size fp { s2 with heap:=HH,toks:=s2.toks } H3)) _ s8 σ6 H8 (.ref s2.heap.objs.size) [y] (.ref s2.heap.objs.size) [yv] (fun _ H9=>W (i+1) m' σ6 H9) I8 rfl (.cons r8 .nil) ⟨_,ys,y,rfl,rfl,hD,hz,w8⟩) (fun _ s9 ⟨_,H9,I9,_,w9⟩=>?_) fun _ _ z=>z.elim;exact again I9 hm w9
 exact codeAny_compStart_list (loop _ rfl) (T.self _ 0 _ _ _ st1 (loop _ rfl))
theorem CP (S:bL X.env.scope scope)(ok:X.Ok):closureFor scope X.env=pure (dY X.env scope.names []) :=
 pD fun y hy e=>ok.has y.1 (S.free y hy e)
theorem cA {wi:TI}(hc:X.calm=true)(S:bL X.env.scope scope)(nl:NL X.N M scope)(hi:PI X tg iter wi)
  (hb:∀ C fp s H,PG (dX X ls M scope C fp s H) tg g/\Pk (dX X ls M scope C fp s H) ifs c/\PE (dX X ls M scope C fp s H) elt te)
  (hs:∀ x,foldedSetIterable iter X.env x=pure x:=by intro _; rfl):PE X (.ListComp elt [⟨tg,iter,ifs,0⟩] scope pos) (Lq ls.length wi g c te):=by
 intro pins s σ H Q I h;rw [eval_ListComp];refine wpAny_comprehension_free (use:=none) rfl hs (CP S I.ok) S.kind S.loc (dD (hi pins s σ H _ I h) fun xv s1 h1=>dD h1 fun itv s2 h2=>?_);obtain ⟨it,fp,tn,J,H2,e,I2,T,st2,f2,hW⟩:=h2;subst e;refine vL (RR:=fun acc C=>compPost (model X.prog X.w) X.A X.xe none (EP X pins σ Q) acc C) (Qe:=Q) hc S nl hb I2 T st2 f2 hW fun D C H' s' I' o q=>?_;exact ⟨o.ns.choose,o.ns.choose_spec,fun h' hs'=>⟨.ref D,H',I'.gone o hs',rfl,q⟩⟩
theorem rN {wi:TI}{i:Nat}{y:Str}{py spos:Pos}(hc:X.calm=true)(S:bL X.env.scope scope)(nl:NL X.N M scope)(hN:X.N.Nodup)(hiy:X.N[i]? = some y)(hy:Loc X.env.scope y)
  (hi:PI X tg iter wi) (hb:∀ C fp s H,PG (dX X ls M scope C fp s H) tg g/\Pk (dX X ls M scope C fp s H) ifs c/\PE (dX X ls M scope C fp s H) elt te)
  (hsw:swapsWith (.ListComp elt [⟨tg,iter,ifs,0⟩] scope pos) (some (.Name y py)) spos.line X.env=pure true:=by rfl)
  (hs:∀ x,foldedSetIterable iter X.env x=pure x:=by intro _; rfl) (hf:X.fn y=true∨X.env.scope.names.lookup y=some .local:=by first | exact .inl rfl | exact .inr rfl) :
  PS X (.Assign [.Name y py] (.ListComp elt [⟨tg,iter,ifs,0⟩] scope pos) spos) (Hs (Lq ls.length wi g c te) (kZ i)):=by
 intro pins s σ H D I h;rw [exec_Assign_Name_used _ _ _ _ hsw];refine wpAny_bind (wpAny_standAt (wpAny_bind ?_));show wpAny _ X.A (do let _ <- comprehension (.ListComp elt [⟨tg,iter,ifs,0⟩] scope pos) scope X.env _ (newList []) false (eval iter X.env) (some (assign (.Name y py) X.env))) _ _ s;refine wpAny_bind (wpAny_mono (wpAny_comprehension_free (use:=some (assign (.Name y py) X.env)) (Q:=fun _ s'=>SP X pins D .next s') rfl hs (CP S I.ok) S.kind S.loc (dD (hi pins s σ H _ I h) fun xv s1 h1=>dD h1 fun itv s2 h2=>?_)) (fun _ s' hq=>wpAny_pure (wpAny_pure hq)) fun _ _ e=>e);obtain ⟨it,fp,tn,J,H2,e,I2,T,st2,f2,hW⟩:=h2;subst e;refine vL (RR:=fun acc C=>compPost (model X.prog X.w) X.A X.xe (some (assign (.Name y py) X.env)) (fun _ s'=>SP X pins D .next s') acc C) hc S nl hb I2 T st2 f2 hW fun Dl C H' s' I' o q=>?_;show wpAny _ X.A (assign (.Name y py) X.env (.ref Dl)) _ _ _;refine wpAny_assign_Name (vX I' hN hiy hy (v:=.ref Dl) rfl (fun s'' I'' ⟨a,hsa,ha⟩=>?_) hf);have hCa:C≠a:=by
  rcases ha with z | z
  ·rw [z]; exact o.ne
  ·exact Ne.symm (o.cells y a z)
 obtain ⟨m,hm⟩:=o.ns;have o2:Je X pins H' C s'':=⟨⟨m,hm.sameBut hsa hCa⟩,o.none,o.ne,o.young,o.cells,o.pins⟩
 exact ⟨m,hm.sameBut hsa hCa,fun h' hs'=>⟨_,H',I''.gone o2 hs',q⟩⟩
end
def CW (n:Nat)(Pv:Nat->St->Hp->Prop)(i m:Nat)(τ:St)(H:Hp):Prop:=m=n-i/\i<=n/\Pv i τ H
theorem bA {n i m:Nat}{Pv:Nat->St->Hp->Prop}{τ:St}{H4:Hp}{D:Addr}{ys:List V}{y:V}(hm:m=n-i)(hi:i<n)(e1:H4 D=some (.lst ys))(e2:ys.length<sizeLine)(p:Pv (i+1) τ (bG H4 D (.lst (ys++[y])))) :
  ∃ ys m',m'<m/\H4 D=some (.lst ys)/\ys.length<sizeLine/\CW n Pv (i+1) m' τ (bG H4 D (.lst (ys++[y]))):=⟨ys,n-(i+1),by omega,e1,e2,rfl,hi,p⟩
theorem FP {n i m:Nat}{Pv:Nat->St->Hp->Prop}{τ:St}{H3:Hp}(hm:m=n-i)(hi:i<n)(p:Pv (i+1) τ H3):∃ m',m'<m/\CW n Pv (i+1) m' τ H3:=⟨n-(i+1),by omega,rfl,hi,p⟩
theorem iC {k:Nat}{lo:Int}{n:Nat}{g:TG}{c:TT}{te:TE}{σ:St}{H1:Hp}{D:Addr}{Q:VK}(Pv:Nat->St->Hp->Prop)(h0:Pv 0 (aGo k none++σ) (bG H1 D (.lst [])))
  (hs:∀ i m τ H,m=n-i->i<n->Pv i τ H->g (.int (lo+i)) τ H fun τ2 H2=>c τ2 H2 fun b H3=>if b=true then te τ2 H3 fun y H4=>∃ ys m',m'<m/\H4 D=some (.lst ys)/\ys.length<sizeLine/\CW n Pv (i+1) m' τ2 (bG H4 D (.lst (ys++[y]))) else ∃ m',m'<m/\CW n Pv (i+1) m' τ2 H3)
  (hd:∀ τ H,Pv n τ H->Q (.ref D) H):zK k (Nb lo n) g c te σ H1 D Q:=by
 refine ⟨CW n Pv,⟨n,rfl,aGa _,h0⟩,?_⟩;rintro i m τ H ⟨hm,hi,p⟩
 by_cases hlt:i<n
 ·refine .inr ⟨hlt,fun x H' y=>?_⟩;obtain ⟨e,y⟩:=y;subst e y;exact hs i m τ _ hm hlt p
 ·have e:i=n:=by omega
  subst e;exact .inl ⟨aFM _,hd τ H p⟩
theorem cI {K:PySem.W.Frag}{a:Addr}{xs:List V}{k:Nat}{g:TG}{c:TT}{te:TE}{σ:St}{H1:Hp}{D:Addr}{Q:VK}(Pv:Nat->St->Hp->Prop)(h0:Pv 0 (aGo k none++σ) (bG H1 D (.lst [])))
  (hl:∀ i τ H,i<=xs.length->Pv i τ H->bV K H a xs)
  (hs:∀ i m x τ H,m=xs.length-i->i<xs.length->xs[i]? = some x->Pv i τ H->g x τ H fun τ2 H2=>c τ2 H2 fun b H3=>if b=true then te τ2 H3 fun y H4=>∃ ys m',m'<m/\H4 D=some (.lst ys)/\ys.length<sizeLine/\CW xs.length Pv (i+1) m' τ2 (bG H4 D (.lst (ys++[y]))) else ∃ m',m'<m/\CW xs.length Pv (i+1) m' τ2 H3)
  (hd:∀ τ H,Pv xs.length τ H->Q (.ref D) H):zK k (PP K a) g c te σ H1 D Q:=by
 refine ⟨CW xs.length Pv,⟨xs.length,rfl,aGa _,h0⟩,?_⟩;rintro i m τ H ⟨hm,hi,p⟩;have q:=hl i τ H hi p
 by_cases hlt:i<xs.length
 ·refine .inr ⟨⟨xs,xs[i],q,by simp [hlt]⟩,fun x H' y=>?_⟩;obtain ⟨e,y⟩:=y;subst e;exact hs i m x τ _ hm hlt (y xs q) p
 ·have e:i=xs.length:=by omega
  subst e;exact .inl ⟨⟨xs,q,aFM _⟩,hd τ H p⟩
theorem cW {τ:St}{H:Hp}{A B:Hp->Prop}(h:A H):Mw τ H (fun b H3=>if b=true then A H3 else B H3):=by
 show (if true=true then A H else B H);rw [if_pos rfl];exact h
theorem pA {c:Bool}{A B:Prop}(h:c=true)(a:A):if c=true then A else B:=by
 rw [if_pos h];exact a
theorem mK {c:Bool}{A B:Prop}(h:c=false)(b:B):if c=true then A else B:=by
 rw [if_neg (by rw [h]; exact aF2)];exact b
theorem HS:bootBuiltins "int" = some (.type "int"):=by decide +kernel
theorem Dt:bootBuiltins "bool" = some (.type "bool"):=by decide +kernel
theorem gY:bootBuiltins "str" = some (.type "str"):=by decide +kernel
theorem iU:bootBuiltins "list" = some (.type "list"):=by decide +kernel
theorem dH:bootBuiltins "tuple" = some (.type "tuple"):=by decide +kernel
theorem m9:bootBuiltins "len" = some (.builtin "len"):=by decide +kernel
theorem Bm:bootBuiltins "abs" = some (.builtin "abs"):=by decide +kernel
theorem bM:bootBuiltins "isinstance" = some (.builtin "isinstance"):=by decide +kernel
theorem J3:bootBuiltins "sum" = some (.builtin "sum"):=by decide +kernel
theorem Bv:bootBuiltins "max" = some (.builtin "max"):=by decide +kernel
theorem JR:bootBuiltins "min" = some (.builtin "min"):=by decide +kernel
theorem wK:bootBuiltins "sorted" = some (.builtin "sorted"):=by decide +kernel
theorem JB:bootBuiltins "all" = some (.builtin "all"):=by decide +kernel
def Br:List Str->Bool
 | []=>true
 | x::r=>(r.all fun y=>x != y)&&Br r
theorem cB:∀ {l:List Str},Br l=true->l.Nodup
 | [],_=>.nil
 | x::r,h=>by
  have h':((r.all fun y=>x != y)&&Br r)=true:=h;rw [aGs,aHA] at h';refine aGS.mpr ⟨fun z=>?_,cB h'.2⟩;have:=h'.1 x z;simp at this
structure dI (P:Program)(w:World)(K:PySem.W.Frag)(mg:Str->Option Value)(base:Heap)(n:Nat)(x:Str)(ps:List Str)(sp:Sp)(g:Addr)(gd:FuncData):Prop where
 ok:aX P w K mg base dG n g gd ps sp
 bi:Binds K gd ps []
 kp:PySem.W.keepIn K (.ref g)=true
 at_:mg x=some (.ref g)
theorem dI.up {P:Program}{w:World}{K:PySem.W.Frag}{mg:Str->Option Value}{base:Heap}{n m:Nat}{x:Str}{ps:List Str}{sp:Sp}{g:Addr}{gd:FuncData}(c:dI P w K mg base n x ps sp g gd)(h:n<=m):dI P w K mg base m x ps sp g gd:=⟨c.ok.mono h,c.bi,c.kp,c.at_⟩
theorem aH {X:Cx}{n:Nat}{x:Str}{ps:List Str}{sp:Sp}{g:Addr}{gd:FuncData}{p pos:Pos}{e:Expr}{es:List Expr}{t:TA}(c:dI X.prog X.w X.K X.mg X.base n x ps sp g gd)(hr:fD n X.A)(ha:PA X (e::es) t)(hg:Gl X x:=by rfl)
  (hd:(x==("__debug__" : Str))=false:=by decide) (he:starEach (e::es) X.env=(false,eval e X.env)::starEach es X.env:=by rfl) (hpl:(backTo pos (starEach es X.env)).any (·.1)=false:=by rfl) :
  PE X (.Call (.Name x p) (e::es) [] pos) (wH sp [] E0 t):=KY c.ok hr hg c.at_ c.kp c.bi .nil fG ha hd he hpl
theorem aG {H:Hp}{p:Addr}(h:H p=none)(o:HO):aR H (bG H p o):=fun b u q=>by rw [aK (aV q h)]; exact q
theorem aR.upd_new {H H':Hp}{p:Addr}(s:aR H H')(h:H p=none)(o:HO):aR H (bG H' p o):=fun b u q=>by rw [aK (aV q h)]; exact s b u q
theorem JD {L:List Int}{i:Int}(h0:0<=i)(h1:i<(L.length:Int)):FT (L.map V.int) i=some (.int (L.getD i.toNat 0)):=by
 have hi:i.toNat<L.length:=by omega
 have e:i=((i.toNat:Nat):Int):=by omega
 have q:FT (L.map V.int) ((i.toNat:Nat):Int)=some (.int (L.getD i.toNat 0)):=oY (by rw [aFY,aFK hi,getD_at hi] <;> rfl);rw [<- e] at q;exact q
end L2
namespace L2
open PySem PySem.Spec PyProof.Rows
section
variable {X:Cx}{pins:List (Addr×Obj)}{σ:St}{H:Hp}{s:Shared}
theorem aW.track {a:Addr}{o:HO}(I:aW X pins σ H s)(f:jD X pins H a)(hy:X.s₀.heap.objs.size<=a)(new:b7 X.prog X.w (bG H a o) s.heap a o):aW X pins σ (bG H a o) s:=by
 obtain ⟨f0,f1,f2,f3,f4,f5⟩:=f;have ne:∀ b u,H b=some u->b≠a:=fun b u e=>aV e f0;refine ⟨I.ok,I.os,I.bare,⟨I.base.keep,I.base.slot,fun b ob e n hx=>?_,I.base.there,fun b xs e=>?_,fun b ob u e=>?_,fun b ps e=>?_⟩,I.loc,I.cell,?_,fun x c e=>?_,fun p hp=>?_,fun b u e=>?_,I.len⟩
 ·rw [aK (aF6 (aF5 (aFQ e) hy))];exact I.base.free b ob e n hx
 ·have q:=I.base.tups b xs e;rw [aK (ne _ _ q)]; exact q
 ·have q:=I.base.frzs b ob u e;rw [aK (ne _ _ q)]; exact q
 ·obtain ⟨m,q⟩:=I.base.tbls b ps e;exact ⟨m,by rw [aK (ne _ _ q)]; exact q⟩
 ·rw [aK (Ne.symm f1)]; exact I.free
 ·rw [aK (f4 x c e)]; exact I.freeC x c e
 ·obtain ⟨g1,g2,g3,g4,g5⟩:=I.pin p hp;exact ⟨g1,by rw [aK (f5 p hp)]; exact g2,g3,g4,g5⟩
 ·by_cases hb:b=a
  ·subst hb; rw [aB] at e; cases e; exact new
  ·rw [aK hb] at e;exact (I.hok b u e).stay (fun _ _ _ q=>q) (fun c q=>by rw [aK (ne _ _ q)]; exact q) fun c xs q=>by rw [aK (ne _ _ q)]; exact q
theorem jD.pin {b:Addr}{o:Obj}(f:jD X pins H b)(e:s.heap.get? b=some o)(d:∀ v,o.data≠.cell v):s.heap.get? b=some o/\H b=none/\b≠X.env.locals/\b∉X.fs/\∀ v,o.data≠.cell v:=⟨e,f.1,f.2.1,f.2.2.1,d⟩
def K8 (X:Cx)(pins:List (Addr×Obj))(σ:St)(H:Hp)(A:Around)(f v:Value)(k:Int):Prop :=
 ∀ (more:List (Addr×Obj)) (s:Shared),aW X (pins++more) σ H s->wpAny (model X.prog X.w) A (call f [v]) (fun r s'=>(∃ t,r=Value.int k t)/\aW X (pins++more) σ H s') (fun _ _=>False) s
variable {A:Around}{E:Value->Shared->Prop}{P:PySem.Fin->Shared->Prop}{a kS:Addr}{b:Bool}{vs:List Value}{kz:List Int}{keys:Array Value}{e e1:Nat}{f:Value}
theorem yM {st:SortSt}(I:aW X pins σ H s)(fk:jD X pins H kS)(fa:jD X pins H a)(hka:kS≠a)(ek:s.heap.get? kS=some (seqObj "list" keys e))(ea:s.heap.get? a=some (seqObj "list" #[] e1))
  (hk:IntsAre keys.toList kz) (hlen:kz.length=vs.length) (h64:vs.length<64) (hp:(arrOf st).Perm (keys.zip vs.toArray)) (hs:SortedTo (arrOf st) (arrOf st).size) (hfl:failedOf st=none)
  (done:∀ s' out c,aW X pins σ H s'->s'.heap.get? a=some (seqObj "list" out c)->KskOut b kz vs out.toList->P (.done (.ret .none)) s') :
  wpAny (model X.prog X.w) A (ksk_tail a b e1 (.ref kS) st) P E s:=by
 have hsz:keys.size=vs.length:=by
  have h1:=hk.length;rw [aGk] at h1;omega
 have hsz2:(arrOf st).size=vs.length:=by
  have z:(arrOf st).size=(keys.zip vs.toArray).size:=hp.size_eq;have z2:(keys.zip vs.toArray).size=vs.length:=by rw [Array.size_zip,hsz]; simp
  exact z.trans z2
 have ko:=ksk_out (b:=b) hk hp hs;have hout:(if b=true then ((arrOf st).map (·.2)).reverse else (arrOf st).map (·.2)).size=vs.length:=by
  cases b <;> simp [hsz2]
 generalize hO:(if b=true then ((arrOf st).map (·.2)).reverse else (arrOf st).map (·.2))=out at ko hout;have I1:aW X pins σ H { s with heap:=s.heap.update kS (Obj.mapSeq fun _=>(#[]:Array Value)) } :=
  I.turned (t':=s.toks) (fun b o hb q=>((aGi.update s.heap kS _).2 b hb).trans q) fk.1 fk.2.1 fk.2.2.2.1 fk.2.2.2.2.1 fk.2.2.2.2.2
 have ea1:(s.heap.update kS (Obj.mapSeq fun _=>(#[]:Array Value))).get? a=some (seqObj "list" #[] e1):=((aGi.update s.heap kS _).2 a (Ne.symm hka)).trans ea;have I2:aW X pins σ H { s with heap:=(s.heap.update kS (Obj.mapSeq fun _=>(#[]:Array Value))).update a (Obj.mapSeq fun _=>out) } :=
  I1.turned (t':=s.toks) (fun b o hb q=>((aGi.update _ a _).2 b hb).trans q) fa.1 fa.2.1 fa.2.2.2.1 fa.2.2.2.2.1 fa.2.2.2.2.2
 unfold ksk_tail;dsimp only;refine wpAny_bind (listUpdate_at ek rfl ?_ (by rw [hsz]; exact aFJ (aGm h64) (by decide)) (aGa _));refine wpAny_bind (wpAny_letGo ?_);refine wpAny_bind (seqEpoch_at ea1 rfl ?_);rw [hO];refine wpAny_bind (listUpdate_at ea1 rfl ?_ (aGa _) (by rw [hout]; exact aFJ (aGm h64) (by decide)));rw [hfl];simp only [bne_self_eq_false,aGr,if_false];exact wpAny_pure (done _ out _ I2 (get?_update_seq ea1 fun _=>out) ko)
theorem Jq (I:aW X pins σ H s)(fk:jD X pins H kS)(fa:jD X pins H a)(hka:kS≠a)(ek:s.heap.get? kS=some (seqObj "list" keys e))(ea:s.heap.get? a=some (seqObj "list" #[] e1))
  (hk:IntsAre keys.toList kz) (hlen:kz.length=vs.length) (h64:vs.length<64)
  (done:∀ s' out c,aW X pins σ H s'->s'.heap.get? a=some (seqObj "list" out c)->KskOut false kz vs out.toList->P (.done (.ret .none)) s') :
  wpAny (model X.prog X.w) A (ksk_end a false vs.toArray e1 (.ref kS) keys) P E s:=by
 have hsz:keys.size=vs.length:=by
  have h1:=hk.length;rw [aGk] at h1;omega
 have hzs:(keys.zip vs.toArray).size=vs.length:=by rw [Array.size_zip,hsz,aFW]; omega
 unfold ksk_end;dsimp only;simp only [aGr,if_false]
 by_cases h2:vs.toArray.size<2
 ·rw [if_pos h2,if_pos h2];refine wpAny_bind (wpAny_pure ?_);rw [StateT.run_pure];refine wpAny_bind (wpAny_pure ?_);refine yM (st:=SortSt.mk' general' (keys.zip vs.toArray) #[] 7 none) I fk fa hka ek ea hk hlen h64 (aIq.refl _) (fun i j hij hj=>?_) rfl done;have hj':j<(keys.zip vs.toArray).size:=hj;rw [hzs] at hj';rw [aFW] at h2;have z:i=j:=by omega
  rw [z];exact aGp _
 ·rw [if_neg h2,if_neg h2];rw [aFW] at h2;rw [ksk_kind hk (by omega)];refine wpAny_bind (wpAny_pure ?_);refine wpAny_bind (wpAny_mono (wpS_sortRuns (a₀:=keys.zip vs.toArray) (st:=SortSt.mk' oneType' (keys.zip vs.toArray) #[] 7 none)
   (Q:=fun _ t=>(arrOf t).Perm (keys.zip vs.toArray)/\failedOf t=none/\SortedTo (arrOf t) (keys.zip vs.toArray).size)
   (ksk_intKeys hk) ⟨aIq.refl _,rfl,rfl,rfl⟩ (by omega) (by omega) fun t z1 z2 z3=>⟨z1,z2,z3⟩) ?_ fun _ _ z=>z)
  rintro ⟨⟨⟩,t⟩ s2 ⟨rfl,p1,p2,p3⟩;exact yM I fk fa hka ek ea hk hlen h64 p1 (by rw [p1.size_eq]; exact p3) p2 done
theorem JZ (I:aW X pins σ H s)(fk:jD X pins H kS)(fa:jD X pins H a)(hka:kS≠a)(ek:s.heap.get? kS=some (seqObj "list" #[] 0))(ea:s.heap.get? a=some (seqObj "list" #[] e1))
  (hlen:kz.length=vs.length) (h64:vs.length<64) (turn:∀ (i:Nat) v k,vs[i]? = some v->kz[i]? = some k->K8 X pins σ H A f v k)
  (done:∀ s' out c,aW X pins σ H s'->s'.heap.get? a=some (seqObj "list" out c)->KskOut false kz vs out.toList->P (.done (.ret .none)) s') :
  wpAny (model X.prog X.w) A (ksk_rest a f false vs.toArray e1 (.ref kS)) P E s:=by
 unfold ksk_rest;refine wpAny_bind (wpAny_rule ?_);rw [List.forIn_toArray];refine wpAny_bind (ksk_fold (fun i s'=>aW X pins σ H s'/\s'.heap.get? a=some (seqObj "list" #[] e1)/\∃ kA e,s'.heap.get? kS=some (seqObj "list" kA e)/\IntsAre kA.toList (kz.take i)) vs 0 s ⟨I,ea,#[],0,ek,by simpa using IntsAre.nil⟩ ?step ?fin)
 case step =>
  rintro j x s1 hx ⟨I1,ea1,kA,e,ek1,hk⟩;rw [aH6] at hk ⊢;have hj:j<vs.length:=(aFO.mp hx).1;have hkj:kz[j]? = some kz[j]:=aFK (by omega);have hz:kA.size<=vs.length:=by
   have h1:=hk.length;rw [aGk,aGe] at h1;omega
  have I2:aW X (pins++[(kS,seqObj "list" kA e),(a,seqObj "list" #[] e1)]) σ H s1:=I1.pins_of fun p hp=>by
   rcases aF4.mp hp with z | z
   ·exact I1.pin p (aFX _ z)
   ·rcases aF7.mp z with z | z
    ·subst z; exact fk.pin ek1 fun v q=>nomatch q
    ·rw [aFR.mp z]; exact fa.pin ea1 fun v q=>nomatch q
  refine wpAny_bind (wpAny_attempt (wpAny_mono (turn j x _ hx hkj _ s1 I2) (fun v s2 h2=>?_) fun _ _ z=>z.elim));obtain ⟨⟨t,rfl⟩,I3⟩:=h2;have ek2:=(I3.pin (kS,seqObj "list" kA e) (aFX _ (aFX _ (.head _)))).1;have ea2:=(I3.pin (a,seqObj "list" #[] e1) (aFX _ (aFX _ (.tail _ (.head _))))).1;have I4:=I3.unpinned;refine wpAny_bind (listUpdate_at ek2 rfl ?_ (aFJ hz (aFJ (aGm h64) (by decide))) (aFJ (aHF (Array.size_push ..)) (aIi (aFJ hz (aFJ (aGm h64) (by decide))))));refine wpAny_pure ⟨rfl,I4.turned (t':=s2.toks) (fun b o hb q=>((aGi.update s2.heap kS _).2 b hb).trans q) fk.1 fk.2.1 fk.2.2.2.1 fk.2.2.2.2.1 fk.2.2.2.2.2,((aGi.update s2.heap kS _).2 a (Ne.symm hka)).trans ea2,kA.push (.int kz[j] t),_,get?_update_seq ek2 (·.push (.int kz[j] t)),?_⟩;have q1:kz.take (j+1)=kz.take j++[kz[j]]:=by rw [aHw,hkj]; rfl
  rw [q1,Array.toList_push];exact ksk_snoc hk
 case fin =>
  rintro s1 ⟨I1,ea1,kA,e,ek1,hk⟩;have hk':IntsAre kA.toList kz:=by
   rw [aH6,<- hlen,aF3] at hk;exact hk
  exact wpAny_bind (listItems_at ek1 rfl (Jq I1 fk fa hka ek1 ea1 hk' hlen h64 done))
end
section
variable {X:Cx}{pins:List (Addr×Obj)}{σ:St}{H:Hp}{s:Shared}{A:Around}{E:Value->Shared->Prop}{P:PySem.Fin->Shared->Prop}{a:Addr}{vs:List Value}{kz:List Int}{n:Nat}{f:Value}
theorem Hm (I:aW X pins σ H s)(fa:jD X pins H a)(ea:s.heap.get? a=some (seqObj "list" vs.toArray n))(hlen:kz.length=vs.length)(h64:vs.length<64)
  (turn:∀ (i:Nat) v k,vs[i]? = some v->kz[i]? = some k->K8 X pins σ H A f v k)
  (done:∀ s' out c,aW X pins σ H s'->s'.heap.get? a=some (seqObj "list" out c)->KskOut false kz vs out.toList->P (.done (.ret .none)) s') :
  wpAny (model X.prog X.w) A (ksk_tree a f false) P E s:=by
 have I1:aW X pins σ H { s with heap:=s.heap.update a (Obj.mapSeq fun _=>(#[]:Array Value)) } :=
  I.turned (t':=s.toks) (fun b o hb q=>((aGi.update s.heap a _).2 b hb).trans q) fa.1 fa.2.1 fa.2.2.2.1 fa.2.2.2.2.1 fa.2.2.2.2.2
 have ea1:=get?_update_seq ea fun _=>(#[]:Array Value)
 generalize hh:s.heap.update a (Obj.mapSeq fun _=>(#[]:Array Value))=h1 at I1 ea1;have I2:aW X pins σ H { s with heap:=(h1.push (seqObj "tuple" vs.toArray 0)).push (seqObj "list" #[] 0) } :=
  I1.kept (t':=s.toks) fun b o q=>aFH _ (aFH _ q)
 have hlt:a<h1.objs.size:=aFQ ea1;have hsz:(h1.push (seqObj "tuple" vs.toArray 0)).objs.size=h1.objs.size+1:=size_push' _ _;have h64':vs.length<=sizeLine:=aFJ (aGm h64) (by decide);unfold ksk_tree;refine wpAny_bind (listItems_at ea rfl ?_);refine wpAny_bind (listUpdate_at ea rfl ?_ (by rw [aFW]; exact h64') (aGa _));rw [hh];refine wpAny_bind (seqEpoch_at (s:={ s with heap:=h1 }) ea1 rfl ?_);refine wpAny_bind (wpAny_newTuple ?_ (by simpa using h64'));refine wpAny_bind (wpAny_newList ?_ (aGa _));refine wpAny_holding ?_;refine JZ (s:={ s with heap:=(h1.push (seqObj "tuple" vs.toArray 0)).push (seqObj "list" #[] 0) }) (kS:=(h1.push (seqObj "tuple" vs.toArray 0)).objs.size) I2 ?_ fa ?_ (aFV _ rfl) (aFH _ (aFH _ ea1)) hlen h64 turn done
 ·exact I1.fpOk (by rw [hsz]; exact aGO _) (I1.hok.fresh (by rw [hsz]; exact aGO _))
 ·rw [hsz];exact aGC (aH7 hlt)
def LC:Value->Addr
 | .ref a=>a
 | _=>0
theorem wD:∀ {qs:List Addr}{vs:List Value},bZ (qs.map V.ref) vs->vs=qs.map Value.ref
 | [],_,h=>by cases h; rfl
 | q::qs,_,h=>by
  cases h with
  | cons r t=>rw [wD t,show _=Value.ref q from r]; rfl
theorem pY:∀ (qs:List Addr),bZ (qs.map V.ref) (qs.map Value.ref)
 | []=>.nil
 | q::qs=>.cons rfl (pY qs)
theorem GC {kz:List Int}{qs:List Addr}{out:List Value}(h:KskOut false kz (qs.map Value.ref) out):∃ ps:List (Int×Addr),ps.Perm (kz.zip qs)/\out=ps.map (fun p=>Value.ref p.2)/\ps.Pairwise (fun p q=>p.1<=q.1):=by
 obtain ⟨ps,hp,ho,hs⟩:=h;have e0:kz.zip (qs.map Value.ref)=(kz.zip qs).map fun p=>(p.1,Value.ref p.2):=by rw [List.zip_map_right]; exact aGu fun ⟨x,y⟩ _=>rfl
 rw [e0] at hp;have mem:∀ p∈ps,p.2=Value.ref (LC p.2):=fun p hm=>by
  obtain ⟨q,_,rfl⟩:=aFL.mp (hp.mem_iff.mp hm)
  rfl
 refine ⟨ps.map fun p=>(p.1,LC p.2),?_,?_,?_⟩
 ·have z:=hp.map fun p=>(p.1,LC p.2)
  rw [aGz] at z;have e1:(kz.zip qs).map ((fun p=>(p.1,LC p.2)) ∘ fun p=>(p.1,Value.ref p.2))=kz.zip qs:=by
   conv=>rhs; rw [<- List.map_id (kz.zip qs)]
   exact aGu fun ⟨x,y⟩ _=>rfl
  rw [e1] at z;exact z
 ·rw [ho,aGz];exact aGu fun p hm=>mem p hm
 ·rw [aHe];exact hs
theorem Ia {l fa:Addr}{qs:List Addr}{Q:VK}(I:aW X pins σ H s)(hS:bV X.K H l (qs.map V.ref))(hlen:kz.length=qs.length)(h64:qs.length<64)
  (turn:∀ (i:Nat) q k,qs[i]? = some q->kz[i]? = some k->K8 X pins σ H X.A.in1.in1 (.ref fa) (.ref q) k)
  (done:∀ D (ps:List (Int×Addr)),H D=none->ps.Perm (kz.zip qs)->ps.Pairwise (fun p q=>p.1<=q.1)->Q (.ref D) (bG H D (.lst (ps.map fun p=>V.ref p.2)))) :
  wpAny (model X.prog X.w) X.A (call (.builtin "sorted") [.ref l] [(Str.ofString "key",.ref fa)]) (EP X pins σ Q) E s:=by
 obtain ⟨its,rv,pl,hz⟩:=I.list hS;have ei:=wD rv;subst ei;have hl64:(qs.map Value.ref).length<64:=by rw [aFF]; exact h64
 have h64':(qs.map Value.ref).length<=sizeLine:=aFJ (aGm hl64) (by decide);refine call_function_entry_kw kind_sorted plain_sorted entry_sorted (ksk_s1 _ _) ?_;unfold Builtin.«sorted»;refine wpAny_bind (m:=checkCount "sorted" 1 1 _) (wpAny_pure ?_);refine wpAny_bind (collect_list pl.isList ?_ h64');refine wpAny_bind (wpAny_newList ?_ h64');have up:∀ b o,s.heap.get? b=some o->((s.heap.push (seqObj "list" #[] 0)).update s.heap.objs.size (Obj.mapSeq (·++(qs.map Value.ref).toArray))).get? b=some o:=fun b o q =>
  ((aGi.update (s.heap.push (seqObj "list" #[] 0)) s.heap.objs.size _).2 b (aF6 (aFQ q))).trans (aFH _ q)
 have hsz:((s.heap.push (seqObj "list" #[] 0)).update s.heap.objs.size (Obj.mapSeq (·++(qs.map Value.ref).toArray))).objs.size=s.heap.objs.size+1:=by rw [Heap.size_update,size_push']
 generalize (s.heap.push (seqObj "list" #[] 0)).update s.heap.objs.size (Obj.mapSeq (·++(qs.map Value.ref).toArray))=h1 at up hsz;have I1:aW X pins σ H { s with heap:=h1.push (seqObj "list" (qs.map Value.ref).toArray 0) }:=I.kept (t':=s.toks) fun b o q=>aFH _ (up b o q);have fr:H h1.objs.size=none:=I.hok.fresh (by rw [hsz]; exact aGO _);have fp:jD X pins H h1.objs.size:=I.fpOk (by rw [hsz]; exact aGO _) fr;have yo:X.s₀.heap.objs.size<=h1.objs.size:=aFJ I.sz (by rw [hsz]; exact aGO _);have ea:(h1.push (seqObj "list" (qs.map Value.ref).toArray 0)).get? h1.objs.size=some (seqObj "list" (qs.map Value.ref).toArray 0):=aFV _ rfl;refine wpAny_bind (wpAny_holding (wpAny_call_entry_kw PyProof.Rows.slot_list_sort ⟨_,ea,rfl⟩ PyProof.Rows.entry_list_sort ?body (ksk_l1 _ _)))
 case body =>
  show wpAny (model X.prog X.w) X.A.in1.in1 (Builtin.«list.sort» ⟨[.ref h1.objs.size],[(Str.ofString "key",.ref fa)]⟩) _ _ _;rw [ksk_t1];refine Hm (kz:=kz) (s:={ s with heap:=h1.push (seqObj "list" (qs.map Value.ref).toArray 0) }) I1 fp ea (by rw [aFF]; exact hlen) hl64 (fun i v k hv hk=>?_) fun s2 out c I2 e2 ko=>⟨_,rfl,?_⟩
  ·rw [aFY] at hv;cases eq:qs[i]? with
   | none=>rw [eq] at hv; cases hv
   | some q =>
    rw [eq] at hv;cases hv;exact turn i q k eq hk
  ·obtain ⟨ps,hp,ho,hs⟩:=GC ko;have hpl:ps.length=qs.length:=by
    rw [hp.length_eq,List.length_zip,hlen,Nat.min_self]
   refine wpAny_pure ⟨_,rfl,.ref h1.objs.size,_,I2.track (o:=.lst (ps.map fun p=>V.ref p.2)) fp yo ⟨?_,out.toList,c,?_,?_⟩,rfl,done _ ps fr hp hs⟩
   ·rw [aFF,hpl];exact aFJ (aGm h64) (by decide)
   ·rw [ho];have z:=pY (ps.map Prod.snd);rw [aGz,aGz] at z;exact z
   ·rw [aGX];exact e2
end
def DK (X:Cx)(A:Around)(p:Str)(M:List Str)(scope:Scope)(qual:Str)(f c':Addr)(s:Shared)(H:Hp):Cx where
 prog:=X.prog
 w:=X.w
 K:=X.K
 mg:=X.mg
 base:=X.base
 A:=A.deeper (PySem.W.envX qual scope s.heap.objs.size f (.ref c') (dY X.env scope.names []))
 N:=p::M
 s₀:=s
 H₀:=H
 env:=PySem.W.envX qual scope s.heap.objs.size f (.ref c') (dY X.env scope.names [])
 outer:=X.stack
 stack:=PySem.W.envX qual scope s.heap.objs.size f (.ref c') (dY X.env scope.names [])::X.stack
 ex:=[]
 fn:=fun _=>false
 calm:=true
 pn:=[]
 xe:=fun _ _=>False
abbrev qL (c':Addr)(qual:Str):HO:=.ext fun h=>h.CodeRec (.ref c') qual
section
variable {X:Cx}{pins:List (Addr×Obj)}{σ:St}{H:Hp}{A:Around}{p qual:Str}{M:List Str}{scope:Scope}{params:Arguments}{body:Expr}{pm ctv:Value}{c' f:Addr}{te:TE}
theorem Jb (hA:A.frames=some X.stack)(hd:A.handled=none)(hdep:A.depth<recursionLimit)(S:bL X.env.scope scope)(nl:NL X.N M scope)(hp:scope.names.lookup p=some .local)
  (hco:scope.isCoroutine=false) (hgen:scope.isGenerator=false) (hbind:∀ (cl:List (Str×Addr)) (pm cdv ctv u:Value),bindArgs (PySem.W.kla_fn "<lambda>" qual params body scope cl pm cdv ctv) ⟨[u],[]⟩=pure [(p,u)])
  (hb:∀ f c' s H,PE (DK X A p M scope qual f c' s H) body te) {x:V}{u:Value}{k:Int} (rx:RelV x u) (hf:(f,PySem.W.kla_obj "<lambda>" qual params body scope (dY X.env scope.names []) pm c' ctv)∈pins)
  (hcr:H c'=some (qL c' qual)) (h:te (some x::σ) H fun r H'=>r=.int k/\H'=H):K8 X pins σ H A (.ref f) u k:=by
 intro more s I;have hcd:s.heap.CodeRec (.ref c') qual:=(I.hok c' _ hcr).1;have ho:=(I.pin _ (aFX _ (aGw _ hf))).1;have sub:∀ x a,(dY X.env scope.names []).lookup x=some a->X.env.cells.lookup x=some a:=fun x a e=>by
  rcases pH _ _ _ (PySem.mem_of_lookup e) with z | z
  ·exact absurd z (by simp)
  ·exact z
 have kin:∀ x,scope.names.lookup x=some .free->X.env.kindOf x=some .cell∨X.env.kindOf x=some .free:=fun x e=>S.free (x,.free) (PySem.mem_of_lookup e) rfl;have has:∀ x a,scope.names.lookup x=some .free->X.env.cells.lookup x=some a->(dY X.env scope.names []).lookup x=some a:=fun x a e ec=>by
  obtain ⟨d,hd⟩:=jE (pN ec scope.names [] (PySem.mem_of_lookup e));have:=sub x d hd;rw [ec] at this;cases this;exact hd
 have nocell:∀ x,scope.names.lookup x≠some .cell:=fun x e=>S.nocell _ (PySem.mem_of_lookup e) rfl;refine wpAny_call (PySem.W.kla_callFunE hdep ho rfl hco hgen rfl hcd ?_);rw [hbind];refine wpAny_pure (wpAny_newFunctionEnv S.nocell (fun y hy=>?_) (fun h₁ hns hsb=>⟨?_,?_⟩) S.kind)
 ·rw [aFR.mp hy]; exact hp
 ·exact I.nolimit.keeps fun b o e=>hsb.extBut b o (aF6 (aFQ e)) (aFH _ e)
 have old:∀ b o,s.heap.get? b=some o->h₁.get? b=some o:=fun b o e=>hsb.extBut b o (aF6 (aFQ e)) (aFH _ e);have okY:(DK X A p M scope qual f c' s H).Ok:=by
  refine ⟨I.ok.mod,S.kind,rfl,rfl,aFM _,fun x y a h1 h2=>I.ok.inj x y a (sub x a h1) (sub y a h2),fun x hx=>?_,(fun x a h=>nomatch h),fun _=>hd,Around.frames_deeper hA,.inr ⟨rfl,rfl⟩,(fun b hb'=>nomatch hb'),
   I.bs,aFJ I.ok.bsz I.sz,(fun b o e hb'=>nomatch hb'),(fun b hb'=>nomatch hb'),I.stack,I.stkFree⟩
  have hf:scope.names.lookup x=some .free:=by
   rcases hx with hx | hx
   ·exact absurd hx (nocell x)
   ·exact hx
  obtain ⟨a,ea⟩:=I.ok.has x (kin x hf);exact ⟨a,has x a hf ea⟩
 have IY:aW (DK X A p M scope qual f c' s H) [] (some x::σ) H { s with heap:=h₁,toks:=s.toks+[(p,u)].length }:=by
  refine ⟨okY,rfl,I.bare,Un.kept old,⟨_,hns,fun i y v e1 e2 e3=>?_⟩,fun y a e=>?_,I.hok.fresh (aFM _),fun y a e=>I.freeC y a (sub y a e),(fun q hq=>nomatch hq),I.hok.kept old,?_⟩
  ·cases i with
   | zero =>
    have e1':some p=some y:=e1;have e2':some (some x)=some (some v):=e2;cases e1';cases e2';refine ⟨u,rx,.inl ⟨hp,?_⟩⟩;show aGV p [(p,u)]=some u;simp
   | succ i =>
    have e0:M[i]? = some y:=e1;have e2':σ[i]? = some (some v):=e2;have hf:scope.names.lookup y=some .free:=by
     rcases e3 with e3 | e3 | e3
     ·exact absurd e3 (nl.loc _ y e0)
     ·exact absurd e3 (nocell y)
     ·exact e3
    have hk:=kin y hf;obtain ⟨m,hn,hl⟩:=I.loc;obtain ⟨z,rz,lk⟩:=hl i y v (nl.free _ y e0 hf) e2' (hk.elim (fun z=>.inr (.inl z)) fun z=>.inr (.inr z));refine ⟨z,rz,.inr ⟨.inr hf,?_⟩⟩;rcases lk with ⟨q,_⟩ | ⟨_,a,ea,o,eo,hdd⟩
    ·rcases hk with hk | hk <;> (rw [hk] at q; cases q)
    ·exact ⟨a,has y a hf ea,o,old a o eo,hdd⟩
  ·obtain ⟨v,o,eo,hdd⟩:=I.cell y a (sub y a e);exact ⟨v,o,old a o eo,hdd⟩
  ·show σ.length+1=M.length+1;rw [I.len,nl.len]
 refine PySem.W.kla_codeExpr (wpAny_mono (hb f c' s H [] _ (some x::σ) H _ IY h) (fun r s2 h2=>?_) fun _ _ z=>z.elim);obtain ⟨v,H2,J,rv,hv,hH⟩:=h2;subst hv hH;exact ⟨rv,I.call' (ch:=[]) J.os J.base J.hok J.bare (fun b hb'=>nomatch hb')⟩
end
def Nm (pos:Pos)(c':Addr):Array Value:=#[rawInt pos.line,rawInt pos.col,.ref c']
def PJ (P:Addr)(pos:Pos)(qual:Str)(c':Addr)(H:Hp):Prop:=H P=some (.tbl (Nm pos c'))/\H c'=some (qL c' qual)
def dF (P:Addr)(pos:Pos)(qual:Str)(H:Hp):Prop:=H P=some (.tbl #[])∨∃ c',PJ P pos qual c' H
def cD (P:Addr)(H H':Hp):Prop:=∀ b o,b≠P->H b=some o->H' b=some o
theorem cD.refl {P:Addr}(H:Hp):cD P H H:=fun _ _ _ e=>e
theorem cD.trans {P:Addr}{H H1 H2:Hp}(a:cD P H H1)(b:cD P H1 H2):cD P H H2:=fun c o n e=>b c o n (a c o n e)
theorem aR.toT {P:Addr}{H H':Hp}(a:aR H H'):cD P H H':=fun b o _ e=>a b o e
theorem cD.free {P:Addr}{H H':Hp}(a:cD P H H'){l:Addr}(h:H' l=none)(hP:∃ ps,H' P=some (.tbl ps)):H l=none:=by
 cases q:H l with
 | none=>rfl
 | some o =>
  by_cases e:l=P
  ·obtain ⟨ps,z⟩:=hP;rw [e,z] at h; cases h
  ·rw [a l o e q] at h; cases h
theorem cD.upd_new {P:Addr}{H H':Hp}{p:Addr}(s:cD P H H')(h:H p=none)(o:HO):cD P H (bG H' p o):=fun b u n q=>by rw [aK (aV q h)]; exact s b u n q
theorem dF.at_ {P:Addr}{pos:Pos}{qual:Str}{H:Hp}(t:dF P pos qual H):∃ ps,H P=some (.tbl ps):=by
 rcases t with t | ⟨c,t,_⟩
 ·exact ⟨_,t⟩
 ·exact ⟨_,t⟩
theorem cD.get {P:Addr}{pos:Pos}{qual:Str}{H H':Hp}(a:cD P H H')(t:dF P pos qual H){b:Addr}{o:HO}(e:H b=some o)(n:∀ ps,o≠.tbl ps):H' b=some o:=by
 obtain ⟨ps,z⟩:=t.at_;exact a b o (cH e z (n ps)) e
theorem dF.same {P:Addr}{pos:Pos}{qual:Str}{H H':Hp}(t:dF P pos qual H)(s:aR H H'):dF P pos qual H':=by
 rcases t with t | ⟨c,t,u⟩
 ·exact .inl (s _ _ t)
 ·exact .inr ⟨c,s _ _ t,s _ _ u⟩
theorem cD.lst {K:PySem.W.Frag}{P:Addr}{pos:Pos}{qual:Str}{H H':Hp}(a:cD P H H')(t:dF P pos qual H){b:Addr}{xs:List V}(h:bV K H b xs):bV K H' b xs:=by
 rcases h with (h | ⟨o,h⟩) | h
 ·exact .inl (.inl (a.get t h fun _ z=>nomatch z))
 ·exact .inl (.inr ⟨o,a.get t h fun _ z=>nomatch z⟩)
 ·exact .inr h
theorem Fx {h h':Heap}{mg:Str->Option Value}{P:Addr}(b:h.BuiltinsAt mg P)(k:∀ a o,h.get? a=some o->h'.get? a=some o):h'.BuiltinsAt mg P:=by
 obtain ⟨bm,o,b1,b2,b3,b4,b5,b6⟩:=b;exact ⟨bm,o,b1,b2,b3,b4,k _ _ b5,b6⟩
theorem xJ {c':Addr}{qual:Str}:∀ h1 h2:Heap,h1.CodeRec (.ref c') qual->(∀ o,h1.get? c'=some o->h2.get? c'=some o)->h2.CodeRec (.ref c') qual:=fun h1 h2 ⟨c,oc,vs,t,e,g,r⟩ k=>by
 cases e;exact ⟨_,oc,vs,t,rfl,k _ g,r⟩
section
variable {X:Cx}{pins:List (Addr×Obj)}{σ:St}{H:Hp}{s:Shared}{E:Value->Shared->Prop}{c P:Addr}{pos:Pos}{params:Arguments}{body:Expr}{scope:Scope}{Q:Value->Shared->Prop}
theorem Gs (I:aW X pins σ H s)(hcode:X.env.code=.ref c)(C:PySem.W.CodeHd X.base c P)(B:X.base.BuiltinsAt X.mg P)(T:dF P pos (X.env.qual++"<lambda>") H)(S:bL X.env.scope scope)(hdef:defaultsOf params X.env=([],[]))
  (q:∀ f c' pm ctv H' s',cD P H H'->PJ P pos (X.env.qual++"<lambda>") c' H'->aW X (pins++[(f,PySem.W.kla_obj "<lambda>" (X.env.qual++"<lambda>") params body scope (dY X.env scope.names []) pm c' ctv)]) σ H' s'->Q (.ref f) s') :
  wpAny (model X.prog X.w) X.A (eval (.Lambda params body scope pos) X.env) Q E s:=by
 have hcl:=CP S I.ok;have hg:=I.ok.mod.glob.keeps I.bk;have hB:=Fx B I.bk;obtain ⟨ps0,hP0⟩:=T.at_;have hgP:mainGlobals≠P:=fun z=>by
  obtain ⟨o,es,ep,e,_⟩:=I.ok.mod.glob;have:=(I.bs _ o e).2;rw [z,hP0] at this;cases this
 refine PySem.W.kla_eval hdef ?_;rcases T with T | ⟨c',T,U⟩
 ·have hP:s.heap.get? P=some (PySem.W.tabObj #[]):=I.hok P _ T;refine PySem.W.kla_makeFunction (mg:=X.mg) hcl I.ok.glob hg hcode (C.keeps I.bk) hP trivial rfl hgP hB fun c' ctv h' tk hx hge hlt hrec htb=>?_;have cn:H c'=none:=I.hok.fresh hge;have cP:c'≠P:=Ne.symm (aV T cn);have new1:∀ b o,b≠P->s.heap.get? b=some o->(h'.push (PySem.W.kla_obj "<lambda>" (X.env.qual++"<lambda>") params body scope (dY X.env scope.names []) ((X.mg "__name__").getD .none) c' ctv)).get? b=some o:=fun b o hb e=>aFH _ (hx b o hb e);have nP:∀ b,H b=none->b≠P:=fun b n z=>by rw [z,T] at n; cases n
  have ups:∀ b u,H b=some u->(∀ ps,u≠.tbl ps)->bG (bG H P (.tbl (Nm pos c'))) c' (qL c' (X.env.qual++"<lambda>")) b=some u:=fun b u e nt=>by
   rw [aK (aV e cn),aK (cH e T (nt _))]; exact e
  have hfresh:H h'.objs.size=none:=I.hok.fresh (aFJ hge (aGm hlt));have I1:aW X pins σ (bG (bG H P (.tbl (Nm pos c'))) c' (qL c' (X.env.qual++"<lambda>"))) { s with heap:=h'.push (PySem.W.kla_obj "<lambda>" (X.env.qual++"<lambda>") params body scope (dY X.env scope.names []) ((X.mg "__name__").getD .none) c' ctv),toks:=tk }:=by
   refine I.un (t':=tk) ⟨fun b o e n _ _=>new1 b o (nP b n) e,fun b o e n _ _=>⟨o.slots,new1 b o (nP b n) e⟩,fun b o e n _=>?_,fun b o e _=>?_,fun b xs e=>ups b _ e (fun _ z=>nomatch z),fun b o u e=>ups b _ e (fun _ z=>nomatch z),fun b ps e=>?_⟩ fun b u e=>?_
   ·rw [aK (aF6 (aF5 (aFQ e) hge)),aK (nP b n)]; exact n
   ·by_cases z:b=P
    ·rw [z]; exact ⟨_,aFH _ htb⟩
    ·exact ⟨o,new1 b o z e⟩
   ·by_cases z:b=P
    ·rw [z,T] at e;cases e;refine ⟨Nm pos c',?_⟩;rw [z,aK (Ne.symm cP),aB];simp
    ·exact ⟨#[],by rw [aK (aV e cn),aK z,e]; simp⟩
   ·by_cases z:b=c'
    ·subst z;rw [aB] at e;cases e;obtain ⟨c2,oc,vs,t,e2,g2,r2⟩:=hrec;cases e2;exact ⟨⟨_,oc,vs,t,rfl,aFH _ g2,r2⟩,⟨oc,aFH _ g2⟩,xJ⟩
    ·rw [aK z] at e
     by_cases z2:b=P
     ·subst z2;rw [aB] at e;cases e;have q2:=aFH (PySem.W.kla_obj "<lambda>" (X.env.qual++"<lambda>") params body scope (dY X.env scope.names []) ((X.mg "__name__").getD .none) c' ctv) htb;rw [aH1] at q2;exact q2
     ·rw [aK z2] at e;refine (I.hok b u e).stay (fun d v hd r=>new1 d v ?_ r) (fun d r=>ups d _ r fun _ z=>nomatch z) fun d xs r=>ups d _ r fun _ z=>nomatch z
      rcases hd with z3 | z3
      ·rw [z3]; exact z2
      ·exact cH z3 T fun z=>nomatch z
  refine q _ c' ((X.mg "__name__").getD .none) ctv _ _ (fun b o n e=>?_) ⟨?_,aB⟩ (I1.pins_of fun p hp=>?_)
  ·rw [aK (aV e cn),aK n]; exact e
  ·rw [aK (Ne.symm cP),aB]
  ·rcases aF4.mp hp with z | z
   ·exact I1.pin p (aFX _ z)
   ·rw [aFR.mp z];have fp:=I.fpOk (H':=bG (bG H P (.tbl (Nm pos c'))) c' (qL c' (X.env.qual++"<lambda>"))) (b:=h'.objs.size) (aFJ hge (aGm hlt)) (by rw [aK (aGC hlt),aK (nP _ hfresh)]; exact hfresh);exact ⟨aFV _ rfl,fp.1,fp.2.1,fp.2.2.1,fun v z=>nomatch z⟩
 ·have hP:s.heap.get? P=some (PySem.W.tabObj (Nm pos c')):=I.hok P _ T;have am:codeAmong pos (Nm pos c').toList=some (.ref c'):=by
   show codeAmong pos [rawInt pos.line,rawInt pos.col,.ref c']=some (.ref c');simp [codeAmong,rawInt]
  refine PySem.W.kla_makeFunctionHit (mg:=X.mg) hcl I.ok.glob hg hcode (C.keeps I.bk) hP trivial am hB fun ctv h' tk hk hsz=>?_;have I1:aW X pins σ H { s with heap:=h'.push (PySem.W.kla_obj "<lambda>" (X.env.qual++"<lambda>") params body scope (dY X.env scope.names []) ((X.mg "__name__").getD .none) c' ctv),toks:=tk }:=I.kept (t':=tk) fun b o e=>aFH _ (hk b o e);refine q _ c' ((X.mg "__name__").getD .none) ctv H _ (cD.refl H) ⟨T,U⟩ (I1.pins_of fun p hp=>?_);rcases aF4.mp hp with z | z
  ·exact I1.pin p (aFX _ z)
  ·rw [aFR.mp z];have fp:=I.fpOk (H':=H) (b:=h'.objs.size) hsz (I.hok.fresh hsz);exact ⟨aFV _ rfl,fp.1,fp.2.1,fp.2.2.1,fun v z=>nomatch z⟩
end
def NQ (K:PySem.W.Frag)(P:Addr)(pos:Pos)(qual:Str)(tl tb:TE):TE:=fun σ H Q=>tl σ H fun x H1=>∃ (l:Addr) (qs:List Addr) (kz:List Int),x=.ref l/\bV K H1 l (qs.map V.ref)/\kz.length=qs.length/\qs.length<64/\dF P pos qual H1 ∧
 ∀ H2 c',cD P H1 H2->PJ P pos qual c' H2->(∀ (i:Nat) q k,qs[i]? = some q->kz[i]? = some k->tb (some (.ref q)::σ) H2 fun r H'=>r=.int k/\H'=H2) ∧
  ∀ D (ps:List (Int×Addr)),H2 D=none->ps.Perm (kz.zip qs)->ps.Pairwise (fun p q=>p.1<=q.1)->Q (.ref D) (bG H2 D (.lst (ps.map fun p=>V.ref p.2)))
theorem Ij {X:Cx}{c P:Addr}{k:Nat}{p:Str}{M:List Str}{scope:Scope}{params:Arguments}{body e:Expr}{p0 pos lpos kpos:Pos}{tl tb:TE}(hr:fD k X.A)(hc:X.calm=true)(hg:Gl X "sorted")(hm:X.mg "sorted" = none)
  (hcode:X.env.code=.ref c) (C:PySem.W.CodeHd X.base c P) (B:X.base.BuiltinsAt X.mg P) (S:bL X.env.scope scope) (nl:NL X.N M scope) (hp:scope.names.lookup p=some .local) (hco:scope.isCoroutine=false) (hgen:scope.isGenerator=false)
  (he:PE X e tl) (hb:∀ A f c' s H,PE (DK X A p M scope (X.env.qual++"<lambda>") f c' s H) body tb)
  (hdef:defaultsOf params X.env=([],[]):=by rfl)
  (hbind:∀ (cl:List (Str×Addr)) (pm cdv ctv u:Value),bindArgs (PySem.W.kla_fn "<lambda>" (X.env.qual++"<lambda>") params body scope cl pm cdv ctv) ⟨[u],[]⟩=pure [(p,u)]:=by intro _ _ _ _ _; rfl)
  (hs:starEach [e] X.env=[(false,eval e X.env)]:=by rfl) :
  PE X (.Call (.Name "sorted" p0) [e] [⟨some "key",.Lambda params body scope lpos,kpos⟩] pos) (NQ X.K P lpos (X.env.qual++"<lambda>") tl tb):=by
 intro pins s σ H Q I h;refine wpAny_Call_Name_kw (lQ I hg hm wK ?_ (by decide) (by decide));refine callWith_kw (dD (aA he aC hs pos pins s σ H (fun vs H1=>∃ x,vs=[x]/\∃ (l:Addr) (qs:List Addr) (kz:List Int),x=.ref l/\bV X.K H1 l (qs.map V.ref)/\kz.length=qs.length/\qs.length<64/\dF P lpos (X.env.qual++"<lambda>") H1 ∧
  ∀ H2 c',cD P H1 H2->PJ P lpos (X.env.qual++"<lambda>") c' H2->(∀ (i:Nat) q k,qs[i]? = some q->kz[i]? = some k->tb (some (.ref q)::σ) H2 fun r H'=>r=.int k/\H'=H2) ∧
   ∀ D (ps:List (Int×Addr)),H2 D=none->ps.Perm (kz.zip qs)->ps.Pairwise (fun p q=>p.1<=q.1)->Q (.ref D) (bG H2 D (.lst (ps.map fun p=>V.ref p.2)))) I ?_) fun us s1 ⟨vs,H1,I1,r1,x,ev,l,qs,kz,ex,hS,hlen,h64,hT,q1⟩=>?_) ?_ ?_ rfl rfl
 ·show tl σ H fun x H1=>_;have mono:=h;exact (show tl σ H fun x H1=>∃ x',[x]=[x']/\_ from by
   have e1:(fun (x:V) (H1:Hp)=>∃ x',[x]=[x']/\∃ (l:Addr) (qs:List Addr) (kz:List Int),x'=.ref l/\bV X.K H1 l (qs.map V.ref)/\kz.length=qs.length/\qs.length<64/\dF P lpos (X.env.qual++"<lambda>") H1 ∧
  ∀ H2 c',cD P H1 H2->PJ P lpos (X.env.qual++"<lambda>") c' H2->(∀ (i:Nat) q k,qs[i]? = some q->kz[i]? = some k->tb (some (.ref q)::σ) H2 fun r H'=>r=.int k/\H'=H2) ∧
   ∀ D (ps:List (Int×Addr)),H2 D=none->ps.Perm (kz.zip qs)->ps.Pairwise (fun p q=>p.1<=q.1)->Q (.ref D) (bG H2 D (.lst (ps.map fun p=>V.ref p.2))))=fun x H1=>∃ (l:Addr) (qs:List Addr) (kz:List Int),x=.ref l/\bV X.K H1 l (qs.map V.ref)/\kz.length=qs.length/\qs.length<64/\dF P lpos (X.env.qual++"<lambda>") H1 ∧
  ∀ H2 c',cD P H1 H2->PJ P lpos (X.env.qual++"<lambda>") c' H2->(∀ (i:Nat) q k,qs[i]? = some q->kz[i]? = some k->tb (some (.ref q)::σ) H2 fun r H'=>r=.int k/\H'=H2) ∧
   ∀ D (ps:List (Int×Addr)),H2 D=none->ps.Perm (kz.zip qs)->ps.Pairwise (fun p q=>p.1<=q.1)->Q (.ref D) (bG H2 D (.lst (ps.map fun p=>V.ref p.2))):=by
    funext x H1
    refine propext ⟨?_,?_⟩
    ·rintro ⟨x',z,r⟩;injection z with z
     subst z;exact r
    ·intro r;exact ⟨x,rfl,r⟩
   rw [e1];exact mono)
 ·subst ev ex;obtain ⟨u,rfl,ru⟩:=vals1 r1;cases (show u=Value.ref l from ru);show wpAny _ _ (evalAll [do let v <- eval (.Lambda params body scope lpos) X.env; standAt pos; pure v]) _ _ s1;refine wpAny_evalAll_cons (wpAny_bind (Gs I1 hcode C B hT S hdef fun f c' pm ctv H2 s2 st hit I2=>wpAny_bind (wpAny_standAt (wpAny_pure (wpAny_evalAll_nil ?_)))));obtain ⟨q2,q3⟩:=q1 H2 c' st hit;have fin:=Ia (E:=X.xe) (Q:=Q) (fa:=f) (kz:=kz) I2 (cD.lst st hT hS) hlen h64 (fun i q k eq ek=>Jb (A:=X.A.in1.in1) I2.ok.frames (I2.ok.hd hc) hr.depth S nl hp hco hgen hbind (hb X.A.in1.in1) (x:=.ref q) rfl (aFX _ (.head _)) hit.2 (q2 i q k eq ek)) fun D ps hD hp hs=>q3 D ps hD hp hs;exact dD fin fun r s3 ⟨v,H3,I3,rv,qv⟩=>⟨v,H3,I3.unpinned,rv,qv⟩
 ·show backTo pos (starEach [e] X.env)=(false,eval e X.env)::_;rw [hs]
  rfl
 ·rw [hs]
  rfl
theorem dJ.okc {P:Program}{w:World}{K:PySem.W.Frag}{mg:Str->Option Value}{base:Heap}{x qual:Str}{st:Stmt}{f c:Addr}{fd:FuncData}{N ps:List Str}{k:Nat}{sp:Sp}(F:dJ K x qual st f fd)(hc:fd.code=.ref c)(S:aO N ps (aL st))(len:∀ vs H Q E,sp vs H Q E->vs.length=ps.length)
  (hbody:∀ (A:Around) (outer:List Env) (s:Shared) (H:Hp) (vs:List V) (Q:VK) (E:XK),fD k (A.deeper (envOfC qual (aL st) s.heap.objs.size f (.ref c)))->sp vs H Q E ->
   ∃ t,xD (xP dG P w K mg base N qual (aL st) f (.ref c) A outer s H E).nox (fJ st) t/\t { nx:=fun _ H'=>Q .non H',rt:=Q } (start N vs) H):aX P w K mg base dG (k+1) f fd ps sp:=by
 obtain ⟨oc,od,kV,doc,pm,an,cdv,ct,osl,rfl,lk,hcd⟩:=F.ex;cases (show cdv=Value.ref c from hc);refine J5 lk hcd S len fun A outer s H vs Q E hr hsp=>?_;obtain ⟨t,h,q⟩:=hbody A outer s H vs Q E hr hsp;exact ⟨t,h.nox,q⟩
end L2
namespace L2
open PySem PySem.W
def ev {α:Type}:List α->List α
 | []=>[]
 | [a]=>[a]
 | a::_::r=>a::ev r
def od {α:Type}:List α->List α
 | []=>[]
 | [_]=>[]
 | _::b::r=>b::od r
def bt:Nat->List Obj->BT
 | 0,_=>.nil
 | _+1,[]=>.nil
 | n+1,o::r=>.node o (bt n (ev r)) (bt n (od r))
def sets (l:List Obj):List (Nat×Obj)->List Obj
 | []=>l
 | p::r=>sets (l.set p.1 p.2) r
noncomputable def yH (T:BT)(n k:Nat)(os:OsState):SharedT:=⟨T,n,{},aHB [],boot_drawn,k,os⟩
theorem rM {tb:String->Option Builtin}{p:Program}{w:World}{m0:Nat}{ann:Option Value}{env:Env}{q:Pos}{n N:Nat}{s s':SharedT}{r:Shared}{l rest:List Stmt}{c:Code}{pos p':Pos}
  (h:segRunT tb p w m0 ann 1 n s (piecesOf l env c pos [topFrame q])=some (.next,s',c,p')) (k:topRun tb p w m0 ann N s'.abs (restOf rest env c p' [topFrame q])=some r):topRun tb p w m0 ann (n+N) s.abs (restOf (l++rest) env c pos [topFrame q])=some r :=
 piece_app (segRun_of h) k
theorem Hw {p q:Program}{loose:List Str}{Xt:Shared->Bool}{α:Type}{Yf:Shared->α}{Ya:World->α}{N:Nat}{Tb Tf:Params->BT}{nb nf ka kf:Nat}{env:Env}{C:Code}{gs:List Stmt}{posA posB qp:Pos}{m0:Nat}{ann:Option Value}{a b c:Nat}
  (e1:opening p=plainProg p.main.scope.names) (h6:Nat.ble 600 N=true) (e2:∀ s,fenceModules? p s=some s)
  (size:∀ w:World,((boot_heap w.params).isNs mainGlobals&&(aHB []:Array GenState).size==0,(boot_heap w.params).objs.size,(boot_heap w.params).nsMap mainGlobals "__annotations__")=(true,m0,ann))
  (pre:∀ (w:World) (os:OsState),topGo treeTable p w m0 ann a ⟨boot_heap w.params,aHB [],boot_drawn,boot_toks,os⟩ (topStub p)=some ((yH (Tb w.params) nb ka os).abs,⟨denote treeTable (.body gs env),C,posA,[topFrame qp]⟩))
  (blk:∀ (w:World) (os:OsState),segRun treeTable p w m0 ann 1 b (yH (Tb w.params) nb ka os).abs (blockOf gs env C posA [topFrame qp])=some (.next,(yH (Tb w.params) nb ka os).abs,C,posB))
  (run:∀ (w:World) (os:OsState),topRun treeTable p w m0 ann c (yH (Tb w.params) nb ka os).abs (restOf gs env C posB [topFrame qp])=some (yH (Tf w.params) nf kf os).abs)
  (le:Nat.ble (a+(b+c)) N=true)
  (looks:∀ w:World,(fun os=>((staticsOk (importedModules p.main.body) (boot_heap w.params) (absHeap (Tf w.params) nf {})&&namesBound p (absHeap (Tf w.params) nf {})&&gensDone ⟨absHeap (Tf w.params) nf {},aHB [],boot_drawn,kf,os⟩&&laidKept (boot_heap w.params) (absHeap (Tf w.params) nf {})),
    openSeen q loose (importedModules p.main.body) Xt true ⟨absHeap (Tf w.params) nf {},aHB [],boot_drawn,kf,os⟩,Yf ⟨absHeap (Tf w.params) nf {},aHB [],boot_drawn,kf,os⟩))=fun _=>(true,openGood q loose,Ya w)):LeftO p q loose Xt Yf Ya N :=
 LeftO.of_pieces (H₁:=fun P=>absHeap (Tf P) nf {}) (boot_open e1 h6 e2) size (fun w os=>go_top (pre w os) (piece_block (blk w os) (run w os))) le looks
end L2
namespace L2
open PySem PySem.Spec PyProof.Rows
section
variable {X:Cx}
theorem zG (hc:X.calm=true):d8 X (.builtin "sum") (fun xs H Q=>∃ (a:Addr) (ns:List Int),xs=[.ref a]/\bV X.K H a (ns.map V.int)/\Q (.int ns.sum) H):=by
 intro pins s σ H xs us Q I r h;obtain ⟨a,ns,rfl,hS,q⟩:=h;obtain ⟨u,rfl,ru⟩:=vals1 r;cases (show u=Value.ref a from ru);obtain ⟨its,rv,p,hz⟩:=I.list hS;have hi:=intsAre_of rv;obtain ⟨zs,e⟩:=(IntsAre.allInts hi).items;have hl:=p.isList;rw [e] at hl;refine sum_intListG (I.ok.hd hc) hl fun h' tk t' hk=>⟨.int ns.sum,H,I.kept hk,⟨t',?_⟩,q⟩
 have n1:=nums_intItems (xs:=zs);rw [<- e,show its.toArray.toList=its from rfl,IntsAre.numsOf hi] at n1;rw [preSum_eq,List.take_of_length_le (by simp),<- n1]
section
variable {prog:Program}{w:World}{A:Around}{E:Value->Shared->Prop}{s:Shared}{d it:Addr}{od:Obj}{es:Array DictEntry}{ep i:Nat}
theorem wL {Q:Value->Shared->Prop}(hd:(d==sysModules)=false)(ho:s.heap.get? d=some od)(hx:od.ExactDict)(hdat:od.data=.dict es ep)
  (hQ:Q (.ref s.heap.objs.size) { s with heap:=s.heap.push { cls:=.type "dict_keyiterator",data:=.fields #[.ref d,.int 0 0,.int es.size 0,.int ep 0] } }) :
  wpAny (model prog w) A (pyIter (.ref d)) Q E s:=by
 have ty:s.TypeIs (.ref d) "dict":=⟨od,ho,hx.1⟩
 apply wpAny_pyIter_slot ty F.slot_dict_iter;refine wpAny_call_entry F.slot_dict_iter ty F.entry_dict_iter ?body (F.args_dict_iter_1 _)
 case body =>
  unfold Builtin.«dict.__iter__»;apply wpAny_bind;unfold Builtin.Dict.dictSlotNone;refine wpAny_bind (wpAny_notOrdered_dict ty (wpAny_pure (a:=Value.ref d) ?_));show wpAny _ _ (Builtin.Dict.showsAll d >>= fun _=>_) _ _ s;unfold Builtin.Dict.showsAll;rw [hd,if_neg aF2];refine wpAny_bind (wpAny_pure (wpAny_bind (wpAny_dictEntries ho hdat (wpAny_bind (wpAny_dictEpoch ho hdat ?_)))));refine wpAny_bind (wpAny_newObj_type (wpAny_pure ⟨_,rfl,"dict_keyiterator",_,⟨_,aFV _ rfl,rfl⟩,F.slot_dict_keyiterator_next.lookup,?_⟩))
  simpa only [rawInt] using hQ
theorem wM {e:DictEntry}{Q:Option Value->Shared->Prop}(hit:s.heap.IsKeyIter it d i es.size ep)(ho:s.heap.get? d=some od)(hdat:od.data=.dict es ep)(hx:es[i]? = some e)
  (hQ:∀ h',h'.IsKeyIter it d (i+1) es.size ep->aGi it s.heap h'->Q (some e.key) { s with heap:=h' }):wpAny (model prog w) A (pyNext (.ref it)) Q E s:=by
 obtain ⟨oi,hoi,hci,hdi⟩:=id hit;have ty:=hit.typeIs;have own:Builtin.Dict_items.ownsTuple "dict_keyiterator" = false:=by decide
 unfold pyNext;apply wpAny_bind;apply wpAny_attempt;refine wpAny_callSpecial?_slot (name:=Str.ofString "__next__") ty F.slot_dict_keyiterator_next ?call
 case call =>
  refine wpAny_call_entry F.slot_dict_keyiterator_next ty F.entry_dict_keyiterator_next ?body (F.args_dict_keyiterator_next_1 _)
  case body =>
   refine wpAny_bind (wpAny_pure (wpAny_bind (wpAny_bind ?_)));refine wpAny_bind (wpAny_typeNameOfWhole_keyiter ty (wpAny_pure (wpAny_bind (wpAny_fieldsOf hoi hdi ?_))));simp only [own,aGr,if_false];show wpAny _ _ (if (Value.ref d==Value.none)=true then _ else _) _ _ s;rw [if_neg (fun z:(Value.ref d==Value.none)=true=>aF2 z)];refine wpAny_bind (wpAny_pure (wpAny_bind (wpAny_dictEntries ho hdat ?_)));rw [if_neg (by simp)];refine wpAny_bind (wpAny_pure (wpAny_bind (wpAny_dictEpoch ho hdat ?_)));rw [if_neg (by simp)];apply wpAny_pure;have neg:¬ ((i:Int)<0):=by omega
   simp only [neg,if_false,aHx,hx];refine wpAny_bind (wpAny_bind (wpAny_typeNameOfWhole_keyiter ty (wpAny_pure (wpAny_bind (wpAny_isOneOf_keyiter ty ?_)))));show wpAny _ _ (setField (.ref it) 1 (rawInt ((i:Int)+1)) >>= fun _=>_) _ _ s;refine wpAny_bind (wpAny_setField hoi hdi (by simp) ?_);have nx:(s.heap.update it (Obj.mapFields (·.setIfInBounds 1 (rawInt ((i:Int)+1))))).IsKeyIter it d (i+1) es.size ep :=
    ⟨_,aGB _ hoi (Obj.isFreed_of_fields (Obj.data_mapFields hdi _)),(Obj.cls_mapFields ..).trans hci,by rw [Obj.data_mapFields hdi]; simp [rawInt]⟩
   refine wpAny_bind (wpAny_holding (wpAny_bind (wpAny_isOneOf_keyiter (s:={ s with heap:=s.heap.update it (Obj.mapFields (·.setIfInBounds 1 (rawInt ((i:Int)+1)))) }) nx.typeIs ?_)));show wpAny _ _ (pure e.key) _ _ _;exact wpAny_pure (wpAny_pure ⟨_,rfl,wpAny_pure (hQ _ nx (aGi.update ..))⟩)
theorem yJ {Q:Option Value->Shared->Prop}(hh:A.handled=none)(hit:s.heap.IsKeyIter it d i es.size ep)(ho:s.heap.get? d=some od)(hdat:od.data=.dict es ep)(hx:es.size<=i)
  (hQ:∀ h',Heap.ExtBut it s.heap h'->Q none { s with heap:=h' }):wpAny (model prog w) A (pyNext (.ref it)) Q E s:=by
 obtain ⟨oi,hoi,hci,hdi⟩:=id hit;have ty:=hit.typeIs;have own:Builtin.Dict_items.ownsTuple "dict_keyiterator" = false:=by decide
 unfold pyNext;apply wpAny_bind;apply wpAny_attempt;refine wpAny_callSpecial?_slot (name:=Str.ofString "__next__") ty F.slot_dict_keyiterator_next ?call
 case call =>
  refine wpAny_call_entry F.slot_dict_keyiterator_next ty F.entry_dict_keyiterator_next ?body (F.args_dict_keyiterator_next_1 _)
  case body =>
   refine wpAny_bind (wpAny_pure (wpAny_bind (wpAny_bind ?_)));refine wpAny_bind (wpAny_typeNameOfWhole_keyiter ty (wpAny_pure (wpAny_bind (wpAny_fieldsOf hoi hdi ?_))));simp only [own,aGr,if_false];show wpAny _ _ (if (Value.ref d==Value.none)=true then _ else _) _ _ s;rw [if_neg (fun z:(Value.ref d==Value.none)=true=>aF2 z)];refine wpAny_bind (wpAny_pure (wpAny_bind (wpAny_dictEntries ho hdat ?_)));rw [if_neg (by simp)];refine wpAny_bind (wpAny_pure (wpAny_bind (wpAny_dictEpoch ho hdat ?_)));rw [if_neg (by simp)];apply wpAny_pure;have neg:¬ ((i:Int)<0):=by omega
   simp only [neg,if_false,aHx,aHf hx];refine wpAny_bind (wpAny_bind (wpAny_typeNameOfWhole_keyiter ty (wpAny_pure ?_)));show wpAny _ _ (setField (.ref it) 0 .none >>= fun _=>_) _ _ s;refine wpAny_bind (wpAny_setField hoi hdi (by simp) ?_);show wpAny _ _ (newExc (.type "StopIteration") [] >>= fun _=>_) _ _ _;apply wpAny_bind;simp only [newExc,newTuple];refine wpAny_bind (wpAny_newObj_type (wpAny_bind (m:=firstArgMember _ _) (wpAny_of_eq (a:=Value.none) (by first | rfl | (simp only [firstArgMember]; rfl)) (wpAny_newObj_type ?_ (by size_fits)))) (by size_fits));simp only [raiseNew];refine wpAny_bind (wpAny_handled ?_);rw [show A.in1.handled=aIm from hh];refine wpAny_bind (wpAny_pure (wpAny_throw ?thr));apply wpAny_bind;refine wpAny_isInstance (T:="StopIteration") (b:=true) ⟨_,aFV _ rfl,rfl⟩ isSubtype_stop ?ends;exact wpAny_pure (hQ _ (((aGi.update ..).extBut.push _).push _))
end
def Ox (a:Addr)(o:Obj)(kvs:List (List Key×V)):It :=
 ⟨fun i H=>H a=some (.frz o (.dT kvs))/\i<kvs.length,fun i H x H'=>H'=H/\∃ k v q,kvs[i]? = some (k,v)/\x=.ref q/\H q=some (.tup (k.map kV)),fun i H=>H a=some (.frz o (.dT kvs))/\kvs.length<=i⟩
theorem By {P:Program}{w:World}{H:Hp}{h:Heap}{a:Addr}{o:Obj}{kvs:List (List Key×V)}(ok:mC P w H h)(e:H a=some (.frz o (.dT kvs))) :
  h.get? a=some o/\o.ExactDict/\∃ es ep,o.data=.dict es ep/\es.size=kvs.length/\∀ (i:Nat) k v,kvs[i]? = some (k,v)->∃ q ent,es[i]? = some ent/\ent.key=.ref q/\H q=some (.tup (k.map kV)):=by
 obtain ⟨e1,z,y,xs,r,ob,es,ep,e2,ex,hd,he,nd⟩:=ok a _ e;rw [e1] at e2;cases e2;have hl:kvs.length=xs.length:=Paired.length r;refine ⟨e1,ex,es,ep,hd,?_,fun i k v hk=>?_⟩
 ·rw [<- aGk,he,aFF,hl]
 ·have get:∀ {l1:List (List Key×V)}{l2:List (List Key×Addr×Value)}{i:Nat}{k:List Key}{v:V},Paired (fun (p:List Key×V) (q:List Key×Addr×Value)=>p.1=q.1/\H q.2.1=some (.tup (p.1.map kV))/\RelV p.2 q.2.2) l1 l2->l1[i]? = some (k,v) ->
    ∃ q:List Key×Addr×Value,l2[i]? = some q/\H q.2.1=some (.tup (k.map kV)):=by
   intro l1 l2 i k v r
   induction r generalizing i with
   | nil=>intro z; simp at z
   | cons h t ih =>
    intro z;cases i with
    | zero=>simp at z; subst z; exact ⟨_,rfl,h.2.1⟩
    | succ j=>exact ih (by simpa using z)
  obtain ⟨q,hq,ht⟩:=get r hk;refine ⟨q.2.1,entryOfKey (tupleKind (c7 P w)) q,?_,rfl,ht⟩;rw [<- aGL,he,aFY,hq]
  rfl
theorem GF {P:Program}{w:World}{K:PySem.W.Frag}{tg:Expr}(a it:Addr)(o:Obj)(kvs:List (List Key×V))(es:Array DictEntry)(ep:Nat)(hd:o.data=.dict es ep) :
  Turn P w K tg (Ox a o kvs) [it] it (fun i h=>h.IsKeyIter it a i es.size ep) where
 mem:=by simp
 obj:=fun i h st b hb=>by
  have e:b=it:=by simpa using hb
  subst e;obtain ⟨o,e,c,d⟩:=st;exact ⟨o,e,fun v z=>by rw [d] at z; cases z⟩
 keep:=fun i h h' st k=>st.at fun o e=>k it (by simp) o e
 item:=by
  intro X hP hw hK hc i pins s σ H E I hf st hg;subst hP hw hK;obtain ⟨hH,hi⟩:=hg;obtain ⟨e1,ex,es',ep',hd',hsz,get⟩:=By I.hok hH;rw [hd] at hd';cases hd';obtain ⟨q,ent,hent,hkey,ht⟩:=get i _ _ (aFK hi);obtain ⟨f0,f1,f2,f3,f4,f5⟩:=hf it (by simp);refine wM st e1 hd hent fun h' st' sb=>?_;have I1:aW X pins σ H { s with heap:=h' }:=I.turned (t':=s.toks) (fun b o hb e=>(sb.2 b hb).trans e) f0 f1 f3 f4 f5;obtain ⟨oo,e,c,d⟩:=id st';exact ⟨_,rfl,zF (s:={ s with heap:=h' }) e c d (by decide) ⟨.ref q,H,I1,hkey,⟨rfl,_,_,q,aFK hi,rfl,ht⟩,st',fun b hb=>(hf b hb).1⟩⟩
 done:=by
  intro X hP hw hK hc i pins s σ H E I hf st hg;subst hP hw hK;obtain ⟨hH,hi⟩:=hg;obtain ⟨e1,ex,es',ep',hd',hsz,get⟩:=By I.hok hH;rw [hd] at hd';cases hd';obtain ⟨f0,f1,f2,f3,f4,f5⟩:=hf it (by simp);exact yJ (I.ok.hd hc) st e1 hd (by omega) fun h' eb=>⟨rfl,I.turned (t':=s.toks) (fun b o hb e=>eb b o hb e) f0 f1 f3 f4 f5⟩
 self:=fun _ _ _ _ _ st h=>wpAny_pyIter_keyiter st h
theorem aW.freeze {pins:List (Addr×Obj)}{σ:St}{H:Hp}{s:Shared}{a:Addr}{kvs:List (List Key×V)}(I:aW X pins σ H s)(e:H a=some (.dT kvs)):∃ o,s.heap.get? a=some o/\aW X pins σ (bG H a (.frz o (.dT kvs))) s:=by
 have ok:=I.hok a _ e;obtain ⟨z,y,xs,r,ob,es,ep,e2,c⟩:=id ok;refine ⟨ob,e2,?_⟩;refine I.write (x:=a) (e:=a) (h':=s.heap) (t':=s.toks) (by rw [e]; exact trivial) (.inl rfl) (fun _ _ _ q=>q) ⟨_,e2⟩ ⟨e2,?_⟩;refine ok.stay (fun _ _ _ q=>q) (fun b q=>?_) fun b ys q=>?_
 ·rw [aK (fun w=>by rw [w,e] at q; cases q)]; exact q
 ·rw [aK (fun w=>by rw [w,e] at q; cases q)]; exact q
def Pn (tl:TE):TI:=fun σ H R=>tl σ H fun x H1=>∃ a kvs,x=.ref a/\((H1 a=some (.dT kvs)/\∀ o,R (Ox a o kvs) (bG H1 a (.frz o (.dT kvs))))∨∃ o,H1 a=some (.frz o (.dT kvs))/\R (Ox a o kvs) H1)
theorem Ed {pins:List (Addr×Obj)}{σ:St}{H:Hp}{s:Shared}{tg:Expr}{a:Addr}{o:Obj}{kvs:List (List Key×V)}{R:It->Hp->Prop}(I:aW X pins σ H s)(e:H a=some (.frz o (.dT kvs)))(q:R (Ox a o kvs) H) :
  wpAny (model X.prog X.w) X.A (pyIter (.ref a)) (XM X pins σ tg R) X.xe s:=by
 obtain ⟨e1,ex,es,ep,hd,hsz,get⟩:=By I.hok e;obtain ⟨_,_,y,_⟩:=I.hok a _ e;refine wL y e1 ex hd ?_;refine ⟨s.heap.objs.size,[s.heap.objs.size],_,_,H,rfl,I.kept (t':=s.toks) fun b o e=>aFH _ e,GF a _ o kvs es ep hd,⟨_,aFV _ rfl,rfl,rfl⟩,fun b hb=>?_,q⟩;have e:b=s.heap.objs.size:=by simpa using hb
 subst e;exact I.fpOk (aFM _) (I.hok.fresh (aFM _))
theorem Ka {tg l:Expr}{tl:TE}(hl:PE X l tl):PI X tg l (Pn tl):=by
 intro pins s σ H R I h;refine dD (hl pins s σ H _ I h) fun v s1 ⟨x,H1,I1,r1,q1⟩=>?_;obtain ⟨a,kvs,rfl,q1⟩:=q1;cases (show v=Value.ref a from r1);rcases q1 with ⟨e,q⟩ | ⟨o,e,q⟩
 ·obtain ⟨o,_,I2⟩:=I1.freeze e;exact Ed I2 aB (q o)
 ·exact Ed I1 e q
def VB (K:PySem.W.Frag)(a:Addr)(xs:List V):It :=
 ⟨fun i H=>i<xs.length/\bV K H a xs,fun i H x H'=>H'=H/\xs[xs.length-1-i]? = some x,fun i H=>xs.length<=i⟩
theorem Hb {P:Program}{w:World}{K:PySem.W.Frag}{tg:Expr}(a it:Addr)(xs:List V):Turn P w K tg (VB K a xs) [it] it (fun i h=>i<=xs.length/\h.IsRevIter it a ((xs.length:Int)-1-(i:Int))) where
 mem:=by simp
 obj:=fun i h st b hb=>by
  have e:b=it:=by simpa using hb
  subst e;obtain ⟨_,o,e,c,d⟩:=st;exact ⟨o,e,fun v z=>by rw [d] at z; cases z⟩
 keep:=fun i h h' st k=>⟨st.1,st.2.at fun o e=>k it (by simp) o e⟩
 item:=by
  intro X hP hw hK hc i pins s σ H E I hf st hg;subst hP hw hK;obtain ⟨hi,hS⟩:=hg;obtain ⟨_,st⟩:=st;obtain ⟨its,rv,p,hz⟩:=I.list hS;have hix:xs.length-1-i<xs.length:=by omega
  obtain ⟨u,hu,ru⟩:=rv.get (aFK hix);have ei:(xs.length:Int)-1-(i:Int)=((xs.length-1-i:Nat):Int):=by omega
  rw [ei] at st;obtain ⟨f0,f1,f2,f3,f4,f5⟩:=hf it (by simp);refine wpAny_pyNext_rev_item st p.isList (x:=u) (by simpa using hu) fun h' st' sb=>?_;have I1:aW X pins σ H { s with heap:=h' }:=I.turned (t':=s.toks) (fun b o hb e=>(sb.2 b hb).trans e) f0 f1 f3 f4 f5;obtain ⟨o,e,c,d⟩:=id st';refine ⟨u,rfl,zF (s:={ s with heap:=h' }) e c d (by decide) ⟨_,H,I1,ru,⟨rfl,aFK hix⟩,⟨hi,?_⟩,fun b hb=>(hf b hb).1⟩⟩;have ej:(xs.length:Int)-1-((i+1:Nat):Int)=((xs.length-1-i:Nat):Int)-1:=by omega
  rw [ej];exact st'
 done:=by
  intro X hP hw hK hc i pins s σ H E I hf st hg;subst hP hw hK;obtain ⟨hi,st⟩:=st;have hg:xs.length<=i:=hg;have ei:(xs.length:Int)-1-(i:Int) = -1:=by omega
  rw [ei] at st;obtain ⟨f0,f1,f2,f3,f4,f5⟩:=hf it (by simp);exact wpAny_pyNext_rev_end (I.ok.hd hc) st fun h' eb=>⟨rfl,I.turned (t':=s.toks) (fun b o hb e=>eb b o hb e) f0 f1 f3 f4 f5⟩
 self:=fun _ _ _ _ _ st h=>wpAny_pyIter_revIter st.2 h
def Zj (K:PySem.W.Frag)(ta:TA):TI:=fun σ H R=>ta σ H fun vs H1=>∃ a xs,vs=[.ref a]/\bV K H1 a xs/\R (VB K a xs) H1
theorem qF:bootBuiltins "reversed" = some (.type "reversed"):=by decide +kernel
theorem O4 {tg a:Expr}{ta:TA}{p pos:Pos}(hg:Gl X "reversed")(hm:X.mg "reversed" = none)(ha:PA X [a] ta)(hs:starEach [a] X.env=[(false,eval a X.env)]:=by rfl):PI X tg (.Call (.Name "reversed" p) [a] [] pos) (Zj X.K ta):=by
 intro pins s σ H R I h;refine Call_ (lQ I hg hm qF (PyProof.Rows.callWith_type1 (dD (ha pos pins s σ H _ I h) fun us s1 ⟨vs,H1,I1,r1,q1⟩=>?_) hs rfl));obtain ⟨b,xs,e,hS,q⟩:=q1;subst e;obtain ⟨u,rfl,ru⟩:=vals1 r1;cases (show u=Value.ref b from ru);obtain ⟨its,rv,pl,hz⟩:=I1.list hS;refine call_reversed_list pl.isList ?_;have hsz:its.toArray.size=xs.length:=by rw [aFW]; exact rv.length.symm
 rw [hsz];have st:Heap.IsRevIter (s1.heap.push (revObj b ((xs.length:Int)-1))) s1.heap.objs.size b ((xs.length:Int)-1-((0:Nat):Int)):=by
  rw [show (xs.length:Int)-1-((0:Nat):Int)=(xs.length:Int)-1 by omega];exact ⟨_,aFV _ rfl,rfl,rfl⟩
 have I2:aW X pins σ H1 { s1 with heap:=s1.heap.push (revObj b ((xs.length:Int)-1)) }:=I1.kept (t':=s1.toks) fun b o e=>aFH _ e;refine wpAny_pyIter_revIter (s:={ s1 with heap:=s1.heap.push (revObj b ((xs.length:Int)-1)) }) st ?_;refine ⟨s1.heap.objs.size,[s1.heap.objs.size],_,_,H1,rfl,I2,Hb b _ xs,⟨aGa _,st⟩,fun c hc=>?_,q⟩;have e:c=s1.heap.objs.size:=by simpa using hc
 subst e;exact I1.fpOk (aFM _) (I1.hok.fresh (aFM _))
end
theorem rG {X:Cx}{K:PySem.W.Frag}(h:X.K=K):PQ X (Qm K):=by subst h; exact bF
theorem J0 {X:Cx}{K:PySem.W.Frag}(h:X.K=K):PQ X (Qa K):=by subst h; exact iY
theorem fM {X:Cx}{K:PySem.W.Frag}(hK:X.K=K){pos:Pos}{es:List Expr}{k:Nat}{t:Ln}{n:Nat}(hc:X.calm=true)(h:R4 X es t)
  (hn:(assignEach es X.env).length=n:=by rfl) (hst:(assignEach es X.env).findIdx? (·.1)=none:=by rfl):PG X (.Tuple es k pos) (Uv K n t):=by
 subst hK;exact uF hc h hn hst
theorem Hd {a:Addr}{o:Obj}{kvs:List (List Key×V)}{g:TG}{tb:TS}{D:Ends}{σ:St}{H:Hp}(Pv:Nat->St->Hp->Prop)(h0:Pv 0 σ H)(hl:∀ i σ H,i<=kvs.length->Pv i σ H->H a=some (.frz o (.dT kvs)))
  (hs:∀ i k v q σ H,kvs[i]? = some (k,v)->H q=some (.tup (k.map kV))->Pv i σ H->g (.ref q) σ H fun σ2 H2=>tb { D with nx:=Pv (i+1),ct:=Pv (i+1),bk:=D.nx } σ2 H2) (hd:∀ σ H,Pv kvs.length σ H->D.nx σ H) :
  ∃ W:Nat->Nat->St->Hp->Prop,(∃ m,W 0 m σ H)/\∀ i m σ H,W i m σ H ->
   ((Ox a o kvs).stop i H/\D.nx σ H)∨((Ox a o kvs).go i H/\∃ N:St->Hp->Prop,(∀ σ' H',N σ' H'->∃ m',m'<m/\W (i+1) m' σ' H')/\∀ x H',(Ox a o kvs).yld i H x H'->g x σ H' fun σ2 H2=>tb { D with nx:=N,ct:=N,bk:=D.nx } σ2 H2):=by
 refine ⟨fun i m σ H=>m=kvs.length-i/\i<=kvs.length/\Pv i σ H,⟨kvs.length,by simp,aGa _,h0⟩,?_⟩;rintro i m σ H ⟨rfl,hi,p⟩;have q:=hl i σ H hi p
 by_cases hlt:i<kvs.length
 ·refine .inr ⟨⟨q,hlt⟩,Pv (i+1),fun σ' H' p'=>⟨kvs.length-(i+1),by omega,rfl,hlt,p'⟩,fun x H' y=>?_⟩;obtain ⟨e,k,v,z,hk,ex,ht⟩:=y;subst e ex;exact hs i k v z σ _ hk ht p
 ·have e:i=kvs.length:=by omega
  subst e;exact .inl ⟨⟨q,aFM _⟩,hd σ H p⟩
theorem GD {Pg:Program}{w:World}{K:PySem.W.Frag}{mg mb:Str->Option Value}{CX:yG}{k:Nat}{fa a P c:Addr}{fd:FuncData}{x:Str}{sp:Sp}{s₁:Shared}{vs:List Value}{ns:List Int}
  (KX:K.In s₁.heap) (hns:s₁.heap.Ns mainGlobals mg) (hb:s₁.heap.Ns builtinsNs mb) (hbb:∀ x:Str,x≠"__name__" -> mb x=bootBuiltins x) (hlim:s₁.heap.NoLimit) (hg:s₁.gens = #[])
  (ha:s₁.heap.get? a=some { cls:=.type "list",data:=.seq vs.toArray }) (hi:IntsAre vs ns) (hl:ns.length<=sizeLine) (hr:fD k callerA)
  (hP:s₁.heap.get? P=some (PySem.W.tabObj #[])) (hC:PySem.W.CodeHd s₁.heap c P) (hB:∃ bm ob,mg "__builtins__" = some (.ref bm)/\bm≠builtinsNs/\s₁.heap.get? bm=some ob/\ob.cls=.type "module"/\ob.dict=some builtinsNs/\ob.data=.plain)
  (hKP:K.lookup P=none) (hCK:∀ h,K.In h->PySem.W.CodeHd h c P)
  (F:∀ base:Heap,K.In base->base.Ns mainGlobals mg->PySem.W.CodeHd base c P->base.BuiltinsAt mg P->aX Pg w K mg base CX k fa fd [x] sp) (hbind:∀ (s:Shared) (u:Value),BindsTo s fd ⟨[u],[]⟩ [(x,u)])
  (hsp:∀ H:Hp,H P=some (.tbl #[])->bV K H a (ns.map V.int)->sp [.ref a] H (fun v _=>v=.bl true) fun _ _ _=>False)
  (hCX:∀ H e s',CX [] H s₁ (fun _ _ _=>False) e s'->False) :
  codeAny (model Pg w) callerA (.call (.ref fa) ⟨[.ref a],[]⟩) (fun r s'=>r=.ok (.ret (.bool true))/\OldK s₁.heap s'.heap/\s'.os=s₁.os/\AllBare s'.gens) s₁:=by
 have rv:=pB hi;have lenV:=hi.length;have haP:a≠P:=fun z=>by rw [z,hP] at ha; cases ha
 have core:∀ H:Hp,H P=some (.tbl #[])->(∀ b,b≠P->H b=none∨∃ xs,b=a/\H b=some (.frz { cls:=.type "list",data:=.seq vs.toArray } (.lst xs)))->bV K H a (ns.map V.int)->mC Pg w H s₁.heap->(H a≠none->K.lookup a=none) ->
   codeAny (model Pg w) callerA (.call (.ref fa) ⟨[.ref a],[]⟩) (fun r s'=>r=.ok (.ret (.bool true))/\OldK s₁.heap s'.heap/\s'.os=s₁.os/\AllBare s'.gens) s₁:=by
  intro H hHP hO hS hok hK;have base_of:∀ {b:Addr}{o:Obj},s₁.heap.get? b=some o->H b=none->(uX s₁.heap H).get? b=some o:=fun e n=>JW e n;have free:∀ {b:Addr}{o:Obj},s₁.heap.get? b=some o->(∀ xs n,o.data≠.seq xs n)->b≠P->H b=none:=fun {b o} e d nP=>by
   rcases hO b nP with z | ⟨xs,z,_⟩
   ·exact z
   ·rw [z,ha] at e;cases e;exact absurd rfl (d _ _)
  have ndP:∀ {b:Addr}{o:Obj}{es:Array DictEntry}{ep:Nat},s₁.heap.get? b=some o->o.data=.dict es ep->b≠P:=fun {b o es ep} e d z=>by
   rw [z,hP] at e;cases e;have d':Data.fields #[]=Data.dict es ep:=d;cases d'
  have nsK:∀ {b:Addr}{m:Str->Option Value},s₁.heap.Ns b m->(uX s₁.heap H).Ns b m:=fun {b m} ⟨o,es,ep,e,d,r⟩=>⟨o,es,ep,base_of e (free e (fun xs n z=>by rw [d] at z; cases z) (ndP e d)),d,r⟩
  have hKb:K.In (uX s₁.heap H):=fun b o e=>base_of (KX b o e) (by
   by_cases z:b=P
   ·rw [z,hKP] at e; cases e
   ·rcases hO b z with q | ⟨xs,q,r⟩
    ·exact q
    ·subst q;rw [hK (by rw [r]; simp)] at e; cases e)
  have hM:Mod K mg (uX s₁.heap H):=⟨hKb,nsK hns,⟨mb,nsK hb,hbb⟩,let ⟨mc,h1,h2⟩:=hlim; ⟨mc,nsK h1,h2⟩⟩
  have e0:Bs Pg w K mg (uX s₁.heap H) callerA [] s₁ H:=⟨rfl,hM,fun b o e=>KJ e,aHF (Fy _ _),trivial,fun b hb=>absurd (show b∈([]:List Addr) from hb) (by simp),hok,.of_eq hg⟩
  have hBA:(uX s₁.heap H).BuiltinsAt mg P:=by
   obtain ⟨bm,ob,b1,b2,b3,b4,b5,b6⟩:=hB;have nP:bm≠P:=fun z=>by rw [z,hP] at b3; cases b3; cases b4
   have nG:bm≠mainGlobals:=fun z=>by
    obtain ⟨o,es,ep,e,d,_⟩:=hns;rw [z,e] at b3;cases b3;rw [d] at b6;cases b6
   exact ⟨bm,ob,b1,b2,nG,nP,base_of b3 (free b3 (fun xs n z=>by rw [b6] at z; cases z) nP),b4,b5,b6⟩
  refine codeAny_mono ((F _ hKb (nsK hns) (hCK _ hKb) hBA).run callerA [] s₁ H ⟨[.ref a],[]⟩ [.ref a] [.ref a] _ _ hr e0 (hbind s₁ (.ref a)) (.cons rfl .nil) (hsp H hHP hS)) fun r s' h=>?_;cases r with
  | error e=>exact (hCX H e s' h).elim
  | ok fl =>
   cases fl with
   | next=>exact False.elim h
   | brk=>exact False.elim h
   | cont=>exact False.elim h
   | ret u =>
    obtain ⟨v,H',os,bare,un,hok',r',q⟩:=h;have q':v=.bl true:=q;subst q';obtain rfl:u=Value.bool true:=r';have keep:∀ b o,b≠P->s₁.heap.get? b=some o->s'.heap.get? b=some o:=fun b o nP e=>by
     rcases hO b nP with z | ⟨xs,z1,z⟩
     ·exact un.keep b o e z (by intro z; exact absurd (show b∈([]:List Addr) from z) (by simp)) (by simp)
     ·obtain ⟨e1,_⟩:=hok b _ z;obtain ⟨e2,_⟩:=hok' b _ (un.frzs b _ _ z);rw [e] at e1; cases e1;exact e2
    obtain ⟨more,hm⟩:=un.tbls P #[] hHP;have hP':s'.heap.get? P=some { cls:=.none,data:=.fields (#[]++more) }:=hok' P _ hm;refine ⟨rfl,⟨fun b o e=>?_,fun b o e=>?_⟩,os,bare⟩
    ·by_cases z:b=P
     ·subst z;rw [hP] at e;cases e;exact .inr (.inl ⟨(hC.tab hP).isCodeTable,rfl,#[],more,rfl,hP'⟩)
     ·exact .inl (keep b o z e)
    ·by_cases z:b=P
     ·subst z; exact ⟨_,hP'⟩
     ·exact ⟨o,keep b o z e⟩
 cases hk:K.lookup a with
 | some o =>
  have e:=KX a o hk;rw [ha] at e;cases e;refine core (fun b=>if b=P then some (.tbl #[]) else none) (if_pos rfl) (fun b z=>.inl (if_neg z)) (.inr ⟨_,vs.toArray,_,hk,rfl,rfl,rfl,by rw [aFW,lenV]; exact hl,by simpa using rv⟩) (fun b u z=>?_) fun z=>absurd (if_neg haP) z
  by_cases hb:b=P
  ·have z':=(if_pos hb).symm.trans z;cases z';subst hb;exact hP
  ·have z':=(if_neg hb).symm.trans z;cases z'
 | none =>
  refine core (fun b=>if b=P then some (.tbl #[]) else if b=a then some (.frz { cls:=.type "list",data:=.seq vs.toArray } (.lst (ns.map V.int))) else none) (if_pos rfl) (fun b z=>?_) (.inl (.inr ⟨{ cls:=.type "list",data:=.seq vs.toArray },(if_neg haP).trans (if_pos rfl)⟩)) (fun b u z=>?_) fun _=>hk
  ·by_cases hb:b=a
   ·exact .inr ⟨_,hb,(if_neg z).trans (if_pos hb)⟩
   ·exact .inl ((if_neg z).trans (if_neg hb))
  ·by_cases hb:b=P
   ·have z':=(if_pos hb).symm.trans z;cases z';subst hb;exact hP
   ·have z1:=(if_neg hb).symm.trans z
    by_cases hb2:b=a
    ·have z':=(if_pos hb2).symm.trans z1;cases z';subst hb2;exact ⟨ha,by rw [aFF]; exact hl,vs,_,rv,ha⟩
    ·have z':=(if_neg hb2).symm.trans z1;cases z'
theorem Ie {l:PySem.W.OpenLaw}{n k:Nat}{q:Program}{loose:List Str}{XP:(Str->Option Value)->Heap->Prop}{YP:World->Heap->Prop}{d d0:DefRec}{K:Params->PySem.W.Frag}{CX:World->yG}{sp:World->Addr->Sp}{x x0:Str}
  (hn:l.most=some n) (hn2:n<=sizeLine) (hdf:d.params.defaults=[]) (hr:fD k callerA)
  (h0:(recsOf q).find? (fun e=>e.name==x0)=some d0)
  (hY:∀ (w:World) (h:Heap),YP w h->(K w.params).In h)
  (F:∀ (w:World) (mg:Str->Option Value) (fa:Addr) (h:Heap),(K w.params).In h->h.Ns mainGlobals mg->mg d.name=some (.ref fa) ->
   ∃ (fd:FuncData) (c P:Addr),(∀ (s:Shared) (u:Value),BindsTo s fd ⟨[u],[]⟩ [(x,u)])/\PySem.W.tabIn (K w.params) x0=some (c,P)/\PySem.W.codeHdIn (K w.params) c P=true/\(K w.params).lookup P=none ∧
    ∀ base:Heap,(K w.params).In base->base.Ns mainGlobals mg->PySem.W.CodeHd base c P->base.BuiltinsAt mg P->aX l.prog w (K w.params) mg base (CX w) k fa fd [x] (sp w P))
  (hsp:∀ (w:World) (H:Hp) (a P:Addr) (ns:List Int),ns.length<=n->H P=some (.tbl #[])->bV (K w.params) H a (ns.map V.int)->sp w P [.ref a] H (fun v _=>v=.bl true) fun _ _ _=>False)
  (hCX:∀ (w:World) (H:Hp) (s:Shared) (e:Value) (s':Shared),CX w [] H s (fun _ _ _=>False) e s'->False) :
  PySem.W.WalkO q loose XP YP l.row.toRowW d [] (fun f vs=>PySem.call f vs):=by
 refine Att.yO hn hdf fun w s₀ s₁ mg mb fa o pm cd doc a vs ns G Y ho hd hcd hmg hobj hints hlen hg=>?_;have KX:=hY w _ Y;obtain ⟨fd,c,P,hb,ht,hcd,hkp,hF⟩:=F w mg fa _ KX G.T.g hmg;obtain ⟨hC,hP⟩:=PySem.W.tab_of G.T KX h0 ht;exact GD KX G.T.g G.T.b G.T.builtins G.T.nolimit hg hobj hints (aFJ hlen hn2) hr hP hC G.T.bmain hkp (fun h X=>PySem.W.codeHd_of_K X hcd) hF hb (fun H hO hS=>hsp w H a P ns hlen hO hS) fun H e s'=>hCX w H s₁ e s'
theorem vN {X:Cx}(hc:X.calm=true):d8 X (.builtin "max") (fun xs H Q=>∃ (a:Addr) (ns:List Int),xs=[.ref a]/\bV X.K H a (ns.map V.int)/\ns≠[]/\∀ M,M∈ns->(∀ n∈ns,n<=M)->Q (.int M) H):=by
 intro pins s σ H xs us Q I r h;obtain ⟨a,ns,rfl,hS,hne,q⟩:=h;obtain ⟨u,rfl,ru⟩:=vals1 r;cases (show u=Value.ref a from ru);obtain ⟨its,rv,p,hz⟩:=I.list hS;have hi:=intsAre_of rv;obtain ⟨zs,e⟩:=(IntsAre.allInts hi).items;have hl:=p.isList;rw [e] at hl;have hns:ns=zs.toList.map (·.1):=by
  have n1:=nums_intItems (xs:=zs);rw [<- e,show its.toArray.toList=its from rfl,IntsAre.numsOf hi] at n1;exact n1
 have hsz:0<zs.size:=by
  rcases aHs zs.size with z | z
  ·exfalso;apply hne;rw [hns];have:zs = #[]:=Array.eq_empty_of_size_eq_zero z;rw [this]
   rfl
  ·exact z
 refine max_intList (I.ok.hd hc) hl hsz fun v h' tk hv hk=>?_;obtain ⟨t,rfl⟩:=intItems_at hv;obtain ⟨h1,h2⟩:=argBest_gt (numAt zs) (zs.size-1);refine ⟨.int _,H,I.kept hk,⟨t,rfl⟩,q _ ?_ fun n hn=>?_⟩
 ·rw [hns,numAt_eq]; exact getD_mem (by rw [aFF,aGk]; omega)
 ·rw [hns] at hn;obtain ⟨j,hj,rfl⟩:=mem_getD hn;rw [aFF,aGk] at hj;rw [<- numAt_eq]; exact h2 j (by omega)
theorem Mp {P:Program}{w:World}{H:Hp}{h:Heap}{a:Addr}{kvs:List (List Key×V)}(ok:b7 P w H h a (.dT kvs)) :
  (a==sysModules)=false/\∃ o,h.get? a=some o/\o.ExactDict/\∃ es ep,o.data=.dict es ep/\es.size=kvs.length/\∀ (i:Nat) k v,kvs[i]? = some (k,v)->∃ q ent,es[i]? = some ent/\ent.key=.ref q/\H q=some (.tup (k.map kV)):=by
 obtain ⟨z,y,xs,r,ob,es,ep,e2,ex,hd,he,nd⟩:=ok;have hl:kvs.length=xs.length:=Paired.length r;refine ⟨y,ob,e2,ex,es,ep,hd,?_,fun i k v hk=>?_⟩
 ·rw [<- aGk,he,aFF,hl]
 ·have get:∀ {l1:List (List Key×V)}{l2:List (List Key×Addr×Value)}{i:Nat}{k:List Key}{v:V},Paired (fun (p:List Key×V) (q:List Key×Addr×Value)=>p.1=q.1/\H q.2.1=some (.tup (p.1.map kV))/\RelV p.2 q.2.2) l1 l2->l1[i]? = some (k,v) ->
    ∃ q:List Key×Addr×Value,l2[i]? = some q/\H q.2.1=some (.tup (k.map kV)):=by
   intro l1 l2 i k v r
   induction r generalizing i with
   | nil=>intro z; simp at z
   | cons h t ih =>
    intro z;cases i with
    | zero=>simp at z; subst z; exact ⟨_,rfl,h.2.1⟩
    | succ j=>exact ih (by simpa using z)
  obtain ⟨q,hq,ht⟩:=get r hk;refine ⟨q.2.1,entryOfKey (tupleKind (c7 P w)) q,?_,rfl,ht⟩;rw [<- aGL,he,aFY,hq]
  rfl
theorem Fl {P:Program}{w:World}{A:Around}(hh:A.handled=none)(it d:Addr)(hne:it≠d)(o:Obj)(es:Array DictEntry)(ep:Nat)(hd:o.data=.dict es ep) :
  Walks P w A it [it,d] [it] es.size (fun i v=>∃ ent,es[i]? = some ent/\ent.key=v) (fun i h=>h.IsKeyIter it d i es.size ep/\h.get? d=some o) where
 sub:=fun b hb=>by rw [aFR.mp hb]; exact .head _
 frame:=fun i h h' st k=>⟨st.1.at fun o e=>k it (.head _) o e,k d (.tail _ (.head _)) _ st.2⟩
 item:=fun i s Q E hi st hQ=>by
  refine wM st.1 st.2 hd (aGl hi) fun h' st' sb=>?_;exact hQ _ h' s.toks ⟨_,aGl hi,rfl⟩ ⟨st',(sb.2 d (Ne.symm hne)).trans st.2⟩ fun b o hb e=>(sb.2 b (fun z=>hb (by rw [z]; exact .head _))).trans e
 done:=fun s Q E st hQ=>by
  refine yJ hh st.1 st.2 hd (aFM _) fun h' eb=>?_;exact hQ h' s.toks fun b o hb e=>eb b o (fun z=>hb (by rw [z]; exact .head _)) e
 self:=fun i s Q E st hQ=>wpAny_pyIter_keyiter st.1 hQ
theorem JG {P:Program}{w:World}(d:Addr)(lo:(d==sysModules)=false)(o:Obj)(ex:o.ExactDict)(es:Array DictEntry)(ep:Nat)(hd:o.data=.dict es ep) :
  PySem.W.KdlSrc P w "dict" d d es.size (fun i v=>∃ ent,es[i]? = some ent/\ent.key=v) (fun h=>h.get? d=some o) where
 type:=fun s e=>⟨o,e,ex.1⟩
 there:=fun h e=>⟨aFQ e,aFQ e⟩
 keep:=fun h h' e k=>k d (.inl rfl) o e
 notList:=by decide
 notTuple:=by decide
 hint:=fun A E s Q e hq=>PySem.W.kdl_hint_dict ⟨o,e,ex.1⟩ hq
 iter:=fun A s hh e=>⟨_,_,(fun E Q hq=>wL lo e ex hd hq),Fl hh _ d (aGC (aFQ e)) o es ep hd,⟨⟨_,aFV _ rfl,rfl,rfl⟩,aFH _ e⟩⟩
theorem Bl {X:Cx}(hc:X.calm=true):d8 X (.type "list") (fun xs H Q=>∃ (d:Addr) (kvs:List (List Key×V)),xs=[.ref d]/\(H d=some (.dT kvs)∨∃ o,H d=some (.frz o (.dT kvs))) ∧
  ∀ (l:Addr) (qs:List Addr),H l=none->qs.length=kvs.length->(∀ (i:Nat) k v,kvs[i]? = some (k,v)->∃ q,qs[i]? = some q/\H q=some (.tup (k.map kV)))->Q (.ref l) (bG H l (.lst (qs.map V.ref)))):=by
 intro pins s σ H xs us Q I r h;obtain ⟨d,kvs,rfl,hD,q⟩:=h;obtain ⟨u,rfl,ru⟩:=vals1 r;cases (show u=Value.ref d from ru);have ok:b7 X.prog X.w H s.heap d (.dT kvs):=by
  rcases hD with e | ⟨o,e⟩
  ·exact I.hok d _ e
  ·exact (I.hok d _ e).2
 have hz:kvs.length<=sizeLine:=ok.1;obtain ⟨lo,o,e,ex,es,ep,hd,hsz,get⟩:=Mp ok;refine PySem.W.kdl_call (JG d lo o ex es ep hd) (I.ok.hd hc) e (by rw [hsz]; exact hz) fun h' tk acc c hk hl hacc=>?_;have key:∀ (i:Nat),i<kvs.length->∃ q,acc.toList[i]? = some (Value.ref q)/\∀ k v,kvs[i]? = some (k,v)->H q=some (.tup (k.map kV)):=fun i hi=>by
  have hia:i<acc.size:=by rw [hacc.1,hsz]; exact hi
  obtain ⟨ent,e1,e2⟩:=hacc.2 i _ (aGl hia);obtain ⟨q,ent',e3,e4,e5⟩:=get i _ _ (aFK hi);rw [e1] at e3;cases e3;refine ⟨q,?_,fun k v ek=>?_⟩
  ·rw [aGL,aGl hia,<- e2,e4]
  ·rw [aFK hi] at ek;have ek:=aGH.inj ek;have:kvs[i].1=k:=by rw [ek]
   rw [<- this];exact e5
 have hla:acc.toList.length=kvs.length:=by rw [aGk,hacc.1,hsz]
 have eacc:acc.toList=(acc.toList.map LC).map Value.ref:=by
  refine aH8 fun i=>?_;rw [aFY,aFY]
  by_cases hi:i<kvs.length
  ·obtain ⟨q,e1,_⟩:=key i hi;rw [e1]
   rfl
  ·rw [aHM (by omega)]
   rfl
 refine ⟨.ref s.heap.objs.size,_,I.laid (t':=tk) hk (aFM _) (show b7 X.prog X.w _ h' _ (.lst ((acc.toList.map LC).map V.ref)) from ⟨?_,acc.toList,c,?_,?_⟩),rfl,q _ (acc.toList.map LC) (I.hok.fresh (aFM _)) (by rw [aFF,hla]) fun i k v ek=>?_⟩
 ·rw [aFF,aFF,hla]; exact hz
 ·have z:=pY (acc.toList.map LC);rw [<- eacc] at z;exact z
 ·rw [aGX]; exact hl
 ·have hi:=(aFO.mp ek).1;obtain ⟨q2,e1,e2⟩:=key i hi;exact ⟨q2,by rw [aFY,e1]; rfl,e2 k v ek⟩
end L2
namespace Fr
theorem zQ (a b:Int):aGj b (a.fmod b)=aGj a b:=by
 rw [aH9,Int.gcd_sub_mul_left_right,Int.gcd_comm]
theorem wJ {a b:Int}(hb:b≠0):(a.fmod b).natAbs<b.natAbs:=by
 rcases aH2 hb with h | h
 ·have e:a.fmod b = -((-a).fmod (-b)):=by
   rw [aH9,aH9,Int.neg_fdiv_neg,Int.neg_mul];omega
  have h1:=aHg (-a) (show (0:Int) < -b by omega);have h2:=aH3 (-a) (show (0:Int) < -b by omega);omega
 ·have h1:=aHg a h;have h2:=aH3 a h;omega
def dv (t b:Int):Int:=if b<0 then -(aGj t b:Int) else (aGj t b:Int)
def sh (t b:Int):Int×Int:=(t.fdiv (dv t b),b.fdiv (dv t b))
structure jY (t b:Int):Prop where
 pos:0<b
 red:aGj t b=1
theorem mR (t b:Int):(dv t b).natAbs=aGj t b:=by unfold dv; split <;> omega
theorem yL {t b:Int}(hb:b≠0):dv t b≠0:=by
 have:=aGv t hb;have e:=mR t b;omega
theorem BL (t b:Int):dv t b∣t:=by
 have h:=aHC t b;unfold dv
 split
 ·exact Int.neg_dvd.mpr h
 ·exact h
theorem wW (t b:Int):dv t b∣b:=by
 have h:=aHy t b;unfold dv
 split
 ·exact Int.neg_dvd.mpr h
 ·exact h
theorem xB (t b:Int):(sh t b).1*dv t b=t:=aHY (BL t b)
theorem tG (t b:Int):(sh t b).2*dv t b=b:=aHY (wW t b)
theorem tY (t b:Int):(sh t b).1*b=t*(sh t b).2:=by
 have h1:=xB t b;have h2:=tG t b;generalize (sh t b).1=x at *;generalize (sh t b).2=y at *;generalize dv t b=d at *;rw [<- h1,<- h2];rw [Int.mul_assoc x d y,aHh d y]
theorem t8 {t b:Int}(hb:b≠0):0<(sh t b).2:=by
 have h2:=tG t b;have g:=aGv t hb;rcases aH2 hb with h | h
 ·have e:dv t b<0:=by unfold dv; rw [if_pos h]; omega
  rcases (by omega:0<(sh t b).2∨(sh t b).2<=0) with q | q
  ·exact q
  ·have:=Int.mul_nonneg_of_nonpos_of_nonpos q (aFS e);omega
 ·have e:0<dv t b:=by unfold dv; rw [if_neg (by omega)]; omega
  rcases (by omega:0<(sh t b).2∨(sh t b).2<=0) with q | q
  ·exact q
  ·have:=aG8 q (aFS e);omega
theorem Cd {t b:Int}(hb:b≠0):aGj (sh t b).1 (sh t b).2=1:=by
 have h:=Int.gcd_mul_right (sh t b).1 (dv t b) (sh t b).2;rw [xB,tG,mR] at h;have g:=aGv t hb;have:1*aGj t b=aGj (sh t b).1 (sh t b).2*aGj t b:=by omega
 exact (Nat.eq_of_mul_eq_mul_right g this).symm
theorem Ti {t b:Int}(hb:b≠0):jY (sh t b).1 (sh t b).2:=⟨t8 hb,Cd hb⟩
theorem tZ {x d z:Int}(e:x*d=z)(hd:d≠0):x.natAbs<=z.natAbs:=by
 rw [<- e,Int.natAbs_mul];have:1<=d.natAbs:=by omega
 calc x.natAbs=x.natAbs*1:=by omega
  _<=x.natAbs*d.natAbs:=aGg _ this
theorem Gv {t b:Int}(hb:b≠0):(sh t b).1.natAbs<=t.natAbs:=tZ (xB t b) (yL hb)
theorem Gm {t b:Int}(hb:b≠0):(sh t b).2.natAbs<=b.natAbs:=tZ (tG t b) (yL hb)
theorem W9 {a b d:Int}(g:aGj a b=1)(h:b∣a*d):b∣d:=by
 have h1:=aHN.mpr h;rw [Int.natAbs_mul] at h1;have h2:Nat.Coprime b.natAbs a.natAbs:=by
  show Nat.gcd b.natAbs a.natAbs=1;rw [Nat.gcd_comm];exact g
 exact aHN.mp (h2.dvd_of_dvd_mul_left h1)
theorem unique {a b c d:Int}(p:jY a b)(q:jY c d)(e:a*d=c*b):a=c/\b=d:=by
 have pp:=p.pos;have qp:=q.pos;have h1:b∣d:=by
  have:b∣a*d:=⟨c,by rw [e,aHh]⟩
  exact W9 p.red this
 have h2:d∣b:=by
  have:d∣c*b:=⟨a,by rw [<- e,aHh]⟩
  exact W9 q.red this
 have hbd:b=d:=Int.dvd_antisymm (aFS pp) (aFS qp) h1 h2;subst hbd;exact ⟨aGY (by omega) e,rfl⟩
end Fr
namespace Tb
structure Rw where
 t:Int
 b:Int
 w:Int
def T (B:Int)(r:Rw):Int:=r.t*(B/r.b)
def mx (x:Int):Int:=if 0<x then x else 0
def S (B l0 l1:Int)(rs:List Rw):Int:=(rs.map fun r=>r.w*mx (T B r*l1-l0*B)).sum
def WT (B:Int)(rs:List Rw):Int:=(rs.map fun r=>r.w*T B r).sum
def W (rs:List Rw):Int:=(rs.map (·.w)).sum
structure CM (B:Int)(rs:List Rw):Prop where
 pos:0<B
 dv:∀ r∈rs,0<r.b/\r.b∣B
theorem fV (r:Rw)(rs:List Rw):W (r::rs)=r.w+W rs:=by simp [W]
theorem rK (B:Int)(r:Rw)(rs:List Rw):WT B (r::rs)=r.w*T B r+WT B rs:=by simp [WT]
theorem rT (B l0 l1:Int)(r:Rw)(rs:List Rw):S B l0 l1 (r::rs)=r.w*mx (T B r*l1-l0*B)+S B l0 l1 rs:=by simp [S]
theorem zA (B l0 l1:Int)(xs ys:List Rw):S B l0 l1 (xs++ys)=S B l0 l1 xs+S B l0 l1 ys:=by simp [S]
theorem yW (xs ys:List Rw):W (xs++ys)=W xs+W ys:=by simp [W]
theorem cof {B b:Int}(hb:0<b)(hB:0<B)(h:b∣B):∃ c,0<c/\B=b*c/\B/b=c:=by
 obtain ⟨c,e⟩:=h;have hc:0<c:=by
  rcases (by omega:0<c∨c<=0) with z | z
  ·exact z
  ·have:=aGn (aFS hb) z;omega
 refine ⟨c,hc,e,?_⟩;rw [e,aHh,Int.mul_ediv_cancel _ (by omega)]
theorem Hf {B:Int}{r:Rw}(hb:0<r.b)(hB:0<B)(h:r.b∣B):T B r*r.b=r.t*B:=by
 obtain ⟨c,hc,e,q⟩:=cof hb hB h;unfold T;rw [q,e]
 grind
theorem zT {c x:Int}(hc:0<c):0<c*x↔0<x:=by
 constructor
 ·intro h;rcases (by omega:0<x∨x<=0) with z | z
  ·exact z
  ·have:=aGn (aFS hc) z;omega
 ·intro h;exact aGD hc h
theorem GK {B l0 l1:Int}{r:Rw}(hb:0<r.b)(hB:0<B)(h:r.b∣B):0<T B r*l1-l0*B↔l0*r.b<r.t*l1:=by
 obtain ⟨c,hc,e,q⟩:=cof hb hB h;have e2:T B r*l1-l0*B=c*(r.t*l1-l0*r.b):=by
  unfold T;rw [q,e]
  grind
 rw [e2,zT hc];omega
theorem Rx (x:Int):0<=mx x:=by unfold mx; split <;> omega
theorem Pj (x:Int):x<=mx x:=by unfold mx; split <;> omega
theorem WR {B l0 l1 ws tops:Int}(hw:0<ws)(hl:0<l1)(hc:l0*(ws*B)=tops*l1):∀ {hi:List Rw},(∀ r∈hi,tops<=T B r*ws)->ws*S B l0 l1 hi=l1*(ws*WT B hi-tops*W hi)
 | [],_=>by simp [S,WT,W]
 | r::hi,h=>by
  have ih:=WR hw hl hc (fun x hx=>h x (aFG _ hx));have hr:=h r aFI;have e:ws*(T B r*l1-l0*B)=l1*(T B r*ws-tops):=by grind
  have m:mx (T B r*l1-l0*B)=T B r*l1-l0*B:=by
   unfold mx
   split
   ·rfl
   ·rename_i n;have h1:0<=l1*(T B r*ws-tops):=aGE (aFS hl) (by omega);rw [<- e] at h1;rcases (by omega:T B r*l1-l0*B=0∨T B r*l1-l0*B<0) with z | z
    ·omega
    ·have:=Int.mul_neg_of_pos_of_neg hw z;omega
  rw [rT,rK,fV,m];have a1:ws*(r.w*(T B r*l1-l0*B)+S B l0 l1 hi)=r.w*(ws*(T B r*l1-l0*B))+ws*S B l0 l1 hi:=by grind
  rw [a1,e,ih]
  grind
theorem TJ {B l0 l1 ws tops:Int}(hw:0<ws)(hl:0<l1)(hc:l0*(ws*B)=tops*l1):∀ {lo:List Rw},(∀ r∈lo,T B r*ws<=tops)->S B l0 l1 lo=0
 | [],_=>by simp [S]
 | r::lo,h=>by
  have ih:=TJ hw hl hc (fun x hx=>h x (aFG _ hx));have hr:=h r aFI;have e:ws*(T B r*l1-l0*B)=l1*(T B r*ws-tops):=by grind
  have m:mx (T B r*l1-l0*B)=0:=by
   unfold mx
   split
   ·rename_i n;have h1:=aGD hw n;have h2:l1*(T B r*ws-tops)<=0:=aGn (aFS hl) (by omega);omega
   ·rfl
  rw [rT,m,ih];simp
theorem Ff {B l0 l1 ws tops P:Int}{lo hi:List Rw}(hw:0<ws)(hl:0<l1)(hc:l0*(ws*B)=tops*l1)(ew:ws=W hi)(et:tops=WT B hi-P)(h1:∀ r∈hi,tops<=T B r*ws)(h2:∀ r∈lo,T B r*ws<=tops) :
  S B l0 l1 (lo++hi)=P*l1:=by
 have a:=WR hw hl hc h1;have b:=TJ hw hl hc h2;rw [zA,b,Int.zero_add];have:ws*S B l0 l1 hi=ws*(P*l1):=by rw [a,<- ew]; grind
 exact Int.eq_of_mul_eq_mul_left (by omega) this
theorem Vb (B m0 m1:Int):∀ {hi:List Rw},(∀ r∈hi,0<=r.w)->m1*WT B hi-m0*B*W hi<=S B m0 m1 hi
 | [],_=>by simp [S,WT,W]
 | r::hi,h=>by
  have ih:=Vb B m0 m1 (fun x hx=>h x (aFG _ hx));have hr:=h r aFI;have g:=aFU (Pj (T B r*m1-m0*B)) hr;rw [rT,rK,fV];have e:m1*(r.w*T B r+WT B hi)-m0*B*(r.w+W hi)=r.w*(T B r*m1-m0*B)+(m1*WT B hi-m0*B*W hi):=by grind
  rw [e];omega
theorem Qw (B m0 m1:Int):∀ {lo:List Rw},(∀ r∈lo,0<=r.w)->0<=S B m0 m1 lo
 | [],_=>by simp [S]
 | r::lo,h=>by
  have ih:=Qw B m0 m1 (fun x hx=>h x (aFG _ hx));have g:=aGE (h r aFI) (Rx (T B r*m1-m0*B));rw [rT];omega
theorem Cu {B l0 l1 m0 m1 ws tops P:Int}{lo hi:List Rw}(hB:0<B)(hw:0<ws)(hl:0<l1)(hc:l0*(ws*B)=tops*l1)(ew:ws=W hi)(et:tops=WT B hi-P)
  (hp:∀ r∈lo++hi,0<=r.w) (lt:m0*l1<l0*m1):P*m1<S B m0 m1 (lo++hi):=by
 have a:=Vb B m0 m1 (hi:=hi) (fun r hr=>hp r (aFX _ hr));have b:=Qw B m0 m1 (lo:=lo) (fun r hr=>hp r (aGw _ hr));rw [zA];have q:=Int.mul_lt_mul_of_pos_left lt (aGD hw hB);have e1:ws*B*(m0*l1)=l1*(m0*B*ws):=by grind
 have e2:ws*B*(l0*m1)=l1*(m1*tops):=by grind
 rw [e1,e2] at q;have q2:m0*B*ws<m1*tops:=Int.lt_of_mul_lt_mul_left q (aFS hl);have e3:m1*WT B hi-m0*B*W hi=m1*tops+P*m1-m0*B*ws:=by rw [<- ew]; grind
 omega
def Le (x y:Rw):Prop:=x.t*y.b<=y.t*x.b
theorem M7 {B:Int}{x y:Rw}(hB:0<B)(hx:0<x.b)(hy:0<y.b)(dx:x.b∣B)(dy:y.b∣B)(h:Le x y):T B x<=T B y:=by
 have e1:=Hf hx hB dx;have e2:=Hf hy hB dy;have g:=aFU h (aFS hB);have k:(x.b*y.b)*T B x<=(x.b*y.b)*T B y:=by
  have a1:(x.b*y.b)*T B x=B*(x.t*y.b):=by grind
  have a2:(x.b*y.b)*T B y=B*(y.t*x.b):=by grind
  rw [a1,a2];exact g
 exact aHu k (aGD hx hy)
structure Lp (B P:Int)(rs:List Rw)(i:Nat)(tops ws:Int):Prop where
 le:i<=rs.length
 ew:ws=W (rs.drop (rs.length-i))
 et:tops=WT B (rs.drop (rs.length-i))-P
 hi:0<i->∀ r∈rs.drop (rs.length-i),tops<=T B r*ws
 z:P=0->i<=1
theorem Lp.start {B P:Int}{rs:List Rw}(e:0<=P):Lp B P rs 0 (-P) 0:=by
 refine ⟨aGa _,?_,?_,fun h=>absurd h (by omega),fun _=>by omega⟩
 ·simp [W]
 ·simp [WT]
structure Tab (B:Int)(rs:List Rw):Prop where
 cm:CM B rs
 w:∀ r∈rs,1<=r.w
 so:rs.Pairwise Le
theorem Hg:∀ {rs:List Rw},(∀ r∈rs,1<=r.w)->rs≠[]->0<W rs
 | [],_,h=>absurd rfl h
 | [r],h,_=>by
  have:=h r aFI;simp [W];omega
 | r::s::rs,h,_=>by
  have:=h r aFI;have q:=Hg (rs:=s::rs) (fun x hx=>h x (aFG _ hx)) (by simp);rw [fV];omega
theorem vV {rs:List Rw}{i:Nat}(h:i<rs.length):∃ r,rs[rs.length-1-i]? = some r/\rs.drop (rs.length-(i+1))=r::rs.drop (rs.length-i)/\r∈rs:=by
 have hk:rs.length-1-i<rs.length:=by omega
 refine ⟨rs[rs.length-1-i],aFK hk,?_,aGt hk⟩;have e1:rs.length-(i+1)=rs.length-1-i:=by omega
 have e2:rs.length-i=rs.length-1-i+1:=by omega
 rw [e1,e2];exact List.drop_eq_getElem_cons hk
theorem Tab.mono {B:Int}{rs:List Rw}(tb:Tab B rs){x y:Rw}(hx:x∈rs)(hy:y∈rs)(h:Le x y):T B x<=T B y :=
 M7 tb.cm.pos (tb.cm.dv x hx).1 (tb.cm.dv y hy).1 (tb.cm.dv x hx).2 (tb.cm.dv y hy).2 h
theorem Lp.ws_pos {B P tops ws:Int}{rs:List Rw}{i:Nat}(tb:Tab B rs)(l:Lp B P rs i tops ws)(h:0<i):0<ws:=by
 rw [l.ew];have:=l.le;refine Hg (fun r hr=>tb.w r (aGZ hr)) ?_;intro e;have:=congrArg aGW e;simp at this;omega
theorem Lp.next {B P tops ws:Int}{rs:List Rw}{i:Nat}{r:Rw}(tb:Tab B rs)(hP:0<=P)(l:Lp B P rs i tops ws)(hi:i<rs.length)(hr:rs[rs.length-1-i]? = some r)(go:¬ (0<ws/\T B r*ws<=tops)) :
  Lp B P rs (i+1) (tops+r.w*T B r) (ws+r.w):=by
 obtain ⟨r',e1,e2,hm⟩:=vV hi;rw [hr] at e1;cases e1;have hw:=tb.w r hm;have last:tops<=T B r*ws:=by
  by_cases h0:0<i
  ·have:=l.ws_pos tb h0;omega
  ·have z:i=0:=by omega
   subst z;have a:=l.ew;have b:=l.et;simp [W] at a;simp [WT] at b;rw [a,b];omega
 have mine:tops+r.w*T B r<=T B r*(ws+r.w):=by
  have:T B r*(ws+r.w)=T B r*ws+r.w*T B r:=by grind
  omega
 have wp:0<ws+r.w:=by
  by_cases h0:0<i
  ·have:=l.ws_pos tb h0;omega
  ·have z:i=0:=by omega
   subst z;have a:=l.ew;simp [W] at a;omega
 refine ⟨hi,?_,?_,fun _ x hx=>?_,fun p0=>?_⟩
 ·rw [e2,fV,<- l.ew]; omega
 ·rw [e2,rK,l.et]; omega
 ·rw [e2] at hx;rcases aF7.mp hx with z | z
  ·subst z; exact mine
  ·have pw:(r::rs.drop (rs.length-i)).Pairwise Le:=by
    rw [<- e2];exact tb.so.sublist (aIa _ _)
   have le:=(aGR.mp pw).1 x z;have tm:=tb.mono hm (aGZ z) le;have:=aFT tm (aFS wp);omega
 ·have k:=l.z p0;rcases (by omega:i=0∨i=1) with z | z
  ·omega
  ·exfalso;subst z;apply go;have wp1:=l.ws_pos tb (by decide);refine ⟨wp1,?_⟩;obtain ⟨r2,f1,f2,fm⟩:=vV (rs:=rs) (i:=0) (by omega);have f3:rs.drop (rs.length-1)=[r2]:=by
    have:rs.drop (rs.length-0)=[]:=by simp
    rw [f2,this]
   have a:=l.ew;have b:=l.et;rw [f3] at a b;simp [W] at a;simp [WT] at b;have pw:(r::rs.drop (rs.length-1)).Pairwise Le:=by
    rw [<- e2];exact tb.so.sublist (aIa _ _)
   have le:=(aGR.mp pw).1 r2 (by rw [f3]; exact aFI);have tm:=tb.mono hm fm le;have:=aFT tm (aFS wp1);rw [b,a] at *;have e:T B r2*r2.w=r2.w*T B r2:=aHh _ _;omega
structure Lv (B P l0 l1:Int)(rs:List Rw):Prop where
 pos:0<l1
 has:S B l0 l1 rs=P*l1
 more:∀ m0 m1:Int,m0*l1<l0*m1->P*m1<S B m0 m1 rs
theorem Lp.ends {B P tops ws l0 l1:Int}{rs:List Rw}{i:Nat}(tb:Tab B rs)(l:Lp B P rs i tops ws)(h0:0<i)(stop:i=rs.length∨∃ r,rs[rs.length-1-i]? = some r/\i<rs.length/\T B r*ws<=tops)
  (hl:0<l1) (hc:l0*(ws*B)=tops*l1):Lv B P l0 l1 rs:=by
 have wp:=l.ws_pos tb h0;have e:rs=rs.take (rs.length-i)++rs.drop (rs.length-i):=(aHi _ _).symm;have lo:∀ r∈rs.take (rs.length-i),T B r*ws<=tops:=by
  rcases stop with z | ⟨r,hr,hi,ht⟩
  ·subst z;simp
  ·intro x hx;obtain ⟨j,hj,ex⟩:=aHU.mp hx;rw [aGe] at hj;rw [List.getElem_take] at ex;have hk:rs.length-1-i<rs.length:=by omega
   rw [aFK hk] at hr;have er:=aGH.inj hr;have tm:T B x<=T B r:=by
    by_cases ej:j=rs.length-1-i
    ·subst ej;rw [<- ex,<- er];exact aGp _
    ·have le:=aHv.mp tb.so j (rs.length-1-i) (by omega) hk (by omega);rw [ex,er] at le;exact tb.mono (by rw [<- ex]; exact aGt _) (by rw [<- er]; exact aGt _) le
   have:=aFT tm (aFS wp);omega
 refine ⟨hl,?_,fun m0 m1 lt=>?_⟩
 ·rw [e];exact Ff wp hl hc l.ew l.et (l.hi h0) lo
 ·rw [e];exact Cu tb.cm.pos wp hl hc l.ew l.et (fun r hr=>by rw [<- e] at hr; have:=tb.w r hr; omega) lt
def Wt (ps:List Rw)(t b:Int):Int:=(ps.map fun r=>if r.t=t/\r.b=b then r.w else 0).sum
def rO (ps:List Rw)(t b:Int):Prop:=∃ p∈ps,p.t=t/\p.b=b
def Lt (x y:Rw):Prop:=x.t*y.b<y.t*x.b
structure Ak (ps ys:List Rw):Prop where
 lt:ys.Pairwise Lt
 fr:∀ y∈ys,Fr.jY y.t y.b
 has:∀ t b,rO ys t b↔rO ps t b
 d:∃ d,0<d/\∀ y∈ys,Wt ps y.t y.b=y.w*d
 one:∀ e:Int,(∀ y∈ys,e∣y.w)->e∣1
theorem Nt (t b:Int):Wt [] t b=0:=rfl
theorem jX (r:Rw)(ps:List Rw)(t b:Int):Wt (r::ps) t b=(if r.t=t/\r.b=b then r.w else 0)+Wt ps t b:=by simp [Wt]
theorem vR (ps qs:List Rw)(t b:Int):Wt (ps++qs) t b=Wt ps t b+Wt qs t b:=by simp [Wt]
theorem jT {ps qs:List Rw}{t b:Int}:rO (ps++qs) t b↔rO ps t b∨rO qs t b:=by
 constructor
 ·rintro ⟨p,hp,e⟩;rcases aF4.mp hp with z | z
  ·exact .inl ⟨p,z,e⟩
  ·exact .inr ⟨p,z,e⟩
 ·rintro (⟨p,hp,e⟩ | ⟨p,hp,e⟩)
  ·exact ⟨p,aGw _ hp,e⟩
  ·exact ⟨p,aFX _ hp,e⟩
theorem iM {r:Rw}{ps:List Rw}{t b:Int}:rO (r::ps) t b↔(r.t=t/\r.b=b)∨rO ps t b:=by
 constructor
 ·rintro ⟨p,hp,e⟩;rcases aF7.mp hp with z | z
  ·subst z; exact .inl e
  ·exact .inr ⟨p,z,e⟩
 ·rintro (e | ⟨p,hp,e⟩)
  ·exact ⟨r,aFI,e⟩
  ·exact ⟨p,aFG _ hp,e⟩
theorem rJ {t b:Int}:¬ rO [] t b:=by rintro ⟨p,hp,_⟩; cases hp
theorem Eg:∀ {ps:List Rw}{t b:Int},¬ rO ps t b->Wt ps t b=0
 | [],_,_,_=>rfl
 | r::ps,t,b,h=>by
  rw [jX,if_neg fun e=>h (iM.mpr (.inl e)),Eg fun e=>h (iM.mpr (.inr e))]
  rfl
theorem Kl:∀ {ps:List Rw} (t b:Int),(∀ r∈ps,1<=r.w)->0<=Wt ps t b
 | [],_,_,_=>aGp 0
 | r::ps,t,b,h=>by
  have:=Kl t b fun x hx=>h x (aFG _ hx);have hr:=h r aFI;rw [jX]
  split <;> omega
theorem xM:∀ {ps:List Rw}{t b:Int},(∀ r∈ps,1<=r.w)->rO ps t b->1<=Wt ps t b
 | [],_,_,_,h=>absurd h rJ
 | r::ps,t,b,h,q=>by
  have hr:=h r aFI;have hn:=Kl t b fun x hx=>h x (aFG _ hx);rw [jX]
  split
  ·omega
  ·rename_i ne;rcases iM.mp q with z | z
   ·exact absurd z ne
   ·have:=xM (fun x hx=>h x (aFG _ hx)) z;omega
theorem Ld:∀ {ps:List Rw} (t b:Int),(∀ r∈ps,1<=r.w)->Wt ps t b<=W ps
 | [],_,_,_=>aGp 0
 | r::ps,t,b,h=>by
  have hr:=h r aFI;have:=Ld t b fun x hx=>h x (aFG _ hx);rw [jX,fV]
  split <;> omega
theorem J1 {x y:Rw}(h:Lt x y)(e1:x.t=y.t)(e2:x.b=y.b):False:=by
 unfold Lt at h;rw [e1,e2] at h;omega
theorem Ib {t b u c m:Int}(hb:0<b)(hc:0<c)(bm:b<=m)(cm:c<=m)(lt:t*c<u*b):(t*(m*m)).fdiv b<(u*(m*m)).fdiv c:=by
 have hm:0<m:=by omega
 rw [aGJ _ (aFS hb),aGJ _ (aFS hc)];have k1:(t*(m*m))/b*b<=t*(m*m):=Int.ediv_mul_le _ (aF8 hb);have hbc:b*c<=m*m:=Int.mul_le_mul bm cm (aFS hc) (aFS hm);have h1:(t*c+1)*(m*m)<=u*b*(m*m):=aFT (by omega) (aFS (aGD hm hm))
 suffices h:(t*(m*m))/b+1<=(u*(m*m))/c by omega
 refine (Int.le_ediv_iff_mul_le hc).mpr ?_;have h2:b*(((t*(m*m))/b+1)*c)<=b*(u*(m*m)):=by
  have e1:b*(((t*(m*m))/b+1)*c)=c*((t*(m*m))/b*b)+b*c:=by grind
  have e2:b*(u*(m*m))=u*b*(m*m):=by grind
  have e3:(t*c+1)*(m*m)=c*(t*(m*m))+m*m:=by grind
  have h3:=aFU k1 (aFS hc);omega
 exact aHu h2 hb
def uA (ns:List Int):Int:=ns.foldl (fun d n=>((aGj d n:Nat):Int)) 0
theorem Fg (ns:List Int)(n:Int):uA (ns++[n])=((aGj (uA ns) n:Nat):Int):=by unfold uA; rw [aIb]; rfl
theorem tW:∀ (ns:List Int) (d:Int),(ns.foldl (fun d n=>((aGj d n:Nat):Int)) d∣d)/\(∀ n∈ns,ns.foldl (fun d n=>((aGj d n:Nat):Int)) d∣n)/\∀ e:Int,e∣d->(∀ n∈ns,e∣n)->e∣ns.foldl (fun d n=>((aGj d n:Nat):Int)) d
 | [],d=>⟨aHH d,(fun _ h=>nomatch h),fun e h _=>h⟩
 | n::ns,d=>by
  obtain ⟨a,b,c⟩:=tW ns ((aGj d n:Nat):Int);refine ⟨aG5 a (aHC d n),fun k hk=>?_,fun e he hn=>c e (Int.dvd_coe_gcd he (hn n aFI)) fun k hk=>hn k (aFG _ hk)⟩;rcases aF7.mp hk with z | z
  ·subst z; exact aG5 a (aHy d k)
  ·exact b k z
theorem tK {ns:List Int}{n:Int}(h:n∈ns):uA ns∣n:=(tW ns 0).2.1 n h
theorem CQ {ns:List Int}{e:Int}(h:∀ n∈ns,e∣n):e∣uA ns:=(tW ns 0).2.2 e (Int.dvd_zero e) h
theorem EY:∀ (ns:List Int) (d:Int),0<=d->0<=ns.foldl (fun d n=>((aGj d n:Nat):Int)) d
 | [],_,h=>h
 | n::ns,d,_=>EY ns _ (aH4 _)
theorem Il {ns:List Int}{n:Int}(h:n∈ns)(hn:1<=n):0<uA ns:=by
 have h0:0<=uA ns:=EY ns 0 (aGp 0);rcases (by omega:0<uA ns∨uA ns=0) with z | z
 ·exact z
 ·have:=tK h;rw [z] at this;have:=Int.zero_dvd.mp this;omega
end Tb
set_option maxHeartbeats 4000000
namespace TD
open PySem L2
open Builtin.Int (intBits)
structure Row where
 p:Addr
 q:Addr
 t:Int
 b:Int
 w:Int
def Row.r (x:Row):Tb.Rw:=⟨x.t,x.b,x.w⟩
def iK (H:Hp)(x:Row):Prop:=H x.p=some (.tup [.ref x.q,.int x.w])/\H x.q=some (.tup [.int x.t,.int x.b])
def refs (xs:List Row):List V:=xs.map fun x=>V.ref x.p
structure TabAt (H:Hp)(a:Addr)(xs:List Row):Prop where
 lst:H a=some (.lst (refs xs))
 rows:∀ x∈xs,iK H x
def cQ (xs:List Row):List Tb.Rw:=xs.map Row.r
theorem iK.same {H H':Hp}{x:Row}(s:aR H H')(h:iK H x):iK H' x:=⟨s _ _ h.1,s _ _ h.2⟩
theorem TabAt.same {H H':Hp}{a:Addr}{xs:List Row}(s:aR H H')(h:TabAt H a xs):TabAt H' a xs:=⟨s _ _ h.lst,fun x hx=>(h.rows x hx).same s⟩
theorem refs_length (xs:List Row):(refs xs).length=xs.length:=aFF _
theorem dR (xs:List Row):(cQ xs).length=xs.length:=aFF _
theorem mH {xs:List Row}{i:Nat}{v:V}(h:(refs xs)[i]? = some v):∃ x,xs[i]? = some x/\v=.ref x.p:=by
 unfold refs at h;rw [aFY] at h;cases e:xs[i]? with
 | none=>rw [e] at h; cases h
 | some x=>rw [e] at h; cases h; exact ⟨x,rfl,rfl⟩
theorem mF (xs:List Row)(y:Row):refs (xs++[y])=refs xs++[V.ref y.p]:=by unfold refs; rw [aFN]; rfl
theorem jP (xs:List Row)(y:Row):cQ (xs++[y])=cQ xs++[y.r]:=by unfold cQ; rw [aFN]; rfl
theorem Bh (xs ys:List Row):cQ (xs++ys)=cQ xs++cQ ys:=by unfold cQ; rw [aFN]
theorem take_snoc {α:Type}{xs:List α}{i:Nat}{x:α}(h:xs[i]? = some x):xs.take (i+1)=xs.take i++[x]:=by
 rw [aHw,h]
 rfl
theorem iK.over {H:Hp}{a:Addr}{xs zs:List V}{x:Row}(h:iK H x)(e:H a=some (.lst xs)):iK (bG H a (.lst zs)) x :=
 ⟨by rw [aK (cH h.1 e fun z=>nomatch z)]; exact h.1,by rw [aK (cH h.2 e fun z=>nomatch z)]; exact h.2⟩
theorem sz1:1<=sizeLine:=aGm (aQ (by decide))
theorem qP:2<=sizeLine:=aGm (aQ (by decide))
theorem KH:3<=sizeLine:=aGm (aQ (by decide))
theorem fP {m n:Nat}{x y:Int}(hx:intBits x<=m)(hy:intBits y<=n)(h:m+n<=134217728):HN x y:=aFJ (Nat.add_le_add hx hy) h
theorem gA {K:PySem.W.Frag}(T:String):PySem.W.kitOne K (.type T) (.type T)=some true:=by
 unfold PySem.W.kitOne;rw [if_pos (beq_self_eq_true _)]
theorem xH {K:PySem.W.Frag}:PySem.W.kitOne K (.type "int") (.type "bool")=some false:=by rfl
structure Rs where
 q:Addr
 t:Int
 b:Int
def kJ (rs:List Rs):List V:=rs.map fun r=>V.ref r.q
def PK (x y:Rs):Prop:=x.t*y.b<y.t*x.b
def LeR (x y:Rs):Prop:=x.t*y.b<=y.t*x.b
def jG (r:Rs):List Key:=[.inl r.t,.inl r.b]
def O2 (H:Hp)(r:Rs):Prop:=H r.q=some (.tup [.int r.t,.int r.b])
theorem oM (rs:List Rs):(kJ rs).length=rs.length:=aFF _
theorem Ja (rs:List Rs):kJ rs=(rs.map (·.q)).map V.ref:=by unfold kJ; rw [aGz]; rfl
theorem zY {rs:List Rs}{i:Nat}{v:V}(h:(kJ rs)[i]? = some v):∃ x,rs[i]? = some x/\v=.ref x.q:=by
 unfold kJ at h;rw [aFY] at h;cases e:rs[i]? with
 | none=>rw [e] at h; cases h
 | some x=>rw [e] at h; cases h; exact ⟨x,rfl,rfl⟩
theorem rF {x:Rs}{t b:Int}:jG x=[.inl t,.inl b]↔x.t=t/\x.b=b:=by
 unfold jG;constructor
 ·intro h;injection h with h1 h2
  injection h2 with h2 _
  injection h1 with h1
  injection h2 with h2
  exact ⟨h1,h2⟩
 ·rintro ⟨rfl,rfl⟩; rfl
theorem Vn {x y:Rs}(fx:Fr.jY x.t x.b)(fy:Fr.jY y.t y.b)(h:LeR x y)(ne:jG x≠jG y):PK x y:=by
 unfold LeR at h;unfold PK;rcases (by omega:x.t*y.b<y.t*x.b∨x.t*y.b=y.t*x.b) with z | z
 ·exact z
 ·obtain ⟨e1,e2⟩:=Fr.unique fx fy z;exact absurd (rF.mpr ⟨e1,e2⟩) ne
structure Dk (ps:List Tb.Rw)(kvs:List (List Key×V)):Prop where
 nd:(kvs.map (·.1)).Nodup
 en:∀ kv∈kvs,∃ t b,kv=([.inl t,.inl b],.int (Tb.Wt ps t b))/\Tb.rO ps t b
 all:∀ t b,Tb.rO ps t b->([Sum.inl t,Sum.inl b]:List Key)∈kvs.map (·.1)
theorem Dk.nil:Dk [] []:=⟨aHT,(fun _ h=>nomatch h),fun t b h=>absurd h Tb.rJ⟩
theorem tD {kvs:List (List Key×V)}{k:List Key}{v:V}(h:lA kvs k=some v):(k,v)∈kvs:=by
 unfold lA at h;cases e:kvs.find? fun kv=>decide (kv.1=k) with
 | none=>rw [e] at h; cases h
 | some kv =>
  rw [e] at h;have h1:kv.2=v:=aGH.inj h;have h2:=List.find?_some e;have h3:kv.1=k:=of_decide_eq_true h2;rw [<- h1,<- h3];exact List.mem_of_find?_eq_some e
theorem Dy {t b t' b':Int}(h:([Sum.inl t,Sum.inl b]:List Key)=[.inl t',.inl b']):t=t'/\b=b':=by
 injection h with h1 h2
 injection h2 with h2 _
 injection h1 with h1
 injection h2 with h2
 exact ⟨h1,h2⟩
theorem Dk.val {ps:List Tb.Rw}{kvs:List (List Key×V)}(d:Dk ps kvs){t b:Int}(h:Tb.rO ps t b):lA kvs [.inl t,.inl b]=some (.int (Tb.Wt ps t b)):=by
 cases e:lA kvs [.inl t,.inl b] with
 | none=>exact absurd (d.all t b h) (Gx e)
 | some v =>
  obtain ⟨t',b',e2,_⟩:=d.en _ (tD e);injection e2 with e3 e4
  obtain ⟨rfl,rfl⟩:=Dy e3;rw [e4]
theorem Dk.get {ps:List Tb.Rw}{kvs:List (List Key×V)}(d:Dk ps kvs)(t b:Int):(lA kvs [.inl t,.inl b]).getD (.int 0)=.int (Tb.Wt ps t b):=by
 by_cases h:Tb.rO ps t b
 ·rw [d.val h]; rfl
 ·cases e:lA kvs [.inl t,.inl b] with
  | none=>rw [Tb.Eg h]; rfl
  | some v =>
   obtain ⟨t',b',e2,h2⟩:=d.en _ (tD e);injection e2 with e3 e4
   obtain ⟨rfl,rfl⟩:=Dy e3;exact absurd h2 h
theorem Gh {kvs:List (List Key×V)}{k:List Key}{v:V}{kv:List Key×V}(h:kv∈putK kvs k v):kv=(k,v)∨(kv∈kvs/\kv.1≠k):=by
 unfold putK at h
 split at h
 ·obtain ⟨x,hx,e⟩:=aFL.mp h
  split at e
  ·rename_i ek
   left
   rw [<- e,ek]
  ·rename_i ek
   right
   rw [<- e];exact ⟨hx,ek⟩
 ·rename_i na;rcases aF4.mp h with z | z
  ·right
   refine ⟨z,fun ek=>na ?_⟩;exact aHk.mpr ⟨kv,z,decide_eq_true ek⟩
  ·exact .inl (by simpa using z)
theorem vB {kvs:List (List Key×V)}{k:List Key}{v:V}:(putK kvs k v).map (·.1)=if (kvs.any fun kv=>decide (kv.1=k))=true then kvs.map (·.1) else kvs.map (·.1)++[k]:=by
 unfold putK
 split
 ·rw [aGz];refine aGu fun x _=>?_;show (if x.1=k then (x.1,v) else x).1=x.1
  split <;> rfl
 ·rw [aFN]; rfl
theorem Dk.put {ps:List Tb.Rw}{kvs:List (List Key×V)}(d:Dk ps kvs)(x:Tb.Rw):Dk (ps++[x]) (putK kvs [.inl x.t,.inl x.b] (.int (Tb.Wt ps x.t x.b+x.w))):=by
 have hx:∀ t b,Tb.Wt [x] t b=if x.t=t/\x.b=b then x.w else 0:=fun t b=>by rw [Tb.jX,Tb.Nt,Int.add_zero]
 refine ⟨?_,fun kv hkv=>?_,fun t b h=>?_⟩
 ·rw [vB]
  split
  ·exact d.nd
  ·rename_i na;refine aIc.mpr ⟨d.nd,aGS.mpr ⟨aIj,aHT⟩,fun y hy z hz=>?_⟩;rw [aFR.mp hz];rintro rfl;obtain ⟨kv,hkv,e⟩:=aFL.mp hy;exact na (aHk.mpr ⟨kv,hkv,decide_eq_true e⟩)
 ·rcases Gh hkv with z | ⟨z,ne⟩
  ·refine ⟨x.t,x.b,?_,Tb.jT.mpr (.inr ⟨x,aFI,rfl,rfl⟩)⟩;rw [z,Tb.vR,hx,if_pos ⟨rfl,rfl⟩]
  ·obtain ⟨t,b,e,h⟩:=d.en kv z;refine ⟨t,b,?_,Tb.jT.mpr (.inl h)⟩;rw [Tb.vR,hx,if_neg ?_,Int.add_zero]
   ·exact e
   ·rintro ⟨rfl,rfl⟩;exact ne (by rw [e])
 ·rw [vB];have key:([Sum.inl t,Sum.inl b]:List Key)∈kvs.map (·.1)∨([Sum.inl t,Sum.inl b]:List Key)=[.inl x.t,.inl x.b]:=by
   rcases Tb.jT.mp h with z | ⟨p,hp,e1,e2⟩
   ·exact .inl (d.all t b z)
   ·right
    rw [aFR.mp hp] at e1 e2;rw [e1,e2]
  split
  ·rename_i ya;rcases key with z | z
   ·exact z
   ·obtain ⟨kv,hkv,e⟩:=aHk.mp ya;rw [z,<- of_decide_eq_true e];exact aFL.mpr ⟨kv,hkv,rfl⟩
  ·rcases key with z | z
   ·exact aGw _ z
   ·rw [z]; exact aFX _ (.head _)
def wOf (kv:List Key×V):Int:=match kv.2 with | .int w=>w | _=>0
def gM (kvs:List (List Key×V)):Int:=Tb.uA (kvs.map wOf)
theorem Dk.wOf {ps:List Tb.Rw}{kvs:List (List Key×V)}(d:Dk ps kvs){t b:Int}(h:Tb.rO ps t b):Tb.Wt ps t b∈kvs.map TD.wOf:=by
 have m:=tD (d.val h);exact aFL.mpr ⟨_,m,rfl⟩
theorem Dk.ne {ps:List Tb.Rw}{kvs:List (List Key×V)}(d:Dk ps kvs)(h:ps≠[]):kvs≠[]:=by
 cases ps with
 | nil=>exact absurd rfl h
 | cons p ps =>
  intro e;have:=d.all p.t p.b (Tb.iM.mpr (.inl ⟨rfl,rfl⟩));rw [e] at this;cases this
theorem Dk.div_pos {ps:List Tb.Rw}{kvs:List (List Key×V)}(d:Dk ps kvs)(h:ps≠[])(hw:∀ p∈ps,1<=p.w):0<gM kvs:=by
 cases ps with
 | nil=>exact absurd rfl h
 | cons p ps =>
  have hp:Tb.rO (p::ps) p.t p.b:=Tb.iM.mpr (.inl ⟨rfl,rfl⟩);exact Tb.Il (d.wOf hp) (Tb.xM hw hp)
theorem Jv {w d:Int}(hd:0<d)(hw:1<=w)(h:d∣w):w=w.fdiv d*d/\1<=w.fdiv d/\w.fdiv d<=w:=by
 obtain ⟨c,e⟩:=h;have ec:w.fdiv d=c:=by
  have h:=aG6 (a:=d) c (aF8 hd);rw [<- e] at h;exact h
 rw [ec];have cp:0<c:=by
  rcases (by omega:0<c∨c<=0) with z | z
  ·exact z
  ·have:=aGn (aFS hd) z;omega
 have:=aFT (show (1:Int)<=d by omega) (aFS cp);refine ⟨by rw [e,aHh],by omega,by omega⟩
theorem Oe {ps:List Tb.Rw}{kvs:List (List Key×V)}{rs:List Rs}{ys:List Row}(d:Dk ps kvs)(hw:∀ p∈ps,1<=p.w)(hf:∀ p∈ps,Fr.jY p.t p.b)(hne:ps≠[])(pr:(rs.map jG).Perm (kvs.map (·.1)))(so:rs.Pairwise PK)
  (ey:ys.map (fun y=>Rs.mk y.q y.t y.b)=rs) (yw:∀ y∈ys,y.w=(Tb.Wt ps y.t y.b).fdiv (gM kvs)):Tb.Ak ps (cQ ys)/\∀ y∈ys,1<=y.w/\y.w<=Tb.Wt ps y.t y.b:=by
 have dp:=d.div_pos hne hw;have yk:∀ y∈ys,Tb.rO ps y.t y.b:=fun y hy=>by
  have h1:jG (Rs.mk y.q y.t y.b)∈rs.map jG:=by
   rw [<- ey];exact aFL.mpr ⟨_,aFL.mpr ⟨y,hy,rfl⟩,rfl⟩
  obtain ⟨kv,hkv,e⟩:=aFL.mp (pr.mem_iff.mp h1);obtain ⟨t,b,e2,h⟩:=d.en kv hkv;rw [e2] at e;obtain ⟨e3,e4⟩:=rF.mp e.symm;have e3:y.t=t:=e3;have e4:y.b=b:=e4;rw [e3,e4];exact h
 have pb:∀ y∈ys,Tb.Wt ps y.t y.b=y.w*gM kvs/\1<=y.w/\y.w<=Tb.Wt ps y.t y.b:=fun y hy=>by
  rw [yw y hy];exact Jv dp (Tb.xM hw (yk y hy)) (Tb.tK (d.wOf (yk y hy)))
 have back:∀ t b,Tb.rO ps t b->∃ y∈ys,y.t=t/\y.b=b:=fun t b h=>by
  obtain ⟨r,hr,e⟩:=aFL.mp (pr.mem_iff.mpr (d.all t b h));rw [<- ey] at hr;obtain ⟨y,hy,rfl⟩:=aFL.mp hr;exact ⟨y,hy,rF.mp e⟩
 refine ⟨⟨?_,fun y hy=>?_,fun t b=>?_,⟨gM kvs,dp,fun y hy=>?_⟩,fun e he=>?_⟩,fun y hy=>(pb y hy).2⟩
 ·have h:(ys.map fun y=>Rs.mk y.q y.t y.b).Pairwise PK:=by rw [ey]; exact so
  unfold cQ;rw [aHe] at h ⊢;exact h
 ·obtain ⟨z,hz,rfl⟩:=aFL.mp hy;obtain ⟨p,hp,e1,e2⟩:=yk z hz;have:=hf p hp;rw [e1,e2] at this;exact this
 ·constructor
  ·rintro ⟨y,hy,rfl,rfl⟩;obtain ⟨z,hz,rfl⟩:=aFL.mp hy;exact yk z hz
  ·intro h;obtain ⟨y,hy,e1,e2⟩:=back t b h;exact ⟨y.r,aFL.mpr ⟨y,hy,rfl⟩,e1,e2⟩
 ·obtain ⟨z,hz,rfl⟩:=aFL.mp hy;exact (pb z hz).1
 ·have g:e*gM kvs∣gM kvs:=by
   refine Tb.CQ fun n hn=>?_;obtain ⟨kv,hkv,rfl⟩:=aFL.mp hn;obtain ⟨t,b,e2,h⟩:=d.en kv hkv;obtain ⟨y,hy,rfl,rfl⟩:=back t b h;have q:=(pb y hy).1;have q2:=he y.r (aFL.mpr ⟨y,hy,rfl⟩);rw [e2];show e*gM kvs∣Tb.Wt ps y.t y.b;rw [q];exact Int.mul_dvd_mul_right _ q2
  have g2:e*gM kvs∣1*gM kvs:=by rw [aHV]; exact g
  exact Int.dvd_of_mul_dvd_mul_right (aF8 dp) g2
theorem Fi {α β:Type}{f:α->β}:∀ {x m:List β},x.Perm m->∀ l:List α,x=l.map f->∃ l':List α,l'.Perm l/\m=l'.map f:=by
 intro x m h
 induction h with
 | nil=>intro l e; exact ⟨l,.refl _,e⟩
 | cons a p ih =>
  intro l e;cases l with
  | nil=>cases e
  | cons b l =>
   injection e with e1 e2
   obtain ⟨l',p',e'⟩:=ih l e2;exact ⟨b::l',p'.cons b,by rw [aFP,<- e1,<- e']⟩
 | swap a b t =>
  intro l e
  match l,e with
  | c::d::l,e =>
   injection e with e1 e2
   injection e2 with e2 e3
   exact ⟨d::c::l,.swap ..,by rw [aFP,aFP,<- e1,<- e2,<- e3]⟩
 | trans p q ih1 ih2 =>
  intro l e;obtain ⟨l1,p1,e1⟩:=ih1 l e;obtain ⟨l2,p2,e2⟩:=ih2 l1 e1;exact ⟨l2,p2.trans p1,e2⟩
def Hu (m:Int)(r:Rs):Int:=(r.t*(m*m)).fdiv r.b
theorem z8 {β:Type}(f:Rs->β)(g:Rs->Addr):∀ rs:List Rs,(rs.map f).zip (rs.map g)=rs.map fun r=>(f r,g r)
 | []=>rfl
 | r::rs=>by simp [z8 f g rs]
theorem Ke {m:Int}{rs:List Rs}{ps:List (Int×Addr)}(hp:ps.Perm ((rs.map (Hu m)).zip (rs.map (·.q))))(hs:ps.Pairwise fun p q=>p.1<=q.1)(nd:(rs.map jG).Nodup)(fr:∀ r∈rs,Fr.jY r.t r.b)(hm:∀ r∈rs,r.b<=m) :
  ∃ rs':List Rs,rs'.Perm rs/\ps.map (fun p=>V.ref p.2)=kJ rs'/\rs'.Pairwise PK:=by
 rw [z8] at hp;obtain ⟨rs',p',e⟩:=Fi hp.symm rs rfl;refine ⟨rs',p',?_,?_⟩
 ·rw [e,aGz]; rfl
 ·have nd':(rs'.map jG).Nodup:=(p'.map jG).nodup_iff.mpr nd;rw [e,aHe] at hs;have nd2:rs'.Pairwise fun x y=>jG x≠jG y:=aHe.mp nd';refine (hs.and nd2).imp_of_mem fun {x y} hx hy h=>?_;have fx:=fr x (p'.mem_iff.mp hx);have fy:=fr y (p'.mem_iff.mp hy);refine Vn fx fy ?_ h.2;unfold LeR;rcases (by omega:x.t*y.b<=y.t*x.b∨y.t*x.b<x.t*y.b) with z | z
  ·exact z
  ·have:=Tb.Ib fy.pos fx.pos (hm y (p'.mem_iff.mp hy)) (hm x (p'.mem_iff.mp hx)) z;have h1:Hu m x<=Hu m y:=h.1;unfold Hu at h1;omega
end TD
namespace L2
open PySem PySem.Spec PyProof.Rows
theorem m5 {X:Cx}{K:PySem.W.Frag}(h:X.K=K):d8 X (.type "list") (fun xs H Q=>∃ p ys,xs=[.ref p]/\(bV K H p ys∨bW K H p ys)/\∀ l,H l=none->Q (.ref l) (bG H l (.lst ys))):=by subst h; exact oW
end L2
namespace TD
open PySem L2
open Builtin.Int (intBits)
def cN (m n:Int):Int:=m*(n.fdiv ((aGj m n:Nat):Int))
def cM (ns:List Int):Int:=ns.foldl cN 1
theorem Cj {m n:Int}(hm:0<m)(hn:0<n):0<cN m n/\m∣cN m n/\n∣cN m n:=by
 have hg:0<((aGj m n:Nat):Int):=by have:=aGv m (aF8 hn); omega
 obtain ⟨c,hc⟩:=aHy m n;obtain ⟨d,hd⟩:=aHC m n;have e:n.fdiv ((aGj m n:Nat):Int)=c:=by
  have h:=aG6 (a:=((aGj m n:Nat):Int)) c (by omega);rw [<- hc] at h;exact h
 have cp:0<c:=by
  rcases (by omega:0<c∨c<=0) with z | z
  ·exact z
  ·have:=aGn (aFS hg) z;omega
 unfold cN;rw [e];refine ⟨aGD hm cp,⟨c,rfl⟩,⟨d,?_⟩⟩;generalize ((aGj m n:Nat):Int)=g at *;rw [hc,hd]
 grind
theorem BW:∀ (ns:List Int) (m:Int),0<m->(∀ n∈ns,0<n)->0<ns.foldl cN m/\m∣ns.foldl cN m/\∀ n∈ns,n∣ns.foldl cN m
 | [],m,hm,_=>⟨hm,aHH m,fun _ h=>nomatch h⟩
 | n::ns,m,hm,h=>by
  obtain ⟨a,b,c⟩:=Cj hm (h n aFI);obtain ⟨x,y,z⟩:=BW ns (cN m n) a fun k hk=>h k (aFG _ hk);refine ⟨x,aG5 b y,fun k hk=>?_⟩;rcases aF7.mp hk with e | e
  ·subst e; exact aG5 c y
  ·exact z k e
theorem Df {ns:List Int}(h:∀ n∈ns,0<n):0<cM ns/\∀ n∈ns,n∣cM ns:=by
 obtain ⟨a,_,c⟩:=BW ns 1 (by decide) h;exact ⟨a,c⟩
theorem Aa:∀ (ns:List Int) (m:Int) (k:Nat),intBits m<=k->intBits (ns.foldl cN m)<=k+(ns.map intBits).sum
 | [],m,k,h=>by simpa using h
 | n::ns,m,k,h=>by
  have h1:intBits (cN m n)<=k+intBits n:=PySem.intBits_mul_le h (PySem.intBits_fdiv_le (aFM _));have:=Aa ns (cN m n) _ h1;simp only [aFP,aF0];show intBits (ns.foldl cN (cN m n))<=_;omega
theorem vG (ns:List Int):intBits (cM ns)<=1+(ns.map intBits).sum:=Aa ns 1 1 (by decide)
theorem GZ (ns:List Int)(n:Int):cM (ns++[n])=cN (cM ns) n:=by unfold cM; rw [aIb]; rfl
theorem zN (ns:List Int)(i:Nat):((ns.take i).map intBits).sum<=(ns.map intBits).sum:=by
 have e:ns.map intBits=(ns.take i).map intBits++(ns.drop i).map intBits:=by rw [<- aFN,aHi]
 rw [e,aHL];omega
theorem nQ {k:Nat}:∀ {l:List Nat},(∀ n∈l,n<=k)->l.sum<=k*l.length
 | [],_=>by simp
 | n::l,h=>by
  have a:=nQ (l:=l) fun m hm=>h m (aFG _ hm);have b:=h n aFI;simp only [aF0,aGf];rw [aG9,Nat.mul_one];omega
def Jr:Sp:=fun vs H Q _=>∃ a b:Int,vs=[.int a,.int b]/\Q (.int ((aGj a b:Nat):Int)) H
def xV:Sp:=fun vs H Q _=>∃ t b:Int,vs=[.int t,.int b]/\b≠0/\intBits b<=9000/\∀ p H',aR H H'->H' p=some (.tup [.int (Fr.sh t b).1,.int (Fr.sh t b).2])->Q (.ref p) H'
def M6:Sp:=fun vs H Q _=>∃ t b:Int,vs=[.int t,.int b]/\0<b/\intBits b<=9000/\∀ p H',aR H H'->H' p=some (.tup [.int (Fr.sh t b).1,.int (Fr.sh t b).2])->Q (.ref p) H'
structure Sz (a b c d:Int):Prop where
 a:intBits a<=10000
 b:intBits b<=10000
 c:intBits c<=10000
 d:intBits d<=10000
def DX (K:PySem.W.Frag):Sp:=fun vs H Q _=>∃ p q a b c d,vs=[.ref p,.ref q]/\bW K H p [.int a,.int b]/\bW K H q [.int c,.int d]/\Sz a b c d/\Q (.bl (decide (a*d<c*b))) H
def O1 (K:PySem.W.Frag):Sp:=fun vs H Q _=>∃ (a:Addr) (ns:List Int),vs=[.ref a]/\bV K H a (ns.map V.int)/\(∀ n∈ns,0<n)/\(∀ n∈ns,intBits n<=9000)/\(ns.map intBits).sum<=200000/\Q (.int (cM ns)) H
def wsum (xs:List Row):Int:=(xs.map Row.w).sum
def Ml:Sp:=fun vs H Q _=>∃ (a:Addr) (xs:List Row),vs=[.ref a]/\TabAt H a xs/\xs.length<=1000/\∀ H',aR H H'->Q (.int (wsum xs)) H'
def gU:Str:=("rising" : Str)++".<locals>."++"<lambda>"
def Iz (K:PySem.W.Frag)(P:Addr)(lp:Pos):Sp:=fun vs H Q _=>∃ (a:Addr) (rs:List Rs),vs=[.ref a]/\bV K H a (kJ rs)/\rs≠[]/\rs.length<64/\(∀ r∈rs,O2 H r/\Fr.jY r.t r.b/\intBits r.t<=4000/\intBits r.b<=4000)/\(rs.map jG).Nodup/\dF P lp gU H ∧
 ∀ (D:Addr) (H':Hp) (rs':List Rs),cD P H H'->dF P lp gU H'->H' D=some (.lst (kJ rs'))->rs'.Perm rs->rs'.Pairwise PK->Q (.ref D) H'
def Ad:Int:=2^4000
def PB (xs:List Row):Prop:=∀ x∈xs,Fr.jY x.t x.b/\intBits x.t<=4000/\intBits x.b<=4000/\1<=x.w/\x.w<=Ad
structure Out (ps:List Tb.Rw)(ys:List Row):Prop where
 tab:Tb.Ak ps (cQ ys)
 w:∀ y∈ys,1<=y.w/\y.w<=Tb.Wt ps y.t y.b
def wY (P:Addr)(lp:Pos):Sp:=fun vs H Q _=>∃ (a:Addr) (xs:List Row),vs=[.ref a]/\TabAt H a xs/\xs≠[]/\xs.length<64/\PB xs/\dF P lp gU H ∧
 ∀ (r:Addr) (H':Hp) (ys:List Row),cD P H H'->dF P lp gU H'->H r=none->TabAt H' r ys->Out (cQ xs) ys->ys.length<=xs.length->Q (.ref r) H'
theorem PB.ps {xs:List Row}(h:PB xs):(∀ p∈cQ xs,1<=p.w)/\∀ p∈cQ xs,Fr.jY p.t p.b:=by
 refine ⟨fun p hp=>?_,fun p hp=>?_⟩ <;>
 ·obtain ⟨x,hx,rfl⟩:=aFL.mp hp
  first | exact (h x hx).2.2.2.1 | exact (h x hx).1
theorem pW (xs:List Row):wsum xs=Tb.W (cQ xs):=by
 unfold wsum Tb.W cQ;rw [aGz]
 rfl
theorem Ud {m:Int}(hm:0<=m):∀ {ps:List Tb.Rw},(∀ p∈ps,1<=p.w/\p.w<=m)->0<=Tb.W ps/\Tb.W ps<=m*(ps.length:Int)
 | [],_=>by simp [Tb.W]
 | p::ps,h=>by
  obtain ⟨a,b⟩:=Ud hm (ps:=ps) fun y hy=>h y (aFG _ hy);obtain ⟨c,d⟩:=h p aFI;have f:m*((p::ps).length:Int)=m+m*(ps.length:Int):=by rw [aGf]; grind
  rw [Tb.fV];omega
theorem Out.key {ps:List Tb.Rw}{ys:List Row}(o:Out ps ys){y:Row}(hy:y∈ys):∃ p∈ps,p.t=y.t/\p.b=y.b:=(o.tab.has y.t y.b).mp ⟨y.r,aFL.mpr ⟨y,hy,rfl⟩,rfl,rfl⟩
theorem Out.ne {ps:List Tb.Rw}{ys:List Row}(o:Out ps ys)(h:ps≠[]):ys≠[]:=by
 rintro rfl;cases ps with
 | nil=>exact h rfl
 | cons p ps=>exact Tb.rJ ((o.tab.has p.t p.b).mpr (Tb.iM.mpr (.inl ⟨rfl,rfl⟩)))
theorem Gu {ps:List Tb.Rw}{kvs:List (List Key×V)}(d:Dk ps kvs)(hne:ps≠[])(hw:∀ p∈ps,1<=p.w/\p.w<=Ad)(hl:ps.length<=1000):intBits (gM kvs)<=9000:=by
 have dp:=d.div_pos hne fun p hp=>(hw p hp).1;cases ps with
 | nil=>exact absurd rfl hne
 | cons p ps =>
  have hp:Tb.rO (p::ps) p.t p.b:=Tb.iM.mpr (.inl ⟨rfl,rfl⟩);have w1:=Tb.xM (fun p hp=>(hw p hp).1) hp;have w2:=Tb.Ld p.t p.b (ps:=p::ps) fun p hp=>(hw p hp).1;have w3:=(Ud (by decide) hw).2;have dv:=aHl (by omega) (Tb.tK (d.wOf hp));have dv:gM kvs<=Tb.Wt (p::ps) p.t p.b:=dv;refine PySem.intBits_le_iff.mpr ?_;have e:Ad*(((p::ps).length:Nat):Int)<=Ad*1000:=aFU (by omega) (by decide);have e2:Ad*1000<((2^9000:Nat):Int):=by decide +kernel
  omega
end TD
namespace Sd
structure Fq (t b N k:Int):Prop where
 fr:Fr.jY t b
 dv:b∣N
 lo:-(k*b)<=t
 hi:t<=k*b
theorem oR {a b c:Int}(h:a<=b)(hc:0<=c):a*c<=b*c:=aFT h hc
theorem Fq.mono {t b N k N' k':Int}(f:Fq t b N k)(h:N∣N')(hk:k<=k'):Fq t b N' k':=by
 have p:=aFS f.fr.pos;have e:=oR hk p;exact ⟨f.fr,aG5 f.dv h,by have:=f.lo; omega,by have:=f.hi; omega⟩
theorem Ob {t b u N:Int}(hb:0<b)(e:t*N=u*b):(Fr.sh t b).2∣N:=by
 have hn:b≠0:=aF8 hb;have cr:=Fr.tY t b;refine Fr.W9 (a:=(Fr.sh t b).1) (Fr.Cd hn) ⟨u,?_⟩;have h:(Fr.sh t b).1*N*b=(Fr.sh t b).2*u*b:=by
  have h1:(Fr.sh t b).1*N*b=((Fr.sh t b).1*b)*N:=by grind
  have h2:(Fr.sh t b).2*u*b=(Fr.sh t b).2*(u*b):=by grind
  rw [h1,h2,cr,<- e]
  grind
 exact aGY hn h
theorem RK {t b u N k:Int}(hb:0<b)(e:t*N=u*b)(lo:-(k*b)<=t)(hi:t<=k*b):Fq (Fr.sh t b).1 (Fr.sh t b).2 N k:=by
 have hn:b≠0:=aF8 hb;have cr:=Fr.tY t b;have yp:=aFS (Fr.t8 (t:=t) hn);refine ⟨Fr.Ti hn,Ob hb e,?_,?_⟩
 ·have h:=oR lo yp;rw [<- cr] at h;refine aHt (a:=b) ?_ hb;have:-(k*(Fr.sh t b).2)*b = -(k*b)*(Fr.sh t b).2:=by grind
  rw [this];exact h
 ·have h:=oR hi yp;rw [<- cr] at h;refine aHt (a:=b) ?_ hb;have:k*(Fr.sh t b).2*b=k*b*(Fr.sh t b).2:=by grind
  rw [this];exact h
def pls (x y:Int×Int):Int×Int:=Fr.sh (x.1*y.2+y.1*x.2) (x.2*y.2)
def tms (x y:Int×Int):Int×Int:=Fr.sh (x.1*y.1) (x.2*y.2)
def grt (x y:Int×Int):Int×Int:=if x.1*y.2<y.1*x.2 then y else x
abbrev FQ (x:Int×Int)(N k:Int):Prop:=Fq x.1 x.2 N k
inductive Sd where
 | en (v:Int)
 | st (p:Int) (rs:List (Int×Sd))
inductive Ok:Sd->Nat->Nat->Prop
 | en {v:Int}{d m:Nat} (h0:0<=v) (h9:v<=1000000000) (hm:1<=m):Ok (.en v) d m
 | st {p:Int}{rs:List (Int×Sd)}{d m:Nat}{f:Int×Sd->Nat} (h0:0<=p) (h9:p<=1000000000) (ne:rs≠[]) (l4:rs.length<=4) (w:∀ r∈rs,1<=r.1/\r.1<=1000) (sub:∀ r∈rs,Ok r.2 d (f r)) (hk:(rs.map f).sum<=m):Ok (.st p rs) (d+1) m
def fW (rs:List (Int×Sd)):Int:=(rs.map (·.1)).sum
def eF:List Int->Int
 | []=>1
 | n::ns=>n*eF ns
def bes (l:Int×Int):Nat->Sd->Int×Int
 | 0,_=>(0,1)
 | _+1,.en v=>grt l (v,1)
 | n+1,.st p rs=>grt l (rs.foldl (fun a r=>pls a (tms (Fr.sh r.1 (fW rs)) (bes l n r.2))) (-p,1))
theorem mO:∀ {l:List Int},(∀ n∈l,0<n)->0<eF l
 | [],_=>by decide
 | n::l,h=>aGD (h n aFI) (mO fun m hm=>h m (aFG _ hm))
theorem pU:∀ {l:List Int}{n:Int},n∈l->n∣eF l
 | m::l,n,h=>by
  rcases aF7.mp h with e | e
  ·subst e; exact ⟨_,rfl⟩
  ·exact aG5 (pU e) ⟨m,by show m*eF l=eF l*m; grind⟩
theorem cG (n:Nat):(0:Int)<2^n:=Int.pow_pos (by decide)
theorem Ag {e:Nat}:∀ {l:List Int},(∀ n∈l,0<n/\n<=2^e)->eF l<=2^(l.length*e)
 | [],_=>by simp [eF]
 | n::l,h=>by
  have ih:=Ag (l:=l) fun m hm=>h m (aFG _ hm);have hn:=h n aFI;have pp:=mO (l:=l) fun m hm=>(h m (aFG _ hm)).1;show n*eF l<=_;rw [aGf,aIe,Nat.add_comm,aG0];exact aGb (aFT hn.2 (aFS pp)) (aFU ih (aFS (cG e)))
theorem M5:∀ {rs:List (Int×Sd)},(∀ r∈rs,1<=r.1/\r.1<=1000)->(rs.length:Int)<=fW rs/\fW rs<=1000*(rs.length:Int)
 | [],_=>by decide
 | r::rs,h=>by
  have ih:=M5 (rs:=rs) fun x hx=>h x (aFG _ hx);have hr:=h r aFI;have e:fW (r::rs)=r.1+fW rs:=by unfold fW; rw [aFP,aF0]
  rw [e,aGf]
  push_cast
  omega
theorem eG {a b:Nat}(h:a<=b):(2:Int)^a<=2^b:=by
 obtain ⟨c,rfl⟩:=Nat.exists_eq_add_of_le h;rw [aG0];have h1:(1:Int)<=2^c:=by have:=cG c; omega
 have:=aFU h1 (aFS (cG a));omega
theorem Nz {rs:List (Int×Sd)}(ne:rs≠[])(w:∀ r∈rs,1<=r.1/\r.1<=1000)(l4:rs.length<=4):1<=fW rs/\fW rs<=4000:=by
 have:=M5 w;have:0<rs.length:=aG4.mpr ne;omega
theorem Ok.m1 {s:Sd}{d m:Nat}(ok:Ok s d m):1<=m:=by
 induction ok with
 | en _ _ h=>exact h
 | @st p rs d m k h0 h9 ne l4 w sub hk ih =>
  cases rs with
  | nil=>exact absurd rfl ne
  | cons r rs =>
   have h1:=ih r aFI;rw [aFP,aF0] at hk;omega
theorem OD {α:Type}{f:α->Nat}{m:Nat}:∀ {l:List α},(l.map f).sum<=m->∀ x∈l,f x<=m
 | y::l,h,x,hx=>by
  rw [aFP,aF0] at h;rcases aF7.mp hx with e | e
  ·subst e; omega
  ·exact OD (l:=l) (by omega) x e
def kB:Nat->Int
 | 0=>2147483648
 | d+1=>1000000000+4*kB d
theorem fr1 (v:Int):Fr.jY v 1:=⟨by decide,by simp⟩
def opn (l:Int×Int)(n:Nat)(p:Int)(rs:List (Int×Sd))(i:Nat):Int×Int:=(rs.take i).foldl (fun a r=>pls a (tms (Fr.sh r.1 (fW rs)) (bes l n r.2))) (-p,1)
end Sd
namespace L2
open PySem PySem.Spec PyProof.Rows
theorem range_all (bs:List Bool):(aHp bs.length).all (fun i=>bs.getD i false)=bs.all id:=by
 rw [aG7];simp only [aHA,aHR];constructor
 ·intro h b hb;obtain ⟨i,hi,e⟩:=aHU.mp hb;have q:=h i hi;rw [getD_at hi,e] at q;exact q
 ·intro h i hi;rw [getD_at hi];exact h _ (aGt hi)
section
variable {X:Cx}{K:PySem.W.Frag}
theorem Mu {us:List Value}{bs:List Bool}(h:bZ (bs.map V.bl) us){i:Nat}{v:Value}(e:us[i]? = some v):v=.bool (bs.getD i false):=by
 have hl:=h.length;rw [aFF] at hl;have hi:i<us.length:=(aFO.mp e).1;have e2:(bs.map V.bl)[i]? = some (.bl (bs.getD i false)):=by
  rw [aFY,aFK (by omega),getD_at (by omega)]
  rfl
 obtain ⟨u,hu,r⟩:=h.get e2;rw [e] at hu;cases hu;exact r
theorem vZ (hK:X.K=K)(hc:X.calm=true):d8 X (.builtin "all") (fun xs H Q=>∃ (a:Addr) (bs:List Bool),xs=[.ref a]/\bV K H a (bs.map V.bl)/\Q (.bl (bs.all id)) H):=by
 subst hK;intro pins s σ H xs us Q I r h;obtain ⟨a,bs,rfl,hS,q⟩:=h;obtain ⟨u,rfl,ru⟩:=vals1 r;cases (show u=Value.ref a from ru);obtain ⟨its,rv,pl,hz⟩:=I.list hS;have lt:a<s.heap.objs.size:=by obtain ⟨o,e,_⟩:=pl.isList; exact aFQ e
 have hl:=rv.length;rw [aFF] at hl;refine call_all_walk (wpAny_pyIter_list pl.isList ⟨s.heap.objs.size,_,_,_,_,_,fun i=>bs.getD i false,rfl,Walks.list (A:=X.A.in1) (I.ok.hd hc) s.heap.objs.size a (aF6 lt) its.toArray,⟨⟨_,aFV _ rfl,rfl,rfl⟩,pl.isList.push _⟩,?_,fun h' tk hk=>?_⟩)
 ·intro i v s' Q' E' hv hQ;have e:=Mu rv (i:=i) (v:=v) (by simpa using hv);rw [e];exact wpAny_truthy_bool hQ
 ·refine ⟨.bl (bs.all id),H,I.kept (t':=tk) fun b o e=>hk b o (fun z=>?_) (aFH _ e),?_,q⟩
  ·rw [aFR.mp z] at e;exact absurd (aFQ e) (aGI _)
  ·show Value.bool _=Value.bool _;rw [aFW,<- hl,range_all]
end
structure Jl (K:PySem.W.Frag)(C:Addr)(m:Str)(f:Addr):Prop where
 ga:PySem.W.specialIn K (.ref C) "__getattribute__" = some (some (.builtin "type.__getattribute__"))
 rd:PySem.W.readsIn K C (.type "type")=true
 at_:PySem.W.findCls K (.ref C) (.type "type") m=some (.val (.ref f))
 hd:PySem.W.handedIn (.ref f)=true
 kp:PySem.W.keepIn K (.ref f)=true
section
variable {X:Cx}{CX:yG}{C f:Addr}{fd:FuncData}{k:Nat}{x m:Str}{ps:List Str}{ds:List Value}{dvs:List V}{sp:Sp}{E:XK}{e:Expr}{es:List Expr}{t:TA}{p apos pos:Pos}
theorem Cy {pl:Sem Bool}(hg:Gl X x)(hm:X.mg x=some (.ref C))(c:Jl X.K C m f)(F:aX X.prog X.w X.K X.mg X.base CX k f fd ps sp)(hr:fD k X.A)(hb:Binds X.K fd ps ds)(hd:bZ dvs ds)(hx:lD CX X E)(ha:PA X (e::es) t)
  (hdb:(x==("__debug__" : Str))=false:=by decide)
  (hst:starEach (e::es) X.env=(false,eval e X.env)::starEach es X.env:=by rfl) (hpl:(backTo pos (starEach es X.env)).any (·.1)=false:=by rfl)
  (ht:eval (.Call (.Attribute (.Name x p) m apos) (e::es) [] pos) X.env=(do
   let ov <- eval (.Name x p) X.env
   standAt apos.atName
   let (f,first) <- holding [ov] (getMethod ov m pl)
   callWith pos f first (backTo pos (starEach (e::es) X.env)) (backToKw pos (keywordEach [] X.env))):=by rfl) :
  PE X (.Call (.Attribute (.Name x p) m apos) (e::es) [] pos) (wH sp dvs E t):=by
 intro pins s σ H Q I h;refine PySem.W.methodCall_KW (pl:=pl) (mG I hg hm ?_ hdb) ht;refine PySem.W.method_cls I.kIn c.ga (PySem.W.cls_value I.kIn c.rd c.at_ c.hd ?_);have I2:=I.tok (s.toks+1);refine PySem.W.callWith_K (first:=[]) (h₀:=X.base) I.ok.mod.kin c.kp (dD (ha pos pins _ σ H _ I2 h) fun us s1 ⟨vs,H1,I1,r,q⟩=>⟨I1.kIn,?_⟩) hst hpl;exact Cm F hr hb hd hx I1 r q
theorem lY {e:Expr}{t u:TE}(h1:PE X e t)(h2:PE X e u):PE X e (fun σ H Q=>t σ H Q∨u σ H Q):=fun pins s σ H Q I h=>h.elim (h1 pins s σ H Q I) (h2 pins s σ H Q I)
theorem gP {K:PySem.W.Frag}(hK:X.K=K):d8 X (.builtin "isinstance") (fun xs H Q=>∃ (x:V) (C:Addr) (t:Value) (b:Bool),xs=[x,.ref C]/\fL K H x t/\PySem.W.kitOne K t (.ref C)=some b/\Q (.bl b) H):=by
 subst hK;intro pins s σ H xs us Q I r h;obtain ⟨x,C,t,b,rfl,ty,e,q⟩:=h;obtain ⟨u,w',rfl,rx,rt⟩:=vals2 r;cases (show w'=Value.ref C from rt);exact vD I rx ty e fun tk=>⟨.bl b,H,I.tok _,rfl,q⟩
end
def dk (od:Option Addr)(a:Addr)(h:Heap):Prop:=∀ d,od=some d->∃ o,h.get? a=some o/\o.dict=some d
theorem dk.none {a:Addr}{h:Heap}:dk none a h:=fun _ z=>nomatch z
def Km (P:Program)(w:World):yG:=fun outer H s E e s' =>
 ∃ (a:Addr) (cls a0:Value) (H':Hp) (B:Heap) (od:Option Addr),e=.ref a/\s'.os=s.os/\AllBare s'.gens/\Un (qZ outer) [] H H' s.heap s'.heap/\mC P w H' s'.heap/\Heap.FlyingW B outer a cls a0 s'.heap ∧
  (∀ b o,s.heap.get? b=some o->b∉qZ outer->∃ o',B.get? b=some o')/\(∀ b u,H' b=some u->∃ o',B.get? b=some o')/\dk od a s'.heap/\E cls od H'
section
variable {P:Program}{w:World}{H H':Hp}{B h0 h1 h2:Heap}{fs:List Addr}
theorem Dc (b1:B.StaysIn h1)(b2:B.StaysIn h2){b:Addr}{o:Obj}(q:h1.get? b=some o)(x:∃ o',B.get? b=some o'):h2.get? b=some o:=by
 obtain ⟨o',e⟩:=x;have:=b1 b o' e;rw [q] at this;cases this;exact b2 b _ e
theorem Nq (u:Un fs [] H H' h0 h1)(b1:B.StaysIn h1)(b2:B.StaysIn h2)(up:h1.UpToSlots h2)(nf:∀ b∈fs,∃ o,h1.get? b=some o/\∀ vs,o.data≠.fields vs)
  (hB:∀ b o,h0.get? b=some o->b∉fs->∃ o',B.get? b=some o'):Un fs [] H H' h0 h2:=by
 refine ⟨fun b o q n hb hx=>Dc b1 b2 (u.keep b o q n hb hx) (hB b o q hb),fun b o q n hb hx=>?_,u.free,fun b o q hx=>?_,u.tups,u.frzs,u.tbls⟩
 ·obtain ⟨sl,e⟩:=u.slot b o q n hb hx;obtain ⟨o1,e1,d1⟩:=nf b hb;rw [e] at e1;cases e1;obtain ⟨sl2,e2⟩:=up b _ e d1;exact ⟨sl2,e2⟩
 ·by_cases hb:b∈fs
  ·obtain ⟨o1,e1,d1⟩:=nf b hb;obtain ⟨sl2,e2⟩:=up b _ e1 d1;exact ⟨_,e2⟩
  ·obtain ⟨o1,e1⟩:=hB b o q hb;exact ⟨_,b2 b _ e1⟩
theorem Kf (x:mC P w H h1)(b1:B.StaysIn h1)(b2:B.StaysIn h2)(hH:∀ b u,H b=some u->∃ o',B.get? b=some o'):mC P w H h2:=fun a o e =>
 (x a o e).stay (fun b u hb q=>Dc b1 b2 q (by
  rcases hb with rfl | hb
  ·exact hH _ _ e
  ·exact hH _ _ hb)) (fun _ q=>q) fun _ _ q=>q
end
theorem obj_some {P:Program}{w:World}{H:Hp}{h:Heap}{b:Addr}{u:HO}(x:b7 P w H h b u)(z:h.get? b=none):False:=by
 cases u with
 | lst xs=>obtain ⟨_,_,_,_,e⟩:=x; rw [z] at e; cases e
 | tup xs=>obtain ⟨_,_,_,_,e,_⟩:=x; rw [z] at e; cases e
 | dK kvs=>obtain ⟨_,_,_,_,o,_,_,e,_⟩:=x; rw [z] at e; cases e
 | dT kvs=>obtain ⟨_,_,_,_,o,_,_,e,_⟩:=x; rw [z] at e; cases e
 | set S n=>obtain ⟨o,_,_,_,e,_⟩:=x; rw [z] at e; cases e
 | ins C dx fs=>obtain ⟨_,_,_,e,_⟩:=x; rw [z] at e; cases e
 | own y=>obtain ⟨_,e⟩:=x; rw [z] at e; cases e
 | xd fs=>obtain ⟨_,⟨_,_,_,e,_⟩,_⟩:=x; rw [z] at e; cases e
 | rng lo hi=>obtain ⟨_,_,_,e⟩:=x; rw [z] at e; cases e
 | frz ob v=>obtain ⟨e,_⟩:=x; rw [z] at e; cases e
 | tbl ps=>have e:=(show h.get? b=some _ from x); rw [z] at e; cases e
 | met f y=>have e:=(show h.get? b=some _ from x); rw [z] at e; cases e
 | ext φ=>obtain ⟨_,⟨_,e⟩,_⟩:=x; rw [z] at e; cases e
theorem Jh {env:Env}{outer:List Env}{L b:Addr}(hf:env.frame=some L):b∈qZ (env::outer)↔b=L∨b∈qZ outer:=by
 unfold qZ;rw [aG2,hf];exact aF7
structure Fd (K:PySem.W.Frag)(C:Addr):Prop where
 isx:PySem.W.excIn K C ([.type "ValueError",.type "Exception",.type "BaseException",.type "object"]) "ValueError.__new__" = true
section
variable {X:Cx}
def Throws (X:Cx)(E:XK):Prop:=∀ (pins:List (Addr×Obj)) (σ:St) (H:Hp) (s:Shared) (h':Heap) (e:Addr) (cls:Value) (args:List Value),aW X pins σ H s->Heap.MadeExcOf s.heap h' e cls args->E cls none H ->
 X.xe (.ref e) { s with heap:=h' }
end
section
variable {P:Program}{w:World}{K:PySem.W.Frag}{mg:Str->Option Value}{base:Heap}{N:List Str}{qual:Str}{scope:Scope}{f:Addr}{cd:Value}{A:Around}{outer:List Env}{s:Shared}{H:Hp}{E:XK}
theorem pP:Throws (xP (Km P w) P w K mg base N qual scope f cd A outer s H E) E:=by
 intro pins σ H1 s1 h' e cls args I mk hE;have hfr:=I.ok.frames;have hst:=I.stack;have nsz:∀ b o,s.heap.get? b=some o->b≠s.heap.objs.size:=fun b o q z=>absurd (aFQ q) (by rw [z]; exact aGI _);have hide:∀ b o,s1.heap.get? b=some o->b∉qZ (envOfC qual scope s.heap.objs.size f cd::outer)->(PySem.W.hideAll s1.heap (qZ (envOfC qual scope s.heap.objs.size f cd::outer))).get? b=some o:=fun b o q hb=>PySem.W.hideAll_get _ q hb;have inS:∀ b o,s.heap.get? b=some o->b∉qZ outer->∃ o',(PySem.W.hideAll s1.heap (qZ (envOfC qual scope s.heap.objs.size f cd::outer))).get? b=some o':=fun b o q hb=>by
  obtain ⟨o',e'⟩:=I.base.there b o q (by show b∉([]:List Addr); simp);exact ⟨o',hide b o' e' fun z=>((Jh rfl).mp z).elim (nsz b o q) hb⟩
 have inH:∀ b u,H1 b=some u->∃ o',(PySem.W.hideAll s1.heap (qZ (envOfC qual scope s.heap.objs.size f cd::outer))).get? b=some o':=fun b u q=>by
  have lt:=I.hok.lt q;obtain ⟨o',e'⟩:∃ o',s1.heap.get? b=some o':=by
   have:=I.hok b u q;cases z:s1.heap.get? b with
   | some o'=>exact ⟨o',rfl⟩
   | none=>exact (obj_some this z).elim
  refine ⟨o',hide b o' e' fun z=>?_⟩;have:=I.stkFree b z;rw [q] at this;cases this
 show wpAny (model P w) (A.deeper (envOfC qual scope s.heap.objs.size f cd)) (leaving (envOfC qual scope s.heap.objs.size f cd) (.ref e)) _ _ _;refine wpAny_leaves_madeW (h:=s1.heap) (base:=PySem.W.hideAll s1.heap (qZ (envOfC qual scope s.heap.objs.size f cd::outer))) hfr rfl (fun b o q=>PySem.W.of_hideAll _ q)
  (PySem.W.funFrames_hide hst fun env he b hb=>aHq.mpr ⟨env,he,hb⟩) mk fun h'' t fl _ _ up=>?_
 have b1:Heap.StaysIn (PySem.W.hideAll s1.heap (qZ (envOfC qual scope s.heap.objs.size f cd::outer))) h':=fun b o q=>mk.keeps _ _ (PySem.W.of_hideAll _ q);refine ⟨e,cls,.ref t,H1,_,none,rfl,I.os,I.bare,?_,Kf (I.hok.kept mk.keeps) b1 fl.1 inH,fl,inS,inH,dk.none,hE⟩;have u1:Un (qZ outer) [] H H1 s.heap h':=Un.trans (show Un (qZ outer) [] H H1 s.heap s1.heap from I.base) (Un.kept mk.keeps);refine Nq u1 b1 fl.1 up (fun b hb=>?_) inS;obtain ⟨_,o,ho,hd⟩:=I.funs.mem hb;exact ⟨o,mk.keeps _ _ ho,hd⟩
end
end L2
namespace L2
open PySem PySem.Spec PySem.W PyProof.Rows
section
variable {X:Cx}
theorem Oq:∀ (cs:List String) (its:List Value),bZ (cs.map V.ty) its->its=cs.map Value.type:=by
 intro cs
 induction cs with
 | nil=>intro its r; cases r; rfl
 | cons c cs ih=>intro its r; cases r with | cons r1 r2=>rw [ih _ r2]; cases r1; rfl
theorem wZ {K:Frag}(hK:X.K=K):d8 X (.builtin "isinstance") (fun xs H Q=>∃ (x:V) (p:Addr) (t:Value) (cs:List String) (b:Bool),xs=[x,.ref p]/\fL K H x t/\H p=some (.tup (cs.map V.ty))/\kitAny K t (cs.map Value.type)=some b/\Q (.bl b) H):=by
 subst hK;rintro pins s σ H vs us Q I r ⟨x,p,t,cs,b,rfl,ty,ht,e,q⟩;obtain ⟨u,u2,rfl,rx,r2⟩:=vals2 r;obtain rfl:u2=Value.ref p:=r2;obtain ⟨_,its,rv,o,ho,hc,n,hd⟩:=(show b7 X.prog X.w H s.heap p (.tup (cs.map V.ty)) from I.hok p _ ht)
 obtain rfl:=Oq cs its rv;obtain ⟨oc,od,oda,osl⟩:=o;dsimp only at hc hd;subst hc;subst hd;have fin:∀ tk,EP X pins σ Q (.bool b) { s with toks:=tk }:=fun tk=>⟨.bl b,H,I.tok _,rfl,q⟩
 cases ty with
 | non=>cases (show u=Value.none from rx); exact kia_tup kitx_none I.kIn True.intro ho e (fun z=>nomatch z) fin
 | bl y=>cases (show u=Value.bool y from rx); exact kia_tup kitx_bool I.kIn True.intro ho e (fun z=>nomatch z) fin
 | int i=>obtain ⟨t,z⟩:=(show ∃ t,u=Value.int i t from rx); cases z; exact kia_tup kitx_int I.kIn True.intro ho e (fun z=>nomatch z) fin
 | str y=>obtain ⟨t,z⟩:=(show ∃ t,u=Value.str y t from rx); cases z; exact kia_tup kitx_str I.kIn True.intro ho e (fun z=>nomatch z) fin
 | flt y=>obtain ⟨t,z⟩:=(show ∃ t,u=Value.float y t from rx); cases z; exact kia_tup kitx_float I.kIn True.intro ho e (fun z=>nomatch z) fin
 | @lst a xs ea =>
  cases (show u=Value.ref a from rx);obtain ⟨_,_,n,_,h1⟩:=(show b7 X.prog X.w H s.heap a (.lst xs) from I.hok a _ ea)
  exact kia_tup kitx_list I.kIn ⟨_,h1,rfl⟩ ho e (fun z=>nomatch z) fin
 | @frz a ob xs ea =>
  cases (show u=Value.ref a from rx);obtain ⟨_,_,_,n,_,h1⟩:=(show b7 X.prog X.w H s.heap a (.frz ob (.lst xs)) from I.hok a _ ea)
  exact kia_tup kitx_list I.kIn ⟨_,h1,rfl⟩ ho e (fun z=>nomatch z) fin
 | @tup a xs ea =>
  cases (show u=Value.ref a from rx);obtain ⟨_,_,_,pp⟩:=(show b7 X.prog X.w H s.heap a (.tup xs) from I.hok a _ ea)
  obtain ⟨o,h1,h2,_⟩:=pp;exact kia_tup kitx_tuple I.kIn ⟨o,h1,h2⟩ ho e (fun z=>nomatch z) fin
 | @dK a kvs ea =>
  cases (show u=Value.ref a from rx);obtain ⟨_,_,vs,_,pp⟩:=(show b7 X.prog X.w H s.heap a (.dK kvs) from I.hok a _ ea)
  obtain ⟨o,es,ep,h1,h2,_⟩:=pp;exact kia_tup kitx_dict I.kIn ⟨o,h1,h2.1⟩ ho e (fun z=>nomatch z) fin
 | @dT a kvs ea =>
  cases (show u=Value.ref a from rx);obtain ⟨_,_,xs,_,o,es,ep,h1,h2,_⟩:=(show b7 X.prog X.w H s.heap a (.dT kvs) from I.hok a _ ea)
  exact kia_tup kitx_dict I.kIn ⟨o,h1,h2.1⟩ ho e (fun z=>nomatch z) fin
 | @ins a C dx fs ea cl ha hn htk hm =>
  cases (show u=Value.ref a from rx);obtain ⟨mA,O,_⟩:=oX I.hok ea;obtain ⟨od,J,_⟩:=O.look;exact kia_tup (kitx_own (cl.get _) cl.hd ha hn htk hm) I.kIn J ho e (fun z=>nomatch z) fin
end
end L2
namespace L2
open PySem PySem.Spec PyProof.Rows
section
variable {X:Cx}
theorem aW.turnedLaid {pins:List (Addr×Obj)}{σ:St}{H:Hp}{s:Shared}{h':Heap}{t':Nat}{ch:List Addr}{a:Addr}{o:HO}(I:aW X pins σ H s)(hf:∀ b∈ch,jD X pins H b)
  (k:∀ b u,b∉ch->s.heap.get? b=some u->h'.get? b=some u) (hp:s.heap.objs.size<=a) (new:b7 X.prog X.w (bG H a o) h' a o):aW X pins σ (bG H a o) { s with heap:=h',toks:=t' }:=by
 have hn:=I.hok.fresh hp;have nit:∀ b u,H b=some u->b∉ch:=fun b u e z=>by rw [(hf b z).1] at e; cases e
 refine I.step (g':=s.gens) (d':=s.drawn) (ch:=ch) (fun b hb=>?_) (fun b o _ _ hc e _=>k b o hc e) (fun b o _ _ hc e _=>⟨o.slots,k b o hc e⟩) (fun b u hc e n=>?_) (fun b o hc e=>⟨o,k b o hc e⟩)
  (fun b xs e=>by rw [aK (aV e hn)]; exact e) (fun b o u e=>by rw [aK (aV e hn)]; exact e) (fun b ps e=>⟨#[],by rw [aK (aV e hn),e]; simp⟩) (fun m hm=>?_) (fun b u e=>?_) I.bare
 ·obtain ⟨_,f1,f2,f3,f4,f5⟩:=hf b hb;exact ⟨f3,f1,f4,f5⟩
 ·rw [aK (aF6 (aF5 (aFQ e) hp))];exact n
 ·obtain ⟨o,es,ep,ho,r⟩:=hm;exact ⟨o,es,ep,k _ o (fun z=>(hf _ z).2.1 rfl) ho,r⟩
 ·by_cases hb:b=a
  ·subst hb;rw [aB] at e;cases e;exact new
  ·rw [aK hb] at e;refine (I.hok b u e).stay (fun c v hc q=>k c v ?_ q) (fun c q=>by rw [aK (aV q hn)]; exact q) fun c xs q=>by rw [aK (aV q hn)]; exact q
   rcases hc with z | z
   ·rw [z]; exact nit b u e
   ·exact nit c _ z
end
theorem gD {K:PySem.W.Frag}{a:Addr}{xs:List V}{k:Nat}{g:TG}{c:TT}{te:TE}{σ:St}{H1:Hp}{D:Addr}{Q:VK}(Pv:Nat->St->Hp->Prop)(h0:Pv 0 (aGo k none++σ) (bG H1 D (.lst [])))
  (hl:∀ i τ H,i<=xs.length->Pv i τ H->bW K H a xs)
  (hs:∀ i m x τ H,m=xs.length-i->i<xs.length->xs[i]? = some x->Pv i τ H->g x τ H fun τ2 H2=>c τ2 H2 fun b H3=>if b=true then te τ2 H3 fun y H4=>∃ ys m',m'<m/\H4 D=some (.lst ys)/\ys.length<sizeLine/\CW xs.length Pv (i+1) m' τ2 (bG H4 D (.lst (ys++[y]))) else ∃ m',m'<m/\CW xs.length Pv (i+1) m' τ2 H3)
  (hd:∀ τ H,Pv xs.length τ H->Q (.ref D) H):zK k (Xf K a) g c te σ H1 D Q:=by
 refine ⟨CW xs.length Pv,⟨xs.length,rfl,aGa _,h0⟩,?_⟩;rintro i m τ H ⟨hm,hi,p⟩;have q:=hl i τ H hi p
 by_cases hlt:i<xs.length
 ·refine .inr ⟨⟨xs,xs[i],q,by simp [hlt]⟩,fun x H' y=>?_⟩;obtain ⟨e,y⟩:=y;subst e;exact hs i m x τ _ hm hlt (y xs q) p
 ·have e:i=xs.length:=by omega
  subst e;exact .inl ⟨⟨xs,q,aFM _⟩,hd τ H p⟩
theorem uT {i:Nat}{v:V}{τ:St}{H:Hp}{A B:St->Hp->Prop}(h:A (τ.set i (some v)) H):kZ i v τ H (fun τ2 H2=>Mw τ2 H2 (fun b H3=>if b=true then A τ2 H3 else B τ2 H3)):=cW (τ:=τ.set i (some v)) (A:=A (τ.set i (some v))) (B:=B (τ.set i (some v))) h
theorem Kc {K:PySem.W.Frag}{a:Addr}{xs:List V}{g:TG}{tb:TS}{D:Ends}{σ:St}{H:Hp}(Pv:Nat->St->Hp->Prop)(h0:Pv 0 σ H)(hl:∀ i σ H,i<=xs.length->Pv i σ H->bV K H a xs)
  (hs:∀ i x σ H,i<xs.length->xs[xs.length-1-i]? = some x->Pv i σ H->g x σ H fun σ2 H2=>tb { D with nx:=Pv (i+1),ct:=Pv (i+1),bk:=D.nx } σ2 H2) (hd:∀ σ H,Pv xs.length σ H->D.nx σ H) :
  ∃ W:Nat->Nat->St->Hp->Prop,(∃ m,W 0 m σ H)/\∀ i m σ H,W i m σ H ->
   ((VB K a xs).stop i H/\D.nx σ H)∨((VB K a xs).go i H/\∃ N:St->Hp->Prop,(∀ σ' H',N σ' H'->∃ m',m'<m/\W (i+1) m' σ' H')/\∀ x H',(VB K a xs).yld i H x H'->g x σ H' fun σ2 H2=>tb { D with nx:=N,ct:=N,bk:=D.nx } σ2 H2):=by
 refine ⟨fun i m σ H=>m=xs.length-i/\i<=xs.length/\Pv i σ H,⟨xs.length,by simp,aGa _,h0⟩,?_⟩;rintro i m σ H ⟨rfl,hi,p⟩;have q:=hl i σ H hi p
 by_cases hlt:i<xs.length
 ·refine .inr ⟨⟨hlt,q⟩,Pv (i+1),fun σ' H' p'=>⟨xs.length-(i+1),by omega,rfl,hlt,p'⟩,fun x H' y=>?_⟩;obtain ⟨e,y⟩:=y;subst e;exact hs i x σ _ hlt y p
 ·have e:i=xs.length:=by omega
  subst e;exact .inl ⟨aFM _,hd σ H p⟩
end L2
namespace TD
open PySem L2
open Builtin.Int (intBits)
abbrev Tq (H:Hp)(p:Addr)(x:Int×Int):Prop:=H p=some (.tup [.int x.1,.int x.2])
abbrev Is (ns:List Int):List V:=ns.map V.int
theorem dZ (ns:List Int):(Is ns).length=ns.length:=aFF _
theorem xC (xs:List Int)(y:Int):Is (xs++[y])=Is xs++[V.int y]:=by show (xs++[y]).map V.int=_; rw [aFN]; rfl
theorem U3 {ns:List Int}{i:Nat}{v:V}(h:(Is ns)[i]? = some v):∃ n,ns[i]? = some n/\v=.int n:=by
 rw [aFY] at h;cases e:ns[i]? with
 | none=>rw [e] at h; cases h
 | some n=>rw [e] at h; cases h; exact ⟨n,rfl,rfl⟩
def Ho:Sp:=fun vs H Q _=>∃ i lo hi:Int,vs=[.int i,.int lo,.int hi]/\lo<=i/\i<=hi/\Q (.bl true) H
def Qg:Sp:=fun vs H Q _=>∃ i:Int,vs=[.int i]/\∀ p H',aR H H'->Tq H' p (i,1)->Q (.ref p) H'
def N8 (K:PySem.W.Frag):Sp:=fun vs H Q _=>∃ p q a b c d,vs=[.ref p,.ref q]/\bW K H p [.int a,.int b]/\bW K H q [.int c,.int d]/\Sz a b c d/\(c*b<a*d->Q (.ref q) H)/\(¬ c*b<a*d->Q (.ref p) H)
theorem lZ {x:Int}{k:Nat}(h0:-(2^k)<x)(h1:x<2^k):intBits x<=k:=by
 refine PySem.intBits_le_iff.mpr ?_;have e:((2^k:Nat):Int)=2^k:=by push_cast; rfl
 omega
theorem Dz {t b N k:Int}{n j:Nat}(f:Sd.Fq t b N k)(hN:0<N)(hn:N<=2^n)(k0:0<=k)(hj:k<=2^j):intBits b<=n+1/\intBits t<=n+j+1:=by
 have bp:=f.fr.pos;have bl:=aHl hN f.dv;have e1:b<=2^n:=aGb bl hn;have e2:k*b<=2^j*2^n:=aGb (aFT hj (aFS bp)) (aFU e1 (aFS (Sd.cG j)));rw [<- aG0,Nat.add_comm] at e2;have p1:(2:Int)^(n+1)=2*2^n:=by rw [aGA]; omega
 have p2:(2:Int)^(n+j+1)=2*2^(n+j):=by rw [aGA]; omega
 have q1:=Sd.cG n;have q2:=Sd.cG (n+j);have l:=f.lo;have h:=f.hi;exact ⟨lZ (by omega) (by omega),lZ (by omega) (by omega)⟩
structure GT (xs:List Row)(n:Nat)(W M k:Int):Prop where
 ne:xs≠[]
 len:xs.length<=n
 w1:∀ x∈xs,1<=x.w
 ws:wsum xs<=W
 mp:0<M
 fq:∀ x∈xs,Sd.Fq x.t x.b M k
structure Cp (n:Nat)(W M k:Int):Prop where
 n:n<=12
 w:W<=2^600
 m:M<=2^1600
 k0:0<=k
 k:k<=2^1600
theorem lJ {xs:List Row}(w1:∀ x∈xs,1<=x.w):∀ {x:Row},x∈xs->x.w<=wsum xs:=by
 induction xs with
 | nil=>intro x h; cases h
 | cons y ys ih =>
  intro x hx;have e:wsum (y::ys)=y.w+wsum ys:=by unfold wsum; rw [aFP,aF0]
  have y1:=w1 y aFI;have n0:0<=wsum ys:=by
   clear ih hx
   induction ys with
   | nil=>exact aGp _
   | cons z zs ih =>
    have e:wsum (z::zs)=z.w+wsum zs:=by unfold wsum; rw [aFP,aF0]
    have z1:=w1 z (aFG _ aFI);have:=ih (fun x hx=>by
     rcases aF7.mp hx with h | h
     ·subst h; exact y1
     ·exact w1 x (aFG _ (aFG _ h))) (by unfold wsum; rw [aFP,aF0])
    omega
  rcases aF7.mp hx with h | h
  ·subst h; omega
  ·have:=ih (fun x hx=>w1 x (aFG _ hx)) h;omega
theorem GT.bits {xs:List Row}{n:Nat}{W M k:Int}(g:GT xs n W M k)(c:Cp n W M k){x:Row}(hx:x∈xs):intBits x.b<=1601/\intBits x.t<=3201:=by
 have:=Dz (g.fq x hx) g.mp c.m c.k0 c.k;omega
theorem GT.pb {xs:List Row}{n:Nat}{W M k:Int}(g:GT xs n W M k)(c:Cp n W M k):PB xs:=fun x hx=>by
 have b:=g.bits c hx;have w:=lJ g.w1 hx;have w2:=g.ws;have w3:=c.w;have e:(2:Int)^600<=Ad:=by decide +kernel
 exact ⟨(g.fq x hx).fr,by omega,by omega,g.w1 x hx,by omega⟩
theorem GT.tot {xs:List Row}{n:Nat}{W M k:Int}(g:GT xs n W M k):1<=wsum xs:=by
 cases xs with
 | nil=>exact absurd rfl g.ne
 | cons x xs =>
  have:=lJ g.w1 (x:=x) aFI;have:=g.w1 x aFI;omega
def Jg (H:Hp)(a:Addr)(xs:List Row):Prop:=H a=some (.tup (refs xs))/\∀ x∈xs,iK H x
def be:Nat->Nat
 | 0=>1
 | d+1=>be d+(12*(d+1)+1)
def ka:Nat->Nat
 | 0=>30
 | d+1=>ka d+(12*(d+1)+1)*12+1
def wB (d m:Nat):Int:=2^((12*d+1)*m)
def kK (d:Nat):Int:=2^ka d
theorem Ec {d m:Nat}{M:Int}(hd:d<=4)(hm:m<=12)(hM:M<=2^(be d*m)):Cp m (wB d m) M (kK d):=by
 have b:be d<=125:=by
  rcases (by omega:d=0∨d=1∨d=2∨d=3∨d=4) with z | z | z | z | z <;> subst z <;> decide
 have a:ka d<=1600:=by
  rcases (by omega:d=0∨d=1∨d=2∨d=3∨d=4) with z | z | z | z | z <;> subst z <;> decide
 refine ⟨hm,Sd.eG ?_,aGb hM (Sd.eG ?_),aFS (Sd.cG _),Sd.eG a⟩
 ·calc (12*d+1)*m<=49*m:=aGy _ (by omega)
   _<=49*12:=aGg _ hm
   _<=600:=by decide
 ·calc be d*m<=125*m:=aGy _ b
   _<=125*12:=aGg _ hm
   _<=1600:=by decide
end TD
namespace Tb
def gQ (l0 l1:Int)(r:Rw):Rw:=if l0*r.b<r.t*l1 then ⟨l0,l1,r.w⟩ else r
end Tb
namespace TD
open PySem L2
open Builtin.Int (intBits)
structure Ent where
 p:Addr
 w:Int
 a:Addr
 ys:List Row
def vU (H:Hp)(e:Ent):Prop:=H e.p=some (.tup [.int e.w,.ref e.a])/\TabAt H e.a e.ys
def oZ (es:List Ent):List V:=es.map fun e=>V.ref e.p
structure tQ (H:Hp)(a:Addr)(es:List Ent):Prop where
 lst:H a=some (.lst (oZ es))
 ents:∀ e∈es,vU H e
theorem vU.same {H H':Hp}{e:Ent}(s:aR H H')(h:vU H e):vU H' e:=⟨s _ _ h.1,h.2.same s⟩
theorem tQ.same {H H':Hp}{a:Addr}{es:List Ent}(s:aR H H')(h:tQ H a es):tQ H' a es:=⟨s _ _ h.lst,fun e he=>(h.ents e he).same s⟩
theorem oJ (es:List Ent):(oZ es).length=es.length:=aFF _
theorem Ah {es:List Ent}{i:Nat}{v:V}(h:(oZ es)[i]? = some v):∃ x,es[i]? = some x/\v=.ref x.p:=by
 unfold oZ at h;rw [aFY] at h;cases e:es[i]? with
 | none=>rw [e] at h; cases h
 | some x=>rw [e] at h; cases h; exact ⟨x,rfl,rfl⟩
theorem Cq (xs:List Ent)(y:Ent):oZ (xs++[y])=oZ xs++[V.ref y.p]:=by unfold oZ; rw [aFN]; rfl
def o9 (S:Int)(e:Ent):Int:=e.w*S.fdiv (wsum e.ys)
def partsOf (S:Int)(es:List Ent):List Tb.Rw:=es.flatMap fun e=>e.ys.map fun y=>⟨y.t,y.b,o9 S e*y.w⟩
def cF (es:List Ent):List Int:=es.map fun e=>wsum e.ys
theorem xO (S:Int)(es:List Ent)(e:Ent):partsOf S (es++[e])=partsOf S es++e.ys.map fun y=>⟨y.t,y.b,o9 S e*y.w⟩:=by
 unfold partsOf;rw [List.flatMap_append];simp
def bO (xs:List Row):Int:=cM (xs.map Row.b)
theorem Bg {m n:Int}(hn:0<n):cN m n=m*(Fr.sh m n).2:=by
 unfold cN Fr.sh Fr.dv;rw [if_neg (by omega)]
theorem Aq {m n M:Int}(hn:0<n)(h1:m∣M)(h2:n∣M):cN m n∣M:=by
 rw [Bg hn];obtain ⟨a,ea⟩:=h1;obtain ⟨b,eb⟩:=h2;have d1:=Fr.xB m n;have d2:=Fr.tG m n;have dn:=Fr.yL (t:=m) (aF8 hn);have h:(Fr.sh m n).2∣(Fr.sh m n).1*a:=by
  refine ⟨b,aGY dn ?_⟩;have e1:(Fr.sh m n).1*a*Fr.dv m n=((Fr.sh m n).1*Fr.dv m n)*a:=by grind
  have e2:(Fr.sh m n).2*b*Fr.dv m n=((Fr.sh m n).2*Fr.dv m n)*b:=by grind
  rw [e1,e2,d1,d2,<- ea,<- eb]
 obtain ⟨c,hc⟩:=Fr.W9 (Fr.Cd (t:=m) (aF8 hn)) h;exact ⟨c,by rw [ea,hc]; grind⟩
theorem o4:∀ (ns:List Int) (m M:Int),(∀ n∈ns,0<n)->m∣M->(∀ n∈ns,n∣M)->ns.foldl cN m∣M
 | [],_,_,_,h,_=>h
 | n::ns,m,M,hp,h,hd=>o4 ns _ M (fun k hk=>hp k (aFG _ hk)) (Aq (hp n aFI) h (hd n aFI)) fun k hk=>hd k (aFG _ hk)
theorem Aw {ns:List Int}{M:Int}(hp:∀ n∈ns,0<n)(hd:∀ n∈ns,n∣M):cM ns∣M:=o4 ns 1 M hp ⟨M,(aHV _).symm⟩ hd
theorem Dr {ns:List Int}(hp:∀ n∈ns,0<n):cM ns<=Sd.eF ns:=aHl (Sd.mO hp) (Aw hp fun n hn=>Sd.pU hn)
theorem GT.bp {xs:List Row}{n:Nat}{W M k:Int}(g:GT xs n W M k):∀ b∈xs.map Row.b,0<b:=fun b hb=>by
 obtain ⟨x,hx,rfl⟩:=aFL.mp hb;exact (g.fq x hx).fr.pos
theorem GT.lcm {xs:List Row}{n:Nat}{W M k:Int}(g:GT xs n W M k):0<bO xs/\bO xs∣M/\∀ x∈xs,x.b∣bO xs:=by
 obtain ⟨a,b⟩:=Df g.bp;exact ⟨a,Aw g.bp fun b hb=>by obtain ⟨x,hx,rfl⟩:=aFL.mp hb; exact (g.fq x hx).dv,fun x hx=>b _ (aFL.mpr ⟨x,hx,rfl⟩)⟩
theorem GT.own {xs:List Row}{n:Nat}{W M k:Int}(g:GT xs n W M k):GT xs n W (bO xs) k/\bO xs<=M:=by
 obtain ⟨a,b,c⟩:=g.lcm;exact ⟨⟨g.ne,g.len,g.w1,g.ws,a,fun x hx=>⟨(g.fq x hx).fr,c x hx,(g.fq x hx).lo,(g.fq x hx).hi⟩⟩,aHl g.mp b⟩
theorem Du {r:Tb.Rw}(hr:1<=r.w):∀ {ys:List Tb.Rw},ys.Pairwise Tb.Lt->(ys.map fun y=>if r.t=y.t/\r.b=y.b then r.w else 0).sum<=r.w
 | [],_=>by show (0:Int)<=r.w; omega
 | y::ys,h=>by
  obtain ⟨h1,h2⟩:=aGR.mp h;rw [aFP,aF0]
  by_cases e:r.t=y.t/\r.b=y.b
  ·rw [if_pos e];have z:(ys.map fun y=>if r.t=y.t/\r.b=y.b then r.w else 0).sum=0:=by
    have:∀ zs:List Tb.Rw,(∀ z∈zs,Tb.Lt y z)->(zs.map fun y=>if r.t=y.t/\r.b=y.b then r.w else 0).sum=0:=by
     intro zs
     induction zs with
     | nil=>intro _; rfl
     | cons z zs ih =>
      intro hz;rw [aFP,aF0,ih fun x hx=>hz x (aFG _ hx),if_neg fun q=>Tb.J1 (hz z aFI) (e.1.symm.trans q.1) (e.2.symm.trans q.2)]
      rfl
    exact this ys h1
   omega
  ·rw [if_neg e];have:=Du hr h2;omega
theorem Gk {ys:List Tb.Rw}(so:ys.Pairwise Tb.Lt):∀ {ps:List Tb.Rw},(∀ r∈ps,1<=r.w)->(ys.map fun y=>Tb.Wt ps y.t y.b).sum<=Tb.W ps
 | [],_=>by
  have:∀ zs:List Tb.Rw,(zs.map fun y=>Tb.Wt [] y.t y.b).sum=0:=by
   intro zs
   induction zs with
   | nil=>rfl
   | cons z zs ih=>rw [aFP,aF0,ih]; rfl
  rw [this];exact aGp _
 | r::ps,h=>by
  have ih:=Gk so (ps:=ps) fun x hx=>h x (aFG _ hx);have k:=Du (h r aFI) so;have e:∀ zs:List Tb.Rw,(zs.map fun y=>Tb.Wt (r::ps) y.t y.b).sum=(zs.map fun y=>if r.t=y.t/\r.b=y.b then r.w else 0).sum+(zs.map fun y=>Tb.Wt ps y.t y.b).sum:=by
   intro zs
   induction zs with
   | nil=>rfl
   | cons z zs ih =>
    rw [aFP,aF0,aFP,aF0,aFP,aF0,ih,Tb.jX];omega
  rw [e,Tb.fV];omega
theorem Out.sum {ps:List Tb.Rw}{ys:List Row}(o:Out ps ys)(h:∀ r∈ps,1<=r.w):wsum ys<=Tb.W ps:=by
 have s:=Gk o.tab.lt h;have le:∀ zs:List Row,(∀ y∈zs,y.w<=Tb.Wt ps y.t y.b)->wsum zs<=((cQ zs).map fun y=>Tb.Wt ps y.t y.b).sum:=by
  intro zs
  induction zs with
  | nil=>intro _; exact aGp _
  | cons z zs ih =>
   intro hz;have e:wsum (z::zs)=z.w+wsum zs:=by unfold wsum; rw [aFP,aF0]
   have e2:cQ (z::zs)=z.r::cQ zs:=rfl;rw [e,e2,aFP,aF0];have h1:=hz z aFI;have h2:=ih fun y hy=>hz y (aFG _ hy);have h3:Tb.Wt ps z.r.t z.r.b=Tb.Wt ps z.t z.b:=rfl;omega
 exact aGb (le ys fun y hy=>(o.w y hy).2) s
structure GM (es:List Ent)(k0:Nat)(W0 kk:Int):Prop where
 ne:es≠[]
 len:es.length<=4
 k:k0<=12
 n:es.length*k0<=48
 w:∀ e∈es,1<=e.w/\e.w<=1000
 g:∀ e∈es,GT e.ys k0 W0 (bO e.ys) kk
 c:∀ e∈es,Cp k0 W0 (bO e.ys) kk
theorem GM.tp {es:List Ent}{k0:Nat}{W0 kk:Int}(g:GM es k0 W0 kk):∀ n∈cF es,0<n/\n<=2^600:=fun n hn=>by
 obtain ⟨e,he,rfl⟩:=aFL.mp hn;have:=(g.g e he).tot;have:=(g.g e he).ws;have:=(g.c e he).w;omega
theorem GM.tb {es:List Ent}{k0:Nat}{W0 kk:Int}(g:GM es k0 W0 kk):(∀ n∈cF es,intBits n<=601)/\((cF es).map intBits).sum<=2404:=by
 have e1:∀ n∈cF es,intBits n<=601:=fun n hn=>by
  have:=g.tp n hn;have p1:(2:Int)^601=2*2^600:=by rw [aGA]; omega
  have q1:=Sd.cG 600;exact lZ (by omega) (by omega)
 have h:=nQ (k:=601) (l:=(cF es).map intBits) fun n hn=>by
  obtain ⟨z,hz,rfl⟩:=aFL.mp hn;exact e1 z hz
 have l:=g.len;have e:((cF es).map intBits).length=es.length:=by rw [aFF]; unfold cF; rw [aFF]
 rw [e] at h;exact ⟨e1,by omega⟩
theorem GM.S {es:List Ent}{k0:Nat}{W0 kk:Int}(g:GM es k0 W0 kk):0<cM (cF es)/\cM (cF es)<=2^2400/\intBits (cM (cF es))<=2405/\∀ e∈es,wsum e.ys∣cM (cF es):=by
 have tp:∀ n∈cF es,0<n:=fun n hn=>(g.tp n hn).1;obtain ⟨a,b⟩:=Df tp;have l:=g.len;have pl:=Sd.Ag (e:=600) g.tp;have e:(cF es).length=es.length:=by unfold cF; rw [aFF]
 rw [e] at pl;have hb:=vG (cF es);have:=g.tb.2;exact ⟨a,aGb (aGb (Dr tp) pl) (Sd.eG (by omega)),by omega,fun e he=>b _ (aFL.mpr ⟨e,he,rfl⟩)⟩
theorem yE {S:Int}{e:Ent}(hp:1<=wsum e.ys)(d:wsum e.ys∣S):o9 S e*wsum e.ys=e.w*S:=by
 unfold o9;obtain ⟨s,es⟩:=d;have q1:S.fdiv (wsum e.ys)=s:=by rw [es]; exact aG6 _ (by omega)
 rw [q1,es]
 grind
theorem K6 {S:Int}{e:Ent}(hw:1<=e.w)(hp:1<=wsum e.ys)(hS:0<S)(d:wsum e.ys∣S):1<=o9 S e:=by
 have h:=yE hp d;have p:0<e.w*S:=aGD (by omega) hS;rcases Int.lt_or_le 0 (o9 S e) with z | z
 ·omega
 ·have:=aG8 z (show (0:Int)<=wsum e.ys by omega);omega
theorem GM.part {es:List Ent}{k0:Nat}{W0 kk:Int}(g:GM es k0 W0 kk){e:Ent}(he:e∈es){y:Row}(hy:y∈e.ys):1<=o9 (cM (cF es)) e*y.w/\o9 (cM (cF es)) e*y.w<=1000*cM (cF es):=by
 obtain ⟨Sp,_,_,Sd'⟩:=g.S;have ge:=g.g e he;have w:=g.w e he;have f1:=K6 w.1 ge.tot Sp (Sd' e he);have y1:=ge.w1 y hy;have y2:=lJ ge.w1 hy;have a:=yE ge.tot (Sd' e he);have b:=aFU y2 (show 0<=o9 (cM (cF es)) e by omega);have c:=aFT w.2 (aFS Sp);have d:1*1<=o9 (cM (cF es)) e*y.w:=Int.mul_le_mul f1 y1 (by decide) (by omega);omega
theorem GM.pb {es:List Ent}{k0:Nat}{W0 kk:Int}(g:GM es k0 W0 kk){e:Ent}(he:e∈es){y:Row}(hy:y∈e.ys):Fr.jY y.t y.b/\intBits y.t<=4000/\intBits y.b<=4000/\1<=o9 (cM (cF es)) e*y.w/\o9 (cM (cF es)) e*y.w<=Ad:=by
 have b:=(g.g e he).bits (g.c e he) hy;have p:=g.part he hy;have s:=g.S.2.1;have m:(1000:Int)*2^2400<=Ad:=by decide +kernel
 exact ⟨((g.g e he).fq y hy).fr,by omega,by omega,p.1,by omega⟩
theorem Ef {S:Int}:∀ {es:List Ent},(∀ e∈es,1<=wsum e.ys/\wsum e.ys∣S/\e.w<=1000)->0<=S->Tb.W (partsOf S es)<=1000*(es.length:Int)*S
 | [],_,_=>by show (0:Int)<=_; simp
 | e::es,h,hS=>by
  have ih:=Ef (es:=es) (fun x hx=>h x (aFG _ hx)) hS;obtain ⟨h1,h2,h3⟩:=h e aFI;have e1:partsOf S (e::es)=(e.ys.map fun y=>⟨y.t,y.b,o9 S e*y.w⟩)++partsOf S es:=rfl;have e2:∀ zs:List Row,Tb.W (zs.map fun y=>(⟨y.t,y.b,o9 S e*y.w⟩:Tb.Rw))=o9 S e*wsum zs:=by
   intro zs
   induction zs with
   | nil=>show (0:Int)=_*0; simp
   | cons z zs ih =>
    have e:wsum (z::zs)=z.w+wsum zs:=by unfold wsum; rw [aFP,aF0]
    rw [aFP,Tb.fV,ih,e,Int.mul_add]
  rw [e1,Tb.yW,e2,yE h1 h2,aGf];have:=aFT h3 hS
  push_cast
  have e3:1000*((es.length:Int)+1)*S=1000*(es.length:Int)*S+1000*S:=by grind
  rw [e3];omega
theorem FJ {S:Int}{es:List Ent}{t b:Int}(h:Tb.rO (partsOf S es) t b):∃ e∈es,∃ y∈e.ys,y.t=t/\y.b=b:=by
 obtain ⟨p,hp,e1,e2⟩:=h;obtain ⟨e,he,hq⟩:=aIk.mp hp;obtain ⟨y,hy,rfl⟩:=aFL.mp hq;exact ⟨e,he,y,hy,e1,e2⟩
theorem GM.out {es:List Ent}{k0:Nat}{W0 kk:Int}{ys:List Row}(g:GM es k0 W0 kk)(o:Out (partsOf (cM (cF es)) es) ys)(hl:ys.length<=es.length*k0) :
  GT ys (es.length*k0) (4000*Sd.eF (cF es)) (Sd.eF (es.map fun e=>bO e.ys)) kk:=by
 obtain ⟨Sp,_,_,Sd'⟩:=g.S;have tp:∀ n∈cF es,0<n:=fun n hn=>(g.tp n hn).1;have pw:∀ r∈partsOf (cM (cF es)) es,1<=r.w:=fun r hr=>by
  obtain ⟨e,he,hq⟩:=aIk.mp hr;obtain ⟨y,hy,rfl⟩:=aFL.mp hq;exact (g.part he hy).1
 have pne:partsOf (cM (cF es)) es≠[]:=by
  cases es with
  | nil=>exact absurd rfl g.ne
  | cons e es =>
   intro z;have h1:=(List.append_eq_nil_iff.mp (show (e.ys.map fun y=>(⟨y.t,y.b,o9 _ e*y.w⟩:Tb.Rw))++partsOf _ es=[] from z)).1;exact (g.g e aFI).ne (aGF.mp h1)
 have wp:=Ef (S:=cM (cF es)) (es:=es) (fun e he=>⟨(g.g e he).tot,Sd' e he,(g.w e he).2⟩) (aFS Sp);have sl:=Dr tp;have l:=g.len;have mpos:∀ n∈es.map (fun e=>bO e.ys),0<n:=fun n hn=>by
  obtain ⟨e,he,rfl⟩:=aFL.mp hn;exact (g.g e he).mp
 refine ⟨o.ne pne,hl,fun y hy=>(o.w y hy).1,?_,Sd.mO mpos,fun y hy=>?_⟩
 ·have a:=o.sum pw;have b:1000*(es.length:Int)*cM (cF es)<=4000*cM (cF es):=aFT (by omega) (aFS Sp);omega
 ·obtain ⟨p,hp,e1,e2⟩:=o.key hy;obtain ⟨e,he,z,hz,e3,e4⟩:=FJ ⟨p,hp,e1,e2⟩;have f:=(g.g e he).fq z hz;rw [e3,e4] at f;exact Sd.Fq.mono f (Sd.pU (aFL.mpr ⟨e,he,rfl⟩)) (aGp _)
theorem GT.cm {xs:List Row}{n:Nat}{W M k:Int}(g:GT xs n W M k):Tb.CM (bO xs) (cQ xs):=by
 obtain ⟨a,b,c⟩:=g.lcm;refine ⟨a,fun r hr=>?_⟩;obtain ⟨x,hx,rfl⟩:=aFL.mp hr;exact ⟨(g.fq x hx).fr.pos,c x hx⟩
theorem GT.tab {xs:List Row}{n:Nat}{W M k:Int}(g:GT xs n W M k)(so:(cQ xs).Pairwise Tb.Lt):Tb.Tab (bO xs) (cQ xs) :=
 ⟨g.cm,fun r hr=>by obtain ⟨x,hx,rfl⟩:=aFL.mp hr; exact g.w1 x hx,so.imp fun h=>aFS h⟩
theorem YB {B k:Int}{r:Tb.Rw}(hb:0<r.b)(hB:0<B)(d:r.b∣B)(lo:-(k*r.b)<=r.t)(hi:r.t<=k*r.b):-(k*B)<=Tb.T B r/\Tb.T B r<=k*B:=by
 obtain ⟨c,hc,e,q⟩:=Tb.cof hb hB d;unfold Tb.T;rw [q,e];have h1:=aFT lo (aFS hc);have h2:=aFT hi (aFS hc);have e1:-(k*r.b)*c = -(k*(r.b*c)):=by grind
 have e2:k*r.b*c=k*(r.b*c):=by grind
 rw [e1] at h1;rw [e2] at h2;exact ⟨h1,h2⟩
theorem MT {B k:Int}(kB:0<=k*B):∀ {rs:List Tb.Rw},(∀ r∈rs,1<=r.w/\-(k*B)<=Tb.T B r/\Tb.T B r<=k*B)->-(k*B*Tb.W rs)<=Tb.WT B rs/\Tb.WT B rs<=k*B*Tb.W rs
 | [],_=>by simp [Tb.W,Tb.WT]
 | r::rs,h=>by
  obtain ⟨a,b⟩:=MT kB (rs:=rs) fun x hx=>h x (aFG _ hx);obtain ⟨w1,l,u⟩:=h r aFI;rw [Tb.rK,Tb.fV];have h1:=aFU l (show 0<=r.w by omega);have h2:=aFU u (show 0<=r.w by omega);have e1:r.w * -(k*B) = -(k*B*r.w):=by grind
  have e2:r.w*(k*B)=k*B*r.w:=by grind
  have e3:k*B*(r.w+Tb.W rs)=k*B*r.w+k*B*Tb.W rs:=by grind
  rw [e1] at h1;rw [e2] at h2;rw [e3];omega
theorem Od {rs:List Tb.Rw}(h:∀ r∈rs,1<=r.w)(j:Nat):0<=Tb.W (rs.drop j)/\Tb.W (rs.drop j)<=Tb.W rs:=by
 have nn:∀ zs:List Tb.Rw,(∀ r∈zs,1<=r.w)->0<=Tb.W zs:=by
  intro zs
  induction zs with
  | nil=>intro _; exact aGp _
  | cons z zs ih =>
   intro hz;rw [Tb.fV];have:=hz z aFI;have:=ih fun x hx=>hz x (aFG _ hx);omega
 have e:Tb.W rs=Tb.W (rs.take j)+Tb.W (rs.drop j):=by rw [<- Tb.yW,aHi]
 have a:=nn (rs.take j) fun r hr=>h r (List.mem_of_mem_take hr);have b:=nn (rs.drop j) fun r hr=>h r (aGZ hr);omega
theorem GT.lp {xs:List Row}{n:Nat}{W M k p tops ws:Int}{i:Nat}(g:GT xs n W M k)(k0:0<=k)(p0:0<=p)(l:Tb.Lp (bO xs) (p*Tb.W (cQ xs)*bO xs) (cQ xs) i tops ws) :
  0<=ws/\ws<=wsum xs/\-((p+k)*wsum xs*bO xs)<=tops/\tops<=(p+k)*wsum xs*bO xs:=by
 have cm:=g.cm;have Bp:=cm.pos;have w1:∀ r∈cQ xs,1<=r.w:=fun r hr=>by obtain ⟨x,hx,rfl⟩:=aFL.mp hr; exact g.w1 x hx
 have wd:=Od w1 ((cQ xs).length-i);have kB:0<=k*bO xs:=aGE k0 (aFS Bp);have wt:=MT kB (rs:=(cQ xs).drop ((cQ xs).length-i)) fun r hr=>by
  obtain ⟨x,hx,rfl⟩:=aFL.mp (aGZ hr);have f:=g.fq x hx;exact ⟨g.w1 x hx,YB (r:=x.r) f.fr.pos Bp (g.lcm.2.2 x hx) f.lo f.hi⟩
 have ew:=l.ew;have et:=l.et;rw [<- ew] at wd wt;have m:=aFU wd.2 kB;have P0:0<=p*Tb.W (cQ xs)*bO xs:=aGE (aGE p0 (by omega)) (aFS Bp);have e:(p+k)*wsum xs*bO xs=p*Tb.W (cQ xs)*bO xs+k*bO xs*Tb.W (cQ xs):=by rw [pW]; grind
 rw [e,pW];exact ⟨wd.1,wd.2,by omega,by omega⟩
theorem Ms {tops ws B k:Int}(hw:1<=ws)(hB:0<B)(k0:0<=k)(lo:-(k*B)<=tops)(hi:tops<=k*B):Sd.FQ (Fr.sh tops (ws*B)) (ws*B) k:=by
 have p:0<ws*B:=aGD (by omega) hB;have kb:0<=k*B:=aGE k0 (aFS hB);have e:k*(ws*B)=k*B*ws:=by grind
 have h:k*B*1<=k*B*ws:=aFU hw kb;exact Sd.RK (u:=tops) p rfl (by rw [e]; omega) (by rw [e]; omega)
def LK:Sp:=fun vs H Q _=>∃ (a:Addr) (xs:List Row) (p:Int) (n:Nat) (W k:Int),vs=[.ref a,.int p]/\TabAt H a xs/\GT xs n W (bO xs) k/\Cp n W (bO xs) k/\(cQ xs).Pairwise Tb.Lt/\0<=p/\p<=1000000000 ∧
 ∀ (r:Addr) (H':Hp) (l:Int×Int) (u:Int),aR H H'->Tq H' r l->1<=u->u<=wsum xs->Sd.FQ l (u*bO xs) ((p+k)*wsum xs)->Tb.Lv (bO xs) (p*Tb.W (cQ xs)*bO xs) l.1 l.2 (cQ xs)->Q (.ref r) H'
theorem Ni {xs ys:List Row}{n:Nat}{W M k l0 l1:Int}(g:GT xs n W M k)(f:Sd.Fq l0 l1 M k)(o:Out ((cQ xs).map (Tb.gQ l0 l1)) ys)(hl:ys.length<=xs.length):GT ys n W M k:=by
 have cw:∀ r:Tb.Rw,(Tb.gQ l0 l1 r).w=r.w:=fun r=>by unfold Tb.gQ; split <;> rfl
 have pw:∀ r∈(cQ xs).map (Tb.gQ l0 l1),1<=r.w:=fun r hr=>by
  obtain ⟨p,hp,rfl⟩:=aFL.mp hr;obtain ⟨x,hx,rfl⟩:=aFL.mp hp;rw [cw];exact g.w1 x hx
 have eW:∀ rs:List Tb.Rw,Tb.W (rs.map (Tb.gQ l0 l1))=Tb.W rs:=by
  intro rs
  induction rs with
  | nil=>rfl
  | cons r rs ih=>rw [aFP,Tb.fV,Tb.fV,ih,cw]
 have s:=o.sum pw;rw [eW,<- pW] at s;refine ⟨o.ne fun z=>g.ne (aGF.mp (aGF.mp z)),aFJ hl g.len,fun y hy=>(o.w y hy).1,aGb s g.ws,g.mp,fun y hy=>?_⟩;obtain ⟨p,hp,e1,e2⟩:=o.key hy;obtain ⟨q,hq,rfl⟩:=aFL.mp hp;obtain ⟨x,hx,rfl⟩:=aFL.mp hq;rw [<- e1,<- e2];unfold Tb.gQ
 split
 ·exact f
 ·exact g.fq x hx
def Gi (Pt:Addr)(lp:Pos):Sp:=fun vs H Q _=>∃ (a l:Addr) (xs:List Row) (x:Int×Int) (n:Nat) (W M k:Int),vs=[.ref a,.ref l]/\TabAt H a xs/\GT xs n W M k/\Cp n W M k/\Tq H l x/\Sd.FQ x M k/\dF Pt lp gU H ∧
 ∀ (r:Addr) (H':Hp) (ys:List Row),cD Pt H H'->dF Pt lp gU H'->H r=none->TabAt H' r ys->GT ys n W M k->Out ((cQ xs).map (Tb.gQ x.1 x.2)) ys->Q (.ref r) H'
def Hh (Pt:Addr)(lp:Pos):Sp:=fun vs H Q _=>∃ (a:Addr) (es:List Ent) (k0:Nat) (W0 kk:Int),vs=[.ref a]/\tQ H a es/\GM es k0 W0 kk/\dF Pt lp gU H ∧
 ∀ (r:Addr) (H':Hp) (ys:List Row),cD Pt H H'->dF Pt lp gU H'->H r=none->TabAt H' r ys->GT ys (es.length*k0) (4000*Sd.eF (cF es)) (Sd.eF (es.map fun e=>bO e.ys)) kk->Out (partsOf (cM (cF es)) es) ys->ys.length<=(partsOf (cM (cF es)) es).length->Q (.ref r) H'
def Gb (xs:List Row)(d m:Nat):Prop:=GT xs m (wB d m) (bO xs) (kK d)/\bO xs<=2^(be d*m)
theorem Gb.up {xs:List Row}{d k:Nat}(h:Gb xs d k)(hk:k<=12):Gb xs d 12:=by
 obtain ⟨g,l⟩:=h;have a:wB d k<=wB d 12:=Sd.eG (aGg _ hk);exact ⟨⟨g.ne,aFJ g.len hk,g.w1,aGb g.ws a,g.mp,g.fq⟩,aGb l (Sd.eG (aGg _ hk))⟩
inductive Ae (d:Nat)(f:Int×Sd.Sd->Nat):List Ent->List (Int×Sd.Sd)->Prop
 | nil:Ae d f [] []
 | cons {e:Ent}{t:Int×Sd.Sd}{es:List Ent}{rs:List (Int×Sd.Sd)} (g:Gb e.ys d (f t)) (h:Ae d f es rs):Ae d f (e::es) (t::rs)
theorem Ae.snoc {d:Nat}{f:Int×Sd.Sd->Nat}{es:List Ent}{rs:List (Int×Sd.Sd)}(h:Ae d f es rs){e:Ent}{t:Int×Sd.Sd}(g:Gb e.ys d (f t)):Ae d f (es++[e]) (rs++[t]):=by
 induction h with
 | nil=>exact .cons g .nil
 | cons g' _ ih=>exact .cons g' ih
structure AeB (d n:Nat)(es:List Ent):Prop where
 t0:0<Sd.eF (cF es)
 t:Sd.eF (cF es)<=2^((12*d+1)*n)
 l:Sd.eF (es.map fun e=>bO e.ys)<=2^(be d*n)
 p:∀ S,(partsOf S es).length<=n
theorem Ae.b {d:Nat}{f:Int×Sd.Sd->Nat}{es:List Ent}{rs:List (Int×Sd.Sd)}(h:Ae d f es rs):AeB d (rs.map f).sum es:=by
 induction h with
 | nil=>exact ⟨by decide,by show (1:Int)<=_; simp,by show (1:Int)<=_; simp,fun _=>aGa _⟩
 | @cons e t es rs g _ ih =>
  have a:=g.1.tot;have b:=g.1.ws;unfold wB at b;have c:=g.1.mp;have e1:cF (e::es)=wsum e.ys::cF es:=rfl;have lp:0<Sd.eF (es.map fun e=>bO e.ys)∨True:=.inr trivial;rw [aFP,aF0];refine ⟨?_,?_,?_,fun S=>?_⟩
  ·rw [e1]; exact aGD (by omega) ih.t0
  ·rw [e1,aG9,aG0];exact aGb (aFT b (aFS ih.t0)) (aFU ih.t (aFS (Sd.cG _)))
  ·rw [aFP,aG9,aG0];exact aGb (aFU ih.l (aFS c)) (aFT g.2 (aFS (Sd.cG _)))
  ·have e2:partsOf S (e::es)=(e.ys.map fun y=>⟨y.t,y.b,o9 S e*y.w⟩)++partsOf S es:=rfl;rw [e2,aFZ,aFF];have:=g.1.len;have:=ih.p S;omega
theorem Ae.all {d:Nat}{f:Int×Sd.Sd->Nat}{es:List Ent}{rs:List (Int×Sd.Sd)}(h:Ae d f es rs)(hf:∀ t∈rs,f t<=12):∀ e∈es,Gb e.ys d 12:=by
 induction h with
 | nil=>intro e he; cases he
 | @cons e t es rs g _ ih =>
  intro x hx;rcases aF7.mp hx with z | z
  ·subst z; exact g.up (hf t aFI)
  ·exact ih (fun u hu=>hf u (aFG _ hu)) x z
theorem W3 {es:List Ent}{d:Nat}(hd:d<=4)(ne:es≠[])(l4:es.length<=4)(w:∀ e∈es,1<=e.w/\e.w<=1000)(g:∀ e∈es,Gb e.ys d 12):GM es 12 (wB d 12) (kK d) :=
 ⟨ne,l4,by decide,by omega,w,fun e he=>(g e he).1,fun e he=>Ec hd (by decide) (g e he).2⟩
structure Mx (es:List Ent)(ys:List Row)(d m:Nat):Prop where
 g:GT ys m (wB (d+1) m) (bO ys) (kK d)
 l:bO ys<=2^(be d*m)
theorem TY {es:List Ent}{ys:List Row}{d m n n0:Nat}(ab:AeB d n es)(hn:n<=m)(hm1:1<=m)(o:ys.length<=n)(h:GT ys n0 (4000*Sd.eF (cF es)) (Sd.eF (es.map fun e=>bO e.ys)) (kK d)):Mx es ys d m:=by
 have x2:(12*d+1)*n<=(12*d+1)*m:=aGg _ hn;have x3:12+(12*d+1)*m<=(12*(d+1)+1)*m:=by
  have:(12*(d+1)+1)*m=12*m+(12*d+1)*m:=by rw [show 12*(d+1)+1=12+(12*d+1) by omega,aHa]
  omega
 have y2:be d*n<=be d*m:=aGg _ hn;have W1:4000*Sd.eF (cF es)<=wB (d+1) m:=by
  have a:4000*Sd.eF (cF es)<=2^12*Sd.eF (cF es):=aFT (by decide) (aFS ab.t0);have b:(2:Int)^12*Sd.eF (cF es)<=2^12*2^((12*d+1)*n):=aFU ab.t (by decide);rw [<- aG0] at b;have c:(2:Int)^(12+(12*d+1)*n)<=wB (d+1) m:=Sd.eG (by omega);omega
 obtain ⟨o1,o2⟩:=h.own;have M1:bO ys<=2^(be d*m):=aGb (aGb o2 ab.l) (Sd.eG (by omega));exact ⟨⟨o1.ne,aFJ o hn,o1.w1,aGb o1.ws W1,o1.mp,o1.fq⟩,M1⟩
theorem Mx.cp {es:List Ent}{ys:List Row}{d m:Nat}(x:Mx es ys d m)(hd:d+1<=4)(hm:m<=12):Cp m (wB (d+1) m) (bO ys) (kK d):=by
 have a:=Ec (d:=d) (by omega) hm x.l;have b:=Ec (d:=d+1) (m:=m) (M:=1) hd hm (by have:=Sd.cG (be (d+1)*m); omega);exact ⟨hm,b.w,a.m,a.k0,a.k⟩
theorem k30 (d:Nat):(1000000000:Int)<=kK d:=by
 have h:30<=ka d:=by
  induction d with
  | zero=>exact aFM _
  | succ d ih=>show 30<=ka d+(12*(d+1)+1)*12+1; omega
 have:=Sd.eG h;have e:(2:Int)^30=1073741824:=by decide
 unfold kK;omega
structure Lx (ys:List Row)(l:Int×Int)(M k:Int)(d m:Nat):Prop where
 g:GT ys m (wB (d+1) m) M k
 c:Cp m (wB (d+1) m) M k
 f:Sd.FQ l M k
 m:M<=2^(be (d+1)*m)
 k:k<=kK (d+1)
theorem QZ {es:List Ent}{ys:List Row}{d m:Nat}{p u:Int}{l:Int×Int}(x:Mx es ys d m)(hd:d+1<=4)(hm:m<=12)(p0:0<=p)(p9:p<=1000000000)(u1:1<=u)(u2:u<=wsum ys)(f:Sd.FQ l (u*bO ys) ((p+kK d)*wsum ys)) :
  Lx ys l (u*bO ys) ((p+kK d)*wsum ys) d m:=by
 have kp:=Sd.cG (ka d);have kp:0<kK d:=kp;have k9:=k30 d;have ws:=x.g.ws;have w1:=x.g.tot;have mp:=x.g.mp;have wp:(0:Int)<wB (d+1) m:=Sd.cG _;have kk:kK d<=(p+kK d)*wsum ys:=by
  have a:(p+kK d)*1<=(p+kK d)*wsum ys:=aFU w1 (by omega);omega
 have M1:u*bO ys<=2^(be (d+1)*m):=by
  have a:u*bO ys<=wB (d+1) m*2^(be d*m):=aGb (aFT (aGb u2 ws) (aFS mp)) (aFU x.l (aFS wp));unfold wB at a;rw [<- aG0] at a;refine aGb a (Sd.eG ?_);have e:be (d+1)*m=be d*m+(12*(d+1)+1)*m:=by rw [<- aHa]; rfl
  omega
 have K1:(p+kK d)*wsum ys<=kK (d+1):=by
  have a:(p+kK d)*wsum ys<=(2*kK d)*wB (d+1) m:=aGb (aFT (by omega) (by omega)) (aFU ws (by omega));have e:(2*kK d)*wB (d+1) m=2^(ka d+1+(12*(d+1)+1)*m):=by
   unfold kK wB;rw [aG0,aGA]
   grind
  rw [e] at a;refine aGb a (Sd.eG ?_);show _<=ka d+(12*(d+1)+1)*12+1;have:=aGg (12*(d+1)+1) hm;omega
 have c1:=Ec (d:=d+1) hd hm M1;refine ⟨⟨x.g.ne,x.g.len,x.g.w1,x.g.ws,aGD (by omega) mp,fun y hy=>Sd.Fq.mono (x.g.fq y hy) ⟨u,by grind⟩ kk⟩,⟨hm,c1.w,c1.m,by omega,aGb K1 c1.k⟩,f,M1,K1⟩
theorem WK {ys zs:List Row}{l:Int×Int}{M k:Int}{d m:Nat}(x:Lx ys l M k d m)(g:GT zs m (wB (d+1) m) M k):Gb zs (d+1) m:=by
 obtain ⟨a,b⟩:=g.own;exact ⟨⟨a.ne,a.len,a.w1,a.ws,a.mp,fun y hy=>Sd.Fq.mono (a.fq y hy) (aHH _) x.k⟩,aGb b x.m⟩
end TD
namespace Sd
def V (x:Int×Int):Rat:=(x.1:Rat)/(x.2:Rat)
def vW (a b:Rat):Rat:=if a<b then b else a
def rb (l:Rat):Nat->Sd->Rat
 | 0,_=>0
 | _+1,.en v=>vW l (v:Rat)
 | n+1,.st p rs=>vW l (rs.foldl (fun a r=>a+(r.1:Rat)/(fW rs:Rat)*rb l n r.2) (-(p:Rat)))
def W8 (l:Rat):Nat->Sd->Rat
 | 0,_=>0
 | _+1,.en v=>(v:Rat)
 | n+1,.st p rs=>rs.foldl (fun a r=>a+(r.1:Rat)/(fW rs:Rat)*rb l n r.2) (-(p:Rat))
theorem N7 (l:Rat)(n:Nat)(s:Sd):rb l (n+1) s=vW l (W8 l (n+1) s):=by cases s <;> rfl
theorem fH {b:Int}(h:0<b):(0:Rat)<(b:Rat):=by exact_mod_cast h
theorem lC {b:Int}(h:0<b):(b:Rat)≠0:=by have:=fH h; grind
theorem V_lt {x y:Int×Int}(hx:0<x.2)(hy:0<y.2):x.1*y.2<y.1*x.2↔V x<V y:=by
 have p1:=fH hx;have p2:=fH hy;have n1:=lC hx;have n2:=lC hy;have e1:V x*(x.2:Rat)=(x.1:Rat):=by unfold V; grind
 have e2:V y*(y.2:Rat)=(y.1:Rat):=by unfold V; grind
 have pp:(0:Rat)<(x.2:Rat)*(y.2:Rat):=Rat.mul_pos p1 p2;have c:x.1*y.2<y.1*x.2↔(x.1:Rat)*(y.2:Rat)<(y.1:Rat)*(x.2:Rat):=by
  constructor
  ·intro h; exact_mod_cast h
  ·intro h; exact_mod_cast h
 rw [c,<- e1,<- e2];constructor
 ·intro h
  by_cases z:V x<V y
  ·exact z
  ·have:=aGN (aHI.mp z) (c:=(x.2:Rat)*(y.2:Rat)) (by grind)
   grind
 ·intro h;have:=aHo h pp
  grind
def cv (r:Tb.Rw):Rat:=(r.t:Rat)/(r.b:Rat)
def up (l:Rat)(ys:List Tb.Rw):Rat:=(ys.map fun r=>(r.w:Rat)*(vW l (cv r)-l)).sum
def cZ (ys:List Tb.Rw):Rat:=(ys.map fun r=>(r.w:Rat)).sum
theorem pR (l:Rat):up l []=0:=rfl
theorem fY (l:Rat)(r:Tb.Rw)(ys:List Tb.Rw):up l (r::ys)=(r.w:Rat)*(vW l (cv r)-l)+up l ys:=by unfold up; rw [aFP,aF0]
theorem gR (r:Tb.Rw)(ys:List Tb.Rw):cZ (r::ys)=(r.w:Rat)+cZ ys:=by unfold cZ; rw [aFP,aF0]
theorem Fv (l:Rat)(xs ys:List Tb.Rw):up l (xs++ys)=up l xs+up l ys:=by unfold up; rw [aFN,aHL]
theorem Am (xs ys:List Tb.Rw):cZ (xs++ys)=cZ xs+cZ ys:=by unfold cZ; rw [aFN,aHL]
theorem uG:∀ ys:List Tb.Rw,cZ ys=((Tb.W ys:Int):Rat)
 | []=>rfl
 | r::ys=>by rw [gR,Tb.fV,uG ys]; push_cast; rfl
theorem DR {f:Int->Int->Rat}{r:Tb.Rw}:∀ {ys:List Tb.Rw},ys.Pairwise Tb.Lt->((ys.map fun y=>(((if r.t=y.t/\r.b=y.b then r.w else 0:Int)):Rat)*f y.t y.b).sum=if (∃ y∈ys,y.t=r.t/\y.b=r.b) then (r.w:Rat)*f r.t r.b else 0)
 | [],_=>by simp
 | y::ys,so=>by
  obtain ⟨h1,h2⟩:=aGR.mp so;rw [aFP,aF0,DR (f:=f) (r:=r) h2]
  by_cases e:r.t=y.t/\r.b=y.b
  ·have no:¬ ∃ z∈ys,z.t=r.t/\z.b=r.b:=by
    rintro ⟨z,hz,e1,e2⟩;exact Tb.J1 (h1 z hz) (by omega) (by omega)
   rw [if_pos e,if_neg no,if_pos ⟨y,aFI,e.1.symm,e.2.symm⟩,<- e.1,<- e.2]
   grind
  ·rw [if_neg e]
   by_cases h:∃ z∈ys,z.t=r.t/\z.b=r.b
   ·obtain ⟨z,hz,ez⟩:=h;rw [if_pos ⟨z,hz,ez⟩,if_pos ⟨z,aFG _ hz,ez⟩]
    push_cast
    grind
   ·rw [if_neg h,if_neg]
    ·push_cast
     grind
    ·rintro ⟨z,hz,ez⟩;rcases aF7.mp hz with w | w
     ·subst w; exact e ⟨ez.1.symm,ez.2.symm⟩
     ·exact h ⟨z,w,ez⟩
theorem El {α:Type}{f g:α->Rat}:∀ l:List α,(l.map fun x=>f x+g x).sum=(l.map f).sum+(l.map g).sum
 | []=>by show (0:Rat)=0+0; grind
 | x::l=>by rw [aFP,aF0,El l,aFP,aF0,aFP,aF0]; grind
theorem xW {α:Type}{f:α->Rat}(d:Rat):∀ l:List α,(l.map fun x=>d*f x).sum=d*(l.map f).sum
 | []=>by simp
 | x::l=>by rw [aFP,aF0,xW d l,aFP,aF0]; grind
theorem zU {ys:List Tb.Rw}(so:ys.Pairwise Tb.Lt)(f:Int->Int->Rat):∀ {ps:List Tb.Rw},(∀ r∈ps,Tb.rO ys r.t r.b)->(ps.map fun r=>(r.w:Rat)*f r.t r.b).sum=(ys.map fun y=>((Tb.Wt ps y.t y.b:Int):Rat)*f y.t y.b).sum
 | [],_=>by
  have e:(ys.map fun y=>((Tb.Wt [] y.t y.b:Int):Rat)*f y.t y.b)=ys.map fun y=>(0:Rat)*f y.t y.b:=aGu fun y _=>rfl;rw [e,xW];simp
 | r::ps,h=>by
  rw [aFP,aF0,zU so f fun x hx=>h x (aFG _ hx)];have e:(ys.map fun y=>((Tb.Wt (r::ps) y.t y.b:Int):Rat)*f y.t y.b)=ys.map fun y=>(((if r.t=y.t/\r.b=y.b then r.w else 0:Int)):Rat)*f y.t y.b+((Tb.Wt ps y.t y.b:Int):Rat)*f y.t y.b:=aGu fun y _=>by
   rw [Tb.jX]
   push_cast
   grind
  rw [e,El,DR so,if_pos];obtain ⟨y,hy,e1,e2⟩:=h r aFI;exact ⟨y,hy,e1,e2⟩
theorem yK {ps ys:List Tb.Rw}(h:Tb.Ak ps ys):∃ d:Rat,0<d/\(∀ l,up l ps=d*up l ys)/\cZ ps=d*cZ ys:=by
 obtain ⟨d,d0,hd⟩:=h.d;have hh:∀ r∈ps,Tb.rO ys r.t r.b:=fun r hr=>(h.has r.t r.b).mpr ⟨r,hr,rfl,rfl⟩;have key:∀ f:Int->Int->Rat,(ps.map fun r=>(r.w:Rat)*f r.t r.b).sum=(d:Rat)*(ys.map fun y=>(y.w:Rat)*f y.t y.b).sum:=fun f=>by
  rw [zU h.lt f hh,<- xW]
  congr 1
  refine aGu fun y hy=>?_;rw [hd y hy]
  push_cast
  grind
 refine ⟨(d:Rat),fH d0,fun l=>key fun t b=>vW l ((t:Rat)/(b:Rat))-l,?_⟩;have k1:=key fun _ _=>1;unfold cZ;have e:∀ l:List Tb.Rw,(l.map fun r=>(r.w:Rat)*1)=l.map fun r=>(r.w:Rat):=fun l=>aGu fun r _=>by grind
 rw [e,e] at k1;exact k1
theorem Nx (a b:Rat):a<=vW a b:=by unfold vW; split <;> grind
theorem WM {l:Rat}:∀ {ys:List Tb.Rw},(∀ r∈ys,1<=r.w)->0<=up l ys
 | [],_=>by rw [pR]; grind
 | r::ys,h=>by
  have a:=WM (l:=l) (ys:=ys) fun x hx=>h x (aFG _ hx);have w:=fH (show 0<r.w by have:=h r aFI; omega);have m:=Nx l (cv r);have b:0<=(r.w:Rat)*(vW l (cv r)-l):=Rat.mul_nonneg (by grind) (by grind);rw [fY]
  grind
theorem DY {l l':Rat}(h:l<=l'):∀ {ys:List Tb.Rw},(∀ r∈ys,1<=r.w)->up l' ys<=up l ys
 | [],_=>by rw [pR,pR]; grind
 | r::ys,hw=>by
  have a:=DY h (ys:=ys) fun x hx=>hw x (aFG _ hx);have w:=fH (show 0<r.w by have:=hw r aFI; omega);have m:vW l' (cv r)-l'<=vW l (cv r)-l:=by unfold vW; split <;> split <;> grind
  have b:=aGP m (c:=(r.w:Rat)) (by grind);rw [fY,fY]
  grind
theorem Hk {ys:List Tb.Rw}(ne:ys≠[])(h:∀ r∈ys,1<=r.w):0<cZ ys:=by
 rw [uG];exact fH (Tb.Hg h ne)
theorem N5 {l0 l1:Int}(hl:0<l1){r:Tb.Rw}(hb:0<r.b):cv (Tb.gQ l0 l1 r)=(if V (l0,l1)<cv r then V (l0,l1) else cv r)/\(Tb.gQ l0 l1 r).w=r.w:=by
 have e:=V_lt (x:=(l0,l1)) (y:=(r.t,r.b)) hl hb;have e:l0*r.b<r.t*l1↔V (l0,l1)<cv r:=e;unfold Tb.gQ
 by_cases h:l0*r.b<r.t*l1
 ·rw [if_pos h,if_pos (e.mp h)];exact ⟨rfl,rfl⟩
 ·rw [if_neg h,if_neg (fun z=>h (e.mpr z))];exact ⟨rfl,rfl⟩
theorem Bo {l0 l1:Int}(hl:0<l1){l:Rat}:∀ {ys:List Tb.Rw},(∀ r∈ys,0<r.b)->up l (ys.map (Tb.gQ l0 l1))=(if l<V (l0,l1) then up l ys-up (V (l0,l1)) ys else 0)/\cZ (ys.map (Tb.gQ l0 l1))=cZ ys
 | [],_=>by
  constructor
  ·simp only [aHG,pR]; split <;> grind
  ·rfl
 | r::ys,h=>by
  obtain ⟨a,b⟩:=Bo (l0:=l0) hl (l:=l) (ys:=ys) fun x hx=>h x (aFG _ hx);obtain ⟨c,d⟩:=N5 (l0:=l0) hl (h r aFI);rw [aFP,fY,gR,a,b,c,d,gR,fY,fY];refine ⟨?_,rfl⟩;unfold vW
  by_cases h1:l<V (l0,l1)
  ·rw [if_pos h1,if_pos h1]
   by_cases h2:V (l0,l1)<cv r
   ·simp only [if_pos h2];rw [if_pos h1,if_pos (show l<cv r by grind)]
    grind
   ·simp only [if_neg h2]
    by_cases h3:l<cv r
    ·rw [if_pos h3]; grind
    ·rw [if_neg h3]; grind
  ·rw [if_neg h1,if_neg h1];have:¬ l<(if V (l0,l1)<cv r then V (l0,l1) else cv r):=by split <;> grind
   rw [if_neg this]
   grind
theorem Nf {B l0 l1:Int}(hB:0<B)(hl:0<l1):∀ {ys:List Tb.Rw},(∀ r∈ys,0<r.b/\r.b∣B)->((Tb.S B l0 l1 ys:Int):Rat)=(B:Rat)*(l1:Rat)*up (V (l0,l1)) ys
 | [],_=>by rw [pR]; show ((0:Int):Rat)=_; push_cast; grind
 | r::ys,h=>by
  have a:=Nf (l0:=l0) hB hl (ys:=ys) fun x hx=>h x (aFG _ hx);obtain ⟨hb,dv⟩:=h r aFI;have tm:=Tb.Hf hb hB dv;have ai:=Tb.GK (l0:=l0) (l1:=l1) hb hB dv;have e:=V_lt (x:=(l0,l1)) (y:=(r.t,r.b)) hl hb;have e:l0*r.b<r.t*l1↔V (l0,l1)<cv r:=e;have n1:=lC hB;have n2:=lC hl;have n3:=lC hb;have tm':((Tb.T B r:Int):Rat)*(r.b:Rat)=(r.t:Rat)*(B:Rat):=by exact_mod_cast tm
  rw [Tb.rT,fY]
  push_cast
  rw [a];unfold Tb.mx vW
  by_cases c:V (l0,l1)<cv r
  ·rw [if_pos (ai.mpr (e.mpr c)),if_pos c]
   push_cast
   unfold V cv;have t2:((Tb.T B r:Int):Rat)=(r.t:Rat)*(B:Rat)/(r.b:Rat):=by grind
   rw [t2]
   grind
  ·rw [if_neg (fun z=>c (e.mp (ai.mp z))),if_neg c]
   push_cast
   grind
structure LvR (p:Int)(L:Rat)(ys:List Tb.Rw):Prop where
 has:up L ys=(p:Rat)*cZ ys
 more:∀ m:Rat,m<L->(p:Rat)*cZ ys<up m ys
theorem Li (m:Rat):V (m.num,(m.den:Int))=m:=by
 unfold V;show (m.num:Rat)/((m.den:Int):Rat)=m;rw [<- Rat.divInt_eq_div,Rat.num_divInt_den]
theorem Mq {B p l0 l1:Int}{ys:List Tb.Rw}(hB:0<B)(h:∀ r∈ys,0<r.b/\r.b∣B)(L:Tb.Lv B (p*Tb.W ys*B) l0 l1 ys):LvR p (V (l0,l1)) ys:=by
 have n1:=lC hB;have n2:=lC L.pos;have q1:=fH hB;constructor
 ·have a:=Nf (l0:=l0) hB L.pos h;rw [L.has] at a
  push_cast at a
  rw [uG]
  grind
 ·intro m hm;have mp:(0:Int)<(m.den:Int):=by exact_mod_cast m.den_pos
  have lt:=(V_lt (x:=(m.num,(m.den:Int))) (y:=(l0,l1)) mp L.pos).mpr (by rw [Li]; exact hm);have b:=L.more m.num m.den lt;have a:=Nf (l0:=m.num) hB mp h;rw [Li] at a;have b':((p*Tb.W ys*B*(m.den:Int):Int):Rat)<((Tb.S B m.num m.den ys:Int):Rat):=by exact_mod_cast b
  rw [a] at b'
  push_cast at b'
  have q2:=fH mp
  push_cast at q2
  have q3:(0:Rat)<(B:Rat)*(m.den:Rat):=Rat.mul_pos q1 q2;rw [uG]
  by_cases z:(p:Rat)*((Tb.W ys:Int):Rat)<up m ys
  ·exact z
  ·have:=aGN (aHI.mp z) (c:=(B:Rat)*(m.den:Rat)) (by grind)
   grind
end Sd
namespace Sd
open TD
structure Mt (s:Sd)(d:Nat)(lv:Int×Int)(ys:List Tb.Rw):Prop where
 a:∀ n,d<n->∀ l:Rat,(rb l n s-l)*cZ ys=up l ys
 b:∀ l:Rat,0<up l ys↔l<V lv
 c:∀ n,d<n->W8 (V lv) n s=V lv
 t:0<cZ ys
inductive Al (d:Nat):List Ent->List (Int×Sd)->Prop
 | nil:Al d [] []
 | cons {e:Ent}{t:Int×Sd}{es:List Ent}{rs:List (Int×Sd)} (w:e.w=t.1) (m:∃ lv,Mt t.2 d lv (cQ e.ys)) (h:Al d es rs):Al d (e::es) (t::rs)
theorem Al.snoc {d:Nat}{es:List Ent}{rs:List (Int×Sd)}(h:Al d es rs){e:Ent}{t:Int×Sd}(w:e.w=t.1)(m:∃ lv,Mt t.2 d lv (cQ e.ys)):Al d (es++[e]) (rs++[t]):=by
 induction h with
 | nil=>exact .cons w m .nil
 | cons w' m' _ ih=>exact .cons w' m' ih
theorem zM (l:Rat)(k:Int):∀ ys:List Row,up l (ys.map fun y=>⟨y.t,y.b,k*y.w⟩)=(k:Rat)*up l (cQ ys)/\cZ (ys.map fun y=>(⟨y.t,y.b,k*y.w⟩:Tb.Rw))=(k:Rat)*cZ (cQ ys)
 | []=>by
  constructor
  ·show (0:Rat)=(k:Rat)*0; grind
  ·show (0:Rat)=(k:Rat)*0; grind
 | y::ys=>by
  obtain ⟨a,b⟩:=zM l k ys;have e:cQ (y::ys)=y.r::cQ ys:=rfl;rw [aFP,fY,gR,a,b,e,fY,gR];have e2:cv y.r=cv ⟨y.t,y.b,k*y.w⟩:=rfl;have e3:y.r.w=y.w:=rfl;rw [e2,e3]
  push_cast
  constructor <;> grind
theorem JS {S:Int}{d n:Nat}(hn:d<n)(l:Rat){es:List Ent}{rs:List (Int×Sd)}(al:Al d es rs):(∀ e∈es,1<=wsum e.ys/\wsum e.ys∣S) ->
  up l (partsOf S es)=(S:Rat)*(rs.map fun t=>(t.1:Rat)*(rb l n t.2-l)).sum/\cZ (partsOf S es)=(S:Rat)*((fW rs:Int):Rat):=by
 induction al with
 | nil =>
  intro _;constructor
  ·show (0:Rat)=(S:Rat)*0; grind
  ·show (0:Rat)=(S:Rat)*((0:Int):Rat); push_cast; grind
 | @cons e t es rs w m _ ih =>
  intro h;obtain ⟨a,b⟩:=ih fun x hx=>h x (aFG _ hx);obtain ⟨h1,h2⟩:=h e aFI;obtain ⟨lv,mt⟩:=m;have ef:=yE h1 h2;have ew:cZ (cQ e.ys)=((wsum e.ys:Int):Rat):=by rw [uG,pW]
  have ef':((o9 S e:Int):Rat)*cZ (cQ e.ys)=(t.1:Rat)*(S:Rat):=by
   rw [ew,<- w]
   exact_mod_cast ef
  have ma:=mt.a n hn l;have pe:partsOf S (e::es)=(e.ys.map fun y=>(⟨y.t,y.b,o9 S e*y.w⟩:Tb.Rw))++partsOf S es:=rfl;obtain ⟨u1,u2⟩:=zM l (o9 S e) e.ys;have wt:fW (t::rs)=t.1+fW rs:=by unfold fW; rw [aFP,aF0]
  rw [pe,Fv,Am,u1,u2,a,b,aFP,aF0,wt,<- ma,ef']
  push_cast
  constructor
  ·have:((o9 S e:Int):Rat)*((rb l n t.2-l)*cZ (cQ e.ys))=(rb l n t.2-l)*(((o9 S e:Int):Rat)*cZ (cQ e.ys)):=by grind
   rw [this,ef']
   grind
  ·grind
theorem BJ (W l:Rat)(n:Nat):∀ (rs:List (Int×Sd)) (z:Rat),rs.foldl (fun a r=>a+(r.1:Rat)/W*rb l n r.2) z=z+(rs.map fun r=>(r.1:Rat)/W*rb l n r.2).sum
 | [],z=>by show z=z+0; grind
 | r::rs,z=>by rw [aIp,BJ W l n rs,aFP,aF0]; grind
theorem vY {W:Rat}(hW:W≠0)(l:Rat)(n:Nat):∀ rs:List (Int×Sd),(rs.map fun r=>(r.1:Rat)/W*rb l n r.2).sum=(rs.map fun t=>(t.1:Rat)*(rb l n t.2-l)).sum/W+l*((fW rs:Int):Rat)/W
 | []=>by show (0:Rat)=0/W+l*((0:Int):Rat)/W; push_cast; grind
 | r::rs=>by
  have wt:fW (r::rs)=r.1+fW rs:=by unfold fW; rw [aFP,aF0]
  rw [aFP,aF0,vY hW l n rs,aFP,aF0,wt]
  push_cast
  grind
theorem Mi {p:Int}{rs:List (Int×Sd)}(hW:0<fW rs)(l:Rat)(n:Nat):W8 l (n+1) (.st p rs)=l-(p:Rat)+(rs.map fun t=>(t.1:Rat)*(rb l n t.2-l)).sum/((fW rs:Int):Rat):=by
 have ne:=lC hW;show rs.foldl (fun a r=>a+(r.1:Rat)/(fW rs:Rat)*rb l n r.2) (-(p:Rat))=_;rw [BJ,vY ne]
 grind
theorem Sv (v:Int)(d:Nat):Mt (.en v) d (v,1) [⟨v,1,1⟩]:=by
 have e1:V (v,1)=(v:Rat):=by unfold V; push_cast; grind
 have e2:cv ⟨v,1,1⟩=(v:Rat):=e1;have e3:cZ [⟨v,1,1⟩]=1:=by rw [gR]; show ((1:Int):Rat)+0=1; push_cast; grind
 have e4:∀ l:Rat,up l [⟨v,1,1⟩]=vW l (v:Rat)-l:=fun l=>by rw [fY,e2,pR]; push_cast; grind
 refine ⟨fun n hn l=>?_,fun l=>?_,fun n hn=>?_,by rw [e3]; grind⟩
 ·obtain ⟨n,rfl⟩:∃ k,n=k+1:=⟨n-1,by omega⟩
  rw [e3,e4];show (vW l (v:Rat)-l)*1=_
  grind
 ·rw [e4,e1];unfold vW
  split <;> grind
 ·obtain ⟨n,rfl⟩:∃ k,n=k+1:=⟨n-1,by omega⟩
  rw [e1]
  rfl
theorem Pz {d:Nat}{es:List Ent}{rs:List (Int×Sd)}{S p:Int}{lv:Int×Int}{ys zs:List Tb.Rw}(al:Al d es rs)(hS:0<S)(hd:∀ e∈es,1<=wsum e.ys/\wsum e.ys∣S)(hW:0<fW rs)(o:Tb.Ak (partsOf S es) ys)(ne:ys≠[])(hw:∀ r∈ys,1<=r.w)(hb:∀ r∈ys,0<r.b)
  (lp:0<lv.2) (L:LvR p (V lv) ys) (o2:Tb.Ak (ys.map (Tb.gQ lv.1 lv.2)) zs):Mt (.st p rs) (d+1) lv zs:=by
 obtain ⟨k1,k1p,u1,t1⟩:=yK o;obtain ⟨k2,k2p,u2,t2⟩:=yK o2;have Tp:=Hk ne hw;have Wp:=fH hW;have Sp:=fH hS;obtain ⟨_,tc⟩:=Bo (l0:=lv.1) lp (l:=0) hb;have t2':cZ ys=k2*cZ zs:=by rw [<- tc,t2]
 have op:∀ n,d<n->∀ l:Rat,W8 l (n+1) (.st p rs)=l-(p:Rat)+up l ys/cZ ys:=fun n hn l=>by
  obtain ⟨a,b⟩:=JS hn l al hd;rw [Mi hW];rw [u1] at a;rw [t1] at b;have n1:((fW rs:Int):Rat)≠0:=by grind
  have n2:cZ ys≠0:=by grind
  have n3:(S:Rat)≠0:=by grind
  have n4:k1≠0:=by grind
  have c:(rs.map fun t=>(t.1:Rat)*(rb l n t.2-l)).sum*cZ ys=up l ys*((fW rs:Int):Rat):=by
   have e1:(S:Rat)*((rs.map fun t=>(t.1:Rat)*(rb l n t.2-l)).sum*cZ ys)*k1=(S:Rat)*(up l ys*((fW rs:Int):Rat))*k1:=by grind
   grind
  grind
 have cap:∀ l:Rat,k2*up l zs=if l<V lv then up l ys-(p:Rat)*cZ ys else 0:=fun l=>by
  rw [<- u2,(Bo (l0:=lv.1) lp (l:=l) hb).1];show (if l<V lv then up l ys-up (V lv) ys else 0)=_;rw [L.has]
 have key:∀ l:Rat,(vW l (l-(p:Rat)+up l ys/cZ ys)-l)*cZ ys=if l<V lv then up l ys-(p:Rat)*cZ ys else 0:=fun l=>by
  have n2:cZ ys≠0:=by grind
  have q:up l ys/cZ ys*cZ ys=up l ys:=by grind
  by_cases h:l<V lv
  ·have m:=L.more l h;have g:(p:Rat)<up l ys/cZ ys:=by
    by_cases z:(p:Rat)<up l ys/cZ ys
    ·exact z
    ·have:=aGN (aHI.mp z) (c:=cZ ys) (by grind)
     grind
   unfold vW;rw [if_pos h,if_pos (by grind)]
   grind
  ·have m:=DY (l:=V lv) (l':=l) (by grind) hw;rw [L.has] at m;have g:¬ (p:Rat)<up l ys/cZ ys:=fun z=>by
    have:=aHo z Tp
    grind
   unfold vW;rw [if_neg h,if_neg (by grind)]
   grind
 have tz:0<cZ zs:=by
  by_cases z:0<cZ zs
  ·exact z
  ·have:=aGP (aHI.mp z) (c:=k2) (by grind)
   grind
 refine ⟨fun n hn l=>?_,fun l=>?_,fun n hn=>?_,tz⟩
 ·obtain ⟨n,rfl⟩:∃ k,n=k+1:=⟨n-1,by omega⟩
  rw [N7,op n (by omega) l];have a:=key l;rw [<- cap l,t2'] at a;have n4:k2≠0:=by grind
  rw [t2']
  grind
 ·have c:=cap l;have n4:k2≠0:=by grind
  by_cases h:l<V lv
  ·have m:=L.more l h;rw [if_pos h] at c;refine ⟨fun _=>h,fun _=>?_⟩
   by_cases z:0<up l zs
   ·exact z
   ·have:=aGP (aHI.mp z) (c:=k2) (by grind)
    grind
  ·rw [if_neg h] at c;refine ⟨fun z=>?_,fun z=>absurd z h⟩;have:=Rat.mul_lt_mul_of_pos_left z k2p
   grind
 ·obtain ⟨n,rfl⟩:∃ k,n=k+1:=⟨n-1,by omega⟩
  rw [op n (by omega),L.has];have n2:cZ ys≠0:=by grind
  grind
end Sd
namespace Sd
structure Lw (l:Int×Int):Prop where
 fr:Fr.jY l.1 l.2
 b:l.2<=2^1500
 lo:-(2^1530*l.2)<=l.1
 hi:l.1<=2^1530*l.2
theorem p30:(1000000000:Int)<=2^1530:=by decide +kernel
def nE:Nat->Sd->Int
 | 0,_=>0
 | _+1,.en _=>1
 | n+1,.st _ rs=>(rs.map fun r=>nE n r.2).sum
def YC (l:List Int):Int:=l.foldl max 0
def nS:Nat->Sd->Int
 | 0,_=>0
 | _+1,.en _=>0
 | n+1,.st _ rs=>1+YC (rs.map fun r=>nS n r.2)
theorem yI:∀ (l:List Int) (a:Int),a<=l.foldl max a/\(∀ x∈l,x<=l.foldl max a)/\(l.foldl max a=a∨l.foldl max a∈l)
 | [],a=>⟨aGp _,(fun _ h=>nomatch h),.inl rfl⟩
 | y::l,a=>by
  obtain ⟨h1,h2,h3⟩:=yI l (max a y);rw [aIp];refine ⟨by omega,fun x hx=>?_,?_⟩
  ·rcases aF7.mp hx with e | e
   ·subst e; omega
   ·exact h2 x e
  ·rcases h3 with e | e
   ·rw [e]
    by_cases z:a<=y
    ·right; rw [show max a y=y by omega]; exact aFI
    ·left; omega
   ·exact .inr (aFG _ e)
theorem NT {l:List Int}{M:Int}(h0:∀ x∈l,0<=x)(hm:M∈l)(hx:∀ x∈l,x<=M):M=YC l:=by
 obtain ⟨h1,h2,h3⟩:=yI l 0;have a:=h2 M hm;unfold YC;rcases h3 with e | e
 ·have:=h0 M hm;omega
 ·have:=hx _ e;omega
theorem Ok.nE {s:Sd}{d m:Nat}(ok:Ok s d m):∀ n,d<n->nE n s<=(m:Int):=by
 induction ok with
 | en _ _ hm=>intro n hn; obtain ⟨n,rfl⟩:∃ k,n=k+1:=⟨n-1,by omega⟩; show (1:Int)<=_; omega
 | @st p rs d m k h0 h9 ne l4 w sub hk ih =>
  intro n hn;obtain ⟨n,rfl⟩:∃ k,n=k+1:=⟨n-1,by omega⟩
  show (rs.map fun r=>Sd.nE n r.2).sum<=_;have key:∀ l:List (Int×Sd),(∀ r∈l,r∈rs)->(l.map fun r=>Sd.nE n r.2).sum<=(((l.map k).sum:Nat):Int):=by
   intro l
   induction l with
   | nil=>intro _; exact aGp _
   | cons r l ih2 =>
    intro h;have a:=ih2 fun x hx=>h x (aFG _ hx);have b:=ih r (h r aFI) n (by omega);rw [aFP,aF0,aFP,aF0]
    push_cast
    omega
  have a:=key rs fun r hr=>hr;omega
end Sd
namespace TD
open PySem L2
open Builtin.Int (intBits)
structure Cs where
 e:Addr
 s:Addr
def fB (n k:Int)(l cp:Addr):List (Str×V):=[("end_count",.int n),("stage_count",.int k),("level",.ref l),("cap_rows",.ref cp)]
def fE (n k:Int)(l cp:Addr)(v:Int):List (Str×V):=[("end_count",.int n),("stage_count",.int k),("level",.ref l),("cap_rows",.ref cp),("worth",.int v)]
def fS (n k:Int)(l cp:Addr)(p:Int)(r:Addr):List (Str×V):=[("end_count",.int n),("stage_count",.int k),("level",.ref l),("cap_rows",.ref cp),("price",.int p),("rows",.ref r)]
structure Mz (H:Hp)(l cp:Addr)(s:Sd.Sd)(lq:Int×Int)(xs:List Row)(n k:Int)(d m:Nat):Prop where
 lv:Tq H l lq
 caps:Jg H cp xs
 gs:Gb xs d m
 so:(cQ xs).Pairwise Tb.Lt
 n1:1<=n
 nm:n<=(m:Int)
 k0:0<=k
 kd:k<=(d:Int)
 mt:Sd.Mt s d lq (cQ xs)
 lw:Sd.Lw lq
 nx:n=Sd.nE (d+1) s
 kx:k=Sd.nS (d+1) s
inductive eO (c:Cs)(H:Hp):Addr->Sd.Sd->Nat->Nat->Prop
 | en {x dx l cp:Addr}{v n k:Int}{d m:Nat}{xs:List Row} (h:H x=some (.ins c.e dx (fE n k l cp v))) (vv:Mz H l cp (.en v) (v,1) xs n k d m) (ok:Sd.Ok (.en v) d m):eO c H x (.en v) d m
 | st {x dx l cp r:Addr}{p n k:Int}{lv:Int×Int}{d m:Nat}{j:Int×Sd.Sd->Nat}{xs:List Row}{rs:List (Int×Sd.Sd)}{ps ys:List Addr} (h:H x=some (.ins c.s dx (fS n k l cp p r))) (vv:Mz H l cp (.st p rs) lv xs n k (d+1) m) (g:H r=some (.tup (ps.map V.ref)))
   (lp:ps.length=rs.length) (ly:ys.length=rs.length) (row:∀ (i:Nat) q y t,ps[i]? = some q->ys[i]? = some y->rs[i]? = some t->H q=some (.tup [.int t.1,.ref y])) (sub:∀ (i:Nat) y t,ys[i]? = some y->rs[i]? = some t->eO c H y t.2 d (j t))
   (p0:0<=p) (p9:p<=1000000000) (ne:rs≠[]) (l4:rs.length<=4) (w:∀ r∈rs,1<=r.1/\r.1<=1000) (hk:(rs.map j).sum<=m):eO c H x (.st p rs) (d+1) m
def Kp (H H':Hp):Prop:=∀ b o,H b=some o->(∀ ps,o≠.tbl ps)->(∀ C dx,o≠.ins C dx [])->H' b=some o
theorem aR.kp {H H':Hp}(s:aR H H'):Kp H H':=fun b o h _ _=>s b o h
theorem cD.kp {P:Addr}{pos:Pos}{qual:Str}{H H':Hp}(s:cD P H H')(t:dF P pos qual H):Kp H H':=fun b o h n _=>s.get t h n
theorem Kp.trans {H H1 H2:Hp}(a:Kp H H1)(b:Kp H1 H2):Kp H H2:=fun c o h n m=>b c o (a c o h n m) n m
theorem Kp.tup {H H':Hp}(k:Kp H H'){b:Addr}{xs:List V}(h:H b=some (.tup xs)):H' b=some (.tup xs):=k _ _ h (fun _ z=>nomatch z) (fun _ _ z=>nomatch z)
theorem Kp.ins {H H':Hp}(k:Kp H H'){b C dx:Addr}{f:Str×V}{fs:List (Str×V)}(h:H b=some (.ins C dx (f::fs))):H' b=some (.ins C dx (f::fs)):=k _ _ h (fun _ z=>nomatch z) (fun _ _ z=>by injection z with _ _ z; exact nomatch z)
theorem iK.kp {H H':Hp}{x:Row}(s:Kp H H')(h:iK H x):iK H' x:=⟨s.tup h.1,s.tup h.2⟩
theorem Jg.kp {H H':Hp}{a:Addr}{xs:List Row}(s:Kp H H')(h:Jg H a xs):Jg H' a xs:=⟨s.tup h.1,fun x hx=>(h.2 x hx).kp s⟩
theorem Mz.kp {H H':Hp}{l cp:Addr}{sd:Sd.Sd}{lv:Int×Int}{xs:List Row}{n k:Int}{d m:Nat}(s:Kp H H')(h:Mz H l cp sd lv xs n k d m):Mz H' l cp sd lv xs n k d m:=⟨s.tup h.lv,h.caps.kp s,h.gs,h.so,h.n1,h.nm,h.k0,h.kd,h.mt,h.lw,h.nx,h.kx⟩
theorem eO.kp {c:Cs}{H H':Hp}{x:Addr}{s:Sd.Sd}{d m:Nat}(h:eO c H x s d m)(k:Kp H H'):eO c H' x s d m:=by
 induction h with
 | en h vv ok=>exact .en (k.ins h) (vv.kp k) ok
 | st h vv g lp ly row sub p0 p9 ne l4 w hk ih=>exact .st (k.ins h) (vv.kp k) (k.tup g) lp ly (fun i q y t a b c=>k.tup (row i q y t a b c)) ih p0 p9 ne l4 w hk
theorem eO.same {c:Cs}{H H':Hp}{x:Addr}{s:Sd.Sd}{d m:Nat}(k:aR H H')(h:eO c H x s d m):eO c H' x s d m:=h.kp (aR.kp k)
theorem JN {α β:Type}{ys:List α}{rs:List β}(l:ys.length=rs.length){r:β}(h:r∈rs):∃ (i:Nat) (y:α),ys[i]? = some y/\rs[i]? = some r:=by
 obtain ⟨i,hi,e⟩:=List.getElem_of_mem h;exact ⟨i,ys[i]'(by omega),aFK _,by rw [aFK hi,e]⟩
theorem eO.ok {c:Cs}{H:Hp}{x:Addr}{s:Sd.Sd}{d m:Nat}(h:eO c H x s d m):Sd.Ok s d m:=by
 induction h with
 | en _ _ ok=>exact ok
 | st h vv g lp ly row sub p0 p9 ne l4 w hk ih=>exact .st p0 p9 ne l4 w (fun r hr=>by obtain ⟨i,y,a,b⟩:=JN ly hr; exact ih i y r a b) hk
inductive jK (H:Hp):Addr->Sd.Sd->Prop
 | en {a:Addr}{v:Int} (h:H a=some (.tup [.str "end",.int v])):jK H a (.en v)
 | st {a r:Addr}{p:Int}{rs:List (Int×Sd.Sd)}{ps ys:List Addr} (h:H a=some (.tup [.str "stage",.int p,.ref r])) (g:H r=some (.tup (ps.map V.ref))) (lp:ps.length=rs.length) (ly:ys.length=rs.length)
   (row:∀ (i:Nat) q y t,ps[i]? = some q->ys[i]? = some y->rs[i]? = some t->H q=some (.tup [.int t.1,.ref y])) (sub:∀ (i:Nat) y t,ys[i]? = some y->rs[i]? = some t->jK H y t.2):jK H a (.st p rs)
theorem jK.keep {H H':Hp}{a:Addr}{s:Sd.Sd}(h:jK H a s)(k:∀ b xs,H b=some (.tup xs)->H' b=some (.tup xs)):jK H' a s:=by
 induction h with
 | en h=>exact .en (k _ _ h)
 | st h g lp ly row sub ih=>exact .st (k _ _ h) (k _ _ g) lp ly (fun i q y t a b c=>k _ _ (row i q y t a b c)) ih
theorem jK.same {H H':Hp}{a:Addr}{s:Sd.Sd}(k:aR H H')(h:jK H a s):jK H' a s:=h.keep fun b xs e=>k _ _ e
structure CK (K:PySem.W.Frag)(c:Cs):Prop where
 ce:qX K c.e
 cs:qX K c.s
 e1:bT K c.e "end_count"
 e2:bT K c.e "stage_count"
 e3:bT K c.e "level"
 e4:bT K c.e "cap_rows"
 e5:bT K c.e "worth"
 s1:bT K c.s "end_count"
 s2:bT K c.s "stage_count"
 s3:bT K c.s "level"
 s4:bT K c.s "cap_rows"
 s5:bT K c.s "price"
 s6:bT K c.s "rows"
structure CT (K:PySem.W.Frag)(c:Cs):Prop where
 hn:PySem.W.specialIn K (.builtin "object.__class__") "__get__" = some (some (.builtin "getset_descriptor.__get__"))
 htk:PySem.W.takesIn K (.builtin "object.__class__")=some true
 ea:PySem.W.findIn K (.ref c.e) "__class__" = some (some (.builtin "object.__class__"))
 em:PySem.W.mroIn K c.e (.type "object")=some true
 sa:PySem.W.findIn K (.ref c.s) "__class__" = some (some (.builtin "object.__class__"))
 sm:PySem.W.mroIn K c.s (.type "object")=some true
 ee:PySem.W.kitOne K (.ref c.e) (.ref c.e)=some true
 se:PySem.W.kitOne K (.ref c.s) (.ref c.e)=some false
 ss:PySem.W.kitOne K (.ref c.s) (.ref c.s)=some true
def JC (c:Cs):Sp:=fun vs H Q _=>∃ (x:Addr) (s:Sd.Sd) (d m:Nat),vs=[.ref x]/\eO c H x s d m/\∀ n:Int,1<=n->n<=(m:Int)->n=Sd.nE (d+1) s->Q (.int n) H
def Hq (c:Cs):Sp:=fun vs H Q _=>∃ (x:Addr) (s:Sd.Sd) (d m:Nat),vs=[.ref x]/\eO c H x s d m/\∀ k:Int,0<=k->k<=(d:Int)->k=Sd.nS (d+1) s->Q (.int k) H
def HR (c:Cs):Sp:=fun vs H Q _=>∃ (x:Addr) (s:Sd.Sd) (d m:Nat),vs=[.ref x]/\eO c H x s d m/\∀ (r:Addr) (H':Hp) (xs:List Row),aR H H'->H r=none->TabAt H' r xs->Gb xs d m->(cQ xs).Pairwise Tb.Lt->(∃ lv,Sd.Mt s d lv (cQ xs)/\Sd.Lw lv)->Q (.ref r) H'
def Ir (c:Cs):Sp:=fun vs H Q _=>∃ (x dx C l a:Addr) (n k:Int) (xs:List Row),vs=[.ref x,.int n,.int k,.ref l,.ref a]/\(C=c.e∨C=c.s)/\H x=some (.ins C dx [])/\TabAt H a xs ∧
 ∀ (cp:Addr) (H':Hp),H cp=none->(∀ b o,b≠x->H b=some o->H' b=some o)->H' x=some (.ins C dx (fB n k l cp))->H' cp=some (.tup (refs xs))->Q .non H'
structure sW (c:Cs)(H:Hp)(ps ys:List Addr)(rs:List (Int×Sd.Sd))(d:Nat)(j:Int×Sd.Sd->Nat):Prop where
 lp:ps.length=rs.length
 ly:ys.length=rs.length
 row:∀ (i:Nat) q y t,ps[i]? = some q->ys[i]? = some y->rs[i]? = some t->H q=some (.tup [.int t.1,.ref y])
 sub:∀ (i:Nat) y t,ys[i]? = some y->rs[i]? = some t->eO c H y t.2 d (j t)
theorem sW.kp {c:Cs}{H H':Hp}{ps ys:List Addr}{rs:List (Int×Sd.Sd)}{d:Nat}{j:Int×Sd.Sd->Nat}(h:sW c H ps ys rs d j)(k:Kp H H'):sW c H' ps ys rs d j:=⟨h.lp,h.ly,fun i q y t a b e=>k.tup (h.row i q y t a b e),fun i y t a b=>(h.sub i y t a b).kp k⟩
theorem sW.at_ {c:Cs}{H:Hp}{ps ys:List Addr}{rs:List (Int×Sd.Sd)}{d i:Nat}{j:Int×Sd.Sd->Nat}{v:V}(h:sW c H ps ys rs d j)(hv:(ps.map V.ref)[i]? = some v):∃ q y t,ps[i]? = some q/\ys[i]? = some y/\rs[i]? = some t/\v=.ref q/\H q=some (.tup [.int t.1,.ref y])/\eO c H y t.2 d (j t)/\t∈rs:=by
 rw [aFY] at hv;cases e:ps[i]? with
 | none=>rw [e] at hv; cases hv
 | some q =>
  rw [e] at hv;cases hv;have hi:=(aFO.mp e).1;have l1:=h.lp;have l2:=h.ly;have ey:ys[i]? = some (ys[i]'(by omega)):=aFK _;have er:rs[i]? = some (rs[i]'(by omega)):=aFK _;exact ⟨q,_,_,rfl,ey,er,rfl,h.row i q _ _ e ey er,h.sub i _ _ ey er,aF1 er⟩
theorem Ol {p q:Addr}{v:Int}{d m:Nat}(h0:0<=v)(h9:v<=1000000000)(hm:1<=m):Gb [⟨p,q,v,1,1⟩] d m:=by
 have e:bO [⟨p,q,v,1,1⟩]=1:=by show cM [1]=1; decide
 have w1:wsum [(⟨p,q,v,1,1⟩:Row)]=1:=rfl;have wp:=Sd.cG ((12*d+1)*m);have bp:=Sd.cG (be d*m);have k9:=k30 d;unfold Gb;rw [e];refine ⟨⟨by simp,by show 1<=m; exact hm,fun x hx=>?_,by rw [w1]; unfold wB; omega,by decide,fun x hx=>?_⟩,by omega⟩
 ·rw [aFR.mp hx]; exact aGp _
 ·rw [aFR.mp hx];exact ⟨Sd.fr1 v,aHH _,by show -(kK d*1)<=v; omega,by show v<=kK d*1; omega⟩
def zV (x:Addr)(H H':Hp):Prop:=∀ b o,b≠x->H b=some o->H' b=some o
theorem zV.kp {x C dx:Addr}{H H':Hp}(s:zV x H H')(hx:H x=some (.ins C dx [])):Kp H H':=fun b o h _ n=>s b o (fun e=>by rw [e,hx] at h; cases h; exact n C dx rfl) h
theorem dF.sameX {P x C dx:Addr}{pos:Pos}{qual:Str}{fs:List (Str×V)}{H H':Hp}(t:dF P pos qual H)(s:zV x H H')(hx:H x=some (.ins C dx fs)):dF P pos qual H':=by
 rcases t with t | ⟨c,t,u⟩
 ·exact .inl (s _ _ (cH t hx fun z=>nomatch z) t)
 ·exact .inr ⟨c,s _ _ (cH t hx fun z=>nomatch z) t,s _ _ (cH u hx fun z=>by unfold qL at z; exact nomatch z) u⟩
theorem Hi {c:Cs}{H H0:Hp}{y:Addr}{s:Sd.Sd}{d m:Nat}{σ:St}{ta:TE}{nm:Str}{sp:Sp}{Q:VK}(st:eO c H y s d m)(le:∀ n k l cp v,(fE n k l cp v).lookup nm=none)(ls:∀ n k l cp p r,(fS n k l cp p r).lookup nm=none)(hv:∀ R:VK,R (.ref y) H->ta σ H0 R)(q:sp [.ref y] H Q E0) :
  yX c.e nm sp [] E0 ta uK σ H0 Q∨yX c.s nm sp [] E0 ta uK σ H0 Q:=by
 cases st with
 | en h vv ok=>exact .inl (hv _ ⟨y,_,_,rfl,h,le _ _ _ _ _,q⟩)
 | st h vv g lp ly row sub p0 p9 ne l4 w hk=>exact .inr (hv _ ⟨y,_,_,rfl,h,ls _ _ _ _ _ _,q⟩)
def LR (K:PySem.W.Frag):Sp:=fun vs H Q _=>∃ (a:Addr) (ns:List Int) (k:Int),vs=[.ref a,.int k]/\bV K H a (ns.map V.int)/\0<=k/\∀ j,Q (.int j) H
def pp:Nat->Nat->Nat
 | 0,_=>2
 | d+1,m=>((aHp 4).map fun i=>if i+1<=m then 2+(i+1)*(1+pp d (m/(i+1))) else 2).foldl max 2
theorem jU:∀ (l:List Nat) (a:Nat),a<=l.foldl max a/\∀ x∈l,x<=l.foldl max a
 | [],a=>⟨aFM _,fun _ h=>nomatch h⟩
 | y::l,a=>by
  obtain ⟨h1,h2⟩:=jU l (max a y);refine ⟨aFJ (Nat.le_max_left _ _) h1,fun x hx=>?_⟩;rcases aF7.mp hx with e | e
  ·subst e; exact aFJ (Nat.le_max_right _ _) h1
  ·exact h2 x e
theorem Nh (d m:Nat):2<=pp d m:=by
 cases d with
 | zero=>exact aFM _
 | succ d=>exact (jU _ 2).1
theorem X8 {d m n:Nat}(h1:1<=n)(h4:n<=4)(hm:n<=m):2+n*(1+pp d (m/n))<=pp (d+1) m:=by
 refine (jU _ 2).2 _ (aFL.mpr ⟨n-1,aHR.mpr (by omega),?_⟩);rw [show n-1+1=n by omega,if_pos hm]
theorem Ng:pp 4 12<=150:=by decide +kernel
def En (n:Nat):Sp:=fun vs H Q _=>∃ (L:Addr) (ns:List Int) (d m:Nat) (sc:Int),vs=[.ref L,.int (d:Int),.int (m:Int),.int sc]/\H L=some (.lst (Is ns))/\d<n/\d<=4/\1<=m/\m<=12/\1<=sc/\sc<=1000000001/\pp d m<=ns.length/\ns.length<=1000 ∧
 ∀ (r:Addr) (H':Hp) (s:Sd.Sd) (ns':List Int),(∀ b o,b≠L->H b=some o->H' b=some o)->H' L=some (.lst (Is ns'))->ns.length<=ns'.length+pp d m->ns'.length<=ns.length->jK H' r s->Sd.Ok s d m->Q (.ref r) H'
def Jj (c:Cs)(Pt:Addr)(lp:Pos)(n:Nat):Sp:=fun vs H Q _=>∃ (a:Addr) (s:Sd.Sd) (d m:Nat),vs=[.ref a]/\jK H a s/\Sd.Ok s d m/\d<n/\d<=4/\m<=12/\dF Pt lp gU H/\∀ (x:Addr) (H':Hp),cD Pt H H'->dF Pt lp gU H'->eO c H' x s d m->Q (.ref x) H'
def rE (K:PySem.W.Frag)(Pt:Addr)(lp:Pos):Sp:=fun vs H Q _=>∃ (a:Addr) (ns:List Int),vs=[.ref a]/\bV K H a (ns.map V.int)/\ns.length<=63/\H Pt=some (.tbl #[])/\∀ H',Q (.bl true) H'
theorem O7 {v:Int}(h0:0<=v)(h9:v<=1000000000):Sd.Lw (v,1):=by
 have:=Sd.p30;exact ⟨Sd.fr1 v,Sd.cG 1500,by show -(2^1530*1)<=v; omega,by show v<=2^1530*1; omega⟩
theorem be4:∀ d,d+1<=4->be (d+1)<=125/\ka (d+1)<=1530
 | 0,_=>by decide
 | 1,_=>by decide
 | 2,_=>by decide
 | 3,_=>by decide
 | d+4,h=>by omega
theorem U0 {ys:List Row}{l:Int×Int}{M k:Int}{d m:Nat}(x:Lx ys l M k d m)(hd:d+1<=4)(hm:m<=12):Sd.Lw l:=by
 obtain ⟨b1,b2⟩:=be4 d hd;have a:=aHl x.g.mp x.f.dv;have e:(2:Int)^(be (d+1)*m)<=2^1500:=Sd.eG (aFJ (aHW b1 hm) (by decide));have g:k<=2^1530:=aGb x.k (Sd.eG b2);have h:=Sd.oR g (aFS x.f.fr.pos);have:=x.f.lo;have:=x.f.hi;exact ⟨x.f.fr,aGb a (aGb x.m e),by omega,by omega⟩
theorem Rh {d:Nat}{es:List Ent}{rs:List (Int×Sd.Sd)}{p:Int}{lv:Int×Int}{ys zs:List Row}{n:Nat}{W k W0 kk:Int}{k0:Nat}(al:Sd.Al d es rs)(gm:GM es k0 W0 kk)(hW:0<Sd.fW rs)(o:Out (partsOf (cM (cF es)) es) ys)(g:GT ys n W (bO ys) k)
  (lp:0<lv.2) (L:Tb.Lv (bO ys) (p*Tb.W (cQ ys)*bO ys) lv.1 lv.2 (cQ ys)) (o2:Out ((cQ ys).map (Tb.gQ lv.1 lv.2)) zs):Sd.Mt (.st p rs) (d+1) lv (cQ zs):=by
 obtain ⟨S1,_,_,S2⟩:=gm.S;have fr:∀ r∈cQ ys,0<r.b/\r.b∣bO ys:=fun r hr=>by
  obtain ⟨y,hy,rfl⟩:=aFL.mp hr;exact ⟨(g.fq y hy).fr.pos,(g.fq y hy).dv⟩
 refine Sd.Pz al S1 (fun e he=>⟨(gm.g e he).tot,S2 e he⟩) hW o.tab (fun e=>g.ne (aGF.mp e)) (fun r hr=>?_) (fun r hr=>(fr r hr).1) lp (Sd.Mq g.mp fr L) o2.tab;obtain ⟨y,hy,rfl⟩:=aFL.mp hr;exact g.w1 y hy
end TD
namespace TD
open PySem L2
def vM (c:Cs)(b:Bool):Sp:=fun vs H Q _=>∃ (x:Addr),vs=[.ref x]/\Q (.bl b) H
end TD
namespace L2
open PySem PySem.Spec PyProof.Rows
abbrev Vx:List Value:=[.type "ValueError",.type "Exception",.type "BaseException",.type "object"]
theorem Fd.obj {K:PySem.W.Frag}{h:Heap}{C:Addr}(x:Fd K C)(k:K.In h):∃ (bm:List Value) (N:Addr) (nm q:Str) (bs:List Value) (hdct:Bool) (sn:List Str) (sub:List Value) (ab:Bool) (col:Option Bool) (dd:Option Addr) (k0 k1 k2 k3 k5:Option Value) (mN:Str->Option Value),
  h.get? C=some (excClassObj nm q C N bs bm hdct sn sub ab col dd k0 k1 k2 k3 k5 "ValueError.__new__")/\h.Ns N mN/\mN "__init__" = none/\OwnTail h Vx bm:=by
 have z:=x.isx;unfold PySem.W.excIn at z
 split at z
 case h_2=>cases z
 case h_1 dd cd sl ho =>
  split at z
  case h_2=>cases z
  case h_1 C' bm k0 k1 k2 k3 n k5 hm hs =>
   simp only [aGs,beq_iff_eq,Bool.not_eq_true'] at z;obtain ⟨⟨⟨⟨⟨e1,e2⟩,hdel⟩,ht⟩,hok⟩,hni⟩:=z;subst e1;subst e2;obtain ⟨nm,bs,mro,ns,qn,hd,sn,sub,ab,col,del⟩:=cd;dsimp only at hm hdel hok hni;subst hm;subst hdel;obtain ⟨l⟩:=sl;obtain rfl:l=[k0,k1,k2,k3,some (.builtin "ValueError.__new__"),k5]:=hs;have g:=k _ _ ho;have nn:=PySem.W.isNs_of_in k hok;exact ⟨bm,ns,nm,qn,bs,hd,sn,sub,ab,col,dd,k0,k1,k2,k3,k5,_,g,.of_isNs nn,PySem.W.nsMap_none_of_in k hok hni,PySem.W.tail_of_in k ht⟩
theorem rW {X:Cx}{x:Str}{C:Addr}{E:XK}{np cpos pos:Pos}(T:Throws X E)(hc:X.calm=true)(hg:Gl X x)(hm:X.mg x=some (.ref C))(xc:Fd X.K C)(hd:(x==("__debug__" : Str))=false:=by decide) :
  PS X (.Raise (some (.Call (.Name x np) [] [] cpos)) none pos) (fun _ _ H=>E (.ref C) none H):=by
 intro pins s σ H D I h;obtain ⟨bm,N,nm,q,bs,hdct,sn,sub,ab,col,dd,k0,k1,k2,k3,k5,mN,hC,hN,hni,TL⟩:=xc.obj I.kIn;refine wpAny_Raise_call_subT (C:=C) (nm:=nm) (q:=q) (N:=N) (bs:=bs) (bm:=bm) (hdct:=hdct) (sn:=sn) (sub:=sub) (ab:=ab) (col:=col) (dd:=dd) (k0:=k0) (k1:=k1) (k2:=k2) (k3:=k3) (k5:=k5) PySem.F.excBase_ValueError (mN:=mN)
  (TL.hasType PySem.F.excBase_ValueError.hasBase) (I.ok.hd hc) rfl hni (mG I hg hm ⟨rfl,?_⟩ hd)
 exact evalArgs_empty ⟨rfl,aGa _,hC,hN,TL,fun h' e mk=>T pins σ H s h' e _ _ I mk h⟩
section
variable {P:Program}{w:World}{K:PySem.W.Frag}{mg:Str->Option Value}{base:Heap}
theorem dJ.okX {x qual:Str}{st:Stmt}{f:Addr}{fd:FuncData}{N ps:List Str}{k:Nat}{sp:Sp}(F:dJ K x qual st f fd)(S:aO N ps (aL st))(len:∀ vs H Q E,sp vs H Q E->vs.length=ps.length)
  (hbody:∀ (cdv:Value) (A:Around) (outer:List Env) (s:Shared) (H:Hp) (vs:List V) (Q:VK) (E:XK),fD k (A.deeper (envOfC qual (aL st) s.heap.objs.size f cdv))->sp vs H Q E ->
   ∃ t,xD (xP (Km P w) P w K mg base N qual (aL st) f cdv A outer s H E) (fJ st) t/\t { nx:=fun _ H'=>Q .non H',rt:=Q } (start N vs) H):aX P w K mg base (Km P w) (k+1) f fd ps sp:=by
 obtain ⟨oc,od,kV,doc,pm,an,cdv,ct,osl,rfl,lk,hcd⟩:=F.ex;exact J5 lk hcd S len fun A outer s H vs Q E hr hsp=>hbody cdv A outer s H vs Q E hr hsp
end
theorem Lr {X:Cx}:lD (Km X.prog X.w) X E0:=fun _ _ _ _ _ _ _ ⟨_,_,_,_,_,_,_,_,_,_,_,_,_,_,_,h⟩=>False.elim h
theorem PS.nox {X:Cx}{st:Stmt}{t:TS}(h:PS X.nox st t):PS X st t:=fun pins s σ H D I hw =>
 wpAny_mono (h pins s σ H D (I.wish _) hw) (fun _ _ q=>q.unwish) fun _ _ z=>False.elim z
end L2
namespace TD
open PySem L2
open Builtin.Int (intBits)
theorem fL.same {K:PySem.W.Frag}{H H':Hp}{v:V}{t:Value}(s:aR H H')(h:fL K H v t):fL K H' v t:=by
 cases h with
 | non=>exact .non
 | bl x=>exact .bl x
 | int i=>exact .int i
 | str x=>exact .str x
 | flt x=>exact .flt x
 | lst e=>exact .lst (s _ _ e)
 | frz e=>exact .frz (s _ _ e)
 | tup e=>exact .tup (s _ _ e)
 | dK e=>exact .dK (s _ _ e)
 | dT e=>exact .dT (s _ _ e)
 | ins e a b c d f=>exact .ins (s _ _ e) a b c d f
def MP (H:Hp)(T:String)(v:V):Prop:=∀ K:PySem.W.Frag,∃ t,fL K H v t/\PySem.W.kitOne K t (.type T)=some false
theorem MP.same {H H':Hp}{T:String}{v:V}(s:aR H H')(h:MP H T v):MP H' T v:=fun K=>let ⟨t,a,b⟩:=h K; ⟨t,fL.same s a,b⟩
theorem wU {K:PySem.W.Frag}:PySem.W.kitOne K (.type "bool") (.type "int")=some true:=by rfl
inductive yU (H:Hp)(lo hi:Int):V->Bool->Prop where
 | no {v:V} (h:MP H "int" v):yU H lo hi v false
 | bl (c:Bool):yU H lo hi (.bl c) false
 | int (i:Int):yU H lo hi (.int i) (decide (lo<=i)&&decide (i<=hi))
theorem yU.yes {H:Hp}{lo hi i:Int}(h1:lo<=i)(h2:i<=hi):yU H lo hi (.int i) true:=by
 have h:=yU.int (H:=H) (lo:=lo) (hi:=hi) i;rw [decide_eq_true h1,decide_eq_true h2] at h;exact h
def tH:Sp:=fun vs H Q _=>∃ (v:V) (lo hi:Int) (b:Bool),vs=[v,.int lo,.int hi]/\yU H lo hi v b/\Q (.bl b) H
theorem fL.kp {K:PySem.W.Frag}{H H':Hp}{v:V}{t:Value}(s:∀ b o,H b=some o->(∀ ps,o≠.tbl ps)->H' b=some o)(h:fL K H v t):fL K H' v t:=by
 cases h with
 | non=>exact .non
 | bl x=>exact .bl x
 | int i=>exact .int i
 | str x=>exact .str x
 | flt x=>exact .flt x
 | lst e=>exact .lst (s _ _ e fun _ z=>nomatch z)
 | frz e=>exact .frz (s _ _ e fun _ z=>nomatch z)
 | tup e=>exact .tup (s _ _ e fun _ z=>nomatch z)
 | dK e=>exact .dK (s _ _ e fun _ z=>nomatch z)
 | dT e=>exact .dT (s _ _ e fun _ z=>nomatch z)
 | ins e a b c d f=>exact .ins (s _ _ e fun _ z=>nomatch z) a b c d f
def Kt (H H':Hp):Prop:=∀ b o,H b=some o->(∀ ps,o≠.tbl ps)->H' b=some o
theorem aR.kt {H H':Hp}(s:aR H H'):Kt H H':=fun b o h _=>s b o h
theorem Kt.kp {H H':Hp}(k:Kt H H'):Kp H H':=fun b o h n _=>k b o h n
theorem Kt.tup {H H':Hp}(k:Kt H H'){b:Addr}{xs:List V}(h:H b=some (.tup xs)):H' b=some (.tup xs):=k _ _ h fun _ z=>nomatch z
theorem MP.kt {H H':Hp}{T:String}{v:V}(s:Kt H H')(h:MP H T v):MP H' T v:=fun K=>let ⟨t,a,b⟩:=h K; ⟨t,fL.kp s a,b⟩
theorem yU.kt {H H':Hp}{lo hi:Int}{v:V}{b:Bool}(s:Kt H H')(h:yU H lo hi v b):yU H' lo hi v b:=by
 cases h with
 | no h=>exact .no (h.kt s)
 | bl c=>exact .bl c
 | int i=>exact .int i
structure CN (K:PySem.W.Frag)(c:Cs):Prop where
 all:∀ T∈["tuple","int","NoneType","str","list"],PySem.W.kitOne K (.type T) (.ref c.e)=some false/\PySem.W.kitOne K (.type T) (.ref c.s)=some false
 et:PySem.W.kitOne K (.ref c.e) (.type "tuple")=some false
inductive CV (c:Cs)(K:PySem.W.Frag)(H:Hp):V->Bool->Prop where
 | yes {x:Addr}{s:Sd.Sd}{d m:Nat} (h:eO c H x s d m):CV c K H (.ref x) true
 | no {v:V}{T:String} (h:fL K H v (.type T)) (ht:T∈["tuple","int","NoneType","str","list"]):CV c K H v false
inductive xG (c:Cs)(K:PySem.W.Frag)(H:Hp):V->Bool->Prop where
 | no {v:V}{t:Value} (h:fL K H v t) (hk:PySem.W.kitOne K t (.type "tuple")=some false):xG c K H v false
 | len {a:Addr}{xs:List V} (e:H a=some (.tup xs)) (hl:xs.length≠2):xG c K H (.ref a) false
 | two {a:Addr}{x y:V}{b b2:Bool} (e:H a=some (.tup [x,y])) (hx:yU H 1 1000 x b) (hy:CV c K H y b2):xG c K H (.ref a) (b&&b2)
inductive n8 (c:Cs)(K:PySem.W.Frag)(H:Hp):V->Bool->Prop where
 | no {v:V} (h:MP H "list" v):n8 c K H v false
 | len {a:Addr}{xs:List V} (e:H a=some (.lst xs)) (hl:¬ (1<=xs.length/\xs.length<=4)):n8 c K H (.ref a) false
 | all {a:Addr}{xs:List V}{bs:List Bool} (e:H a=some (.lst xs)) (h1:1<=xs.length) (h4:xs.length<=4) (hb:bs.length=xs.length) (h:∀ (i:Nat) x,xs[i]? = some x->xG c K H x (bs.getD i false)):n8 c K H (.ref a) (bs.all id)
section
variable {c:Cs}{K:PySem.W.Frag}{H H':Hp}{v:V}{b:Bool}
theorem CV.kt (s:Kt H H')(h:CV c K H v b):CV c K H' v b:=by
 cases h with
 | yes h=>exact .yes (h.kp s.kp)
 | no h ht=>exact .no (fL.kp s h) ht
theorem xG.kt (s:Kt H H')(h:xG c K H v b):xG c K H' v b:=by
 cases h with
 | no h hk=>exact .no (fL.kp s h) hk
 | len e hl=>exact .len (s.tup e) hl
 | two e hx hy=>exact .two (s.tup e) (hx.kt s) (hy.kt s)
end
def Ly (c:Cs)(K:PySem.W.Frag):Sp:=fun vs H Q _=>∃ (v:V) (b:Bool),vs=[v]/\CV c K H v b/\Q (.bl b) H
def Di (c:Cs)(K:PySem.W.Frag):Sp:=fun vs H Q _=>∃ (v:V) (b:Bool),vs=[v]/\xG c K H v b/\Q (.bl b) H
def yR (c:Cs)(K:PySem.W.Frag):Sp:=fun vs H Q _=>∃ (v:V) (b:Bool),vs=[v]/\n8 c K H v b/\∀ H',aR H H'->Q (.bl b) H'
def Lk (c:Cs)(C:Addr):Sp:=fun vs H Q E =>
 (∃ (x dx:Addr) (v:Int),vs=[.ref x,.int v]/\H x=some (.ins c.e dx [])/\0<=v/\v<=1000000000/\∀ H':Hp,(∀ b o,b≠x->H b=some o->H' b=some o)->(∀ d m:Nat,1<=m->eO c H' x (.en v) d m)->Q .non H') ∨
 ∃ (x:Addr) (v:V),vs=[.ref x,v]/\yU H 0 1000000000 v false/\E (.ref C) none H
structure RM (c:Cs)(H:Hp)(a:Addr)(ps ys:List Addr)(rs:List (Int×Sd.Sd))(d:Nat)(j:Int×Sd.Sd->Nat):Prop where
 ha:H a=some (.lst (ps.map V.ref))
 R:sW c H ps ys rs d j
 ne:rs≠[]
 l4:rs.length<=4
 ww:∀ r∈rs,1<=r.1/\r.1<=1000
def Ky (c:Cs)(K:PySem.W.Frag)(C Pt:Addr)(lp:Pos):Sp:=fun vs H Q E =>
 (∃ (x dx a:Addr) (p:Int) (ps ys:List Addr) (rs:List (Int×Sd.Sd)) (d:Nat) (j:Int×Sd.Sd->Nat),vs=[.ref x,.int p,.ref a]/\H x=some (.ins c.s dx [])/\RM c H a ps ys rs d j/\0<=p/\p<=1000000000 ∧
  (((12<Sd.nE (d+1+1) (.st p rs)∨4<Sd.nS (d+1+1) (.st p rs))/\∀ H',aR H H'->E (.ref C) none H') ∨
   ∃ m:Nat,(rs.map j).sum<=m/\m<=12/\d+1<=4/\dF Pt lp gU H/\∀ H':Hp,(∀ b o,b≠x->b≠Pt->H b=some o->H' b=some o)->dF Pt lp gU H'->eO c H' x (.st p rs) (d+1) m->Q .non H')) ∨
 ∃ (x:Addr) (v w:V),vs=[.ref x,v,w]/\(yU H 0 1000000000 v false∨(yU H 0 1000000000 v true/\n8 c K H w false))/\∀ H',aR H H'->E (.ref C) none H'
section
variable {c:Cs}{H H':Hp}
theorem zE (kt:∀ b xs,H b=some (.tup xs)->H' b=some (.tup xs)){l cp:Addr}{sd:Sd.Sd}{lv:Int×Int}{xs:List Row}{n k:Int}{d m:Nat}(h:Mz H l cp sd lv xs n k d m):Mz H' l cp sd lv xs n k d m :=
 ⟨kt _ _ h.lv,⟨kt _ _ h.caps.1,fun x hx=>⟨kt _ _ (h.caps.2 x hx).1,kt _ _ (h.caps.2 x hx).2⟩⟩,h.gs,h.so,h.n1,h.nm,h.k0,h.kd,h.mt,h.lw,h.nx,h.kx⟩
theorem rH (kt:∀ b xs,H b=some (.tup xs)->H' b=some (.tup xs))(ki:∀ b C dx f fs,H b=some (.ins C dx (f::fs))->H' b=some (.ins C dx (f::fs))){x:Addr}{s:Sd.Sd}{d m:Nat}(h:eO c H x s d m):eO c H' x s d m:=by
 induction h with
 | en h vv ok=>exact .en (ki _ _ _ _ _ h) (zE kt vv) ok
 | st h vv g lp ly row sub p0 p9 ne l4 w hk ih=>exact .st (ki _ _ _ _ _ h) (zE kt vv) (kt _ _ g) lp ly (fun i q y t a b c=>kt _ _ (row i q y t a b c)) ih p0 p9 ne l4 w hk
end
structure Ca where
 dx:Addr
 tp:Addr
 tl:Addr
 th:Addr
 td:Addr
 ys:List Addr
 ss:List (Sd.Sd×Nat×Nat)
 ls:List V
 bs:List Bool
 sp:Int
 ds:List Addr
def KX (x:Addr)(H H':Hp):Prop:=∀ b o,b≠x->H b=some o->H' b=some o
def QJ (q:Ca):List Nat:=(aHp q.ys.length).filter fun i=>q.bs.getD i false
def Qo (q:Ca):List Int:=(QJ q).map Int.ofNat
theorem p9:Te 10 9:=⟨by decide,by decide,by decide⟩
end TD
namespace Tb
def lo (l0 l1:Int)(ps:List Rw):List Rw:=ps.filter fun r=>decide (r.t*l1<l0*r.b)
end Tb
namespace Sd
def sm (ps:List Tb.Rw):Rat:=(ps.map fun r=>(r.w:Rat)*cv r).sum
end Sd
namespace TD
open PySem L2
open Builtin.Int (intBits)
theorem Jp {xs ys:List Row}{l0 l1:Int}(g:PB xs)(f:Fr.jY l0 l1)(b0:intBits l0<=4000)(b1:intBits l1<=4000)(e:cQ ys=(cQ xs).map (Tb.gQ l0 l1)):PB ys:=fun y hy=>by
 have m:y.r∈(cQ xs).map (Tb.gQ l0 l1):=by rw [<- e]; exact aFL.mpr ⟨y,hy,rfl⟩
 obtain ⟨p,hp,ep⟩:=aFL.mp m;obtain ⟨x,hx,rfl⟩:=aFL.mp hp;have pb:=g x hx;unfold Tb.gQ at ep
 by_cases cc:l0*x.r.b<x.r.t*l1
 ·rw [if_pos cc] at ep;have e1:l0=y.t:=congrArg Tb.Rw.t ep;have e2:l1=y.b:=congrArg Tb.Rw.b ep;have e3:x.w=y.w:=congrArg Tb.Rw.w ep;rw [<- e1,<- e2,<- e3];exact ⟨f,b0,b1,pb.2.2.2.1,pb.2.2.2.2⟩
 ·rw [if_neg cc] at ep;have e1:x.t=y.t:=congrArg Tb.Rw.t ep;have e2:x.b=y.b:=congrArg Tb.Rw.b ep;have e3:x.w=y.w:=congrArg Tb.Rw.w ep;rw [<- e1,<- e2,<- e3];exact pb
section
variable (c:Cs)(cC:Addr)(C:Addr)(Pt:Addr)(lp:Pos)
def Mg:Sp:=fun vs H Q _=>∃ (a l:Addr) (xs:List Row) (x:Int×Int),vs=[.ref a,.ref l]/\TabAt H a xs/\xs≠[]/\xs.length<=12/\PB xs/\Tq H l x/\Fr.jY x.1 x.2/\intBits x.1<=4000/\intBits x.2<=4000/\dF Pt lp gU H ∧
 ∀ (r:Addr) (H':Hp) (ys:List Row),cD Pt H H'->dF Pt lp gU H'->H r=none->TabAt H' r ys->Out ((cQ xs).map (Tb.gQ x.1 x.2)) ys->ys.length<=xs.length->Q (.ref r) H'
end
structure SS where
 la:Addr
 ca:Addr
 ka:Addr
 da:Addr
 ts:List Addr
 ls:List V
 ks:List Int
 pd:Int
 ds:List Addr
end TD
namespace L2
open PySem PySem.Spec PyProof.Rows
theorem bQ {X:Cx}{K:PySem.W.Frag}(h:X.K=K):d8 X (.type "tuple") (fun xs H Q=>∃ p ys,xs=[.ref p]/\((bV K H p ys/\∀ l,H l=none->Q (.ref l) (bG H l (.tup ys)))∨(bW K H p ys/\Q (.ref p) H))):=by subst h; exact uO
structure Sq (K:PySem.W.Frag)(C:Addr):Prop where
 makes:PySem.W.makesIn K C=true
 init:PySem.W.findIn K (.ref C) "__init__" = some (some (.builtin "object.__init__"))
 kp:PySem.W.keepIn K (.ref C)=true
def Gy (C:Addr):TE:=fun _ H Q=>∀ x dx,H x=none->H dx=none->dx≠x->Q (.ref x) (bG (bG H dx (.own x)) x (.ins C dx []))
section
variable {X:Cx}{C:Addr}{x:Str}{p pos:Pos}
theorem Ga {pins:List (Addr×Obj)}{σ:St}{H:Hp}{s:Shared}{Q:VK}(M:Sq X.K C)(I:aW X pins σ H s)(h:Gy C σ H Q):wpAny (model X.prog X.w) X.A (call (.ref C) []) (EP X pins σ Q) X.xe s:=by
 have hq:=h (s.heap.objs.size+1) s.heap.objs.size (I.hok.fresh (aGO _)) (I.hok.fresh (aFM _)) (aF6 (aHj _));have I2:=aW.made (C:=C) I;have Y:=PySem.W.makes_of (M:=model X.prog X.w) I.kIn M.makes;refine wpAny_call (FW I.kIn M.makes M.init (fun self=>PySem.W.Looks.of_pure (PySem.W.oi_bind self)) ?_);have k:∀ b o,s.heap.get? b=some o->((s.heap.push PySem.W.emptyDict).push (PySem.W.instObj C s.heap.objs.size)).get? b=some o:=fun b o e=>aFH _ (aFH _ e);have hx:((s.heap.push PySem.W.emptyDict).push (PySem.W.instObj C s.heap.objs.size)).get? (s.heap.objs.size+1)=some (PySem.W.instObj C s.heap.objs.size):=by
  have e:=aFV (s.heap.push PySem.W.emptyDict) (o:=PySem.W.instObj C s.heap.objs.size) rfl
  rwa [aHd] at e
 have t1:PySem.W.Looks (model X.prog X.w) ((s.heap.push PySem.W.emptyDict).push (PySem.W.instObj C s.heap.objs.size)) (typeOf (.ref (s.heap.objs.size+1))) (.ref C):=(PySem.W.Looks.ld hx).andThen .now;have t2:PySem.W.Looks (model X.prog X.w) ((s.heap.push PySem.W.emptyDict).push (PySem.W.instObj C s.heap.objs.size)) (isInstance (.ref (s.heap.objs.size+1)) (.type "object")) true:=t1.andThen (Y.top.keeps k);refine codeAny_call_builtin PySem.W.oi_plain PySem.W.entry_oi (@PySem.W.check_slot (model X.prog X.w) _ _ _ "object.__init__" "object" "__init__" (.ref (s.heap.objs.size+1)) [] [] _ PySem.W.oi_kind PySem.W.oi_split t2 (PySem.W.oi_args (.ref (s.heap.objs.size+1))) ?_);rw [PySem.W.oi_run];exact wpAny_pure ⟨rfl,⟨V.ref (s.heap.objs.size+1),_,I2,rfl,hq⟩⟩
theorem JF (M:Sq X.K C)(hg:Gl X x)(hm:X.mg x=some (.ref C))(hdb:(x==("__debug__" : Str))=false:=by decide):PE X (.Call (.Name x p) [] [] pos) (Gy C):=by
 intro pins s σ H Q I h;refine wpAny_Call_Name_kw (mG I hg hm ?_ hdb);exact PySem.W.callWith_K0 I.kIn M.kp (Ga M I h)
end
section
variable {X:Cx}
def Rj:R2:=fun x y H Q=>∃ a b:Str,x=.str a/\y=.str b/\a.length+b.length<=16777216/\Q (.str (a++b)) H
theorem bC:oA X (binaryOp .Add) Rj:=by
 intro pins s σ H x y v u Q I rx ry h;obtain ⟨a,b,rfl,rfl,hz,q⟩:=h;obtain ⟨t,rfl⟩:=rx;obtain ⟨t',rfl⟩:=ry;exact PySem.W.KXadd.add (K:=a.length) (L:=b.length) (aFM _) (aFM _) hz fun t' k _=>⟨.str (a++b),H,I.tok _,⟨_,rfl⟩,q⟩
def iQ (i:Int):Str:=Str.ofString (toString i)
theorem d7:d8 X (.type "str") (fun xs H Q=>∃ i:Int,xs=[.int i]/\i.natAbs.log2<1920/\Q (.str (iQ i)) H):=by
 rintro pins s σ H xs us Q I r ⟨i,rfl,hz,q⟩;obtain ⟨u,rfl,ru⟩:=r.one;obtain ⟨t,rfl⟩:=ru;exact P.str_of_int hz ⟨.str (iQ i),H,I.tok _,⟨_,rfl⟩,q⟩
def rJoin (K:PySem.W.Frag):V->List V->Hp->VK->Prop:=fun x xs H Q=>∃ (sep:Str) (a:Addr) (ts:List Str),x=.str sep/\xs=[.ref a]/\bV K H a (ts.map V.str)/\(ts.map (·.length)).sum+ts.length*sep.length<=16777216/\Q (.str (Txt.join sep ts)) H
theorem Ds:∀ {ts:List Str}{us:List Value},bZ (ts.map V.str) us->StrsAre us ts
 | [],us,h=>by cases h; exact .nil
 | t::ts,us,h=>by
  cases h with
  | cons r rr =>
   obtain ⟨k,rfl⟩:=r;exact .cons t k (Ds rr)
theorem jC:MtR X "str.join" (rJoin X.K):=by
 rintro pins s σ H x xs v us Q I rx rv ⟨sep,a,ts,rfl,rfl,ha,hz,q⟩;obtain ⟨t,rfl⟩:=rx;obtain ⟨u,rfl,ru⟩:=rv.one;cases ru;obtain ⟨its,r,ht,hl⟩:=I.list ha;exact join_list ht.isList (by rw [List.toList_toArray]; exact Ds r) hz fun t' k=>⟨.str (Txt.join sep ts),H,I.tok _,⟨_,rfl⟩,q⟩
end
end L2
namespace Kn
open PySem L2 TD
open Builtin.Int (intBits)
inductive Tr where
 | stop
 | take (b:Int) (t:Tr)
 | opn (b:Int) (ts:List Tr)
inductive Dp:Tr->Nat->Prop
 | stop (n:Nat):Dp .stop (n+1)
 | take {b:Int}{t:Tr}{n:Nat} (h:Dp t n):Dp (.take b t) (n+1)
 | opn {b:Int}{ts:List Tr}{n:Nat} (h:∀ t∈ts,Dp t n) (hl:ts.length<=4):Dp (.opn b ts) (n+1)
inductive lH (H:Hp):Addr->Tr->Prop
 | stop {a:Addr} (h:H a=some (.tup [.str "stop"])):lH H a .stop
 | take {a p:Addr}{b:Int}{t:Tr} (h:H a=some (.tup [.str "take",.int b,.ref p])) (k:lH H p t):lH H a (.take b t)
 | opn {a q:Addr}{ps:List Addr}{b:Int}{ts:List Tr} (h:H a=some (.tup [.str "open",.int b,.ref q])) (g:H q=some (.tup (ps.map V.ref))) (l:ps.length=ts.length) (k:∀ (i:Nat) (p:Addr) (t:Tr),ps[i]? = some p->ts[i]? = some t->lH H p t):lH H a (.opn b ts)
structure Cl where
 cS:Addr
 cT:Addr
 cO:Addr
def fT (b:Int)(p:Addr):List (Str×V):=[("box",.int b),("then",.ref p)]
def fO (b:Int)(q:Addr):List (Str×V):=[("box",.int b),("plans",.ref q)]
inductive nR (c:Cl)(H:Hp):Addr->Tr->Prop
 | stop {a dx:Addr} (h:H a=some (.ins c.cS dx [])):nR c H a .stop
 | take {a dx p:Addr}{b:Int}{t:Tr} (h:H a=some (.ins c.cT dx (fT b p))) (k:nR c H p t):nR c H a (.take b t)
 | opn {a dx q:Addr}{ps:List Addr}{b:Int}{ts:List Tr} (h:H a=some (.ins c.cO dx (fO b q))) (g:H q=some (.tup (ps.map V.ref))) (l:ps.length=ts.length) (k:∀ (i:Nat) (p:Addr) (t:Tr),ps[i]? = some p->ts[i]? = some t->nR c H p t):nR c H a (.opn b ts)
theorem lH.keep {H H':Hp}{a:Addr}{t:Tr}(h:lH H a t)(s:∀ b xs,H b=some (.tup xs)->H' b=some (.tup xs)):lH H' a t:=by
 induction h with
 | stop h=>exact .stop (s _ _ h)
 | take h _ ih=>exact .take (s _ _ h) ih
 | opn h g l _ ih=>exact .opn (s _ _ h) (s _ _ g) l ih
theorem lH.same {H H':Hp}{a:Addr}{t:Tr}(s:aR H H')(h:lH H a t):lH H' a t:=h.keep fun b xs e=>s _ _ e
theorem nR.same {c:Cl}{H H':Hp}{a:Addr}{t:Tr}(s:aR H H')(h:nR c H a t):nR c H' a t:=by
 induction h with
 | stop h=>exact .stop (s _ _ h)
 | take h _ ih=>exact .take (s _ _ h) ih
 | opn h g l _ ih=>exact .opn (s _ _ h) (s _ _ g) l ih
structure CF (K:PySem.W.Frag)(C:Addr):Prop where
 cl:qX K C
 ha:PySem.W.findIn K (.ref C) "__class__" = some (some (.builtin "object.__class__"))
 hm:PySem.W.mroIn K C (.type "object")=some true
structure CK (K:PySem.W.Frag)(c:Cl)(cP:Addr):Prop where
 hn:PySem.W.specialIn K (.builtin "object.__class__") "__get__" = some (some (.builtin "getset_descriptor.__get__"))
 htk:PySem.W.takesIn K (.builtin "object.__class__")=some true
 s:CF K c.cS
 t:CF K c.cT
 o:CF K c.cO
 tb:bT K c.cT "box"
 tt:bT K c.cT "then"
 ob:bT K c.cO "box"
 op:bT K c.cO "plans"
 sS:PySem.W.kitOne K (.ref c.cS) (.ref c.cS)=some true
 sT:PySem.W.kitOne K (.ref c.cS) (.ref c.cT)=some false
 sO:PySem.W.kitOne K (.ref c.cS) (.ref c.cO)=some false
 sP:PySem.W.kitOne K (.ref c.cS) (.ref cP)=some true
 tS:PySem.W.kitOne K (.ref c.cT) (.ref c.cS)=some false
 tT:PySem.W.kitOne K (.ref c.cT) (.ref c.cT)=some true
 tO:PySem.W.kitOne K (.ref c.cT) (.ref c.cO)=some false
 tP:PySem.W.kitOne K (.ref c.cT) (.ref cP)=some true
 oS:PySem.W.kitOne K (.ref c.cO) (.ref c.cS)=some false
 oT:PySem.W.kitOne K (.ref c.cO) (.ref c.cT)=some false
 oO:PySem.W.kitOne K (.ref c.cO) (.ref c.cO)=some true
 oP:PySem.W.kitOne K (.ref c.cO) (.ref cP)=some true
theorem CK.ty {K:PySem.W.Frag}{c:Cl}{cP C:Addr}(k:CK K c cP)(f:CF K C){H:Hp}{a dx:Addr}{fs:List (Str×V)}(e:H a=some (.ins C dx fs)):fL K H (.ref a) (.ref C):=.ins e f.cl f.ha k.hn k.htk f.hm
def W6 (C:Addr):Sp:=fun vs H Q _=>∃ (x dx:Addr) (b:Int) (y:Addr),vs=[.ref x,.int b,.ref y]/\H x=some (.ins C dx [])/\∀ H',H' x=some (.ins C dx (fT b y))->(∀ z,z≠x->H' z=H z)->Q .non H'
def S8 (C:Addr):Sp:=fun vs H Q _=>∃ (x dx:Addr) (b:Int) (y:Addr) (ps:List Addr),vs=[.ref x,.int b,.ref y]/\H x=some (.ins C dx [])/\H y=some (.lst (ps.map V.ref))/\∀ (q:Addr) (H':Hp),H q=none->H' x=some (.ins C dx (fO b q))->H' q=some (.tup (ps.map V.ref))->(∀ z o,H z=some o->z≠x->H' z=some o)->Q .non H'
theorem aBx:¬ (("box" : Str) = "then"):=by decide +kernel
theorem Y0:¬ (("box" : Str) = "plans"):=by decide +kernel
theorem LQ (b:Int)(p:Addr):fU "then" (.ref p) (fU "box" (.int b) [])=fT b p:=by
 show (if ("box" : Str) = "then" then [(("box" : Str),V.ref p)] else (("box" : Str),V.int b)::fU "then" (V.ref p) [])=fT b p;rw [if_neg aBx]
 rfl
theorem MK (b:Int)(p:Addr):fU "plans" (.ref p) (fU "box" (.int b) [])=fO b p:=by
 show (if ("box" : Str) = "plans" then [(("box" : Str),V.ref p)] else (("box" : Str),V.int b)::fU "plans" (V.ref p) [])=fO b p;rw [if_neg Y0]
 rfl
theorem O8 (b:Int)(p:Addr):(fT b p).lookup ("box" : Str)=some (.int b):=by unfold fT; rw [aHO]
theorem Nj (b:Int)(p:Addr):(fO b p).lookup ("box" : Str)=some (.int b):=by unfold fO; rw [aHO]
theorem Jf (b:Int)(p:Addr):(fT b p).lookup ("then" : Str)=some (.ref p):=by rw [<- LQ,iZ,if_pos rfl]
theorem JQ (b:Int)(p:Addr):(fO b p).lookup ("plans" : Str)=some (.ref p):=by rw [<- MK,iZ,if_pos rfl]
end Kn
namespace TX
open PySem L2 TD Kn PyProof.Rows
open Builtin.Int (intBits)
theorem KC (a b:String):Str.ofString (a++b)=Str.ofString a++Str.ofString b:=by
 refine PySem.Str.ext' ?_;rw [PySem.Str.cps_append];refine Array.ext' ?_;rw [Array.toList_append,signs_ofString,signs_ofString,signs_ofString,String.toList_append,aFN]
theorem emp:(Str.ofString "").cps = #[]:=by
 refine Array.ext' ?_;rw [signs_ofString]
 rfl
theorem QK (x:Str):Str.ofString ""++x=x:=by
 refine PySem.Str.ext' ?_;rw [PySem.Str.cps_append,emp,aH1]
theorem Ls (x:Str):x++Str.ofString "" = x:=by
 refine PySem.Str.ext' ?_;rw [PySem.Str.cps_append,emp,Array.append_empty]
theorem len_app (a b:Str):(a++b).length=a.length+b.length:=PySem.Str.length_append a b
theorem De {n:Int}(h:n<0):Str.ofString "-"++iQ (0-n)=iQ n:=by
 unfold iQ;rw [toString_neg h,KC]
theorem dW {n:Int}(h0:0<=n){k:Nat}(hk:0<k)(h:n<10^k):(iQ n).length<=k:=toString_length_le h0 hk h
theorem iJ (sep:Str)(ts:List Str):(Txt.join sep ts).length<=(ts.map (·.length)).sum+ts.length*sep.length:=by
 cases ts with
 | nil=>exact aGa _
 | cons a l =>
  show (Builtin.Str.glued sep (a::l)).length<=_;rw [StrLaws.glued_eq_join,len_join_cons,aGf,aHa,Nat.one_mul];omega
theorem JX {B:Nat}:∀ {l:List Nat},(∀ n∈l,n<=B)->l.sum<=l.length*B
 | [],_=>by simp
 | n::l,h=>by
  have a:=JX (l:=l) fun m hm=>h m (aFG _ hm);have b:=h n aFI;rw [aF0,aGf,aHa,Nat.one_mul];omega
theorem fK {sep:Str}{ts:List Str}{B:Nat}(h:∀ t∈ts,t.length<=B):(ts.map (·.length)).sum+ts.length*sep.length<=ts.length*(B+sep.length):=by
 have a:=JX (B:=B) (l:=ts.map (·.length)) fun n hn=>by
  obtain ⟨t,ht,rfl⟩:=aFL.mp hn;exact h t ht
 rw [aFF] at a;rw [aG9];omega
def uW:Nat->Sd.Sd->Str
 | 0,_=>Str.ofString ""
 | _+1,.en v=>iQ v
 | n+1,.st p rs=>iQ p++Str.ofString "["++Txt.join (Str.ofString " ") (rs.map fun r=>iQ r.1++Str.ofString ":"++uW n r.2)++Str.ofString "]"
theorem xN {w:Int}(h:1<=w/\w<=1000)(x:Str):(iQ w++Str.ofString ":"++x).length<=5+x.length:=by
 rw [len_app,len_app];have a:=dW (n:=w) (by omega) (k:=4) (by decide) (by show w<10000; omega);have b:(Str.ofString ":").length=1:=by decide
 omega
theorem mL:∀ {n d m:Nat}{s:Sd.Sd},Sd.Ok s d m->(uW n s).length<=50*5^n
 | 0,_,_,_,_=>by show (Str.ofString "").length<=_; decide
 | n+1,_,_,_,.en h0 h9 hm=>by
  have a:=dW h0 (k:=10) (by decide) (by show _<(10000000000:Int); omega);have:1<=5^(n+1):=Nat.pow_pos (by decide);show (iQ _).length<=_;omega
 | n+1,_,_,_,.st (p:=p) (rs:=rs) h0 h9 ne l4 w sub hk=>by
  show (iQ p++Str.ofString "["++Txt.join (Str.ofString " ") (rs.map fun r=>iQ r.1++Str.ofString ":"++uW n r.2)++Str.ofString "]").length<=_;rw [len_app,len_app,len_app];have a:=dW h0 (k:=10) (by decide) (by show _<(10000000000:Int); omega);have b1:(Str.ofString "[").length=1:=by decide
  have b2:(Str.ofString "]").length=1:=by decide
  have b3:(Str.ofString " ").length=1:=by decide
  have c:=aFJ (iJ (Str.ofString " ") (rs.map fun r=>iQ r.1++Str.ofString ":"++uW n r.2)) (fK (B:=5+50*5^n) fun t ht=>by
   obtain ⟨r,hr,rfl⟩:=aFL.mp ht;exact aFJ (xN (w r hr) _) (aG3 (mL (sub r hr)) 5))
  rw [aFF,b3] at c;have c2:=aGy (5+50*5^n+1) l4;have:1<=5^n:=Nat.pow_pos (by decide);rw [Nat.pow_succ];omega
inductive pG:Tr->Nat->Nat->Prop
 | stop (d m:Nat) (hm:1<=m):pG .stop (d+1) m
 | take {b:Int}{t:Tr}{d m:Nat} (hb:0<=b/\b<=5) (h:pG t d m) (hm:1<=m):pG (.take b t) (d+1) m
 | opn {b:Int}{ts:List Tr}{d m:Nat} (hb:0<=b/\b<=5) (h1:1<=ts.length) (hl:ts.length<=4) (lm:ts.length<=m) (h:∀ t∈ts,pG t d (m/ts.length)):pG (.opn b ts) (d+1) m
theorem pG.dp {t:Tr}{d m:Nat}(h:pG t d m):Dp t d:=by
 induction h with
 | stop d m hm=>exact .stop d
 | take hb h hm ih=>exact .take ih
 | opn hb h1 hl lm h ih=>exact .opn ih hl
def Bb:Nat->Tr->Str
 | 0,_=>Str.ofString ""
 | _+1,.stop=>Str.ofString "stop"
 | n+1,.take b t=>Str.ofString "take "++iQ b++Str.ofString " "++Bb n t
 | n+1,.opn b ts=>Str.ofString "open "++iQ b++Str.ofString " ("++Txt.join (Str.ofString ", ") (ts.map (Bb n))++Str.ofString ")"
theorem mJ {b:Int}(h:0<=b/\b<=5):(iQ b).length<=1:=dW h.1 (by decide) (by show b<10; omega)
theorem Jy {t:Tr}{d m:Nat}(h:pG t d m):∀ n,(Bb n t).length<=20*d*m:=by
 induction h with
 | stop d m hm =>
  intro n;have e:20<=20*(d+1)*m:=by
   have:=aHW (show 20<=20*(d+1) by omega) hm;omega
  cases n with
  | zero=>show (Str.ofString "").length<=_; exact aFJ (by decide:_<=20) e
  | succ n=>show (Str.ofString "stop").length<=_; exact aFJ (by decide:_<=20) e
 | @take b t d m hb h hm ih =>
  intro n;have e:20*d*m+20*m=20*(d+1)*m:=by rw [aG9,aHa]
  cases n with
  | zero=>show (Str.ofString "").length<=_; exact aFJ (by decide:_<=0) (aGa _)
  | succ n =>
   show (Str.ofString "take "++iQ b++Str.ofString " "++Bb n t).length<=_;rw [len_app,len_app,len_app];have a:=ih n;have c:=mJ hb;have b1:(Str.ofString "take ").length=5:=by decide
   have b2:(Str.ofString " ").length=1:=by decide
   omega
 | @opn b ts d m hb h1 hl lm h ih =>
  intro n;have e:20*d*m+20*m=20*(d+1)*m:=by rw [aG9,aHa]
  cases n with
  | zero=>show (Str.ofString "").length<=_; exact aFJ (by decide:_<=0) (aGa _)
  | succ n =>
   show (Str.ofString "open "++iQ b++Str.ofString " ("++Txt.join (Str.ofString ", ") (ts.map (Bb n))++Str.ofString ")").length<=_;rw [len_app,len_app,len_app,len_app];have c:=mJ hb;have b1:(Str.ofString "open ").length=5:=by decide
   have b2:(Str.ofString " (").length=2:=by decide
   have b3:(Str.ofString ")").length=1:=by decide
   have b4:(Str.ofString ", ").length=2:=by decide
   have j:=aFJ (iJ (Str.ofString ", ") (ts.map (Bb n))) (fK (B:=20*d*(m/ts.length)) fun x hx=>by
    obtain ⟨t,ht,rfl⟩:=aFL.mp hx;exact ih t ht n)
   rw [aFF,b4,aG9] at j;have k:ts.length*(20*d*(m/ts.length))<=20*d*m:=by
    rw [Nat.mul_comm,Nat.mul_assoc];exact aGg _ (Nat.div_mul_le_self _ _)
   omega
end TX
namespace TD
open PySem PySem.Spec PyProof.Rows L2
theorem CN.of {K:PySem.W.Frag}{c:Cs}(h:(["tuple","int","NoneType","str","list"].map fun T=>(PySem.W.kitOne K (.type T) (.ref c.e),PySem.W.kitOne K (.type T) (.ref c.s)))=aGo 5 (some false,some false))(t:PySem.W.kitOne K (.ref c.e) (.type "tuple")=some false):CN K c :=
 ⟨fun T hT=>by
  have:=List.mem_map_of_mem (f:=fun T=>(PySem.W.kitOne K (.type T) (.ref c.e),PySem.W.kitOne K (.type T) (.ref c.s))) hT;rw [h] at this;have e:=List.eq_of_mem_replicate this;exact ⟨congrArg (·.1) e,congrArg (·.2) e⟩,t⟩
end TD
namespace L2
open PySem PySem.Spec PyProof.Rows
section
variable {X:Cx}
def JP (ns:List Int):List Int:=ns.foldl step_dedup []
theorem Ao (ns:List Int):firstMet (fun i=>ns.getD i 0) ns.length=JP ns:=by
 unfold firstMet JP
 congr 1
 apply List.ext_getElem
 ·simp
 ·intro i h1 h2;simp [h2]
theorem Fe (hc:X.calm=true):d8 X (.type "set") (fun xs H Q=>∃ (a:Addr) (ns:List Int),xs=[.ref a]/\bV X.K H a (ns.map V.int)/\ns.length+1<scanBound ∧
  ∀ r,H r=none->Q (.ref r) (bG H r (.set (fun k=>(JP ns).any (·==k)) (JP ns).length))):=by
 intro pins s σ H xs us Q I r h;obtain ⟨a,ns,rfl,hS,hb,q⟩:=h;obtain ⟨u,rfl,ru⟩:=vals1 r;cases (show u=Value.ref a from ru);obtain ⟨its,rv,p,hz⟩:=I.list hS;have hi:=intsAre_of rv;have hl:its.toArray.size=ns.length:=by
  have h:=rv.length;rw [aFF] at h
  simpa using h.symm
 refine call_set_list (items:=its.toArray) (ns:=ns) (I.ok.hd hc) p.isList hi (by rw [hl]; exact hb) fun h' tk hSO kp=>?_;rw [hl,Ao] at hSO;refine ⟨.ref s.heap.objs.size,_,I.laid (t':=tk) (fun b o e=>kp b o (aFQ e) e) (aFM _) (show b7 X.prog X.w _ h' _ (.set _ _) from hSO),rfl,q _ (I.hok.fresh (aFM _))⟩
theorem uQ:d8 X (.builtin "len") (fun xs H Q=>∃ (a:Addr) (S:Int->Bool) (n:Nat),xs=[.ref a]/\H a=some (.set S n)/\Q (.int n) H):=by
 intro pins s σ H xs us Q I r h;obtain ⟨a,S,n,rfl,ha,q⟩:=h;obtain ⟨u,rfl,ru⟩:=vals1 r;cases (show u=Value.ref a from ru);obtain ⟨o,es,ep,t,ho,hex,hd,_,_,hsb,hf,hn⟩:=(show b7 X.prog X.w H s.heap a (.set S n) from I.hok a _ ha)
 subst hn;refine call_len_set ho hex hd hf ?_ ⟨.int es.size,H,I.kept (h':=s.heap) (fun _ _ e=>e),⟨_,rfl⟩,q⟩;have:(es.size:Int)<4096:=by unfold scanBound at hsb; omega
 exact aIf this (by decide)
end
section
variable {prog:Program}{w:World}{A:Around}{E:Value->Shared->Prop}{s:Shared}{a₀:Array PyProof.Rows.Keyed}
theorem Ai {l:Addr}{o:Obj}{T:String}{vs:List Value}{n:Nat}{Q:List Value->Shared->Prop}(hT:T = "list"∨T = "tuple")(ho:s.heap.get? l=some o)(hc:o.cls=.type T)(hd:o.data=.seq vs.toArray n)(hz:vs.length<=sizeLine)
  (h:∀ h',(∀ b u,s.heap.get? b=some u->h'.get? b=some u)->Q vs { s with heap:=h' }):wpAny (model prog w) A (collect (.ref l)) Q E s:=by
 unfold collect;refine wpAny_bind (wpAny_runValue (codeAny_builtin entry_proto_collect' ?_));show wpAny _ _ (do again (.builtin "list.__iadd__" ⟨[<- newList [],.ref l],[]⟩)) _ _ s;refine wpAny_bind (wpAny_newList (wpAny_pure ⟨Code.quiet_builtin _ (by decide +kernel),codeAny_builtin entry_list_iadd' ?_⟩));show wpAny _ _ (Builtin.List.listExtendWith (.ref s.heap.objs.size) (.ref l) (.ref s.heap.objs.size)) _ _ { s with heap:=s.heap.push (seqObj "list" #[] 0) };unfold Builtin.List.listExtendWith;have ho':(s.heap.push (seqObj "list" #[] 0)).get? l=some o:=aFH _ ho;refine wpAny_bind (wpAny_typeOf (T:=T) ⟨o,ho',hc⟩ ?_);rw [if_pos (by rcases hT with e | e <;> subst e <;> simp)];refine wpAny_bind (listItems_at ho' hd (wpAny_bind (listItems_at (xs:=#[]) (n:=0) (aFV _ rfl) rfl ?_)));rw [if_neg (by simp)];refine wpAny_bind (listUpdate_at (xs:=#[]) (n:=0) (aFV _ rfl) rfl ?_ (aGa _) (by show (#[]++vs.toArray).size<=sizeLine+1; simp only [Array.size_append,aFW,aIo]; omega));refine wpAny_pure ?_;show wpAny (model prog w) A (do
   let o <- load s.heap.objs.size
   match o.data with
   | .seq xs _=>pure xs.toList
   | _=>unsupported "internal:collect") Q E { s with heap:=(s.heap.push (seqObj "list" #[] 0)).update s.heap.objs.size (Obj.mapSeq (·++vs.toArray)) }
 refine wpAny_bind (wpAny_load (get?_update_seq (aFV _ rfl) _) ?_);show wpAny _ _ (pure ((#[]:Array Value)++vs.toArray).toList) Q E _;rw [show ((#[]:Array Value)++vs.toArray).toList=vs by simp];refine wpAny_pure (h _ fun b u e=>?_);rw [Heap.get?_update_ne _ _ _ _ (aF6 (aFQ e))];exact aFH _ e
end
section
variable {X:Cx}
def SM (ns:List Int):Prop:=ns.length<64∨(ns.length=64/\ns.Pairwise (·<=·))
theorem Ot {e:Expr}{a b c:TE}(h1:PE X e a)(h2:PE X e b)(h3:PE X e c):PE X e (fun σ H Q=>a σ H Q∨b σ H Q∨c σ H Q):=fun pins s σ H Q I h=>by
 rcases h with h | h | h
 ·exact h1 pins s σ H Q I h
 ·exact h2 pins s σ H Q I h
 ·exact h3 pins s σ H Q I h
end
theorem Jx {ns:List Int}(nd:ns.Nodup):JP ns=ns:=by
 have go:∀ (ms ds:List Int),(ds++ms).Nodup->ms.foldl PyProof.Rows.step_dedup ds=ds++ms:=by
  intro ms
  induction ms with
  | nil=>intro ds _; simp
  | cons m ms ih =>
   intro ds h;have hm:ds.any (·==m)=false:=by
    rw [aH5];intro x hx z;have hxm:x=m:=by simpa using z
    have:=(aIc.mp h).2.2 x hx m aFI;exact this hxm
   show ms.foldl PyProof.Rows.step_dedup (PyProof.Rows.step_dedup ds m)=_;have e:PyProof.Rows.step_dedup ds m=ds++[m]:=by unfold PyProof.Rows.step_dedup; rw [if_neg (by rw [hm]; exact aF2)]
   rw [e,ih (ds++[m]) (by rw [aIg]; exact h),aIg]
   rfl
 exact go ns [] (by simpa using nd)
theorem Bu {X:Cx}{K:PySem.W.Frag}(hK:X.K=K)(hc:X.calm=true):d8 X (.type "set") (fun xs H Q=>∃ (a:Addr) (ns:List Int),xs=[.ref a]/\bV K H a (ns.map V.int)/\ns.length+1<scanBound ∧
  ∀ r,H r=none->Q (.ref r) (bG H r (.set (fun k=>(JP ns).any (·==k)) (JP ns).length))):=by subst hK; exact Fe hc
theorem Mv:bootBuiltins "set" = some (.type "set"):=by decide +kernel
end L2
namespace TP
open PySem L2 TD
open Builtin.Int (intBits)
def hb (k b:Int):Bool:=decide (V.int (Builtin.bitAnd (k/2^b.toNat) 1)=V.int 1)
def six (n:Nat):List Int:=(aHp n).map fun (i:Nat)=>(0:Int)+(i:Int)
def Wc (k:Int):List Int:=(six 6).filter (hb k)
def Bj:Sp:=fun vs H Q _=>∃ (a:Addr) (ns:List Int) (lo hi g:Int),vs=[.ref a,.int lo,.int hi,.int g]/\H a=some (.lst (Is ns))/\lo<=(ns.length:Int)/\(ns.length:Int)<=hi/\ns.length<=64/\(∀ n∈ns,0<=n/\n<=g)/\∀ H',aR H H'->Q (.bl true) H'
inductive Sk where
 | few (c:Int)
 | groups (gs ms:List Int)
 | listed (ks:List Int)
structure Y4 (gs ms:List Int):Prop where
 l1:1<=gs.length
 l6:gs.length<=6
 g:∀ g∈gs,0<=g/\g<=5
 m6:ms.length=6
 m:∀ m∈ms,0<=m/\m<=6
structure GLs (ks:List Int):Prop where
 l1:1<=ks.length
 few:SM ks
 nd:ks.Nodup
 k:∀ k∈ks,0<=k/\k<=63
def aBQ:Sk->Prop
 | .few c=>0<=c/\c<=6
 | .groups gs ms=>Y4 gs ms
 | .listed ks=>GLs ks
def X7 (gs ms:List Int)(k:Int):Bool:=(Wc k).all (fun b=>decide (b<(gs.length:Int)))&&((Wc k).map fun b=>gs.getD b.toNat 0).all fun g=>decide ((((Wc k).map fun b=>gs.getD b.toNat 0).count g:Nat)<=ms.getD g.toNat 0)
def aAq:Sk->Int->Bool
 | .few c,k=>decide (((Wc k).length:Nat)<=c)
 | .groups gs ms,k=>X7 gs ms k
 | .listed ks,k=>inV (.int k) (Is ks)
def wX (H:Hp)(p:Addr):Sk->Prop
 | .few c=>H p=some (.tup [.str "few",.int c])
 | .groups gs ms=>∃ g m,H p=some (.tup [.str "groups",.ref g,.ref m])/\H g=some (.tup (Is gs))/\H m=some (.tup (Is ms))
 | .listed ks=>∃ k,H p=some (.tup [.str "listed",.ref k])/\H k=some (.tup (Is ks))
theorem wX.same {H H':Hp}{p:Addr}{S:Sk}(s:aR H H')(h:wX H p S):wX H' p S:=by
 cases S with
 | few c=>exact s _ _ h
 | groups gs ms=>obtain ⟨g,m,a,b,c⟩:=h; exact ⟨g,m,s _ _ a,s _ _ b,s _ _ c⟩
 | listed ks=>obtain ⟨k,a,b⟩:=h; exact ⟨k,s _ _ a,s _ _ b⟩
structure Kg where
 f:Addr
 g:Addr
 l:Addr
def HX (C:Addr)(H:Hp)(x:Addr)(c:Int):Prop:=∃ dx,H x=some (.ins C dx [("limit",.int c)])
def Ov (C:Addr)(H:Hp)(x:Addr)(gs ms:List Int):Prop:=∃ dx g m,H x=some (.ins C dx [("groups",.ref g),("most",.ref m)])/\H g=some (.tup (Is gs))/\H m=some (.tup (Is ms))
def Np (C:Addr)(H:Hp)(x:Addr)(ks:List Int):Prop:=∃ dx k,H x=some (.ins C dx [("sets",.ref k)])/\H k=some (.tup (Is ks))
def Kh (C:Addr):Sp:=fun vs H Q _=>∃ (x dx:Addr) (c:Int),vs=[.ref x,.int c]/\H x=some (.ins C dx [])/\0<=c/\c<=6/\Q .non (bG H x (.ins C dx [("limit",.int c)]))
def Do (C:Addr):Sp:=fun vs H Q _=>∃ (x:Addr) (c:Int),vs=[.ref x]/\HX C H x c/\∀ r H',aR H H'->wX H' r (.few c)->Q (.ref r) H'
def Ku (C:Addr):Sp:=fun vs H Q _=>∃ (x dx a b:Addr) (gs ms:List Int),vs=[.ref x,.ref a,.ref b]/\H x=some (.ins C dx [])/\H a=some (.lst (Is gs))/\H b=some (.lst (Is ms))/\Y4 gs ms ∧
 ∀ g m H',(∀ b o,b≠x->H b=some o->H' b=some o)->H' g=some (.tup (Is gs))->H' m=some (.tup (Is ms))->H' x=some (.ins C dx [("groups",.ref g),("most",.ref m)])->Q .non H'
def Er (C:Addr):Sp:=fun vs H Q _=>∃ (x:Addr) (gs ms:List Int),vs=[.ref x]/\Ov C H x gs ms/\∀ r H',aR H H'->wX H' r (.groups gs ms)->Q (.ref r) H'
def Dq (C:Addr):Sp:=fun vs H Q _=>∃ (x:Addr) (ks:List Int),vs=[.ref x]/\Np C H x ks/\∀ r H',aR H H'->wX H' r (.listed ks)->Q (.ref r) H'
end TP
namespace TP
open PySem L2 TD
theorem getD_mem {ns:List Int}{i:Nat}(h:i<ns.length):ns.getD i 0∈ns:=by
 rw [show ns.getD i 0=ns[i] by simp [h]];exact aGt h
theorem at1 {xs:List V}{i:Nat}{v:V}(h:xs[i+1]? = some v):FT xs (0+(i:Int)+1)=some v:=by
 have:=oY h;rw [show ((i+1:Nat):Int)=0+(i:Int)+1 by omega] at this;exact this
structure PCT (K:PySem.W.Frag)(p:Kg):Prop where
 hn:PySem.W.specialIn K (.builtin "object.__class__") "__get__" = some (some (.builtin "getset_descriptor.__get__"))
 htk:PySem.W.takesIn K (.builtin "object.__class__")=some true
 cf:qX K p.f
 cg:qX K p.g
 cl:qX K p.l
 fa:PySem.W.findIn K (.ref p.f) "__class__" = some (some (.builtin "object.__class__"))
 fm:PySem.W.mroIn K p.f (.type "object")=some true
 ga:PySem.W.findIn K (.ref p.g) "__class__" = some (some (.builtin "object.__class__"))
 gm:PySem.W.mroIn K p.g (.type "object")=some true
 la:PySem.W.findIn K (.ref p.l) "__class__" = some (some (.builtin "object.__class__"))
 lm:PySem.W.mroIn K p.l (.type "object")=some true
 ff:PySem.W.kitOne K (.ref p.f) (.ref p.f)=some true
 gf:PySem.W.kitOne K (.ref p.g) (.ref p.f)=some false
 gg:PySem.W.kitOne K (.ref p.g) (.ref p.g)=some true
 lf:PySem.W.kitOne K (.ref p.l) (.ref p.f)=some false
 lg:PySem.W.kitOne K (.ref p.l) (.ref p.g)=some false
 ll:PySem.W.kitOne K (.ref p.l) (.ref p.l)=some true
def Q9 (ks:List Int):Int:=(ks.map fun b=>(1:Int)*2^b.toNat).sum
def keepB (q:Ca)(S:Sk)(i:Nat):Bool:=!(q.bs.getD i false)&&aAq S (Builtin.bitOr (Q9 (Qo q)) (1*2^((i:Int)).toNat))
theorem Io {c:Cs}{ta:TE}{σ:St}{H:Hp}{Q:VK}{y:Addr}{s:Sd.Sd}{d m:Nat}(hta:∀ Q':VK,Q' (.ref y) H->ta σ H Q')(st:eO c H y s d m)
  (k:∀ b,((∃ v,s=.en v)/\b=true∨(∃ p rs,s=.st p rs)/\b=false)->Q (.bl b) H):yX c.e "is_end" (vM c true) [] E0 ta uK σ H Q∨yX c.s "is_end" (vM c false) [] E0 ta uK σ H Q:=by
 cases st with
 | en h vv ok=>exact .inl (hta _ ⟨y,_,_,rfl,h,rfl,y,rfl,k _ (.inl ⟨⟨_,rfl⟩,rfl⟩)⟩)
 | st h vv g lp ly row sub p0 p9 ne l4 w hk=>exact .inr (hta _ ⟨y,_,_,rfl,h,rfl,y,rfl,k _ (.inr ⟨⟨_,_,rfl⟩,rfl⟩)⟩)
end TP
namespace L2
open PySem PySem.Spec PyProof.Rows
section
variable {prog:Program}{w:World}{A:Around}{E:Value->Shared->Prop}{s:Shared}{a₀:Array PyProof.Rows.Keyed}
theorem JT {st:SortSt}{m:Nat}{Q:Option Nat->SortSt->Prop}(h0:IntKeys a₀)(hn:m<=a₀.size)(h2:2<=m)(hB:SBase a₀ st)(hs:∀ i j,i<j->j<m->K (arrOf st) j<K (arrOf st) i)(h:∀ st',SBase a₀ st'->SortedTo (arrOf st') m->Q (some m) st') :
  wpS (model prog w) A E s (countRun' 0 m) Q st:=by
 rw [countRun0_eq];refine wpS_bind (wpS_ascLoop h0 hn (aFM 1) (by omega) hB (fun i j hij hj=>by have:i=j:=(by omega);subst this; exact aGp _) fun n n1 n2 hsn _=>?_)
 have e:n=1:=by
  by_cases z:2<=n
  ·have a:=hsn 0 1 (by omega) (by omega);have b:=hs 0 1 (by omega) (by omega);omega
  ·omega
 subst e;dsimp only;rw [if_neg (by simp; omega),if_neg (by omega)];unfold descPart;refine wpS_bind (wpS_lift (wpAny_rule ⟨rfl,?_⟩));have loop:wpS (model prog w) A E s (descLoop (1+1) m) (fun c st'=>c=(none,m,0)/\st'=st) st:=by
  unfold descLoop;refine wpS_forRange (I:=fun x c st'=>c=(none,x,0)/\st'=st) ?step ?fin ⟨rfl,rfl⟩
  case fin =>
   rintro c st' ⟨rfl,rfl⟩;rw [show max (1+1) m=m by omega];exact ⟨rfl,rfl⟩
  case step =>
   rintro x c st' hax hxn ⟨rfl,rfl⟩;dsimp only;refine wpS_bind (wpS_ltK hB h0 (by omega) (by omega) ?_);have hless:=hs (x-1) x (by omega) hxn;simp only [hless,decide_true,if_true];rw [if_neg (by omega)];exact wpS_pure ⟨rfl,rfl⟩
 refine wpS_bind (wpS_mono loop ?_);rintro c st' ⟨rfl,rfl⟩;dsimp only;rw [if_neg (by omega)];unfold tail3;have hsz:m<=(arrOf st').size:=by rw [hB.size]; omega
 refine wpS_bind (wpS_reverse ?_);have hB':SBase a₀ (setArr st' (mirror (arrOf st') 0 m ((m-0)/2))):=hB.setArr (mirror_perm _ _ _ _);have so:SortedTo (arrOf (setArr st' (mirror (arrOf st') 0 m ((m-0)/2)))) m:=by
  intro i j hij hj;show K (mirror (arrOf st') 0 m ((m-0)/2)) i<=K (mirror (arrOf st') 0 m ((m-0)/2)) j;rw [K_mirror hsz,K_mirror hsz,if_pos (by omega),if_pos (by omega)]
  by_cases e:i=j
  ·subst e; exact aGp _
  ·exact aFS (hs _ _ (by omega) (by omega))
 refine wpS_bind (wpS_ascLoop h0 hn (by omega) (aFM m) hB' so fun k k1 k2 _ _=>?_);obtain rfl:k=m:=by omega
 exact wpS_pure (h _ hB' so)
theorem K4 {st:SortSt}{Q:Unit->SortSt->Prop}(h0:IntKeys a₀)(hB:SBase a₀ st)(h64:a₀.size=64)(hs:∀ i j,i<j->j<a₀.size->K (arrOf st) j<K (arrOf st) i)
  (h:∀ st',(arrOf st').Perm a₀->failedOf st'=none->SortedTo (arrOf st') a₀.size->Q () st'):wpS (model prog w) A E s sortRuns' Q st:=by
 rw [sortRuns'_eq];refine wpS_bind (wpS_get ?_);have hm:minRun' 64 64 0=32:=by decide
 simp only [hB.size,h64,hm];rw [h64] at hs;refine wpS_bind (wpS_mono (wpS_forRange (I:=fun x c st'=>(x=0/\c=(none,0)/\st'=st)∨(1<=x/\c=(none,64)/\∃ s2,SBase a₀ s2/\SortedTo (arrOf s2) 64/\st'=setPending s2 ((pendingOf s2).push (0,64,0)))) (Q:=fun c st'=>c=(none,64)/\∃ s2,SBase a₀ s2/\SortedTo (arrOf s2) 64/\st'=setPending s2 ((pendingOf s2).push (0,64,0))) ?step ?fin (.inl ⟨rfl,rfl,rfl⟩)) ?post)
 case fin =>
  rintro c st' (⟨hx,_,_⟩ | ⟨_,hc,hD⟩)
  ·omega
  ·exact ⟨hc,hD⟩
 case step =>
  rintro x c st' _ hx (⟨rfl,rfl,rfl⟩ | ⟨hx1,rfl,hD⟩)
  ·dsimp only;rw [if_neg (by omega)];simp only [Nat.sub_zero,aH6];refine wpS_bind (JT h0 (by omega) (by decide) hB hs fun s2 hB2 hs2=>?_);dsimp only;rw [if_neg (by decide)];refine wpS_bind (wpS_get ?_);rw [show (pendingOf s2).back? = none by rw [hB2.pend]; rfl];dsimp only;exact wpS_bind (wpS_modify (wpS_pure (.inr ⟨by omega,rfl,s2,hB2,hs2,rfl⟩)))
  ·dsimp only;rw [if_pos (aFM _)];exact wpS_pure ⟨rfl,hD⟩
 case post =>
  rintro c st' ⟨rfl,s2,hB2,hs2,rfl⟩;dsimp only;refine wpS_bind (wpS_mono (wpS_forRange (I:=fun _ c st''=>st''=setPending s2 ((pendingOf s2).push (0,64,0))/\c=(none,())) (Q:=fun c st''=>st''=setPending s2 ((pendingOf s2).push (0,64,0))/\c=(none,())) ?_ (fun _ _ hh=>hh) ⟨rfl,rfl⟩) ?_)
  ·rintro x c st'' _ _ ⟨rfl,rfl⟩;refine wpS_bind (wpS_get ?_);rw [if_pos (by show ((pendingOf s2).push (0,64,0)).size<=1; rw [hB2.pend]; exact aFM 1)];exact wpS_pure ⟨rfl,rfl⟩
  ·rintro c st'' ⟨rfl,rfl⟩;exact wpS_pure (h _ hB2.perm hB2.failed (by rw [h64]; exact hs2))
theorem uL {vs:List Value}{ns:List Int}(hI:IntsAre vs ns)(hs:ns.Pairwise (· > ·)):∀ i j,i<j->j<(pairsOf vs).size->K (pairsOf vs) j<K (pairsOf vs) i:=by
 intro i j hij hj;have hi:i<(pairsOf vs).size:=by omega
 have hn:=hI.nums;have kk:∀ (k:Nat) (hk:k<(pairsOf vs).size),K (pairsOf vs) k=ns[k]'(by rw [<- hn,aFF]; rw [pairsOf_size] at hk; exact hk):=fun k hk=>by
  rw [K_eq hk];simp only [pairsOf,Array.getElem_zip,List.getElem_toArray];have e:ns[k]'(by rw [<- hn,aFF]; rw [pairsOf_size] at hk; exact hk)=(vs.map numOf)[k]'(by rw [aFF]; rw [pairsOf_size] at hk; exact hk):=by simp only [hn]
  rw [e,List.getElem_map]
 rw [kk i hi,kk j hj];exact aHv.mp hs i j _ _ hij
theorem Ju {a:Addr}{vs:List Value}{ns:List Int}{n:Nat}{P:PySem.Fin->Shared->Prop}(ho:s.heap.get? a=some (seqObj "list" vs.toArray n))(hI:IntsAre vs ns)(h64:vs.length=64)(hs:ns.Pairwise (· > ·))
  (h:∀ (out:Array Value) (ns':List Int),IntsAre out.toList ns'->ns'.Perm ns->ns'.Pairwise (·<=·)->P (.done (.ret .none)) { s with heap:=sortedHeap s.heap a vs out }) :
  wpAny (model prog w) A (Builtin.«list.sort» ⟨[.ref a],[]⟩) P E s:=by
 rw [list_sort_plain];have ha:a<s.heap.objs.size:=aFQ ho;have hl:vs.toArray.size=64:=by simpa using h64
 refine wpAny_bind (listItems_at ho rfl (wpAny_bind (listUpdate_at ho rfl ?_ (by rw [hl,sizeLine_eq]; decide) (aGa _))));obtain ⟨e1,ho1⟩:∃ e1,(s.heap.update a (Obj.mapSeq fun _=>#[])).get? a=some (seqObj "list" #[] e1):=⟨_,get?_update_seq ho (fun _=>#[])⟩
 refine wpAny_bind (seqEpoch_at ho1 rfl (wpAny_bind (wpAny_newTuple (wpAny_bind (wpAny_newList (wpAny_holding ?_))) (by rw [show vs.toArray.toList=vs from rfl,h64,sizeLine_eq]; decide))));have ho6:(((s.heap.update a (Obj.mapSeq fun _=>#[])).push (seqObj "tuple" vs.toArray 0)).push (seqObj "list" #[] 0)).get? a=some (seqObj "list" #[] e1):=aFH _ (aFH _ ho1);show wpAny (model prog w) A _ P E { s with heap:=((s.heap.update a (Obj.mapSeq fun _=>#[])).push (seqObj "tuple" vs.toArray 0)).push (seqObj "list" #[] 0) };dsimp only;rw [if_neg (by rw [hl]; decide),if_neg (by rw [hl]; decide)];obtain ⟨v1,v2,rest,rfl⟩:∃ v1 v2 rest,vs=v1::v2::rest:=by
  match vs,h64 with
  | v1::v2::rest,_=>exact ⟨v1,v2,rest,rfl⟩
 rw [keyKind_ints hI];refine wpAny_bind (wpAny_pure ?_);refine wpAny_bind (wpAny_mono (K4 (a₀:=pairsOf (v1::v2::rest)) (st:=SortSt.mk' oneType' ((v1::v2::rest).toArray.zip (v1::v2::rest).toArray) #[] 7 none)
  (Q:=fun _ st'=>(arrOf st').Perm (pairsOf (v1::v2::rest))/\failedOf st'=none/\SortedTo (arrOf st') (pairsOf (v1::v2::rest)).size)
  hI.intKeys ⟨aIq.refl _,rfl,rfl,rfl⟩ (by rw [pairsOf_size]; exact h64) (uL hI hs) fun st' a1 a2 a3=>⟨a1,a2,a3⟩) ?_ fun _ _ e=>e)
 rintro ⟨⟨⟩,st'⟩ s' ⟨rfl,hp,hf,hso⟩;dsimp only;refine wpAny_bind (seqEpoch_at ho6 rfl (wpAny_bind (listUpdate_at ho6 rfl ?_ (aGa _) (aFJ (aHF ((Array.size_map ..).trans (hp.size_eq.trans ((pairsOf_size _).trans h64)))) (by rw [sizeLine_eq]; decide)))));rw [hf];simp only [bne_self_eq_false,aGr,if_false];obtain ⟨ns',b1,b2,b3⟩:=sorted_out hI hp hso;exact wpAny_pure (h _ ns' b1 b2 b3)
end
section
variable {X:Cx}
def CG (ns:List Int):Prop:=ns.length<64∨(ns.length=64/\ns.Pairwise (· > ·))
theorem uP:d8 X (.builtin "sorted") (fun xs H Q=>∃ (p:Addr) (ns:List Int),xs=[.ref p]/\(bV X.K H p (ns.map V.int)∨bW X.K H p (ns.map V.int))/\CG ns ∧
  ∀ (l:Addr) (ms:List Int),H l=none->ms.Perm ns->ms.Pairwise (·<=·)->Q (.ref l) (bG H l (.lst (ms.map V.int)))):=by
 intro pins s σ H xs us Q I r h;obtain ⟨p,ns,rfl,hq,h64,q⟩:=h;obtain ⟨u,rfl,ru⟩:=vals1 r;cases (show u=Value.ref p from ru);obtain ⟨T,hT,o,its,n,ho,hc,hd,rv,hz⟩:∃ T,(T = "list"∨T = "tuple")/\∃ (o:Obj) (its:List Value) (n:Nat),s.heap.get? p=some o/\o.cls=.type T/\o.data=.seq its.toArray n/\bZ (ns.map V.int) its/\(ns.map V.int).length<=sizeLine:=by
  rcases hq with hq | hq
  ·obtain ⟨its,rv,pl,hz⟩:=I.list hq;obtain ⟨o,ho,hc,n,hd⟩:=pl.isList;exact ⟨"list",.inl rfl,o,its,n,ho,hc,hd,rv,hz⟩
  ·obtain ⟨its,rv,pl,hz⟩:=I.tuple hq;obtain ⟨o,ho,hc,n,hd⟩:=pl;exact ⟨"tuple",.inr rfl,o,its,n,ho,hc,hd,rv,hz⟩
 have hlen:=rv.length;have hi:=intsAre_of rv;have hln:its.length=ns.length:=hi.length;refine Calls.call_function_entry kind_sorted plain_sorted entry_sorted (args_sorted1 _) ?_;unfold Builtin.«sorted»;refine wpAny_bind (m:=checkCount "sorted" 1 1 _) (wpAny_pure ?_);refine wpAny_bind (Ai hT ho hc hd (by omega) fun h' kp=>?_);refine wpAny_bind (wpAny_newList ?_ (by omega));have hoL:(h'.push (seqObj "list" its.toArray 0)).get? h'.objs.size=some (seqObj "list" its.toArray 0):=aFV _ rfl;have fin:∀ (out:Array Value) (ns':List Int),IntsAre out.toList ns'->ns'.Perm ns->ns'.Pairwise (·<=·)->EP X pins σ Q (.ref h'.objs.size) { s with heap:=sortedHeap (h'.push (seqObj "list" its.toArray 0)) h'.objs.size its out }:=fun out ns' a1 a2 a3=>by
  have I1:aW X pins σ H { s with heap:=h' }:=I.kept (t':=s.toks) kp;obtain ⟨ep2,eo⟩:=sortedHeap_at (out:=out) hoL;have hlo:out.toList.length=ns'.length:=a1.length;have hl2:ns'.length=ns.length:=a2.length_eq;refine ⟨.ref h'.objs.size,bG H h'.objs.size (.lst (ns'.map V.int)),I1.laid (t':=s.toks) (fun b u q=>?_) (aFM _) ⟨by rw [aFF]; omega,out.toList,ep2,pB a1,by rw [aGX]; exact eo⟩,rfl,q _ _ (I1.hok.fresh (aFM _)) a2 a3⟩;rw [sortedHeap_old (aF6 (aFQ q)) (by rw [aHd]; exact aH7 (aFQ q))];exact aFH _ q
 rcases h64 with h64 | ⟨h64,hs⟩
 ·refine wpAny_bind (wpAny_holding (wpAny_call_entry slot_list_sort ⟨_,hoL,rfl⟩ entry_list_sort (list_sort_tree hoL hi (by omega) fun out ns' a1 a2 a3=>⟨_,rfl,?_⟩) (args_list_sort _)));exact wpAny_pure ⟨_,rfl,fin out ns' a1 a2 a3⟩
 ·refine wpAny_bind (wpAny_holding (wpAny_call_entry slot_list_sort ⟨_,hoL,rfl⟩ entry_list_sort (Ju hoL hi (by omega) hs fun out ns' a1 a2 a3=>⟨_,rfl,?_⟩) (args_list_sort _)));exact wpAny_pure ⟨_,rfl,fin out ns' a1 a2 a3⟩
end
end L2
namespace L2
open PySem
theorem tV {X:Cx}{K:PySem.W.Frag}(hK:X.K=K):d8 X (.builtin "sorted") (fun xs H Q=>∃ (p:Addr) (ns:List Int),xs=[.ref p]/\(bV K H p (ns.map V.int)∨bW K H p (ns.map V.int))/\CG ns ∧
  ∀ (l:Addr) (ms:List Int),H l=none->ms.Perm ns->ms.Pairwise (·<=·)->Q (.ref l) (bG H l (.lst (ms.map V.int)))):=by subst hK; exact uP
end L2
namespace TP
open PySem L2 TD
structure Jk (ks:List Int):Prop where
 l1:1<=ks.length
 few:CG ks
 nd:ks.Nodup
 k:∀ k∈ks,0<=k/\k<=63
theorem Jk.l64 {ks:List Int}(g:Jk ks):ks.length<=64:=by rcases g.few with h | h <;> omega
def HY (C:Addr):Sp:=fun vs H Q _=>∃ (x dx a:Addr) (ks:List Int),vs=[.ref x,.ref a]/\H x=some (.ins C dx [])/\H a=some (.lst (Is ks))/\Jk ks ∧
 ∀ k ms H',aR H H'->ms.Perm ks->ms.Pairwise (·<=·)->H' k=some (.tup (Is ms))->Q .non (bG H' x (.ins C dx [("sets",.ref k)]))
end TP
namespace L2
open PySem PySem.Spec PyProof.Rows
theorem Bw:Manifest.owners.lookup (String.ofList ['d','e','s','r','e','v','e','r'].reverse)=some Manifest.sig_reversed:=by kernel_rfl
theorem gB:Slot "reversed" "__next__" "reversed.__next__" :=
 .of (owner:="reversed") (n:="__next__") (by rw [typeLookup_type,builtinLookup_eq_fast]; kernel_rfl) (by decide +kernel) (by decide +kernel) (by decide +kernel) (by first | exact .inl (by decide +kernel) | exact .inr (by decide +kernel)) (by rw [isSubtype_type]; kernel_rfl)
theorem qM:entryFor table "reversed.__next__" = some Builtin.«reversed.__next__»:=entryFor_of_tree (by kernel_rfl)
theorem qG (a:Value):argsOk "reversed.__next__" ⟨[a],[]⟩:=by
 unfold argsOk; rw [signature?_of (id:="reversed.__next__") (n:=['_','_','t','x','e','n','_','_']) (o:=['d','e','s','r','e','v','e','r']) (by kernel_rfl) Bw]; kernel_rfl
theorem qC:Slot "reversed" "__iter__" "reversed.__iter__" :=
 .of (owner:="reversed") (n:="__iter__") (by rw [typeLookup_type,builtinLookup_eq_fast]; kernel_rfl) (by decide +kernel) (by decide +kernel) (by decide +kernel) (by first | exact .inl (by decide +kernel) | exact .inr (by decide +kernel)) (by rw [isSubtype_type]; kernel_rfl)
theorem yN (a:Value):argsOk "reversed.__iter__" ⟨[a],[]⟩:=by
 unfold argsOk; rw [signature?_of (id:="reversed.__iter__") (n:=['_','_','r','e','t','i','_','_']) (o:=['d','e','s','r','e','v','e','r']) (by kernel_rfl) Bw]; kernel_rfl
theorem yZ:entryFor table "reversed.__iter__" = some Builtin.«dict_keyiterator.__iter__» :=
 entryFor_alias (id':="dict_keyiterator.__iter__") (by kernel_rfl) (by first | rfl | decide +kernel | (unfold String.splitOn; simp +decide [String.splitOnAux])) (by decide +kernel) (by kernel_rfl)
theorem z7:Slot "reversed" "__init__" "object.__init__" :=
 .of (owner:="object") (n:="__init__") (by rw [typeLookup_type,builtinLookup_eq_fast]; kernel_rfl) (by decide +kernel) (by decide +kernel) (by decide +kernel) (by first | exact .inl (by decide +kernel) | exact .inr (by decide +kernel)) (by rw [isSubtype_type]; kernel_rfl)
theorem Nk:TypeCalled "reversed" "reversed.__new__" "object.__init__":=⟨by decide +kernel,F.create_reversed,⟨_,_,F.mro_reversed⟩,F.made_reversed,F.plain_reversed_new,F.sub_reversed_self,z7⟩
theorem CZ:typeLookup (.type "tuple") "__reversed__" = pure none:=by rw [typeLookup_type,builtinLookup_eq_fast]; kernel_rfl
theorem xX:isSubtype (.type "tuple") (.type "dict")=pure false:=by rw [isSubtype_type]; kernel_rfl
def CJ (t:Addr)(i:Int):Obj:={ cls:=.type "reversed",data:=.fields #[.ref t,.int i 0] }
theorem IK (t:Addr)(xs:Array Value)(hz:(xs.size:Int)<2^63) :
  Meets (Builtin.«reversed.__new__» ⟨[.type "reversed",.ref t],[]⟩) (fun _ R s=>IsTup s.heap t xs/\R (.ok (.ret (.ref s.heap.objs.size))) { s with heap:=s.heap.push (CJ t ((xs.size:Int)-1)),toks:=s.toks+2 }) :=
 .of_wp fun prog w A R s h=>by
  obtain ⟨ht,h⟩:=h;unfold Builtin.«reversed.__new__»;refine wpAny_bind (wpAny_of_eq (newClass_reversed _) ?_);refine wpAny_bind (m:=Builtin.SmallTypes.refuseKeywords _ _ _) (wpAny_pure ?_);refine wpAny_bind (m:=checkCount _ _ _ _) (wpAny_pure ?_);refine wpAny_bind (wpAny_specialOf ht.typeIs CZ ?_);refine wpAny_bind (wpAny_bind (wpAny_isInstance ht.typeIs xX ?_));simp only [aGr,if_false];refine wpAny_bind (wpAny_specialOf ht.typeIs slot_tuple_getitem.lookup ?_);refine wpAny_pure (a:=true) ?_;refine wpAny_bind (len_tuple ht hz ?_);refine wpAny_bind (m:=asInt? _) (wpAny_pure ?_);show wpAny _ _ (newObj (.type "reversed") (.fields #[.ref t,rawInt ((xs.size:Int)-1)]) >>= _) _ _ _;exact wpAny_bind (wpAny_newObj_type (wpAny_pure ⟨_,rfl,h⟩))
def rZ (h:Heap)(r t:Addr)(i:Int):Prop:=∃ o,h.get? r=some o/\o.cls=.type "reversed"/\o.data=.fields #[.ref t,.int i 0]
section
variable {prog:Program}{w:World}{A:Around}{E:Value->Shared->Prop}{s:Shared}{r t:Addr}{xs:Array Value}
theorem Ji {i:Nat}{x:Value}{Q:Option Value->Shared->Prop}(hr:rZ s.heap r t i)(ht:IsTup s.heap t xs)(hx:xs[i]? = some x)(hz:(xs.size:Int)<2^63)
  (k:∀ h',rZ h' r t ((i:Int)-1)->aGi r s.heap h'->Q (some x) { s with heap:=h',toks:=s.toks+1 }):wpAny (model prog w) A (pyNext (.ref r)) Q E s:=by
 obtain ⟨o,ho,hc,hd⟩:=id hr;have il:i<xs.size:=by
  rcases Nat.lt_or_ge i xs.size with z | z
  ·exact z
  ·rw [aHf z] at hx; cases hx
 have ty:s.TypeIs (.ref r) "reversed":=⟨o,ho,hc⟩
 unfold pyNext;refine wpAny_bind (wpAny_attempt (wpAny_callSpecial?_slot (name:=Str.ofString "__next__") ty gB (wpAny_call_entry gB ty qM ?_ (qG _))));show wpAny _ _ (field (.ref r) 0 >>= _) _ _ s;refine wpAny_bind (wpAny_field ho hd (x:=.ref t) rfl ?_);show wpAny _ _ (field (.ref r) 1 >>= _) _ _ s;refine wpAny_bind (wpAny_field ho hd (x:=.int i 0) rfl ?_);dsimp only;rw [if_neg (show ¬ (i:Int)<0 by omega)];refine wpAny_bind (wpAny_specialOf ht.typeIs slot_tuple_getitem.lookup ?_);simp only [Option.isNone_some,aGr,if_false];refine wpAny_bind (wpAny_mkInt ?_);refine wpAny_bind (wpAny_attempt (getItem_tuple (s:={ s with toks:=s.toks+1 }) ht (by omega) (by omega) (j:=i) ?_ hx ?_))
 ·have e:J7 xs.size (i:Int)=some i:=by
   unfold J7;rw [if_pos (aH4 i),if_pos (by omega),aHx]
  exact (xF e).1
 dsimp only;refine wpAny_bind (wpAny_field (s:={ s with toks:=s.toks+1 }) ho hd (x:=.int i 0) rfl ?_);dsimp only;refine wpAny_bind (wpAny_setField (s:={ s with toks:=s.toks+1 }) ho hd (by simp) (wpAny_pure ⟨x,rfl,wpAny_pure (k _ ?_ (aGi.update ..))⟩));exact ⟨_,aGB _ ho (Obj.isFreed_of_fields (Obj.data_mapFields hd _)),(Obj.cls_mapFields ..).trans hc,by rw [Obj.data_mapFields hd]; simp [rawInt]⟩
theorem Nv {i:Int}{Q:Option Value->Shared->Prop}(hh:A.handled=none)(hr:rZ s.heap r t i)(hi:i<0)(k:∀ h',Heap.ExtBut r s.heap h'->Q none { s with heap:=h' }):wpAny (model prog w) A (pyNext (.ref r)) Q E s:=by
 obtain ⟨o,ho,hc,hd⟩:=id hr;have ty:s.TypeIs (.ref r) "reversed":=⟨o,ho,hc⟩
 unfold pyNext;refine wpAny_bind (wpAny_attempt (wpAny_callSpecial?_slot (name:=Str.ofString "__next__") ty gB (wpAny_call_entry gB ty qM ?_ (qG _))));show wpAny _ _ (field (.ref r) 0 >>= _) _ _ s;refine wpAny_bind (wpAny_field ho hd (x:=.ref t) rfl ?_);show wpAny _ _ (field (.ref r) 1 >>= _) _ _ s;refine wpAny_bind (wpAny_field ho hd (x:=.int i 0) rfl ?_);dsimp only;rw [if_pos hi];refine wpAny_bind (wpAny_rule (wpAny_bind ?_));show wpAny _ _ (setField (.ref r) 1 (rawInt (-1)) >>= _) _ _ _;refine wpAny_bind (wpAny_setField ho hd (by simp) ?_);have ho2:=aGB (Obj.mapFields (fun a=>a.setIfInBounds 1 (rawInt (-1)))) ho (Obj.isFreed_of_fields (Obj.data_mapFields hd _));have hd2:=Obj.data_mapFields hd (fun a=>a.setIfInBounds 1 (rawInt (-1)));refine wpAny_setField (s:={ s with heap:=s.heap.update r (Obj.mapFields (fun a=>a.setIfInBounds 1 (rawInt (-1)))) }) ho2 hd2 (by simp) ?_;refine wpAny_bind ?_;unfold Builtin.SmallTypes.stopIteration;refine wpAny_bind ?_;simp only [newExc,newTuple];refine wpAny_bind (wpAny_newObj_type ?_ (by size_fits));refine wpAny_bind (m:=firstArgMember _ _) (wpAny_of_eq (a:=Value.none) (by first | rfl | (simp only [firstArgMember]; rfl)) ?_);refine wpAny_newObj_type ?_ (by size_fits);simp only [raiseNew];refine wpAny_bind (wpAny_handled ?_)
 first | rw [show A.in1.handled=none from hh] | rw [hh]
 refine wpAny_bind (wpAny_pure (wpAny_throw ?_));refine wpAny_bind (wpAny_isInstance (T:="StopIteration") (b:=true) ⟨_,aFV _ rfl,rfl⟩ isSubtype_stop ?_);refine wpAny_pure (k _ fun b o' n e=>?_);exact aFH _ (aFH _ ((aGi.update ..).extBut _ _ n ((aGi.update ..).extBut _ _ n e)))
theorem Eb {i:Int}{Q:Value->Shared->Prop}(hr:rZ s.heap r t i)(h:Q (.ref r) s):wpAny (model prog w) A (pyIter (.ref r)) Q E s:=by
 obtain ⟨o,ho,hc,hd⟩:=hr;have ty:s.TypeIs (.ref r) "reversed":=⟨o,ho,hc⟩
 refine wpAny_pyIter_slot ty qC (wpAny_call_entry qC ty yZ ?_ (yN _));show wpAny _ _ (ret (.ref r)) _ _ s;exact wpAny_pure ⟨_,rfl,"reversed",_,ty,gB.lookup,h⟩
theorem KD {Q:Value->Shared->Prop}(ht:IsTup s.heap t xs)(hz:(xs.size:Int)<2^63)(h:Q (.ref s.heap.objs.size) { s with heap:=s.heap.push (CJ t ((xs.size:Int)-1)),toks:=s.toks+2 }):wpAny (model prog w) A (call (.type "reversed") [.ref t]) Q E s:=by
 refine callType_new Nk (by decide) (F.typeCall_reversed_1 _) (F.newCall_reversed_1 _) (fun obj=>F.args_object_init_2 obj _) F.entry_reversed_new (IK t xs hz) ⟨ht,?_⟩;exact ⟨⟨_,aFV _ rfl,rfl⟩,h⟩
end
theorem uU:typeLookup (.type "reversed") "__len__" = pure none:=by rw [typeLookup_type,builtinLookup_eq_fast]; kernel_rfl
theorem yD:typeLookup (.type "reversed") "__length_hint__" = pure (some (.builtin "reversed.__length_hint__")):=by rw [typeLookup_type,builtinLookup_eq_fast]; kernel_rfl
theorem Az:Slot "reversed" "__length_hint__" "reversed.__length_hint__" :=
 .of (owner:="reversed") (n:="__length_hint__") (by rw [typeLookup_type,builtinLookup_eq_fast]; kernel_rfl) (by decide +kernel) (by decide +kernel) (by decide +kernel) (by first | exact .inl (by decide +kernel) | exact .inr (by decide +kernel)) (by rw [isSubtype_type]; kernel_rfl)
theorem Ab:entryFor table "reversed.__length_hint__" = some Builtin.«reversed.__length_hint__»:=entryFor_of_tree (by kernel_rfl)
theorem Ay (a:Value):argsOk "reversed.__length_hint__" ⟨[a],[]⟩:=by
 unfold argsOk; rw [signature?_of (id:="reversed.__length_hint__") (n:=['_','_','t','n','i','h','_','h','t','g','n','e','l','_','_']) (o:=['d','e','s','r','e','v','e','r']) (by kernel_rfl) Bw]; kernel_rfl
theorem Ac:typeOf (.builtin "reversed.__length_hint__")=pure (.type "method_descriptor"):=by show builtinType _=_; rw [builtinType_eq_fast]; kernel_rfl
theorem Ge {prog:Program}{w:World}{A:Around}{E:Value->Shared->Prop}{s:Shared}{r t:Addr}{xs:Array Value}{Q:Bool->Shared->Prop}(hr:rZ s.heap r t ((xs.size:Int)-1))(ht:IsTup s.heap t xs)(h1:1<=xs.size)(hs:xs.size<=sizeLine)(hz:(xs.size:Int)<2^63)(h:∀ k,Q true { s with toks:=k }):wpAny (model prog w) A (Builtin.List.listLengthHint (.ref r)) Q E s:=by
 obtain ⟨o,ho,hc,hd⟩:=id hr;have ty:s.TypeIs (.ref r) "reversed":=⟨o,ho,hc⟩
 unfold Builtin.List.listLengthHint;refine wpAny_bind (wpAny_specialOf ty uU ?_);show wpAny _ A (specialOf (Value.ref r) (Str.ofString "__length_hint__") >>= _) _ _ _;refine wpAny_bind (wpAny_specialOf ty yD ?_);have sp:splitId "reversed.__length_hint__" = some ("reversed","__length_hint__"):=by decide +kernel
 generalize he:("reversed.__length_hint__" : String)=e0 at sp
 wp_delta
 rw [sp];subst he;refine wpAny_bind (wpAny_isInstance (b:=true) ty (by rw [isSubtype_type]; kernel_rfl) ?_);rw [if_neg (by decide)];dsimp only;rw [if_neg (by decide +kernel)];refine wpAny_bind (wpAny_rule ?_);unfold bindSpecial;refine wpAny_bind (wpAny_bind (wpAny_of_eq Ac ?_));refine wpAny_pure ?_;dsimp only;refine wpAny_bind (wpAny_attempt (wpAny_call_entry Az ty Ab ?_ (Ay _)));show wpAny _ _ (field (.ref r) 0 >>= _) _ _ s;refine wpAny_bind (wpAny_field ho hd (x:=.ref t) rfl ?_);dsimp only;refine wpAny_bind (len_tuple ht hz ?_);refine wpAny_bind (m:=asInt? _) (wpAny_pure ?_);dsimp only;refine wpAny_bind (wpAny_field (s:={ s with toks:=s.toks+1+1 }) ho hd (x:=.int ((xs.size:Int)-1) 0) rfl ?_);dsimp only;rw [if_neg (by omega)];unfold retInt;refine wpAny_bind (wpAny_mkInt (wpAny_pure ⟨_,rfl,?_⟩));dsimp only;refine wpAny_bind (m:=asInt? _) (wpAny_pure ?_);dsimp only;have f:Builtin.List.listFitsIndex ((xs.size:Int)-1+1)=true:=by
  unfold Builtin.List.listFitsIndex;rw [aGs];exact ⟨decide_eq_true (by omega),decide_eq_true (by omega)⟩
 rw [if_neg (by rw [f]; decide),if_neg (by omega),if_neg (by unfold Builtin.List.listTooLong; rw [show ((xs.size:Int)-1+1).toNat=xs.size by omega]; simp; exact hs)];have e:((xs.size:Int)-1+1 != 0)=true:=by
  rw [bne_iff_ne];omega
 rw [e];exact wpAny_pure (h _)
theorem Ik {h h':Heap}{it l:Addr}{i:Int}(r:rZ h it l i)(k:∀ o,h.get? it=some o->h'.get? it=some o):rZ h' it l i:=by
 obtain ⟨o,e,c,d⟩:=r;exact ⟨o,k o e,c,d⟩
theorem rP {h h':Heap}{l:Addr}{xs:Array Value}(r:IsTup h l xs)(k:∀ o,h.get? l=some o->h'.get? l=some o):IsTup h' l xs:=by
 obtain ⟨o,e,c,d⟩:=r;exact ⟨o,k o e,c,d⟩
theorem Es {prog:Program}{w:World}{A:Around}(hh:A.handled=none)(it l:Addr)(ne:it≠l)(xs:Array Value)(hz:(xs.size:Int)<2^63) :
  Walks prog w A it [it,l] [it] xs.size (fun i v=>xs[xs.size-1-i]? = some v) (fun i h=>i<=xs.size/\rZ h it l ((xs.size:Int)-1-(i:Int))/\IsTup h l xs) where
 sub:=fun b hb=>by rw [aFR.mp hb]; exact .head _
 frame:=fun i h h' st k=>⟨st.1,Ik st.2.1 fun o e=>k it (.head _) o e,rP st.2.2 fun o e=>k l (.tail _ (.head _)) o e⟩
 item:=fun i s Q E hi st hQ=>by
  have ei:(xs.size:Int)-1-(i:Int)=((xs.size-1-i:Nat):Int):=by omega
  have ej:(xs.size:Int)-1-((i+1:Nat):Int)=((xs.size-1-i:Nat):Int)-1:=by omega
  have st1:=st.2.1;rw [ei] at st1;have hx:xs[xs.size-1-i]? = some xs[xs.size-1-i]:=aGl (by omega);refine Ji st1 st.2.2 hx hz fun h' st' sb=>?_;exact hQ _ h' (s.toks+1) hx ⟨hi,by rw [ej]; exact st',rP st.2.2 fun o e=>(sb.2 l (Ne.symm ne)).trans e⟩ fun b o hb e=>(sb.2 b (fun z=>hb (by rw [z]; exact .head _))).trans e
 done:=fun s Q E st hQ=>by
  have ei:(xs.size:Int)-1-(xs.size:Int) = -1:=by omega
  have st1:=st.2.1;rw [ei] at st1;refine Nv hh st1 (by decide) fun h' eb=>?_;exact hQ h' s.toks fun b o hb e=>eb b o (fun z=>hb (by rw [z]; exact .head _)) e
 self:=fun i s Q E st hQ=>Eb st.2.1 hQ
theorem BK {prog:Program}{w:World}{A:Around}{E:Value->Shared->Prop}{s:Shared}{it l:Addr}{xs:Array Value}{Q:Value->Shared->Prop}(hh:A.handled=none)(ne:it≠l)(hit:rZ s.heap it l ((xs.size:Int)-1))(hl:IsTup s.heap l xs)(h1:1<=xs.size)(hn:xs.size<=sizeLine)(hz:(xs.size:Int)<2^63)
  (hQ:∀ h' tk acc c,(∀ b o,b≠it->s.heap.get? b=some o->h'.get? b=some o)->h'.get? s.heap.objs.size=some { cls:=.type "list",dict:=none,data:=.seq acc c,slots:=#[] }->ItemsOf (fun i v=>xs[xs.size-1-i]? = some v) acc xs.size->Q (.ref s.heap.objs.size) { s with heap:=h',toks:=tk }) :
  wpAny (model prog w) A (call (.type "list") [.ref it]) Q E s:=by
 have ilt:it<s.heap.objs.size:=by obtain ⟨o,e,_⟩:=hit; exact aFQ e
 have llt:l<s.heap.objs.size:=by obtain ⟨o,e,_⟩:=hl; exact aFQ e
 refine callType_codes (Q₁:=fun obj s₁=>obj=.ref s.heap.objs.size/\s₁ = { s with heap:=s.heap.push { cls:=.type "list",data:=.seq #[] } }) F.called_list (F.typeCall_list_1 _) F.entry_list_init (code_list_new _ ⟨rfl,rfl⟩) fun obj s₁ z=>?_;obtain ⟨rfl,rfl⟩:=z;have hS:(s.heap.push { cls:=.type "list",data:=.seq #[] }).get? s.heap.objs.size=some { cls:=.type "list",data:=.seq #[] }:=aFV _ rfl;refine ⟨⟨_,hS,rfl⟩,F.args_list_init_2 _ _,?_⟩;show wpAny _ _ (do let old <- Builtin.List.listItems (.ref s.heap.objs.size); Builtin.List.listUpdate (.ref s.heap.objs.size) (fun _=>#[]); letGo old.toList.reverse; Builtin.List.listExtendWith (.ref s.heap.objs.size) (.ref it) .none) _ _ _;unfold Builtin.List.listItems;refine wpAny_bind (wpAny_bind (wpAny_seqItems hS rfl (wpAny_pure ?_)));refine wpAny_bind (wpAny_updateSeq hS rfl (wpAny_bind (wpAny_letGo ?_)));have hS2:=aGB (Obj.mapSeq (fun _=>(#[]:Array Value))) hS rfl;have old:∀ b o,s.heap.get? b=some o->((s.heap.push { cls:=.type "list",data:=.seq #[] }).update s.heap.objs.size (Obj.mapSeq (fun _=>(#[]:Array Value)))).get? b=some o:=fun b o e =>
  (aGQ _ _ (aGC (aFQ e))).trans (aFH _ e)
 generalize (s.heap.push { cls:=.type "list",data:=.seq #[] }).update s.heap.objs.size (Obj.mapSeq (fun _=>(#[]:Array Value)))=h2 at hS2 old ⊢;have hit2:rZ h2 it l ((xs.size:Int)-1-((0:Nat):Int)):=by
  rw [show (xs.size:Int)-1-((0:Nat):Int)=(xs.size:Int)-1 by omega];exact Ik hit fun o e=>old it o e
 have hl2:IsTup h2 l xs:=rP hl fun o e=>old l o e;have ty:({ s with heap:=h2 }:Shared).TypeIs (.ref it) "reversed":=by obtain ⟨o,e,c,_⟩:=hit2; exact ⟨o,e,c⟩
 have Sf:s.heap.objs.size∉[it,l]:=by
  simp only [aF7,aIj,or_false,not_or];exact ⟨aGC ilt,aGC llt⟩
 unfold Builtin.List.listExtendWith;refine wpAny_bind (wpAny_typeOf ty ?_);have r1:Builtin.List.listSameRef (.ref s.heap.objs.size) (.ref it)=false:=by simp [Builtin.List.listSameRef,aGC ilt]
 rw [if_neg (by rw [r1]; decide)];refine wpAny_bind (Eb (s:={ s with heap:=h2 }) hit2 ?_);refine wpAny_bind (wpAny_holding (Ge (s:={ s with heap:=h2 }) (by rw [show (xs.size:Int)-1-((0:Nat):Int)=(xs.size:Int)-1 by omega] at hit2; exact hit2) hl2 h1 hn hz fun tk0=>?_));rw [if_pos (by rfl)];refine wpAny_bind (wpAny_rule (wpAny_bind ?_));unfold Builtin.List.listTouch Builtin.List.listUpdate;dsimp only;refine wpAny_bind (wpAny_updateSeq (s:={ s with heap:=h2,toks:=tk0 }) hS2 rfl ?_);have hS3:=aGB (Obj.mapSeq (fun x:Array Value=>x.push Value.none)) hS2 rfl;refine wpAny_updateSeq (s:={ s with heap:=h2.update s.heap.objs.size (Obj.mapSeq (fun x:Array Value=>x.push Value.none)),toks:=tk0 }) hS3 rfl ?_;have hS4:=aGB (Obj.mapSeq (fun x:Array Value=>x.pop)) hS3 rfl;have old4:∀ b o,s.heap.get? b=some o->((h2.update s.heap.objs.size (Obj.mapSeq (fun x:Array Value=>x.push Value.none))).update s.heap.objs.size (Obj.mapSeq (fun x:Array Value=>x.pop))).get? b=some o:=fun b o e =>
  (aGQ _ _ (aGC (aFQ e))).trans ((aGQ _ _ (aGC (aFQ e))).trans (old b o e))
 generalize (h2.update s.heap.objs.size (Obj.mapSeq (fun x:Array Value=>x.push Value.none))).update s.heap.objs.size (Obj.mapSeq (fun x:Array Value=>x.pop))=h4 at hS4 old4 ⊢;have hit4:rZ h4 it l ((xs.size:Int)-1-((0:Nat):Int)):=by
  rw [show (xs.size:Int)-1-((0:Nat):Int)=(xs.size:Int)-1 by omega];exact Ik hit fun o e=>old4 it o e
 have hl4:IsTup h4 l xs:=rP hl fun o e=>old4 l o e;refine wpAny_pure ⟨plainId_quiet F.plain_extend_loop _,codeAny_extend_loopS (Es (A:=A.in1.in1) hh it l ne xs hz).toS hn _ Sf _ xs.size 0 _ _ _ rfl (aGa _) ⟨aGa _,hit4,hl4⟩ hS4 (ItemsOf.nil _) fun s' acc' c' hm hS' hacc=>?_⟩;rw [Moved.eq_with hm];refine ⟨rfl,hQ s'.heap s'.toks acc' c' (fun b o hb e=>hm.heap b o (fun z=>?_) (old4 b o e)) hS' hacc⟩;rcases aF7.mp z with z | z
 ·exact absurd (aFQ e) (by rw [z]; exact aGI _)
 ·exact hb (aFR.mp z)
section
variable {X:Cx}
def FN (K:PySem.W.Frag)(ta:TA):TE:=fun σ H Q=>ta σ H fun vs H1=>∃ a xs,vs=[.ref a]/\bW K H1 a xs/\1<=xs.length/\∀ l,H1 l=none->Q (.ref l) (bG H1 l (.lst xs.reverse))
theorem Ar {a:Expr}{ta:TA}{p p2 pos pos2:Pos}(hc:X.calm=true)(hg:Gl X "list")(hm:X.mg "list" = none)(hg2:Gl X "reversed")(hm2:X.mg "reversed" = none)(ha:PA X [a] ta)(hs:starEach [a] X.env=[(false,eval a X.env)]:=by rfl)
  (hs2:starEach [.Call (.Name "reversed" p2) [a] [] pos2] X.env=[(false,eval (.Call (.Name "reversed" p2) [a] [] pos2) X.env)]:=by rfl) :
  PE X (.Call (.Name "list" p) [.Call (.Name "reversed" p2) [a] [] pos2] [] pos) (FN X.K ta):=by
 intro pins s σ H Q I h;refine wpAny_Call_Name_kw (lQ I hg hm iU ?_);refine PyProof.Rows.callWith_type1 ?_ hs2 rfl;rw [hs2];show wpAny _ _ (spliced [(false,eval (.Call (.Name "reversed" p2) [a] [] pos2) X.env)]) _ _ _;refine Calls.spliced_cons ?_;refine Call_ (lQ I hg2 hm2 qF (PyProof.Rows.callWith_type1 (dD (ha pos2 pins s σ H _ I h) fun us s1 ⟨vs,H1,I1,r1,q1⟩=>?_) hs rfl));obtain ⟨b,xs,e,hS,hx1,q⟩:=q1;subst e;obtain ⟨u,rfl,ru⟩:=vals1 r1;cases (show u=Value.ref b from ru);obtain ⟨its,rv,pl,hz⟩:=I1.tuple hS;have hlen:=rv.length;have z63:(its.toArray.size:Int)<2^63:=by
  have z2:sizeLine<2^62:=by decide
  rw [aFW];omega
 refine KD pl z63 (Calls.spliced_nil ?_);have I2:aW X pins σ H1 { s1 with heap:=s1.heap.push (CJ b (((its.toArray.size:Nat):Int)-1)) }:=I1.kept (t':=s1.toks) fun b o e=>aFH _ e;have lt:b<s1.heap.objs.size:=by obtain ⟨o,e,_⟩:=pl; exact aFQ e
 obtain ⟨its2,rv2,pl2,_⟩:=I2.tuple hS;have f:=I1.fpOk (H':=H1) (b:=s1.heap.objs.size) (aFM _) (I1.hok.fresh (aFM _));have hl2:IsTup (s1.heap.push (CJ b (((its.toArray.size:Nat):Int)-1))) b its.toArray:=rP pl fun o e=>aFH _ e;refine BK (it:=s1.heap.objs.size) (l:=b) (xs:=its.toArray) (I1.ok.hd hc) (aGC lt) ⟨_,aFV _ rfl,rfl,rfl⟩ hl2 (by rw [aFW]; omega) (by rw [aFW]; omega) z63 fun h' tk acc c hk hD hacc=>?_;have nsz:(s1.heap.push (CJ b (((its.toArray.size:Nat):Int)-1))).objs.size=s1.heap.objs.size+1:=aHd ..;have ac:acc.toList=its.reverse:=by
  refine aH8 fun i=>?_;rw [aGL]
  by_cases hi:i<its.length
  ·have ha:i<acc.size:=by rw [hacc.1,aFW]; exact hi
   have z:=hacc.2 i _ (aGl ha);rw [aGl ha,List.getElem?_reverse hi,<- z,aFW];simp
  ·rw [aHf (by rw [hacc.1,aFW]; omega),aHM (by rw [aGM]; omega)]
 have rr:∀ {us:List V}{ws:List Value},bZ us ws->bZ us.reverse ws.reverse:=by
  intro us ws r
  induction r with
  | nil=>exact .nil
  | cons h t ih=>rw [aIh,aIh]; exact ih.append (.cons h .nil)
 have D0:H1 (s1.heap.objs.size+1)=none:=I1.hok.fresh (aGO _);rw [nsz] at hD;refine ⟨.ref (s1.heap.push (CJ b (((its.toArray.size:Nat):Int)-1))).objs.size,bG H1 (s1.heap.push (CJ b (((its.toArray.size:Nat):Int)-1))).objs.size (.lst xs.reverse),?_,rfl,q _ (by rw [nsz]; exact D0)⟩;refine I2.turnedLaid (t':=tk) (ch:=[s1.heap.objs.size]) (fun c hc=>by rw [aFR.mp hc]; exact f) (fun c o hc e=>hk c o (fun z=>hc (by rw [z]; exact .head _)) e) (aFM _) ⟨by rw [aGM]; exact hz,its.reverse,c,rr rv,?_⟩;rw [nsz,<- ac,aGX];exact hD
end
structure QE (X:Cx)(e:Expr)(t:TE):Prop where
 h:PE X e t
structure QT (X:Cx)(e:Expr)(t:TT):Prop where
 h:PT X e t
structure QA (X:Cx)(es:List Expr)(t:TA):Prop where
 h:PA X es t
structure QS (X:Cx)(st:Stmt)(t:TS):Prop where
 h:PS X st t
structure NB (X:Cx)(st:List Stmt)(t:TS):Prop where
 h:xD X st t
section
variable {X:Cx}{pos pos' p p2:Pos}{e a b:Expr}{es:List Expr}{te ta tb:TE}{t:TA}{x:Str}{st:Stmt}{rest:List Stmt}{ts us:TS}
theorem qv (i:Nat){x:Str}{pos:Pos}(hN:X.N[i]? = some x:=by rfl)(hv:W7 X.env.scope x:=by first | exact Or.inl rfl | exact Or.inr (Or.inl rfl) | exact Or.inr (Or.inr rfl))(hd:(x==("__debug__" : Str))=false:=by decide)
  (hcd:(x==("__classdict__" : Str))=false:=by decide):QE X (.Name x pos) (uE i):=⟨HQ hN hv hd hcd⟩
theorem cJ {i:Int}{j:Nat}:QE X (.Constant (.int i) j pos) (tC (.int i)):=⟨aD⟩
theorem NZ {y:Str}{j:Nat}:QE X (.Constant (.str y) j pos) (tC (.str y)):=⟨aU⟩
theorem gC {op:Operator}{r:R2}(ho:oA X (binaryOp op) r)(ha:QE X a ta)(hb:QE X b tb):QE X (.BinOp a op b pos) (J4 r ta tb):=⟨aM ho ha.h hb.h⟩
theorem Ks {r:R2}(hr:PQ X r)(ha:QE X a ta)(hb:QE X b tb)(hs:Ek b):QE X (.Subscript a b pos) (J4 r ta tb):=⟨bI hr ha.h hb.h hs⟩
theorem JL (h:QA X es t):QE X (.List es pos) (Vw t):=⟨nH h.h⟩
theorem Ou {k:Nat}(h:QA X es t):QE X (.Tuple es k pos) (M9 t):=⟨cU h.h⟩
theorem eY:QA X [] uK:=⟨aC⟩
theorem bN (ha:QE X e te)(hr:QA X es t)(hs:starEach (e::es) X.env=(false,eval e X.env)::starEach es X.env:=by rfl):QA X (e::es) (lL te t):=⟨aA ha.h hr.h hs⟩
theorem vH {T:String}{r:List V->Hp->VK->Prop}(hc:d8 X (.type T) r)(hg:Gl X x)(hm:X.mg x=none)(hv:bootBuiltins x=some (.type T))(ha:QA X (e::es) t)(hn:x≠"__name__":=by decide)(hdb:(x==("__debug__" : Str))=false:=by decide)
  (he:starEach (e::es) X.env=(false,eval e X.env)::starEach es X.env:=by rfl) (hpl:(backTo pos (starEach es X.env)).any (·.1)=false:=by rfl):QE X (.Call (.Name x p) (e::es) [] pos) (XC r t):=⟨bJ hc hg hm hv ha.h hn hdb he hpl⟩
theorem Dw {op:CmpOp}{r:R2}(ho:oA X (compareOp op) r)(ha:QE X a ta)(hb:QE X b tb)(hm:behindInMarks op b=false):QT X (.Compare a [op] [b] pos) (Gz (J4 r ta tb)):=⟨aZ ho ha.h hb.h hm⟩
theorem pI {i:Nat}(hN:X.N.Nodup)(hi:X.N[i]? = some x)(hx:Loc X.env.scope x)(he:QE X e te)(hs:swapsWith e (some (.Name x pos')) pos.line X.env=pure false:=by rfl)(hf:X.fn x=true∨X.env.scope.names.lookup x=some .local:=by first | exact .inl rfl | exact .inr rfl | assumption) :
  QS X (.Assign [.Name x pos'] e pos) (Hs te (kZ i)):=⟨aY hN hi hx he.h hs hf⟩
theorem O6 {tg:Expr}{g:TG}(he:QE X e te)(hg:PG X tg g)(hs:swapsWithSole [tg] e pos.line X.env=pure false:=by rfl)(hw:swappedStores [tg] e X.env=pure none:=by rfl)
  (h1:(assignEach [tg] X.env).map (·.2)=[assign tg X.env]:=by rfl):QS X (.Assign [tg] e pos) (Hs te g):=⟨Mh he.h hg hs hw h1⟩
theorem Kw {c:Expr}{l m:List Stmt}{tc:TT}(hc:QT X c tc)(ha:NB X l ts)(hb:NB X m us):QS X (.If c l m pos) (Ue tc ts us):=⟨b8 hc.h ha.h hb.h⟩
theorem Oh (he:QE X e te):QS X (.Return (some e) pos) (K5 te):=⟨aN he.h⟩
theorem Ei:NB X [] Kr:=⟨bB⟩
theorem wR (h1:QS X st ts):NB X [st] ts:=⟨aJ h1.h⟩
theorem iH (h1:QS X st ts)(h2:NB X rest us):NB X (st::rest) (QR ts us):=⟨aF h1.h h2.h⟩
end
section
variable {X:Cx}{CX:yG}{k n:Nat}{f C:Addr}{fd:FuncData}{ps:List Str}{sp:Sp}{dvs:List V}{ds:List Value}{E:XK}{x m name:Str}{p pos apos cpos:Pos}{a b e o:Expr}{es rest:List Expr}{ta tb te to:TE}{t:TA}{tA tB':TT}{T id:String}{r:V->List V->Hp->VK->Prop}
theorem eU {g:Addr}{gd:FuncData}(c:dI X.prog X.w X.K X.mg X.base n x ps sp g gd)(hr:fD n X.A)(ha:QA X (e::es) t)(hg:Gl X x:=by rfl)
  (hd:(x==("__debug__" : Str))=false:=by decide) (he:starEach (e::es) X.env=(false,eval e X.env)::starEach es X.env:=by rfl) (hpl:(backTo pos (starEach es X.env)).any (·.1)=false:=by rfl) :
  QE X (.Call (.Name x p) (e::es) [] pos) (wH sp [] E0 t):=⟨aH c hr ha.h hg hd he hpl⟩
end
end L2
namespace K85
open PySem L2 TD
def top (i:Nat):Stmt:=PySem.Challenge.pw_lidprice_k85_written.main.body.getD i (.Pass ⟨0,0,0,0⟩)
def fC:Pos:=⟨42,30,42,72⟩
theorem qK:aO ["thing","least","most"] ["thing","least","most"] (aL (top 6)):=⟨rfl,rfl,rfl,by decide +kernel,rfl,by decide +kernel,by decide +kernel⟩
theorem jA:aO ["one","other","rest"] ["one","other"] (aL (top 7)):=⟨rfl,rfl,rfl,by decide +kernel,rfl,by decide +kernel,by decide +kernel⟩
theorem gW:aO ["numbers","multiple","number"] ["numbers"] (aL (top 8)):=⟨rfl,rfl,rfl,by decide +kernel,rfl,by decide +kernel,by decide +kernel⟩
theorem zX:aO ["top","bottom","divisor"] ["top","bottom"] (aL (top 9)):=⟨rfl,rfl,rfl,by decide +kernel,rfl,by decide +kernel,by decide +kernel⟩
theorem zW:aO ["number"] ["number"] (aL (top 10)):=⟨rfl,rfl,rfl,by decide +kernel,rfl,by decide +kernel,by decide +kernel⟩
theorem zB:aO ["one","other"] ["one","other"] (aL (top 11)):=⟨rfl,rfl,rfl,by decide +kernel,rfl,by decide +kernel,by decide +kernel⟩
theorem wF:aO ["one","other"] ["one","other"] (aL (top 12)):=⟨rfl,rfl,rfl,by decide +kernel,rfl,by decide +kernel,by decide +kernel⟩
theorem vI:aO ["worths","most","scale"] ["worths"] (aL (top 16)):=⟨rfl,rfl,rfl,by decide +kernel,rfl,by decide +kernel,by decide +kernel⟩
theorem rQ:aO ["rows","weights","worth","weight","divisor"] ["rows"] (aL (top 17)):=⟨rfl,rfl,rfl,by decide +kernel,rfl,by decide +kernel,by decide +kernel⟩
theorem lO:aO ["table"] ["table"] (aL (top 18)):=⟨rfl,rfl,rfl,by decide +kernel,rfl,by decide +kernel,by decide +kernel⟩
theorem vQ:aO ["table","level"] ["table","level"] (aL (top 19)):=⟨rfl,rfl,rfl,by decide +kernel,rfl,by decide +kernel,by decide +kernel⟩
theorem yP:aO ["rows","scale","parts","weight","table","factor"] ["rows"] (aL (top 20)):=⟨rfl,rfl,rfl,by decide +kernel,rfl,by decide +kernel,by decide +kernel⟩
theorem oV:aO ["table","price","bottom","tops","weights","worth","weight","top"] ["table","price"] (aL (top 21)):=⟨rfl,rfl,rfl,by decide +kernel,rfl,by decide +kernel,by decide +kernel⟩
theorem qJ:aO ["thing"] ["thing"] (aL (top 31)):=⟨rfl,rfl,rfl,by decide +kernel,rfl,by decide +kernel,by decide +kernel⟩
theorem kY:aO ["row"] ["row"] (aL (top 32)):=⟨rfl,rfl,rfl,by decide +kernel,rfl,by decide +kernel,by decide +kernel⟩
theorem jL:aO ["rows"] ["rows"] (aL (top 33)):=⟨rfl,rfl,rfl,by decide +kernel,rfl,by decide +kernel,by decide +kernel⟩
theorem mW:aO ["things","fewest","most","greatest_number"] ["things","fewest","most","greatest_number"] (aL (top 36)):=⟨rfl,rfl,rfl,by decide +kernel,rfl,by decide +kernel,by decide +kernel⟩
theorem lE:aO ["number","part","figures","rest","sign"] ["number"] (aL (top 47)):=⟨rfl,rfl,rfl,by decide +kernel,rfl,by decide +kernel,by decide +kernel⟩
theorem lU:aO ["fraction","top"] ["fraction"] (aL (top 48)):=⟨rfl,rfl,rfl,by decide +kernel,rfl,by decide +kernel,by decide +kernel⟩
theorem jZ:aO ["numbers"] ["numbers"] (aL (top 49)):=⟨rfl,rfl,rfl,by decide +kernel,rfl,by decide +kernel,by decide +kernel⟩
theorem nT:aO ["stand","rows"] ["stand"] (aL (top 50)):=⟨rfl,rfl,rfl,by decide +kernel,rfl,by decide +kernel,by decide +kernel⟩
theorem lF:aO ["boxes"] ["boxes"] (aL (top 51)):=⟨rfl,rfl,rfl,by decide +kernel,rfl,by decide +kernel,by decide +kernel⟩
theorem jO:aO ["pattern","told"] ["pattern"] (aL (top 52)):=⟨rfl,rfl,rfl,by decide +kernel,rfl,by decide +kernel,by decide +kernel⟩
theorem mX:aO ["plan","box"] ["plan"] (aL (top 53)):=⟨rfl,rfl,rfl,by decide +kernel,rfl,by decide +kernel,by decide +kernel⟩
theorem j9:aO ["_law_script","_law_k"] ["_law_script","_law_k"] (aL (top 55)):=⟨rfl,rfl,rfl,by decide +kernel,rfl,by decide +kernel,by decide +kernel⟩
theorem mY:aO ["_law_cell","_law_k","_law_number"] ["_law_cell","_law_k"] (aL (top 56)):=⟨rfl,rfl,rfl,by decide +kernel,rfl,by decide +kernel,by decide +kernel⟩
theorem mU:aO ["_law_thing","_law_part"] ["_law_thing"] (aL (top 57)):=⟨rfl,rfl,rfl,by decide +kernel,rfl,by decide +kernel,by decide +kernel⟩
theorem nY:aO ["_law_found","_law_due"] ["_law_found","_law_due"] (aL (top 58)):=⟨rfl,rfl,rfl,by decide +kernel,rfl,by decide +kernel,by decide +kernel⟩
theorem qI:aO ["_law_top","_law_bottom","_law_one","_law_other"] ["_law_top","_law_bottom"] (aL (top 59)):=⟨rfl,rfl,rfl,by decide +kernel,rfl,by decide +kernel,by decide +kernel⟩
theorem qN:aO ["_law_cell","_law_bit","_law_many","_law_row_here","_law_k"] ["_law_cell","_law_bit","_law_many"] (aL (top 63)):=⟨rfl,rfl,rfl,by decide +kernel,rfl,by decide +kernel,by decide +kernel⟩
theorem p8:aO ["_law_row_here","_law_deep","_law_most","_law_scale","_law_number","_law_many","_law_cost","_law_rows","_law_j","_law_weight"] ["_law_row_here","_law_deep","_law_most","_law_scale"] (aL (top 64)):=⟨rfl,rfl,rfl,by decide +kernel,rfl,by decide +kernel,by decide +kernel⟩
theorem mV:aO ["_law_told"] ["_law_told"] (aL (top 65)):=⟨rfl,rfl,rfl,by decide +kernel,rfl,by decide +kernel,by decide +kernel⟩
theorem oF:aO ["_law_cell","_law_k","_law_deep","_law_most","_law_number","_law_box_here","_law_many"] ["_law_cell","_law_k","_law_deep","_law_most"] (aL (top 66)):=⟨rfl,rfl,rfl,by decide +kernel,rfl,by decide +kernel,by decide +kernel⟩
theorem nW:aO ["_law_told"] ["_law_told"] (aL (top 67)):=⟨rfl,rfl,rfl,by decide +kernel,rfl,by decide +kernel,by decide +kernel⟩
theorem gF:aO ["_law_told"] ["_law_told"] (aL (top 68)):=⟨rfl,rfl,rfl,by decide +kernel,rfl,by decide +kernel,by decide +kernel⟩
theorem nZ:aO ["_law_cell","_law_way","_law_numbers_here"] ["_law_cell"] (aL (top 69)):=⟨rfl,rfl,rfl,by decide +kernel,rfl,by decide +kernel,by decide +kernel⟩
theorem j5:aO ["_law_told"] ["_law_told"] (aL (top 70)):=⟨rfl,rfl,rfl,by decide +kernel,rfl,by decide +kernel,by decide +kernel⟩
theorem fZ:aO ["_law_told"] ["_law_told"] (aL (top 71)):=⟨rfl,rfl,rfl,by decide +kernel,rfl,by decide +kernel,by decide +kernel⟩
theorem j7:aO ["_law_numbers_here"] ["_law_numbers_here"] (aL (top 72)):=⟨rfl,rfl,rfl,by decide +kernel,rfl,by decide +kernel,by decide +kernel⟩
theorem j0:aO ["_law_told","_law_rows"] ["_law_told"] (aL (top 73)):=⟨rfl,rfl,rfl,by decide +kernel,rfl,by decide +kernel,by decide +kernel⟩
theorem iD:aO ["_law_cell","_law_top","_law_bottom","_law_due"] ["_law_cell"] (aL (top 74)):=⟨rfl,rfl,rfl,by decide +kernel,rfl,by decide +kernel,by decide +kernel⟩
theorem oE:aO ["_law_cell","_law_bit","_law_row_here","_law_scale","_law_boxes","_law_due","_law_stands","_law_sort_here","_law_told"] ["_law_cell","_law_bit"] (aL (top 75)):=⟨rfl,rfl,rfl,by decide +kernel,rfl,by decide +kernel,by decide +kernel⟩
theorem Ii:aO ["_law_script","_law_k"] ["_law_script"] (aL (top 76)):=⟨rfl,rfl,rfl,by decide +kernel,rfl,by decide +kernel,by decide +kernel⟩
theorem iW:aO ["self","end_count","stage_count","level","cap_rows"] ["self","end_count","stage_count","level","cap_rows"] (aL (inClass (top 28) 0)):=⟨rfl,rfl,rfl,by decide +kernel,rfl,by decide +kernel,by decide +kernel⟩
theorem mZ:aO ["self"] ["self"] (aL (inClass (top 28) 1)):=⟨rfl,rfl,rfl,by decide +kernel,rfl,by decide +kernel,by decide +kernel⟩
theorem kI:aO ["self"] ["self"] (aL (inClass (top 28) 2)):=⟨rfl,rfl,rfl,by decide +kernel,rfl,by decide +kernel,by decide +kernel⟩
theorem m7:aO ["self"] ["self"] (aL (inClass (top 28) 4)):=⟨rfl,rfl,rfl,by decide +kernel,rfl,by decide +kernel,by decide +kernel⟩
theorem j6:aO ["self","worth"] ["self","worth"] (aL (inClass (top 29) 0)):=⟨rfl,rfl,rfl,by decide +kernel,rfl,by decide +kernel,by decide +kernel⟩
theorem m8:aO ["self"] ["self"] (aL (inClass (top 29) 1)):=⟨rfl,rfl,rfl,by decide +kernel,rfl,by decide +kernel,by decide +kernel⟩
theorem jB:aO ["self","price","rows","end_count","stage_count","behind","level"] ["self","price","rows"] (aL (inClass (top 30) 0)):=⟨rfl,rfl,rfl,by decide +kernel,rfl,by decide +kernel,by decide +kernel⟩
theorem j8:aO ["self"] ["self"] (aL (inClass (top 30) 1)):=⟨rfl,rfl,rfl,by decide +kernel,rfl,by decide +kernel,by decide +kernel⟩
theorem j4:aO ["self","count"] ["self","count"] (aL (inClass (top 38) 0)):=⟨rfl,rfl,rfl,by decide +kernel,rfl,by decide +kernel,by decide +kernel⟩
theorem qD:aO ["self"] ["self"] (aL (inClass (top 38) 2)):=⟨rfl,rfl,rfl,by decide +kernel,rfl,by decide +kernel,by decide +kernel⟩
theorem iI:aO ["self","groups","most"] ["self","groups","most"] (aL (inClass (top 39) 0)):=⟨rfl,rfl,rfl,by decide +kernel,rfl,by decide +kernel,by decide +kernel⟩
theorem lK:aO ["self"] ["self"] (aL (inClass (top 39) 2)):=⟨rfl,rfl,rfl,by decide +kernel,rfl,by decide +kernel,by decide +kernel⟩
theorem gZ:aO ["self","sets"] ["self","sets"] (aL (inClass (top 40) 0)):=⟨rfl,rfl,rfl,by decide +kernel,rfl,by decide +kernel,by decide +kernel⟩
theorem lX:aO ["self"] ["self"] (aL (inClass (top 40) 2)):=⟨rfl,rfl,rfl,by decide +kernel,rfl,by decide +kernel,by decide +kernel⟩
theorem jJ:aO ["self","box","then"] ["self","box","then"] (aL (inClass (top 44) 0)):=⟨rfl,rfl,rfl,by decide +kernel,rfl,by decide +kernel,by decide +kernel⟩
theorem jN:aO ["self","box","plans"] ["self","box","plans"] (aL (inClass (top 45) 0)):=⟨rfl,rfl,rfl,by decide +kernel,rfl,by decide +kernel,by decide +kernel⟩
end K85
namespace K85
open PySem L2 TD
open Builtin.Int (intBits)
section
variable {P:Program}{w:World}{K:PySem.W.Frag}{mg:Str->Option Value}{base:Heap}{Pt:Addr}
theorem oN {n:Nat}{f:Addr}{fd:FuncData}(F:dJ K "common_divisor" "common_divisor" (top 7) f fd)(aCt:mg "abs" = none):aX P w K mg base dG (n+1) f fd ["one","other"] Jr:=by
 refine F.ok jA (fun vs H Q E h=>?_) (fun cdv A outer s H vs Q E hr h=>?_)
 ·obtain ⟨a,b,rfl,_⟩:=h
  rfl
 obtain ⟨a,b,rfl,q⟩:=h;have nd:=jA.nd;refine ⟨_,(aF (tU PassesOwn.never (aZ Gj (pv 1) aD (bK _)) (aF (aY (i:=2) nd rfl (Or.inl rfl) (aM Em (pv 0) (pv 1))) (aF (aY (i:=0) nd rfl (Or.inl rfl) (pv 1)) (aJ (aY (i:=1) nd rfl (Or.inl rfl) (pv 2)))))) (aJ (aN (bD tX rfl aCt Bm (aA (pv 0) aC))))),?_⟩;refine BP (fun σ H'=>∃ x y r,σ = [some (.int x),some (.int y),r]/\aGj x y=aGj a b/\H'=H) (fun σ _=>match σ with | [_,some (.int y),_]=>y.natAbs | _=>0) ⟨a,b,none,rfl,rfl,rfl⟩ (fun σ H' ⟨x,y,r,e,hg,eH⟩=>?_) (fun σ H Q Q' hQ ⟨v,e,hs,k,ek,q⟩=>⟨v,e,hs,k,ek,hQ _ _ q⟩);subst e eH;refine ⟨_,rfl,rfl,_,rfl,?_⟩
 by_cases hy:y=0
 ·subst hy;refine mK (by simp) ?_;refine ⟨_,rfl,_,rfl,?_⟩;have e:(if x<0 then -x else x)=((aGj a b:Nat):Int):=by
   rw [<- hg,Int.gcd_zero]
   split <;> omega
  rw [e];exact q
 ·refine pA (by simp [hy]) ?_;refine ⟨_,rfl,_,rfl,x,y,rfl,rfl,hy,?_⟩;refine ⟨_,rfl,?_⟩;refine ⟨_,rfl,?_⟩;exact ⟨⟨y,x.fmod y,_,rfl,(Fr.zQ x y).trans hg,rfl⟩,Fr.wJ hy⟩
theorem Gr {n:Nat}{f:Addr}{fd:FuncData}(F:dJ K "share" "share" (top 9) f fd){p_:Addr}{m_:FuncData}(q_:dI P w K mg base n "common_divisor" ["one","other"] Jr p_ m_):aX P w K mg base dG (n+1) f fd ["top","bottom"] xV:=by
 refine F.ok zX (fun vs H Q E h=>?_) (fun cdv A outer s H vs Q E hr h=>?_)
 ·obtain ⟨t,b,rfl,_⟩:=h
  rfl
 obtain ⟨t,b,rfl,hb,hz,q⟩:=h;have nd:=zX.nd;refine ⟨_,(aF (aY (i:=2) nd rfl (Or.inl rfl) (aH q_ hr (aA (pv 0) (aA (pv 1) aC)))) (aF (b8 (aZ zJ (pv 1) aD (bK _)) (aJ (aY (i:=2) nd rfl (Or.inl rfl) (M3 Hv (pv 2)))) bB) (aJ (aN (cU (aA (aM eQ (pv 0) (pv 2)) (aA (aM eQ (pv 1) (pv 2)) aC))))))),?_⟩;have hdz:intBits (Fr.dv t b)<=9000:=PySem.intBits_le_of_natAbs (by rw [Fr.mR]; exact aHb t hb) hz;have hdn:=Fr.yL (t:=t) hb;refine ⟨_,rfl,_,rfl,t,b,rfl,?_⟩;refine ⟨_,rfl,_,_,rfl,rfl,_,rfl,?_⟩;refine lG (fun c=>?_) (fun c=>?_)
 ·have e:-((aGj t b:Nat):Int)=Fr.dv t b:=by unfold Fr.dv; rw [if_pos (of_decide_eq_true c)]
  unfold Fr.sh at q;rw [<- e] at q hdz hdn;refine ⟨_,rfl,_,rfl,?_⟩;refine ⟨_,rfl,_,rfl,_,_,rfl,rfl,⟨hdn,hdz⟩,_,rfl,_,rfl,_,_,rfl,rfl,⟨hdn,hdz⟩,qP,fun p hp=>?_⟩;exact q p _ (aG hp _) aB
 ·have e:((aGj t b:Nat):Int)=Fr.dv t b:=by unfold Fr.dv; rw [if_neg (of_decide_eq_false (Bool.eq_false_iff.mpr c))]
  unfold Fr.sh at q;rw [<- e] at q hdz hdn;refine ⟨_,rfl,_,rfl,_,_,rfl,rfl,⟨hdn,hdz⟩,_,rfl,_,rfl,_,_,rfl,rfl,⟨hdn,hdz⟩,qP,fun p hp=>?_⟩;exact q p _ (aG hp _) aB
theorem nM {n:Nat}{f:Addr}{fd:FuncData}(F:dJ K "common_multiple" "common_multiple" (top 8) f fd){p_:Addr}{m_:FuncData}(q_:dI P w K mg base n "common_divisor" ["one","other"] Jr p_ m_):aX P w K mg base dG (n+1) f fd ["numbers"] (O1 K):=by
 refine F.ok gW (fun vs H Q E h=>?_) (fun cdv A outer s H vs Q E hr h=>?_)
 ·obtain ⟨a,ns,rfl,_⟩:=h
  rfl
 obtain ⟨a,ns,rfl,hS,hp,h9,hz,q⟩:=h;have nd:=gW.nd;refine ⟨_,(aF (aY (i:=1) nd rfl (Or.inl rfl) aD) (aF (jQ PassesOwn.never rfl (cX (pv 0)) (aP (i:=2) nd rfl (Or.inl rfl)) (aJ (aY (i:=1) nd rfl (Or.inl rfl) (aM cV (pv 1) (aM eQ (pv 2) (aH q_ hr (aA (pv 1) (aA (pv 2) aC)))))))) (aJ (aN (pv 1))))),?_⟩;have hl:(ns.map V.int).length=ns.length:=aFF _;refine ⟨_,rfl,a,rfl,⟨_,hS⟩,?_⟩;refine sU (xs:=ns.map V.int) (fun i σ H'=>∃ r,σ = [some (.ref a),some (.int (cM (ns.take i))),r]/\H'=H) ⟨none,rfl,rfl⟩ (fun i σ H' _ ⟨r,_,e⟩=>by subst e; exact hS) ?turn ?done
 case turn =>
  rintro i x σ H' hx ⟨r,rfl,rfl⟩;rw [aFY] at hx;cases e:ns[i]? with
  | none=>rw [e] at hx; cases hx
  | some n =>
   rw [e] at hx;cases hx;have hm:=aF1 e;have hn:=hp n hm;have nz:=h9 n hm;have gz:intBits ((aGj (cM (ns.take i)) n:Nat):Int)<=9000:=aFJ (PySem.intBits_le_of_natAbs (y:=n) (by have:=aHb (cM (ns.take i)) (aF8 hn); omega) (aFM _)) (by omega);have gn:((aGj (cM (ns.take i)) n:Nat):Int)≠0:=by have:=aGv (cM (ns.take i)) (aF8 hn); omega
   have lb:=vG (ns.take i);have st:=zN ns i;refine ⟨_,rfl,_,rfl,_,rfl,_,rfl,cM (ns.take i),n,rfl,_,_,rfl,rfl,⟨gn,gz⟩,_,_,rfl,rfl,fP (m:=200001) (n:=9000) (by omega) (PySem.intBits_fdiv_le nz) (by decide),?_⟩;refine ⟨some (V.int n),?_,rfl⟩;rw [aHw,e];show _=[some (V.ref a),some (V.int (cM (ns.take i++[n]))),some (V.int n)]
   rw [GZ]
   rfl
 case done =>
  rintro σ H' ⟨r,rfl,rfl⟩;rw [hl,aF3];exact ⟨_,rfl,q⟩
theorem Gd {n:Nat}{f:Addr}{fd:FuncData}(F:dJ K "whole" "whole" (top 10) f fd):aX P w K mg base dG (n+1) f fd ["number"] Qg:=by
 refine F.ok zW (fun vs H Q E h=>?_) (fun cdv A outer s H vs Q E hr h=>?_)
 ·obtain ⟨t,rfl,_⟩:=h
  rfl
 obtain ⟨t,rfl,q⟩:=h;have nd:=zW.nd;refine ⟨_,(aJ (aN (cU (aA (pv 0) (aA aD aC))))),?_⟩;refine ⟨_,rfl,qP,fun p hp=>?_⟩;exact q p _ (aG hp _) aB
theorem IW {n:Nat}{f:Addr}{fd:FuncData}(F:dJ K "below" "below" (top 11) f fd):aX P w K mg base dG (n+1) f fd ["one","other"] (DX K):=by
 refine F.ok zB (fun vs H Q E h=>?_) (fun cdv A outer s H vs Q E hr h=>?_)
 ·obtain ⟨p,q,a,b,c,d,rfl,_⟩:=h
  rfl
 obtain ⟨p,q,a,b,c,d,rfl,hp,hq,z,k⟩:=h;have nd:=zB.nd;refine ⟨_,(aJ (aN (Eh zJ (aM cV (bI bF (pv 0) aD (fun _ _=>rfl)) (bI bF (pv 1) aD (fun _ _=>rfl))) (aM cV (bI bF (pv 1) aD (fun _ _=>rfl)) (bI bF (pv 0) aD (fun _ _=>rfl))) (bK _)))),?_⟩;exact ⟨_,rfl,p,_,_,_,rfl,rfl,hp,rfl,_,rfl,q,_,_,_,rfl,rfl,hq,rfl,_,_,rfl,rfl,fP z.a z.d (by decide),_,rfl,q,_,_,_,rfl,rfl,hq,rfl,_,rfl,p,_,_,_,rfl,rfl,hp,rfl,_,_,rfl,rfl,fP z.c z.b (by decide),_,_,rfl,rfl,k⟩
theorem Ew {n:Nat}{f:Addr}{fd:FuncData}(F:dJ K "lesser" "lesser" (top 12) f fd){aEu:Addr}{aD1:FuncData}(aEv:dI P w K mg base n "below" ["one","other"] (DX K) aEu aD1):aX P w K mg base dG (n+1) f fd ["one","other"] (N8 K):=by
 refine F.ok wF (fun vs H Q E h=>?_) (fun cdv A outer s H vs Q E hr h=>?_)
 ·obtain ⟨p,q,a,b,c,d,rfl,_⟩:=h
  rfl
 obtain ⟨p,q,a,b,c,d,rfl,hp,hq,z,k1,k2⟩:=h;have nd:=wF.nd;refine ⟨_,(aJ (aN (uJ (dC (aH aEv hr (aA (pv 1) (aA (pv 0) aC)))) (pv 1) (pv 0)))),?_⟩;refine ⟨_,rfl,_,rfl,q,p,c,d,a,b,rfl,hq,hp,⟨z.c,z.d,z.a,z.b⟩,_,rfl,?_⟩
 by_cases cc:c*b<a*d
 ·refine pA (decide_eq_true cc) ?_;exact ⟨_,rfl,k1 cc⟩
 ·refine mK (decide_eq_false cc) ?_;exact ⟨_,rfl,k2 cc⟩
theorem Fo {n:Nat}{f c:Addr}{fd:FuncData}(F:dJ K "rising" "rising" (top 16) f fd)(hc:fd.code=.ref c)(hC:PySem.W.CodeHd base c Pt)(hB:base.BuiltinsAt mg Pt)(aBO:mg "sorted" = none)(aCu:mg "max" = none):aX P w K mg base dG (n+1) f fd ["worths"] (Iz K Pt fC):=by
 refine F.okc hc vI (fun vs H Q E h=>?_) (fun A outer s H vs Q E hr h=>?_)
 ·obtain ⟨a,rs,rfl,_⟩:=h
  rfl
 obtain ⟨a,rs,rfl,hS,hne,h64,hrs,nd0,hT,q⟩:=h;have nd:=vI.nd;refine ⟨_,(aF (aY (i:=1) nd rfl (Or.inl rfl) (bD (vN rfl) rfl aCu Bv (aA (cA (ls:=["worth"]) (M:=["worths","most","scale"]) rfl (bL.of (by rfl)) (NL.of (by rfl)) (cX (pv 0)) (fun _ _ _ _=>⟨(aP (i:=0) (cB (by rfl)) rfl (Or.inl rfl)),bR,(bI (rG (K:=K) rfl) (pv 0) aD (fun _ _=>rfl))⟩)) aC))) (aF (aY (i:=2) nd rfl (Or.inr rfl) (aM cV (pv 1) (pv 1))) (aJ (aN (Ij (p:="worth") (M:=["worths","most","scale"]) hr rfl rfl aBO rfl hC hB (bL.of (by rfl)) (NL.of (by rfl)) rfl rfl rfl (pv 0) (fun _ _ _ _ _=>(aM eQ (aM cV (bI (rG (K:=K) rfl) (pv 0) aD (fun _ _=>rfl)) (pv 3)) (bI (rG (K:=K) rfl) (pv 0) aD (fun _ _=>rfl))))))))),?_⟩;have hlr:=oM rs;refine ⟨_,rfl,a,rfl,⟨_,hS⟩,fun D hD=>?_⟩;refine cI (xs:=kJ rs) (fun i τ H'=>∃ v0,τ = [v0,some (.ref a),none,none]/\aR H H'/\H' D=some (.lst ((rs.take i).map fun r=>V.int r.b))) ⟨none,rfl,aG hD _,aB⟩ ?keep ?turn ?done
 case keep =>
  rintro i τ H' hi ⟨v0,rfl,hs,_⟩;exact hs.seq hS
 case turn =>
  rintro i m v τ H' hm hi hv ⟨v0,rfl,hs,hD'⟩;obtain ⟨x,hx,rfl⟩:=zY hv;have hr2:=hs _ _ (hrs x (aF1 hx)).1;unfold kZ;refine cW ?_;refine ⟨_,rfl,x.q,_,_,_,rfl,rfl,bW.of hr2,rfl,?_⟩;refine bA hm hi hD' (by rw [aFF]; exact aQ (aFJ (aGG _ _) (by omega))) ⟨_,rfl,hs.upd_new hD _,?_⟩;rw [aB,take_snoc hx,aFN]
  rfl
 case done =>
 rintro τ H1 ⟨v0,rfl,s1,hD1⟩;rw [hlr,aF3] at hD1;refine ⟨D,rs.map Rs.b,rfl,bV.of (by rw [hD1,aGz]; rfl),fun e=>hne (aGF.mp e),fun mx hmx hmax=>?_⟩;obtain ⟨r0,hr0,rfl⟩:=aFL.mp hmx;have z0:=(hrs r0 hr0).2.2.2;refine ⟨_,rfl,_,rfl,_,_,rfl,rfl,fP z0 z0 (by decide),?_⟩;have zz:intBits (r0.b*r0.b)<=8000:=PySem.intBits_mul_le z0 z0;refine ⟨_,rfl,a,rs.map Rs.q,rs.map (Hu r0.b),rfl,by rw [<- Ja]; exact s1.seq hS,by rw [aFF,aFF],by rw [aFF]; exact h64,hT.same s1,fun H2 c' st hit=>⟨fun i qa kk eq ek=>?_,fun D2 ps hD2 hp hs=>?_⟩⟩
 ·rw [aFY] at eq ek;cases er:rs[i]? with
  | none=>rw [er] at eq; cases eq
  | some r =>
   rw [er] at eq ek;cases eq;cases ek;obtain ⟨ra,rf,rt,rb⟩:=hrs r (aF1 er);have ra2:H2 r.q=some (.tup [.int r.t,.int r.b]):=st.get (hT.same s1) (s1 _ _ ra) fun _ z=>nomatch z
   exact ⟨_,rfl,r.q,_,_,_,rfl,rfl,(bW.of ra2),rfl,_,rfl,_,_,rfl,rfl,fP rt zz (by decide),_,rfl,r.q,_,_,_,rfl,rfl,(bW.of ra2),rfl,_,_,rfl,rfl,⟨aF8 rf.pos,aFJ rb (by decide)⟩,rfl,rfl⟩
 ·obtain ⟨rs',pm,e,so⟩:=Ke hp hs nd0 (fun r hr=>(hrs r hr).2.1) (fun r hr=>hmax _ (aFL.mpr ⟨r,hr,rfl⟩));rw [e];have tb2:dF Pt fC gU H2:=.inr ⟨c',hit⟩;exact q D2 _ rs' (((s1.toT).trans st).trans (aR.toT (aG hD2 _))) (tb2.same (aG hD2 _)) aB pm so
theorem Lj {H:Hp}:∀ {kvs:List (List Key×V)}{qs:List Addr},qs.length=kvs.length->(∀ kv∈kvs,∃ t b:Int,kv.1=[.inl t,.inl b])->(∀ (i:Nat) k v,kvs[i]? = some (k,v)->∃ q,qs[i]? = some q/\H q=some (.tup (k.map kV))) ->
  ∃ rs:List Rs,kJ rs=qs.map V.ref/\rs.map jG=kvs.map (·.1)/\∀ r∈rs,O2 H r
 | [],[],_,_,_=>⟨[],rfl,rfl,fun _ h=>nomatch h⟩
 | [],_::_,h,_,_=>by simp at h
 | _::_,[],h,_,_=>by simp at h
 | kv::kvs,q::qs,hl,hk,hq=>by
  obtain ⟨rs,e1,e2,e3⟩:=Lj (kvs:=kvs) (qs:=qs) (by simpa using hl) (fun x hx=>hk x (aFG _ hx)) fun i k v e=>by
   obtain ⟨z,z1,z2⟩:=hq (i+1) k v (by simpa using e);exact ⟨z,by simpa using z1,z2⟩
  obtain ⟨t,b,ek⟩:=hk kv aFI;obtain ⟨z,z1,z2⟩:=hq 0 kv.1 kv.2 rfl;have z1:q=z:=by simpa using z1
  subst z1;refine ⟨⟨q,t,b⟩::rs,?_,?_,fun r hr=>?_⟩
  ·show V.ref q::kJ rs=V.ref q::qs.map V.ref;rw [e1]
  ·show jG ⟨q,t,b⟩::rs.map jG=kv.1::kvs.map (·.1);rw [e2,ek]
   rfl
  ·rcases aF7.mp hr with e | e
   ·subst e;rw [ek] at z2;exact z2
   ·exact e3 r e
theorem BR {xs:List Row}{kvs:List (List Key×V)}(pb:PB xs)(d:Dk (cQ xs) kvs){r:Rs}(h:jG r∈kvs.map (·.1)):Tb.rO (cQ xs) r.t r.b/\Fr.jY r.t r.b/\intBits r.t<=4000/\intBits r.b<=4000:=by
 obtain ⟨kv,hkv,e⟩:=aFL.mp h;obtain ⟨t,b,e2,hh⟩:=d.en kv hkv;rw [e2] at e;obtain ⟨e3,e4⟩:=rF.mp e.symm;rw [e3,e4];refine ⟨hh,?_⟩;obtain ⟨p,hp,e5,e6⟩:=hh;obtain ⟨x,hx,rfl⟩:=aFL.mp hp;have g:=pb x hx;have e5:x.t=t:=e5;have e6:x.b=b:=e6;rw [<- e5,<- e6];exact ⟨g.1,g.2.1,g.2.2.1⟩
theorem Bq {n:Nat}{f:Addr}{fd:FuncData}(F:dJ K "in_form" "in_form" (top 17) f fd){aD2:Addr}{aDQ:FuncData}(aD3:dI P w K mg base n "rising" ["worths"] (Iz K Pt fC) aD2 aDQ){p_:Addr}{m_:FuncData}(q_:dI P w K mg base n "common_divisor" ["one","other"] Jr p_ m_)(t_:mg "list" = none):aX P w K mg base dG (n+1) f fd ["rows"] (wY Pt fC):=by
 refine F.ok rQ (fun vs H Q E h=>?_) (fun cdv A outer s H vs Q E hr h=>?_)
 ·obtain ⟨a,xs,rfl,_⟩:=h
  rfl
 obtain ⟨a,xs,rfl,hT,xne,xlen,pb,hTb,q⟩:=h;have nd:=rQ.nd;have hu:=W5 hr;refine ⟨_,(aF (aY (i:=1) nd rfl (Or.inr rfl) Ig) (aF (jQ PassesOwn.never rfl (cX (pv 0)) (uF rfl (bH (aP (i:=2) nd rfl (Or.inl rfl)) (bH (aP (i:=3) nd rfl (Or.inl rfl)) dU))) (aJ (Jt hu (pv 1) (pv 2) (aM cL (Iw hu (pv 1) (pv 2) aD ⟨rfl,rfl,rfl,rfl⟩) (pv 3)) rfl))) (aF (aY (i:=4) nd rfl (Or.inr rfl) aD) (aF (jQ PassesOwn.never rfl (Ka (pv 1)) (aP (i:=2) nd rfl (Or.inl rfl)) (aJ (aY (i:=4) nd rfl (Or.inr rfl) (aH q_ hr (aA (pv 4) (aA (Dg hu (pv 1) (pv 2) (fun _ _=>rfl)) aC)))))) (aJ (aN (cA (ls:=["worth"]) (M:=["rows","weights","worth#","weight","divisor"]) rfl (bL.of (by rfl)) (NL.of (by rfl)) (cX (aH aD3 hr (aA (bJ (Bl rfl) rfl t_ iU (aA (pv 1) aC)) aC))) (fun _ _ _ _=>⟨(aP (i:=0) (cB (by rfl)) rfl (Or.inl rfl)),bR,(cU (aA (pv 0) (aA (aM eQ (Dg hu (pv 2) (pv 0) (fun _ _=>rfl)) (pv 5)) aC)))⟩)))))))),?_⟩;have hlr:=refs_length xs;intro Dd hDd;have n0:=aG hDd (.dT []);refine ⟨_,rfl,a,rfl,⟨_,bV.of (hT.same n0).lst⟩,?_⟩;refine sU (xs:=refs xs) (fun i σ H'=>∃ kvs v2 v3,σ = [some (.ref a),some (.ref Dd),v2,v3,none]/\aR H H'/\H' Dd=some (.dT kvs)/\Dk (cQ (xs.take i)) kvs/\kvs.length<=i) ⟨[],none,none,rfl,n0,aB,Dk.nil,aFM _⟩ ?keep ?turn ?done
 case keep =>
  rintro i σ H' hi ⟨kvs,v2,v3,rfl,hs,_⟩;exact bV.of (hT.same hs).lst
 case turn =>
  rintro i v σ H' hv ⟨kvs,v2,v3,rfl,hs,hd,dk,kl⟩;obtain ⟨x,hx,rfl⟩:=mH hv;have hmem:=aF1 hx;have hi:=(aFO.mp hx).1;have hr:=(hT.same hs).rows x hmem;have hq:H' x.q=some (.tup (([.inl x.t,.inl x.b]:List Key).map kV)):=hr.2;refine ⟨x.p,_,rfl,bW.of hr.1,rfl,_,_,rfl,_,_,rfl,rfl,?_⟩;refine ⟨_,rfl,Dd,rfl,.inr ⟨_,.inl hd⟩,_,rfl,_,Aj.t hd hq,_,rfl,Tb.Wt (cQ (xs.take i)) x.t x.b,x.w,dk.get x.t x.b,rfl,?_⟩;refine ⟨_,rfl,_,rfl,Dd,_,rfl,JV.t hd hq (aQ (by omega)),?_⟩;refine ⟨_,_,_,rfl,hs.upd_new hDd _,aB,?_,?_⟩
  ·rw [take_snoc hx,jP];exact dk.put x.r
  ·have:=lM kvs [.inl x.t,.inl x.b] (.int (Tb.Wt (cQ (xs.take i)) x.t x.b+x.w));exact aFJ this (by omega)
 case done =>
 rintro σ H1 ⟨kvs,v2,v3,rfl,s1,hd1,dk,kl⟩;rw [hlr,aF3] at dk;rw [hlr] at kl;obtain ⟨hw1,hf1⟩:=pb.ps;have pne:cQ xs≠[]:=fun e=>xne (aGF.mp e);have plen:(cQ xs).length<=1000:=by rw [dR]; omega
 have dpos:=dk.div_pos pne hw1;have dbits:=Gu dk pne (fun p hp=>by obtain ⟨x,hx,rfl⟩:=aFL.mp hp; exact ⟨(pb x hx).2.2.2.1,(pb x hx).2.2.2.2⟩) plen;refine ⟨_,rfl,Dd,kvs,rfl,.inl ⟨hd1,fun o=>?_⟩⟩;have s2:aR H (bG H1 Dd (.frz o (.dT kvs))):=s1.upd_new hDd _;have hfz:bG H1 Dd (.frz o (.dT kvs)) Dd=some (.frz o (.dT kvs)):=aB;generalize bG H1 Dd (.frz o (.dT kvs))=H2 at s2 hfz ⊢;refine Hd (fun i σ H'=>∃ d v2,σ = [some (.ref a),some (.ref Dd),v2,v3,some (.int d)]/\H'=H2/\d=Tb.uA ((kvs.take i).map wOf)) ⟨0,_,rfl,rfl,rfl⟩ (fun i σ H' _ ⟨_,_,_,e,_⟩=>by rw [e]; exact hfz) ?turn3 ?done3
 case turn3 =>
  rintro i k v kq σ H' hk hkt ⟨d,v2,rfl,rfl,ed⟩;obtain ⟨t,b,ekv,hh⟩:=dk.en _ (aF1 hk);injection ekv with ek1 ek2
  subst ek1 ek2;refine ⟨_,rfl,_,rfl,_,rfl,Dd,.int (Tb.Wt (cQ xs) t b),rfl,.inr ⟨kvs,[.inl t,.inl b],kq,.inr ⟨o,hfz⟩,rfl,hkt,(dk.val hh).symm⟩,d,Tb.Wt (cQ xs) t b,rfl,?_⟩;refine ⟨_,_,rfl,rfl,?_⟩;rw [take_snoc hk,aFN,ed];exact (Tb.Fg _ _).symm
 case done3 =>
 rintro σ H3 ⟨d,v2,rfl,rfl,ed⟩;rw [aF3] at ed;have ed:d=gM kvs:=ed;subst ed;have kb:∀ kv∈kvs,∃ t b:Int,kv.1=[.inl t,.inl b]:=fun kv hkv=>by
  obtain ⟨t,b,e,_⟩:=dk.en kv hkv;exact ⟨t,b,by rw [e]⟩
 refine ⟨_,rfl,Dd,kvs,rfl,.inr ⟨o,hfz⟩,fun l qs hl hql hqs=>?_⟩;obtain ⟨rs0,er1,er2,er3⟩:=Lj hql kb hqs;have n3:=aG hl (.lst (qs.map V.ref));have s3:=s2.trans n3;have rl0:rs0.length=kvs.length:=by simpa using congrArg aGW er2
 have kin0:∀ r∈rs0,jG r∈kvs.map (·.1):=fun r hr=>by rw [<- er2]; exact aFL.mpr ⟨r,hr,rfl⟩
 refine ⟨l,rs0,rfl,bV.of (by rw [er1]; exact aB),?_,by omega,fun r hr=>⟨n3 _ _ (er3 r hr),(BR pb dk (kin0 r hr)).2⟩,by rw [er2]; exact dk.nd,hTb.same s3,fun R H4 rs st4 tb4 hR pm so=>?_⟩
 ·rintro rfl;exact dk.ne pne (aHc.mp rl0.symm)
 have tb3:=hTb.same s3;have hfz4:H4 Dd=some (.frz o (.dT kvs)):=st4.get tb3 (n3 _ _ hfz) fun _ z=>nomatch z
 have pmk:(rs.map jG).Perm (kvs.map (·.1)):=by rw [<- er2]; exact pm.map jG
 have kin:∀ r∈rs,jG r∈kvs.map (·.1):=fun r hr=>pmk.mem_iff.mp (aFL.mpr ⟨r,hr,rfl⟩);have rat:∀ r∈rs,O2 H4 r:=fun r hr=>st4.get tb3 (n3 _ _ (er3 r (pm.mem_iff.mp hr))) fun _ z=>nomatch z
 have rlen:rs.length=kvs.length:=by rw [pm.length_eq,rl0]
 have sT:cD Pt H H4:=(s3.toT).trans st4;refine ⟨R,rfl,⟨_,bV.of hR⟩,fun D hD=>?_⟩;refine cI (xs:=kJ rs) (fun i τ H'=>∃ v0 ys,τ = [v0,some (.ref a),some (.ref Dd),v2,v3,some (.int (gM kvs))]/\aR H4 H'/\TabAt H' D ys/\ys.map (fun y=>Rs.mk y.q y.t y.b)=rs.take i/\∀ y∈ys,y.w=(Tb.Wt (cQ xs) y.t y.b).fdiv (gM kvs)) ⟨none,[],rfl,aG hD _,⟨aB,fun _ h=>nomatch h⟩,rfl,(fun _ h=>nomatch h)⟩ ?keep4 ?turn4 ?done4
 case keep4 =>
  rintro i τ H' hi ⟨v0,ys,rfl,hs,_⟩;exact bV.of (hs _ _ hR)
 case turn4 =>
  rintro i m v τ H' hm hi hv ⟨v0,ys,rfl,hs,hY,ey,yw⟩;obtain ⟨r,hr,rfl⟩:=zY hv;have hmem:=aF1 hr;have hh:=(BR pb dk (kin r hmem)).1;have rq:H' r.q=some (.tup [.int r.t,.int r.b]):=hs _ _ (rat r hmem);have ylen:ys.length<=1000:=by
   have h:=congrArg aGW ey;rw [aFF,aGe] at h;omega
  unfold kZ;refine cW ?_;refine ⟨_,rfl,_,rfl,_,rfl,Dd,.int (Tb.Wt (cQ xs) r.t r.b),rfl,.inr ⟨kvs,[.inl r.t,.inl r.b],r.q,.inr ⟨o,hs _ _ hfz4⟩,rfl,rq,(dk.val hh).symm⟩,_,rfl,_,_,rfl,rfl,⟨aF8 dpos,dbits⟩,qP,fun p hp=>?_⟩;have n1:=aG hp (.tup [.ref r.q,.int ((Tb.Wt (cQ xs) r.t r.b).fdiv (gM kvs))]);have hY1:=hY.same n1;refine bA hm hi hY1.lst (by rw [refs_length]; exact aQ ylen) ⟨_,ys++[⟨p,r.q,r.t,r.b,(Tb.Wt (cQ xs) r.t r.b).fdiv (gM kvs)⟩],rfl,(hs.trans n1).upd_new hD _,⟨?_,?_⟩,?_,?_⟩
  ·rw [aB,mF]
  ·intro y hy;rcases aF4.mp hy with z | z
   ·exact (hY1.rows y z).over hY1.lst
   ·rw [aFR.mp z];exact iK.over ⟨aB,n1 _ _ rq⟩ hY1.lst
  ·rw [aFN,ey,take_snoc hr]
   rfl
  ·intro y hy;rcases aF4.mp hy with z | z
   ·exact yw y z
   ·rw [aFR.mp z]
 case done4 =>
  rintro τ H5 ⟨v0,ys,rfl,s5,hY,ey,yw⟩;rw [oM,aF3] at ey;obtain ⟨tab,wok⟩:=Oe dk hw1 hf1 pne pmk so ey yw;have yl:ys.length=rs.length:=by rw [<- ey,aFF]
  refine q D H5 ys (sT.trans (s5.toT)) (tb4.same s5) (sT.free hD tb4.at_) hY ⟨tab,wok⟩ (by omega)
theorem rY {n:Nat}{f:Addr}{fd:FuncData}(F:dJ K "all_weights" "all_weights" (top 18) f fd)(aDh:mg "sum" = none):aX P w K mg base dG (n+1) f fd ["table"] Ml:=by
 refine F.ok lO (fun vs H Q E h=>?_) (fun cdv A outer s H vs Q E hr h=>?_)
 ·obtain ⟨a,xs,rfl,_⟩:=h
  rfl
 obtain ⟨a,xs,rfl,hT,hl,q⟩:=h;have nd:=lO.nd;refine ⟨_,(aJ (aN (bD (zG rfl) rfl aDh J3 (aA (cA (ls:=["worth","weight"]) (M:=["table"]) rfl (bL.of (by rfl)) (NL.of (by rfl)) (cX (pv 0)) (fun _ _ _ _=>⟨(fM (K:=K) (n:=2) rfl rfl (bH (aP (i:=0) (cB (by rfl)) rfl (Or.inl rfl)) (bH (aP (i:=1) (cB (by rfl)) rfl (Or.inl rfl)) dU))),bR,(pv 1)⟩)) aC)))),?_⟩;have hlr:=refs_length xs;refine ⟨_,rfl,a,rfl,⟨_,bV.of hT.lst⟩,fun D hD=>?_⟩;refine cI (xs:=refs xs) (fun i τ H'=>∃ v0 v1,τ = [v0,v1,some (.ref a)]/\aR H H'/\H' D=some (.lst ((xs.take i).map fun x=>V.int x.w))) ⟨none,none,rfl,aG hD _,aB⟩ ?keep ?turn ?done
 case keep =>
  rintro i τ H' hi ⟨v0,v1,rfl,hs,_⟩;exact bV.of (hT.same hs).lst
 case turn =>
  rintro i m v τ H' hm hi hv ⟨v0,v1,rfl,hs,hD'⟩;obtain ⟨x,hx,rfl⟩:=mH hv;have hr:=(hT.same hs).rows x (aF1 hx);refine ⟨x.p,_,rfl,bW.of hr.1,rfl,_,_,rfl,_,_,rfl,rfl,?_⟩;refine cW ?_;refine ⟨_,rfl,?_⟩;refine bA hm hi hD' (by rw [aFF]; exact aQ (aFJ (aGG _ _) (by omega))) ⟨_,_,rfl,hs.upd_new hD _,?_⟩;rw [aB,take_snoc hx,aFN]
  rfl
 case done =>
  rintro τ H' ⟨v0,v1,rfl,hs,hD'⟩;rw [hlr,aF3] at hD';refine ⟨D,xs.map Row.w,rfl,bV.of (by rw [hD',aGz]; rfl),?_⟩;exact q H' hs
end
end K85
namespace L2
open PySem PySem.Spec PyProof.Rows
structure Z0 (K:PySem.W.Frag)(dT:Addr)(x qual:Str)(st:Stmt)(f:Addr)(fd:FuncData):Prop where
 ex:∃ (oc:Value) (od:Option Addr) (kV doc pm:Value) (an:Option Addr) (cdv ct:Value) (osl:Array (Option Value)),
  fd=PySem.W.fnOf x qual (iV st) (fJ st) (aL st) (.ref dT) kV doc pm an cdv ct/\K.lookup f=some ⟨oc,od,.func fd,osl⟩/\PySem.W.codeIn K cdv qual=true
 kp:PySem.W.keepIn K (.ref f)=true
end L2
namespace K85
open PySem L2 TD
open Builtin.Int (intBits)
section
variable {P:Program}{w:World}{K:PySem.W.Frag}{mg:Str->Option Value}{base:Heap}{Pt:Addr}
theorem Cg {n:Nat}{f:Addr}{fd:FuncData}(F:dJ K "capped" "capped" (top 19) f fd){aBP:Addr}{S_:FuncData}(aBR:dI P w K mg base n "in_form" ["rows"] (wY Pt fC) aBP S_){aCU:Addr}{aCB:FuncData}(aCV:dI P w K mg base n "lesser" ["one","other"] (N8 K) aCU aCB):aX P w K mg base dG (n+1) f fd ["table","level"] (Mg Pt fC):=by
 refine F.ok vQ (fun vs H Q E h=>?_) (fun cdv A outer s H vs Q E hr h=>?_)
 ·obtain ⟨a,l,xs,x0,rfl,_⟩:=h
  rfl
 obtain ⟨a,l,xs,x0,rfl,hT,ne,l12,pb,hl,fl,lt,lb1,hTb,q⟩:=h;have nd:=vQ.nd;refine ⟨_,(aJ (aN (aH aBR hr (aA (cA (ls:=["worth","weight"]) (M:=["table","level"]) rfl (bL.of (by rfl)) (NL.of (by rfl)) (cX (pv 0)) (fun _ _ _ _=>⟨(fM (K:=K) (n:=2) rfl rfl (bH (aP (i:=0) (cB (by rfl)) rfl (Or.inl rfl)) (bH (aP (i:=1) (cB (by rfl)) rfl (Or.inl rfl)) dU))),bR,(cU (aA (aH aCV hr (aA (pv 0) (aA (pv 3) aC))) (aA (pv 1) aC)))⟩)) aC)))),?_⟩;obtain ⟨l0,l1⟩:=x0;have hl:H l=some (.tup [.int l0,.int l1]):=hl;have lb:intBits l1<=4000/\intBits l0<=4000:=⟨lb1,lt⟩
 have hlr:=refs_length xs;have glen:=l12;have ylen:∀ {i:Nat}{ys:List Row},cQ ys=(cQ (xs.take i)).map (Tb.gQ l0 l1)->ys.length<=12:=fun {i ys} e=>by
  have h1:=congrArg aGW e;rw [dR,aFF,dR,aGe] at h1;omega
 refine ⟨_,rfl,a,rfl,⟨_,bV.of hT.lst⟩,fun D hD=>?_⟩;refine cI (xs:=refs xs) (fun i τ H'=>∃ v0 v1 ys,τ = [v0,v1,some (.ref a),some (.ref l)]/\aR H H'/\TabAt H' D ys/\cQ ys=(cQ (xs.take i)).map (Tb.gQ l0 l1)) ⟨none,none,[],rfl,aG hD _,⟨aB,fun _ h=>nomatch h⟩,rfl⟩ ?keep ?turn ?done
 case keep =>
  rintro i τ H' hi ⟨v0,v1,ys,rfl,hs,_⟩;exact bV.of (hT.same hs).lst
 case turn =>
  rintro i m v τ H' hm hi hv ⟨v0,v1,ys,rfl,hs,hY,ey⟩;obtain ⟨x,hx,rfl⟩:=mH hv;have hmem:=aF1 hx;have hr:=(hT.same hs).rows x hmem;have xz:intBits x.b<=4000/\intBits x.t<=4000:=⟨(pb x hmem).2.2.1,(pb x hmem).2.1⟩
  have yl:=ylen ey;refine ⟨x.p,_,rfl,bW.of hr.1,rfl,_,_,rfl,_,_,rfl,rfl,?_⟩;refine cW ?_;refine ⟨_,rfl,_,rfl,x.q,l,x.t,x.b,l0,l1,rfl,bW.of hr.2,bW.of (hs _ _ hl),⟨by omega,by omega,by omega,by omega⟩,fun c=>?_,fun c=>?_⟩
  ·
   refine ⟨_,rfl,qP,fun p hp=>?_⟩;have n1:=aG hp (.tup [.ref l,.int x.w]);have hY1:=hY.same n1;refine bA hm hi hY1.lst (by rw [refs_length]; exact aQ (by omega)) ⟨_,_,ys++[⟨p,l,l0,l1,x.w⟩],rfl,(hs.trans n1).upd_new hD _,⟨?_,?_⟩,?_⟩
   ·rw [aB,mF]
   ·intro y hy;rcases aF4.mp hy with z | z
    ·exact (hY1.rows y z).over hY1.lst
    ·rw [aFR.mp z];exact iK.over ⟨aB,n1 _ _ (hs _ _ hl)⟩ hY1.lst
   ·rw [jP,ey,take_snoc hx,jP,aFN];show _++[_]=_++[Tb.gQ l0 l1 x.r]
    unfold Tb.gQ;rw [if_pos (show l0*x.r.b<x.r.t*l1 from c)]
    rfl
  ·
   refine ⟨_,rfl,qP,fun p hp=>?_⟩;have n1:=aG hp (.tup [.ref x.q,.int x.w]);have hY1:=hY.same n1;refine bA hm hi hY1.lst (by rw [refs_length]; exact aQ (by omega)) ⟨_,_,ys++[⟨p,x.q,x.t,x.b,x.w⟩],rfl,(hs.trans n1).upd_new hD _,⟨?_,?_⟩,?_⟩
   ·rw [aB,mF]
   ·intro y hy;rcases aF4.mp hy with z | z
    ·exact (hY1.rows y z).over hY1.lst
    ·rw [aFR.mp z];exact iK.over ⟨aB,n1 _ _ hr.2⟩ hY1.lst
   ·rw [jP,ey,take_snoc hx,jP,aFN];show _++[_]=_++[Tb.gQ l0 l1 x.r]
    unfold Tb.gQ;rw [if_neg (show ¬ l0*x.r.b<x.r.t*l1 from c)]
    rfl
 case done =>
 rintro τ H1 ⟨v0,v1,ys,rfl,s1,hY,ey⟩;have yl:=ylen ey;rw [hlr,aF3] at ey;have el:ys.length=xs.length:=by
  have h1:=congrArg aGW ey;rw [dR,aFF,dR] at h1;exact h1
 refine ⟨D,ys,rfl,hY,?_,by omega,Jp pb fl lt lb1 ey,hTb.same s1,fun r H5 zs s5 tb5 hr5 hZ o hzl=>?_⟩
 ·rintro rfl;exact ne (aHc.mp el.symm)
 ·rw [ey] at o;exact q r H5 zs ((s1.toT).trans s5) tb5 (s1.free hr5) hZ o (by omega)
theorem GJ {n:Nat}{f:Addr}{fd:FuncData}(F:dJ K "capped" "capped" (top 19) f fd){aBP:Addr}{S_:FuncData}(aBR:dI P w K mg base n "in_form" ["rows"] (wY Pt fC) aBP S_){aCU:Addr}{aCB:FuncData}(aCV:dI P w K mg base n "lesser" ["one","other"] (N8 K) aCU aCB):aX P w K mg base dG (n+1) f fd ["table","level"] (Gi Pt fC):=(Cg F aBR aCV).imp fun vs H Q E h=>by
 obtain ⟨a,l,xs,x0,n,W,M,kk,rfl,hT,g,c,hl,f,hTb,q⟩:=h;have lb:=Dz f g.mp c.m c.k0 c.k;exact ⟨a,l,xs,x0,rfl,hT,g.ne,aFJ g.len c.n,g.pb c,hl,f.fr,by omega,by omega,hTb,fun r H' ys s tb hr hY o hl'=>q r H' ys s tb hr hY (Ni g f o hl') o⟩
theorem _root_.TD.GM.wz {es:List Ent}{k0:Nat}{W0 kk:Int}(g:GM es k0 W0 kk){e:Ent}(he:e∈es){y:Row}(hy:y∈e.ys):intBits y.w<=601:=by
 have ge:=g.g e he;have a:=ge.w1 y hy;have b:=lJ ge.w1 hy;have c:=ge.ws;have d:=(g.c e he).w;have p1:(2:Int)^601=2*2^600:=by rw [aGA]; omega
 have q1:=Sd.cG 600;exact lZ (by omega) (by omega)
theorem JH {n:Nat}{f:Addr}{fd:FuncData}(F:dJ K "mixed" "mixed" (top 20) f fd){aBP:Addr}{S_:FuncData}(aBR:dI P w K mg base n "in_form" ["rows"] (wY Pt fC) aBP S_){aBd:Addr}{T_:FuncData}(M_:dI P w K mg base n "all_weights" ["table"] Ml aBd T_){E_:Addr}{C_:FuncData}(F_:dI P w K mg base n "common_multiple" ["numbers"] (O1 K) E_ C_):aX P w K mg base dG (n+1) f fd ["rows"] (Hh Pt fC):=by
 refine F.ok yP (fun vs H Q E h=>?_) (fun cdv A outer s H vs Q E hr h=>?_)
 ·obtain ⟨a,es,k0,W0,kk,rfl,_⟩:=h
  rfl
 obtain ⟨a,es,k0,W0,kk,rfl,hE,g,hTb,q⟩:=h;have nd:=yP.nd;refine ⟨_,(aF (aY (i:=1) nd rfl (Or.inl rfl) (aH F_ hr (aA (cA (ls:=["weight","table"]) (M:=["rows","scale","parts","weight#","table#","factor"]) rfl (bL.of (by rfl)) (NL.of (by rfl)) (cX (pv 0)) (fun _ _ _ _=>⟨(fM (K:=K) (n:=2) rfl rfl (bH (aP (i:=0) (cB (by rfl)) rfl (Or.inl rfl)) (bH (aP (i:=1) (cB (by rfl)) rfl (Or.inl rfl)) dU))),bR,(aH M_ hr (aA (pv 1) aC))⟩)) aC))) (aF (aY (i:=2) nd rfl (Or.inl rfl) (nH aC)) (aF (jQ PassesOwn.never rfl (cX (pv 0)) (uF rfl (bH (aP (i:=3) nd rfl (Or.inl rfl)) (bH (aP (i:=4) nd rfl (Or.inl rfl)) dU))) (aF (aY (i:=5) nd rfl (Or.inr rfl) (aM cV (pv 3) (aM eQ (pv 1) (aH M_ hr (aA (pv 4) aC))))) (aJ (mD (gG PySem.F.plainAttrs_list PySem.F.slot_list_extend PySem.F.type_list_extend Fb (pv 2) (aA (cA (ls:=["worth","inner"]) (M:=["rows","scale","parts","weight","table","factor"]) rfl (bL.of (by rfl)) (NL.of (by rfl)) (cX (pv 4)) (fun _ _ _ _=>⟨(fM (K:=K) (n:=2) rfl rfl (bH (aP (i:=0) (cB (by rfl)) rfl (Or.inl rfl)) (bH (aP (i:=1) (cB (by rfl)) rfl (Or.inl rfl)) dU))),bR,(cU (aA (pv 0) (aA (aM cV (pv 7) (pv 1)) aC)))⟩)) aC)))))) (aJ (aN (aH aBR hr (aA (pv 2) aC))))))),?_⟩;have hlr:=oJ es;have glen:=g.len;have tpos:∀ n∈cF es,0<n:=fun n hn=>(g.tp n hn).1;have tb:=g.tb;obtain ⟨Sp,_,Sz,Sdv⟩:=g.S;have k12:=g.k;have n12:=g.n;refine ⟨_,rfl,a,rfl,⟨_,bV.of hE.lst⟩,fun D hD=>?_⟩;refine cI (xs:=oZ es) (fun i τ H'=>∃ v0 v1,τ = [v0,v1,some (.ref a),none,none,none,none,none]/\aR H H'/\H' D=some (.lst ((es.take i).map fun e=>V.int (wsum e.ys)))) ⟨none,none,rfl,aG hD _,aB⟩ ?keep ?turn ?done
 case keep =>
  rintro i τ H' hi ⟨v0,v1,rfl,hs,_⟩;exact bV.of (hE.same hs).lst
 case turn =>
  rintro i m v τ H' hm hi hv ⟨v0,v1,rfl,hs,hD'⟩;obtain ⟨e,he,rfl⟩:=Ah hv;have hr:=(hE.same hs).ents e (aF1 he);have ge:=g.g e (aF1 he);refine ⟨e.p,_,rfl,bW.of hr.1,rfl,_,_,rfl,_,_,rfl,rfl,?_⟩;refine cW ?_;refine ⟨_,rfl,e.a,e.ys,rfl,hr.2,by have:=ge.len; omega,fun H2 s2=>?_⟩;refine bA hm hi (s2 _ _ hD') (by rw [aFF]; exact aQ (aFJ (aGG _ _) (by omega))) ⟨_,_,rfl,(hs.trans s2).upd_new hD _,?_⟩;rw [aB,take_snoc he,aFN]
  rfl
 case done =>
 rintro τ H1 ⟨v0,v1,rfl,s1,hD1⟩;rw [hlr,aF3] at hD1;refine ⟨D,cF es,rfl,bV.of (by rw [hD1]; unfold cF; rw [aGz]; rfl),tpos,fun n hn=>aFJ (tb.1 n hn) (by decide),aFJ tb.2 (by decide),?_⟩;refine ⟨aGa _,fun Rp hRp=>?_⟩;have hRn:H Rp=none:=s1.free hRp;have s2:=s1.upd_new hRn (.lst []);refine ⟨_,rfl,a,rfl,⟨_,bV.of (hE.same s2).lst⟩,?_⟩;refine sU (xs:=oZ es) (fun i σ H'=>∃ v3 v4 v5 xs,σ = [some (.ref a),some (.int (cM (cF es))),some (.ref Rp),v3,v4,v5]/\aR H H'/\TabAt H' Rp xs/\cQ xs=partsOf (cM (cF es)) (es.take i)/\PB xs/\xs.length<=i*k0) ⟨none,none,none,[],rfl,s2,⟨aB,fun _ h=>nomatch h⟩,rfl,(fun _ h=>nomatch h),by rw [Nat.zero_mul]; exact aFM _⟩ ?keep2 ?turn2 ?done2
 case keep2 =>
  rintro i σ H' hi ⟨v3,v4,v5,xs,rfl,hs,_⟩;exact bV.of (hE.same hs).lst
 case turn2 =>
  rintro i v σ H' hv ⟨v3,v4,v5,xs,rfl,hs,hX,ex,pb,xl⟩;obtain ⟨e,he,rfl⟩:=Ah hv;have hmem:=aF1 he;have hi:=(aFO.mp he).1;have hr:=(hE.same hs).ents e hmem;have ge:=g.g e hmem;have gw:=g.w e hmem;have gl:=ge.len;have gs:=ge.tot;have tz:=tb.1 _ (aFL.mpr ⟨e,hmem,rfl⟩);have wz:intBits e.w<=64:=PySem.intBits_le_64 (by omega) (by omega);have fz:intBits (o9 (cM (cF es)) e)<=64+2405:=PySem.intBits_mul_le wz (PySem.intBits_fdiv_le Sz);refine ⟨e.p,_,rfl,bW.of hr.1,rfl,_,_,rfl,_,_,rfl,rfl,?_⟩;refine ⟨_,rfl,_,rfl,_,rfl,e.a,e.ys,rfl,hr.2,by omega,fun H2 s2=>?_⟩;refine ⟨_,_,rfl,rfl,⟨by omega,aFJ tz (by decide)⟩,_,_,rfl,rfl,fP (m:=64) (n:=2405) wz (PySem.intBits_fdiv_le Sz) (by decide),?_⟩;have hs2:=hs.trans s2;have hr2:=hr.2.same s2;refine ⟨_,rfl,.inl ⟨rfl,_,bV.of (hX.same s2).lst⟩,_,rfl,e.a,rfl,⟨_,bV.of hr2.lst⟩,fun D2 hD2=>?_⟩;refine cI (xs:=refs e.ys) (fun j τ H''=>∃ v0 v1 zs,τ = [v0,v1,some (.ref a),some (.int (cM (cF es))),some (.ref Rp),some (.int e.w),some (.ref e.a),some (.int (o9 (cM (cF es)) e))]/\aR H2 H''/\TabAt H'' D2 zs/\cQ zs=(e.ys.take j).map (fun y=>⟨y.t,y.b,o9 (cM (cF es)) e*y.w⟩)) ⟨none,none,[],rfl,aG hD2 _,⟨aB,fun _ h=>nomatch h⟩,rfl⟩ ?keep3 ?turn3 ?done3
  case keep3 =>
   rintro j τ H'' hj ⟨v0,v1,zs,rfl,hs3,_⟩;exact bV.of (hr2.same hs3).lst
  case turn3 =>
   rintro j m v τ H'' hm hj hv ⟨v0,v1,zs,rfl,hs3,hZ,ez⟩;obtain ⟨y,hy,rfl⟩:=mH hv;have hym:=aF1 hy;have ry:=(hr2.same hs3).rows y hym;have yz:=g.wz hmem hym;have zl:zs.length<=12:=by
    have h:=congrArg aGW ez;rw [dR,aFF,aGe] at h;omega
   refine ⟨y.p,_,rfl,bW.of ry.1,rfl,_,_,rfl,_,_,rfl,rfl,?_⟩;refine cW ?_;refine ⟨_,rfl,_,rfl,_,rfl,_,_,rfl,rfl,fP fz yz (by decide),qP,fun p hp=>?_⟩;have n1:=aG hp (.tup [.ref y.q,.int (o9 (cM (cF es)) e*y.w)]);have hZ1:=hZ.same n1;refine bA hm hj hZ1.lst (by rw [refs_length]; exact aQ (by omega)) ⟨_,_,zs++[⟨p,y.q,y.t,y.b,o9 (cM (cF es)) e*y.w⟩],rfl,(hs3.trans n1).upd_new hD2 _,⟨?_,?_⟩,?_⟩
   ·rw [aB,mF]
   ·intro z hz;rcases aF4.mp hz with q1 | q1
    ·exact (hZ1.rows z q1).over hZ1.lst
    ·rw [aFR.mp q1];exact iK.over ⟨aB,n1 _ _ ry.2⟩ hZ1.lst
   ·rw [jP,ez,take_snoc hy,aFN]
    rfl
  case done3 =>
   rintro τ H3 ⟨v0,v1,zs,rfl,s3,hZ,ez⟩;rw [refs_length,aF3] at ez;have zl:zs.length=e.ys.length:=by
    have h:=congrArg aGW ez;rw [dR,aFF] at h;exact h
   have hX3:=hX.same (s2.trans s3);have il:i*k0<=es.length*k0:=aGy _ (by omega);refine ⟨Rp,D2,refs xs,refs zs,rfl,rfl,hX3.lst,hZ.lst,by rw [refs_length,refs_length]; exact aGm (aQ (by omega)),?_⟩;have s4:aR H (bG H3 Rp (.lst (refs xs++refs zs))):=(hs2.trans s3).upd_new hRn _;refine ⟨_,_,_,xs++zs,rfl,s4,⟨?_,?_⟩,?_,?_,?_⟩
   ·rw [aB];unfold refs;rw [aFN]
   ·intro z hz;rcases aF4.mp hz with q1 | q1
    ·exact (hX3.rows z q1).over hX3.lst
    ·exact (hZ.rows z q1).over hX3.lst
   ·rw [Bh,ex,ez,take_snoc he,xO]
   ·intro z hz;rcases aF4.mp hz with q1 | q1
    ·exact pb z q1
    ·have m:z.r∈cQ zs:=aFL.mpr ⟨z,q1,rfl⟩;rw [ez] at m;obtain ⟨y,hy,ey⟩:=aFL.mp m;have e1:y.t=z.t:=congrArg Tb.Rw.t ey;have e2:y.b=z.b:=congrArg Tb.Rw.b ey;have e3:o9 (cM (cF es)) e*y.w=z.w:=congrArg Tb.Rw.w ey;rw [<- e1,<- e2,<- e3];exact g.pb hmem hy
   ·rw [aFZ,aIe];omega
 case done2 =>
  rintro σ H4 ⟨v3,v4,v5,xs,rfl,s4,hX,ex,pb,xl⟩;rw [hlr,aF3] at ex;rw [hlr] at xl;refine ⟨_,rfl,Rp,xs,rfl,hX,?_,by omega,pb,hTb.same s4,fun r H5 ys s5 tb5 hr5 hY o hyl=>?_⟩
  ·rintro rfl;have ex:([]:List Tb.Rw)=partsOf (cM (cF es)) es:=ex;cases hes:es with
   | nil=>exact g.ne hes
   | cons e es' =>
    have ge:=g.g e (by rw [hes]; exact aFI);cases hys:e.ys with
    | nil=>exact ge.ne hys
    | cons y ys =>
     have z:Tb.rO (partsOf (cM (cF es)) es) y.t y.b:=by
      rw [hes];exact Tb.jT.mpr (.inl ⟨⟨y.t,y.b,_⟩,aFL.mpr ⟨y,by rw [hys]; exact aFI,rfl⟩,rfl,rfl⟩)
     rw [<- ex] at z;exact Tb.rJ z
  ·rw [ex] at o;exact q r H5 ys ((s4.toT).trans s5) tb5 (s4.free hr5) hY (g.out o (by omega)) o (by rw [<- ex,dR]; exact hyl)
theorem w6 {n:Nat}{f:Addr}{fd:FuncData}(F:dJ K "level_for" "level_for" (top 21) f fd){aEw:Addr}{aD4:FuncData}(aEx:dI P w K mg base n "share" ["top","bottom"] xV aEw aD4){aBd:Addr}{T_:FuncData}(M_:dI P w K mg base n "all_weights" ["table"] Ml aBd T_){E_:Addr}{C_:FuncData}(F_:dI P w K mg base n "common_multiple" ["numbers"] (O1 K) E_ C_)(L_:mg "reversed" = none):aX P w K mg base dG (n+1) f fd ["table","price"] LK:=by
 refine F.ok oV (fun vs H Q E h=>?_) (fun cdv A outer s H vs Q E hr h=>?_)
 ·obtain ⟨a,xs,p,n,W,kk,rfl,_⟩:=h
  rfl
 obtain ⟨a,xs,p,n,W,kk,rfl,hT,g,c,so,p0,p9,q⟩:=h;have nd:=oV.nd;refine ⟨_,(aF (aY (i:=2) nd rfl (Or.inl rfl) (aH F_ hr (aA (cA (ls:=["worth","weight"]) (M:=["table","price","bottom","tops","weights","worth#","weight#","top"]) rfl (bL.of (by rfl)) (NL.of (by rfl)) (cX (pv 0)) (fun _ _ _ _=>⟨(fM (K:=K) (n:=2) rfl rfl (bH (aP (i:=0) (cB (by rfl)) rfl (Or.inl rfl)) (bH (aP (i:=1) (cB (by rfl)) rfl (Or.inl rfl)) dU))),bR,(bI (rG (K:=K) rfl) (pv 0) aD (fun _ _=>rfl))⟩)) aC))) (aF (aY (i:=3) nd rfl (Or.inl rfl) (aM cV (aM cV (M3 Hv (pv 1)) (aH M_ hr (aA (pv 0) aC))) (pv 2))) (aF (aY (i:=4) nd rfl (Or.inl rfl) aD) (aF (jQ PassesOwn.never rfl (O4 rfl L_ (aA (pv 0) aC)) (uF rfl (bH (aP (i:=5) nd rfl (Or.inl rfl)) (bH (aP (i:=6) nd rfl (Or.inl rfl)) dU))) (aF (aY (i:=7) nd rfl (Or.inl rfl) (aM cV (bI bF (pv 5) aD (fun _ _=>rfl)) (aM eQ (pv 2) (bI bF (pv 5) aD (fun _ _=>rfl))))) (aF (b8 (PW.pt (Cr (aZ uC (pv 4) aD (bK _)) (xE (aZ uD (aM cV (pv 7) (pv 4)) (pv 3) (bK _))))) (aJ J2) bB) (aF (aY (i:=3) nd rfl (Or.inl rfl) (aM cL (pv 3) (aM cV (pv 6) (pv 7)))) (aJ (aY (i:=4) nd rfl (Or.inl rfl) (aM cL (pv 4) (pv 6)))))))) (aJ (aN (aH aEx hr (aA (pv 3) (aA (aM cV (pv 4) (pv 2)) aC))))))))),?_⟩;have hlr:=refs_length xs;have hrl:=dR xs;have glen:=g.len;have gn:=c.n;have tab:=g.tab so;have wt1:=g.tot;have wt2:=g.ws;have wt3:=c.w;have lm:0<bO xs/\bO xs<=2^1600:=⟨g.mp,c.m⟩
 have p601:(2:Int)^601=2*2^600:=by rw [aGA]; omega
 have p600:=Sd.cG 600;have p1601:(2:Int)^1601=2*2^1600:=by rw [aGA]; omega
 have glz:intBits (bO xs)<=1601:=lZ (by omega) (by omega);have wsz:∀ z:Int,0<=z->z<=wsum xs->intBits z<=601:=fun z h1 h2=>lZ (by omega) (by omega);have nz:0<xs.length:=by
  rcases aHs xs.length with z | z
  ·exact absurd (aHc.mp z) g.ne
  ·exact z
 have b1:∀ x:Int,0<=x->x<=1000000000->intBits x<=64:=fun x h1 h2=>PySem.intBits_le_64 (by omega) (by omega);have bpos:∀ n∈xs.map Row.b,0<n:=fun n hn=>by
  obtain ⟨x,hx,rfl⟩:=aFL.mp hn;exact (g.fq x hx).fr.pos
 refine ⟨_,rfl,a,rfl,⟨_,bV.of hT.lst⟩,fun D hD=>?_⟩;refine cI (xs:=refs xs) (fun i τ H'=>∃ v0 v1,τ = [v0,v1,some (.ref a),some (.int p),none,none,none,none,none,none]/\aR H H'/\H' D=some (.lst ((xs.take i).map fun x=>V.int x.b))) ⟨none,none,rfl,aG hD _,aB⟩ ?keep ?turn ?done
 case keep =>
  rintro i τ H' hi ⟨v0,v1,rfl,hs,_⟩;exact bV.of (hT.same hs).lst
 case turn =>
  rintro i m v τ H' hm hi hv ⟨v0,v1,rfl,hs,hD'⟩;obtain ⟨x,hx,rfl⟩:=mH hv;have hr:=(hT.same hs).rows x (aF1 hx);refine ⟨x.p,_,rfl,bW.of hr.1,rfl,_,_,rfl,_,_,rfl,rfl,?_⟩;refine cW ?_;refine ⟨_,rfl,x.q,_,_,_,rfl,rfl,bW.of hr.2,rfl,?_⟩;refine bA hm hi hD' (by rw [aFF]; exact aQ (aFJ (aGG _ _) (by omega))) ⟨_,_,rfl,hs.upd_new hD _,?_⟩;rw [aB,take_snoc hx,aFN]
  rfl
 case done =>
 rintro τ H1 ⟨v0,v1,rfl,s1,hD1⟩;rw [hlr,aF3] at hD1;have b9:∀ n∈xs.map Row.b,intBits n<=1601:=fun n hn=>by
  obtain ⟨x,hx,rfl⟩:=aFL.mp hn;exact (g.bits c hx).1
 have b10:((xs.map Row.b).map intBits).sum<=200000:=by
  have h:=nQ (k:=1601) (l:=(xs.map Row.b).map intBits) fun n hn=>by
   obtain ⟨z,hz,rfl⟩:=aFL.mp hn;exact b9 z hz
  rw [aFF,aFF] at h;omega
 refine ⟨D,xs.map Row.b,rfl,bV.of (by rw [hD1,aGz]; rfl),bpos,fun n hn=>aFJ (b9 n hn) (by decide),b10,?_⟩;have hT1:=hT.same s1;refine ⟨_,rfl,_,rfl,_,rfl,a,xs,rfl,hT1,by omega,fun H2 s2=>⟨_,_,rfl,rfl,fP (m:=64) (n:=601) (PySem.intBits_neg_le (b1 p p0 p9)) (wsz _ (by omega) (aGp _)) (by decide),_,rfl,_,_,rfl,rfl,fP (m:=64+601) (n:=1601) (PySem.intBits_mul_le (PySem.intBits_neg_le (b1 p p0 p9)) (wsz _ (by omega) (aGp _))) glz (by decide),?_⟩⟩;have hT2:=hT1.same s2;have gw2:=wt1;rw [pW] at gw2;have P0:0<=p*Tb.W (cQ xs)*bO xs:=aGE (aGE p0 (by omega)) (aFS tab.cm.pos);have fin:∀ (i:Nat) (tops ws:Int) (v5 v6 v7:Option V),0<i->Tb.Lp (bO xs) (p*Tb.W (cQ xs)*bO xs) (cQ xs) i tops ws ->
   (i=(cQ xs).length∨∃ r,(cQ xs)[(cQ xs).length-1-i]? = some r/\i<(cQ xs).length/\Tb.T (bO xs) r*ws<=tops) ->
   K5 (wH xV [] E0 (lL (uE 3) (lL (J4 (rI HN fun i j=>.int (i*j)) (uE 4) (uE 2)) uK))) { nx:=fun _ H'=>Q .non H',rt:=Q } [some (.ref a),some (.int p),some (.int (bO xs)),some (.int tops),some (.int ws),v5,v6,v7] H2:=by
  intro i tops ws v5 v6 v7 hi L stop;have wp:=L.ws_pos tab hi;obtain ⟨w0,wl,tlo,thi⟩:=g.lp c.k0 p0 L;have wz:=wsz ws w0 wl;have ne:ws*bO xs≠0:=aF8 (aGD wp tab.cm.pos);refine ⟨_,rfl,_,rfl,_,rfl,_,_,rfl,rfl,fP wz glz (by decide),tops,ws*bO xs,rfl,ne,aFJ (PySem.intBits_mul_le wz glz) (by decide),fun r H' s' hr'=>?_⟩;have kp:0<=(p+kk)*wsum xs:=aGE (by have:=c.k0; omega) (by omega);exact q r H' (Fr.sh tops (ws*bO xs)) ws ((s1.trans s2).trans s') hr' (by omega) wl (Ms (by omega) lm.1 kp tlo thi) (L.ends tab hi stop (Fr.t8 ne) (Fr.tY tops (ws*bO xs)))
 refine ⟨_,rfl,a,refs xs,rfl,bV.of hT2.lst,?_⟩;refine Kc (fun i σ H'=>∃ tops ws v5 v6 v7,σ = [some (.ref a),some (.int p),some (.int (bO xs)),some (.int tops),some (.int ws),v5,v6,v7]/\H'=H2/\Tb.Lp (bO xs) (p*Tb.W (cQ xs)*bO xs) (cQ xs) i tops ws) ?start (fun i σ H' _ ⟨_,_,_,_,_,_,e,_⟩=>by subst e; exact bV.of hT2.lst) ?turn2 ?done2
 case start =>
  refine ⟨_,_,none,none,none,rfl,rfl,?_⟩;have e:-p*wsum xs*bO xs = -(p*Tb.W (cQ xs)*bO xs):=by rw [pW]; grind
  show Tb.Lp _ _ _ 0 (-p*wsum xs*bO xs) 0;rw [e];exact Tb.Lp.start P0
 case turn2 =>
  rintro i v σ H' hi hv ⟨tops,ws,v5,v6,v7,rfl,rfl,L⟩;obtain ⟨x,hx,rfl⟩:=mH hv;have hmem:=aF1 hx;have hr:=hT2.rows x hmem;have xp:=(g.fq x hmem).fr.pos;have xbz:=g.bits c hmem;rw [hlr] at hi hx;have hx':(cQ xs)[(cQ xs).length-1-i]? = some x.r:=by rw [hrl]; unfold cQ; rw [aFY,hx]; rfl
  have tT:x.t*(bO xs).fdiv x.b=Tb.T (bO xs) x.r:=by
   unfold Tb.T;rw [aGJ _ (aFS xp)]
   rfl
  have tz:intBits (x.t*(bO xs).fdiv x.b)<=3201+1601:=PySem.intBits_mul_le xbz.2 (PySem.intBits_fdiv_le glz);obtain ⟨w0,wl,tlo,thi⟩:=g.lp c.k0 p0 L;have wz:=wsz ws w0 wl;have xw:=wsz x.w (by have:=g.w1 x hmem; omega) (lJ g.w1 hmem);refine ⟨x.p,_,rfl,bW.of hr.1,rfl,_,_,rfl,_,_,rfl,rfl,?_⟩;refine ⟨_,rfl,x.q,_,_,_,rfl,rfl,bW.of hr.2,rfl,_,rfl,_,rfl,x.q,_,_,_,rfl,rfl,bW.of hr.2,rfl,_,_,rfl,rfl,⟨aF8 xp,by omega⟩,_,_,rfl,rfl,fP xbz.2 (PySem.intBits_fdiv_le glz) (by decide),?_⟩;refine ⟨_,rfl,_,_,rfl,rfl,_,rfl,?_⟩;have go:¬ (0<ws/\Tb.T (bO xs) x.r*ws<=tops)->∃ tops' ws' v5 v6 v7,[some (V.ref a),some (.int p),some (.int (bO xs)),some (.int (tops+x.w*(x.t*(bO xs).fdiv x.b))),some (.int (ws+x.w)),some (.ref x.q),some (.int x.w),some (.int (x.t*(bO xs).fdiv x.b))]=[some (.ref a),some (.int p),some (.int (bO xs)),some (.int tops'),some (.int ws'),v5,v6,v7]/\H'=H'/\Tb.Lp (bO xs) (p*Tb.W (cQ xs)*bO xs) (cQ xs) (i+1) tops' ws':=fun h=>by
   have L2:=L.next tab P0 (by rw [hrl]; exact hi) hx' h;rw [<- tT] at L2;exact ⟨_,_,_,_,_,rfl,rfl,L2⟩
  by_cases hw:0<ws
  ·refine pA (decide_eq_true hw) ?_;refine ⟨_,rfl,_,rfl,_,_,rfl,rfl,fP tz wz (by decide),_,rfl,_,_,rfl,rfl,_,rfl,?_⟩
   by_cases hb:x.t*(bO xs).fdiv x.b*ws<=tops
   ·refine pA (decide_eq_true hb) ?_;have ip:0<i:=by
     rcases aHs i with z | z
     ·subst z;have a0:=L.ew;simp [Tb.W] at a0;omega
     ·exact z
    exact fin i tops ws _ _ _ ip L (.inr ⟨x.r,hx',by rw [hrl]; exact hi,by rw [<- tT]; exact hb⟩)
   ·refine mK (decide_eq_false hb) ?_;refine ⟨_,rfl,_,rfl,_,rfl,_,_,rfl,rfl,fP xw tz (by decide),_,_,rfl,rfl,?_⟩;refine ⟨_,rfl,_,rfl,_,_,rfl,rfl,?_⟩;exact go fun z=>hb (by rw [tT]; exact z.2)
  ·refine mK (decide_eq_false hw) ?_;refine eX ?_;refine ⟨_,rfl,_,rfl,_,rfl,_,_,rfl,rfl,fP xw tz (by decide),_,_,rfl,rfl,?_⟩;refine ⟨_,rfl,_,rfl,_,_,rfl,rfl,?_⟩;exact go fun z=>hw z.1
 case done2 =>
  rintro σ H' ⟨tops,ws,v5,v6,v7,rfl,rfl,L⟩;rw [hlr] at L;exact fin xs.length tops ws v5 v6 v7 nz L (.inl hrl.symm)
theorem uN {n:Nat}{f:Addr}{fd:FuncData}(F:dJ K "ends" "Stand.ends" (inClass (top 28) 1) f fd){c:Cs}(ck:CK K c):aX P w K mg base dG (n+1) f fd ["self"] (JC c):=by
 refine F.ok mZ (fun vs H Q E h=>?_) (fun cdv A outer s H vs Q E hr h=>?_)
 ·obtain ⟨x,s,d,m,rfl,_⟩:=h
  rfl
 obtain ⟨x,s,d,m,rfl,st,q⟩:=h;have nd:=mZ.nd;refine ⟨_,(aJ (aN (fQ (pv 0) rfl))),?_⟩;cases st with
 | en h vv ok=>exact ⟨_,rfl,x,c.e,_,_,_,rfl,h,ck.ce,ck.e1,rfl,q _ vv.n1 vv.nm vv.nx⟩
 | st h vv g lp ly row sub p0 p9 ne l4 w hk=>exact ⟨_,rfl,x,c.s,_,_,_,rfl,h,ck.cs,ck.s1,rfl,q _ vv.n1 vv.nm vv.nx⟩
theorem qO {n:Nat}{f:Addr}{fd:FuncData}(F:dJ K "stages" "Stand.stages" (inClass (top 28) 2) f fd){c:Cs}(ck:CK K c):aX P w K mg base dG (n+1) f fd ["self"] (Hq c):=by
 refine F.ok kI (fun vs H Q E h=>?_) (fun cdv A outer s H vs Q E hr h=>?_)
 ·obtain ⟨x,s,d,m,rfl,_⟩:=h
  rfl
 obtain ⟨x,s,d,m,rfl,st,q⟩:=h;have nd:=kI.nd;refine ⟨_,(aJ (aN (fQ (pv 0) rfl))),?_⟩;cases st with
 | en h vv ok=>exact ⟨_,rfl,x,c.e,_,_,_,rfl,h,ck.ce,ck.e2,rfl,q _ vv.k0 vv.kd vv.kx⟩
 | st h vv g lp ly row sub p0 p9 ne l4 w hk=>exact ⟨_,rfl,x,c.s,_,_,_,rfl,h,ck.cs,ck.s2,rfl,q _ vv.k0 vv.kd vv.kx⟩
theorem uR {n:Nat}{f:Addr}{fd:FuncData}(F:dJ K "caps" "Stand.caps" (inClass (top 28) 4) f fd){c:Cs}(ck:CK K c)(t_:mg "list" = none):aX P w K mg base dG (n+1) f fd ["self"] (HR c):=by
 refine F.ok m7 (fun vs H Q E h=>?_) (fun cdv A outer s H vs Q E hr h=>?_)
 ·obtain ⟨x,s,d,m,rfl,_⟩:=h
  rfl
 obtain ⟨x,s,d,m,rfl,st,q⟩:=h;have nd:=m7.nd;refine ⟨_,(aJ (aN (bJ oW rfl t_ iU (aA (fQ (pv 0) rfl) aC)))),?_⟩;cases st with
 | @en _ _ l cp v n' k' _ _ xs h vv ok =>
  refine ⟨_,rfl,x,c.e,_,_,_,rfl,h,ck.ce,ck.e4,rfl,?_⟩;refine ⟨cp,_,rfl,.inr (bW.of vv.caps.1),fun r hr0=>?_⟩;have n1:=aG hr0 (.lst (refs xs));exact q r _ xs n1 hr0 ⟨aB,fun y hy=>(vv.caps.2 y hy).same n1⟩ vv.gs vv.so ⟨_,vv.mt,vv.lw⟩
 | @st _ _ l cp r0 p n' k' lv _ _ j xs rs ps ys h vv g lp ly row sub p0 p9 ne l4 w hk =>
  refine ⟨_,rfl,x,c.s,_,_,_,rfl,h,ck.cs,ck.s4,rfl,?_⟩;refine ⟨cp,_,rfl,.inr (bW.of vv.caps.1),fun r hr0=>?_⟩;have n1:=aG hr0 (.lst (refs xs));exact q r _ xs n1 hr0 ⟨aB,fun y hy=>(vv.caps.2 y hy).same n1⟩ vv.gs vv.so ⟨_,vv.mt,vv.lw⟩
theorem oK {n:Nat}{f:Addr}{fd:FuncData}(F:dJ K "__init__" "Stand.__init__" (inClass (top 28) 0) f fd){c:Cs}(ck:CK K c)(d_:mg "tuple" = none):aX P w K mg base dG (n+1) f fd ["self","end_count","stage_count","level","cap_rows"] (Ir c):=by
 refine F.ok iW (fun vs H Q E h=>?_) (fun cdv A outer s H vs Q E hr h=>?_)
 ·obtain ⟨x,dx,C,l,a,n1,k1,xs,rfl,_⟩:=h
  rfl
 obtain ⟨x,dx,C,l,a,n1,k1,xs,rfl,hC,hx,hT,q⟩:=h;have nd:=iW.nd;refine ⟨_,(aF (eV (pv 0) (pv 1) rfl) (aF (eV (pv 0) (pv 2) rfl) (aF (eV (pv 0) (pv 3) rfl) (aJ (eV (pv 0) (bJ (bQ (K:=K) rfl) rfl d_ dH (aA (pv 4) aC)) rfl))))),?_⟩;have cC:qX K C/\bT K C "end_count"/\bT K C "stage_count"/\bT K C "level"/\bT K C "cap_rows":=by
  rcases hC with e | e <;> subst e
  ·exact ⟨ck.ce,ck.e1,ck.e2,ck.e3,ck.e4⟩
  ·exact ⟨ck.cs,ck.s1,ck.s2,ck.s3,ck.s4⟩
 have nax:a≠x:=cH hT.lst hx fun z=>nomatch z
 refine ⟨_,rfl,_,rfl,x,C,dx,[],rfl,hx,cC.1,cC.2.1,(by show _<1000; decide),?_⟩;refine ⟨_,rfl,_,rfl,x,C,dx,_,rfl,aB,cC.1,cC.2.2.1,(by show 1<1000; decide),?_⟩;refine ⟨_,rfl,_,rfl,x,C,dx,_,rfl,aB,cC.1,cC.2.2.2.1,(by show 2<1000; decide),?_⟩;refine ⟨_,rfl,a,_,rfl,.inl ⟨bV.of (by rw [aK nax,aK nax,aK nax]; exact hT.lst),fun t ht=>?_⟩⟩;have htx:t≠x:=fun e=>by rw [e,aB] at ht; cases ht
 refine ⟨_,rfl,x,C,dx,_,rfl,by rw [aK (Ne.symm htx)]; exact aB,cC.1,cC.2.2.2.2,(by show 3<1000; decide),?_⟩;rw [aK htx,aK htx,aK htx] at ht;refine q t _ ht (fun b o nb e=>?_) aB ?_
 ·rw [aK nb,aK (aV e ht),aK nb,aK nb,aK nb];exact e
 ·rw [aK htx];exact aB
theorem Ax {n:Nat}{f:Addr}{fd:FuncData}(F:dJ K "is_whole" "is_whole" (top 6) f fd)(a_:mg "isinstance" = none)(aCC:mg "bool" = none)(aDi:mg "int" = none):aX P w K mg base dG (n+1) f fd ["thing","least","most"] tH:=by
 refine F.ok qK (fun vs H Q E h=>?_) (fun cdv A outer s H vs Q E hr h=>?_)
 ·obtain ⟨v,lo,hi,b,rfl,_⟩:=h
  rfl
 obtain ⟨v,lo,hi,b,rfl,h,q⟩:=h;have nd:=qK.nd;refine ⟨_,(aJ (aN (pM (bD (dN (T:="int")) rfl a_ bM (aA (pv 0) (aA (fX (v:=.ty "int") rfl aDi HS rfl) aC))) (pM (Iv (bD (dN (T:="bool")) rfl a_ bM (aA (pv 0) (aA (fX (v:=.ty "bool") rfl aCC Dt rfl) aC)))) (pJ (Gg uD uD (pv 1) (pv 0) (pv 2))))))),?_⟩;cases h with
 | no h =>
  obtain ⟨t,ht,hk⟩:=h K;refine ⟨_,rfl,_,_,_,rfl,ht,hk,_,rfl,?_⟩;exact eX q
 | bl c =>
  refine ⟨_,rfl,_,_,_,rfl,.bl c,wU,_,rfl,?_⟩;refine iR ?_;refine ⟨_,rfl,_,_,_,rfl,.bl c,gA _,_,rfl,?_⟩;refine ⟨_,rfl,?_⟩;exact eX q
 | int i =>
  refine ⟨_,rfl,_,_,_,rfl,.int i,gA _,_,rfl,?_⟩;refine iR ?_;refine ⟨_,rfl,_,_,_,rfl,.int i,xH,_,rfl,?_⟩;refine ⟨_,rfl,?_⟩;refine iR ?_;refine ⟨_,rfl,_,rfl,_,_,rfl,rfl,_,rfl,?_⟩
  by_cases h1:lo<=i
  ·refine pA (decide_eq_true h1) ?_;refine ⟨_,rfl,_,_,rfl,rfl,?_⟩;rw [decide_eq_true h1] at q;exact q
  ·refine mK (decide_eq_false h1) ?_;rw [decide_eq_false h1] at q;exact q
theorem Af {n:Nat}{f:Addr}{fd:FuncData}(F:dJ K "is_stand" "is_stand" (top 31) f fd){c:Cs}(ck:CK K c)(ct:CT K c)(cn:CN K c)(aDj:mg "End" = some (.ref c.e))(aCg:mg "Stage" = some (.ref c.s))(a_:mg "isinstance" = none):aX P w K mg base dG (n+1) f fd ["thing"] (Ly c K):=by
 refine F.ok qJ (fun vs H Q E h=>?_) (fun cdv A outer s H vs Q E hr h=>?_)
 ·obtain ⟨v,b,rfl,_⟩:=h
  rfl
 obtain ⟨v,b,rfl,h,q⟩:=h;have nd:=qJ.nd;refine ⟨_,(aJ (aN (Ry (bD (gP (K:=K) rfl) rfl a_ bM (aA (pv 0) (aA (cY (v:=.ref c.e) rfl aDj rfl) aC))) (pJ (bD (gP (K:=K) rfl) rfl a_ bM (aA (pv 0) (aA (cY (v:=.ref c.s) rfl aCg rfl) aC))))))),?_⟩;cases h with
 | yes st =>
  cases st with
  | en h vv ok =>
   refine ⟨_,rfl,_,c.e,.ref c.e,true,rfl,.ins h ck.ce ct.ea ct.hn ct.htk ct.em,ct.ee,?_⟩;refine ⟨_,rfl,?_⟩;refine iR ?_;exact q
  | st h vv g lp ly row sub p0 p9 ne l4 w hk =>
   refine ⟨_,rfl,_,c.e,.ref c.s,false,rfl,.ins h ck.cs ct.sa ct.hn ct.htk ct.sm,ct.se,?_⟩;refine ⟨_,rfl,?_⟩;refine eX ?_;exact ⟨_,rfl,_,c.s,.ref c.s,true,rfl,.ins h ck.cs ct.sa ct.hn ct.htk ct.sm,ct.ss,q⟩
 | no h ht =>
  have z:=cn.all _ ht;refine ⟨_,rfl,_,c.e,_,false,rfl,h,z.1,?_⟩;refine ⟨_,rfl,?_⟩;refine eX ?_;exact ⟨_,rfl,_,c.s,_,false,rfl,h,z.2,q⟩
theorem qY {n:Nat}{f:Addr}{fd:FuncData}(F:dJ K "is_stage_row" "is_stage_row" (top 32) f fd){c:Cs}{aDC:Addr}{aDt:FuncData}(aDD:dI P w K mg base n "is_stand" ["thing"] (Ly c K) aDC aDt){u_:Addr}{n_:FuncData}(v_:dI P w K mg base n "is_whole" ["thing","least","most"] tH u_ n_)(G_:mg "len" = none)(a_:mg "isinstance" = none)(d_:mg "tuple" = none){aCk:Value}(aBq:mg "MOST_WEIGHT" = some aCk)(aBH:RelV (.int 1000) aCk):aX P w K mg base dG (n+1) f fd ["row"] (Di c K):=by
 refine F.ok kY (fun vs H Q E h=>?_) (fun cdv A outer s H vs Q E hr h=>?_)
 ·obtain ⟨v,b,rfl,_⟩:=h
  rfl
 obtain ⟨v,b,rfl,h,q⟩:=h;have nd:=kY.nd;refine ⟨_,(aF (b8 (PW.pt (jM (d9 (dC (bD (dN (T:="tuple")) rfl a_ bM (aA (pv 0) (aA (fX (v:=.ty "tuple") rfl d_ dH rfl) aC))))) (gK (aZ Gj (bD eN rfl G_ m9 (aA (pv 0) aC)) aD (bK _))))) (aJ (aN kW)) bB) (aJ (aN (pM (aH v_ hr (aA (bI bF (pv 0) aD (fun _ _=>rfl)) (aA aD (aA (cY (v:=.int 1000) rfl aBq aBH) aC)))) (pJ (aH aDD hr (aA (bI bF (pv 0) aD (fun _ _=>rfl)) aC))))))),?_⟩;cases h with
 | no ht hk =>
  refine ⟨_,rfl,_,_,_,rfl,ht,hk,_,rfl,?_⟩;exact iR (iR q)
 | @len a xs e hl =>
  refine ⟨_,rfl,_,_,_,rfl,.tup e,gA _,_,rfl,?_⟩;refine eX ?_;refine ⟨_,rfl,a,_,rfl,.inr (bW.of e),rfl,_,rfl,?_⟩;refine pA ?_ q;rw [decide_eq_false (fun z=>hl (by injection z with z; omega))]
  rfl
 | @two a x y b1 b2 e hx hy =>
  refine ⟨_,rfl,_,_,_,rfl,.tup e,gA _,_,rfl,?_⟩;refine eX ?_;refine ⟨_,rfl,a,_,rfl,.inr (bW.of e),rfl,_,rfl,?_⟩;refine eX ?_;refine ⟨_,rfl,a,_,_,_,rfl,rfl,bW.of e,rfl,x,1,1000,b1,rfl,hx,_,rfl,?_⟩;cases b1 with
  | false=>exact eX q
  | true =>
   refine iR ?_;exact ⟨_,rfl,a,_,_,_,rfl,rfl,bW.of e,rfl,y,b2,rfl,hy,q⟩
theorem p7 {n:Nat}{f:Addr}{fd:FuncData}(F:dJ K "is_stage_rows" "is_stage_rows" (top 33) f fd){c:Cs}{aCW:Addr}{aCK:FuncData}(aCX:dI P w K mg base n "is_stage_row" ["row"] (Di c K) aCW aCK)(aDk:mg "all" = none)(G_:mg "len" = none)(a_:mg "isinstance" = none)(t_:mg "list" = none){Z_:Value}(H_:mg "MOST_STAGE_ROWS" = some Z_)(I_:RelV (.int 4) Z_):aX P w K mg base dG (n+1) f fd ["rows"] (yR c K):=by
 refine F.ok jL (fun vs H Q E h=>?_) (fun cdv A outer s H vs Q E hr h=>?_)
 ·obtain ⟨v,b,rfl,_⟩:=h
  rfl
 obtain ⟨v,b,rfl,h,q⟩:=h;have nd:=jL.nd;refine ⟨_,(aF (b8 (PW.pt (jM (d9 (dC (bD (dN (T:="list")) rfl a_ bM (aA (pv 0) (aA (fX (v:=.ty "list") rfl t_ iU rfl) aC))))) (gK (d9 (Av uD uD aD (bD eN rfl G_ m9 (aA (pv 0) aC)) (cY (v:=.int 4) rfl H_ I_)))))) (aJ (aN kW)) bB) (aJ (aN (bD (vZ rfl rfl) rfl aDk JB (aA (cA (ls:=["row"]) (M:=["rows"]) rfl (bL.of (by rfl)) (NL.of (by rfl)) (cX (pv 0)) (fun _ _ _ _=>⟨(aP (i:=0) (cB (by rfl)) rfl (Or.inl rfl)),bR,(aH aCX hr (aA (pv 0) aC))⟩)) aC))))),?_⟩;cases h with
 | no h =>
  obtain ⟨t,ht,hk⟩:=h K;refine ⟨_,rfl,_,_,_,rfl,ht,hk,_,rfl,?_⟩;exact iR (iR (q H (aR.refl _)))
 | @len a xs e hl =>
  refine ⟨_,rfl,_,_,_,rfl,.lst e,gA _,_,rfl,?_⟩;refine eX ?_;refine ⟨_,rfl,a,_,rfl,.inl (bV.of e),_,_,rfl,rfl,_,rfl,?_⟩
  by_cases h1:1<=xs.length
  ·refine pA (decide_eq_true (show (1:Int)<=_ by omega)) ?_;refine ⟨_,_,rfl,rfl,_,rfl,?_⟩;refine pA ?_ (q H (aR.refl _));rw [decide_eq_false (show ¬ (xs.length:Int)<=4 by omega)]
   rfl
  ·refine mK (decide_eq_false (show ¬ (1:Int)<=_ by omega)) ?_;refine ⟨_,rfl,?_⟩;exact iR (q H (aR.refl _))
 | @all a xs bs e h1 h8 hb h =>
  refine ⟨_,rfl,_,_,_,rfl,.lst e,gA _,_,rfl,?_⟩;refine eX ?_;refine ⟨_,rfl,a,_,rfl,.inl (bV.of e),_,_,rfl,rfl,_,rfl,?_⟩;refine pA (decide_eq_true (show (1:Int)<=_ by omega)) ?_;refine ⟨_,_,rfl,rfl,_,rfl,?_⟩;refine mK (by rw [decide_eq_true (show (xs.length:Int)<=4 by omega)]; rfl) ?_;refine ⟨_,rfl,a,rfl,⟨_,bV.of e⟩,fun D hD=>?_⟩;refine cI (xs:=xs) (fun i τ H'=>∃ v0,τ = [v0,some (.ref a)]/\aR H H'/\H' D=some (.lst ((bs.take i).map V.bl))) ⟨none,rfl,aG hD _,aB⟩ ?keep ?turn ?done
  case keep =>
   rintro i τ H' hi ⟨v0,rfl,hs,_⟩;exact bV.of (hs _ _ e)
  case turn =>
   rintro i m v τ H' hm hi hv ⟨v0,rfl,hs,hD'⟩;have hib:i<bs.length:=by omega
   have eb:bs[i]? = some (bs.getD i false):=by rw [aFK hib,getD_at hib]
   refine uT ?_;refine ⟨_,rfl,v,bs.getD i false,rfl,(h i v hv).kt (aR.kt hs),?_⟩;refine bA hm hi hD' (by rw [aFF,aGe]; exact aQ (by omega)) ⟨_,rfl,hs.upd_new hD _,?_⟩;rw [aB,take_snoc eb,aFN]
   rfl
  case done =>
   rintro τ H' ⟨v0,rfl,hs,hD'⟩;rw [<- hb,aF3] at hD';exact ⟨D,_,rfl,bV.of hD',q H' hs⟩
theorem qT {n:Nat}{f:Addr}{fd:FuncData}(F:dJ K "__init__" "End.__init__" (inClass (top 29) 0) f fd){c:Cs}(ck:CK K c){cSt fStI:Addr}{fdStI:FuncData}(aCh:mg "Stand" = some (.ref cSt))(aDR:Jl K cSt "__init__" fStI)(aD5:aX P w K mg base dG n fStI fdStI ["self","end_count","stage_count","level","cap_rows"] (Ir c))(aD6:Binds K fdStI ["self","end_count","stage_count","level","cap_rows"] []){A_:Addr}(aBS:mg "NoBox" = some (.ref A_))(aCT:Fd K A_){aEy:Addr}{aD7:FuncData}(aDM:dI P w K mg base n "whole" ["number"] Qg aEy aD7){u_:Addr}{n_:FuncData}(v_:dI P w K mg base n "is_whole" ["thing","least","most"] tH u_ n_){aCv:Value}(aBT:mg "MOST_WORTH" = some aCv)(aBU:RelV (.int 1000000000) aCv):aX P w K mg base (Km P w) (n+1) f fd ["self","worth"] (Lk c A_):=by
 refine F.okX j6 (fun vs H Q E h=>?_) (fun cdv A outer s H vs Q E hr h=>?_)
 ·rcases h with ⟨x,dx,v,rfl,_⟩ | ⟨x,v,rfl,_⟩ <;> rfl
 have nd:=j6.nd;refine ⟨_,(aF (b8 (PT.nox (d9 (dC (aH v_ hr (aA (pv 1) (aA aD (aA (cY (v:=.int 1000000000) rfl aBT aBU) aC))))))) (aJ (rW pP rfl rfl aBS aCT)) bB) (xD.nox (aF (mD (Cy rfl aCh aDR aD5 hr aD6 .nil fG (aA (pv 0) (aA aD (aA aD (aA (aH aDM hr (aA (pv 1) aC)) (aA (nH (aA (cU (aA (aH aDM hr (aA (pv 1) aC)) (aA aD aC))) aC)) aC))))))) (aJ (eV (pv 0) (pv 1) rfl))))),?_⟩;rcases h with ⟨x,dx,v,rfl,hx,h0,h9,q⟩ | ⟨x,v,rfl,h,q⟩
 rotate_left
 ·refine ⟨_,rfl,v,0,1000000000,false,rfl,h,?_⟩;refine ⟨_,rfl,?_⟩;exact iR q
 refine ⟨_,rfl,.int v,0,1000000000,true,rfl,yU.yes h0 h9,?_⟩;refine ⟨_,rfl,?_⟩;refine eX ?_;refine ⟨_,rfl,_,rfl,v,rfl,fun l H1 s1 hl=>?_⟩;refine ⟨_,rfl,v,rfl,fun p H2 s2 hp=>?_⟩;refine ⟨qP,fun t ht=>?_⟩;refine ⟨sz1,fun a ha=>?_⟩;have n3:=aG ht (.tup [.ref p,.int 1]);have n4:=aG ha (.lst [.ref t]);have s4:=((s1.trans s2).trans n3).trans n4;have hT:TabAt (bG (bG H2 t (.tup [.ref p,.int 1])) a (.lst [.ref t])) a [⟨t,p,v,1,1⟩]:=⟨aB,fun y hy=>by rw [aFR.mp hy]; exact ⟨n4 _ _ aB,(n3.trans n4) _ _ hp⟩⟩
 have hl4:=(s2.trans (n3.trans n4)) _ _ hl;generalize bG (bG H2 t (.tup [.ref p,.int 1])) a (.lst [.ref t])=H4 at n4 s4 hT hl4 ⊢;refine ⟨x,dx,c.e,l,a,1,0,_,rfl,.inl rfl,s4 _ _ hx,hT,fun cp H5 cn k5 hx5 hc5=>?_⟩;refine ⟨_,rfl,_,rfl,x,c.e,dx,_,rfl,hx5,ck.ce,ck.e5,(by show 4<1000; decide),?_⟩;have hx4:=s4 _ _ hx;have hu:∀ b o,b≠x->H4 b=some o->bG H5 x (.ins c.e dx (fE 1 0 l cp v)) b=some o:=fun b o nb e=>by rw [aK nb]; exact k5 b o nb e
 have tu:∀ b xs,H4 b=some (.tup xs)->bG H5 x (.ins c.e dx (fE 1 0 l cp v)) b=some (.tup xs):=fun b xs e=>hu b _ (cH e hx4 fun z=>nomatch z) e;refine q _ (fun b o nb e=>hu b o nb (s4 _ _ e)) fun d m hm=>?_;refine .en (dx:=dx) (l:=l) (cp:=cp) (n:=1) (k:=0) (xs:=[⟨t,p,v,1,1⟩]) aB ⟨tu _ _ hl4,⟨?_,fun y hy=>?_⟩,Ol h0 h9 hm,aHD _ _,by decide,by omega,by decide,by omega,Sd.Sv v d,O7 h0 h9,rfl,rfl⟩ (.en h0 h9 hm)
 ·have:cp≠x:=fun e=>by rw [e,hx5] at hc5; cases hc5
  rw [aK this];exact hc5
 ·have:=hT.rows y hy;exact ⟨tu _ _ this.1,tu _ _ this.2⟩
theorem DQ {H:Hp}{D:Addr}{e:Ent}{zs:List V}{o:HO}(hD:H D=some (.lst zs))(n:e.a≠D)(h:vU H e):vU (bG H D o) e:=by
 refine ⟨?_,?_,fun x hx=>⟨?_,?_⟩⟩
 ·rw [aK (cH h.1 hD fun z=>nomatch z)]; exact h.1
 ·rw [aK n]; exact h.2.lst
 ·rw [aK (cH (h.2.rows x hx).1 hD fun z=>nomatch z)]; exact (h.2.rows x hx).1
 ·rw [aK (cH (h.2.rows x hx).2 hD fun z=>nomatch z)]; exact (h.2.rows x hx).2
theorem My {ns:List Int}(h:∀ n∈ns,1<=n/\True):(ns.length:Int)<=ns.sum:=by
 induction ns with
 | nil=>simp
 | cons n ns ih =>
  have a:=(h n aFI).1;have b:=ih fun m hm=>h m (aFG _ hm);rw [aF0,aGf]
  push_cast
  omega
theorem n8.good {c:Cs}{K:PySem.W.Frag}{H:Hp}{a:Addr}{ps ys:List Addr}{rs:List (Int×Sd.Sd)}{d:Nat}{j:Int×Sd.Sd->Nat}(g:RM c H a ps ys rs d j):n8 c K H (.ref a) true:=by
 have hl:(ps.map V.ref).length=rs.length:=by rw [aFF]; exact g.R.lp
 have h:=n8.all (c:=c) (K:=K) (bs:=aGo rs.length true) g.ha (by rw [hl]; exact aG4.mpr g.ne) (by rw [hl]; exact g.l4) (by rw [aGK,hl]) fun i v hv=>by
  obtain ⟨q1,y,t,_,_,er,rfl,h1,st,mem⟩:=g.R.at_ hv;have hi:=(aFO.mp er).1;have e:(aGo rs.length true).getD i false=true:=by simp [List.getD,hi]
  rw [e];exact xG.two h1 (yU.yes (g.ww t mem).1 (g.ww t mem).2) (.yes st)
 have e:(aGo rs.length true).all id=true:=by simp
 rw [e] at h;exact h
theorem oU {n:Nat}{f:Addr}{fd:FuncData}(F:dJ K "__init__" "Stage.__init__" (inClass (top 30) 0) f fd){c:Cs}(ck:CK K c){cSt fStI:Addr}{fdStI:FuncData}(aCh:mg "Stand" = some (.ref cSt))(aDR:Jl K cSt "__init__" fStI)(aD5:aX P w K mg base dG n fStI fdStI ["self","end_count","stage_count","level","cap_rows"] (Ir c))(aD6:Binds K fdStI ["self","end_count","stage_count","level","cap_rows"] [])(cfE:qX K c.e)(cfS:qX K c.s){aDE:Addr}{aDN:FuncData}(aFj:jF K c.e "ends" aDE)(aFk:jF K c.s "ends" aDE)(aD8:aX P w K mg base dG n aDE aDN ["self"] (JC c))(aD9:Binds K aDN ["self"] []){aDF:Addr}{aDO:FuncData}(aFl:jF K c.e "stages" aDF)(aFm:jF K c.s "stages" aDF)(aEa:aX P w K mg base dG n aDF aDO ["self"] (Hq c))(aEb:Binds K aDO ["self"] []){aDG:Addr}{aDP:FuncData}(aFn:jF K c.e "caps" aDG)(aFo:jF K c.s "caps" aDG)(aEc:aX P w K mg base dG n aDG aDP ["self"] (HR c))(aEd:Binds K aDP ["self"] []){A_:Addr}(aBS:mg "NoBox" = some (.ref A_))(aCT:Fd K A_){aEe:Addr}{aDS:FuncData}(aEf:dI P w K mg base n "capped" ["table","level"] (Gi Pt fC) aEe aDS){aDu:Addr}{aDm:FuncData}(aDv:dI P w K mg base n "level_for" ["table","price"] LK aDu aDm){aEz:Addr}{aEg:FuncData}(aEA:dI P w K mg base n "mixed" ["rows"] (Hh Pt fC) aEz aEg){aCL:Addr}{aCD:FuncData}(aCM:dI P w K mg base n "is_stage_rows" ["rows"] (yR c K) aCL aCD){u_:Addr}{n_:FuncData}(v_:dI P w K mg base n "is_whole" ["thing","least","most"] tH u_ n_)(d_:mg "tuple" = none)(aCu:mg "max" = none)(aDh:mg "sum" = none){aCl:Value}(aBI:mg "MOST_STAGES" = some aCl)(aBJ:RelV (.int 4) aCl){aCI:Value}(aB6:mg "MOST_ENDS" = some aCI)(aB7:RelV (.int 12) aCI){aCw:Value}(aBV:mg "MOST_PRICE" = some aCw)(aBW:RelV (.int 1000000000) aCw):aX P w K mg base (Km P w) (n+1) f fd ["self","price","rows"] (Ky c K A_ Pt fC):=by
 refine F.okX jB (fun vs H Q E h=>?_) (fun cdv A outer s H vs Q E hr h=>?_)
 ·rcases h with ⟨x,dx,a,p,ps,ys,rs,d,j,rfl,_⟩ | ⟨x,v,w,rfl,_⟩ <;> rfl
 have nd:=jB.nd;refine ⟨_,(aF (b8 (PT.nox (PW.pt (jM (d9 (dC (aH v_ hr (aA (pv 1) (aA aD (aA (cY (v:=.int 1000000000) rfl aBV aBW) aC)))))) (gK (d9 (dC (aH aCM hr (aA (pv 2) aC)))))))) (aJ (rW pP rfl rfl aBS aCT)) bB) (aF (PS.nox (aY (i:=3) nd rfl (Or.inl rfl) (bD (zG rfl) rfl aDh J3 (aA (cA (ls:=["weight","stand"]) (M:=["self","price","rows","end_count","stage_count","behind","level"]) rfl (bL.of (by rfl)) (NL.of (by rfl)) (cX (pv 2)) (fun _ _ _ _=>⟨(fM (K:=K) (n:=2) rfl rfl (bH (aP (i:=0) (cB (by rfl)) rfl (Or.inl rfl)) (bH (aP (i:=1) (cB (by rfl)) rfl (Or.inl rfl)) dU))),bR,(lY (eE (pv 1) cfE aFj aD8 hr aD9 .nil fG) (eE (pv 1) cfS aFk aD8 hr aD9 .nil fG))⟩)) aC)))) (aF (PS.nox (aY (i:=4) nd rfl (Or.inl rfl) (aM cL aD (bD (vN rfl) rfl aCu Bv (aA (cA (ls:=["weight","stand"]) (M:=["self","price","rows","end_count","stage_count","behind","level"]) rfl (bL.of (by rfl)) (NL.of (by rfl)) (cX (pv 2)) (fun _ _ _ _=>⟨(fM (K:=K) (n:=2) rfl rfl (bH (aP (i:=0) (cB (by rfl)) rfl (Or.inl rfl)) (bH (aP (i:=1) (cB (by rfl)) rfl (Or.inl rfl)) dU))),bR,(lY (eE (pv 1) cfE aFl aEa hr aEb .nil fG) (eE (pv 1) cfS aFm aEa hr aEb .nil fG))⟩)) aC))))) (aF (b8 (PT.nox (PW.pt (jM (aZ uC (pv 3) (cY (v:=.int 12) rfl aB6 aB7) (bK _)) (gK (aZ uC (pv 4) (cY (v:=.int 4) rfl aBI aBJ) (bK _)))))) (aJ (rW pP rfl rfl aBS aCT)) bB) (xD.nox (aF (aY (i:=5) nd rfl (Or.inl rfl) (aH aEA hr (aA (cA (ls:=["weight","stand"]) (M:=["self","price","rows","end_count","stage_count","behind","level"]) rfl (bL.of (by rfl)) (NL.of (by rfl)) (cX (pv 2)) (fun _ _ _ _=>⟨(fM (K:=K) (n:=2) rfl rfl (bH (aP (i:=0) (cB (by rfl)) rfl (Or.inl rfl)) (bH (aP (i:=1) (cB (by rfl)) rfl (Or.inl rfl)) dU))),bR,(cU (aA (pv 0) (aA (lY (eE (pv 1) cfE aFn aEc hr aEd .nil fG) (eE (pv 1) cfS aFo aEc hr aEd .nil fG)) aC)))⟩)) aC))) (aF (aY (i:=6) nd rfl (Or.inl rfl) (aH aDv hr (aA (pv 5) (aA (pv 1) aC)))) (aF (mD (Cy rfl aCh aDR aD5 hr aD6 .nil fG (aA (pv 0) (aA (pv 3) (aA (pv 4) (aA (pv 6) (aA (aH aEf hr (aA (pv 5) (aA (pv 6) aC))) aC))))))) (aF (eV (pv 0) (pv 1) rfl) (aJ (eV (pv 0) (bJ (bQ (K:=K) rfl) rfl d_ dH (aA (pv 2) aC)) rfl))))))))))),?_⟩;rcases h with ⟨x,dx,a,p,ps,ys,rs,d,j,rfl,hx,g0,p0,p9,hq⟩ | ⟨x,v,u,rfl,h,q⟩
 rotate_left
 ·rcases h with h | ⟨h,h2⟩
  ·refine ⟨_,rfl,v,0,1000000000,false,rfl,h,?_⟩;refine ⟨_,rfl,?_⟩;exact iR (iR (q H (aR.refl _)))
  ·refine ⟨_,rfl,v,0,1000000000,true,rfl,h,?_⟩;refine ⟨_,rfl,?_⟩;refine eX ?_;refine ⟨_,rfl,u,false,rfl,h2,fun H1 s1=>?_⟩;refine ⟨_,rfl,?_⟩;exact iR (q H1 s1)
 have ha:=g0.ha;have R:=g0.R;have ne:=g0.ne;have l4:=g0.l4;have ww:=g0.ww;have hl:(ps.map V.ref).length=rs.length:=by rw [aFF]; exact R.lp
 have n1:1<=rs.length:=aG4.mpr ne;refine ⟨_,rfl,.int p,0,1000000000,true,rfl,yU.yes p0 p9,?_⟩;refine ⟨_,rfl,?_⟩;refine eX ?_;refine ⟨_,rfl,.ref a,true,rfl,n8.good g0,fun H1 s1=>?_⟩;refine ⟨_,rfl,?_⟩;refine eX ?_;have R1:=R.kp (aR.kp s1);have ha1:=s1 _ _ ha;refine ⟨_,rfl,a,rfl,⟨_,bV.of ha1⟩,fun D hD=>?_⟩;refine cI (xs:=ps.map V.ref) (fun i τ H'=>∃ v0 v1 cs,τ = [v0,v1,some (.ref x),some (.int p),some (.ref a),none,none,none,none]/\aR H1 H'/\H' D=some (.lst (Is cs))/\cs=(rs.take i).map (fun t=>Sd.nE (d+1) t.2)/\∀ n∈cs,1<=n/\True) ⟨none,none,[],rfl,aG hD _,aB,rfl,fun _ h=>nomatch h⟩ ?keepA ?turnA ?doneA
 case keepA =>
  rintro i τ H' hi ⟨v0,v1,cs,rfl,hs,_⟩;exact bV.of (hs _ _ ha1)
 case turnA =>
  rintro i mm v τ H' hm hi hv ⟨v0,v1,cs,rfl,hs,hD',nl,hn⟩;obtain ⟨q1,y,t,_,_,er,rfl,h1,st,mem⟩:=R1.at_ hv;refine ⟨q1,_,rfl,bW.of (hs _ _ h1),rfl,_,_,rfl,_,_,rfl,rfl,?_⟩;refine cW ?_;refine Hi (st.same hs) (fun _ _ _ _ _=>rfl) (fun _ _ _ _ _ _=>rfl) (fun R h=>⟨_,rfl,h⟩) ?_;refine ⟨y,t.2,d,_,rfl,st.same hs,fun n n1 n2 n3=>?_⟩;refine bA hm hi hD' (by rw [dZ,nl,aFF]; exact aQ (aFJ (aGG _ _) (by rw [hl] at hi; omega))) ⟨_,_,cs++[n],rfl,hs.upd_new hD _,by rw [aB,xC],by rw [nl,take_snoc er,aFN,n3]; rfl,fun z hz=>?_⟩;rcases aF4.mp hz with u | u
  ·exact hn z u
  ·rw [aFR.mp u];exact ⟨n1,trivial⟩
 case doneA =>
 rintro τ H2 ⟨v0,v1,ns,rfl,s2,hD2,nl,hn⟩;have nx0:=nl;rw [hl,aF3] at nx0;have nl:ns.length=rs.length:=by rw [nx0,aFF]
 have sn:=My hn;refine ⟨D,ns,rfl,bV.of hD2,?_⟩;have R2:=R1.kp (aR.kp s2);have ha2:=s2 _ _ ha1;refine ⟨_,rfl,a,rfl,⟨_,bV.of ha2⟩,fun D2 hD2=>?_⟩;refine cI (xs:=ps.map V.ref) (fun i τ H'=>∃ v0 v1 cs,τ = [v0,v1,some (.ref x),some (.int p),some (.ref a),some (.int ns.sum),none,none,none]/\aR H2 H'/\H' D2=some (.lst (Is cs))/\cs=(rs.take i).map (fun t=>Sd.nS (d+1) t.2)/\∀ n∈cs,0<=n/\n<=(d:Int)) ⟨none,none,[],rfl,aG hD2 _,aB,rfl,fun _ h=>nomatch h⟩ ?keepB ?turnB ?doneB
 case keepB =>
  rintro i τ H' hi ⟨v0,v1,cs,rfl,hs,_⟩;exact bV.of (hs _ _ ha2)
 case turnB =>
  rintro i mm v τ H' hm hi hv ⟨v0,v1,cs,rfl,hs,hD',nl,hn⟩;obtain ⟨q1,y,t,_,_,er,rfl,h1,st,mem⟩:=R2.at_ hv;refine ⟨q1,_,rfl,bW.of (hs _ _ h1),rfl,_,_,rfl,_,_,rfl,rfl,?_⟩;refine cW ?_;refine Hi (st.same hs) (fun _ _ _ _ _=>rfl) (fun _ _ _ _ _ _=>rfl) (fun R h=>⟨_,rfl,h⟩) ?_;refine ⟨y,t.2,d,_,rfl,st.same hs,fun n n1 n2 n3=>?_⟩;refine bA hm hi hD' (by rw [dZ,nl,aFF]; exact aQ (aFJ (aGG _ _) (by rw [hl] at hi; omega))) ⟨_,_,cs++[n],rfl,hs.upd_new hD2 _,by rw [aB,xC],by rw [nl,take_snoc er,aFN,n3]; rfl,fun z hz=>?_⟩;rcases aF4.mp hz with u | u
  ·exact hn z u
  ·rw [aFR.mp u];exact ⟨n1,n2⟩
 case doneB =>
 rintro τ H3 ⟨v0,v1,ms,rfl,s3,hD3,ml,hms⟩;have kx0:=ml;rw [hl,aF3] at kx0;have ml:ms.length=rs.length:=by rw [kx0,aFF]
 refine ⟨D2,ms,rfl,bV.of hD3,fun e=>by rw [e] at ml; have:(0:Nat)=rs.length:=ml; omega,fun mx hmx hmax=>?_⟩;have kx1:1+mx=Sd.nS (d+1+1) (.st p rs):=by rw [Sd.NT (fun x hx=>(hms x hx).1) hmx hmax,kx0]; rfl
 have nx1:ns.sum=Sd.nE (d+1+1) (.st p rs):=by rw [nx0]; rfl
 have mb:=hms mx hmx;refine ⟨_,_,rfl,rfl,?_⟩;refine ⟨_,rfl,_,_,rfl,rfl,_,rfl,?_⟩;rcases hq with ⟨big,qE⟩ | ⟨m,hm,m12,d4,hTb,q⟩
 ·have Bc:=(s1.trans s2).trans s3
  by_cases h12:(12:Int)<ns.sum
  ·refine pA (decide_eq_true h12) ?_;refine iR ?_;exact qE _ Bc
  ·refine mK (decide_eq_false h12) ?_;refine ⟨_,rfl,_,_,rfl,rfl,_,rfl,?_⟩;refine pA (decide_eq_true (show (4:Int)<1+mx by omega)) ?_;exact qE _ Bc
 have okS:Sd.Ok (.st p rs) (d+1) m:=.st p0 p9 ne l4 ww (fun r hr=>by obtain ⟨i,y,a,b⟩:=JN R.ly hr; exact (R.sub i y r a b).ok) hm;have jl:ns.sum<=(m:Int):=by have:=okS.nE (d+1+1) (aHj _); rw [nx0]; exact this
 refine mK (decide_eq_false (by omega)) ?_;refine ⟨_,rfl,_,_,rfl,rfl,_,rfl,?_⟩;refine mK (decide_eq_false (by omega)) ?_;have Bc:=(s1.trans s2).trans s3;have R3:=R2.kp (aR.kp s3);have ha3:=s3 _ _ ha2;refine ⟨_,rfl,a,rfl,⟨_,bV.of ha3⟩,fun D3 hD3n=>?_⟩;refine cI (xs:=ps.map V.ref) (fun i τ H'=>∃ v0 v1 es,τ = [v0,v1,some (.ref x),some (.int p),some (.ref a),some (.int ns.sum),some (.int (1+mx)),none,none]/\aR H3 H'/\tQ H' D3 es/\Sd.Al d es (rs.take i)/\Ae d j es (rs.take i)/\es.length=i/\∀ e∈es,e.a≠D3/\(1<=e.w/\e.w<=1000)) ⟨none,none,[],rfl,aG hD3n _,⟨aB,fun _ h=>nomatch h⟩,.nil,.nil,rfl,fun _ h=>nomatch h⟩ ?keepC ?turnC ?doneC
 case keepC =>
  rintro i τ H' hi ⟨v0,v1,es,rfl,hs,_⟩;exact bV.of (hs _ _ ha3)
 case turnC =>
  rintro i mm v τ H' hm' hi hv ⟨v0,v1,es,rfl,hs,hE,al,ae,el,he⟩;obtain ⟨q1,y,t,_,_,er,rfl,h1,st,mem⟩:=R3.at_ hv;refine ⟨q1,_,rfl,bW.of (hs _ _ h1),rfl,_,_,rfl,_,_,rfl,rfl,?_⟩;refine cW ?_;refine ⟨_,rfl,?_⟩;refine Hi (st.same hs) (fun _ _ _ _ _=>rfl) (fun _ _ _ _ _ _=>rfl) (fun R h=>⟨_,rfl,h⟩) ?_;refine ⟨y,t.2,d,_,rfl,st.same hs,fun r H4 xs s4 hr4 hT4 gs so ⟨lv4,mt4,_⟩=>?_⟩;refine ⟨qP,fun T hT=>?_⟩;have n5:=aG hT (.tup [.int t.1,.ref r]);have hE5:=(hE.same s4).same n5;have nr:r≠D3:=fun e=>by rw [e,hE.lst] at hr4; cases hr4
  refine bA hm' hi hE5.lst (by rw [oJ]; exact aQ (by rw [hl] at hi; omega)) ⟨_,_,es++[⟨T,t.1,r,xs⟩],rfl,((hs.trans s4).trans n5).upd_new hD3n _,⟨by rw [aB,Cq],fun e h=>?_⟩,by rw [take_snoc er]; exact al.snoc rfl ⟨lv4,mt4⟩,by rw [take_snoc er]; exact ae.snoc gs,by rw [aFZ,el]; rfl,fun e h=>?_⟩
  ·rcases aF4.mp h with u | u
   ·exact DQ hE5.lst (he e u).1 (hE5.ents e u)
   ·rw [aFR.mp u];exact DQ hE5.lst nr ⟨aB,hT4.same n5⟩
  ·rcases aF4.mp h with u | u
   ·exact he e u
   ·rw [aFR.mp u];exact ⟨nr,ww t mem⟩
 case doneC =>
 rintro τ H4 ⟨v0,v1,es,rfl,s4,hE,al,ae,el,he⟩;rw [hl,aF3] at al ae;rw [hl] at el;have ene:es≠[]:=fun e=>by rw [e] at el; have:(0:Nat)=rs.length:=el; omega
 have gall:=ae.all fun t ht=>aFJ (Sd.OD hm t ht) m12;have gm0:=W3 (show d<=4 by omega) ene (by omega) (fun e h=>(he e h).2) gall;have m1:1<=m:=okS.m1;have tb4:dF Pt fC gU H4:=hTb.same (Bc.trans s4);refine ⟨D3,es,12,wB d 12,kK d,rfl,hE,gm0,tb4,fun B H5 xs s5 tb5 _ hB5 g5 o5 l5=>?_⟩;have Mx1:=TY ae.b hm m1 (aFJ l5 (ae.b.p _)) g5;refine ⟨_,rfl,_,rfl,B,xs,p,m,_,kK d,rfl,hB5,Mx1.g,Mx1.cp d4 m12,o5.tab.lt,p0,p9,fun lv H6 l u s6 hl6 u1 u2 f hLv=>?_⟩;have Lx1:=QZ Mx1 d4 m12 p0 p9 u1 u2 f;have tb6:=tb5.same s6;refine ⟨_,rfl,_,rfl,_,rfl,_,rfl,_,rfl,_,rfl,B,lv,xs,l,m,_,_,_,rfl,hB5.same s6,Lx1.g,Lx1.c,hl6,Lx1.f,tb6,fun cr H7 zs s7 tb7 _ hZ g7 o7=>?_⟩;have sT:cD Pt H H7:=((((Bc.trans s4).toT).trans s5).trans s6.toT).trans s7;have hx7:H7 x=some (.ins c.s dx []):=sT.get hTb hx fun _ z=>nomatch z
 have ha7:H7 a=some (.lst (ps.map V.ref)):=sT.get hTb ha fun _ z=>nomatch z
 have hl7:H7 lv=some (.tup [.int l.1,.int l.2]):=s7.get tb6 hl6 fun _ z=>nomatch z
 have nax:a≠x:=cH ha7 hx7 fun z=>nomatch z
 refine ⟨x,dx,c.s,lv,cr,ns.sum,1+mx,zs,rfl,.inr rfl,hx7,hZ,fun cp H8 cn k8 hx8 hc8=>?_⟩;have ncx:cp≠x:=fun e=>by rw [e,hx8] at hc8; cases hc8
 refine ⟨_,rfl,_,rfl,x,c.s,dx,_,rfl,hx8,ck.cs,ck.s5,(by show 4<1000; decide),?_⟩;refine ⟨_,rfl,a,_,rfl,.inl ⟨bV.of (by rw [aK nax]; exact k8 _ _ nax ha7),fun r hr0=>?_⟩⟩;have nrx:r≠x:=fun e=>by rw [e,aB] at hr0; cases hr0
 refine ⟨_,rfl,x,c.s,dx,_,rfl,by rw [aK (Ne.symm nrx)]; exact aB,ck.cs,ck.s6,(by show 5<1000; decide),?_⟩;rw [aK nrx] at hr0;have kx:∀ b o,b≠x->H8 b=some o->bG (bG (bG H8 x (.ins c.s dx (fU "price" (.int p) (fB ns.sum (1+mx) lv cp)))) r (.tup (ps.map V.ref))) x (.ins c.s dx (fS ns.sum (1+mx) lv cp p r)) b=some o:=fun b o nb e=>by
  rw [aK nb,aK (aV e hr0),aK nb];exact e
 have hr9:bG (bG (bG H8 x (.ins c.s dx (fU "price" (.int p) (fB ns.sum (1+mx) lv cp)))) r (.tup (ps.map V.ref))) x (.ins c.s dx (fS ns.sum (1+mx) lv cp p r)) r=some (.tup (ps.map V.ref)):=by rw [aK nrx]; exact aB
 have hx9:bG (bG (bG H8 x (.ins c.s dx (fU "price" (.int p) (fB ns.sum (1+mx) lv cp)))) r (.tup (ps.map V.ref))) x (.ins c.s dx (fS ns.sum (1+mx) lv cp p r)) x=some (.ins c.s dx (fS ns.sum (1+mx) lv cp p r)):=aB;show Q .non (bG (bG (bG H8 x (.ins c.s dx (fU "price" (.int p) (fB ns.sum (1+mx) lv cp)))) r (.tup (ps.map V.ref))) x (.ins c.s dx (fS ns.sum (1+mx) lv cp p r)));generalize bG (bG (bG H8 x (.ins c.s dx (fU "price" (.int p) (fB ns.sum (1+mx) lv cp)))) r (.tup (ps.map V.ref))) x (.ins c.s dx (fS ns.sum (1+mx) lv cp p r))=HF at kx hr9 hx9 ⊢;have sX:zV x H7 HF:=fun b o nb e=>kx b o nb (k8 b o nb e);have kF:Kp H7 HF:=sX.kp hx7;have RF:=R.kp ((cD.kp sT hTb).trans kF);refine q HF (fun b o nb nP e=>sX b o nb (sT b o nP e)) (dF.sameX tb7 sX hx7) ?_;exact .st hx9 ⟨kF.tup hl7,⟨kx _ _ ncx hc8,fun y hy=>(hZ.rows y hy).kp kF⟩,WK Lx1 g7,o7.tab.lt,by omega,by omega,by omega,by omega,Rh al gm0 (by have:=(Sd.Nz ne ww l4).1; omega) o5 Mx1.g Lx1.f.fr.pos hLv o7,U0 Lx1 d4 m12,nx1,kx1⟩ hr9 RF.lp RF.ly RF.row RF.sub p0 p9 ne l4 ww hm
theorem vA {n:Nat}{f:Addr}{fd:FuncData}(F:dJ K "is_end" "End.is_end" (inClass (top 29) 1) f fd){c:Cs}:aX P w K mg base dG (n+1) f fd ["self"] (vM c true):=by
 refine F.ok m8 (fun vs H Q E h=>?_) (fun cdv A outer s H vs Q E hr h=>?_)
 ·obtain ⟨x,rfl,_⟩:=h
  rfl
 obtain ⟨x,rfl,q⟩:=h;have nd:=m8.nd;refine ⟨_,(aJ (aN kW)),?_⟩;exact q
theorem rC {n:Nat}{f:Addr}{fd:FuncData}(F:dJ K "is_end" "Stage.is_end" (inClass (top 30) 1) f fd){c:Cs}:aX P w K mg base dG (n+1) f fd ["self"] (vM c false):=by
 refine F.ok j8 (fun vs H Q E h=>?_) (fun cdv A outer s H vs Q E hr h=>?_)
 ·obtain ⟨x,rfl,_⟩:=h
  rfl
 obtain ⟨x,rfl,q⟩:=h;have nd:=j8.nd;refine ⟨_,(aJ (aN kW)),?_⟩;exact q
section
variable {c:Cs}{H H':Hp}
theorem Jw (kt:∀ b xs,H b=some (.tup xs)->H' b=some (.tup xs))(ki:∀ b C dx f fs,H b=some (.ins C dx (f::fs))->H' b=some (.ins C dx (f::fs))){ps ys:List Addr}{rs:List (Int×Sd.Sd)}{d:Nat}{j:Int×Sd.Sd->Nat}(h:sW c H ps ys rs d j):sW c H' ps ys rs d j :=
 ⟨h.lp,h.ly,fun i q y t a b e=>kt _ _ (h.row i q y t a b e),fun i y t a b=>rH kt ki (h.sub i y t a b)⟩
theorem oH {α:Type}{l:List α}{x y:α}{i:Nat}(h:(l++[x])[i]? = some y):(i<l.length/\l[i]? = some y)∨(i=l.length/\y=x):=by
 by_cases hi:i<l.length
 ·exact .inl ⟨hi,by rwa [aGd hi] at h⟩
 ·have h2:=(aFO.mp h).1;rw [aFZ,aGq] at h2;have e:i=l.length:=by omega
  subst e;rw [aF9 (aFM _),Nat.sub_self] at h;cases h;exact .inr ⟨rfl,rfl⟩
theorem K9 {ps ys:List Addr}{rs:List (Int×Sd.Sd)}{d:Nat}{j:Int×Sd.Sd->Nat}(h:sW c H ps ys rs d j){q y:Addr}{t:Int×Sd.Sd}(hq:H q=some (.tup [.int t.1,.ref y]))(hy:eO c H y t.2 d (j t)):sW c H (ps++[q]) (ys++[y]) (rs++[t]) d j:=by
 have l1:=h.lp;have l2:=h.ly;refine ⟨by simp [l1],by simp [l2],fun i q' y' t' a b c=>?_,fun i y' t' b c=>?_⟩
 ·rcases oH a with ⟨i1,a⟩ | ⟨i1,rfl⟩ <;> rcases oH b with ⟨i2,b⟩ | ⟨i2,rfl⟩ <;> rcases oH c with ⟨i3,c⟩ | ⟨i3,rfl⟩
  ·exact h.row i _ _ _ a b c
  all_goals first | exact hq | (exfalso; omega)
 ·rcases oH b with ⟨i2,b⟩ | ⟨i2,rfl⟩ <;> rcases oH c with ⟨i3,c⟩ | ⟨i3,rfl⟩
  ·exact h.sub i _ _ b c
  all_goals first | exact hy | (exfalso; omega)
theorem Qs {ps ys:List Addr}{rs:List (Int×Sd.Sd)}(lp:ps.length=rs.length)(ly:ys.length=rs.length)(row:∀ (i:Nat) q y t,ps[i]? = some q->ys[i]? = some y->rs[i]? = some t->H q=some (.tup [.int t.1,.ref y]))(sub:∀ (i:Nat) y t,ys[i]? = some y->rs[i]? = some t->jK H y t.2)
  {i:Nat}{v:V} (hv:(ps.map V.ref)[i]? = some v):∃ q y t,rs[i]? = some t/\v=.ref q/\H q=some (.tup [.int t.1,.ref y])/\jK H y t.2/\t∈rs:=by
 rw [aFY] at hv;cases e:ps[i]? with
 | none=>rw [e] at hv; cases hv
 | some q =>
  rw [e] at hv;cases hv;have hi:=(aFO.mp e).1;have ey:ys[i]? = some (ys[i]'(by omega)):=aFK _;have er:rs[i]? = some (rs[i]'(by omega)):=aFK _;exact ⟨q,_,_,er,rfl,row i q _ _ e ey er,sub i _ _ ey er,aF1 er⟩
end
structure u6 (H:Hp)(ps ys:List Addr)(rs:List (Int×Sd.Sd)):Prop where
 lp:ps.length=rs.length
 ly:ys.length=rs.length
 row:∀ (i:Nat) q y t,ps[i]? = some q->ys[i]? = some y->rs[i]? = some t->H q=some (.tup [.int t.1,.ref y])
 sub:∀ (i:Nat) y t,ys[i]? = some y->rs[i]? = some t->jK H y t.2
theorem u6.keep {H H':Hp}{ps ys:List Addr}{rs:List (Int×Sd.Sd)}(h:u6 H ps ys rs)(k:∀ b xs,H b=some (.tup xs)->H' b=some (.tup xs)):u6 H' ps ys rs :=
 ⟨h.lp,h.ly,fun i q y t a b c=>k _ _ (h.row i q y t a b c),fun i y t a b=>(h.sub i y t a b).keep k⟩
theorem u6.same {H H':Hp}{ps ys:List Addr}{rs:List (Int×Sd.Sd)}(s:aR H H')(h:u6 H ps ys rs):u6 H' ps ys rs:=h.keep fun b xs e=>s _ _ e
theorem lN {α:Type}{l:List α}{x y:α}{i:Nat}(h:(l++[x])[i]? = some y):(i<l.length/\l[i]? = some y)∨(i=l.length/\y=x):=by
 by_cases hi:i<l.length
 ·exact .inl ⟨hi,by rwa [aGd hi] at h⟩
 ·have h2:=(aFO.mp h).1;rw [aFZ,aGq] at h2;have e:i=l.length:=by omega
  subst e;rw [aF9 (aFM _),Nat.sub_self] at h;cases h;exact .inr ⟨rfl,rfl⟩
theorem u6.snoc {H:Hp}{ps ys:List Addr}{rs:List (Int×Sd.Sd)}(h:u6 H ps ys rs){q y:Addr}{t:Int×Sd.Sd}(hq:H q=some (.tup [.int t.1,.ref y]))(hy:jK H y t.2):u6 H (ps++[q]) (ys++[y]) (rs++[t]):=by
 have l1:=h.lp;have l2:=h.ly;refine ⟨by simp [l1],by simp [l2],fun i q' y' t' a b c=>?_,fun i y' t' b c=>?_⟩
 ·rcases lN a with ⟨i1,a⟩ | ⟨i1,rfl⟩ <;> rcases lN b with ⟨i2,b⟩ | ⟨i2,rfl⟩ <;> rcases lN c with ⟨i3,c⟩ | ⟨i3,rfl⟩
  ·exact h.row i _ _ _ a b c
  all_goals first | exact hq | (exfalso; omega)
 ·rcases lN b with ⟨i2,b⟩ | ⟨i2,rfl⟩ <;> rcases lN c with ⟨i3,c⟩ | ⟨i3,rfl⟩
  ·exact h.sub i _ _ b c
  all_goals first | exact hy | (exfalso; omega)
theorem oG (x:Int){m:Int}(h:0<m):0<=x%m/\x%m<m:=⟨aGh x (aF8 h),aGc x h⟩
theorem Og {n:Nat}(h:0<n):seqIndex? 0 n=some 0:=by
 have e:J7 n 0=some 0:=by
  unfold J7;rw [if_pos (by decide),if_pos (by omega)]
  rfl
 exact (xF e).1
theorem Hc {c A S:Prop}[Decidable c](h:S)(k:S->A):if c then A else S:=lG (fun _=>k h) (fun _=>h)
theorem at2 {α:Type}(x y:α)(c:Int):∃ v,FT [x,y] (c%2)=some v/\(v=x∨v=y):=by
 have h:=oG c (show (0:Int)<2 by decide);rcases (by omega:c%2=0∨c%2=1) with z | z
 ·exact ⟨x,by rw [z]; rfl,.inl rfl⟩
 ·exact ⟨y,by rw [z]; rfl,.inr rfl⟩
theorem uY {n:Nat}{f:Addr}{fd:FuncData}(F:dJ K "_law_stand" "_law_stand" (top 65) f fd){n0:Nat}{c:Cs}{A_ iE iS:Addr}{dE dS:FuncData}{kE kS:Nat}(aE8:Mk K c.e iE)(aE9:aX P w K mg base (Km P w) kE iE dE ["self","worth"] (Lk c A_))(aFa:Binds K dE ["self","worth"] [])(aDj:mg "End" = some (.ref c.e))(aEX:kE+1<=n)(aEB:Mk K c.s iS)(aEC:aX P w K mg base (Km P w) kS iS dS ["self","price","rows"] (Ky c K A_ Pt fC))(aED:Binds K dS ["self","price","rows"] [])(aCg:mg "Stage" = some (.ref c.s))(aEh:kS+1<=n){aBX:Addr}{aBK:FuncData}(aBY:dI P w K mg base n "_law_stand" ["_law_told"] (Jj c Pt fC n0) aBX aBK):aX P w K mg base dG (n+1) f fd ["_law_told"] (Jj c Pt fC (n0+1)):=by
 refine F.ok mV (fun vs H Q E h=>?_) (fun cdv A outer s H vs Q E hr h=>?_)
 ·obtain ⟨a,s,d,m,rfl,_⟩:=h
  rfl
 obtain ⟨a,s,d,m,rfl,to,ok,dn,d4,m12,hTb,q⟩:=h;have nd:=mV.nd;refine ⟨_,(aF (b8 (aZ dM (bI bF (pv 0) aD (fun _ _=>rfl)) aU (bK _)) (aJ (aN (jR aE8 aE9 (hr.mono aEX) rfl aDj aFa .nil Lr (aA (bI bF (pv 0) aD (fun _ _=>rfl)) aC)))) bB) (aJ (aN (jR aEB aEC (hr.mono aEh) rfl aCg aED .nil Lr (aA (bI bF (pv 0) aD (fun _ _=>rfl)) (aA (cA (ls:=["_law_weight","_law_part"]) (M:=["_law_told"]) rfl (bL.of (by rfl)) (NL.of (by rfl)) (jV (bI bF (pv 0) aD (fun _ _=>rfl))) (fun _ _ _ _=>⟨(fM (K:=K) (n:=2) rfl rfl (bH (aP (i:=0) (cB (by rfl)) rfl (Or.inl rfl)) (bH (aP (i:=1) (cB (by rfl)) rfl (Or.inl rfl)) dU))),bR,(cU (aA (pv 0) (aA (aH aBY hr (aA (pv 1) aC)) aC)))⟩)) aC)))))),?_⟩;cases to with
 | @en _ v h =>
  cases ok with
  | en h0 h9 hm =>
  refine ⟨_,rfl,a,_,_,_,rfl,rfl,bW.of h,rfl,rfl,_,rfl,?_⟩;refine iR ?_;refine ⟨_,rfl,a,_,_,_,rfl,rfl,bW.of h,rfl,?_⟩;intro x dx hx hdx ndx;have nO:aR H (bG (bG H dx (.own x)) x (.ins c.e dx [])):=(aG hdx (.own x)).trans (aG (by rw [aK (Ne.symm ndx)]; exact hx) _);refine .inl ⟨x,dx,v,rfl,aB,h0,h9,fun H' k5 st=>⟨rfl,?_⟩⟩;have sX:zV x (bG (bG H dx (.own x)) x (.ins c.e dx [])) H':=k5;exact q x H' (fun b o _ e=>k5 b o (aV e hx) (nO _ _ e)) (dF.sameX (hTb.same nO) sX aB) (st d m hm)
 | @st _ r p rs ps ys h g lp ly row sub =>
  cases ok with
  | @st _ _ d _ j h0 h9 ne l4 ww oks hk =>
  have hlr:(ps.map V.ref).length=rs.length:=by rw [aFF]; exact lp
  refine ⟨_,rfl,a,_,_,_,rfl,rfl,bW.of h,rfl,rfl,_,rfl,?_⟩;refine eX ?_;refine ⟨_,rfl,a,_,_,_,rfl,rfl,bW.of h,rfl,?_⟩;refine ⟨_,rfl,a,_,_,_,rfl,rfl,bW.of h,rfl,r,rfl,⟨_,bW.of g⟩,fun D hD=>?_⟩;refine gD (xs:=ps.map V.ref) (fun i τ H'=>∃ v0 v1 qs zs,τ = [v0,v1,some (.ref a)]/\cD Pt H H'/\dF Pt fC gU H'/\H' D=some (.lst (qs.map V.ref))/\sW c H' qs zs (rs.take i) d j) ⟨none,none,[],[],rfl,(aG hD _).toT,hTb.same (aG hD _),aB,⟨rfl,rfl,(fun i q y t a=>by simp at a),(fun i y t a=>by simp at a)⟩⟩ ?keep ?turn ?done
  case keep =>
   rintro u τ H' hi ⟨v0,v1,qs,zs,rfl,hs,_⟩;exact bW.of (hs.get hTb g fun _ z=>nomatch z)
  case turn =>
   rintro u mm v τ H' hm hi hv ⟨v0,v1,qs,zs,rfl,hs,tb,hD',R⟩;obtain ⟨q1,y,t,er,rfl,h1,to,mem⟩:=Qs lp ly row sub hv;have kt:∀ b xs,H b=some (.tup xs)->H' b=some (.tup xs):=fun b xs e=>hs.get hTb e fun _ z=>nomatch z
   refine ⟨q1,_,rfl,bW.of (kt _ _ h1),rfl,_,_,rfl,_,_,rfl,rfl,?_⟩;refine cW ?_;refine ⟨_,rfl,_,rfl,y,t.2,d,j t,rfl,to.keep kt,oks t mem,by omega,by omega,aFJ (Sd.OD hk t mem) m12,tb,fun x H2 s2 tb2 st2=>?_⟩;refine ⟨qP,fun T hT=>?_⟩;have n3:=aG hT (.tup [.int t.1,.ref x]);have hD2:H2 D=some (.lst (qs.map V.ref)):=s2.get tb hD' fun _ z=>nomatch z
   have hD3:=n3 _ _ hD2;have R3:=(R.kp (cD.kp s2 tb)).kp (aR.kp n3);have nD:∀ (o:HO),aR (bG H2 T (.tup [.int t.1,.ref x])) (bG H2 T (.tup [.int t.1,.ref x])):=fun _=>aR.refl _;have kt4:∀ (o:HO) b xs,bG H2 T (.tup [.int t.1,.ref x]) b=some (.tup xs)->bG (bG H2 T (.tup [.int t.1,.ref x])) D o b=some (.tup xs):=fun o b xs e=>by rw [aK (cH e hD3 fun z=>nomatch z)]; exact e
   have ki4:∀ (o:HO) b C dx f fs,bG H2 T (.tup [.int t.1,.ref x]) b=some (.ins C dx (f::fs))->bG (bG H2 T (.tup [.int t.1,.ref x])) D o b=some (.ins C dx (f::fs)):=fun o b C dx f fs e=>by rw [aK (cH e hD3 fun z=>nomatch z)]; exact e
   have ql:qs.length<=4:=by rw [R.lp,aGe]; omega
   refine bA hm hi hD3 (by rw [aFF]; exact aQ (by omega)) ⟨_,_,qs++[T],zs++[x],rfl,((hs.trans s2).trans n3.toT).upd_new hD _,?_,by rw [aB,aFN]; rfl,?_⟩
   ·have:=tb2.same n3;rcases this with w | ⟨c',w1,w2⟩
    ·exact .inl (by rw [aK (cH w hD3 fun z=>nomatch z)]; exact w)
    ·exact .inr ⟨c',by rw [aK (cH w1 hD3 fun z=>nomatch z)]; exact w1,by rw [aK (cH w2 hD3 fun z=>by unfold qL at z; exact nomatch z)]; exact w2⟩
   ·rw [take_snoc er];exact K9 (Jw (kt4 _) (ki4 _) R3) (kt4 _ _ _ aB) (rH (kt4 _) (ki4 _) (st2.kp (aR.kp n3)))
  case done =>
   rintro τ H1 ⟨v0,v1,qs,zs,rfl,hs,tb,hD',R⟩;rw [hlr,aF3] at R;intro x dx hx hdx ndx;have nO:aR H1 (bG (bG H1 dx (.own x)) x (.ins c.s dx [])):=(aG hdx (.own x)).trans (aG (by rw [aK (Ne.symm ndx)]; exact hx) _);refine .inl ⟨x,dx,D,p,qs,zs,rs,d,j,rfl,aB,⟨nO _ _ hD',R.kp (aR.kp nO),ne,l4,ww⟩,h0,h9,.inr ⟨m,hk,m12,d4,tb.same nO,fun H' k5 tb5 st5=>⟨rfl,?_⟩⟩⟩;exact q x H' (fun b o nP e=>k5 b o (aV (hs b o nP e) hx) nP (nO _ _ (hs b o nP e))) tb5 st5
end
end K85
namespace K85
open PySem L2 TD TP
open Builtin.Int (intBits)
section
variable {P:Program}{w:World}{K:PySem.W.Frag}{mg:Str->Option Value}{base:Heap}{Pt:Addr}
theorem u5 {n:Nat}{f:Addr}{fd:FuncData}(F:dJ K "is_numbers" "is_numbers" (top 36) f fd){u_:Addr}{n_:FuncData}(v_:dI P w K mg base n "is_whole" ["thing","least","most"] Ho u_ n_)(aDk:mg "all" = none)(G_:mg "len" = none)(a_:mg "isinstance" = none)(t_:mg "list" = none):aX P w K mg base dG (n+1) f fd ["things","fewest","most","greatest_number"] Bj:=by
 refine F.ok mW (fun vs H Q E h=>?_) (fun cdv A outer s H vs Q E hr h=>?_)
 ·obtain ⟨a,ns,lo,hi,g,rfl,_⟩:=h
  rfl
 obtain ⟨a,ns,lo,hi,g,rfl,ha,h1,h2,h64,hg,q⟩:=h;have nd:=mW.nd;refine ⟨_,(aF (b8 (PW.pt (jM (d9 (dC (bD (dN (T:="list")) rfl a_ bM (aA (pv 0) (aA (fX (v:=.ty "list") rfl t_ iU rfl) aC))))) (gK (d9 (Av uD uD (pv 1) (bD eN rfl G_ m9 (aA (pv 0) aC)) (pv 2)))))) (aJ (aN kW)) bB) (aJ (aN (bD (vZ rfl rfl) rfl aDk JB (aA (cA (ls:=["thing"]) (M:=["things","fewest","most","greatest_number"]) rfl (bL.of (by rfl)) (NL.of (by rfl)) (cX (pv 0)) (fun _ _ _ _=>⟨(aP (i:=0) (cB (by rfl)) rfl (Or.inl rfl)),bR,(aH v_ hr (aA (pv 0) (aA aD (aA (pv 4) aC))))⟩)) aC))))),?_⟩;have hlr:=dZ ns;refine ⟨_,rfl,_,_,_,rfl,.lst ha,gA _,_,rfl,?_⟩;refine eX ?_;refine ⟨_,rfl,_,rfl,a,_,rfl,.inl (bV.of ha),_,_,rfl,rfl,_,rfl,?_⟩;refine pA (decide_eq_true (show lo<=_ by rw [hlr]; exact h1)) ?_;refine ⟨_,rfl,_,_,rfl,rfl,_,rfl,?_⟩;refine mK (by rw [decide_eq_true (show (_:Int)<=hi by rw [hlr]; exact h2)]; rfl) ?_;refine ⟨_,rfl,a,rfl,⟨_,bV.of ha⟩,fun D hD=>?_⟩;refine cI (xs:=Is ns) (fun i τ H'=>∃ v0,τ = [v0,some (.ref a),some (.int lo),some (.int hi),some (.int g)]/\aR H H'/\H' D=some (.lst ((aGo i true).map V.bl))) ⟨none,rfl,aG hD _,aB⟩ ?keep ?turn ?done
 case keep =>
  rintro i τ H' hi ⟨v0,rfl,hs,_⟩;exact bV.of (hs _ _ ha)
 case turn =>
  rintro i m v τ H' hm hi hv ⟨v0,rfl,hs,hD'⟩;obtain ⟨x,hx,rfl⟩:=U3 hv;have hmem:=aF1 hx;refine uT ?_;refine ⟨_,rfl,_,rfl,x,0,g,rfl,(hg x hmem).1,(hg x hmem).2,?_⟩;refine bA hm hi hD' (by rw [aFF,aGK]; exact aQ (by rw [hlr] at hi; omega)) ⟨_,rfl,hs.upd_new hD _,?_⟩;rw [aB,List.replicate_succ',aFN]
  rfl
 case done =>
  rintro τ H' ⟨v0,rfl,hs,hD'⟩;refine ⟨D,_,rfl,bV.of hD',?_⟩;have e:(aGo (Is ns).length true).all id=true:=by simp
  rw [e];exact q H' hs
theorem rD {n:Nat}{f:Addr}{fd:FuncData}(F:dJ K "__init__" "Few.__init__" (inClass (top 38) 0) f fd){C:Addr}(cf:qX K C)(aCY:PySem.W.findIn K (.ref C) "limit" = some none){u_:Addr}{n_:FuncData}(v_:dI P w K mg base n "is_whole" ["thing","least","most"] Ho u_ n_){J_:Value}(g_:mg "MOST_BOXES" = some J_)(h_:RelV (.int 6) J_):aX P w K mg base dG (n+1) f fd ["self","count"] (Kh C):=by
 refine F.ok j4 (fun vs H Q E h=>?_) (fun cdv A outer s H vs Q E hr h=>?_)
 ·obtain ⟨x,dx,c,rfl,_⟩:=h
  rfl
 obtain ⟨x,dx,c,rfl,hx,h1,h2,q⟩:=h;have nd:=j4.nd;refine ⟨_,(aF (b8 (d9 (dC (aH v_ hr (aA (pv 1) (aA aD (aA (cY (v:=.int 6) rfl g_ h_) aC)))))) (aJ nU) bB) (aJ (eV (pv 0) (pv 1) rfl))),?_⟩;refine ⟨_,rfl,c,0,6,rfl,h1,h2,?_⟩;refine ⟨_,rfl,?_⟩;refine eX ?_;exact ⟨_,rfl,_,rfl,x,C,dx,[],rfl,hx,cf,aCY,(by show 0<1000; decide),q⟩
theorem nF {n:Nat}{f:Addr}{fd:FuncData}(F:dJ K "__init__" "Groups.__init__" (inClass (top 39) 0) f fd){C:Addr}(cf:qX K C)(aCE:PySem.W.findIn K (.ref C) "groups" = some none)(aDn:PySem.W.findIn K (.ref C) "most" = some none){aBZ:Addr}{aBL:FuncData}(Q_:dI P w K mg base n "is_numbers" ["things","fewest","most","greatest_number"] Bj aBZ aBL)(d_:mg "tuple" = none){J_:Value}(g_:mg "MOST_BOXES" = some J_)(h_:RelV (.int 6) J_):aX P w K mg base dG (n+1) f fd ["self","groups","most"] (Ku C):=by
 refine F.ok iI (fun vs H Q E h=>?_) (fun cdv A outer s H vs Q E hr h=>?_)
 ·obtain ⟨x,dx,a,b,gs,ms,rfl,_⟩:=h
  rfl
 obtain ⟨x,dx,a,b,gs,ms,rfl,hx,ha,hb,g,q⟩:=h;have nd:=iI.nd;refine ⟨_,(aF (b8 (d9 (dC (aH Q_ hr (aA (pv 1) (aA aD (aA (cY (v:=.int 6) rfl g_ h_) (aA (aM pC (cY (v:=.int 6) rfl g_ h_) aD) aC))))))) (aJ nU) bB) (aF (b8 (d9 (dC (aH Q_ hr (aA (pv 2) (aA (cY (v:=.int 6) rfl g_ h_) (aA (cY (v:=.int 6) rfl g_ h_) (aA (cY (v:=.int 6) rfl g_ h_) aC))))))) (aJ nU) bB) (aF (eV (pv 0) (bJ (bQ (K:=K) rfl) rfl d_ dH (aA (pv 1) aC)) rfl) (aJ (eV (pv 0) (bJ (bQ (K:=K) rfl) rfl d_ dH (aA (pv 2) aC)) rfl))))),?_⟩;have g1:=g.l1;have g6:=g.l6;have gm:=g.m6;refine ⟨_,rfl,_,_,rfl,rfl,a,gs,1,6,5,rfl,ha,by omega,by omega,by omega,g.g,fun H1 s1=>?_⟩;refine ⟨_,rfl,?_⟩;refine eX ?_;refine ⟨_,rfl,b,ms,6,6,6,rfl,s1 _ _ hb,by omega,by omega,by omega,g.m,fun H2 s2=>?_⟩;refine ⟨_,rfl,?_⟩;refine eX ?_;have xQ:=s1.trans s2;refine ⟨_,rfl,a,_,rfl,.inl ⟨bV.of (xQ _ _ ha),fun t ht=>?_⟩⟩;have n1:=aG ht (.tup (Is gs));have hx1:=(xQ.trans n1) _ _ hx;refine ⟨_,rfl,x,C,dx,[],rfl,hx1,cf,aCE,(by show 0<1000; decide),?_⟩;have nbx:b≠x:=cH hb hx fun z=>nomatch z
 have ntx:t≠x:=Ne.symm (aV (xQ _ _ hx) ht);have kx:∀ c o,c≠x->H c=some o->bG (bG H2 t (.tup (Is gs))) x (.ins C dx [("groups",.ref t)]) c=some o:=fun c o nc e=>by rw [aK nc]; exact (xQ.trans n1) _ _ e
 have ht3:bG (bG H2 t (.tup (Is gs))) x (.ins C dx [("groups",.ref t)]) t=some (.tup (Is gs)):=by rw [aK ntx]; exact aB
 have hx3:bG (bG H2 t (.tup (Is gs))) x (.ins C dx [("groups",.ref t)]) x=some (.ins C dx [("groups",.ref t)]):=aB;refine ⟨_,rfl,b,_,rfl,.inl ⟨bV.of (kx _ _ nbx hb),fun u hu=>?_⟩⟩;have n4:=aG hu (.tup (Is ms));have nux:u≠x:=Ne.symm (aV hx3 hu);refine ⟨_,rfl,x,C,dx,[("groups",.ref t)],rfl,n4 _ _ hx3,cf,aDn,(by show 1<1000; decide),?_⟩;refine q t u _ (fun c o nc e=>?_) ?_ ?_ aB
 ·rw [aK nc];exact n4 _ _ (kx c o nc e)
 ·rw [aK ntx];exact n4 _ _ ht3
 ·rw [aK nux];exact aB
theorem nC {n:Nat}{f:Addr}{fd:FuncData}(F:dJ K "__init__" "Listed.__init__" (inClass (top 40) 0) f fd){C:Addr}(cf:qX K C)(aDo:PySem.W.findIn K (.ref C) "sets" = some none){aBZ:Addr}{aBL:FuncData}(Q_:dI P w K mg base n "is_numbers" ["things","fewest","most","greatest_number"] Bj aBZ aBL)(d_:mg "tuple" = none)(aBO:mg "sorted" = none)(G_:mg "len" = none)(aEi:mg "set" = none){aCJ:Value}(aAa:mg "MOST_SETS" = some aCJ)(aAI:RelV (.int 64) aCJ):aX P w K mg base dG (n+1) f fd ["self","sets"] (HY C):=by
 refine F.ok gZ (fun vs H Q E h=>?_) (fun cdv A outer s H vs Q E hr h=>?_)
 ·obtain ⟨x,dx,a,ks,rfl,_⟩:=h
  rfl
 obtain ⟨x,dx,a,ks,rfl,hx,ha,g,q⟩:=h;have nd:=gZ.nd;refine ⟨_,(aF (b8 (PW.pt (jM (d9 (dC (aH Q_ hr (aA (pv 1) (aA aD (aA (cY (v:=.int 64) rfl aAa aAI) (aA (aM pC (cY (v:=.int 64) rfl aAa aAI) aD) aC))))))) (gK (aZ Gj (bD uQ rfl G_ m9 (aA (bJ (Bu (K:=K) rfl rfl) rfl aEi Mv (aA (pv 1) aC)) aC)) (bD eN rfl G_ m9 (aA (pv 1) aC)) (bK _))))) (aJ nU) bB) (aJ (eV (pv 0) (bJ (bQ (K:=K) rfl) rfl d_ dH (aA (bD (tV (K:=K) rfl) rfl aBO wK (aA (pv 1) aC)) aC)) rfl))),?_⟩;have g1:=g.l1;have g64:=g.l64;refine ⟨_,rfl,_,_,rfl,rfl,a,ks,1,64,63,rfl,ha,by omega,by omega,g64,g.k,fun H1 s1=>?_⟩;refine ⟨_,rfl,?_⟩;refine eX ?_;refine ⟨_,rfl,a,ks,rfl,bV.of (s1 _ _ ha),(by show ks.length+1<4096; omega),fun r hr0=>?_⟩;have n1:=aG hr0 (.set (fun k=>(JP ks).any (·==k)) (JP ks).length);refine ⟨r,_,_,rfl,aB,_,rfl,a,_,rfl,.inl (bV.of ((s1.trans n1) _ _ ha)),rfl,_,rfl,?_⟩;refine mK (by rw [Jx g.nd,dZ]; simp) ?_;have s2:=s1.trans n1;generalize bG H1 r (.set (fun k=>(JP ks).any (·==k)) (JP ks).length)=H2 at s2 ⊢;refine ⟨_,rfl,a,ks,rfl,.inl (bV.of (s2 _ _ ha)),g.few,fun l ms hl pm so=>?_⟩;have n3:=aG hl (.lst (Is ms));refine ⟨l,_,rfl,.inl ⟨bV.of aB,fun t ht=>?_⟩⟩;have n4:=aG ht (.tup (Is ms));have s4:=s2.trans (n3.trans n4);exact ⟨_,rfl,x,C,dx,[],rfl,s4 _ _ hx,cf,aDo,(by show 0<1000; decide),q t ms _ s4 pm so aB⟩
end
section
variable {P:Program}{w:World}{K:PySem.W.Frag}{mg:Str->Option Value}{base:Heap}
theorem zO {n:Nat}{f:Addr}{fd:FuncData}(F:dJ K "told" "Few.told" (inClass (top 38) 2) f fd){C:Addr}(cf:qX K C)(aCY:PySem.W.findIn K (.ref C) "limit" = some none):aX P w K mg base dG (n+1) f fd ["self"] (Do C):=by
 refine F.ok qD (fun vs H Q E h=>?_) (fun cdv A outer s H vs Q E hr h=>?_)
 ·obtain ⟨x,c,rfl,_⟩:=h
  rfl
 obtain ⟨x,c,rfl,hF,q⟩:=h;have nd:=qD.nd;refine ⟨_,(aJ (aN (cU (aA aU (aA (fQ (pv 0) rfl) aC))))),?_⟩;obtain ⟨dx,hx⟩:=hF;exact ⟨_,rfl,x,C,dx,_,_,rfl,hx,cf,aCY,rfl,qP,fun r hr=>q r _ (aG hr _) aB⟩
theorem sZ {n:Nat}{f:Addr}{fd:FuncData}(F:dJ K "told" "Groups.told" (inClass (top 39) 2) f fd){C:Addr}(cf:qX K C)(aCE:PySem.W.findIn K (.ref C) "groups" = some none)(aDn:PySem.W.findIn K (.ref C) "most" = some none):aX P w K mg base dG (n+1) f fd ["self"] (Er C):=by
 refine F.ok lK (fun vs H Q E h=>?_) (fun cdv A outer s H vs Q E hr h=>?_)
 ·obtain ⟨x,gs,ms,rfl,_⟩:=h
  rfl
 obtain ⟨x,gs,ms,rfl,hF,q⟩:=h;have nd:=lK.nd;refine ⟨_,(aJ (aN (cU (aA aU (aA (fQ (pv 0) rfl) (aA (fQ (pv 0) rfl) aC)))))),?_⟩;obtain ⟨dx,g,m,hx,hg,hm⟩:=hF;exact ⟨_,rfl,x,C,dx,_,_,rfl,hx,cf,aCE,rfl,_,rfl,x,C,dx,_,_,rfl,hx,cf,aDn,rfl,KH,fun r hr=>q r _ (aG hr _) ⟨g,m,aB,aG hr _ _ _ hg,aG hr _ _ _ hm⟩⟩
theorem tE {n:Nat}{f:Addr}{fd:FuncData}(F:dJ K "told" "Listed.told" (inClass (top 40) 2) f fd){C:Addr}(cf:qX K C)(aDo:PySem.W.findIn K (.ref C) "sets" = some none):aX P w K mg base dG (n+1) f fd ["self"] (Dq C):=by
 refine F.ok lX (fun vs H Q E h=>?_) (fun cdv A outer s H vs Q E hr h=>?_)
 ·obtain ⟨x,ks,rfl,_⟩:=h
  rfl
 obtain ⟨x,ks,rfl,hF,q⟩:=h;have nd:=lX.nd;refine ⟨_,(aJ (aN (cU (aA aU (aA (fQ (pv 0) rfl) aC))))),?_⟩;obtain ⟨dx,t,hx,ht⟩:=hF;exact ⟨_,rfl,x,C,dx,_,_,rfl,hx,cf,aDo,rfl,qP,fun r hr=>q r _ (aG hr _) ⟨t,aB,aG hr _ _ _ ht⟩⟩
end
end K85
namespace K85
open PySem L2 TD Kn
open Builtin.Int (intBits)
section
variable {P:Program}{w:World}{K:PySem.W.Frag}{mg:Str->Option Value}{base:Heap}
theorem pF {n:Nat}{f:Addr}{fd:FuncData}(F:dJ K "__init__" "Take.__init__" (inClass (top 44) 0) f fd){c:Cl}{cP:Addr}(ck:Kn.CK K c cP):aX P w K mg base dG (n+1) f fd ["self","box","then"] (W6 c.cT):=by
 refine F.ok jJ (fun vs H Q E h=>?_) (fun cdv A outer s H vs Q E hr h=>?_)
 ·obtain ⟨x,dx,b,y,rfl,_⟩:=h
  rfl
 obtain ⟨x,dx,b,y,rfl,hx,q⟩:=h;have nd:=jJ.nd;refine ⟨_,(aF (eV (pv 0) (pv 1) rfl) (aJ (eV (pv 0) (pv 2) rfl))),?_⟩;refine ⟨_,rfl,_,rfl,x,c.cT,dx,[],rfl,hx,ck.t.cl,ck.tb,(by show 0<1000; decide),_,rfl,_,rfl,x,c.cT,dx,_,rfl,aB,ck.t.cl,ck.tt,(by show 1<1000; decide),?_⟩;refine q _ ?_ fun z hz=>?_
 ·rw [aB];exact congrArg (fun l=>some (HO.ins c.cT dx l)) (LQ b y)
 ·rw [aK hz,aK hz]
theorem pL {n:Nat}{f:Addr}{fd:FuncData}(F:dJ K "__init__" "Open.__init__" (inClass (top 45) 0) f fd){c:Cl}{cP:Addr}(ck:Kn.CK K c cP)(d_:mg "tuple" = none):aX P w K mg base dG (n+1) f fd ["self","box","plans"] (S8 c.cO):=by
 refine F.ok jN (fun vs H Q E h=>?_) (fun cdv A outer s H vs Q E hr h=>?_)
 ·obtain ⟨x,dx,b,y,ps,rfl,_⟩:=h
  rfl
 obtain ⟨x,dx,b,y,ps,rfl,hx,hy,q⟩:=h;have nd:=jN.nd;refine ⟨_,(aF (eV (pv 0) (pv 1) rfl) (aJ (eV (pv 0) (bJ (bQ (K:=K) rfl) rfl d_ dH (aA (pv 2) aC)) rfl))),?_⟩;have nxy:y≠x:=cH hy hx fun z=>nomatch z
 refine ⟨_,rfl,_,rfl,x,c.cO,dx,[],rfl,hx,ck.o.cl,ck.ob,(by show 0<1000; decide),_,rfl,y,_,rfl,.inl ⟨bV.of (by rw [aK nxy]; exact hy),fun l hl=>?_⟩⟩;have nlx:l≠x:=fun z=>by rw [z,aB] at hl; cases hl
 refine ⟨_,rfl,x,c.cO,dx,_,rfl,(by rw [aK nlx.symm]; exact aB),ck.o.cl,ck.op,(by show 1<1000; decide),?_⟩;have hln:H l=none:=by rw [aK nlx] at hl; exact hl
 refine q l _ hln ?_ ?_ fun z o hz nz=>?_
 ·rw [aB];exact congrArg (fun l=>some (HO.ins c.cO dx l)) (MK b l)
 ·rw [aK nlx,aB]
 ·rw [aK nz,aK (aV hz hln),aK nz];exact hz
theorem iB {ps:List Addr}{i:Nat}{v:V}(h:(ps.map V.ref)[i]? = some v):∃ p,ps[i]? = some p/\v=.ref p:=by
 rw [aFY] at h;cases e:ps[i]? with
 | none=>rw [e] at h; cases h
 | some p=>rw [e] at h; cases h; exact ⟨p,rfl,rfl⟩
end
end K85
namespace K85
open PySem L2 TD
open Builtin.Int (intBits)
section
variable {P:Program}{w:World}{K:PySem.W.Frag}{mg:Str->Option Value}{base:Heap}{Pt:Addr}
theorem Bd (x:Int){m:Int}(h:0<m):0<=x%m/\x%m<m:=⟨aGh x (aF8 h),aGc x h⟩
def VG:Sp:=fun _ _ _ _=>False
theorem Qv {f:Addr}{fd:FuncData}{ps:List Str}{sp:Sp}(h:∀ vs H Q E,¬ sp vs H Q E)(m:Nat):aX P w K mg base dG m f fd ps sp:=⟨fun vs H Q E z=>absurd z (h vs H Q E),fun A outer s H args us vs Q E _ _ _ _ z=>absurd z (h vs H Q E)⟩
theorem q8 {n:Nat}{f:Addr}{fd:FuncData}(F:dJ K "_law_cell_at" "_law_cell_at" (top 55) f fd)(G_:mg "len" = none):aX P w K mg base dG (n+1) f fd ["_law_script","_law_k"] (LR K):=by
 refine F.ok j9 (fun vs H Q E h=>?_) (fun cdv A outer s H vs Q E hr h=>?_)
 ·obtain ⟨a,ns,i,rfl,_⟩:=h
  rfl
 obtain ⟨a,ns,i,rfl,hS,i0,q⟩:=h;have nd:=j9.nd;refine ⟨_,(aF (b8 (aZ zJ (pv 1) (bD eN rfl G_ m9 (aA (pv 0) aC)) (bK _)) (aJ (aN (bI iY (pv 0) (pv 1) (fun _ _=>rfl)))) bB) (aJ (aN aD))),?_⟩;have hl:(ns.map V.int).length=ns.length:=aFF _;refine ⟨_,rfl,_,rfl,a,_,rfl,.inl hS,_,_,rfl,rfl,_,rfl,?_⟩;refine lG (fun c=>?_) (fun c=>?_)
 ·have c':i<(((ns.map V.int).length:Nat):Int):=of_decide_eq_true c;rw [hl] at c';exact ⟨_,rfl,_,rfl,a,_,_,_,rfl,rfl,hS,JD i0 c',q _⟩
 ·exact q _
theorem zZ {n:Nat}{f:Addr}{fd:FuncData}(F:dJ K "_law_low" "_law_low" (top 59) f fd)(aCt:mg "abs" = none):aX P w K mg base dG (n+1) f fd ["_law_top","_law_bottom"] M6:=by
 refine F.ok qI (fun vs H Q E h=>?_) (fun cdv A outer s H vs Q E hr h=>?_)
 ·obtain ⟨t,b,rfl,_⟩:=h
  rfl
 obtain ⟨t,b,rfl,hb,hz,q⟩:=h;have nd:=qI.nd;refine ⟨_,(aF (aY (i:=2) nd rfl (Or.inl rfl) (bD tX rfl aCt Bm (aA (pv 0) aC))) (aF (aY (i:=3) nd rfl (Or.inl rfl) (pv 1)) (aF (tU PassesOwn.never (aZ uC (pv 3) aD (bK _)) (aJ (Mr (i:=2) (j:=3) rfl nd rfl rfl (by decide) rfl rfl (aA (pv 3) (aA (aM Em (pv 2) (pv 3)) aC)) rfl))) (aJ (aN (cU (aA (aM eQ (pv 0) (pv 2)) (aA (aM eQ (pv 1) (pv 2)) aC)))))))),?_⟩;have hb0:b≠0:=aF8 hb;have hdz:intBits (Fr.dv t b)<=9000:=PySem.intBits_le_of_natAbs (by rw [Fr.mR]; exact aHb t hb0) hz;have hdn:=Fr.yL (t:=t) hb0;refine ⟨_,rfl,_,rfl,?_⟩;refine ⟨_,rfl,?_⟩;have e0:aGj (if t<0 then -t else t) b=aGj t b:=by
  rw [aHm,aHm]
  congr 1
  split <;> omega
 have h1:0<=(if t<0 then -t else t):=by split <;> omega
 refine BP (fun σ H'=>∃ x y,σ = [some (.int t),some (.int b),some (.int x),some (.int y)]/\aGj x y=aGj t b/\0<=x/\0<=y/\H'=H) (fun σ _=>match σ with | [_,_,_,some (.int y)]=>y.natAbs | _=>0) ⟨_,_,rfl,e0,h1,by omega,rfl⟩ (fun σ H' ⟨x,y,e,hg,x0,y0,eH⟩=>?_) (fun σ H Q Q' hQ ⟨v,e,i,j,e1,e2,k,ek,q⟩=>⟨v,e,i,j,e1,e2,k,ek,hQ _ _ q⟩);subst e eH;refine ⟨_,rfl,_,_,rfl,rfl,_,rfl,?_⟩
 by_cases hy:0<y
 ·refine pA (decide_eq_true hy) ?_;refine ⟨_,rfl,_,rfl,_,rfl,x,y,rfl,rfl,aF8 hy,_,_,rfl,?_⟩;exact ⟨⟨y,x.fmod y,rfl,(Fr.zQ x y).trans hg,y0,aHg x hy,rfl⟩,Fr.wJ (aF8 hy)⟩
 ·refine mK (decide_eq_false hy) ?_;have ey:y=0:=by omega
  subst ey;have e:x=Fr.dv t b:=by
   unfold Fr.dv;rw [if_neg (by omega),<- hg,Int.gcd_zero];omega
  subst e;unfold Fr.sh at q;refine ⟨_,rfl,_,rfl,_,_,rfl,rfl,⟨hdn,hdz⟩,_,rfl,_,rfl,_,_,rfl,rfl,⟨hdn,hdz⟩,qP,fun p hp=>?_⟩;exact q p _ (aG hp _) aB
end
end K85
namespace K85
open PySem L2 TD TP TX Kn
open Builtin.Int (intBits)
section
variable {P:Program}{w:World}{K:PySem.W.Frag}{mg:Str->Option Value}{base:Heap}{Pt:Addr}
def Ex:Sp:=fun vs H Q _=>∃ n:Int,vs=[.int n]/\n.natAbs<10^60/\Q (.str (iQ n)) H
def Hy (t b:Int):Str:=if b=1 then iQ t else iQ t++Str.ofString "/"++iQ b
def MJ:Sp:=fun vs H Q _=>∃ (p:Addr) (t b:Int),vs=[.ref p]/\H p=some (.tup [.int t,.int b])/\t.natAbs<10^60/\0<b/\b<10^60/\Q (.str (Hy t b)) H
def HW (ns:List Int):Str:=Txt.join (Str.ofString " ") (ns.map iQ)
def Ej:Sp:=fun vs H Q _=>∃ (a:Addr) (ns:List Int),vs=[.ref a]/\H a=some (.tup (ns.map V.int))/\ns.length<=100/\(∀ n∈ns,0<=n/\n<100)/\∀ H',aR H H'->Q (.str (HW ns)) H'
def Hz (c:Cs)(n:Nat):Sp:=fun vs H Q _=>∃ (x:Addr) (s:Sd.Sd) (d m m':Nat),vs=[.ref x]/\eO c H x s d m/\Sd.Ok s d m'/\d<n/\n<=5/\∀ H',aR H H'->Q (.str (uW n s)) H'
def DW (n:Nat):Sp:=fun vs H Q _=>∃ (x:Addr) (s:Sd.Sd) (d m:Nat),vs=[.ref x]/\jK H x s/\Sd.Ok s d m/\d<n/\n<=5/\∀ H',aR H H'->Q (.str (uW n s)) H'
def J9 (c:Cl)(n:Nat):Sp:=fun vs H Q _=>∃ (x:Addr) (t:Tr) (d m:Nat),vs=[.ref x]/\nR c H x t/\pG t d m/\d<=n/\d<=41/\m<=6/\∀ H',aR H H'->Q (.str (Bb n t)) H'
def DP (n:Nat):Sp:=fun vs H Q _=>∃ (x:Addr) (t:Tr) (d m:Nat),vs=[.ref x]/\lH H x t/\pG t d m/\d<=n/\d<=41/\m<=6/\∀ H',aR H H'->Q (.str (Bb n t)) H'
theorem pO {i:Int}(h:i.natAbs<10^60):i.natAbs.log2<1920:=by
 by_cases z:i.natAbs=0
 ·rw [z]; decide
 ·exact (Nat.log2_lt z).mpr (aF5 h (by decide +kernel))
theorem n60:((10^(60:Int).toNat:Int))=10^60:=rfl
theorem zH {i:Int}(h:i.natAbs<10^60):(iQ i).length<=61:=by
 by_cases z:i<0
 ·rw [<- De z,len_app];have a:=dW (n:=0-i) (by omega) (k:=60) (by decide) (by omega);have b:(Str.ofString "-").length=1:=by decide
  omega
 ·have a:=dW (n:=i) (by omega) (k:=60) (by decide) (by omega);omega
theorem gJ {i:Int}(h0:0<=i)(h:i<=1000000000):i.natAbs<10^60:=by omega
theorem uI {n:Nat}{f:Addr}{fd:FuncData}(F:dJ K "write_whole" "write_whole" (top 47) f fd)(x_:mg "str" = none)(aCt:mg "abs" = none):aX P w K mg base dG (n+1) f fd ["number"] Ex:=by
 refine F.ok lE (fun vs H Q E h=>?_) (fun cdv A outer s H vs Q E hr h=>?_)
 ·obtain ⟨n,rfl,_⟩:=h
  rfl
 obtain ⟨n,rfl,hz,q⟩:=h;have nd:=lE.nd;refine ⟨_,(aF (aY (i:=1) nd rfl (Or.inl rfl) (aM nA aD aD)) (aF (aY (i:=2) nd rfl (Or.inl rfl) aU) (aF (aY (i:=3) nd rfl (Or.inl rfl) (bD tX rfl aCt Bm (aA (pv 0) aC))) (aF (tU PassesOwn.never (aZ Ru (pv 3) (pv 1) (bK _)) FZ) (aF (aY (i:=4) nd rfl (Or.inl rfl) (uJ (aZ zJ (pv 0) aD (bK _)) aU aU)) (aJ (aN (aM bC (aM bC (pv 4) (bJ d7 rfl x_ gY (aA (pv 3) aC))) (pv 2))))))))),?_⟩;refine ⟨_,_,rfl,rfl,⟨by decide,by decide,by decide⟩,?_⟩;refine ⟨_,rfl,n,rfl,?_⟩;refine ⟨fun _ σ' H'=>σ'=[some (.int n),some (.int (10^(60:Int).toNat)),some (.str (Str.ofString "")),some (.int (if n<0 then -n else n)),none]/\H'=H,⟨0,rfl,rfl⟩,?_⟩;rintro m σ' H' ⟨rfl,rfl⟩;have hlt:(if n<0 then -n else n)<10^60:=by split <;> omega
 refine ⟨_,rfl,_,rfl,_,_,rfl,rfl,_,rfl,?_⟩;refine mK (decide_eq_false (by rw [n60]; omega)) ?_
 by_cases z:n<0
 ·refine ⟨_,rfl,_,_,rfl,rfl,_,rfl,?_⟩;refine pA (decide_eq_true z) ?_;refine ⟨_,rfl,_,rfl,_,rfl,?_⟩;rw [if_pos z];refine ⟨pO (by omega),?_⟩;have e:Str.ofString "-"++iQ (-n)=iQ n:=by rw [show -n=0-n by omega]; exact De z
  have l:=zH (i:=-n) (by omega);have b:(Str.ofString "-").length=1:=by decide
  have b0:(Str.ofString "").length=0:=by decide
  refine ⟨_,_,rfl,rfl,by omega,_,rfl,_,_,rfl,rfl,by rw [len_app]; omega,?_⟩;rw [Ls,e];exact q
 ·refine ⟨_,rfl,_,_,rfl,rfl,_,rfl,?_⟩;refine mK (decide_eq_false z) ?_;refine ⟨_,rfl,_,rfl,_,rfl,?_⟩;rw [if_neg z];refine ⟨pO hz,?_⟩;have l:=zH hz;have b0:(Str.ofString "").length=0:=by decide
  refine ⟨_,_,rfl,rfl,by omega,_,rfl,_,_,rfl,rfl,by rw [len_app]; omega,?_⟩;rw [Ls,QK];exact q
theorem t7 {n:Nat}{f:Addr}{fd:FuncData}(F:dJ K "write_share" "write_share" (top 48) f fd){i_:Addr}{gV:FuncData}(e_:dI P w K mg base n "write_whole" ["number"] Ex i_ gV):aX P w K mg base dG (n+1) f fd ["fraction"] MJ:=by
 refine F.ok lU (fun vs H Q E h=>?_) (fun cdv A outer s H vs Q E hr h=>?_)
 ·obtain ⟨p,t,b,rfl,_⟩:=h
  rfl
 obtain ⟨p,t,b,rfl,hp,ht,b0,hb,q⟩:=h;have nd:=lU.nd;refine ⟨_,(aF (aY (i:=1) nd rfl (Or.inl rfl) (aH e_ hr (aA (bI bF (pv 0) aD (fun _ _=>rfl)) aC))) (aJ (aN (uJ (aZ dM (bI bF (pv 0) aD (fun _ _=>rfl)) aD (bK _)) (pv 1) (aM bC (aM bC (pv 1) aU) (aH e_ hr (aA (bI bF (pv 0) aD (fun _ _=>rfl)) aC))))))),?_⟩;refine ⟨_,rfl,p,_,_,_,rfl,rfl,bW.of hp,rfl,t,rfl,ht,?_⟩;have lt:=zH ht;have lb:=zH (i:=b) (by omega);refine ⟨_,rfl,p,_,_,_,rfl,rfl,bW.of hp,rfl,rfl,_,rfl,?_⟩
 by_cases z:b=1
 ·refine pA (by rw [z]; rfl) ?_;refine ⟨_,rfl,?_⟩;unfold Hy at q;rw [if_pos z] at q;exact q
 ·refine mK (decide_eq_false fun e=>z (by injection e)) ?_;have c:(Str.ofString "/").length=1:=by decide
  refine ⟨_,rfl,_,_,rfl,rfl,by omega,?_⟩;refine ⟨_,rfl,p,_,_,_,rfl,rfl,bW.of hp,rfl,b,rfl,by omega,_,_,rfl,rfl,by rw [len_app]; omega,?_⟩;unfold Hy at q;rw [if_neg z] at q;exact q
theorem qR {n:Nat}{f:Addr}{fd:FuncData}(F:dJ K "write_wholes" "write_wholes" (top 49) f fd){i_:Addr}{gV:FuncData}(e_:dI P w K mg base n "write_whole" ["number"] Ex i_ gV):aX P w K mg base dG (n+1) f fd ["numbers"] Ej:=by
 refine F.ok jZ (fun vs H Q E h=>?_) (fun cdv A outer s H vs Q E hr h=>?_)
 ·obtain ⟨a,ns,rfl,_⟩:=h
  rfl
 obtain ⟨a,ns,rfl,ha,l100,hn,q⟩:=h;have nd:=jZ.nd;refine ⟨_,(aJ (aN (gG PySem.F.plainAttrs_str PySem.F.slot_str_join PySem.F.type_str_join jC aU (aA (cA (ls:=["number"]) (M:=["numbers"]) rfl (bL.of (by rfl)) (NL.of (by rfl)) (jV (pv 0)) (fun _ _ _ _=>⟨(aP (i:=0) (cB (by rfl)) rfl (Or.inl rfl)),bR,(aH e_ hr (aA (pv 0) aC))⟩)) aC)))),?_⟩;have hl:(ns.map V.int).length=ns.length:=aFF _;refine ⟨rfl,_,rfl,a,rfl,⟨_,bW.of ha⟩,fun D hD=>?_⟩;refine gD (xs:=ns.map V.int) (fun i τ H'=>∃ v0,τ = [v0,some (.ref a)]/\aR H H'/\H' D=some (.lst (((ns.take i).map iQ).map V.str))) ⟨none,rfl,aG hD _,aB⟩ ?keep ?turn ?done
 case keep =>
  rintro i τ H' hi ⟨v0,rfl,hs,_⟩;exact bW.of (hs _ _ ha)
 case turn =>
  rintro i m v τ H' hm hi hv ⟨v0,rfl,hs,hD'⟩;rw [aFY] at hv;obtain ⟨n,hn1,rfl⟩:∃ n,ns[i]? = some n/\v=.int n:=by
   cases z:ns[i]? with
   | none=>rw [z] at hv; cases hv
   | some n=>rw [z] at hv; cases hv; exact ⟨n,rfl,rfl⟩
  have hb:=hn n (aF1 hn1);refine uT ?_;refine ⟨_,rfl,n,rfl,by omega,?_⟩;refine bA hm hi hD' (by rw [aFF,aFF,aGe]; exact aQ (by omega)) ⟨_,rfl,hs.upd_new hD _,?_⟩;rw [aB,take_snoc hn1,aFN,aFN]
  rfl
 case done =>
  rintro τ H' ⟨v0,rfl,hs,hD'⟩;rw [hl,aF3] at hD';refine ⟨_,D,ns.map iQ,rfl,rfl,bV.of hD',?_,q H' hs⟩;refine aFJ (fK (B:=2) fun t ht=>?_) ?_
  ·obtain ⟨n,hn1,rfl⟩:=aFL.mp ht;exact dW (hn n hn1).1 (by decide) (by have:=(hn n hn1).2; show n<100; omega)
  ·have b:(Str.ofString " ").length=1:=by decide
   rw [aFF,b];omega
theorem qW {n:Nat}{f:Addr}{fd:FuncData}(F:dJ K "_law_numbers" "_law_numbers" (top 72) f fd)(x_:mg "str" = none):aX P w K mg base dG (n+1) f fd ["_law_numbers_here"] Ej:=by
 refine F.ok j7 (fun vs H Q E h=>?_) (fun cdv A outer s H vs Q E hr h=>?_)
 ·obtain ⟨a,ns,rfl,_⟩:=h
  rfl
 obtain ⟨a,ns,rfl,ha,l100,hn,q⟩:=h;have nd:=j7.nd;refine ⟨_,(aJ (aN (gG PySem.F.plainAttrs_str PySem.F.slot_str_join PySem.F.type_str_join jC aU (aA (cA (ls:=["_law_number"]) (M:=["_law_numbers_here"]) rfl (bL.of (by rfl)) (NL.of (by rfl)) (jV (pv 0)) (fun _ _ _ _=>⟨(aP (i:=0) (cB (by rfl)) rfl (Or.inl rfl)),bR,(bJ d7 rfl x_ gY (aA (pv 0) aC))⟩)) aC)))),?_⟩;have hl:(ns.map V.int).length=ns.length:=aFF _;refine ⟨rfl,_,rfl,a,rfl,⟨_,bW.of ha⟩,fun D hD=>?_⟩;refine gD (xs:=ns.map V.int) (fun i τ H'=>∃ v0,τ = [v0,some (.ref a)]/\aR H H'/\H' D=some (.lst (((ns.take i).map iQ).map V.str))) ⟨none,rfl,aG hD _,aB⟩ ?keep ?turn ?done
 case keep =>
  rintro i τ H' hi ⟨v0,rfl,hs,_⟩;exact bW.of (hs _ _ ha)
 case turn =>
  rintro i m v τ H' hm hi hv ⟨v0,rfl,hs,hD'⟩;rw [aFY] at hv;obtain ⟨n,hn1,rfl⟩:∃ n,ns[i]? = some n/\v=.int n:=by
   cases z:ns[i]? with
   | none=>rw [z] at hv; cases hv
   | some n=>rw [z] at hv; cases hv; exact ⟨n,rfl,rfl⟩
  have hb:=hn n (aF1 hn1);refine uT ?_;refine ⟨_,rfl,n,rfl,pO (by omega),?_⟩;refine bA hm hi hD' (by rw [aFF,aFF,aGe]; exact aQ (by omega)) ⟨_,rfl,hs.upd_new hD _,?_⟩;rw [aB,take_snoc hn1,aFN,aFN]
  rfl
 case done =>
  rintro τ H' ⟨v0,rfl,hs,hD'⟩;rw [hl,aF3] at hD';refine ⟨_,D,ns.map iQ,rfl,rfl,bV.of hD',?_,q H' hs⟩;refine aFJ (fK (B:=2) fun t ht=>?_) ?_
  ·obtain ⟨n,hn1,rfl⟩:=aFL.mp ht;exact dW (hn n hn1).1 (by decide) (by have:=(hn n hn1).2; show n<100; omega)
  ·have b:(Str.ofString " ").length=1:=by decide
   rw [aFF,b];omega
structure MN (rs:List (Int×Sd.Sd))(d:Nat)(k:Int×Sd.Sd->Nat):Prop where
 sub:∀ t∈rs,Sd.Ok t.2 d (k t)
theorem wV {n:Nat}{f:Addr}{fd:FuncData}(F:dJ K "write_box" "write_box" (top 50) f fd){c:Cs}(ck:CK K c){aFb:Addr}{aES:FuncData}(aFp:jF K c.e "is_end" aFb)(aFq:aX P w K mg base dG n aFb aES ["self"] (vM c true))(aFr:Binds K aES ["self"] []){aFc:Addr}{aET:FuncData}(aFs:jF K c.s "is_end" aFc)(aFt:aX P w K mg base dG n aFc aET ["self"] (vM c false))(aFu:Binds K aET ["self"] []){n0:Nat}{i_:Addr}{gV:FuncData}(e_:dI P w K mg base n "write_whole" ["number"] Ex i_ gV){N_:Addr}{K_:FuncData}(O_:dI P w K mg base n "write_box" ["stand"] (Hz c n0) N_ K_):aX P w K mg base dG (n+1) f fd ["stand"] (Hz c (n0+1)):=by
 refine F.ok nT (fun vs H Q E h=>?_) (fun cdv A outer s H vs Q E hr h=>?_)
 ·obtain ⟨x,s,d,m,m2,rfl,_⟩:=h
  rfl
 obtain ⟨x,s,d,m,m2,rfl,st,ok,dn,n5,q⟩:=h;have nd:=nT.nd;refine ⟨_,(aF (b8 (dC (lY (eE (pv 0) ck.ce aFp aFq hr aFr .nil fG) (eE (pv 0) ck.cs aFs aFt hr aFu .nil fG))) (aJ (aN (aH e_ hr (aA (fQ (pv 0) rfl) aC)))) bB) (aF (aY (i:=1) nd rfl (Or.inl rfl) (gG PySem.F.plainAttrs_str PySem.F.slot_str_join PySem.F.type_str_join jC aU (aA (cA (ls:=["weight","after"]) (M:=["stand","rows"]) rfl (bL.of (by rfl)) (NL.of (by rfl)) (jV (fQ (pv 0) rfl)) (fun _ _ _ _=>⟨(fM (K:=K) (n:=2) rfl rfl (bH (aP (i:=0) (cB (by rfl)) rfl (Or.inl rfl)) (bH (aP (i:=1) (cB (by rfl)) rfl (Or.inl rfl)) dU))),bR,(aM bC (aM bC (aH e_ hr (aA (pv 0) aC)) aU) (aH O_ hr (aA (pv 1) aC)))⟩)) aC))) (aJ (aN (aM bC (aM bC (aM bC (aH e_ hr (aA (fQ (pv 0) rfl) aC)) aU) (pv 1)) aU))))),?_⟩;refine Io (σ:=[some (.ref x),none]) (fun Q' r=>⟨_,rfl,r⟩) st fun b hb=>?_;rcases hb with ⟨⟨v,rfl⟩,rfl⟩ | ⟨⟨p,rs,rfl⟩,rfl⟩
 ·refine ⟨_,rfl,?_⟩;refine iR ?_;cases st with
  | @en _ dx l cp _ nn kk _ _ xs h vv ok1 =>
   cases ok with
   | en h0 h9 hm =>
    exact ⟨_,rfl,x,c.e,dx,_,_,rfl,h,ck.ce,ck.e5,rfl,v,rfl,gJ h0 h9,q H (aR.refl _)⟩
 ·refine ⟨_,rfl,?_⟩;refine eX ?_;cases st with
  | @st _ dx l cp r _ nn kk lv dd _ j xs _ ps ys h vv g lp ly row sub p0 p9 ne l4 w hk =>
  have okS:∃ kq:Int×Sd.Sd->Nat,∀ t∈rs,Sd.Ok t.2 dd (kq t):=by
   cases ok with
   | st _ _ _ _ _ sb _=>exact ⟨_,sb⟩
  obtain ⟨kq,sb⟩:=okS;have okS:MN rs dd kq:=⟨sb⟩
  have hpl:(ps.map V.ref).length=ps.length:=aFF _;refine ⟨rfl,_,rfl,x,c.s,dx,_,_,rfl,h,ck.cs,ck.s6,rfl,r,rfl,⟨_,bW.of g⟩,fun D hD=>?_⟩;refine gD (xs:=ps.map V.ref) (fun i τ H'=>∃ v0 v1,τ = [v0,v1,some (.ref x),none]/\aR H H'/\H' D=some (.lst (((rs.take i).map fun r=>iQ r.1++Str.ofString ":"++uW n0 r.2).map V.str))) ⟨none,none,rfl,aG hD _,aB⟩ ?keep ?turn ?done
  case keep =>
   rintro i τ H' hi ⟨v0,v1,rfl,hs,_⟩;exact bW.of (hs _ _ g)
  case turn =>
   rintro i m v τ H' hm hi hv ⟨v0,v1,rfl,hs,hD'⟩;rw [aFY] at hv;obtain ⟨pq,hpq,rfl⟩:∃ pq,ps[i]? = some pq/\v=.ref pq:=by
    cases z:ps[i]? with
    | none=>rw [z] at hv; cases hv
    | some pq=>rw [z] at hv; cases hv; exact ⟨pq,rfl,rfl⟩
   have hip:=(aFO.mp hpq).1;have er:rs[i]? = some rs[i]:=aFK (by omega);have hmr:rs[i]∈rs:=aGt (by omega);generalize rs[i]=t at er hmr;have ey:ys[i]? = some ys[i]:=aFK (by omega);generalize ys[i]=y at ey;have hq:=hs _ _ (row i pq y t hpq ey er);have wt:=w t hmr;refine ⟨pq,_,rfl,bW.of hq,rfl,_,_,rfl,_,_,rfl,rfl,?_⟩;refine cW ?_;have l1:=dW (n:=t.1) (by omega) (k:=4) (by decide) (by show t.1<10000; omega);have c1:(Str.ofString ":").length=1:=by decide
   have l2:=mL (n:=n0) (okS.sub t hmr);have l3:50*5^n0<=50*5^5:=aGg _ (aG1 (by decide) (by omega));refine ⟨_,rfl,t.1,rfl,gJ (by omega) (by omega),_,_,rfl,rfl,by omega,?_⟩;refine ⟨_,rfl,y,t.2,dd,j t,kq t,rfl,eO.same hs (sub i y t ey er),sb t hmr,by omega,by omega,fun H2 s2=>?_⟩;refine ⟨_,_,rfl,rfl,by rw [len_app]; have:50*5^5=156250:=(by decide); omega,?_⟩
   refine bA hm hi (s2 _ _ hD') (by rw [aFF,aFF,aGe]; exact aQ (by omega)) ⟨_,_,rfl,(hs.trans s2).upd_new hD _,?_⟩;rw [aB,take_snoc er,aFN,aFN]
   rfl
  case done =>
  rintro τ H1 ⟨v0,v1,rfl,s1,hD1⟩;rw [hpl,lp,aF3] at hD1;have c3:(Str.ofString " ").length=1:=by decide
  have b5:5^n0<=5^5:=aG1 (by decide) (by omega);have b6:(5:Nat)^5=3125:=by decide
  have jl:=fK (sep:=Str.ofString " ") (ts:=rs.map fun r=>iQ r.1++Str.ofString ":"++uW n0 r.2) (B:=5+50*5^n0) fun x hx=>by
   obtain ⟨r,hr,rfl⟩:=aFL.mp hx;exact aFJ (xN (w r hr) _) (aG3 (mL (okS.sub r hr)) 5)
  have jl2:=aGy (5+50*5^n0+1) l4;rw [aFF,c3] at jl;have jm:=iJ (Str.ofString " ") (rs.map fun r=>iQ r.1++Str.ofString ":"++uW n0 r.2);rw [aFF,c3] at jm;have lp2:=dW p0 (k:=10) (by decide) (by show p<10000000000; omega);have d1:(Str.ofString "[").length=1:=by decide
  have d2:(Str.ofString "]").length=1:=by decide
  refine ⟨_,D,_,rfl,rfl,bV.of hD1,by rw [aFF]; rw [c3]; omega,?_⟩;refine ⟨_,rfl,x,c.s,dx,_,_,rfl,s1 _ _ h,ck.cs,ck.s5,rfl,p,rfl,gJ p0 p9,_,_,rfl,rfl,by omega,_,rfl,_,_,rfl,rfl,by rw [len_app]; omega,_,_,rfl,rfl,by rw [len_app,len_app]; omega,?_⟩;exact q H1 s1
def WY (ss:List Sd.Sd):Str:=Txt.join (Str.ofString " | ") (ss.map (uW 5))
def Lg (c:Cs):Sp:=fun vs H Q _=>∃ (a:Addr) (ys:List Addr) (ss:List Sd.Sd),vs=[.ref a]/\H a=some (.lst (ys.map V.ref))/\ys.length=ss.length/\ys.length<=6/\(∀ (i:Nat) y s,ys[i]? = some y->ss[i]? = some s->∃ d m m',eO c H y s d m/\Sd.Ok s d m'/\d<5)/\∀ H',aR H H'->Q (.str (WY ss)) H'
theorem Vu {s:Sd.Sd}{d m:Nat}(h:Sd.Ok s d m):(uW 5 s).length<=156250:=mL (n:=5) h
theorem wQ {t:Tr}{d m n:Nat}(h:pG t d m)(hd:d<=41)(hm:m<=6):(Bb n t).length<=4920:=aFJ (Jy h n) (aFJ (aHW (aGg 20 hd) hm) (by decide))
theorem uH {n:Nat}{f:Addr}{fd:FuncData}(F:dJ K "write_boxes" "write_boxes" (top 51) f fd){c:Cs}{N_:Addr}{K_:FuncData}(O_:dI P w K mg base n "write_box" ["stand"] (Hz c 5) N_ K_):aX P w K mg base dG (n+1) f fd ["boxes"] (Lg c):=by
 refine F.ok lF (fun vs H Q E h=>?_) (fun cdv A outer s H vs Q E hr h=>?_)
 ·obtain ⟨a,ys,ss,rfl,_⟩:=h
  rfl
 obtain ⟨a,ys,ss,rfl,ha,le,l6,hs0,q⟩:=h;have nd:=lF.nd;refine ⟨_,(aJ (aN (gG PySem.F.plainAttrs_str PySem.F.slot_str_join PySem.F.type_str_join jC aU (aA (cA (ls:=["box"]) (M:=["boxes"]) rfl (bL.of (by rfl)) (NL.of (by rfl)) (cX (pv 0)) (fun _ _ _ _=>⟨(aP (i:=0) (cB (by rfl)) rfl (Or.inl rfl)),bR,(aH O_ hr (aA (pv 0) aC))⟩)) aC)))),?_⟩;have hl:(ys.map V.ref).length=ys.length:=aFF _;refine ⟨rfl,_,rfl,a,rfl,⟨_,bV.of ha⟩,fun D hD=>?_⟩;refine cI (xs:=ys.map V.ref) (fun i τ H'=>∃ v0,τ = [v0,some (.ref a)]/\aR H H'/\H' D=some (.lst (((ss.take i).map (uW 5)).map V.str))) ⟨none,rfl,aG hD _,aB⟩ ?keep ?turn ?done
 case keep =>
  rintro i τ H' hi ⟨v0,rfl,hs,_⟩;exact bV.of (hs _ _ ha)
 case turn =>
  rintro i m v τ H' hm hi hv ⟨v0,rfl,hs,hD'⟩;obtain ⟨y,hy,rfl⟩:=iB hv;have hiy:=(aFO.mp hy).1;have es:ss[i]? = some ss[i]:=aFK (by omega);obtain ⟨d,mm,m2,st,ok,d5⟩:=hs0 i y _ hy es;refine uT ?_;refine ⟨_,rfl,y,_,d,mm,m2,rfl,eO.same hs st,ok,d5,aFM _,fun H2 s2=>?_⟩;refine bA hm hi (s2 _ _ hD') (by rw [aFF,aFF,aGe]; exact aQ (by omega)) ⟨_,rfl,(hs.trans s2).upd_new hD _,?_⟩;rw [aB,take_snoc es,aFN,aFN]
  rfl
 case done =>
  rintro τ H' ⟨v0,rfl,hs,hD'⟩;rw [hl,le,aF3] at hD';refine ⟨_,D,ss.map (uW 5),rfl,rfl,bV.of hD',?_,q H' hs⟩;refine aFJ (fK (B:=156250) fun t ht=>?_) ?_
  ·obtain ⟨s,hs1,rfl⟩:=aFL.mp ht;obtain ⟨i,hi⟩:=List.getElem?_of_mem hs1;have hi2:=(aFO.mp hi).1;obtain ⟨d,mm,m2,st,ok,d5⟩:=hs0 i _ s (aFK (by omega)) hi;exact Vu ok
  ·have b:(Str.ofString " | ").length=3:=by decide
   rw [aFF,b];omega
theorem rB {n:Nat}{f:Addr}{fd:FuncData}(F:dJ K "_law_written" "_law_written" (top 73) f fd){n0:Nat}{U_:Addr}{P_:FuncData}(V_:dI P w K mg base n "_law_written" ["_law_told"] (DW n0) U_ P_)(x_:mg "str" = none):aX P w K mg base dG (n+1) f fd ["_law_told"] (DW (n0+1)):=by
 refine F.ok j0 (fun vs H Q E h=>?_) (fun cdv A outer s H vs Q E hr h=>?_)
 ·obtain ⟨x,s,d,m,rfl,_⟩:=h
  rfl
 obtain ⟨x,s,d,m,rfl,st,ok,dn,n5,q⟩:=h;have nd:=j0.nd;refine ⟨_,(aF (b8 (aZ dM (bI bF (pv 0) aD (fun _ _=>rfl)) aU (bK _)) (aJ (aN (bJ d7 rfl x_ gY (aA (bI bF (pv 0) aD (fun _ _=>rfl)) aC)))) bB) (aF (rN (i:=1) (ls:=["_law_weight","_law_part"]) (M:=["_law_told","_law_rows"]) rfl (bL.of (by rfl)) (NL.of (by rfl)) nd rfl (Or.inl rfl) (jV (bI bF (pv 0) aD (fun _ _=>rfl))) (fun _ _ _ _=>⟨(fM (K:=K) (n:=2) rfl rfl (bH (aP (i:=0) (cB (by rfl)) rfl (Or.inl rfl)) (bH (aP (i:=1) (cB (by rfl)) rfl (Or.inl rfl)) dU))),bR,(aM bC (aM bC (bJ d7 rfl x_ gY (aA (pv 0) aC)) aU) (aH V_ hr (aA (pv 1) aC)))⟩)) (aJ (aN (aM bC (aM bC (aM bC (bJ d7 rfl x_ gY (aA (bI bF (pv 0) aD (fun _ _=>rfl)) aC)) aU) (gG PySem.F.plainAttrs_str PySem.F.slot_str_join PySem.F.type_str_join jC aU (aA (pv 1) aC))) aU))))),?_⟩;cases st with
 | @en _ v h =>
  refine ⟨_,rfl,x,_,_,_,rfl,rfl,bW.of h,rfl,rfl,_,rfl,pA rfl ?_⟩;cases ok with
  | en h0 h9 hm=>exact ⟨_,rfl,x,_,_,_,rfl,rfl,bW.of h,rfl,v,rfl,pO (gJ h0 h9),q H (aR.refl _)⟩
 | @st _ r p rs ps ys h g lp ly row sub =>
  refine ⟨_,rfl,x,_,_,_,rfl,rfl,bW.of h,rfl,rfl,_,rfl,mK rfl ?_⟩;obtain ⟨dd,rfl⟩:∃ dd,d=dd+1:=by cases ok with | st=>exact ⟨_,rfl⟩
  have okS:∃ kq:Int×Sd.Sd->Nat,∀ t∈rs,Sd.Ok t.2 dd (kq t):=by
   cases ok with
   | st _ _ _ _ _ sb _=>exact ⟨_,sb⟩
  obtain ⟨kq,sb⟩:=okS;have okS:MN rs dd kq:=⟨sb⟩
  have fs:(0<=p/\p<=1000000000)/\rs.length<=4/\∀ r∈rs,1<=r.1/\r.1<=1000:=by cases ok with | st h0 h9 ne l4 w sb hk=>exact ⟨⟨h0,h9⟩,l4,w⟩
  obtain ⟨⟨p0,p9⟩,l4,w⟩:=fs;have hpl:(ps.map V.ref).length=ps.length:=aFF _;refine ⟨_,rfl,x,_,_,_,rfl,rfl,bW.of h,rfl,r,rfl,⟨_,bW.of g⟩,fun D hD=>?_⟩;refine gD (xs:=ps.map V.ref) (fun i τ H'=>∃ v0 v1,τ = [v0,v1,some (.ref x),none]/\aR H H'/\H' D=some (.lst (((rs.take i).map fun r=>iQ r.1++Str.ofString ":"++uW n0 r.2).map V.str))) ⟨none,none,rfl,aG hD _,aB⟩ ?keep ?turn ?done
  case keep =>
   rintro i τ H' hi ⟨v0,v1,rfl,hs,_⟩;exact bW.of (hs _ _ g)
  case turn =>
   rintro i m v τ H' hm hi hv ⟨v0,v1,rfl,hs,hD'⟩;rw [aFY] at hv;obtain ⟨pq,hpq,rfl⟩:∃ pq,ps[i]? = some pq/\v=.ref pq:=by
    cases z:ps[i]? with
    | none=>rw [z] at hv; cases hv
    | some pq=>rw [z] at hv; cases hv; exact ⟨pq,rfl,rfl⟩
   have hip:=(aFO.mp hpq).1;have er:rs[i]? = some rs[i]:=aFK (by omega);have hmr:rs[i]∈rs:=aGt (by omega);generalize rs[i]=t at er hmr;have ey:ys[i]? = some ys[i]:=aFK (by omega);generalize ys[i]=y at ey;have hq:=hs _ _ (row i pq y t hpq ey er);have wt:=w t hmr;refine ⟨pq,_,rfl,bW.of hq,rfl,_,_,rfl,_,_,rfl,rfl,?_⟩;refine cW ?_;have l1:=dW (n:=t.1) (by omega) (k:=4) (by decide) (by show t.1<10000; omega);have c1:(Str.ofString ":").length=1:=by decide
   have l2:=mL (n:=n0) (okS.sub t hmr);have l3:50*5^n0<=50*5^5:=aGg _ (aG1 (by decide) (by omega));refine ⟨_,rfl,t.1,rfl,pO (gJ (by omega) (by omega)),_,_,rfl,rfl,by omega,?_⟩;refine ⟨_,rfl,y,t.2,dd,kq t,rfl,(sub i y t ey er).same hs,sb t hmr,by omega,by omega,fun H2 s2=>?_⟩;refine ⟨_,_,rfl,rfl,by rw [len_app]; have:50*5^5=156250:=(by decide); omega,?_⟩
   refine bA hm hi (s2 _ _ hD') (by rw [aFF,aFF,aGe]; exact aQ (by omega)) ⟨_,_,rfl,(hs.trans s2).upd_new hD _,?_⟩;rw [aB,take_snoc er,aFN,aFN]
   rfl
  case done =>
  rintro τ H1 ⟨v0,v1,rfl,s1,hD1⟩;rw [hpl,lp,aF3] at hD1;have c3:(Str.ofString " ").length=1:=by decide
  have b5:5^n0<=5^5:=aG1 (by decide) (by omega);have b6:(5:Nat)^5=3125:=by decide
  have jl:=fK (sep:=Str.ofString " ") (ts:=rs.map fun r=>iQ r.1++Str.ofString ":"++uW n0 r.2) (B:=5+50*5^n0) fun x hx=>by
   obtain ⟨r,hr,rfl⟩:=aFL.mp hx;exact aFJ (xN (w r hr) _) (aG3 (mL (okS.sub r hr)) 5)
  have jl2:=aGy (5+50*5^n0+1) l4;rw [aFF,c3] at jl;have jm:=iJ (Str.ofString " ") (rs.map fun r=>iQ r.1++Str.ofString ":"++uW n0 r.2);rw [aFF,c3] at jm;have lp2:=dW p0 (k:=10) (by decide) (by show p<10000000000; omega);have d1:(Str.ofString "[").length=1:=by decide
  have d2:(Str.ofString "]").length=1:=by decide
  refine ⟨_,rfl,x,_,_,_,rfl,rfl,bW.of (s1 _ _ h),rfl,p,rfl,pO (gJ p0 p9),_,_,rfl,rfl,by omega,rfl,_,rfl,_,D,_,rfl,rfl,bV.of hD1,by rw [aFF]; rw [c3]; omega,_,_,rfl,rfl,by rw [len_app]; omega,_,_,rfl,rfl,by rw [len_app,len_app]; omega,?_⟩;exact q H1 s1
theorem lW {n:Nat}{f:Addr}{fd:FuncData}(F:dJ K "_law_plan_written" "_law_plan_written" (top 68) f fd){n0:Nat}{B_:Addr}{z_:FuncData}(o_:dI P w K mg base n "_law_plan_written" ["_law_told"] (DP n0) B_ z_)(x_:mg "str" = none):aX P w K mg base dG (n+1) f fd ["_law_told"] (DP (n0+1)):=by
 refine F.ok gF (fun vs H Q E h=>?_) (fun cdv A outer s H vs Q E hr h=>?_)
 ·obtain ⟨x,t,d,m,rfl,_⟩:=h
  rfl
 obtain ⟨x,t,d,m,rfl,tr,pk,dn,d41,m6,q⟩:=h;have nd:=gF.nd;refine ⟨_,(aF (b8 (aZ dM (bI bF (pv 0) aD (fun _ _=>rfl)) aU (bK _)) (aJ (aN aU)) bB) (aF (b8 (aZ dM (bI bF (pv 0) aD (fun _ _=>rfl)) aU (bK _)) (aJ (aN (aM bC (aM bC (aM bC aU (bJ d7 rfl x_ gY (aA (bI bF (pv 0) aD (fun _ _=>rfl)) aC))) aU) (aH o_ hr (aA (bI bF (pv 0) aD (fun _ _=>rfl)) aC))))) bB) (aJ (aN (aM bC (aM bC (aM bC (aM bC aU (bJ d7 rfl x_ gY (aA (bI bF (pv 0) aD (fun _ _=>rfl)) aC))) aU) (gG PySem.F.plainAttrs_str PySem.F.slot_str_join PySem.F.type_str_join jC aU (aA (cA (ls:=["_law_part"]) (M:=["_law_told"]) rfl (bL.of (by rfl)) (NL.of (by rfl)) (jV (bI bF (pv 0) aD (fun _ _=>rfl))) (fun _ _ _ _=>⟨(aP (i:=0) (cB (by rfl)) rfl (Or.inl rfl)),bR,(aH o_ hr (aA (pv 0) aC))⟩)) aC))) aU))))),?_⟩;cases pk with
 | stop dd m hm =>
  cases tr with
  | stop h=>exact ⟨_,rfl,x,_,_,_,rfl,rfl,bW.of h,rfl,rfl,_,rfl,pA rfl (q H (aR.refl _))⟩
 | @take b t dd _ hb pk hm =>
  cases tr with
  | @take _ p _ _ h kk =>
  have lb:=mJ hb;have d1:(Str.ofString "take ").length=5:=by decide
  have d2:(Str.ofString " ").length=1:=by decide
  have d3:(Str.ofString "open ").length=5:=by decide
  have d4:(Str.ofString " (").length=2:=by decide
  have d5:(Str.ofString ")").length=1:=by decide
  have l2:=wQ (n:=n0) pk (by omega) m6;refine ⟨_,rfl,x,_,_,_,rfl,rfl,bW.of h,rfl,rfl,_,rfl,mK rfl ?_⟩;refine ⟨_,rfl,x,_,_,_,rfl,rfl,bW.of h,rfl,rfl,_,rfl,pA rfl ?_⟩;refine ⟨_,rfl,x,_,_,_,rfl,rfl,bW.of h,rfl,b,rfl,pO (gJ hb.1 (by omega)),_,_,rfl,rfl,by omega,_,_,rfl,rfl,by rw [len_app]; omega,?_⟩;refine ⟨_,rfl,x,_,_,_,rfl,rfl,bW.of h,rfl,p,t,dd,m,rfl,kk,pk,by omega,by omega,m6,fun H1 s1=>?_⟩;exact ⟨_,_,rfl,rfl,by rw [len_app,len_app]; omega,q H1 s1⟩
 | @opn b ts dd _ hb h1 hl lm pk =>
  cases tr with
  | @opn _ qa ps _ _ h g l kk =>
  have lb:=mJ hb;have d1:(Str.ofString "take ").length=5:=by decide
  have d2:(Str.ofString " ").length=1:=by decide
  have d3:(Str.ofString "open ").length=5:=by decide
  have d4:(Str.ofString " (").length=2:=by decide
  have d5:(Str.ofString ")").length=1:=by decide
  have hpl:(ps.map V.ref).length=ps.length:=aFF _;refine ⟨_,rfl,x,_,_,_,rfl,rfl,bW.of h,rfl,rfl,_,rfl,mK rfl ?_⟩;refine ⟨_,rfl,x,_,_,_,rfl,rfl,bW.of h,rfl,rfl,_,rfl,mK rfl ?_⟩;refine ⟨_,rfl,x,_,_,_,rfl,rfl,bW.of h,rfl,b,rfl,pO (gJ hb.1 (by omega)),_,_,rfl,rfl,by omega,_,_,rfl,rfl,by rw [len_app]; omega,?_⟩;refine ⟨rfl,_,rfl,x,_,_,_,rfl,rfl,bW.of h,rfl,qa,rfl,⟨_,bW.of g⟩,fun D hD=>?_⟩;refine gD (xs:=ps.map V.ref) (fun i τ H'=>∃ v0,τ = [v0,some (.ref x)]/\aR H H'/\H' D=some (.lst (((ts.take i).map (Bb n0)).map V.str))) ⟨none,rfl,aG hD _,aB⟩ ?keep ?turn ?done
  case keep =>
   rintro i τ H' hi ⟨v0,rfl,hs,_⟩;exact bW.of (hs _ _ g)
  case turn =>
   rintro i mm v τ H' hm hi hv ⟨v0,rfl,hs,hD'⟩;obtain ⟨y,hy,rfl⟩:=iB hv;have hiy:=(aFO.mp hy).1;have es:ts[i]? = some ts[i]:=aFK (by omega);have hmt:ts[i]∈ts:=aGt (by omega);generalize ts[i]=t at es hmt;refine uT ?_;refine ⟨_,rfl,y,t,dd,m/ts.length,rfl,(kk i y t hy es).same hs,pk t hmt,by omega,by omega,aFJ (aGU _ _) m6,fun H2 s2=>?_⟩;refine bA hm hi (s2 _ _ hD') (by rw [aFF,aFF,aGe]; exact aQ (by omega)) ⟨_,rfl,(hs.trans s2).upd_new hD _,?_⟩;rw [aB,take_snoc es,aFN,aFN]
   rfl
  case done =>
  rintro τ H1 ⟨v0,rfl,s1,hD1⟩;rw [hpl,l,aF3] at hD1;have c3:(Str.ofString ", ").length=2:=by decide
  have jl:=fK (sep:=Str.ofString ", ") (ts:=ts.map (Bb n0)) (B:=4920) fun z hz=>by
   obtain ⟨t,ht,rfl⟩:=aFL.mp hz;exact wQ (pk t ht) (by omega) (aFJ (aGU _ _) m6)
  have jm:=iJ (Str.ofString ", ") (ts.map (Bb n0));rw [aFF,c3] at jl jm;refine ⟨_,D,_,rfl,rfl,bV.of hD1,by rw [aFF,c3]; omega,_,_,rfl,rfl,by rw [len_app,len_app]; omega,_,_,rfl,rfl,by rw [len_app,len_app,len_app]; omega,?_⟩;exact q H1 s1
theorem uV {n:Nat}{f:Addr}{fd:FuncData}(F:dJ K "write_plan" "write_plan" (top 53) f fd){cl:Cl}{cP:Addr}(kn:Kn.CK K cl cP)(aCF:mg "Stop" = some (.ref cl.cS))(aCG:mg "Take" = some (.ref cl.cT)){n0:Nat}{aB0:Addr}{aBM:FuncData}(R_:dI P w K mg base n "write_plan" ["plan"] (J9 cl n0) aB0 aBM){i_:Addr}{gV:FuncData}(e_:dI P w K mg base n "write_whole" ["number"] Ex i_ gV)(a_:mg "isinstance" = none):aX P w K mg base dG (n+1) f fd ["plan"] (J9 cl (n0+1)):=by
 refine F.ok mX (fun vs H Q E h=>?_) (fun cdv A outer s H vs Q E hr h=>?_)
 ·obtain ⟨x,t,d,m,rfl,_⟩:=h
  rfl
 obtain ⟨x,t,d,m,rfl,tr,pk,dn,d41,m6,q⟩:=h;have nd:=mX.nd;refine ⟨_,(aF (b8 (dC (bD (gP (K:=K) rfl) rfl a_ bM (aA (pv 0) (aA (cY (v:=.ref cl.cS) rfl aCF rfl) aC)))) (aJ (aN aU)) bB) (aF (aY (i:=1) nd rfl (Or.inl rfl) (aH e_ hr (aA (fQ (pv 0) rfl) aC))) (aF (b8 (dC (bD (gP (K:=K) rfl) rfl a_ bM (aA (pv 0) (aA (cY (v:=.ref cl.cT) rfl aCG rfl) aC)))) (aJ (aN (aM bC (aM bC (aM bC aU (pv 1)) aU) (aH R_ hr (aA (fQ (pv 0) rfl) aC))))) bB) (aJ (aN (aM bC (aM bC (aM bC (aM bC aU (pv 1)) aU) (gG PySem.F.plainAttrs_str PySem.F.slot_str_join PySem.F.type_str_join jC aU (aA (cA (ls:=["then"]) (M:=["plan","box"]) rfl (bL.of (by rfl)) (NL.of (by rfl)) (jV (fQ (pv 0) rfl)) (fun _ _ _ _=>⟨(aP (i:=0) (cB (by rfl)) rfl (Or.inl rfl)),bR,(aH R_ hr (aA (pv 0) aC))⟩)) aC))) aU)))))),?_⟩;cases pk with
 | stop dd m hm =>
  cases tr with
  | stop h =>
   refine ⟨_,rfl,.ref x,cl.cS,_,true,rfl,kn.ty kn.s h,kn.sS,_,rfl,?_⟩;exact iR (q H (aR.refl _))
 | @take b t dd _ hb pk hm =>
  cases tr with
  | @take _ dx p _ _ h kk =>
  have lb:=mJ hb;have d1:(Str.ofString "take ").length=5:=by decide
  have d2:(Str.ofString " ").length=1:=by decide
  have d3:(Str.ofString "open ").length=5:=by decide
  have d4:(Str.ofString " (").length=2:=by decide
  have d5:(Str.ofString ")").length=1:=by decide
  have l2:=wQ (n:=n0) pk (by omega) m6;refine ⟨_,rfl,.ref x,cl.cS,_,false,rfl,kn.ty kn.t h,kn.tS,_,rfl,?_⟩;refine eX ?_;refine ⟨_,rfl,x,cl.cT,dx,_,_,rfl,h,kn.t.cl,kn.tb,O8 _ _,b,rfl,gJ hb.1 (by omega),?_⟩;refine ⟨_,rfl,.ref x,cl.cT,_,true,rfl,kn.ty kn.t h,kn.tT,_,rfl,?_⟩;refine iR ?_;refine ⟨_,rfl,_,_,rfl,rfl,by omega,_,_,rfl,rfl,by rw [len_app]; omega,?_⟩;refine ⟨_,rfl,x,cl.cT,dx,_,_,rfl,h,kn.t.cl,kn.tt,Jf _ _,p,t,dd,m,rfl,kk,pk,by omega,by omega,m6,fun H1 s1=>?_⟩;exact ⟨_,_,rfl,rfl,by rw [len_app,len_app]; omega,q H1 s1⟩
 | @opn b ts dd _ hb h1 hl lm pk =>
  cases tr with
  | @opn _ dx qa ps _ _ h g l kk =>
  have lb:=mJ hb;have d1:(Str.ofString "take ").length=5:=by decide
  have d2:(Str.ofString " ").length=1:=by decide
  have d3:(Str.ofString "open ").length=5:=by decide
  have d4:(Str.ofString " (").length=2:=by decide
  have d5:(Str.ofString ")").length=1:=by decide
  have hpl:(ps.map V.ref).length=ps.length:=aFF _;refine ⟨_,rfl,.ref x,cl.cS,_,false,rfl,kn.ty kn.o h,kn.oS,_,rfl,?_⟩;refine eX ?_;refine ⟨_,rfl,x,cl.cO,dx,_,_,rfl,h,kn.o.cl,kn.ob,Nj _ _,b,rfl,gJ hb.1 (by omega),?_⟩;refine ⟨_,rfl,.ref x,cl.cT,_,false,rfl,kn.ty kn.o h,kn.oT,_,rfl,?_⟩;refine eX ?_;refine ⟨_,rfl,_,_,rfl,rfl,by omega,_,_,rfl,rfl,by rw [len_app]; omega,?_⟩;refine ⟨rfl,_,rfl,x,cl.cO,dx,_,_,rfl,h,kn.o.cl,kn.op,JQ _ _,qa,rfl,⟨_,bW.of g⟩,fun D hD=>?_⟩;refine gD (xs:=ps.map V.ref) (fun i τ H'=>∃ v0,τ = [v0,some (.ref x),some (.str (iQ b))]/\aR H H'/\H' D=some (.lst (((ts.take i).map (Bb n0)).map V.str))) ⟨none,rfl,aG hD _,aB⟩ ?keep ?turn ?done
  case keep =>
   rintro i τ H' hi ⟨v0,rfl,hs,_⟩;exact bW.of (hs _ _ g)
  case turn =>
   rintro i mm v τ H' hm hi hv ⟨v0,rfl,hs,hD'⟩;obtain ⟨y,hy,rfl⟩:=iB hv;have hiy:=(aFO.mp hy).1;have es:ts[i]? = some ts[i]:=aFK (by omega);have hmt:ts[i]∈ts:=aGt (by omega);generalize ts[i]=t at es hmt;refine uT ?_;refine ⟨_,rfl,y,t,dd,m/ts.length,rfl,(kk i y t hy es).same hs,pk t hmt,by omega,by omega,aFJ (aGU _ _) m6,fun H2 s2=>?_⟩;refine bA hm hi (s2 _ _ hD') (by rw [aFF,aFF,aGe]; exact aQ (by omega)) ⟨_,rfl,(hs.trans s2).upd_new hD _,?_⟩;rw [aB,take_snoc es,aFN,aFN]
   rfl
  case done =>
  rintro τ H1 ⟨v0,rfl,s1,hD1⟩;rw [hpl,l,aF3] at hD1;have c3:(Str.ofString ", ").length=2:=by decide
  have jl:=fK (sep:=Str.ofString ", ") (ts:=ts.map (Bb n0)) (B:=4920) fun z hz=>by
   obtain ⟨t,ht,rfl⟩:=aFL.mp hz;exact wQ (pk t ht) (by omega) (aFJ (aGU _ _) m6)
  have jm:=iJ (Str.ofString ", ") (ts.map (Bb n0));rw [aFF,c3] at jl jm;refine ⟨_,D,_,rfl,rfl,bV.of hD1,by rw [aFF,c3]; omega,_,_,rfl,rfl,by rw [len_app,len_app]; omega,_,_,rfl,rfl,by rw [len_app,len_app,len_app]; omega,?_⟩;exact q H1 s1
def La:Sp:=fun vs H Q _=>∃ s:Str,vs=[.str s]/\∀ H',aR H H'->Q (.bl true) H'
def zL:Sp:=fun vs H Q _=>∃ s:Str,vs=[.str s,.str s]/\∀ H',aR H H'->Q (.bl true) H'
def wO:Sp:=fun vs H Q _=>∃ c k:Int,vs=[.int c,.int k]/\∀ j,0<=j->j<2147483587->Q (.int j) H
def Im:Sp:=fun vs H Q _=>∃ (c b n:Int),vs=[.int c,.int b,.int n]/\n=901/\∀ r H' ns,aR H H'->H r=none->H' r=some (.lst (Is ns))->ns.length=901->Q (.ref r) H'
def Ht (n:Nat):Sp:=fun vs H Q _=>∃ (c k:Int) (d m:Nat),vs=[.int c,.int k,.int (d:Int),.int (m:Int)]/\1<=d/\d<=n/\1<=m/\m<=6/\∀ (r:Addr) (H':Hp) (t:Tr),aR H H'->lH H' r t->pG t d m->Q (.ref r) H'
def Js (cl:Cl)(n:Nat):Sp:=fun vs H Q _=>∃ (x:Addr) (t:Tr) (d:Nat),vs=[.ref x]/\lH H x t/\Dp t d/\d<=n/\∀ (y:Addr) (H':Hp),aR H H'->nR cl H' y t->Q (.ref y) H'
theorem KN {cl:Cl}{H:Hp}{D x:Addr}{us zs:List V}{t:Tr}(h:nR cl H x t)(e:H D=some (.lst us)):nR cl (bG H D (.lst zs)) x t:=by
 induction h with
 | stop h=>exact .stop (by rw [aK (cH h e fun z=>nomatch z)]; exact h)
 | take h _ ih=>exact .take (by rw [aK (cH h e fun z=>nomatch z)]; exact h) ih
 | opn h g l _ ih=>exact .opn (by rw [aK (cH h e fun z=>nomatch z)]; exact h) (by rw [aK (cH g e fun z=>nomatch z)]; exact g) l ih
theorem uM {n:Nat}{f:Addr}{fd:FuncData}(F:dJ K "_law_plain" "_law_plain" (top 57) f fd){aB1:Addr}{aBN:FuncData}(aB2:dI P w K mg base n "_law_plain" ["_law_thing"] VG aB1 aBN)(a_:mg "isinstance" = none)(aCC:mg "bool" = none)(aDi:mg "int" = none)(x_:mg "str" = none)(t_:mg "list" = none)(d_:mg "tuple" = none):aX P w K mg base dG (n+1) f fd ["_law_thing"] La:=by
 refine F.ok mU (fun vs H Q E h=>?_) (fun cdv A outer s H vs Q E hr h=>?_)
 ·obtain ⟨s0,rfl,_⟩:=h
  rfl
 obtain ⟨s0,rfl,q⟩:=h;have nd:=mU.nd;refine ⟨_,(aF (b8 (dC (bD (wZ (K:=K) rfl) rfl a_ bM (aA (pv 0) (aA (cU (aA (fX (v:=.ty "tuple") rfl d_ dH rfl) (aA (fX (v:=.ty "list") rfl t_ iU rfl) aC))) aC)))) (aF (jQ PassesOwn.never rfl (jV (pv 0)) (aP (i:=1) nd rfl (Or.inl rfl)) (aJ (b8 (d9 (dC (aH aB2 hr (aA (pv 1) aC)))) (aJ (aN kW)) bB))) (aJ (aN kW))) bB) (aF (b8 (PW.pt (jM (aZ Oi (pv 0) O5 (bK _)) (gK (dC (bD (dN (T:="str")) rfl a_ bM (aA (pv 0) (aA (fX (v:=.ty "str") rfl x_ gY rfl) aC))))))) (aJ (aN kW)) bB) (aJ (aN (pM (bD (dN (T:="int")) rfl a_ bM (aA (pv 0) (aA (fX (v:=.ty "int") rfl aDi HS rfl) aC))) (pJ (Iv (bD (dN (T:="bool")) rfl a_ bM (aA (pv 0) (aA (fX (v:=.ty "bool") rfl aCC Dt rfl) aC)))))))))),?_⟩;refine ⟨_,rfl,qP,fun t ht=>?_⟩;have n1:=aG ht (.tup [.ty "tuple",.ty "list"]);refine ⟨_,t,_,["tuple","list"],false,rfl,.str s0,aB,(by rfl),_,rfl,?_⟩;refine eX ?_;refine ⟨_,rfl,rfl,_,rfl,?_⟩;refine eX ?_;refine ⟨_,rfl,_,_,_,rfl,.str s0,gA _,_,rfl,?_⟩;exact iR (q _ n1)
theorem xU {n:Nat}{f:Addr}{fd:FuncData}(F:dJ K "_law_same" "_law_same" (top 58) f fd){aB1:Addr}{aBN:FuncData}(aB2:dI P w K mg base n "_law_plain" ["_law_thing"] La aB1 aBN):aX P w K mg base dG (n+1) f fd ["_law_found","_law_due"] zL:=by
 refine F.ok nY (fun vs H Q E h=>?_) (fun cdv A outer s H vs Q E hr h=>?_)
 ·obtain ⟨s0,rfl,_⟩:=h
  rfl
 obtain ⟨s0,rfl,q⟩:=h;have nd:=nY.nd;refine ⟨_,(aJ (aN (pM (aH aB2 hr (aA (pv 0) aC)) (pJ (Eh dM (pv 0) (pv 1) (bK _)))))),?_⟩;refine ⟨_,rfl,s0,rfl,fun H1 s1=>?_⟩;refine ⟨_,rfl,?_⟩;refine iR ?_;refine ⟨_,rfl,_,rfl,rfl,?_⟩;rw [decide_eq_true rfl];exact q H1 s1
theorem xT {n:Nat}{f:Addr}{fd:FuncData}(F:dJ K "_law_plan" "_law_plan" (top 66) f fd){n0:Nat}{aB8:Addr}{aB3:FuncData}(aAV:dI P w K mg base n "_law_plan" ["_law_cell","_law_k","_law_deep","_law_most"] (Ht n0) aB8 aB3){l_:Addr}{j_:FuncData}(b_:dI P w K mg base n "_law_mixed" ["_law_cell","_law_k"] wO l_ j_)(d_:mg "tuple" = none)(k_:mg "range" = none):aX P w K mg base dG (n+1) f fd ["_law_cell","_law_k","_law_deep","_law_most"] (Ht (n0+1)):=by
 refine F.ok oF (fun vs H Q E h=>?_) (fun cdv A outer s H vs Q E hr h=>?_)
 ·obtain ⟨c,kk,d,m,rfl,_⟩:=h
  rfl
 obtain ⟨c,kk,d,m,rfl,d1,dn,m1,m6,q⟩:=h;have nd:=oF.nd;refine ⟨_,(aF (aY (i:=4) nd rfl (Or.inl rfl) (aH b_ hr (aA (pv 0) (aA (pv 1) aC)))) (aF (b8 (PW.pt (jM (aZ dM (pv 2) aD (bK _)) (gK (PW.pt (Cr (aZ dM (aM bU (pv 4) aD) (aM bU (aH b_ hr (aA (pv 0) (aA aD aC))) aD) (bK _)) (xE (aZ zJ (pv 3) aD (bK _)))))))) (aJ (aN (cU (aA aU aC)))) bB) (aF (aY (i:=5) nd rfl (Or.inl rfl) (aM bU (aH b_ hr (aA (pv 0) (aA (aM cL (pv 1) aD) aC))) aD)) (aF (aY (i:=6) nd rfl (Or.inr rfl) (aM cL aD (aM bU (aM gO (pv 4) aD) aD))) (aF (b8 (PW.pt (jM (aZ dM (aM bU (aM gO (pv 4) aD) aD) aD (bK _)) (gK (aZ uC (pv 6) (pv 3) (bK _))))) (aJ (aN (cU (aA aU (aA (pv 5) (aA (aH aAV hr (aA (pv 0) (aA (aM cL (aM yC aD (pv 1)) aD) (aA (aM pC (pv 2) aD) (aA (pv 3) aC))))) aC)))))) bB) (aJ (aN (cU (aA aU (aA (pv 5) (aA (bJ (bQ (K:=K) rfl) rfl d_ dH (aA (cA (ls:=["_law_j"]) (M:=["_law_cell","_law_k","_law_deep","_law_most","_law_number","_law_box_here","_law_many"]) rfl (bL.of (by rfl)) (NL.of (by rfl)) (eZ rfl k_ (aA (pv 6) aC)) (fun _ _ _ _=>⟨(aP (i:=0) (cB (by rfl)) rfl (Or.inl rfl)),bR,(aH aAV hr (aA (pv 1) (aA (aM cL (aM cL (aM yC aD (pv 2)) aD) (pv 0)) (aA (aM pC (pv 3) aD) (aA (aM gO (pv 4) (pv 7)) aC)))))⟩)) aC)) aC))))))))))),?_⟩;have stp:∀ (r:Addr),H r=none->Q (.ref r) (bG H r (.tup [.str "stop"])):=fun r hr0=>by
  obtain ⟨d',rfl⟩:∃ d',d=d'+1:=⟨d-1,by omega⟩
  exact q r _ .stop (aG hr0 _) (.stop aB) (.stop d' m m1)
 refine ⟨_,rfl,_,rfl,c,kk,rfl,fun nu nu0 nu1=>?_⟩;refine ⟨_,rfl,rfl,_,rfl,?_⟩;refine lG (fun _=>⟨sz1,stp⟩) (fun z=>?_);have hd1:d≠1:=fun e=>z (by rw [e]; rfl);refine ⟨_,rfl,_,_,rfl,rfl,(by show (0:Int)<7; decide),_,rfl,c,6,rfl,fun n6 _ _=>?_⟩;refine ⟨_,_,rfl,rfl,(by show (0:Int)<9; decide),rfl,_,rfl,?_⟩;refine Hc ?st (fun hS=>?en)
 case en =>
  refine ⟨_,rfl,_,_,rfl,rfl,_,rfl,?_⟩;exact lG (fun _=>⟨sz1,stp⟩) (fun _=>hS)
 obtain ⟨e,rfl⟩:∃ e,d=e+1:=⟨d-1,by omega⟩
 refine ⟨_,rfl,_,rfl,_,_,rfl,rfl,c,kk+7000,rfl,fun bx _ _=>?_⟩;have b0:=aGh bx (show (6:Int)≠0 by decide);have b1:=aGc bx (show (0:Int)<6 by decide);refine ⟨_,_,rfl,rfl,(by show (0:Int)<6; decide),?_⟩;have w0:=aGh (nu/7) (show (4:Int)≠0 by decide);have w1:=aGc (nu/7) (show (0:Int)<4 by decide);refine ⟨_,rfl,_,_,rfl,rfl,⟨by decide,by decide⟩,_,_,rfl,rfl,(by show (0:Int)<4; decide),_,_,rfl,rfl,?_⟩;have take:K5 (M9 (lL (tC (.str "take")) (lL (uE 5) (lL (wH (Ht n0) [] E0 (lL (uE 0) (lL (J4 (J6 fun i j=>.int (i+j)) (J4 (rI K7 fun i j=>.int (i*j)) (tC (.int 5)) (uE 1)) (tC (.int 1))) (lL (J4 (J6 fun i j=>.int (i-j)) (uE 2) (tC (.int 1))) (lL (uE 3) uK))))) uK)))) { nx:=fun _ H'=>Q .non H',rt:=Q } [some (.int c),some (.int kk),some (.int ((e+1:Nat):Int)),some (.int (m:Int)),some (.int nu),some (.int (bx%6)),some (.int (1+nu/7%4))] H:=by
  refine ⟨_,rfl,_,rfl,_,rfl,_,_,rfl,rfl,.inl ⟨by decide,by decide⟩,_,_,rfl,rfl,_,rfl,_,_,rfl,rfl,_,rfl,c,5*kk+1,e,m,?_,by omega,by omega,m1,m6,fun r H1 t s1 h1 p1=>⟨KH,fun r2 hr2=>?_⟩⟩
  ·show [V.int c,V.int _,V.int (((e+1:Nat):Int)-1),V.int _]=_;rw [show (((e+1:Nat):Int)-1)=(e:Int) by omega]
  have n2:=aG hr2 (.tup [.str "take",.int (bx%6),.ref r]);exact q r2 _ (.take (bx%6) t) (s1.trans n2) (.take aB (h1.same n2)) (.take ⟨b0,by omega⟩ p1 m1)
 refine ⟨_,rfl,_,_,rfl,rfl,⟨by decide,by decide⟩,_,_,rfl,rfl,(by show (0:Int)<3; decide),rfl,_,rfl,?_⟩;refine lG (fun _=>take) (fun _=>?_);refine ⟨_,rfl,_,rfl,_,_,rfl,rfl,_,rfl,?_⟩;refine lG (fun _=>take) (fun z2=>?_);have z3:¬ (1+nu/7%4 > (m:Int)):=fun e=>z2 (decide_eq_true e);obtain ⟨M,hM⟩:∃ M:Nat,1+nu/7%4=(M:Int):=⟨(1+nu/7%4).toNat,by omega⟩
 have M1:1<=M:=by omega
 have M4:M<=4:=by omega
 have Mm:M<=m:=by omega
 have mq:1<=m/M:=(aHP (by omega)).mpr (by omega);refine ⟨_,rfl,_,rfl,(1+nu/7%4),rfl,by omega,by omega,fun D hD=>?_⟩;rw [hM];refine iC (n:=M) (fun i τ H'=>∃ (v0:Option V) (ps:List Addr) (ts:List Tr),τ = [v0,some (.int c),some (.int kk),some (.int ((e+1:Nat):Int)),some (.int (m:Int)),some (.int nu),some (.int (bx%6)),some (.int (M:Int))]/\aR H H'/\H' D=some (.lst (ps.map V.ref))/\ps.length=i/\ts.length=i/\(∀ (j:Nat) p t,ps[j]? = some p->ts[j]? = some t->lH H' p t)/\∀ t∈ts,pG t e (m/M)) ⟨none,[],[],by rw [<- hM]; rfl,aG hD _,aB,rfl,rfl,(fun j p t h=>by simp at h),fun _ h=>nomatch h⟩ ?turn ?done
 case turn =>
  rintro i mm τ H' hm hi ⟨v0,ps,ts,rfl,hs,hD',lp,lt,tr,pk⟩;unfold kZ;refine cW ?_;refine ⟨_,rfl,_,rfl,_,_,rfl,rfl,.inl ⟨by decide,by decide⟩,_,_,rfl,rfl,_,rfl,_,_,rfl,rfl,_,rfl,_,_,rfl,rfl,_,rfl,_,rfl,_,_,rfl,rfl,⟨by show (0:Int)<(M:Int); omega,by show (M:Int)<1073741824; omega⟩,c,5*kk+1+(0+(i:Int)),e,m/M,?_,by omega,by omega,mq,aFJ (aGU _ _) m6,fun r H2 t s2 h2 p2=>?_⟩
  ·show [V.int c,V.int _,V.int (((e+1:Nat):Int)-1),V.int _]=_;rw [show (((e+1:Nat):Int)-1)=(e:Int) by omega];rw [aIl]
  ·refine bA hm hi (s2 _ _ hD') (by rw [aFF]; exact aQ (by omega)) ⟨_,ps++[r],ts++[t],rfl,(hs.trans s2).upd_new hD _,by rw [aB,aFN]; rfl,by rw [aFZ,lp]; rfl,by rw [aFZ,lt]; rfl,fun j p u hp hu=>?_,fun u hu=>?_⟩
   ·have kp:∀ {x:Addr}{w:Tr},lH H2 x w->lH (bG H2 D (.lst (ps.map V.ref++[.ref r]))) x w:=fun h=>h.keep fun b xs eb=>by rw [aK (cH eb (s2 _ _ hD') fun z=>nomatch z)]; exact eb
    by_cases hj:j<ps.length
    ·rw [aGd hj] at hp;rw [aGd (by omega)] at hu;exact kp ((tr j p u hp hu).same s2)
    ·have hj2:=(aFO.mp hp).1;rw [aFZ,aGq] at hj2;rw [aF9 (by omega),show j-ps.length=0 by omega] at hp;rw [aF9 (by omega),show j-ts.length=0 by omega] at hu;cases hp;cases hu;exact kp h2
   ·rcases aF4.mp hu with z | z
    ·exact pk u z
    ·rw [aFR.mp z]; exact p2
 case done =>
  rintro τ H' ⟨v0,ps,ts,rfl,hs,hD',lp,lt,tr,pk⟩;refine ⟨D,_,rfl,.inl ⟨bV.of hD',fun q2 hq2=>?_⟩⟩;have n2:=aG hq2 (.tup (ps.map V.ref));refine ⟨KH,fun r hr0=>?_⟩;have n3:=aG hr0 (.tup [.str "open",.int (bx%6),.ref q2]);refine q r _ (.opn (bx%6) ts) (hs.trans (n2.trans n3)) (.opn aB (n3 _ _ aB) (by omega) fun j p t hp ht=>(tr j p t hp ht).same (n2.trans n3)) (.opn ⟨b0,by omega⟩ (by omega) (by omega) (by omega) (by rw [lt]; exact pk))
theorem yF {n:Nat}{f:Addr}{fd:FuncData}(F:dJ K "_law_made" "_law_made" (top 67) f fd){cl:Cl}{iT iO:Addr}{dT dO:FuncData}{kT kO:Nat}(aEY:Sq K cl.cS)(aCF:mg "Stop" = some (.ref cl.cS))(aEZ:Mk K cl.cT iT)(aE0:aX P w K mg base dG kT iT dT ["self","box","then"] (W6 cl.cT))(aE1:Binds K dT ["self","box","then"] [])(aCG:mg "Take" = some (.ref cl.cT))(aEE:kT+1<=n)(aE2:Mk K cl.cO iO)(aE3:aX P w K mg base dG kO iO dO ["self","box","plans"] (S8 cl.cO))(aE4:Binds K dO ["self","box","plans"] [])(aDH:mg "Open" = some (.ref cl.cO))(aEF:kO+1<=n){n0:Nat}{aB9:Addr}{aB4:FuncData}(aA8:dI P w K mg base n "_law_made" ["_law_told"] (Js cl n0) aB9 aB4):aX P w K mg base dG (n+1) f fd ["_law_told"] (Js cl (n0+1)):=by
 refine F.ok nW (fun vs H Q E h=>?_) (fun cdv A outer s H vs Q E hr h=>?_)
 ·obtain ⟨x,t,d,rfl,_⟩:=h
  rfl
 obtain ⟨x,t,d,rfl,tr,dp,dn,q⟩:=h;have nd:=nW.nd;refine ⟨_,(aF (b8 (aZ dM (bI bF (pv 0) aD (fun _ _=>rfl)) aU (bK _)) (aJ (aN (JF aEY rfl aCF))) bB) (aF (b8 (aZ dM (bI bF (pv 0) aD (fun _ _=>rfl)) aU (bK _)) (aJ (aN (jR aEZ aE0 (hr.mono aEE) rfl aCG aE1 .nil fG (aA (bI bF (pv 0) aD (fun _ _=>rfl)) (aA (aH aA8 hr (aA (bI bF (pv 0) aD (fun _ _=>rfl)) aC)) aC))))) bB) (aJ (aN (jR aE2 aE3 (hr.mono aEF) rfl aDH aE4 .nil fG (aA (bI bF (pv 0) aD (fun _ _=>rfl)) (aA (cA (ls:=["_law_part"]) (M:=["_law_told"]) rfl (bL.of (by rfl)) (NL.of (by rfl)) (jV (bI bF (pv 0) aD (fun _ _=>rfl))) (fun _ _ _ _=>⟨(aP (i:=0) (cB (by rfl)) rfl (Or.inl rfl)),bR,(aH aA8 hr (aA (pv 0) aC))⟩)) aC))))))),?_⟩;cases dp with
 | stop dd =>
  cases tr with
  | stop h =>
   refine ⟨_,rfl,x,_,_,_,rfl,rfl,bW.of h,rfl,rfl,_,rfl,pA rfl ?_⟩;intro y dy hy hdy ndy;have nO:aR H (bG (bG H dy (.own y)) y (.ins cl.cS dy [])):=(aG hdy (.own y)).trans (aG (by rw [aK (Ne.symm ndy)]; exact hy) _);exact q y _ nO (.stop aB)
 | @take b t dd dp =>
  cases tr with
  | @take _ p _ _ h kk =>
   refine ⟨_,rfl,x,_,_,_,rfl,rfl,bW.of h,rfl,rfl,_,rfl,mK rfl ?_⟩;refine ⟨_,rfl,x,_,_,_,rfl,rfl,bW.of h,rfl,rfl,_,rfl,pA rfl ?_⟩;refine ⟨_,rfl,x,_,_,_,rfl,rfl,bW.of h,rfl,?_⟩;refine ⟨_,rfl,x,_,_,_,rfl,rfl,bW.of h,rfl,p,t,dd,rfl,kk,dp,by omega,fun z H1 s1 hz=>?_⟩;intro y dy hy hdy ndy;have nO:aR H1 (bG (bG H1 dy (.own y)) y (.ins cl.cT dy [])):=(aG hdy (.own y)).trans (aG (by rw [aK (Ne.symm ndy)]; exact hy) _);refine ⟨y,dy,b,z,rfl,aB,fun H2 h2 kp=>⟨rfl,?_⟩⟩;have s2:aR H1 H2:=fun a o e=>by
    have ne:=aV e hy;rw [kp a ne,aK ne];exact aG hdy (.own y) a o e
   exact q y H2 (s1.trans s2) (.take h2 (hz.same s2))
 | @opn b ts dd dp hl =>
  cases tr with
  | @opn _ qa ps _ _ h g l kk =>
   have hpl:(ps.map V.ref).length=ps.length:=aFF _;refine ⟨_,rfl,x,_,_,_,rfl,rfl,bW.of h,rfl,rfl,_,rfl,mK rfl ?_⟩;refine ⟨_,rfl,x,_,_,_,rfl,rfl,bW.of h,rfl,rfl,_,rfl,mK rfl ?_⟩;refine ⟨_,rfl,x,_,_,_,rfl,rfl,bW.of h,rfl,?_⟩;refine ⟨_,rfl,x,_,_,_,rfl,rfl,bW.of h,rfl,qa,rfl,⟨_,bW.of g⟩,fun D hD=>?_⟩;refine gD (xs:=ps.map V.ref) (fun i τ H'=>∃ (v0:Option V) (rs:List Addr),τ = [v0,some (.ref x)]/\aR H H'/\H' D=some (.lst (rs.map V.ref))/\rs.length=i/\∀ (j:Nat) y t,rs[j]? = some y->ts[j]? = some t->nR cl H' y t) ⟨none,[],rfl,aG hD _,aB,rfl,fun j y t h=>by simp at h⟩ ?keep ?turn ?done
   case keep =>
    rintro i τ H' hi ⟨v0,rs,rfl,hs,_⟩;exact bW.of (hs _ _ g)
   case turn =>
    rintro i mm v τ H' hm hi hv ⟨v0,rs,rfl,hs,hD',lr,kn⟩;obtain ⟨y,hy,rfl⟩:=iB hv;have hiy:=(aFO.mp hy).1;have es:ts[i]? = some ts[i]:=aFK (by omega);have hmt:ts[i]∈ts:=aGt (by omega);generalize ts[i]=t at es hmt;refine uT ?_;refine ⟨_,rfl,y,t,dd,rfl,(kk i y t hy es).same hs,dp t hmt,by omega,fun z H2 s2 hz=>?_⟩;refine bA hm hi (s2 _ _ hD') (by rw [aFF]; exact aQ (by omega)) ⟨_,rs++[z],rfl,(hs.trans s2).upd_new hD _,by rw [aB,aFN]; rfl,by rw [aFZ,lr]; rfl,fun j p u hp hu=>?_⟩;have kp:∀ {x:Addr}{w:Tr},nR cl H2 x w->nR cl (bG H2 D (.lst (rs.map V.ref++[.ref z]))) x w:=fun h=>KN h (s2 _ _ hD')
    by_cases hj:j<rs.length
    ·rw [aGd hj] at hp;exact kp ((kn j p u hp hu).same s2)
    ·have hj2:=(aFO.mp hp).1;rw [aFZ,aGq] at hj2;rw [aF9 (by omega),show j-rs.length=0 by omega] at hp;cases hp;rw [show j=i by omega,es] at hu;cases hu;exact kp hz
   case done =>
    rintro τ H1 ⟨v0,rs,rfl,s1,hD1,lr,kn⟩;rw [hpl] at lr;intro y dy hy hdy ndy;have nO:aR H1 (bG (bG H1 dy (.own y)) y (.ins cl.cO dy [])):=(aG hdy (.own y)).trans (aG (by rw [aK (Ne.symm ndy)]; exact hy) _);refine ⟨y,dy,b,D,rs,rfl,aB,nO _ _ hD1,fun q2 H2 hq2 h2 g2 kp=>⟨rfl,?_⟩⟩;have s2:aR H1 H2:=fun a o e=>kp a o (nO _ _ e) (aV e hy);exact q y H2 (s1.trans s2) (.opn h2 g2 (by omega) fun j p u hp hu=>(kn j p u hp hu).same s2)
end
end K85
namespace K85
open PySem L2 TD
open Builtin.Int (intBits)
section
variable {P:Program}{w:World}{K:PySem.W.Frag}{mg:Str->Option Value}{base:Heap}{Pt:Addr}
theorem uZ {n:Nat}{f:Addr}{fd:FuncData}(F:dJ K "_law_mixed" "_law_mixed" (top 56) f fd):aX P w K mg base dG (n+1) f fd ["_law_cell","_law_k"] wO:=by
 refine F.ok mY (fun vs H Q E h=>?_) (fun cdv A outer s H vs Q E hr h=>?_)
 ·obtain ⟨c,i,rfl,_⟩:=h
  rfl
 obtain ⟨c,i,rfl,q⟩:=h;have nd:=mY.nd;refine ⟨_,(aF (aY (i:=2) nd rfl (Or.inl rfl) (aM bU (aM cL (aM cL (aM cV (aM bU (pv 0) aD) aD) (aM yC aD (pv 1))) aD) aD)) (aF (aY (i:=2) nd rfl (Or.inl rfl) (aM bU (aM cL (aM cV (pv 2) (pv 2)) (aM yC aD (pv 1))) aD)) (aJ (aN (aM bU (aM cV (pv 2) (pv 2)) aD))))),?_⟩;have b1:∀ x:Int,0<=x->x<2147483648->intBits x<=64:=fun x h1 h2=>PySem.intBits_le_64 (by omega) (by omega);have m1:=Bd c (show (0:Int)<2147483647 by decide);refine ⟨_,rfl,_,_,rfl,rfl,(by show (0:Int)<2147483647; decide),_,_,rfl,rfl,fP (b1 _ m1.1 (by omega)) (b1 48271 (by decide) (by decide)) (by decide),_,rfl,_,_,rfl,rfl,.inl ⟨by decide,by decide⟩,_,_,rfl,rfl,_,_,rfl,rfl,_,_,rfl,rfl,(by show (0:Int)<2147483647; decide),?_⟩;have n1:=Bd (c%2147483647*48271+7919*i+1) (show (0:Int)<2147483647 by decide);have nb:=b1 _ n1.1 (aIf n1.2 (by decide));refine ⟨_,rfl,_,rfl,_,_,rfl,rfl,fP nb nb (by decide),_,rfl,_,_,rfl,rfl,.inl ⟨by decide,by decide⟩,_,_,rfl,rfl,_,_,rfl,rfl,(by show (0:Int)<2147483629; decide),?_⟩;have k1:=Bd (((c%2147483647*48271+7919*i+1)%2147483647)*((c%2147483647*48271+7919*i+1)%2147483647)+7*i) (show (0:Int)<2147483629 by decide);have kb:=b1 _ k1.1 (aIf k1.2 (by decide));refine ⟨_,rfl,_,rfl,_,_,rfl,rfl,fP kb kb (by decide),_,_,rfl,rfl,(by show (0:Int)<2147483587; decide),?_⟩;exact q _ (aGh _ (by decide)) (aGc _ (by decide))
theorem z6 {n:Nat}{f:Addr}{fd:FuncData}(F:dJ K "_law_row" "_law_row" (top 63) f fd){l_:Addr}{j_:FuncData}(b_:dI P w K mg base n "_law_mixed" ["_law_cell","_law_k"] wO l_ j_)(k_:mg "range" = none):aX P w K mg base dG (n+1) f fd ["_law_cell","_law_bit","_law_many"] Im:=by
 refine F.ok qN (fun vs H Q E h=>?_) (fun cdv A outer s H vs Q E hr h=>?_)
 ·obtain ⟨c,b,n,rfl,_⟩:=h
  rfl
 obtain ⟨c,b,n,rfl,rfl,q⟩:=h;have nd:=qN.nd;refine ⟨_,(aF (aY (i:=3) nd rfl (Or.inl rfl) (nH aC)) (aF (jQ PassesOwn.never rfl (eZ rfl k_ (aA (pv 2) aC)) (aP (i:=4) nd rfl (Or.inl rfl)) (aJ (b8 (aZ dM (aM bU (pv 1) aD) aD (bK _)) (aF (mD (gG PySem.F.plainAttrs_list PySem.F.slot_list_append PySem.F.type_list_append mQ (pv 3) (aA (aM bU (pv 0) aD) aC))) (aJ (aY (i:=0) nd rfl (Or.inl rfl) (aM eQ (pv 0) aD)))) (aJ (mD (gG PySem.F.plainAttrs_list PySem.F.slot_list_append PySem.F.type_list_append mQ (pv 3) (aA (aH b_ hr (aA (pv 0) (aA (pv 4) aC))) aC))))))) (aJ (aN (pv 3))))),?_⟩;refine ⟨aGa _,fun r hr0=>?_⟩;have n1:=aG hr0 (.lst []);refine ⟨_,rfl,901,rfl,by decide,by decide,?_⟩;refine pZ (n:=(901:Int).toNat) (fun i σ H'=>∃ c v ns,σ = [some (.int c),some (.int b),some (.int 901),some (.ref r),v]/\aR H H'/\H' r=some (.lst (Is ns))/\ns.length=i) ⟨c,none,[],rfl,n1,aB,rfl⟩ ?turn ?done
 case done =>
  rintro σ H' ⟨c,v,ns,rfl,hs,hr1,nl⟩;exact ⟨_,rfl,q r H' ns hs hr0 hr1 nl⟩
 case turn =>
  rintro i σ H' hi ⟨c,v,ns,rfl,hs,hr1,nl⟩;have hi':i<901:=hi;refine ⟨_,rfl,_,_,rfl,rfl,(by show (0:Int)<2; decide),rfl,_,rfl,?_⟩;have push:∀ (z:Int),aR H (bG H' r (.lst (Is ns++[V.int z])))/\bG H' r (.lst (Is ns++[V.int z])) r=some (.lst (Is (ns++[z])))/\(ns++[z]).length=i+1:=fun z=>⟨hs.upd_new hr0 _,by rw [aB,xC],by rw [aFZ,nl]; rfl⟩
  refine lG (fun _=>?_) (fun _=>?_)
  ·refine ⟨_,rfl,.inl ⟨rfl,_,bV.of hr1⟩,_,rfl,_,_,rfl,rfl,(by show (0:Int)<2147483647; decide),r,_,_,rfl,rfl,hr1,by rw [dZ]; exact aQ (by omega),?_⟩;refine ⟨_,rfl,_,_,rfl,rfl,⟨by decide,by decide⟩,?_⟩;obtain ⟨a1,a2,a3⟩:=push (c%2147483647);exact ⟨_,_,_,rfl,a1,a2,a3⟩
  ·refine ⟨_,rfl,.inl ⟨rfl,_,bV.of hr1⟩,_,rfl,_,rfl,c,0+(i:Int),rfl,fun j _ _=>?_⟩;refine ⟨r,_,_,rfl,rfl,hr1,by rw [dZ]; exact aQ (by omega),?_⟩;obtain ⟨a1,a2,a3⟩:=push j;exact ⟨_,_,_,rfl,a1,a2,a3⟩
end
end K85
namespace K85
open PySem L2 TD TP
open Builtin.Int (intBits)
section
variable {P:Program}{w:World}{K:PySem.W.Frag}{mg:Str->Option Value}{base:Heap}{Pt:Addr}
theorem yQ {n:Nat}{f:Addr}{fd:FuncData}(F:dJ K "_law_box" "_law_box" (top 64) f fd){n0:Nat}{aCp:Addr}{aCa:FuncData}(aCq:dI P w K mg base n "_law_box" ["_law_row_here","_law_deep","_law_most","_law_scale"] (En n0) aCp aCa)(d_:mg "tuple" = none)(k_:mg "range" = none)(aDl:mg "min" = none):aX P w K mg base dG (n+1) f fd ["_law_row_here","_law_deep","_law_most","_law_scale"] (En (n0+1)):=by
 refine F.ok p8 (fun vs H Q E h=>?_) (fun cdv A outer s H vs Q E hr h=>?_)
 ·obtain ⟨L,ns,d,m,sc,rfl,_⟩:=h
  rfl
 obtain ⟨L,ns,d,m,sc,rfl,hL,dn,d4,h1,m12,s1,s9,hp,hq,q⟩:=h;have nd:=p8.nd;refine ⟨_,(aF (aY (i:=4) nd rfl (Or.inl rfl) (gG PySem.F.plainAttrs_list PySem.F.slot_list_pop PySem.F.type_list_pop lV (pv 0) (aA aD aC))) (aF (b8 (PW.pt (jM (aZ dM (pv 1) aD (bK _)) (jM (aZ dM (aM bU (pv 4) aD) aD (bK _)) (gK (PW.pt (Cr (aZ dM (pv 2) aD (bK _)) (xE (aZ uC (aM bU (pv 4) aD) aD (bK _))))))))) (aJ (aN (cU (aA aU (aA (aM bU (gG PySem.F.plainAttrs_list PySem.F.slot_list_pop PySem.F.type_list_pop lV (pv 0) (aA aD aC)) (pv 3)) aC))))) bB) (aF (aY (i:=5) nd rfl (Or.inl rfl) (bD (vK rfl) rfl aDl JR (aA (aM cL aD (aM bU (aM gO (pv 4) aD) aD)) (aA (pv 2) aC)))) (aF (aY (i:=6) nd rfl (Or.inl rfl) (aM gO (aM bU (gG PySem.F.plainAttrs_list PySem.F.slot_list_pop PySem.F.type_list_pop lV (pv 0) (aA aD aC)) (pv 3)) (aM cL aD (aM bU (aM gO (pv 4) aD) aD)))) (aF (aY (i:=7) nd rfl (Or.inl rfl) (nH aC)) (aF (jQ PassesOwn.never rfl (eZ rfl k_ (aA (pv 5) aC)) (aP (i:=8) nd rfl (Or.inl rfl)) (aF (aY (i:=9) nd rfl (Or.inl rfl) (aM cL aD (aM bU (gG PySem.F.plainAttrs_list PySem.F.slot_list_pop PySem.F.type_list_pop lV (pv 0) (aA aD aC)) (bI iY (nH (aA aD (aA aD aC))) (aM bU (aM gO (pv 4) aD) aD) (fun _ _=>rfl))))) (aJ (mD (gG PySem.F.plainAttrs_list PySem.F.slot_list_append PySem.F.type_list_append mQ (pv 7) (aA (cU (aA (pv 9) (aA (aH aCq hr (aA (pv 0) (aA (aM pC (pv 1) aD) (aA (aM gO (pv 2) (pv 5)) (aA (pv 3) aC))))) aC))) aC)))))) (aJ (aN (cU (aA aU (aA (pv 6) (aA (bJ (bQ (K:=K) rfl) rfl d_ dH (aA (pv 7) aC)) aC)))))))))))),?_⟩;cases ns with
 | nil=>have:=Nh d m; simp at hp; omega
 | cons m0 ns =>
 cases ns with
 | nil=>have:=Nh d m; simp at hp; omega
 | cons m1 ns =>
 have hlen:(m0::m1::ns).length=ns.length+2:=rfl;have p2:=Nh d m;have e1:=oG m1 (show 0<sc by omega);refine ⟨_,rfl,.inl ⟨rfl,_,bV.of hL⟩,L,_,0,0,.int m0,rfl,rfl,hL,by decide,by decide,Og (by simp),rfl,?_⟩;have hL1:bG H L (.lst (Is (m1::ns))) L=some (.lst (Is (m1::ns))):=aB;have k1:∀ b o,b≠L->H b=some o->bG (bG H L (.lst (Is (m1::ns)))) L (.lst (Is ns)) b=some o:=fun b o nb e=>by rw [aK nb,aK nb]; exact e
 have hL2:(bG (bG H L (.lst (Is (m1::ns)))) L (.lst (Is ns))) L=some (.lst (Is ns)):=aB;have fin:∀ r,(bG (bG H L (.lst (Is (m1::ns)))) L (.lst (Is ns))) r=none->Q (.ref r) (bG (bG (bG H L (.lst (Is (m1::ns)))) L (.lst (Is ns))) r (.tup [.str "end",.int (m1%sc)])):=fun r hr1=>by
  have n3:=aG hr1 (.tup [.str "end",.int (m1%sc)]);refine q r _ (.en (m1%sc)) ns (fun b o nb e=>n3 _ _ (k1 b o nb e)) (n3 _ _ hL2) (by omega) (by omega) (.en aB) (.en e1.1 (by omega) h1)
 refine ⟨_,rfl,rfl,_,rfl,?_⟩;refine lG (fun _=>?_) (fun c0=>?_)
 ·refine ⟨_,rfl,.inl ⟨rfl,_,bV.of hL1⟩,L,_,0,0,.int m1,rfl,rfl,hL1,by decide,by decide,Og (by simp),rfl,_,rfl,_,_,rfl,rfl,by omega,qP,fun r hr1=>?_⟩;exact fin r hr1
 have d0:d≠0:=fun e=>c0 (decide_eq_true (by rw [e]; rfl));refine ⟨_,rfl,_,_,rfl,rfl,(by show (0:Int)<5; decide),rfl,_,rfl,?_⟩;refine lG (fun _=>?_) (fun c1=>?_)
 ·refine ⟨_,rfl,.inl ⟨rfl,_,bV.of hL1⟩,L,_,0,0,.int m1,rfl,rfl,hL1,by decide,by decide,Og (by simp),rfl,_,rfl,_,_,rfl,rfl,by omega,qP,fun r hr1=>?_⟩;exact fin r hr1
 refine ⟨_,rfl,rfl,_,rfl,?_⟩;refine Hc ?st (fun hS=>?en)
 case en =>
  refine ⟨_,rfl,_,_,rfl,rfl,(by show (0:Int)<3; decide),_,_,rfl,rfl,_,rfl,?_⟩;refine lG (fun _=>?_) (fun _=>hS);refine ⟨_,rfl,.inl ⟨rfl,_,bV.of hL1⟩,L,_,0,0,.int m1,rfl,rfl,hL1,by decide,by decide,Og (by simp),rfl,_,rfl,_,_,rfl,rfl,by omega,qP,fun r hr1=>?_⟩;exact fin r hr1
 obtain ⟨d,rfl⟩:∃ d',d=d'+1:=⟨d-1,by omega⟩
 have b4:=oG (m0/5) (show (0:Int)<4 by decide);have b9:=oG (m0/40) (show (0:Int)<9 by decide);obtain ⟨M,hM,M1,M4,Mm⟩:∃ M:Nat,(if (m:Int)<1+m0/5%4 then (m:Int) else 1+m0/5%4)=(M:Int)/\1<=M/\M<=4/\M<=m:=by
  split
  ·exact ⟨m,rfl,h1,by omega,aFM _⟩
  ·exact ⟨(1+m0/5%4).toNat,by omega,by omega,by omega,by omega⟩
 refine ⟨_,rfl,_,_,rfl,rfl,⟨by decide,by decide⟩,_,_,rfl,rfl,(by show (0:Int)<4; decide),_,_,rfl,rfl,_,rfl,_,_,rfl,?_⟩;rw [hM];refine ⟨_,rfl,.inl ⟨rfl,_,bV.of hL1⟩,L,_,0,0,.int m1,rfl,rfl,hL1,by decide,by decide,Og (by simp),rfl,_,rfl,_,_,rfl,rfl,by omega,_,rfl,_,_,rfl,rfl,⟨by decide,by decide⟩,_,_,rfl,rfl,(by show (0:Int)<9; decide),_,_,rfl,rfl,_,_,rfl,rfl,⟨by omega,by omega⟩,?_⟩;refine ⟨aGa _,fun R hR=>?_⟩;have n3:=aG hR (.lst []);have hL3:=n3 _ _ hL2;have k3:∀ b o,b≠L->H b=some o->(bG (bG (bG H L (.lst (Is (m1::ns)))) L (.lst (Is ns))) R (.lst [])) b=some o:=fun b o nb e=>n3 _ _ (k1 b o nb e);have nRL:R≠L:=fun e=>by rw [e,aB] at hR; cases hR
 have hR0:H R=none:=by rw [aK nRL,aK nRL] at hR; exact hR
 have hR3:(bG (bG (bG H L (.lst (Is (m1::ns)))) L (.lst (Is ns))) R (.lst [])) R=some (.lst (([]:List Addr).map V.ref)):=aB;have pn:=X8 (d:=d) (m:=m) (n:=M) M1 M4 Mm;have cb:0<=m1%sc/(1+m0/40%9)/\m1%sc/(1+m0/40%9)<=1000000000:=by
  have a:=Int.ediv_nonneg e1.1 (show (0:Int)<=1+m0/40%9 by omega);have b:=Int.ediv_le_self (b:=1+m0/40%9) e1.1;exact ⟨a,by omega⟩
 refine ⟨_,rfl,(M:Int),rfl,by omega,by omega,?_⟩;refine pZ (n:=(M:Int).toNat) (fun i σ H'=>∃ v8 v9 ps ys rs ns3,σ = [some (.ref L),some (.int ((d+1:Nat):Int)),some (.int (m:Int)),some (.int sc),some (.int m0),some (.int (M:Int)),some (.int (m1%sc/(1+m0/40%9))),some (.ref R),v8,v9]/\(∀ b o,b≠L->H b=some o->H' b=some o)/\H' L=some (.lst (Is ns3))/\H' R=some (.lst (ps.map V.ref))/\u6 H' ps ys rs/\rs.length=i/\(∀ r∈rs,1<=r.1/\r.1<=1000)/\(∀ r∈rs,Sd.Ok r.2 d (m/M))/\ns.length<=ns3.length+i*(1+pp d (m/M))/\ns3.length<=ns.length)
  ⟨none,none,[],[],[],ns,rfl,k3,hL3,hR3,⟨rfl,rfl,(fun i q y t a=>by simp at a),(fun i y t a=>by simp at a)⟩,rfl,(fun _ h=>nomatch h),(fun _ h=>nomatch h),by omega,aFM _⟩ ?turn ?done
 case turn =>
  rintro i σ H' hi ⟨v8,v9,ps,ys,rs,ns3,rfl,kH,hLi,hRi,tw,rl,rw_,ro,l1,l2⟩;have hiM:i<M:=by omega
  have im:(i+1)*(1+pp d (m/M))<=M*(1+pp d (m/M)):=aGy _ hiM;have im2:(i+1)*(1+pp d (m/M))=i*(1+pp d (m/M))+(1+pp d (m/M)):=aIe _ _;cases ns3 with
  | nil=>exfalso; simp at l1; omega
  | cons z ns4 =>
  have l3:(z::ns4).length=ns4.length+1:=rfl;refine ⟨_,rfl,.inl ⟨rfl,_,bV.of hLi⟩,L,_,0,0,.int z,rfl,rfl,hLi,by decide,by decide,Og (by simp),rfl,?_⟩;refine ⟨qP,fun l hl=>?_⟩;have n5:=aG hl (.lst [.int 3,.int 1000]);obtain ⟨v,ev,hv⟩:=at2 (V.int 3) (V.int 1000) (m0/20);obtain ⟨u,rfl,u1,u9⟩:∃ u:Int,v=.int u/\1<=u/\u<=1000:=by
   rcases hv with e | e
   ·exact ⟨3,e,by decide,by decide⟩
   ·exact ⟨1000,e,by decide,by decide⟩
  refine ⟨_,rfl,_,_,rfl,rfl,⟨by decide,by decide⟩,_,_,rfl,rfl,(by show (0:Int)<2; decide),l,_,_,_,rfl,rfl,bV.of aB,ev,_,_,rfl,rfl,by omega,_,_,rfl,rfl,?_⟩;have zu:=oG z (show 0<u by omega);have hLj:bG (bG H' L (.lst (Is ns4))) l (.lst [.int 3,.int 1000]) L=some (.lst (Is ns4)):=n5 _ _ aB;have hRj:bG (bG H' L (.lst (Is ns4))) l (.lst [.int 3,.int 1000]) R=some (.lst (ps.map V.ref)):=n5 _ _ (by rw [aK nRL]; exact hRi);have kj:∀ b o,b≠L->H' b=some o->bG (bG H' L (.lst (Is ns4))) l (.lst [.int 3,.int 1000]) b=some o:=fun b o nb e=>n5 _ _ (by rw [aK nb]; exact e);refine ⟨_,rfl,.inl ⟨rfl,_,bV.of hRj⟩,_,rfl,_,rfl,_,rfl,_,_,rfl,rfl,_,rfl,_,rfl,_,_,rfl,rfl,⟨by omega,by omega⟩,_,rfl,L,ns4,d,m/M,sc,?_,hLj,by omega,by omega,?_,?_,s1,s9,by omega,by omega,fun r H6 s6 ns6 k6 hL6 l6 l7 t6 o6=>?_⟩
  ·have e1:((d+1:Nat):Int)-1=(d:Int):=by omega
   have e2:(m:Int)/(M:Int)=((m/M:Nat):Int):=(aIl m M).symm;show [V.ref L,V.int (((d+1:Nat):Int)-1),V.int ((m:Int)/(M:Int)),V.int sc]=_;rw [e1,e2]
  ·exact (aHP (by omega)).mpr (by omega)
  ·exact aFJ (aGU _ _) m12
  refine ⟨qP,fun T hT=>?_⟩;have n7:=aG hT (.tup [.int (1+z%u),.ref r]);have hR6:=k6 _ _ nRL hRj;have hR7:=n7 _ _ hR6;have nTR:T≠R:=fun e=>by rw [e,hR6] at hT; cases hT
  have pl:ps.length=i:=by rw [tw.lp,rl]
  have tR:∀ b xs,bG H6 T (.tup [.int (1+z%u),.ref r]) b=some (.tup xs)->bG (bG H6 T (.tup [.int (1+z%u),.ref r])) R (.lst (ps.map V.ref++[.ref T])) b=some (.tup xs):=fun b xs e=>by rw [aK (cH e hR7 fun w=>nomatch w)]; exact e
  have tw7:=((tw.keep fun b xs e=>n7 _ _ (k6 _ _ (cH e hLi fun w=>nomatch w) (kj _ _ (cH e hLi fun w=>nomatch w) e))).keep tR).snoc (t:=(1+z%u,s6)) (tR _ _ aB) ((t6.same n7).keep tR);refine ⟨R,_,_,rfl,rfl,hR7,by rw [aFF,pl]; exact aQ (by omega),?_⟩;refine ⟨_,_,ps++[T],ys++[r],rs++[(1+z%u,s6)],ns6,rfl,fun b o nb e=>?_,?_,by rw [aB,aFN]; rfl,tw7,by rw [aFZ,rl]; rfl,fun x hx=>?_,fun x hx=>?_,by omega,by omega⟩
  ·have hb:b≠R:=fun w=>by rw [w,hR0] at e; cases e
   rw [aK hb];exact n7 _ _ (k6 _ _ nb (kj _ _ nb (kH b o nb e)))
  ·rw [aK (Ne.symm nRL)];exact n7 _ _ hL6
  ·rcases aF4.mp hx with w | w
   ·exact rw_ x w
   ·rw [aFR.mp w];exact ⟨by show 1<=1+z%u; omega,by show 1+z%u<=1000; omega⟩
  ·rcases aF4.mp hx with w | w
   ·exact ro x w
   ·rw [aFR.mp w];exact o6
 case done =>
  rintro σ H' ⟨v8,v9,ps,ys,rs,ns3,rfl,kH,hLi,hRi,tw,rl,rw_,ro,l1,l2⟩;rw [show (M:Int).toNat=M by omega] at rl l1;refine ⟨_,rfl,_,rfl,R,_,rfl,.inl ⟨bV.of hRi,fun t ht=>?_⟩⟩;have n5:=aG ht (.tup (ps.map V.ref));refine ⟨KH,fun r hr1=>?_⟩;have n6:=aG hr1 (.tup [.str "stage",.int (m1%sc/(1+m0/40%9)),.ref t]);have tw6:=(tw.same n5).same n6;refine q r _ (.st (m1%sc/(1+m0/40%9)) rs) ns3 (fun b o nb e=>n6 _ _ (n5 _ _ (kH b o nb e))) (n6 _ _ (n5 _ _ hLi)) (by omega) (by omega) (.st aB (n6 _ _ aB) tw6.lp tw6.ly tw6.row tw6.sub) (.st (f:=fun _=>m/M) cb.1 cb.2 (fun e=>by rw [e] at rl; have:(0:Nat)=M:=rl; omega) (by omega) rw_ ro (by rw [List.map_const',List.sum_replicate_nat,rl]; exact Nat.mul_div_le m M))
end
end K85
namespace K85
open PySem L2 TD TP TX Kn
open Builtin.Int (intBits)
section
variable {P:Program}{w:World}{K:PySem.W.Frag}{mg:Str->Option Value}{base:Heap}{Pt:Addr}
inductive Ce:Sk->Prop
 | few {c:Int} (h0:0<=c) (h6:c<=6):Ce (.few c)
 | groups {gs ms:List Int} (g:Y4 gs ms):Ce (.groups gs ms)
 | listed {ks:List Int} (lt:ks.Pairwise (· < ·)) (ne:ks≠[]) (k:∀ x∈ks,0<=x/\x<=63):Ce (.listed ks)
def Uq (p:Kg)(H:Hp)(x:Addr):Sk->Prop
 | .few c=>HX p.f H x c
 | .groups gs ms=>Ov p.g H x gs ms
 | .listed ks=>Np p.l H x ks
def Zr:Sk->Str
 | .few c=>Str.ofString "few "++iQ c
 | .groups gs ms=>Str.ofString "groups "++HW gs++Str.ofString " / "++HW ms
 | .listed ks=>Str.ofString "listed "++HW ks
def Uj:Sp:=fun vs H Q _=>∃ c:Int,vs=[.int c]/\∀ (r:Addr) (H':Hp) (S:Sk),aR H H'->wX H' r S->Ce S->Q (.ref r) H'
def Lz (p:Kg):Sp:=fun vs H Q _=>∃ (r:Addr) (S:Sk),vs=[.ref r]/\wX H r S/\Ce S/\∀ (x:Addr) (H':Hp),aR H H'->Uq p H' x S->Q (.ref x) H'
def Kz:Sp:=fun vs H Q _=>∃ (r:Addr) (S:Sk),vs=[.ref r]/\wX H r S/\Ce S/\∀ H',aR H H'->Q (.str (Zr S)) H'
def Ko (p:Kg):Sp:=fun vs H Q _=>∃ (x:Addr) (S:Sk),vs=[.ref x]/\Uq p H x S/\Ce S/\∀ H',aR H H'->Q (.str (Zr S)) H'
theorem pQ {ns:List Int}(l:ns.length<=100)(h:∀ n∈ns,0<=n/\n<100):(HW ns).length<=300:=by
 have b:(Str.ofString " ").length=1:=by decide
 refine aFJ (iJ _ _) (aFJ (fK (B:=2) fun t ht=>?_) ?_)
 ·obtain ⟨n,hn,rfl⟩:=aFL.mp ht;exact dW (h n hn).1 (by decide) (by have:=(h n hn).2; show n<100; omega)
 ·rw [aFF,b];omega
theorem Gp:∀ {l:List Int}{lo hi:Int},l.Pairwise (· < ·)->(∀ x∈l,lo<=x/\x<=hi)->l=[]∨(l.length:Int)<=hi+1-lo
 | [],_,_,_,_=>.inl rfl
 | x::l,lo,hi,hp,h=>by
  obtain ⟨p1,p2⟩:=aGR.mp hp;have hx:=h x aFI
  right
  rcases Gp (l:=l) (lo:=x+1) (hi:=hi) p2 (fun y hy=>⟨by have:=p1 y hy; omega,(h y (aFG _ hy)).2⟩) with e | e
  ·rw [e];show (1:Int)<=_;omega
  ·rw [aGf];omega
theorem Ny {ks:List Int}(lt:ks.Pairwise (· < ·))(k:∀ x∈ks,0<=x/\x<=63):ks.length<=64:=by
 rcases Gp lt (lo:=0) (hi:=63) k with e | e
 ·rw [e]; decide
 ·omega
theorem Ip {ms ks:List Int}(pm:ms.Perm ks)(so:ms.Pairwise (·<=·))(lt:ks.Pairwise (· < ·)):ms=ks :=
 List.Perm.eq_of_pairwise (le:=(·<=·)) (fun a b _ _ h1 h2=>Int.le_antisymm h1 h2) so (lt.imp fun h=>aFS h) pm
theorem xK {n:Nat}{f:Addr}{fd:FuncData}(F:dJ K "_law_sort" "_law_sort" (top 69) f fd){l_:Addr}{j_:FuncData}(b_:dI P w K mg base n "_law_mixed" ["_law_cell","_law_k"] wO l_ j_)(d_:mg "tuple" = none)(k_:mg "range" = none):aX P w K mg base dG (n+1) f fd ["_law_cell"] Uj:=by
 refine F.ok nZ (fun vs H Q E h=>?_) (fun cdv A outer s H vs Q E hr h=>?_)
 ·obtain ⟨c,rfl,_⟩:=h
  rfl
 obtain ⟨c,rfl,q⟩:=h;have nd:=nZ.nd;refine ⟨_,(aF (aY (i:=1) nd rfl (Or.inl rfl) (aM bU (aH b_ hr (aA (pv 0) (aA aD aC))) aD)) (aF (b8 (aZ dM (pv 1) aD (bK _)) (aJ (aN (cU (aA aU (aA (aM bU (aH b_ hr (aA (pv 0) (aA aD aC))) aD) aC))))) bB) (aF (aY (i:=2) nd rfl (Or.inr rfl) (cA (ls:=["_law_k"]) (M:=["_law_cell","_law_way","_law_numbers_here"]) rfl (bL.of (by rfl)) (NL.of (by rfl)) (eZ rfl k_ (aA (aM cL aD (aM bU (aH b_ hr (aA (pv 0) (aA aD aC))) aD)) aC)) (fun _ _ _ _=>⟨(aP (i:=0) (cB (by rfl)) rfl (Or.inl rfl)),bR,(aM bU (aH b_ hr (aA (pv 1) (aA (aM cL aD (pv 0)) aC))) aD)⟩))) (aF (b8 (aZ dM (pv 1) aD (bK _)) (aJ (aN (cU (aA aU (aA (bJ (bQ (K:=K) rfl) rfl d_ dH (aA (pv 2) aC)) (aA (bJ (bQ (K:=K) rfl) rfl d_ dH (aA (cA (ls:=["_law_k"]) (M:=["_law_cell","_law_way","_law_numbers_here"]) rfl (bL.of (by rfl)) (NL.of (by rfl)) (eZ rfl k_ (aA aD aC)) (fun _ _ _ _=>⟨(aP (i:=0) (cB (by rfl)) rfl (Or.inl rfl)),bR,(aM bU (aH b_ hr (aA (pv 1) (aA (aM cL aD (pv 0)) aC))) aD)⟩)) aC)) aC)))))) bB) (aJ (aN (cU (aA aU (aA (bJ (bQ (K:=K) rfl) rfl d_ dH (aA (cA (ls:=["_law_k"]) (M:=["_law_cell","_law_way","_law_numbers_here"]) rfl (bL.of (by rfl)) (NL.of (by rfl)) (eZ rfl k_ (aA aD aC)) (fun _ _ _ _=>⟨(aP (i:=0) (cB (by rfl)) rfl (Or.inl rfl)),(J8 (PW.pt (jM (aZ dM (aM bU (aH b_ hr (aA (pv 1) (aA (aM cL aD (pv 0)) aC))) (aM cL aD (bI (J0 (K:=K) rfl) (pv 3) aD (fun _ _=>rfl)))) aD (bK _)) (gK (aZ dM (pv 0) aD (bK _)))))),(pv 0)⟩)) aC)) aC))))))))),?_⟩;refine ⟨_,rfl,c,1,rfl,fun w0 _ _=>?_⟩;refine ⟨_,_,rfl,rfl,(by show (0:Int)<3; decide),?_⟩;dsimp only;generalize w0%3=wy;refine ⟨_,rfl,rfl,_,rfl,?_⟩;refine lG (fun _=>?_) (fun _=>?_)
 ·refine ⟨_,rfl,c,2,rfl,fun j _ _=>?_⟩;have e0:=aGh j (show (7:Int)≠0 by decide);have e1:=aGc j (show (0:Int)<7 by decide);refine ⟨_,_,rfl,rfl,(by show (0:Int)<7; decide),qP,fun r hr0=>?_⟩;exact q r _ (.few (j%7)) (aG hr0 _) aB (.few e0 (by omega))
 refine ⟨_,rfl,c,3,rfl,fun n3 _ _=>?_⟩;have f0:=aGh n3 (show (6:Int)≠0 by decide);have f1:=aGc n3 (show (0:Int)<6 by decide);refine ⟨_,_,rfl,rfl,(by show (0:Int)<6; decide),_,_,rfl,rfl,(1+n3%6),rfl,by omega,by omega,fun D hD=>?_⟩;refine iC (n:=(1+n3%6).toNat) (fun i τ H'=>∃ (v0:Option V) (ns:List Int),τ = [v0,some (.int c),some (.int wy),none]/\aR H H'/\H' D=some (.lst (Is ns))/\ns.length=i/\∀ x∈ns,0<=x/\x<=5) ⟨none,[],rfl,aG hD _,aB,rfl,fun _ h=>nomatch h⟩ ?turnD ?doneD
 case turnD =>
  rintro i m τ H' hm hi ⟨v0,ns,rfl,hs,hD',ln,hn⟩;unfold kZ;refine cW ?_;refine ⟨_,rfl,_,rfl,_,_,rfl,rfl,c,_,rfl,fun j _ _=>?_⟩;have e0:=aGh j (show (6:Int)≠0 by decide);have e1:=aGc j (show (0:Int)<6 by decide);refine ⟨_,_,rfl,rfl,(by show (0:Int)<6; decide),?_⟩;refine bA hm hi hD' (by rw [dZ]; exact aQ (by omega)) ⟨_,ns++[j%6],rfl,hs.upd_new hD _,by rw [aB]; unfold Is; rw [aFN]; rfl,by rw [aFZ,ln]; rfl,fun x hx=>?_⟩;rcases aF4.mp hx with z | z
  ·exact hn x z
  ·rw [aFR.mp z]; omega
 case doneD =>
 rintro τ H1 ⟨v0,gs,rfl,s1,hD1,lg,hg⟩;refine ⟨_,rfl,rfl,_,rfl,?_⟩;refine lG (fun _=>?_) (fun _=>?_)
 ·refine ⟨_,rfl,D,_,rfl,.inl ⟨bV.of hD1,fun t1 ht1=>?_⟩⟩;have n1:=aG ht1 (.tup (Is gs));have g1:bG H1 t1 (.tup (Is gs)) t1=some (.tup (Is gs)):=aB;generalize bG H1 t1 (.tup (Is gs))=H2 at n1 g1 ⊢;refine ⟨6,rfl,by decide,by decide,fun D2 hD2=>?_⟩;refine iC (n:=6) (fun i τ H'=>∃ (v0:Option V) (ns:List Int),τ = [v0,some (.int c),some (.int wy),some (.ref D)]/\aR H2 H'/\H' D2=some (.lst (Is ns))/\ns.length=i/\∀ x∈ns,0<=x/\x<=6) ⟨none,[],rfl,aG hD2 _,aB,rfl,fun _ h=>nomatch h⟩ ?turnD2 ?doneD2
  case turnD2 =>
   rintro i m τ H' hm hi ⟨v0,ns,rfl,hs,hD',ln,hn⟩;unfold kZ;refine cW ?_;refine ⟨_,rfl,_,rfl,_,_,rfl,rfl,c,_,rfl,fun j _ _=>?_⟩;have e0:=aGh j (show (7:Int)≠0 by decide);have e1:=aGc j (show (0:Int)<7 by decide);refine ⟨_,_,rfl,rfl,(by show (0:Int)<7; decide),?_⟩;refine bA hm hi hD' (by rw [dZ]; exact aQ (by omega)) ⟨_,ns++[j%7],rfl,hs.upd_new hD2 _,by rw [aB]; unfold Is; rw [aFN]; rfl,by rw [aFZ,ln]; rfl,fun x hx=>?_⟩;rcases aF4.mp hx with z | z
   ·exact hn x z
   ·rw [aFR.mp z]; omega
  case doneD2 =>
  rintro τ H3 ⟨v0,ms,rfl,s3,hD3,lm,hm⟩;refine ⟨D2,_,rfl,.inl ⟨bV.of hD3,fun t2 ht2=>?_⟩⟩;have n2:=aG ht2 (.tup (Is ms));refine ⟨KH,fun r hr0=>?_⟩;have n3':=aG hr0 (.tup [.str "groups",.ref t1,.ref t2]);exact q r _ (.groups gs ms) (((s1.trans n1).trans s3).trans (n2.trans n3')) ⟨t1,t2,aB,(s3.trans (n2.trans n3')) _ _ g1,n3' _ _ aB⟩ (.groups ⟨by omega,by omega,hg,lm,hm⟩)
 ·obtain ⟨g0,eg⟩:∃ g0,gs[0]? = some g0:=⟨_,aFK (by omega)⟩
  have hg0:=hg g0 (aF1 eg);refine ⟨64,rfl,by decide,by decide,fun D2 hD2=>?_⟩;refine iC (n:=64) (fun i τ H'=>∃ (v0:Option V) (ks:List Int),τ = [v0,some (.int c),some (.int wy),some (.ref D)]/\aR H1 H'/\H' D2=some (.lst (Is ks))/\ks.length<=i/\ks.Pairwise (· < ·)/\(∀ x∈ks,0<=x/\x<(i:Int))/\(10<=i->(9:Int)∈ks)) ⟨none,[],rfl,aG hD2 _,aB,aFM _,List.Pairwise.nil,(fun _ h=>nomatch h),fun h=>by omega⟩ ?turnE ?doneE
  case turnE =>
   rintro i m τ H' hm hi ⟨v0,ks,rfl,hs,hD',lk,pw,hk,h9⟩;unfold kZ;have push:∃ ys m',m'<m/\H' D2=some (.lst ys)/\ys.length<sizeLine/\CW 64 (fun i τ H'=>∃ (v0:Option V) (ks:List Int),τ = [v0,some (.int c),some (.int wy),some (.ref D)]/\aR H1 H'/\H' D2=some (.lst (Is ks))/\ks.length<=i/\ks.Pairwise (· < ·)/\(∀ x∈ks,0<=x/\x<(i:Int))/\(10<=i->(9:Int)∈ks)) (i+1) m' [some (.int (0+(i:Int))),some (.int c),some (.int wy),some (.ref D)] (bG H' D2 (.lst (ys++[.int (0+(i:Int))]))):=by
    refine bA hm hi hD' (by rw [dZ]; exact aQ (by omega)) ⟨_,ks++[0+(i:Int)],rfl,hs.upd_new hD2 _,by rw [aB]; unfold Is; rw [aFN]; rfl,by rw [aFZ,aGq]; omega,List.pairwise_append.mpr ⟨pw,aHD _ _,fun x hx y hy=>by rw [aFR.mp hy]; have:=(hk x hx).2; omega⟩,fun x hx=>?_,fun h10=>?_⟩
    ·rcases aF4.mp hx with z | z
     ·have:=hk x z; omega
     ·rw [aFR.mp z]; omega
    ·by_cases e:i=9
     ·rw [e]; exact aFX _ (aFR.mpr rfl)
     ·exact aGw _ (h9 (by omega))
   refine ⟨_,rfl,_,rfl,_,_,rfl,rfl,c,_,rfl,fun j _ _=>?_⟩;refine ⟨_,rfl,D,_,_,_,rfl,rfl,bV.of (hs _ _ hD1),oY (j:=0) (by unfold Is; rw [aFY,eg]; rfl),_,_,rfl,rfl,_,_,rfl,rfl,(by show (0:Int)<1+g0; omega),rfl,_,rfl,?_⟩;refine lG (fun _=>⟨_,rfl,push⟩) (fun _=>?_);refine ⟨_,rfl,rfl,_,rfl,?_⟩;refine lG (fun _=>⟨_,rfl,push⟩) (fun z=>?_);have i9:i≠9:=fun e=>z (by rw [e]; rfl);exact FP hm hi ⟨_,ks,rfl,hs,hD',by omega,pw,fun x hx=>by have:=hk x hx; omega,fun h10=>h9 (by omega)⟩
  case doneE =>
   rintro τ H3 ⟨v0,ks,rfl,s3,hD3,lk,pw,hk,h9⟩;refine ⟨D2,_,rfl,.inl ⟨bV.of hD3,fun t2 ht2=>?_⟩⟩;have n2:=aG ht2 (.tup (Is ks));refine ⟨qP,fun r hr0=>?_⟩;have n3':=aG hr0 (.tup [.str "listed",.ref t2]);exact q r _ (.listed ks) ((s1.trans s3).trans (n2.trans n3')) ⟨t2,aB,n3' _ _ aB⟩ (.listed pw (fun e=>by rw [e] at h9; exact absurd (h9 (by decide)) (by simp)) fun x hx=>by have:=hk x hx; omega)
theorem lR {n:Nat}{f:Addr}{fd:FuncData}(F:dJ K "_law_sort_written" "_law_sort_written" (top 71) f fd){aCZ:Addr}{aCN:FuncData}(W_:dI P w K mg base n "_law_numbers" ["_law_numbers_here"] Ej aCZ aCN)(x_:mg "str" = none):aX P w K mg base dG (n+1) f fd ["_law_told"] Kz:=by
 refine F.ok fZ (fun vs H Q E h=>?_) (fun cdv A outer s H vs Q E hr h=>?_)
 ·obtain ⟨r,S,rfl,_⟩:=h
  rfl
 obtain ⟨r,S,rfl,hS,ok,q⟩:=h;have nd:=fZ.nd;refine ⟨_,(aF (b8 (aZ dM (bI bF (pv 0) aD (fun _ _=>rfl)) aU (bK _)) (aJ (aN (aM bC aU (bJ d7 rfl x_ gY (aA (bI bF (pv 0) aD (fun _ _=>rfl)) aC))))) bB) (aF (b8 (aZ dM (bI bF (pv 0) aD (fun _ _=>rfl)) aU (bK _)) (aJ (aN (aM bC (aM bC (aM bC aU (aH W_ hr (aA (bI bF (pv 0) aD (fun _ _=>rfl)) aC))) aU) (aH W_ hr (aA (bI bF (pv 0) aD (fun _ _=>rfl)) aC))))) bB) (aJ (aN (aM bC aU (aH W_ hr (aA (bI bF (pv 0) aD (fun _ _=>rfl)) aC))))))),?_⟩;have d1:(Str.ofString "few ").length=4:=by decide
 have d2:(Str.ofString "groups ").length=7:=by decide
 have d3:(Str.ofString " / ").length=3:=by decide
 have d4:(Str.ofString "listed ").length=7:=by decide
 cases ok with
 | @few c h0 h6 =>
  have hr1:H r=some (.tup [.str "few",.int c]):=hS;have s1:=aR.refl H;refine ⟨_,rfl,r,_,_,_,rfl,rfl,bW.of hr1,rfl,rfl,_,rfl,pA rfl ?_⟩;have l:=dW h0 (k:=1) (by decide) (by show c<10; omega);exact ⟨_,rfl,r,_,_,_,rfl,rfl,bW.of hr1,rfl,c,rfl,pO (gJ h0 (by omega)),_,_,rfl,rfl,by omega,q H s1⟩
 | @groups gs ms g =>
  obtain ⟨ga,ma,hr1,hg,hm⟩:=hS;have s1:=aR.refl H;refine ⟨_,rfl,r,_,_,_,rfl,rfl,bW.of hr1,rfl,rfl,_,rfl,mK rfl ?_⟩;refine ⟨_,rfl,r,_,_,_,rfl,rfl,bW.of hr1,rfl,rfl,_,rfl,pA rfl ?_⟩;have a1:gs.length<=100:=by have:=g.l6; omega
  have a2:ms.length<=100:=by have:=g.m6; omega
  have e1:∀ x∈gs,0<=x/\x<100:=fun x hx=>by have:=g.g x hx; omega
  have e2:∀ x∈ms,0<=x/\x<100:=fun x hx=>by have:=g.m x hx; omega
  have l1:=pQ a1 e1;have l2:=pQ a2 e2;refine ⟨_,rfl,r,_,_,_,rfl,rfl,bW.of hr1,rfl,ga,gs,rfl,hg,a1,e1,fun H2 s2=>?_⟩;refine ⟨_,_,rfl,rfl,by omega,_,_,rfl,rfl,by rw [len_app]; omega,?_⟩;refine ⟨_,rfl,r,_,_,_,rfl,rfl,bW.of (s2 _ _ hr1),rfl,ma,ms,rfl,s2 _ _ hm,a2,e2,fun H3 s3=>?_⟩;exact ⟨_,_,rfl,rfl,by rw [len_app,len_app]; omega,q H3 ((s1.trans s2).trans s3)⟩
 | @listed ks lt ne hk =>
  obtain ⟨ka,hr1,hkk⟩:=hS;have s1:=aR.refl H;refine ⟨_,rfl,r,_,_,_,rfl,rfl,bW.of hr1,rfl,rfl,_,rfl,mK rfl ?_⟩;refine ⟨_,rfl,r,_,_,_,rfl,rfl,bW.of hr1,rfl,rfl,_,rfl,mK rfl ?_⟩;have a1:ks.length<=100:=by have:=Ny lt hk; omega
  have e1:∀ x∈ks,0<=x/\x<100:=fun x hx=>by have:=hk x hx; omega
  have l1:=pQ a1 e1;refine ⟨_,rfl,r,_,_,_,rfl,rfl,bW.of hr1,rfl,ka,ks,rfl,hkk,a1,e1,fun H2 s2=>?_⟩;exact ⟨_,_,rfl,rfl,by omega,q H2 (s1.trans s2)⟩
theorem pX {n:Nat}{f:Addr}{fd:FuncData}(F:dJ K "write_pattern" "write_pattern" (top 52) f fd){p:Kg}(pt:PCT K p){aFd:Addr}{aEU:FuncData}(aFv:jF K p.f "told" aFd)(aFw:aX P w K mg base dG n aFd aEU ["self"] (Do p.f))(aFx:Binds K aEU ["self"] []){aFe:Addr}{aEV:FuncData}(aFy:jF K p.g "told" aFe)(aFz:aX P w K mg base dG n aFe aEV ["self"] (Er p.g))(aFA:Binds K aEV ["self"] []){aFf:Addr}{aEW:FuncData}(aFB:jF K p.l "told" aFf)(aFC:aX P w K mg base dG n aFf aEW ["self"] (Dq p.l))(aFD:Binds K aEW ["self"] []){aC0:Addr}{aCO:FuncData}(X_:dI P w K mg base n "write_wholes" ["numbers"] Ej aC0 aCO){i_:Addr}{gV:FuncData}(e_:dI P w K mg base n "write_whole" ["number"] Ex i_ gV):aX P w K mg base dG (n+1) f fd ["pattern"] (Ko p):=by
 refine F.ok jO (fun vs H Q E h=>?_) (fun cdv A outer s H vs Q E hr h=>?_)
 ·obtain ⟨x,S,rfl,_⟩:=h
  rfl
 obtain ⟨x,S,rfl,hS,ok,q⟩:=h;have nd:=jO.nd;refine ⟨_,(aF (aY (i:=1) nd rfl (Or.inl rfl) (Ot (eE (pv 0) pt.cf aFv aFw hr aFx .nil fG) (eE (pv 0) pt.cg aFy aFz hr aFA .nil fG) (eE (pv 0) pt.cl aFB aFC hr aFD .nil fG))) (aF (b8 (aZ dM (bI bF (pv 1) aD (fun _ _=>rfl)) aU (bK _)) (aJ (aN (aM bC aU (aH e_ hr (aA (bI bF (pv 1) aD (fun _ _=>rfl)) aC))))) bB) (aF (b8 (aZ dM (bI bF (pv 1) aD (fun _ _=>rfl)) aU (bK _)) (aJ (aN (aM bC (aM bC (aM bC aU (aH X_ hr (aA (bI bF (pv 1) aD (fun _ _=>rfl)) aC))) aU) (aH X_ hr (aA (bI bF (pv 1) aD (fun _ _=>rfl)) aC))))) bB) (aJ (aN (aM bC aU (aH X_ hr (aA (bI bF (pv 1) aD (fun _ _=>rfl)) aC)))))))),?_⟩;have d1:(Str.ofString "few ").length=4:=by decide
 have d2:(Str.ofString "groups ").length=7:=by decide
 have d3:(Str.ofString " / ").length=3:=by decide
 have d4:(Str.ofString "listed ").length=7:=by decide
 cases ok with
 | @few c h0 h6 =>
  have hF:HX p.f H x c:=hS;have hF':=hF;obtain ⟨dx,hx⟩:=hF';refine .inl ⟨_,rfl,x,dx,_,rfl,hx,rfl,x,c,rfl,hF,fun r H1 s1 hT=>?_⟩;have hr1:H1 r=some (.tup [.str "few",.int c]):=hT;refine ⟨_,rfl,r,_,_,_,rfl,rfl,bW.of hr1,rfl,rfl,_,rfl,pA rfl ?_⟩;have l:=dW h0 (k:=1) (by decide) (by show c<10; omega);exact ⟨_,rfl,r,_,_,_,rfl,rfl,bW.of hr1,rfl,c,rfl,gJ h0 (by omega),_,_,rfl,rfl,by omega,q H1 s1⟩
 | @groups gs ms g =>
  have hF:Ov p.g H x gs ms:=hS;have hF':=hF;obtain ⟨dx,g1,m1,hx,_,_⟩:=hF';refine .inr (.inl ⟨_,rfl,x,dx,_,rfl,hx,rfl,x,gs,ms,rfl,hF,fun r H1 s1 hT=>?_⟩);obtain ⟨ga,ma,hr1,hg,hm⟩:=hT;refine ⟨_,rfl,r,_,_,_,rfl,rfl,bW.of hr1,rfl,rfl,_,rfl,mK rfl ?_⟩;refine ⟨_,rfl,r,_,_,_,rfl,rfl,bW.of hr1,rfl,rfl,_,rfl,pA rfl ?_⟩;have a1:gs.length<=100:=by have:=g.l6; omega
  have a2:ms.length<=100:=by have:=g.m6; omega
  have e1:∀ x∈gs,0<=x/\x<100:=fun x hx=>by have:=g.g x hx; omega
  have e2:∀ x∈ms,0<=x/\x<100:=fun x hx=>by have:=g.m x hx; omega
  have l1:=pQ a1 e1;have l2:=pQ a2 e2;refine ⟨_,rfl,r,_,_,_,rfl,rfl,bW.of hr1,rfl,ga,gs,rfl,hg,a1,e1,fun H2 s2=>?_⟩;refine ⟨_,_,rfl,rfl,by omega,_,_,rfl,rfl,by rw [len_app]; omega,?_⟩;refine ⟨_,rfl,r,_,_,_,rfl,rfl,bW.of (s2 _ _ hr1),rfl,ma,ms,rfl,s2 _ _ hm,a2,e2,fun H3 s3=>?_⟩;exact ⟨_,_,rfl,rfl,by rw [len_app,len_app]; omega,q H3 ((s1.trans s2).trans s3)⟩
 | @listed ks lt ne hk =>
  have hF:Np p.l H x ks:=hS;have hF':=hF;obtain ⟨dx,k1,hx,_⟩:=hF';refine .inr (.inr ⟨_,rfl,x,dx,_,rfl,hx,rfl,x,ks,rfl,hF,fun r H1 s1 hT=>?_⟩);obtain ⟨ka,hr1,hkk⟩:=hT;refine ⟨_,rfl,r,_,_,_,rfl,rfl,bW.of hr1,rfl,rfl,_,rfl,mK rfl ?_⟩;refine ⟨_,rfl,r,_,_,_,rfl,rfl,bW.of hr1,rfl,rfl,_,rfl,mK rfl ?_⟩;have a1:ks.length<=100:=by have:=Ny lt hk; omega
  have e1:∀ x∈ks,0<=x/\x<100:=fun x hx=>by have:=hk x hx; omega
  have l1:=pQ a1 e1;refine ⟨_,rfl,r,_,_,_,rfl,rfl,bW.of hr1,rfl,ka,ks,rfl,hkk,a1,e1,fun H2 s2=>?_⟩;exact ⟨_,_,rfl,rfl,by omega,q H2 (s1.trans s2)⟩
theorem rA {n:Nat}{f:Addr}{fd:FuncData}(F:dJ K "_law_pattern" "_law_pattern" (top 70) f fd){p:Kg}{iF:Addr}{iDF:FuncData}{kOF:Nat}(aFg:Mk K p.f iF)(aFh:aX P w K mg base dG kOF iF iDF ["self","count"] (Kh p.f))(aFi:Binds K iDF ["self","count"] [])(aEj:mg "Few" = some (.ref p.f))(aE5:kOF+1<=n){iG:Addr}{iDG:FuncData}{kOG:Nat}(aEk:Mk K p.g iG)(aEm:aX P w K mg base dG kOG iG iDG ["self","groups","most"] (Ku p.g))(aEn:Binds K iDG ["self","groups","most"] [])(aC1:mg "Groups" = some (.ref p.g))(aDT:kOG+1<=n){iL:Addr}{iDL:FuncData}{kOL:Nat}(aEo:Mk K p.l iL)(aEp:aX P w K mg base dG kOL iL iDL ["self","sets"] (HY p.l))(aEq:Binds K iDL ["self","sets"] [])(aC2:mg "Listed" = some (.ref p.l))(aDU:kOL+1<=n)(t_:mg "list" = none)(L_:mg "reversed" = none):aX P w K mg base dG (n+1) f fd ["_law_told"] (Lz p):=by
 refine F.ok j5 (fun vs H Q E h=>?_) (fun cdv A outer s H vs Q E hr h=>?_)
 ·obtain ⟨r,S,rfl,_⟩:=h
  rfl
 obtain ⟨r,S,rfl,hS,ok,q⟩:=h;have nd:=j5.nd;refine ⟨_,(aF (b8 (aZ dM (bI bF (pv 0) aD (fun _ _=>rfl)) aU (bK _)) (aJ (aN (jR aFg aFh (hr.mono aE5) rfl aEj aFi .nil fG (aA (bI bF (pv 0) aD (fun _ _=>rfl)) aC)))) bB) (aF (b8 (aZ dM (bI bF (pv 0) aD (fun _ _=>rfl)) aU (bK _)) (aJ (aN (jR aEk aEm (hr.mono aDT) rfl aC1 aEn .nil fG (aA (bJ (m5 (K:=K) rfl) rfl t_ iU (aA (bI bF (pv 0) aD (fun _ _=>rfl)) aC)) (aA (bJ (m5 (K:=K) rfl) rfl t_ iU (aA (bI bF (pv 0) aD (fun _ _=>rfl)) aC)) aC))))) bB) (aJ (aN (jR aEo aEp (hr.mono aDU) rfl aC2 aEq .nil fG (aA (Ar rfl rfl t_ rfl L_ (aA (bI bF (pv 0) aD (fun _ _=>rfl)) aC)) aC)))))),?_⟩;cases ok with
 | @few c h0 h6 =>
  have hr1:H r=some (.tup [.str "few",.int c]):=hS;refine ⟨_,rfl,r,_,_,_,rfl,rfl,bW.of hr1,rfl,rfl,_,rfl,pA rfl ?_⟩;refine ⟨_,rfl,r,_,_,_,rfl,rfl,bW.of hr1,rfl,?_⟩;intro y dy hy hdy ndy;have nO:aR H (bG (bG H dy (.own y)) y (.ins p.f dy [])):=(aG hdy (.own y)).trans (aG (by rw [aK (Ne.symm ndy)]; exact hy) _);refine ⟨y,dy,c,rfl,aB,h0,h6,rfl,?_⟩;exact q y _ (nO.upd_new hy _) ⟨dy,aB⟩
 | @groups gs ms g =>
  obtain ⟨ga,ma,hr1,hg,hm⟩:=hS;refine ⟨_,rfl,r,_,_,_,rfl,rfl,bW.of hr1,rfl,rfl,_,rfl,mK rfl ?_⟩;refine ⟨_,rfl,r,_,_,_,rfl,rfl,bW.of hr1,rfl,rfl,_,rfl,pA rfl ?_⟩;refine ⟨_,rfl,r,_,_,_,rfl,rfl,bW.of hr1,rfl,ga,_,rfl,.inr (bW.of hg),fun l1 hl1=>?_⟩;have n1:=aG hl1 (.lst (Is gs));refine ⟨_,rfl,r,_,_,_,rfl,rfl,bW.of (n1 _ _ hr1),rfl,ma,_,rfl,.inr (bW.of (n1 _ _ hm)),fun l2 hl2=>?_⟩;have n2:=aG hl2 (.lst (Is ms));have g1:=n2 _ _ (aB (H:=H) (a:=l1) (o:=.lst (Is gs)));have g2:bG (bG H l1 (.lst (Is gs))) l2 (.lst (Is ms)) l2=some (.lst (Is ms)):=aB;have n12:=n1.trans n2;generalize bG (bG H l1 (.lst (Is gs))) l2 (.lst (Is ms))=H2 at n12 g1 g2 ⊢;intro y dy hy hdy ndy;have nO:aR H2 (bG (bG H2 dy (.own y)) y (.ins p.g dy [])):=(aG hdy (.own y)).trans (aG (by rw [aK (Ne.symm ndy)]; exact hy) _);refine ⟨y,dy,l1,l2,gs,ms,rfl,aB,nO _ _ g1,nO _ _ g2,g,fun gt mt H3 kp h1 h2 h3=>⟨rfl,?_⟩⟩;have s3:aR H2 H3:=fun a o e=>kp a o (aV e hy) (nO _ _ e);exact q y H3 (n12.trans s3) ⟨dy,gt,mt,h3,h1,h2⟩
 | @listed ks lt ne hk =>
  obtain ⟨ka,hr1,hkk⟩:=hS;have l64:=Ny lt hk;have kl:(Is ks).length=ks.length:=dZ ks;have k1:1<=ks.length:=aG4.mpr ne;refine ⟨_,rfl,r,_,_,_,rfl,rfl,bW.of hr1,rfl,rfl,_,rfl,mK rfl ?_⟩;refine ⟨_,rfl,r,_,_,_,rfl,rfl,bW.of hr1,rfl,rfl,_,rfl,mK rfl ?_⟩;refine ⟨_,rfl,r,_,_,_,rfl,rfl,bW.of hr1,rfl,ka,_,rfl,bW.of hkk,by omega,fun l1 hl1=>?_⟩;have er:(Is ks).reverse=Is ks.reverse:=by unfold Is; rw [List.map_reverse]
  rw [er];have n1:=aG hl1 (.lst (Is ks.reverse));have g1:bG H l1 (.lst (Is ks.reverse)) l1=some (.lst (Is ks.reverse)):=aB;generalize bG H l1 (.lst (Is ks.reverse))=H2 at n1 g1 ⊢;intro y dy hy hdy ndy;have nO:aR H2 (bG (bG H2 dy (.own y)) y (.ins p.l dy [])):=(aG hdy (.own y)).trans (aG (by rw [aK (Ne.symm ndy)]; exact hy) _);have gd:Jk ks.reverse:=by
   refine ⟨by rw [aGM]; exact k1,?_,aHQ.mpr (lt.imp fun h=>(Int.ne_of_lt h).symm),fun x hx=>hk x (List.mem_reverse.mp hx)⟩
   by_cases z:ks.length<64
   ·exact .inl (by rw [aGM]; exact z)
   ·exact .inr ⟨by rw [aGM]; omega,aHQ.mpr lt⟩
  refine ⟨y,dy,l1,ks.reverse,rfl,aB,nO _ _ g1,gd,fun kt ms H3 s3 pm so h3=>⟨rfl,?_⟩⟩;have e:ms=ks:=Ip (pm.trans (List.reverse_perm ks)) so lt;subst e;have hy3:=s3 _ _ (aB (H:=bG H2 dy (.own y)) (a:=y) (o:=.ins p.l dy []));have nk:kt≠y:=fun z=>by rw [z,hy3] at h3; cases h3
  exact q y _ ((n1.trans (nO.trans s3)).upd_new (n1.free hy) _) ⟨dy,kt,aB,by rw [aK nk]; exact h3⟩
def Lf:Sp:=fun vs H Q _=>∃ c:Int,vs=[.int c]/\∀ H',aR H H'->Q (.bl true) H'
theorem Dm {a b c B m:Int}(ha:0<a/\a<=B)(hb:0<b/\b<=B)(hc:0<c/\c<=B):∃ v,FT [V.int a,V.int b,V.int c] (m%3)=some (.int v)/\0<v/\v<=B:=by
 have a1:=aGh m (show (3:Int)≠0 by decide);have a2:=aGc m (show (0:Int)<3 by decide);rcases (by omega:m%3=0∨m%3=1∨m%3=2) with e | e | e <;> rw [e]
 ·exact ⟨a,rfl,ha⟩
 ·exact ⟨b,rfl,hb⟩
 ·exact ⟨c,rfl,hc⟩
theorem PN {x:Int}(h0:0<=x)(h1:x<2147483587):intBits x<=31:=PySem.intBits_le_iff.mpr (by rw [show (2:Nat)^31=2147483648 from by decide]; omega)
theorem Mj {x:Int}(h0:0<=x)(h1:x<2147483587):intBits (x^(2:Int).toNat)<=62/\intBits (x^(3:Int).toNat)<=93:=by
 have b:=PN h0 h1;refine ⟨?_,?_⟩
 ·rw [show x^(2:Int).toNat=x*x from by show x^2=_; rw [aGA,aGA,Int.pow_zero,aHV]];exact PySem.intBits_mul_le b b
 ·rw [show x^(3:Int).toNat=x*x*x from by show x^3=_; rw [aGA,aGA,aGA,Int.pow_zero,aHV]];exact PySem.intBits_mul_le (PySem.intBits_mul_le b b) b
theorem zR {B:Int}(h0:0<B)(h1:B<=10^50):intBits B<=9000:=PySem.intBits_le_iff.mpr (by
 have a:B.natAbs<=10^50:=by omega
 exact aHr a (by decide +kernel))
theorem nJ {n:Nat}{f:Addr}{fd:FuncData}(F:dJ K "_law_share_good" "_law_share_good" (top 74) f fd){aCb:Addr}{aB5:FuncData}(D_:dI P w K mg base n "_law_same" ["_law_found","_law_due"] zL aCb aB5){aDa:Addr}{aC3:FuncData}(aDb:dI P w K mg base n "write_share" ["fraction"] MJ aDa aC3){aDI:Addr}{aDw:FuncData}(aDJ:dI P w K mg base n "_law_low" ["_law_top","_law_bottom"] M6 aDI aDw){l_:Addr}{j_:FuncData}(b_:dI P w K mg base n "_law_mixed" ["_law_cell","_law_k"] wO l_ j_)(x_:mg "str" = none):aX P w K mg base dG (n+1) f fd ["_law_cell"] Lf:=by
 refine F.ok iD (fun vs H Q E h=>?_) (fun cdv A outer s H vs Q E hr h=>?_)
 ·obtain ⟨c,rfl,_⟩:=h
  rfl
 obtain ⟨c,rfl,q⟩:=h;have nd:=iD.nd;refine ⟨_,NB.h (iH (pI (i:=1) nd rfl (Or.inl rfl) (gC cV (gC cV (eU b_ hr (bN (qv 0) (bN cJ eY))) (gC nA (eU b_ hr (bN (qv 0) (bN cJ eY))) cJ)) (gC nA (eU b_ hr (bN (qv 0) (bN cJ eY))) cJ))) (iH (pI (i:=1) nd rfl (Or.inl rfl) (gC bU (qv 1) (Ks iY (JL (bN cJ (bN (gC nA cJ cJ) (bN (gC nA cJ cJ) eY)))) (gC bU (eU b_ hr (bN (qv 0) (bN cJ eY))) cJ) (fun _ _=>rfl)))) (iH (Kw (Dw dM (gC bU (eU b_ hr (bN (qv 0) (bN cJ eY))) cJ) cJ (bK _)) (wR (pI (i:=1) nd rfl (Or.inl rfl) (gC pC cJ (qv 1)))) Ei) (iH (pI (i:=2) nd rfl (Or.inl rfl) (gC cL cJ (gC bU (gC nA (eU b_ hr (bN (qv 0) (bN cJ eY))) cJ) (Ks iY (JL (bN cJ (bN cJ (bN (gC nA cJ cJ) eY)))) (gC bU (eU b_ hr (bN (qv 0) (bN cJ eY))) cJ) (fun _ _=>rfl))))) (iH (O6 (eU aDJ hr (bN (qv 1) (bN (qv 2) eY))) (uF rfl (bH (aP (i:=1) nd rfl (Or.inl rfl)) (bH (aP (i:=2) nd rfl (Or.inl rfl)) dU)))) (iH (pI (i:=3) nd rfl (Or.inl rfl) (vH d7 rfl x_ gY (bN (qv 1) eY))) (iH (Kw (Dw uC (qv 2) cJ (bK _)) (wR (pI (i:=3) nd rfl (Or.inl rfl) (gC bC (gC bC (qv 3) NZ) (vH d7 rfl x_ gY (bN (qv 2) eY))))) Ei) (wR (Oh (eU D_ hr (bN (eU aDb hr (bN (Ou (bN (qv 1) (bN (qv 2) eY))) eY)) (bN (qv 3) eY)))))))))))),?_⟩;refine ⟨_,rfl,c,4,rfl,fun x4 p4 q4=>?_⟩;refine ⟨_,rfl,c,5,rfl,fun x5 p5 q5=>?_⟩;refine ⟨_,_,rfl,rfl,⟨by decide,by decide,by omega⟩,_,_,rfl,rfl,fP (PN p4 q4) (Mj p5 q5).1 (by decide),?_⟩;refine ⟨_,rfl,c,6,rfl,fun x6 p6 q6=>?_⟩;refine ⟨_,_,rfl,rfl,⟨by decide,by decide,by omega⟩,_,_,rfl,rfl,fP (PySem.intBits_mul_le (PN p4 q4) (Mj p5 q5).1) (Mj p6 q6).2 (by decide),?_⟩;dsimp only;generalize x4*x5^(2:Int).toNat*x6^(3:Int).toNat=T0;refine ⟨_,rfl,_,_,rfl,rfl,⟨by decide,by decide,by decide⟩,_,_,rfl,rfl,⟨by decide,by decide,by decide⟩,KH,fun l1 h1=>?_⟩;have n1:=aG h1 (.lst [V.int 10,V.int (10^(20:Int).toNat),V.int (10^(60:Int).toNat)]);refine ⟨_,rfl,c,7,rfl,fun x7 _ _=>?_⟩;obtain ⟨M,hM,M0,M1⟩:=Dm (a:=10) (b:=10^(20:Int).toNat) (c:=10^(60:Int).toNat) (B:=10^60) (m:=x7) ⟨by decide,by decide +kernel⟩ ⟨by decide +kernel,by decide +kernel⟩ ⟨by decide +kernel,by decide +kernel⟩;refine ⟨_,_,rfl,rfl,(by show (0:Int)<3; decide),l1,_,_,_,rfl,rfl,bV.of aB,hM,_,_,rfl,rfl,M0,?_⟩;generalize bG H l1 (.lst [V.int 10,V.int (10^(20:Int).toNat),V.int (10^(60:Int).toNat)])=H1 at n1 ⊢;have t0:=aGh T0 (aF8 M0);have t1:=aGc T0 M0;dsimp only;generalize T0%M=T at t0 t1 ⊢;refine ⟨_,rfl,c,8,rfl,fun x8 _ _=>?_⟩;refine ⟨_,_,rfl,rfl,(by show (0:Int)<2; decide),rfl,_,rfl,?_⟩;refine lG (fun _=>?_) (fun _=>?_)
 ·refine ⟨_,rfl,_,_,rfl,rfl,?_⟩;have htt:(0-T).natAbs<10^60:=by omega
  dsimp only;generalize 0-T=tt at htt ⊢;refine ⟨_,rfl,c,9,rfl,fun x9 p9 q9=>?_⟩;refine ⟨_,_,rfl,rfl,⟨by decide,by decide,by omega⟩,?_⟩;refine ⟨_,_,rfl,rfl,⟨by decide,by decide,by decide⟩,KH,fun l2 h2=>?_⟩;have n2:=aG h2 (.lst [V.int 1,V.int 9,V.int (10^(50:Int).toNat)]);refine ⟨_,rfl,c,3,rfl,fun x3 _ _=>?_⟩;obtain ⟨N,hN,N0,N1⟩:=Dm (a:=1) (b:=9) (c:=10^(50:Int).toNat) (B:=10^50) (m:=x3) ⟨by decide,by decide +kernel⟩ ⟨by decide,by decide +kernel⟩ ⟨by decide +kernel,by decide +kernel⟩;refine ⟨_,_,rfl,rfl,(by show (0:Int)<3; decide),l2,_,_,_,rfl,rfl,bV.of aB,hN,_,_,rfl,rfl,N0,_,_,rfl,rfl,?_⟩;generalize bG H1 l2 (.lst [V.int 1,V.int 9,V.int (10^(50:Int).toNat)])=H2 at n2 ⊢;have u0:=aGh (x9^(6:Int).toNat) (aF8 N0);have u1:=aGc (x9^(6:Int).toNat) N0;dsimp only;have eB:∃ B:Int,1+x9^(6:Int).toNat%N=B/\0<B/\B<=10^50:=⟨_,rfl,by omega,by omega⟩
  obtain ⟨B,hB,B0,B1⟩:=eB;rw [hB];refine ⟨_,rfl,_,rfl,tt,B,rfl,B0,zR B0 B1,fun pr H3 s3 h3=>?_⟩;have k1:=Fr.Gv (t:=tt) (b:=B) (aF8 B0);have k2:=Fr.Gm (t:=tt) (b:=B) (aF8 B0);have k3:=Fr.t8 (t:=tt) (b:=B) (aF8 B0);generalize (Fr.sh tt B).1=t' at k1 h3;generalize (Fr.sh tt B).2=b' at k2 k3 h3;refine ⟨pr,_,rfl,bW.of h3,rfl,_,_,rfl,_,_,rfl,rfl,?_⟩;have ht':t'.natAbs<10^60:=by omega
  have hb':b'<10^60:=by
   have:(10:Int)^50<10^60:=by decide +kernel
   omega
  have lt:=zH ht';have lb:=zH (i:=b') (by omega);have c1:(Str.ofString "/").length=1:=by decide
  have s03:=(n1.trans n2).trans s3;refine ⟨_,rfl,t',rfl,pO ht',?_⟩;have fin:∀ (d:Str),d=Hy t' b'->zL [.str (Hy t' b'),.str d] H3 Q E0->True:=fun _ _ _=>trivial;refine ⟨_,rfl,_,_,rfl,rfl,_,rfl,?_⟩
  by_cases z:b'=1
  ·refine mK (decide_eq_false (by omega)) ?_;refine ⟨_,rfl,_,rfl,qP,fun pp hpp=>?_⟩;have n4:=aG hpp (.tup [.int t',.int b']);refine ⟨pp,t',b',rfl,aB,ht',k3,hb',?_⟩;refine ⟨_,rfl,iQ t',?_,fun H5 s5=>q H5 (s03.trans (n4.trans s5))⟩;unfold Hy;rw [if_pos z]
   rfl
  ·refine pA (decide_eq_true (by omega)) ?_;refine ⟨_,rfl,_,_,rfl,rfl,by omega,?_⟩;refine ⟨_,rfl,b',rfl,pO (by omega),_,_,rfl,rfl,by rw [len_app]; omega,?_⟩;refine ⟨_,rfl,_,rfl,qP,fun pp hpp=>?_⟩;have n4:=aG hpp (.tup [.int t',.int b']);refine ⟨pp,t',b',rfl,aB,ht',k3,hb',?_⟩;refine ⟨_,rfl,iQ t'++Str.ofString "/"++iQ b',?_,fun H5 s5=>q H5 (s03.trans (n4.trans s5))⟩;unfold Hy;rw [if_neg z]
   rfl
 ·have htt:T.natAbs<10^60:=by omega
  generalize T=tt at htt ⊢;refine ⟨_,rfl,c,9,rfl,fun x9 p9 q9=>?_⟩;refine ⟨_,_,rfl,rfl,⟨by decide,by decide,by omega⟩,?_⟩;refine ⟨_,_,rfl,rfl,⟨by decide,by decide,by decide⟩,KH,fun l2 h2=>?_⟩;have n2:=aG h2 (.lst [V.int 1,V.int 9,V.int (10^(50:Int).toNat)]);refine ⟨_,rfl,c,3,rfl,fun x3 _ _=>?_⟩;obtain ⟨N,hN,N0,N1⟩:=Dm (a:=1) (b:=9) (c:=10^(50:Int).toNat) (B:=10^50) (m:=x3) ⟨by decide,by decide +kernel⟩ ⟨by decide,by decide +kernel⟩ ⟨by decide +kernel,by decide +kernel⟩;refine ⟨_,_,rfl,rfl,(by show (0:Int)<3; decide),l2,_,_,_,rfl,rfl,bV.of aB,hN,_,_,rfl,rfl,N0,_,_,rfl,rfl,?_⟩;generalize bG H1 l2 (.lst [V.int 1,V.int 9,V.int (10^(50:Int).toNat)])=H2 at n2 ⊢;have u0:=aGh (x9^(6:Int).toNat) (aF8 N0);have u1:=aGc (x9^(6:Int).toNat) N0;dsimp only;have eB:∃ B:Int,1+x9^(6:Int).toNat%N=B/\0<B/\B<=10^50:=⟨_,rfl,by omega,by omega⟩
  obtain ⟨B,hB,B0,B1⟩:=eB;rw [hB];refine ⟨_,rfl,_,rfl,tt,B,rfl,B0,zR B0 B1,fun pr H3 s3 h3=>?_⟩;have k1:=Fr.Gv (t:=tt) (b:=B) (aF8 B0);have k2:=Fr.Gm (t:=tt) (b:=B) (aF8 B0);have k3:=Fr.t8 (t:=tt) (b:=B) (aF8 B0);generalize (Fr.sh tt B).1=t' at k1 h3;generalize (Fr.sh tt B).2=b' at k2 k3 h3;refine ⟨pr,_,rfl,bW.of h3,rfl,_,_,rfl,_,_,rfl,rfl,?_⟩;have ht':t'.natAbs<10^60:=by omega
  have hb':b'<10^60:=by
   have:(10:Int)^50<10^60:=by decide +kernel
   omega
  have lt:=zH ht';have lb:=zH (i:=b') (by omega);have c1:(Str.ofString "/").length=1:=by decide
  have s03:=(n1.trans n2).trans s3;refine ⟨_,rfl,t',rfl,pO ht',?_⟩;have fin:∀ (d:Str),d=Hy t' b'->zL [.str (Hy t' b'),.str d] H3 Q E0->True:=fun _ _ _=>trivial;refine ⟨_,rfl,_,_,rfl,rfl,_,rfl,?_⟩
  by_cases z:b'=1
  ·refine mK (decide_eq_false (by omega)) ?_;refine ⟨_,rfl,_,rfl,qP,fun pp hpp=>?_⟩;have n4:=aG hpp (.tup [.int t',.int b']);refine ⟨pp,t',b',rfl,aB,ht',k3,hb',?_⟩;refine ⟨_,rfl,iQ t',?_,fun H5 s5=>q H5 (s03.trans (n4.trans s5))⟩;unfold Hy;rw [if_pos z]
   rfl
  ·refine pA (decide_eq_true (by omega)) ?_;refine ⟨_,rfl,_,_,rfl,rfl,by omega,?_⟩;refine ⟨_,rfl,b',rfl,pO (by omega),_,_,rfl,rfl,by rw [len_app]; omega,?_⟩;refine ⟨_,rfl,_,rfl,qP,fun pp hpp=>?_⟩;have n4:=aG hpp (.tup [.int t',.int b']);refine ⟨pp,t',b',rfl,aB,ht',k3,hb',?_⟩;refine ⟨_,rfl,iQ t'++Str.ofString "/"++iQ b',?_,fun H5 s5=>q H5 (s03.trans (n4.trans s5))⟩;unfold Hy;rw [if_neg z]
   rfl
def Ur (Pt:Addr):Sp:=fun vs H Q _=>∃ c b:Int,vs=[.int c,.int b]/\dF Pt fC gU H/\∀ H',cD Pt H H'->dF Pt fC gU H'->Q (.bl true) H'
theorem DG {c:Cs}{H:Hp}{D x:Addr}{us zs:List V}{s:Sd.Sd}{d m:Nat}(h:eO c H x s d m)(e:H D=some (.lst us)):eO c (bG H D (.lst zs)) x s d m :=
 rH (fun b xs eb=>by rw [aK (cH eb e fun z=>nomatch z)]; exact eb) (fun b C dx f fs eb=>by rw [aK (cH eb e fun z=>nomatch z)]; exact eb) h
theorem Jc {P:Addr}{pos:Pos}{qual:Str}{H:Hp}{D:Addr}{us zs:List V}(t:dF P pos qual H)(e:H D=some (.lst us)):dF P pos qual (bG H D (.lst zs)):=by
 rcases t with w | ⟨c',w1,w2⟩
 ·exact .inl (by rw [aK (cH w e fun z=>nomatch z)]; exact w)
 ·exact .inr ⟨c',by rw [aK (cH w1 e fun z=>nomatch z)]; exact w1,by rw [aK (cH w2 e fun z=>by unfold qL at z; exact nomatch z)]; exact w2⟩
theorem Cw {H:Hp}{D a:Addr}{us zs:List V}{s:Sd.Sd}(h:jK H a s)(e:H D=some (.lst us)):jK (bG H D (.lst zs)) a s:=h.keep fun b xs eb=>by rw [aK (cH eb e fun z=>nomatch z)]; exact eb
theorem xA {n:Nat}{f:Addr}{fd:FuncData}(F:dJ K "_law_good" "_law_good" (top 75) f fd){c:Cs}{p:Kg}{cl:Cl}{aCx:Addr}{aCr:FuncData}(aCy:dI P w K mg base n "_law_share_good" ["_law_cell"] Lf aCx aCr){aCb:Addr}{aB5:FuncData}(D_:dI P w K mg base n "_law_same" ["_law_found","_law_due"] zL aCb aB5){B_:Addr}{z_:FuncData}(o_:dI P w K mg base n "_law_plan_written" ["_law_told"] (DP 41) B_ z_){aB0:Addr}{aBM:FuncData}(R_:dI P w K mg base n "write_plan" ["plan"] (J9 cl 41) aB0 aBM){aB9:Addr}{aB4:FuncData}(aA8:dI P w K mg base n "_law_made" ["_law_told"] (Js cl 41) aB9 aB4){aB8:Addr}{aB3:FuncData}(aAV:dI P w K mg base n "_law_plan" ["_law_cell","_law_k","_law_deep","_law_most"] (Ht 41) aB8 aB3){l_:Addr}{j_:FuncData}(b_:dI P w K mg base n "_law_mixed" ["_law_cell","_law_k"] wO l_ j_){aCi:Addr}{aCc:FuncData}(aCj:dI P w K mg base n "_law_sort_written" ["_law_told"] Kz aCi aCc){aCP:Addr}{aCH:FuncData}(aCQ:dI P w K mg base n "write_pattern" ["pattern"] (Ko p) aCP aCH){aC4:Addr}{aCR:FuncData}(aC5:dI P w K mg base n "_law_pattern" ["_law_told"] (Lz p) aC4 aCR){aDx:Addr}{aDp:FuncData}(aDy:dI P w K mg base n "_law_sort" ["_law_cell"] Uj aDx aDp){aDc:Addr}{aC6:FuncData}(aDd:dI P w K mg base n "write_boxes" ["boxes"] (Lg c) aDc aC6){N_:Addr}{K_:FuncData}(O_:dI P w K mg base n "write_box" ["stand"] (Hz c 5) N_ K_){aBX:Addr}{aBK:FuncData}(aBY:dI P w K mg base n "_law_stand" ["_law_told"] (Jj c Pt fC 5) aBX aBK){U_:Addr}{P_:FuncData}(V_:dI P w K mg base n "_law_written" ["_law_told"] (DW 5) U_ P_){aCp:Addr}{aCa:FuncData}(aCq:dI P w K mg base n "_law_box" ["_law_row_here","_law_deep","_law_most","_law_scale"] (En 5) aCp aCa){aDK:Addr}{aDz:FuncData}(aDL:dI P w K mg base n "_law_row" ["_law_cell","_law_bit","_law_many"] Im aDK aDz)(k_:mg "range" = none):aX P w K mg base dG (n+1) f fd ["_law_cell","_law_bit"] (Ur Pt):=by
 refine F.ok oE (fun vs H Q E h=>?_) (fun cdv A outer s H vs Q E hr h=>?_)
 ·obtain ⟨cc,bb,rfl,_⟩:=h
  rfl
 obtain ⟨cc,bb,rfl,tb0,q⟩:=h;have nd:=oE.nd;refine ⟨_,(aF (aY (i:=2) nd rfl (Or.inr rfl) (aH aDL hr (aA (pv 0) (aA (pv 1) (aA aD aC))))) (aF (aY (i:=3) nd rfl (Or.inr rfl) (bI iY (nH (aA aD (aA aD (aA aD aC)))) (aM bU (gG PySem.F.plainAttrs_list PySem.F.slot_list_pop PySem.F.type_list_pop lV (pv 2) (aA aD aC)) aD) (fun _ _=>rfl))) (aF (rN (i:=4) (ls:=["_law_k"]) (M:=["_law_cell","_law_bit","_law_row_here","_law_scale","_law_boxes","_law_due","_law_stands","_law_sort_here","_law_told"]) rfl (bL.of (by rfl)) (NL.of (by rfl)) nd rfl (Or.inl rfl) (eZ rfl k_ (aA (aM cL aD (aM bU (aM gO (pv 1) aD) aD)) aC)) (fun _ _ _ _=>⟨(aP (i:=0) (cB (by rfl)) rfl (Or.inl rfl)),bR,(aH aCq hr (aA (pv 3) (aA aD (aA aD (aA (pv 4) aC)))))⟩)) (aF (rN (i:=5) (ls:=["_law_told"]) (M:=["_law_cell","_law_bit","_law_row_here","_law_scale","_law_boxes","_law_due","_law_stands","_law_sort_here","_law_told#"]) rfl (bL.of (by rfl)) (NL.of (by rfl)) nd rfl (Or.inl rfl) (cX (pv 4)) (fun _ _ _ _=>⟨(aP (i:=0) (cB (by rfl)) rfl (Or.inl rfl)),bR,(aH V_ hr (aA (pv 0) aC))⟩)) (aF (rN (i:=6) (ls:=["_law_told"]) (M:=["_law_cell","_law_bit","_law_row_here","_law_scale","_law_boxes","_law_due","_law_stands","_law_sort_here","_law_told#"]) rfl (bL.of (by rfl)) (NL.of (by rfl)) nd rfl (Or.inl rfl) (cX (pv 4)) (fun _ _ _ _=>⟨(aP (i:=0) (cB (by rfl)) rfl (Or.inl rfl)),bR,(aH aBY hr (aA (pv 0) aC))⟩)) (aF (b8 (PW.pt (jM (d9 (dC (aH D_ hr (aA (aH O_ hr (aA (bI iY (pv 6) aD (fun _ _=>rfl)) aC)) (aA (bI iY (pv 5) aD (fun _ _=>rfl)) aC))))) (gK (d9 (dC (aH D_ hr (aA (aH aDd hr (aA (pv 6) aC)) (aA (gG PySem.F.plainAttrs_str PySem.F.slot_str_join PySem.F.type_str_join jC aU (aA (pv 5) aC)) aC)))))))) (aJ (aN kW)) bB) (aF (aY (i:=7) nd rfl (Or.inl rfl) (aH aDy hr (aA (pv 0) aC))) (aF (b8 (d9 (dC (aH D_ hr (aA (aH aCQ hr (aA (aH aC5 hr (aA (pv 7) aC)) aC)) (aA (aH aCj hr (aA (pv 7) aC)) aC))))) (aJ (aN kW)) bB) (aF (aY (i:=8) nd rfl (Or.inl rfl) (aH aAV hr (aA (pv 0) (aA aD (aA (aM cL aD (aM bU (aH b_ hr (aA (pv 0) (aA aD aC))) aD)) (aA aD aC)))))) (aJ (aN (pM (aH D_ hr (aA (aH R_ hr (aA (aH aA8 hr (aA (pv 8) aC)) aC)) (aA (aH o_ hr (aA (pv 8) aC)) aC))) (pJ (aH aCy hr (aA (pv 0) aC))))))))))))))),?_⟩;refine ⟨_,rfl,_,rfl,cc,bb,901,rfl,rfl,fun r H2 ms s2 hr0 hr1 ml=>?_⟩;cases ms with
 | nil=>simp at ml
 | cons m0 ms =>
 have ml2:ms.length=900:=by simpa using ml
 refine ⟨KH,fun l hl0=>?_⟩;have n3:=aG hl0 (.lst [.int 10,.int 1000,.int 1000000001]);have nlr:l≠r:=fun e=>by rw [e,hr1] at hl0; cases hl0
 have hr2:=n3 _ _ hr1;obtain ⟨sc,ev,sc1,sc9⟩:=Dm (a:=10) (b:=1000) (c:=1000000001) (B:=1000000001) (m:=m0) ⟨by decide,by decide⟩ ⟨by decide,by decide⟩ ⟨by decide,by decide⟩;refine ⟨_,rfl,.inl ⟨rfl,_,bV.of hr2⟩,r,_,0,0,.int m0,rfl,rfl,hr2,by decide,by decide,Og (by simp),rfl,_,_,rfl,rfl,(by show (0:Int)<3; decide),l,_,_,_,rfl,rfl,bV.of (by rw [aK nlr]; exact aB),ev,?_⟩;have s3:aR H (bG (bG H2 l (.lst [.int 10,.int 1000,.int 1000000001])) r (.lst ((Is (m0::ms)).eraseIdx 0))):=(s2.trans n3).upd_new hr0 _;have hr3:bG (bG H2 l (.lst [.int 10,.int 1000,.int 1000000001])) r (.lst ((Is (m0::ms)).eraseIdx 0)) r=some (.lst (Is ms)):=aB;generalize bG (bG H2 l (.lst [.int 10,.int 1000,.int 1000000001])) r (.lst ((Is (m0::ms)).eraseIdx 0))=H3 at s3 hr3 ⊢;have w0:=aGh (bb/2) (show (6:Int)≠0 by decide);have w1:=aGc (bb/2) (show (0:Int)<6 by decide);have p150:=Ng;obtain ⟨N,hN⟩:∃ N:Nat,1+bb/2%6=(N:Int):=⟨(1+bb/2%6).toNat,by omega⟩
 have N6:N<=6:=by omega
 have N1:1<=N:=by omega
 refine ⟨_,rfl,_,_,rfl,rfl,⟨by decide,by decide⟩,_,_,rfl,rfl,(by show (0:Int)<6; decide),_,_,rfl,rfl,(N:Int),congrArg (fun z=>[V.int z]) hN,by omega,by omega,fun D hD=>?_⟩;have nDr:D≠r:=fun e=>by rw [e,hr3] at hD; cases hD
 refine iC (n:=N) (fun i τ H'=>∃ (v0:Option V) (ts:List Addr) (ss:List Sd.Sd) (ns:List Int),τ = [v0,some (.int cc),some (.int bb),some (.ref r),some (.int sc),none,none,none,none,none]/\(∀ b o,b≠r->H3 b=some o->H' b=some o)/\H' D=some (.lst (ts.map V.ref))/\H' r=some (.lst (Is ns))/\ts.length=i/\ss.length=i/\900<=ns.length+i*150/\ns.length<=900/\(∀ (j:Nat) t s,ts[j]? = some t->ss[j]? = some s->jK H' t s)/\∀ s∈ss,Sd.Ok s 4 12) ⟨none,[],[],ms,rfl,(fun b o nb e=>aG hD _ _ _ e),aB,aG hD _ _ _ hr3,rfl,rfl,by omega,by omega,(fun j t s h=>by simp at h),fun _ h=>nomatch h⟩ ?turnB ?doneB
 case turnB =>
  rintro i m τ H' hm hi ⟨v0,ts,ss,ns,rfl,kp,hD',hr',lt,ls,le1,le2,to,ok⟩;unfold kZ;refine cW ?_;refine ⟨_,rfl,_,rfl,r,ns,4,12,sc,rfl,hr',by decide,by decide,by decide,by decide,by omega,by omega,by omega,by omega,fun t H4 s ns' k4 hr4 l1 l2 to4 ok4=>?_⟩;have hD4:=k4 _ _ nDr hD';refine bA hm hi hD4 (by rw [aFF]; exact aQ (by omega)) ⟨_,ts++[t],ss++[s],ns',rfl,fun b o nb e=>?_,by rw [aB,aFN]; rfl,by rw [aK (Ne.symm nDr)]; exact hr4,by rw [aFZ,lt]; rfl,by rw [aFZ,ls]; rfl,by rw [aHa]; omega,by omega,fun j t' s' h1 h2=>?_,fun s' hs'=>?_⟩
  ·rw [aK (aV e hD)];exact k4 b o nb (kp b o nb e)
  ·by_cases hj:j<ts.length
   ·rw [aGd hj] at h1;rw [aGd (by omega)] at h2;refine Cw ((to j t' s' h1 h2).keep fun b xs eb=>k4 b _ (cH eb hr' fun z=>nomatch z) eb) hD4
   ·have hj2:=(aFO.mp h1).1;rw [aFZ,aGq] at hj2;rw [aF9 (by omega),show j-ts.length=0 by omega] at h1;rw [aF9 (by omega),show j-ss.length=0 by omega] at h2;cases h1;cases h2;exact Cw to4 hD4
  ·rcases aF4.mp hs' with z | z
   ·exact ok s' z
   ·rw [aFR.mp z]; exact ok4
 case doneB =>
 rintro τ H4 ⟨v0,ts,ss,ns,rfl,kp,hD4,hr4,lt,ls,_,_,to,ok⟩;have s4:aR H H4:=fun b o e=>kp b o (aV e hr0) (s3 _ _ e);have hlt:(ts.map V.ref).length=ts.length:=aFF _;have ok1:∀ (i:Nat) s,ss[i]? = some s->Sd.Ok s 4 12:=fun i s h=>ok s (aF1 h);refine ⟨_,rfl,D,rfl,⟨_,bV.of hD4⟩,fun E1 hE1=>?_⟩;refine cI (xs:=ts.map V.ref) (fun i τ H'=>∃ v0,τ = [v0,some (.int cc),some (.int bb),some (.ref r),some (.int sc),some (.ref D),none,none,none,none]/\aR H4 H'/\H' E1=some (.lst (((ss.take i).map (uW 5)).map V.str))) ⟨none,rfl,aG hE1 _,aB⟩ ?keepW ?turnW ?doneW
 case keepW =>
  rintro i τ H' hi ⟨v0,rfl,hs,_⟩;exact bV.of (hs _ _ hD4)
 case turnW =>
  rintro i m v τ H' hm hi hv ⟨v0,rfl,hs,hE'⟩;obtain ⟨y,hy,rfl⟩:=iB hv;have hiy:=(aFO.mp hy).1;have es:ss[i]? = some ss[i]:=aFK (by omega);refine uT ?_;refine ⟨_,rfl,y,_,4,12,rfl,(to i y _ hy es).same hs,ok1 i _ es,by decide,aFM _,fun H5 s5=>?_⟩;refine bA hm hi (s5 _ _ hE') (by rw [aFF,aFF,aGe]; exact aQ (by omega)) ⟨_,rfl,(hs.trans s5).upd_new hE1 _,?_⟩;rw [aB,take_snoc es,aFN,aFN]
  rfl
 case doneW =>
 rintro τ H5 ⟨v0,rfl,s5,hE5⟩;rw [hlt,lt,<- ls,aF3] at hE5;have hD5:=s5 _ _ hD4;have tb5:dF Pt fC gU H5:=tb0.same (s4.trans s5);refine ⟨_,rfl,D,rfl,⟨_,bV.of hD5⟩,fun Z hZ=>?_⟩;refine cI (xs:=ts.map V.ref) (fun i τ H'=>∃ (v0:Option V) (ys:List Addr),τ = [v0,some (.int cc),some (.int bb),some (.ref r),some (.int sc),some (.ref D),some (.ref E1),none,none,none]/\cD Pt H5 H'/\dF Pt fC gU H'/\H' Z=some (.lst (ys.map V.ref))/\ys.length=i/\∀ (j:Nat) y s,ys[j]? = some y->ss[j]? = some s->eO c H' y s 4 12) ⟨none,[],rfl,(aG hZ _).toT,tb5.same (aG hZ _),aB,rfl,fun j y s h=>by simp at h⟩ ?keepS ?turnS ?doneS
 case keepS =>
  rintro i τ H' hi ⟨v0,ys,rfl,hs,_⟩;exact bV.of (hs.get tb5 hD5 fun _ z=>nomatch z)
 case turnS =>
  rintro i m v τ H' hm hi hv ⟨v0,ys,rfl,hs,tb',hZ',ly,st⟩;obtain ⟨y,hy,rfl⟩:=iB hv;have hiy:=(aFO.mp hy).1;have es:ss[i]? = some ss[i]:=aFK (by omega);generalize ss[i]=sd at es;have tox:jK H' y sd:=((to i y sd hy es).same s5).keep fun b xs eb=>hs.get tb5 eb fun _ z=>nomatch z
  refine uT ?_;refine ⟨_,rfl,y,sd,4,12,rfl,tox,ok1 i sd es,by decide,by decide,by decide,tb',fun x H6 s6 tb6 st6=>?_⟩;have hZ6:=s6.get tb' hZ' (fun _ z=>nomatch z);refine bA hm hi hZ6 (by rw [aFF]; exact aQ (by omega)) ⟨_,ys++[x],rfl,(hs.trans s6).upd_new hZ _,Jc tb6 hZ6,by rw [aB,aFN]; rfl,by rw [aFZ,ly]; rfl,fun j p u hp hu=>?_⟩
  by_cases hj:j<ys.length
  ·rw [aGd hj] at hp;exact DG (rH (fun b xs eb=>s6.get tb' eb fun _ z=>nomatch z) (fun b C dx f fs eb=>s6.get tb' eb fun _ z=>nomatch z) (st j p u hp hu)) hZ6
  ·have hj2:=(aFO.mp hp).1;rw [aFZ,aGq] at hj2;rw [aF9 (by omega),show j-ys.length=0 by omega] at hp;cases hp;rw [show j=i by omega,es] at hu;cases hu;exact DG st6 hZ6
 case doneS =>
 rintro τ H6 ⟨v0,ys,rfl,s6,tb6,hZ6,ly,st⟩;rw [hlt] at ly;have hE6:=s6.get tb5 hE5 (fun _ z=>nomatch z);have sl:ss.length=ts.length:=by omega
 obtain ⟨y0,hy0⟩:∃ y0,ys[0]? = some y0:=⟨_,aFK (by omega)⟩
 obtain ⟨s0,hs0⟩:∃ s0,ss[0]? = some s0:=⟨_,aFK (by omega)⟩
 have at1:FT (ys.map V.ref) 0=some (.ref y0):=oY (j:=0) (by rw [aFY,hy0]; rfl);have at2:FT ((ss.map (uW 5)).map V.str) 0=some (.str (uW 5 s0)):=oY (j:=0) (by rw [aFY,aFY,hs0]; rfl);refine ⟨_,rfl,Z,_,_,_,rfl,rfl,bV.of hZ6,at1,y0,s0,4,12,12,rfl,st 0 y0 s0 hy0 hs0,ok1 0 s0 hs0,by decide,aFM _,fun H7 s7=>?_⟩;refine ⟨_,rfl,E1,_,_,_,rfl,rfl,bV.of (s7 _ _ hE6),at2,uW 5 s0,rfl,fun H8 s8=>?_⟩;refine ⟨_,rfl,?_⟩;refine eX ?_;have s68:=s7.trans s8;refine ⟨_,rfl,Z,ys,ss,rfl,s68 _ _ hZ6,by omega,by omega,(fun i y s h1 h2=>⟨4,12,12,eO.same s68 (st i y s h1 h2),ok1 i s h2,by decide⟩),fun H9 s9=>?_⟩;have s69:=s68.trans s9;have c3:(Str.ofString " | ").length=3:=by decide
 refine ⟨rfl,_,rfl,_,E1,ss.map (uW 5),rfl,rfl,bV.of (s69 _ _ hE6),?_,WY ss,rfl,fun HA sA=>?_⟩
 ·refine aFJ (fK (B:=156250) fun t ht=>?_) ?_
  ·obtain ⟨s,hs1,rfl⟩:=aFL.mp ht;exact Vu (ok s hs1)
  ·rw [aFF,c3];omega
 refine ⟨_,rfl,?_⟩;refine eX ?_;have s6A:=s69.trans sA;refine ⟨_,rfl,cc,rfl,fun so HB S sB hSo okS=>?_⟩;refine ⟨_,rfl,so,S,rfl,hSo,okS,fun px HC sC hP=>?_⟩;refine ⟨px,S,rfl,hP,okS,fun HD sD=>?_⟩;have sCD:=sC.trans sD;refine ⟨_,rfl,so,S,rfl,hSo.same sCD,okS,fun HE sE=>?_⟩;refine ⟨Zr S,rfl,fun HF sF=>?_⟩;refine ⟨_,rfl,?_⟩;refine eX ?_;have s6F:=(s6A.trans sB).trans ((sCD.trans sE).trans sF);refine ⟨_,rfl,_,rfl,cc,2,rfl,fun x2 _ _=>?_⟩;have y0':=aGh x2 (show (39:Int)≠0 by decide);have y1':=aGc x2 (show (0:Int)<39 by decide);obtain ⟨d,hd⟩:∃ d:Nat,2+x2%39=(d:Int):=⟨(2+x2%39).toNat,by omega⟩
 refine ⟨_,_,rfl,rfl,(by show (0:Int)<39; decide),_,_,rfl,rfl,cc,1,d,6,by rw [<- hd]; rfl,by omega,by omega,by decide,by decide,fun tp HG t sG tr pk=>?_⟩;refine ⟨_,rfl,tp,t,d,rfl,tr,pk.dp,by omega,fun y HH sH kn=>?_⟩;refine ⟨y,t,d,6,rfl,kn,pk,by omega,by omega,by decide,fun HI sI=>?_⟩;have sHI:=sH.trans sI;refine ⟨_,rfl,tp,t,d,6,rfl,tr.same sHI,pk,by omega,by omega,by decide,fun HJ sJ=>?_⟩;refine ⟨Bb 41 t,rfl,fun HK sK=>?_⟩;refine ⟨_,rfl,?_⟩;refine iR ?_;refine ⟨_,rfl,cc,rfl,fun HL sL=>?_⟩;have s6L:=s6F.trans (sG.trans (((sHI.trans sJ).trans sK).trans sL));exact q HL (((s4.trans s5).toT.trans s6).trans s6L.toT) (tb6.same s6L)
theorem Oj {n:Nat}{f:Addr}{fd:FuncData}(F:dJ K "law" "law" (top 76) f fd){aDA:Addr}{aDq:FuncData}(aDB:dI P w K mg base n "_law_good" ["_law_cell","_law_bit"] (Ur Pt) aDA aDq){aC7:Addr}{aCS:FuncData}(aCd:dI P w K mg base n "_law_cell_at" ["_law_script","_law_k"] (LR K) aC7 aCS)(k_:mg "range" = none)(aCu:mg "max" = none)(aDl:mg "min" = none)(G_:mg "len" = none):aX P w K mg base dG (n+1) f fd ["_law_script"] (rE K Pt fC):=by
 refine F.ok Ii (fun vs H Q E h=>?_) (fun cdv A outer s H vs Q E hr h=>?_)
 ·obtain ⟨a,ns,rfl,_⟩:=h
  rfl
 obtain ⟨a,ns,rfl,hS,hlen,hT0,q⟩:=h;have nd:=Ii.nd;refine ⟨_,(aF (jQ PassesOwn.never rfl (eZ rfl k_ (aA (bD (GQ rfl) rfl aCu Bv (aA aD (aA (bD (vK rfl) rfl aDl JR (aA (bD eN rfl G_ m9 (aA (pv 0) aC)) (aA aD aC))) aC))) aC)) (aP (i:=1) nd rfl (Or.inl rfl)) (aJ (b8 (d9 (dC (aH aDB hr (aA (aH aCd hr (aA (pv 0) (aA (pv 1) aC))) (aA (aH aCd hr (aA (pv 0) (aA (aM cL (pv 1) aD) aC))) aC))))) (aJ (aN kW)) bB))) (aJ (aN kW))),?_⟩;have hT0:dF Pt fC gU H:=.inl hT0;have hl:(ns.map V.int).length=ns.length:=aFF _;obtain ⟨N,hN,N6⟩:∃ N:Nat,(if (if (4:Int)<(((ns.map V.int).length:Nat):Int) then 4 else (((ns.map V.int).length:Nat):Int)) > 1 then (if (4:Int)<(((ns.map V.int).length:Nat):Int) then 4 else (((ns.map V.int).length:Nat):Int)) else 1)=(N:Int)/\N<=4:=by
  refine ⟨Int.toNat (if (if (4:Int)<(((ns.map V.int).length:Nat):Int) then 4 else (((ns.map V.int).length:Nat):Int)) > 1 then (if (4:Int)<(((ns.map V.int).length:Nat):Int) then 4 else (((ns.map V.int).length:Nat):Int)) else 1),?_,?_⟩ <;> (split <;> split <;> omega)
 refine ⟨_,rfl,a,_,rfl,.inl hS,_,_,rfl,_,_,rfl,(N:Int),congrArg (fun z=>[V.int z]) hN,by omega,by omega,?_⟩;refine pZ (n:=(N:Int).toNat) (fun i σ H'=>∃ v1,σ = [some (.ref a),v1]/\cD Pt H H'/\dF Pt fC gU H') ⟨none,rfl,cD.refl _,hT0⟩ ?turn ?done
 case done =>
  rintro σ H' ⟨v1,rfl,_⟩;exact q H'
 case turn =>
  rintro i σ H1 hi ⟨v1,rfl,sT,tb1⟩;have hS1:bV K H1 a (ns.map V.int):=sT.lst hT0 hS;refine ⟨_,rfl,_,rfl,a,ns,0+(i:Int),rfl,hS1,by omega,fun cl=>?_⟩;refine ⟨_,rfl,_,rfl,_,_,rfl,rfl,a,ns,0+(i:Int)+4,rfl,hS1,by omega,fun bt=>?_⟩;refine ⟨cl,bt,rfl,tb1,fun H2 s2 tb2=>?_⟩;refine ⟨_,rfl,?_⟩;exact eX ⟨_,rfl,sT.trans s2,tb2⟩
theorem Dh {f:Addr}{fd:FuncData}{ps:List Str}{m:Nat}(F:aX P w K mg base dG m f fd ps tH):aX P w K mg base dG m f fd ps Ho:=F.imp fun vs H Q E ⟨i,lo,hi,e,h1,h2,q⟩=>⟨_,lo,hi,_,e,.int i,by rw [decide_eq_true h1,decide_eq_true h2]; exact q⟩
end
end K85
namespace L2
open PySem PySem.Spec PyProof.Rows
structure TF (K:PySem.W.Frag)(x:Str)(st:Stmt)(f:Addr)(fd:FuncData):Prop where
 a:PySem.W.nsIn K mainGlobals x=some (some (.ref f))
 F:dJ K x x st f fd
structure MF (K:PySem.W.Frag)(C:Addr)(m q:Str)(st:Stmt)(f:Addr)(fd:FuncData):Prop where
 a:PySem.W.findIn K (.ref C) m=some (some (.ref f))
 i:PySem.W.isFn K (.ref f)=true
 F:dJ K m q st f fd
structure TD (K:PySem.W.Frag)(x:Str)(st:Stmt)(dT f:Addr)(fd:FuncData):Prop where
 a:PySem.W.nsIn K mainGlobals x=some (some (.ref f))
 F:Z0 K dT x x st f fd
def M8 (K:PySem.W.Frag)(l:List Str):Bool:=l.all fun x=>match PySem.W.nsIn K mainGlobals x with | some none=>true | _=>false
def Qu (mg:Str->Option Value):List Str->Prop
 | []=>True
 | x::r=>mg x=none/\Qu mg r
section
variable {P:Program}{w:World}{K:PySem.W.Frag}{mg:Str->Option Value}{base h:Heap}{x m q:Str}{st:Stmt}{f C:Addr}{fd:FuncData}{ps:List Str}{sp:Sp}{n:Nat}
theorem R0 (X:K.In h)(G:h.Ns mainGlobals mg):∀ {l:List Str},M8 K l=true->Qu mg l
 | [],_=>trivial
 | y::r,e=>by
  have e':((match PySem.W.nsIn K mainGlobals y with | some none=>true | _=>false)&&M8 K r)=true:=e;rw [aGs] at e';refine ⟨PySem.W.mg_none_of X G ?_,R0 X G e'.2⟩;have e1:=e'.1;revert e1;cases PySem.W.nsIn K mainGlobals y with
  | none=>intro z; cases z
  | some o=>cases o with
   | none=>intro _; rfl
   | some v=>intro z; cases z
theorem MF.mt (T:MF K C m q st f fd):jF K C m f:=⟨T.a,T.i,T.F.kp⟩
theorem TF.cal (T:TF K x st f fd)(X:K.In h)(G:h.Ns mainGlobals mg)(g:aX P w K mg base dG n f fd ps sp)(b:Binds K fd ps []):dI P w K mg base n x ps sp f fd:=⟨g,b,T.F.kp,PySem.W.mg_of X G T.a⟩
theorem dI.u {m:Nat}(c:dI P w K mg base n x ps sp f fd)(h:n<=m:=by omega):dI P w K mg base m x ps sp f fd:=c.up h
theorem aX.u {CX:yG}{m:Nat}(g:aX P w K mg base CX n f fd ps sp)(h:n<=m:=by omega):aX P w K mg base CX m f fd ps sp:=g.mono h
theorem Ba {CX:yG}(_:aX P w K mg base CX n f fd ps sp)(b:Binds K fd ps []):Binds K fd ps []:=b
abbrev UG (x q:Str)(st:Stmt)(us:List Value)(r:List (Str×Value)):Prop:=∀ (kV doc pm:Value) (an:Option Addr) (cdv ct:Value),bindArgs (PySem.W.fnOf x q (iV st) (fJ st) (aL st) .none kV doc pm an cdv ct) ⟨us,[]⟩=pure r
theorem dJ.bd1 {a:Str}(F:dJ K x q st f fd)(h:∀ u,UG x q st [u] [(a,u)]:=by intros; exact fun _ _ _ _ _ _=>rfl):Binds K fd [a] []:=F.binds fun _ _ _ _ _ _ us hl=>match us,hl with | [_],_=>h _ _ _ _ _ _ _
theorem dJ.bd2 {a b:Str}(F:dJ K x q st f fd)(h:∀ u v,UG x q st [u,v] [(a,u),(b,v)]:=by intros; exact fun _ _ _ _ _ _=>rfl):Binds K fd [a,b] []:=F.binds fun _ _ _ _ _ _ us hl=>match us,hl with | [_,_],_=>h _ _ _ _ _ _ _ _
theorem dJ.bd3 {a b c:Str}(F:dJ K x q st f fd)(h:∀ u v y,UG x q st [u,v,y] [(a,u),(b,v),(c,y)]:=by intros; exact fun _ _ _ _ _ _=>rfl):Binds K fd [a,b,c] []:=F.binds fun _ _ _ _ _ _ us hl=>match us,hl with | [_,_,_],_=>h _ _ _ _ _ _ _ _ _
theorem dJ.bd4 {a b c d:Str}(F:dJ K x q st f fd)(h:∀ u v y z,UG x q st [u,v,y,z] [(a,u),(b,v),(c,y),(d,z)]:=by intros; exact fun _ _ _ _ _ _=>rfl):Binds K fd [a,b,c,d] []:=F.binds fun _ _ _ _ _ _ us hl=>match us,hl with | [_,_,_,_],_=>h _ _ _ _ _ _ _ _ _ _
theorem dJ.bd5 {a b c d e:Str}(F:dJ K x q st f fd)(h:∀ u v y z t,UG x q st [u,v,y,z,t] [(a,u),(b,v),(c,y),(d,z),(e,t)]:=by intros; exact fun _ _ _ _ _ _=>rfl):Binds K fd [a,b,c,d,e] []:=F.binds fun _ _ _ _ _ _ us hl=>match us,hl with | [_,_,_,_,_],_=>h _ _ _ _ _ _ _ _ _ _ _
theorem Jm {CX:yG}{b:Nat}{sp:Nat->Sp}(z:∀ vs H Q E,¬ sp 0 vs H Q E)(s:∀ d,aX P w K mg base CX (b+d) f fd ps (sp d)->aX P w K mg base CX (b+d+1) f fd ps (sp (d+1))):∀ d,aX P w K mg base CX (b+d) f fd ps (sp d)
 | 0=>⟨fun vs H Q E y=>absurd y (z vs H Q E),fun A outer s H args us vs Q E _ _ _ _ y=>absurd y (z vs H Q E)⟩
 | d+1=>s d (Jm z s d)
end
end L2
namespace K85
open PySem L2 TD TP TX Kn PyProof.Rows
theorem Oo {l:W.OpenLaw}{w:World}{K:W.Frag}{h:Heap}{mg:Str->Option Value}{fa cR Pt f1 f2 f3 f4 f5 f6 f7 f8 f9 f10 f11 f12 f13 f14 f15 f16 f17 f18 f19 f20 f21 f22 f23 f24 f25 f26 f27 f28 f29 f30 f31 f32 f33 f34 f35 f36 f37 f38 f39 f40 f41 f42 f43 f44 f45 f46 f47 f48 f49 f50 f51 f52 f53 f54 f55 f56 f57 f58 f59 cSt cE cS A_ cFw cGr cLi cSp cTk cOp cPl:Addr}{g1 g2 g3 g4 g5 g6 g7 g8 g9 g10 g11 g12 g13 g14 g15 g16 g17 g18 g19 g20 g21 g22 g23 g24 g25 g26 g27 g28 g29 g30 g31 g32 g33 g34 g35 g36 g37 g38 g39 g40 g41 g42 g43 g44 g45 g46 g47 g48 g49 g50 g51 g52 g53 g54 g55 g56 g57 g58 g59:FuncData}(X:K.In h)(G:h.Ns mainGlobals mg)(hfa:mg "law" = some (.ref fa))
  (aEr:W.nsIn K mainGlobals "Stand" = some (some (.ref cSt)))
  (aE6:W.nsIn K mainGlobals "End" = some (some (.ref cE)))
  (aEs:W.nsIn K mainGlobals "Stage" = some (some (.ref cS)))
  (aEt:W.nsIn K mainGlobals "NoBox" = some (some (.ref A_)))
  (aE7:W.nsIn K mainGlobals "Few" = some (some (.ref cFw)))
  (aDV:W.nsIn K mainGlobals "Groups" = some (some (.ref cGr)))
  (aDW:W.nsIn K mainGlobals "Listed" = some (some (.ref cLi)))
  (aEG:W.nsIn K mainGlobals "Stop" = some (some (.ref cSp)))
  (aEH:W.nsIn K mainGlobals "Take" = some (some (.ref cTk)))
  (aEI:W.nsIn K mainGlobals "Open" = some (some (.ref cOp)))
  (aEJ:W.nsIn K mainGlobals "Plan" = some (some (.ref cPl)))
  (T1:TF K "is_whole" (top 6) f1 g1)
  (T2:TF K "common_divisor" (top 7) f2 g2)
  (T3:TF K "common_multiple" (top 8) f3 g3)
  (T4:TF K "share" (top 9) f4 g4)
  (T5:TF K "whole" (top 10) f5 g5)
  (T6:TF K "below" (top 11) f6 g6)
  (T7:TF K "lesser" (top 12) f7 g7)
  (T8:TF K "rising" (top 16) f8 g8)
  (T9:TF K "in_form" (top 17) f9 g9)
  (T10:TF K "all_weights" (top 18) f10 g10)
  (T11:TF K "capped" (top 19) f11 g11)
  (T12:TF K "mixed" (top 20) f12 g12)
  (T13:TF K "level_for" (top 21) f13 g13)
  (T14:TF K "is_stand" (top 31) f14 g14)
  (T15:TF K "is_stage_row" (top 32) f15 g15)
  (T16:TF K "is_stage_rows" (top 33) f16 g16)
  (T17:TF K "is_numbers" (top 36) f17 g17)
  (T18:TF K "write_whole" (top 47) f18 g18)
  (T19:TF K "write_share" (top 48) f19 g19)
  (T20:TF K "write_wholes" (top 49) f20 g20)
  (T21:TF K "write_box" (top 50) f21 g21)
  (T22:TF K "write_boxes" (top 51) f22 g22)
  (T23:TF K "write_pattern" (top 52) f23 g23)
  (T24:TF K "write_plan" (top 53) f24 g24)
  (T25:TF K "_law_cell_at" (top 55) f25 g25)
  (T26:TF K "_law_mixed" (top 56) f26 g26)
  (T27:TF K "_law_plain" (top 57) f27 g27)
  (T28:TF K "_law_same" (top 58) f28 g28)
  (T29:TF K "_law_low" (top 59) f29 g29)
  (T30:TF K "_law_row" (top 63) f30 g30)
  (T31:TF K "_law_box" (top 64) f31 g31)
  (T32:TF K "_law_stand" (top 65) f32 g32)
  (T33:TF K "_law_plan" (top 66) f33 g33)
  (T34:TF K "_law_made" (top 67) f34 g34)
  (T35:TF K "_law_plan_written" (top 68) f35 g35)
  (T36:TF K "_law_sort" (top 69) f36 g36)
  (T37:TF K "_law_pattern" (top 70) f37 g37)
  (T38:TF K "_law_sort_written" (top 71) f38 g38)
  (T39:TF K "_law_numbers" (top 72) f39 g39)
  (T40:TF K "_law_written" (top 73) f40 g40)
  (T41:TF K "_law_share_good" (top 74) f41 g41)
  (T42:TF K "_law_good" (top 75) f42 g42)
  (T43:TF K "law" (top 76) f43 g43)
  (T44:MF K cSt "__init__" "Stand.__init__" (inClass (top 28) 0) f44 g44)
  (T45:MF K cSt "ends" "Stand.ends" (inClass (top 28) 1) f45 g45)
  (T46:MF K cSt "stages" "Stand.stages" (inClass (top 28) 2) f46 g46)
  (T47:MF K cSt "caps" "Stand.caps" (inClass (top 28) 4) f47 g47)
  (T48:MF K cE "__init__" "End.__init__" (inClass (top 29) 0) f48 g48)
  (T49:MF K cE "is_end" "End.is_end" (inClass (top 29) 1) f49 g49)
  (T50:MF K cS "__init__" "Stage.__init__" (inClass (top 30) 0) f50 g50)
  (T51:MF K cS "is_end" "Stage.is_end" (inClass (top 30) 1) f51 g51)
  (T52:MF K cFw "__init__" "Few.__init__" (inClass (top 38) 0) f52 g52)
  (T53:MF K cFw "told" "Few.told" (inClass (top 38) 2) f53 g53)
  (T54:MF K cGr "__init__" "Groups.__init__" (inClass (top 39) 0) f54 g54)
  (T55:MF K cGr "told" "Groups.told" (inClass (top 39) 2) f55 g55)
  (T56:MF K cLi "__init__" "Listed.__init__" (inClass (top 40) 0) f56 g56)
  (T57:MF K cLi "told" "Listed.told" (inClass (top 40) 2) f57 g57)
  (T58:MF K cTk "__init__" "Take.__init__" (inClass (top 44) 0) f58 g58)
  (T59:MF K cOp "__init__" "Open.__init__" (inClass (top 45) 0) f59 g59)
  (ck:TD.CK K ⟨cE,cS⟩)
  (ct:CT K ⟨cE,cS⟩)
  (mkE:W.makesIn K cE=true)
  (kcE:W.keepIn K (.ref cE)=true)
  (aEK:W.findIn K (.ref cE) "ends" = some (some (.ref f45)))
  (aDX:W.findIn K (.ref cE) "stages" = some (some (.ref f46)))
  (aEL:W.findIn K (.ref cE) "caps" = some (some (.ref f47)))
  (mkS:W.makesIn K cS=true)
  (kcS:W.keepIn K (.ref cS)=true)
  (aEM:W.findIn K (.ref cS) "ends" = some (some (.ref f45)))
  (aDY:W.findIn K (.ref cS) "stages" = some (some (.ref f46)))
  (aEN:W.findIn K (.ref cS) "caps" = some (some (.ref f47)))
  (aDR:Jl K cSt "__init__" f44)
  (xcl:Fd K A_)
  (cn:CN K ⟨cE,cS⟩)
  (pt:PCT K ⟨cFw,cGr,cLi⟩)
  (kn:Kn.CK K ⟨cSp,cTk,cOp⟩ cPl)
  (MSp0:Sq K cSp)
  (mkFw:W.makesIn K cFw=true)
  (kcFw:W.keepIn K (.ref cFw)=true)
  (mkGr:W.makesIn K cGr=true)
  (kcGr:W.keepIn K (.ref cGr)=true)
  (mkLi:W.makesIn K cLi=true)
  (kcLi:W.keepIn K (.ref cLi)=true)
  (mkTk:W.makesIn K cTk=true)
  (kcTk:W.keepIn K (.ref cTk)=true)
  (mkOp:W.makesIn K cOp=true)
  (kcOp:W.keepIn K (.ref cOp)=true)
  (nkF:W.findIn K (.ref cFw) "limit" = some none)
  (nkG:W.findIn K (.ref cGr) "groups" = some none)
  (nkM:W.findIn K (.ref cGr) "most" = some none)
  (nkS:W.findIn K (.ref cLi) "sets" = some none)
  (y_:M8 K ["abs","all","bool","int","isinstance","len","list","max","min","range","reversed","set","sorted","str","sum","tuple"]=true)
  {aCe:Tok} (aC8:W.nsIn K mainGlobals "MOST_WEIGHT" = some (some (.int 1000 aCe)))
  {Y_:Tok} (aCs:W.nsIn K mainGlobals "MOST_STAGE_ROWS" = some (some (.int 4 Y_)))
  {aCm:Tok} (aDe:W.nsIn K mainGlobals "MOST_WORTH" = some (some (.int 1000000000 aCm)))
  {aCf:Tok} (aC9:W.nsIn K mainGlobals "MOST_STAGES" = some (some (.int 4 aCf)))
  {aCz:Tok} (aDr:W.nsIn K mainGlobals "MOST_ENDS" = some (some (.int 12 aCz)))
  {aCn:Tok} (aDf:W.nsIn K mainGlobals "MOST_PRICE" = some (some (.int 1000000000 aCn)))
  {aCo:Tok} (aDg:W.nsIn K mainGlobals "MOST_BOXES" = some (some (.int 6 aCo)))
  {aCA:Tok} (aDs:W.nsIn K mainGlobals "MOST_SETS" = some (some (.int 64 aCA)))
  (gcR:g8.code=.ref cR)
  (tb:W.tabIn K "rising" = some (cR,Pt)) (ch:W.codeHdIn K cR Pt=true) (np:K.lookup Pt=none)
  : ∃ (fd:FuncData) (c P:Addr),(∀ (s:Shared) (v:Value),BindsTo s fd ⟨[v],[]⟩ [("_law_script",v)])/\W.tabIn K "rising" = some (c,P)/\W.codeHdIn K c P=true/\K.lookup P=none/\∀ base:Heap,K.In base->base.Ns mainGlobals mg->W.CodeHd base c P->base.BuiltinsAt mg P->aX l.prog w K mg base dG 46 fa fd ["_law_script"] (rE K P fC):=by
 obtain ⟨c,rfl,rfl⟩:∃ c:Cs,c.e=cE/\c.s=cS:=⟨⟨cE,cS⟩,rfl,rfl⟩
 replace ck:TD.CK K c:=ck;replace ct:CT K c:=ct;replace cn:CN K c:=cn;obtain ⟨p,rfl,rfl,rfl⟩:∃ p:Kg,p.f=cFw/\p.g=cGr/\p.l=cLi:=⟨⟨cFw,cGr,cLi⟩,rfl,rfl,rfl⟩
 replace pt:PCT K p:=pt;obtain ⟨cl,rfl,rfl,rfl⟩:∃ cl:Kn.Cl,cl.cS=cSp/\cl.cT=cTk/\cl.cO=cOp:=⟨⟨cSp,cTk,cOp⟩,rfl,rfl,rfl⟩
 replace kn:Kn.CK K cl cPl:=kn;have MSp:Sq K cl.cS:=MSp0;cases hfa.symm.trans (W.mg_of X G T43.a);have ⟨aCt,aDk,aCC,aDi,a_,G_,t_,aCu,aDl,k_,L_,aEi,aBO,x_,aDh,d_,_⟩:=R0 X G y_;have aCh:=W.mg_of X G aEr;have aDj:=W.mg_of X G aE6;have aCg:=W.mg_of X G aEs;have aBS:=W.mg_of X G aEt;have aEj:=W.mg_of X G aE7;have aC1:=W.mg_of X G aDV;have aC2:=W.mg_of X G aDW;have aCF:=W.mg_of X G aEG;have aCG:=W.mg_of X G aEH;have aDH:=W.mg_of X G aEI;have aFE:=W.mg_of X G aEJ;have aBq:=W.mg_of X G aC8;have aBH:RelV (.int 1000) (.int 1000 aCe):=⟨_,rfl⟩
 have H_:=W.mg_of X G aCs;have I_:RelV (.int 4) (.int 4 Y_):=⟨_,rfl⟩
 have aBT:=W.mg_of X G aDe;have aBU:RelV (.int 1000000000) (.int 1000000000 aCm):=⟨_,rfl⟩
 have aBI:=W.mg_of X G aC9;have aBJ:RelV (.int 4) (.int 4 aCf):=⟨_,rfl⟩
 have aB6:=W.mg_of X G aDr;have aB7:RelV (.int 12) (.int 12 aCz):=⟨_,rfl⟩
 have aBV:=W.mg_of X G aDf;have aBW:RelV (.int 1000000000) (.int 1000000000 aCn):=⟨_,rfl⟩
 have g_:=W.mg_of X G aDg;have h_:RelV (.int 6) (.int 6 aCo):=⟨_,rfl⟩
 have aAa:=W.mg_of X G aDs;have aAI:RelV (.int 64) (.int 64 aCA):=⟨_,rfl⟩
 refine ⟨g43,cR,Pt,fun s v=>?_,tb,ch,np,fun base _ _ hC hB=>?_⟩
 ·obtain ⟨_,_,_,_,_,_,_,_,_,rfl,_⟩:=T43.F.ex;exact .of_eq rfl
 have R {CX n f g ps sp} (z:aX l.prog w K mg base CX n f g ps sp):=z;have ME:Mk K c.e f48:=⟨mkE,T48.a,T48.i,kcE⟩
 have MS:Mk K c.s f50:=⟨mkS,T50.a,T50.i,kcS⟩
 have aEO:jF K c.e "ends" f45:=⟨aEK,T45.i,T45.F.kp⟩
 have aEP:jF K c.s "ends" f45:=⟨aEM,T45.i,T45.F.kp⟩
 have aDZ:jF K c.e "stages" f46:=⟨aDX,T46.i,T46.F.kp⟩
 have aD0:jF K c.s "stages" f46:=⟨aDY,T46.i,T46.F.kp⟩
 have aEQ:jF K c.e "caps" f47:=⟨aEL,T47.i,T47.F.kp⟩
 have aER:jF K c.s "caps" f47:=⟨aEN,T47.i,T47.F.kp⟩
 have mt49:=T49.mt;have mt51:=T51.mt;have mt53:=T53.mt;have mt55:=T55.mt;have mt57:=T57.mt;have MFw:Mk K p.f f52:=⟨mkFw,T52.a,T52.i,kcFw⟩
 have MGr:Mk K p.g f54:=⟨mkGr,T54.a,T54.i,kcGr⟩
 have MLi:Mk K p.l f56:=⟨mkLi,T56.a,T56.i,kcLi⟩
 have MTk:Mk K cl.cT f58:=⟨mkTk,T58.a,T58.i,kcTk⟩
 have MOp:Mk K cl.cO f59:=⟨mkOp,T59.a,T59.i,kcOp⟩
 have G1:=R (Ax (n:=0) T1.F a_ aCC aDi);have C1:=T1.cal X G G1 T1.F.bd3;have G2:=R (oN (n:=0) T2.F aCt);have C2:=T2.cal X G G2 T2.F.bd2;have G3:=R (nM (n:=1) T3.F C2.u);have C3:=T3.cal X G G3 T3.F.bd1;have G4:=R (Gr (n:=1) T4.F C2.u);have C4:=T4.cal X G G4 T4.F.bd2;have G5:=R (Gd (n:=0) T5.F );have C5:=T5.cal X G G5 T5.F.bd1;have G6:=R (IW (n:=0) T6.F );have C6:=T6.cal X G G6 T6.F.bd2;have G7:=R (Ew (n:=1) T7.F C6.u);have C7:=T7.cal X G G7 T7.F.bd2;have G8:=R (Fo (n:=0) T8.F gcR hC hB aBO aCu);have C8:=T8.cal X G G8 T8.F.bd1;have G9:=R (Bq (n:=1) T9.F C8.u C2.u t_);have C9:=T9.cal X G G9 T9.F.bd1;have G10:=R (rY (n:=0) T10.F aDh);have C10:=T10.cal X G G10 T10.F.bd1;have G11:=R (GJ (n:=2) T11.F C9.u C7.u);have C11:=T11.cal X G G11 T11.F.bd2;have G12:=R (JH (n:=2) T12.F C9.u C10.u C3.u);have C12:=T12.cal X G G12 T12.F.bd1;have G13:=R (w6 (n:=2) T13.F C4.u C10.u C3.u L_);have C13:=T13.cal X G G13 T13.F.bd2;have G14:=R (Af (n:=0) T14.F ck ct cn aDj aCg a_);have C14:=T14.cal X G G14 T14.F.bd1;have G15:=R (qY (n:=1) T15.F (c:=c) C14.u C1.u G_ a_ d_ aBq aBH);have C15:=T15.cal X G G15 T15.F.bd1;have G16:=R (p7 (n:=2) T16.F (c:=c) C15.u aDk G_ a_ t_ H_ I_);have C16:=T16.cal X G G16 T16.F.bd1;have G17:=R (u5 (n:=1) T17.F (T1.cal X G (Dh G1) T1.F.bd3).u aDk G_ a_ t_);have C17:=T17.cal X G G17 T17.F.bd4;have G18:=R (uI (n:=0) T18.F x_ aCt);have C18:=T18.cal X G G18 T18.F.bd1;have G19:=R (t7 (n:=1) T19.F C18.u);have C19:=T19.cal X G G19 T19.F.bd1;have G20:=R (qR (n:=1) T20.F C18.u);have C20:=T20.cal X G G20 T20.F.bd1;have G49:=R (vA (n:=0) T49.F (c:=c));have b49:=Ba G49 T49.F.bd1;have G51:=R (rC (n:=0) T51.F (c:=c));have b51:=Ba G51 T51.F.bd1;have b21:Binds K g21 ["stand"] []:=T21.F.bd1;have G21:=Jm (b:=2) (sp:=Hz c) (fun vs H Q E ⟨_,_,_,_,_,_,_,_,h,_⟩=>absurd h (aHn _)) (fun d z=>R (wV (n:=2+d) T21.F ck mt49 G49.u b49 mt51 G51.u b51 C18.u (T21.cal X G z b21))) 5;have C21:=T21.cal X G G21 b21;have G22:=R (uH (n:=7) T22.F (c:=c) C21.u);have C22:=T22.cal X G G22 T22.F.bd1;have G53:=R (zO (n:=0) T53.F pt.cf nkF);have b53:=Ba G53 T53.F.bd1;have G55:=R (sZ (n:=0) T55.F pt.cg nkG nkM);have b55:=Ba G55 T55.F.bd1;have G57:=R (tE (n:=0) T57.F pt.cl nkS);have b57:=Ba G57 T57.F.bd1;have G23:=R (pX (n:=2) T23.F pt mt53 G53.u b53 mt55 G55.u b55 mt57 G57.u b57 C20.u C18.u);have C23:=T23.cal X G G23 T23.F.bd1;have b24:Binds K g24 ["plan"] []:=T24.F.bd1;have G24:=Jm (b:=2) (sp:=J9 cl) (fun vs H Q E ⟨_,_,_,_,_,_,pk,h,_⟩=>by cases pk <;> omega) (fun d z=>R (uV (n:=2+d) T24.F kn aCF aCG (T24.cal X G z b24) C18.u a_)) 41;have C24:=T24.cal X G G24 b24;have G25:=R (q8 (n:=0) T25.F G_);have C25:=T25.cal X G G25 T25.F.bd2;have G26:=R (uZ (n:=0) T26.F );have C26:=T26.cal X G G26 T26.F.bd2;have b27:Binds K g27 ["_law_thing"] []:=T27.F.bd1;have G27:=R (uM (n:=0) T27.F (T27.cal X G (Qv (sp:=VG) (fun _ _ _ _ z=>z) 0) b27) a_ aCC aDi x_ t_ d_);have C27:=T27.cal X G G27 b27;have G28:=R (xU (n:=2) T28.F C27.u);have C28:=T28.cal X G G28 T28.F.bd2;have G29:=R (zZ (n:=0) T29.F aCt);have C29:=T29.cal X G G29 T29.F.bd2;have G30:=R (z6 (n:=1) T30.F C26.u k_);have C30:=T30.cal X G G30 T30.F.bd3;have PN:Binds K g31 ["_law_row_here","_law_deep","_law_most","_law_scale"] []:=T31.F.bd4;have G31:=Jm (b:=1) (sp:=En) (fun vs H Q E ⟨_,_,_,_,_,_,_,h,_⟩=>absurd h (aHn _)) (fun d z=>R (yQ (n:=1+d) T31.F (T31.cal X G z PN) d_ k_ aDl)) 5;have C31:=T31.cal X G G31 PN;have G44:=R (oK (n:=0) T44.F ck d_);have b44:=Ba G44 T44.F.bd5;have G48:=R (qT (n:=1) T48.F ck aCh aDR G44.u b44 aBS xcl C5.u C1.u aBT aBU);have b48:=Ba G48 T48.F.bd2;have G45:=R (uN (n:=0) T45.F ck);have b45:=Ba G45 T45.F.bd1;have G46:=R (qO (n:=0) T46.F ck);have b46:=Ba G46 T46.F.bd1;have G47:=R (uR (n:=0) T47.F ck t_);have b47:=Ba G47 T47.F.bd1;have G50:=R (oU (n:=3) T50.F ck aCh aDR G44.u b44 ck.ce ck.cs aEO aEP G45.u b45 aDZ aD0 G46.u b46 aEQ aER G47.u b47 aBS xcl C11.u C13.u C12.u C16.u C1.u d_ aCu aDh aBI aBJ aB6 aB7 aBV aBW);have b50:=Ba G50 T50.F.bd3;have b32:Binds K g32 ["_law_told"] []:=T32.F.bd1;have G32:=Jm (b:=6) (sp:=Jj c Pt fC) (fun vs H Q E ⟨_,_,_,_,_,_,_,h,_⟩=>absurd h (aHn _)) (fun d z=>R (uY (n:=6+d) T32.F ME G48 b48 aDj (by omega) MS G50 b50 aCg (by omega) (T32.cal X G z b32))) 5;have C32:=T32.cal X G G32 b32;have b33:Binds K g33 ["_law_cell","_law_k","_law_deep","_law_most"] []:=T33.F.bd4;have G33:=Jm (b:=2) (sp:=Ht) (fun vs H Q E ⟨_,_,_,_,_,h1,h2,_⟩=>by omega) (fun d z=>R (xT (n:=2+d) T33.F (T33.cal X G z b33) C26.u d_ k_)) 41;have C33:=T33.cal X G G33 b33;have G58:=R (pF (n:=0) T58.F kn);have b58:=Ba G58 T58.F.bd3;have G59:=R (pL (n:=0) T59.F kn d_);have b59:=Ba G59 T59.F.bd3;have b34:Binds K g34 ["_law_told"] []:=T34.F.bd1;have G34:=Jm (b:=3) (sp:=Js cl) (fun vs H Q E ⟨_,_,_,_,_,dp,h,_⟩=>by cases dp <;> omega) (fun d z=>R (yF (n:=3+d) T34.F MSp aCF MTk G58 b58 aCG (by omega) MOp G59 b59 aDH (by omega) (T34.cal X G z b34))) 41;have C34:=T34.cal X G G34 b34;have b35:Binds K g35 ["_law_told"] []:=T35.F.bd1;have G35:=Jm (b:=1) (sp:=DP) (fun vs H Q E ⟨_,_,_,_,_,_,pk,h,_⟩=>by cases pk <;> omega) (fun d z=>R (lW (n:=1+d) T35.F (T35.cal X G z b35) x_)) 41;have C35:=T35.cal X G G35 b35;have G36:=R (xK (n:=1) T36.F C26.u d_ k_);have C36:=T36.cal X G G36 T36.F.bd1;have G52:=R (rD (n:=1) T52.F pt.cf nkF (T1.cal X G (Dh G1) T1.F.bd3).u g_ h_);have b52:=Ba G52 T52.F.bd2;have G54:=R (nF (n:=2) T54.F pt.cg nkG nkM C17.u d_ g_ h_);have b54:=Ba G54 T54.F.bd3;have G56:=R (nC (n:=2) T56.F pt.cl nkS C17.u d_ aBO G_ aEi aAa aAI);have b56:=Ba G56 T56.F.bd2;have G37:=R (rA (n:=4) T37.F MFw G52 b52 aEj (by omega) MGr G54 b54 aC1 (by omega) MLi G56 b56 aC2 (by omega) t_ L_);have C37:=T37.cal X G G37 T37.F.bd1;have G39:=R (qW (n:=0) T39.F x_);have C39:=T39.cal X G G39 T39.F.bd1;have G38:=R (lR (n:=1) T38.F C39.u x_);have C38:=T38.cal X G G38 T38.F.bd1;have b40:Binds K g40 ["_law_told"] []:=T40.F.bd1;have G40:=Jm (b:=1) (sp:=DW) (fun vs H Q E ⟨_,_,_,_,_,_,_,h,_⟩=>absurd h (aHn _)) (fun d z=>R (rB (n:=1+d) T40.F (T40.cal X G z b40) x_)) 5;have C40:=T40.cal X G G40 b40;have G41:=R (nJ (n:=3) T41.F C28.u C19.u C29.u C26.u x_);have C41:=T41.cal X G G41 T41.F.bd1;have G42:=R (xA (n:=44) T42.F (c:=c) (p:=p) (cl:=cl) C41.u C28.u C35.u C24.u C34.u C33.u C26.u C38.u C23.u C37.u C36.u C22.u C21.u C32.u C40.u C31.u C30.u k_);have C42:=T42.cal X G G42 T42.F.bd2;exact Oj (n:=45) T43.F C42.u C25.u k_ aCu aDl G_
theorem walk {l:W.OpenLaw}{q:Program}{loose:List Str}{XP:(Str->Option Value)->Heap->Prop}{YP:World->Heap->Prop}{d d0:DefRec}{K:Params->W.Frag}(hn:l.most=some 63)(hdf:d.params.defaults=[])
  (h0:(recsOf q).find? (fun e=>e.name==("rising" : Str))=some d0)
  (hY:∀ (w:World) (h:Heap),YP w h->(K w.params).In h)
  (F:∀ (w:World) (mg:Str->Option Value) (fa:Addr) (h:Heap),(K w.params).In h->h.Ns mainGlobals mg->mg d.name=some (.ref fa) ->
   ∃ (fd:FuncData) (c P:Addr),(∀ (s:Shared) (u:Value),BindsTo s fd ⟨[u],[]⟩ [("_law_script",u)])/\W.tabIn (K w.params) "rising" = some (c,P)/\W.codeHdIn (K w.params) c P=true/\(K w.params).lookup P=none/\∀ base:Heap,(K w.params).In base->base.Ns mainGlobals mg->W.CodeHd base c P->base.BuiltinsAt mg P->aX l.prog w (K w.params) mg base dG 46 fa fd ["_law_script"] (rE (K w.params) P fC)) :
  W.WalkO q loose XP YP l.row.toRowW d [] (fun f vs=>PySem.call f vs) :=
 L2.Ie (n:=63) (k:=46) (x:="_law_script") (x0:="rising") (CX:=fun _=>dG) (sp:=fun w P=>rE (K w.params) P fC) hn (by decide) hdf ⟨rfl,by decide,by decide⟩ h0 hY F (fun _ _ a P ns hl hP hS=>⟨a,ns,rfl,hS,hl,hP,fun _=>rfl⟩) fun _ _ _ _ _ z=>z
noncomputable section
abbrev OO:=Params->Obj
def E (P:Params)(x:Str)(t:Tok)(v:Value):DictEntry:=⟨PyData.keyHash P x,.str x t,v⟩
abbrev fnO (n q:Str)(st:Stmt)(dV kV doc pm:Value)(an:Option Addr)(cdv ct:Value):FuncData:=W.fnOf n q (iV st) (fJ st) (aL st) dV kV doc pm an cdv ct
def fnT (n q:Str)(st:Stmt):FuncData:={ name:=n,qualname:=q,params:=iV st,body:=.stmts (fJ st),scope:=aL st,globals:=0,closure:=[],defaults:=.none,kwdefaults:=.none }
def s0  : Obj:=⟨(.type "tuple"),none,(.seq #[] 0),#[]⟩
def s1  : Obj:=⟨.none,none,(.fields #[]),#[]⟩
def s2 (x0:Str)(x1:Nat)(x3:Nat)(x5:Nat)(x6:Int)(x16:Nat)(x19:Nat)(x20:Int)(x25:Nat):Obj:=⟨(.type "code"),none,(.fields #[(.str x0 x1),(.str x0 x3),(.str "/claim/cut.py" x5),(.int x6 0),(.int 0 0),(.int 0 0),(.int 0 0),(.int 0 0),(.ref x16),(.bool false),(.int 181 0),(.ref x19),.none,.none,.none,.none,(.int x20 0),(.int x6 0),(.str "/claim/cut.py" x25)]),#[]⟩
def s3 (x0:Nat)(x2:Nat)(x3:Str)(x4:Nat):Obj:=⟨(.type "frame"),none,.plain,#[(some (.ref x0)),(some (.ref 3)),(some (.ref x2)),none,(some (.str x3 x4)),none,(some (.ref 0))]⟩
def s4 (x0:Str)(x1:Nat):Obj:=⟨(.type "tuple"),none,(.seq #[(.str x0 x1)] 0),#[]⟩
def s5 (x0:Str)(x1:Str)(x2:Stmt):Obj:=⟨.none,none,(.func (fnT x0 x1 x2)),#[]⟩
def s6 (x0:Str)(x1:Nat)(x2:Str)(x3:Nat)(x5:Nat)(x6:Int)(x8:Int)(x16:Nat)(x19:Nat)(x20:Nat)(x21:Nat)(x22:Nat)(x23:Int)(x28:Nat):Obj:=⟨(.type "code"),none,(.fields #[(.str x0 x1),(.str x2 x3),(.str "/claim/cut.py" x5),(.int x6 0),(.int x8 0),(.int 0 0),(.int 0 0),(.int 3 0),(.ref x16),(.bool true),(.int 181 0),(.ref x19),.none,(.ref x20),(.ref x21),(.ref x22),(.int x23 0),(.int x6 0),(.str "/claim/cut.py" x28)]),#[]⟩
def s7 (x0:Str)(x1:Str)(x2:Stmt)(x3:Str)(x4:Nat)(x5:Nat):Obj:=⟨(.type "function"),none,(.func (fnO x0 x1 x2 .none .none .none (.str x3 x4) none (.ref x5) .none)),#[]⟩
def s8  : Obj:=⟨(.type "builtin_function_or_method"),none,(.fields #[(.builtin "type.__prepare__"),(.type "type")]),#[]⟩
def s9 (P:Params)(x1:Nat)(x2:Str)(x3:Nat)(x5:Nat)(x6:Str)(x7:Nat)(x9:Nat)(x10:Int)(x11:Nat)(x13:Nat)(x14:Nat):Obj:=⟨(.type "dict"),none,(.dict #[E P "__module__" x1 (.str x2 x3),E P "__qualname__" x5 (.str x6 x7),E P "__firstlineno__" x9 (.int x10 x11),E P "__static_attributes__" x13 (.ref x14)] 4),#[]⟩
def Wa (x1:Nat)(x2:Nat):Obj:=⟨(.type "getset_descriptor"),none,(.fields #[(.str "__weakref__" x1),(.ref x2),(.builtin "ExceptionGroup.__weakref__"),.none]),#[]⟩
def Eo (x0:Nat):Obj:=⟨(.type "super"),none,(.fields #[(.ref x0),(.ref x0),(.ref x0)]),#[]⟩
def xQ (x0:Nat):Obj:=⟨(.type "builtin_function_or_method"),none,(.fields #[(.builtin "object.__init_subclass__"),(.ref x0)]),#[]⟩
def Bc (x0:Nat):Obj:=⟨(.type "tuple"),none,(.seq #[(.ref x0)] 0),#[]⟩
def Kq (x0:Str)(x1:Nat)(x2:Str)(x3:Nat)(x4:Str)(x5:Nat):Obj:=⟨(.type "tuple"),none,(.seq #[(.str x0 x1),(.str x2 x3),(.str x4 x5)] 0),#[]⟩
def qQ (x0:Str)(x1:Nat)(x2:Str)(x3:Nat):Obj:=⟨(.type "tuple"),none,(.seq #[(.str x0 x1),(.str x2 x3)] 0),#[]⟩
def tL (x0:Str)(x1:Nat)(x2:Str)(x3:Nat)(x5:Nat)(x6:Int)(x8:Int)(x16:Nat)(x19:Nat)(x20:Nat)(x21:Int)(x26:Nat):Obj:=⟨(.type "code"),none,(.fields #[(.str x0 x1),(.str x2 x3),(.str "/claim/cut.py" x5),(.int x6 0),(.int x8 0),(.int 0 0),(.int 0 0),(.int 3 0),(.ref x16),(.bool true),(.int 181 0),(.ref x19),.none,.none,.none,(.ref x20),(.int x21 0),(.int x6 0),(.str "/claim/cut.py" x26)]),#[]⟩
def Lh (x0:Str)(x1:Nat)(x2:Nat)(x4:Nat)(x6:Nat)(x8:Nat)(x10:Nat):Obj:=⟨(.type "type"),none,(.cls ⟨x0,[(.ref x1)],[(.ref x2),(.ref x1),(.type "object")],x4,x0,true,[],[],false,none,false⟩),#[(some (.ref x6)),none,(some (.str x0 x8)),(some (.str x0 x10)),(some (.builtin "object.__new__")),(some (.bool true))]⟩
def Wb (P:Params)(x1:Nat)(x2:Str)(x3:Nat)(x5:Nat)(x6:Int)(x7:Nat)(x8:Str)(x9:Nat)(x10:Nat)(x11:Str)(x12:Nat)(x13:Nat)(x14:Str)(x15:Nat)(x16:Nat)(x18:Nat)(x19:Nat):Obj:=⟨(.type "dict"),none,(.dict #[E P "__module__" x1 (.str x2 x3),E P "__firstlineno__" x5 (.int x6 x7),E P x8 x9 (.ref x10),E P x11 x12 (.ref x13),E P x14 x15 (.ref x16),E P "__doc__" x18 .none] x19),#[]⟩
def o13:OO:=fun _=>s2 "<module>" 182 183 184 1 11 12 185 186
def o14:OO:=fun _=>s3 13 3 "__main__" 164
def o3:OO:=fun P=>⟨(.type "dict"),none,(.dict #[E P "__name__" 165 (.str "lidprice.stands" 349),E P "__doc__" 166 .none,E P "__package__" 167 .none,E P "__loader__" 168 (.builtin "__main__.__loader__#opaque"),E P "__spec__" 169 .none,E P "__annotations__" 170 (.ref 6),E P "__builtins__" 171 (.ref 4),E P "__file__" 173 (.str "/claim/cut.py" 172),E P "__cached__" 174 .none,E P "_wall" 193 (.ref 21),E P "LidError" 213 (.ref 31),E P "NoBox" 229 (.ref 44),E P "NoSets" 245 (.ref 56),E P "is_whole" 256 (.ref 65),E P "common_divisor" 265 (.ref 72),E P "common_multiple" 274 (.ref 79),E P "share" 283 (.ref 86),E P "whole" 290 (.ref 93),E P "below" 298 (.ref 100),E P "lesser" 306 (.ref 107),E P "MOST_WORTH" 310 (.int 1000000000 309),E P "MOST_WEIGHT" 312 (.int 1000 311),E P "rising" 318 (.ref 112),E P "in_form" 324 (.ref 117),E P "all_weights" 330 (.ref 122),E P "capped" 336 (.ref 127),E P "mixed" 342 (.ref 132),E P "level_for" 348 (.ref 137),E P "MOST_PRICE" 352 (.int 1000000000 351),E P "MOST_STAGE_ROWS" 354 (.int 4 353),E P "MOST_STAGES" 356 (.int 4 355),E P "MOST_ENDS" 358 (.int 12 357),E P "MOST_BOXES" 360 (.int 6 359),E P "Stand" 423 (.ref 182)] 34),#[]⟩
def UT:OO:=fun _=>⟨.none,none,(.fields #[(.int 1 0),(.int 0 0),(.ref 20),(.int 5 0),(.int 0 0),(.ref 27),(.int 7 0),(.int 0 0),(.ref 40),(.int 9 0),(.int 0 0),(.ref 52),(.int 12 0),(.int 0 0),(.ref 64),(.int 14 0),(.int 0 0),(.ref 71),(.int 20 0),(.int 0 0),(.ref 78),(.int 25 0),(.int 0 0),(.ref 85),(.int 30 0),(.int 0 0),(.ref 92),(.int 32 0),(.int 0 0),(.ref 99),(.int 34 0),(.int 0 0),(.ref 106),(.int 39 0),(.int 0 0),(.ref 111),(.int 43 0),(.int 0 0),(.ref 116),(.int 51 0),(.int 0 0),(.ref 121),(.int 53 0),(.int 0 0),(.ref 126),(.int 55 0),(.int 0 0),(.ref 131),(.int 62 0),(.int 0 0),(.ref 136),(.int 79 0),(.int 0 0),(.ref 143)]),#[]⟩
def o17:OO:=fun _=>s4 "k" 190
def o19:OO:=fun _=>s5 "_wall" "_wall" (top 0)
def o20:OO:=fun _=>s6 "_wall" 187 "_wall" 188 189 1 1 15 16 17 18 19 191 192
def o21:OO:=fun _=>s7 "_wall" "_wall" (top 0) "__main__" 164 20
def o22:OO:=fun _=>⟨(.type "tuple"),none,(.seq #[(.type "ValueError")] 0),#[]⟩
def o24:OO:=fun P=>s9 P 203 "lidprice.errors" 194 205 "LidError" 204 207 5 206 208 29
def o27:OO:=fun _=>s2 "LidError" 198 199 200 5 25 26 201 202
def o28:OO:=fun _=>s3 27 24 "lidprice.errors" 194
def o30:OO:=fun P=>⟨(.type "dict"),none,(.dict #[E P "__module__" 203 (.str "lidprice.errors" 194),E P "__firstlineno__" 207 (.int 5 206),E P "__static_attributes__" 208 (.ref 29),E P "__weakref__" 210 (.ref 32),E P "__doc__" 211 .none] 3),#[]⟩
def o31:OO:=fun _=>⟨(.type "type"),none,(.cls ⟨"LidError",[(.type "ValueError")],[(.ref 31),(.type "ValueError"),(.type "Exception"),(.type "BaseException"),(.type "object")],30,"LidError",true,[],[(.ref 44),(.ref 56)],false,none,false⟩),#[(some (.ref 22)),none,(some (.str "LidError" 196)),(some (.str "LidError" 204)),(some (.builtin "ValueError.__new__")),(some (.bool true))]⟩
def o32:OO:=fun _=>Wa 209 31
def o33:OO:=fun _=>Eo 31
def o34:OO:=fun _=>xQ 31
def o35:OO:=fun _=>Bc 31
def o37:OO:=fun P=>s9 P 221 "lidprice.errors" 194 223 "NoBox" 222 225 7 224 226 42
def o40:OO:=fun _=>s2 "NoBox" 216 217 218 7 38 39 219 220
def o41:OO:=fun _=>s3 40 37 "lidprice.errors" 194
def o43:OO:=fun P=>⟨(.type "dict"),none,(.dict #[E P "__module__" 221 (.str "lidprice.errors" 194),E P "__firstlineno__" 225 (.int 7 224),E P "__static_attributes__" 226 (.ref 42),E P "__doc__" 227 .none] 2),#[]⟩
def o44:OO:=fun _=>⟨(.type "type"),none,(.cls ⟨"NoBox",[(.ref 31)],[(.ref 44),(.ref 31),(.type "ValueError"),(.type "Exception"),(.type "BaseException"),(.type "object")],43,"NoBox",true,[],[],false,none,false⟩),#[(some (.ref 35)),none,(some (.str "NoBox" 214)),(some (.str "NoBox" 222)),(some (.builtin "ValueError.__new__")),(some (.bool true))]⟩
def o45:OO:=fun _=>Eo 44
def o46:OO:=fun _=>xQ 44
def o47:OO:=fun _=>Bc 31
def o49:OO:=fun P=>s9 P 237 "lidprice.errors" 194 239 "NoSets" 238 241 9 240 242 54
def o52:OO:=fun _=>s2 "NoSets" 232 233 234 9 50 51 235 236
def o53:OO:=fun _=>s3 52 49 "lidprice.errors" 194
def o55:OO:=fun P=>⟨(.type "dict"),none,(.dict #[E P "__module__" 237 (.str "lidprice.errors" 194),E P "__firstlineno__" 241 (.int 9 240),E P "__static_attributes__" 242 (.ref 54),E P "__doc__" 243 .none] 2),#[]⟩
def o56:OO:=fun _=>⟨(.type "type"),none,(.cls ⟨"NoSets",[(.ref 31)],[(.ref 56),(.ref 31),(.type "ValueError"),(.type "Exception"),(.type "BaseException"),(.type "object")],55,"NoSets",true,[],[],false,none,false⟩),#[(some (.ref 47)),none,(some (.str "NoSets" 230)),(some (.str "NoSets" 238)),(some (.builtin "ValueError.__new__")),(some (.bool true))]⟩
def o57:OO:=fun _=>Eo 56
def o58:OO:=fun _=>xQ 56
def o61:OO:=fun _=>Kq "thing" 251 "least" 252 "most" 253
def o63:OO:=fun _=>s5 "is_whole" "is_whole" (top 6)
def o64:OO:=fun _=>s6 "is_whole" 248 "is_whole" 249 250 12 3 59 60 61 62 63 254 255
def o65:OO:=fun _=>s7 "is_whole" "is_whole" (top 6) "lidprice.shares" 246 64
def o68:OO:=fun _=>Kq "one" 260 "other" 261 "rest" 262
def o70:OO:=fun _=>s5 "common_divisor" "common_divisor" (top 7)
def o71:OO:=fun _=>s6 "common_divisor" 257 "common_divisor" 258 259 14 2 66 67 68 69 70 263 264
def o72:OO:=fun _=>s7 "common_divisor" "common_divisor" (top 7) "lidprice.shares" 246 71
def o75:OO:=fun _=>Kq "numbers" 269 "multiple" 270 "number" 271
def o77:OO:=fun _=>s5 "common_multiple" "common_multiple" (top 8)
def o78:OO:=fun _=>s6 "common_multiple" 266 "common_multiple" 267 268 20 1 73 74 75 76 77 272 273
def o79:OO:=fun _=>s7 "common_multiple" "common_multiple" (top 8) "lidprice.shares" 246 78
def o82:OO:=fun _=>Kq "top" 278 "bottom" 279 "divisor" 280
def o84:OO:=fun _=>s5 "share" "share" (top 9)
def o85:OO:=fun _=>s6 "share" 275 "share" 276 277 25 2 80 81 82 83 84 281 282
def o86:OO:=fun _=>s7 "share" "share" (top 9) "lidprice.shares" 246 85
def o89:OO:=fun _=>s4 "number" 287
def o91:OO:=fun _=>s5 "whole" "whole" (top 10)
def o92:OO:=fun _=>s6 "whole" 284 "whole" 285 286 30 1 87 88 89 90 91 288 289
def o93:OO:=fun _=>s7 "whole" "whole" (top 10) "lidprice.shares" 246 92
def o96:OO:=fun _=>qQ "one" 294 "other" 295
def o98:OO:=fun _=>s5 "below" "below" (top 11)
def o99:OO:=fun _=>s6 "below" 291 "below" 292 293 32 2 94 95 96 97 98 296 297
def S9:OO:=fun _=>s7 "below" "below" (top 11) "lidprice.shares" 246 99
def Xp:OO:=fun _=>qQ "one" 302 "other" 303
def Yg:OO:=fun _=>s5 "lesser" "lesser" (top 12)
def Uy:OO:=fun _=>s6 "lesser" 299 "lesser" 300 301 34 2 101 102 103 104 105 304 305
def Tj:OO:=fun _=>s7 "lesser" "lesser" (top 12) "lidprice.shares" 246 106
def Yt:OO:=fun _=>s5 "rising" "rising" (top 16)
def Qx:OO:=fun _=>tL "rising" 313 "rising" 314 315 39 1 108 109 110 316 317
def RP:OO:=fun _=>s7 "rising" "rising" (top 16) "lidprice.tables" 307 111
def Yh:OO:=fun _=>s5 "in_form" "in_form" (top 17)
def Uw:OO:=fun _=>tL "in_form" 319 "in_form" 320 321 43 1 113 114 115 322 323
def SX:OO:=fun _=>s7 "in_form" "in_form" (top 17) "lidprice.tables" 307 116
def We:OO:=fun _=>s5 "all_weights" "all_weights" (top 18)
def RB:OO:=fun _=>tL "all_weights" 325 "all_weights" 326 327 51 1 118 119 120 328 329
def R6:OO:=fun _=>s7 "all_weights" "all_weights" (top 18) "lidprice.tables" 307 121
def ZZ:OO:=fun _=>s5 "capped" "capped" (top 19)
def Tz:OO:=fun _=>tL "capped" 331 "capped" 332 333 53 2 123 124 125 334 335
def V8:OO:=fun _=>s7 "capped" "capped" (top 19) "lidprice.tables" 307 126
def Ws:OO:=fun _=>s5 "mixed" "mixed" (top 20)
def Vg:OO:=fun _=>tL "mixed" 337 "mixed" 338 339 55 1 128 129 130 340 341
def R9:OO:=fun _=>s7 "mixed" "mixed" (top 20) "lidprice.tables" 307 131
def Ww:OO:=fun _=>s5 "level_for" "level_for" (top 21)
def U7:OO:=fun _=>tL "level_for" 343 "level_for" 344 345 62 2 133 134 135 346 347
def Vs:OO:=fun _=>s7 "level_for" "level_for" (top 21) "lidprice.tables" 307 136
def Yp:OO:=fun P=>⟨(.type "dict"),none,(.dict #[E P "__module__" 368 (.str "lidprice.stands" 349),E P "__qualname__" 370 (.str "Stand" 369),E P "__firstlineno__" 372 (.int 79 371),E P "__init__" 383 (.ref 151),E P "ends" 390 (.ref 158),E P "stages" 397 (.ref 165),E P "reserve" 404 (.ref 172),E P "caps" 411 (.ref 179),E P "__static_attributes__" 416 (.ref 180)] 9),#[]⟩
def aAY:OO:=fun _=>⟨.none,none,(.fields #[(.int 81 0),(.int 4 0),(.ref 150),(.int 87 0),(.int 4 0),(.ref 157),(.int 90 0),(.int 4 0),(.ref 164),(.int 93 0),(.int 4 0),(.ref 171),(.int 96 0),(.int 4 0),(.ref 178)]),#[]⟩
def Z6:OO:=fun _=>s2 "Stand" 363 364 365 79 141 142 366 367
def aAr:OO:=fun _=>s3 143 140 "lidprice.stands" 349
def Wq:OO:=fun _=>⟨(.type "tuple"),none,(.seq #[(.str "self" 376),(.str "end_count" 377),(.str "stage_count" 378),(.str "level" 379),(.str "cap_rows" 380)] 0),#[]⟩
def aAg:OO:=fun _=>s5 "__init__" "Stand.__init__" (inClass (top 28) 0)
def Su:OO:=fun _=>s6 "__init__" 373 "Stand.__init__" 374 375 81 5 145 146 147 148 149 381 382
def Ve:OO:=fun _=>s7 "__init__" "Stand.__init__" (inClass (top 28) 0) "lidprice.stands" 349 150
def aAU:OO:=fun _=>s4 "self" 387
def aAd:OO:=fun _=>s5 "ends" "Stand.ends" (inClass (top 28) 1)
def Vf:OO:=fun _=>s6 "ends" 384 "Stand.ends" 385 386 87 1 152 153 154 155 156 388 389
def R7:OO:=fun _=>s7 "ends" "Stand.ends" (inClass (top 28) 1) "lidprice.stands" 349 157
def Zz:OO:=fun _=>s4 "self" 394
def Zw:OO:=fun _=>s5 "stages" "Stand.stages" (inClass (top 28) 2)
def Um:OO:=fun _=>s6 "stages" 391 "Stand.stages" 392 393 90 1 159 160 161 162 163 395 396
def QF:OO:=fun _=>s7 "stages" "Stand.stages" (inClass (top 28) 2) "lidprice.stands" 349 164
def Wf:OO:=fun _=>s4 "self" 401
def aAw:OO:=fun _=>s5 "reserve" "Stand.reserve" (inClass (top 28) 3)
def Uo:OO:=fun _=>s6 "reserve" 398 "Stand.reserve" 399 400 93 1 166 167 168 169 170 402 403
def S6:OO:=fun _=>s7 "reserve" "Stand.reserve" (inClass (top 28) 3) "lidprice.stands" 349 171
def aAp:OO:=fun _=>s4 "self" 408
def aBk:OO:=fun _=>s5 "caps" "Stand.caps" (inClass (top 28) 4)
def SJ:OO:=fun _=>s6 "caps" 405 "Stand.caps" 406 407 96 1 173 174 175 176 177 409 410
def Rt:OO:=fun _=>s7 "caps" "Stand.caps" (inClass (top 28) 4) "lidprice.stands" 349 178
def XF:OO:=fun _=>⟨(.type "tuple"),none,(.seq #[(.str "cap_rows" 412),(.str "end_count" 413),(.str "level" 414),(.str "stage_count" 415)] 0),#[]⟩
def Tn:OO:=fun P=>⟨(.type "dict"),none,(.dict #[E P "__module__" 368 (.str "lidprice.stands" 349),E P "__firstlineno__" 372 (.int 79 371),E P "__init__" 383 (.ref 151),E P "ends" 390 (.ref 158),E P "stages" 397 (.ref 165),E P "reserve" 404 (.ref 172),E P "caps" 411 (.ref 179),E P "__static_attributes__" 416 (.ref 180),E P "__dict__" 418 (.ref 183),E P "__weakref__" 420 (.ref 184),E P "__doc__" 421 .none] 4),#[]⟩
def aBh:OO:=fun _=>⟨(.type "type"),none,(.cls ⟨"Stand",[(.type "object")],[(.ref 182),(.type "object")],181,"Stand",true,[],[],false,none,false⟩),#[none,none,(some (.str "Stand" 361)),(some (.str "Stand" 369)),(some (.builtin "object.__new__")),(some (.bool true))]⟩
def VF:OO:=fun _=>⟨(.type "getset_descriptor"),none,(.fields #[(.str "__dict__" 417),(.ref 182),(.builtin "function.__dict__"),(.builtin "function.__dict__#set")]),#[]⟩
def Td:OO:=fun _=>Wa 419 182
def aAK:OO:=fun _=>Eo 182
def XD:OO:=fun _=>xQ 182
def aBr:OO:=fun P=>⟨(.type "dict"),none,(.dict #[E P "__name__" 165 (.str "lidprice.patterns" 566),E P "__doc__" 166 .none,E P "__package__" 167 .none,E P "__loader__" 168 (.builtin "__main__.__loader__#opaque"),E P "__spec__" 169 .none,E P "__annotations__" 170 (.ref 6),E P "__builtins__" 171 (.ref 4),E P "__file__" 173 (.str "/claim/cut.py" 172),E P "__cached__" 174 .none,E P "_wall" 193 (.ref 21),E P "LidError" 213 (.ref 31),E P "NoBox" 229 (.ref 44),E P "NoSets" 245 (.ref 56),E P "is_whole" 256 (.ref 65),E P "common_divisor" 265 (.ref 72),E P "common_multiple" 274 (.ref 79),E P "share" 283 (.ref 86),E P "whole" 290 (.ref 93),E P "below" 298 (.ref 100),E P "lesser" 306 (.ref 107),E P "MOST_WORTH" 310 (.int 1000000000 309),E P "MOST_WEIGHT" 312 (.int 1000 311),E P "rising" 318 (.ref 112),E P "in_form" 324 (.ref 117),E P "all_weights" 330 (.ref 122),E P "capped" 336 (.ref 127),E P "mixed" 342 (.ref 132),E P "level_for" 348 (.ref 137),E P "MOST_PRICE" 352 (.int 1000000000 351),E P "MOST_STAGE_ROWS" 354 (.int 4 353),E P "MOST_STAGES" 356 (.int 4 355),E P "MOST_ENDS" 358 (.int 12 357),E P "MOST_BOXES" 360 (.int 6 359),E P "Stand" 423 (.ref 182),E P "End" 477 (.ref 231),E P "Stage" 545 (.ref 288),E P "is_stand" 552 (.ref 297),E P "is_stage_row" 559 (.ref 304),E P "is_stage_rows" 565 (.ref 309),E P "MOST_SETS" 569 (.int 64 568),E P "is_numbers" 575 (.ref 314),E P "Pattern" 595 (.ref 324),E P "Few" 635 (.ref 359)] 43),#[]⟩
def Q7:OO:=fun _=>⟨.none,none,(.fields #[(.int 1 0),(.int 0 0),(.ref 20),(.int 5 0),(.int 0 0),(.ref 27),(.int 7 0),(.int 0 0),(.ref 40),(.int 9 0),(.int 0 0),(.ref 52),(.int 12 0),(.int 0 0),(.ref 64),(.int 14 0),(.int 0 0),(.ref 71),(.int 20 0),(.int 0 0),(.ref 78),(.int 25 0),(.int 0 0),(.ref 85),(.int 30 0),(.int 0 0),(.ref 92),(.int 32 0),(.int 0 0),(.ref 99),(.int 34 0),(.int 0 0),(.ref 106),(.int 39 0),(.int 0 0),(.ref 111),(.int 43 0),(.int 0 0),(.ref 116),(.int 51 0),(.int 0 0),(.ref 121),(.int 53 0),(.int 0 0),(.ref 126),(.int 55 0),(.int 0 0),(.ref 131),(.int 62 0),(.int 0 0),(.ref 136),(.int 79 0),(.int 0 0),(.ref 143),(.int 98 0),(.int 0 0),(.ref 192),(.int 117 0),(.int 0 0),(.ref 239),(.int 149 0),(.int 0 0),(.ref 296),(.int 151 0),(.int 0 0),(.ref 303),(.int 155 0),(.int 0 0),(.ref 308),(.int 161 0),(.int 0 0),(.ref 313),(.int 165 0),(.int 0 0),(.ref 320),(.int 167 0),(.int 0 0),(.ref 334)]),#[]⟩
def JM:OO:=fun _=>⟨(.type "type"),none,(.cls ⟨"Stand",[(.type "object")],[(.ref 182),(.type "object")],181,"Stand",true,[],[(.ref 231),(.ref 288)],false,none,false⟩),#[none,none,(some (.str "Stand" 361)),(some (.str "Stand" 369)),(some (.builtin "object.__new__")),(some (.bool true))]⟩
def Yw:OO:=fun _=>Bc 182
def aA2:OO:=fun P=>⟨(.type "dict"),none,(.dict #[E P "__module__" 431 (.str "lidprice.stands" 349),E P "__qualname__" 433 (.str "End" 432),E P "__firstlineno__" 435 (.int 98 434),E P "__init__" 443 (.ref 200),E P "is_end" 450 (.ref 207),E P "ways" 457 (.ref 214),E P "beside" 465 (.ref 221),E P "told" 472 (.ref 228),E P "__static_attributes__" 474 (.ref 229)] 9),#[]⟩
def YZ:OO:=fun _=>⟨.none,none,(.fields #[(.int 100 0),(.int 4 0),(.ref 199),(.int 106 0),(.int 4 0),(.ref 206),(.int 109 0),(.int 4 0),(.ref 213),(.int 112 0),(.int 4 0),(.ref 220),(.int 115 0),(.int 4 0),(.ref 227)]),#[]⟩
def Xx:OO:=fun _=>s2 "End" 426 427 428 98 190 191 429 430
def XN:OO:=fun _=>s3 192 189 "lidprice.stands" 349
def aAv:OO:=fun _=>qQ "self" 439 "worth" 440
def aBi:OO:=fun _=>s5 "__init__" "End.__init__" (inClass (top 29) 0)
def Tw:OO:=fun _=>s6 "__init__" 436 "End.__init__" 437 438 100 2 194 195 196 197 198 441 442
def Vm:OO:=fun _=>s7 "__init__" "End.__init__" (inClass (top 29) 0) "lidprice.stands" 349 199
def Yj:OO:=fun _=>s4 "self" 447
def aAX:OO:=fun _=>s5 "is_end" "End.is_end" (inClass (top 29) 1)
def Qy:OO:=fun _=>s6 "is_end" 444 "End.is_end" 445 446 106 1 201 202 203 204 205 448 449
def Qi:OO:=fun _=>s7 "is_end" "End.is_end" (inClass (top 29) 1) "lidprice.stands" 349 206
def aAi:OO:=fun _=>s4 "self" 454
def X3:OO:=fun _=>s5 "ways" "End.ways" (inClass (top 29) 2)
def S7:OO:=fun _=>s6 "ways" 451 "End.ways" 452 453 109 1 208 209 210 211 212 455 456
def RC:OO:=fun _=>s7 "ways" "End.ways" (inClass (top 29) 2) "lidprice.stands" 349 213
def Ym:OO:=fun _=>qQ "self" 461 "level" 462
def aBf:OO:=fun _=>s5 "beside" "End.beside" (inClass (top 29) 3)
def RW:OO:=fun _=>s6 "beside" 458 "End.beside" 459 460 112 2 215 216 217 218 219 463 464
def V2:OO:=fun _=>s7 "beside" "End.beside" (inClass (top 29) 3) "lidprice.stands" 349 220
def Yz:OO:=fun _=>s4 "self" 469
def ZM:OO:=fun _=>s5 "told" "End.told" (inClass (top 29) 4)
def Q5:OO:=fun _=>s6 "told" 466 "End.told" 467 468 115 1 222 223 224 225 226 470 471
def Vc:OO:=fun _=>s7 "told" "End.told" (inClass (top 29) 4) "lidprice.stands" 349 227
def Xn:OO:=fun _=>s4 "worth" 473
def Q8:OO:=fun P=>⟨(.type "dict"),none,(.dict #[E P "__module__" 431 (.str "lidprice.stands" 349),E P "__firstlineno__" 435 (.int 98 434),E P "__init__" 443 (.ref 200),E P "is_end" 450 (.ref 207),E P "ways" 457 (.ref 214),E P "beside" 465 (.ref 221),E P "told" 472 (.ref 228),E P "__static_attributes__" 474 (.ref 229),E P "__doc__" 475 .none] 2),#[]⟩
def UJ:OO:=fun _=>Lh "End" 182 231 230 187 424 432
def Xi:OO:=fun _=>Eo 231
def YD:OO:=fun _=>xQ 231
def aBe:OO:=fun _=>Bc 182
def aAo:OO:=fun P=>⟨(.type "dict"),none,(.dict #[E P "__module__" 485 (.str "lidprice.stands" 349),E P "__qualname__" 487 (.str "Stage" 486),E P "__firstlineno__" 489 (.int 117 488),E P "__init__" 495 (.ref 245),E P "is_end" 502 (.ref 252),E P "row_share" 510 (.ref 259),E P "after" 518 (.ref 266),E P "ways" 525 (.ref 273),E P "beside" 533 (.ref 280),E P "told" 539 (.ref 285),E P "__static_attributes__" 542 (.ref 286)] 11),#[]⟩
def YX:OO:=fun _=>⟨.none,none,(.fields #[(.int 119 0),(.int 4 0),(.ref 244),(.int 132 0),(.int 4 0),(.ref 251),(.int 135 0),(.int 4 0),(.ref 258),(.int 138 0),(.int 4 0),(.ref 265),(.int 141 0),(.int 4 0),(.ref 272),(.int 144 0),(.int 4 0),(.ref 279),(.int 147 0),(.int 4 0),(.ref 284)]),#[]⟩
def Yo:OO:=fun _=>s2 "Stage" 480 481 482 117 237 238 483 484
def aBt:OO:=fun _=>s3 239 236 "lidprice.stands" 349
def Yc:OO:=fun _=>s5 "__init__" "Stage.__init__" (inClass (top 30) 0)
def WQ:OO:=fun _=>tL "__init__" 490 "Stage.__init__" 491 492 119 3 241 242 243 493 494
def Ri:OO:=fun _=>s7 "__init__" "Stage.__init__" (inClass (top 30) 0) "lidprice.stands" 349 244
def Xc:OO:=fun _=>s4 "self" 499
def aAF:OO:=fun _=>s5 "is_end" "Stage.is_end" (inClass (top 30) 1)
def Vl:OO:=fun _=>s6 "is_end" 496 "Stage.is_end" 497 498 132 1 246 247 248 249 250 500 501
def UL:OO:=fun _=>s7 "is_end" "Stage.is_end" (inClass (top 30) 1) "lidprice.stands" 349 251
def Yb:OO:=fun _=>qQ "self" 506 "row" 507
def YS:OO:=fun _=>s5 "row_share" "Stage.row_share" (inClass (top 30) 2)
def WD:OO:=fun _=>s6 "row_share" 503 "Stage.row_share" 504 505 135 2 253 254 255 256 257 508 509
def Vq:OO:=fun _=>s7 "row_share" "Stage.row_share" (inClass (top 30) 2) "lidprice.stands" 349 258
def Zc:OO:=fun _=>qQ "self" 514 "row" 515
def X5:OO:=fun _=>s5 "after" "Stage.after" (inClass (top 30) 3)
def Ui:OO:=fun _=>s6 "after" 511 "Stage.after" 512 513 138 2 260 261 262 263 264 516 517
def U8:OO:=fun _=>s7 "after" "Stage.after" (inClass (top 30) 3) "lidprice.stands" 349 265
def Zu:OO:=fun _=>s4 "self" 522
def Xu:OO:=fun _=>s5 "ways" "Stage.ways" (inClass (top 30) 4)
def Qc:OO:=fun _=>s6 "ways" 519 "Stage.ways" 520 521 141 1 267 268 269 270 271 523 524
def QB:OO:=fun _=>s7 "ways" "Stage.ways" (inClass (top 30) 4) "lidprice.stands" 349 272
def aAZ:OO:=fun _=>qQ "self" 529 "level" 530
def Xg:OO:=fun _=>s5 "beside" "Stage.beside" (inClass (top 30) 5)
def QG:OO:=fun _=>s6 "beside" 526 "Stage.beside" 527 528 144 2 274 275 276 277 278 531 532
def Sx:OO:=fun _=>s7 "beside" "Stage.beside" (inClass (top 30) 5) "lidprice.stands" 349 279
def Zi:OO:=fun _=>s5 "told" "Stage.told" (inClass (top 30) 6)
def Tu:OO:=fun _=>tL "told" 534 "Stage.told" 535 536 147 1 281 282 283 537 538
def PX:OO:=fun _=>s7 "told" "Stage.told" (inClass (top 30) 6) "lidprice.stands" 349 284
def Y8:OO:=fun _=>qQ "price" 540 "rows" 541
def RZ:OO:=fun P=>⟨(.type "dict"),none,(.dict #[E P "__module__" 485 (.str "lidprice.stands" 349),E P "__firstlineno__" 489 (.int 117 488),E P "__init__" 495 (.ref 245),E P "is_end" 502 (.ref 252),E P "row_share" 510 (.ref 259),E P "after" 518 (.ref 266),E P "ways" 525 (.ref 273),E P "beside" 533 (.ref 280),E P "told" 539 (.ref 285),E P "__static_attributes__" 542 (.ref 286),E P "__doc__" 543 .none] 2),#[]⟩
def RQ:OO:=fun _=>Lh "Stage" 182 288 287 234 478 486
def aAE:OO:=fun _=>Eo 288
def YH:OO:=fun _=>xQ 288
def Zt:OO:=fun _=>s4 "thing" 549
def aA5:OO:=fun _=>s5 "is_stand" "is_stand" (top 31)
def Vy:OO:=fun _=>s6 "is_stand" 546 "is_stand" 547 548 149 1 291 292 293 294 295 550 551
def R5:OO:=fun _=>s7 "is_stand" "is_stand" (top 31) "lidprice.stands" 349 296
def aBz:OO:=fun _=>s4 "row" 556
def Z9:OO:=fun _=>s5 "is_stage_row" "is_stage_row" (top 32)
def VD:OO:=fun _=>s6 "is_stage_row" 553 "is_stage_row" 554 555 151 1 298 299 300 301 302 557 558
def SN:OO:=fun _=>s7 "is_stage_row" "is_stage_row" (top 32) "lidprice.stands" 349 303
def aAx:OO:=fun _=>s5 "is_stage_rows" "is_stage_rows" (top 33)
def RG:OO:=fun _=>tL "is_stage_rows" 560 "is_stage_rows" 561 562 155 1 305 306 307 563 564
def WN:OO:=fun _=>s7 "is_stage_rows" "is_stage_rows" (top 33) "lidprice.stands" 349 308
def Z8:OO:=fun _=>s5 "is_numbers" "is_numbers" (top 36)
def RD:OO:=fun _=>tL "is_numbers" 570 "is_numbers" 571 572 161 4 310 311 312 573 574
def Sh:OO:=fun _=>s7 "is_numbers" "is_numbers" (top 36) "lidprice.patterns" 566 313
def Zy:OO:=fun P=>s9 P 583 "lidprice.patterns" 566 585 "Pattern" 584 587 165 586 588 322
def Wr:OO:=fun _=>s2 "Pattern" 578 579 580 165 318 319 581 582
def Yd:OO:=fun _=>s3 320 317 "lidprice.patterns" 566
def RX:OO:=fun P=>Wb P 583 "lidprice.patterns" 566 587 165 586 "__static_attributes__" 588 322 "__dict__" 590 325 "__weakref__" 592 326 593 4
def XJ:OO:=fun _=>⟨(.type "type"),none,(.cls ⟨"Pattern",[(.type "object")],[(.ref 324),(.type "object")],323,"Pattern",true,[],[(.ref 359)],false,none,false⟩),#[none,none,(some (.str "Pattern" 576)),(some (.str "Pattern" 584)),(some (.builtin "object.__new__")),(some (.bool true))]⟩
def V6:OO:=fun _=>⟨(.type "getset_descriptor"),none,(.fields #[(.str "__dict__" 589),(.ref 324),(.builtin "function.__dict__"),(.builtin "function.__dict__#set")]),#[]⟩
def VN:OO:=fun _=>Wa 591 324
def Zd:OO:=fun _=>Eo 324
def ZP:OO:=fun _=>xQ 324
def Yn:OO:=fun _=>Bc 324
def Yq:OO:=fun P=>⟨(.type "dict"),none,(.dict #[E P "__module__" 603 (.str "lidprice.patterns" 566),E P "__qualname__" 605 (.str "Few" 604),E P "__firstlineno__" 607 (.int 167 606),E P "__init__" 615 (.ref 342),E P "may" 623 (.ref 349),E P "told" 630 (.ref 356),E P "__static_attributes__" 632 (.ref 357)] 7),#[]⟩
def Xy:OO:=fun _=>⟨.none,none,(.fields #[(.int 169 0),(.int 4 0),(.ref 341),(.int 174 0),(.int 4 0),(.ref 348),(.int 177 0),(.int 4 0),(.ref 355)]),#[]⟩
def Ye:OO:=fun _=>s2 "Few" 598 599 600 167 332 333 601 602
def Xq:OO:=fun _=>s3 334 331 "lidprice.patterns" 566
def aAC:OO:=fun _=>qQ "self" 611 "count" 612
def aBc:OO:=fun _=>s5 "__init__" "Few.__init__" (inClass (top 38) 0)
def Qk:OO:=fun _=>s6 "__init__" 608 "Few.__init__" 609 610 169 2 336 337 338 339 340 613 614
def Ra:OO:=fun _=>s7 "__init__" "Few.__init__" (inClass (top 38) 0) "lidprice.patterns" 566 341
def aBA:OO:=fun _=>qQ "self" 619 "kept" 620
def Xz:OO:=fun _=>s5 "may" "Few.may" (inClass (top 38) 1)
def U5:OO:=fun _=>s6 "may" 616 "Few.may" 617 618 174 2 343 344 345 346 347 621 622
def Vz:OO:=fun _=>s7 "may" "Few.may" (inClass (top 38) 1) "lidprice.patterns" 566 348
def YL:OO:=fun _=>s4 "self" 627
def Y9:OO:=fun _=>s5 "told" "Few.told" (inClass (top 38) 2)
def Rz:OO:=fun _=>s6 "told" 624 "Few.told" 625 626 177 1 350 351 352 353 354 628 629
def UW:OO:=fun _=>s7 "told" "Few.told" (inClass (top 38) 2) "lidprice.patterns" 566 355
def aBv:OO:=fun _=>s4 "limit" 631
def Vp:OO:=fun P=>⟨(.type "dict"),none,(.dict #[E P "__module__" 603 (.str "lidprice.patterns" 566),E P "__firstlineno__" 607 (.int 167 606),E P "__init__" 615 (.ref 342),E P "may" 623 (.ref 349),E P "told" 630 (.ref 356),E P "__static_attributes__" 632 (.ref 357),E P "__doc__" 633 .none] 2),#[]⟩
def VP:OO:=fun _=>Lh "Few" 324 359 358 329 596 604
def aAt:OO:=fun _=>Eo 359
def YG:OO:=fun _=>xQ 359
def Zv:OO:=fun P=>⟨(.type "dict"),none,(.dict #[E P "__name__" 165 (.str "lidprice.plans" 718),E P "__doc__" 166 .none,E P "__package__" 167 .none,E P "__loader__" 168 (.builtin "__main__.__loader__#opaque"),E P "__spec__" 169 .none,E P "__annotations__" 170 (.ref 6),E P "__builtins__" 171 (.ref 4),E P "__file__" 173 (.str "/claim/cut.py" 172),E P "__cached__" 174 .none,E P "_wall" 193 (.ref 21),E P "LidError" 213 (.ref 31),E P "NoBox" 229 (.ref 44),E P "NoSets" 245 (.ref 56),E P "is_whole" 256 (.ref 65),E P "common_divisor" 265 (.ref 72),E P "common_multiple" 274 (.ref 79),E P "share" 283 (.ref 86),E P "whole" 290 (.ref 93),E P "below" 298 (.ref 100),E P "lesser" 306 (.ref 107),E P "MOST_WORTH" 310 (.int 1000000000 309),E P "MOST_WEIGHT" 312 (.int 1000 311),E P "rising" 318 (.ref 112),E P "in_form" 324 (.ref 117),E P "all_weights" 330 (.ref 122),E P "capped" 336 (.ref 127),E P "mixed" 342 (.ref 132),E P "level_for" 348 (.ref 137),E P "MOST_PRICE" 352 (.int 1000000000 351),E P "MOST_STAGE_ROWS" 354 (.int 4 353),E P "MOST_STAGES" 356 (.int 4 355),E P "MOST_ENDS" 358 (.int 12 357),E P "MOST_BOXES" 360 (.int 6 359),E P "Stand" 423 (.ref 182),E P "End" 477 (.ref 231),E P "Stage" 545 (.ref 288),E P "is_stand" 552 (.ref 297),E P "is_stage_row" 559 (.ref 304),E P "is_stage_rows" 565 (.ref 309),E P "MOST_SETS" 569 (.int 64 568),E P "is_numbers" 575 (.ref 314),E P "Pattern" 595 (.ref 324),E P "Few" 635 (.ref 359),E P "Groups" 677 (.ref 392),E P "Listed" 717 (.ref 425),E P "Plan" 739 (.ref 437),E P "Stop" 762 (.ref 458),E P "Take" 796 (.ref 484)] 48),#[]⟩
def VH:OO:=fun _=>⟨.none,none,(.fields #[(.int 1 0),(.int 0 0),(.ref 20),(.int 5 0),(.int 0 0),(.ref 27),(.int 7 0),(.int 0 0),(.ref 40),(.int 9 0),(.int 0 0),(.ref 52),(.int 12 0),(.int 0 0),(.ref 64),(.int 14 0),(.int 0 0),(.ref 71),(.int 20 0),(.int 0 0),(.ref 78),(.int 25 0),(.int 0 0),(.ref 85),(.int 30 0),(.int 0 0),(.ref 92),(.int 32 0),(.int 0 0),(.ref 99),(.int 34 0),(.int 0 0),(.ref 106),(.int 39 0),(.int 0 0),(.ref 111),(.int 43 0),(.int 0 0),(.ref 116),(.int 51 0),(.int 0 0),(.ref 121),(.int 53 0),(.int 0 0),(.ref 126),(.int 55 0),(.int 0 0),(.ref 131),(.int 62 0),(.int 0 0),(.ref 136),(.int 79 0),(.int 0 0),(.ref 143),(.int 98 0),(.int 0 0),(.ref 192),(.int 117 0),(.int 0 0),(.ref 239),(.int 149 0),(.int 0 0),(.ref 296),(.int 151 0),(.int 0 0),(.ref 303),(.int 155 0),(.int 0 0),(.ref 308),(.int 161 0),(.int 0 0),(.ref 313),(.int 165 0),(.int 0 0),(.ref 320),(.int 167 0),(.int 0 0),(.ref 334),(.int 179 0),(.int 0 0),(.ref 367),(.int 194 0),(.int 0 0),(.ref 400),(.int 207 0),(.int 0 0),(.ref 433),(.int 209 0),(.int 0 0),(.ref 447),(.int 213 0),(.int 0 0),(.ref 466)]),#[]⟩
def Ih:OO:=fun _=>⟨(.type "type"),none,(.cls ⟨"Pattern",[(.type "object")],[(.ref 324),(.type "object")],323,"Pattern",true,[],[(.ref 359),(.ref 392),(.ref 425)],false,none,false⟩),#[none,none,(some (.str "Pattern" 576)),(some (.str "Pattern" 584)),(some (.builtin "object.__new__")),(some (.bool true))]⟩
def Xj:OO:=fun _=>Bc 324
def aAh:OO:=fun P=>⟨(.type "dict"),none,(.dict #[E P "__module__" 643 (.str "lidprice.patterns" 566),E P "__qualname__" 645 (.str "Groups" 644),E P "__firstlineno__" 647 (.int 179 646),E P "__init__" 656 (.ref 375),E P "may" 664 (.ref 382),E P "told" 671 (.ref 389),E P "__static_attributes__" 674 (.ref 390)] 7),#[]⟩
def aBE:OO:=fun _=>⟨.none,none,(.fields #[(.int 181 0),(.int 4 0),(.ref 374),(.int 189 0),(.int 4 0),(.ref 381),(.int 192 0),(.int 4 0),(.ref 388)]),#[]⟩
def ZK:OO:=fun _=>s2 "Groups" 638 639 640 179 365 366 641 642
def aAc:OO:=fun _=>s3 367 364 "lidprice.patterns" 566
def aAJ:OO:=fun _=>Kq "self" 651 "groups" 652 "most" 653
def aAT:OO:=fun _=>s5 "__init__" "Groups.__init__" (inClass (top 39) 0)
def Us:OO:=fun _=>s6 "__init__" 648 "Groups.__init__" 649 650 181 3 369 370 371 372 373 654 655
def Ph:OO:=fun _=>s7 "__init__" "Groups.__init__" (inClass (top 39) 0) "lidprice.patterns" 566 374
def Xa:OO:=fun _=>qQ "self" 660 "kept" 661
def aAL:OO:=fun _=>s5 "may" "Groups.may" (inClass (top 39) 1)
def QW:OO:=fun _=>s6 "may" 657 "Groups.may" 658 659 189 2 376 377 378 379 380 662 663
def R8:OO:=fun _=>s7 "may" "Groups.may" (inClass (top 39) 1) "lidprice.patterns" 566 381
def Zo:OO:=fun _=>s4 "self" 668
def Zx:OO:=fun _=>s5 "told" "Groups.told" (inClass (top 39) 2)
def Ug:OO:=fun _=>s6 "told" 665 "Groups.told" 666 667 192 1 383 384 385 386 387 669 670
def Pb:OO:=fun _=>s7 "told" "Groups.told" (inClass (top 39) 2) "lidprice.patterns" 566 388
def Yy:OO:=fun _=>qQ "groups" 672 "most" 673
def Rb:OO:=fun P=>⟨(.type "dict"),none,(.dict #[E P "__module__" 643 (.str "lidprice.patterns" 566),E P "__firstlineno__" 647 (.int 179 646),E P "__init__" 656 (.ref 375),E P "may" 664 (.ref 382),E P "told" 671 (.ref 389),E P "__static_attributes__" 674 (.ref 390),E P "__doc__" 675 .none] 2),#[]⟩
def RN:OO:=fun _=>Lh "Groups" 324 392 391 362 636 644
def aBm:OO:=fun _=>Eo 392
def aAl:OO:=fun _=>xQ 392
def aA7:OO:=fun _=>Bc 324
def aAs:OO:=fun P=>⟨(.type "dict"),none,(.dict #[E P "__module__" 685 (.str "lidprice.patterns" 566),E P "__qualname__" 687 (.str "Listed" 686),E P "__firstlineno__" 689 (.int 194 688),E P "__init__" 697 (.ref 408),E P "may" 705 (.ref 415),E P "told" 712 (.ref 422),E P "__static_attributes__" 714 (.ref 423)] 7),#[]⟩
def Za:OO:=fun _=>⟨.none,none,(.fields #[(.int 196 0),(.int 4 0),(.ref 407),(.int 201 0),(.int 4 0),(.ref 414),(.int 204 0),(.int 4 0),(.ref 421)]),#[]⟩
def aBu:OO:=fun _=>s2 "Listed" 680 681 682 194 398 399 683 684
def aBw:OO:=fun _=>s3 400 397 "lidprice.patterns" 566
def Y6:OO:=fun _=>qQ "self" 693 "sets" 694
def aA9:OO:=fun _=>s5 "__init__" "Listed.__init__" (inClass (top 40) 0)
def Q0:OO:=fun _=>s6 "__init__" 690 "Listed.__init__" 691 692 196 2 402 403 404 405 406 695 696
def Ub:OO:=fun _=>s7 "__init__" "Listed.__init__" (inClass (top 40) 0) "lidprice.patterns" 566 407
def Xr:OO:=fun _=>qQ "self" 701 "kept" 702
def aA3:OO:=fun _=>s5 "may" "Listed.may" (inClass (top 40) 1)
def QC:OO:=fun _=>s6 "may" 698 "Listed.may" 699 700 201 2 409 410 411 412 413 703 704
def Vr:OO:=fun _=>s7 "may" "Listed.may" (inClass (top 40) 1) "lidprice.patterns" 566 414
def aBD:OO:=fun _=>s4 "self" 709
def Xb:OO:=fun _=>s5 "told" "Listed.told" (inClass (top 40) 2)
def Px:OO:=fun _=>s6 "told" 706 "Listed.told" 707 708 204 1 416 417 418 419 420 710 711
def Qq:OO:=fun _=>s7 "told" "Listed.told" (inClass (top 40) 2) "lidprice.patterns" 566 421
def aAS:OO:=fun _=>s4 "sets" 713
def WX:OO:=fun P=>⟨(.type "dict"),none,(.dict #[E P "__module__" 685 (.str "lidprice.patterns" 566),E P "__firstlineno__" 689 (.int 194 688),E P "__init__" 697 (.ref 408),E P "may" 705 (.ref 415),E P "told" 712 (.ref 422),E P "__static_attributes__" 714 (.ref 423),E P "__doc__" 715 .none] 2),#[]⟩
def WP:OO:=fun _=>Lh "Listed" 324 425 424 395 678 686
def aA4:OO:=fun _=>Eo 425
def aAP:OO:=fun _=>xQ 425
def aAQ:OO:=fun P=>s9 P 727 "lidprice.plans" 718 729 "Plan" 728 731 207 730 732 435
def Xo:OO:=fun _=>s2 "Plan" 722 723 724 207 431 432 725 726
def aBB:OO:=fun _=>s3 433 430 "lidprice.plans" 718
def Th:OO:=fun P=>Wb P 727 "lidprice.plans" 718 731 207 730 "__static_attributes__" 732 435 "__dict__" 734 438 "__weakref__" 736 439 737 4
def Yv:OO:=fun _=>⟨(.type "type"),none,(.cls ⟨"Plan",[(.type "object")],[(.ref 437),(.type "object")],436,"Plan",true,[],[(.ref 458),(.ref 484)],false,none,false⟩),#[none,none,(some (.str "Plan" 720)),(some (.str "Plan" 728)),(some (.builtin "object.__new__")),(some (.bool true))]⟩
def Qj:OO:=fun _=>⟨(.type "getset_descriptor"),none,(.fields #[(.str "__dict__" 733),(.ref 437),(.builtin "function.__dict__"),(.builtin "function.__dict__#set")]),#[]⟩
def Uz:OO:=fun _=>Wa 735 437
def Yk:OO:=fun _=>Eo 437
def aAm:OO:=fun _=>xQ 437
def Wv:OO:=fun _=>Bc 437
def Ze:OO:=fun P=>⟨(.type "dict"),none,(.dict #[E P "__module__" 747 (.str "lidprice.plans" 718),E P "__qualname__" 749 (.str "Stop" 748),E P "__firstlineno__" 751 (.int 209 750),E P "told" 758 (.ref 455),E P "__static_attributes__" 759 (.ref 456)] 5),#[]⟩
def Wu:OO:=fun _=>⟨.none,none,(.fields #[(.int 211 0),(.int 4 0),(.ref 454)]),#[]⟩
def Z4:OO:=fun _=>s2 "Stop" 742 743 744 209 445 446 745 746
def aBs:OO:=fun _=>s3 447 444 "lidprice.plans" 718
def aBG:OO:=fun _=>s4 "self" 755
def Zq:OO:=fun _=>s5 "told" "Stop.told" (inClass (top 43) 0)
def WF:OO:=fun _=>s6 "told" 752 "Stop.told" 753 754 211 1 449 450 451 452 453 756 757
def Ss:OO:=fun _=>s7 "told" "Stop.told" (inClass (top 43) 0) "lidprice.plans" 718 454
def Rk:OO:=fun P=>⟨(.type "dict"),none,(.dict #[E P "__module__" 747 (.str "lidprice.plans" 718),E P "__firstlineno__" 751 (.int 209 750),E P "told" 758 (.ref 455),E P "__static_attributes__" 759 (.ref 456),E P "__doc__" 760 .none] 2),#[]⟩
def VR:OO:=fun _=>Lh "Stop" 437 458 457 442 740 748
def Wy:OO:=fun _=>Eo 458
def Xm:OO:=fun _=>xQ 458
def YQ:OO:=fun _=>Bc 437
def X6:OO:=fun P=>⟨(.type "dict"),none,(.dict #[E P "__module__" 770 (.str "lidprice.plans" 718),E P "__qualname__" 772 (.str "Take" 771),E P "__firstlineno__" 774 (.int 213 773),E P "__init__" 783 (.ref 474),E P "told" 790 (.ref 481),E P "__static_attributes__" 793 (.ref 482)] 6),#[]⟩
def XX:OO:=fun _=>⟨.none,none,(.fields #[(.int 215 0),(.int 4 0),(.ref 473),(.int 219 0),(.int 4 0),(.ref 480)]),#[]⟩
def aAn:OO:=fun _=>s2 "Take" 765 766 767 213 464 465 768 769
def aBg:OO:=fun _=>s3 466 463 "lidprice.plans" 718
def Zn:OO:=fun _=>Kq "self" 778 "box" 779 "then" 780
def aAB:OO:=fun _=>s5 "__init__" "Take.__init__" (inClass (top 44) 0)
def Qh:OO:=fun _=>s6 "__init__" 775 "Take.__init__" 776 777 215 3 468 469 470 471 472 781 782
def TQ:OO:=fun _=>s7 "__init__" "Take.__init__" (inClass (top 44) 0) "lidprice.plans" 718 473
def aBC:OO:=fun _=>s4 "self" 787
def Xv:OO:=fun _=>s5 "told" "Take.told" (inClass (top 44) 1)
def W4:OO:=fun _=>s6 "told" 784 "Take.told" 785 786 219 1 475 476 477 478 479 788 789
def V1:OO:=fun _=>s7 "told" "Take.told" (inClass (top 44) 1) "lidprice.plans" 718 480
def Xk:OO:=fun _=>qQ "box" 791 "then" 792
def QQ:OO:=fun P=>Wb P 770 "lidprice.plans" 718 774 213 773 "__init__" 783 474 "told" 790 481 "__static_attributes__" 793 482 794 2
def Qf:OO:=fun _=>Lh "Take" 437 484 483 461 763 771
def ZS:OO:=fun _=>Eo 484
def aBF:OO:=fun _=>xQ 484
def QV:OO:=fun P=>⟨(.type "dict"),none,(.dict #[E P "__name__" 165 (.str "law_lidprice_k85_written" 883),E P "__doc__" 166 .none,E P "__package__" 167 .none,E P "__loader__" 168 (.builtin "__main__.__loader__#opaque"),E P "__spec__" 169 .none,E P "__annotations__" 170 (.ref 6),E P "__builtins__" 171 (.ref 4),E P "__file__" 173 (.str "/claim/cut.py" 172),E P "__cached__" 174 .none,E P "_wall" 193 (.ref 21),E P "LidError" 213 (.ref 31),E P "NoBox" 229 (.ref 44),E P "NoSets" 245 (.ref 56),E P "is_whole" 256 (.ref 65),E P "common_divisor" 265 (.ref 72),E P "common_multiple" 274 (.ref 79),E P "share" 283 (.ref 86),E P "whole" 290 (.ref 93),E P "below" 298 (.ref 100),E P "lesser" 306 (.ref 107),E P "MOST_WORTH" 310 (.int 1000000000 309),E P "MOST_WEIGHT" 312 (.int 1000 311),E P "rising" 318 (.ref 112),E P "in_form" 324 (.ref 117),E P "all_weights" 330 (.ref 122),E P "capped" 336 (.ref 127),E P "mixed" 342 (.ref 132),E P "level_for" 348 (.ref 137),E P "MOST_PRICE" 352 (.int 1000000000 351),E P "MOST_STAGE_ROWS" 354 (.int 4 353),E P "MOST_STAGES" 356 (.int 4 355),E P "MOST_ENDS" 358 (.int 12 357),E P "MOST_BOXES" 360 (.int 6 359),E P "Stand" 423 (.ref 182),E P "End" 477 (.ref 231),E P "Stage" 545 (.ref 288),E P "is_stand" 552 (.ref 297),E P "is_stage_row" 559 (.ref 304),E P "is_stage_rows" 565 (.ref 309),E P "MOST_SETS" 569 (.int 64 568),E P "is_numbers" 575 (.ref 314),E P "Pattern" 595 (.ref 324),E P "Few" 635 (.ref 359),E P "Groups" 677 (.ref 392),E P "Listed" 717 (.ref 425),E P "Plan" 739 (.ref 437),E P "Stop" 762 (.ref 458),E P "Take" 796 (.ref 484),E P "Open" 829 (.ref 508),E P "write_whole" 842 (.ref 517),E P "write_share" 850 (.ref 524),E P "write_wholes" 856 (.ref 529),E P "write_box" 862 (.ref 534),E P "write_boxes" 868 (.ref 539),E P "write_pattern" 876 (.ref 546),E P "write_plan" 882 (.ref 551),E P "_law_cell_at" 892 (.ref 558),E P "_law_mixed" 901 (.ref 565),E P "_law_plain" 909 (.ref 572),E P "_law_same" 917 (.ref 579),E P "_law_low" 927 (.ref 586),E P "_law_plus" 935 (.ref 593),E P "_law_times" 943 (.ref 600),E P "_law_less" 951 (.ref 607),E P "_law_row" 962 (.ref 614),E P "_law_box" 978 (.ref 621),E P "_law_stand" 984 (.ref 626),E P "_law_plan" 990 (.ref 631),E P "_law_made" 996 (.ref 636),E P "_law_plan_written" 1002 (.ref 641),E P "_law_sort" 1008 (.ref 646),E P "_law_pattern" 1015 (.ref 653),E P "_law_sort_written" 1022 (.ref 660),E P "_law_numbers" 1028 (.ref 665),E P "_law_written" 1034 (.ref 670),E P "_law_share_good" 1044 (.ref 677),E P "_law_good" 1050 (.ref 682),E P "law" 1058 (.ref 689)] 78),#[]⟩
def Rc:OO:=fun _=>⟨.none,none,(.fields #[(.int 1 0),(.int 0 0),(.ref 20),(.int 5 0),(.int 0 0),(.ref 27),(.int 7 0),(.int 0 0),(.ref 40),(.int 9 0),(.int 0 0),(.ref 52),(.int 12 0),(.int 0 0),(.ref 64),(.int 14 0),(.int 0 0),(.ref 71),(.int 20 0),(.int 0 0),(.ref 78),(.int 25 0),(.int 0 0),(.ref 85),(.int 30 0),(.int 0 0),(.ref 92),(.int 32 0),(.int 0 0),(.ref 99),(.int 34 0),(.int 0 0),(.ref 106),(.int 39 0),(.int 0 0),(.ref 111),(.int 43 0),(.int 0 0),(.ref 116),(.int 51 0),(.int 0 0),(.ref 121),(.int 53 0),(.int 0 0),(.ref 126),(.int 55 0),(.int 0 0),(.ref 131),(.int 62 0),(.int 0 0),(.ref 136),(.int 79 0),(.int 0 0),(.ref 143),(.int 98 0),(.int 0 0),(.ref 192),(.int 117 0),(.int 0 0),(.ref 239),(.int 149 0),(.int 0 0),(.ref 296),(.int 151 0),(.int 0 0),(.ref 303),(.int 155 0),(.int 0 0),(.ref 308),(.int 161 0),(.int 0 0),(.ref 313),(.int 165 0),(.int 0 0),(.ref 320),(.int 167 0),(.int 0 0),(.ref 334),(.int 179 0),(.int 0 0),(.ref 367),(.int 194 0),(.int 0 0),(.ref 400),(.int 207 0),(.int 0 0),(.ref 433),(.int 209 0),(.int 0 0),(.ref 447),(.int 213 0),(.int 0 0),(.ref 466),(.int 221 0),(.int 0 0),(.ref 492),(.int 230 0),(.int 0 0),(.ref 516),(.int 239 0),(.int 0 0),(.ref 523),(.int 242 0),(.int 0 0),(.ref 528),(.int 244 0),(.int 0 0),(.ref 533),(.int 249 0),(.int 0 0),(.ref 538),(.int 251 0),(.int 0 0),(.ref 545),(.int 258 0),(.int 0 0),(.ref 550),(.int 266 0),(.int 0 0),(.ref 557),(.int 270 0),(.int 0 0),(.ref 564),(.int 274 0),(.int 0 0),(.ref 571),(.int 283 0),(.int 0 0),(.ref 578),(.int 285 0),(.int 0 0),(.ref 585),(.int 291 0),(.int 0 0),(.ref 592),(.int 293 0),(.int 0 0),(.ref 599),(.int 295 0),(.int 0 0),(.ref 606),(.int 297 0),(.int 0 0),(.ref 613),(.int 306 0),(.int 0 0),(.ref 620),(.int 317 0),(.int 0 0),(.ref 625),(.int 321 0),(.int 0 0),(.ref 630),(.int 330 0),(.int 0 0),(.ref 635),(.int 336 0),(.int 0 0),(.ref 640),(.int 342 0),(.int 0 0),(.ref 645),(.int 350 0),(.int 0 0),(.ref 652),(.int 356 0),(.int 0 0),(.ref 659),(.int 362 0),(.int 0 0),(.ref 664),(.int 364 0),(.int 0 0),(.ref 669),(.int 369 0),(.int 0 0),(.ref 676),(.int 380 0),(.int 0 0),(.ref 681),(.int 393 0),(.int 0 0),(.ref 688)]),#[]⟩
def Hn:OO:=fun _=>⟨(.type "type"),none,(.cls ⟨"Plan",[(.type "object")],[(.ref 437),(.type "object")],436,"Plan",true,[],[(.ref 458),(.ref 484),(.ref 508)],false,none,false⟩),#[none,none,(some (.str "Plan" 720)),(some (.str "Plan" 728)),(some (.builtin "object.__new__")),(some (.bool true))]⟩
def aBp:OO:=fun _=>Bc 437
def ZQ:OO:=fun P=>⟨(.type "dict"),none,(.dict #[E P "__module__" 804 (.str "lidprice.plans" 718),E P "__qualname__" 806 (.str "Open" 805),E P "__firstlineno__" 808 (.int 221 807),E P "__init__" 817 (.ref 500),E P "told" 823 (.ref 505),E P "__static_attributes__" 826 (.ref 506)] 6),#[]⟩
def Z5:OO:=fun _=>⟨.none,none,(.fields #[(.int 223 0),(.int 4 0),(.ref 499),(.int 227 0),(.int 4 0),(.ref 504)]),#[]⟩
def Z3:OO:=fun _=>s2 "Open" 799 800 801 221 490 491 802 803
def YK:OO:=fun _=>s3 492 489 "lidprice.plans" 718
def aAy:OO:=fun _=>Kq "self" 812 "box" 813 "plans" 814
def Y5:OO:=fun _=>s5 "__init__" "Open.__init__" (inClass (top 45) 0)
def Rm:OO:=fun _=>s6 "__init__" 809 "Open.__init__" 810 811 223 3 494 495 496 497 498 815 816
def Va:OO:=fun _=>s7 "__init__" "Open.__init__" (inClass (top 45) 0) "lidprice.plans" 718 499
def Z2:OO:=fun _=>s5 "told" "Open.told" (inClass (top 45) 1)
def U9:OO:=fun _=>tL "told" 818 "Open.told" 819 820 227 1 501 502 503 821 822
def V0:OO:=fun _=>s7 "told" "Open.told" (inClass (top 45) 1) "lidprice.plans" 718 504
def X4:OO:=fun _=>qQ "box" 824 "plans" 825
def V7:OO:=fun P=>Wb P 804 "lidprice.plans" 718 808 221 807 "__init__" 817 500 "told" 823 505 "__static_attributes__" 826 506 827 2
def SQ:OO:=fun _=>Lh "Open" 437 508 507 487 797 805
def ZL:OO:=fun _=>Eo 508
def Xl:OO:=fun _=>xQ 508
def Zk:OO:=fun _=>⟨(.type "tuple"),none,(.seq #[(.str "number" 835),(.str "part" 836),(.str "figures" 837),(.str "rest" 838),(.str "sign" 839)] 0),#[]⟩
def ZW:OO:=fun _=>s5 "write_whole" "write_whole" (top 47)
def Ut:OO:=fun _=>s6 "write_whole" 832 "write_whole" 833 834 230 1 511 512 513 514 515 840 841
def Ua:OO:=fun _=>s7 "write_whole" "write_whole" (top 47) "lidprice.texts" 830 516
def aBb:OO:=fun _=>qQ "fraction" 846 "top" 847
def XQ:OO:=fun _=>s5 "write_share" "write_share" (top 48)
def WL:OO:=fun _=>s6 "write_share" 843 "write_share" 844 845 239 1 518 519 520 521 522 848 849
def VV:OO:=fun _=>s7 "write_share" "write_share" (top 48) "lidprice.texts" 830 523
def aBj:OO:=fun _=>s5 "write_wholes" "write_wholes" (top 49)
def Rr:OO:=fun _=>tL "write_wholes" 851 "write_wholes" 852 853 242 1 525 526 527 854 855
def TV:OO:=fun _=>s7 "write_wholes" "write_wholes" (top 49) "lidprice.texts" 830 528
def aAH:OO:=fun _=>s5 "write_box" "write_box" (top 50)
def QH:OO:=fun _=>tL "write_box" 857 "write_box" 858 859 244 1 530 531 532 860 861
def Sw:OO:=fun _=>s7 "write_box" "write_box" (top 50) "lidprice.texts" 830 533
def Wi:OO:=fun _=>s5 "write_boxes" "write_boxes" (top 51)
def RL:OO:=fun _=>tL "write_boxes" 863 "write_boxes" 864 865 249 1 535 536 537 866 867
def Tc:OO:=fun _=>s7 "write_boxes" "write_boxes" (top 51) "lidprice.texts" 830 538
def aAb:OO:=fun _=>qQ "pattern" 872 "told" 873
def Wm:OO:=fun _=>s5 "write_pattern" "write_pattern" (top 52)
def Ul:OO:=fun _=>s6 "write_pattern" 869 "write_pattern" 870 871 251 1 540 541 542 543 544 874 875
def RV:OO:=fun _=>s7 "write_pattern" "write_pattern" (top 52) "lidprice.texts" 830 545
def aAj:OO:=fun _=>s5 "write_plan" "write_plan" (top 53)
def Uh:OO:=fun _=>tL "write_plan" 877 "write_plan" 878 879 258 1 547 548 549 880 881
def Rq:OO:=fun _=>s7 "write_plan" "write_plan" (top 53) "lidprice.texts" 830 550
def YF:OO:=fun _=>qQ "_law_script" 888 "_law_k" 889
def Yl:OO:=fun _=>s5 "_law_cell_at" "_law_cell_at" (top 55)
def Vo:OO:=fun _=>s6 "_law_cell_at" 885 "_law_cell_at" 886 887 266 2 552 553 554 555 556 890 891
def Rf:OO:=fun _=>s7 "_law_cell_at" "_law_cell_at" (top 55) "law_lidprice_k85_written" 883 557
def Zh:OO:=fun _=>Kq "_law_cell" 896 "_law_k" 897 "_law_number" 898
def ZX:OO:=fun _=>s5 "_law_mixed" "_law_mixed" (top 56)
def Vd:OO:=fun _=>s6 "_law_mixed" 893 "_law_mixed" 894 895 270 2 559 560 561 562 563 899 900
def Ql:OO:=fun _=>s7 "_law_mixed" "_law_mixed" (top 56) "law_lidprice_k85_written" 883 564
def aAu:OO:=fun _=>qQ "_law_thing" 905 "_law_part" 906
def Wo:OO:=fun _=>s5 "_law_plain" "_law_plain" (top 57)
def V5:OO:=fun _=>s6 "_law_plain" 902 "_law_plain" 903 904 274 1 566 567 568 569 570 907 908
def WW:OO:=fun _=>s7 "_law_plain" "_law_plain" (top 57) "law_lidprice_k85_written" 883 571
def Wl:OO:=fun _=>qQ "_law_found" 913 "_law_due" 914
def aAG:OO:=fun _=>s5 "_law_same" "_law_same" (top 58)
def Pu:OO:=fun _=>s6 "_law_same" 910 "_law_same" 911 912 283 2 573 574 575 576 577 915 916
def U4:OO:=fun _=>s7 "_law_same" "_law_same" (top 58) "law_lidprice_k85_written" 883 578
def ZJ:OO:=fun _=>⟨(.type "tuple"),none,(.seq #[(.str "_law_top" 921),(.str "_law_bottom" 922),(.str "_law_one" 923),(.str "_law_other" 924)] 0),#[]⟩
def aAk:OO:=fun _=>s5 "_law_low" "_law_low" (top 59)
def V3:OO:=fun _=>s6 "_law_low" 918 "_law_low" 919 920 285 2 580 581 582 583 584 925 926
def Rv:OO:=fun _=>s7 "_law_low" "_law_low" (top 59) "law_lidprice_k85_written" 883 585
def aAM:OO:=fun _=>qQ "_law_one" 931 "_law_other" 932
def Wn:OO:=fun _=>s5 "_law_plus" "_law_plus" (top 60)
def Ys:OO:=fun _=>s6 "_law_plus" 928 "_law_plus" 929 930 291 2 587 588 589 590 591 933 934
def aAD:OO:=fun _=>s7 "_law_plus" "_law_plus" (top 60) "law_lidprice_k85_written" 883 592
def Yr:OO:=fun _=>qQ "_law_one" 939 "_law_other" 940
def aAz:OO:=fun _=>s5 "_law_times" "_law_times" (top 61)
def aAO:OO:=fun _=>s6 "_law_times" 936 "_law_times" 937 938 293 2 594 595 596 597 598 941 942
def Z1:OO:=fun _=>s7 "_law_times" "_law_times" (top 61) "law_lidprice_k85_written" 883 599
def YM:OO:=fun _=>qQ "_law_one" 947 "_law_other" 948
def ZV:OO:=fun _=>s5 "_law_less" "_law_less" (top 62)
def Y7:OO:=fun _=>s6 "_law_less" 944 "_law_less" 945 946 295 2 601 602 603 604 605 949 950
def Wg:OO:=fun _=>s7 "_law_less" "_law_less" (top 62) "law_lidprice_k85_written" 883 606
def Wx:OO:=fun _=>⟨(.type "tuple"),none,(.seq #[(.str "_law_cell" 955),(.str "_law_bit" 956),(.str "_law_many" 957),(.str "_law_row_here" 958),(.str "_law_k" 959)] 0),#[]⟩
def aBo:OO:=fun _=>s5 "_law_row" "_law_row" (top 63)
def V9:OO:=fun _=>s6 "_law_row" 952 "_law_row" 953 954 297 3 608 609 610 611 612 960 961
def VM:OO:=fun _=>s7 "_law_row" "_law_row" (top 63) "law_lidprice_k85_written" 883 613
def ZC:OO:=fun _=>⟨(.type "tuple"),none,(.seq #[(.str "_law_row_here" 966),(.str "_law_deep" 967),(.str "_law_most" 968),(.str "_law_scale" 969),(.str "_law_number" 970),(.str "_law_many" 971),(.str "_law_cost" 972),(.str "_law_rows" 973),(.str "_law_j" 974),(.str "_law_weight" 975)] 0),#[]⟩
def Yu:OO:=fun _=>s5 "_law_box" "_law_box" (top 64)
def Up:OO:=fun _=>s6 "_law_box" 963 "_law_box" 964 965 306 4 615 616 617 618 619 976 977
def Uk:OO:=fun _=>s7 "_law_box" "_law_box" (top 64) "law_lidprice_k85_written" 883 620
def Xh:OO:=fun _=>s5 "_law_stand" "_law_stand" (top 65)
def UV:OO:=fun _=>tL "_law_stand" 979 "_law_stand" 980 981 317 1 622 623 624 982 983
def Pr:OO:=fun _=>s7 "_law_stand" "_law_stand" (top 65) "law_lidprice_k85_written" 883 625
def ZG:OO:=fun _=>s5 "_law_plan" "_law_plan" (top 66)
def Vi:OO:=fun _=>tL "_law_plan" 985 "_law_plan" 986 987 321 4 627 628 629 988 989
def Pq:OO:=fun _=>s7 "_law_plan" "_law_plan" (top 66) "law_lidprice_k85_written" 883 630
def aA6:OO:=fun _=>s5 "_law_made" "_law_made" (top 67)
def Q6:OO:=fun _=>tL "_law_made" 991 "_law_made" 992 993 330 1 632 633 634 994 995
def Qn:OO:=fun _=>s7 "_law_made" "_law_made" (top 67) "law_lidprice_k85_written" 883 635
def aA1:OO:=fun _=>s5 "_law_plan_written" "_law_plan_written" (top 68)
def Uc:OO:=fun _=>tL "_law_plan_written" 997 "_law_plan_written" 998 999 336 1 637 638 639 1000 1001
def Sy:OO:=fun _=>s7 "_law_plan_written" "_law_plan_written" (top 68) "law_lidprice_k85_written" 883 640
def aBa:OO:=fun _=>s5 "_law_sort" "_law_sort" (top 69)
def Tv:OO:=fun _=>tL "_law_sort" 1003 "_law_sort" 1004 1005 342 1 642 643 644 1006 1007
def W2:OO:=fun _=>s7 "_law_sort" "_law_sort" (top 69) "law_lidprice_k85_written" 883 645
def Wz:OO:=fun _=>s4 "_law_told" 1012
def aAe:OO:=fun _=>s5 "_law_pattern" "_law_pattern" (top 70)
def Vk:OO:=fun _=>s6 "_law_pattern" 1009 "_law_pattern" 1010 1011 350 1 647 648 649 650 651 1013 1014
def Q3:OO:=fun _=>s7 "_law_pattern" "_law_pattern" (top 70) "law_lidprice_k85_written" 883 652
def aBl:OO:=fun _=>s4 "_law_told" 1019
def aAW:OO:=fun _=>s5 "_law_sort_written" "_law_sort_written" (top 71)
def Uu:OO:=fun _=>s6 "_law_sort_written" 1016 "_law_sort_written" 1017 1018 356 1 654 655 656 657 658 1020 1021
def VJ:OO:=fun _=>s7 "_law_sort_written" "_law_sort_written" (top 71) "law_lidprice_k85_written" 883 659
def aA0:OO:=fun _=>s5 "_law_numbers" "_law_numbers" (top 72)
def Vv:OO:=fun _=>tL "_law_numbers" 1023 "_law_numbers" 1024 1025 362 1 661 662 663 1026 1027
def Vt:OO:=fun _=>s7 "_law_numbers" "_law_numbers" (top 72) "law_lidprice_k85_written" 883 664
def Zf:OO:=fun _=>s5 "_law_written" "_law_written" (top 73)
def Ux:OO:=fun _=>tL "_law_written" 1029 "_law_written" 1030 1031 364 1 666 667 668 1032 1033
def VL:OO:=fun _=>s7 "_law_written" "_law_written" (top 73) "law_lidprice_k85_written" 883 669
def Xe:OO:=fun _=>⟨(.type "tuple"),none,(.seq #[(.str "_law_cell" 1038),(.str "_law_top" 1039),(.str "_law_bottom" 1040),(.str "_law_due" 1041)] 0),#[]⟩
def ZD:OO:=fun _=>s5 "_law_share_good" "_law_share_good" (top 74)
def Q4:OO:=fun _=>s6 "_law_share_good" 1035 "_law_share_good" 1036 1037 369 1 671 672 673 674 675 1042 1043
def Vj:OO:=fun _=>s7 "_law_share_good" "_law_share_good" (top 74) "law_lidprice_k85_written" 883 676
def XR:OO:=fun _=>s5 "_law_good" "_law_good" (top 75)
def Sg:OO:=fun _=>tL "_law_good" 1045 "_law_good" 1046 1047 380 2 678 679 680 1048 1049
def Qz:OO:=fun _=>s7 "_law_good" "_law_good" (top 75) "law_lidprice_k85_written" 883 681
def ZR:OO:=fun _=>qQ "_law_script" 1054 "_law_k" 1055
def ZF:OO:=fun _=>s5 "law" "law" (top 76)
def Rg:OO:=fun _=>s6 "law" 1051 "law" 1052 1053 393 1 683 684 685 686 687 1056 1057
def RJ:OO:=fun _=>s7 "law" "law" (top 76) "law_lidprice_k85_written" 883 688
def l0 (P:Params):List Obj:=W.boot_o_0 P::W.boot_o_1 P::W.boot_o_2 P::W.boot_o_3 P::W.boot_o_4 P::W.boot_o_5 P::W.boot_o_6 P::W.boot_o_7 P::W.boot_o_8 P::W.boot_o_9 P::W.boot_o_10 P::s0::s1::o13 P::o14 P::[]
def t0 (P:Params):W.BT:=L2.bt 14 (l0 P)
def l1 (P:Params):List Obj:=L2.sets (l0 P) [(3,o3 P),(12,UT P)]++(s0::s1::o17 P::s0::o19 P::o20 P::o21 P::o22 P::s8::o24 P::s0::s1::o27 P::o28 P::s0::o30 P::o31 P::o32 P::o33 P::o34 P::o35 P::s8::o37 P::s0::s1::o40 P::o41 P::s0::o43 P::o44 P::o45 P::o46 P::o47 P::s8::o49 P::s0::s1::o52 P::o53 P::s0::o55 P::o56 P::o57 P::o58 P::s0::s1::o61 P::s0::o63 P::o64 P::o65 P::s0::s1::o68 P::s0::o70 P::o71 P::o72 P::s0::s1::o75 P::s0::o77 P::o78 P::o79 P::s0::s1::o82 P::s0::o84 P::o85 P::o86 P::s0::s1::o89 P::s0::o91 P::o92 P::o93 P::s0::s1::o96 P::s0::o98 P::o99 P::S9 P::s0::s1::Xp P::s0::Yg P::Uy P::Tj P::s0::s1::Yt P::Qx P::RP P::s0::s1::Yh P::Uw P::SX P::s0::s1::We P::RB P::R6 P::s0::s1::ZZ P::Tz P::V8 P::s0::s1::Ws P::Vg P::R9 P::s0::s1::Ww P::U7 P::Vs P::s0::s8::Yp P::s0::aAY P::Z6 P::aAr P::s0::s1::Wq P::s0::aAg P::Su P::Ve P::s0::s1::aAU P::s0::aAd P::Vf P::R7 P::s0::s1::Zz P::s0::Zw P::Um P::QF P::s0::s1::Wf P::s0::aAw P::Uo P::S6 P::s0::s1::aAp P::s0::aBk P::SJ P::Rt P::XF P::Tn P::aBh P::VF P::Td P::aAK P::XD P::[])
def t1 (P:Params):W.BT:=L2.bt 14 (l1 P)
def l2 (P:Params):List Obj:=L2.sets (l1 P) [(3,aBr P),(12,Q7 P),(182,JM P)]++(Yw P::s8::aA2 P::s0::YZ P::Xx P::XN P::s0::s1::aAv P::s0::aBi P::Tw P::Vm P::s0::s1::Yj P::s0::aAX P::Qy P::Qi P::s0::s1::aAi P::s0::X3 P::S7 P::RC P::s0::s1::Ym P::s0::aBf P::RW P::V2 P::s0::s1::Yz P::s0::ZM P::Q5 P::Vc P::Xn P::Q8 P::UJ P::Xi P::YD P::aBe P::s8::aAo P::s0::YX P::Yo P::aBt P::s0::s1::Yc P::WQ P::Ri P::s0::s1::Xc P::s0::aAF P::Vl P::UL P::s0::s1::Yb P::s0::YS P::WD P::Vq P::s0::s1::Zc P::s0::X5 P::Ui P::U8 P::s0::s1::Zu P::s0::Xu P::Qc P::QB P::s0::s1::aAZ P::s0::Xg P::QG P::Sx P::s0::s1::Zi P::Tu P::PX P::Y8 P::RZ P::RQ P::aAE P::YH P::s0::s1::Zt P::s0::aA5 P::Vy P::R5 P::s0::s1::aBz P::s0::Z9 P::VD P::SN P::s0::s1::aAx P::RG P::WN P::s0::s1::Z8 P::RD P::Sh P::s0::s8::Zy P::s0::s1::Wr P::Yd P::s0::RX P::XJ P::V6 P::VN P::Zd P::ZP P::Yn P::s8::Yq P::s0::Xy P::Ye P::Xq P::s0::s1::aAC P::s0::aBc P::Qk P::Ra P::s0::s1::aBA P::s0::Xz P::U5 P::Vz P::s0::s1::YL P::s0::Y9 P::Rz P::UW P::aBv P::Vp P::VP P::aAt P::YG P::[])
def t2 (P:Params):W.BT:=L2.bt 14 (l2 P)
def l3 (P:Params):List Obj:=L2.sets (l2 P) [(3,Zv P),(12,VH P),(324,Ih P)]++(Xj P::s8::aAh P::s0::aBE P::ZK P::aAc P::s0::s1::aAJ P::s0::aAT P::Us P::Ph P::s0::s1::Xa P::s0::aAL P::QW P::R8 P::s0::s1::Zo P::s0::Zx P::Ug P::Pb P::Yy P::Rb P::RN P::aBm P::aAl P::aA7 P::s8::aAs P::s0::Za P::aBu P::aBw P::s0::s1::Y6 P::s0::aA9 P::Q0 P::Ub P::s0::s1::Xr P::s0::aA3 P::QC P::Vr P::s0::s1::aBD P::s0::Xb P::Px P::Qq P::aAS P::WX P::WP P::aA4 P::aAP P::s0::s8::aAQ P::s0::s1::Xo P::aBB P::s0::Th P::Yv P::Qj P::Uz P::Yk P::aAm P::Wv P::s8::Ze P::s0::Wu P::Z4 P::aBs P::s0::s1::aBG P::s0::Zq P::WF P::Ss P::s0::Rk P::VR P::Wy P::Xm P::YQ P::s8::X6 P::s0::XX P::aAn P::aBg P::s0::s1::Zn P::s0::aAB P::Qh P::TQ P::s0::s1::aBC P::s0::Xv P::W4 P::V1 P::Xk P::QQ P::Qf P::ZS P::aBF P::[])
def t3 (P:Params):W.BT:=L2.bt 14 (l3 P)
def l4 (P:Params):List Obj:=L2.sets (l3 P) [(3,QV P),(12,Rc P),(437,Hn P)]++(aBp P::s8::ZQ P::s0::Z5 P::Z3 P::YK P::s0::s1::aAy P::s0::Y5 P::Rm P::Va P::s0::s1::Z2 P::U9 P::V0 P::X4 P::V7 P::SQ P::ZL P::Xl P::s0::s1::Zk P::s0::ZW P::Ut P::Ua P::s0::s1::aBb P::s0::XQ P::WL P::VV P::s0::s1::aBj P::Rr P::TV P::s0::s1::aAH P::QH P::Sw P::s0::s1::Wi P::RL P::Tc P::s0::s1::aAb P::s0::Wm P::Ul P::RV P::s0::s1::aAj P::Uh P::Rq P::s0::s1::YF P::s0::Yl P::Vo P::Rf P::s0::s1::Zh P::s0::ZX P::Vd P::Ql P::s0::s1::aAu P::s0::Wo P::V5 P::WW P::s0::s1::Wl P::s0::aAG P::Pu P::U4 P::s0::s1::ZJ P::s0::aAk P::V3 P::Rv P::s0::s1::aAM P::s0::Wn P::Ys P::aAD P::s0::s1::Yr P::s0::aAz P::aAO P::Z1 P::s0::s1::YM P::s0::ZV P::Y7 P::Wg P::s0::s1::Wx P::s0::aBo P::V9 P::VM P::s0::s1::ZC P::s0::Yu P::Up P::Uk P::s0::s1::Xh P::UV P::Pr P::s0::s1::ZG P::Vi P::Pq P::s0::s1::aA6 P::Q6 P::Qn P::s0::s1::aA1 P::Uc P::Sy P::s0::s1::aBa P::Tv P::W2 P::s0::s1::Wz P::s0::aAe P::Vk P::Q3 P::s0::s1::aBl P::s0::aAW P::Uu P::VJ P::s0::s1::aA0 P::Vv P::Vt P::s0::s1::Zf P::Ux P::VL P::s0::s1::Xe P::s0::ZD P::Q4 P::Vj P::s0::s1::XR P::Sg P::Qz P::s0::s1::ZR P::s0::ZF P::Rg P::RJ P::[])
def t4 (P:Params):W.BT:=L2.bt 14 (l4 P)
def xY:Env:={ scope:=PySem.Challenge.pw_lidprice_k85_written.main.scope,locals:=mainNs,globals:=mainNs,cells:=[],code:=(.ref 13),frame:=some 14 }
def g1:List Stmt:=[top 0,top 1,top 2,top 3,top 4,top 5,top 6,top 7,top 8,top 9,top 10,top 11,top 12,top 13,top 14,top 15,top 16,top 17,top 18,top 19,top 20,top 21,top 22,top 23,top 24,top 25,top 26,top 27,top 28]
def g2:List Stmt:=[top 29,top 30,top 31,top 32,top 33,top 34,top 35,top 36,top 37,top 38]
def g3:List Stmt:=[top 39,top 40,top 41,top 42,top 43,top 44]
def g4:List Stmt:=[top 45,top 46,top 47,top 48,top 49,top 50,top 51,top 52,top 53,top 54,top 55,top 56,top 57,top 58,top 59,top 60,top 61,top 62,top 63,top 64,top 65,top 66,top 67,top 68,top 69,top 70,top 71,top 72,top 73,top 74,top 75,top 76]
def gs:List Stmt:=g1++(g2++(g3++(g4++[])))
def jH:Code:=.body gs xY
theorem aAA (w:World)(os:OsState):W.segRunT PySem.treeTable PySem.Challenge.pw_lidprice_k85_written w 11 (some (.ref 6)) 1 1462 (yH (t0 w.params) 15 187 os) (W.piecesOf g1 xY jH ⟨0,0,0,0⟩ [W.topFrame ⟨0,0,0,0⟩])=some (.next,yH (t1 w.params) 187 424 os,jH,⟨79,0,97,34⟩):=by kernel_rfl
theorem Yi (w:World)(os:OsState):W.segRunT PySem.treeTable PySem.Challenge.pw_lidprice_k85_written w 11 (some (.ref 6)) 1 1425 (yH (t1 w.params) 187 424 os) (W.piecesOf g2 xY jH ⟨79,0,97,34⟩ [W.topFrame ⟨0,0,0,0⟩])=some (.next,yH (t2 w.params) 362 636 os,jH,⟨167,0,178,34⟩):=by kernel_rfl
theorem Xw (w:World)(os:OsState):W.segRunT PySem.treeTable PySem.Challenge.pw_lidprice_k85_written w 11 (some (.ref 6)) 1 1339 (yH (t2 w.params) 362 636 os) (W.piecesOf g3 xY jH ⟨167,0,178,34⟩ [W.topFrame ⟨0,0,0,0⟩])=some (.next,yH (t3 w.params) 487 797 os,jH,⟨213,0,220,51⟩):=by kernel_rfl
theorem aBy (w:World)(os:OsState):W.segRunT PySem.treeTable PySem.Challenge.pw_lidprice_k85_written w 11 (some (.ref 6)) 1 1133 (yH (t3 w.params) 487 797 os) (W.piecesOf g4 xY jH ⟨213,0,220,51⟩ [W.topFrame ⟨0,0,0,0⟩])=some (.next,yH (t4 w.params) 690 1059 os,jH,⟨393,0,397,15⟩):=by kernel_rfl
theorem YW (w:World)(os:OsState):W.topRun PySem.treeTable PySem.Challenge.pw_lidprice_k85_written w 11 (some (.ref 6)) 2 (yH (t4 w.params) 690 1059 os).abs (W.restOf [] xY jH ⟨393,0,397,15⟩ [W.topFrame ⟨0,0,0,0⟩])=some (yH (t4 w.params) 690 1059 os).abs:=by kernel_rfl
theorem Zg (w:World)(os:OsState):W.topGo PySem.treeTable PySem.Challenge.pw_lidprice_k85_written w 11 (some (.ref 6)) 12 ⟨W.boot_heap w.params,aHB [],W.boot_drawn,W.boot_toks,os⟩ (W.topStub PySem.Challenge.pw_lidprice_k85_written)=some ((yH (t0 w.params) 15 187 os).abs,⟨denote PySem.treeTable (.body gs xY),jH,⟨0,0,0,0⟩,[W.topFrame ⟨0,0,0,0⟩]⟩):=by kernel_rfl
theorem YT (w:World)(os:OsState):W.segRun PySem.treeTable PySem.Challenge.pw_lidprice_k85_written w 11 (some (.ref 6)) 1 1 (yH (t0 w.params) 15 187 os).abs (W.blockOf gs xY jH ⟨0,0,0,0⟩ [W.topFrame ⟨0,0,0,0⟩])=some (.next,(yH (t0 w.params) 15 187 os).abs,jH,⟨0,0,0,0⟩):=by kernel_rfl
def wC (P:Params):W.Frag :=
(nat_lit 2,W.boot_o_2 P) ::
(nat_lit 3,QV P) ::
(nat_lit 20,o20 P) ::
(nat_lit 21,o21 P) ::
(nat_lit 30,o30 P) ::
(nat_lit 31,o31 P) ::
(nat_lit 32,o32 P) ::
(nat_lit 43,o43 P) ::
(nat_lit 44,o44 P) ::
(nat_lit 55,o55 P) ::
(nat_lit 56,o56 P) ::
(nat_lit 64,o64 P) ::
(nat_lit 65,o65 P) ::
(nat_lit 71,o71 P) ::
(nat_lit 72,o72 P) ::
(nat_lit 78,o78 P) ::
(nat_lit 79,o79 P) ::
(nat_lit 85,o85 P) ::
(nat_lit 86,o86 P) ::
(nat_lit 92,o92 P) ::
(nat_lit 93,o93 P) ::
(nat_lit 99,o99 P) ::
(nat_lit 100,S9 P) ::
(nat_lit 106,Uy P) ::
(nat_lit 107,Tj P) ::
(nat_lit 111,Qx P) ::
(nat_lit 112,RP P) ::
(nat_lit 116,Uw P) ::
(nat_lit 117,SX P) ::
(nat_lit 121,RB P) ::
(nat_lit 122,R6 P) ::
(nat_lit 126,Tz P) ::
(nat_lit 127,V8 P) ::
(nat_lit 131,Vg P) ::
(nat_lit 132,R9 P) ::
(nat_lit 136,U7 P) ::
(nat_lit 137,Vs P) ::
(nat_lit 150,Su P) ::
(nat_lit 151,Ve P) ::
(nat_lit 157,Vf P) ::
(nat_lit 158,R7 P) ::
(nat_lit 164,Um P) ::
(nat_lit 165,QF P) ::
(nat_lit 171,Uo P) ::
(nat_lit 172,S6 P) ::
(nat_lit 178,SJ P) ::
(nat_lit 179,Rt P) ::
(nat_lit 181,Tn P) ::
(nat_lit 182,JM P) ::
(nat_lit 183,VF P) ::
(nat_lit 184,Td P) ::
(nat_lit 199,Tw P) ::
(nat_lit 200,Vm P) ::
(nat_lit 206,Qy P) ::
(nat_lit 207,Qi P) ::
(nat_lit 213,S7 P) ::
(nat_lit 214,RC P) ::
(nat_lit 220,RW P) ::
(nat_lit 221,V2 P) ::
(nat_lit 227,Q5 P) ::
(nat_lit 228,Vc P) ::
(nat_lit 230,Q8 P) ::
(nat_lit 231,UJ P) ::
(nat_lit 244,WQ P) ::
(nat_lit 245,Ri P) ::
(nat_lit 251,Vl P) ::
(nat_lit 252,UL P) ::
(nat_lit 258,WD P) ::
(nat_lit 259,Vq P) ::
(nat_lit 265,Ui P) ::
(nat_lit 266,U8 P) ::
(nat_lit 272,Qc P) ::
(nat_lit 273,QB P) ::
(nat_lit 279,QG P) ::
(nat_lit 280,Sx P) ::
(nat_lit 284,Tu P) ::
(nat_lit 285,PX P) ::
(nat_lit 287,RZ P) ::
(nat_lit 288,RQ P) ::
(nat_lit 296,Vy P) ::
(nat_lit 297,R5 P) ::
(nat_lit 303,VD P) ::
(nat_lit 304,SN P) ::
(nat_lit 308,RG P) ::
(nat_lit 309,WN P) ::
(nat_lit 313,RD P) ::
(nat_lit 314,Sh P) ::
(nat_lit 323,RX P) ::
(nat_lit 324,Ih P) ::
(nat_lit 325,V6 P) ::
(nat_lit 326,VN P) ::
(nat_lit 341,Qk P) ::
(nat_lit 342,Ra P) ::
(nat_lit 348,U5 P) ::
(nat_lit 349,Vz P) ::
(nat_lit 355,Rz P) ::
(nat_lit 356,UW P) ::
(nat_lit 358,Vp P) ::
(nat_lit 359,VP P) ::
(nat_lit 374,Us P) ::
(nat_lit 375,Ph P) ::
(nat_lit 381,QW P) ::
(nat_lit 382,R8 P) ::
(nat_lit 388,Ug P) ::
(nat_lit 389,Pb P) ::
(nat_lit 391,Rb P) ::
(nat_lit 392,RN P) ::
(nat_lit 407,Q0 P) ::
(nat_lit 408,Ub P) ::
(nat_lit 414,QC P) ::
(nat_lit 415,Vr P) ::
(nat_lit 421,Px P) ::
(nat_lit 422,Qq P) ::
(nat_lit 424,WX P) ::
(nat_lit 425,WP P) ::
(nat_lit 436,Th P) ::
(nat_lit 437,Hn P) ::
(nat_lit 438,Qj P) ::
(nat_lit 439,Uz P) ::
(nat_lit 454,WF P) ::
(nat_lit 455,Ss P) ::
(nat_lit 457,Rk P) ::
(nat_lit 458,VR P) ::
(nat_lit 473,Qh P) ::
(nat_lit 474,TQ P) ::
(nat_lit 480,W4 P) ::
(nat_lit 481,V1 P) ::
(nat_lit 483,QQ P) ::
(nat_lit 484,Qf P) ::
(nat_lit 499,Rm P) ::
(nat_lit 500,Va P) ::
(nat_lit 504,U9 P) ::
(nat_lit 505,V0 P) ::
(nat_lit 507,V7 P) ::
(nat_lit 508,SQ P) ::
(nat_lit 516,Ut P) ::
(nat_lit 517,Ua P) ::
(nat_lit 523,WL P) ::
(nat_lit 524,VV P) ::
(nat_lit 528,Rr P) ::
(nat_lit 529,TV P) ::
(nat_lit 533,QH P) ::
(nat_lit 534,Sw P) ::
(nat_lit 538,RL P) ::
(nat_lit 539,Tc P) ::
(nat_lit 545,Ul P) ::
(nat_lit 546,RV P) ::
(nat_lit 550,Uh P) ::
(nat_lit 551,Rq P) ::
(nat_lit 557,Vo P) ::
(nat_lit 558,Rf P) ::
(nat_lit 564,Vd P) ::
(nat_lit 565,Ql P) ::
(nat_lit 571,V5 P) ::
(nat_lit 572,WW P) ::
(nat_lit 578,Pu P) ::
(nat_lit 579,U4 P) ::
(nat_lit 585,V3 P) ::
(nat_lit 586,Rv P) ::
(nat_lit 613,V9 P) ::
(nat_lit 614,VM P) ::
(nat_lit 620,Up P) ::
(nat_lit 621,Uk P) ::
(nat_lit 625,UV P) ::
(nat_lit 626,Pr P) ::
(nat_lit 630,Vi P) ::
(nat_lit 631,Pq P) ::
(nat_lit 635,Q6 P) ::
(nat_lit 636,Qn P) ::
(nat_lit 640,Uc P) ::
(nat_lit 641,Sy P) ::
(nat_lit 645,Tv P) ::
(nat_lit 646,W2 P) ::
(nat_lit 652,Vk P) ::
(nat_lit 653,Q3 P) ::
(nat_lit 659,Uu P) ::
(nat_lit 660,VJ P) ::
(nat_lit 664,Vv P) ::
(nat_lit 665,Vt P) ::
(nat_lit 669,Ux P) ::
(nat_lit 670,VL P) ::
(nat_lit 676,Q4 P) ::
(nat_lit 677,Vj P) ::
(nat_lit 681,Sg P) ::
(nat_lit 682,Qz P) ::
(nat_lit 688,Rg P) ::
(nat_lit 689,RJ P)::[]
def PL:List Addr:=2::3::20::21::30::31::32::43::44::55::56::64::65::71::72::78::79::85::86::92::93::99::100::106::107::111::112::116::117::121::122::126::127::131::132::136::137::150::151::157::158::164::165::171::172::178::179::181::182::183::184::199::200::206::207::213::214::220::221::227::228::230::231::244::245::251::252::258::259::265::266::272::273::279::280::284::285::287::288::296::297::303::304::308::309::313::314::323::324::325::326::341::342::348::349::355::356::358::359::374::375::381::382::388::389::391::392::407::408::414::415::421::422::424::425::436::437::438::439::454::455::457::458::473::474::480::481::483::484::499::500::504::505::507::508::516::517::523::524::528::529::533::534::538::539::545::546::550::551::557::558::564::565::571::572::578::579::585::586::613::614::620::621::625::626::630::631::635::636::640::641::645::646::652::653::659::660::664::665::669::670::676::677::681::682::688::689::[]
theorem BZ:∀ P,PL=(wC P).map (·.1):=fun _=>by kernel_rfl
def vw:Program:={ PySem.Challenge.pw_lidprice_k85_written with main:={ (PySem.Challenge.pw_lidprice_k85_written).main with body:=[top 0,top 2,top 3,top 4,top 6,top 7,top 8,top 9,top 10,top 11,top 12,top 14,top 15,top 16,top 17,top 18,top 19,top 20,top 21,top 23,top 24,top 25,top 26,top 27,top 28,top 29,top 30,top 31,top 32,top 33,top 35,top 36,top 37,top 38,top 39,top 40,top 42,top 43,top 44,top 45,top 47,top 48,top 49,top 50,top 51,top 52,top 53,top 55,top 56,top 57,top 58,top 59,top 60,top 61,top 62,top 63,top 64,top 65,top 66,top 67,top 68,top 69,top 70,top 71,top 72,top 73,top 74,top 75,top 76] } }
def xtK (s:Shared):Bool:=W.xlAt vw [] s&&W.recOk (W.RowW.records (W.OpenRow.toRowW (W.OpenLaw.row PySem.Challenge.rw_lidprice_k85_written))) s
theorem Py:W.LeftO PySem.Challenge.pw_lidprice_k85_written vw [] xtK (W.Hook.obs (W.kHook wC PL BZ)) (W.Hook.val (W.kHook wC PL BZ)) 11436 :=
 L2.Hw (Tb:=t0) (Tf:=t4) (nf:=690) (kf:=1059) (env:=xY) (C:=jH) (gs:=gs) (m0:=11) (ann:=(some (.ref 6))) (by kernel_rfl) (by decide) (fun _=>by kernel_rfl) (fun _=>by kernel_rfl) Zg YT (c:=1462+(1425+(1339+(1133+(2))))) (fun w os=>L2.rM (aAA w os) (L2.rM (Yi w os) (L2.rM (Xw w os) (L2.rM (aBy w os) (YW w os))))) (by decide) (fun _=>by kernel_rfl)
end
end K85
open PySem PySem.W PyProof.Rows
set_option maxRecDepth 100000 in
set_option maxHeartbeats 0 in
theorem PySem.Challenge.cw_lidprice_k85_written_holds : PySem.Challenge.rw_lidprice_k85_written.Holds := by
 w_on
 refine PySem.W.holds_law K85.Tt fun said=>?_;refine PySem.W.holds_open (N:=11436) (q:=K85.vw) (loose:=[]) (Xt:=K85.xtK) (XP:=PySem.W.XL K85.vw [])
  (Yf:=PySem.W.Hook.obs (PySem.W.kHook K85.wC K85.PL K85.BZ)) (Ya:=PySem.W.Hook.val (PySem.W.kHook K85.wC K85.PL K85.BZ))
  (YP:=PySem.W.Hook.says (PySem.W.kHook K85.wC K85.PL K85.BZ)) K85.Py
  (PySem.W.Hook.of _) (PySem.W.Hook.keeps _) (fun s e=>PySem.W.xl_of s (aHX.mp e).1) PySem.W.XL.keeps
  (by rfl) (by rfl) (by rfl) (fun s e=>PySem.W.recFacts_of (aHX.mp e).2)
  (by rfl) (by first | assumption | decide +kernel) (by decide +kernel)
  ⟨rfl,rfl,rfl,rfl,rfl,by decide +kernel⟩ ?hw ?hc
 case hw=>w_witness2
 k_fill
 refine K85.walk (l:=PySem.Challenge.rw_lidprice_k85_written) rfl rfl rfl (fun w h Y=>by first | exact PySem.W.kIn_of Y | exact PySem.W.km_in_of Y) ?F
 case F =>
  intro w mg fa h KX G hmg;apply K85.Oo (cR:=111) (Pt:=109) KX G hmg
  all_goals first | k_is | kit_is | exact ⟨by k_is,L2.Hx (by k_is) (by k_is) (by k_is)⟩ | exact ⟨by k_is,by k_is,L2.Hx (by k_is) (by k_is) (by k_is)⟩ | (refine ⟨⟨?_,?_,?_,?_⟩,⟨?_,?_,?_,?_⟩,?_,?_,?_,?_,?_,?_,?_,?_,?_,?_,?_⟩ <;> first | k_is | kit_is | kernel_rfl | (unfold L2.bT; kernel_rfl) | decide) | (refine ⟨?_,?_,?_,?_,?_,?_,?_,?_,?_⟩ <;> first | k_is | kit_is | kernel_rfl | (unfold L2.bT; kernel_rfl) | decide) | (refine ⟨?_,?_,?_,?_,?_⟩ <;> first | k_is | kit_is | kernel_rfl | (unfold L2.bT; kernel_rfl) | decide) | (refine ⟨?_⟩ <;> first | k_is | kit_is | kernel_rfl | (unfold L2.bT; kernel_rfl) | decide) | (refine TD.CN.of ?_ ?_ <;> first | k_is | kit_is | kernel_rfl | (unfold L2.bT; kernel_rfl) | decide) | (refine ⟨?_,?_,⟨?_,?_,?_,?_⟩,⟨?_,?_,?_,?_⟩,⟨?_,?_,?_,?_⟩,?_,?_,?_,?_,?_,?_,?_,?_,?_,?_,?_,?_⟩ <;> first | k_is | kit_is | kernel_rfl | (unfold L2.bT; kernel_rfl) | decide) | (refine ⟨?_,?_,⟨⟨?_,?_,?_,?_⟩,?_,?_⟩,⟨⟨?_,?_,?_,?_⟩,?_,?_⟩,⟨⟨?_,?_,?_,?_⟩,?_,?_⟩,?_,?_,?_,?_,?_,?_,?_,?_,?_,?_,?_,?_,?_,?_,?_,?_⟩ <;> first | k_is | kit_is | kernel_rfl | (unfold L2.bT; kernel_rfl) | decide) | (refine ⟨?_,?_,?_⟩ <;> first | k_is | kit_is | kernel_rfl | (unfold L2.bT; kernel_rfl) | decide) | kernel_rfl | exact rfl | decide
